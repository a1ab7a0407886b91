import PyProof.Rows.All
import Wide.All
import OpenK.AllK
import Wide.FinOn
import Lean
import PyProof.EqAt
import PyProof.EqKinds
import PyProof.TupleCall
import PySem.Challenge.RW_pacehall_k78_bars_both_ways
set_option Elab.async false
set_option linter.all false
set_option maxRecDepth 100000
set_option maxHeartbeats 0
open List (mem_cons_self mem_cons_of_mem mem_append_left mem_append_right length_cons map_cons length_map append_nil of_mem_zip length_take getElem?_append_right getElem?_append_left getElem?_map mem_of_getElem? length_append size_toArray length_drop any_cons replicate_succ foldl_cons length_singleton map_nil find?_cons cons_append getElem_mem getElem?_eq_getElem forIn_cons lookup_cons mem_cons not_mem_nil take_length all_eq_true getElem_of_mem forIn_nil nodup_cons nodup_nil getElem?_eq_none length_zip length_range take_add_one mem_of_mem_take mem_of_mem_drop map_map sum_cons all_map map_append map_take any_eq_true)
namespace QL
def My:=@PySem.wpAny_bind
def Ow:=@List.getElem?_eq_getElem
def Ox:=@PySem.Heap.get?_push_of_some
def Oy:=@List.getElem?_eq_some_iff
def Oz:=@PySem.wpAny_pure
def OA:=@PySem.Heap.lt_size
def OB:=@List.length_map
def OC:=@Nat.le_refl
def OD:=@PySem.Heap.get?_push_size
def OE:=@List.mem_singleton
def OF:=@Option.map_eq_some_iff
def OG:=@decide_eq_true
def OH:=@List.mem_cons_of_mem
def OI:=@Int.toNat_natCast
def OJ:=@List.not_mem_nil
def OK:=@Ne.symm
def OL:=@List.getElem?_map
def OM:=@decide_eq_false
def ON:=@List.mem_cons_self
def OO:=@List.mem_map
def OP:=@Bool.false_ne_true
def OQ:=@List.mem_append
def OR:=@List.length_append
def OS:=@Nat.ne_of_lt
def OT:=@Int.eq_ofNat_of_zero_le
def OU:=@List.mem_cons
def OV:=@PySem.PassesOwn.never
def OW:=@Nat.lt_of_lt_of_le
def OX:=@List.mem_of_getElem?
def OY:=@PySem.Heap.get?_update_other
def OZ:=@PySem.wpAny_seqItems
def O0:=@List.size_toArray
def O1:=@Option.some.inj
def O2:=@if_neg
def O3:=@Int.mul_le_mul_of_nonneg_right
def O4:=@PySem.F.plainAttrs_list
def O5:=@PySem.Heap.size_push
def O6:=@or_false
def O7:=@List.getElem?_append_right
def O8:=@List.length_take
def O9:=@PySem.W.mg_of
def Pa:=@List.length_range
def Pb:=@PySem.wpAny_field
def Pc:=@PyProof.Rows.callWith_type1
def Pd:=@if_pos
def Pe:=@of_decide_eq_true
def Pf:=@PySem.Heap.get?_update_self
def Pg:=@PySem.wpAny_setField_rec
def Ph:=@List.length_cons
def Pj:=@List.getElem?_append_left
def Pk:=@Nat.lt_irrefl
def Pl:=@Int.emod_lt_of_pos
def Pm:=@List.mem_append_right
def Pn:=@Nat.ne_of_gt
def Po:=@Int.zero_add
def Pp:=@Nat.le_add_right
def Pq:=@List.eq_nil_of_length_eq_zero
def Pr:=@PySem.wpAny_callSpecial?_slot
def Pt:=@PySem.F.type_list_append
def Pu:=@PySem.F.slot_list_append
def Pw:=@List.mem_filter
def Px:=@Int.emod_nonneg
def Py:=@List.mem_range
def Pz:=@List.map_append
def PB:=@List.map_cons
def PC:=@List.mem_of_mem_take
def PD:=@Nat.zero_le
def PF:=@List.map_map
def PJ:=@Nat.le_trans
def PL:=@Nat.lt_succ_self
def PM:=@Int.mul_le_mul_of_nonneg_left
def PN:=@Option.isSome_iff_exists
def PQ:=@Int.mul_comm
def PR:=@PySem.F.slot_zip_next
def PU:=@List.length_singleton
def PV:=@PySem.wpAny_letGo
def PX:=@PySem.W.mg_none_of
def PY:=@List.findIdx?_eq_some_iff_getElem
def PZ:=@Bool.eq_iff_iff
def P0:=@List.length_drop
def P1:=@PySem.wpAny_updateSeq
def P2:=@PySem.wpAny_holding
def P4:=@PySem.Around.under_plainId
def P5:=@PySem.wpAny_call_entry
def P6:=@List.take_length
def P7:=@List.getElem_mem
def P8:=@PySem.wpAny_truthy_bool
def P9:=@PySem.wpAny_newObj_type
def Qa:=@Bool.false_eq_true
def Qb:=@Int.mul_assoc
def Qc:=@Int.toNat_of_nonneg
def Qd:=@PySem.wpAny_tryCatch
def Qe:=@List.nodup_cons
def Qf:=@PySem.wpAny_pyIter_list
def Qg:=@List.getD_eq_getElem?_getD
def Qh:=@List.mem_of_mem_drop
def Qi:=@List.all_eq_true
def Qj:=@Int.mul_le_mul
def Qk:=@congrArg
def Ql:=@PySem.wpAny_onRaise
def Qm:=@PySem.wpAny_Call_Name_kw
def Qn:=@PySem.plainId_quiet
def Qo:=@beq_eq_false_iff_ne
def Qp:=@List.mem_append_left
def Qq:=@PySem.codeAny_builtin
def Qr:=@Bool.and_eq_true
def Qs:=@List.take_add_one
def Qt:=@List.take_of_length_le
def Qu:=@List.getElem?_eq_none
def Qv:=@List.replicate_succ
def Qw:=@List.getElem_of_mem
def Qx:=@PySem.F.plain_min_loop
def Qy:=@PySem.F.plain_max_loop
def Qz:=@not_false_eq_true
def QA:=@decide_eq_true_eq
def QB:=@List.lookup_cons
def QC:=@PySem.wpAny_passesOwn
def QD:=@PySem.F.plain_extend_loop
def QE:=@List.getElem?_zip_eq_some
def QF:=@Bool.false_and
def QG:=@Array.getElem?_eq_getElem
def QH:=@PySem.mem_of_lookup
def QI:=@List.length_pos_iff
def QJ:=@Int.add_mul
def QK:=@PySem.F.args_zip_next_1
def QL:=@PySem.F.slot_tuple_iterator_next
def QM:=@PySem.F.slot_tuple_hash
def QN:=@Option.map_some
def QO:=@Nat.min_eq_left
def QP:=@List.getElem?_replicate
def QQ:=@Int.ediv_ediv_of_nonneg
def QR:=@PySem.F.entry_zip_next
def QS:=@List.of_mem_zip
def QT:=@List.forIn_cons
def QU:=@not_or
def QV:=@List.drop_of_length_le
def QW:=@PyProof.Rows.slot_tuple_getitem
def QX:=@Nat.lt_succ_of_lt
def QY:=@Nat.le_succ
def QZ:=@List.flatten_cons
def Q0:=@List.nodup_nil
def Q5:=@if_false
def Q6:=@Int.mul_nonneg
def Q7:=@PySem.wpAny_specialOf
def Q8:=@PySem.W.kia_one
def Q9:=@Nat.le_of_lt
def Ra:=@List.mem_iff_getElem?
def Rb:=@List.length_replicate
def Rc:=@List.length_filter_le
def Rf:=@if_true
def Rg:=@List.length_zip
def Rh:=@List.append_nil
def Ri:=@Nat.mul_le_mul_right
def Rj:=@PySem.wpAny_rule
def Rk:=@Option.some_ne_none
def Rl:=@Nat.not_lt_zero
def Rm:=@List.flatMap_append
def Rn:=@Int.natCast_mul
def Ro:=@Int.mul_one
def Rp:=@Array.length_toList
def Rq:=@PySem.wpAny_pyIter_zip
def Rr:=@Nat.lt_trans
def Rt:=@List.filter_append
def Ru:=@Int.zero_mul
def Rv:=@PySem.wpAny_attempt
def Rw:=@List.foldl_cons
def Rx:=@Classical.byContradiction
def Ry:=@List.any_eq_true
def Rz:=@PySem.F.type_list_extend
def RA:=@PySem.F.slot_list_extend
def RB:=@PySem.F.args_tuple_add_2
def RC:=@List.nodup_append
def RD:=@PySem.F.entry_tuple_add
def RE:=@Bool.true_and
def RF:=@PySem.tupleKind_room_in1
def RG:=@decide_eq_decide
def RH:=@PySem.codeAny_mono
def RI:=@Nat.min_eq_right
def RJ:=@List.zipIdx_cons
def RK:=@PySem.Calls.spliced_cons
def RL:=@PySem.F.slot_tuple_add
def RM:=@List.zipWith_cons_cons
def RN:=@List.forIn_nil
def RO:=@List.find?_cons
def RP:=@PySem.wpAny_mono
def RQ:=@PySem.F.slot_dict_get
def RS:=@List.zipIdx_nil
def RT:=@List.cons.injEq
def RU:=@Int.emod_add_mul_ediv
def RV:=@PySem.Calls.spliced_nil
def RW:=@List.cons_append
def RX:=@beq_iff_eq
def RY:=@PySem.Moved.trans
def RZ:=@List.getElem?_set_ne
def R0:=@PySem.wpAny_isInstance
def R1:=@List.take_succ
def R3:=@PySem.Heap.size_update
def R4:=@List.filterMap_cons
def R5:=@PySem.Calls.callWith_builtin
def R6:=@PySem.wpAny_execs_nil
def R7:=@List.map_drop
def R8:=@Bool.and_true
def R9:=@PySem.call_meets
def Sa:=@PySem.Walks.list
def Sb:=@PySem.wpAny_updateSeq_pair
def Sd:=@Option.isSome_map
def Se:=@List.flatMap_cons
def Sf:=@List.all_eq_false
def Sg:=@Int.emod_eq_of_lt
def Sh:=@PySem.Heap.get?_none_of_le
def Si:=@List.map_nil
def Sj:=@PySem.wpAny_comprehension_free
def Sk:=@Nat.succ.inj
def Sl:=@Nat.le_total
def Sm:=@PySem.Moved.drop_new
def So:=@Int.pow_succ
def Sq:=@Option.getD_none
def Sr:=@Nat.le_of_not_lt
def Ss:=@List.map_fst_zip
def Su:=@List.getElem_inj
def Sv:=@PySem.Heap.SameBut.update
def Sw:=@List.map_take
def Sx:=@PySem.wpAny_standAt
def Sy:=@List.nil_append
def Sz:=@Int.one_mul
def SA:=@Bool.or_eq_true
end QL
open QL
namespace L2
open PySem PySem.Spec PyProof.Rows
abbrev Key:=Sum Int Str
def sm:Key->Value->Bool
 | .inl k,v=>Value.isInt k v
 | .inr x,v=>Value.isStrOf x v
def NY(w:World):Key->Int
 | .inl k=>hashInt k
 | .inr x=>hashStr w x
theorem bj:∀ {k:Key}{v:Value},sm k v=true->(∃ i t,k=Sum.inl i/\v=Value.int i t)\/(∃ x t,k=Sum.inr x/\v=Value.str x t)
 | .inl i,v,h=>by
  obtain⟨t,e⟩:=Value.isInt_shape (k:=i) (v:=v) h;exact .inl ⟨i,t,rfl,e⟩
 | .inr x,v,h=>by
  obtain⟨t,e⟩:=Value.isStrOf_shape (x:=x) (v:=v) h;exact .inr ⟨x,t,rfl,e⟩
theorem ye(i:Int)(t:Tok):sm (.inl i) (.int i t)=true:=by simp [sm,Value.isInt]
theorem yd(x:Str)(t:Tok):sm (.inr x) (.str x t)=true:=by simp [sm,Value.isStrOf]
theorem JR(a b:Int):decide ((Sum.inl a:Key)=Sum.inl b)=(a == b):=by
 by_cases e:a=b
 ·subst e;simp
 ·have h:¬ (Sum.inl a:Key)=Sum.inl b:=λ q=>e (Sum.inl.inj q);rw [OM h];exact(Qo.mpr e).symm
theorem JO(a b:Str):decide ((Sum.inr a:Key)=Sum.inr b)=decide (a=b):=by
 by_cases e:a=b
 ·subst e;simp
 ·have h:¬ (Sum.inr a:Key)=Sum.inr b:=λ q=>e (Sum.inr.inj q);rw [OM h,OM e]
theorem JQ(a:Int)(b:Str):decide ((Sum.inl a:Key)=Sum.inr b)=false:=OM (λ q=>nomatch q)
theorem JP(a:Str)(b:Int):decide ((Sum.inr a:Key)=Sum.inl b)=false:=OM (λ q=>nomatch q)
def bT(prog:Program)(w:World):PySem.KeyKind prog w Key where
 is:=sm
 hash:=NY w
 inj:=λ v a b ha hb=>by
  rcases bj ha with ⟨i,t,rfl,rfl⟩|⟨x,t,rfl,rfl⟩
  ·rcases bj hb with ⟨j,u,rfl,e⟩|⟨y,u,rfl,e⟩
   ·injection e with e1 _;rw [e1]
   ·exact nomatch e
  ·rcases bj hb with ⟨j,u,rfl,e⟩|⟨y,u,rfl,e⟩
   ·exact nomatch e
   ·injection e with e1 _;rw [e1]
 byValue:=λ k v h=>by
  rcases bj h with ⟨i,t,rfl,rfl⟩|⟨x,t,rfl,rfl⟩<;>rfl
 pyHash:=λ hv h=>by
  rcases bj hv with ⟨i,t,rfl,rfl⟩|⟨x,t,rfl,rfl⟩
  ·exact wpAny_pyHash_int h
  ·exact wpAny_pyHash_str h
 eqBool:=λ hu hv h=>by
  rcases bj hu with ⟨i,t,rfl,rfl⟩|⟨x,t,rfl,rfl⟩
  ·rcases bj hv with ⟨j,u,rfl,rfl⟩|⟨y,u,rfl,rfl⟩
   ·rw [JR] at h;exact wpAny_eqBool_int h
   ·rw [JQ] at h;exact SeqAt.EqAt.int_str i t y u _ _ _ _ h
  ·rcases bj hv with ⟨j,u,rfl,rfl⟩|⟨y,u,rfl,rfl⟩
   ·rw [JP] at h;exact SeqAt.EqAt.str_int x t j u _ _ _ _ h
   ·rw [JO] at h;exact wpAny_eqBool_str h
 «strs»:=λ k x t v h=>by
  rcases bj h with ⟨i,u,rfl,e⟩|⟨y,u,rfl,e⟩
  ·exact nomatch e
  ·injection e with e1 _
   subst e1
   cases v<;>rfl
theorem qi(prog:Program)(w:World)(i:Int)(t:Tok):(bT prog w).is (.inl i) (.int i t)=true:=ye i t
theorem qh(prog:Program)(w:World)(x:Str)(t:Tok):(bT prog w).is (.inr x) (.str x t)=true:=yd x t
inductive V where
 | non|bl (b:Bool)|int (i:Int)|str (x:Str)|byt (b:Array UInt8)|flt (b:UInt64)|ref (a:Addr)|ty (n:String)
 deriving DecidableEq
def bF:V->Value->Prop
 | .non,u=>u=Value.none
 | .bl b,u=>u=Value.bool b
 | .int i,u=>∃ t,u=Value.int i t
 | .str x,u=>∃ t,u=Value.str x t
 | .byt b,u=>∃ t,u=Value.bytes b t
 | .flt b,u=>∃ t,u=Value.float b t
 | .ref a,u=>u=Value.ref a
 | .ty n,u=>u=Value.type n
abbrev aU:List V->List Value->Prop:=Paired bF
theorem aU.length{xs:List V}{us:List Value}(r:aU xs us):xs.length=us.length:=Paired.length r
theorem aU.get:∀ {xs:List V}{us:List Value}{i:Nat}{x:V},aU xs us->xs[i]? = some x->∃ u,us[i]? = some u/\bF x u
 | _,_,_,_,.nil,e=>by simp at e
 | _,_,0,_,.cons r _,e=>by simp at e;subst e;exact⟨_,rfl,r⟩
 | _,_,i+1,x,.cons _ t,e=>by
  obtain⟨u,h1,h2⟩:=aU.get (i:=i) (x:=x) t (by simpa using e);exact⟨u,by simpa using h1,h2⟩
theorem aU.set{x:V}{u:Value}(r:bF x u):∀ {xs:List V}{us:List Value}(i:Nat),aU xs us->aU (xs.set i x) (us.set i u)
 | _,_,_,.nil=>.nil
 | _,_,0,.cons _ t=>.cons r t
 | _,_,i+1,.cons q t=>.cons q (aU.set r i t)
theorem aU.append:∀ {xs ys:List V}{us ws:List Value},aU xs us->aU ys ws->aU (xs++ys) (us++ws)
 | _,_,_,_,.nil,s=>s
 | _,_,_,_,.cons r t,s=>.cons r (aU.append t s)
theorem aU.take:∀ {xs:List V}{us:List Value}(n:Nat),aU xs us->aU (xs.take n) (us.take n)
 | _,_,0,_=>.nil
 | _,_,_+1,.nil=>.nil
 | _,_,n+1,.cons r t=>.cons r (aU.take n t)
theorem aU.drop:∀ {xs:List V}{us:List Value}(n:Nat),aU xs us->aU (xs.drop n) (us.drop n)
 | _,_,0,r=>r
 | _,_,_+1,.nil=>.nil
 | _,_,n+1,.cons _ t=>aU.drop n t
def mI:Option V->Option Value->Prop
 | some v,some u=>bF v u
 | none,none=>True
 | _,_=>False
def KV{κ:Type}:List (κ × V)->List (κ × Value)->Prop:=Paired λ (p:κ × V) (q:κ × Value)=>p.1=q.1/\bF p.2 q.2
def kV:Key->V
 | .inl i=>.int i
 | .inr x=>.str x
inductive HO where
 | lst (xs:List V)
 | tup (xs:List V)
 | dK (kvs:List (Key × V))|dT (kvs:List (List Key × V))
 | set (S:Int->Bool) (n:Nat)
 | ins (C dx:Addr) (fs:List (Str × V))
 | own (x:Addr)
 | xd (fs:List (Str × V))
 | met (f x:Addr)
 | rng (lo hi:Int)
 | frz (o:Obj) (u:HO)
 | tbl (ps:Array Value)
 | ext (φ:Heap->Prop)
abbrev Hp:=Addr->Option HO
def upd(H:Hp)(a:Addr)(o:HO):Hp:=λ b=>if b=a then some o else H b
theorem aq{H:Hp}{a:Addr}{o:HO}:upd H a o a=some o:=by unfold upd;rw [if_pos rfl]
theorem af{H:Hp}{a b:Addr}{o:HO}(h:b ≠ a):upd H a o b=H b:=by unfold upd;rw [if_neg h]
theorem Df{H:Hp}{a:Addr}{o u:HO}:upd (upd H a o) a u=upd H a u:=by
 funext b;unfold upd;split<;>rfl
theorem Lp{H:Hp}{a b:Addr}{o u:HO}(h:H a=some o)(h':H b=some u)(d:o ≠ u):a ≠ b:=by
 intro e;subst e;rw [h] at h';exact d (O1 h')
theorem bW{H:Hp}{a b:Addr}{o:HO}(h:H a=some o)(h':H b=none):a ≠ b:=by
 intro e;subst e;rw [h] at h';cases h'
section
variable (P:Program)(w:World)
def bM(H:Hp)(h:Heap)(a:Addr):HO->Prop
 | .lst xs=>xs.length<=sizeLine/\∃ (its:List Value) (n:Nat),aU xs its/\h.get? a=some { cls:=.type "list",data:=.seq its.toArray n }
 | .tup xs=>xs.length<=sizeLine/\∃ its:List Value,aU xs its/\IsTup h a its.toArray
 | .dK kvs=>kvs.length<=sizeLine/\(a == sysModules)=false/\∃ vs,KV kvs vs/\h.DictOf (bT P w) a vs
 | .dT kvs=>kvs.length<=sizeLine/\(a == sysModules)=false/\∃ xs:List (List Key × Addr × Value),
   Paired (λ (p:List Key × V) (q:List Key × Addr × Value)=>p.1=q.1/\H q.2.1=some (.tup (p.1.map kV))/\bF p.2 q.2.2) kvs xs /\
   ∃ o es ep,h.get? a=some o/\o.ExactDict/\o.data=.dict es ep/\es.toList=xs.map (entryOfKey (tupleKind (bT P w)))/\(xs.map (·.1)).Nodup
 | .set S n=>h.SetOf (intKind P w) a S n
 | .ins C dx fs=>H dx=some (.own a)/\fs.length<=1000/\dx ≠ a/\h.get? a=some (W.instObj C dx) /\
   ∃ mA,h.Ns1 dx mA/\(∀ f,mI (fs.lookup f) (mA f))/\PySem.Within mA (fs.map (·.1))
 | .own _=>∃ o,h.get? a=some o
 | .xd fs=>∃ mA,h.Ns1 a mA/\∀ f,mI (fs.lookup f) (mA f)
 | .rng lo hi=>∃ t u v,h.get? a=some { cls:=.type "range",data:=.fields #[.int lo t,.int hi u,.int 1 v] }
 | .frz o u=>h.get? a=some o/\bM H h a u
 | .tbl ps=>h.get? a=some { cls:=.none,data:=.fields ps }
 | .met f x=>h.get? a=some (W.methodObj (.ref f) (.ref x))
 | .ext φ=>φ h/\(∃ o,h.get? a=some o)/\∀ h1 h2:Heap,φ h1->(∀ o,h1.get? a=some o->h2.get? a=some o)->φ h2
def HOk(H:Hp)(h:Heap):Prop:=∀ a o,H a=some o->bM P w H h a o
end
section
variable {P:Program}{w:World}{H H':Hp}{h h':Heap}{a:Addr}{o:HO}
theorem bM.lt(x:bM P w H h a o):a < h.objs.size:=by
 cases o with
 | lst xs=>obtain⟨_,_,_,_,e⟩:=x;exact OA e
 | tup xs=>obtain⟨_,_,_,p⟩:=x;exact p.lt
 | dK kvs=>obtain⟨_,_,_,_,o,_,_,e,_⟩:=x;exact OA e
 | dT kvs=>obtain⟨_,_,_,_,o,_,_,e,_⟩:=x;exact OA e
 | set S n=>obtain⟨o,_,_,_,e,_⟩:=x;exact OA e
 | ins C dx fs=>obtain⟨_,_,_,e,_⟩:=x;exact OA e
 | own y=>obtain⟨_,e⟩:=x;exact OA e
 | xd fs=>obtain⟨_,⟨_,_,_,e,_⟩,_⟩:=x;exact OA e
 | rng lo hi=>obtain⟨_,_,_,e⟩:=x;exact OA e
 | frz ob u=>obtain⟨e,_⟩:=x;exact OA e
 | tbl ps=>exact OA (show h.get? a=some _ from x)
 | met f y=>exact OA (show h.get? a=some _ from x)
 | ext φ=>obtain⟨_,⟨_,e⟩,_⟩:=x;exact OA e
theorem Paired.mapP{α β:Type}{F G:α->β->Prop}:∀ {l₁:List α}{l₂:List β},Paired F l₁ l₂->(∀ a b,F a b->G a b)->Paired G l₁ l₂
 | _,_,.nil,_=>.nil
 | _,_,.cons r t,f=>.cons (f _ _ r) (Paired.mapP t f)
theorem bM.stay(x:bM P w H h a o)(k:∀ b u,(b=a\/H b=some (.own a))->h.get? b=some u->h'.get? b=some u)
  (ho:∀ b,H b=some (.own a)->H' b=some (.own a)) (ht:∀ b xs,H b=some (.tup xs)->H' b=some (.tup xs)):bM P w H' h' a o:=by
 induction o with
 | lst xs=>obtain⟨z,its,n,r,e⟩:=x;exact⟨z,its,n,r,k _ _ (.inl rfl) e⟩
 | tup xs=>obtain⟨z,its,r,ob,e,c⟩:=x;exact⟨z,its,r,ob,k _ _ (.inl rfl) e,c⟩
 | dK kvs=>obtain⟨z,y,vs,r,ob,es,ep,e,c⟩:=x;exact⟨z,y,vs,r,ob,es,ep,k _ _ (.inl rfl) e,c⟩
 | dT kvs=>
  obtain⟨z,y,xs,r,ob,es,ep,e,c⟩:=x;exact⟨z,y,xs,Paired.mapP r λ p q z=>⟨z.1,ht _ _ z.2.1,z.2.2⟩,ob,es,ep,k _ _ (.inl rfl) e,c⟩
 | set S n=>obtain⟨ob,es,ep,t,e,c⟩:=x;exact⟨ob,es,ep,t,k _ _ (.inl rfl) e,c⟩
 | ins C dx fs=>
  obtain⟨d,z,ne,e,mA,⟨od,es,ep,e2,c⟩,r⟩:=x;exact⟨ho _ d,z,ne,k _ _ (.inl rfl) e,mA,⟨od,es,ep,k _ _ (.inr d) e2,c⟩,r⟩
 | own y=>obtain⟨ob,e⟩:=x;exact⟨ob,k _ _ (.inl rfl) e⟩
 | xd fs=>obtain⟨mA,⟨od,es,ep,e,c⟩,r⟩:=x;exact⟨mA,⟨od,es,ep,k _ _ (.inl rfl) e,c⟩,r⟩
 | rng lo hi=>obtain⟨t,u,v,e⟩:=x;exact⟨t,u,v,k _ _ (.inl rfl) e⟩
 | frz ob u ih=>obtain⟨e,q⟩:=x;exact⟨k _ _ (.inl rfl) e,ih q⟩
 | tbl ps=>
  have e:h.get? a=some { cls:=.none,data:=.fields ps }:=x
  show h'.get? a=some { cls:=.none,data:=.fields ps }
  exact k a _ (.inl rfl) e
 | met f y=>
  have e:h.get? a=some (W.methodObj (.ref f) (.ref y)):=x
  show h'.get? a=some (W.methodObj (.ref f) (.ref y))
  exact k a _ (.inl rfl) e
 | ext φ=>obtain⟨p,⟨o,e⟩,st⟩:=x;exact⟨st _ _ p λ o q=>k _ _ (.inl rfl) q,⟨o,k _ _ (.inl rfl) e⟩,st⟩
theorem HOk.lt(x:HOk P w H h)(e:H a=some o):a < h.objs.size:=(x a o e).lt
theorem HOk.fresh(x:HOk P w H h)(e:h.objs.size<=a):H a=none:=by
 cases q:H a with
 | none=>rfl
 | some u=>exact absurd (OW (x.lt q) e) (Pk _)
theorem HOk.kept(x:HOk P w H h)(k:∀ b u,h.get? b=some u->h'.get? b=some u):HOk P w H h':=λ a o e=>
 (x a o e).stay (λ b u _ q=>k b u q) (λ _ q=>q) λ _ _ q=>q
theorem HOk.laid(x:HOk P w H h)(k:∀ b u,h.get? b=some u->h'.get? b=some u)(hp:h.objs.size<=a)(new:bM P w (upd H a o) h' a o):HOk P w (upd H a o) h':=λ b u e=>by
 have hn:=x.fresh hp
 by_cases hb:b=a
 ·subst hb;rw [aq] at e;cases e;exact new
 ·rw [af hb] at e;exact(x b u e).stay (λ c v _ q=>k c v q) (λ c q=>by rw [af (bW q hn)];exact q) λ c xs q=>by rw [af (bW q hn)];exact q
end
def Rd(H:Hp)(a:Addr)(u:HO):Prop:=H a=some u\/∃ o,H a=some (.frz o u)
theorem Rd.ok{P:Program}{w:World}{H:Hp}{h:Heap}{a:Addr}{u:HO}(r:Rd H a u)(x:HOk P w H h):bM P w H h a u:=by
 rcases r with r|⟨o,r⟩
 ·exact x a u r
 ·obtain⟨_,q⟩:=x a _ r;exact q
def Mut:Option HO->Prop
 | some (.lst _)=>True
 | some (.dK _)=>True
 | some (.dT _)=>True
 | some (.set _ _)=>True
 | some (.ins _ _ _)=>True
 | some (.ext _)=>True
 | _=>False
section
variable {P:Program}{w:World}{H:Hp}{h h':Heap}{x e:Addr}{o':HO}
theorem HOk.write(ok:HOk P w H h)(mu:Mut (H x))(he:e=x\/H e=some (.own x))(k:∀ b u,b ≠ e->h.get? b=some u->h'.get? b=some u)(heo:∃ u,h'.get? e=some u)
  (new:bM P w (upd H x o') h' x o'):HOk P w (upd H x o') h':=λ b u q=>by
 have nown:∀ c y,H c=some (.own y)->c ≠ x:=λ c y r z=>by subst z;rw [r] at mu;exact mu
 have ntup:∀ c xs,H c=some (.tup xs)->c ≠ x:=λ c xs r z=>by subst z;rw [r] at mu;exact mu
 by_cases hb:b=x
 ·subst hb;rw [aq] at q;cases q;exact new
 ·rw [af hb] at q
  by_cases hbe:b=e
  ·have q':H b=some (.own x):=by
    rcases he with z|z
    ·exact absurd (hbe.trans z) hb
    ·rw [hbe];exact z
   rw [q] at q';cases q';obtain⟨v,hv⟩:=heo;exact⟨v,by rw [hbe];exact hv⟩
  ·refine(ok b u q).stay (λ c v hc r=>k c v ?_ r) (λ c r=>by rw [af (nown c b r)];exact r) λ c xs r=>by rw [af (ntup c xs r)];exact r
   rcases hc with rfl|hc
   ·exact hbe
   ·rintro rfl
    rcases he with z|z
    ·exact nown c b hc z
    ·rw [hc] at z;cases z;exact hb rfl
end
structure Un(fs ex:List Addr)(H H':Hp)(h h':Heap):Prop where
 keep:∀ b o,h.get? b=some o->H b=none->b ∉ fs->b ∉ ex->h'.get? b=some o
 slot:∀ b o,h.get? b=some o->H b=none->b∈fs->b ∉ ex->∃ sl,h'.get? b=some { o with slots:=sl }
 free:∀ b o,h.get? b=some o->H b=none->b ∉ ex->H' b=none
 there:∀ b o,h.get? b=some o->b ∉ ex->∃ o',h'.get? b=some o'
 tups:∀ b xs,H b=some (.tup xs)->H' b=some (.tup xs)
 frzs:∀ b o u,H b=some (.frz o u)->H' b=some (.frz o u)
 tbls:∀ b ps,H b=some (.tbl ps)->∃ more,H' b=some (.tbl (ps++more))
section
variable {fs fs' ex ex':List Addr}{H H1 H2:Hp}{h h1 h2 h':Heap}{a x e:Addr}{o:HO}
theorem Un.any(u:Un fs ex H H1 h h1){b:Addr}{ob:Obj}(q:h.get? b=some ob)(n:H b=none)(hx:b ∉ ex):∃ sl,h1.get? b=some { ob with slots:=sl }:=by
 by_cases hb:b∈fs
 ·exact u.slot b ob q n hb hx
 ·exact⟨ob.slots,u.keep b ob q n hb hx⟩
theorem Un.trans(a:Un fs ex H H1 h h1)(b:Un fs ex H1 H2 h1 h2):Un fs ex H H2 h h2 where
 keep:=λ c ob q n hc hx=>b.keep c ob (a.keep c ob q n hc hx) (a.free c ob q n hx) hc hx
 slot:=λ c ob q n hc hx=>by
  obtain⟨sl,e1⟩:=a.slot c ob q n hc hx;obtain⟨sl',e2⟩:=b.slot c _ e1 (a.free c ob q n hx) hc hx;exact⟨sl',e2⟩
 free:=λ c ob q n hx=>by
  obtain⟨o',e1⟩:=a.there c ob q hx;exact b.free c o' e1 (a.free c ob q n hx) hx
 there:=λ c ob q hx=>by
  obtain⟨o',e1⟩:=a.there c ob q hx;exact b.there c o' e1 hx
 tups:=λ c xs q=>b.tups c xs (a.tups c xs q)
 frzs:=λ c ob xs q=>b.frzs c ob xs (a.frzs c ob xs q)
 tbls:=λ c ps q=>by
  obtain⟨m1,e1⟩:=a.tbls c ps q;obtain⟨m2,e2⟩:=b.tbls c _ e1;exact⟨m1++m2,by rw [e2,Array.append_assoc]⟩
theorem Un.kept(k:∀ b u,h.get? b=some u->h'.get? b=some u):Un fs ex H H h h':=
 ⟨λ b ob q _ _ _=>k b ob q,λ b ob q _ _ _=>⟨ob.slots,k b ob q⟩,λ _ _ _ n _=>n,λ b ob q _=>⟨ob,k b ob q⟩,λ _ _ q=>q,λ _ _ _ q=>q,λ _ ps q=>⟨#[],by rw [q];simp⟩⟩
theorem Un.refl:Un fs ex H H h h:=Un.kept λ _ _ q=>q
theorem Un.laid(k:∀ b u,h.get? b=some u->h'.get? b=some u)(hp:h.objs.size<=a)(hn:H a=none):Un fs ex H (upd H a o) h h' where
 keep:=λ b u q _ _ _=>k b u q
 slot:=λ b u q _ _ _=>⟨u.slots,k b u q⟩
 free:=λ b u q n _=>by rw [af (OS (OW (OA q) hp))];exact n
 there:=λ b u q _=>⟨u,k b u q⟩
 tups:=λ b xs q=>by rw [af (bW q hn)];exact q
 frzs:=λ b u xs q=>by rw [af (bW q hn)];exact q
 tbls:=λ b ps q=>⟨#[],by rw [af (bW q hn),q];simp⟩
theorem Un.write(mu:Mut (H x))(he:e=x\/H e=some (.own x))(k:∀ b u,b ≠ e->h.get? b=some u->h'.get? b=some u)(heo:∃ u,h'.get? e=some u):Un fs ex H (upd H x o) h h':=by
 have hx:∀ b,H b=none->b ≠ x:=λ b n z=>by subst z;rw [n] at mu;exact mu
 have hb:∀ b,H b=none->b ≠ e:=λ b n z=>by
  subst z
  rcases he with r|r
  ·exact hx b n r
  ·rw [n] at r;cases r
 have hm:∀ b u,H b=some u->¬ Mut (some u)->b ≠ x:=λ b u q nm z=>by subst z;rw [q] at mu;exact nm mu
 refine⟨λ b u q n _ _=>k b u (hb b n) q,λ b u q n _ _=>⟨u.slots,k b u (hb b n) q⟩,λ b u q n _=>by rw [af (hx b n)];exact n,λ b u q _=>?_,
  λ b xs q=>by rw [af (hm b _ q λ z=>z)];exact q,λ b u xs q=>by rw [af (hm b _ q λ z=>z)];exact q,λ b ps q=>⟨#[],by rw [af (hm b _ q λ z=>z),q];simp⟩⟩
 by_cases hbe:b=e
 ·subst hbe;exact heo
 ·exact⟨u,k b u hbe q⟩
end
def trk(h:Heap)(H:Hp):List Addr:=(List.range h.objs.size).filter λ a=>(H a).isSome
def yN(h:Heap)(H:Hp):Heap:=W.hideAll h (trk h H)
theorem yj(h:Heap)(H:Hp):(yN h H).objs.size=h.objs.size:=W.hideAll_size _ _
theorem Ba{h:Heap}{H:Hp}{b:Addr}{o:Obj}(e:h.get? b=some o)(n:H b=none):(yN h H).get? b=some o:=
 W.hideAll_get _ e λ hm=>by
  have q:(H b).isSome=true:=(Pw.mp hm).2;rw [n] at q;simp at q
theorem DU{h:Heap}{H:Hp}{b:Addr}{o:Obj}(e:(yN h H).get? b=some o):h.get? b=some o/\H b=none:=by
 have e':h.get? b=some o:=W.of_hideAll (trk h H) e;refine⟨e',?_⟩
 cases q:H b with
 | none=>rfl
 | some x=>
  have hm:b∈trk h H:=Pw.mpr ⟨Py.mpr (OA e'),by simp [q]⟩;have z:(yN h H).get? b=none:=W.hideAll_none (trk h H) hm;rw [z] at e;cases e
def Gf(g h:Heap)(L:Addr):List (Addr × Obj):=(List.range h.objs.size).filterMap λ a=>if a=L\/(g.get? a).isSome=true then none else (h.get? a).map λ o=>(a,o)
def mM(g h:Heap)(L d:Addr):List (Addr × Obj):=(Gf g h L).filter λ p=>decide (p.1 ≠ d)
structure Mod(K:W.Frag)(mg:Str->Option Value)(base:Heap):Prop where
 kin:K.In base
 glob:base.Ns mainGlobals mg
 blt:∃ mb,base.Ns builtinsNs mb/\∀ x:Str,x ≠ "__name__" → mb x=bootBuiltins x
 nolimit:base.NoLimit
structure Cx where
 prog:Program
 w:World
 K:W.Frag
 mg:Str->Option Value
 base:Heap
 A:Around
 N:List Str
 s₀:Shared
 H₀:Hp
 env:Env
 outer:List Env
 stack:List Env
 ex:List Addr
 fn:Str->Bool
 calm:Bool
 pn:List (Addr × Obj)
 xe:Value->Shared->Prop
def frs(l:List Env):List Addr:=l.filterMap (·.frame)
abbrev Cx.fs(X:Cx):List Addr:=frs X.outer
def Vis(sc:Scope)(x:Str):Prop:=sc.names.lookup x=some .local\/sc.names.lookup x=some .cell\/sc.names.lookup x=some .free
def Loc(sc:Scope)(x:Str):Prop:=sc.names.lookup x=some .local\/sc.names.lookup x=some .cell
def Of(env:Env)(h:Heap)(m:Str->Option Value)(x:Str)(u:Value):Prop:=
 (env.kindOf x=some .local/\m x=some u)\/((env.kindOf x=some .cell\/env.kindOf x=some .free)/\∃ c,env.cells.lookup x=some c/\h.IsCell c (some u))
structure Cx.Ok(X:Cx):Prop where
 mod:Mod X.K X.mg X.base
 kind:X.env.scope.kind=.function
 glob:X.env.globals=mainGlobals
 blt:X.env.builtins=builtinsNs
 above:X.s₀.heap.objs.size<=X.env.locals
 inj:∀ x y c,X.env.cells.lookup x=some c->X.env.cells.lookup y=some c->x=y
 has:∀ x,(X.env.kindOf x=some .cell\/X.env.kindOf x=some .free)->∃ c,X.env.cells.lookup x=some c
 cab:∀ x c,X.fn x=true->X.env.cells.lookup x=some c->X.s₀.heap.objs.size<=c
 hd:X.calm=true->X.A.handled=none
 frames:X.A.frames=some X.stack
 stk:X.stack=X.outer\/(X.stack=X.env::X.outer/\X.env.frame=some X.env.locals)
 exf:∀ b∈X.ex,b ≠ X.env.locals/\∀ x c,X.env.cells.lookup x=some c->c ≠ b
 bs:∀ b o,X.base.get? b=some o->X.s₀.heap.get? b=some o/\X.H₀ b=none
 bsz:X.base.objs.size<=X.s₀.heap.objs.size
 noex:∀ b o,X.base.get? b=some o->b ∉ X.ex
 exfs:∀ b∈X.ex,b ∉ X.fs
 funs:X.s₀.heap.FunFrames X.base X.outer
 frf:∀ b∈X.fs,X.H₀ b=none
structure Inv(X:Cx)(pins:List (Addr × Obj))(σ:List (Option V))(H:Hp)(s:Shared):Prop where
 ok:X.Ok
 os:s.os=X.s₀.os
 bare:AllBare s.gens
 base:Un X.fs X.ex X.H₀ H X.s₀.heap s.heap
 loc:∃ m,s.heap.Ns X.env.locals m/\∀ (i:Nat) (x:Str) (v:V),X.N[i]? = some x->σ[i]? = some (some v)->Vis X.env.scope x->∃ u,bF v u/\Of X.env s.heap m x u
 cell:∀ x c,X.env.cells.lookup x=some c->∃ v,s.heap.IsCell c v
 free:H X.env.locals=none
 freeC:∀ x c,X.env.cells.lookup x=some c->H c=none
 pin:∀ p∈X.pn++pins,s.heap.get? p.1=some p.2/\H p.1=none/\p.1 ≠ X.env.locals/\p.1 ∉ X.fs/\∀ v,p.2.data ≠ .cell v
 hok:HOk X.prog X.w H s.heap
 len:σ.length=X.N.length
section
variable {X:Cx}{pins:List (Addr × Obj)}{σ:List (Option V)}{H H':Hp}{s:Shared}{h':Heap}
theorem Cx.Ok.nofr(ok:X.Ok){b:Addr}{o:Obj}(e:X.base.get? b=some o):b ∉ X.fs:=λ hb=>by
 have:=(ok.funs.mem hb).1;rw [e] at this;cases this
theorem Inv.bs(I:Inv X pins σ H s):∀ b o,X.base.get? b=some o->s.heap.get? b=some o/\H b=none:=λ b o e=>
 ⟨I.base.keep b o (I.ok.bs b o e).1 (I.ok.bs b o e).2 (I.ok.nofr e) (I.ok.noex b o e),I.base.free b o (I.ok.bs b o e).1 (I.ok.bs b o e).2 (I.ok.noex b o e)⟩
theorem Inv.bk(I:Inv X pins σ H s):∀ b o,X.base.get? b=some o->s.heap.get? b=some o:=λ b o e=>(I.bs b o e).1
theorem Inv.mod(I:Inv X pins σ H s):Mod X.K X.mg X.base:=I.ok.mod
theorem Inv.kIn(I:Inv X pins σ H s):X.K.In s.heap:=I.ok.mod.kin.keeps I.bk
theorem Inv.lt(I:Inv X pins σ H s):X.env.locals < s.heap.objs.size:=let ⟨_,hn,_⟩:=I.loc;hn.lt
theorem Inv.sz(I:Inv X pins σ H s):X.s₀.heap.objs.size<=s.heap.objs.size:=PJ I.ok.above (Q9 I.lt)
theorem Inv.nofs(I:Inv X pins σ H s){a:Addr}(h:s.heap.objs.size<=a):a ∉ X.fs:=λ hb=>by
 obtain⟨_,o,ho,_⟩:=I.ok.funs.mem hb;exact absurd (OW (OA ho) (PJ I.sz h)) (Pk _)
theorem Inv.cne(I:Inv X pins σ H s):∀ x c,X.env.cells.lookup x=some c->c ≠ X.env.locals:=λ x c e z=>by
 obtain⟨v,o,ho,hd⟩:=I.cell x c e;obtain⟨m,⟨o',es,ep,ho',hd',_⟩,_⟩:=I.loc;rw [z,ho'] at ho;cases ho;rw [hd'] at hd;cases hd
theorem Inv.funs(I:Inv X pins σ H s):s.heap.FunFrames X.base X.outer:=by
 have all:∀ (l:List Env),(∀ b∈frs l,b∈X.fs)->X.s₀.heap.FunFrames X.base l->s.heap.FunFrames X.base l:=by
  intro l
  induction l with
  | nil=>intro _ _;trivial
  | cons env r ih=>
   intro hs hl;obtain⟨hk,⟨L,o,hf,hn,ho,hd⟩,hr⟩:=hl;have hL:L∈X.fs:=hs L (by unfold frs;rw [List.filterMap_cons,hf];exact mem_cons_self);obtain⟨sl,e⟩:=I.base.slot L o ho (I.ok.frf L hL) hL λ z=>I.ok.exfs L z hL;exact⟨hk,⟨L,_,hf,hn,e,hd⟩,ih (λ b hb=>hs b (by unfold frs;rw [List.filterMap_cons,hf];exact mem_cons_of_mem _ hb)) hr⟩
 exact all X.outer (λ _ hb=>hb) I.ok.funs
theorem Inv.stack(I:Inv X pins σ H s):s.heap.FunFrames X.base X.stack:=by
 rcases I.ok.stk with e|⟨e,hf⟩
 ·rw [e];exact I.funs
 ·rw [e];obtain⟨m,hn,_⟩:=I.loc;refine .cons (by rw [I.ok.kind];decide) hf hn ?_ I.funs;exact Sh (PJ I.ok.bsz I.ok.above)
theorem Inv.stkSub(I:Inv X pins σ H s):∀ b∈frs X.stack,b∈X.env.locals::X.fs:=λ b hb=>by
 rcases I.ok.stk with e|⟨e,hf⟩
 ·rw [e] at hb;exact OH _ hb
 ·rw [e] at hb;unfold frs at hb;rw [List.filterMap_cons,hf] at hb;exact hb
theorem Inv.stkFree(I:Inv X pins σ H s):∀ b∈frs X.stack,H b=none:=λ b hb=>by
 rcases OU.mp (I.stkSub b hb) with e|hb
 ·rw [e];exact I.free
 ·obtain⟨_,o,ho,_⟩:=I.ok.funs.mem hb;exact I.base.free b o ho (I.ok.frf b hb) λ z=>I.ok.exfs b z hb
theorem Inv.step{g':Array GenState}{t':Nat}{d':Drawn}{ch:List Addr}(I:Inv X pins σ H s)
  (hch:∀ b∈ch,(b∈X.ex\/X.s₀.heap.objs.size<=b)/\b ≠ X.env.locals/\(∀ x c,X.env.cells.lookup x=some c->c ≠ b)/\∀ p∈X.pn++pins,p.1 ≠ b)
  (keep:∀ b o,b ≠ X.env.locals->b ∉ X.fs->b ∉ ch->s.heap.get? b=some o->H b=none->h'.get? b=some o)
  (slot:∀ b o,b ≠ X.env.locals->b∈X.fs->b ∉ ch->s.heap.get? b=some o->H b=none->∃ sl,h'.get? b=some { o with slots:=sl }) (free:∀ b o,b ∉ ch->s.heap.get? b=some o->H b=none->H' b=none)
  (there:∀ b o,b ∉ ch->s.heap.get? b=some o->∃ o',h'.get? b=some o')
  (tups:∀ b xs,H b=some (.tup xs)->H' b=some (.tup xs)) (frzs:∀ b o u,H b=some (.frz o u)->H' b=some (.frz o u)) (tbls:∀ b ps,H b=some (.tbl ps)->∃ more,H' b=some (.tbl (ps++more)))
  (ns:∀ m,s.heap.Ns X.env.locals m->h'.Ns X.env.locals m) (hok:HOk X.prog X.w H' h') (hg:AllBare g') :
  Inv X pins σ H' { s with heap:=h',gens:=g',drawn:=d',toks:=t' }:=by
 have neL:∀ b o,X.s₀.heap.get? b=some o->b ≠ X.env.locals:=λ b o e=>OS (OW (OA e) I.ok.above)
 have neC:∀ b o,X.s₀.heap.get? b=some o->b ∉ X.ex->b ∉ ch:=λ b o e hx hb=>by
  rcases (hch b hb).1 with z|z
  ·exact hx z
  ·exact absurd (OW (OA e) z) (Pk _)
 have cellK:∀ x c,X.env.cells.lookup x=some c->∀ v,s.heap.IsCell c v->h'.IsCell c v:=λ x c e v ⟨o,ho,hd⟩=>by
  have nch:c ∉ ch:=λ z=>(hch c z).2.2.1 x c e rfl
  by_cases hc:c∈X.fs
  ·obtain⟨sl,q⟩:=slot c o (I.cne x c e) hc nch ho (I.freeC x c e);exact⟨_,q,hd⟩
  ·exact⟨o,keep c o (I.cne x c e) hc nch ho (I.freeC x c e),hd⟩
 refine⟨I.ok,I.os,hg,⟨λ b o e n hb hx=>?_,λ b o e n hb hx=>?_,λ b o e n hx=>?_,λ b o e hx=>?_,λ b xs e=>tups b xs (I.base.tups b xs e),λ b o xs e=>frzs b o xs (I.base.frzs b o xs e),λ b ps e=>?_⟩,?_,λ x c e=>?_,?_,λ x c e=>?_,λ p hp=>?_,hok,I.len⟩
 ·exact keep b o (neL b o e) hb (neC b o e hx) (I.base.keep b o e n hb hx) (I.base.free b o e n hx)
 ·obtain⟨sl,e1⟩:=I.base.slot b o e n hb hx;obtain⟨sl',e2⟩:=slot b _ (neL b o e) hb (neC b o e hx) e1 (I.base.free b o e n hx);exact⟨sl',e2⟩
 ·obtain⟨o',e1⟩:=I.base.there b o e hx;exact free b o' (neC b o e hx) e1 (I.base.free b o e n hx)
 ·obtain⟨o',e1⟩:=I.base.there b o e hx;exact there b o' (neC b o e hx) e1
 ·obtain⟨m1,e1⟩:=I.base.tbls b ps e;obtain⟨m2,e2⟩:=tbls b _ e1;exact⟨m1++m2,by rw [e2,Array.append_assoc]⟩
 ·obtain⟨m,hn,hl⟩:=I.loc;refine⟨m,ns m hn,λ i x v e1 e2 e3=>?_⟩;obtain⟨u,r,l⟩:=hl i x v e1 e2 e3;refine⟨u,r,?_⟩
  rcases l with l|⟨k,c,e,z⟩
  ·exact .inl l
  ·exact .inr ⟨k,c,e,cellK x c e _ z⟩
 ·obtain⟨v,z⟩:=I.cell x c e;exact⟨v,cellK x c e v z⟩
 ·obtain⟨m,⟨o,_,_,ho,_⟩,_⟩:=I.loc;exact free _ o (λ z=>(hch _ z).2.1 rfl) ho I.free
 ·obtain⟨v,o,ho,hd⟩:=I.cell x c e;exact free c o (λ z=>(hch c z).2.2.1 x c e rfl) ho (I.freeC x c e)
 ·obtain⟨e,n,ne,nf,d⟩:=I.pin p hp;have nch:p.1 ∉ ch:=λ z=>(hch p.1 z).2.2.2 p hp rfl;exact⟨keep p.1 p.2 ne nf nch e n,free p.1 p.2 nch e n,ne,nf,d⟩
theorem Inv.un{t':Nat}(I:Inv X pins σ H s)(u:Un X.fs [] H H' s.heap h')(hok:HOk X.prog X.w H' h'):Inv X pins σ H' { s with heap:=h',toks:=t' }:=by
 obtain⟨m,⟨o,es,ep,ho,r⟩,_⟩:=id I.loc;obtain⟨sl,hL⟩:=u.any ho I.free (by simp)
 exact I.step (g':=s.gens) (d':=s.drawn) (ch:=[]) (λ _ z=>nomatch z) (λ b o _ hb _ e n=>u.keep b o e n hb (by simp)) (λ b o _ hb _ e n=>u.slot b o e n hb (by simp)) (λ b o _ e n=>u.free b o e n (by simp)) (λ b o _ e=>u.there b o e (by simp)) u.tups u.frzs u.tbls (λ m' hm=>by
  obtain⟨o',es',ep',ho',r'⟩:=hm;rw [ho] at ho';cases ho';exact⟨_,es',ep',hL,r'⟩) hok I.bare
theorem Inv.call{g':Array GenState}{t':Nat}{d':Drawn}{ch:List Addr}(I:Inv X pins σ H s)(u:Un (frs X.stack) ch H H' s.heap h')(hok:HOk X.prog X.w H' h')(hg:AllBare g')
  (hch:∀ b∈ch,(b∈X.ex\/X.s₀.heap.objs.size<=b)/\b ≠ X.env.locals/\(∀ x c,X.env.cells.lookup x=some c->c ≠ b)/\∀ p∈X.pn++pins,p.1 ≠ b) :
  Inv X pins σ H' { s with heap:=h',gens:=g',drawn:=d',toks:=t' }:=by
 obtain⟨m,⟨o,es,ep,ho,r⟩,_⟩:=id I.loc;obtain⟨sl,hL⟩:=u.any ho I.free λ z=>(hch _ z).2.1 rfl
 exact I.step (ch:=ch) hch (λ b o hL hb hc e n=>u.keep b o e n (λ z=>(OU.mp (I.stkSub b z)).elim hL hb) hc) (λ b o _ _ hc e n=>u.any e n hc) (λ b o hc e n=>u.free b o e n hc) (λ b o hc e=>u.there b o e hc) u.tups u.frzs u.tbls (λ m' hm=>by
  obtain⟨o',es',ep',ho',r'⟩:=hm;rw [ho] at ho';cases ho';exact⟨_,es',ep',hL,r'⟩) hok hg
theorem Inv.turned{t':Nat}{it:Addr}(I:Inv X pins σ H s)(k:∀ b o,b ≠ it->s.heap.get? b=some o->h'.get? b=some o)(hn:H it=none)(hL:it ≠ X.env.locals)
  (h1:it∈X.ex\/X.s₀.heap.objs.size<=it) (h2:∀ x c,X.env.cells.lookup x=some c->c ≠ it) (h3:∀ p∈X.pn++pins,p.1 ≠ it):Inv X pins σ H { s with heap:=h',toks:=t' }:=by
 have nit:∀ b u,H b=some u->b ≠ it:=λ b u e z=>by rw [z,hn] at e;cases e
 refine I.step (g':=s.gens) (d':=s.drawn) (ch:=[it]) (λ b hb=>?_) (λ b o _ _ hc e _=>k b o (λ z=>hc (by simp [z])) e) (λ b o _ _ hc e _=>⟨o.slots,k b o (λ z=>hc (by simp [z])) e⟩) (λ _ _ _ _ n=>n)
  (λ b o hc e=>⟨o,k b o (λ z=>hc (by simp [z])) e⟩) (λ _ _ e=>e) (λ _ _ _ e=>e) (λ b ps e=>⟨#[],by rw [e];simp⟩) (λ m hm=>?_) (λ b u e=>?_) I.bare
 ·have e:b=it:=by simpa using hb
  subst e;exact⟨h1,hL,h2,h3⟩
 ·obtain⟨o,es,ep,ho,r⟩:=hm;exact⟨o,es,ep,k _ o (OK hL) ho,r⟩
 ·refine(I.hok b u e).stay (λ c v hc q=>k c v ?_ q) (λ _ q=>q) λ _ _ q=>q
  rcases hc with z|z
  ·rw [z];exact nit b u e
  ·exact nit c _ z
theorem Inv.tok(I:Inv X pins σ H s)(t:Nat):Inv X pins σ H { s with toks:=t }:=I.un (h':=s.heap) (t':=t) Un.refl I.hok
theorem Inv.kept{t':Nat}(I:Inv X pins σ H s)(k:∀ b u,s.heap.get? b=some u->h'.get? b=some u):Inv X pins σ H { s with heap:=h',toks:=t' }:=I.un (Un.kept k) (I.hok.kept k)
theorem Inv.laid{a:Addr}{o:HO}{t':Nat}(I:Inv X pins σ H s)(k:∀ b u,s.heap.get? b=some u->h'.get? b=some u)(hp:s.heap.objs.size<=a)(new:bM X.prog X.w (upd H a o) h' a o) :
  Inv X pins σ (upd H a o) { s with heap:=h',toks:=t' }:=I.un (Un.laid k hp (I.hok.fresh hp)) (I.hok.laid k hp new)
theorem Inv.write{x e:Addr}{o:HO}{t':Nat}(I:Inv X pins σ H s)(mu:Mut (H x))(he:e=x\/H e=some (.own x))(k:∀ b u,b ≠ e->s.heap.get? b=some u->h'.get? b=some u)(heo:∃ u,h'.get? e=some u)
  (new:bM X.prog X.w (upd H x o) h' x o):Inv X pins σ (upd H x o) { s with heap:=h',toks:=t' }:=I.un (Un.write mu he k heo) (I.hok.write mu he k heo new)
theorem Inv.weak{σ':List (Option V)}(I:Inv X pins σ H s)(hl:σ'.length=σ.length)(w:∀ (i:Nat) v,σ'[i]? = some (some v)->σ[i]? = some (some v)):Inv X pins σ' H s:=
 ⟨I.ok,I.os,I.bare,I.base,let ⟨m,hn,hl'⟩:=I.loc;⟨m,hn,λ i x v e1 e2 e3=>hl' i x v e1 (w i v e2) e3⟩,I.cell,I.free,I.freeC,I.pin,I.hok,hl.trans I.len⟩
theorem Inv.pins_of{pins':List (Addr × Obj)}(I:Inv X pins σ H s)(h:∀ p∈pins',s.heap.get? p.1=some p.2/\H p.1=none/\p.1 ≠ X.env.locals/\p.1 ∉ X.fs/\∀ v,p.2.data ≠ .cell v):Inv X pins' σ H s:=
 ⟨I.ok,I.os,I.bare,I.base,I.loc,I.cell,I.free,I.freeC,λ p hp=>(OQ.mp hp).elim (λ z=>I.pin p (Qp _ z)) (h p),I.hok,I.len⟩
theorem rm{N:List Str}(hN:N.Nodup){i j:Nat}{x:Str}(a:N[i]? = some x)(b:N[j]? = some x):i=j:=by
 obtain⟨h1,e1⟩:=Oy.mp a;obtain⟨h2,e2⟩:=Oy.mp b;exact(Su hN).mp (e1.trans e2.symm)
theorem nh{M:Model}{A:Around}{E:Value->Shared->Prop}{i:Nat}{x:Str}{v:V}{u:Value}{Q:Unit->Shared->Prop}(I:Inv X pins σ H s)(hN:X.N.Nodup)(hi:X.N[i]? = some x)(hx:Loc X.env.scope x)(r:bF v u)
  (h:∀ s',Inv X pins (σ.set i (some v)) H s'->(∃ a,Heap.SameBut a s.heap s'.heap/\(a=X.env.locals\/X.env.cells.lookup x=some a))->Q () s') (hf:X.fn x=true\/X.env.scope.names.lookup x=some .local:=by first|exact .inl rfl|exact .inr rfl|assumption):wpAny M A (storeName X.env x u) Q E s:=by
 obtain⟨m,hn,hl⟩:=id I.loc;have hcls:(X.env.scope.kind == .class || (X.env.scope.kind == .module && X.env.locals != X.env.globals))=false:=by rw [I.ok.kind];rfl
 have hiσ:i < σ.length:=by rw [I.len];exact(Oy.mp hi).1
 have cne:=I.cne
 have tracked:∀ {a:Addr} {h':Heap},(∃ o,s.heap.get? a=some o/\H a=none)->Heap.SameBut a s.heap h'->HOk X.prog X.w H h':=λ {a h'} ha hs b ob e=>by
  obtain⟨_,_,hfree⟩:=ha;refine(I.hok b ob e).stay (λ c w' hc q=>(hs.2 c ?_).trans q) (λ _ q=>q) λ _ _ q=>q;rintro rfl
  rcases hc with rfl|hc
  ·rw [hfree] at e;cases e
  ·rw [hfree] at hc;cases hc
 rcases hx with hk|hk
 ·refine wpAny_storeName_local hk hn (λ h' hn' hs=>?_) hcls;obtain⟨oL,_,_,hoL,_⟩:=id hn;refine h _ ⟨I.ok,I.os,I.bare,⟨λ b o e n hb hx=>?_,λ b o e n hb hx=>?_,I.base.free,λ b o e hx=>?_,I.base.tups,I.base.frzs,I.base.tbls⟩,⟨_,hn',λ j y v' e1 e2 e3=>?_⟩,λ y c e=>?_,I.free,I.freeC,λ p hp=>?_,tracked ⟨oL,hoL,I.free⟩ hs,by simpa using I.len⟩ ⟨_,hs,.inl rfl⟩
  ·exact(hs.2 b (OS (OW (OA e) I.ok.above))).trans (I.base.keep b o e n hb hx)
  ·obtain⟨sl,e1⟩:=I.base.slot b o e n hb hx;exact⟨sl,(hs.2 b (OS (OW (OA e) I.ok.above))).trans e1⟩
  ·obtain⟨o',e1⟩:=I.base.there b o e hx;exact⟨o',(hs.2 b (OS (OW (OA e) I.ok.above))).trans e1⟩
  ·by_cases hj:j=i
   ·subst hj;rw [hi] at e1;cases e1;rw [List.getElem?_set_self hiσ] at e2;cases e2;exact⟨u,r,.inl ⟨hk,by simp⟩⟩
   ·rw [RZ (OK hj)] at e2;obtain⟨u',r',q⟩:=hl j y v' e1 e2 e3;refine⟨u',r',?_⟩
    rcases q with ⟨k,e⟩|⟨k,c,e,z⟩
    ·refine .inl ⟨k,?_⟩;have:y ≠ x:=λ e=>hj (rm hN e1 (e ▸ hi));simp [this,e]
    ·exact .inr ⟨k,c,e,z.sameBut hs (cne y c e)⟩
  ·obtain⟨w',z⟩:=I.cell y c e;exact⟨w',z.sameBut hs (cne y c e)⟩
  ·obtain⟨e,n,ne,nf,d⟩:=I.pin p hp;exact⟨(hs.2 p.1 ne).trans e,n,ne,nf,d⟩
 ·have hfn:X.fn x=true:=by
   rcases hf with z|z
   ·exact z
   ·rw [z] at hk;cases hk
  obtain⟨c,hc⟩:=I.ok.has x (.inl hk);obtain⟨w',z⟩:=I.cell x c hc;refine wpAny_storeName_cell I.ok.kind hk hc z (λ h' hc' hs=>?_);obtain⟨oc,hoc,hocd⟩:=id z;refine h { s with heap:=h' } ⟨I.ok,I.os,I.bare,⟨λ b o e n hb hx=>?_,λ b o e n hb hx=>?_,I.base.free,λ b o e hx=>?_,I.base.tups,I.base.frzs,I.base.tbls⟩,⟨m,hn.sameBut hs (OK (cne x c hc)),λ j y v' e1 e2 e3=>?_⟩,λ y c' e=>?_,I.free,I.freeC,λ p hp=>?_,tracked ⟨oc,hoc,I.freeC x c hc⟩ hs,by simpa using I.len⟩ ⟨c,hs,.inr hc⟩
  ·exact(hs.2 b (OS (OW (OA e) (I.ok.cab x c hfn hc)))).trans (I.base.keep b o e n hb hx)
  ·obtain⟨sl,e1⟩:=I.base.slot b o e n hb hx;exact⟨sl,(hs.2 b (OS (OW (OA e) (I.ok.cab x c hfn hc)))).trans e1⟩
  ·obtain⟨o',e1⟩:=I.base.there b o e hx;exact⟨o',(hs.2 b (OS (OW (OA e) (I.ok.cab x c hfn hc)))).trans e1⟩
  ·by_cases hj:j=i
   ·subst hj;rw [hi] at e1;cases e1;rw [List.getElem?_set_self hiσ] at e2;cases e2;exact⟨u,r,.inr ⟨.inl hk,c,hc,hc'⟩⟩
   ·rw [RZ (OK hj)] at e2;obtain⟨u',r',q⟩:=hl j y v' e1 e2 e3;refine⟨u',r',?_⟩
    rcases q with q|⟨k,c',e,z'⟩
    ·exact .inl q
    ·refine .inr ⟨k,c',e,z'.sameBut hs ?_⟩;rintro rfl;exact hj (rm hN e1 (I.ok.inj _ _ _ e hc ▸ hi))
  ·by_cases hcc:c'=c
   ·subst hcc;exact⟨_,hc'⟩
   ·obtain⟨w2,z2⟩:=I.cell y c' e;exact⟨w2,z2.sameBut hs hcc⟩
  ·obtain⟨e,n,ne,nf,d⟩:=I.pin p hp;refine⟨(hs.2 p.1 ?_).trans e,n,ne,nf,d⟩;intro q;rw [q,hoc] at e;have q':oc=p.2:=O1 e;exact d w' (by rw [←q'];exact hocd)
theorem qY{M:Model}{A:Around}{E:Value->Shared->Prop}{i:Nat}{x:Str}{v:V}{u:Value}{Q:Unit->Shared->Prop}(I:Inv X pins σ H s)(hN:X.N.Nodup)(hi:X.N[i]? = some x)(hx:Loc X.env.scope x)(r:bF v u)
  (h:∀ s',Inv X pins (σ.set i (some v)) H s'->Q () s') (hf:X.fn x=true\/X.env.scope.names.lookup x=some .local:=by first|exact .inl rfl|exact .inr rfl|assumption):wpAny M A (storeName X.env x u) Q E s:=
 nh I hN hi hx r (λ s' I' _=>h s' I') hf
theorem Inv.call'{s':Shared}{ch:List Addr}(I:Inv X pins σ H s)(ho:s'.os=s.os)(u:Un (frs X.stack) ch H H' s.heap s'.heap)(hok:HOk X.prog X.w H' s'.heap)(hg:AllBare s'.gens)
  (hch:∀ b∈ch,(b∈X.ex\/X.s₀.heap.objs.size<=b)/\b ≠ X.env.locals/\(∀ x c,X.env.cells.lookup x=some c->c ≠ b)/\∀ p∈X.pn++pins,p.1 ≠ b):Inv X pins σ H' s':=by
 obtain⟨h',g',d',t',o'⟩:=s';have e:o'=s.os:=ho;subst e;exact I.call (g':=g') (t':=t') (d':=d') u hok hg hch
end
abbrev XK:=Value->Option Addr->Hp->Prop
abbrev St:=List (Option V)
abbrev VK:=V->Hp->Prop
abbrev TE:=St->Hp->VK->Prop
abbrev TT:=St->Hp->(Bool->Hp->Prop)->Prop
abbrev TA:=St->Hp->(List V->Hp->Prop)->Prop
structure qG where
 nx:St->Hp->Prop
 rt:VK
 bk:St->Hp->Prop:=λ _ _=>False
 ct:St->Hp->Prop:=λ _ _=>False
abbrev TS:=qG->St->Hp->Prop
def EP(X:Cx)(pins:List (Addr × Obj))(σ:St)(Q:VK)(u:Value)(s':Shared):Prop:=∃ v H',Inv X pins σ H' s'/\bF v u/\Q v H'
def TP(X:Cx)(pins:List (Addr × Obj))(σ:St)(Q:Bool->Hp->Prop)(b:Bool)(s':Shared):Prop:=∃ H',Inv X pins σ H' s'/\Q b H'
def AP(X:Cx)(pins:List (Addr × Obj))(σ:St)(Q:List V->Hp->Prop)(us:List Value)(s':Shared):Prop:=∃ vs H',Inv X pins σ H' s'/\aU vs us/\Q vs H'
def SP(X:Cx)(pins:List (Addr × Obj))(D:qG)(f:Flow)(s':Shared):Prop:=
 match f with
 | .next=>∃ σ' H',Inv X pins σ' H' s'/\D.nx σ' H'
 | .brk=>∃ σ' H',Inv X pins σ' H' s'/\D.bk σ' H'
 | .cont=>∃ σ' H',Inv X pins σ' H' s'/\D.ct σ' H'
 | .ret u=>∃ v σ' H',Inv X pins σ' H' s'/\bF v u/\D.rt v H'
def PE(X:Cx)(e:Expr)(t:TE):Prop:=
 ∀ (pins:List (Addr × Obj)) (s:Shared) (σ:St) (H:Hp) (Q:VK),Inv X pins σ H s->t σ H Q->wpAny (model X.prog X.w) X.A (eval e X.env) (EP X pins σ Q) X.xe s
def PT(X:Cx)(e:Expr)(t:TT):Prop:=
 ∀ (pins:List (Addr × Obj)) (s:Shared) (σ:St) (H:Hp) (Q:Bool->Hp->Prop),Inv X pins σ H s->t σ H Q->wpAny (model X.prog X.w) X.A (isTrue e X.env (eval e X.env)) (TP X pins σ Q) X.xe s
def PW(X:Cx)(e:Expr)(t:TT):Prop:=
 ∀ (whole:Sem Value) (pins:List (Addr × Obj)) (s:Shared) (σ:St) (H:Hp) (Q:Bool->Hp->Prop),Inv X pins σ H s->t σ H Q->wpAny (model X.prog X.w) X.A (isTrue e X.env whole) (TP X pins σ Q) X.xe s
theorem PW.pt{X:Cx}{e:Expr}{t:TT}(h:PW X e t):PT X e t:=h _
def PA(X:Cx)(es:List Expr)(t:TA):Prop:=
 ∀ (pos:Pos) (pins:List (Addr × Obj)) (s:Shared) (σ:St) (H:Hp) (Q:List V->Hp->Prop),Inv X pins σ H s->t σ H Q->wpAny (model X.prog X.w) X.A (spliced (backTo pos (starEach es X.env))) (AP X pins σ Q) X.xe s
def PS(X:Cx)(st:Stmt)(t:TS):Prop:=
 ∀ (pins:List (Addr × Obj)) (s:Shared) (σ:St) (H:Hp) (D:qG),Inv X pins σ H s->t D σ H->wpAny (model X.prog X.w) X.A (exec st X.env) (SP X pins D) X.xe s
def PSs(X:Cx)(st:List Stmt)(t:TS):Prop:=
 ∀ (pins:List (Addr × Obj)) (s:Shared) (σ:St) (H:Hp) (D:qG),Inv X pins σ H s->t D σ H->wpAny (model X.prog X.w) X.A (execs st X.env) (SP X pins D) X.xe s
theorem thn{α:Type}{t:Sem α}{Q Q':α->Shared->Prop}{M:Model}{A:Around}{E:Value->Shared->Prop}{s:Shared}(h:wpAny M A t Q E s)(hQ:∀ a s,Q a s->Q' a s):wpAny M A t Q' E s:=RP h hQ λ _ _ x=>x
section
variable {X:Cx}
def J5(i:Nat):TE:=λ σ H Q=>∃ v,σ[i]? = some (some v)/\Q v H
def tC(v:V):TE:=λ _ H Q=>Q v H
theorem HR{i:Nat}{x:Str}{pos:Pos}(hN:X.N[i]? = some x)(hv:Vis X.env.scope x)(hd:(x == ("__debug__":Str))=false:=by decide)(hcd:(x == ("__classdict__":Str))=false:=by decide):PE X (.Name x pos) (J5 i):=by
 intro pins s σ H Q I h;obtain⟨v,e,h⟩:=h;obtain⟨m,hn,hl⟩:=I.loc;obtain⟨u,r,l⟩:=hl i x v hN e hv;have fin:EP X pins σ Q u s:=⟨v,H,I,r,h⟩
 rcases l with ⟨hk,hm⟩|⟨hk,c,hc,hcell⟩
 ·exact wpAny_Name (wpAny_loadName_local I.ok.kind hk hn hm fin) hd
 ·rcases hk with hk|hk
  ·exact wpAny_Name (wpAny_loadName_cell I.ok.kind hk hc hcell fin) hd
  ·exact wpAny_Name (wpAny_loadName_free I.ok.kind hk hc hcell fin hcd) hd
theorem eP{i j pos}:PE X (.Constant (.int i) j pos) (tC (.int i)):=λ _ _ _ H _ I h=>wpAny_Constant_int ⟨.int i,H,I.tok _,⟨_,rfl⟩,h⟩
theorem cN{b j pos}:PE X (.Constant (.bool b) j pos) (tC (.bl b)):=λ _ _ _ H _ I h=>Constant_bool ⟨.bl b,H,I,rfl,h⟩
theorem iq{j pos}:PE X (.Constant .none j pos) (tC .non):=λ _ _ _ H _ I h=>Constant_none ⟨.non,H,I,rfl,h⟩
theorem mX{x j pos}:PE X (.Constant (.str x) j pos) (tC (.str x)):=λ _ _ _ H _ I h=>Calls.Constant_str ⟨.str x,H,I.tok _,⟨_,rfl⟩,h⟩
def Gl(X:Cx)(x:Str):Prop:=X.env.kindOf x=some .globalImplicit
theorem pJ{E:Value->Shared->Prop}{pins:List (Addr × Obj)}{s:Shared}{σ:St}{H:Hp}{x:Str}{u:Value}{pos:Pos}{Q:Value->Shared->Prop}(I:Inv X pins σ H s)(hg:Gl X x)(hm:X.mg x=some u)(h:Q u s)
  (hd:(x == ("__debug__":Str))=false:=by decide):wpAny (model X.prog X.w) X.A (eval (.Name x pos) X.env) Q E s:=
 Calls.Name_function_global I.ok.kind hg (Calls.loadGlobal_global (by rw [I.ok.glob];exact I.mod.glob.keeps I.bk) hm h) hd
theorem dJ{E:Value->Shared->Prop}{pins:List (Addr × Obj)}{s:Shared}{σ:St}{H:Hp}{x:Str}{u:Value}{pos:Pos}{Q:Value->Shared->Prop}(I:Inv X pins σ H s)(hg:Gl X x)(hm:X.mg x=none)(hv:bootBuiltins x=some u)(h:Q u s)
  (hn:x ≠ "__name__":=by decide) (hd:(x == ("__debug__":Str))=false:=by decide):wpAny (model X.prog X.w) X.A (eval (.Name x pos) X.env) Q E s:=by
 obtain⟨mb,h1,h2⟩:=I.mod.blt;exact Calls.Name_function_global I.ok.kind hg (Calls.loadGlobal_builtin (by rw [I.ok.glob];exact I.mod.glob.keeps I.bk) hm (by rw [I.ok.blt];exact h1.keeps I.bk) ((h2 x hn).trans hv) h) hd
theorem lx{x:Str}{v:V}{u:Value}{pos:Pos}(hg:Gl X x)(hm:X.mg x=some u)(r:bF v u)(hd:(x == ("__debug__":Str))=false:=by decide):PE X (.Name x pos) (tC v):=
 λ _ _ _ H _ I h=>pJ I hg hm ⟨v,H,I,r,h⟩ hd
theorem eT{x:Str}{v:V}{u:Value}{pos:Pos}(hg:Gl X x)(hm:X.mg x=none)(hv:bootBuiltins x=some u)(r:bF v u)(hn:x ≠ "__name__":=by decide)(hd:(x == ("__debug__":Str))=false:=by decide):PE X (.Name x pos) (tC v):=
 λ _ _ _ H _ I h=>dJ I hg hm hv ⟨v,H,I,r,h⟩ hn hd
variable {a b:Expr}{ta tb:TE}{pos:Pos}
def tB(t:TE):TT:=λ σ H Q=>t σ H λ x H1=>∃ c,x=.bl c/\Q c H1
theorem HJ{e:Expr}{t:TE}(h:PE X e t)(he:∀ whole,isTrue e X.env whole=(do let v ←whole;standAt e.pos;holding [v] (truthy v)):=by intro _;rfl):PT X e (tB t):=by
 intro pins s σ H Q I hw;refine isTrue_plain (thn (h pins s σ H _ I hw) λ v s1 ⟨x,H1,I1,r1,q1⟩=>?_) (he _);obtain⟨d,rfl,q⟩:=q1;cases r1;exact P8 ⟨H1,I1,q⟩
variable {tA tB':TT}{mM:List Expr}
def MF(t u:TT):TT:=λ σ H Q=>t σ H λ c H1=>if c=true then u σ H1 Q else Q false H1
def tOr(t u:TT):TT:=λ σ H Q=>t σ H λ c H1=>if c=true then Q true H1 else u σ H1 Q
def Mz(t:TT):TT:=λ σ H Q=>t σ H λ c H1=>Q (!c) H1
theorem lr(ha:PT X a tA):PW X (.BoolOp .And [a] pos) tA:=by
 intro wh pins s σ H Q I h;refine isTrue_and (thn (ha pins s σ H Q I h) λ c s1 e=>?_)
 cases c with
 | true=>exact isTrue_and_nil e
 | false=>exact e
theorem gv(ha:PT X a tA):PW X (.BoolOp .Or [a] pos) tA:=by
 intro wh pins s σ H Q I h;refine isTrue_or (thn (ha pins s σ H Q I h) λ c s1 e=>?_)
 cases c with
 | false=>exact isTrue_or_nil e
 | true=>exact e
theorem mU(ha:PT X a tA)(hb:PW X (.BoolOp .And (b::mM) pos) tB'):PW X (.BoolOp .And (a::b::mM) pos) (MF tA tB'):=by
 intro wh pins s σ H Q I h;refine isTrue_and (thn (ha pins s σ H _ I h) λ c s1 ⟨H1,I1,q1⟩=>?_)
 cases c with
 | true=>exact hb wh pins s1 σ H1 Q I1 q1
 | false=>exact⟨H1,I1,q1⟩
theorem Le(ha:PT X a tA)(hb:PW X (.BoolOp .Or (b::mM) pos) tB'):PW X (.BoolOp .Or (a::b::mM) pos) (tOr tA tB'):=by
 intro wh pins s σ H Q I h;refine isTrue_or (thn (ha pins s σ H _ I h) λ c s1 ⟨H1,I1,q1⟩=>?_)
 cases c with
 | true=>exact⟨H1,I1,q1⟩
 | false=>exact hb wh pins s1 σ H1 Q I1 q1
theorem HK(ha:PT X a tA):PT X (.UnaryOp .Not a pos) (Mz tA):=by
 intro pins s σ H Q I h;exact isTrue_not (ha pins s σ H (λ c H1=>Q (!c) H1) I h)
def GN(ta tb:TE):TE:=λ σ H Q=>ta σ H λ x H1=>∃ c,x=.bl c/\if c=true then tb σ H1 Q else Q (.bl false) H1
def Mx(ta tb:TE):TE:=λ σ H Q=>ta σ H λ x H1=>∃ c,x=.bl c/\if c=true then Q (.bl true) H1 else tb σ H1 Q
def GH(ta:TE):TE:=λ σ H Q=>ta σ H λ x H1=>∃ c,x=.bl c/\Q (.bl (!c)) H1
theorem HU{op}{t:TE}(h:PE X a t):PE X (.BoolOp op [a] pos) t:=λ pins s σ H Q I hw=>BoolOp_one (h pins s σ H Q I hw)
theorem HX(ha:PE X a ta)(hb:PE X (.BoolOp .And (b::mM) pos) tb):PE X (.BoolOp .And (a::b::mM) pos) (GN ta tb):=by
 intro pins s σ H Q I h;refine BoolOp_and (thn (ha pins s σ H _ I h) λ v s1 ⟨x,H1,I1,r1,q1⟩=>?_);obtain⟨c,rfl,q1⟩:=q1;cases r1;refine P8 ?_
 cases c with
 | true=>exact hb pins s1 σ H1 Q I1 q1
 | false=>exact⟨.bl false,H1,I1,rfl,q1⟩
theorem Lg(ha:PE X a ta)(hb:PE X (.BoolOp .Or (b::mM) pos) tb):PE X (.BoolOp .Or (a::b::mM) pos) (Mx ta tb):=by
 intro pins s σ H Q I h;refine BoolOp_or (thn (ha pins s σ H _ I h) λ v s1 ⟨x,H1,I1,r1,q1⟩=>?_);obtain⟨c,rfl,q1⟩:=q1;cases r1;refine P8 ?_
 cases c with
 | false=>exact hb pins s1 σ H1 Q I1 q1
 | true=>exact⟨.bl true,H1,I1,rfl,q1⟩
theorem HV(ha:PE X a ta):PE X (.UnaryOp .Not a pos) (GH ta):=by
 intro pins s σ H Q I h;refine UnaryOp_ (thn (ha pins s σ H _ I h) λ v s1 ⟨x,H1,I1,r1,q1⟩=>?_);obtain⟨c,rfl,q1⟩:=q1;cases r1;exact not_of (P8 ⟨.bl (!c),H1,I1,rfl,q1⟩)
def tIf(t:TT)(ta tb:TE):TE:=λ σ H Q=>t σ H λ c H1=>if c=true then ta σ H1 Q else tb σ H1 Q
theorem zQ{c:Expr}(hc:PT X c tA)(ha:PE X a ta)(hb:PE X b tb):PE X (.IfExp c a b pos) (tIf tA ta tb):=by
 intro pins s σ H Q I h;refine wpAny_IfExp (thn (hc pins s σ H _ I h) λ d s1 ⟨H1,I1,q1⟩=>?_)
 cases d with
 | true=>exact ha pins s1 σ H1 Q I1 q1
 | false=>exact hb pins s1 σ H1 Q I1 q1
end
def SqL(K:W.Frag)(H:Hp)(a:Addr)(xs:List V):Prop:=
 Rd H a (.lst xs) \/
  ∃ (o:Obj) (its:Array Value) (n:Nat),K.lookup a=some o/\o.cls=.type "list" /\ o.dict=none/\o.data=.seq its n/\its.size<=sizeLine/\aU xs its.toList
def SqT(K:W.Frag)(H:Hp)(a:Addr)(xs:List V):Prop:=
 Rd H a (.tup xs) \/
  ∃ (o:Obj) (its:Array Value) (n:Nat),K.lookup a=some o/\o.cls=.type "tuple" /\ o.data=.seq its n/\its.size<=sizeLine/\aU xs its.toList
def Oe:Value->Option V
 | .none=>some .non
 | .bool b=>some (.bl b)
 | .int i _=>some (.int i)
 | .str x _=>some (.str x)
 | .bytes b _=>some (.byt b)
 | .float b _=>some (.flt b)
 | .ref a=>some (.ref a)
 | .type n=>some (.ty n)
 | _=>none
theorem bF.abs{x:V}{u:Value}(r:bF x u):Oe u=some x:=by
 cases x with
 | non=>cases r;rfl
 | bl _=>cases r;rfl
 | int _=>obtain⟨t,rfl⟩:=r;rfl
 | str _=>obtain⟨t,rfl⟩:=r;rfl
 | byt _=>obtain⟨t,rfl⟩:=r;rfl
 | flt _=>obtain⟨t,rfl⟩:=r;rfl
 | ref _=>cases r;rfl
 | ty _=>cases r;rfl
theorem bF.inj{x y:V}{u:Value}(r:bF x u)(q:bF y u):x=y:=O1 (r.abs.symm.trans q.abs)
theorem aU.inj:∀ {xs ys:List V}{us:List Value},aU xs us->aU ys us->xs=ys
 | _,_,_,.nil,.nil=>rfl
 | _,_,_,.cons r t,.cons r' t'=>by rw [r.inj r',aU.inj t t']
section
variable {X:Cx}{pins:List (Addr × Obj)}{σ:St}{H:Hp}{s:Shared}{a:Addr}{xs ys:List V}
theorem SqL.of{K:W.Frag}(h:H a=some (.lst xs)):SqL K H a xs:=.inl (.inl h)
theorem SqT.of{K:W.Frag}(h:H a=some (.tup xs)):SqT K H a xs:=.inl (.inl h)
theorem Inv.list(I:Inv X pins σ H s)(h:SqL X.K H a xs):∃ its:List Value,aU xs its/\PlainL s.heap a its.toArray/\xs.length<=sizeLine:=by
 rcases h with h|⟨o,its,n,hk,hc,hd,hs,hz,r⟩
 ·obtain⟨z,its,n,r,e⟩:=h.ok I.hok;exact⟨its,r,⟨_,n,e,rfl,rfl,rfl⟩,z⟩
 ·refine⟨its.toList,r,⟨o,n,I.kIn a o hk,hc,hd,by simpa using hs⟩,?_⟩;have e:=r.length;simp only [Rp] at e;omega
theorem Inv.tuple(I:Inv X pins σ H s)(h:SqT X.K H a xs):∃ its:List Value,aU xs its/\IsTup s.heap a its.toArray/\xs.length<=sizeLine:=by
 rcases h with h|⟨o,its,n,hk,hc,hs,hz,r⟩
 ·obtain⟨z,its,r,p⟩:=h.ok I.hok;exact⟨its,r,p,z⟩
 ·refine⟨its.toList,r,⟨o,I.kIn a o hk,hc,n,by simpa using hs⟩,?_⟩;have e:=r.length;simp only [Rp] at e;omega
theorem Inv.list_inj(I:Inv X pins σ H s)(h:SqL X.K H a xs)(h':SqL X.K H a ys):xs=ys:=by
 obtain⟨its,r,⟨o,n,e,_,_,d⟩,_⟩:=I.list h;obtain⟨its',r',⟨o',n',e',_,_,d'⟩,_⟩:=I.list h';rw [e] at e';cases e';rw [d] at d'
 injection d' with d1 _
 have:its=its':=by simpa using Qk Array.toList d1
 subst this;exact r.inj r'
theorem Inv.tuple_inj(I:Inv X pins σ H s)(h:SqT X.K H a xs)(h':SqT X.K H a ys):xs=ys:=by
 obtain⟨its,r,⟨o,e,_,n,d⟩,_⟩:=I.tuple h;obtain⟨its',r',⟨o',e',_,n',d'⟩,_⟩:=I.tuple h';rw [e] at e';cases e';rw [d] at d'
 injection d' with d1 _
 have:its=its':=by simpa using Qk Array.toList d1
 subst this;exact r.inj r'
end
abbrev Cx.wish(X:Cx)(E:Value->Shared->Prop):Cx:={ X with xe:=E }
abbrev Cx.nox(X:Cx):Cx:=X.wish λ _ _=>False
theorem Cx.Ok.wish{X:Cx}(ok:X.Ok)(E:Value->Shared->Prop):(X.wish E).Ok:=
 ⟨ok.mod,ok.kind,ok.glob,ok.blt,ok.above,ok.inj,ok.has,ok.cab,ok.hd,ok.frames,ok.stk,ok.exf,ok.bs,ok.bsz,ok.noex,ok.exfs,ok.funs,ok.frf⟩
theorem Cx.Ok.unwish{X:Cx}{E:Value->Shared->Prop}(ok:(X.wish E).Ok):X.Ok:=
 ⟨ok.mod,ok.kind,ok.glob,ok.blt,ok.above,ok.inj,ok.has,ok.cab,ok.hd,ok.frames,ok.stk,ok.exf,ok.bs,ok.bsz,ok.noex,ok.exfs,ok.funs,ok.frf⟩
section
variable {X:Cx}{pins:List (Addr × Obj)}{σ:St}{H:Hp}{s:Shared}{E:Value->Shared->Prop}
theorem Inv.wish(I:Inv X pins σ H s)(E:Value->Shared->Prop):Inv (X.wish E) pins σ H s:=⟨I.ok.wish E,I.os,I.bare,I.base,I.loc,I.cell,I.free,I.freeC,I.pin,I.hok,I.len⟩
theorem Inv.unwish(I:Inv (X.wish E) pins σ H s):Inv X pins σ H s:=⟨I.ok.unwish,I.os,I.bare,I.base,I.loc,I.cell,I.free,I.freeC,I.pin,I.hok,I.len⟩
theorem SP.unwish{D:qG}{f:Flow}{s':Shared}(h:SP (X.wish E) pins D f s'):SP X pins D f s':=by
 cases f with
 | next=>obtain⟨σ',H',I,q⟩:=h;exact⟨σ',H',I.unwish,q⟩
 | brk=>obtain⟨σ',H',I,q⟩:=h;exact⟨σ',H',I.unwish,q⟩
 | cont=>obtain⟨σ',H',I,q⟩:=h;exact⟨σ',H',I.unwish,q⟩
 | ret u=>obtain⟨v,σ',H',I,r,q⟩:=h;exact⟨v,σ',H',I.unwish,r,q⟩
theorem PSs.nox{st:List Stmt}{t:TS}(h:PSs X.nox st t):PSs X st t:=λ pins s σ H D I hw=>
 RP (h pins s σ H D (I.wish _) hw) (λ _ _ q=>q.unwish) λ _ _ z=>False.elim z
end
section
variable {X:Cx}{st:Stmt}{mM:List Stmt}{t u:TS}{e:Expr}{te:TE}{pos:Pos}
def GI:TS:=λ D σ H=>D.nx σ H
def Mv(t u:TS):TS:=λ D σ H=>t { D with nx:=u D } σ H
theorem ak:PSs X [] GI:=λ _ _ σ H _ I h=>R6 ⟨σ,H,I,h⟩
theorem gx(h1:PS X st t)(h2:PSs X mM u):PSs X (st::mM) (Mv t u):=by
 intro pins s σ H D I h;refine wpAny_execs_cons (thn (h1 pins s σ H { D with nx:=u D } I h) λ f s1 q=>?_)
 cases f with
 | next=>
  obtain⟨σ',H',I',q⟩:=q;exact h2 pins s1 σ' H' D I' q
 | ret v=>exact q
 | brk=>exact q
 | cont=>exact q
theorem lu(h1:PS X st t):PSs X [st] t:=by
 intro pins s σ H D I h;refine wpAny_execs_cons (thn (h1 pins s σ H D I h) λ f s1 q=>?_)
 cases f with
 | next=>exact R6 q
 | ret v=>exact q
 | brk=>exact q
 | cont=>exact q
theorem Inv.quiet{pins:List (Addr × Obj)}{σ:St}{H:Hp}{s:Shared}(I:Inv X pins σ H s):interactive X.env=false:=by simp [interactive,I.ok.kind]
def GJ(te:TE):TS:=λ D σ H=>te σ H λ _ H1=>D.nx σ H1
theorem Dv(he:PE X e te)(hs:swapsWith e none pos.line X.env=pure false:=by rfl):PS X (.Expr e pos) (GJ te):=by
 intro pins s σ H D I h;exact wpAny_Expr_any (thn (he pins s σ H _ I h) λ v s1 ⟨x,H1,I1,r1,q1⟩=>⟨σ,H1,I1,q1⟩) I.quiet hs
def Mw(te:TE):TS:=λ D σ H=>te σ H D.rt
theorem uN(he:PE X e te):PS X (.Return (some e) pos) (Mw te):=by
 intro pins s σ H D I h;exact wpAny_Return_some (thn (he pins s σ H _ I h) λ v s1 ⟨x,H1,I1,r1,q1⟩=>⟨x,σ,H1,I1,r1,q1⟩)
def J6(c:TT)(t u:TS):TS:=λ D σ H=>c σ H λ b H1=>if b=true then t D σ H1 else u D σ H1
theorem Cz{c:Expr}{a b:List Stmt}{tc:TT}(hc:PT X c tc)(ha:PSs X a t)(hb:PSs X b u):PS X (.If c a b pos) (J6 tc t u):=by
 intro pins s σ H D I h;refine wpAny_If (thn (hc pins s σ H _ I h) λ d s1 ⟨H1,I1,q1⟩=>?_)
 cases d with
 | true=>exact ha pins s1 σ H1 D I1 q1
 | false=>exact hb pins s1 σ H1 D I1 q1
def HD:TS:=λ _ _ _=>False
theorem dU:PS X st HD:=λ _ _ _ _ _ _ h=>h.elim
end
abbrev TG:=V->St->Hp->(St->Hp->Prop)->Prop
abbrev TGs:=List V->St->Hp->(St->Hp->Prop)->Prop
def PG(X:Cx)(target:Expr)(t:TG):Prop:=
 ∀ (pins:List (Addr × Obj)) (s:Shared) (σ:St) (H:Hp) (v:V) (u:Value) (Q:St->Hp->Prop),Inv X pins σ H s->bF v u->t v σ H Q →
  wpAny (model X.prog X.w) X.A (assign target X.env u) (λ _ s'=>∃ σ' H',Inv X pins σ' H' s'/\Q σ' H') X.xe s
def PGs(X:Cx)(ts:List Expr)(t:TGs):Prop:=
 ∀ (pins:List (Addr × Obj)) (s:Shared) (σ:St) (H:Hp) (vs:List V) (us:List Value) (Q:St->Hp->Prop),Inv X pins σ H s->aU vs us->t vs σ H Q →
  wpAny (model X.prog X.w) X.A (assignInOrder ((assignEach ts X.env).map (·.2)) us) (λ _ s'=>∃ σ' H',Inv X pins σ' H' s'/\Q σ' H') X.xe s
abbrev BK:=V->V->V->Hp->(Hp->Prop)->Prop
def Nx(X:Cx)(t:BK):Prop:=
 ∀ (pins:List (Addr × Obj)) (s:Shared) (σ:St) (H:Hp) (o i v:V) (ov iv u:Value) (Q:Hp->Prop),Inv X pins σ H s->bF o ov->bF i iv->bF v u->t o i v H Q →
  wpAny (model X.prog X.w) X.A (setItem ov iv u) (λ _ s'=>∃ H',Inv X pins σ H' s'/\Q H') X.xe s
section
variable {X:Cx}{pos:Pos}
def dv(i:Nat):TG:=λ v σ H Q=>Q (σ.set i (some v)) H
theorem vB{i:Nat}{x:Str}(hN:X.N.Nodup)(hi:X.N[i]? = some x)(hx:Loc X.env.scope x)(hf:X.fn x=true\/X.env.scope.names.lookup x=some .local:=by first|exact .inl rfl|exact .inr rfl|assumption):PG X (.Name x pos) (dv i):=by
 intro pins s σ H v u Q I r h;exact wpAny_assign_Name (qY I hN hi hx r (λ s' I'=>⟨_,H,I',h⟩) hf)
def Nw:TGs:=λ vs σ H Q=>vs=[]/\Q σ H
def Ht(t:TG)(u:TGs):TGs:=λ vs σ H Q=>∃ v r,vs=v::r/\t v σ H λ σ' H'=>u r σ' H' Q
theorem DC:PGs X [] Nw:=by
 intro pins s σ H vs us Q I r h;obtain⟨e,h⟩:=h;subst e;cases r;exact assignInOrder_nil ⟨σ,H,I,h⟩
theorem zN{e:Expr}{es:List Expr}{t:TG}{u:TGs}(h1:PG X e t)(h2:PGs X es u)
  (hs:(assignEach (e::es) X.env).map (·.2)=assign e X.env::(assignEach es X.env).map (·.2):=by rfl):PGs X (e::es) (Ht t u):=by
 intro pins s σ H vs us Q I r h;obtain⟨v,vr,e1,h⟩:=h;subst e1
 cases r with
 | cons r rr=>
  rw [hs];refine assignInOrder_cons (thn (h1 pins s σ H _ _ _ I r h) λ _ s1 ⟨σ1,H1,I1,q1⟩=>?_);exact h2 pins s1 σ1 H1 _ _ Q I1 rr q1
def Nu(K:W.Frag)(n:Nat)(t:TGs):TG:=λ v σ H Q=>∃ a xs,v=.ref a/\SqT K H a xs/\xs.length=n/\t xs σ H Q
theorem HP{es:List Expr}{k:Nat}{t:TGs}{n:Nat}(hc:X.calm=true)(h:PGs X es t)
  (hn:(assignEach es X.env).length=n:=by rfl) (hst:(assignEach es X.env).findIdx? (·.1)=none:=by rfl):PG X (.Tuple es k pos) (Nu X.K n t):=by
 intro pins s σ H v u Q I r hw;obtain⟨a,xs,e1,hq,hl,hw⟩:=hw;subst e1;cases r;obtain⟨its,rv,ht,hz⟩:=I.tuple hq;refine assign_Tuple_tuple (I.ok.hd hc) ht (by simp [hn,←hl,rv.length]) hst λ h' hx=>?_;have I1:Inv X pins σ H { s with heap:=h' }:=I.kept (t':=s.toks) λ b o e=>hx b o (OS (OA e)) e;exact h pins _ σ H xs _ Q I1 (by simpa using rv) hw
def Nv(to ti:TE)(t:BK):TG:=λ v σ H Q=>to σ H λ o H1=>ti σ H1 λ i H2=>t o i v H2 λ H3=>Q σ H3
theorem HQ{o i:Expr}{to ti:TE}{t:BK}(ho:PE X o to)(hi:PE X i ti)(hs:Nx X t)
  (ha:∀ v,assign (.Subscript o i pos) X.env v=(do
   let ov ←holding [v] (eval o X.env)
   let iv ←holding [v,ov] (eval i X.env)
   standAt pos
   holding [v,ov,iv] (setItem ov iv v)
   release [v,ov,iv] []):=by intro _;rfl):PG X (.Subscript o i pos) (Nv to ti t):=by
 intro pins s σ H v u Q I r h;rw [ha];refine My (P2 (thn (ho pins s σ H _ I h) λ ov s1 ⟨x,H1,I1,r1,q1⟩=>?_));refine My (P2 (thn (hi pins s1 σ H1 _ I1 q1) λ iv s2 ⟨y,H2,I2,r2,q2⟩=>?_));refine My (Sx (My (P2 (thn (hs pins s2 σ H2 x y v ov iv u _ I2 r1 r2 r q2) λ _ s3 ⟨H3,I3,q3⟩=>?_))));exact wpAny_release ⟨σ,H3,I3,q3⟩
def Kq(te:TE)(g:TG):TS:=λ D σ H=>te σ H λ x H1=>g x σ H1 D.nx
theorem uO{tg e:Expr}{te:TE}{g:TG}(he:PE X e te)(hg:PG X tg g)(hs:swapsWithSole [tg] e pos.line X.env=pure false:=by rfl)(hw:swappedStores [tg] e X.env=pure none:=by rfl)
  (h1:(assignEach [tg] X.env).map (·.2)=[assign tg X.env]:=by rfl):PS X (.Assign [tg] e pos) (Kq te g):=by
 intro pins s σ H D I h;refine wpAny_Assign_stores (thn (he pins s σ H _ I h) λ v s1 ⟨x,H1,I1,r1,q1⟩=>?_) hs hw;rw [h1];exact thn (hg pins s1 σ H1 x v _ I1 r1 q1) λ _ s2 q=>q
theorem fF{i:Nat}{x:Str}{e:Expr}{te:TE}{pos':Pos}(hN:X.N.Nodup)(hi:X.N[i]? = some x)(hx:Loc X.env.scope x)(he:PE X e te)(hs:swapsWith e (some (.Name x pos')) pos.line X.env=pure false:=by rfl)(hf:X.fn x=true\/X.env.scope.names.lookup x=some .local:=by first|exact .inl rfl|exact .inr rfl|assumption) :
  PS X (.Assign [.Name x pos'] e pos) (Kq te (dv i)):=by
 intro pins s σ H D I h;refine wpAny_Assign_Name (thn (he pins s σ H _ I h) λ v s1 ⟨y,H1,I1,r1,q1⟩=>?_) hs;exact qY I1 hN hi hx r1 (λ s2 I2=>⟨_,H1,I2,q1⟩) hf
end
section
variable {X:Cx}{pos:Pos}
def ux(c:TT)(tb:TS):TS:=λ D σ H=>∃ W:Nat->St->Hp->Prop,(∃ m,W m σ H)/\∀ m σ H,W m σ H →
 c σ H λ b H1=>if b=true then ∃ N:St->Hp->Prop,(∀ σ' H',N σ' H'->∃ m',m' < m/\W m' σ' H')/\tb { D with nx:=N,ct:=N,bk:=D.nx } σ H1 else D.nx σ H1
theorem rk{c:Expr}{body:List Stmt}{tc:TT}{tb:TS}(hp:PassesOwn (model X.prog X.w) X.A X.env X.xe)(hc:PT X c tc)(hb:PSs X body tb):PS X (.While c body [] pos) (ux tc tb):=by
 intro pins s σ H D I h;obtain⟨W,⟨m0,w0⟩,turn⟩:=h;refine wpAny_While (codeAny_whileLoop (λ n s'=>∃ σ' H',Inv X pins σ' H' s'/\W n σ' H') ?_ m0 ⟨σ,H,I,w0⟩);rintro n s1 ⟨σ1,H1,I1,w1⟩;refine QC hp (thn (hc pins s1 σ1 H1 _ I1 (turn n σ1 H1 w1)) λ b s2 ⟨H2,I2,q2⟩=>?_)
 cases b with
 | true=>
  obtain⟨N,hN,q2⟩:=q2;rw [Pd rfl];refine QC hp (thn (hb pins s2 σ1 H2 _ I2 q2) λ f s3 q3=>?_)
  cases f with
  | next=>
   obtain⟨σ3,H3,I3,n3⟩:=q3;obtain⟨m',hm,w3⟩:=hN σ3 H3 n3;exact⟨m',hm,σ3,H3,I3,w3⟩
  | cont=>
   obtain⟨σ3,H3,I3,n3⟩:=q3;obtain⟨m',hm,w3⟩:=hN σ3 H3 n3;exact⟨m',hm,σ3,H3,I3,w3⟩
  | brk=>exact q3
  | ret v=>exact q3
 | false=>
  rw [O2 OP];exact R6 ⟨σ1,H2,I2,q2⟩
end
structure It where
 go:Nat->Hp->Prop
 yld:Nat->Hp->V->Hp->Prop
 stop:Nat->Hp->Prop
def oT(X:Cx)(pins:List (Addr × Obj))(H:Hp)(b:Addr):Prop:=
 H b=none/\b ≠ X.env.locals/\b ∉ X.fs/\(b∈X.ex\/X.s₀.heap.objs.size<=b)/\(∀ x c,X.env.cells.lookup x=some c->c ≠ b)/\∀ p∈X.pn++pins,p.1 ≠ b
theorem Inv.fpOk{X:Cx}{pins:List (Addr × Obj)}{σ:St}{H H':Hp}{s:Shared}{b:Addr}(I:Inv X pins σ H s)(hb:s.heap.objs.size<=b)(hn:H' b=none):oT X pins H' b:=by
 refine⟨hn,Pn (OW I.lt hb),I.nofs hb,.inr (PJ I.sz hb),λ x c e z=>?_,λ p hp z=>?_⟩
 ·obtain⟨v,q⟩:=I.cell x c e;exact absurd (OW q.lt (by rw [z];exact hb)) (Pk _)
 ·exact absurd (OW (OA (I.pin p hp).1) (by rw [z];exact hb)) (Pk _)
structure yK(P:Program)(w:World)(K:W.Frag)(tg:Expr)(J:It)(fp:List Addr)(it:Addr)(tn:Nat->Heap->Prop):Prop where
 mem:it∈fp
 obj:∀ i h,tn i h->∀ b∈fp,∃ o,h.get? b=some o/\∀ v,o.data ≠ .cell v
 keep:∀ i h h',tn i h->(∀ b∈fp,∀ o,h.get? b=some o->h'.get? b=some o)->tn i h'
 item:∀ (X:Cx),X.prog=P->X.w=w->X.K=K->X.calm=true->∀ (i:Nat) (pins:List (Addr × Obj)) (s:Shared) (σ:St) (H:Hp) (E:Value->Shared->Prop),Inv X pins σ H s->(∀ b∈fp,oT X pins H b)->tn i s.heap->J.go i H →
  wpAny (model P w) X.A (pyNext (.ref it)) (λ r s1=>∃ u,r=some u /\
   wpAny (model P w) X.A (letOwnedTupleGo tg (.ref it) u) (λ _ s2=>∃ x H',Inv X pins σ H' s2/\bF x u/\J.yld i H x H'/\tn (i+1) s2.heap/\∀ b∈fp,H' b=none) E s1) E s
 done:∀ (X:Cx),X.prog=P->X.w=w->X.K=K->X.calm=true->∀ (i:Nat) (pins:List (Addr × Obj)) (s:Shared) (σ:St) (H:Hp) (E:Value->Shared->Prop),Inv X pins σ H s->(∀ b∈fp,oT X pins H b)->tn i s.heap->J.stop i H →
  wpAny (model P w) X.A (pyNext (.ref it)) (λ r s1=>r=none/\Inv X pins σ H s1) E s
 self:∀ (A:Around) (i:Nat) (s:Shared) (Q:Value->Shared->Prop) (E:Value->Shared->Prop),tn i s.heap->Q (.ref it) s->wpAny (model P w) A (pyIter (.ref it)) Q E s
abbrev TI:=St->Hp->(It->Hp->Prop)->Prop
def PIE(X:Cx)(pins:List (Addr × Obj))(σ:St)(tg:Expr)(R:It->Hp->Prop)(itv:Value)(s2:Shared):Prop:=
 ∃ (it:Addr) (fp:List Addr) (tn:Nat->Heap->Prop) (J:It) (H':Hp),itv=.ref it/\Inv X pins σ H' s2/\yK X.prog X.w X.K tg J fp it tn/\tn 0 s2.heap/\(∀ b∈fp,oT X pins H' b)/\R J H'
def PI(X:Cx)(tg iter:Expr)(wi:TI):Prop:=
 ∀ (pins:List (Addr × Obj)) (s:Shared) (σ:St) (H:Hp) (R:It->Hp->Prop),Inv X pins σ H s->wi σ H R →
  wpAny (model X.prog X.w) X.A (eval iter X.env) (λ v s1=>wpAny (model X.prog X.w) X.A (pyIter v) (PIE X pins σ tg R) X.xe s1) X.xe s
theorem yZ{M:Model}{A:Around}{E:Value->Shared->Prop}{s:Shared}{tg:Expr}{it:Addr}{u:Value}{o:Obj}{n:String}{vs:Array Value}{Q:Unit->Shared->Prop}(ho:s.heap.get? it=some o)(hc:o.cls=.type n)(hd:o.data=.fields vs)
    (hn:["enumerate", "zip", "dict_itemiterator", "dict_reverseitemiterator", "odict_iterator", "itertools.zip_longest", "itertools.pairwise"].contains n=false) (hQ:Q () s):wpAny M A (letOwnedTupleGo tg (.ref it) u) Q E s:=by
  unfold letOwnedTupleGo
  cases tg<;>first
    | exact Oz hQ
    | (cases u<;>first
        | exact Oz hQ
        | (refine My (wpAny_load ho ?_)
           rw [hc,hd]
           show wpAny M A (if (["enumerate", "zip", "dict_itemiterator", "dict_reverseitemiterator", "odict_iterator", "itertools.zip_longest", "itertools.pairwise"].contains n && vs[0]? == some (rawInt _))=true then _ else _) Q E s
           rw [O2 (by intro h;rw [hn,QF] at h;cases h)];exact Oz hQ))
def Itl(K:W.Frag)(a:Addr):It:=
 ⟨λ i H=>∃ xs x,SqL K H a xs/\xs[i]? = some x,λ i H x H'=>H'=H/\∀ xs,SqL K H a xs->xs[i]? = some x,λ i H=>∃ xs,SqL K H a xs/\xs.length<=i⟩
def Itt(K:W.Frag)(a:Addr):It:=
 ⟨λ i H=>∃ xs x,SqT K H a xs/\xs[i]? = some x,λ i H x H'=>H'=H/\∀ xs,SqT K H a xs->xs[i]? = some x,λ i H=>∃ xs,SqT K H a xs/\xs.length<=i⟩
def Itr(lo:Int)(n:Nat):It:=⟨λ i _=>i < n,λ i H x H'=>H'=H/\x=.int (lo+i),λ i _=>n<=i⟩
theorem wA{P:Program}{w:World}{K:W.Frag}{tg:Expr}(a it:Addr):yK P w K tg (Itl K a) [it] it (λ i h=>h.IsListIter it a i) where
 mem:=by simp
 obj:=λ i h st b hb=>by
  have e:b=it:=by simpa using hb
  subst e;obtain⟨o,e,c,d⟩:=st;exact⟨o,e,λ v z=>by rw [d] at z;cases z⟩
 keep:=λ i h h' st k=>st.at λ o e=>k it (by simp) o e
 item:=by
  intro X hP hw hK hc i pins s σ H E I hf st hg;subst hP hw hK;obtain⟨xs,x,hq,hx⟩:=hg;obtain⟨its,rv,p,hz⟩:=I.list hq;obtain⟨u,hu,ru⟩:=rv.get hx;obtain⟨f0,f1,f2,f3,f4,f5⟩:=hf it (by simp);refine wpAny_pyNext_list_item st p.isList (x:=u) (by simpa using hu) λ h' st' sb=>?_;have I1:Inv X pins σ H { s with heap:=h' }:=I.turned (t':=s.toks) (λ b o hb e=>(sb.2 b hb).trans e) f0 f1 f3 f4 f5;obtain⟨o,e,c,d⟩:=id st';exact⟨u,rfl,yZ (s:={ s with heap:=h' }) e c d (by decide) ⟨x,H,I1,ru,⟨rfl,λ ys hy=>by rw [I.list_inj hy hq];exact hx⟩,st',λ b hb=>(hf b hb).1⟩⟩
 done:=by
  intro X hP hw hK hc i pins s σ H E I hf st hg;subst hP hw hK;obtain⟨xs,hq,hx⟩:=hg;obtain⟨its,rv,p,hz⟩:=I.list hq;obtain⟨f0,f1,f2,f3,f4,f5⟩:=hf it (by simp);have hl:=rv.length;exact wpAny_pyNext_list_end (I.ok.hd hc) st p.isList (by simp;omega) λ h' eb=>⟨rfl,I.turned (t':=s.toks) (λ b o hb e=>eb b o hb e) f0 f1 f3 f4 f5⟩
 self:=λ _ _ _ _ _ st h=>wpAny_pyIter_listiter st h
theorem sA{P:Program}{w:World}{K:W.Frag}{tg:Expr}(a it:Addr):yK P w K tg (Itt K a) [it] it (λ i h=>h.IsTupleIter it a i) where
 mem:=by simp
 obj:=λ i h st b hb=>by
  have e:b=it:=by simpa using hb
  subst e;obtain⟨o,e,c,d⟩:=st;exact⟨o,e,λ v z=>by rw [d] at z;cases z⟩
 keep:=λ i h h' st k=>st.at λ o e=>k it (by simp) o e
 item:=by
  intro X hP hw hK hc i pins s σ H E I hf st hg;subst hP hw hK;obtain⟨xs,x,hq,hx⟩:=hg;obtain⟨its,rv,p,hz⟩:=I.tuple hq;obtain⟨u,hu,ru⟩:=rv.get hx;obtain⟨f0,f1,f2,f3,f4,f5⟩:=hf it (by simp);refine wpAny_pyNext_tuple_item st (show s.heap.IsTuple a its.toArray from p) (x:=u) (by simpa using hu) λ h' st' sb=>?_;have I1:Inv X pins σ H { s with heap:=h' }:=I.turned (t':=s.toks) (λ b o hb e=>(sb.2 b hb).trans e) f0 f1 f3 f4 f5;obtain⟨o,e,c,d⟩:=id st';exact⟨u,rfl,yZ (s:={ s with heap:=h' }) e c d (by decide) ⟨x,H,I1,ru,⟨rfl,λ ys hy=>by rw [I.tuple_inj hy hq];exact hx⟩,st',λ b hb=>(hf b hb).1⟩⟩
 done:=by
  intro X hP hw hK hc i pins s σ H E I hf st hg;subst hP hw hK;obtain⟨xs,hq,hx⟩:=hg;obtain⟨its,rv,p,hz⟩:=I.tuple hq;obtain⟨f0,f1,f2,f3,f4,f5⟩:=hf it (by simp);have hl:=rv.length;exact wpAny_pyNext_tuple_end (I.ok.hd hc) st (show s.heap.IsTuple a its.toArray from p) (by simp;omega) λ h' eb=>⟨rfl,I.turned (t':=s.toks) (λ b o hb e=>eb b o hb e) f0 f1 f3 f4 f5⟩
 self:=λ _ _ _ _ _ st h=>wpAny_pyIter_tupleiter st h
theorem sC{P:Program}{w:World}{K:PySem.W.Frag}{tg:Expr}(it:Addr)(lo:Int)(n:Nat):yK P w K tg (Itr lo n) [it] it (λ i h=>IsRangeIter h it (lo+(i:Nat) * 1) ((n:Int) - (i:Nat)) 1) where
 mem:=by simp
 obj:=λ i h st b hb=>by
  have e:b=it:=by simpa using hb
  subst e
  exact⟨_,st,λ v z=>by
   have z':Data.fields _=Data.cell v:=z;cases z'⟩
 keep:=λ i h h' st k=>k it (by simp) _ st
 item:=by
  intro X hP hw hK hc i pins s σ H E I hf st hg;subst hP hw hK;obtain⟨f0,f1,f2,f3,f4,f5⟩:=hf it (by simp);have W:=Walks.range (prog:=X.prog) (w:=X.w) (I.ok.hd hc) it lo 1 n;refine W.item i s _ _ hg st λ v h' tk hv st' kk=>?_;obtain⟨t,rfl⟩:=hv;have I1:Inv X pins σ H { s with heap:=h',toks:=tk }:=I.turned (λ b o hb e=>kk b o (by simpa using hb) e) f0 f1 f3 f4 f5;refine⟨_,rfl,yZ (s:={ s with heap:=h',toks:=tk }) (n := "range_iterator") st' rfl rfl (by decide) ⟨.int (lo+i),H,I1,⟨t,?_⟩,⟨rfl,rfl⟩,st',λ b hb=>(hf b hb).1⟩⟩;rw [Ro]
 done:=by
  intro X hP hw hK hc i pins s σ H E I hf st hg;subst hP hw hK;obtain⟨f0,f1,f2,f3,f4,f5⟩:=hf it (by simp);exact wpAny_pyNext_range_end (I.ok.hd hc) st (by have:n<=i:=hg;omega) λ h' eb=>⟨rfl,I.turned (t':=s.toks) (λ b o hb e=>eb b o hb e) f0 f1 f3 f4 f5⟩
 self:=λ _ _ _ _ _ st h=>wpAny_pyIter_rangeiter st h
section
variable {X:Cx}{tg:Expr}
theorem zH{pins:List (Addr × Obj)}{σ:St}{H:Hp}{s:Shared}{R:It->Hp->Prop}{E:Value->Shared->Prop}{lo hi:Int}{t u v:Tok}{tk:Nat}(I:Inv X pins σ H s)(h1:-(2 ^ 62)<=lo)(h2:lo < 2 ^ 62)(h3:-(2 ^ 62)<=hi)(h4:hi < 2 ^ 62)
  (q:R (Itr lo (hi - lo).toNat) H):wpAny (model X.prog X.w) X.A (pyIter (.ref s.heap.objs.size)) (PIE X pins σ tg R) E { s with heap:=s.heap.push { cls:=.type "range",data:=.fields #[.int lo t,.int hi u,.int 1 v] },toks:=tk }:=by
 refine wpAny_pyIter_range (IsRange.new ..) (small_one h1 h2 h3 h4) ?_;have I1:Inv X pins σ H { s with heap:=s.heap.push { cls:=.type "range",data:=.fields #[.int lo t,.int hi u,.int 1 v] },toks:=tk }:=I.kept λ b o e=>Ox _ e
 refine⟨(s.heap.push { cls:=.type "range",data:=.fields #[.int lo t,.int hi u,.int 1 v] }).objs.size,[(s.heap.push { cls:=.type "range",data:=.fields #[.int lo t,.int hi u,.int 1 v] }).objs.size],_,_,H,rfl,
  I1.kept (t':=tk) λ b o e=>Ox _ e,sC _ lo (hi - lo).toNat,?_,λ b hb=>?_,q⟩
 ·have e1:lo+((0:Nat):Int) * 1=lo:=by simp
  have e2:(((hi - lo).toNat:Nat):Int) - ((0:Nat):Int)=Builtin.Range.rangeSize lo hi 1:=by rw [rangeSize_one];split<;>omega
  show IsRangeIter _ _ (lo+((0:Nat):Int) * 1) ((((hi - lo).toNat:Nat):Int) - ((0:Nat):Int)) 1
  rw [e1,e2];exact OD _ rfl
 ·have e:b=(s.heap.push { cls:=.type "range",data:=.fields #[.int lo t,.int hi u,.int 1 v] }).objs.size:=by simpa using hb
  subst e;exact I1.fpOk (OC _) (I1.hok.fresh (OC _))
def Hr(ta:TA):TI:=λ σ H R=>ta σ H λ vs H1=>∃ j:Int,vs=[.int j]/\-(2 ^ 62)<=j/\j < 2 ^ 62/\R (Itr 0 j.toNat) H1
theorem wK{a:Expr}{ta:TA}{p pos:Pos}(hg:Gl X "range")(hm:X.mg "range"=none)(ha:PA X [a] ta)(hs:starEach [a] X.env=[(false,eval a X.env)]:=by rfl):PI X tg (.Call (.Name "range" p) [a] [] pos) (Hr ta):=by
 intro pins s σ H R I h;refine Call_ (dJ I hg hm boot_range (Pc (thn (ha pos pins s σ H _ I h) λ us s1 ⟨vs,H1,I1,r1,q1⟩=>?_) hs rfl));obtain⟨j,e,q1,q2,q⟩:=q1;subst e
 cases r1 with
 | cons r rr=>
  cases rr;obtain⟨t,rfl⟩:=r;exact call_range_1 (zH I1 (by omega) (by omega) q1 q2 (by simpa using q))
def MB(wi:TI)(g:TG)(tb:TS):TS:=λ D σ H=>wi σ H λ J H1=>∃ W:Nat->Nat->St->Hp->Prop,(∃ m,W 0 m σ H1)/\∀ i m σ H,W i m σ H →
 (J.stop i H/\D.nx σ H)\/(J.go i H/\∃ N:St->Hp->Prop,(∀ σ' H',N σ' H'->∃ m',m' < m/\W (i+1) m' σ' H')/\∀ x H',J.yld i H x H'->g x σ H' λ σ2 H2=>tb { D with nx:=N,ct:=N,bk:=D.nx } σ2 H2)
def mV(fp:List Addr)(h:Heap):List (Addr × Obj):=fp.filterMap λ b=>(h.get? b).map λ o=>(b,o)
theorem fv{fp:List Addr}{h:Heap}{b:Addr}{o:Obj}(hb:b∈fp)(e:h.get? b=some o):(b,o)∈mV fp h:=List.mem_filterMap.mpr ⟨b,hb,by rw [e];rfl⟩
theorem wY{fp:List Addr}{h:Heap}{p:Addr × Obj}(hp:p∈mV fp h):p.1∈fp/\h.get? p.1=some p.2:=by
 obtain⟨b,hb,e⟩:=List.mem_filterMap.mp hp
 cases q:h.get? b with
 | none=>rw [q] at e;cases e
 | some o=>
  rw [q] at e;have e':(b,o)=p:=O1 e;subst e';exact⟨hb,q⟩
theorem Inv.pinned{pins:List (Addr × Obj)}{σ:St}{H:Hp}{s:Shared}{fp:List Addr}(I:Inv X pins σ H s)(hf:∀ b∈fp,oT X pins H b)(ho:∀ b∈fp,∃ o,s.heap.get? b=some o/\∀ v,o.data ≠ .cell v):Inv X (pins++mV fp s.heap) σ H s:=
 I.pins_of λ p hp=>(OQ.mp hp).elim (λ z=>I.pin p (Pm _ z)) λ z=>by
  obtain⟨hb,e⟩:=wY z;obtain⟨f0,f1,f2,_⟩:=hf p.1 hb;obtain⟨o,e',d⟩:=ho p.1 hb;rw [e] at e';cases e';exact⟨e,f0,f1,f2,d⟩
theorem Inv.unpinned{pins pl:List (Addr × Obj)}{σ:St}{H:Hp}{s:Shared}(I:Inv X (pins++pl) σ H s):Inv X pins σ H s:=I.pins_of λ p hp=>I.pin p (Pm _ (Qp _ hp))
theorem HL{iter:Expr}{body:List Stmt}{wi:TI}{g:TG}{tb:TS}{pos:Pos}(hp:PassesOwn (model X.prog X.w) X.A X.env X.xe)(hc:X.calm=true)(hi:PI X tg iter wi)(hg:PG X tg g)(hb:PSs X body tb)
  (hs:∀ x,foldedSetIterable iter X.env x=pure x:=by intro _;rfl):PS X (.For tg iter body [] pos) (MB wi g tb):=by
 intro pins s σ H D I h;refine wpAny_For (thn (hi pins s σ H _ I h) λ v s1 h1=>thn h1 λ itv s2 h2=>?_) hs;obtain⟨it,fp,tn,J,H2,e,I2,T,st2,f2,W,⟨m0,w0⟩,turn⟩:=h2;subst e;have stat:∀ {H':Hp},(∀ b∈fp,H' b=none)->∀ b∈fp,oT X pins H' b:=λ hn b hb=>⟨hn b hb,(f2 b hb).2⟩;refine codeAny_forLoop_any (λ n s'=>∃ i σ' H',Inv X pins σ' H' s'/\tn i s'.heap/\(∀ b∈fp,H' b=none)/\W i n σ' H') ?_ m0 ⟨0,σ,H2,I2,st2,λ b hb=>(f2 b hb).1,w0⟩;rintro n s3 ⟨i,σ3,H3,I3,st3,fr3,w3⟩
 rcases turn i n σ3 H3 w3 with ⟨stop,qn⟩|⟨go,N,hN,step⟩
 ·refine QC hp (thn (T.done X rfl rfl rfl hc i pins s3 σ3 H3 X.xe I3 (stat fr3) st3 stop) λ r s4 ⟨hr,I4⟩=>?_);subst hr;exact R6 ⟨σ3,H3,I4,qn⟩
 ·refine QC hp (thn (T.item X rfl rfl rfl hc i pins s3 σ3 H3 X.xe I3 (stat fr3) st3 go) λ r s4 ⟨u,hr,h4⟩=>?_);subst hr;refine QC hp (thn h4 λ _ s5 ⟨x,H5,I5,r5,y5,st5,fr5⟩=>?_);have I5':=I5.pinned (stat fr5) (T.obj _ _ st5);refine QC hp (thn (hg _ s5 σ3 H5 x u _ I5' r5 (step x H5 y5)) λ _ s6 ⟨σ6,H6,I6,q6⟩=>?_);refine QC hp (thn (hb _ s6 σ6 H6 _ I6 q6) λ f s7 q7=>?_)
  have again:∀ {σ7:St} {H7:Hp},Inv X (pins++mV fp s5.heap) σ7 H7 s7->N σ7 H7->∃ m,m < n/\∃ i σ' H',Inv X pins σ' H' s7/\tn i s7.heap/\(∀ b∈fp,H' b=none)/\W i m σ' H':=λ {σ7 H7} I7 n7=>by
   obtain⟨m',hm,w7⟩:=hN σ7 H7 n7;refine⟨m',hm,i+1,σ7,H7,I7.unpinned,T.keep _ _ _ st5 λ b hb o e=>(I7.pin (b,o) (Pm _ (Pm _ (fv hb e)))).1,λ b hb=>?_,w7⟩;obtain⟨o,e,d⟩:=T.obj _ _ st5 b hb;exact(I7.pin (b,o) (Pm _ (Pm _ (fv hb e)))).2.1
  cases f with
  | next=>obtain⟨σ7,H7,I7,n7⟩:=q7;exact again I7 n7
  | cont=>obtain⟨σ7,H7,I7,n7⟩:=q7;exact again I7 n7
  | brk=>obtain⟨σ7,H7,I7,q7⟩:=q7;exact⟨σ7,H7,I7.unpinned,q7⟩
  | ret v=>obtain⟨x7,σ7,H7,I7,r7,q7⟩:=q7;exact⟨x7,σ7,H7,I7.unpinned,r7,q7⟩
end
theorem Bo{K:PySem.W.Frag}{a:Addr}{xs:List V}{g:TG}{tb:TS}{D:qG}{σ:St}{H:Hp}(Pv:Nat->St->Hp->Prop)(h0:Pv 0 σ H)(hl:∀ i σ H,i<=xs.length->Pv i σ H->SqL K H a xs)
  (hs:∀ i x σ H,xs[i]? = some x->Pv i σ H->g x σ H λ σ2 H2=>tb { D with nx:=Pv (i+1),ct:=Pv (i+1),bk:=D.nx } σ2 H2) (hd:∀ σ H,Pv xs.length σ H->D.nx σ H) :
  ∃ W:Nat->Nat->St->Hp->Prop,(∃ m,W 0 m σ H)/\∀ i m σ H,W i m σ H →
   ((Itl K a).stop i H/\D.nx σ H)\/((Itl K a).go i H/\∃ N:St->Hp->Prop,(∀ σ' H',N σ' H'->∃ m',m' < m/\W (i+1) m' σ' H')/\∀ x H',(Itl K a).yld i H x H'->g x σ H' λ σ2 H2=>tb { D with nx:=N,ct:=N,bk:=D.nx } σ2 H2):=by
 refine⟨λ i m σ H=>m=xs.length - i/\i<=xs.length/\Pv i σ H,⟨xs.length,by simp,PD _,h0⟩,?_⟩;rintro i m σ H ⟨rfl,hi,p⟩;have q:=hl i σ H hi p
 by_cases hlt:i < xs.length
 ·refine .inr ⟨⟨xs,xs[i],q,by simp [hlt]⟩,Pv (i+1),λ σ' H' p'=>⟨xs.length - (i+1),by omega,rfl,hlt,p'⟩,λ x H' y=>?_⟩;obtain⟨e,y⟩:=y;subst e;exact hs i x σ _ (y xs q) p
 ·have e:i=xs.length:=by omega
  subst e;exact .inl ⟨⟨xs,q,OC _⟩,hd σ H p⟩
theorem ym{lo:Int}{n:Nat}{g:TG}{tb:TS}{D:qG}{σ:St}{H:Hp}(Pv:Nat->St->Hp->Prop)(h0:Pv 0 σ H)
  (hs:∀ i σ H,i < n->Pv i σ H->g (.int (lo+i)) σ H λ σ2 H2=>tb { D with nx:=Pv (i+1),ct:=Pv (i+1),bk:=D.nx } σ2 H2) (hd:∀ σ H,Pv n σ H->D.nx σ H) :
  ∃ W:Nat->Nat->St->Hp->Prop,(∃ m,W 0 m σ H)/\∀ i m σ H,W i m σ H →
   ((Itr lo n).stop i H/\D.nx σ H)\/((Itr lo n).go i H/\∃ N:St->Hp->Prop,(∀ σ' H',N σ' H'->∃ m',m' < m/\W (i+1) m' σ' H')/\∀ x H',(Itr lo n).yld i H x H'->g x σ H' λ σ2 H2=>tb { D with nx:=N,ct:=N,bk:=D.nx } σ2 H2):=by
 refine⟨λ i m σ H=>m=n - i/\i<=n/\Pv i σ H,⟨n,by simp,PD _,h0⟩,?_⟩;rintro i m σ H ⟨rfl,hi,p⟩
 by_cases hlt:i < n
 ·refine .inr ⟨hlt,Pv (i+1),λ σ' H' p'=>⟨n - (i+1),by omega,rfl,hlt,p'⟩,λ x H' y=>?_⟩;obtain⟨e,y⟩:=y;subst e y;exact hs i σ _ hlt p
 ·have e:i=n:=by omega
  subst e;exact .inl ⟨OC _,hd σ H p⟩
abbrev R2:=V->V->Hp->VK->Prop
def OpR(X:Cx)(f:Value->Value->Sem Value)(r:R2):Prop:=
 ∀ (pins:List (Addr × Obj)) (s:Shared) (σ:St) (H:Hp) (x y:V) (v u:Value) (Q:VK),Inv X pins σ H s->bF x v->bF y u->r x y H Q →
  wpAny (model X.prog X.w) X.A (f v u) (EP X pins σ Q) X.xe s
def UnR(X:Cx)(f:Value->Sem Value)(r:V->Hp->VK->Prop):Prop:=
 ∀ (pins:List (Addr × Obj)) (s:Shared) (σ:St) (H:Hp) (x:V) (v:Value) (Q:VK),Inv X pins σ H s->bF x v->r x H Q →
  wpAny (model X.prog X.w) X.A (f v) (EP X pins σ Q) X.xe s
def cn(X:Cx)(f:Value)(r:List V->Hp->VK->Prop):Prop:=
 ∀ (pins:List (Addr × Obj)) (s:Shared) (σ:St) (H:Hp) (xs:List V) (us:List Value) (Q:VK),Inv X pins σ H s->aU xs us->r xs H Q →
  wpAny (model X.prog X.w) X.A (call f us) (EP X pins σ Q) X.xe s
def tOp(r:R2)(ta tb:TE):TE:=λ σ H Q=>ta σ H λ x H1=>tb σ H1 λ y H2=>r x y H2 Q
def tUn(r:V->Hp->VK->Prop)(ta:TE):TE:=λ σ H Q=>ta σ H λ x H1=>r x H1 Q
def rI(C:Int->Int->Prop)(g:Int->Int->V):R2:=λ x y H Q=>∃ i j,x=.int i/\y=.int j/\C i j/\Q (g i j) H
def rI0(g:Int->Int->V):R2:=λ x y H Q=>∃ i j,x=.int i/\y=.int j/\Q (g i j) H
def rU(g:Int->V):V->Hp->VK->Prop:=λ x H Q=>∃ i,x=.int i/\Q (g i) H
section
variable {X:Cx}{a b c:Expr}{ta tb tc:TE}{pos:Pos}
theorem K8(ha:PE X a ta)(hb:PE X b tb){pins:List (Addr × Obj)}{s:Shared}{σ:St}{H:Hp}{R:V->V->Hp->Prop}(I:Inv X pins σ H s)
  (h:ta σ H λ x H1=>tb σ H1 λ y H2=>R x y H2) {Q:Value->Shared->Prop} {f:Value->Value->Sem Value}
  (hf:∀ v u s2 x y H2,Inv X pins σ H2 s2->bF x v->bF y u->R x y H2->wpAny (model X.prog X.w) X.A (f v u) Q X.xe s2) :
  wpAny (model X.prog X.w) X.A (eval a X.env) (λ v s₁=>wpAny (model X.prog X.w) X.A (eval b X.env) (λ u s₂=>wpAny (model X.prog X.w) X.A (f v u) Q X.xe s₂) X.xe s₁) X.xe s:=by
 refine thn (ha pins s σ H _ I h) λ v s1 ⟨x,H1,I1,r1,q1⟩=>?_;refine thn (hb pins s1 σ H1 _ I1 q1) λ u s2 ⟨y,H2,I2,r2,q2⟩=>?_;exact hf v u s2 x y H2 I2 r1 r2 q2
theorem eO{op:Operator}{r:R2}(ho:OpR X (binaryOp op) r)(ha:PE X a ta)(hb:PE X b tb):PE X (.BinOp a op b pos) (tOp r ta tb):=by
 intro pins s σ H Q I h;exact wpAny_BinOp (K8 ha hb I h λ v u s2 x y H2 I2 rx ry q=>ho pins s2 σ H2 x y v u Q I2 rx ry q)
theorem oU{op:UnaryOp}{r:V->Hp->VK->Prop}(ho:UnR X (unaryOp op) r)(ha:PE X a ta):PE X (.UnaryOp op a pos) (tUn r ta):=by
 intro pins s σ H Q I h;exact UnaryOp_ (thn (ha pins s σ H _ I h) λ v s1 ⟨x,H1,I1,r1,q1⟩=>ho pins s1 σ H1 x v Q I1 r1 q1)
theorem opI{f:Value->Value->Sem Value}{C:Int->Int->Prop}{g:Int->Int->Int}
  (rule:∀ (i j:Int) (t u:Tok) (s:Shared) (Q:Value->Shared->Prop) (E:Value->Shared->Prop),C i j->Q (.int (g i j) s.toks) { s with toks:=s.toks+1 }->wpAny (model X.prog X.w) X.A (f (.int i t) (.int j u)) Q E s) :
  OpR X f (rI C λ i j=>.int (g i j)):=by
 intro pins s σ H x y v u Q I rx ry h;obtain⟨i,j,rfl,rfl,hc,q⟩:=h;obtain⟨t,rfl⟩:=rx;obtain⟨t',rfl⟩:=ry;exact rule i j t t' s _ _ hc ⟨.int (g i j),H,I.tok _,⟨_,rfl⟩,q⟩
theorem MO{f:Value->Value->Sem Value}{g:Int->Int->Int}
  (rule:∀ (i j:Int) (t u:Tok) (s:Shared) (Q:Value->Shared->Prop) (E:Value->Shared->Prop),Q (.int (g i j) s.toks) { s with toks:=s.toks+1 }->wpAny (model X.prog X.w) X.A (f (.int i t) (.int j u)) Q E s) :
  OpR X f (rI0 λ i j=>.int (g i j)):=by
 intro pins s σ H x y v u Q I rx ry h;obtain⟨i,j,rfl,rfl,q⟩:=h;obtain⟨t,rfl⟩:=rx;obtain⟨t',rfl⟩:=ry;exact rule i j t t' s _ _ ⟨.int (g i j),H,I.tok _,⟨_,rfl⟩,q⟩
theorem J8{f:Value->Value->Sem Value}{g:Int->Int->Bool}
  (rule:∀ (i j:Int) (t u:Tok) (s:Shared) (Q:Value->Shared->Prop) (E:Value->Shared->Prop),Q (.bool (g i j)) s->wpAny (model X.prog X.w) X.A (f (.int i t) (.int j u)) Q E s) :
  OpR X f (rI0 λ i j=>.bl (g i j)):=by
 intro pins s σ H x y v u Q I rx ry h;obtain⟨i,j,rfl,rfl,q⟩:=h;obtain⟨t,rfl⟩:=rx;obtain⟨t',rfl⟩:=ry;exact rule i j t t' s _ _ ⟨.bl (g i j),H,I,rfl,q⟩
def Lb(i j:Int):Prop:=0 < j/\j < 1073741824
def La(i j:Int):Prop:=0<=j/\j<=1000000/\i.natAbs < 2 ^ 64
def mK(i j:Int):Prop:=(-(2 ^ 64) < i/\i < 2 ^ 64)\/(-(2 ^ 64) < j/\j < 2 ^ 64)
theorem mK.ok{i j:Int}(h:mK i j):IntMulOk i j:=by
 rcases h with ⟨h1,h2⟩|⟨h1,h2⟩
 ·exact .of_left (intBits_le_64 h1 h2)
 ·exact .of_right (intBits_le_64 h1 h2)
theorem qM:OpR X (binaryOp .Add) (rI0 λ i j=>.int (i+j)):=MO λ _ _ _ _ _ _ _ q=>add_int q
theorem HZ:OpR X (binaryOp .Sub) (rI0 λ i j=>.int (i - j)):=MO λ _ _ _ _ _ _ _ q=>sub_int q
theorem ir:OpR X (binaryOp .Mult) (rI mK λ i j=>.int (i * j)):=opI λ _ _ _ _ _ _ _ hc q=>mul_int q hc.ok
theorem DP:OpR X (binaryOp .FloorDiv) (rI Lb λ i j=>.int (i / j)):=opI λ i j _ _ _ _ _ hc q=>by
 have h1:(0:Int) < j:=hc.1;have h2:j < 1073741824:=hc.2;exact floordiv_int (by omega) (by rw [Int.fdiv_eq_ediv_of_nonneg i (by omega)];exact q) (.inl (PyProof.noPylong_small (by omega)))
theorem iU:OpR X (binaryOp .Mod) (rI (λ _ j=>0 < j) λ i j=>.int (i % j)):=opI λ i j _ _ _ _ _ hc q=>by
 have h1:(0:Int) < j:=hc;exact mod_int' (by omega) (by rw [Int.fmod_eq_emod_of_nonneg i (by omega)];exact q)
theorem Ib:OpR X (binaryOp .Pow) (rI La λ i j=>.int (i ^ j.toNat)):=opI λ _ _ _ _ _ _ _ hc q=>pow_int_small hc.1 hc.2.1 hc.2.2 q
theorem unI{f:Value->Sem Value}{g:Int->Int}
  (rule:∀ (i:Int) (t:Tok) (s:Shared) (Q:Value->Shared->Prop) (E:Value->Shared->Prop),Q (.int (g i) s.toks) { s with toks:=s.toks+1 }->wpAny (model X.prog X.w) X.A (f (.int i t)) Q E s) :
  UnR X f (rU λ i=>.int (g i)):=by
 intro pins s σ H x v Q I rx h;obtain⟨i,rfl,q⟩:=h;obtain⟨t,rfl⟩:=rx;exact rule i t s _ _ ⟨.int (g i),H,I.tok _,⟨_,rfl⟩,q⟩
theorem Hz:UnR X (unaryOp .USub) (rU λ i=>.int (-i)):=unI λ _ _ _ _ _ q=>neg_int q
end
def Gu:V->V->Bool
 | .non,.non=>true | .non,.int _=>true | .int _,.non=>true | .non,.bl _=>true | .bl _,.non=>true | .non,.str _=>true | .str _,.non=>true
 | .int _,.int _=>true | .bl _,.bl _=>true | .str _,.str _=>true | .byt _,.byt _=>true
 | .int _,.str _=>true | .str _,.int _=>true | .bl _,.str _=>true | .str _,.bl _=>true
 | _,_=>false
def rEq:R2:=λ x y H Q=>Gu x y=true/\Q (.bl (decide (x=y))) H
def rNe:R2:=λ x y H Q=>Gu x y=true/\Q (.bl (!decide (x=y))) H
theorem vN{i j:Int}:decide (V.int i=V.int j)=(i == j):=by
 rw [PZ];simp
theorem B6{i j:Bool}:decide (V.bl i=V.bl j)=(i == j):=by
 rw [PZ];simp
theorem vM{i j:Str}:decide (V.str i=V.str j)=(i == j):=by
 rw [PZ];simp
theorem vO{i j:Array UInt8}:decide (V.byt i=V.byt j)=(i.toList == j.toList):=by
 rw [PZ];cases i;cases j;simp
section
variable {X:Cx}{a b c:Expr}{ta tb tc:TE}{pos:Pos}
theorem aL{pins:List (Addr × Obj)}{σ:St}{H:Hp}{s:Shared}{Q:VK}{k k':Bool}(I:Inv X pins σ H s)(q:Q (.bl k) H)(e:k=k'):EP X pins σ Q (.bool k') s:=by
 subst e;exact⟨.bl k,H,I,rfl,q⟩
theorem Lm:OpR X (compareOp .Eq) rEq:=by
 intro pins s σ H x y v u Q I rx ry h;obtain⟨hs,q⟩:=h
 cases x with
 | non=>
  cases rx
  cases y with
  | non=>cases ry;exact PySem.EqNone.eq_none_none (aL I q (by simp))
  | bl j=>cases ry;exact PySem.EqNone.eq_none_bool (aL I q (by simp))
  | int j=>obtain⟨t',rfl⟩:=ry;exact PySem.EqNone.eq_none_int (aL I q (by simp))
  | str j=>obtain⟨t',rfl⟩:=ry;exact PySem.EqNone.eq_none_str (aL I q (by simp))
  | _=>exact absurd (show false=true from hs) OP
 | bl i=>
  cases rx
  cases y with
  | non=>cases ry;exact PySem.EqNone.eq_bool_none (aL I q (by simp))
  | bl j=>cases ry;exact eq_bool (aL I q B6)
  | str j=>obtain⟨t',rfl⟩:=ry;exact PySem.EqMixed.eq_bool_str (aL I q (by simp))
  | _=>exact absurd (show false=true from hs) OP
 | int i=>
  obtain⟨t,rfl⟩:=rx
  cases y with
  | non=>cases ry;exact PySem.EqNone.eq_int_none (aL I q (by simp))
  | int j=>obtain⟨t',rfl⟩:=ry;exact eq_int (aL I q vN)
  | str j=>obtain⟨t',rfl⟩:=ry;exact PySem.EqMixed.eq_int_str (aL I q (by simp))
  | _=>exact absurd (show false=true from hs) OP
 | str i=>
  obtain⟨t,rfl⟩:=rx
  cases y with
  | non=>cases ry;exact PySem.EqNone.eq_str_none (aL I q (by simp))
  | bl j=>cases ry;exact PySem.EqMixed.eq_str_bool (aL I q (by simp))
  | int j=>obtain⟨t',rfl⟩:=ry;exact PySem.EqMixed.eq_str_int (aL I q (by simp))
  | str j=>obtain⟨t',rfl⟩:=ry;exact eq_str (aL I q vM)
  | _=>exact absurd (show false=true from hs) OP
 | byt i=>
  obtain⟨t,rfl⟩:=rx
  cases y with
  | byt j=>obtain⟨t',rfl⟩:=ry;exact W.eq_bytes (aL I q vO)
  | _=>exact absurd (show false=true from hs) OP
 | _=>cases y<;>exact absurd (show false=true from hs) OP
theorem Lj:OpR X (compareOp .NotEq) rNe:=by
 intro pins s σ H x y v u Q I rx ry h;obtain⟨hs,q⟩:=h
 cases x with
 | non=>
  cases rx
  cases y with
  | non=>cases ry;exact PySem.EqNone.ne_none_none (aL I q (by simp))
  | bl j=>cases ry;exact PySem.EqNone.ne_none_bool (aL I q (by simp))
  | int j=>obtain⟨t',rfl⟩:=ry;exact PySem.EqNone.ne_none_int (aL I q (by simp))
  | str j=>obtain⟨t',rfl⟩:=ry;exact PySem.EqNone.ne_none_str (aL I q (by simp))
  | _=>exact absurd (show false=true from hs) OP
 | bl i=>
  cases rx
  cases y with
  | non=>cases ry;exact PySem.EqNone.ne_bool_none (aL I q (by simp))
  | bl j=>cases ry;exact ne_bool (aL I q (Qk not B6))
  | str j=>obtain⟨t',rfl⟩:=ry;exact PySem.EqMixed.ne_bool_str (aL I q (by simp))
  | _=>exact absurd (show false=true from hs) OP
 | int i=>
  obtain⟨t,rfl⟩:=rx
  cases y with
  | non=>cases ry;exact PySem.EqNone.ne_int_none (aL I q (by simp))
  | int j=>obtain⟨t',rfl⟩:=ry;exact ne_int (aL I q (Qk not vN))
  | str j=>obtain⟨t',rfl⟩:=ry;exact PySem.EqMixed.ne_int_str (aL I q (by simp))
  | _=>exact absurd (show false=true from hs) OP
 | str i=>
  obtain⟨t,rfl⟩:=rx
  cases y with
  | non=>cases ry;exact PySem.EqNone.ne_str_none (aL I q (by simp))
  | bl j=>cases ry;exact PySem.EqMixed.ne_str_bool (aL I q (by simp))
  | int j=>obtain⟨t',rfl⟩:=ry;exact PySem.EqMixed.ne_str_int (aL I q (by simp))
  | str j=>obtain⟨t',rfl⟩:=ry;exact ne_str (aL I q (Qk not vM))
  | _=>exact absurd (show false=true from hs) OP
 | byt i=>
  obtain⟨t,rfl⟩:=rx
  cases y with
  | byt j=>obtain⟨t',rfl⟩:=ry;exact W.ne_bytes (aL I q (Qk not vO))
  | _=>exact absurd (show false=true from hs) OP
 | _=>cases y<;>exact absurd (show false=true from hs) OP
theorem GV:OpR X (compareOp .Lt) (rI0 λ i j=>.bl (decide (i < j))):=J8 λ _ _ _ _ _ _ _ q=>lt_int q
theorem Lk:OpR X (compareOp .LtE) (rI0 λ i j=>.bl (decide (i<=j))):=J8 λ _ _ _ _ _ _ _ q=>le_int q
theorem GW:OpR X (compareOp .Gt) (rI0 λ i j=>.bl (decide (j < i))):=J8 λ _ _ _ _ _ _ _ q=>gt_int q
theorem Ll:OpR X (compareOp .GtE) (rI0 λ i j=>.bl (decide (j<=i))):=J8 λ _ _ _ _ _ _ _ q=>ge_int q
theorem DM:OpR X (compareOp .IsNot) (λ x y H Q=>y=.non/\Q (.bl (!decide (x=.non))) H):=by
 intro pins s σ H x y v u Q I rx ry h;obtain⟨rfl,q⟩:=h;cases ry;refine isnot_none_gen (aL I q ?_)
 cases x<;>first
  | (cases rx;rfl)
  | (obtain⟨t,rfl⟩:=rx;rfl)
theorem OpR.or{f:Value->Value->Sem Value}{r r':R2}(h:OpR X f r)(h':OpR X f r'):OpR X f (λ x y H Q=>r x y H Q\/r' x y H Q):=by
 intro pins s σ H x y v u Q I rx ry q
 rcases q with q|q
 ·exact h pins s σ H x y v u Q I rx ry q
 ·exact h' pins s σ H x y v u Q I rx ry q
theorem ar(b:Expr){op:CmpOp}(h:op ≠ .In:=by decide)(h2:op ≠ .NotIn:=by decide):behindInMarks op b=false:=by
 have e1:(op == CmpOp.In)=false:=by cases op<;>first|rfl|exact absurd rfl h
 have e2:(op == CmpOp.NotIn)=false:=by cases op<;>first|rfl|exact absurd rfl h2
 cases b<;>simp [behindInMarks,e1,e2]
theorem DI{op:CmpOp}{r:R2}(ho:OpR X (compareOp op) r)(ha:PE X a ta)(hb:PE X b tb)(hm:behindInMarks op b=false):PE X (.Compare a [op] [b] pos) (tOp r ta tb):=by
 intro pins s σ H Q I h;exact wpAny_Compare1 (K8 ha hb I h λ v u s2 x y H2 I2 rx ry q=>ho pins s2 σ H2 x y v u Q I2 rx ry q) hm
def Ci(t:TE):TT:=λ σ H Q=>t σ H λ x H'=>∃ k,x=.bl k/\Q k H'
theorem pE{op:CmpOp}{r:R2}(ho:OpR X (compareOp op) r)(ha:PE X a ta)(hb:PE X b tb)(hm:behindInMarks op b=false):PT X (.Compare a [op] [b] pos) (Ci (tOp r ta tb)):=by
 intro pins s σ H Q I h
 refine wpAny_isTrue_Compare1 (thn (ha pins s σ H _ I h) λ v s1 ⟨x,H1,I1,r1,q1⟩=>thn (hb pins s1 σ H1 _ I1 q1) λ u s2 ⟨y,H2,I2,r2,q2⟩=>
  thn (ho pins s2 σ H2 x y v u _ I2 r1 r2 q2) λ c s3 ⟨z,H3,I3,r3,k,e,q3⟩=>?_) hm
 subst e;cases r3;exact P8 ⟨H3,I3,q3⟩
def BQ(r r':R2)(ta tb tc:TE):TE:=λ σ H Q=>ta σ H λ x H1=>tb σ H1 λ y H2=>r x y H2 λ z H3=>∃ k,z=.bl k /\
 (if k=true then tc σ H3 λ w' H4=>r' y w' H4 Q else Q (.bl false) H3)
theorem zT{op op':CmpOp}{r r':R2}(ho:OpR X (compareOp op) r)(ho':OpR X (compareOp op') r')(ha:PE X a ta)(hb:PE X b tb)(hc:PE X c tc)
  (hm:lastMarks [op,op'] [b,c]=false:=by with_unfolding_all rfl):PE X (.Compare a [op,op'] [b,c] pos) (BQ r r' ta tb tc):=by
 intro pins s σ H Q I h
 refine Compare_chain (thn (ha pins s σ H _ I h) λ v s1 ⟨x,H1,I1,r1,q1⟩=>chain_link (thn (hb pins s1 σ H1 _ I1 q1) λ u s2 ⟨y,H2,I2,r2,q2⟩=>
  thn (ho pins s2 σ H2 x y v u _ I2 r1 r2 q2) λ d s3 ⟨z,H3,I3,r3,k,e,q3⟩=>?_)) hm
 subst e;cases r3;refine P8 ?_
 cases k with
 | false=>exact ite_ff ⟨.bl false,H3,I3,rfl,q3⟩
 | true=>exact ite_tt (chain_last (thn (hc pins s3 σ H3 _ I3 q3) λ w' s4 ⟨z',H4,I4,r4,q4⟩=>ho' pins s4 σ H4 y z' u w' Q I4 r2 r4 q4))
theorem mY:(sizeLine:Nat) < 2 ^ 63:=by rw [sizeLine_eq];decide
theorem yQ{x:V}{us:List Value}(r:aU [x] us):∃ u,us=[u]/\bF x u:=by
 cases r with
 | cons r1 r2=>cases r2;exact⟨_,rfl,r1⟩
theorem Cg{x y:V}{us:List Value}(r:aU [x,y] us):∃ u w',us=[u,w']/\bF x u/\bF y w':=by
 cases r with
 | cons r1 r2=>
  cases r2 with
  | cons r3 r4=>cases r4;exact⟨_,_,rfl,r1,r3⟩
theorem yv(hc:X.calm=true):cn X (.builtin "max") (λ xs H Q=>∃ i j,xs=[.int i,.int j]/\Q (.int (if j > i then j else i)) H):=by
 intro pins s σ H xs us Q I r h;obtain⟨i,j,rfl,q⟩:=h;obtain⟨u,w',rfl,⟨t,rfl⟩,⟨t',rfl⟩⟩:=Cg r;refine max_two_ints (I.ok.hd hc) λ h' tk k=>⟨_,H,I.kept k,?_,q⟩
 by_cases hj:j > i
 ·rw [Pd hj,Pd hj];exact⟨_,rfl⟩
 ·rw [O2 hj,O2 hj];exact⟨_,rfl⟩
theorem yt(hc:X.calm=true):cn X (.builtin "min") (λ xs H Q=>∃ i j,xs=[.int i,.int j]/\Q (.int (if j < i then j else i)) H):=by
 intro pins s σ H xs us Q I r h;obtain⟨i,j,rfl,q⟩:=h;obtain⟨u,w',rfl,⟨t,rfl⟩,⟨t',rfl⟩⟩:=Cg r;refine min_two_ints (I.ok.hd hc) λ h' tk k=>⟨_,H,I.kept k,?_,q⟩
 by_cases hj:j < i
 ·rw [Pd hj,Pd hj];exact⟨_,rfl⟩
 ·rw [O2 hj,O2 hj];exact⟨_,rfl⟩
end
structure Cf(h:Heap)(x dx C:Addr)(mA:Str->Option Value):Prop where
 obj:h.get? x=some (W.instObj C dx)
 ns:h.Ns1 dx mA
 ne:dx ≠ x
theorem xO{h:Heap}{dx:Addr}{mA:Str->Option Value}(n:h.Ns1 dx mA):∃ od,h.get? dx=some od/\∀ name,W.lookIn name od=some (mA name):=by
 obtain⟨o,es,ep,ho,hd,hk,_,hm⟩:=n;refine⟨o,ho,λ name=>?_⟩;have e:=hm name;unfold nsFind findBy at e;rw [←Array.find?_toList] at e;unfold W.lookIn;rw [hd];dsimp only;split
 ·rename_i y q;rw [q] at e;exact Qk some e
 ·rename_i q;rw [q] at e
  have a:es.toList.any (·.refKey)=false:=by
   rw [List.any_eq_false];intro y hy;obtain⟨z,t,hkey⟩:=hk y (Array.mem_toList_iff.mp hy);simp [DictEntry.refKey,hkey]
  have a':¬ es.toList.any (·.refKey)=true:=by rw [a];exact OP
  rw [O2 a'];exact Qk some e
theorem Cf.look{h:Heap}{x dx C:Addr}{mA:Str->Option Value}(I:Cf h x dx C mA):∃ od,W.InstAt h x (W.instObj C dx) C (some od)/\∀ name,W.lookIn name od=some (mA name):=
 let ⟨od,ho,hl⟩:=xO I.ns
 ⟨od,⟨I.obj,rfl,rfl,ho⟩,hl⟩
section
variable {prog:Program}{w:World}{A:Around}{E:Value->Shared->Prop}{s:Shared}{K:PySem.W.Frag}{x dx C f:Addr}{mA:Str->Option Value}{name:Str}{v:Value}
theorem FD{expr:Bool}{Q:Value->Shared->Prop}(X:K.In s.heap)(I:Cf s.heap x dx C mA)(hg:W.plainGet K C name=true)(hh:W.hasDictIn K C=true)
  (ha:W.findIn K (.ref C) name=some none) (hv:mA name=some v) (hv':W.handedIn v=true) (h:Q v { s with toks:=s.toks+1 }) :
  wpAny (model prog w) A (getAttr (.ref x) name expr) Q E s:=by
 obtain⟨od,J,hl⟩:=I.look;exact W.get_value X J (W.plainGet_of hg).1 (W.findObj_own hh ha rfl (by rw [hl,hv])) hv' h
theorem Bd{pl:Sem Bool}{Q:Value × List Value->Shared->Prop}(X:K.In s.heap)(I:Cf s.heap x dx C mA)(hg:W.plainGet K C name=true)
  (hf:W.findIn K (.ref C) name=some (some (.ref f))) (ht:W.isFn K (.ref f)=true) (hv:mA name=none) (h:Q (.ref f,[.ref x]) s) :
  wpAny (model prog w) A (getMethod (.ref x) name pl) Q E s:=by
 obtain⟨od,J,hl⟩:=I.look;exact W.method_fn X J (W.plainGet_of hg).1 (W.plainGet_of hg).2 hf (RX.mp ht) (by show (W.lookIn name od).map (·.isSome)=some false;rw [hl,hv];rfl) h
theorem Dr{ns:List Str}{Q:Unit->Shared->Prop}(X:K.In s.heap)(I:Cf s.heap x dx C mA)
  (hs:W.findIn K (.ref C) "__setattr__"=some (some (.builtin "object.__setattr__"))) (hp:W.plainOver K C=true) (ht:W.takerIn K C name=some none) (hh:W.hasDictIn K C=true)
  (hw:PySem.Within mA ns) (hsz:ns.length<=sizeLine)
  (h:∀ h',Cf h' x dx C (λ y=>if y=name then some v else mA y)->Heap.SameBut dx s.heap h'->Q () { s with heap:=h',toks:=s.toks+2 }) :
  wpAny (model prog w) A (setAttr (.ref x) name v) Q E s:=by
 obtain⟨od,J,hl⟩:=I.look;refine W.set_plain X J hs (W.osa_open (s:={ s with toks:=s.toks+1 }) (r:=none) X J hp ht λ b=>?_);obtain⟨cd,hc,hd'⟩:=W.any_some hh;have hx:s.heap.get? x=some ⟨.ref C,some dx,.plain,#[]⟩:=I.obj;refine My (Oz (My (My (wpAny_loadPart hx (My (W.Looks.here (s:={ s with toks:=s.toks+1 }) (W.looks_clsIn X hc) ?_))))));rw [hd'];refine Oz (a:=some dx) (My (Oz (My ?_)));refine wpAny_nsSet1 (s:={ s with toks:=s.toks+1 }) I.ns λ h' hn2 hs2=>?_;obtain⟨oD,esD,epD,hoD,hdD,hcD⟩:=hn2.count (PySem.Within.cons name v hw);refine My (wpAny_lookBehind hoD (by rw [hdD];exact pastItsLine_dict (PJ hcD (by rw [Ph];omega))) ?_);exact Oz (h _ ⟨(hs2.2 _ (OK I.ne)).trans I.obj,hn2,I.ne⟩ hs2)
theorem Ae{R:Result->Shared->Prop}{vs:List Value}{kw:List (Str × Value)}(X:K.In s.heap)(hm:W.makesIn K C=true)
  (hi:W.findIn K (.ref C) "__init__"=some (some (.ref f))) (hf:W.typeIn K (.ref f)=some (.type "function"))
  (h:codeAny (model prog w) (A.under (.builtin "type.__call__" ⟨.ref C::vs,kw⟩)) (.call (.ref f) ⟨.ref (s.heap.objs.size+1)::vs,kw⟩) (W.InitBack (s.heap.objs.size+1) R)
   { s with heap:=(s.heap.push W.emptyDict).push (W.instObj C s.heap.objs.size) }) :
  codeAny (model prog w) A (.call (.ref C) ⟨vs,kw⟩) R s:=by
 obtain⟨hh,g,d,t,os⟩:=s;exact W.make_core (W.makes_of X hm) (W.looks_findIn X hi) (λ self=>W.bind_fn X self hf) (.inl rfl) h
end
def fh(f:Str)(v:V):List (Str × V)->List (Str × V)
 | []=>[(f,v)]
 | (g,x)::r=>if g=f then (g,v)::r else (g,x)::fh f v r
theorem aN(f g:Str)(v:V):∀ fs:List (Str × V),(fh f v fs).lookup g=if g=f then some v else fs.lookup g
 | []=>by
  show List.lookup g [(f,v)]=_
  by_cases h:g=f
  ·have hb:(g == f)=true:=RX.mpr h;simp only [List.lookup,hb,Pd h]
  ·have hb:(g == f)=false:=Qo.mpr h;simp only [List.lookup,hb,O2 h]
 | (k,x)::r=>by
  have ih:=aN f g v r;rw [show fh f v ((k,x)::r)=(if k=f then (k,v)::r else (k,x)::fh f v r) from rfl]
  by_cases hk:k=f
  ·rw [Pd hk]
   by_cases h:g=k
   ·have hb:(g == k)=true:=RX.mpr h;simp only [List.lookup,hb,Pd (h.trans hk)]
   ·have hb:(g == k)=false:=Qo.mpr h;simp only [List.lookup,hb,O2 (λ e:g=f=>h (e.trans hk.symm))]
  ·rw [O2 hk]
   by_cases h:g=k
   ·have hb:(g == k)=true:=RX.mpr h;simp only [List.lookup,hb,O2 (λ e:g=f=>hk (h.symm.trans e))]
   ·have hb:(g == k)=false:=Qo.mpr h;simp only [List.lookup,hb];exact ih
theorem jq(f:Str)(v:V):∀ fs:List (Str × V),f∈(fh f v fs).map (·.1)/\∀ g,g∈fs.map (·.1)->g∈(fh f v fs).map (·.1)
 | []=>⟨by simp [fh],λ g h=>by simp at h⟩
 | (k,x)::r=>by
  obtain⟨i1,i2⟩:=jq f v r;rw [show fh f v ((k,x)::r)=(if k=f then (k,v)::r else (k,x)::fh f v r) from rfl]
  by_cases hk:k=f
  ·rw [Pd hk];subst hk;exact⟨by simp,λ g h=>by simpa using h⟩
  ·rw [O2 hk];refine⟨?_,λ g h=>?_⟩
   ·rw [PB];exact OH _ i1
   ·rw [PB] at h ⊢
    rcases OU.mp h with e|e
    ·exact OU.mpr (.inl e)
    ·exact OH _ (i2 g e)
theorem jB(f:Str)(v:V):∀ fs:List (Str × V),(fh f v fs).length<=fs.length+1
 | []=>by simp [fh]
 | (k,x)::r=>by
  have ih:=jB f v r;rw [show fh f v ((k,x)::r)=(if k=f then (k,v)::r else (k,x)::fh f v r) from rfl]
  by_cases hk:k=f
  ·rw [Pd hk,Ph,Ph];omega
  ·rw [O2 hk,Ph,Ph];omega
theorem mI.some_of{v:V}{o:Option Value}(r:mI (some v) o):∃ u,o=some u/\bF v u:=by
 cases o with
 | none=>exact(show False from r).elim
 | some u=>exact⟨u,rfl,r⟩
theorem mI.none_of{o:Option Value}(r:mI none o):o=none:=by
 cases o with
 | none=>rfl
 | some u=>exact(show False from r).elim
theorem yl{v:V}{u:Value}(r:bF v u):W.handedIn u=true:=by
 cases v with
 | non=>cases (show u=Value.none from r);rfl
 | bl b=>cases (show u=Value.bool b from r);rfl
 | int i=>obtain⟨t,e⟩:=(show ∃ t,u=Value.int i t from r);cases e;rfl
 | str x=>obtain⟨t,e⟩:=(show ∃ t,u=Value.str x t from r);cases e;rfl
 | byt b=>obtain⟨t,e⟩:=(show ∃ t,u=Value.bytes b t from r);cases e;rfl
 | flt b=>obtain⟨t,e⟩:=(show ∃ t,u=Value.float b t from r);cases e;rfl
 | ref a=>cases (show u=Value.ref a from r);rfl
 | ty n=>cases (show u=Value.type n from r);rfl
section
variable {P:Program}{w:World}{H H':Hp}{h h':Heap}{a C dx:Addr}{fs fs':List (Str × V)}
theorem ly(hok:HOk P w H h)(e:H a=some (.ins C dx fs)):∃ mA,Cf h a dx C mA/\(∀ f,mI (fs.lookup f) (mA f))/\PySem.Within mA (fs.map (·.1))/\fs.length<=1000/\H dx=some (.own a):=by
 obtain⟨d,z,ne,ob,mA,n,r,q⟩:=(show bM P w H h a (.ins C dx fs) from hok a _ e);exact⟨mA,⟨ob,n,ne⟩,r,q,z,d⟩
end
structure Cls(K:W.Frag)(C:Addr):Prop where
 pg:W.plainGet K C Str.empty=true
 hd:W.hasDictIn K C=true
 po:W.plainOver K C=true
 sa:W.findIn K (.ref C) "__setattr__"=some (some (.builtin "object.__setattr__"))
theorem Cls.get{K:W.Frag}{C:Addr}(c:Cls K C)(f:Str):W.plainGet K C f=true:=c.pg
def cU(K:W.Frag)(C:Addr)(f:Str):Prop:=W.findIn K (.ref C) f=some none
theorem cU.taker{K:W.Frag}{C:Addr}{f:Str}(n:cU K C f):W.takerIn K C f=some none:=by
 unfold W.takerIn;rw [show W.findIn K (.ref C) f=some none from n];rfl
structure yO(K:W.Frag)(C:Addr)(m:Str)(f:Addr):Prop where
 at_:W.findIn K (.ref C) m=some (some (.ref f))
 fn:W.isFn K (.ref f)=true
 kp:W.keepIn K (.ref f)=true
section
variable {X:Cx}{pins:List (Addr × Obj)}{σ:St}{H:Hp}{s:Shared}{a C dx:Addr}{fs:List (Str × V)}{f:Str}{v:V}{A:Around}{E:Value->Shared->Prop}
theorem tM{b:Bool}{Q:Value->Shared->Prop}(I:Inv X pins σ H s)(e:H a=some (.ins C dx fs))(c:Cls X.K C)(n:cU X.K C f)(l:fs.lookup f=some v)
  (h:∀ u s',Inv X pins σ H s'->bF v u->Q u s'):wpAny (model X.prog X.w) A (getAttr (.ref a) f b) Q E s:=by
 obtain⟨mA,O,r,_,_,_⟩:=ly I.hok e;obtain⟨u,hu,ru⟩:=mI.some_of (v:=v) (o:=mA f) (by rw [←l];exact r f);exact FD I.kIn O (c.get f) c.hd n hu (yl ru) (h u _ (I.tok _) ru)
theorem tL{m:Str}{g:Addr}{pl:Sem Bool}{Q:Value × List Value->Shared->Prop}(I:Inv X pins σ H s)(e:H a=some (.ins C dx fs))(c:Cls X.K C)(k:yO X.K C m g)(l:fs.lookup m=none)
  (h:Q (.ref g,[.ref a]) s):wpAny (model X.prog X.w) A (getMethod (.ref a) m pl) Q E s:=by
 obtain⟨mA,O,r,_,_,_⟩:=ly I.hok e;have hn:mA m=none:=mI.none_of (by rw [←l];exact r m);exact Bd I.kIn O (c.get m) k.at_ k.fn hn h
theorem sF{y:V}{u:Value}{Q:Unit->Shared->Prop}(I:Inv X pins σ H s)(e:H a=some (.ins C dx fs))(c:Cls X.K C)(n:cU X.K C f)(hl:fs.length < 1000)(ry:bF y u)
  (h:∀ s',Inv X pins σ (upd H a (.ins C dx (fh f y fs))) s'->Q () s'):wpAny (model X.prog X.w) A (setAttr (.ref a) f u) Q E s:=by
 obtain⟨mA,O,r,wi,_,ho⟩:=ly I.hok e;have hz:(fs.map (·.1)).length<=sizeLine:=by rw [OB,sizeLine_eq];omega
 refine Dr I.kIn O c.sa c.po n.taker c.hd wi hz λ h' O' sb=>h _ ?_;have hd:∃ o,h'.get? dx=some o:=let ⟨o,_,_,e',_⟩:=O'.ns;⟨o,e'⟩;refine I.write (x:=a) (e:=dx) (by rw [e];exact True.intro) (.inr ho) (λ b q hb z=>(sb.2 b hb).trans z) hd ?_;refine⟨by rw [af O.ne];exact ho,?_,O.ne,O'.obj,_,O'.ns,λ g=>?_,λ g hg=>?_⟩
 ·have:=jB f y fs;omega
 ·show mI ((fh f y fs).lookup g) (if g=f then some u else mA g)
  rw [aN]
  by_cases q:g=f
  ·rw [Pd q,Pd q];exact ry
  ·rw [O2 q,O2 q];exact r g
 ·by_cases q:g=f
  ·rw [q];exact(jq f y fs).1
  ·refine(jq f y fs).2 g (wi g λ z=>hg ?_)
   show (if g=f then some u else mA g)=none
   rw [O2 q];exact z
theorem Inv.made(I:Inv X pins σ H s):Inv X pins σ (upd (upd H s.heap.objs.size (.own (s.heap.objs.size+1))) (s.heap.objs.size+1) (.ins C s.heap.objs.size []))
  { s with heap:=(s.heap.push W.emptyDict).push (W.instObj C s.heap.objs.size) }:=by
 have e1:(s.heap.push W.emptyDict).get? s.heap.objs.size=some W.emptyDict:=OD s.heap rfl
 have e2:((s.heap.push W.emptyDict).push (W.instObj C s.heap.objs.size)).get? (s.heap.objs.size+1)=some (W.instObj C s.heap.objs.size):=by
  have:=OD (s.heap.push W.emptyDict) (o:=W.instObj C s.heap.objs.size) rfl
  rwa [O5] at this
 have e3:(s.heap.push W.emptyDict).Ns s.heap.objs.size (λ _=>none):=⟨W.emptyDict,#[],_,e1,rfl,(λ e he=>absurd he (by simp)),λ _=>rfl⟩;have I1:=I.laid (a:=s.heap.objs.size) (o:=.own (s.heap.objs.size+1)) (h':=s.heap.push W.emptyDict) (t':=s.toks) (λ b u q=>Ox _ q) (OC _) ⟨_,e1⟩;refine I1.laid (a:=s.heap.objs.size+1) (o:=.ins C s.heap.objs.size []) (t':=s.toks) (λ b u q=>Ox _ q) (Nat.le_of_eq (O5 _ _)) ?_;have ne:s.heap.objs.size ≠ s.heap.objs.size+1:=OS (PL _);refine⟨by rw [af ne,aq],PD _,ne,e2,λ _=>none,(Heap.Ns1.of_empty e3).at λ o q=>Ox _ q,λ _=>True.intro,λ y hy=>absurd rfl hy⟩
theorem Ge{prog:Program}{w:World}{env:Env}{e:Expr}{f:Str}{pos:Pos}{s:Shared}{Q:Value->Shared->Prop}(hb:attributeBase e f env (eval e env)=eval e env)
  (h:wpAny (model prog w) A (eval e env) (λ o s₁=>wpAny (model prog w) A (getAttr o f true) Q E s₁) E s):wpAny (model prog w) A (eval (.Attribute e f pos) env) Q E s:=
 Attribute_any_ h (by rw [arm_eval_Attribute,hb])
end
section
variable {X:Cx}{o e value:Expr}{f:Str}{pos pos' tpos:Pos}{ta tv:TE}
end
section
variable {X:Cx}{pins:List (Addr × Obj)}{σ:St}{H:Hp}{s:Shared}{A:Around}{E:Value->Shared->Prop}{Q:Value->Shared->Prop}{c:Value}{b:Bool}
inductive qF (K:PySem.W.Frag) (H:Hp):V->Value->Prop where
 | non:qF K H .non (.type "NoneType")
 | bl (x:Bool):qF K H (.bl x) (.type "bool")
 | int (i:Int):qF K H (.int i) (.type "int")
 | str (x:Str):qF K H (.str x) (.type "str")
 | flt (x:UInt64):qF K H (.flt x) (.type "float")
 | lst {a:Addr} {xs:List V} (e:H a=some (.lst xs)):qF K H (.ref a) (.type "list")
 | frz {a:Addr} {o:Obj} {xs:List V} (e:H a=some (.frz o (.lst xs))):qF K H (.ref a) (.type "list")
 | tup {a:Addr} {xs:List V} (e:H a=some (.tup xs)):qF K H (.ref a) (.type "tuple")
 | dK {a:Addr} {kvs:List (Key × V)} (e:H a=some (.dK kvs)):qF K H (.ref a) (.type "dict")
 | dT {a:Addr} {kvs:List (List Key × V)} (e:H a=some (.dT kvs)):qF K H (.ref a) (.type "dict")
 | ins {a C dx:Addr} {fs:List (Str × V)} (e:H a=some (.ins C dx fs)) (cl:Cls K C) (ha:PySem.W.findIn K (.ref C) "__class__"=some (some (.builtin "object.__class__")))
   (hn:PySem.W.specialIn K (.builtin "object.__class__") "__get__"=some (some (.builtin "getset_descriptor.__get__"))) (htk:PySem.W.takesIn K (.builtin "object.__class__")=some true)
   (hm:PySem.W.mroIn K C (.type "object")=some true):qF K H (.ref a) (.ref C)
theorem yh{x:V}{u t:Value}(I:Inv X pins σ H s)(rx:bF x u)(ty:qF X.K H x t)(e:W.kitOne X.K t c=some b)(h:∀ tk,Q (.bool b) { s with toks:=tk }) :
  wpAny (model X.prog X.w) A (call (.builtin "isinstance") [u,c]) Q E s:=by
 cases ty with
 | non=>cases (show u=Value.none from rx);exact Q8 W.kitx_none I.kIn True.intro e (λ z=>nomatch z) h
 | bl y=>cases (show u=Value.bool y from rx);exact Q8 W.kitx_bool I.kIn True.intro e (λ z=>nomatch z) h
 | int i=>obtain⟨t,q⟩:=(show ∃ t,u=Value.int i t from rx);cases q;exact Q8 W.kitx_int I.kIn True.intro e (λ z=>nomatch z) h
 | str y=>obtain⟨t,q⟩:=(show ∃ t,u=Value.str y t from rx);cases q;exact Q8 W.kitx_str I.kIn True.intro e (λ z=>nomatch z) h
 | flt y=>obtain⟨t,q⟩:=(show ∃ t,u=Value.float y t from rx);cases q;exact Q8 W.kitx_float I.kIn True.intro e (λ z=>nomatch z) h
 | @lst a xs ea=>
  cases (show u=Value.ref a from rx);obtain⟨_,_,n,_,h1⟩:=(show bM X.prog X.w H s.heap a (.lst xs) from I.hok a _ ea);exact Q8 W.kitx_list I.kIn ⟨_,h1,rfl⟩ e (λ z=>nomatch z) h
 | @frz a ob xs ea=>
  cases (show u=Value.ref a from rx);obtain⟨_,_,_,n,_,h1⟩:=(show bM X.prog X.w H s.heap a (.frz ob (.lst xs)) from I.hok a _ ea);exact Q8 W.kitx_list I.kIn ⟨_,h1,rfl⟩ e (λ z=>nomatch z) h
 | @tup a xs ea=>
  cases (show u=Value.ref a from rx);obtain⟨_,_,_,p⟩:=(show bM X.prog X.w H s.heap a (.tup xs) from I.hok a _ ea);obtain⟨o,h1,h2,_⟩:=p;exact Q8 W.kitx_tuple I.kIn ⟨o,h1,h2⟩ e (λ z=>nomatch z) h
 | @dK a kvs ea=>
  cases (show u=Value.ref a from rx);obtain⟨_,_,vs,_,p⟩:=(show bM X.prog X.w H s.heap a (.dK kvs) from I.hok a _ ea);obtain⟨o,es,ep,h1,h2,_⟩:=p;exact Q8 W.kitx_dict I.kIn ⟨o,h1,h2.1⟩ e (λ z=>nomatch z) h
 | @dT a kvs ea=>
  cases (show u=Value.ref a from rx);obtain⟨_,_,xs,_,o,es,ep,h1,h2,_⟩:=(show bM X.prog X.w H s.heap a (.dT kvs) from I.hok a _ ea);exact Q8 W.kitx_dict I.kIn ⟨o,h1,h2.1⟩ e (λ z=>nomatch z) h
 | @ins a C dx fs ea cl ha hn htk hm=>
  cases (show u=Value.ref a from rx);obtain⟨mA,O,_⟩:=ly I.hok ea;obtain⟨od,J,_⟩:=O.look;exact Q8 (W.kitx_own (cl.get _) cl.hd ha hn htk hm) I.kIn J e (λ z=>nomatch z) h
end
structure iP(k:Nat)(A:Around):Prop where
 hd:A.handled=none
 dp:A.depth+3 * k+5 < recursionLimit
 un:A.units+16 * k+200 < cLine
theorem iP.mono{j k:Nat}{A:Around}(r:iP k A)(h:j<=k):iP j A:=⟨r.hd,by have:=r.dp;omega,by have:=r.un;omega⟩
theorem iP.deeper{k:Nat}{A:Around}(r:iP (k+1) A)(env:Env):iP k (A.deeper env):=
 ⟨r.hd,by have:=r.dp;show A.depth+1+3 * k+5 < _;omega,by have:=r.un;show A.units+3+16 * k+200 < _;omega⟩
theorem sV{A:Around}{C:Addr}{us:List Value}{kw:List (Str × Value)}:(A.under (.builtin "type.__call__" ⟨.ref C::us,kw⟩)).depth=A.depth+1:=by
 first|rfl|simp [Around.under,Code.weight,Code.isCreation,Code.isGuard,Code.isCaller,Code.frames,Code.isFrame,guardIds]
theorem sU{A:Around}{C:Addr}{us:List Value}{kw:List (Str × Value)}:(A.under (.builtin "type.__call__" ⟨.ref C::us,kw⟩)).units=A.units+1:=by
 first|rfl|simp [Around.under,Code.cUnits,Code.frames,Code.isFrame]
theorem iP.make{k:Nat}{A:Around}(r:iP (k+1) A)(C:Addr)(us:List Value)(kw:List (Str × Value)):iP k (A.under (.builtin "type.__call__" ⟨.ref C::us,kw⟩)):=
 ⟨r.hd,by have:=r.dp;rw [sV];omega,by have:=r.un;rw [sU];omega⟩
theorem iP.depth{k:Nat}{A:Around}(r:iP k A):A.depth < recursionLimit:=by have:=r.dp;omega
theorem iP.units{k:Nat}{A:Around}(r:iP k A):A.units+64 < cLine:=by have:=r.un;omega
def Gs:TA:=λ _ H Q=>Q [] H
def yR(ta:TE)(tr:TA):TA:=λ σ H Q=>ta σ H λ x H1=>tr σ H1 λ xs H2=>Q (x::xs) H2
section
variable {X:Cx}{e:Expr}{es:List Expr}{te:TE}{t:TA}{pos:Pos}
theorem bw:PA X [] Gs:=λ _ _ _ _ H Q I h=>RV ⟨[],H,I,.nil,h⟩
theorem DL(ha:PE X e te)(hr:PA X es t)(hs:starEach (e::es) X.env=(false,eval e X.env)::starEach es X.env:=by rfl):PA X (e::es) (yR te t):=by
 intro pos pins s σ H Q I h;rw [hs]
 show wpAny _ _ (spliced ((false,eval e X.env)::backTo pos (starEach es X.env))) _ _ s
 refine RK (thn (ha pins s σ H _ I h) λ u s1 ⟨x,H1,I1,r1,q1⟩=>?_);exact thn (hr pos pins s1 σ H1 _ I1 q1) λ us s2 ⟨xs,H2,I2,r2,q2⟩=>⟨x::xs,H2,I2,.cons r1 r2,q2⟩
end
abbrev Sp:=List V->Hp->VK->XK->Prop
abbrev CXT:=List Env->Hp->Shared->XK->Value->Shared->Prop
structure BL(P:Program)(w:World)(K:W.Frag)(mg:Str->Option Value)(base:Heap)(A:Around)(outer:List Env)(s:Shared)(H:Hp):Prop where
 frames:A.frames=some outer
 mod:Mod K mg base
 bs:∀ b o,base.get? b=some o->s.heap.get? b=some o/\H b=none
 bsz:base.objs.size<=s.heap.objs.size
 funs:s.heap.FunFrames base outer
 frf:∀ b∈frs outer,H b=none
 hok:HOk P w H s.heap
 bare:AllBare s.gens
def CE(outer:List Env)(P:Program)(w:World)(H:Hp)(s:Shared)(Q:VK)(u:Value)(s':Shared):Prop:=
 ∃ v H',s'.os=s.os/\AllBare s'.gens/\Un (frs outer) [] H H' s.heap s'.heap/\HOk P w H' s'.heap/\bF v u/\Q v H'
def CR(CX:CXT)(outer:List Env)(P:Program)(w:World)(H:Hp)(s:Shared)(Q:VK)(E:XK)(r:Result)(s':Shared):Prop:=
 match r with
 | .ok (.ret u)=>CE outer P w H s Q u s'
 | .ok _=>False
 | .error e=>CX outer H s E e s'
structure bL(P:Program)(w:World)(K:W.Frag)(mg:Str->Option Value)(base:Heap)(CX:CXT)(k:Nat)(f:Addr)(fd:FuncData)(ps:List Str)(sp:Sp):Prop where
 len:∀ vs H Q E,sp vs H Q E->vs.length=ps.length
 run:∀ (A:Around) (outer:List Env) (s:Shared) (H:Hp) (args:Args) (us:List Value) (vs:List V) (Q:VK) (E:XK),iP k A->BL P w K mg base A outer s H->BindsTo s fd args (ps.zip us)->aU vs us->sp vs H Q E →
  codeAny (model P w) A (.call (.ref f) args) (CR CX outer P w H s Q E) s
theorem bL.imp{P:Program}{w:World}{K:W.Frag}{mg:Str->Option Value}{base:Heap}{CX:CXT}{k:Nat}{f:Addr}{fd:FuncData}{ps:List Str}{sp sp':Sp}(F:bL P w K mg base CX k f fd ps sp)
  (h:∀ vs H Q E,sp' vs H Q E->sp vs H Q E):bL P w K mg base CX k f fd ps sp':=
 ⟨λ vs H Q E q=>F.len vs H Q E (h _ _ _ _ q),λ A outer s H args us vs Q E hr he hb hv hs=>F.run A outer s H args us vs Q E hr he hb hv (h _ _ _ _ hs)⟩
theorem BL.make{P:Program}{w:World}{K:W.Frag}{mg:Str->Option Value}{base:Heap}{A:Around}{outer:List Env}{s:Shared}{H:Hp}(e:BL P w K mg base A outer s H)(C:Addr)(us:List Value)(kw:List (Str × Value)) :
  BL P w K mg base (A.under (.builtin "type.__call__" ⟨.ref C::us,kw⟩)) outer s H:=⟨by first|exact e.frames|(simpa [Around.under,Code.envs,Code.isFrame,pushEnvs] using e.frames),e.mod,e.bs,e.bsz,e.funs,e.frf,e.hok,e.bare⟩
section
variable {X:Cx}{pins:List (Addr × Obj)}{σ:St}{H:Hp}{s s':Shared}
theorem Inv.env0(I:Inv X pins σ H s):BL X.prog X.w X.K X.mg X.base X.A X.stack s H:=
 ⟨I.ok.frames,I.ok.mod,I.bs,PJ I.ok.bsz I.sz,I.stack,I.stkFree,I.hok,I.bare⟩
theorem Inv.after{Q:VK}{u:Value}(I:Inv X pins σ H s)(h:CE X.stack X.prog X.w H s Q u s'):EP X pins σ Q u s':=by
 obtain⟨v,H',os,bare,un,hok,r,q⟩:=h;obtain⟨hh,g,d,t,os'⟩:=s';obtain rfl:os'=s.os:=os;exact⟨v,H',I.call (h':=hh) (g':=g) (d':=d) (t':=t) (ch:=[]) un hok bare (λ b z=>absurd z (by simp)),r,q⟩
end
def GL(sp:Sp)(dvs:List V)(E:XK)(t:TA):TE:=λ σ H Q=>t σ H λ vs H1=>sp (vs++dvs) H1 Q E
def aw(K:W.Frag)(fd:FuncData)(ps:List Str)(ds:List Value):Prop:=
 ∀ (s:Shared) (us:List Value),K.In s.heap->(us++ds).length=ps.length->BindsTo s fd ⟨us,[]⟩ (ps.zip (us++ds))
theorem aw.all{K:W.Frag}{fd:FuncData}{ps:List Str}(h:∀ us:List Value,us.length=ps.length->bindArgs fd ⟨us,[]⟩=pure (ps.zip us)):aw K fd ps []:=λ s us _ hl=>by
 rw [Rh] at hl ⊢;exact .of_eq (h us hl)
def ku(CX:CXT)(X:Cx)(E:XK):Prop:=∀ (pins:List (Addr × Obj)) (σ:St) (H:Hp) (s:Shared) (e:Value) (s':Shared),Inv X pins σ H s->CX X.stack H s E e s'->X.xe e s'
section
variable {X:Cx}{CX:CXT}{k:Nat}{f C:Addr}{fd:FuncData}{ps:List Str}{sp:Sp}{dvs:List V}{ds:List Value}{E:XK}{x m:Str}{p pos apos:Pos}{e o:Expr}{es:List Expr}{ta:TE}{t:TA}
theorem BR{pins:List (Addr × Obj)}{σ:St}{H:Hp}{s:Shared}{Q:VK}{us:List Value}{vs:List V}(F:bL X.prog X.w X.K X.mg X.base CX k f fd ps sp)(hr:iP k X.A)(hb:aw X.K fd ps ds)(hd:aU dvs ds)(hx:ku CX X E)
  (I:Inv X pins σ H s) (r:aU vs us) (h:sp (vs++dvs) H Q E):wpAny (model X.prog X.w) X.A (call (.ref f) us) (EP X pins σ Q) X.xe s:=by
 have r2:aU (vs++dvs) (us++ds):=r.append hd;have hl:(us++ds).length=ps.length:=by rw [←r2.length];exact F.len _ _ _ _ h
 refine wpAny_call (RH (F.run X.A X.stack s H ⟨us,[]⟩ (us++ds) (vs++dvs) Q E hr I.env0 (hb s us I.kIn hl) r2 h) λ r s' hq=>?_)
 cases r with
 | error e=>exact hx pins σ H s e s' I hq
 | ok fl=>
  cases fl with
  | ret u=>exact I.after hq
  | next=>exact False.elim hq
  | brk=>exact False.elim hq
  | cont=>exact False.elim hq
theorem DJ(F:bL X.prog X.w X.K X.mg X.base CX k f fd ps sp)(hr:iP k X.A)(hg:Gl X x)(hm:X.mg x=some (.ref f))(hk:W.keepIn X.K (.ref f)=true)(hb:aw X.K fd ps ds)(hd:aU dvs ds)(hx:ku CX X E)
  (ha:PA X (e::es) t) (hdb:(x == ("__debug__":Str))=false:=by decide) (he:starEach (e::es) X.env=(false,eval e X.env)::starEach es X.env:=by rfl) (hpl:(backTo pos (starEach es X.env)).any (·.1)=false:=by rfl) :
  PE X (.Call (.Name x p) (e::es) [] pos) (GL sp dvs E t):=by
 intro pins s σ H Q I h;refine Qm (pJ I hg hm ?_ hdb);refine W.callWith_K (h₀:=X.base) I.ok.mod.kin hk (thn (ha pos pins s σ H _ I h) λ us s1 ⟨vs,H1,I1,r,q⟩=>⟨I1.kIn,?_⟩) he hpl;exact BR F hr hb hd hx I1 r q
structure Mk(K:W.Frag)(C f:Addr):Prop where
 makes:W.makesIn K C=true
 init:W.findIn K (.ref C) "__init__"=some (some (.ref f))
 fn:W.isFn K (.ref f)=true
 kp:W.keepIn K (.ref C)=true
theorem zF{pins:List (Addr × Obj)}{σ:St}{H:Hp}{s:Shared}{Q:VK}{us:List Value}{vs:List V}(M:Mk X.K C f)(F:bL X.prog X.w X.K X.mg X.base CX k f fd ps sp)(hr:iP (k+1) X.A)(hb:aw X.K fd ps ds)(hd:aU dvs ds)
  (hx:ku CX X E) (I:Inv X pins σ H s) (r:aU vs us)
  (h:∀ x dx,H x=none->H dx=none->dx ≠ x->sp (.ref x::(vs++dvs)) (upd (upd H dx (.own x)) x (.ins C dx [])) (λ v H2=>v=.non/\Q (.ref x) H2) E) :
  wpAny (model X.prog X.w) X.A (call (.ref C) us) (EP X pins σ Q) X.xe s:=by
 have hq:=h (s.heap.objs.size+1) s.heap.objs.size (I.hok.fresh (QY _)) (I.hok.fresh (OC _)) (OS (PL _));have I2:=Inv.made (C:=C) I;have r2:aU (V.ref (s.heap.objs.size+1)::(vs++dvs)) (Value.ref (s.heap.objs.size+1)::(us++ds)):=.cons rfl (r.append hd)
 have hl:(Value.ref (s.heap.objs.size+1)::us++ds).length=ps.length:=by
  have e:=r2.length;rw [F.len _ _ _ _ hq] at e;exact e.symm
 refine wpAny_call (Ae (f:=f) I.kIn M.makes M.init (RX.mp M.fn) (RH (F.run _ X.stack _ _ ⟨Value.ref (s.heap.objs.size+1)::us,[]⟩ (Value.ref (s.heap.objs.size+1)::(us++ds)) _ _ E (hr.make C us [])
  (I2.env0.make C us []) (hb _ (Value.ref (s.heap.objs.size+1)::us) I2.kIn hl) r2 hq) λ r s' hq'=>?_))
 cases r with
 | error e=>exact hx pins σ _ _ e s' I2 hq'
 | ok fl=>
  cases fl with
  | ret u=>
   obtain⟨v,H',I3,rv,ev,q3⟩:=I2.after hq';subst ev;exact⟨rv,⟨V.ref (s.heap.objs.size+1),H',I3,rfl,q3⟩⟩
  | next=>exact False.elim hq'
  | brk=>exact False.elim hq'
  | cont=>exact False.elim hq'
end
def PK(X:Cx)(kws:List Keyword)(t:TA):Prop:=
 ∀ (pos:Pos) (pins:List (Addr × Obj)) (s:Shared) (σ:St) (H:Hp) (Q:List V->Hp->Prop),Inv X pins σ H s->t σ H Q->wpAny (model X.prog X.w) X.A (evalAll ((backToKw pos (keywordEach kws X.env)).map (·.2))) (AP X pins σ Q) X.xe s
section
variable {X:Cx}{CX:CXT}{k:Nat}{f C:Addr}{fd:FuncData}{ps ks:List Str}{sp:Sp}{E:XK}{x m:Str}{p pos apos kpos:Pos}{e o:Expr}{es:List Expr}{kws:List Keyword}{te ta:TE}{t tk:TA}{nm:Option Str}
theorem BV:PK X [] Gs:=λ _ _ _ _ H Q I h=>wpAny_evalAll_nil ⟨[],H,I,.nil,h⟩
theorem vA(ha:PE X e te)(hr:PK X kws t):PK X (⟨nm,e,kpos⟩ :: kws) (yR te t):=by
 intro pos pins s σ H Q I h
 show wpAny _ _ (evalAll ((do let v ←eval e X.env;standAt pos;pure v)::(backToKw pos (keywordEach kws X.env)).map (·.2))) _ _ s
 refine wpAny_evalAll_cons (My (thn (ha pins s σ H _ I h) λ u s1 ⟨x,H1,I1,r1,q1⟩=>My (Sx (Oz ?_))));exact thn (hr pos pins s1 σ H1 _ I1 q1) λ us s2 ⟨xs,H2,I2,r2,q2⟩=>⟨x::xs,H2,I2,.cons r1 r2,q2⟩
variable {g:List Value->List Value->List Value}{gV:List V->List V->List V}
end
structure aj(N P:List Str)(sc:Scope):Prop where
 kind:sc.kind=.function
 co:sc.isCoroutine=false
 gen:sc.isGenerator=false
 nd:N.Nodup
 pre:N.take P.length=P
 par:∀ x∈P,sc.names.lookup x=some .local\/sc.names.lookup x=some .cell
 nofree:∀ y∈sc.names,y.2 ≠ .free
theorem nR{kindOf:Str->Option NameKind}{x:Str}:∀ {binds:List (Str × Value)}{m:Str->Option Value},(∀ v,(x,v) ∉ binds)->bindL kindOf binds m x=m x
 | [],_,_=>rfl
 | (n,v)::r,m,h=>by
  unfold bindL;rw [nR λ w hw=>h w (mem_cons_of_mem _ hw)];split
  ·have:x ≠ n:=by rintro rfl;exact h v ON
   simp [this]
  ·rfl
theorem nV{kindOf:Str->Option NameKind}{x:Str}:∀ {binds:List (Str × Value)}{m:Str->Option Value},(∀ v,(x,v) ∉ binds)->bindC kindOf binds m x=m x
 | [],_,_=>rfl
 | (n,v)::r,m,h=>by
  unfold bindC;rw [nV λ w hw=>h w (mem_cons_of_mem _ hw)];split
  ·rfl
  ·have:x ≠ n:=by rintro rfl;exact h v ON
   simp [this]
theorem nS{kindOf:Str->Option NameKind}{x:Str}{v:Value}:∀ {P:List Str}{vs:List Value}{i:Nat}{m:Str->Option Value},P.Nodup->P[i]? = some x->vs[i]? = some v->kindOf x=some .local →
  bindL kindOf (P.zip vs) m x=some v
 | [],_,_,_,_,h,_,_=>by simp at h
 | _::_,[],_,_,_,_,h,_=>by simp at h
 | p::P,w::vs,0,m,nd,h1,h2,hk=>by
  simp at h1 h2;subst h1;subst h2
  show bindL kindOf ((p,w)::P.zip vs) m p=_
  unfold bindL;rw [nR λ v hv=>(nodup_cons.mp nd).1 (of_mem_zip hv).1,if_pos hk];simp
 | p::P,w::vs,i+1,m,nd,h1,h2,hk=>by
  show bindL kindOf ((p,w)::P.zip vs) m x=_
  unfold bindL;exact nS (i:=i) (nodup_cons.mp nd).2 (by simpa using h1) (by simpa using h2) hk
theorem nW{kindOf:Str->Option NameKind}{x:Str}{v:Value}:∀ {P:List Str}{vs:List Value}{i:Nat}{m:Str->Option Value},P.Nodup->P[i]? = some x->vs[i]? = some v->kindOf x ≠ some .local →
  bindC kindOf (P.zip vs) m x=some v
 | [],_,_,_,_,h,_,_=>by simp at h
 | _::_,[],_,_,_,_,h,_=>by simp at h
 | p::P,w::vs,0,m,nd,h1,h2,hk=>by
  simp at h1 h2;subst h1;subst h2
  show bindC kindOf ((p,w)::P.zip vs) m p=_
  unfold bindC;rw [nV λ v hv=>(nodup_cons.mp nd).1 (of_mem_zip hv).1,if_neg hk];simp
 | p::P,w::vs,i+1,m,nd,h1,h2,hk=>by
  show bindC kindOf ((p,w)::P.zip vs) m x=_
  unfold bindC;exact nW (i:=i) (nodup_cons.mp nd).2 (by simpa using h1) (by simpa using h2) hk
def aA(N:List Str)(vs:List V):St:=vs.map some++List.replicate (N.length - vs.length) none
def Cc(CX:CXT)(P:Program)(w:World)(K:W.Frag)(mg:Str->Option Value)(base:Heap)(N:List Str)(qual:Str)(scope:Scope)(f:Addr)(cd:Value)(A:Around)(outer:List Env)(s:Shared)(H:Hp)(E:XK):Cx where
 prog:=P
 w:=w
 K:=K
 mg:=mg
 base:=base
 A:=A.deeper (envOfC qual scope s.heap.objs.size f cd)
 N:=N
 s₀:=s
 H₀:=H
 env:=envOfC qual scope s.heap.objs.size f cd
 outer:=outer
 stack:=envOfC qual scope s.heap.objs.size f cd::outer
 ex:=[]
 calm:=true
 fn:=λ _=>true
 pn:=[]
 xe:=λ e s'=>wpAny (model P w) (A.deeper (envOfC qual scope s.heap.objs.size f cd)) (leaving (envOfC qual scope s.heap.objs.size f cd) e) (λ _ s''=>CX outer H s E e s'') (λ e' s''=>CX outer H s E e' s'') s'
theorem rG{sc:Scope}{n:Nat}{x:Str}(h:sc.names.lookup x=some .cell):∃ c,(cellsFrom n sc.names []).lookup x=some c:=by
 have q:=W.cellsFrom_some sc.names n [] (.inl h);exact PN.mp q
theorem yi{CX:CXT}{P:Program}{w:World}{K:W.Frag}{mg:Str->Option Value}{base:Heap}{N ps:List Str}{qual:Str}{scope:Scope}{f:Addr}{cd:Value}{A:Around}{outer:List Env}{s s1:Shared}{H:Hp}{E:XK}{us:List Value}{vs:List V}
  (S:aj N ps scope) (hd:A.handled=none) (e0:BL P w K mg base A outer s H) (hl:vs.length=ps.length) (r:aU vs us)
  (x:InCallC s s.heap.objs.size (bindL (envOfC qual scope s.heap.objs.size f cd).kindOf (ps.zip us) λ _=>none) (cellsFrom (s.heap.objs.size+1) scope.names []) (bindC (envOfC qual scope s.heap.objs.size f cd).kindOf (ps.zip us) λ _=>none) s1) :
  Inv (Cc CX P w K mg base N qual scope f cd A outer s H E) [] (aA N vs) H s1:=by
 have hpl:ps.length<=N.length:=by have:=Qk List.length S.pre;rw [O8] at this;omega
 obtain⟨h1,tk,rfl,hk⟩:=x.done;have noA:∀ b:Addr,b ∉ (Cc CX P w K mg base N qual scope f cd A outer s H E).ex:=λ b z=>absurd (show b∈([]:List Addr) from z) (by simp)
 refine⟨⟨e0.mod,S.kind,rfl,rfl,OC _,λ y z c h1 h2=>?_,λ y hy=>?_,λ y c _ h=>?_,λ _=>hd,Around.frames_deeper e0.frames,.inr ⟨rfl,rfl⟩,λ b z=>absurd z (noA b),e0.bs,e0.bsz,λ b _ _=>noA b,λ b z=>absurd z (noA b),e0.funs,e0.frf⟩,
  rfl,e0.bare,Un.kept hk,⟨_,x.toInCall.ns,λ i y v h1 h2 h3=>?_⟩,λ y c h=>⟨_,x.cell y c h⟩,e0.hok.fresh (OC _),λ y c h=>?_,λ p hp=>absurd (show p∈([]:List (Addr × Obj)) from hp) (by simp),e0.hok.kept hk,?_⟩
 ·exact name_of_addr x.apart (QH h1) (QH h2)
 ·have hy:scope.names.lookup y=some .cell\/scope.names.lookup y=some .free:=hy
  rcases hy with hy|hy
  ·exact rG hy
  ·exact absurd rfl (S.nofree _ (QH hy))
 ·exact Q9 (x.above y c (QH h))
 ·have hi:i < vs.length:=by
   unfold aA at h2
   by_cases hi:i < vs.length
   ·exact hi
   ·rw [O7 (by simpa using hi)] at h2;rw [QP] at h2
    split at h2<;>cases h2
  have ha:vs[i]? = some v:=by
   unfold aA at h2;rw [getElem?_append_left (by simpa using hi),getElem?_map] at h2
   cases e:vs[i]? with
   | none=>rw [e] at h2;cases h2
   | some a=>rw [e] at h2;cases h2;rfl
  obtain⟨u,hu,rv⟩:=r.get ha
  have hp:ps[i]? = some y:=by
   rw [←S.pre,List.getElem?_take_of_lt (by omega)];exact h1
  have ndP:ps.Nodup:=by rw [←S.pre];exact S.nd.sublist (List.take_sublist _ _)
  refine⟨u,rv,?_⟩
  rcases S.par y (OX hp) with k|k
  ·exact .inl ⟨k,nS ndP hp hu k⟩
  ·obtain⟨c,e⟩:=rG (n:=s.heap.objs.size+1) k;refine .inr ⟨.inl k,c,e,?_⟩;have q:=x.cell y c e;rw [nW ndP hp hu (by show scope.names.lookup y ≠ _;rw [k];decide)] at q;exact q
 ·exact e0.hok.fresh (Q9 (x.above y c (QH h)))
 ·unfold aA
  show _=N.length
  rw [OR,OB,Rb];omega
theorem Mg{CX:CXT}{P:Program}{w:World}{K:W.Frag}{mg:Str->Option Value}{base:Heap}{k:Nat}{f:Addr}{name qual:Str}{params:Arguments}{body:List Stmt}{scope:Scope}{dV kV doc pm cdv ct oc:Value}{an od:Option Addr}
  {osl:Array (Option Value)} {N ps:List Str} {sp:Sp} (lk:K.lookup f=some ⟨oc,od,.func (W.fnOf name qual params body scope dV kV doc pm an cdv ct),osl⟩) (hcd:W.codeIn K cdv qual=true) (S:aj N ps scope)
  (len:∀ vs H Q E,sp vs H Q E->vs.length=ps.length)
  (hbody:∀ (A:Around) (outer:List Env) (s:Shared) (H:Hp) (vs:List V) (Q:VK) (E:XK),iP k (A.deeper (envOfC qual scope s.heap.objs.size f cdv))->sp vs H Q E →
   ∃ t,PSs (Cc CX P w K mg base N qual scope f cdv A outer s H E) body t/\t { nx:=λ _ H'=>Q .non H',rt:=Q } (aA N vs) H) :
  bL P w K mg base CX (k+1) f (W.fnOf name qual params body scope dV kV doc pm an cdv ct) ps sp:=by
 refine⟨len,λ A outer s H args us vs Q E hr e0 hb r hsp=>?_⟩;have hl:=len _ _ _ _ hsp;have KX:K.In s.heap:=e0.mod.kin.keeps λ b o e=>(e0.bs b o e).1;have lim:s.heap.NoLimit:=e0.mod.nolimit.keeps λ b o e=>(e0.bs b o e).1
 have hkind:∀ y∈ps.zip us,scope.names.lookup y.1=some .local\/(scope.names.lookup y.1=some .cell/\((cellsFrom (s.heap.objs.size+1) scope.names []).lookup y.1).isSome=true):=λ ⟨n,v⟩ hy=>by
  rcases S.par n (QS hy).1 with q|q
  ·exact .inl q
  ·exact .inr ⟨q,W.cellsFrom_some _ _ _ (.inl q)⟩
 refine codeAny_call_function hr.depth (KX _ _ lk) rfl S.co S.gen rfl (W.codeRec_of KX hcd) (hb _ _ _ _ ?_);refine wpAny_newFunctionEnv_cells S.kind hkind λ env he s1 x=>?_;subst he;refine⟨lim.keeps x.toInCall.keep,codeAny_func ?_⟩;obtain⟨t,ht,hq⟩:=hbody A outer s H vs Q E (hr.deeper _) hsp;have I:Inv (Cc CX P w K mg base N qual scope f cdv A outer s H E) [] (aA N vs) H s1:=yi S hr.hd e0 hl r x;refine RP (ht [] s1 (aA N vs) H _ I hq) (λ fl s' hs=>?_) λ e s' hs=>hs
 have fin:∀ {σ':St} {H':Hp} {v:V} {u:Value},Inv (Cc CX P w K mg base N qual scope f cdv A outer s H E) [] σ' H' s'->bF v u->Q v H'->CE outer P w H s Q u s':=
  λ {σ' H' v u} J rv q=>⟨v,H',J.os,J.bare,J.base,J.hok,rv,q⟩
 cases fl with
 | ret u=>
  obtain⟨v,σ',H',J,rv,q⟩:=hs;exact fin J rv q
 | next=>
  obtain⟨σ',H',J,q⟩:=hs;exact fin (v:=V.non) (u:=Value.none) J rfl q
 | brk=>
  obtain⟨_,_,_,q⟩:=hs;exact False.elim q
 | cont=>
  obtain⟨_,_,_,q⟩:=hs;exact False.elim q
section
variable {X:Cx}{x:Str}{p pos:Pos}{e:Expr}{es:List Expr}{t:TA}{id T:String}{r:List V->Hp->VK->Prop}
def tCB(r:List V->Hp->VK->Prop)(t:TA):TE:=λ σ H Q=>t σ H λ vs H1=>r vs H1 Q
theorem iI(hc:cn X (.builtin id) r)(hg:Gl X x)(hm:X.mg x=none)(hv:bootBuiltins x=some (.builtin id))(ha:PA X (e::es) t)(hn:x ≠ "__name__":=by decide)(hdb:(x == ("__debug__":Str))=false:=by decide)
  (he:starEach (e::es) X.env=(false,eval e X.env)::starEach es X.env:=by rfl) (hpl:(backTo pos (starEach es X.env)).any (·.1)=false:=by rfl):PE X (.Call (.Name x p) (e::es) [] pos) (tCB r t):=by
 intro pins s σ H Q I h;refine Qm (dJ I hg hm hv ?_ hn hdb);exact PyProof.Rows.callWith_builtin1 (thn (ha pos pins s σ H _ I h) λ us s1 ⟨vs,H1,I1,r1,q1⟩=>hc pins s1 σ H1 vs us Q I1 r1 q1) he hpl
theorem wO(hc:cn X (.type T) r)(hg:Gl X x)(hm:X.mg x=none)(hv:bootBuiltins x=some (.type T))(ha:PA X (e::es) t)(hn:x ≠ "__name__":=by decide)(hdb:(x == ("__debug__":Str))=false:=by decide)
  (he:starEach (e::es) X.env=(false,eval e X.env)::starEach es X.env:=by rfl) (hpl:(backTo pos (starEach es X.env)).any (·.1)=false:=by rfl):PE X (.Call (.Name x p) (e::es) [] pos) (tCB r t):=by
 intro pins s σ H Q I h;refine Qm (dJ I hg hm hv ?_ hn hdb);exact Pc (thn (ha pos pins s σ H _ I h) λ us s1 ⟨vs,H1,I1,r1,q1⟩=>hc pins s1 σ H1 vs us Q I1 r1 q1) he hpl
end
end L2
namespace HT
open PySem PyProof.Rows
section
open PySem.SeqAt
open PySem.AutoSeq1 (wpAny_loadPart')
open PySem.MeetsSeq PySem.MeetsSeq2 PySem.MeetsSeq3
end
section
variable {prog:Program}{w:World}{A:Around}{E:Value->Shared->Prop}{s:Shared}
theorem cat_tup{t b:Addr}{vs ws:List Value}{Q:Value->Shared->Prop}(ht:IsTup s.heap t vs.toArray)(hb:IsTup s.heap b ws.toArray)(hv:vs ≠ [])
  (h1:ws=[]->Q (.ref t) s) (h2:ws ≠ []->Q (.ref s.heap.objs.size) { s with heap:=s.heap.push { cls:=.type "tuple",data:=.seq (vs++ws).toArray } })
  (hsz:vs.length+ws.length<=sizeLine):wpAny (model prog w) A (binaryOp .Add (.ref t) (.ref b)) Q E s:=by
 obtain⟨⟨cls,dd,data,sl⟩,ho,hc,n,hd⟩:=id ht;obtain⟨⟨cls2,dd2,data2,sl2⟩,ho2,hc2,n2,hd2⟩:=id hb;simp only at hc hd hc2 hd2;subst hc hd hc2 hd2;have e:vs.toArray++ws.toArray=(vs++ws).toArray:=by simp
 by_cases hw:ws=[]
 ·exact concat_meets ⟨_,ho,rfl⟩ ⟨_,ho2,rfl⟩ noFill_tuple_add seq_tuple_add RL RD (RB _ _)
   (tuple_addW1 t b vs.toArray ws.toArray n n2 dd dd2 sl sl2 (by simpa using hv) (by simp [hw])) ⟨ho,ho2,h1 hw⟩
 ·refine concat_meets ⟨_,ho,rfl⟩ ⟨_,ho2,rfl⟩ noFill_tuple_add seq_tuple_add RL RD (RB _ _)
   (tuple_addW2 t b vs.toArray ws.toArray n n2 dd dd2 sl sl2 (by simpa using hv) (by simpa using hw) (by rw [O0,O0];exact hsz)) ⟨ho,ho2,?_⟩
  rw [e];exact h2 hw
def sIx(n d:Nat):Option Int->Nat
 | none=>d
 | some v=>if v < 0 then (v+(n:Int)).toNat else min v.toNat n
theorem sIx_none(n d:Nat):sIx n d none=d:=rfl
theorem sIx_nat(n d k:Nat):sIx n d (some (k:Int))=min k n:=by
 show (if (k:Int) < 0 then ((k:Int)+(n:Int)).toNat else min (k:Int).toNat n)=min k n
 rw [O2 (by omega),OI]
theorem HG(n d:Nat)(hd:d<=n)(o:Option Int):sIx n d o<=n:=by
 cases o with
 | none=>exact hd
 | some v=>
  show (if v < 0 then (v+(n:Int)).toNat else min v.toNat n)<=n
  by_cases hv:v < 0
  ·rw [Pd hv];omega
  ·rw [O2 hv];exact Nat.min_le_right _ _
theorem vP(v:Int)(n d:Nat):(if v < 0 then max (v+(n:Int)) 0 else min v (n:Int))=((sIx n d (some v):Nat):Int):=by
 show (if v < 0 then max (v+(n:Int)) 0 else min v (n:Int))=(((if v < 0 then (v+(n:Int)).toNat else min v.toNat n):Nat):Int)
 by_cases hv:v < 0
 ·simp only [Pd hv];omega
 ·simp only [O2 hv];omega
theorem t6(lo hi:Option Int)(n:Nat):Builtin.Slice.sliceAdjust lo hi 1 (n:Int)=(((sIx n 0 lo:Nat):Int),((sIx n n hi:Nat):Int)):=by
 have h1:¬ ((1:Int) < 0):=by omega
 unfold Builtin.Slice.sliceAdjust;simp only [h1,if_false];refine Prod.ext ?_ ?_
 ·cases lo with
  | none=>rfl
  | some v=>exact vP v n 0
 ·cases hi with
  | none=>rfl
  | some v=>exact vP v n n
theorem sJ(i j:Nat):Builtin.Slice.slicePlaces (i:Int) (j:Int) 1=j - i:=by
 unfold Builtin.Slice.slicePlaces;have h1:(1:Int) > 0:=by omega
 simp only [h1,Rf,Int.ediv_one]
 split<;>omega
theorem kC{v:Value}{o:Option Int}{Q:Option Int->Shared->Prop}(p:IsPart v o)(h:Q o s):wpAny (model prog w) A (Builtin.Slice.slicePartIndex v) Q E s:=by
 cases p with
 | none=>exact slicePart_none h
 | int i t=>exact slicePart_int h
theorem iB{sl:Addr}{vl vu:Value}{lo hi:Option Int}{n:Nat}{Q:Int × Int × Nat->Shared->Prop}(hs:s.heap.IsSliceOf sl vl vu .none)(pl:IsPart vl lo)(pu:IsPart vu hi)
  (h:Q (((sIx n 0 lo:Nat):Int),1,sIx n n hi - sIx n 0 lo) s):wpAny (model prog w) A (Builtin.Slice.sliceApplied (.ref sl) (pure (n:Int))) Q E s:=by
 obtain⟨os,hos,hcs,hds⟩:=id hs;unfold Builtin.Slice.sliceApplied Builtin.Slice.sliceFields;refine wpAny_bind (wpAny_bind (wpAny_field hos hds (x:=vl) rfl (wpAny_bind (wpAny_field hos hds (x:=vu) rfl (wpAny_bind (wpAny_field hos hds (x:=.none) rfl (wpAny_pure ?_)))))));refine wpAny_bind (slicePart_none ?_)
 show wpAny _ _ (if ((1:Int) == 0)=true then _ else _) _ _ s
 rw [O2 (by decide)];refine My (kC pl (My (kC pu (My (Oz ?_)))))
 show wpAny _ _ (match Builtin.Slice.sliceAdjust lo hi 1 (n:Int) with|(lo,hi)=>pure (lo,(1:Int),Builtin.Slice.slicePlaces lo hi 1)) _ _ s
 rw [t6 lo hi n]
 show wpAny _ _ (pure (((sIx n 0 lo:Nat):Int),(1:Int),Builtin.Slice.slicePlaces ((sIx n 0 lo:Nat):Int) ((sIx n n hi:Nat):Int) 1)) _ _ s
 rw [sJ];exact Oz h
theorem zM(xs:Array Value)(i k:Nat):((List.range k).filterMap λ (m:Nat)=>xs[((i:Int)+(m:Int) * 1).toNat]?).toArray=((xs.toList.drop i).take k).toArray:=by
 have e:(λ (m:Nat)=>xs[((i:Int)+(m:Int) * 1).toNat]?)=λ m=>xs[i+m]?:=by
  funext m;have:((i:Int)+(m:Int) * 1).toNat=i+m:=by omega
  rw [this]
 rw [e];have:=pick_run xs i k;rw [List.filterMap_map] at this;have e2:((λ x=>xs[x]?) ∘ λ x=>i+x)=λ m=>xs[i+m]?:=rfl;rw [e2] at this;rw [this]
theorem getItem_tuple_cut{t sl:Addr}{items:Array Value}{vl vu:Value}{lo hi:Option Int}{Q:Value->Shared->Prop}(ht:IsTup s.heap t items)(hs:s.heap.IsSliceOf sl vl vu .none)(pl:IsPart vl lo)(pu:IsPart vu hi)
  (hw:¬ (sIx items.size 0 lo=0/\sIx items.size items.size hi=items.size))
  (h:Q (.ref s.heap.objs.size) { s with heap:=s.heap.push { cls:=.type "tuple",data:=.seq ((items.toList.drop (sIx items.size 0 lo)).take (sIx items.size items.size hi - sIx items.size 0 lo)).toArray } })
  (hsz:items.size<=sizeLine):wpAny (model prog w) A (getItem (.ref t) (.ref sl)) Q E s:=by
 have htake:sizeOk (.seq ((items.toList.drop (sIx items.size 0 lo)).take (sIx items.size items.size hi - sIx items.size 0 lo)).toArray):=by
  show ((items.toList.drop (sIx items.size 0 lo)).take (sIx items.size items.size hi - sIx items.size 0 lo)).toArray.size<=sizeLine
  rw [O0,O8,P0,Rp];omega
 have hj:sIx items.size items.size hi<=items.size:=HG _ _ (Nat.le_refl _) hi;obtain⟨os,hos,hcs,hds⟩:=id hs;have hTs:s.TypeIs (.ref sl) "slice":=⟨os,hos,hcs⟩;unfold getItem
 try with_reducible refine P2 ?_
 first|refine My (Oz ?_)|skip
 refine My (wpAny_sequenceKey ht.typeIs (by decide) ?_)
 refine My (Pr (name:=Str.ofString "__getitem__") ht.typeIs QW
  (P5 QW ht.typeIs entry_tuple_getitem ?_ (args_tuple_getitem _ _)))
 show wpAny _ _ (Builtin.Tuple.tupleItemsOf (.ref t) >>= _) _ _ s
 refine My (tupleItemsOf_ ht ?_);refine My (wpAny_typeOf hTs ?_);rw [Pd (by decide)];refine My (iB hs pl pu ?_)
 have hno:¬ ((((sIx items.size 0 lo:Nat):Int) == 0 && (1:Int) == 1 && (sIx items.size items.size hi - sIx items.size 0 lo) == items.size)=true):=by
  intro q;rw [Qr,Qr] at q;have q1:((sIx items.size 0 lo:Nat):Int)=0:=eq_of_beq q.1.1;have q2:sIx items.size items.size hi - sIx items.size 0 lo=items.size:=eq_of_beq q.2;exact hw ⟨by omega,by omega⟩
 show wpAny _ _ (if (((sIx items.size 0 lo:Nat):Int) == 0 && (1:Int) == 1 && (sIx items.size items.size hi - sIx items.size 0 lo) == items.size)=true then _ else _) _ _ s
 rw [O2 hno,zM]
 first
  | exact My (m:=Builtin.Tuple.tupleExact _) (P9 (Oz ⟨_,rfl,Oz h⟩) htake)
  | exact My (m:=Builtin.Tuple.tupleExact _) (P9 (My (Oz (Oz ⟨_,rfl,Oz h⟩))) htake)
  | exact My (My (m:=Builtin.Tuple.tupleExact _) (P9 (Oz (Oz ⟨_,rfl,Oz h⟩)) htake))
  | exact My (My (m:=Builtin.Tuple.tupleExact _) (P9 (Oz ⟨_,rfl,Oz h⟩) htake))
end
end HT
namespace L2
open PySem PySem.Spec PyProof.Rows
abbrev TO:=St->Hp->(Option Int->Hp->Prop)->Prop
def PO(X:Cx)(e:Option Expr)(t:TO):Prop:=
 ∀ (pins:List (Addr × Obj)) (s:Shared) (σ:St) (H:Hp) (Q:Option Int->Hp->Prop),Inv X pins σ H s->t σ H Q →
  wpAny (model X.prog X.w) X.A (evalPart e X.env) (λ u s'=>∃ o H',Inv X pins σ H' s'/\IsPart u o/\Q o H') X.xe s
def vm:TO:=λ _ H Q=>Q none H
def GG(t:TE):TO:=λ σ H Q=>t σ H λ x H1=>∃ i,x=.int i/\Q (some i) H1
section
variable {X:Cx}{e:Expr}{te:TE}{lo hi:Option Expr}{tl th:TO}{pos p2:Pos}
theorem aQ:PO X none vm:=by
 intro pins s σ H Q I h;rw [evalPart_none];exact Oz ⟨none,H,I,.none,h⟩
theorem Dx(h:PE X e te):PO X (some e) (GG te):=by
 intro pins s σ H Q I hw;rw [evalPart_some];refine thn (h pins s σ H _ I hw) λ u s1 ⟨x,H1,I1,r1,q1⟩=>?_;obtain⟨i,rfl,q⟩:=q1;obtain⟨t,rfl⟩:=r1;exact⟨some i,H1,I1,.int i t,q⟩
def SlR(X:Cx)(r:V->Option Int->Option Int->Hp->VK->Prop):Prop:=
 ∀ (pins:List (Addr × Obj)) (s:Shared) (σ:St) (H:Hp) (x:V) (v vl vu:Value) (lo hi:Option Int) (sl:Addr) (Q:VK),Inv X pins σ H s->bF x v->s.heap.IsSliceOf sl vl vu .none->IsPart vl lo->IsPart vu hi->r x lo hi H Q →
  ∃ T id,typeLookup (.type T) "__getitem__"=pure (some (.builtin id))/\s.TypeIs v T/\wpAny (model X.prog X.w) X.A (getItem v (.ref sl)) (EP X pins σ Q) X.xe s
def tSl(r:V->Option Int->Option Int->Hp->VK->Prop)(te:TE)(tl th:TO):TE:=λ σ H Q=>te σ H λ x H1=>tl σ H1 λ l H2=>th σ H2 λ u H3=>r x l u H3 Q
theorem zO{r:V->Option Int->Option Int->Hp->VK->Prop}(hr:SlR X r)(he:PE X e te)(hl:PO X lo tl)(hu:PO X hi th):PE X (.Subscript e (.Slice lo hi none p2) pos) (tSl r te tl th):=by
 intro pins s σ H Q I h;refine Subscript_ (thn (he pins s σ H _ I h) λ v s1 ⟨x,H1,I1,r1,q1⟩=>?_);refine wpAny_Slice (thn (hl pins s1 σ H1 _ I1 q1) λ vl s2 ⟨l,H2,I2,pl,q2⟩=>thn (hu pins s2 σ H2 _ I2 q2) λ vu s3 ⟨u,H3,I3,pu,q3⟩=>?_);rw [evalPart_none];refine Oz ?_;have I4:Inv X pins σ H3 { s3 with heap:=s3.heap.push { cls:=.type "slice",data:=.fields #[vl,vu,.none] } }:=I3.kept (t':=s3.toks) λ b ob q=>Ox _ q;obtain⟨T,id,hT,ht,hg⟩:=hr pins { s3 with heap:=s3.heap.push { cls:=.type "slice",data:=.fields #[vl,vu,.none] } } σ H3 x v vl vu l u s3.heap.objs.size Q I4 r1 (Heap.IsSliceOf.new ..) pl pu q3
 show wpAny (model X.prog X.w) X.A (subscriptTail e (.Slice lo hi none p2) v (.ref s3.heap.objs.size)) (EP X pins σ Q) X.xe { s3 with heap:=s3.heap.push { cls:=.type "slice",data:=.fields #[vl,vu,.none] } }
 exact tail_any (ops:=[.ref s3.heap.objs.size,v]) ht hT hg (by with_unfolding_all rfl)
def jU(xs:List V)(lo hi:Option Int):List V:=(xs.drop (HT.sIx xs.length 0 lo)).take (HT.sIx xs.length xs.length hi - HT.sIx xs.length 0 lo)
theorem jD(xs:List V)(lo hi:Option Int):(jU xs lo hi).length<=xs.length:=by
 unfold jU;rw [length_take,length_drop];omega
def NJ(K:W.Frag):V->Option Int->Option Int->Hp->VK->Prop:=λ x lo hi H Q=>∃ a xs,x=.ref a/\SqT K H a xs /\
 ¬ (HT.sIx xs.length 0 lo=0/\HT.sIx xs.length xs.length hi=xs.length)/\∀ p,H p=none->Q (.ref p) (upd H p (.tup (jU xs lo hi)))
theorem HF:SlR X (NJ X.K):=by
 intro pins s σ H x v vl vu lo hi sl Q I rx hs pl pu h;obtain⟨a,xs,rfl,hx,hw,q⟩:=h;cases rx;obtain⟨its,r,ht,hz⟩:=I.tuple hx;have hlen:its.toArray.size=xs.length:=by rw [O0];exact r.length.symm
 refine⟨"tuple",_,QW.lookup,ht.typeIs,?_⟩;refine HT.getItem_tuple_cut ht hs pl pu (by rw [hlen];exact hw) ?_ (by rw [hlen];exact hz);rw [hlen];refine⟨.ref s.heap.objs.size,_,I.laid (t':=s.toks) (o:=.tup (jU xs lo hi)) (λ b ob q=>Ox _ q) (OC _) ?_,rfl,q _ (I.hok.fresh (OC _))⟩;exact⟨PJ (jD xs lo hi) hz,_,(r.drop (HT.sIx xs.length 0 lo)).take (HT.sIx xs.length xs.length hi - HT.sIx xs.length 0 lo),IsTup.new _ _⟩
def Ld(K:W.Frag):R2:=λ x y H Q=>∃ a b xs ys,x=.ref a/\y=.ref b/\SqT K H a xs/\SqT K H b ys/\xs ≠ []/\xs.length+ys.length<=sizeLine /\
 (ys=[]->Q (.ref a) H)/\(ys ≠ []->∀ p,H p=none->Q (.ref p) (upd H p (.tup (xs++ys))))
theorem aU.nil_iff{xs:List V}{us:List Value}(r:aU xs us):us=[] ↔ xs=[]:=by
 cases r with
 | nil=>simp
 | cons _ _=>simp
theorem DQ:OpR X (binaryOp .Add) (Ld X.K):=by
 intro pins s σ H x y v u Q I rx ry h;obtain⟨a,b,xs,ys,rfl,rfl,ha,hb,hx,hz,q1,q2⟩:=h;cases rx;cases ry;obtain⟨its,r1,p1,_⟩:=I.tuple ha;obtain⟨its2,r2,p2,_⟩:=I.tuple hb;refine HT.cat_tup p1 p2 (λ z=>hx (r1.nil_iff.mp z)) (λ z=>⟨.ref a,H,I,rfl,q1 (r2.nil_iff.mp z)⟩) (λ z=>?_) (by rw [←r1.length,←r2.length];exact hz);refine⟨.ref s.heap.objs.size,_,I.laid (t':=s.toks) (o:=.tup (xs++ys)) (λ b ob q=>Ox _ q) (OC _) ?_,rfl,q2 (λ w=>z (r2.nil_iff.mpr w)) _ (I.hok.fresh (OC _))⟩;exact⟨by rw [OR];exact hz,_,r1.append r2,IsTup.new _ _⟩
end
def ixN(n:Nat)(i:Int):Option Nat:=if 0<=i then (if i < n then some i.toNat else none) else if -(n:Int)<=i then some (i+n).toNat else none
def atI{α:Type}(xs:List α)(i:Int):Option α:=(ixN xs.length i).bind λ j=>xs[j]?
theorem vH{n:Nat}{i:Int}{j:Nat}(h:ixN n i=some j):seqIndex? i n=some j/\j < n/\-(n:Int)<=i/\i < n:=by
 unfold ixN at h
 by_cases h0:0<=i
 ·rw [Pd h0] at h
  by_cases h1:i < n
  ·rw [Pd h1] at h;have e:i.toNat=j:=O1 h;exact⟨by rw [seqIndex_of h0 h1,e],by omega,by omega,h1⟩
  ·rw [O2 h1] at h;cases h
 ·rw [O2 h0] at h
  by_cases h1:-(n:Int)<=i
  ·rw [Pd h1] at h;have e:(i+n).toNat=j:=O1 h;exact⟨by rw [seqIndex_neg (by omega) h1,e],by omega,h1,by omega⟩
  ·rw [O2 h1] at h;cases h
theorem vW{α:Type}{xs:List α}{i:Int}{v:α}(h:atI xs i=some v):∃ j,seqIndex? i xs.length=some j/\xs[j]? = some v/\j < xs.length/\-(xs.length:Int)<=i/\i < xs.length:=by
 unfold atI at h
 cases e:ixN xs.length i with
 | none=>rw [e] at h;cases h
 | some j=>
  rw [e] at h;obtain⟨h1,h2,h3,h4⟩:=vH e;exact⟨j,h1,h,h2,h3,h4⟩
theorem bU{α:Type}{xs:List α}{j:Nat}{v:α}(h:xs[j]? = some v):atI xs (j:Int)=some v:=by
 have hj:j < xs.length:=(Oy.mp h).1
 have e:ixN xs.length (j:Int)=some j:=by
  unfold ixN;rw [if_pos (by omega),if_pos (by omega)];simp
 unfold atI;rw [e];exact h
def Gh(b:Expr):Prop:=∀ o i,subscripted b false o i=operate [o,i] (getItem o i)
def IxR(X:Cx)(r:R2):Prop:=
 ∀ (value slice:Expr) (pins:List (Addr × Obj)) (s:Shared) (σ:St) (H:Hp) (x y:V) (v u:Value) (Q:VK),Inv X pins σ H s->bF x v->bF y u->r x y H Q →
  subscripted slice false v u=operate [v,u] (getItem v u)->wpAny (model X.prog X.w) X.A (subscriptTail value slice v u) (EP X pins σ Q) X.xe s
def MtR(X:Cx)(id:String)(r:V->List V->Hp->VK->Prop):Prop:=
 ∀ (pins:List (Addr × Obj)) (s:Shared) (σ:St) (H:Hp) (x:V) (xs:List V) (v:Value) (us:List Value) (Q:VK),Inv X pins σ H s->bF x v->aU xs us->r x xs H Q →
  wpAny (model X.prog X.w) X.A (call (.builtin id) (v::us)) (EP X pins σ Q) X.xe s
section
variable {X:Cx}{a b:Expr}{ta tb:TE}{pos:Pos}
theorem IxR.or{r r':R2}(h:IxR X r)(h':IxR X r'):IxR X (λ x y H Q=>r x y H Q\/r' x y H Q):=by
 intro value slice pins s σ H x y v u Q I rx ry q hs
 rcases q with q|q
 ·exact h value slice pins s σ H x y v u Q I rx ry q hs
 ·exact h' value slice pins s σ H x y v u Q I rx ry q hs
theorem CB{r:R2}(hr:IxR X r)(ha:PE X a ta)(hb:PE X b tb)(hs:Gh b):PE X (.Subscript a b pos) (tOp r ta tb):=by
 intro pins s σ H Q I h;exact Subscript_ (K8 ha hb I h λ v u s2 x y H2 I2 rx ry q=>hr a b pins s2 σ H2 x y v u Q I2 rx ry q (hs _ _))
def NO(K:W.Frag):R2:=λ x y H Q=>∃ p xs i v,x=.ref p/\y=.int i/\SqL K H p xs/\atI xs i=some v/\Q v H
def NN(K:W.Frag):R2:=λ x y H Q=>∃ p xs i v,x=.ref p/\y=.int i/\SqT K H p xs/\atI xs i=some v/\Q v H
theorem pK:IxR X (NO X.K):=by
 intro value slice pins s σ H x y v u Q I rx ry h hs;obtain⟨p,xs,i,z,rfl,rfl,hq,he,q⟩:=h;cases rx;obtain⟨t,rfl⟩:=ry;obtain⟨its,r,pl,hz⟩:=I.list hq;obtain⟨j,h1,h2,h3,h4,h5⟩:=vW he;obtain⟨w,ew,rw'⟩:=r.get h2;have hl:=r.length;have hn:=mY;have fin:EP X pins σ Q w s:=⟨z,H,I,rw',q⟩
 by_cases h0:0<=i
 ·have hj:i.toNat=j:=by
   rw [seqIndex_of h0 h5] at h1;exact O1 h1
  exact item_listR pl.isList h0 (by omega) (by rw [hj];simpa using ew) fin hs
 ·have hj:(i+(its.toArray.size:Int)).toNat=j:=by
   rw [seqIndex_neg (by omega) h4] at h1;rw [O0,←hl];exact O1 h1
  exact subscriptTail_builtinR (x:=w) pl.isList.typeIs slot_list_getitem.lookup
   (wpAny_getItem_list_neg (Q:=λ r s'=>r=w/\EP X pins σ Q r s') pl.isList (by omega) (by rw [O0]<;>omega) (by omega) (by rw [hj];simpa using ew) ⟨rfl,fin⟩) hs
theorem JT:IxR X (NN X.K):=by
 intro value slice pins s σ H x y v u Q I rx ry h hs;obtain⟨p,xs,i,z,rfl,rfl,hq,he,q⟩:=h;cases rx;obtain⟨t,rfl⟩:=ry;obtain⟨its,r,pl,hz⟩:=I.tuple hq;obtain⟨j,h1,h2,h3,h4,h5⟩:=vW he;obtain⟨w,ew,rw'⟩:=r.get h2;have hl:=r.length;have hn:=mY;have fin:EP X pins σ Q w s:=⟨z,H,I,rw',q⟩
 exact subscriptTail_builtinR (x:=w) pl.typeIs slot_tuple_getitem.lookup
  (getItem_tuple (j:=j) (Q:=λ r s'=>r=w/\EP X pins σ Q r s') pl (by omega) (by omega) (by rw [O0,←hl];exact h1) (by simpa using ew) ⟨rfl,fin⟩) hs
theorem sT(its:List Value)(n j:Nat)(u:Value):Obj.mapSeq (·.setIfInBounds j u) { cls:=.type "list",data:=.seq its.toArray n }={ cls:=.type "list",data:=.seq (its.set j u).toArray n }:=by
 simp [Obj.mapSeq]
theorem Inv.lst{pins:List (Addr × Obj)}{σ:St}{H:Hp}{s:Shared}{p:Addr}{xs:List V}(I:Inv X pins σ H s)(h:H p=some (.lst xs)) :
  ∃ (its:List Value) (n:Nat),aU xs its/\s.heap.get? p=some { cls:=.type "list",data:=.seq its.toArray n }/\xs.length<=sizeLine:=by
 obtain⟨z,its,n,r,e⟩:=I.hok p _ h;exact⟨its,n,r,e,z⟩
theorem Inv.lstUpd{pins:List (Addr × Obj)}{σ:St}{H:Hp}{s:Shared}{p:Addr}{xs ys:List V}{its its':List Value}{n n':Nat}{f:Obj->Obj}(I:Inv X pins σ H s)(h:H p=some (.lst xs))
  (ho:s.heap.get? p=some { cls:=.type "list",data:=.seq its.toArray n }) (hf:f { cls:=.type "list",data:=.seq its.toArray n }={ cls:=.type "list",data:=.seq its'.toArray n' }) (r:aU ys its') (hz:ys.length<=sizeLine) (t:Nat) :
  Inv X pins σ (upd H p (.lst ys)) { s with heap:=s.heap.update p f,toks:=t }:=by
 have e:(s.heap.update p f).get? p=some { cls:=.type "list",data:=.seq its'.toArray n' }:=by
  rw [Pf f ho (by rw [hf]<;>rfl),hf]
 refine I.write (x:=p) (e:=p) (by rw [h];trivial) (.inl rfl) (λ b u hb q=>(OY _ _ (OK hb)).trans q) ⟨_,e⟩ ?_;exact⟨hz,its',n',r,e⟩
def GS:V->V->V->Hp->(Hp->Prop)->Prop:=λ o i v H Q=>∃ p xs k j,o=.ref p/\i=.int k/\H p=some (.lst xs)/\ixN xs.length k=some j/\Q (upd H p (.lst (xs.set j v)))
theorem zB:Nx X GS:=by
 intro pins s σ H o i v ov iv u Q I ro ri rv h;obtain⟨p,xs,k,j,rfl,rfl,hp,hj,q⟩:=h;cases ro;obtain⟨t,rfl⟩:=ri;obtain⟨its,n,r,ho,hz⟩:=I.lst hp;obtain⟨h1,h2,h3,h4⟩:=vH hj;have hl:=r.length;have hn:=mY
 have I':Inv X pins σ (upd H p (.lst (xs.set j v))) { s with heap:=s.heap.update p (Obj.mapSeq (·.setIfInBounds j u)) }:=
  I.lstUpd hp ho (sT its n j u) (r.set rv j) (by rw [List.length_set];exact hz) s.toks
 by_cases h0:0<=k
 ·have hk:k.toNat=j:=by
   rw [seqIndex_of h0 h4] at h1;exact O1 h1
  exact W.ki_setAt ho h0 (by omega) (by rw [O0,←hl];exact h4) (by rw [hk];exact⟨_,I',q⟩)
 ·have hk:(k+(its.toArray.size:Int)).toNat=j:=by
   rw [seqIndex_neg (by omega) h3] at h1;rw [O0,←hl];exact O1 h1
  exact W.ki_setBack ho (by omega) (by rw [O0,←hl];exact h3) (by omega) (by rw [hk];exact⟨_,I',q⟩)
theorem om(lo hi:Option Int)(n:Nat):(sliceBounds lo hi none n).1=((HT.sIx n 0 lo:Nat):Int)/\(sliceBounds lo hi none n).2.1=((HT.sIx n n hi:Nat):Int)/\(sliceBounds lo hi none n).2.2=1:=by
 refine⟨?_,?_,rfl⟩
 ·cases lo with
  | none=>simp [sliceBounds,HT.sIx]
  | some i=>
   simp only [sliceBounds,HT.sIx,Sq,show (1:Int) > 0 by decide,Rf]
   by_cases h:i < 0
   ·simp only [h,Rf]<;>omega
   ·simp only [h,Q5]<;>omega
 ·cases hi with
  | none=>simp [sliceBounds,HT.sIx]
  | some i=>
   simp only [sliceBounds,HT.sIx,Sq,show (1:Int) > 0 by decide,Rf]
   by_cases h:i < 0
   ·simp only [h,Rf]<;>omega
   ·simp only [h,Q5]<;>omega
theorem mf(its:List Value)(lo hi:Option Int):slicePick its.toArray lo hi none=((its.drop (HT.sIx its.length 0 lo)).take (HT.sIx its.length its.length hi - HT.sIx its.length 0 lo)).toArray:=by
 obtain⟨h1,h2,h3⟩:=om lo hi its.toArray.size;unfold slicePick;rw [h1,h2,h3]
 simp only [sliceRange_one,pick_run,O0]<;>rfl
def NK(K:W.Frag):V->Option Int->Option Int->Hp->VK->Prop:=λ x lo hi H Q=>∃ a xs,x=.ref a/\SqL K H a xs/\∀ p,H p=none->Q (.ref p) (upd H p (.lst (jU xs lo hi)))
theorem Dq:SlR X (NK X.K):=by
 intro pins s σ H x v vl vu lo hi sl Q I rx hs pl pu h;obtain⟨a,xs,rfl,hx,q⟩:=h;cases rx;obtain⟨its,r,ht,hz⟩:=I.list hx;have hlen:=r.length;refine⟨"list",_,slot_list_getitem.lookup,ht.isList.typeIs,?_⟩;refine wpAny_getItem_list_slice ht.isList hs pl pu .none (by simp) ?_ (by rw [O0]<;>omega);rw [mf,←hlen];refine⟨.ref s.heap.objs.size,_,I.laid (t':=s.toks) (o:=.lst (jU xs lo hi)) (λ b ob q=>Ox _ q) (OC _) ?_,rfl,q _ (I.hok.fresh (OC _))⟩;exact⟨PJ (jD xs lo hi) hz,_,0,(r.drop (HT.sIx xs.length 0 lo)).take (HT.sIx xs.length xs.length hi - HT.sIx xs.length 0 lo),OD _ rfl⟩
def gr:V->Bool
 | .non=>true
 | .bl _=>true
 | .int _=>true
 | .str _=>true
 | _=>false
def eqV:V->V->Bool
 | .non,.non=>true
 | .bl a,.bl b=>a == b
 | .bl a,.int b=>(if a then 1 else 0) == b
 | .int a,.bl b=>a == (if b then 1 else 0)
 | .int a,.int b=>a == b
 | .str a,.str b=>a == b
 | _,_=>false
theorem JY{A:Around}{s:Shared}{y x:V}{u v:Value}(ry:bF y u)(rx:bF x v)(fy:gr y=true)(fx:gr x=true):SeqAt.EqAt A s u v (eqV y x):=by
 cases y with
 | non=>
  cases ry
  cases x with
  | non=>cases rx;exact SeqAt.EqAt.same _
  | bl b=>cases rx;exact SeqAt.EqAt.none_bool b
  | int b=>obtain⟨t,rfl⟩:=rx;exact SeqAt.EqAt.none_int b t
  | str b=>obtain⟨t,rfl⟩:=rx;exact SeqAt.EqAt.none_str b t
  | _=>exact absurd (show false=true from fx) OP
 | bl a=>
  cases ry
  cases x with
  | non=>cases rx;exact SeqAt.EqAt.bool_none a
  | bl b=>cases rx;exact SeqAt.EqAt.bool_bool a b
  | int b=>obtain⟨t,rfl⟩:=rx;exact SeqAt.EqAt.bool_int a b t
  | str b=>obtain⟨t,rfl⟩:=rx;exact SeqAt.EqAt.bool_str a b t
  | _=>exact absurd (show false=true from fx) OP
 | int a=>
  obtain⟨t',rfl⟩:=ry
  cases x with
  | non=>cases rx;exact SeqAt.EqAt.int_none a t'
  | bl b=>cases rx;exact SeqAt.EqAt.int_bool a t' b
  | int b=>obtain⟨t,rfl⟩:=rx;exact SeqAt.EqAt.int_int a t' b t
  | str b=>obtain⟨t,rfl⟩:=rx;exact SeqAt.EqAt.int_str a t' b t
  | _=>exact absurd (show false=true from fx) OP
 | str a=>
  obtain⟨t',rfl⟩:=ry
  cases x with
  | non=>cases rx;exact SeqAt.EqAt.str_none a t'
  | bl b=>cases rx;exact SeqAt.EqAt.str_bool a t' b
  | int b=>obtain⟨t,rfl⟩:=rx;exact SeqAt.EqAt.str_int a t' b t
  | str b=>obtain⟨t,rfl⟩:=rx;exact SeqAt.EqAt.str_str a t' b t
  | _=>exact absurd (show false=true from fx) OP
 | _=>exact absurd (show false=true from fy) OP
def eqU(x:V)(u:Value):Bool:=match u with
 | .none=>eqV .non x
 | .bool b=>eqV (.bl b) x
 | .int i _=>eqV (.int i) x
 | .str z _=>eqV (.str z) x
 | _=>false
theorem B5{x y:V}{u:Value}(r:bF y u)(f:gr y=true):eqU x u=eqV y x:=by
 cases y with
 | non=>cases r;rfl
 | bl b=>cases r;rfl
 | int i=>obtain⟨t,rfl⟩:=r;rfl
 | str z=>obtain⟨t,rfl⟩:=r;rfl
 | _=>exact absurd (show false=true from f) OP
theorem pS{x:V}:∀ {xs:List V}{us:List Value},aU xs us->xs.all gr=true->us.any (eqU x)=xs.any λ y=>eqV y x
 | _,_,.nil,_=>rfl
 | y::xs,u::us,.cons r t,f=>by
  rw [List.all_cons,Qr] at f;rw [any_cons,any_cons,B5 r f.1,pS t f.2]
theorem lT{A:Around}{s:Shared}{x:V}{v:Value}(rx:bF x v)(fx:gr x=true):∀ {xs:List V}{us:List Value},aU xs us->xs.all gr=true->∀ u∈us,SeqAt.EqAt A s u v (eqU x u)
 | _,_,.nil,_=>λ u hu=>by cases hu
 | y::xs,u::us,.cons r t,f=>λ u' hu=>by
  rw [List.all_cons,Qr] at f
  rcases OU.mp hu with rfl|hu
  ·rw [B5 r f.1];exact JY r rx f.1 fx
  ·exact lT rx fx t f.2 u' hu
def inV(x:V)(xs:List V):Bool:=xs.any λ y=>eqV y x
def rIn(K:W.Frag)(neg:Bool):R2:=λ x y H Q=>∃ p xs,y=.ref p/\(SqL K H p xs\/SqT K H p xs)/\gr x=true/\xs.all gr=true/\Q (.bl (if neg then !inV x xs else inV x xs)) H
theorem oq:OpR X (compareOp .NotIn) (rIn X.K true):=by
 intro pins s σ H x y v u Q I rx ry h;obtain⟨p,xs,rfl,hq,fx,fs,q⟩:=h;cases ry
 rcases hq with hq|hq
 ·obtain⟨its,r,pl,hz⟩:=I.list hq;refine SeqAt.notIn_listAt (eqU x) pl.isList (λ w hw=>lT rx fx r fs w (by simpa using hw)) ⟨.bl _,H,I,rfl,?_⟩;rw [show its.toArray.any (eqU x)=its.any (eqU x) by simp,pS r fs];exact q
 ·obtain⟨its,r,pl,hz⟩:=I.tuple hq;refine SeqAt.notIn_tupleAt (eqU x) pl (λ w hw=>lT rx fx r fs w (by simpa using hw)) ⟨.bl _,H,I,rfl,?_⟩;rw [show its.toArray.any (eqU x)=its.any (eqU x) by simp,pS r fs];exact q
theorem dn:cn X (.builtin "len") (λ xs H Q=>∃ p ys,xs=[.ref p]/\(SqL X.K H p ys\/SqT X.K H p ys)/\Q (.int ys.length) H):=by
 intro pins s σ H xs us Q I r h;obtain⟨p,ys,rfl,hq,q⟩:=h;obtain⟨u,rfl,rx⟩:=yQ r;cases rx;have hn:=mY
 rcases hq with hq|hq
 ·obtain⟨its,r',pl,hz⟩:=I.list hq;have hlen:=r'.length;exact Calls.call_len_list pl.isList (by simp only [O0]<;>omega) ⟨.int ys.length,H,I.tok _,⟨s.toks+1,by rw [O0,hlen]⟩,q⟩
 ·obtain⟨its,r',pl,hz⟩:=I.tuple hq;have hlen:=r'.length;exact len_tuple pl (by simp only [O0]<;>omega) ⟨.int ys.length,H,I.tok _,⟨s.toks+1,by rw [O0,hlen]⟩,q⟩
theorem oJ:cn X (.builtin "len") (λ xs H Q=>∃ z,xs=[.str z]/\z.length<=sizeLine/\Q (.int z.length) H):=by
 intro pins s σ H xs us Q I r h;obtain⟨z,rfl,hz,q⟩:=h;obtain⟨u,rfl,t,rfl⟩:=yQ r;have hn:=mY;exact len_str (by omega) ⟨.int z.length,H,I.tok _,⟨_,rfl⟩,q⟩
theorem cn.or{f:Value}{r r':List V->Hp->VK->Prop}(h:cn X f r)(h':cn X f r'):cn X f (λ xs H Q=>r xs H Q\/r' xs H Q):=by
 intro pins s σ H xs us Q I rs q
 rcases q with q|q
 ·exact h pins s σ H xs us Q I rs q
 ·exact h' pins s σ H xs us Q I rs q
theorem oI:cn X (.type "list") (λ xs H Q=>∃ p ys,xs=[.ref p]/\(SqL X.K H p ys\/SqT X.K H p ys)/\∀ l,H l=none->Q (.ref l) (upd H l (.lst ys))):=by
 intro pins s σ H xs us Q I r h;obtain⟨p,ys,rfl,hq,q⟩:=h;obtain⟨u,rfl,rx⟩:=yQ r;cases rx
 have fin:∀ (its:List Value),aU ys its->ys.length<=sizeLine->∀ (h':Heap) (c':Nat),(∀ b o',s.heap.get? b=some o'->h'.get? b=some o') →
   h'.get? s.heap.objs.size=some { cls:=.type "list",dict:=none,data:=.seq its.toArray c',slots:=#[] }->EP X pins σ Q (.ref s.heap.objs.size) { s with heap:=h' }:=λ its r' hz h' c' kp e=>
  ⟨.ref s.heap.objs.size,_,I.laid (t':=s.toks) kp (OC _) (show bM X.prog X.w _ h' _ (.lst ys) from ⟨hz,its,c',r',e⟩),rfl,q _ (I.hok.fresh (OC _))⟩
 rcases hq with hq|hq
 ·obtain⟨its,r',pl,hz⟩:=I.list hq;have hlen:=r'.length;obtain⟨o,ho,hc,n,hd⟩:=pl.isList;exact call_list_seq p (.inl rfl) ho hc hd (λ h' c' kp e=>fin its r' hz h' c' kp e) (by simp only [O0]<;>omega)
 ·obtain⟨its,r',pl,hz⟩:=I.tuple hq;have hlen:=r'.length;obtain⟨o,ho,hc,n,hd⟩:=pl;exact call_list_seq p (.inr rfl) ho hc hd (λ h' c' kp e=>fin its r' hz h' c' kp e) (by simp only [O0]<;>omega)
theorem mD:cn X (.type "tuple") (λ xs H Q=>∃ p ys,xs=[.ref p]/\((SqL X.K H p ys/\∀ l,H l=none->Q (.ref l) (upd H l (.tup ys)))\/(SqT X.K H p ys/\Q (.ref p) H))):=by
 intro pins s σ H xs us Q I r h;obtain⟨p,ys,rfl,h⟩:=h;obtain⟨u,rfl,rx⟩:=yQ r;cases rx
 rcases h with ⟨hq,q⟩|⟨hq,q⟩
 ·obtain⟨its,r',pl,hz⟩:=I.list hq;have hlen:=r'.length;refine call_tuple_list pl.isList (λ h' kp=>?_) (by simp only [O0]<;>omega);have I1:Inv X pins σ H { s with heap:=h' }:=I.kept (t':=s.toks) kp
  have I2:Inv X pins σ (upd H h'.objs.size (.tup ys)) { s with heap:=h'.push { cls:=.type "tuple",data:=.seq its.toArray } }:=
   I1.laid (t':=s.toks) (λ b o e=>Ox _ e) (OC _) (show bM X.prog X.w _ _ _ (.tup ys) from ⟨hz,its,r',IsTup.new _ _⟩)
  exact⟨.ref h'.objs.size,_,I2,rfl,q _ (I1.hok.fresh (OC _))⟩
 ·obtain⟨its,r',pl,hz⟩:=I.tuple hq;exact call_tuple_same pl ⟨.ref p,H,I,rfl,q⟩
def tyV(K:W.Frag)(T:String)(x:V)(H:Hp):Prop:=match x with
 | .str _=>T = "str"
 | .int _=>T = "int"
 | .ref p=>(T = "list" /\ ∃ xs,SqL K H p xs)\/(T = "tuple" /\ ∃ o,K.lookup p=some o/\o.cls=.type "tuple" /\ o.dict=none) \/
   (T = "dict" /\ ((∃ kvs,H p=some (.dK kvs))\/∃ kvs,H p=some (.dT kvs)))\/(T = "set" /\ ∃ S n,H p=some (.set S n))
 | _=>False
theorem BO{pins:List (Addr × Obj)}{σ:St}{H:Hp}{s:Shared}{T:String}{x:V}{v:Value}(I:Inv X pins σ H s)(r:bF x v)(ty:tyV X.K T x H) :
  s.TypeIs v T/\∀ a,v=.ref a->∃ ob,s.heap.get? a=some ob/\ob.dict=none:=by
 cases x with
 | str z=>
  obtain⟨t,rfl⟩:=r;cases (show T = "str" from ty);exact⟨typeIs_str s z t,λ _ e=>nomatch e⟩
 | int i=>
  obtain⟨t,rfl⟩:=r;cases (show T = "int" from ty);exact⟨typeIs_int s i t,λ _ e=>nomatch e⟩
 | ref p=>
  cases r
  rcases ty with ⟨rfl,xs,hq⟩|⟨rfl,o,hk,hc,hd⟩|⟨rfl,hk⟩|⟨rfl,S,n,hk⟩
  ·obtain⟨its,_,pl,_⟩:=I.list hq;refine⟨pl.isList.typeIs,λ a e=>?_⟩;cases e;obtain⟨o,n,e,c,hd,_⟩:=pl;exact⟨o,e,hd⟩
  ·refine⟨⟨o,I.kIn p o hk,hc⟩,λ a e=>?_⟩;cases e;exact⟨o,I.kIn _ o hk,hd⟩
  ·have z:∃ o,s.heap.get? p=some o/\o.ExactDict:=by
    rcases hk with ⟨kvs,hk⟩|⟨kvs,hk⟩
    ·obtain⟨_,_,_,_,o,_,_,e,ex,_⟩:=I.hok p _ hk;exact⟨o,e,ex⟩
    ·obtain⟨_,_,_,_,o,_,_,e,ex,_⟩:=I.hok p _ hk;exact⟨o,e,ex⟩
   obtain⟨o,e,ex⟩:=z;refine⟨⟨o,e,ex.1⟩,λ a e2=>?_⟩;cases e2;exact⟨o,e,ex.2.1⟩
  ·obtain⟨o,_,_,_,e,ex,_⟩:=I.hok p _ hk;refine⟨⟨o,e,ex.1⟩,λ a e2=>?_⟩;cases e2;exact⟨o,e,ex.2.1⟩
 | _=>exact False.elim ty
def MD(K:W.Frag)(T:String)(r:V->List V->Hp->VK->Prop)(to:TE):TE:=λ σ H Q=>to σ H λ x H1=>tyV K T x H1/\r x [] H1 Q
def tBM(K:W.Frag)(T:String)(r:V->List V->Hp->VK->Prop)(to:TE)(t:TA):TE:=λ σ H Q=>to σ H λ x H1=>tyV K T x H1/\t σ H1 λ xs H2=>r x xs H2 Q
variable {o e:Expr}{es:List Expr}{to:TE}{t:TA}{name:Str}{apos cpos:Pos}{T id:String}{r:V->List V->Hp->VK->Prop}
theorem HW(pa:PlainAttrs T)(slot:Slot T name id)(hty:typeOf (.builtin id)=pure (.type "method_descriptor"))(hm:MtR X id r)(ho:PE X o to)
  (hbase:attributeBase o name X.env (eval o X.env)=eval o X.env:=by rfl) (hline:(apos.endLine == cpos.line)=true:=by rfl):PE X (.Call (.Attribute o name apos) [] [] cpos) (MD X.K T r to):=by
 intro pins s σ H Q I h;refine wpAny_Call_method0_late hbase hline (thn (ho pins s σ H _ I h) λ v s1 ⟨x,H1,I1,r1,ty,q1⟩=>?_);obtain⟨h1,h2⟩:=BO I1 r1 ty;exact⟨T,id,pa,slot,hty,h1,h2,R5 rfl (PySem.evalArgs_none (hm pins s1 σ H1 x [] v [] Q I1 r1 .nil q1))⟩
theorem Lh(pa:PlainAttrs T)(slot:Slot T name id)(hty:typeOf (.builtin id)=pure (.type "method_descriptor"))(hm:MtR X id r)(ho:PE X o to)(ha:PA X (e::es) t)
  (hbase:attributeBase o name X.env (eval o X.env)=eval o X.env:=by rfl)
  (hfew:((backTo cpos (starEach (e::es) X.env)).all (λ x=>!x.1) && (backToKw cpos (keywordEach [] X.env)).all (λ x=>x.1.isSome)
   && decide ((e::es).length+([]:List Keyword).length+(if ([]:List Keyword).isEmpty then 0 else 1) < 30))=true:=by rfl)
  (hline:(apos.endLine == cpos.line)=true:=by rfl) (hs:starEach (e::es) X.env=(false,eval e X.env)::starEach es X.env:=by rfl) (hplain:(backTo cpos (starEach es X.env)).any (·.1)=false:=by rfl) :
  PE X (.Call (.Attribute o name apos) (e::es) [] cpos) (tBM X.K T r to t):=by
 intro pins s σ H Q I h;refine wpAny_Call_method_late hbase hfew hline rfl (thn (ho pins s σ H _ I h) λ v s1 ⟨x,H1,I1,r1,ty,q1⟩=>?_);obtain⟨h1,h2⟩:=BO I1 r1 ty;refine⟨T,id,pa,slot,hty,h1,h2,?_⟩;have hA:=ha cpos pins s1 σ H1 _ I1 q1;rw [hs] at hA ⊢;refine R5 (by show (false || (backTo cpos (starEach es X.env)).any (·.1))=false;rw [hplain]<;>rfl) (Calls.evalArgs_plain ?_);exact thn hA λ us s2 ⟨vs,H2,I2,r2,q2⟩=>hm pins s2 σ H2 x vs v us Q I2 r1 r2 q2
end
def MtM(X:Cx)(id:String)(r:V->List V->Hp->VK->Prop):Prop:=
 ∀ (pins:List (Addr × Obj)) (s:Shared) (σ:St) (H:Hp) (x:V) (xs:List V) (v:Value) (us:List Value) (Q:VK),Inv X pins σ H s->bF x v->aU xs us->r x xs H Q →
  wpAny (model X.prog X.w) X.A (call (.builtin id) (v::us)) (EP X pins σ Q) X.xe s
theorem aU.one:∀ {x:V}{us:List Value},aU [x] us->∃ u,us=[u]/\bF x u
 | _,_,.cons r .nil=>⟨_,rfl,r⟩
theorem aU.zero:∀ {us:List Value},aU [] us->us=[]
 | _,.nil=>rfl
theorem aU.eraseIdx:∀ {xs:List V}{us:List Value}(i:Nat),aU xs us->aU (xs.eraseIdx i) (us.eraseIdx i)
 | _,_,_,.nil=>.nil
 | _,_,0,.cons _ t=>t
 | _,_,i+1,.cons r t=>.cons r (aU.eraseIdx i t)
theorem aU.reverse{xs:List V}{us:List Value}(h:aU xs us):aU xs.reverse us.reverse:=by
 induction h with
 | nil=>exact .nil
 | cons r t ih=>rw [List.reverse_cons,List.reverse_cons];exact aU.append ih (.cons r .nil)
theorem aU.rep{xs:List V}{us:List Value}(h:aU xs us):∀ k:Nat,aU (List.replicate k xs).flatten (List.replicate k us).flatten
 | 0=>.nil
 | k+1=>by
  rw [Qv,Qv,QZ,QZ];exact aU.append h (aU.rep h k)
theorem nC{α:Type}:∀ (l:List α) (i:Nat),(l.eraseIdx i).length<=l.length
 | [],_=>OC _
 | _::_,0=>QY _
 | _::r,i+1=>Nat.succ_le_succ (nC r i)
theorem nG(its:List Value):∀ (k:Nat) (acc:List Value),
  List.foldl (λ x1 x2=>x1++x2) acc.toArray (List.replicate k its.toArray)=(acc++(List.replicate k its).flatten).toArray
 | 0,acc=>by simp
 | k+1,acc=>by
  have e:acc.toArray++its.toArray=(acc++its).toArray:=by simp
  have e2:(acc++its)++(List.replicate k its).flatten=acc++(List.replicate (k+1) its).flatten:=by
   rw [Qv,QZ,List.append_assoc]
  rw [←e2,←nG its k (acc++its),←e,Qv,Rw]
section
variable {X:Cx}{pins:List (Addr × Obj)}{σ:St}{H:Hp}{s:Shared}{l b:Addr}{xs ys zs:List V}
theorem Inv.lset{its its':List Value}{n:Nat}{f:Array Value->Array Value}{t':Nat}(I:Inv X pins σ H s)(hH:H l=some (.lst xs))
  (e:s.heap.get? l=some { cls:=.type "list",data:=.seq its.toArray n }) (hf:f its.toArray=its'.toArray) (hv:aU ys its') (hz:ys.length<=sizeLine) :
  Inv X pins σ (upd H l (.lst ys)) { s with heap:=s.heap.update l (Obj.mapSeq f),toks:=t' }:=by
 have q:=PySem.IsL.update e f;rw [hf] at q;refine I.write (x:=l) (e:=l) (by rw [hH];exact trivial) (.inl rfl) (λ b' u hb hu=>(OY s.heap (Obj.mapSeq f) (OK hb)).trans hu) ⟨_,q⟩ ?_;exact⟨hz,its',_,hv,q⟩
theorem Inv.lnew{its:List Value}{t':Nat}(I:Inv X pins σ H s)(hv:aU ys its)(hz:ys.length<=sizeLine) :
  Inv X pins σ (upd H s.heap.objs.size (.lst ys)) { s with heap:=s.heap.push { cls:=.type "list",data:=.seq its.toArray },toks:=t' }:=
 I.laid (λ _ _ q=>Ox _ q) (OC _) ⟨hz,its,0,hv,OD _ rfl⟩
theorem Inv.fresh(I:Inv X pins σ H s):H s.heap.objs.size=none:=I.hok.fresh (OC _)
theorem Inv.lstM(I:Inv X pins σ H s)(hH:H l=some (.lst xs)):xs.length<=sizeLine/\∃ (its:List Value) (n:Nat),aU xs its/\xs.length=its.length/\s.heap.get? l=some { cls:=.type "list",data:=.seq its.toArray n }:=by
 obtain⟨z,its,n,r,e⟩:=I.hok l _ hH;exact⟨z,its,n,r,r.length,e⟩
theorem rl{n:Nat}(h:n<=sizeLine):Builtin.List.listTooLong n=false:=by
 unfold Builtin.List.listTooLong;exact decide_eq_false (by omega)
end
section
variable {X:Cx}
def vw:V->List V->Hp->VK->Prop:=λ x vs H Q=>∃ l xs y,x=.ref l/\vs=[y]/\H l=some (.lst xs)/\xs.length < sizeLine/\Q .non (upd H l (.lst (xs++[y])))
theorem b9:MtM X "list.append" vw:=by
 intro pins s σ H x vs v us Q I rx rv h;obtain⟨l,xs,y,rfl,rfl,hH,hz,q⟩:=h;cases rx;obtain⟨u,rfl,ru⟩:=rv.one;obtain⟨z,its,n,r,hl,e⟩:=I.lstM hH;refine R9 F.slot_list_append ⟨_,e,rfl⟩ F.entry_list_append (F.args_list_append_2 _ _) (PySem.list_append l its.toArray n u (by rw [O0];omega)) ⟨e,?_⟩;refine⟨.non,_,I.lset (its':=its++[u]) hH e (by simp) (r.append (.cons ru .nil)) ?_,rfl,q⟩;rw [OR,PU];omega
def vt:V->List V->Hp->VK->Prop:=λ x vs H Q=>∃ l b xs zs,x=.ref l/\vs=[.ref b]/\H l=some (.lst xs)/\H b=some (.lst zs)/\xs.length+zs.length<=sizeLine/\Q .non (upd H l (.lst (xs++zs)))
theorem jo:MtM X "list.extend" vt:=by
 intro pins s σ H x vs v us Q I rx rv h;obtain⟨l,b,xs,zs,rfl,rfl,hH,hB,hz,q⟩:=h;cases rx;obtain⟨u,rfl,ru⟩:=rv.one;cases ru;obtain⟨z,its,n,r,hl,e⟩:=I.lstM hH;obtain⟨z2,its2,n2,r2,hl2,e2⟩:=I.lstM hB;have hsz:its.toArray.size+its2.toArray.size<=sizeLine:=by rw [O0,O0];omega
 have hlong:¬ (!its.toArray.isEmpty && Builtin.List.listTooLong (its.toArray.size+its2.toArray.size))=true:=by
  rw [rl hsz,Bool.and_false];exact OP
 refine R9 F.slot_list_extend ⟨_,e,rfl⟩ F.entry_list_extend (F.args_list_extend_2 _ _)
  (AutoSeq1.list_extend_list_list_0 l its.toArray n b its2.toArray n2 hlong (by rw [O0];omega) (by omega)) ⟨e,e2,?_⟩
 refine⟨.non,_,I.lset (its':=its++its2) hH e (by simp) (r.append r2) ?_,rfl,q⟩;rw [OR];omega
def HH:V->List V->Hp->VK->Prop:=λ x vs H Q=>∃ l xs i k y,x=.ref l/\vs=[.int i]/\H l=some (.lst xs)/\-(2 ^ 63)<=i/\i < 2 ^ 63/\seqIndex? i xs.length=some k/\xs[k]? = some y/\Q y (upd H l (.lst (xs.eraseIdx k)))
theorem Aa:MtM X "list.pop" HH:=by
 intro pins s σ H x vs v us Q I rx rv h;obtain⟨l,xs,i,k,y,rfl,rfl,hH,h1,h2,hk,hy,q⟩:=h;cases rx;obtain⟨u,rfl,ru⟩:=rv.one;obtain⟨t,rfl⟩:=ru;obtain⟨z,its,n,r,hl,e⟩:=I.lstM hH;obtain⟨w,hw,rw'⟩:=r.get hy
 refine R9 F.slot_list_pop ⟨_,e,rfl⟩ F.entry_list_pop (F.args_list_pop_2 _ _)
  (MeetsSeq.list_pop_at l its.toArray n i t k w (fitsIndex_both h1 h2) (by rw [O0,←hl];exact hk) (by rw [←Array.getElem?_toList];exact hw) (by rw [O0];omega)) ⟨e,?_⟩
 refine⟨y,_,I.lset (its':=its.eraseIdx k) hH e ?_ (r.eraseIdx k) ?_,rw',q⟩
 ·show its.toArray.eraseIdxIfInBounds k=(its.eraseIdx k).toArray
  rw [List.eraseIdxIfInBounds_toArray]
 ·have:=nC xs k;omega
def rh:V->List V->Hp->VK->Prop:=λ x vs H Q=>∃ l xs,x=.ref l/\vs=[]/\H l=some (.lst xs)/\Q .non (upd H l (.lst xs.reverse))
theorem sS:MtM X "list.reverse" rh:=by
 intro pins s σ H x vs v us Q I rx rv h;obtain⟨l,xs,rfl,rfl,hH,q⟩:=h;cases rx;have hus:=rv.zero;subst hus;obtain⟨z,its,n,r,hl,e⟩:=I.lstM hH;refine R9 F.slot_list_reverse ⟨_,e,rfl⟩ F.entry_list_reverse (F.args_list_reverse_1 _) (AutoSeq1.list_reverse_list_0 l its.toArray n (by rw [O0];omega)) ⟨e,?_⟩;refine⟨.non,_,I.lset (its':=its.reverse) hH e (by simp) r.reverse ?_,rfl,q⟩;rw [List.length_reverse];omega
def ML:R2:=λ x y H Q=>∃ l b xs zs,x=.ref l/\y=.ref b/\H l=some (.lst xs)/\H b=some (.lst zs)/\xs.length+zs.length<=sizeLine/\∀ p,H p=none->Q (.ref p) (upd H p (.lst (xs++zs)))
theorem Ih:OpR X (binaryOp .Add) ML:=by
 intro pins s σ H x y v u Q I rx ry h;obtain⟨l,b,xs,zs,rfl,rfl,hH,hB,hz,q⟩:=h;cases rx;cases ry;obtain⟨z,its,n,r,hl,e⟩:=I.lstM hH;obtain⟨z2,its2,n2,r2,hl2,e2⟩:=I.lstM hB;refine PySem.P.add_list e e2 ?_ (by rw [O0,O0];omega);have ea:its.toArray++its2.toArray=(its++its2).toArray:=by simp
 rw [ea];exact⟨.ref _,_,I.lnew (t':=s.toks) (r.append r2) (by rw [OR];omega),rfl,q _ I.fresh⟩
def NL:R2:=λ x y H Q=>∃ l k xs,x=.ref l/\y=.int k/\H l=some (.lst xs)/\-(2 ^ 63)<=k/\k < 2 ^ 63/\xs.length * k.toNat<=sizeLine /\
 ∀ p,H p=none->Q (.ref p) (upd H p (.lst (List.replicate k.toNat xs).flatten))
theorem Fl{α:Type}(xs:List α)(k:Nat):(List.replicate k xs).flatten.length=k * xs.length:=by
 induction k with
 | zero=>simp
 | succ k ih=>rw [Qv,QZ,OR,ih,Nat.succ_mul,Nat.add_comm]
theorem Ia:OpR X (binaryOp .Mult) NL:=by
 intro pins s σ H x y v u Q I rx ry h;obtain⟨l,k,xs,rfl,rfl,hH,h1,h2,hz,q⟩:=h;cases rx;obtain⟨t,rfl⟩:=ry;obtain⟨z,its,n,r,hl,e⟩:=I.lstM hH;have hlen:its.toArray.size * k.toNat<=sizeLine:=by rw [O0,←hl];exact hz
 have hcap:¬ its.toArray.size * k.toNat > (2 ^ 63 - 1) / 8:=by
  have:(sizeLine:Nat)<=(2 ^ 63 - 1) / 8:=by decide
  omega
 have hfit:¬ (!Builtin.List.listFitsIndex k)=true:=by
  rw [fitsIndex_both h1 h2];exact OP
 have hlong:¬ Builtin.List.listTooLong (its.toArray.size * k.toNat)=true:=by
  rw [rl hlen];exact OP
 have hnew:List.foldl (λ x1 x2=>x1++x2) #[] (List.replicate (if its.toArray.isEmpty=true then 0 else k.toNat) its.toArray)=(List.replicate k.toNat its).flatten.toArray:=by
  have f0:∀ m:Nat,List.foldl (λ x1 x2=>x1++x2) #[] (List.replicate m its.toArray)=(List.replicate m its).flatten.toArray:=λ m=>by
   have:=nG its m [];rw [Sy] at this;exact this
  rw [f0]
  cases its with
  | nil=>simp
  | cons a r'=>rw [O2 (by simp)]
 refine wpAny_binaryOp_repeat_ref (T := "list") (U := "int") (by decide) ⟨_,e,rfl⟩ (λ s'=>typeIs_int s' k t) noFill_list_mul F.fills_int_mul F.slot_int_rmul repeat_list F.slot_int_index.lookup
  (R9 F.slot_int_rmul (typeIs_int s k t) F.entry_int_rmul (F.args_int_rmul_2 _ _) (int___rmul___int_list k t l its.toArray n)
   ⟨e,rfl,⟨_,e,rfl⟩,R9 F.slot_list_mul ⟨_,e,rfl⟩ F.entry_list_mul (F.args_list_mul_2 _ _) (AutoListH.list___mul___list_int_3 l its.toArray n k t hfit hcap hlong) ⟨e,?_⟩⟩)
 rw [hnew];exact⟨.ref _,_,I.lnew (t':=s.toks) (r.rep k.toNat) (by rw [Fl,Nat.mul_comm];exact hz),rfl,q _ I.fresh⟩
end
section
variable {prog:Program}{w:World}{A:Around}{E:Value->Shared->Prop}{s:Shared}
end
section
variable {X:Cx}
end
end L2
namespace Att
open PySem PySem.W PySem.Calls PyProof.Rows
theorem jP{P:Params}{h:Heap}:∀ (ns:List Int) (vs:List Value),WellAll P h vs (ns.map WData.int)->IntsAre vs ns:=by
 intro ns
 induction ns with
 | nil=>
  intro vs w;rw [Si] at w;cases w;exact .nil
 | cons n ns ih=>
  intro vs w;rw [PB] at w
  cases w with
  | cons a b=>
   cases a;exact .cons _ _ (ih _ b)
theorem wF{l:OpenLaw}{n:Nat}(hn:l.most=some n){P:Params}{h:Heap}{args:List WData}{vals:List Value}
  (hpre:l.row.toRowW.claim.pre args=true) (hwl:WellAll P h vals args) :
  ∃ a vs ns,vals=[Value.ref a]/\args=[WData.list (ns.map WData.int)]/\h.get? a=some { cls:=.type "list",data:=.seq vs.toArray }/\IntsAre vs ns/\ns.length<=n:=by
 have hsh:WShape.hasAll [] args [.list .int]=true:=(pre_splitW hpre).1;have hc:l.pre.holds [] { args:=args }=true:=(pre_splitW hpre).2;obtain⟨d,r,rfl,h1,h2⟩:=hasAllW_cons hsh;obtain rfl:=hasAllW_nil h2;obtain⟨xs,rfl,h3⟩:=hasW_list h1;obtain⟨ns,rfl⟩:=items_int h3
 have hlen:ns.length<=n:=by
  unfold OpenLaw.pre at hc
  have h4:(WTm.not (.lt (.lit (.int (n:Int))) (.len (.arg 0)))).holds [] { args:=[.list (ns.map .int)] }=true:=by
   have h4:=(holds_andW hc).1;rw [hn] at h4;exact h4
  have h5:=condW_of h4 (w_not (w_lt w_lit (w_len_list (w_arg rfl))));rw [OB] at h5;refine Sr λ q=>?_;have q':(n:Int) < ((ns.length:Nat):Int):=by omega
  first
   | (rw [OG q'] at h5;exact absurd h5 (by decide))
   | (simp at h5;omega)
 cases hwl with
 | cons w1 w2=>
  cases w2
  cases w1 with
  | list ho hall=>exact⟨_,_,ns,rfl,rfl,ho,jP ns _ hall,hlen⟩
theorem wH(l:OpenLaw)(args:List WData):l.row.toRowW.claim.post args (.bool true) args=true:=
 postW_of (r:=l.row.toRowW) (X:=(true == true))
  (show WShape.has [] (.bool true) .bool=true by first|rfl|decide|simp [WShape.has,WShape.arms,WShape.armsAll])
  (show (WTm.eq .res (.lit (.bool true))).value [] { args:=args,res:=some (.bool true),after:=args }=some (.bool (true == true)) from w_eq_bool (w_res rfl) w_lit) rfl
theorem attach_call{l:OpenLaw}{n:Nat}{q:Program}{loose:List Str}{XP:(Str->Option Value)->Heap->Prop}{YP:World->Heap->Prop}{d:DefRec}
  (hn:l.most=some n) (hdf:d.params.defaults=[])
  (call:∀ (w:World) (s₀ s₁:Shared) (mg mb:Str->Option Value) (fa:Addr) (o:Obj) (pm cd doc:Value) (a:Addr) (vs:List Value) (ns:List Int),
   Ground q loose [] XP w s₀ mg mb s₁.heap->YP w s₁.heap →
   s₁.heap.get? fa=some o->o.data=.func (docDef d.name d.params d.body d.scope pm cd doc)->s₁.heap.CodeRec cd d.name->mg d.name=some (.ref fa) →
   s₁.heap.get? a=some { cls:=.type "list",data:=.seq vs.toArray }->IntsAre vs ns->ns.length<=n->s₁.gens=#[] →
   codeAny (model l.prog w) callerA (.call (.ref fa) ⟨[.ref a],[]⟩) (λ r s'=>r=.ok (.ret (.bool true))/\OldK s₁.heap s'.heap/\s'.os=s₁.os/\AllBare s'.gens) s₁) :
  WalkO q loose XP YP l.row.toRowW d [] (λ f vs=>PySem.call f vs):=by
 intro w s₀ s₁ mg mb G Y fa o pm cd doc dV kV ho hd hcd hD hmg hg args vals as hpre hlay hrd hwl hlo;obtain rfl:dV=.none:=Dflts.none hD hdf;obtain rfl:kV=.none:=Dflts.noKw hD;obtain⟨a,vs,ns,rfl,rfl,hobj,hints,hlen⟩:=wF hn hpre hwl;refine enter_call (RH (call w s₀ s₁ mg mb fa o pm cd doc a vs ns G Y ho (fd_plain hd) hcd hmg hobj hints hlen hg) λ r s' hq=>?_);obtain⟨rfl,h2,h3,h4⟩:=hq;exact⟨.inl ⟨.bool true,.bool true,[],rfl,λ _=>rfl,.bool true,wH l _,λ _=>⟨List.Pairwise.nil,λ _ hm=>(nomatch hm)⟩⟩,h2,h3,h4⟩
section
variable {prog:Program}{w:World}{A:Around}{E:Value->Shared->Prop}{s:Shared}{K:Frag}
def ND(h:Heap)(L d:Addr):List (Addr × Obj):=(List.range h.objs.size).filterMap λ a=>if a=L\/a=d then none else (h.get? a).map λ o=>(a,o)
end
end Att
namespace L2
open PySem PySem.Spec PyProof.Rows
theorem nc:∀ {vs:List Value}{ns:List Int},IntsAre vs ns->aU (ns.map V.int) vs
 | _,_,.nil=>.nil
 | _,_,.cons n t h=>.cons ⟨t,rfl⟩ (nc h)
def K9(H:Hp):Prop:=∀ b,H b=none\/∃ o xs,H b=some (.frz o (.lst xs))
theorem Az{P:Program}{w:World}{K:W.Frag}{mg mb:Str->Option Value}{CX:CXT}{k:Nat}{fa a:Addr}{fd:FuncData}{x:Str}{sp:Sp}{s₁:Shared}{vs:List Value}{ns:List Int}
  (KX:K.In s₁.heap) (hns:s₁.heap.Ns mainGlobals mg) (hb:s₁.heap.Ns builtinsNs mb) (hbb:∀ x:Str,x ≠ "__name__" → mb x=bootBuiltins x) (hlim:s₁.heap.NoLimit) (hg:s₁.gens=#[])
  (ha:s₁.heap.get? a=some { cls:=.type "list",data:=.seq vs.toArray }) (hi:IntsAre vs ns) (hl:ns.length<=sizeLine) (hr:iP k callerA)
  (F:∀ base:Heap,K.In base->base.Ns mainGlobals mg->bL P w K mg base CX k fa fd [x] sp) (hbind:∀ (s:Shared) (u:Value),BindsTo s fd ⟨[u],[]⟩ [(x,u)])
  (hsp:∀ H:Hp,K9 H->SqL K H a (ns.map V.int)->sp [.ref a] H (λ v _=>v=.bl true) λ _ _ _=>False)
  (hCX:∀ H e s',CX [] H s₁ (λ _ _ _=>False) e s'->False) :
  codeAny (model P w) callerA (.call (.ref fa) ⟨[.ref a],[]⟩) (λ r s'=>r=.ok (.ret (.bool true))/\OldK s₁.heap s'.heap/\s'.os=s₁.os/\AllBare s'.gens) s₁:=by
 have rv:=nc hi;have lenV:=hi.length
 have core:∀ H:Hp,K9 H->SqL K H a (ns.map V.int)->HOk P w H s₁.heap->(∀ b,H b ≠ none->b=a)->(H a ≠ none->K.lookup a=none) →
   codeAny (model P w) callerA (.call (.ref fa) ⟨[.ref a],[]⟩) (λ r s'=>r=.ok (.ret (.bool true))/\OldK s₁.heap s'.heap/\s'.os=s₁.os/\AllBare s'.gens) s₁:=by
  intro H hO hS hok hA hK;have base_of:∀ {b:Addr} {o:Obj},s₁.heap.get? b=some o->H b=none->(yN s₁.heap H).get? b=some o:=λ e n=>Ba e n
  have noA:∀ {b:Addr} {o:Obj} {es:Array DictEntry} {ep:Nat},s₁.heap.get? b=some o->o.data=.dict es ep->H b=none:=λ {b o es ep} e d=>by
   cases q:H b with
   | none=>rfl
   | some u=>
    have e':b=a:=hA b (by rw [q];simp);subst e';rw [ha] at e;cases e;have d':Data.seq vs.toArray _=Data.dict es ep:=d;cases d'
  have nsK:∀ {b:Addr} {m:Str->Option Value},s₁.heap.Ns b m->(yN s₁.heap H).Ns b m:=λ {b m} ⟨o,es,ep,e,d,r⟩=>⟨o,es,ep,base_of e (noA e d),d,r⟩
  have hKb:K.In (yN s₁.heap H):=λ b o e=>base_of (KX b o e) (by
   cases q:H b with
   | none=>rfl
   | some u=>
    have e':b=a:=hA b (by rw [q];simp);subst e';rw [hK (by rw [q];simp)] at e;cases e)
  have hM:Mod K mg (yN s₁.heap H):=⟨hKb,nsK hns,⟨mb,nsK hb,hbb⟩,let ⟨mc,h1,h2⟩:=hlim;⟨mc,nsK h1,h2⟩⟩;have e0:BL P w K mg (yN s₁.heap H) callerA [] s₁ H:=⟨rfl,hM,λ b o e=>DU e,Nat.le_of_eq (yj _ _),trivial,λ b hb=>absurd (show b∈([]:List Addr) from hb) (by simp),hok,.of_eq hg⟩;refine RH ((F _ hKb (nsK hns)).run callerA [] s₁ H ⟨[.ref a],[]⟩ [.ref a] [.ref a] _ _ hr e0 (hbind s₁ (.ref a)) (.cons rfl .nil) (hsp H hO hS)) λ r s' h=>?_
  cases r with
  | error e=>exact(hCX H e s' h).elim
  | ok fl=>
   cases fl with
   | next=>exact False.elim h
   | brk=>exact False.elim h
   | cont=>exact False.elim h
   | ret u=>
    obtain⟨v,H',os,bare,un,hok',r',q⟩:=h;have q':v=.bl true:=q;subst q';obtain rfl:u=Value.bool true:=r';refine⟨rfl,OldK.of_keep λ b o e=>?_,os,bare⟩
    cases q:H b with
    | none=>exact un.keep b o e q (by intro z;exact absurd (show b∈([]:List Addr) from z) (by simp)) (by simp)
    | some u=>
     rcases hO b with z|⟨ob,xs,z⟩
     ·rw [q] at z;cases z
     ·have z2:=un.frzs b ob _ z;obtain⟨e1,_⟩:=hok b _ z;obtain⟨e2,_⟩:=hok' b _ z2;rw [e] at e1;cases e1;exact e2
 cases hk:K.lookup a with
 | some o=>
  have e:=KX a o hk;rw [ha] at e;cases e;refine core (λ _=>none) (λ _=>.inl rfl) (.inr ⟨_,vs.toArray,_,hk,rfl,rfl,rfl,by rw [O0,lenV];exact hl,by simpa using rv⟩) (λ b u z=>by have z':(none:Option HO)=some u:=z;cases z') (λ b z=>absurd rfl z) λ z=>absurd rfl z
 | none=>
  refine core (λ b=>if b=a then some (.frz { cls:=.type "list",data:=.seq vs.toArray } (.lst (ns.map V.int))) else none) (λ b=>?_) (.inl (.inr ⟨{ cls:=.type "list",data:=.seq vs.toArray },Pd rfl⟩)) (λ b u z=>?_) (λ b z=>?_) λ _=>hk
  ·by_cases hb:b=a
   ·exact .inr ⟨_,_,Pd hb⟩
   ·exact .inl (O2 hb)
  ·by_cases hb:b=a
   ·have z':=(Pd hb).symm.trans z;cases z';subst hb;exact⟨ha,by rw [OB];exact hl,vs,_,rv,ha⟩
   ·have z':=(O2 hb).symm.trans z;cases z'
  ·by_cases hb:b=a
   ·exact hb
   ·exact absurd (O2 hb) z
abbrev KOf{K:PySem.W.Frag}{h:Heap}(_:K.In h):PySem.W.Frag:=K
theorem Mr{l:W.OpenLaw}{n k:Nat}{q:Program}{loose:List Str}{XP:(Str->Option Value)->Heap->Prop}{YP:World->Heap->Prop}{d:DefRec}{K:Params->W.Frag}{CX:World->CXT}{sp:World->Sp}{x:Str}
  (hn:l.most=some n) (hn2:n<=sizeLine) (hdf:d.params.defaults=[]) (hr:iP k callerA)
  (hY:∀ (w:World) (h:Heap),YP w h->(K w.params).In h)
  (F:∀ (w:World) (mg:Str->Option Value) (fa:Addr) (h:Heap),(K w.params).In h->h.Ns mainGlobals mg->mg d.name=some (.ref fa) →
   ∃ fd:FuncData,(∀ (s:Shared) (u:Value),BindsTo s fd ⟨[u],[]⟩ [(x,u)]) /\
    ∀ base:Heap,(K w.params).In base->base.Ns mainGlobals mg->bL l.prog w (K w.params) mg base (CX w) k fa fd [x] (sp w))
  (hsp:∀ (w:World) (H:Hp) (a:Addr) (ns:List Int),ns.length<=n->K9 H->SqL (K w.params) H a (ns.map V.int)->sp w [.ref a] H (λ v _=>v=.bl true) λ _ _ _=>False)
  (hCX:∀ (w:World) (H:Hp) (s:Shared) (e:Value) (s':Shared),CX w [] H s (λ _ _ _=>False) e s'->False) :
  W.WalkO q loose XP YP l.row.toRowW d [] (λ f vs=>PySem.call f vs):=by
 refine Att.attach_call hn hdf λ w s₀ s₁ mg mb fa o pm cd doc a vs ns G Y ho hd hcd hmg hobj hints hlen hg=>?_;have KX:=hY w _ Y;obtain⟨fd,hb,hF⟩:=F w mg fa _ KX G.T.g hmg;exact Az KX G.T.g G.T.b G.T.builtins G.T.nolimit hg hobj hints (PJ hlen hn2) hr hF hb (λ H hO hS=>hsp w H a ns hlen hO hS) λ H e s'=>hCX w H s₁ e s'
def dz(s:Stmt)(j:Nat):Stmt:=match s with
 | .ClassDef _ _ _ body _ _ _ _ _ _ _=>body.getD j (.Pass ⟨0,0,0,0⟩)
 | _=>.Pass ⟨0,0,0,0⟩
def fV(s:Stmt):Arguments:=match s with
 | .FunctionDef _ a _ _ _ _ _ _ _ _=>a
 | _=>{ posonlyargs:=[],args:=[],vararg:=none,kwonlyargs:=[],kw_defaults:=[],kwarg:=none,defaults:=[] }
def eU(s:Stmt):List Stmt:=match s with
 | .FunctionDef _ _ b _ _ _ _ _ _ _=>b
 | _=>[]
def aa(s:Stmt):Scope:=match s with
 | .FunctionDef _ _ _ _ _ _ sc _ _ _=>sc
 | _=>{ kind:=.function,names:=[],isGenerator:=false,isCoroutine:=false }
abbrev CX0:CXT:=λ _ _ _ _ _ _=>False
abbrev E0:XK:=λ _ _ _=>False
theorem eJ{X:Cx}:ku CX0 X E0:=λ _ _ _ _ _ _ _ h=>h.elim
structure Fun(K:W.Frag)(x qual:Str)(st:Stmt)(f:Addr)(fd:FuncData):Prop where
 ex:∃ (oc:Value) (od:Option Addr) (kV doc pm:Value) (an:Option Addr) (cdv ct:Value) (osl:Array (Option Value)),
  fd=W.fnOf x qual (fV st) (eU st) (aa st) .none kV doc pm an cdv ct/\K.lookup f=some ⟨oc,od,.func fd,osl⟩/\W.codeIn K cdv qual=true
 kp:W.keepIn K (.ref f)=true
section
variable {P:Program}{w:World}{K:PySem.W.Frag}{mg:Str->Option Value}{base:Heap}
theorem Fun.ok{x qual:Str}{st:Stmt}{f:Addr}{fd:FuncData}{N ps:List Str}{k:Nat}{sp:Sp}(F:Fun K x qual st f fd)(S:aj N ps (aa st))(len:∀ vs H Q E,sp vs H Q E->vs.length=ps.length)
  (hbody:∀ (cdv:Value) (A:Around) (outer:List Env) (s:Shared) (H:Hp) (vs:List V) (Q:VK) (E:XK),iP k (A.deeper (envOfC qual (aa st) s.heap.objs.size f cdv))->sp vs H Q E →
   ∃ t,PSs (Cc CX0 P w K mg base N qual (aa st) f cdv A outer s H E).nox (eU st) t/\t { nx:=λ _ H'=>Q .non H',rt:=Q } (aA N vs) H):bL P w K mg base CX0 (k+1) f fd ps sp:=by
 obtain⟨oc,od,kV,doc,pm,an,cdv,ct,osl,rfl,lk,hcd⟩:=F.ex;refine Mg lk hcd S len λ A outer s H vs Q E hr hsp=>?_;obtain⟨t,h,q⟩:=hbody cdv A outer s H vs Q E hr hsp;exact⟨t,h.nox,q⟩
theorem Fun.binds{x qual:Str}{st:Stmt}{f:Addr}{fd:FuncData}{ps:List Str}(F:Fun K x qual st f fd)
  (h:∀ (kV doc pm:Value) (an:Option Addr) (cdv ct:Value) (us:List Value),us.length=ps.length->bindArgs (W.fnOf x qual (fV st) (eU st) (aa st) .none kV doc pm an cdv ct) ⟨us,[]⟩=pure (ps.zip us)):aw K fd ps []:=by
 obtain⟨oc,od,kV,doc,pm,an,cdv,ct,osl,rfl,lk,hcd⟩:=F.ex;exact .all (h kV doc pm an cdv ct)
theorem JV{x qual:Str}{st:Stmt}{f:Addr}{oc:Value}{od an:Option Addr}{osl:Array (Option Value)}{kV doc pm cdv ct:Value}(l:K.lookup f=some ⟨oc,od,.func (W.fnOf x qual (fV st) (eU st) (aa st) .none kV doc pm an cdv ct),osl⟩)
  (c:W.codeIn K cdv qual=true) (k:W.keepIn K (.ref f)=true):Fun K x qual st f (W.fnOf x qual (fV st) (eU st) (aa st) .none kV doc pm an cdv ct):=⟨⟨oc,od,kV,doc,pm,an,cdv,ct,osl,rfl,l,c⟩,k⟩
end
theorem nk{n:Nat}(h:n<=1000):n < sizeLine:=Nat.lt_of_le_of_lt h (by decide)
section
variable {X:Cx}
theorem pv(i:Nat){x:Str}{pos:Pos}(hN:X.N[i]? = some x:=by rfl)(hv:Vis X.env.scope x:=by first|exact Or.inl rfl|exact Or.inr (Or.inl rfl)|exact Or.inr (Or.inr rfl))(hd:(x == ("__debug__":Str))=false:=by decide)
  (hcd:(x == ("__classdict__":Str))=false:=by decide):PE X (.Name x pos) (J5 i):=HR hN hv hd hcd
end
theorem Nn{c A B:Prop}[Decidable c](h1:c->A)(h2:¬ c->B):if c then A else B:=by
 by_cases h:c
 ·rw [Pd h];exact h1 h
 ·rw [O2 h];exact h2 h
def mN(H H':Hp):Prop:=∀ b o,H b=some o->H' b=some o
theorem mN.refl(H:Hp):mN H H:=λ _ _ h=>h
theorem mN.trans{H H1 H2:Hp}(a:mN H H1)(b:mN H1 H2):mN H H2:=λ c o h=>b c o (a c o h)
theorem mN.free{H H':Hp}(e:mN H H'){l:Addr}(h:H' l=Option.none):H l=Option.none:=by
 cases q:H l with
 | none=>rfl
 | some o=>
  rw [e l o q] at h;cases h
theorem mN.seq{K:W.Frag}{H H':Hp}{a:Addr}{xs:List V}(e:mN H H')(h:SqL K H a xs):SqL K H' a xs:=by
 rcases h with (h|⟨o,h⟩)|h
 ·exact .inl (.inl (e _ _ h))
 ·exact .inl (.inr ⟨o,e _ _ h⟩)
 ·exact .inr h
section
variable {κ:Type}[DecidableEq κ]
def dO(kvs:List (κ × V))(k:κ):Option V:=(kvs.find? λ kv=>decide (kv.1=k)).map (·.2)
def kj(kvs:List (κ × V))(k:κ)(v:V):List (κ × V):=
 if (kvs.any λ kv=>decide (kv.1=k))=true then kvs.map (λ kv=>if kv.1=k then (kv.1,v) else kv) else kvs++[(k,v)]
theorem b0{p:κ × V}{r:List (κ × V)}{k:κ}(e:p.1=k):dO (p::r) k=some p.2:=by simp [dO,RO,e]
theorem b8{p:κ × V}{r:List (κ × V)}{k:κ}(e:¬ p.1=k):dO (p::r) k=dO r k:=by simp [dO,RO,e]
theorem gw(k:κ):∀ kvs:List (κ × V),(kvs.any λ kv=>decide (kv.1=k))=(dO kvs k).isSome
 | []=>rfl
 | p::r=>by
  rw [any_cons]
  by_cases e:p.1=k
  ·simp only [b0 e,OG e,Bool.true_or,Option.isSome_some]
  ·rw [b8 e,OM e,Bool.false_or];exact gw k r
theorem qV(k j:κ)(y:V):∀ kvs:List (κ × V),dO (kvs.map λ kv=>if kv.1=k then (kv.1,y) else kv) j=(dO kvs j).map λ x=>if j=k then y else x
 | []=>rfl
 | p::r=>by
  have ih:=qV k j y r;rw [PB]
  by_cases h:p.1=k
  ·rw [Pd h]
   by_cases e:p.1=j
   ·rw [b0 (p:=(p.1,y)) e,b0 e,QN,Pd (e.symm.trans h)]
   ·rw [b8 (p:=(p.1,y)) e,b8 e,ih]
  ·rw [O2 h]
   by_cases e:p.1=j
   ·rw [b0 (p:=p) e,b0 e,QN,O2 (λ z=>h (e.trans z))]
   ·rw [b8 (p:=p) e,b8 e,ih]
theorem ng(k j:κ)(y:V):∀ kvs:List (κ × V),dO kvs k=none->dO (kvs++[(k,y)]) j=if j=k then some y else dO kvs j
 | [],_=>by
  by_cases e:k=j
  ·rw [Pd e.symm];exact b0 (p:=(k,y)) e
  ·rw [O2 (λ z=>e z.symm)];exact b8 (p:=(k,y)) e
 | p::r,hn=>by
  rw [RW];have hk:¬ p.1=k:=λ z=>by rw [b0 z] at hn;cases hn
  rw [b8 hk] at hn;have ih:=ng k j y r hn
  by_cases e:p.1=j
  ·rw [b0 e,b0 e,O2 (λ z=>hk (e.trans z))]
  ·rw [b8 e,b8 e,ih]
theorem fi(kvs:List (κ × V))(k j:κ)(y:V):dO (kj kvs k y) j=if j=k then some y else dO kvs j:=by
 unfold kj
 by_cases a:(kvs.any λ kv=>decide (kv.1=k))=true
 ·rw [Pd a,qV];rw [gw] at a
  by_cases e:j=k
  ·obtain⟨x,hx⟩:=PN.mp a;rw [Pd e,e,hx,QN,Pd rfl]
  ·rw [O2 e]
   cases dO kvs j with
   | none=>rfl
   | some x=>rw [QN,O2 e]
 ·rw [O2 a];refine ng k j y kvs ?_;rw [gw] at a
  cases q:dO kvs k with
  | none=>rfl
  | some x=>rw [q] at a;exact(a rfl).elim
theorem jA(kvs:List (κ × V))(k:κ)(v:V):(kj kvs k v).length<=kvs.length+1:=by
 unfold kj;split
 ·rw [OB];omega
 ·rw [OR,Ph,List.length_nil];omega
theorem zI{kvs:List (κ × V)}{k:κ}(v:V)(h:dO kvs k=none):kj kvs k v=kvs++[(k,v)]:=by
 unfold kj;rw [gw,h];exact if_neg (by decide)
theorem mI.isSome_eq{o:Option V}{u:Option Value}(r:mI o u):o.isSome=u.isSome:=by
 cases o with
 | none=>cases u with
  | none=>rfl
  | some _=>exact(show False from r).elim
 | some _=>cases u with
  | none=>exact(show False from r).elim
  | some _=>rfl
theorem mI.getD{o:Option V}{u:Option Value}{d:V}{d':Value}(r:mI o u)(rd:bF d d'):bF (o.getD d) (u.getD d'):=by
 cases o with
 | none=>cases u with
  | none=>exact rd
  | some _=>exact(show False from r).elim
 | some _=>cases u with
  | none=>exact(show False from r).elim
  | some _=>exact r
theorem KV.val{kvs:List (κ × V)}{vs:List (κ × Value)}(r:KV kvs vs)(k:κ):mI (dO kvs k) (valueAt vs k):=by
 unfold KV at r
 induction r with
 | nil=>exact True.intro
 | @cons p q ps qs h t ih=>
  obtain⟨h1,h2⟩:=h
  by_cases e:p.1=k
  ·have e':q.1=k:=h1.symm.trans e;have b:valueAt (q::qs) k=some q.2:=by simp [valueAt,RO,e']
   rw [b0 e,b];exact h2
  ·have e':¬ q.1=k:=λ z=>e (h1.trans z);have b:valueAt (q::qs) k=valueAt qs k:=by simp [valueAt,RO,e']
   rw [b8 e,b];exact ih
theorem KV.any{kvs:List (κ × V)}{vs:List (κ × Value)}(r:KV kvs vs)(k:κ):(kvs.any λ kv=>decide (kv.1=k))=vs.any λ kv=>decide (kv.1=k):=by
 unfold KV at r
 induction r with
 | nil=>rfl
 | cons h t ih=>rw [any_cons,any_cons,ih,h.1]
theorem KV.repl{kvs:List (κ × V)}{vs:List (κ × Value)}(r:KV kvs vs)(k:κ){y:V}{u:Value}(ry:bF y u) :
  KV (kvs.map λ kv=>if kv.1=k then (kv.1,y) else kv) (vs.map λ kv=>if kv.1=k then (kv.1,u) else kv):=by
 unfold KV at r ⊢
 induction r with
 | nil=>exact .nil
 | @cons p q ps qs h t ih=>
  rw [PB,PB];refine .cons ?_ ih;obtain⟨h1,h2⟩:=h
  by_cases e:p.1=k
  ·rw [Pd e,Pd (h1.symm.trans e)];exact⟨h1,ry⟩
  ·rw [O2 e,O2 (λ z=>e (h1.trans z))];exact⟨h1,h2⟩
theorem KV.put{kvs:List (κ × V)}{vs:List (κ × Value)}(r:KV kvs vs)(k:κ){y:V}{u:Value}(ry:bF y u):KV (kj kvs k y) (stored vs k u):=by
 unfold kj stored;rw [r.any k]
 by_cases e:(vs.any λ kv=>decide (kv.1=k))=true
 ·rw [Pd e,Pd e];exact r.repl k ry
 ·rw [O2 e,O2 e];exact Paired.snoc r ⟨rfl,ry⟩
theorem KV.length{kvs:List (κ × V)}{vs:List (κ × Value)}(r:KV kvs vs):kvs.length=vs.length:=Paired.length r
end
theorem uk{P:Program}{w:World}{k:Key}{u:Value}(r:bF (kV k) u):(bT P w).is k u=true:=by
 cases k with
 | inl i=>obtain⟨t,e⟩:=(show ∃ t,u=Value.int i t from r);subst e;exact qi P w i t
 | inr x=>obtain⟨t,e⟩:=(show ∃ t,u=Value.str x t from r);subst e;exact qh P w x t
theorem nF{P:Program}{w:World}:∀ {ks:List Key}{us:List Value},aU (ks.map kV) us->ItemsAre (bT P w) ks us
 | [],_,r=>by rw [Si] at r;cases r;exact .nil
 | k::ks,_,r=>by
  rw [PB] at r
  cases r with
  | cons h t=>exact .cons (uk h) (nF t)
abbrev KT(H:Hp):List (List Key × V)->List (List Key × Addr × Value)->Prop:=Paired λ p q=>p.1=q.1/\H q.2.1=some (.tup (p.1.map kV))/\bF p.2 q.2.2
theorem KT.val{H:Hp}{kvs:List (List Key × V)}{xs:List (List Key × Addr × Value)}(r:KT H kvs xs)(k:List Key):mI (dO kvs k) ((atKey xs k).map (·.2)):=by
 induction r with
 | nil=>exact True.intro
 | @cons p q ps qs h t ih=>
  obtain⟨h1,_,h2⟩:=h
  by_cases e:p.1=k
  ·have e':q.1=k:=h1.symm.trans e;have b:atKey (q::qs) k=some q.2:=by simp [atKey,RO,e']
   rw [b0 e,b];exact h2
  ·have e':¬ q.1=k:=λ z=>e (h1.trans z);have b:atKey (q::qs) k=atKey qs k:=by simp [atKey,RO,e']
   rw [b8 e,b];exact ih
theorem KT.repl{H:Hp}{kvs:List (List Key × V)}{xs:List (List Key × Addr × Value)}(r:KT H kvs xs)(k:List Key){y:V}{u:Value}(ry:bF y u) :
  KT H (kvs.map λ kv=>if kv.1=k then (kv.1,y) else kv) (xs.map (putAt k u)):=by
 induction r with
 | nil=>exact .nil
 | @cons p q ps qs h t ih=>
  rw [map_cons,map_cons];refine .cons ?_ ih;obtain⟨h1,h2,h3⟩:=h;unfold putAt
  by_cases e:p.1=k
  ·rw [Pd e,Pd (h1.symm.trans e)];exact⟨h1,h2,ry⟩
  ·rw [O2 e,O2 (λ z=>e (h1.trans z))];exact⟨h1,h2,h3⟩
theorem KT.put{H:Hp}{kvs:List (List Key × V)}{xs:List (List Key × Addr × Value)}(r:KT H kvs xs)(k:List Key){b:Addr}{y:V}{u:Value}(hb:H b=some (.tup (k.map kV)))(ry:bF y u) :
  KT H (kj kvs k y) (storedH xs k b u):=by
 have e:(kvs.any λ kv=>decide (kv.1=k))=(atKey xs k).isSome:=by
  rw [gw,(r.val k).isSome_eq,Sd]
 unfold kj storedH;rw [e]
 by_cases q:(atKey xs k).isSome=true
 ·rw [Pd q,Pd q];exact r.repl k ry
 ·rw [O2 q,O2 q];exact Paired.snoc r ⟨rfl,hb,ry⟩
theorem KT.keeps{H H':Hp}{kvs:List (List Key × V)}{xs:List (List Key × Addr × Value)}(r:KT H kvs xs)(ht:∀ b ys,H b=some (.tup ys)->H' b=some (.tup ys)):KT H' kvs xs:=
 Paired.mapP r λ _ _ z=>⟨z.1,ht _ _ z.2.1,z.2.2⟩
section
variable {P:Program}{w:World}{H:Hp}{h:Heap}{a:Addr}
theorem GR{u:HO}(ok:HOk P w H h)(e:Rd H a u):bM P w H h a u:=e.ok ok
theorem sv{kvs:List (Key × V)}(ok:HOk P w H h)(e:Rd H a (.dK kvs)):kvs.length<=sizeLine/\(a == sysModules)=false/\∃ vs,KV kvs vs/\h.DictOf (bT P w) a vs:=
 show bM P w H h a (.dK kvs) from GR ok e
theorem Mi{kvs:List (Key × V)}(ok:HOk P w H h)(e:H a=some (.dK kvs)):kvs.length<=sizeLine/\(a == sysModules)=false/\∃ vs,KV kvs vs/\h.DictOf (bT P w) a vs:=sv ok (.inl e)
theorem mZ{ks:List Key}(ok:HOk P w H h)(e:H a=some (.tup (ks.map kV))):(tupleKind (bT P w)).is h ks a:=by
 obtain⟨_,its,r,o,h1,h2,n,h3⟩:=(show bM P w H h a (.tup (ks.map kV)) from ok a _ e);exact⟨o,its.toArray,n,h1,h2,h3,by simpa using nF r⟩
theorem sr{kvs:List (List Key × V)}(ok:HOk P w H h)(e:Rd H a (.dT kvs)):kvs.length<=sizeLine/\(a == sysModules)=false /\
  ∃ xs,KT H kvs xs/\h.DictOfH (tupleKind (bT P w)) a xs:=by
 obtain⟨z,y,xs,r,o,es,ep,h1,h2,h3,h4,h5⟩:=(show bM P w H h a (.dT kvs) from GR ok e);refine⟨z,y,xs,r,o,es,ep,h1,h2,h3,h4,λ x hx=>?_,h5⟩
 have all:∀ {l:List (List Key × V)} {m:List (List Key × Addr × Value)},KT H l m->∀ x∈m,(tupleKind (bT P w)).is h x.1 x.2.1:=by
  intro l m q
  induction q with
  | nil=>intro x hx;exact nomatch hx
  | @cons p q ps qs hq t ih=>
   intro x hx
   rcases OU.mp hx with e|hx
   ·subst e;exact mZ ok (by rw [←hq.1];exact hq.2.1)
   ·exact ih x hx
 exact all r x hx
theorem Mh{kvs:List (List Key × V)}(ok:HOk P w H h)(e:H a=some (.dT kvs)):kvs.length<=sizeLine/\(a == sysModules)=false /\
  ∃ xs,KT H kvs xs/\h.DictOfH (tupleKind (bT P w)) a xs:=sr ok (.inl e)
end
def qH(H:Hp)(a:Addr)(y:V)(r:Option V):Prop:=
 (∃ kvs k,Rd H a (.dK kvs)/\y=kV k/\r=dO kvs k)\/∃ kvs k b,Rd H a (.dT kvs)/\y=.ref b/\H b=some (.tup (k.map kV))/\r=dO kvs k
def Gr(H:Hp)(a:Addr)(y v:V)(H':Hp):Prop:=
 (∃ kvs k,H a=some (.dK kvs)/\y=kV k/\kvs.length < sizeLine/\H'=upd H a (.dK (kj kvs k v))) \/
 ∃ kvs k b,H a=some (.dT kvs)/\y=.ref b/\H b=some (.tup (k.map kV))/\kvs.length < sizeLine/\H'=upd H a (.dT (kj kvs k v))
theorem qH.k{H:Hp}{a:Addr}{kvs:List (Key × V)}{k:Key}(e:H a=some (.dK kvs)):qH H a (kV k) (dO kvs k):=.inl ⟨kvs,k,.inl e,rfl,rfl⟩
theorem Gr.k{H:Hp}{a:Addr}{kvs:List (Key × V)}{k:Key}{v:V}(e:H a=some (.dK kvs))(hl:kvs.length < sizeLine):Gr H a (kV k) v (upd H a (.dK (kj kvs k v))):=.inl ⟨kvs,k,e,rfl,hl,rfl⟩
section
variable {X:Cx}{pins:List (Addr × Obj)}{σ:St}{H:Hp}{s:Shared}{a:Addr}{y v:V}{u r:Value}{o:Option V}{A:Around}{E:Value->Shared->Prop}
theorem Inv.big(I:Inv X pins σ H s):sysModules < s.heap.objs.size:=by
 have h:mainGlobals < s.heap.objs.size:=(I.mod.glob.keeps I.bk).lt;exact Rr (by decide) h
theorem yp{Q:Value->Shared->Prop}(hu:A.units+1 < cLine)(I:Inv X pins σ H s)(g:qH H a y (some v))(ry:bF y u)(h:∀ w' s',Inv X pins σ H s'->bF v w'->Q w' s') :
  wpAny (model X.prog X.w) A (getItem (.ref a) u) Q E s:=by
 rcases g with ⟨kvs,k,e,ey,l⟩|⟨kvs,k,b,e,ey,eb,l⟩
 ·subst ey;obtain⟨z,hd,vs,rel,dd⟩:=sv I.hok e;obtain⟨w',hw,rw'⟩:=mI.some_of (v:=v) (o:=valueAt vs k) (by rw [l];exact rel.val k);exact wpAny_getItem_of (uk ry) dd.mapOf hw (h w' _ (I.tok _) rw')
 ·subst ey;cases (show u=Value.ref b from ry);obtain⟨z,hd,xs,rel,dd⟩:=sr I.hok e;obtain⟨w',hw,rw'⟩:=mI.some_of (v:=v) (o:=(atKey xs k).map (·.2)) (by rw [l];exact rel.val k);obtain⟨p,hp,hp2⟩:=OF.mp hw;refine wpAny_getItem_heap (RF hu) (mZ I.hok eb) dd hp ?_;rw [hp2];exact h w' _ (I.tok _) rw'
theorem Oc{Q:Value->Shared->Prop}(hu:A.units+1 < cLine)(I:Inv X pins σ H s)(g:qH H a y o)(ry:bF y u)(h:∀ s',Inv X pins σ H s'->Q (.bool o.isSome) s') :
  wpAny (model X.prog X.w) A (compareOp .In u (.ref a)) Q E s:=by
 rcases g with ⟨kvs,k,e,ey,l⟩|⟨kvs,k,b,e,ey,eb,l⟩
 ·subst ey;obtain⟨z,hd,vs,rel,dd⟩:=sv I.hok e;refine wpAny_in_of (uk ry) hd dd.mapOf ?_;rw [←(rel.val k).isSome_eq,←l];exact h _ (I.tok _)
 ·subst ey;cases (show u=Value.ref b from ry);obtain⟨z,hd,xs,rel,dd⟩:=sr I.hok e;refine wpAny_in_heap (RF hu) (mZ I.hok eb) hd dd ?_;have q:=(rel.val k).isSome_eq;rw [Sd] at q;rw [←q,←l];exact h _ (I.tok _)
theorem pO{h':Heap}{t':Nat}{ob:HO}(I:Inv X pins σ H s)(mu:Mut (H a))(hs:Heap.SameBut a s.heap h')(he:∃ q,h'.get? a=some q)(new:bM X.prog X.w (upd H a ob) h' a ob) :
  Inv X pins σ (upd H a ob) { s with heap:=h',toks:=t' }:=
 I.write (x:=a) (e:=a) mu (.inl rfl) (λ b q hb z=>(hs.2 b hb).trans z) he new
theorem JZ{P:Program}{w:World}{H':Hp}{h':Heap}{kvs:List (Key × V)}{vs:List (Key × Value)}(z:kvs.length<=sizeLine)(hd:(a == sysModules)=false)(rel:KV kvs vs)(dd:h'.DictOf (bT P w) a vs) :
  bM P w H' h' a (.dK kvs):=⟨z,hd,vs,rel,dd⟩
theorem yo{H':Hp}{Q:Unit->Shared->Prop}(hu:A.units+1 < cLine)(I:Inv X pins σ H s)(g:Gr H a y v H')(ry:bF y u)(rv:bF v r)(h:∀ s',Inv X pins σ H' s'->Q () s') :
  wpAny (model X.prog X.w) A (setItem (.ref a) u r) Q E s:=by
 rcases g with ⟨kvs,k,e,ey,l,eH⟩|⟨kvs,k,b,e,ey,eb,l,eH⟩
 ·subst ey eH;obtain⟨z,hd,vs,rel,dd⟩:=Mi I.hok e;have hz:vs.length<=sizeLine:=by rw [←rel.length];exact z
  have hl:(kj kvs k v).length<=sizeLine:=by have:=jA kvs k v;omega
  refine wpAny_setItem_pairs (hsz:=hz) (uk ry) dd λ h' dd' hs=>h _ ?_;have he:∃ q,h'.get? a=some q:=let ⟨q,_,_,hq,_⟩:=dd';⟨q,hq⟩;exact pO I (by rw [e];exact True.intro) hs he (JZ hl hd (rel.put k rv) dd')
 ·subst ey eH;cases (show u=Value.ref b from ry);obtain⟨z,hd,xs,rel,dd⟩:=Mh I.hok e;have hz:xs.length<=sizeLine:=by rw [←Paired.length rel];exact z
  have hl:(kj kvs k v).length<=sizeLine:=by have:=jA kvs k v;omega
  refine wpAny_setItem_heap (hsz:=hz) (RF hu) (mZ I.hok eb) dd λ h' dd' hs=>h _ ?_;obtain⟨q,es,ep,hq,h2,h3,h4,_,h5⟩:=dd';refine pO I (by rw [e];exact True.intro) hs ⟨q,hq⟩ ⟨hl,hd,_,(rel.put k eb rv).keeps λ c ys ec=>?_,q,es,ep,hq,h2,h3,h4,h5⟩;rw [af (Lp ec e (λ z=>nomatch z))];exact ec
end
section
variable {X:Cx}{pins:List (Addr × Obj)}{σ:St}{H:Hp}{s:Shared}{a:Addr}{kvs:List (Key × V)}{k:Key}{u:Value}{A:Around}{E:Value->Shared->Prop}
end
def Nz(i:Expr):Prop:=∀ ov iv,subscripted i false ov iv=operate [ov,iv] (getItem ov iv)
theorem Dm{prog:Program}{w:World}{A:Around}{E:Value->Shared->Prop}{s:Shared}{env:Env}{value slice:Expr}{pos:Pos}{T id:String}{Q:Value->Shared->Prop}
  (hl:typeLookup (.type T) "__getitem__"=pure (some (.builtin id))) (hs:Nz slice)
  (h:wpAny (model prog w) A (eval value env) (λ o s₁=>wpAny (model prog w) A (eval slice env) (λ i s₂=>s₂.TypeIs o T/\wpAny (model prog w) A (getItem o i) Q E s₂) E s₁) E s) :
  wpAny (model prog w) A (eval (.Subscript value slice pos) env) Q E s:=by
 refine Subscript_ (wpAny_mono h (λ o s₁ h₁=>wpAny_mono h₁ (λ i s₂ h₂=>?_) λ _ _ x=>x) λ _ _ x=>x);obtain⟨hT,h₂⟩:=h₂;unfold subscriptTail;refine wpAny_bind ?_;rw [getitemInPython_of_ne hT.not_modules];refine wpAny_bind (wpAny_specialOf hT hl ?_)
 have fin:wpAny (model prog w) A (subscripted slice false o i) (λ r s₃=>wpAny (model prog w) A (letTemporaryGo value o r >>= λ _=>pure r) Q E s₃) E s₂:=by
  rw [hs o i];exact wpAny_operating (RP h₂ (λ r s₃ h₃=>My (wpAny_letTemporaryGo (Oz h₃))) λ _ _ x=>x)
 first
  | exact Oz (My fin)
  | exact My (Oz (My fin))
  | exact My fin
theorem qx{X:Cx}{pins:List (Addr × Obj)}{σ:St}{H:Hp}{s:Shared}{a:Addr}{y:V}{o:Option V}(I:Inv X pins σ H s)(g:qH H a y o):s.TypeIs (.ref a) "dict":=by
 rcases g with ⟨kvs,k,e,_,_⟩|⟨kvs,k,b,e,_,_,_⟩
 ·obtain⟨_,_,vs,_,dd⟩:=sv I.hok e;exact dd.typeIs
 ·obtain⟨_,_,xs,_,dd⟩:=sr I.hok e;exact dd.typeIs
def GK(td ty:TE):TE:=λ σ H Q=>td σ H λ x H1=>ty σ H1 λ y H2=>∃ a v,x=.ref a/\qH H2 a y (some v)/\Q v H2
def GQ(td ty tv:TE):TS:=λ D σ H=>tv σ H λ v H1=>td σ H1 λ x H2=>ty σ H2 λ y H3=>∃ a H4,x=.ref a/\Gr H3 a y v H4/\D.nx σ H4
section
variable {X:Cx}{o i e value:Expr}{pos pos' tpos:Pos}{td ty tv:TE}
theorem vC(hu:X.A.units+1 < cLine)(ho:PE X o td)(hi:PE X i ty)(hs:Nz i):PE X (.Subscript o i pos) (GK td ty):=by
 intro pins s σ H Q I h;refine Dm PySem.F.slot_dict_getitem.lookup hs (thn (ho pins s σ H _ I h) λ u s1 ⟨x,H1,I1,rx,q1⟩=>thn (hi pins s1 σ H1 _ I1 q1) λ iv s2 ⟨y,H2,I2,ry,a,v,ex,g,q2⟩=>?_);subst ex;obtain rfl:u=Value.ref a:=rx;exact⟨qx I2 g,yp hu I2 g ry λ w' s3 I3 rw'=>⟨v,H2,I3,rw',q2⟩⟩
theorem pF(hu:X.A.units+1 < cLine)(ho:PE X o td)(hi:PE X i ty)(hv:PE X value tv)(hs:swapsWith value (some (.Subscript o i pos')) pos.line X.env=pure false) :
  PS X (.Assign [.Subscript o i pos'] value pos) (GQ td ty tv):=by
 intro pins s σ H D I h;refine wpAny_Assign_Subscript (thn (hv pins s σ H _ I h) λ r s1 ⟨v,H1,I1,rv,q1⟩=>thn (ho pins s1 σ H1 _ I1 q1) λ u s2 ⟨x,H2,I2,rx,q2⟩=>thn (hi pins s2 σ H2 _ I2 q2) λ iv s3 ⟨y,H3,I3,ry,a,H4,ex,g,q3⟩=>?_) hs;subst ex;obtain rfl:u=Value.ref a:=rx;exact yo hu I3 g ry rv λ s4 I4=>⟨σ,H4,I4,q3⟩
end
theorem Bu{P:Program}{w:World}{H:Hp}(h:Heap)(hb:sysModules < h.objs.size):bM P w H (h.push { cls:=.type "dict",data:=.dict #[] }) h.objs.size (.dK []):=
 ⟨PD _,Qo.mpr (OK (OS hb)),[],.nil,Heap.DictOf.new h⟩
def HE:TE:=λ _ H Q=>∀ p,H p=none->Q (.ref p) (upd H p (.dK []))
section
variable {X:Cx}{pos:Pos}
theorem zR:PE X (.Dict [] [] pos) HE:=λ pins s σ H Q I h=>
 wpAny_Dict_empty ⟨.ref s.heap.objs.size,_,I.laid (a:=s.heap.objs.size) (o:=.dK []) (t':=s.toks) (λ _ _ q=>Ox _ q) (OC _) (Bu s.heap I.big),rfl,h _ (I.hok.fresh (OC _))⟩
end
structure M1(X:Cx)(o:Expr)(m:Str)(apos:Pos)(e:Expr)(cpos:Pos):Prop where
 base:attributeBase o m X.env (eval o X.env)=eval o X.env
 few:((backTo cpos (starEach [e] X.env)).all (λ x=>!x.1) && (backToKw cpos (keywordEach [] X.env)).all (λ x=>x.1.isSome)
  && decide (([e]:List Expr).length+([]:List Keyword).length+(if ([]:List Keyword).isEmpty then 0 else 1) < 30))=true
 line:(apos.endLine == cpos.line)=true
 trees:backTo cpos (starEach [e] X.env)=[(false,eval e X.env)]
structure M2(X:Cx)(o:Expr)(m:Str)(apos:Pos)(e f:Expr)(cpos:Pos):Prop where
 base:attributeBase o m X.env (eval o X.env)=eval o X.env
 few:((backTo cpos (starEach [e,f] X.env)).all (λ x=>!x.1) && (backToKw cpos (keywordEach [] X.env)).all (λ x=>x.1.isSome)
  && decide (([e,f]:List Expr).length+([]:List Keyword).length+(if ([]:List Keyword).isEmpty then 0 else 1) < 30))=true
 line:(apos.endLine == cpos.line)=true
 trees:backTo cpos (starEach [e,f] X.env)=[(false,eval e X.env),(false,eval f X.env)]
def IsD(H:Hp)(a:Addr):Prop:=(∃ kvs,Rd H a (.dK kvs))\/∃ kvs,Rd H a (.dT kvs)
theorem JU{X:Cx}{pins:List (Addr × Obj)}{σ:St}{H:Hp}{s:Shared}{a:Addr}(I:Inv X pins σ H s)(d:IsD H a) :
  s.TypeIs (.ref a) "dict" /\ (∀ b,Value.ref a=.ref b->∃ ob,s.heap.get? b=some ob/\ob.dict=none)/\(a == sysModules)=false:=by
 rcases d with ⟨kvs,e⟩|⟨kvs,e⟩
 ·obtain⟨_,hd,vs,_,dd⟩:=sv I.hok e;refine⟨dd.typeIs,λ b q=>?_,hd⟩;cases q;obtain⟨ob,_,_,h1,h2,_⟩:=dd;exact⟨ob,h1,h2.2.1⟩
 ·obtain⟨_,hd,xs,_,dd⟩:=sr I.hok e;refine⟨dd.typeIs,λ b q=>?_,hd⟩;cases q;obtain⟨ob,_,_,h1,h2,_⟩:=dd;exact⟨ob,h1,h2.2.1⟩
section
variable {X:Cx}{pins:List (Addr × Obj)}{σ:St}{H:Hp}{s:Shared}{a:Addr}{y d:V}{u r:Value}{o:Option V}{A:Around}{E:Value->Shared->Prop}
theorem J0{Q:Value->Shared->Prop}(hu:A.units+1 < cLine)(I:Inv X pins σ H s)(g:qH H a y o)(ry:bF y u)(h:∀ w' s',Inv X pins σ H s'->bF (o.getD .non) w'->Q w' s') :
  wpAny (model X.prog X.w) A (call (.builtin "dict.get") [.ref a,u]) Q E s:=by
 rcases g with ⟨kvs,k,e,ey,l⟩|⟨kvs,k,b,e,ey,eb,l⟩
 ·subst ey;obtain⟨z,hd,vs,rel,dd⟩:=sv I.hok e;refine call_meetsIn RQ dd.typeIs PySem.F.entry_dict_get (PySem.F.args_dict_get_2 _ _) (meets_dict_get (bT X.prog X.w) a (uk ry) hd) ⟨_,dd.mapOf,h _ _ (I.tok _) ?_⟩;rw [l];exact(rel.val k).getD rfl
 ·subst ey;cases (show u=Value.ref b from ry);obtain⟨z,hd,xs,rel,dd⟩:=sr I.hok e;refine call_meetsIn RQ dd.typeIs PySem.F.entry_dict_get (PySem.F.args_dict_get_2 _ _) (meetsH_dict_get (tupleKind (bT X.prog X.w)) a b hd) ⟨RF hu,k,xs,mZ I.hok eb,dd,h _ _ (I.tok _) ?_⟩;rw [l];exact(rel.val k).getD rfl
end
def BP(td ty:TE):TE:=λ σ H Q=>td σ H λ x H1=>∃ a,x=.ref a/\IsD H1 a/\ty σ H1 λ y H2=>∃ o,qH H2 a y o/\Q (o.getD .non) H2
section
variable {X:Cx}{o e f:Expr}{apos cpos:Pos}{td ty tx:TE}
theorem zS(hu:X.A.units+1 < cLine)(ho:PE X o td)(he:PE X e ty)(m:M1 X o "get" apos e cpos):PE X (.Call (.Attribute o "get" apos) [e] [] cpos) (BP td ty):=by
 intro pins s σ H Q I h;refine wpAny_Call_method m.base m.few m.line PySem.F.plainAttrs_dict RQ PySem.F.type_dict_get (thn (ho pins s σ H _ I h) λ u s1 ⟨x,H1,I1,rx,a,ex,d,q1⟩=>?_);subst ex;obtain rfl:u=Value.ref a:=rx;obtain⟨t1,t2,_⟩:=JU I1 d;refine⟨t1,t2,?_⟩;rw [m.trees];refine R5 rfl (Calls.evalArgs_plain (RK (thn (he pins s1 σ H1 _ I1 q1) λ iv s2 ⟨y,H2,I2,ry,ov,g,q2⟩=>RV ?_)));exact J0 hu I2 g ry λ w' s3 I3 rw'=>⟨_,H2,I3,rw',q2⟩
end
section
variable {X:Cx}{pins:List (Addr × Obj)}{σ:St}{H:Hp}{s:Shared}{a:Addr}{kvs:List (Key × V)}{A:Around}{E:Value->Shared->Prop}
end
section
variable {X:Cx}{pins:List (Addr × Obj)}{σ:St}{H:Hp}{s:Shared}{a:Addr}{y:V}{u:Value}{A:Around}{E:Value->Shared->Prop}
end
section
variable {κ:Type}[DecidableEq κ]
end
section
variable {X:Cx}
def CW(i j:Int):Prop:=i.natAbs < 2 ^ 256/\j.natAbs < 2 ^ 256
theorem vV{i:Int}(h:i.natAbs < 2 ^ 256):Builtin.Int.intBits i<=2 ^ 20:=PJ (intBits_le h) (by decide)
theorem DO:OpR X (binaryOp .Mult) (rI CW λ i j=>.int (i * j)):=opI λ _ _ _ _ _ _ _ hc q=>mul_int q (IntMulOk.of_bits (vV hc.1) (vV hc.2))
theorem Bv:cn X (.builtin "isinstance") (λ xs H Q=>∃ x n ty b,xs=[x,.ty n]/\qF X.K H x ty/\W.kitOne X.K ty (.type n)=some b/\Q (.bl b) H):=by
 intro pins s σ H xs us Q I r h;obtain⟨x,n,ty,b,rfl,hty,hk,q⟩:=h;obtain⟨u,w',rfl,rx,rc⟩:=Cg r;cases (show w'=Value.type n from rc);exact yh I rx hty hk (λ tk=>⟨.bl b,H,I.tok _,rfl,q⟩)
theorem yc(K:W.Frag)(A B:String)(r:Bool)
  (h:(if (Value.type A == Value.type B)=true then some true else if W.kitMeta B=true then (fastBuiltinMro A).map (·.contains (.type B)) else none)=some r):W.kitOne K (.type A) (.type B)=some r:=h
mutual
inductive lh (K:PySem.W.Frag) (H:Hp):V->PyData->Prop
 | non:lh K H .non .none
 | bl (b:Bool):lh K H (.bl b) (.bool b)
 | int (i:Int):lh K H (.int i) (.int i)
 | str (x:Str):lh K H (.str x) (.str x)
 | lst {a:Addr} {xs:List V} {ds:List PyData} (h:SqL K H a xs) (r:iR K H xs ds):lh K H (.ref a) (.list ds)
 | tup {a:Addr} {xs:List V} {ds:List PyData} (h:SqT K H a xs) (r:iR K H xs ds):lh K H (.ref a) (.tuple ds)
inductive iR (K:PySem.W.Frag) (H:Hp):List V->List PyData->Prop
 | nil:iR K H [] []
 | cons {x:V} {d:PyData} {xs:List V} {ds:List PyData} (h:lh K H x d) (t:iR K H xs ds):iR K H (x::xs) (d::ds)
end
mutual
theorem lh.reads{pins:List (Addr × Obj)}{σ:St}{H:Hp}{s:Shared}(I:Inv X pins σ H s):∀ {x:V}{d:PyData}{u:Value},lh X.K H x d->bF x u->∃ as,Reads s.heap u d as
 | _,_,_,.non,r=>by cases (show _=Value.none from r);exact⟨_,.none⟩
 | _,_,_,.bl b,r=>by cases (show _=Value.bool b from r);exact⟨_,.bool b⟩
 | _,_,_,.int i,r=>by obtain⟨t,rfl⟩:=r;exact⟨_,.int i t⟩
 | _,_,_,.str x,r=>by obtain⟨t,rfl⟩:=r;exact⟨_,.str x t⟩
 | _,_,_,@lh.lst _ _ a xs ds h q,r=>by
  cases (show _=Value.ref a from r);obtain⟨its,hv,hp,_⟩:=I.list h;obtain⟨o,n,e,c,_,d⟩:=hp;obtain⟨as,z⟩:=iR.reads I q hv;exact⟨_,.list e c d (by simpa using z)⟩
 | _,_,_,@lh.tup _ _ a xs ds h q,r=>by
  cases (show _=Value.ref a from r);obtain⟨its,hv,hp,_⟩:=I.tuple h;obtain⟨o,e,c,n,d⟩:=hp;obtain⟨as,z⟩:=iR.reads I q hv;exact⟨_,.tuple e c d (by simpa using z)⟩
theorem iR.reads{pins:List (Addr × Obj)}{σ:St}{H:Hp}{s:Shared}(I:Inv X pins σ H s):∀ {xs:List V}{ds:List PyData}{us:List Value},iR X.K H xs ds->aU xs us->∃ as,ReadsAll s.heap us ds as
 | _,_,_,.nil,.nil=>⟨_,.nil⟩
 | _,_,_,.cons h t,.cons r q=>by
  obtain⟨as,z⟩:=lh.reads I h r;obtain⟨bs,y⟩:=iR.reads I t q;exact⟨_,.cons z y⟩
end
def NQ(K:W.Frag):R2:=λ x y H Q=>∃ d e,lh K H x d/\lh K H y e/\SeqAt.shaped d=true/\SeqAt.shaped e=true/\Q (.bl (PyData.eqv d e)) H
def NM(K:W.Frag):R2:=λ x y H Q=>∃ d e,lh K H x d/\lh K H y e/\SeqAt.shaped d=true/\SeqAt.shaped e=true/\Q (.bl (!PyData.eqv d e)) H
theorem Ig(hu:X.A.units+64 < cLine):OpR X (compareOp .Eq) (NQ X.K):=by
 intro pins s σ H x y v u Q I rx ry h;obtain⟨d,e,hd,he,sd,se,q⟩:=h;obtain⟨as,z⟩:=hd.reads I rx;obtain⟨bs,z'⟩:=he.reads I ry;exact SeqAt.compareEq_shaped z z' sd se hu ⟨.bl _,H,I,rfl,q⟩
theorem Ic(hu:X.A.units+64 < cLine):OpR X (compareOp .NotEq) (NM X.K):=by
 intro pins s σ H x y v u Q I rx ry h;obtain⟨d,e,hd,he,sd,se,q⟩:=h;obtain⟨as,z⟩:=hd.reads I rx;obtain⟨bs,z'⟩:=he.reads I ry;exact SeqAt.compareNe_shaped z z' sd se hu ⟨.bl _,H,I,rfl,q⟩
end
theorem zE{H:Hp}{p:Addr}{o:HO}(h:H p=none):mN H (upd H p o):=λ b u e=>by
 rw [af (bW e h)];exact e
theorem B8{α:Type}(xs:List α)(i:Int)(h0:0<=i)(h1:i < xs.length):∃ v,atI xs i=some v/\v∈xs:=by
 have hl:i.toNat < xs.length:=by omega
 refine⟨xs[i.toNat],?_,P7 hl⟩;have e:((i.toNat:Nat):Int)=i:=by omega
 have:=bU (xs:=xs) (j:=i.toNat) (v:=xs[i.toNat]) (Ow hl);rw [e] at this;exact this
theorem ma(ns:List Int)(i:Int)(h0:0<=i)(h1:i < ns.length):∃ z,atI (ns.map V.int) i=some (.int z)/\z∈ns:=by
 obtain⟨v,e,m⟩:=B8 (ns.map V.int) i h0 (by simpa using h1);obtain⟨z,hz,rfl⟩:=OO.mp m;exact⟨z,e,hz⟩
def mH(cells:List (Str × Addr)):List (Str × NameKind)->List (Str × Addr)->List (Str × Addr)
 | [],acc=>acc
 | (n,k)::r,acc=>if (k == .free)=true then mH cells r ((n,(cells.lookup n).getD 0)::acc) else mH cells r acc
theorem gj{env:Env}:∀ (names:List (Str × NameKind)) (acc:List (Str × Addr)),(∀ y∈names,y.2=.free->∃ c,env.cells.lookup y.1=some c) →
  (forIn names acc (λ (x:Str × NameKind) (cs:List (Str × Addr))=>match x with
   | (name,kind)=>if (kind == .free)=true then (do let a ←cellOf env name;pure (ForInStep.yield ((name,a)::cs))) else (do pure PUnit.unit;pure (ForInStep.yield cs))):Sem (List (Str × Addr)))=pure (mH env.cells names acc)
 | [],acc,_=>rfl
 | (n,k)::r,acc,h=>by
  rw [QT];have hr:∀ y∈r,y.2=.free->∃ c,env.cells.lookup y.1=some c:=λ y hy=>h y (OH _ hy)
  by_cases hk:(k == .free)=true
  ·obtain⟨c,hc⟩:=h (n,k) mem_cons_self (by simpa using hk);have hc':env.cells.lookup n=some c:=hc;simp only [hk,if_true,mH,hc',Option.getD_some];have e:cellOf env n=pure c:=by unfold cellOf;rw [hc']
   rw [e];exact gj r _ hr
  ·simp only [hk,Q5,mH];exact gj r acc hr
theorem gM{scope:Scope}{env:Env}(h:∀ y∈scope.names,y.2=.free->∃ c,env.cells.lookup y.1=some c):closureFor scope env=pure (mH env.cells scope.names []):=by
 unfold closureFor;have:=gj (env:=env) scope.names [] h
 first
  | exact(Qk (λ m=>m >>= λ cs=>pure cs) this).trans (pure_bind _ _)
  | (simp only [] at this ⊢;rw [this];rfl)
theorem lZ{cells:List (Str × Addr)}{x:Str}{c:Addr}:∀ {names:List (Str × NameKind)}{acc:List (Str × Addr)},(∀ y∈names,y.2=.free->∃ c,cells.lookup y.1=some c)->(mH cells names acc).lookup x=some c->acc.lookup x=some c\/cells.lookup x=some c
 | [],acc,_,h=>.inl h
 | (n,k)::r,acc,hf,h=>by
  have hr:∀ y∈r,y.2=.free->∃ c,cells.lookup y.1=some c:=λ y hy=>hf y (mem_cons_of_mem _ hy);unfold mH at h
  by_cases hk:(k == .free)=true
  ·rw [Pd hk] at h
   rcases lZ hr h with q|q
   ·rw [QB] at q
    cases hx:x == n with
    | true=>
     rw [hx] at q;obtain⟨d,hd⟩:=hf (n,k) ON (by simpa using hk);have e:x=n:=by simpa using hx
     subst e;have hd':cells.lookup x=some d:=hd;rw [hd'] at q ⊢;exact .inr (by simpa using q)
    | false=>rw [hx] at q;exact .inl q
   ·exact .inr q
  ·rw [O2 hk] at h;exact lZ hr h
theorem l4{cells:List (Str × Addr)}{x:Str}:∀ {names:List (Str × NameKind)}{acc:List (Str × Addr)},(∀ y∈names,y.2=.free->∃ c,cells.lookup y.1=some c)->(∃ c,acc.lookup x=some c)->∃ c,(mH cells names acc).lookup x=some c
 | [],acc,_,h=>h
 | (n,k)::r,acc,hf,h=>by
  have hr:∀ y∈r,y.2=.free->∃ c,cells.lookup y.1=some c:=λ y hy=>hf y (mem_cons_of_mem _ hy);unfold mH
  by_cases hk:(k == .free)=true
  ·rw [Pd hk];refine l4 hr ?_;rw [QB]
   cases hx:x == n with
   | true=>exact⟨_,rfl⟩
   | false=>exact h
  ·rw [O2 hk];exact l4 hr h
theorem iN{cells:List (Str × Addr)}{x:Str}:∀ {names:List (Str × NameKind)}{acc:List (Str × Addr)},(∀ y∈names,y.2=.free->∃ c,cells.lookup y.1=some c)->names.lookup x=some .free->∃ c,(mH cells names acc).lookup x=some c
 | [],acc,_,h=>by simp at h
 | (n,k)::r,acc,hf,h=>by
  have hr:∀ y∈r,y.2=.free->∃ c,cells.lookup y.1=some c:=λ y hy=>hf y (mem_cons_of_mem _ hy);rw [lookup_cons] at h;unfold mH
  cases hx:x == n with
  | true=>
   rw [hx] at h;have hk:k=.free:=by simpa using h
   subst hk;rw [Pd (show (NameKind.free == NameKind.free)=true from rfl)];refine l4 hr ⟨(cells.lookup n).getD 0,?_⟩;rw [QB,hx]
  | false=>
   rw [hx] at h
   by_cases hk:(k == .free)=true
   ·rw [Pd hk];exact iN hr h
   ·rw [O2 hk];exact iN hr h
theorem fB{x:Str}{k:NameKind}:∀ {names:List (Str × NameKind)},names.lookup x=some k->(x,k)∈names
 | [],h=>by simp at h
 | (n,j)::r,h=>by
  rw [QB] at h
  cases hx:x == n with
  | true=>
   rw [hx] at h;have e:x=n:=by simpa using hx
   have e2:j=k:=by simpa using h
   subst e;subst e2;exact ON
  | false=>rw [hx] at h;exact OH _ (fB h)
theorem dF{env:Env}{x:Str}:∀ {names:List (Str × NameKind)},
  (names.map λ (n,k)=>if (k == NameKind.free && env.scope.kind == .function && env.kindOf n == some .cell) then (n,NameKind.cell) else (n,k)).lookup x
   = (names.lookup x).map λ k=>if (k == NameKind.free && env.scope.kind == .function && env.kindOf x == some .cell) then NameKind.cell else k
 | []=>rfl
 | (n,k)::r=>by
  have ih:=@dF env x r
  show List.lookup x ((if (k == NameKind.free && env.scope.kind == .function && env.kindOf n == some .cell)=true then (n,NameKind.cell) else (n,k))::_)=_
  cases hx:x == n with
  | true=>
   have e:x=n:=by simpa using hx
   subst e
   by_cases hc:(k == NameKind.free && env.scope.kind == .function && env.kindOf x == some .cell)=true
   ·rw [Pd hc];simp only [QB,beq_self_eq_true,QN];rw [Pd hc]
   ·rw [O2 hc];simp only [QB,beq_self_eq_true,QN];rw [O2 hc]
  | false=>
   by_cases hc:(k == NameKind.free && env.scope.kind == .function && env.kindOf n == some .cell)=true
   ·rw [Pd hc];simp only [QB,hx];exact ih
   ·rw [O2 hc];simp only [QB,hx];exact ih
abbrev cCx(X:Cx)(scope:Scope)(N':List Str)(C:Addr)(s₀:Shared)(H₀:Hp)(ex:List Addr)(pn:List (Addr × Obj)):Cx:=
 { X with N:=N',s₀:=s₀,H₀:=H₀,env:=compEnvC scope (mH X.env.cells scope.names []) C X.env,outer:=X.stack,stack:=X.stack,ex:=ex,fn:=λ _=>false,pn:=pn,xe:=λ _ _=>False }
def PTs(Y:Cx)(ifs:List Expr)(t:TT):Prop:=
 ∀ (pins:List (Addr × Obj)) (s:Shared) (σ:St) (H:Hp) (Q:Bool->Hp->Prop),Inv Y pins σ H s->t σ H Q →
  wpAny (model Y.prog Y.w) Y.A (forIn ifs true λ c r=>if r=true then do let ok ←isTrue c Y.env (eval c Y.env);pure (ForInStep.yield ok) else pure (ForInStep.yield r)) (TP Y pins σ Q) Y.xe s
def Mu:TT:=λ _ H Q=>Q true H
theorem aV{Y:Cx}:PTs Y [] Mu:=λ _ _ _ H _ I h=>Oz ⟨H,I,h⟩
theorem iY{Y:Cx}{c:Expr}{t:TT}(h:PT Y c t):PTs Y [c] t:=λ pins s σ H Q I hw=>PySem.wpAny_tests_one (h pins s σ H Q I hw)
theorem HOk.but{P:Program}{w:World}{H:Hp}{h h':Heap}{C:Addr}(ok:HOk P w H h)(hn:H C=none)(hs:Heap.SameBut C h h'):HOk P w H h':=λ b ob e=>by
 refine(ok b ob e).stay (λ c w' hc q=>(hs.2 c ?_).trans q) (λ _ q=>q) λ _ _ q=>q;rintro rfl
 rcases hc with rfl|hc
 ·rw [hn] at e;cases e
 ·rw [hn] at hc;cases hc
theorem Un.but{fs ex:List Addr}{H H':Hp}{h h1 h2:Heap}{C:Addr}(u:Un fs ex H H' h h1)(hs:Heap.SameBut C h1 h2)(hC:∀ b o,h.get? b=some o->b ≠ C):Un fs ex H H' h h2 where
 keep:=λ b o e n hb hx=>(hs.2 b (hC b o e)).trans (u.keep b o e n hb hx)
 slot:=λ b o e n hb hx=>by
  obtain⟨sl,q⟩:=u.slot b o e n hb hx;exact⟨sl,(hs.2 b (hC b o e)).trans q⟩
 free:=u.free
 there:=λ b o e hx=>by
  obtain⟨o',q⟩:=u.there b o e hx;exact⟨o',(hs.2 b (hC b o e)).trans q⟩
 tups:=u.tups
 frzs:=u.frzs
 tbls:=u.tbls
section
variable {X:Cx}
def Cj(k:Nat)(wi:TI)(g:TG)(tt:TT)(te:TE):TE:=λ σ H Q=>wi σ H λ J H1=>∀ D,H1 D=none->∃ W:Nat->Nat->List V->Hp->Prop,(∃ m,W 0 m [] (upd H1 D (.lst [])))/\∀ i m ys H,W i m ys H →
 (J.stop i H/\Q (.ref D) H)\/(J.go i H/\∃ N:List V->Hp->Prop,(∀ ys' H',N ys' H'->∃ m',m' < m/\W (i+1) m' ys' H') /\
  ∀ x H',J.yld i H x H'->g x (List.replicate k none++σ) H' λ σ2 H2=>(∃ vs:St,vs.length=k/\σ2=vs++σ)/\tt σ2 H2 λ b H3=>if b=true then te σ2 H3 λ y H4=>H4 D=some (.lst ys)/\ys.length < sizeLine/\N (ys++[y]) (upd H4 D (.lst (ys++[y]))) else N ys H3)
theorem yq{Y:Cx}{tg elt iter:Expr}{ifs:List Expr}{scope:Scope}{pos:Pos}{it D:Addr}{g:TG}{tt:TT}{te:TE}{J:It}{fp:List Addr}{tn:Nat->Heap->Prop}{k:Nat}{σ:St}{Q:VK}
  (hc:Y.calm=true) (hx:Y.xe=λ _ _=>False) (hg:PG Y tg g) (ht:PTs Y ifs tt) (he:PE Y elt te) (T:yK Y.prog Y.w Y.K tg J fp it tn) (hf:∀ H:Hp,(∀ b∈fp,H b=none)->∀ b∈fp,oT Y [] H b)
  (W:Nat->Nat->List V->Hp->Prop)
  (turn:∀ i m ys H,W i m ys H->(J.stop i H/\Q (.ref D) H)\/(J.go i H/\∃ N:List V->Hp->Prop,(∀ ys' H',N ys' H'->∃ m',m' < m/\W (i+1) m' ys' H') /\
   ∀ x H',J.yld i H x H'->g x (List.replicate k none++σ) H' λ σ2 H2=>(∃ vs:St,vs.length=k/\σ2=vs++σ)/\tt σ2 H2 λ b H3=>if b=true then te σ2 H3 λ y H4=>H4 D=some (.lst ys)/\ys.length < sizeLine/\N (ys++[y]) (upd H4 D (.lst (ys++[y]))) else N ys H3))
  (n:Nat) (s:Shared) (h:∃ i ys H,Inv Y [] (List.replicate k none++σ) H s/\tn i s.heap/\(∀ b∈fp,H b=none)/\W i n ys H) :
  codeAny (model Y.prog Y.w) Y.A (.compLoop (.ListComp elt [⟨tg,iter,ifs,0⟩] scope pos) 0 (.ref it) (.ref D) Y.env) (λ r s'=>r=.ok .next/\∃ H',Inv Y [] (List.replicate k none++σ) H' s'/\Q (.ref D) H') s:=by
 refine codeAny_loop rfl (λ n s=>∃ i ys H,Inv Y [] (List.replicate k none++σ) H s/\tn i s.heap/\(∀ b∈fp,H b=none)/\W i n ys H) ?_ n h;rintro n s3 ⟨i,ys,H3,I3,st3,fr3,w3⟩
 show wpAny _ Y.A ((compTurn (.ListComp elt [⟨tg,iter,ifs,0⟩] scope pos) 0 (.ref it) (.ref D) Y.env).onRaise (λ x=>do noteFrame x Y.env;theTreesLotGoes x)) _ _ s3
 refine PySem.wpAny_noted ?_;rw [PySem.compTurn_list]
 have no:∀ {α:Type} {m:Sem α} {P:α->Shared->Prop} {E:Value->Shared->Prop} {s:Shared},wpAny (model Y.prog Y.w) Y.A m P Y.xe s->wpAny (model Y.prog Y.w) Y.A m P E s:=λ {α m P E s} h=>
  RP h (λ _ _ q=>q) λ _ _ q=>by rw [hx] at q;exact q.elim
 refine My (Sx (My ?_))
 rcases turn i n ys H3 w3 with ⟨stop,qn⟩|⟨go,N,hN,step⟩
 ·refine thn (T.done Y rfl rfl rfl hc i [] s3 (List.replicate k none++σ) H3 _ I3 (hf H3 fr3) st3 stop) λ r s4 ⟨hr,I4⟩=>?_;subst hr;exact Oz ⟨rfl,H3,I4,qn⟩
 ·refine thn (T.item Y rfl rfl rfl hc i [] s3 (List.replicate k none++σ) H3 _ I3 (hf H3 fr3) st3 go) λ r s4 ⟨u,hr,h4⟩=>?_;subst hr;refine My (thn h4 λ _ s5 ⟨x,H5,I5,r5,y5,st5,fr5⟩=>?_);have I5':=I5.pinned (hf H5 fr5) (T.obj _ _ st5);refine My (no (thn (hg _ s5 (List.replicate k none++σ) H5 x u _ I5' r5 (step x H5 y5)) λ _ s6 ⟨σ6,H6,I6,⟨vs,hvs,e6⟩,q6⟩=>?_));subst e6
  have forget:∀ {pins:List (Addr × Obj)} {H:Hp} {s:Shared},Inv Y pins (vs++σ) H s->Inv Y pins (List.replicate k none++σ) H s:=λ {pins H s} I=>I.weak (by simp [hvs]) λ i v e=>by
   by_cases hi:i < k
   ·rw [Pj (by simpa using hi)] at e;simp [QP,hi] at e
   ·rw [O7 (by simpa using Sr hi)] at e;rw [O7 (by omega)]
    simpa [hvs] using e
  refine My (no (thn (ht _ s6 (vs++σ) H6 _ I6 q6) λ b s7 ⟨H7,I7,q7⟩=>?_))
  have again:∀ {H8:Hp} {s8:Shared} {ys':List V},Inv Y ([]++mV fp s5.heap) (vs++σ) H8 s8->N ys' H8->∃ m,m < n/\∃ i ys H,Inv Y [] (List.replicate k none++σ) H s8/\tn i s8.heap/\(∀ b∈fp,H b=none)/\W i m ys H:=λ {H8 s8 ys'} I8 n8=>by
   obtain⟨m',hm,w8⟩:=hN ys' H8 n8;refine⟨m',hm,i+1,ys',H8,forget I8.unpinned,T.keep _ _ _ st5 λ b hb o e=>(I8.pin (b,o) (Pm _ (Pm _ (fv hb e)))).1,λ b hb=>?_,w8⟩;obtain⟨o,e,d⟩:=T.obj _ _ st5 b hb;exact(I8.pin (b,o) (Pm _ (Pm _ (fv hb e)))).2.1
  cases b with
  | false=>
   rw [O2 OP] at q7;exact Oz ⟨rfl,again I7 q7⟩
  | true=>
   rw [Pd rfl] at q7;refine My (My (no (thn (he _ s7 (vs++σ) H7 _ I7 q7) λ y s8 ⟨y',H8,I8,ry,q8,l8,n8⟩=>?_)));exact My (no (thn (b9 _ s8 (vs++σ) H8 (.ref D) [y'] (.ref D) [y] (λ _ H'=>N (ys++[y']) H') I8 rfl (.cons ry .nil) ⟨D,ys,y',rfl,rfl,q8,l8,n8⟩) λ _ s9 ⟨_,H9,I9,_,q9⟩=>Oz (Oz ⟨rfl,again I9 q9⟩)))
structure iX(X:Cx)(scope:Scope)(N':List Str)(k:Nat):Prop where
 cell:∀ y∈scope.names,y.2 ≠ .cell
 kind:scope.kind=.function
 names:∀ y∈scope.names,y.2=.local->scope.names.lookup y.1=some .local
 free:∀ y∈scope.names,y.2=.free->X.env.scope.names.lookup y.1=some .cell
 len:N'.length=k+X.N.length
 sub:∀ i x,N'[k+i]? = some x->scope.names.lookup x=some .free->X.N[i]? = some x
 loc:∀ i x,N'[k+i]? = some x->scope.names.lookup x ≠ some .local
theorem iX.cells{scope:Scope}{N':List Str}{k:Nat}{pins:List (Addr × Obj)}{σ:St}{H:Hp}{s:Shared}(c:iX X scope N' k)(I:Inv X pins σ H s):∀ y∈scope.names,y.2=.free->∃ a,X.env.cells.lookup y.1=some a:=λ y hy e=>
 I.ok.has y.1 (.inl (c.free y hy e))
theorem AZ{scope:Scope}{N':List Str}{k:Nat}{pins:List (Addr × Obj)}{σ:St}{H:Hp}{s s₄:Shared}{fp:List Addr}{m:Str->Option Value}(c:iX X scope N' k)(hc:X.calm=true)(I:Inv X pins σ H s)
  (hf:∀ b∈fp,oT X pins H b) (hfl:∀ b∈fp,b < s.heap.objs.size) (hb:∀ b∈fp,X.base.get? b=none) (hns:s₄.heap.Ns s.heap.objs.size m) (hk:∀ b o,s.heap.get? b=some o->s₄.heap.get? b=some o) (ho:s₄.os=s.os) (hg:s₄.gens=s.gens) :
  Inv (cCx X scope N' s.heap.objs.size s H fp (X.pn++pins)) [] (List.replicate k none++σ) H s₄:=by
 have hcl:=c.cells I
 have sub:∀ x a,(mH X.env.cells scope.names []).lookup x=some a->X.env.cells.lookup x=some a:=λ x a e=>by
  rcases lZ hcl e with q|q
  ·simp at q
  ·exact q
 have kinds:∀ x,(compEnvC scope (mH X.env.cells scope.names []) s.heap.objs.size X.env).kindOf x=some .cell\/(compEnvC scope (mH X.env.cells scope.names []) s.heap.objs.size X.env).kindOf x=some .free->scope.names.lookup x=some .free:=λ x hx=>by
  have e:(compEnvC scope (mH X.env.cells scope.names []) s.heap.objs.size X.env).kindOf x=(scope.names.lookup x).map λ k=>if (k == NameKind.free && X.env.scope.kind == .function && X.env.kindOf x == some .cell) then NameKind.cell else k:=dF
  rw [e] at hx
  cases q:scope.names.lookup x with
  | none=>rw [q] at hx;simp at hx
  | some j=>
   rw [q] at hx;have hj:j ≠ .cell:=c.cell (x,j) (fB q)
   cases j<;>simp_all
 have fresh:∀ b,s.heap.objs.size<=b->s.heap.get? b=none:=λ b hb=>Sh hb;have ne:∀ b o,s.heap.get? b=some o->b ≠ s.heap.objs.size:=λ b o e=>OS (OA e)
 have cl_lt:∀ x a,X.env.cells.lookup x=some a->a < s.heap.objs.size:=λ x a e=>by
  obtain⟨v,o,h1,_⟩:=I.cell x a e;exact OA h1
 refine⟨⟨I.ok.mod,c.kind,I.ok.glob,I.ok.blt,OC _,λ x y a e1 e2=>I.ok.inj x y a (sub x a e1) (sub y a e2),λ x hx=>iN hcl (kinds x hx),(λ _ _ z=>nomatch z),I.ok.hd,I.ok.frames,.inl rfl,λ b hb'=>⟨OS (hfl b hb'),λ x a e=>(hf b hb').2.2.2.2.1 x a (sub x a e)⟩,
   I.bs,PJ I.ok.bsz I.sz,(λ b o e hb'=>by rw [hb b hb'] at e;cases e),λ b hb' hz=>?_,I.stack,I.stkFree⟩,ho,by rw [hg];exact I.bare,Un.kept hk,⟨m,hns,λ i x v e1 e2 e3=>?_⟩,λ x a e=>?_,I.hok.fresh (OC _),λ x a e=>I.freeC x a (sub x a e),λ p hp=>?_,I.hok.kept hk,?_⟩
 ·rcases OU.mp (I.stkSub b hz) with z|z
  ·exact(hf b hb').2.1 z
  ·exact(hf b hb').2.2.1 z
 ·have hi:k<=i:=by
   refine Sr λ hi=>?_;rw [Pj (by simpa using hi)] at e2;simp [QP,hi] at e2
  obtain⟨j,rfl⟩:∃ j,i=k+j:=⟨i - k,by omega⟩;rw [O7 (by simp)] at e2;have e2':σ[j]? = some (some v):=by simpa using e2
  have e:(relabel scope X.env).names.lookup x=(scope.names.lookup x).map λ k=>if (k == NameKind.free && X.env.scope.kind == .function && X.env.kindOf x == some .cell) then NameKind.cell else k:=dF
  have hfree:scope.names.lookup x=some .free:=by
   cases q:scope.names.lookup x with
   | none=>
    rcases e3 with z|z|z
    all_goals (have z':(relabel scope X.env).names.lookup x=some _:=z;rw [e,q] at z';simp at z')
   | some j'=>
    have h1:j' ≠ .cell:=c.cell (x,j') (fB q);have h2:j' ≠ .local:=λ z=>c.loc j x e1 (by rw [q,z])
    rcases e3 with z|z|z
    all_goals (have z':(relabel scope X.env).names.lookup x=some _:=z;rw [e,q] at z';cases j'<;>simp_all)
  have hX:=c.sub j x e1 hfree;have hcellX:=c.free (x,.free) (fB hfree) rfl;obtain⟨m0,hn0,hl0⟩:=I.loc;obtain⟨u,r,l⟩:=hl0 j x v hX e2' (.inr (.inl hcellX));refine⟨u,r,?_⟩
  rcases l with ⟨z,_⟩|⟨_,a,ea,hz⟩
  ·have z':X.env.scope.names.lookup x=some .local:=z;rw [hcellX] at z';cases z'
  ·obtain⟨a',ea'⟩:=iN (acc:=[]) hcl hfree;have e4:=sub x a' ea';rw [ea] at e4;cases e4;refine .inr ⟨.inl ?_,a,ea',?_⟩
   ·show (relabel scope X.env).names.lookup x=some .cell
    rw [e,hfree];have k1:(X.env.scope.kind == .function)=true:=by rw [I.ok.kind];rfl
    have k2:(X.env.kindOf x == some .cell)=true:=by
     have:X.env.kindOf x=some .cell:=hcellX;rw [this];rfl
    simp [k1,k2]
   ·obtain⟨o,h1,h2⟩:=hz;exact⟨o,hk _ _ h1,h2⟩
 ·obtain⟨v,o,h1,h2⟩:=I.cell x a (sub x a e);exact⟨v,o,hk _ _ h1,h2⟩
 ·have hp':p∈X.pn++pins:=by simpa using hp
  obtain⟨e,n,nl,nf,d⟩:=I.pin p hp';refine⟨hk _ _ e,n,ne _ _ e,λ z=>?_,d⟩
  rcases OU.mp (I.stkSub _ z) with z|z
  ·exact nl z
  ·exact nf z
 ·show (List.replicate k none++σ).length=N'.length
  rw [c.len,OR,Rb,I.len]
theorem kK{elt iter tg:Expr}{ifs:List Expr}{scope:Scope}{pos:Pos}{g:TG}{tt:TT}{te:TE}{N':List Str}{k:Nat}{it:Addr}{J:It}{fp:List Addr}{tn:Nat->Heap->Prop}{pins:List (Addr × Obj)}{σ:St}{H:Hp}{s:Shared}{Q:VK}{RR:Value->Addr->Result->Shared->Prop}{E:Value->Shared->Prop}
  (c:iX X scope N' k) (hc:X.calm=true) (I:Inv X pins σ H s) (T:yK X.prog X.w X.K tg J fp it tn) (st:tn 0 s.heap) (hf:∀ b∈fp,oT X pins H b)
  (hg:∀ C s₀ H₀ ex pn,PG (cCx X scope N' C s₀ H₀ ex pn) tg g) (ht:∀ C s₀ H₀ ex pn,PTs (cCx X scope N' C s₀ H₀ ex pn) ifs tt) (he:∀ C s₀ H₀ ex pn,PE (cCx X scope N' C s₀ H₀ ex pn) elt te)
  (h:∀ D,H D=none->∃ W:Nat->Nat->List V->Hp->Prop,(∃ m,W 0 m [] (upd H D (.lst [])))/\∀ i m ys H,W i m ys H →
   (J.stop i H/\Q (.ref D) H)\/(J.go i H/\∃ N:List V->Hp->Prop,(∀ ys' H',N ys' H'->∃ m',m' < m/\W (i+1) m' ys' H') /\
    ∀ x H',J.yld i H x H'->g x (List.replicate k none++σ) H' λ σ2 H2=>(∃ vs:St,vs.length=k/\σ2=vs++σ)/\tt σ2 H2 λ b H3=>if b=true then te σ2 H3 λ y H4=>H4 D=some (.lst ys)/\ys.length < sizeLine/\N (ys++[y]) (upd H4 D (.lst (ys++[y]))) else N ys H3))
  (fin:∀ D C s' H' m,s'.heap.Ns C m->C ≠ X.env.locals->(∀ x a,X.env.cells.lookup x=some a->a ≠ C)->(H' C=none/\X.s₀.heap.objs.size<=C/\∀ p∈X.pn++pins,p.1 ≠ C)->(∀ h',Heap.SameBut C s'.heap h'->Inv X pins σ H' { s' with heap:=h' })->Q (.ref D) H'->RR (.ref D) C (.ok .next) s') :
  wpAny (model X.prog X.w) X.A (newList []) (λ acc s₃=>wpAny (model X.prog X.w) X.A (newFunctionEnv scope X.env.globals (mH X.env.cells scope.names []) [] X.env.qual none .none (some X.env)) (λ cenv s₄=>
   codeAny (model X.prog X.w) X.A (.compStart (.ListComp elt [⟨tg,iter,ifs,0⟩] scope pos) 0 (.ref it) acc { cenv with scope:=relabel scope X.env }) (RR acc cenv.locals) s₄) E s₃) E s:=by
 refine wpAny_newObj_type (wpAny_newFunctionEnv c.cell (by intro y hy;simp at hy) (λ h₁ hns₁ hsb₁=>?_) c.kind);dsimp only at hns₁ hsb₁ ⊢;have I3:Inv X pins σ (upd H s.heap.objs.size (.lst [])) { s with heap:=s.heap.push { cls:=.type "list",data:=.seq ([]:List Value).toArray },toks:=s.toks }:=I.lnew (ys:=[]) (its:=[]) .nil (Nat.zero_le _);generalize hH2:s.heap.push { cls:=.type "list",dict:=none,data:=.seq ([]:List Value).toArray }=hp at hns₁ hsb₁ I3 ⊢;have hlt:∀ b o,s.heap.get? b=some o->hp.get? b=some o:=λ b o e=>by rw [←hH2];exact Heap.get?_push_of_some _ e
 have hnD:H s.heap.objs.size=none:=I.hok.fresh (OC _);have kp:∀ b o,hp.get? b=some o->h₁.get? b=some o:=λ b o e=>hsb₁.extBut b o (OS (OA e)) (Ox _ e)
 have stk:∀ b∈fp,s.heap.get? b ≠ none:=λ b hb z=>by
  obtain⟨o,e,_⟩:=T.obj _ _ st b hb;rw [z] at e;cases e
 have flt:∀ b∈fp,b < s.heap.objs.size:=λ b hb=>by
  obtain⟨o,e,_⟩:=T.obj _ _ st b hb;exact OA e
 have fpD:∀ b∈fp,b ≠ s.heap.objs.size:=λ b hb=>OS (flt b hb)
 have hf3:∀ b∈fp,oT X pins (upd H s.heap.objs.size (.lst [])) b:=λ b hb=>by
  obtain⟨a1,a2⟩:=hf b hb;exact⟨by rw [af (fpD b hb)];exact a1,a2⟩
 have hnb:∀ b∈fp,X.base.get? b=none:=λ b hb=>by
  cases e:X.base.get? b with
  | none=>rfl
  | some o=>
   rcases (hf b hb).2.2.2.1 with z|z
   ·exact absurd z (I.ok.noex b o e)
   ·have:=OA (I.ok.bs b o e).1;exact absurd (OW this z) (Pk _)
 have hsz:s.heap.objs.size < hp.objs.size:=by rw [←hH2,O5];exact PL _
 have IY:=AZ (s₄:={ s with heap:=h₁,toks:=s.toks+([]:List (Str × Value)).length }) (fp:=fp) c hc I3 hf3 (λ b hb=>Rr (flt b hb) hsz) hnb hns₁ kp rfl rfl;obtain⟨W,⟨m0,w0⟩,turn⟩:=h s.heap.objs.size hnD
 have run:=yq (Y:=cCx X scope N' hp.objs.size { s with heap:=hp,toks:=s.toks } (upd H s.heap.objs.size (.lst [])) fp (X.pn++pins)) (tg:=tg) (elt:=elt) (iter:=iter) (ifs:=ifs) (scope:=scope) (pos:=pos) (it:=it) (D:=s.heap.objs.size) (k:=k) (σ:=σ) (Q:=Q)
  hc rfl (hg _ _ _ _ _) (ht _ _ _ _ _) (he _ _ _ _ _) T (λ H' hn b hb=>⟨hn b hb,OS (Rr (flt b hb) hsz),λ z=>(IY.ok.exfs b hb) z,.inl hb,λ x a e=>(IY.ok.exf b hb).2 x a e,λ p hp=>by
   have hp':p∈X.pn++pins:=by simpa using hp
   exact(hf b hb).2.2.2.2.2 p hp'⟩) W turn m0
 have st₁:tn 0 h₁:=T.keep _ _ _ st λ b hb o e=>kp b o (hlt b o e);have go:=run { s with heap:=h₁,toks:=s.toks+([]:List (Str × Value)).length } ⟨0,[],_,IY,st₁,λ b hb=>(hf3 b hb).1,w0⟩
 have out:∀ r s',(r=Except.ok Flow.next/\∃ H',Inv (cCx X scope N' hp.objs.size { s with heap:=hp,toks:=s.toks } (upd H s.heap.objs.size (.lst [])) fp (X.pn++pins)) [] (List.replicate k none++σ) H' s'/\Q (.ref s.heap.objs.size) H')->RR (.ref s.heap.objs.size) hp.objs.size r s':=by
  rintro r s' ⟨rfl,H',J',q⟩;obtain⟨m,hn,_⟩:=J'.loc;have hC:hp.objs.size ≠ X.env.locals:=Pn (OW I.lt (Q9 hsz));refine fin _ _ s' H' m hn hC (λ x a e=>?_) ⟨J'.free,PJ I.sz (Q9 hsz),λ p hp'=>OS (Rr (OA (I.pin p hp').1) hsz)⟩ (λ h' hs'=>?_) q
  ·obtain⟨v,o,h1,_⟩:=I.cell x a e;exact OS (Rr (OA h1) hsz)
  ·refine I.call' (ch:=fp) ?_ ?_ ?_ J'.bare λ b hb=>⟨(hf b hb).2.2.2.1,(hf b hb).2.1,(hf b hb).2.2.2.2.1,(hf b hb).2.2.2.2.2⟩
   ·exact J'.os
   ·have u1:Un (frs X.stack) fp H (upd H s.heap.objs.size (.lst [])) s.heap hp:=Un.laid hlt (OC _) hnD;exact(u1.trans J'.base).but hs' λ b o e=>OS (Rr (OA e) hsz)
   ·exact J'.hok.but J'.free hs'
 exact codeAny_compStart_list (RH go out) (T.self _ 0 _ _ _ st₁ (RH go out))
theorem DH{elt iter tg:Expr}{ifs:List Expr}{scope:Scope}{pos:Pos}{wi:TI}{g:TG}{tt:TT}{te:TE}{N':List Str}{k:Nat}
  (c:iX X scope N' k) (hc:X.calm=true) (hi:PI X tg iter wi)
  (hg:∀ C s₀ H₀ ex pn,PG (cCx X scope N' C s₀ H₀ ex pn) tg g) (ht:∀ C s₀ H₀ ex pn,PTs (cCx X scope N' C s₀ H₀ ex pn) ifs tt) (he:∀ C s₀ H₀ ex pn,PE (cCx X scope N' C s₀ H₀ ex pn) elt te)
  (hs:∀ x,foldedSetIterable iter X.env x=pure x:=by intro _;rfl):PE X (.ListComp elt [⟨tg,iter,ifs,0⟩] scope pos) (Cj k wi g tt te):=by
 intro pins s σ H Q I h;rw [PySem.eval_ListComp];refine Sj (use:=none) rfl hs (gM (c.cells I)) c.kind c.names (thn (hi pins s σ H _ I h) λ v s1 h1=>thn h1 λ itv s2 h2=>?_);obtain⟨it,fp,tn,J,H2,rfl,I2,T,st2,f2,hW⟩:=h2;refine kK (RR:=λ acc C=>PySem.compPost (model X.prog X.w) X.A X.xe none (EP X pins σ Q) acc C) c hc I2 T st2 f2 hg ht he hW ?_;intro D C s' H' m hn _ _ _ hI q;exact⟨m,hn,λ h' hs'=>⟨.ref D,H',hI h' hs',rfl,q⟩⟩
def GF(i:Nat)(te:TE):TS:=λ D σ H=>te σ H λ x H1=>D.nx (σ.set i (some x)) H1
theorem Dt{elt iter tg:Expr}{ifs:List Expr}{scope:Scope}{pos spos py:Pos}{wi:TI}{g:TG}{tt:TT}{te:TE}{N':List Str}{k i:Nat}{y:Str}
  (hN:X.N.Nodup) (hi':X.N[i]? = some y) (hy:Loc X.env.scope y)
  (c:iX X scope N' k) (hc:X.calm=true) (hi:PI X tg iter wi)
  (hg:∀ C s₀ H₀ ex pn,PG (cCx X scope N' C s₀ H₀ ex pn) tg g) (ht:∀ C s₀ H₀ ex pn,PTs (cCx X scope N' C s₀ H₀ ex pn) ifs tt) (he:∀ C s₀ H₀ ex pn,PE (cCx X scope N' C s₀ H₀ ex pn) elt te)
  (hsw:swapsWith (.ListComp elt [⟨tg,iter,ifs,0⟩] scope pos) (some (.Name y py)) spos.line X.env=pure true:=by rfl)
  (hs:∀ x,foldedSetIterable iter X.env x=pure x:=by intro _;rfl) (hf:X.fn y=true\/X.env.scope.names.lookup y=some .local:=by first|exact .inl rfl|exact .inr rfl|assumption) :
  PS X (.Assign [.Name y py] (.ListComp elt [⟨tg,iter,ifs,0⟩] scope pos) spos) (GF i (Cj k wi g tt te)):=by
 intro pins s σ H D I h;rw [PySem.exec_Assign_Name_used _ _ _ _ hsw];refine My (Sx (My ?_))
 show wpAny _ X.A (do let _ ←comprehension (.ListComp elt [⟨tg,iter,ifs,0⟩] scope pos) scope X.env _ (newList []) false (eval iter X.env) (some (assign (.Name y py) X.env))) _ _ s
 refine My (thn (Sj (use:=some (assign (.Name y py) X.env)) (Q:=λ _ s'=>SP X pins D .next s') rfl hs (gM (c.cells I)) c.kind c.names (thn (hi pins s σ H _ I h) λ v s1 h1=>thn h1 λ itv s2 h2=>?_)) λ _ s' hq=>Oz (Oz hq));obtain⟨it,fp,tn,J,H2,rfl,I2,T,st2,f2,hW⟩:=h2;refine kK (Q:=λ x H1=>D.nx (σ.set i (some x)) H1) (RR:=λ acc C=>PySem.compPost (model X.prog X.w) X.A X.xe (some (assign (.Name y py) X.env)) (λ _ s'=>SP X pins D .next s') acc C) c hc I2 T st2 f2 hg ht he hW ?_;intro D' C s' H' m hn hCl hCc hCo hI q
 show wpAny _ X.A (assign (.Name y py) X.env (.ref D')) _ _ s'
 have I':Inv X pins σ H' s':=hI s'.heap (Heap.SameBut.refl _ _);refine wpAny_assign_Name (nh I' hN hi' hy (show bF (.ref D') (.ref D') from rfl) (λ s'' I'' ⟨a,sb,ha⟩=>?_) hf)
 have hCa:C ≠ a:=by
  rcases ha with rfl|ha
  ·exact hCl
  ·exact λ z=>hCc _ _ ha z.symm
 refine⟨m,hn.sameBut sb hCa,λ h' hs'=>⟨_,H',?_,q⟩⟩;exact I''.turned (t':=s''.toks) (λ b o hb e=>(hs'.2 b hb).trans e) hCo.1 hCl (.inr hCo.2.1) hCc hCo.2.2
end
section
variable {M:Model}{A:Around}{E:Value->Shared->Prop}{s:Shared}
end
section
variable {X:Cx}
set_option genInjectivity false in
def HY(K:W.Frag)(C:Addr)(z:Option Value)(bmB:List Value)(newId:String):Bool:=match K.lookup C with
 | some ⟨.type "type",_,.cls dat,slt⟩=>(match dat.mro,slt.toList with
  | .ref C'::up,[_,_,_,_,some (.builtin n),_]=>C' == C && n == newId && !dat.hasDel && W.tailIn K bmB up && W.nsOkIn K dat.ns && W.nsIn K dat.ns "__init__" == some z
  | _,_=>false)
 | _=>false
end
structure Ov(K:W.Frag)(x qual:Str)(st:Stmt)(f:Addr)(fd:FuncData):Prop where
 ex:∃ (oc:Value) (od:Option Addr) (dV kV doc pm:Value) (an:Option Addr) (cdv ct:Value) (osl:Array (Option Value)),
  fd=W.fnOf x qual (fV st) (eU st) (aa st) dV kV doc pm an cdv ct/\K.lookup f=some ⟨oc,od,.func fd,osl⟩/\W.codeIn K cdv qual=true
 kp:W.keepIn K (.ref f)=true
section
variable {P:Program}{w:World}{K:PySem.W.Frag}{mg:Str->Option Value}{base:Heap}
end
open PySem.W
section
variable {prog:Program}{w:World}{A:Around}{E:Value->Shared->Prop}{s:Shared}{K:PySem.W.Frag}{x C:Addr}{ox:Obj}{od:Option Obj}{name:Str}
end
structure za(X:Cx)(pins:List (Addr × Obj))(e:Addr):Prop where
 s0:X.s₀.heap.get? e=none
 loc:e ≠ X.env.locals
 cel:∀ x c,X.env.cells.lookup x=some c->c ≠ e
 fs:e ∉ X.fs
 pin:∀ p∈X.pn++pins,p.1 ≠ e
section
variable {X:Cx}
end
def vd(K:Frag)(C fI:Addr)(bmB:List Value)(newId:String):Bool:=HY K C (some (.ref fI)) bmB newId
section
variable {prog:Program}{w:World}{A:Around}{R:Result->Shared->Prop}{h:Heap}{g:Array GenState}{d:Drawn}{t:Nat}{os:OsState}{K:Frag}
variable {nm q:Str}{C N fI:Addr}{bs bm bmB:List Value}{hdct:Bool}{sn:List Str}{sub:List Value}{ab:Bool}{col:Option Bool}{dd:Option Addr}{k0 k1 k2 k3 k5:Option Value}{B Bn newId nid initId inN:String}{bmN:List Value}
end
def rA:List Value->List Value
 | .ref _::r=>rA r
 | l=>l
def DR(l:List Value):Bool:=rA l == [.type "ValueError",.type "Exception",.type "BaseException",.type "object"]
def pN(K:Frag)(C:Addr):Bool:=(clsIn K C).any λ cd=>DR cd.mro && cd.mro.contains (.type "object")
structure J3(K:Frag)(C:Addr):Prop where
 ov:pN K C=true
 sa:findIn K (.ref C) "__setattr__"=some (some (.builtin "object.__setattr__"))
 hd:hasDictIn K C=true
section
variable {prog:Program}{w:World}{A:Around}{E:Value->Shared->Prop}{K:Frag}{x C:Addr}{s:Shared}{name:Str}{v:Value}
end
section
variable {prog:Program}{w:World}{A:Around}{E:Value->Shared->Prop}{s:Shared}{K:PySem.W.Frag}{x C dx:Addr}{ox:Obj}{od:Option Obj}{name:Str}{mA:Str->Option Value}{u:Value}
end
section
variable {prog:Program}{w:World}{A:Around}{E:Value->Shared->Prop}{h:Heap}{g:Array GenState}{d:Drawn}{t:Nat}{os:OsState}{e a0:Addr}{dct:Option Addr}
variable {nm q:Str}{C N:Addr}{bs bm bmB:List Value}{hdct:Bool}{sn:List Str}{sub:List Value}{ab:Bool}{col:Option Bool}{dd:Option Addr}{k0 k1 k2 k3 k5:Option Value}{B newId nid initId:String}
end
structure Ny(K:W.Frag)(C fI:Addr):Prop where
 ex:vd K C fI [.type "ValueError",.type "Exception",.type "BaseException",.type "object"] "ValueError.__new__"=true
 fn:typeIn K (.ref fI)=some (.type "function")
 st:J3 K C
section
variable {X:Cx}{pins:List (Addr × Obj)}{σ:St}{H:Hp}{s:Shared}
theorem Inv.adopt{a:Addr}{o:HO}(I:Inv X pins σ H s)(N:za X pins a)(hn:H a=none)(new:bM X.prog X.w (upd H a o) s.heap a o):Inv X pins σ (upd H a o) s:=by
 have ne:∀ {b:Addr} {u:HO},H b=some u->b ≠ a:=λ q z=>by rw [z,hn] at q;cases q
 refine⟨I.ok,I.os,I.bare,⟨I.base.keep,I.base.slot,λ b u q n hx=>?_,I.base.there,λ b xs q=>?_,λ b u v q=>?_,λ b ps q=>?_⟩,I.loc,I.cell,?_,λ x c q=>?_,λ p hp=>?_,λ b u q=>?_,I.len⟩
 ·rw [af (λ z=>by rw [z,N.s0] at q;cases q)];exact I.base.free b u q n hx
 ·have z:=I.base.tups b xs q;rw [af (ne z)];exact z
 ·have z:=I.base.frzs b u v q;rw [af (ne z)];exact z
 ·obtain⟨m,z⟩:=I.base.tbls b ps q;exact⟨m,by rw [af (ne z)];exact z⟩
 ·rw [af (OK N.loc)];exact I.free
 ·rw [af (N.cel x c q)];exact I.freeC x c q
 ·obtain⟨a1,b1,c1,d1,f1⟩:=I.pin p hp;exact⟨a1,by rw [af (N.pin p hp)];exact b1,c1,d1,f1⟩
 ·by_cases hb:b=a
  ·subst hb;rw [aq] at q;cases q;exact new
  ·rw [af hb] at q;exact(I.hok b u q).stay (λ _ _ _ r=>r) (λ c r=>by rw [af (ne r)];exact r) λ c xs r=>by rw [af (ne r)];exact r
theorem Inv.newAt{a:Addr}(I:Inv X pins σ H s)(ha:s.heap.objs.size<=a):za X pins a where
 s0:=Sh (PJ I.sz ha)
 loc:=Pn (OW I.lt ha)
 cel:=λ x c e z=>by
  obtain⟨v,o,q,_⟩:=I.cell x c e;exact absurd (OW (OA q) (by rw [z];exact ha)) (Pk _)
 fs:=I.nofs ha
 pin:=λ p hp z=>absurd (OW (OA (I.pin p hp).1) (by rw [z];exact ha)) (Pk _)
structure Mq(K:W.Frag)(B:Addr):Prop where
 sp:specialIn K (.ref B) "__getattribute__"=some (some (.builtin "type.__getattribute__"))
 rd:readsIn K B (.type "type")=true
 fc:findCls K (.ref B) (.type "type") "__init__"=some (.val (.builtin "ValueError.__init__"))
end
section
variable {X:Cx}{e o value:Expr}{ta tv:TE}{f:Str}{pos pos':Pos}
end
def del(H:Hp)(e:Addr):Hp:=λ b=>if b=e then none else H b
section
variable {X:Cx}
end
theorem FP{a:Option V}{v:V}{σ:St}{H:Hp}{Q:St->Hp->Prop}:dv 0 v (a::σ) H Q=Q (some v::σ) H:=rfl
theorem FO{a0:Option V}{a:Option V}{v:V}{σ:St}{H:Hp}{Q:St->Hp->Prop}:dv 1 v (a0::a::σ) H Q=Q (a0::some v::σ) H:=rfl
theorem FN{a0 a1:Option V}{a:Option V}{v:V}{σ:St}{H:Hp}{Q:St->Hp->Prop}:dv 2 v (a0::a1::a::σ) H Q=Q (a0::a1::some v::σ) H:=rfl
theorem FL{a0 a1 a2:Option V}{a:Option V}{v:V}{σ:St}{H:Hp}{Q:St->Hp->Prop}:dv 3 v (a0::a1::a2::a::σ) H Q=Q (a0::a1::a2::some v::σ) H:=rfl
theorem FK{a0 a1 a2 a3:Option V}{a:Option V}{v:V}{σ:St}{H:Hp}{Q:St->Hp->Prop}:dv 4 v (a0::a1::a2::a3::a::σ) H Q=Q (a0::a1::a2::a3::some v::σ) H:=rfl
theorem FJ{a0 a1 a2 a3 a4:Option V}{a:Option V}{v:V}{σ:St}{H:Hp}{Q:St->Hp->Prop}:dv 5 v (a0::a1::a2::a3::a4::a::σ) H Q=Q (a0::a1::a2::a3::a4::some v::σ) H:=rfl
theorem FI{a0 a1 a2 a3 a4 a5:Option V}{a:Option V}{v:V}{σ:St}{H:Hp}{Q:St->Hp->Prop}:dv 6 v (a0::a1::a2::a3::a4::a5::a::σ) H Q=Q (a0::a1::a2::a3::a4::a5::some v::σ) H:=rfl
theorem FH{a0 a1 a2 a3 a4 a5 a6:Option V}{a:Option V}{v:V}{σ:St}{H:Hp}{Q:St->Hp->Prop}:dv 7 v (a0::a1::a2::a3::a4::a5::a6::a::σ) H Q=Q (a0::a1::a2::a3::a4::a5::a6::some v::σ) H:=rfl
theorem FG{a0 a1 a2 a3 a4 a5 a6 a7:Option V}{a:Option V}{v:V}{σ:St}{H:Hp}{Q:St->Hp->Prop}:dv 8 v (a0::a1::a2::a3::a4::a5::a6::a7::a::σ) H Q=Q (a0::a1::a2::a3::a4::a5::a6::a7::some v::σ) H:=rfl
theorem FF{a0 a1 a2 a3 a4 a5 a6 a7 a8:Option V}{a:Option V}{v:V}{σ:St}{H:Hp}{Q:St->Hp->Prop}:dv 9 v (a0::a1::a2::a3::a4::a5::a6::a7::a8::a::σ) H Q=Q (a0::a1::a2::a3::a4::a5::a6::a7::a8::some v::σ) H:=rfl
theorem Bk{a0 a1 a2 a3 a4 a5 a6 a7 a8 a9:Option V}{a:Option V}{v:V}{σ:St}{H:Hp}{Q:St->Hp->Prop}:dv 10 v (a0::a1::a2::a3::a4::a5::a6::a7::a8::a9::a::σ) H Q=Q (a0::a1::a2::a3::a4::a5::a6::a7::a8::a9::some v::σ) H:=rfl
theorem Bj{a0 a1 a2 a3 a4 a5 a6 a7 a8 a9 a10:Option V}{a:Option V}{v:V}{σ:St}{H:Hp}{Q:St->Hp->Prop}:dv 11 v (a0::a1::a2::a3::a4::a5::a6::a7::a8::a9::a10::a::σ) H Q=Q (a0::a1::a2::a3::a4::a5::a6::a7::a8::a9::a10::some v::σ) H:=rfl
theorem Bi{a0 a1 a2 a3 a4 a5 a6 a7 a8 a9 a10 a11:Option V}{a:Option V}{v:V}{σ:St}{H:Hp}{Q:St->Hp->Prop}:dv 12 v (a0::a1::a2::a3::a4::a5::a6::a7::a8::a9::a10::a11::a::σ) H Q=Q (a0::a1::a2::a3::a4::a5::a6::a7::a8::a9::a10::a11::some v::σ) H:=rfl
theorem Bh{a0 a1 a2 a3 a4 a5 a6 a7 a8 a9 a10 a11 a12:Option V}{a:Option V}{v:V}{σ:St}{H:Hp}{Q:St->Hp->Prop}:dv 13 v (a0::a1::a2::a3::a4::a5::a6::a7::a8::a9::a10::a11::a12::a::σ) H Q=Q (a0::a1::a2::a3::a4::a5::a6::a7::a8::a9::a10::a11::a12::some v::σ) H:=rfl
theorem Bg{a0 a1 a2 a3 a4 a5 a6 a7 a8 a9 a10 a11 a12 a13:Option V}{a:Option V}{v:V}{σ:St}{H:Hp}{Q:St->Hp->Prop}:dv 14 v (a0::a1::a2::a3::a4::a5::a6::a7::a8::a9::a10::a11::a12::a13::a::σ) H Q=Q (a0::a1::a2::a3::a4::a5::a6::a7::a8::a9::a10::a11::a12::a13::some v::σ) H:=rfl
theorem Bf{a0 a1 a2 a3 a4 a5 a6 a7 a8 a9 a10 a11 a12 a13 a14:Option V}{a:Option V}{v:V}{σ:St}{H:Hp}{Q:St->Hp->Prop}:dv 15 v (a0::a1::a2::a3::a4::a5::a6::a7::a8::a9::a10::a11::a12::a13::a14::a::σ) H Q=Q (a0::a1::a2::a3::a4::a5::a6::a7::a8::a9::a10::a11::a12::a13::a14::some v::σ) H:=rfl
theorem Be{a0 a1 a2 a3 a4 a5 a6 a7 a8 a9 a10 a11 a12 a13 a14 a15:Option V}{a:Option V}{v:V}{σ:St}{H:Hp}{Q:St->Hp->Prop}:dv 16 v (a0::a1::a2::a3::a4::a5::a6::a7::a8::a9::a10::a11::a12::a13::a14::a15::a::σ) H Q=Q (a0::a1::a2::a3::a4::a5::a6::a7::a8::a9::a10::a11::a12::a13::a14::a15::some v::σ) H:=rfl
def az{α:Type}:Option α->(α->Prop)->Prop
 | some x,k=>k x
 | none,_=>False
theorem jm{α:Type}(x:α)(k:α->Prop):az (some x) k=k x:=rfl
theorem ai{α:Type}{o:Option α}{k:α->Prop}(h:az o k):∃ x,o=some x/\k x:=by
 cases o with
 | none=>exact h.elim
 | some x=>exact⟨x,rfl,h⟩
def J7:HO->Option (List V)
 | .lst xs=>some xs
 | .tup xs=>some xs
 | .frz _ (.lst xs)=>some xs
 | _=>none
def KA:HO->Option (List V)
 | .lst xs=>some xs
 | _=>none
def Kp:HO->Option (List V)
 | .tup xs=>some xs
 | _=>none
def cL(H:Hp)(p:Addr):Option (List V):=(H p).bind J7
def av(H:Hp)(p:Addr):Option (List V):=(H p).bind KA
def iQ(H:Hp)(p:Addr):Option (List V):=(H p).bind Kp
theorem zD(xs:List V):J7 (.lst xs)=some xs:=rfl
theorem zC(xs:List V):J7 (.tup xs)=some xs:=rfl
theorem Ax(xs:List V):KA (.lst xs)=some xs:=rfl
theorem zz(xs:List V):Kp (.tup xs)=some xs:=rfl
theorem t5{α β:Type}(x:α)(f:α->Option β):(some x).bind f=f x:=rfl
abbrev Ext(H H':Hp):Prop:=(∀ a,(H a).isSome=true->H' a=H a)/\∀ (K:PySem.W.Frag) a xs,SqL K H a xs->SqL K H' a xs
def Kc(r:R2)(x:V)(Q:VK):VK:=λ y H=>r x y H Q
theorem B2(r:R2)(x y:V)(H:Hp)(Q:VK):(Kc r x Q y H)=(r x y H Q):=rfl
def kOp(r:R2)(tb:TE)(σ:St)(Q:VK):VK:=λ x H=>tb σ H (Kc r x Q)
theorem LS(r:R2)(tb:TE)(σ:St)(Q:VK)(x:V)(H:Hp):(kOp r tb σ Q x H)=(tb σ H (Kc r x Q)):=rfl
theorem Lw(r:R2)(ta tb:TE)(σ:St)(H:Hp)(Q:VK):(tOp r ta tb σ H Q)=(ta σ H (kOp r tb σ Q)):=rfl
theorem NS(v:V)(σ:St)(H:Hp)(Q:VK):(tC v σ H Q)=(Q v H):=rfl
def kUn(r:V->Hp->VK->Prop)(Q:VK):VK:=λ x H=>r x H Q
theorem LN(r:V->Hp->VK->Prop)(Q:VK)(x:V)(H:Hp):(kUn r Q x H)=(r x H Q):=rfl
theorem Ls(r:V->Hp->VK->Prop)(ta:TE)(σ:St)(H:Hp)(Q:VK):(tUn r ta σ H Q)=(ta σ H (kUn r Q)):=rfl
def uh:R2:=λ x y H Q=>y=.non/\Q (.bl (!decide (x=.non))) H
theorem qk(H:Hp)(Q:VK):uh (.non) .non H Q=Q (.bl false) H:=propext ⟨λ h=>h.2,λ h=>⟨rfl,h⟩⟩
theorem ql(i:Int)(H:Hp)(Q:VK):uh (.int i) .non H Q=Q (.bl true) H:=propext ⟨λ h=>h.2,λ h=>⟨rfl,h⟩⟩
theorem qj(i:Addr)(H:Hp)(Q:VK):uh (.ref i) .non H Q=Q (.bl true) H:=propext ⟨λ h=>h.2,λ h=>⟨rfl,h⟩⟩
def Hj(Q:Bool->Hp->Prop):VK:=λ x H=>∃ k,x=.bl k/\Q k H
def Nb(Q:Bool->Hp->Prop):Bool->Hp->Prop:=λ c H=>Q (!c) H
theorem Ji(Q:Bool->Hp->Prop)(c:Bool)(H:Hp):(Nb Q c H)=(Q (!c) H):=rfl
theorem IB(t:TT)(σ:St)(H:Hp)(Q:Bool->Hp->Prop):(Mz t σ H Q)=(t σ H (Nb Q)):=rfl
def Nm(u:TT)(σ:St)(Q:Bool->Hp->Prop):Bool->Hp->Prop:=λ c H=>if c=true then u σ H Q else Q false H
theorem JI(u:TT)(σ:St)(Q:Bool->Hp->Prop)(c:Bool)(H:Hp):(Nm u σ Q c H)=(if c=true then u σ H Q else Q false H):=rfl
theorem IH(t u:TT)(σ:St)(H:Hp)(Q:Bool->Hp->Prop):(MF t u σ H Q)=(t σ H (Nm u σ Q)):=rfl
def kOr(u:TT)(σ:St)(Q:Bool->Hp->Prop):Bool->Hp->Prop:=λ c H=>if c=true then Q true H else u σ H Q
theorem LR(u:TT)(σ:St)(Q:Bool->Hp->Prop)(c:Bool)(H:Hp):(kOr u σ Q c H)=(if c=true then Q true H else u σ H Q):=rfl
theorem Lv(t u:TT)(σ:St)(H:Hp)(Q:Bool->Hp->Prop):(tOr t u σ H Q)=(t σ H (kOr u σ Q)):=rfl
def Me(tb:TE)(σ:St)(Q:VK):VK:=λ x H=>∃ c,x=.bl c/\if c=true then tb σ H Q else Q (.bl false) H
def Oa(tb:TE)(σ:St)(Q:VK):VK:=λ x H=>∃ c,x=.bl c/\if c=true then Q (.bl true) H else tb σ H Q
def Ma(Q:VK):VK:=λ x H=>∃ c,x=.bl c/\Q (.bl (!c)) H
def Nd(ta tb:TE)(σ:St)(Q:VK):Bool->Hp->Prop:=λ c H=>if c=true then ta σ H Q else tb σ H Q
theorem Jq(ta tb:TE)(σ:St)(Q:VK)(c:Bool)(H:Hp):(Nd ta tb σ Q c H)=(if c=true then ta σ H Q else tb σ H Q):=rfl
theorem Lz(t:TT)(ta tb:TE)(σ:St)(H:Hp)(Q:VK):(tIf t ta tb σ H Q)=(t σ H (Nd ta tb σ Q)):=rfl
def Kk(r':R2)(y:V)(Q:VK):VK:=λ w H=>r' y w H Q
theorem Jz(r':R2)(y w:V)(Q:VK)(H:Hp):(Kk r' y Q w H)=(r' y w H Q):=rfl
def K1(r':R2)(tc:TE)(σ:St)(y:V)(Q:VK):VK:=λ z H=>∃ k,z=.bl k/\(if k=true then tc σ H (Kk r' y Q) else Q (.bl false) H)
def Ni(r r':R2)(tc:TE)(σ:St)(x:V)(Q:VK):VK:=λ y H=>r x y H (K1 r' tc σ y Q)
def Ob(r r':R2)(tb tc:TE)(σ:St)(Q:VK):VK:=λ x H=>tb σ H (Ni r r' tc σ x Q)
theorem IC(σ:St)(H:Hp)(Q:List V->Hp->Prop):(Gs σ H Q)=(Q [] H):=rfl
def uZ(x:V)(Q:List V->Hp->Prop):List V->Hp->Prop:=λ xs H=>Q (x::xs) H
theorem Av(x:V)(Q:List V->Hp->Prop)(xs:List V)(H:Hp):(uZ x Q xs H)=(Q (x::xs) H):=rfl
def Ho(tr:TA)(σ:St)(Q:List V->Hp->Prop):VK:=λ x H=>tr σ H (uZ x Q)
theorem E1(tr:TA)(σ:St)(Q:List V->Hp->Prop)(x:V)(H:Hp):(Ho tr σ Q x H)=(tr σ H (uZ x Q)):=rfl
theorem Eg(ta:TE)(tr:TA)(σ:St)(H:Hp)(Q:List V->Hp->Prop):(yR ta tr σ H Q)=(ta σ H (Ho tr σ Q)):=rfl
def ur(sp:Sp)(dvs:List V)(E:XK)(Q:VK):List V->Hp->Prop:=λ vs H=>sp (vs++dvs) H Q E
theorem xN(v0:V)(sp:Sp)(dvs:List V)(E:XK)(Q:VK)(H:Hp):ur sp dvs E Q [v0] H=sp (v0::dvs) H Q E:=rfl
theorem xM(v0 v1:V)(sp:Sp)(dvs:List V)(E:XK)(Q:VK)(H:Hp):ur sp dvs E Q [v0,v1] H=sp (v0::v1::dvs) H Q E:=rfl
theorem xK(v0 v1 v2:V)(sp:Sp)(dvs:List V)(E:XK)(Q:VK)(H:Hp):ur sp dvs E Q [v0,v1,v2] H=sp (v0::v1::v2::dvs) H Q E:=rfl
theorem xJ(v0 v1 v2 v3:V)(sp:Sp)(dvs:List V)(E:XK)(Q:VK)(H:Hp):ur sp dvs E Q [v0,v1,v2,v3] H=sp (v0::v1::v2::v3::dvs) H Q E:=rfl
theorem Ei(sp:Sp)(dvs:List V)(E:XK)(t:TA)(σ:St)(H:Hp)(Q:VK):(GL sp dvs E t σ H Q)=(t σ H (ur sp dvs E Q)):=rfl
def kCB(r:List V->Hp->VK->Prop)(Q:VK):List V->Hp->Prop:=λ vs H=>r vs H Q
theorem LY(r:List V->Hp->VK->Prop)(Q:VK)(vs:List V)(H:Hp):(kCB r Q vs H)=(r vs H Q):=rfl
theorem LA(r:List V->Hp->VK->Prop)(t:TA)(σ:St)(H:Hp)(Q:VK):(tCB r t σ H Q)=(t σ H (kCB r Q)):=rfl
theorem Ed(nx:St->Hp->Prop)(rt:VK)(bk ct:St->Hp->Prop)(σ:St)(H:Hp):(GI ⟨nx,rt,bk,ct⟩ σ H)=(nx σ H):=rfl
theorem Iz(t u:TS)(nx:St->Hp->Prop)(rt:VK)(bk ct:St->Hp->Prop)(σ:St)(H:Hp):(Mv t u ⟨nx,rt,bk,ct⟩ σ H)=(t ⟨u ⟨nx,rt,bk,ct⟩,rt,bk,ct⟩ σ H):=rfl
theorem IA(te:TE)(nx:St->Hp->Prop)(rt:VK)(bk ct:St->Hp->Prop)(σ:St)(H:Hp):(Mw te ⟨nx,rt,bk,ct⟩ σ H)=(te σ H rt):=rfl
def Hn(nx:St->Hp->Prop)(σ:St):VK:=λ x H=>nx σ H
theorem EZ(nx:St->Hp->Prop)(σ:St)(x:V)(H:Hp):(Hn nx σ x H)=(nx σ H):=rfl
theorem Ee(te:TE)(nx:St->Hp->Prop)(rt:VK)(bk ct:St->Hp->Prop)(σ:St)(H:Hp):(GJ te ⟨nx,rt,bk,ct⟩ σ H)=(te σ H (Hn nx σ)):=rfl
def Nc(t u:TS)(D:qG)(σ:St):Bool->Hp->Prop:=λ b H=>if b=true then t D σ H else u D σ H
theorem Jp(t u:TS)(D:qG)(σ:St)(b:Bool)(H:Hp):(Nc t u D σ b H)=(if b=true then t D σ H else u D σ H):=rfl
theorem qP(c:TT)(t u:TS)(D:qG)(σ:St)(H:Hp):(J6 c t u D σ H)=(c σ H (Nc t u D σ)):=rfl
def Nk(g:TG)(σ:St)(nx:St->Hp->Prop):VK:=λ x H=>g x σ H nx
theorem JG(g:TG)(σ:St)(nx:St->Hp->Prop)(x:V)(H:Hp):(Nk g σ nx x H)=(g x σ H nx):=rfl
theorem IG(te:TE)(g:TG)(nx:St->Hp->Prop)(rt:VK)(bk ct:St->Hp->Prop)(σ:St)(H:Hp):(Kq te g ⟨nx,rt,bk,ct⟩ σ H)=(te σ H (Nk g σ nx)):=rfl
def kGs(u:TGs)(r:List V)(Q:St->Hp->Prop):St->Hp->Prop:=λ σ' H'=>u r σ' H' Q
theorem LW(u:TGs)(r:List V)(Q:St->Hp->Prop)(σ:St)(H:Hp):(kGs u r Q σ H)=(u r σ H Q):=rfl
section
variable {X:Cx}
theorem OpR.mono{f:Value->Value->Sem Value}{r r':R2}(h:OpR X f r)(m:∀ x y H Q,r' x y H Q->r x y H Q):OpR X f r':=λ pins s σ H x y v u Q I rx ry hq=>h pins s σ H x y v u Q I rx ry (m _ _ _ _ hq)
theorem cn.mono{f:Value}{r r':List V->Hp->VK->Prop}(h:cn X f r)(m:∀ xs H Q,r' xs H Q->r xs H Q):cn X f r':=λ pins s σ H xs us Q I rx hq=>h pins s σ H xs us Q I rx (m _ _ _ hq)
theorem IxR.mono{r r':R2}(h:IxR X r)(m:∀ x y H Q,r' x y H Q->r x y H Q):IxR X r':=λ a b pins s σ H x y v u Q I rx ry hq=>h a b pins s σ H x y v u Q I rx ry (m _ _ _ _ hq)
theorem SlR.mono{r r':V->Option Int->Option Int->Hp->VK->Prop}(h:SlR X r)(m:∀ x lo hi H Q,r' x lo hi H Q->r x lo hi H Q):SlR X r':=λ pins s σ H x v vl vu lo hi sl Q I rx a b c hq=>h pins s σ H x v vl vu lo hi sl Q I rx a b c (m _ _ _ _ _ hq)
theorem PG.mono{tg:Expr}{g g':TG}(h:PG X tg g)(m:∀ v σ H Q,g' v σ H Q->g v σ H Q):PG X tg g':=λ pins s σ H v u Q I r hq=>h pins s σ H v u Q I r (m _ _ _ _ hq)
theorem gC{K:W.Frag}{H:Hp}{p:Addr}{ys:List V}(h:cL H p=some ys):SqL K H p ys\/SqT K H p ys:=by
 unfold cL at h
 cases e:H p with
 | none=>rw [e] at h;cases h
 | some o=>
  rw [e] at h;have h':J7 o=some ys:=h
  cases o with
  | lst xs=>cases h';exact .inl (SqL.of e)
  | tup xs=>cases h';exact .inr (SqT.of e)
  | frz ob u=>
   cases u with
   | lst xs=>cases h';exact .inl (.inl (.inr ⟨ob,e⟩))
   | _=>cases h'
  | _=>cases h'
theorem bf{H:Hp}{p:Addr}{ys:List V}(h:av H p=some ys):H p=some (.lst ys):=by
 unfold av at h
 cases e:H p with
 | none=>rw [e] at h;cases h
 | some o=>
  rw [e] at h;have h':KA o=some ys:=h
  cases o with
  | lst xs=>cases h';rfl
  | _=>cases h'
theorem qK{H:Hp}{p:Addr}{ys:List V}(h:iQ H p=some ys):H p=some (.tup ys):=by
 unfold iQ at h
 cases e:H p with
 | none=>rw [e] at h;cases h
 | some o=>
  rw [e] at h;have h':Kp o=some ys:=h
  cases o with
  | tup xs=>cases h';rfl
  | _=>cases h'
def KO(H:Hp)(Q:VK):List V->Prop:=λ ys=>Q (.int ys.length) H
theorem Jl(H:Hp)(Q:VK)(ys:List V):KO H Q ys=Q (.int ys.length) H:=rfl
def Kv(xs:List V)(H:Hp)(Q:VK):Prop:=match xs with
 | [.ref p]=>az (cL H p) (KO H Q)
 | [.str z]=>z.length<=sizeLine/\Q (.int z.length) H
 | _=>False
theorem IQ(p:Addr)(H:Hp)(Q:VK):Kv [.ref p] H Q=az (cL H p) (KO H Q):=rfl
theorem au:cn X (.builtin "len") Kv:=by
 refine(dn.or oJ).mono λ xs H Q h=>?_;unfold Kv at h;split at h
 ·rename_i p;obtain⟨ys,e,q⟩:=ai h;exact .inl ⟨p,ys,rfl,gC e,q⟩
 ·rename_i z;exact .inr ⟨z,rfl,h.1,h.2⟩
 ·exact h.elim
def KP(H:Hp)(Q:VK):V->Prop:=λ v=>Q v H
theorem Jn(H:Hp)(Q:VK)(v:V):KP H Q v=Q v H:=rfl
def kIx(i:Int)(H:Hp)(Q:VK):List V->Prop:=λ ys=>az (atI ys i) (KP H Q)
theorem LV(i:Int)(H:Hp)(Q:VK)(ys:List V):kIx i H Q ys=az (atI ys i) (KP H Q):=rfl
def qIx:R2:=λ x y H Q=>match x,y with
 | .ref p,.int i=>az (cL H p) (kIx i H Q)
 | _,_=>False
theorem LC(p:Addr)(i:Int)(H:Hp)(Q:VK):qIx (.ref p) (.int i) H Q=az (cL H p) (kIx i H Q):=rfl
theorem cp:IxR X qIx:=by
 refine(pK.or JT).mono λ x y H Q h=>?_;unfold qIx at h;split at h
 ·rename_i p i;obtain⟨ys,e,q⟩:=ai h;obtain⟨v,e2,q2⟩:=ai q
  rcases gC (K:=X.K) e with z|z
  ·exact .inl ⟨p,ys,i,v,rfl,rfl,z,e2,q2⟩
  ·exact .inr ⟨p,ys,i,v,rfl,rfl,z,e2,q2⟩
 ·exact h.elim
theorem Mm{α:Type}(a:α)(xs:List α):atI (a::xs) 0=some a:=bU (j:=0) rfl
theorem Ml{α:Type}(a b:α)(xs:List α):atI (a::b::xs) 1=some b:=bU (j:=1) rfl
def Mb(H:Hp)(Q:VK):List V->Prop:=λ ys=>∀ l,H l=none->Q (.ref l) (upd H l (.lst ys))
def GU(xs:List V)(H:Hp)(Q:VK):Prop:=match xs with
 | [.ref p]=>az (cL H p) (Mb H Q)
 | _=>False
theorem tP:cn X (.type "list") GU:=by
 refine oI.mono λ xs H Q h=>?_;unfold GU at h;split at h
 ·rename_i p;obtain⟨ys,e,q⟩:=ai h;exact⟨p,ys,rfl,gC e,q⟩
 ·exact h.elim
def CI(p:Addr)(H:Hp)(Q:VK):HO->Prop:=λ o=>match o with
 | .lst ys=>∀ l,H l=none->Q (.ref l) (upd H l (.tup ys))
 | .tup _=>Q (.ref p) H
 | _=>False
def BU(xs:List V)(H:Hp)(Q:VK):Prop:=match xs with
 | [.ref p]=>az (H p) (CI p H Q)
 | _=>False
theorem qy:cn X (.type "tuple") BU:=by
 refine mD.mono λ xs H Q h=>?_;unfold BU at h;split at h
 ·rename_i p;obtain⟨o,e,q⟩:=ai h;unfold CI at q;split at q
  ·rename_i ys;exact⟨p,ys,rfl,.inl ⟨SqL.of e,q⟩⟩
  ·rename_i ys;exact⟨p,ys,rfl,.inr ⟨SqT.of e,q⟩⟩
  ·exact q.elim
 ·exact h.elim
def Kt(xs:List V)(H:Hp)(Q:VK):Prop:=match xs with
 | [.int i,.int j]=>Q (.int (if i < j then j else i)) H
 | _=>False
theorem IM(i j:Int)(H:Hp)(Q:VK):Kt [.int i,.int j] H Q=Q (.int (if i < j then j else i)) H:=rfl
theorem gE(hc:X.calm=true):cn X (.builtin "max") Kt:=by
 refine(yv hc).mono λ xs H Q h=>?_;unfold Kt at h;split at h
 ·rename_i i j;exact⟨i,j,rfl,h⟩
 ·exact h.elim
def Ks(xs:List V)(H:Hp)(Q:VK):Prop:=match xs with
 | [.int i,.int j]=>Q (.int (if j < i then j else i)) H
 | _=>False
theorem IL(i j:Int)(H:Hp)(Q:VK):Ks [.int i,.int j] H Q=Q (.int (if j < i then j else i)) H:=rfl
theorem nM(hc:X.calm=true):cn X (.builtin "min") Ks:=by
 refine(yt hc).mono λ xs H Q h=>?_;unfold Ks at h;split at h
 ·rename_i i j;exact⟨i,j,rfl,h⟩
 ·exact h.elim
def tyO:HO->Option String
 | .lst _=>some "list"
 | .tup _=>some "tuple"
 | .frz _ (.lst _)=>some "list"
 | .dK _=>some "dict"
 | .dT _=>some "dict"
 | _=>none
theorem Dh(xs:List V):tyO (.lst xs)=some "list":=rfl
theorem Dg(xs:List V):tyO (.tup xs)=some "tuple":=rfl
theorem HA(xs:List (Key × V)):tyO (.dK xs)=some "dict":=rfl
def tyN(H:Hp):V->Option String
 | .non=>some "NoneType"
 | .bl _=>some "bool"
 | .int _=>some "int"
 | .str _=>some "str"
 | .ref p=>(H p).bind tyO
 | _=>none
theorem Dk(H:Hp):tyN H .non=some "NoneType":=rfl
theorem HC(H:Hp)(b:Bool):tyN H (.bl b)=some "bool":=rfl
theorem Dl(H:Hp)(i:Int):tyN H (.int i)=some "int":=rfl
theorem Di(H:Hp)(x:Str):tyN H (.str x)=some "str":=rfl
theorem Dj(H:Hp)(p:Addr):tyN H (.ref p)=(H p).bind tyO:=rfl
theorem HB{K:W.Frag}{H:Hp}{x:V}{t:String}(h:tyN H x=some t):qF K H x (.type t):=by
 cases x with
 | non=>cases h;exact .non
 | bl b=>cases h;exact .bl b
 | int i=>cases h;exact .int i
 | str x=>cases h;exact .str x
 | ref p=>
  have h':(H p).bind tyO=some t:=h
  cases e:H p with
  | none=>rw [e] at h';cases h'
  | some o=>
   rw [e] at h';have h2:tyO o=some t:=h'
   cases o with
   | lst xs=>cases h2;exact .lst e
   | tup xs=>cases h2;exact .tup e
   | dK xs=>cases h2;exact .dK e
   | dT xs=>cases h2;exact .dT e
   | frz ob u=>
    cases u with
    | lst xs=>cases h2;exact .frz e
    | _=>cases h2
   | _=>cases h2
 | _=>cases h
def m4:List String:=["NoneType", "bool", "int", "str", "list", "tuple", "dict"]
def Np(t n:String):Bool:=t == n || (t == "bool" && n == "int")
theorem AR(K:W.Frag):∀ t∈m4,∀ n∈m4,W.kitOne K (.type t) (.type n)=some (Np t n):=by
 intro t ht n hn;unfold m4 at ht hn;simp only [mem_cons,not_mem_nil,or_false] at ht hn
 rcases ht with rfl|rfl|rfl|rfl|rfl|rfl|rfl<;>rcases hn with rfl|rfl|rfl|rfl|rfl|rfl|rfl<;>exact yc K _ _ _ (by decide +kernel)
def gP(n:String)(H:Hp)(Q:VK):String->Prop:=λ t=>t∈m4/\Q (.bl (Np t n)) H
def yI(xs:List V)(H:Hp)(Q:VK):Prop:=match xs with
 | [x,.ty n]=>n∈m4/\az (tyN H x) (gP n H Q)
 | _=>False
theorem cJ:cn X (.builtin "isinstance") yI:=by
 refine Bv.mono λ xs H Q h=>?_;unfold yI at h;split at h
 ·rename_i x n;obtain⟨hn,h⟩:=h;obtain⟨t,e,ht,q⟩:=ai h;exact⟨x,n,_,_,rfl,HB e,AR _ t ht n hn,q⟩
 ·exact h.elim
theorem sX(x:V)(H:Hp)(Q:VK):yI [x,.ty "int"] H Q=az (tyN H x) (gP "int" H Q):=by
 unfold yI;exact propext ⟨λ h=>h.2,λ h=>⟨by decide,h⟩⟩
theorem qp(x:V)(H:Hp)(Q:VK):yI [x,.ty "bool"] H Q=az (tyN H x) (gP "bool" H Q):=by
 unfold yI;exact propext ⟨λ h=>h.2,λ h=>⟨by decide,h⟩⟩
theorem oF(x:V)(H:Hp)(Q:VK):yI [x,.ty "tuple"] H Q=az (tyN H x) (gP "tuple" H Q):=by
 unfold yI;exact propext ⟨λ h=>h.2,λ h=>⟨by decide,h⟩⟩
theorem qo(x:V)(H:Hp)(Q:VK):yI [x,.ty "list"] H Q=az (tyN H x) (gP "list" H Q):=by
 unfold yI;exact propext ⟨λ h=>h.2,λ h=>⟨by decide,h⟩⟩
theorem xH(H:Hp)(Q:VK):gP "int" H Q "NoneType"=Q (.bl false) H:=propext ⟨λ h=>h.2,λ h=>⟨by decide,h⟩⟩
theorem xG(H:Hp)(Q:VK):gP "list" H Q "NoneType"=Q (.bl false) H:=propext ⟨λ h=>h.2,λ h=>⟨by decide,h⟩⟩
theorem xF(H:Hp)(Q:VK):gP "tuple" H Q "NoneType"=Q (.bl false) H:=propext ⟨λ h=>h.2,λ h=>⟨by decide,h⟩⟩
theorem xE(H:Hp)(Q:VK):gP "bool" H Q "bool"=Q (.bl true) H:=propext ⟨λ h=>h.2,λ h=>⟨by decide,h⟩⟩
theorem xC(H:Hp)(Q:VK):gP "int" H Q "bool"=Q (.bl true) H:=propext ⟨λ h=>h.2,λ h=>⟨by decide,h⟩⟩
theorem xB(H:Hp)(Q:VK):gP "tuple" H Q "bool"=Q (.bl false) H:=propext ⟨λ h=>h.2,λ h=>⟨by decide,h⟩⟩
theorem xw(H:Hp)(Q:VK):gP "bool" H Q "int"=Q (.bl false) H:=propext ⟨λ h=>h.2,λ h=>⟨by decide,h⟩⟩
theorem xv(H:Hp)(Q:VK):gP "int" H Q "int"=Q (.bl true) H:=propext ⟨λ h=>h.2,λ h=>⟨by decide,h⟩⟩
theorem xu(H:Hp)(Q:VK):gP "list" H Q "int"=Q (.bl false) H:=propext ⟨λ h=>h.2,λ h=>⟨by decide,h⟩⟩
theorem xt(H:Hp)(Q:VK):gP "tuple" H Q "int"=Q (.bl false) H:=propext ⟨λ h=>h.2,λ h=>⟨by decide,h⟩⟩
theorem xo(H:Hp)(Q:VK):gP "int" H Q "str"=Q (.bl false) H:=propext ⟨λ h=>h.2,λ h=>⟨by decide,h⟩⟩
theorem xn(H:Hp)(Q:VK):gP "list" H Q "str"=Q (.bl false) H:=propext ⟨λ h=>h.2,λ h=>⟨by decide,h⟩⟩
theorem xm(H:Hp)(Q:VK):gP "tuple" H Q "str"=Q (.bl false) H:=propext ⟨λ h=>h.2,λ h=>⟨by decide,h⟩⟩
theorem xr(H:Hp)(Q:VK):gP "int" H Q "list"=Q (.bl false) H:=propext ⟨λ h=>h.2,λ h=>⟨by decide,h⟩⟩
theorem xq(H:Hp)(Q:VK):gP "list" H Q "list"=Q (.bl true) H:=propext ⟨λ h=>h.2,λ h=>⟨by decide,h⟩⟩
theorem xp(H:Hp)(Q:VK):gP "tuple" H Q "list"=Q (.bl false) H:=propext ⟨λ h=>h.2,λ h=>⟨by decide,h⟩⟩
theorem xl(H:Hp)(Q:VK):gP "int" H Q "tuple"=Q (.bl false) H:=propext ⟨λ h=>h.2,λ h=>⟨by decide,h⟩⟩
theorem xk(H:Hp)(Q:VK):gP "list" H Q "tuple"=Q (.bl false) H:=propext ⟨λ h=>h.2,λ h=>⟨by decide,h⟩⟩
theorem xj(H:Hp)(Q:VK):gP "tuple" H Q "tuple"=Q (.bl true) H:=propext ⟨λ h=>h.2,λ h=>⟨by decide,h⟩⟩
theorem xA(H:Hp)(Q:VK):gP "int" H Q "dict"=Q (.bl false) H:=propext ⟨λ h=>h.2,λ h=>⟨by decide,h⟩⟩
theorem xy(H:Hp)(Q:VK):gP "list" H Q "dict"=Q (.bl false) H:=propext ⟨λ h=>h.2,λ h=>⟨by decide,h⟩⟩
theorem xx(H:Hp)(Q:VK):gP "tuple" H Q "dict"=Q (.bl false) H:=propext ⟨λ h=>h.2,λ h=>⟨by decide,h⟩⟩
def K5(r:V->List V->Hp->VK->Prop)(x:V)(Q:VK):List V->Hp->Prop:=λ xs H=>r x xs H Q
theorem JD(r:V->List V->Hp->VK->Prop)(x:V)(Q:VK)(xs:List V)(H:Hp):K5 r x Q xs H=r x xs H Q:=rfl
def kBM(K:W.Frag)(T:String)(r:V->List V->Hp->VK->Prop)(t:TA)(σ:St)(Q:VK):VK:=λ x H=>tyV K T x H/\t σ H (K5 r x Q)
theorem LZ(K:W.Frag)(T:String)(r:V->List V->Hp->VK->Prop)(t:TA)(σ:St)(Q:VK)(x:V)(H:Hp):kBM K T r t σ Q x H=(tyV K T x H/\t σ H (K5 r x Q)):=rfl
theorem LB(K:W.Frag)(T:String)(r:V->List V->Hp->VK->Prop)(to:TE)(t:TA)(σ:St)(H:Hp)(Q:VK):tBM K T r to t σ H Q=to σ H (kBM K T r t σ Q):=rfl
def Nj(K:W.Frag)(T:String)(r:V->List V->Hp->VK->Prop)(Q:VK):VK:=λ x H=>tyV K T x H/\r x [] H Q
theorem JC(K:W.Frag)(T:String)(r:V->List V->Hp->VK->Prop)(Q:VK)(x:V)(H:Hp):Nj K T r Q x H=(tyV K T x H/\r x [] H Q):=rfl
theorem IF(K:W.Frag)(T:String)(r:V->List V->Hp->VK->Prop)(to:TE)(σ:St)(H:Hp)(Q:VK):MD K T r to σ H Q=to σ H (Nj K T r Q):=rfl
theorem zw(K:W.Frag)(p:Addr)(H:Hp)(h:(av H p).isSome=true):tyV K "list" (.ref p) H=True:=by
 cases e:av H p with
 | none=>rw [e] at h;cases h
 | some ys=>exact eq_true (.inl ⟨rfl,ys,SqL.of (bf e)⟩)
def Nl(l:Addr)(y:V)(H:Hp)(Q:VK):List V->Prop:=λ xs=>xs.length < sizeLine/\Q .non (upd H l (.lst (xs++[y])))
theorem JH(l:Addr)(y:V)(H:Hp)(Q:VK)(xs:List V):Nl l y H Q xs=(xs.length < sizeLine/\Q .non (upd H l (.lst (xs++[y])))):=rfl
theorem xh(l:Addr)(y:V)(H:Hp)(Q:VK):vw (.ref l) [y] H Q=az (av H l) (Nl l y H Q):=by
 refine propext ⟨λ h=>?_,λ h=>?_⟩
 ·obtain⟨_,xs,_,e1,e2,e3,a,b⟩:=h;cases e1;cases e2;have e:av H l=some xs:=by unfold av;rw [e3];rfl
  rw [e];exact⟨a,b⟩
 ·obtain⟨xs,e,a,b⟩:=ai h;exact⟨l,xs,y,rfl,rfl,bf e,a,b⟩
def Na(l:Addr)(H:Hp)(Q:VK):List V->Prop:=λ xs=>Q .non (upd H l (.lst xs.reverse))
theorem Jd(l:Addr)(H:Hp)(Q:VK)(xs:List V):Na l H Q xs=Q .non (upd H l (.lst xs.reverse)):=rfl
theorem sW(l:Addr)(H:Hp)(Q:VK):rh (.ref l) [] H Q=az (av H l) (Na l H Q):=by
 refine propext ⟨λ h=>?_,λ h=>?_⟩
 ·obtain⟨_,xs,e1,_,e3,b⟩:=h;cases e1;have e:av H l=some xs:=by unfold av;rw [e3];rfl
  rw [e];exact b
 ·obtain⟨xs,e,b⟩:=ai h;exact⟨l,xs,rfl,rfl,bf e,b⟩
def Mc(xs:List V)(H:Hp)(Q:VK):List V->Prop:=λ ys=>xs.length+ys.length<=sizeLine/\∀ p,H p=none->Q (.ref p) (upd H p (.lst (xs++ys)))
def Md(b:Addr)(H:Hp)(Q:VK):List V->Prop:=λ xs=>az (av H b) (Mc xs H Q)
theorem II(l b:Addr)(H:Hp)(Q:VK):ML (.ref l) (.ref b) H Q=az (av H l) (Md b H Q):=by
 refine propext ⟨λ h=>?_,λ h=>?_⟩
 ·obtain⟨l',b',xs,zs,e1,e2,e3,e4,hz,hq⟩:=h;cases e1;cases e2;have e:av H l=some xs:=by unfold av;rw [e3];rfl
  have e':av H b=some zs:=by unfold av;rw [e4];rfl
  rw [e]
  show az (av H b) _
  rw [e'];exact⟨hz,hq⟩
 ·obtain⟨xs,e,q⟩:=ai h;obtain⟨zs,e',a,q⟩:=ai q;exact⟨l,b,xs,zs,rfl,rfl,bf e,bf e',a,q⟩
def CL(p:Addr)(xs:List V)(v:V)(H:Hp)(Q:Hp->Prop):Nat->Prop:=λ j=>Q (upd H p (.lst (xs.set j v)))
theorem EL(p:Addr)(xs:List V)(v:V)(H:Hp)(Q:Hp->Prop)(j:Nat):CL p xs v H Q j=Q (upd H p (.lst (xs.set j v))):=rfl
def MZ(p:Addr)(i:Int)(v:V)(H:Hp)(Q:Hp->Prop):List V->Prop:=λ xs=>az (ixN xs.length i) (CL p xs v H Q)
theorem Ja(p:Addr)(i:Int)(v:V)(H:Hp)(Q:Hp->Prop)(xs:List V):MZ p i v H Q xs=az (ixN xs.length i) (CL p xs v H Q):=rfl
theorem En(p:Addr)(i:Int)(v:V)(H:Hp)(Q:Hp->Prop):GS (.ref p) (.int i) v H Q=az (av H p) (MZ p i v H Q):=by
 refine propext ⟨λ h=>?_,λ h=>?_⟩
 ·obtain⟨_,xs,_,j,e1,e2,e3,e4,b⟩:=h;cases e1;cases e2;have e:av H p=some xs:=by unfold av;rw [e3];rfl
  rw [e]
  show az (ixN xs.length i) _
  rw [e4];exact b
 ·obtain⟨xs,e,q⟩:=ai h;obtain⟨j,e4,q⟩:=ai q;exact⟨p,xs,i,j,rfl,rfl,bf e,e4,q⟩
def uY(t:BK)(o v:V)(σ:St)(Q:St->Hp->Prop):VK:=λ i H=>t o i v H λ H3=>Q σ H3
theorem Aq(t:BK)(o v:V)(σ:St)(Q:St->Hp->Prop)(i:V)(H:Hp):uY t o v σ Q i H=t o i v H (Q σ):=rfl
def B3(ti:TE)(t:BK)(v:V)(σ:St)(Q:St->Hp->Prop):VK:=λ o H=>ti σ H (uY t o v σ Q)
theorem Ar(ti:TE)(t:BK)(v:V)(σ:St)(Q:St->Hp->Prop)(o:V)(H:Hp):B3 ti t v σ Q o H=ti σ H (uY t o v σ Q):=rfl
theorem JM(to ti:TE)(t:BK)(v:V)(σ:St)(H:Hp)(Q:St->Hp->Prop):Nv to ti t v σ H Q=to σ H (B3 ti t v σ Q):=rfl
def kGT(n:Nat)(t:TGs)(σ:St)(H:Hp)(Q:St->Hp->Prop):List V->Prop:=λ xs=>xs.length=n/\t xs σ H Q
theorem LX(n:Nat)(t:TGs)(σ:St)(H:Hp)(Q:St->Hp->Prop)(xs:List V):kGT n t σ H Q xs=(xs.length=n/\t xs σ H Q):=rfl
def qGT(n:Nat)(t:TGs):TG:=λ v σ H Q=>match v with
 | .ref a=>az (iQ H a) (kGT n t σ H Q)
 | _=>False
theorem LD(n:Nat)(t:TGs)(a:Addr)(σ:St)(H:Hp)(Q:St->Hp->Prop):qGT n t (.ref a) σ H Q=az (iQ H a) (kGT n t σ H Q):=rfl
theorem cH{K:W.Frag}{n:Nat}{t:TGs}{v:V}{σ:St}{H:Hp}{Q:St->Hp->Prop}(h:qGT n t v σ H Q):Nu K n t v σ H Q:=by
 unfold qGT at h;split at h
 ·rename_i a;obtain⟨xs,e,hl,q⟩:=ai h;exact⟨a,xs,rfl,SqT.of (qK e),hl,q⟩
 ·exact h.elim
theorem lR:OpR X (compareOp .IsNot) uh:=DM
def oW(tb:TS)(D:qG):St->Hp->Prop:=λ σ H=>tb D σ H
theorem ay(tb:TS)(D:qG)(σ:St)(H:Hp):oW tb D σ H=tb D σ H:=rfl
def Cb(g:TG)(tb:TS)(D:qG)(σ:St)(J:It)(H1:Hp):Prop:=∃ W:Nat->Nat->St->Hp->Prop,(∃ m,W 0 m σ H1)/\∀ i m σ H,W i m σ H →
 (J.stop i H/\D.nx σ H)\/(J.go i H/\∃ N:St->Hp->Prop,(∀ σ' H',N σ' H'->∃ m',m' < m/\W (i+1) m' σ' H')/\∀ x H',J.yld i H x H'->g x σ H' λ σ2 H2=>tb { D with nx:=N,ct:=N,bk:=D.nx } σ2 H2)
theorem ID(wi:TI)(g:TG)(tb:TS)(D:qG)(σ:St)(H:Hp):MB wi g tb D σ H=wi σ H (Cb g tb D σ):=rfl
def kR1(R:It->Hp->Prop):List V->Hp->Prop:=λ vs H=>∃ j:Int,vs=[.int j]/\-(2 ^ 62)<=j/\j < 2 ^ 62/\R (Itr 0 j.toNat) H
theorem LO(R:It->Hp->Prop)(j:Int)(H:Hp):kR1 R [.int j] H=(-(2 ^ 62)<=j/\j < 2 ^ 62/\R (Itr 0 j.toNat) H):=propext ⟨λ ⟨_,e,q⟩=>by cases e;exact q,λ q=>⟨j,rfl,q⟩⟩
theorem Fh(ta:TA)(σ:St)(H:Hp)(R:It->Hp->Prop):Hr ta σ H R=ta σ H (kR1 R):=rfl
def yU(K:W.Frag)(a:Addr)(H:Hp)(R:It->Hp->Prop):HO->Prop:=λ o=>match o with
 | .lst _=>R (Itl K a) H
 | .frz _ (.lst _)=>R (Itl K a) H
 | .tup _=>R (Itt K a) H
 | _=>False
theorem xI(K:W.Frag)(a:Addr)(H:Hp)(R:It->Hp->Prop)(xs:List V):yU K a H R (.lst xs)=R (Itl K a) H:=rfl
def Kg(K:W.Frag)(R:It->Hp->Prop):VK:=λ x H=>match x with
 | .ref a=>az (H a) (yU K a H R)
 | _=>False
theorem Jr(K:W.Frag)(R:It->Hp->Prop)(a:Addr)(H:Hp):Kg K R (.ref a) H=az (H a) (yU K a H R):=rfl
def Nr(K:W.Frag)(tl:TE):TI:=λ σ H R=>tl σ H (Kg K R)
theorem JK(K:W.Frag)(tl:TE)(σ:St)(H:Hp)(R:It->Hp->Prop):Nr K tl σ H R=tl σ H (Kg K R):=rfl
theorem HM{tg l:Expr}{tl:TE}(hl:PE X l tl):PI X tg l (Nr X.K tl):=by
 intro pins s σ H R I h;refine thn (hl pins s σ H _ I h) λ v s1 ⟨x,H1,I1,r1,q1⟩=>?_;unfold Kg at q1;split at q1
 ·rename_i a;cases r1;obtain⟨o,e,q⟩:=ai q1
  have fp:∀ b∈[s1.heap.objs.size],oT X pins H1 b:=λ b hb=>by
   have e:b=s1.heap.objs.size:=by simpa using hb
   subst e;exact I1.fpOk (OC _) (I1.hok.fresh (OC _))
  have lst:∀ xs,SqL X.K H1 a xs->R (Itl X.K a) H1->wpAny (model X.prog X.w) X.A (pyIter (.ref a)) (PIE X pins σ tg R) X.xe s1:=λ xs hq q=>by
   obtain⟨its,rv,p,hz⟩:=I1.list hq;refine Qf p.isList ?_;exact⟨s1.heap.objs.size,[s1.heap.objs.size],_,_,H1,rfl,I1.kept (t':=s1.toks) λ b o e=>Ox _ e,wA a _,⟨_,OD _ rfl,rfl,rfl⟩,fp,q⟩
  unfold yU at q;split at q
  ·exact lst _ (SqL.of e) q
  ·exact lst _ (.inl (.inr ⟨_,e⟩)) q
  ·obtain⟨its,rv,p,hz⟩:=I1.tuple (SqT.of e);refine wpAny_pyIter_tuple (show s1.heap.IsTuple a its.toArray from p) ?_;exact⟨s1.heap.objs.size,[s1.heap.objs.size],_,_,H1,rfl,I1.kept (t':=s1.toks) λ b o e=>Ox _ e,sA a _,⟨_,OD _ rfl,rfl,rfl⟩,fp,q⟩
  ·exact q.elim
 ·exact q1.elim
theorem dS{lo:Int}{n:Nat}{g:TG}{tb:TS}{nx:St->Hp->Prop}{rt:VK}{bk ct:St->Hp->Prop}{σ:St}{H:Hp}(Pv:Nat->St->Hp->Prop)(h0:Pv 0 σ H)
  (hs:∀ i σ H,i < n->Pv i σ H->g (.int (lo+i)) σ H (oW tb ⟨Pv (i+1),rt,nx,Pv (i+1)⟩)) (hd:∀ σ H,Pv n σ H->nx σ H):Cb g tb ⟨nx,rt,bk,ct⟩ σ (Itr lo n) H:=ym Pv h0 hs hd
theorem cw{K:W.Frag}{a:Addr}{xs:List V}{g:TG}{tb:TS}{nx:St->Hp->Prop}{rt:VK}{bk ct:St->Hp->Prop}{σ:St}{H:Hp}(Pv:Nat->St->Hp->Prop)(h0:Pv 0 σ H)(hl:∀ i σ H,i<=xs.length->Pv i σ H->H a=some (.lst xs))
  (hs:∀ i x σ H,xs[i]? = some x->Pv i σ H->g x σ H (oW tb ⟨Pv (i+1),rt,nx,Pv (i+1)⟩)) (hd:∀ σ H,Pv xs.length σ H->nx σ H):Cb g tb ⟨nx,rt,bk,ct⟩ σ (Itl K a) H:=Bo (xs:=xs) Pv h0 (λ i σ H hi p=>SqL.of (hl i σ H hi p)) hs hd
def kWh(tb:TS)(nx:St->Hp->Prop)(rt:VK)(Pv:Nat->St->Hp->Prop)(m:Nat)(σ:St):Bool->Hp->Prop:=λ b H=>if b=true then tb ⟨λ σ' H'=>∃ m',m' < m/\Pv m' σ' H',rt,nx,λ σ' H'=>∃ m',m' < m/\Pv m' σ' H'⟩ σ H else nx σ H
theorem LM(tb:TS)(nx:St->Hp->Prop)(rt:VK)(Pv:Nat->St->Hp->Prop)(m:Nat)(σ:St)(b:Bool)(H:Hp):kWh tb nx rt Pv m σ b H=(if b=true then tb ⟨λ σ' H'=>∃ m',m' < m/\Pv m' σ' H',rt,nx,λ σ' H'=>∃ m',m' < m/\Pv m' σ' H'⟩ σ H else nx σ H):=rfl
theorem Dc{c:TT}{tb:TS}{nx:St->Hp->Prop}{rt:VK}{bk ct:St->Hp->Prop}{σ:St}{H:Hp}(Pv:Nat->St->Hp->Prop)(m0:Nat)(h0:Pv m0 σ H)
  (mono:∀ σ H Q Q',(∀ b H1,Q b H1->Q' b H1)->c σ H Q->c σ H Q')
  (hs:∀ m σ H,Pv m σ H->c σ H (kWh tb nx rt Pv m σ)):ux c tb ⟨nx,rt,bk,ct⟩ σ H:=by
 refine⟨Pv,⟨m0,h0⟩,λ m σ H p=>mono σ H _ _ (λ b H1 q=>?_) (hs m σ H p)⟩;unfold kWh at q
 cases b with
 | true=>exact⟨_,λ σ' H' z=>z,q⟩
 | false=>exact q
end
def kE4(H:Hp)(Q:VK):Bool->Prop:=λ b=>Q (.bl b) H
theorem He(H:Hp)(Q:VK)(b:Bool):kE4 H Q b=Q (.bl b) H:=rfl
def kC3(D:Addr)(ys:List V)(N:List V->Hp->Prop):VK:=λ y H=>H D=some (.lst ys)/\ys.length < sizeLine/\N (ys++[y]) (upd H D (.lst (ys++[y])))
def kC2(te:TE)(σ2:St)(D:Addr)(ys:List V)(N:List V->Hp->Prop):Bool->Hp->Prop:=λ b H=>if b=true then te σ2 H (kC3 D ys N) else N ys H
def kC1(k:Nat)(tt:TT)(te:TE)(σ:St)(D:Addr)(ys:List V)(N:List V->Hp->Prop):St->Hp->Prop:=λ σ2 H=>(∃ vs:St,vs.length=k/\σ2=vs++σ)/\tt σ2 H (kC2 te σ2 D ys N)
theorem Ik(σ:St)(H:Hp)(Q:Bool->Hp->Prop):Mu σ H Q=Q true H:=rfl
def yW(k:Nat)(g:TG)(tt:TT)(te:TE)(σ:St)(Q:VK):It->Hp->Prop:=λ J H1=>∀ D,H1 D=none->∃ W:Nat->Nat->List V->Hp->Prop,(∃ m,W 0 m [] (upd H1 D (.lst [])))/\∀ i m ys H,W i m ys H →
 (J.stop i H/\Q (.ref D) H)\/(J.go i H/\∃ N:List V->Hp->Prop,(∀ ys' H',N ys' H'->∃ m',m' < m/\W (i+1) m' ys' H') /\
  ∀ x H',J.yld i H x H'->g x (List.replicate k none++σ) H' (kC1 k tt te σ D ys N))
theorem Eh(k:Nat)(wi:TI)(g:TG)(tt:TT)(te:TE)(σ:St)(H:Hp)(Q:VK):Cj k wi g tt te σ H Q=wi σ H (yW k g tt te σ Q):=rfl
def Hk(i:Nat)(σ:St)(nx:St->Hp->Prop):VK:=λ x H=>dv i x σ H nx
theorem EI(i:Nat)(σ:St)(nx:St->Hp->Prop)(x:V)(H:Hp):Hk i σ nx x H=dv i x σ H nx:=rfl
theorem Eb(i:Nat)(te:TE)(nx:St->Hp->Prop)(rt:VK)(bk ct:St->Hp->Prop)(σ:St)(H:Hp):GF i te ⟨nx,rt,bk,ct⟩ σ H=te σ H (Hk i σ nx):=rfl
section
variable {k:Nat}{g:TG}{tt:TT}{te:TE}{σ:St}{Q:VK}{H:Hp}{K:PySem.W.Frag}
end
def aW{α:Type}:List (Option α)->Option (List α)
 | []=>some []
 | o::r=>o.bind λ x=>(aW r).map λ xs=>x::xs
def ue(f:V->Option PyData):HO->Option PyData
 | .lst xs=>(aW (xs.map f)).map .list
 | .tup xs=>(aW (xs.map f)).map .tuple
 | _=>none
def cq(H:Hp)(f:V->Option PyData):V->Option PyData
 | .non=>some .none
 | .bl b=>some (.bool b)
 | .int i=>some (.int i)
 | .str z=>if PyData.strOk z=true then some (.str z) else none
 | .ref p=>(H p).bind (ue f)
 | _=>none
def fP(H:Hp):Nat->V->Option PyData
 | 0,_=>none
 | n+1,x=>cq H (fP H n) x
def noD:V->Option PyData:=λ _=>none
theorem JN(H:Hp)(x:V):fP H 6 x=cq H (cq H (cq H (cq H (cq H (cq H noD))))) x:=rfl
theorem tm(H:Hp)(n:Nat)(z:Str):fP H (n+1) (.str z)=if PyData.strOk z=true then some (.str z) else none:=rfl
theorem hV(H:Hp)(n:Nat)(p:Addr):fP H (n+1) (.ref p)=(H p).bind (ue (fP H n)):=rfl
theorem tq(H:Hp)(f:V->Option PyData)(i:Int):cq H f (.int i)=some (.int i):=rfl
theorem fA(H:Hp)(f:V->Option PyData)(p:Addr):cq H f (.ref p)=(H p).bind (ue f):=rfl
theorem fz(f:V->Option PyData)(xs:List V):ue f (.lst xs)=(aW (xs.map f)).map .list:=rfl
theorem fw(f:V->Option PyData)(xs:List V):ue f (.tup xs)=(aW (xs.map f)).map .tuple:=rfl
theorem mC{α:Type}:aW ([]:List (Option α))=some []:=rfl
theorem fN{α:Type}(x:α)(r:List (Option α)):aW (some x::r)=(aW r).map λ xs=>x::xs:=rfl
theorem fe(H:Hp)(f:V->Option PyData):∀ ns:List Int,aW ((ns.map V.int).map (cq H f))=some (ns.map PyData.int)
 | []=>rfl
 | i::r=>by
  show (aW ((r.map V.int).map (cq H f))).map _=_
  rw [fe H f r];rfl
theorem lV{K:W.Frag}{H:Hp}{n:Nat}(ih:∀ x d,fP H n x=some d->lh K H x d/\d.canLay0=true/\d.depth<=n):∀ (xs:List V) (ds:List PyData),aW (xs.map (fP H n))=some ds->iR K H xs ds/\PyData.canLayAll0 ds=true/\PyData.depthAll ds<=n
 | [],ds,h=>by cases h;exact⟨.nil,rfl,PD _⟩
 | x::xs,ds,h=>by
  have h':(fP H n x).bind (λ d=>(aW (xs.map (fP H n))).map λ ds=>d::ds)=some ds:=h
  cases e:fP H n x with
  | none=>rw [e] at h';cases h'
  | some d=>
   rw [e] at h';have h2:(aW (xs.map (fP H n))).map (λ ds=>d::ds)=some ds:=h'
   cases e2:aW (xs.map (fP H n)) with
   | none=>rw [e2] at h2;cases h2
   | some es=>
    rw [e2] at h2;cases h2;obtain⟨a,b,c⟩:=ih x d e;obtain⟨a',b',c'⟩:=lV ih xs es e2;exact⟨.cons a a',by simp [PyData.canLayAll0,b,b'],by simp only [PyData.depthAll];omega⟩
theorem i8{K:W.Frag}{H:Hp}:∀ (n:Nat) (x:V) (d:PyData),fP H n x=some d->lh K H x d/\d.canLay0=true/\d.depth<=n
 | 0,x,d,h=>by cases h
 | n+1,x,d,h=>by
  cases x with
  | non=>cases h;exact⟨.non,rfl,PD _⟩
  | bl b=>cases h;exact⟨.bl b,rfl,PD _⟩
  | int i=>cases h;exact⟨.int i,rfl,PD _⟩
  | str z=>
   rw [tm] at h;split at h
   ·rename_i hz;cases h;exact⟨.str z,by simpa [PyData.canLay0] using hz,PD _⟩
   ·cases h
  | ref p=>
   rw [hV] at h
   cases e:H p with
   | none=>rw [e] at h;cases h
   | some o=>
    rw [e] at h;have h':ue (fP H n) o=some d:=h
    cases o with
    | lst xs=>
     rw [fz] at h'
     cases e2:aW (xs.map (fP H n)) with
     | none=>rw [e2] at h';cases h'
     | some ds=>
      rw [e2] at h';cases h';obtain⟨a,b,c⟩:=lV (K:=K) (i8 n) xs ds e2;exact⟨.lst (SqL.of e) a,by simpa [PyData.canLay0] using b,by simp only [PyData.depth];omega⟩
    | tup xs=>
     rw [fw] at h'
     cases e2:aW (xs.map (fP H n)) with
     | none=>rw [e2] at h';cases h'
     | some ds=>
      rw [e2] at h';cases h';obtain⟨a,b,c⟩:=lV (K:=K) (i8 n) xs ds e2;exact⟨.tup (SqT.of e) a,by simpa [PyData.canLay0] using b,by simp only [PyData.depth];omega⟩
    | _=>cases h'
  | _=>cases h
theorem ee{K:W.Frag}{H:Hp}{n:Nat}{x:V}{d:PyData}(hn:n<=64)(h:fP H n x=some d):lh K H x d/\SeqAt.shaped d=true:=by
 obtain⟨a,b,c⟩:=i8 (K:=K) n x d h;refine⟨a,?_⟩;unfold SeqAt.shaped;rw [b,decide_eq_true (show d.depth<=64 by omega)];rfl
def Kh(neg:Bool)(H:Hp)(Q:VK)(d:PyData):PyData->Prop:=λ e=>Q (.bl (if neg=true then !PyData.eqv d e else PyData.eqv d e)) H
theorem As(H:Hp)(Q:VK)(d e:PyData):Kh true H Q d e=Q (.bl (!PyData.eqv d e)) H:=rfl
theorem Au(H:Hp)(Q:VK)(d e:PyData):Kh false H Q d e=Q (.bl (PyData.eqv d e)) H:=rfl
def KS(neg:Bool)(y:V)(H:Hp)(Q:VK):PyData->Prop:=λ d=>az (fP H 6 y) (Kh neg H Q d)
theorem Jt(neg:Bool)(y:V)(H:Hp)(Q:VK)(d:PyData):KS neg y H Q d=az (fP H 6 y) (Kh neg H Q d):=rfl
def qEq(neg:Bool):R2:=λ x y H Q=>if Gu x y=true then Q (.bl (if neg=true then !decide (x=y) else decide (x=y))) H else az (fP H 6 x) (KS neg y H Q)
theorem sY(neg:Bool)(p:Addr)(x:V)(H:Hp)(Q:VK):qEq neg x (.ref p) H Q=az (fP H 6 x) (KS neg (.ref p) H Q):=by
 show (if Gu x (.ref p)=true then _ else _)=_
 rw [O2 (by cases x<;>exact OP)]
theorem mB(i:Int)(j:Int)(H:Hp)(Q:VK):qEq false (V.int i) (V.int j) H Q=Q (.bl (decide (i=j))) H:=by
 have e:decide (((V.int i):V)=(V.int j))=decide (i=j):=by simp
 show Q (.bl (if false=true then !decide ((V.int i)=(V.int j)) else decide ((V.int i)=(V.int j)))) H=_
 rw [e];rfl
theorem mz(i:Int)(j:Int)(H:Hp)(Q:VK):qEq true (V.int i) (V.int j) H Q=Q (.bl (!decide (i=j))) H:=by
 have e:decide (((V.int i):V)=(V.int j))=decide (i=j):=by simp
 show Q (.bl (if true=true then !decide ((V.int i)=(V.int j)) else decide ((V.int i)=(V.int j)))) H=_
 rw [e];rfl
theorem qm(i:Bool)(j:Bool)(H:Hp)(Q:VK):qEq true (V.bl i) (V.bl j) H Q=Q (.bl (!decide (i=j))) H:=by
 have e:decide (((V.bl i):V)=(V.bl j))=decide (i=j):=by simp
 show Q (.bl (if true=true then !decide ((V.bl i)=(V.bl j)) else decide ((V.bl i)=(V.bl j)))) H=_
 rw [e];rfl
theorem my(i:Str)(j:Str)(H:Hp)(Q:VK):qEq true (V.str i) (V.str j) H Q=Q (.bl (!decide (i=j))) H:=by
 have e:decide (((V.str i):V)=(V.str j))=decide (i=j):=by simp
 show Q (.bl (if true=true then !decide ((V.str i)=(V.str j)) else decide ((V.str i)=(V.str j)))) H=_
 rw [e];rfl
section
variable {X:Cx}
theorem dH(hu:X.A.units+64 < cLine):OpR X (compareOp .Eq) (qEq false):=by
 refine(Lm.or (Ig hu)).mono λ x y H Q h=>?_;unfold qEq at h;split at h
 ·rename_i hs;exact .inl ⟨hs,h⟩
 obtain⟨d,e1,h⟩:=ai h;obtain⟨e,e2,h⟩:=ai h;obtain⟨a,b⟩:=ee (K:=X.K) (by decide) e1;obtain⟨a',b'⟩:=ee (K:=X.K) (by decide) e2;exact .inr ⟨d,e,a,a',b,b',h⟩
theorem cS(hu:X.A.units+64 < cLine):OpR X (compareOp .NotEq) (qEq true):=by
 refine(Lj.or (Ic hu)).mono λ x y H Q h=>?_;unfold qEq at h;split at h
 ·rename_i hs;exact .inl ⟨hs,h⟩
 obtain⟨d,e1,h⟩:=ai h;obtain⟨e,e2,h⟩:=ai h;obtain⟨a,b⟩:=ee (K:=X.K) (by decide) e1;obtain⟨a',b'⟩:=ee (K:=X.K) (by decide) e2;exact .inr ⟨d,e,a,a',b,b',h⟩
end
theorem FR(i j:Int):PyData.eqv (.int i) (.int j)=decide (i=j):=Bool.beq_eq_decide_eq i j
theorem dM(xs ys:List PyData):PyData.eqv (.tuple xs) (.tuple ys)=PyData.eqvAll xs ys:=by simp only [PyData.eqv]
theorem Bs(xs ys:List PyData):PyData.eqv (.list xs) (.list ys)=PyData.eqvAll xs ys:=by simp only [PyData.eqv]
theorem cz:PyData.eqvAll [] []=true:=by simp only [PyData.eqvAll]
theorem bx(x y:PyData)(xs ys:List PyData):PyData.eqvAll (x::xs) (y::ys)=(PyData.eqv x y && PyData.eqvAll xs ys):=by simp only [PyData.eqvAll]
theorem lU(x:PyData)(xs:List PyData):PyData.eqvAll (x::xs) []=false:=by simp only [PyData.eqvAll]
theorem Bt(x:PyData)(xs:List PyData):PyData.eqvAll [] (x::xs)=false:=by simp only [PyData.eqvAll]
theorem cZ:∀ ns ms:List Int,PyData.eqvAll (ns.map PyData.int) (ms.map PyData.int)=decide (ns=ms)
 | [],[]=>by rw [Si,cz];rfl
 | [],_::_=>by rw [Si,PB,Bt];rfl
 | _::_,[]=>by rw [Si,PB,lU];rfl
 | i::r,j::t=>by
  rw [PB,PB,bx,FR,cZ r t]
  by_cases h:i=j<;>by_cases h2:r=t<;>simp [h,h2]
theorem Gk(i j:Int):Lb i j=(0 < j/\j < 1073741824):=rfl
theorem J4(i j:Int)(h:-18446744073709551616 < j)(h':j < 18446744073709551616):mK i j=True:=eq_true (.inr ⟨by omega,by omega⟩)
theorem Gj(j:Int):La 10 j=(0<=j/\j<=1000000):=propext ⟨λ h=>⟨h.1,h.2.1⟩,λ h=>⟨h.1,h.2,by decide⟩⟩
theorem Hg(n:Nat)(h:n<=1000):(n<=sizeLine)=True:=eq_true (Q9 (nk h))
theorem L0(n:Nat)(h:n<=1000):(n < sizeLine)=True:=eq_true (nk h)
theorem Ext.of{H H':Hp}(h:∀ a,(H a).isSome=true->H' a=H a):Ext H H':=⟨h,λ K a xs q=>by
 have s:mN H H':=λ b o e=>(h b (by rw [e];rfl)).trans e;exact s.seq q⟩
theorem Ext.same{H H':Hp}(h:Ext H H'):mN H H':=λ b o e=>(h.1 b (by rw [e];rfl)).trans e
theorem mN.ext{H H':Hp}(h:mN H H'):Ext H H':=Ext.of λ a q=>by
 cases e:H a with
 | none=>rw [e] at q;cases q
 | some o=>exact h a o e
theorem Ext.refl(H:Hp):Ext H H:=(mN.refl H).ext
theorem Ext.trans{H H1 H2:Hp}(a:Ext H H1)(b:Ext H1 H2):Ext H H2:=(a.same.trans b.same).ext
theorem Ext.new{H:Hp}{p:Addr}{o:HO}(h:H p=none):Ext H (upd H p o):=(zE h).ext
theorem Ext.put{H H1:Hp}{p:Addr}{o:HO}(a:Ext H H1)(h:H p=none):Ext H (upd H1 p o):=mN.ext λ b u e=>by
 rw [af (bW e h)];exact a.same b u e
theorem Ext.free{H H1:Hp}{p:Addr}(a:Ext H H1)(h:H1 p=none):H p=none:=a.same.free h
theorem Ext.at{H H1:Hp}{p:Addr}{o:HO}(a:Ext H H1)(h:H p=some o):H1 p=some o:=a.same _ _ h
theorem vE{xs:List V}{i:Int}{k:V->Prop}(h0:0<=i)(h1:i < xs.length)(h:∀ v∈xs,k v):az (atI xs i) k:=by
 obtain⟨v,e,m⟩:=B8 xs i h0 h1;rw [e];exact h v m
theorem Od(CX:CXT)(P:Program)(w:World)(K:W.Frag)(mg:Str->Option Value)(base:Heap)(N:List Str)(qual:Str)(scope:Scope)(f:Addr)(cd:Value)(A:Around)(outer:List Env)(s:Shared)(H:Hp)(E:XK):(Cc CX P w K mg base N qual scope f cd A outer s H E).K=K:=rfl
theorem gL:∀ {a b:List Char},a.map Char.toNat=b.map Char.toNat->a=b
 | [],[],_=>rfl
 | [],_::_,h=>by cases h
 | _::_,[],h=>by cases h
 | x::r,y::q,h=>by
  simp only [PB,RT] at h
  have e:x=y:=by
   have z:x.val.toNat=y.val.toNat:=h.1;exact Char.ext (UInt32.toNat_inj.mp z)
  rw [e,gL h.2]
theorem oC(a b:String):(Str.ofString a=Str.ofString b)=(a=b):=by
 refine propext ⟨λ h=>?_,λ h=>by rw [h]⟩;rw [Str.ofString_eq_toList,Str.ofString_eq_toList] at h;have e:(a.toList.map Char.toNat).toArray=(b.toList.map Char.toNat).toArray:=Qk Str.cps h;have e2:=gL (Qk Array.toList e);exact String.ext e2
def isW(H:Hp):V->Option Bool
 | .int _=>some true
 | .bl _=>some false
 | .non=>some false
 | .str _=>some false
 | .ref p=>((H p).bind tyO).map λ _=>false
 | _=>none
theorem AX(H:Hp)(i:Int):isW H (.int i)=some true:=rfl
theorem Fz(H:Hp)(i:Bool):isW H (.bl i)=some false:=rfl
theorem AW(H:Hp):isW H .non=some false:=rfl
theorem AV(H:Hp)(i:Str):isW H (.str i)=some false:=rfl
theorem fj(H:Hp)(p:Addr):isW H (.ref p)=((H p).bind tyO).map λ _=>false:=rfl
theorem gR{H:Hp}{p:Addr}{b:Bool}(h:isW H (.ref p)=some b):b=false/\∃ o,H p=some o/\(tyO o=some "list" \/ tyO o=some "tuple" \/ tyO o=some "dict"):=by
 rw [fj] at h
 cases e:H p with
 | none=>rw [e] at h;cases h
 | some o=>
  rw [e] at h;have h':(tyO o).map (λ _=>false)=some b:=h
  cases e2:tyO o with
  | none=>rw [e2] at h';cases h'
  | some t=>
   rw [e2] at h';cases h';refine⟨rfl,o,rfl,?_⟩
   cases o with
   | lst xs=>exact .inl rfl
   | tup xs=>exact .inr (.inl rfl)
   | dK xs=>exact .inr (.inr rfl)
   | dT xs=>exact .inr (.inr rfl)
   | frz ob u=>cases u with
    | lst xs=>exact .inl rfl
    | _=>cases e2
   | _=>cases e2
def ME(t:TE):Prop:=∀ σ H (Q Q':VK),(∀ v H,Q v H->Q' v H)->t σ H Q->t σ H Q'
def MT(t:TT):Prop:=∀ σ H (Q Q':Bool->Hp->Prop),(∀ b H,Q b H->Q' b H)->t σ H Q->t σ H Q'
def MA(t:TA):Prop:=∀ σ H (Q Q':List V->Hp->Prop),(∀ b H,Q b H->Q' b H)->t σ H Q->t σ H Q'
def MR(r:R2):Prop:=∀ x y H (Q Q':VK),(∀ v H,Q v H->Q' v H)->r x y H Q->r x y H Q'
theorem cV{α:Type}{o:Option α}{k k':α->Prop}(m:∀ x,k x->k' x)(h:az o k):az o k':=by
 obtain⟨x,e,q⟩:=ai h;rw [e];exact m x q
theorem uT{i:Nat}:ME (J5 i):=λ σ H Q Q' m ⟨v,e,q⟩=>⟨v,e,m _ _ q⟩
theorem MS{v:V}:ME (tC v):=λ σ H Q Q' m q=>m _ _ q
theorem Hd{r:R2}{a b:TE}(hr:MR r)(ha:ME a)(hb:ME b):ME (tOp r a b):=λ σ H Q Q' m q=>ha σ H _ _ (λ _ _ q=>hb σ _ _ _ (λ _ _ q=>hr _ _ _ _ _ m q) q) q
theorem rn:MR uh:=λ x y H Q Q' m ⟨e,q⟩=>⟨e,m _ _ q⟩
theorem BY{n:Bool}:MR (qEq n):=λ x y H Q Q' m q=>by
 unfold qEq at q ⊢
 by_cases hs:Gu x y=true
 ·rw [Pd hs] at q ⊢;exact m _ _ q
 ·rw [O2 hs] at q ⊢;exact cV (λ _ q=>cV (λ _ q=>m _ _ q) q) q
theorem BZ:MA Gs:=λ σ H Q Q' m q=>m _ _ q
theorem pI{t:TE}(h:ME t):MT (Ci t):=λ σ H Q Q' m q=>h σ H _ _ (λ _ _ ⟨k,e,q⟩=>⟨k,e,m _ _ q⟩) q
theorem vk{c:TT}{tb:TS}{nx:St->Hp->Prop}{rt:VK}{bk ct:St->Hp->Prop}{σ:St}{H:Hp}(mono:MT c)(Pv:Nat->St->Hp->Prop)(m0:Nat)(h0:Pv m0 σ H)
  (hs:∀ m σ H,Pv m σ H->c σ H (kWh tb nx rt Pv m σ)):ux c tb ⟨nx,rt,bk,ct⟩ σ H:=Dc Pv m0 h0 (λ σ H Q Q'=>mono σ H Q Q') hs
theorem fk:∀ {ns ms:List Int},ns.map V.int=ms.map V.int->ns=ms
 | [],[],_=>rfl
 | [],_::_,h=>by cases h
 | _::_,[],h=>by cases h
 | i::r,j::t,h=>by
  simp only [PB,RT,V.int.injEq] at h;rw [h.1,fk h.2]
def dP(F:List Int->Prop):List V->Prop:=λ xs=>∃ ns,xs=ns.map V.int/\F ns
theorem EU(F:List Int->Prop)(ns:List Int):dP F (ns.map V.int)=F ns:=propext ⟨λ ⟨ms,e,h⟩=>by rw [fk e];exact h,λ h=>⟨ns,rfl,h⟩⟩
theorem gA{xs:List V}{i:Int}{k:V->Prop}(P:Int->Prop)(h0:0<=i)(h1:i < xs.length)(hx:∀ v∈xs,∃ j,v=.int j/\P j)(h:∀ j,P j->k (.int j)):az (atI xs i) k:=vE h0 h1 λ v hv=>by
 obtain⟨j,rfl,hj⟩:=hx v hv;exact h j hj
theorem BI(i j:Int)(h:i.natAbs < 2 ^ 256)(h':j.natAbs < 2 ^ 256):CW i j=True:=eq_true ⟨h,h'⟩
theorem lX(xs:List V)(z:Int)(h:0<=z):jU xs none (some z)=xs.take z.toNat:=by
 unfold jU;rw [HT.sIx_none,List.drop_zero,Nat.sub_zero];obtain⟨n,rfl⟩:=Int.eq_ofNat_of_zero_le h;rw [HT.sIx_nat]
 show _=xs.take n
 rcases Sl n xs.length with q|q
 ·rw [QO q]
 ·rw [RI q,Qt (OC _),Qt q]
def NZ(lo hi:Option Int)(H:Hp)(Q:VK):List V->Prop:=λ xs=>∀ p,H p=none->Q (.ref p) (upd H p (.lst (jU xs lo hi)))
def MN:V->Option Int->Option Int->Hp->VK->Prop:=λ x lo hi H Q=>match x with
 | .ref a=>az (av H a) (NZ lo hi H Q)
 | _=>False
theorem NH{X:Cx}:SlR X MN:=Dq.mono λ x lo hi H Q h=>by
 unfold MN at h;split at h
 ·rename_i a;obtain⟨xs,e,q⟩:=ai h;exact⟨a,xs,rfl,SqL.of (bf e),q⟩
 ·exact h.elim
def KC(r:V->Option Int->Option Int->Hp->VK->Prop)(x:V)(l:Option Int)(Q:VK):Option Int->Hp->Prop:=λ u H=>r x l u H Q
theorem IX(r:V->Option Int->Option Int->Hp->VK->Prop)(x:V)(l:Option Int)(Q:VK)(u:Option Int)(H:Hp):KC r x l Q u H=r x l u H Q:=rfl
def KD(r:V->Option Int->Option Int->Hp->VK->Prop)(th:TO)(σ:St)(x:V)(Q:VK):Option Int->Hp->Prop:=λ l H=>th σ H (KC r x l Q)
theorem IZ(r:V->Option Int->Option Int->Hp->VK->Prop)(th:TO)(σ:St)(x:V)(Q:VK)(l:Option Int)(H:Hp):KD r th σ x Q l H=th σ H (KC r x l Q):=rfl
def MY(r:V->Option Int->Option Int->Hp->VK->Prop)(tl th:TO)(σ:St)(Q:VK):VK:=λ x H=>tl σ H (KD r th σ x Q)
theorem I0(r:V->Option Int->Option Int->Hp->VK->Prop)(tl th:TO)(σ:St)(Q:VK)(x:V)(H:Hp):MY r tl th σ Q x H=tl σ H (KD r th σ x Q):=rfl
theorem Lu(r:V->Option Int->Option Int->Hp->VK->Prop)(te:TE)(tl th:TO)(σ:St)(H:Hp)(Q:VK):tSl r te tl th σ H Q=te σ H (MY r tl th σ Q):=rfl
theorem xf(σ:St)(H:Hp)(Q:Option Int->Hp->Prop):vm σ H Q=Q none H:=rfl
def Hl(Q:Option Int->Hp->Prop):VK:=λ x H=>∃ i,x=.int i/\Q (some i) H
theorem EN(Q:Option Int->Hp->Prop)(i:Int)(H:Hp):Hl Q (.int i) H=Q (some i) H:=propext ⟨λ ⟨_,e,q⟩=>by cases e;exact q,λ q=>⟨i,rfl,q⟩⟩
theorem Ec(t:TE)(σ:St)(H:Hp)(Q:Option Int->Hp->Prop):GG t σ H Q=t σ H (Hl Q):=rfl
def iF(o:HO)(H:Hp)(Q:VK):Prop:=∀ (p:Addr) (H':Hp),H p=none->Ext H H'->H' p=some o->Q (.ref p) H'
theorem iF.to{o:HO}{H:Hp}{Q:VK}(h:iF o H Q):∀ p,H p=none->Q (.ref p) (upd H p o):=λ p hp=>h p _ hp (Ext.new hp) aq
def kQT(Q:VK):List V->Hp->Prop:=λ xs H=>xs.length<=sizeLine/\iF (.tup xs) H Q
theorem LP(Q:VK)(xs:List V)(H:Hp):kQT Q xs H=(xs.length<=sizeLine/\iF (.tup xs) H Q):=rfl
def kQL(Q:VK):List V->Hp->Prop:=λ xs H=>xs.length<=sizeLine/\iF (.lst xs) H Q
theorem LQ(Q:VK)(xs:List V)(H:Hp):kQL Q xs H=(xs.length<=sizeLine/\iF (.lst xs) H Q):=rfl
def MM(t:TA):TE:=λ σ H Q=>t σ H (kQT Q)
theorem IJ(t:TA)(σ:St)(H:Hp)(Q:VK):MM t σ H Q=t σ H (kQT Q):=rfl
def Ku(t:TA):TE:=λ σ H Q=>t σ H (kQL Q)
theorem IP(t:TA)(σ:St)(H:Hp)(Q:VK):Ku t σ H Q=t σ H (kQL Q):=rfl
section
variable {X:Cx}{es:List Expr}{t:TA}{pos:Pos}
theorem DD{x1}(h:PA X es t):PE X (.Tuple es x1 pos) (MM t):=by
 intro pins s σ H Q I hq;refine wpAny_Tuple_spliced (thn (h pos pins s σ H _ I hq) λ us s1 ⟨xs,H1,I1,r,z,q⟩=>⟨by rw [←r.length];exact z,?_⟩);have hf:H1 s1.heap.objs.size=none:=I1.hok.fresh (OC _);refine⟨.ref s1.heap.objs.size,upd H1 s1.heap.objs.size (.tup xs),I1.laid (t':=s1.toks) (λ b u e=>Ox _ e) (OC _) ?_,rfl,q.to _ hf⟩;exact⟨z,us,r,⟨_,OD _ rfl,rfl,_,rfl⟩⟩
theorem DE(h:PA X es t):PE X (.List es pos) (Ku t):=by
 intro pins s σ H Q I hq;refine wpAny_List_spliced (thn (h pos pins s σ H _ I hq) λ us s1 ⟨xs,H1,I1,r,z,q⟩=>⟨by rw [←r.length];exact z,?_⟩);have hf:H1 s1.heap.objs.size=none:=I1.hok.fresh (OC _);refine⟨.ref s1.heap.objs.size,upd H1 s1.heap.objs.size (.lst xs),I1.laid (t':=s1.toks) (λ b u e=>Ox _ e) (OC _) ?_,rfl,q.to _ hf⟩;exact⟨z,us,0,r,OD _ rfl⟩
end
def kN(f:List V->HO)(H:Hp)(Q:VK):List V->Prop:=λ ys=>iF (f ys) H Q
theorem NW(f:List V->HO)(H:Hp)(Q:VK)(ys:List V):kN f H Q ys=iF (f ys) H Q:=rfl
def CF(xs:List V)(H:Hp)(Q:VK):Prop:=match xs with
 | [.ref p]=>az (cL H p) (kN .lst H Q)
 | _=>False
theorem Ez(p:Addr)(H:Hp)(Q:VK):CF [.ref p] H Q=az (cL H p) (kN .lst H Q):=rfl
theorem fC{X:Cx}:cn X (.type "list") CF:=tP.mono λ xs H Q h=>by
 unfold CF at h;split at h
 ·exact cV (λ _ q=>q.to) h
 ·exact h.elim
def kNT(p:Addr)(H:Hp)(Q:VK):HO->Prop:=λ o=>match o with
 | .lst ys=>iF (.tup ys) H Q
 | .tup _=>Q (.ref p) H
 | _=>False
theorem ER(p:Addr)(H:Hp)(Q:VK)(ys:List V):kNT p H Q (.lst ys)=iF (.tup ys) H Q:=rfl
def uQ(xs:List V)(H:Hp)(Q:VK):Prop:=match xs with
 | [.ref p]=>az (H p) (kNT p H Q)
 | _=>False
theorem Ag(p:Addr)(H:Hp)(Q:VK):uQ [.ref p] H Q=az (H p) (kNT p H Q):=rfl
theorem gk{X:Cx}:cn X (.type "tuple") uQ:=qy.mono λ xs H Q h=>by
 unfold uQ at h;split at h
 ·refine cV (λ o q=>?_) h;unfold kNT at q;unfold CI;split at q
  ·exact q.to
  ·exact q
  ·exact q.elim
 ·exact h.elim
def Ke(xs:List V)(H:Hp)(Q:VK):List V->Prop:=λ ys=>xs.length+ys.length<=sizeLine/\iF (.lst (xs++ys)) H Q
theorem Jj(xs:List V)(H:Hp)(Q:VK)(ys:List V):Ke xs H Q ys=(xs.length+ys.length<=sizeLine/\iF (.lst (xs++ys)) H Q):=rfl
def KN(b:Addr)(H:Hp)(Q:VK):List V->Prop:=λ xs=>az (av H b) (Ke xs H Q)
theorem Jk(b:Addr)(H:Hp)(Q:VK)(xs:List V):KN b H Q xs=az (av H b) (Ke xs H Q):=rfl
def Ka:R2:=λ x y H Q=>match x,y with
 | .ref l,.ref b=>az (av H l) (KN b H Q)
 | _,_=>False
theorem B1(l b:Addr)(H:Hp)(Q:VK):Ka (.ref l) (.ref b) H Q=az (av H l) (KN b H Q):=rfl
theorem bJ{X:Cx}:OpR X (binaryOp .Add) Ka:=Ih.mono λ x y H Q h=>by
 unfold Ka at h;split at h
 ·rw [II];exact cV (λ _ q=>cV (λ _ q=>⟨q.1,q.2.to⟩) q) h
 ·exact h.elim
def kNS(lo hi:Option Int)(H:Hp)(Q:VK):List V->Prop:=λ xs=>iF (.lst (jU xs lo hi)) H Q
theorem LU(lo hi:Option Int)(H:Hp)(Q:VK)(xs:List V):kNS lo hi H Q xs=iF (.lst (jU xs lo hi)) H Q:=rfl
def nSl:V->Option Int->Option Int->Hp->VK->Prop:=λ x lo hi H Q=>match x with
 | .ref a=>az (av H a) (kNS lo hi H Q)
 | _=>False
theorem LF(a:Addr)(lo hi:Option Int)(H:Hp)(Q:VK):nSl (.ref a) lo hi H Q=az (av H a) (kNS lo hi H Q):=rfl
theorem oR{X:Cx}:SlR X nSl:=NH.mono λ x lo hi H Q h=>by
 unfold nSl at h;split at h
 ·exact cV (λ _ q=>q.to) h
 ·exact h.elim
theorem PE.mono{X:Cx}{e:Expr}{t t':TE}(h:PE X e t)(m:∀ σ H Q,t' σ H Q->t σ H Q):PE X e t':=λ pins s σ H Q I q=>h pins s σ H Q I (m _ _ _ q)
def Hb:TE:=λ _ H Q=>iF (.dK []) H Q
theorem EA(σ:St)(H:Hp)(Q:VK):Hb σ H Q=iF (.dK []) H Q:=rfl
theorem iH{X:Cx}{pos:Pos}:PE X (.Dict [] [] pos) Hb:=zR.mono λ _ _ _ h=>h.to
section
variable {prog:Program}{w:World}{A:Around}{E:Value->Shared->Prop}{s:Shared}
end
section
variable {X:Cx}{pos:Pos}
end
def Itv(K:W.Frag)(a:Addr)(xs:List V):It:=
 ⟨λ i H=>SqL K H a xs/\i < xs.length,λ i H x H'=>H'=H/\xs[xs.length - 1 - i]? = some x,λ i _=>i=xs.length⟩
theorem zy{P:Program}{w:World}{K:W.Frag}{tg:Expr}(a it:Addr)(xs:List V):yK P w K tg (Itv K a xs) [it] it (λ i h=>i<=xs.length/\h.IsRevIter it a ((xs.length:Int) - 1 - (i:Int))) where
 mem:=by simp
 obj:=λ i h st b hb=>by
  have e:b=it:=by simpa using hb
  subst e;obtain⟨_,o,e,c,d⟩:=st;exact⟨o,e,λ v z=>by rw [d] at z;cases z⟩
 keep:=λ i h h' st k=>⟨st.1,st.2.at λ o e=>k it (by simp) o e⟩
 item:=by
  intro X hP hw hK hc i pins s σ H E I hf st hg;subst hP hw hK;obtain⟨hq,hlt⟩:=hg;obtain⟨its,rv,p,hz⟩:=I.list hq;have hx:xs[xs.length - 1 - i]? = some (xs[xs.length - 1 - i]'(by omega)):=Ow (by omega);obtain⟨u,hu,ru⟩:=rv.get hx;obtain⟨f0,f1,f2,f3,f4,f5⟩:=hf it (by simp);have st1:=st.2;rw [show ((xs.length:Int) - 1 - (i:Int))=((xs.length - 1 - i:Nat):Int) by omega] at st1;refine wpAny_pyNext_rev_item st1 p.isList (x:=u) (by simpa using hu) λ h' st' sb=>?_;have I1:Inv X pins σ H { s with heap:=h' }:=I.turned (t':=s.toks) (λ b o hb e=>(sb.2 b hb).trans e) f0 f1 f3 f4 f5;obtain⟨o,e,c,d⟩:=id st';rw [show (((xs.length - 1 - i:Nat):Int) - 1)=(xs.length:Int) - 1 - ((i+1:Nat):Int) by omega] at st';exact⟨u,rfl,yZ (s:={ s with heap:=h' }) e c d (by decide) ⟨_,H,I1,ru,⟨rfl,hx⟩,⟨hlt,st'⟩,λ b hb=>(hf b hb).1⟩⟩
 done:=by
  intro X hP hw hK hc i pins s σ H E I hf st hg;subst hP hw hK;have e:i=xs.length:=hg;subst e;obtain⟨f0,f1,f2,f3,f4,f5⟩:=hf it (by simp);have st1:=st.2;rw [show ((xs.length:Int) - 1 - (xs.length:Int))=-1 by omega] at st1;exact wpAny_pyNext_rev_end (I.ok.hd hc) st1 λ h' eb=>⟨rfl,I.turned (t':=s.toks) (λ b o hb e=>eb b o hb e) f0 f1 f3 f4 f5⟩
 self:=λ _ _ _ _ _ st h=>wpAny_pyIter_revIter st.2 h
def KG(K:W.Frag)(a:Addr)(H:Hp)(R:It->Hp->Prop):List V->Prop:=λ xs=>R (Itv K a xs) H
theorem Jb(K:W.Frag)(a:Addr)(H:Hp)(R:It->Hp->Prop)(xs:List V):KG K a H R xs=R (Itv K a xs) H:=rfl
def Kb(K:W.Frag)(R:It->Hp->Prop):List V->Hp->Prop:=λ vs H=>match vs with
 | [.ref a]=>az (av H a) (KG K a H R)
 | _=>False
theorem Jc(K:W.Frag)(R:It->Hp->Prop)(a:Addr)(H:Hp):Kb K R [.ref a] H=az (av H a) (KG K a H R):=rfl
def Nt(K:W.Frag)(ta:TA):TI:=λ σ H R=>ta σ H (Kb K R)
theorem JL(K:W.Frag)(ta:TA)(σ:St)(H:Hp)(R:It->Hp->Prop):Nt K ta σ H R=ta σ H (Kb K R):=rfl
section
variable {X:Cx}{tg:Expr}
theorem HN{a:Expr}{ta:TA}{p pos:Pos}(hg:Gl X "reversed")(hm:X.mg "reversed"=none)(ha:PA X [a] ta)(hs:starEach [a] X.env=[(false,eval a X.env)]:=by rfl):PI X tg (.Call (.Name "reversed" p) [a] [] pos) (Nt X.K ta):=by
 intro pins s σ H R I h;refine Call_ (dJ I hg hm (show bootBuiltins "reversed"=some (.type "reversed") by decide +kernel) (PyProof.Rows.callWith_type1 (thn (ha pos pins s σ H _ I h) λ us s1 ⟨vs,H1,I1,r1,q1⟩=>?_) hs rfl));unfold Kb at q1;split at q1
 ·rename_i b;obtain⟨xs,e,q⟩:=ai q1
  cases r1 with
  | cons r rr=>
   cases rr;cases r;obtain⟨its,rv,pl,hz⟩:=I1.list (SqL.of (bf e));refine call_reversed_list pl.isList ?_;have hsz:(its.toArray.size:Int)=(xs.length:Int):=by rw [←rv.length.symm];simp
   have I2:Inv X pins σ H1 { s1 with heap:=s1.heap.push (revObj b ((its.toArray.size:Int) - 1)) }:=I1.kept (t':=s1.toks) λ b o e=>Ox _ e;have hit:(s1.heap.push (revObj b ((its.toArray.size:Int) - 1))).IsRevIter s1.heap.objs.size b ((xs.length:Int) - 1 - ((0:Nat):Int)):=⟨_,OD _ rfl,rfl,by rw [hsz];simp [revObj]⟩;refine wpAny_pyIter_revIter hit ⟨s1.heap.objs.size,[s1.heap.objs.size],_,_,H1,rfl,I2,zy b _ xs,⟨PD _,hit⟩,λ c hb=>?_,q⟩;have e:c=s1.heap.objs.size:=by simpa using hb
   subst e;exact I1.fpOk (OC _) (I1.hok.fresh (OC _))
 ·exact q1.elim
end
theorem FQ{K:W.Frag}{a:Addr}{xs:List V}{g:TG}{tb:TS}{nx:St->Hp->Prop}{rt:VK}{bk ct:St->Hp->Prop}{σ:St}{H:Hp}(Pv:Nat->St->Hp->Prop)(h0:Pv 0 σ H)(hl:∀ i σ H,i<=xs.length->Pv i σ H->SqL K H a xs)
  (hs:∀ i x σ H,i < xs.length->xs[xs.length - 1 - i]? = some x->Pv i σ H->g x σ H (oW tb ⟨Pv (i+1),rt,nx,Pv (i+1)⟩)) (hd:∀ σ H,Pv xs.length σ H->nx σ H):Cb g tb ⟨nx,rt,bk,ct⟩ σ (Itv K a xs) H:=by
 refine⟨λ i m σ H=>m=xs.length - i/\i<=xs.length/\Pv i σ H,⟨xs.length,by simp,PD _,h0⟩,?_⟩;rintro i m σ H ⟨rfl,hi,p⟩;have q:=hl i σ H hi p
 by_cases hlt:i < xs.length
 ·refine .inr ⟨⟨q,hlt⟩,Pv (i+1),λ σ' H' p'=>⟨xs.length - (i+1),by omega,rfl,hlt,p'⟩,λ x H' y=>?_⟩;obtain⟨e,y⟩:=y;subst e;exact hs i x σ _ hlt y p
 ·have e:i=xs.length:=by omega
  subst e;exact .inl ⟨rfl,hd σ H p⟩
theorem jy:∀ (n:Nat) (ns:List Int) (val:Nat->Int),(∀ i,val i=ns.getD i 0)->n<=ns.length->preSum val n=(ns.take n).sum
 | 0,ns,val,h,hl=>by simp [preSum]
 | n+1,ns,val,h,hl=>by
  have ih:=jy n ns val h (by omega)
  have e:ns.take (n+1)=ns.take n++[ns.getD n 0]:=by
   rw [R1,Ow (by omega)];simp [List.getD,Ow (show n < ns.length by omega)]
  rw [preSum,ih,e,List.sum_append,h];simp
def CJ(H:Hp)(Q:VK):List Int->Prop:=λ ns=>Q (.int ns.sum) H
theorem EG(H:Hp)(Q:VK)(ns:List Int):CJ H Q ns=Q (.int ns.sum) H:=rfl
def Kr:List V->Hp->VK->Prop:=λ vs H Q=>match vs with
 | [.ref p]=>az (av H p) (dP (CJ H Q))
 | _=>False
theorem IK(p:Addr)(H:Hp)(Q:VK):Kr [.ref p] H Q=az (av H p) (dP (CJ H Q)):=rfl
def K4(F:List Bool->Prop):List V->Prop:=λ xs=>∃ bs,xs=bs.map V.bl/\F bs
theorem vU:∀ {ns ms:List Bool},ns.map V.bl=ms.map V.bl->ns=ms
 | [],[],_=>rfl
 | [],_::_,h=>by cases h
 | _::_,[],h=>by cases h
 | i::r,j::t,h=>by
  simp only [PB,RT,V.bl.injEq] at h;rw [h.1,vU h.2]
theorem JB(F:List Bool->Prop)(bs:List Bool):K4 F (bs.map V.bl)=F bs:=propext ⟨λ ⟨ms,e,h⟩=>by rw [vU e];exact h,λ h=>⟨bs,rfl,h⟩⟩
def CU(H:Hp)(Q:VK):List Bool->Prop:=λ bs=>Q (.bl (bs.all id)) H
theorem Ff(H:Hp)(Q:VK)(bs:List Bool):CU H Q bs=Q (.bl (bs.all id)) H:=rfl
def Kw:List V->Hp->VK->Prop:=λ vs H Q=>match vs with
 | [.ref p]=>az (av H p) (K4 (CU H Q))
 | _=>False
theorem IS(p:Addr)(H:Hp)(Q:VK):Kw [.ref p] H Q=az (av H p) (K4 (CU H Q)):=rfl
section
variable {X:Cx}
theorem gD(hc:X.calm=true):cn X (.builtin "sum") Kr:=by
 intro pins s σ H vs us Q I r h;unfold Kr at h;split at h
 ·rename_i p;obtain⟨xs,e,ns,rfl,q⟩:=ai h
  cases r with
  | cons r rr=>
   cases rr;cases r;obtain⟨its,rv,pl,hz⟩:=I.list (SqL.of (bf e));have hlt:p < s.heap.objs.size:=by obtain⟨_,e,_⟩:=pl.isList;exact OA e
   have hlen:its.length=ns.length:=by have:=rv.length;simpa using this.symm
   refine call_sum_walkAnyS (Qf pl.isList ⟨s.heap.objs.size,_,_,_,_,_,_,λ i=>ns.getD i 0,rfl,(Sa (show X.A.in1.handled=none from I.ok.hd hc) _ p (OS hlt) its.toArray).toS,⟨⟨_,OD _ rfl,rfl,rfl⟩,pl.isList.push _⟩,λ b hb=>?_,λ i v hP=>?_,λ s' t' hm=>?_⟩)
   ·rw [O5]
    rcases OU.mp hb with rfl|hb
    ·exact PL _
    ·rw [OE.mp hb];exact QX hlt
   ·have hv:its[i]? = some v:=by simpa using hP
    have hi:i < ns.length:=by rw [←hlen];exact(Oy.mp hv).1
    obtain⟨u,hu,ru⟩:=rv.get (i:=i) (x:=.int (ns.getD i 0)) (by rw [OL,Ow hi];simp [List.getD,Ow hi]);rw [hv] at hu;cases hu;exact ru
   ·obtain⟨hp,g,d,tk,os⟩:=s'
    have kp:∀ b o,s.heap.get? b=some o->hp.get? b=some o:=λ b o e=>hm.heap b o (λ hmem=>by
     have:b=s.heap.objs.size:=by simpa using hmem
     subst this;exact absurd (OA e) (Pk _)) (Ox _ e)
    have e1:g=s.gens:=hm.gens;have e2:d=s.drawn:=hm.drawn;have e3:os=s.os:=hm.os;subst e1 e2 e3;refine⟨.int ns.sum,H,I.kept (t':=tk) kp,?_,q⟩;have es:=jy its.toArray.size ns (λ i=>ns.getD i 0) (λ _=>rfl) (by simp [hlen]);rw [show its.toArray.size=ns.length by simp [hlen],P6] at es;rw [show its.toArray.size=ns.length by simp [hlen],es];exact⟨t',rfl⟩
 ·exact h.elim
theorem yH(bs:List Bool):(List.range bs.length).all (λ i=>bs.getD i false)=bs.all id:=by
 rw [PZ,Qi,Qi];refine⟨λ h x hx=>?_,λ h i hi=>?_⟩
 ·obtain⟨i,hi,e⟩:=Qw hx;have:=h i (Py.mpr hi)
  simpa [List.getD,Ow hi,e] using this
 ·have hi':=Py.mp hi;have:=h (bs[i]) (P7 hi')
  simpa [List.getD,Ow hi'] using this
theorem gF(hc:X.calm=true):cn X (.builtin "all") Kw:=by
 intro pins s σ H vs us Q I r h;unfold Kw at h;split at h
 ·rename_i p;obtain⟨xs,e,bs,rfl,q⟩:=ai h
  cases r with
  | cons r rr=>
   cases rr;cases r;obtain⟨its,rv,pl,hz⟩:=I.list (SqL.of (bf e));have hlt:p < s.heap.objs.size:=by obtain⟨_,e,_⟩:=pl.isList;exact OA e
   have hlen:its.length=bs.length:=by have:=rv.length;simpa using this.symm
   refine call_all_walk (Qf pl.isList ⟨s.heap.objs.size,_,_,_,_,_,λ i=>bs.getD i false,rfl,Sa (show X.A.in1.handled=none from I.ok.hd hc) _ p (OS hlt) its.toArray,⟨⟨_,OD _ rfl,rfl,rfl⟩,pl.isList.push _⟩,λ i v s' Q' E' hP hQ=>?_,λ h' tk hk=>?_⟩)
   ·have hv:its[i]? = some v:=by simpa using hP
    have hi:i < bs.length:=by rw [←hlen];exact(Oy.mp hv).1
    obtain⟨u,hu,ru⟩:=rv.get (i:=i) (x:=.bl (bs.getD i false)) (by rw [OL,Ow hi];simp [List.getD,Ow hi]);rw [hv] at hu;cases hu;have e2:v=.bool (bs.getD i false):=ru;subst e2;exact P8 hQ
   ·have kp:∀ b o,s.heap.get? b=some o->h'.get? b=some o:=λ b o e=>hk b o (λ hmem=>by
     have:b=s.heap.objs.size:=by simpa using hmem
     subst this;exact absurd (OA e) (Pk _)) (Ox _ e)
    refine⟨.bl (bs.all id),H,I.kept (t':=tk) kp,?_,q⟩;rw [show its.toArray.size=bs.length by simp [hlen],yH];exact rfl
 ·exact h.elim
end
structure Src(prog:Program)(w:World)(it:Addr)(fr:List Addr)(st:Nat->Heap->Prop)(val:Nat->Option Value):Prop where
 mem:it∈fr
 there:∀ k h,st k h->∀ b∈fr,∃ o,h.get? b=some o
 keep:∀ k h h',st k h->(∀ b∈fr,∀ o,h.get? b=some o->h'.get? b=some o)->st k h'
 item:∀ (A:Around) k s v (Q:Value->Shared->Prop) (E:Value->Shared->Prop),st k s.heap->val k=some v->(∀ h',st (k+1) h'->Heap.SameBut it s.heap h'->Q v { s with heap:=h' })->wpAny (model prog w) A (Builtin.SmallTypes.nextOf (.ref it)) Q E s
 fin:∀ (A:Around) k s (Q:Value->Shared->Prop) (E:Value->Shared->Prop),A.handled=none->st k s.heap->val k=none->(∀ h' e,Heap.ExtBut it s.heap h'->(∃ o,h'.get? e=some o/\o.cls=.type "StopIteration")->E (.ref e) { s with heap:=h' })->wpAny (model prog w) A (Builtin.SmallTypes.nextOf (.ref it)) Q E s
theorem zA{prog:Program}{w:World}(it l:Addr)(hne:l ≠ it)(xs:Array Value):Src prog w it [it,l] (λ k h=>h.IsListIter it l k/\h.IsList l xs) (λ k=>xs[k]?) where
 mem:=ON
 there:=λ k h st b hb=>by
  rcases OU.mp hb with e|hb
  ·obtain⟨o,q,_⟩:=st.1;exact⟨o,by rw [e];exact q⟩
  ·obtain⟨o,q,_⟩:=st.2;exact⟨o,by rw [OE.mp hb];exact q⟩
 keep:=λ k h h' st q=>⟨st.1.at λ o e=>q it (by simp) o e,st.2.at λ o e=>q l (by simp) o e⟩
 item:=λ A k s v Q E st hv hQ=>wpAny_nextOf_list_item st.1 st.2 hv λ h' a b=>hQ h' ⟨a,st.2.extBut b.extBut hne⟩ b
 fin:=λ A k s Q E hh st hv hE=>wpAny_nextOf_list_end hh st.1 st.2 hv hE
section
variable {prog:Program}{w:World}{A:Around}{E:Value->Shared->Prop}{s:Shared}
theorem mw{j t:Addr}{k:Nat}{xs:Array Value}{v:Value}{Q:Value->Shared->Prop}(hj:s.heap.IsTupleIter j t k)(ht:s.heap.IsTuple t xs)(hv:xs[k]? = some v)
  (hQ:∀ g,g.IsTupleIter j t (k+1)->Heap.SameBut j s.heap g->Q v { s with heap:=g }):wpAny (model prog w) A (Builtin.SmallTypes.nextOf (.ref j)) Q E s:=by
 obtain⟨oj,h0,h1,h2⟩:=id hj;obtain⟨ot,g0,_,n,g1⟩:=ht;unfold Builtin.SmallTypes.nextOf;refine wpAny_bind (wpAny_callSpecial?_slot (name:=Str.ofString "__next__") hj.typeIs F.slot_tuple_iterator_next (wpAny_call_entry F.slot_tuple_iterator_next hj.typeIs F.entry_tuple_iterator_next ?_ (F.args_tuple_iterator_next_1 _)));refine wpAny_bind (m:=field (.ref j) 0) (wpAny_field h0 h2 (x:=.ref t) rfl ?_)
 show wpAny _ _ (if (Value.ref t == Value.none)=true then _ else _) _ _ _
 rw [O2 (show ¬ ((.ref t:Value) == .none)=true from OP)];refine My (m:=field (.ref j) 1) (Pb h0 h2 (x:=.int k 0) rfl ?_);refine My (m:=seqItems? (.ref t)) (OZ g0 g1 ?_);simp only [OI,hv];refine My (wpAny_setField h0 h2 (by simp) (Oz ⟨v,rfl,Oz (hQ _ ⟨_,Pf _ h0 (Obj.isFreed_of_fields (Obj.data_mapFields h2 _)),(Obj.cls_mapFields ..).trans h1,?_⟩ (Sv ..))⟩));rw [Obj.data_mapFields h2];simp [rawInt]
theorem oE{j t:Addr}{k:Nat}{xs:Array Value}{Q:Value->Shared->Prop}(hh:A.handled=none)(hj:s.heap.IsTupleIter j t k)(ht:s.heap.IsTuple t xs)(hv:xs[k]? = none)
  (hE:∀ g e,Heap.ExtBut j s.heap g->(∃ o,g.get? e=some o/\o.cls=.type "StopIteration")->E (.ref e) { s with heap:=g }):wpAny (model prog w) A (Builtin.SmallTypes.nextOf (.ref j)) Q E s:=by
 obtain⟨oj,h0,h1,h2⟩:=id hj;obtain⟨ot,g0,_,n,g1⟩:=ht;unfold Builtin.SmallTypes.nextOf;refine wpAny_bind (wpAny_callSpecial?_slot (name:=Str.ofString "__next__") hj.typeIs F.slot_tuple_iterator_next (wpAny_call_entry F.slot_tuple_iterator_next hj.typeIs F.entry_tuple_iterator_next ?_ (F.args_tuple_iterator_next_1 _)));refine wpAny_bind (m:=field (.ref j) 0) (wpAny_field h0 h2 (x:=.ref t) rfl ?_)
 show wpAny _ _ (if (Value.ref t == Value.none)=true then _ else _) _ _ _
 rw [O2 (show ¬ ((.ref t:Value) == .none)=true from OP)];refine My (m:=field (.ref j) 1) (Pb h0 h2 (x:=.int k 0) rfl ?_);refine My (m:=seqItems? (.ref t)) (OZ g0 g1 ?_);simp only [OI,hv];refine My (Rj (My (wpAny_setField h0 h2 (by simp) (My (m:=newExc (.type "StopIteration") []) ?_))));simp only [newExc,newTuple];refine My (P9 (My (m:=firstArgMember _ _) (wpAny_of_eq (a:=Value.none) (by first|rfl|(simp only [firstArgMember];rfl)) (P9 ?_ (by size_fits)))) (by size_fits));simp only [raiseNew]
 refine My (wpAny_handled ?_);first|rw [show A.in1.handled=none from hh]|rw [hh]
 exact My (Oz (wpAny_throw (hE _ _ (((Sv ..).extBut.push _).push _) ⟨_,OD _ rfl,rfl⟩)))
theorem Dp(it l:Addr)(hne:l ≠ it)(xs:Array Value):Src prog w it [it,l] (λ k h=>h.IsTupleIter it l k/\h.IsTuple l xs) (λ k=>xs[k]?) where
 mem:=ON
 there:=λ k h st b hb=>by
  rcases OU.mp hb with e|hb
  ·obtain⟨o,q,_⟩:=st.1;exact⟨o,by rw [e];exact q⟩
  ·obtain⟨o,q,_⟩:=st.2;exact⟨o,by rw [OE.mp hb];exact q⟩
 keep:=λ k h h' st q=>⟨st.1.at λ o e=>q it (by simp) o e,st.2.at λ o e=>q l (by simp) o e⟩
 item:=λ A k s v Q E st hv hQ=>mw st.1 st.2 hv λ h' a b=>hQ h' ⟨a,st.2.extBut b.extBut hne⟩ b
 fin:=λ A k s Q E hh st hv hE=>oE hh st.1 st.2 hv hE
structure eE(z TI TO i j:Addr)(f g:List Addr):Prop where
 ti:TI ≠ z/\TI ≠ TO/\TI ≠ i/\TI ≠ j
 zt:z ≠ TO
 zf:z ∉ f
 zg:z ∉ g
 tf:TO ∉ f
 tg:TO ∉ g
 ig:i ∉ g
 jf:j ∉ f
variable {z TI TO i j:Addr}{f g:List Addr}{ti tj:Nat->Heap->Prop}{vi vj:Nat->Option Value}{k m:Nat}{x y a b:Value}
theorem aZ{p q:Addr}{l:List Addr}(hp:p∈l)(hq:q ∉ l):p ≠ q:=λ e=>hq (e ▸ hp)
theorem Src.but{prog:Program}{w:World}{it:Addr}{fr:List Addr}{st:Nat->Heap->Prop}{val:Nat->Option Value}(S:Src prog w it fr st val){k:Nat}{c:Addr}{h h':Heap}(q:st k h)(e:Heap.ExtBut c h h')(hc:c ∉ fr):st k h':=
 S.keep k h h' q λ b hb o ho=>e b o (aZ hb hc) ho
theorem wt(S:Src prog w i f ti vi)(T:Src prog w j g tj vj)(D:eE z TI TO i j f g){Q:Value->Shared->Prop}
  (hz:IsZip s.heap z TI TO .none) (hTI:IsPair s.heap TI (.ref i) (.ref j)) (hTO:IsPair s.heap TO a b) (hi:ti k s.heap) (hj:tj m s.heap) (hx:vi k=some x) (hy:vj m=some y)
  (hQ:∀ h',IsZip h' z TI TO (rawInt s.heap.objs.size)->IsPair h' TO x y->ti (k+1) h'->tj (m+1) h'->IsPair h' s.heap.objs.size x y->h'.objs.size=s.heap.objs.size+1->(∀ c o,c ∉ [z,TO,i,j]->s.heap.get? c=some o->h'.get? c=some o)->Q (.ref s.heap.objs.size) { s with heap:=h' }) :
  wpAny (model prog w) A (Builtin.«zip.__next__» ⟨[.ref z],[]⟩) (λ fin s'=>∃ v,fin=.done (.ret v)/\Q v s') E s:=by
 have iz:i ≠ z:=aZ S.mem D.zf;have jz:j ≠ z:=aZ T.mem D.zg;have iTO:i ≠ TO:=aZ S.mem D.tf;have jTO:j ≠ TO:=aZ T.mem D.tg;have ij:i ≠ j:=aZ S.mem D.jf;refine wpAny_bind (m:=field (.ref z) 2) (wpAny_field hz rfl (x:=.bool false) rfl ?_);refine wpAny_bind (m:=field (.ref z) 3) (wpAny_field hz rfl (x:=.ref TI) rfl (wpAny_bind (wpAny_seqItems hTI rfl ?_)));refine wpAny_bind (m:=Builtin.SmallTypes.ownedTupleIsFree (.ref z)) ?_;unfold Builtin.SmallTypes.ownedTupleIsFree;refine wpAny_bind (wpAny_field hz rfl (x:=.none) rfl (wpAny_pure ?_));simp only [if_true];refine wpAny_bind (wpAny_rule (wpAny_bind (wpAny_field hz rfl (x:=.ref TO) rfl (wpAny_bind (wpAny_setField_rec hz (by simp) λ q1 z1 s1=>?_)))));replace z1:IsZip q1 z TI TO .ellipsis:=z1;refine wpAny_bind ?_;simp only [List.zipIdx_cons,List.zipIdx_nil,forIn_cons,forIn_nil];refine wpAny_bind (wpAny_bind (wpAny_onRaise (wpAny_bind (m:=Builtin.SmallTypes.nextOf (.ref i)) (S.item _ k _ x _ _ (S.but hi s1.extBut D.zf) hx λ q2 i2 s2=>wpAny_pure ?_))));have o2:IsPair q2 TO a b:=s2.extBut _ _ iTO.symm (s1.extBut _ _ D.zt.symm hTO);refine wpAny_bind (wpAny_seqItems o2 rfl (wpAny_bind (wpAny_updateSeq_pair o2 λ q3 o3 s3=>wpAny_bind (wpAny_letGo (wpAny_pure ?_)))));replace o3:IsPair q3 TO x b:=o3;have j3:tj m q3:=T.but (T.but (T.but hj s1.extBut D.zg) s2.extBut D.ig) s3.extBut D.tg;refine wpAny_bind (wpAny_bind (wpAny_onRaise (wpAny_bind (m:=Builtin.SmallTypes.nextOf (.ref j)) (T.item _ m _ y _ _ j3 hy λ q4 j4 s4=>wpAny_pure ?_))));have o4:IsPair q4 TO x b:=s4.extBut _ _ jTO.symm o3;refine wpAny_bind (wpAny_seqItems o4 rfl (wpAny_bind (wpAny_updateSeq_pair o4 λ q5 o5 s5=>wpAny_bind (wpAny_letGo (wpAny_pure (wpAny_pure ?_))))));replace o5:IsPair q5 TO x y:=o5;refine wpAny_bind (wpAny_seqItems o5 rfl (wpAny_bind (wpAny_newTuple ?_)));have sz:q5.objs.size=s.heap.objs.size:=by rw [s5.1,s4.1,s3.1,s2.1,s1.1]
 have z5:IsZip q5 z TI TO .ellipsis:=s5.extBut _ _ D.zt (s4.extBut _ _ jz.symm (s3.extBut _ _ D.zt (s2.extBut _ _ iz.symm z1)))
 have k5:∀ c o,c ∉ [z,TO,i,j]->s.heap.get? c=some o->q5.get? c=some o:=λ c o hc e=>by
  simp only [OU,OJ,O6,QU] at hc;exact s5.extBut _ _ hc.2.1 (s4.extBut _ _ hc.2.2.2 (s3.extBut _ _ hc.2.1 (s2.extBut _ _ hc.2.2.1 (s1.extBut _ _ hc.1 e))))
 have i5:ti (k+1) q5:=S.but (S.but (S.but i2 s3.extBut D.tf) s4.extBut D.jf) s5.extBut D.tf;have j5:tj (m+1) q5:=T.but j4 s5.extBut D.tg;have zlt:z < q5.objs.size:=Heap.lt_size z5;refine wpAny_bind (m:=Builtin.SmallTypes.ownedTupleHandOut (.ref z) (.ref q5.objs.size)) ?_;unfold Builtin.SmallTypes.ownedTupleHandOut;have z6:IsZip (q5.push { cls:=.type "tuple",data:=.seq #[x,y] }) z TI TO .ellipsis:=Heap.get?_push_of_some _ z5;refine wpAny_bind (wpAny_setField_rec z6 (by simp) λ q7 z7 s7=>?_);replace z7:IsZip q7 z TI TO (rawInt q5.objs.size):=z7;refine wpAny_setField_rec z7 (by simp) λ q8 z8 s8=>?_;replace z8:IsZip q8 z TI TO (rawInt q5.objs.size):=z8;have up:∀ c o,c ≠ z->q5.get? c=some o->q8.get? c=some o:=λ c o hc e=>s8.extBut _ _ hc (s7.extBut _ _ hc (Heap.get?_push_of_some _ e));have t8:IsPair q8 q5.objs.size x y:=s8.extBut _ _ (Nat.ne_of_gt zlt) (s7.extBut _ _ (Nat.ne_of_gt zlt) (Heap.get?_push_size _ rfl));have n8:q8.objs.size=q5.objs.size+1:=by rw [s8.1,s7.1,Heap.size_push]
 rw [sz] at z8 t8 n8;refine Oz ⟨_,rfl,?_⟩
 show Q (.ref q5.objs.size) _
 rw [sz];exact hQ q8 z8 (up _ _ D.zt.symm o5) (S.keep _ _ _ i5 λ c hc o e=>up c o (aZ hc D.zf) e) (T.keep _ _ _ j5 λ c hc o e=>up c o (aZ hc D.zg) e) t8 n8 λ c o hc e=>up c o (λ q=>hc (by simp [q])) (k5 c o hc e)
theorem zr(hh:A.handled=none)(S:Src prog w i f ti vi)(T:Src prog w j g tj vj)(D:eE z TI TO i j f g){Q:Fin->Shared->Prop}
  (hz:IsZip s.heap z TI TO .none) (hTI:IsPair s.heap TI (.ref i) (.ref j)) (hTO:IsPair s.heap TO a b) (hi:ti k s.heap) (hj:tj m s.heap) (hxy:vi k=none\/vj m=none)
  (hE:∀ h' e,(∀ c o,c ∉ [z,TO,i,j]->s.heap.get? c=some o->h'.get? c=some o)->(∃ o,h'.get? e=some o/\o.cls=.type "StopIteration")->E (.ref e) { s with heap:=h' }) :
  wpAny (model prog w) A (Builtin.«zip.__next__» ⟨[.ref z],[]⟩) Q E s:=by
 have iz:i ≠ z:=aZ S.mem D.zf;have jz:j ≠ z:=aZ T.mem D.zg;have iTO:i ≠ TO:=aZ S.mem D.tf;have jTO:j ≠ TO:=aZ T.mem D.tg;refine wpAny_bind (m:=field (.ref z) 2) (wpAny_field hz rfl (x:=.bool false) rfl ?_);refine wpAny_bind (m:=field (.ref z) 3) (wpAny_field hz rfl (x:=.ref TI) rfl (wpAny_bind (wpAny_seqItems hTI rfl ?_)));refine wpAny_bind (m:=Builtin.SmallTypes.ownedTupleIsFree (.ref z)) ?_;unfold Builtin.SmallTypes.ownedTupleIsFree;refine wpAny_bind (wpAny_field hz rfl (x:=.none) rfl (wpAny_pure ?_));simp only [if_true];refine wpAny_bind (wpAny_rule (wpAny_bind (wpAny_field hz rfl (x:=.ref TO) rfl (wpAny_bind (wpAny_setField_rec hz (by simp) λ q1 z1 s1=>?_)))));replace z1:IsZip q1 z TI TO .ellipsis:=z1;refine wpAny_bind ?_;simp only [List.zipIdx_cons,List.zipIdx_nil,forIn_cons,forIn_nil];refine wpAny_bind (wpAny_bind (wpAny_onRaise (wpAny_bind (m:=Builtin.SmallTypes.nextOf (.ref i)) ?_)))
 cases hx:vi k with
 | none=>
  refine S.fin _ k _ _ _ hh (S.but hi s1.extBut D.zf) hx λ q2 e s2 ⟨oe,he,hce⟩=>?_;have z2:IsZip q2 z TI TO .ellipsis:=s2 _ _ iz.symm z1;have ez:e ≠ z:=λ q=>by subst q;rw [z2] at he;cases he;simp at hce
  refine Pg z2 (by simp) λ q3 _ s3=>hE q3 e (λ c o hc q=>?_) ⟨oe,s3.extBut _ _ ez he,hce⟩;simp only [OU,OJ,O6,QU] at hc;exact s3.extBut _ _ hc.1 (s2 _ _ hc.2.2.1 (s1.extBut _ _ hc.1 q))
 | some x=>
  have hy:vj m=none:=hxy.resolve_left (by rw [hx];exact Rk x);refine S.item _ k _ x _ _ (S.but hi s1.extBut D.zf) hx λ q2 i2 s2=>Oz ?_;have o2:IsPair q2 TO a b:=s2.extBut _ _ iTO.symm (s1.extBut _ _ D.zt.symm hTO);refine My (OZ o2 rfl (My (Sb o2 λ q3 o3 s3=>My (PV (Oz ?_)))));have j3:tj m q3:=T.but (T.but (T.but hj s1.extBut D.zg) s2.extBut D.ig) s3.extBut D.tg;refine My (My (Ql (My (m:=Builtin.SmallTypes.nextOf (.ref j)) (T.fin _ m _ _ _ hh j3 hy λ q4 e s4 ⟨oe,he,hce⟩=>?_))));have z4:IsZip q4 z TI TO .ellipsis:=s4 _ _ jz.symm (s3.extBut _ _ D.zt (s2.extBut _ _ iz.symm z1));have ez:e ≠ z:=λ q=>by subst q;rw [z4] at he;cases he;simp at hce
  refine Pg z4 (by simp) λ q5 _ s5=>hE q5 e (λ c o hc q=>?_) ⟨oe,s5.extBut _ _ ez he,hce⟩;simp only [OU,OJ,O6,QU] at hc;exact s5.extBut _ _ hc.1 (s4 _ _ hc.2.2.2 (s3.extBut _ _ hc.2.1 (s2.extBut _ _ hc.2.2.1 (s1.extBut _ _ hc.1 q))))
theorem fJ(S:Src prog w i f ti vi)(T:Src prog w j g tj vj)(D:eE z TI TO i j f g){Q:Option Value->Shared->Prop}
  (hz:IsZip s.heap z TI TO .none) (hTI:IsPair s.heap TI (.ref i) (.ref j)) (hTO:IsPair s.heap TO a b) (hi:ti k s.heap) (hj:tj m s.heap) (hx:vi k=some x) (hy:vj m=some y)
  (hQ:∀ h',IsZip h' z TI TO (rawInt s.heap.objs.size)->IsPair h' TO x y->ti (k+1) h'->tj (m+1) h'->IsPair h' s.heap.objs.size x y->h'.objs.size=s.heap.objs.size+1->(∀ c o,c ∉ [z,TO,i,j]->s.heap.get? c=some o->h'.get? c=some o)->Q (some (.ref s.heap.objs.size)) { s with heap:=h' }) :
  wpAny (model prog w) A (pyNext (.ref z)) Q E s:=by
 have ty:s.TypeIs (.ref z) "zip":=⟨_,hz,rfl⟩;unfold pyNext;exact wpAny_bind (wpAny_attempt (wpAny_callSpecial?_slot (name:=Str.ofString "__next__") ty F.slot_zip_next (wpAny_call_entry F.slot_zip_next ty F.entry_zip_next (wt S T D hz hTI hTO hi hj hx hy λ h' c1 c2 c3 c4 c5 c6 c7=>wpAny_pure (hQ h' c1 c2 c3 c4 c5 c6 c7)) (F.args_zip_next_1 _))))
theorem gH(hh:A.handled=none)(S:Src prog w i f ti vi)(T:Src prog w j g tj vj)(D:eE z TI TO i j f g){Q:Option Value->Shared->Prop}
  (hz:IsZip s.heap z TI TO .none) (hTI:IsPair s.heap TI (.ref i) (.ref j)) (hTO:IsPair s.heap TO a b) (hi:ti k s.heap) (hj:tj m s.heap) (hxy:vi k=none\/vj m=none)
  (hQ:∀ h',(∀ c o,c ∉ [z,TO,i,j]->s.heap.get? c=some o->h'.get? c=some o)->Q none { s with heap:=h' }):wpAny (model prog w) A (pyNext (.ref z)) Q E s:=by
 have ty:s.TypeIs (.ref z) "zip":=⟨_,hz,rfl⟩;unfold pyNext;refine wpAny_bind (wpAny_attempt (wpAny_callSpecial?_slot (name:=Str.ofString "__next__") ty F.slot_zip_next (wpAny_call_entry F.slot_zip_next ty F.entry_zip_next (zr (show A.in1.handled=none from hh) S T D hz hTI hTO hi hj hxy λ h' e kp he=>?_) (F.args_zip_next_1 _))));obtain⟨o,ho,hc⟩:=he;exact wpAny_bind (wpAny_isInstance (T := "StopIteration") (b:=true) ⟨o,ho,hc⟩ isSubtype_stop (wpAny_pure (hQ _ kp)))
end
def SeqAt(h:Heap)(k:Bool)(l:Addr)(xs:Array Value):Prop:=match k with
 | true=>h.IsTuple l xs
 | false=>h.IsList l xs
def bb(h:Heap)(k:Bool)(it l:Addr)(n:Nat):Prop:=match k with
 | true=>h.IsTupleIter it l n
 | false=>h.IsListIter it l n
def j8(k:Bool)(l:Addr):Obj:=match k with
 | true=>{ cls:=.type "tuple_iterator",data:=.fields #[.ref l,.int 0 0] }
 | false=>{ cls:=.type "list_iterator",data:=.fields #[.ref l,.int 0 0] }
theorem SeqAt.at{h h':Heap}{k:Bool}{l:Addr}{xs:Array Value}(q:SeqAt h k l xs)(e:∀ o,h.get? l=some o->h'.get? l=some o):SeqAt h' k l xs:=by
 cases k
 ·exact Heap.IsList.at q e
 ·exact Heap.IsTuple.at q e
theorem SeqAt.obj{h:Heap}{k:Bool}{l:Addr}{xs:Array Value}(q:SeqAt h k l xs):∃ o n,h.get? l=some o/\o.data=.seq xs n:=by
 cases k
 ·obtain⟨o,e,_,n,d⟩:=(show h.IsList l xs from q);exact⟨o,n,e,d⟩
 ·obtain⟨o,e,_,n,d⟩:=(show h.IsTuple l xs from q);exact⟨o,n,e,d⟩
theorem bb.at{h h':Heap}{k:Bool}{it l:Addr}{n:Nat}(q:bb h k it l n)(e:∀ o,h.get? it=some o->h'.get? it=some o):bb h' k it l n:=by
 cases k
 ·exact Heap.IsListIter.at q e
 ·exact Heap.IsTupleIter.at q e
theorem bb.obj{h:Heap}{k:Bool}{it l:Addr}{n:Nat}(q:bb h k it l n):∃ o fs,h.get? it=some o/\o.data=.fields fs:=by
 cases k
 ·obtain⟨o,e,_,d⟩:=(show h.IsListIter it l n from q);exact⟨o,_,e,d⟩
 ·obtain⟨o,e,_,d⟩:=(show h.IsTupleIter it l n from q);exact⟨o,_,e,d⟩
theorem dg{prog:Program}{w:World}(k:Bool)(it l:Addr)(hne:l ≠ it)(xs:Array Value):Src prog w it [it,l] (λ n h=>bb h k it l n/\SeqAt h k l xs) (λ n=>xs[n]?):=by
 cases k
 ·exact zA it l hne xs
 ·exact Dp it l hne xs
section
variable {prog:Program}{w:World}{A:Around}{E:Value->Shared->Prop}{s:Shared}
theorem i6{k:Bool}{l:Addr}{xs:Array Value}{Q:Value->Shared->Prop}(h:SeqAt s.heap k l xs)(hQ:Q (.ref s.heap.objs.size) { s with heap:=s.heap.push (j8 k l) }):wpAny (model prog w) A (pyIter (.ref l)) Q E s:=by
 cases k
 ·exact Qf h hQ
 ·exact wpAny_pyIter_tuple h hQ
abbrev zq1(ka:Bool)(a:Addr)(h:Heap):Heap:=h.push (j8 ka a)
abbrev zq2(ka kb:Bool)(a b:Addr)(h:Heap):Heap:=(zq1 ka a h).push (j8 kb b)
abbrev zq3(ka kb:Bool)(a b:Addr)(h:Heap):Heap:=(zq2 ka kb a b h).push { cls:=.type "tuple",data:=.seq #[.ref h.objs.size,.ref (zq1 ka a h).objs.size] }
abbrev zq4(ka kb:Bool)(a b:Addr)(h:Heap):Heap:=(zq3 ka kb a b h).push { cls:=.type "tuple",data:=.seq #[.none,.none] }
abbrev zq5(ka kb:Bool)(a b:Addr)(h:Heap):Heap:=(zq4 ka kb a b h).push { cls:=.type "zip",data:=.fields #[.none,.bool false,.bool false,.ref (zq2 ka kb a b h).objs.size,.ref (zq3 ka kb a b h).objs.size] }
theorem wm(ka kb:Bool)(a b:Addr)(xs ys:Array Value):Meets (Builtin.«zip.__new__» ⟨[.type "zip",.ref a,.ref b],[]⟩) (λ _ R s=>SeqAt s.heap ka a xs/\SeqAt s.heap kb b ys/\R (.ok (.ret (.ref (zq4 ka kb a b s.heap).objs.size))) { s with heap:=zq5 ka kb a b s.heap }):=
 .of_wp λ prog w A R s h=>by
  obtain⟨hp,g,d,tk,os⟩:=s;obtain⟨h1,h2,h⟩:=h;have hsub:=sub_zip;have q1:SeqAt (Shared.heap ⟨hp,g,d,tk,os⟩) ka a xs:=h1;have q2:SeqAt (Shared.heap ⟨hp.push (j8 ka a),g,d,tk,os⟩) kb b ys:=h2.at λ o e=>Ox _ e
  wp_walk using i6 q1,i6 q2
  exact⟨_,rfl,h⟩
theorem vQ{ka kb:Bool}{a b:Addr}{xs ys:Array Value}{Q:Value->Shared->Prop}(h1:SeqAt s.heap ka a xs)(h2:SeqAt s.heap kb b ys)
  (h:∀ h' n,n=s.heap.objs.size->IsZip h' (n+4) (n+2) (n+3) .none->IsPair h' (n+2) (.ref n) (.ref (n+1))->IsPair h' (n+3) .none .none->bb h' ka n a 0->bb h' kb (n+1) b 0->h'.objs.size=n+5->(∀ c o,s.heap.get? c=some o->h'.get? c=some o)->Q (.ref (n+4)) { s with heap:=h' }) :
  wpAny (model prog w) A (call (.type "zip") [.ref a,.ref b]) Q E s:=by
 refine callType_new F.called_zip (by decide) (F.typeCall_zip_2 _ _) (F.newCall_zip_2 _ _) (λ ob=>F.args_object_init_3 ob _ _) F.entry_zip_new (wm ka kb a b xs ys) ⟨h1,h2,?_⟩;have n1:(zq1 ka a s.heap).objs.size=s.heap.objs.size+1:=O5 ..;have n2:(zq2 ka kb a b s.heap).objs.size=s.heap.objs.size+2:=by rw [O5,n1]
 have n3:(zq3 ka kb a b s.heap).objs.size=s.heap.objs.size+3:=by rw [O5,n2]
 have n4:(zq4 ka kb a b s.heap).objs.size=s.heap.objs.size+4:=by rw [O5,n3]
 have n5:(zq5 ka kb a b s.heap).objs.size=s.heap.objs.size+5:=by rw [O5,n4]
 have f1:bb (zq1 ka a s.heap) ka s.heap.objs.size a 0:=by
  cases ka<;>exact⟨_,OD _ rfl,rfl,rfl⟩
 have f2:bb (zq2 ka kb a b s.heap) kb (zq1 ka a s.heap).objs.size b 0:=by
  cases kb<;>exact⟨_,OD _ rfl,rfl,rfl⟩
 have u2:∀ c o,(zq2 ka kb a b s.heap).get? c=some o->(zq5 ka kb a b s.heap).get? c=some o:=λ c o e=>Ox _ (Ox _ (Ox _ e));have g5:(zq5 ka kb a b s.heap).get? (zq4 ka kb a b s.heap).objs.size=some _:=OD _ rfl;have g4:(zq5 ka kb a b s.heap).get? (zq3 ka kb a b s.heap).objs.size=some _:=Ox _ (OD _ rfl);have g3:(zq5 ka kb a b s.heap).get? (zq2 ka kb a b s.heap).objs.size=some _:=Ox _ (Ox _ (OD _ rfl));have e1:bb (zq5 ka kb a b s.heap) ka s.heap.objs.size a 0:=f1.at λ o e=>u2 _ o (Ox _ e);have e2:bb (zq5 ka kb a b s.heap) kb (zq1 ka a s.heap).objs.size b 0:=f2.at λ o e=>u2 _ o e
 show _/\_
 rw [n2,n3,n4] at g5;rw [n1,n2] at g3;rw [n3] at g4;rw [n1] at e2;rw [n4];exact⟨⟨_,g5,rfl⟩,h _ _ rfl g5 g3 g4 e1 e2 n5 λ c o e=>u2 c o (Ox _ (Ox _ e))⟩
end
section
variable {X:Cx}{pins:List (Addr × Obj)}{σ:List (Option V)}{H:Hp}{s:Shared}{h':Heap}
theorem Inv.turnNew{t':Nat}{ch:List Addr}{n:Addr}{o:HO}(I:Inv X pins σ H s)(hch:∀ b∈ch,oT X pins H b)(k:∀ b ob,b ∉ ch->s.heap.get? b=some ob->h'.get? b=some ob)(hn:s.heap.objs.size<=n)(new:bM X.prog X.w (upd H n o) h' n o) :
  Inv X pins σ (upd H n o) { s with heap:=h',toks:=t' }:=by
 have fn:=I.hok.fresh hn;have up:∀ {b u},H b=some u->upd H n o b=some u:=λ {b u} e=>by rw [af (bW e fn)];exact e
 have nch:∀ {b u},H b=some u->b ∉ ch:=λ {b u} e z=>by rw [(hch b z).1] at e;cases e
 refine I.step (g':=s.gens) (d':=s.drawn) (ch:=ch) (λ b hb=>⟨(hch b hb).2.2.2.1,(hch b hb).2.1,(hch b hb).2.2.2.2.1,(hch b hb).2.2.2.2.2⟩) (λ b ob _ _ hc e _=>k b ob hc e) (λ b ob _ _ hc e _=>⟨ob.slots,k b ob hc e⟩)
  (λ b ob _ e q=>?_) (λ b ob hc e=>⟨ob,k b ob hc e⟩) (λ _ _ e=>up e) (λ _ _ _ e=>up e) (λ b ps e=>⟨#[],by rw [up e];simp⟩) (λ m hm=>?_) (λ b u e=>?_) I.bare
 ·rw [af (OS (OW (OA e) hn))];exact q
 ·obtain⟨ol,es,ep,ho,r⟩:=hm;exact⟨ol,es,ep,k _ ol (λ z=>(hch _ z).2.1 rfl) ho,r⟩
 ·by_cases hb:b=n
  ·subst hb;rw [aq] at e;cases e;exact new
  ·rw [af hb] at e;refine(I.hok b u e).stay (λ c v hc q=>k c v ?_ q) (λ c q=>up q) λ c xs q=>up q
   rcases hc with rfl|hc
   ·exact nch e
   ·exact nch hc
theorem Inv.turnL{t':Nat}{ch:List Addr}(I:Inv X pins σ H s)(hch:∀ b∈ch,oT X pins H b)(k:∀ b ob,b ∉ ch->s.heap.get? b=some ob->h'.get? b=some ob):Inv X pins σ H { s with heap:=h',toks:=t' }:=by
 have nch:∀ {b u},H b=some u->b ∉ ch:=λ {b u} e z=>by rw [(hch b z).1] at e;cases e
 refine I.step (g':=s.gens) (d':=s.drawn) (ch:=ch) (λ b hb=>⟨(hch b hb).2.2.2.1,(hch b hb).2.1,(hch b hb).2.2.2.2.1,(hch b hb).2.2.2.2.2⟩) (λ b ob _ _ hc e _=>k b ob hc e) (λ b ob _ _ hc e _=>⟨ob.slots,k b ob hc e⟩)
  (λ _ _ _ _ q=>q) (λ b ob hc e=>⟨ob,k b ob hc e⟩) (λ _ _ e=>e) (λ _ _ _ e=>e) (λ b ps e=>⟨#[],by rw [e];simp⟩) (λ m hm=>?_) (λ b u e=>?_) I.bare
 ·obtain⟨ol,es,ep,ho,r⟩:=hm;exact⟨ol,es,ep,k _ ol (λ z=>(hch _ z).2.1 rfl) ho,r⟩
 ·refine(I.hok b u e).stay (λ c v hc q=>k c v ?_ q) (λ _ q=>q) λ _ _ q=>q
  rcases hc with rfl|hc
  ·exact nch e
  ·exact nch hc
end
def SqK(k:Bool)(H:Hp)(a:Addr)(xs:List V):Prop:=match k with
 | true=>H a=some (.tup xs)
 | false=>H a=some (.lst xs)
theorem SqK.ne{k:Bool}{H:Hp}{a b:Addr}{xs:List V}(h:SqK k H a xs)(e:H b=none):a ≠ b:=λ z=>by
 subst z;cases k
 ·rw [show H a=some (.lst xs) from h] at e;cases e
 ·rw [show H a=some (.tup xs) from h] at e;cases e
theorem Inv.sq{X:Cx}{pins:List (Addr × Obj)}{σ:St}{H:Hp}{s:Shared}{k:Bool}{a:Addr}{xs:List V}(I:Inv X pins σ H s)(h:SqK k H a xs):∃ its:List Value,aU xs its/\SeqAt s.heap k a its.toArray:=by
 cases k
 ·obtain⟨its,r,p,_⟩:=I.list (SqL.of h);exact⟨its,r,p.isList⟩
 ·obtain⟨its,r,p,_⟩:=I.tuple (SqT.of h);exact⟨its,r,p⟩
def Itz(ka kb:Bool)(a b:Addr)(xs ys:List V):It:=
 ⟨λ i H=>SqK ka H a xs/\SqK kb H b ys/\i < xs.length/\i < ys.length,λ i H x H'=>∃ p u v,H p=none/\x=.ref p/\xs[i]? = some u/\ys[i]? = some v/\H'=upd H p (.tup [u,v]),λ i H=>SqK ka H a xs/\SqK kb H b ys/\(xs.length<=i\/ys.length<=i)⟩
def Tnz(ka kb:Bool)(a b z TI TO p q:Addr)(i:Nat)(h:Heap):Prop:=IsZip h z TI TO .none/\IsPair h TI (.ref p) (.ref q)/\(∃ u v,IsPair h TO u v)/\bb h ka p a i/\bb h kb q b i
theorem zx{P:Program}{w:World}{K:W.Frag}{elts:List Expr}{x1}{tp:Pos}(ka kb:Bool)(a b z TI TO p q:Addr)(xs ys:List V)(nd:[z,TI,TO,p,q].Nodup):yK P w K (.Tuple elts x1 tp) (Itz ka kb a b xs ys) [z,TI,TO,p,q] z (Tnz ka kb a b z TI TO p q) where
 mem:=ON
 obj:=λ i h st c hc=>by
  obtain⟨e1,e2,⟨u,v,e3⟩,e4,e5⟩:=st;simp only [OU,OJ,O6] at hc
  rcases hc with rfl|rfl|rfl|rfl|rfl
  ·exact⟨_,e1,λ v z=>by cases z⟩
  ·exact⟨_,e2,λ v z=>by cases z⟩
  ·exact⟨_,e3,λ v z=>by cases z⟩
  ·obtain⟨o,fs,e,d⟩:=e4.obj;exact⟨o,e,λ v z=>by rw [d] at z;cases z⟩
  ·obtain⟨o,fs,e,d⟩:=e5.obj;exact⟨o,e,λ v z=>by rw [d] at z;cases z⟩
 keep:=λ i h h' st k=>by
  obtain⟨e1,e2,⟨u,v,e3⟩,e4,e5⟩:=st;exact⟨k z (by simp) _ e1,k TI (by simp) _ e2,⟨u,v,k TO (by simp) _ e3⟩,e4.at λ o e=>k p (by simp) o e,e5.at λ o e=>k q (by simp) o e⟩
 item:=by
  intro X hP hw hK hc i pins s σ H E I hf st hg;subst hP hw hK;obtain⟨e1,e2,⟨u0,v0,e3⟩,e4,e5⟩:=st;obtain⟨ha,hb,l1,l2⟩:=hg;obtain⟨as,ra,sa⟩:=I.sq ha;obtain⟨bs,rb,sb⟩:=I.sq hb;have hx:xs[i]? = some xs[i]:=Ow l1;have hy:ys[i]? = some ys[i]:=Ow l2;obtain⟨u,hu,ru⟩:=ra.get hx;obtain⟨v,hv,rv⟩:=rb.get hy;have free:∀ c∈[z,TI,TO,p,q],H c=none:=λ c h=>(hf c h).1;have naz:∀ c∈[z,TI,TO,p,q],a ≠ c:=λ c h=>ha.ne (free c h);have nbz:∀ c∈[z,TI,TO,p,q],b ≠ c:=λ c h=>hb.ne (free c h);simp only [Qe,OU,OJ,O6,QU,Qz,and_true,Q0] at nd;obtain⟨⟨z1,z2,z3,z4⟩,⟨t1,t2,t3⟩,⟨w1,w2⟩,y1⟩:=nd;have S:=dg (prog:=X.prog) (w:=X.w) ka p a (naz p (by simp)) as.toArray;have T:=dg (prog:=X.prog) (w:=X.w) kb q b (nbz q (by simp)) bs.toArray;have D:eE z TI TO p q [p,a] [q,b]:=⟨⟨OK z1,t1,t2,t3⟩,z2,by simp [z3,OK (naz z (by simp))],by simp [z4,OK (nbz z (by simp))],by simp [w1,OK (naz TO (by simp))],by simp [w2,OK (nbz TO (by simp))],by simp [y1,OK (nbz p (by simp))],by simp [OK y1,OK (naz q (by simp))]⟩;refine fJ S T D e1 e2 e3 ⟨e4,sa⟩ ⟨e5,sb⟩ (x:=u) (y:=v) (by simpa using hu) (by simpa using hv) λ h1 c1 c2 c3 c4 c5 c6 c7=>?_;refine⟨_,rfl,wpAny_letOwnedTupleGo_zip (s:={ s with heap:=h1 }) c1 λ h2 d1 d2=>?_⟩;have lt:z < s.heap.objs.size:=OA e1;have kp:∀ c o,c ∉ [z,TO,p,q]->s.heap.get? c=some o->h2.get? c=some o:=λ c o hc e=>d2.extBut _ _ (λ q=>hc (by simp [q])) (c7 c o hc e);have hn:h2.get? s.heap.objs.size=some { cls:=.type "tuple",data:=.seq #[u,v] }:=d2.extBut _ _ (Pn lt) c5;have I2:Inv X pins σ (upd H s.heap.objs.size (.tup [xs[i],ys[i]])) { s with heap:=h2 }:=I.turnNew (t':=s.toks) (ch:=[z,TO,p,q]) (λ c hc=>hf c (by simp only [OU,OJ,O6] at hc ⊢;rcases hc with h|h|h|h<;>simp [h])) kp (OC _) ⟨(show 2<=sizeLine by decide),[u,v],.cons ru (.cons rv .nil),⟨_,hn,rfl,_,rfl⟩⟩;have fr:H s.heap.objs.size=none:=I.hok.fresh (OC _);refine⟨.ref s.heap.objs.size,_,I2,rfl,⟨_,_,_,fr,rfl,hx,hy,rfl⟩,⟨d1,d2.extBut _ _ (OK z1) (c7 TI _ (by simp [OK z1,t1,t2,t3]) e2),⟨u,v,d2.extBut _ _ (OK z2) c2⟩,c3.1.at λ o e=>d2.extBut _ _ (OK z3) e,c4.1.at λ o e=>d2.extBut _ _ (OK z4) e⟩,λ c hc=>?_⟩
  obtain⟨o,ho,_⟩:∃ o,s.heap.get? c=some o/\True:=by
   simp only [OU,OJ,O6] at hc
   rcases hc with rfl|rfl|rfl|rfl|rfl
   ·exact⟨_,e1,trivial⟩
   ·exact⟨_,e2,trivial⟩
   ·exact⟨_,e3,trivial⟩
   ·obtain⟨o,_,e,_⟩:=e4.obj;exact⟨o,e,trivial⟩
   ·obtain⟨o,_,e,_⟩:=e5.obj;exact⟨o,e,trivial⟩
  rw [af (OS (OA ho))];exact free c hc
 done:=by
  intro X hP hw hK hc i pins s σ H E I hf st hg;subst hP hw hK;obtain⟨e1,e2,⟨u0,v0,e3⟩,e4,e5⟩:=st;obtain⟨ha,hb,l⟩:=hg;obtain⟨as,ra,sa⟩:=I.sq ha;obtain⟨bs,rb,sb⟩:=I.sq hb;have free:∀ c∈[z,TI,TO,p,q],H c=none:=λ c h=>(hf c h).1;have naz:∀ c∈[z,TI,TO,p,q],a ≠ c:=λ c h=>ha.ne (free c h);have nbz:∀ c∈[z,TI,TO,p,q],b ≠ c:=λ c h=>hb.ne (free c h);simp only [Qe,OU,OJ,O6,QU,Qz,and_true,Q0] at nd;obtain⟨⟨z1,z2,z3,z4⟩,⟨t1,t2,t3⟩,⟨w1,w2⟩,y1⟩:=nd;have S:=dg (prog:=X.prog) (w:=X.w) ka p a (naz p (by simp)) as.toArray;have T:=dg (prog:=X.prog) (w:=X.w) kb q b (nbz q (by simp)) bs.toArray;have D:eE z TI TO p q [p,a] [q,b]:=⟨⟨OK z1,t1,t2,t3⟩,z2,by simp [z3,OK (naz z (by simp))],by simp [z4,OK (nbz z (by simp))],by simp [w1,OK (naz TO (by simp))],by simp [w2,OK (nbz TO (by simp))],by simp [y1,OK (nbz p (by simp))],by simp [OK y1,OK (naz q (by simp))]⟩;have la:=ra.length;have lb:=rb.length;refine gH (I.ok.hd hc) S T D e1 e2 e3 ⟨e4,sa⟩ ⟨e5,sb⟩ (l.imp (λ h=>by simp;omega) λ h=>by simp;omega) λ h1 kp=>⟨rfl,I.turnL (t':=s.toks) (ch:=[z,TO,p,q]) (λ c hc=>hf c (by simp only [OU,OJ,O6] at hc ⊢;rcases hc with h|h|h|h<;>simp [h])) kp⟩
 self:=λ _ _ _ _ _ st h=>Rq st.1 h
def kZ2(ka:Bool)(a b:Addr)(xs:List V)(H:Hp)(R:It->Hp->Prop):HO->Prop:=λ o=>match o with
 | .lst ys=>R (Itz ka false a b xs ys) H
 | .tup ys=>R (Itz ka true a b xs ys) H
 | _=>False
theorem ED(ka:Bool)(a b:Addr)(xs ys:List V)(H:Hp)(R:It->Hp->Prop):kZ2 ka a b xs H R (.lst ys)=R (Itz ka false a b xs ys) H:=rfl
def kZ1(a b:Addr)(H:Hp)(R:It->Hp->Prop):HO->Prop:=λ o=>match o with
 | .lst xs=>az (H b) (kZ2 false a b xs H R)
 | .tup xs=>az (H b) (kZ2 true a b xs H R)
 | _=>False
theorem EF(a b:Addr)(xs:List V)(H:Hp)(R:It->Hp->Prop):kZ1 a b H R (.lst xs)=az (H b) (kZ2 false a b xs H R):=rfl
theorem EE(a b:Addr)(xs:List V)(H:Hp)(R:It->Hp->Prop):kZ1 a b H R (.tup xs)=az (H b) (kZ2 true a b xs H R):=rfl
def kZ0(R:It->Hp->Prop):List V->Hp->Prop:=λ vs H=>match vs with
 | [.ref a,.ref b]=>az (H a) (kZ1 a b H R)
 | _=>False
theorem LI(R:It->Hp->Prop)(a b:Addr)(H:Hp):kZ0 R [.ref a,.ref b] H=az (H a) (kZ1 a b H R):=rfl
def Nq(ta:TA):TI:=λ σ H R=>ta σ H (kZ0 R)
theorem JJ(ta:TA)(σ:St)(H:Hp)(R:It->Hp->Prop):Nq ta σ H R=ta σ H (kZ0 R):=rfl
theorem JS{R:It->Hp->Prop}{vs:List V}{H:Hp}(h:kZ0 R vs H):∃ a b ka kb xs ys,vs=[.ref a,.ref b]/\SqK ka H a xs/\SqK kb H b ys/\R (Itz ka kb a b xs ys) H:=by
 unfold kZ0 at h;split at h
 ·rename_i a b;obtain⟨o,e,h⟩:=ai h;unfold kZ1 at h;split at h
  ·rename_i xs;obtain⟨o',e',h⟩:=ai h;unfold kZ2 at h;split at h
   ·exact⟨a,b,false,false,xs,_,rfl,e,e',h⟩
   ·exact⟨a,b,false,true,xs,_,rfl,e,e',h⟩
   ·exact h.elim
  ·rename_i xs;obtain⟨o',e',h⟩:=ai h;unfold kZ2 at h;split at h
   ·exact⟨a,b,true,false,xs,_,rfl,e,e',h⟩
   ·exact⟨a,b,true,true,xs,_,rfl,e,e',h⟩
   ·exact h.elim
  ·exact h.elim
 ·exact h.elim
section
variable {X:Cx}
theorem mW{a b:Expr}{elts:List Expr}{x1}{tp:Pos}{ta:TA}{p pos:Pos}(hg:Gl X "zip")(hm:X.mg "zip"=none)(ha:PA X [a,b] ta)(hs:starEach [a,b] X.env=[(false,eval a X.env),(false,eval b X.env)]:=by rfl)(hs2:starEach [b] X.env=[(false,eval b X.env)]:=by rfl) :
  PI X (.Tuple elts x1 tp) (.Call (.Name "zip" p) [a,b] [] pos) (Nq ta):=by
 intro pins s σ H R I h;refine Call_ (dJ I hg hm (show bootBuiltins "zip"=some (.type "zip") by decide +kernel) (Pc (thn (ha pos pins s σ H _ I h) λ us s1 ⟨vs,H1,I1,r1,q1⟩=>?_) (by rw [hs,hs2]) (by rw [hs2];rfl)));obtain⟨a,b,ka,kb,xs,ys,rfl,sa,sb,q⟩:=JS q1
 cases r1 with
 | cons r rr=>
  cases rr with
  | cons r' rr=>
   cases rr;cases r;cases r';obtain⟨as,ra,s1a⟩:=I1.sq sa;obtain⟨bs,rb,s1b⟩:=I1.sq sb;refine vQ s1a s1b λ h' n hn e1 e2 e3 e4 e5 e6 e7=>?_;have I2:Inv X pins σ H1 { s1 with heap:=h' }:=I1.kept (t':=s1.toks) e7;refine Rq (s:={ s1 with heap:=h' }) e1 ⟨n+4,[n+4,n+2,n+3,n,n+1],_,_,H1,rfl,I2,zx ka kb a b (n+4) (n+2) (n+3) n (n+1) xs ys (by simp),⟨e1,e2,⟨_,_,e3⟩,e4,e5⟩,λ c hc=>?_,q⟩
   have hle:s1.heap.objs.size<=c:=by
    rw [←hn];simp only [OU,OJ,O6] at hc
    rcases hc with rfl|rfl|rfl|rfl|rfl
    ·exact Pp ..
    ·exact Pp ..
    ·exact Pp ..
    ·exact OC _
    ·exact Pp ..
   exact I1.fpOk hle (I1.hok.fresh hle)
end
def Kj(te:TE)(σ2:St)(N1:VK)(N0:Hp->Prop):Bool->Hp->Prop:=λ b H=>if b=true then te σ2 H N1 else N0 H
theorem ba(te:TE)(σ2:St)(N1:VK)(N0:Hp->Prop)(b:Bool)(H:Hp):Kj te σ2 N1 N0 b H=(if b=true then te σ2 H N1 else N0 H):=rfl
def kCm(k:Nat)(tt:TT)(te:TE)(σ:St)(N1:VK)(N0:Hp->Prop):St->Hp->Prop:=λ σ2 H=>(∃ vs:St,vs.length=k/\σ2=vs++σ)/\tt σ2 H (Kj te σ2 N1 N0)
theorem bh(tt:TT)(te:TE)(σ:St)(N1:VK)(N0:Hp->Prop)(a:Option V)(H:Hp):kCm 1 tt te σ N1 N0 (a::σ) H=tt (a::σ) H (Kj te (a::σ) N1 N0):=propext ⟨λ h=>h.2,λ h=>⟨⟨[a],rfl,rfl⟩,h⟩⟩
theorem dw(tt:TT)(te:TE)(σ:St)(N1:VK)(N0:Hp->Prop)(a b:Option V)(H:Hp):kCm 2 tt te σ N1 N0 (a::b::σ) H=tt (a::b::σ) H (Kj te (a::b::σ) N1 N0):=propext ⟨λ h=>h.2,λ h=>⟨⟨[a,b],rfl,rfl⟩,h⟩⟩
theorem Em(σ:St):List.replicate 1 (none:Option V)++σ=none::σ:=rfl
theorem El(σ:St):List.replicate 2 (none:Option V)++σ=none::none::σ:=rfl
def Al{α:Type}(R:α->V->Prop)(zs:List α)(ys:List V):Prop:=ys.length=zs.length/\∀ (i:Nat) z y,zs[i]? = some z->ys[i]? = some y->R z y
theorem Al.nil{α:Type}{R:α->V->Prop}:Al R [] []:=⟨rfl,λ i z y h=>by simp at h⟩
theorem Al.snoc{α:Type}{R:α->V->Prop}{zs:List α}{ys:List V}{z:α}{y:V}(h:Al R zs ys)(r:R z y):Al R (zs++[z]) (ys++[y]):=by
 refine⟨by simp [h.1],λ i z' y' h1 h2=>?_⟩
 by_cases hi:i < zs.length
 ·rw [Pj hi] at h1;rw [Pj (by rw [h.1];exact hi)] at h2;exact h.2 i z' y' h1 h2
 ·rw [O7 (by omega)] at h1;rw [O7 (by rw [h.1];omega),h.1] at h2
  by_cases h0:i - zs.length=0
  ·rw [h0] at h1 h2;simp at h1 h2;subst h1;subst h2;exact r
  ·rw [Qu (by simp;omega)] at h1;cases h1
theorem Al.imp{α:Type}{R S:α->V->Prop}{zs:List α}{ys:List V}(h:Al R zs ys)(f:∀ z y,R z y->S z y):Al S zs ys:=⟨h.1,λ i z y a b=>f z y (h.2 i z y a b)⟩
theorem Al.map{α:Type}{f:α->V}{zs:List α}{ys:List V}(h:Al (λ z y=>y=f z) zs ys):ys=zs.map f:=by
 apply List.ext_getElem?;intro i;rw [OL]
 by_cases hi:i < zs.length
 ·have e1:zs[i]? = some zs[i]:=Ow hi;have e2:ys[i]? = some (ys[i]'(by rw [h.1];exact hi)):=Ow _;rw [e1,e2,h.2 i _ _ e1 e2];rfl
 ·have:=h.1;rw [Qu (show ys.length<=i by omega),Qu (show zs.length<=i by omega)];rfl
section
variable {k:Nat}{g:TG}{tt:TT}{te:TE}{σ:St}{Q:VK}{H:Hp}{K:PySem.W.Frag}
theorem lY{α:Type}{J:It}(zs:List α)(c:α->Bool)(P:α->V->Hp->Prop)(R:Addr->α->V->Hp->Prop)
  (hgo:∀ i z H',zs[i]? = some z->Ext H H'->J.go i H'/\∀ x H'',J.yld i H' x H''->Ext H' H''/\P z x H'')
  (hst:∀ H',Ext H H'->J.stop zs.length H')
  (hR1:∀ D z y H1 H2,R D z y H1->Ext H1 H2->R D z y H2) (hR2:∀ D z y H1 o,R D z y H1->R D z y (upd H1 D o))
  (hl:zs.length<=sizeLine)
  (hs:∀ D z x H' N1 N0,z∈zs->H D=none->Ext H H'->(∃ ys,H' D=some (.lst ys))->P z x H'->(c z=true->∀ y H'',Ext H' H''->R D z y H''->N1 y H'')->(c z=false->∀ H'',Ext H' H''->N0 H'')->g x (List.replicate k none++σ) H' (kCm k tt te σ N1 N0))
  (hd:∀ D ys H',H D=none->Ext H H'->H' D=some (.lst ys)->Al (λ z y=>R D z y H') (zs.filter c) ys->Q (.ref D) H'):yW k g tt te σ Q J H:=by
 intro D hD;refine⟨λ i m ys H'=>m=zs.length - i/\i<=zs.length/\Ext H H'/\H' D=some (.lst ys)/\Al (λ z y=>R D z y H') ((zs.take i).filter c) ys,⟨zs.length,by simp,PD _,Ext.new hD,aq,by simpa using Al.nil⟩,?_⟩;rintro i m ys H' ⟨rfl,hi,e,hD',al⟩
 by_cases hlt:i < zs.length
 ·have hz:zs[i]? = some zs[i]:=Ow hlt;obtain⟨go,y⟩:=hgo i zs[i] H' hz e;have tk:zs.take (i+1)=zs.take i++[zs[i]]:=by rw [R1,hz];rfl
  have ln:ys.length < sizeLine:=by
   have h1:=al.1;have h2:=Rc c (zs.take i);simp only [O8] at h2;omega
  refine .inr ⟨go,λ ys' H2=>Ext H H2/\H2 D=some (.lst ys')/\Al (λ z y=>R D z y H2) ((zs.take (i+1)).filter c) ys',λ ys' H2 p=>⟨zs.length - (i+1),by omega,rfl,hlt,p⟩,λ x H2 z=>?_⟩;obtain⟨e2,p2⟩:=y x H2 z;refine hs D zs[i] x H2 (kC3 D ys _) _ (P7 hlt) hD (e.trans e2) ⟨ys,e2.at hD'⟩ p2 (λ hc y H3 e3 r3=>?_) λ hc H3 e3=>?_
  ·refine⟨e3.at (e2.at hD'),ln,(e.trans (e2.trans e3)).put hD,aq,?_⟩;rw [tk,Rt,show [zs[i]].filter c=[zs[i]] by simp [hc]];exact Al.snoc (al.imp λ z y r=>hR2 _ _ _ _ _ (hR1 _ _ _ _ _ r (e2.trans e3))) (hR2 _ _ _ _ _ r3)
  ·refine⟨e.trans (e2.trans e3),(e2.trans e3).at hD',?_⟩;rw [tk,Rt,show [zs[i]].filter c=[] by simp [hc],Rh];exact al.imp λ z y r=>hR1 _ _ _ _ _ r (e2.trans e3)
 ·have e':i=zs.length:=by omega
  subst e';rw [P6] at al;exact .inl ⟨hst H' e,hd D ys H' hD e hD' al⟩
theorem bK{α:Type}{J:It}(zs:List α)(c:α->Bool)(f:α->V)(P:α->V->Hp->Prop)
  (hgo:∀ i z H',zs[i]? = some z->Ext H H'->J.go i H'/\∀ x H'',J.yld i H' x H''->Ext H' H''/\P z x H'')
  (hst:∀ H',Ext H H'->J.stop zs.length H') (hl:zs.length<=sizeLine)
  (hs:∀ D z x H' N1 N0,z∈zs->H D=none->Ext H H'->P z x H'->(c z=true->∀ H'',Ext H' H''->N1 (f z) H'')->(c z=false->∀ H'',Ext H' H''->N0 H'')->g x (List.replicate k none++σ) H' (kCm k tt te σ N1 N0))
  (hd:∀ D H',H D=none->Ext H H'->H' D=some (.lst ((zs.filter c).map f))->Q (.ref D) H'):yW k g tt te σ Q J H:=
 lY zs c P (λ _ z y _=>y=f z) hgo hst (λ _ _ _ _ _ r _=>r) (λ _ _ _ _ _ r=>r) hl (λ D z x H' N1 N0 hz hD e _ p k1 k0=>hs D z x H' N1 N0 hz hD e p (λ hc H'' e'=>k1 hc _ H'' e' rfl) k0) λ D ys H' hD e hD' al=>hd D H' hD e (by rw [←al.map];exact hD')
theorem eD{lo:Int}{n:Nat}:(∀ i z H',(List.range n)[i]? = some z->Ext H H'->(Itr lo n).go i H'/\∀ x H'',(Itr lo n).yld i H' x H''->Ext H' H''/\x=.int (lo+(z:Nat)))/\∀ H',Ext H H'->(Itr lo n).stop (List.range n).length H':=by
 refine⟨λ i z H' hz _=>?_,λ H' _=>by simp [Itr]⟩;obtain⟨h1,h2⟩:=Oy.mp hz;have e:i=z:=by simpa using h2
 subst e;exact⟨(show i < n by simpa using h1),λ x H'' y=>⟨by rw [y.1];exact Ext.refl _,y.2⟩⟩
theorem mR{a:Addr}{xs:List V}(h:H a=some (.lst xs)):(∀ i z H',xs[i]? = some z->Ext H H'->(Itl K a).go i H'/\∀ x H'',(Itl K a).yld i H' x H''->Ext H' H''/\(x=z/\H'' a=some (.lst xs)))/\∀ H',Ext H H'->(Itl K a).stop xs.length H':=
 ⟨λ i z H' hz e=>⟨⟨xs,z,SqL.of (e.at h),hz⟩,λ x H'' y=>⟨by rw [y.1];exact Ext.refl _,O1 ((y.2 xs (SqL.of (e.at h))).symm.trans hz),by rw [y.1];exact e.at h⟩⟩,λ H' e=>⟨xs,SqL.of (e.at h),OC _⟩⟩
theorem SqK.ext{kk:Bool}{H H':Hp}{a:Addr}{xs:List V}(h:SqK kk H a xs)(e:Ext H H'):SqK kk H' a xs:=by
 cases kk
 ·exact e.at (show H a=some (.lst xs) from h)
 ·exact e.at (show H a=some (.tup xs) from h)
def Ca(z:V × V)(x:V)(H:Hp):Prop:=∃ p,x=.ref p/\H p=some (.tup [z.1,z.2])
theorem km{ka kb:Bool}{a b:Addr}{xs ys:List V}(ha:SqK ka H a xs)(hb:SqK kb H b ys):(∀ i z H',(xs.zip ys)[i]? = some z->Ext H H'->(Itz ka kb a b xs ys).go i H'/\∀ x H'',(Itz ka kb a b xs ys).yld i H' x H''->Ext H' H''/\Ca z x H'')/\∀ H',Ext H H'->(Itz ka kb a b xs ys).stop (xs.zip ys).length H':=by
 refine⟨λ i z H' hz e=>?_,λ H' e=>⟨ha.ext e,hb.ext e,?_⟩⟩
 ·obtain⟨h1,h2⟩:=Oy.mp hz;rw [Rg] at h1;refine⟨⟨ha.ext e,hb.ext e,by omega,by omega⟩,λ x H'' y=>?_⟩;obtain⟨p,u,v,hp,rfl,hu,hv,rfl⟩:=y;refine⟨Ext.new hp,p,rfl,?_⟩;rw [aq];rw [Ow (by omega)] at hu hv;cases hu;cases hv;rw [←h2,List.getElem_zip]
 ·rw [Rg];omega
theorem vJ{tb:TS}{nx:St->Hp->Prop}{rt:VK}{bk ct:St->Hp->Prop}{ka kb:Bool}{a b:Addr}{xs ys:List V}(Pv:Nat->St->Hp->Prop)(h0:Pv 0 σ H)(hl:∀ i σ H,Pv i σ H->SqK ka H a xs/\SqK kb H b ys)
  (hs:∀ i u v p σ H H',xs[i]? = some u->ys[i]? = some v->Pv i σ H->H p=none->Ext H H'->H' p=some (.tup [u,v])->g (.ref p) σ H' (oW tb ⟨Pv (i+1),rt,nx,Pv (i+1)⟩)) (hd:∀ σ H,Pv (min xs.length ys.length) σ H->nx σ H):Cb g tb ⟨nx,rt,bk,ct⟩ σ (Itz ka kb a b xs ys) H:=by
 refine⟨λ i m σ H=>m=min xs.length ys.length - i/\i<=min xs.length ys.length/\Pv i σ H,⟨min xs.length ys.length,by simp,PD _,h0⟩,?_⟩;rintro i m σ H ⟨rfl,hi,p⟩;obtain⟨qa,qb⟩:=hl i σ H p
 by_cases hlt:i < min xs.length ys.length
 ·refine .inr ⟨⟨qa,qb,by omega,by omega⟩,Pv (i+1),λ σ' H' p'=>⟨min xs.length ys.length - (i+1),by omega,rfl,hlt,p'⟩,λ x H' y=>?_⟩;obtain⟨r,u,v,hr,rfl,hu,hv,rfl⟩:=y;exact hs i u v r σ H _ hu hv p hr (Ext.new hr) aq
 ·have e:i=min xs.length ys.length:=by omega
  subst e;exact .inl ⟨⟨qa,qb,by omega⟩,hd σ H p⟩
end
def Hu(sc:Scope)(N:List Str)(scope:Scope)(N':List Str)(k:Nat):Bool:=
 scope.names.all (λ y=>!(y.2 == .cell)) && (scope.kind == .function) && scope.names.all (λ y=>!(y.2 == .local) || scope.names.lookup y.1 == some .local) && scope.names.all (λ y=>!(y.2 == .free) || sc.names.lookup y.1 == some .cell) && decide (N'.length=k+N.length) &&
  ((N'.drop k).zip N).all (λ p=>(!(scope.names.lookup p.1 == some .free) || decide (p.1=p.2)) && !(scope.names.lookup p.1 == some .local))
theorem aC{X:Cx}{scope:Scope}{N':List Str}{k:Nat}(sc:Scope)(N:List Str)(h1:X.env.scope=sc)(h2:X.N=N)(h:Hu sc N scope N' k=true):iX X scope N' k:=by
 unfold Hu at h;simp only [Bool.and_eq_true,decide_eq_true_eq] at h;obtain⟨⟨⟨⟨⟨a1,a2⟩,a3⟩,a4⟩,a5⟩,a6⟩:=h;rw [all_eq_true] at a1 a3 a4 a6
 have pr:∀ i x,N'[k+i]? = some x->∃ y,N[i]? = some y/\(x,y)∈(N'.drop k).zip N:=λ i x hx=>by
  have h0:=(Oy.mp hx).1;have hi:i < N.length:=by omega
  have e1:(N'.drop k)[i]? = some x:=by rw [List.getElem?_drop];exact hx
  have e2:N[i]? = some N[i]:=Ow hi;refine⟨_,e2,OX (i:=i) ?_⟩;rw [QE];exact⟨e1,e2⟩
 refine⟨λ y hy e=>?_,by simpa using a2,λ y hy e=>?_,λ y hy e=>?_,by rw [h2];exact a5,λ i x hx hf=>?_,λ i x hx hf=>?_⟩
 ·have:=a1 y hy;rw [e] at this;simp at this
 ·have:=a3 y hy;rw [e] at this;simpa using this
 ·have:=a4 y hy;rw [e] at this;rw [h1];simpa using this
 ·obtain⟨y,hy,hm⟩:=pr i x hx;have:=a6 _ hm;simp only [hf] at this;rw [h2,hy];simp at this;rw [this]
 ·obtain⟨y,hy,hm⟩:=pr i x hx;have:=a6 _ hm;simp [hf] at this
def CQ(H:Hp)(Q:VK):V->Prop:=λ v=>Q v H
theorem EV(H:Hp)(Q:VK)(v:V):CQ H Q v=Q v H:=rfl
def yV(K:W.Frag)(f:Str)(H:Hp)(Q:VK):HO->Prop:=λ o=>match o with
 | .ins C dx fs=>Cls K C/\cU K C f/\az (fs.lookup f) (CQ H Q)
 | _=>False
theorem EW(K:W.Frag)(f:Str)(H:Hp)(Q:VK)(C dx:Addr)(fs:List (Str × V)):yV K f H Q (.ins C dx fs)=(Cls K C/\cU K C f/\az (fs.lookup f) (CQ H Q)):=rfl
def Gz(K:W.Frag)(f:Str)(Q:VK):VK:=λ x H=>match x with
 | .ref a=>az (H a) (yV K f H Q)
 | _=>False
theorem Js(K:W.Frag)(f:Str)(Q:VK)(a:Addr)(H:Hp):Gz K f Q (.ref a) H=az (H a) (yV K f H Q):=rfl
def MQ(K:W.Frag)(ta:TE)(f:Str):TE:=λ σ H Q=>ta σ H (Gz K f Q)
theorem IW(K:W.Frag)(ta:TE)(f:Str)(σ:St)(H:Hp)(Q:VK):MQ K ta f σ H Q=ta σ H (Gz K f Q):=rfl
theorem Fx{K:W.Frag}{f:Str}{Q:VK}{x:V}{H:Hp}(h:Gz K f Q x H):∃ a C dx fs v,x=.ref a/\H a=some (.ins C dx fs)/\Cls K C/\cU K C f/\fs.lookup f=some v/\Q v H:=by
 unfold Gz at h;split at h
 ·obtain⟨o,e,h⟩:=ai h;unfold yV at h;split at h
  ·obtain⟨c,n,h⟩:=h;obtain⟨v,l,q⟩:=ai h;exact⟨_,_,_,_,v,rfl,e,c,n,l,q⟩
  ·exact h.elim
 ·exact h.elim
section
variable {X:Cx}{e o value:Expr}{ta tv:TE}{f:Str}{pos pos':Pos}
theorem DG(he:PE X e ta)(hb:attributeBase e f X.env (eval e X.env)=eval e X.env):PE X (.Attribute e f pos) (MQ X.K ta f):=by
 intro pins s σ H Q I h;refine Ge hb (thn (he pins s σ H _ I h) λ u s1 ⟨x,H1,I1,rx,q1⟩=>?_);obtain⟨a,C,dx,fs,v,ex,ea,c,n,l,q⟩:=Fx q1;subst ex;obtain rfl:u=Value.ref a:=rx;exact tM I1 ea c n l λ u' s2 I2 ru=>⟨v,H1,I2,ru,q⟩
def yS(K:W.Frag)(f:Str)(y:V)(a:Addr)(σ:St)(nx:St->Hp->Prop)(H:Hp):HO->Prop:=λ o=>match o with
 | .ins C dx fs=>Cls K C/\cU K C f/\fs.length < 1000/\nx σ (upd H a (.ins C dx (fh f y fs)))
 | _=>False
theorem EH(K:W.Frag)(f:Str)(y:V)(a:Addr)(σ:St)(nx:St->Hp->Prop)(H:Hp)(C dx:Addr)(fs:List (Str × V)):yS K f y a σ nx H (.ins C dx fs)=(Cls K C/\cU K C f/\fs.length < 1000/\nx σ (upd H a (.ins C dx (fh f y fs)))):=rfl
def yT(K:W.Frag)(f:Str)(y:V)(σ:St)(nx:St->Hp->Prop):VK:=λ x H=>match x with
 | .ref a=>az (H a) (yS K f y a σ nx H)
 | _=>False
theorem EJ(K:W.Frag)(f:Str)(y:V)(σ:St)(nx:St->Hp->Prop)(a:Addr)(H:Hp):yT K f y σ nx (.ref a) H=az (H a) (yS K f y a σ nx H):=rfl
def CK(K:W.Frag)(f:Str)(ta:TE)(σ:St)(nx:St->Hp->Prop):VK:=λ y H=>ta σ H (yT K f y σ nx)
theorem EK(K:W.Frag)(f:Str)(ta:TE)(σ:St)(nx:St->Hp->Prop)(y:V)(H:Hp):CK K f ta σ nx y H=ta σ H (yT K f y σ nx):=rfl
def GY(K:W.Frag)(ta tv:TE)(f:Str):TS:=λ D σ H=>tv σ H (CK K f ta σ D.nx)
theorem Eu(K:W.Frag)(ta tv:TE)(f:Str)(nx:St->Hp->Prop)(rt:VK)(bk ct:St->Hp->Prop)(σ:St)(H:Hp):GY K ta tv f ⟨nx,rt,bk,ct⟩ σ H=tv σ H (CK K f ta σ nx):=rfl
theorem lQ(ha:PE X o ta)(hv:PE X value tv)(hs:swapsWith value (some (.Attribute o f pos')) pos.line X.env=pure false):PS X (.Assign [.Attribute o f pos'] value pos) (GY X.K ta tv f):=by
 intro pins s σ H D I h;refine plainObj_wpAny_Assign_Attribute (thn (hv pins s σ H _ I h) λ u s1 ⟨y,H1,I1,ry,q⟩=>thn (ha pins s1 σ H1 _ I1 q) λ ov s2 ⟨x,H2,I2,rx,q1⟩=>?_) hs;unfold yT at q1;split at q1
 ·rename_i a;obtain rfl:ov=Value.ref a:=rx;obtain⟨ob,ea,q1⟩:=ai q1;unfold yS at q1;split at q1
  ·obtain⟨c,n,l,q2⟩:=q1;exact sF I2 ea c n l ry λ s3 I3=>⟨σ,_,I3,q2⟩
  ·exact q1.elim
 ·exact q1.elim
end
def uW(sp:Sp)(dvs:List V)(E:XK)(a:Addr)(Q:VK):List V->Hp->Prop:=λ vs H=>sp (.ref a::(vs++dvs)) H Q E
theorem sZ(sp:Sp)(dvs:List V)(E:XK)(a:Addr)(Q:VK)(H:Hp):uW sp dvs E a Q [] H=sp (.ref a::dvs) H Q E:=rfl
def qQ(C:Addr)(m:Str)(sp:Sp)(dvs:List V)(E:XK)(t:TA)(σ:St)(Q:VK)(a:Addr)(H:Hp):HO->Prop:=λ o=>match o with
 | .ins C' dx fs=>C'=C/\fs.lookup m=none/\t σ H (uW sp dvs E a Q)
 | _=>False
theorem An(C:Addr)(m:Str)(sp:Sp)(dvs:List V)(E:XK)(t:TA)(σ:St)(Q:VK)(a:Addr)(H:Hp)(dx:Addr)(fs:List (Str × V)):qQ C m sp dvs E t σ Q a H (.ins C dx fs)=(fs.lookup m=none/\t σ H (uW sp dvs E a Q)):=propext ⟨λ h=>h.2,λ h=>⟨rfl,h⟩⟩
def uo(C:Addr)(m:Str)(sp:Sp)(dvs:List V)(E:XK)(t:TA)(σ:St)(Q:VK):VK:=λ x H=>match x with
 | .ref a=>az (H a) (qQ C m sp dvs E t σ Q a H)
 | _=>False
theorem ES(C:Addr)(m:Str)(sp:Sp)(dvs:List V)(E:XK)(t:TA)(σ:St)(Q:VK)(a:Addr)(H:Hp):uo C m sp dvs E t σ Q (.ref a) H=az (H a) (qQ C m sp dvs E t σ Q a H):=rfl
def GZ(C:Addr)(m:Str)(sp:Sp)(dvs:List V)(E:XK)(ta:TE)(t:TA):TE:=λ σ H Q=>ta σ H (uo C m sp dvs E t σ Q)
theorem Ex(C:Addr)(m:Str)(sp:Sp)(dvs:List V)(E:XK)(ta:TE)(t:TA)(σ:St)(H:Hp)(Q:VK):GZ C m sp dvs E ta t σ H Q=ta σ H (uo C m sp dvs E t σ Q):=rfl
theorem AU{C:Addr}{m:Str}{sp:Sp}{dvs:List V}{E:XK}{t:TA}{σ:St}{Q:VK}{x:V}{H:Hp}(h:uo C m sp dvs E t σ Q x H):∃ a dx fs,x=.ref a/\H a=some (.ins C dx fs)/\fs.lookup m=none/\t σ H λ vs H2=>sp (x::(vs++dvs)) H2 Q E:=by
 unfold uo at h;split at h
 ·obtain⟨o,e,h⟩:=ai h;unfold qQ at h;split at h
  ·obtain⟨rfl,l,h⟩:=h;exact⟨_,_,_,rfl,e,l,h⟩
  ·exact h.elim
 ·exact h.elim
section
variable {X:Cx}{CX:CXT}{k:Nat}{f C:Addr}{fd:FuncData}{ps:List Str}{sp:Sp}{dvs:List V}{ds:List Value}{E:XK}{x m:Str}{p pos apos:Pos}{e o:Expr}{es:List Expr}{ta:TE}{t:TA}
theorem wM{pl:Sem Bool}(he:PE X o ta)(c:Cls X.K C)(hm:yO X.K C m f)(F:bL X.prog X.w X.K X.mg X.base CX k f fd ps sp)(hr:iP k X.A)(hb:aw X.K fd ps ds)(hd:aU dvs ds)(hx:ku CX X E)
  (ht:eval (.Call (.Attribute o m apos) [] [] pos) X.env=(do
   let ov ←eval o X.env
   standAt apos.atName
   let (f,first) ←holding [ov] (getMethod ov m pl)
   callWith pos f first (backTo pos (starEach [] X.env)) (backToKw pos (keywordEach [] X.env))):=by rfl) :
  PE X (.Call (.Attribute o m apos) [] [] pos) (GZ C m sp dvs E ta Gs):=by
 intro pins s σ H Q I h;refine W.methodCall_KW (pl:=pl) (thn (he pins s σ H _ I h) λ u s1 ⟨x,H1,I1,rx,q0⟩=>?_) ht;obtain⟨a,dx,fs,ex,ea,l,q⟩:=AU q0;subst ex;obtain rfl:u=Value.ref a:=rx;refine tL I1 ea c hm l ?_;exact W.callWith_K0 (first:=[.ref a]) I1.kIn hm.kp (BR (us:=[.ref a]) (vs:=[.ref a]) F hr hb hd hx I1 (.cons rfl .nil) q)
end
def CP(x:Addr)(Q:VK):VK:=λ v H=>v=.non/\Q (.ref x) H
theorem ET(x:Addr)(Q:VK)(H:Hp):CP x Q .non H=Q (.ref x) H:=propext ⟨λ h=>h.2,λ h=>⟨rfl,h⟩⟩
def uq(C:Addr)(sp:Sp)(dvs:List V)(E:XK)(Q:VK):List V->Hp->Prop:=λ vs H=>∀ (x dx:Addr) (H':Hp),H x=none->H dx=none->dx ≠ x->Ext H H'->H' x=some (.ins C dx [])->H' dx=some (.own x)->sp (.ref x::(vs++dvs)) H' (CP x Q) E
theorem xi(C:Addr)(sp:Sp)(dvs:List V)(E:XK)(Q:VK)(a b c:V)(H:Hp):uq C sp dvs E Q [a,b,c] H=∀ (x dx:Addr) (H':Hp),H x=none->H dx=none->dx ≠ x->Ext H H'->H' x=some (.ins C dx [])->H' dx=some (.own x)->sp (.ref x::a::b::c::dvs) H' (CP x Q) E:=rfl
def Ha(C:Addr)(sp:Sp)(dvs:List V)(E:XK)(t:TA):TE:=λ σ H Q=>t σ H (uq C sp dvs E Q)
theorem Ey(C:Addr)(sp:Sp)(dvs:List V)(E:XK)(t:TA)(σ:St)(H:Hp)(Q:VK):Ha C sp dvs E t σ H Q=t σ H (uq C sp dvs E Q):=rfl
section
variable {X:Cx}{CX:CXT}{k:Nat}{f C:Addr}{fd:FuncData}{ps:List Str}{sp:Sp}{dvs:List V}{ds:List Value}{E:XK}{x m:Str}{p pos apos:Pos}{e o:Expr}{es:List Expr}{ta:TE}{t:TA}
theorem uq.to{Q:VK}{vs:List V}{H:Hp}(h:uq C sp dvs E Q vs H):∀ x dx,H x=none->H dx=none->dx ≠ x->sp (.ref x::(vs++dvs)) (upd (upd H dx (.own x)) x (.ins C dx [])) (λ v H2=>v=.non/\Q (.ref x) H2) E:=λ x dx hx hd ne=>
 h x dx _ hx hd ne ((Ext.new hd).put hx) aq (by rw [af ne,aq])
theorem zP(M:Mk X.K C f)(F:bL X.prog X.w X.K X.mg X.base CX k f fd ps sp)(hr:iP (k+1) X.A)(hg:Gl X x)(hm:X.mg x=some (.ref C))(hb:aw X.K fd ps ds)(hd:aU dvs ds)(hx:ku CX X E)
  (ha:PA X (e::es) t) (hdb:(x == ("__debug__":Str))=false:=by decide) (he:starEach (e::es) X.env=(false,eval e X.env)::starEach es X.env:=by rfl) (hpl:(backTo pos (starEach es X.env)).any (·.1)=false:=by rfl) :
  PE X (.Call (.Name x p) (e::es) [] pos) (Ha C sp dvs E t):=by
 intro pins s σ H Q I h;refine Qm (pJ I hg hm ?_ hdb);refine W.callWith_K (h₀:=X.base) I.ok.mod.kin M.kp (thn (ha pos pins s σ H _ I h) λ us s1 ⟨vs,H1,I1,r,q⟩=>⟨I1.kIn,?_⟩) he hpl;exact zF M F hr hb hd hx I1 r q.to
end
def vF:Expr->Bool
 | .Starred ..=>false
 | _=>true
theorem Dn{e:Expr}{es:List Expr}{env:Env}(h:vF e=true):starEach (e::es) env=(false,eval e env)::starEach es env:=by
 cases e<;>first|rfl|cases h
theorem Gv{X:Cx}{e:Expr}{es:List Expr}{te:TE}{t:TA}(ha:PE X e te)(hr:PA X es t)(hn:vF e=true:=by rfl):PA X (e::es) (yR te t):=DL ha hr (Dn hn)
def dc(H:Hp)(z:List Int)(y:V):Prop:=∃ q,y=.ref q/\H q=some (.tup (z.map V.int))
theorem dc.ext{H H':Hp}{z:List Int}{y:V}(h:dc H z y)(e:Ext H H'):dc H' z y:=by
 obtain⟨q,rfl,hq⟩:=h;exact⟨q,rfl,e.at hq⟩
theorem dc.upd{H:Hp}{z:List Int}{y:V}{p:Addr}{xs:List V}{o:HO}(h:dc H z y)(hp:H p=some (.lst xs)):dc (upd H p o) z y:=by
 obtain⟨q,rfl,hq⟩:=h;exact⟨q,rfl,by rw [af (λ z=>by rw [z,hp] at hq;cases hq)];exact hq⟩
def bV(H:Hp)(p:Addr)(zs:List (List Int)):Prop:=∃ ys,H p=some (.lst ys)/\Al (dc H) zs ys
theorem bV.ext{H H':Hp}{p:Addr}{zs:List (List Int)}(h:bV H p zs)(e:Ext H H'):bV H' p zs:=by
 obtain⟨ys,hp,al⟩:=h;exact⟨ys,e.at hp,al.imp λ _ _ r=>r.ext e⟩
theorem ag{n:Nat}(h:n<=5000):n<=sizeLine:=PJ h (by decide)
theorem eR{n:Nat}(h:n < 5000):n < sizeLine:=OW h (by decide)
def K2(xs:List V)(H:Hp)(Q:VK):List V->Prop:=λ ys=>xs.length+ys.length<=sizeLine/\∀ (p:Addr) (H':Hp),Ext H H'->H' p=some (.tup (xs++ys))->Q (.ref p) H'
theorem fE(xs:List V)(H:Hp)(Q:VK)(ys:List V):K2 xs H Q ys=(xs.length+ys.length<=sizeLine/\∀ (p:Addr) (H':Hp),Ext H H'->H' p=some (.tup (xs++ys))->Q (.ref p) H'):=rfl
def K3(b:Addr)(H:Hp)(Q:VK):List V->Prop:=λ xs=>az (iQ H b) (K2 xs H Q)
theorem JA(b:Addr)(H:Hp)(Q:VK)(xs:List V):K3 b H Q xs=az (iQ H b) (K2 xs H Q):=rfl
def CG:R2:=λ x y H Q=>match x,y with
 | .ref l,.ref b=>az (iQ H l) (K3 b H Q)
 | _,_=>False
theorem EB(l b:Addr)(H:Hp)(Q:VK):CG (.ref l) (.ref b) H Q=az (iQ H l) (K3 b H Q):=rfl
theorem cC{X:Cx}:OpR X (binaryOp .Add) CG:=by
 intro pins s σ H x y v u Q I rx ry h;unfold CG at h;split at h
 ·rename_i l b;obtain⟨xs,e1,h⟩:=ai h;obtain⟨ys,e2,hz,k⟩:=ai h;have g1:=qK e1;have g2:=qK e2
  by_cases hx:xs=[]
  ·subst hx;cases rx;cases ry;obtain⟨its,r1,p1,_⟩:=I.tuple (SqT.of g1);obtain⟨its2,r2,p2,_⟩:=I.tuple (SqT.of g2);obtain⟨⟨cls,dd,data,sl⟩,ho,hc,n,hd⟩:=id p1;obtain⟨⟨cls2,dd2,data2,sl2⟩,ho2,hc2,n2,hd2⟩:=id p2;simp only at hc hd hc2 hd2;subst hc hd hc2 hd2;cases r1
   exact concat_meets ⟨_,ho,rfl⟩ ⟨_,ho2,rfl⟩ noFill_tuple_add seq_tuple_add RL RD (RB _ _)
    (tuple_addW0 l b #[] its2.toArray n n2 dd dd2 sl sl2 (by simp)) ⟨ho,ho2,show EP X pins σ Q (.ref b) s from ⟨.ref b,H,I,rfl,k b H (Ext.refl _) (by rw [Sy];exact g2)⟩⟩
  ·refine DQ pins s σ H (.ref l) (.ref b) v u Q I rx ry ⟨l,b,xs,ys,rfl,rfl,SqT.of g1,SqT.of g2,hx,hz,λ hy=>?_,λ hy p hp=>k p _ (Ext.new hp) aq⟩;subst hy;exact k l H (Ext.refl _) (by rw [Rh];exact g1)
 ·exact h.elim
theorem gq{K:W.Frag}{H:Hp}{α:Type}{R:α->V->Hp->Prop}(hR:∀ z y H H',R z y H->Ext H H'->R z y H'){l:Addr}{ys:List V}{zs:List α}(h:H l=some (.lst ys))(al:Al (λ z y=>R z y H) zs ys) :
  (∀ i z H',zs[i]? = some z->Ext H H'->(Itl K l).go i H'/\∀ x H'',(Itl K l).yld i H' x H''->Ext H' H''/\R z x H'')/\∀ H',Ext H H'->(Itl K l).stop zs.length H':=by
 refine⟨λ i z H' hz e=>?_,λ H' e=>⟨ys,SqL.of (e.at h),by rw [al.1];exact OC _⟩⟩;have hi:i < ys.length:=by rw [al.1];exact(Oy.mp hz).1
 have hy:ys[i]? = some ys[i]:=Ow hi;refine⟨⟨ys,ys[i],SqL.of (e.at h),hy⟩,λ x H'' y=>?_⟩;have hx:x=ys[i]:=O1 ((y.2 ys (SqL.of (e.at h))).symm.trans hy);refine⟨by rw [y.1];exact Ext.refl _,?_⟩;rw [hx,y.1];exact hR _ _ _ _ (al.2 i z _ hz hy) e
def axP(a:Int × Int)(x:V)(H:Hp):Prop:=∃ q,x=.ref q/\H q=some (.tup [.int a.1,.int a.2])
theorem axP.ext{a:Int × Int}{x:V}{H H':Hp}(h:axP a x H)(e:Ext H H'):axP a x H':=by
 obtain⟨q,rfl,hq⟩:=h;exact⟨q,rfl,e.at hq⟩
theorem iW{H:Hp}{axs:List (Int × Int)}{ys:List V}(al:Al (dc H) (axs.map λ a=>[a.1,a.2]) ys):Al (λ a y=>axP a y H) axs ys:=by
 refine⟨by rw [al.1,OB],λ i a y ha hy=>?_⟩;obtain⟨q,hq,h⟩:=al.2 i [a.1,a.2] y (by rw [OL,ha];rfl) hy;exact⟨q,hq,h⟩
abbrev fH(h:Heap)(z TI TO:Addr)(f0:Value)(f:Bool):Prop:=
 h.get? z=some { cls:=.type "zip",dict:=none,data:=.fields #[f0,.bool f,.bool false,.ref TI,.ref TO],slots:=#[] }
section
variable {prog:Program}{w:World}{A:Around}{E:Value->Shared->Prop}{s:Shared}
theorem BH{a:Addr}{o:Obj}{Q:Option Obj->Shared->Prop}(ho:s.heap.get? a=some o)(h:Q (some o) s):wpAny (model prog w) A (loadIfAlive a) Q E s:=by
 have h':Q (s.heap.get? a) s:=by rw [ho];exact h
 exact λ _ _ _=>h'
variable {z TI TO i j:Addr}{f g:List Addr}{ti tj:Nat->Heap->Prop}{vi vj:Nat->Option Value}{k m:Nat}{x y:Value}{t:Addr}{fl:Bool}{ot:Obj}
theorem m5{Q:Bool->Shared->Prop}(hz:fH s.heap z TI TO (rawInt t) fl)(ht:s.heap.get? t=some ot)
  (hQ:∀ h',fH h' z TI TO (rawInt t) true->Heap.SameBut z s.heap h'->Q false { s with heap:=h' }):wpAny (model prog w) A (Builtin.SmallTypes.ownedTupleIsFree (.ref z)) Q E s:=by
 unfold Builtin.SmallTypes.ownedTupleIsFree;refine wpAny_bind (wpAny_field hz rfl (x:=rawInt t) rfl ?_)
 show wpAny _ _ (loadIfAlive ((t:Int).toNat) >>= _) _ _ _
 rw [OI];refine My (BH ht ?_);simp only [Option.isNone_some,Qa,Q5];refine My (Pb hz rfl (x:=.bool fl) rfl ?_)
 cases fl with
 | true=>
  rw [O2 (show ¬ ((Value.bool true != Value.bool true)=true) from OP)];exact Oz (hQ s.heap hz (Heap.SameBut.refl _ _))
 | false=>
  rw [Pd (show (Value.bool false != Value.bool true)=true from rfl)];exact My (Pg hz (by simp) λ h3 z3 s3=>Oz (hQ h3 z3 s3))
theorem wo(S:Src prog w i f ti vi)(T:Src prog w j g tj vj)(D:eE z TI TO i j f g){Q:Value->Shared->Prop}
  (hz:fH s.heap z TI TO (rawInt t) fl) (ht:s.heap.get? t=some ot) (hTI:IsPair s.heap TI (.ref i) (.ref j)) (hi:ti k s.heap) (hj:tj m s.heap) (hx:vi k=some x) (hy:vj m=some y)
  (hQ:∀ h',fH h' z TI TO (rawInt t) true->ti (k+1) h'->tj (m+1) h'->IsPair h' s.heap.objs.size x y->h'.objs.size=s.heap.objs.size+1->(∀ c o,c ∉ [z,i,j]->s.heap.get? c=some o->h'.get? c=some o)->Q (.ref s.heap.objs.size) { s with heap:=h' }) :
  wpAny (model prog w) A (Builtin.«zip.__next__» ⟨[.ref z],[]⟩) (λ fin s'=>∃ v,fin=.done (.ret v)/\Q v s') E s:=by
 have iz:i ≠ z:=aZ S.mem D.zf;have jz:j ≠ z:=aZ T.mem D.zg;refine My (m:=field (.ref z) 2) (Pb hz rfl (x:=.bool false) rfl ?_);refine My (m:=field (.ref z) 3) (Pb hz rfl (x:=.ref TI) rfl (My (OZ hTI rfl ?_)));refine My (m:=Builtin.SmallTypes.ownedTupleIsFree (.ref z)) (m5 hz ht λ q1 z1 s1=>?_);simp only [Qa,Q5];refine My ?_;simp only [List.forIn_toArray,QT,RN];refine My (My (P2 (My (m:=Builtin.SmallTypes.nextOf (.ref i)) (S.item _ k _ x _ _ (S.but hi s1.extBut D.zf) hx λ q2 i2 s2=>Oz ?_))));have j2:tj m q2:=T.but (T.but hj s1.extBut D.zg) s2.extBut D.ig;refine Oz ?_;refine My (My (P2 (My (m:=Builtin.SmallTypes.nextOf (.ref j)) (T.item _ m _ y _ _ j2 hy λ q3 j3 s3=>Oz ?_))));refine Oz (Oz ?_);refine My (wpAny_newTuple (hsz:=(show 2<=sizeLine by decide)) ?_);have sz:q3.objs.size=s.heap.objs.size:=by rw [s3.1,s2.1,s1.1]
 have z3:fH q3 z TI TO (rawInt t) true:=s3.extBut _ _ jz.symm (s2.extBut _ _ iz.symm z1);have i3:ti (k+1) q3:=S.but i2 s3.extBut D.jf;refine Oz ⟨_,rfl,?_⟩
 show Q (.ref q3.objs.size) _
 have n3:IsPair (q3.push { cls:=.type "tuple",data:=.seq #[x,y] }) q3.objs.size x y:=OD _ rfl;have n4:(q3.push { cls:=.type "tuple",data:=.seq #[x,y] }).objs.size=q3.objs.size+1:=O5 ..;rw [sz] at n3 n4;rw [sz];refine hQ _ (Ox _ z3) (S.keep _ _ _ i3 λ c hc o e=>Ox _ e) (T.keep _ _ _ j3 λ c hc o e=>Ox _ e) n3 n4 λ c o hc e=>?_;simp only [OU,OJ,O6,QU] at hc;exact Ox _ (s3.extBut _ _ hc.2.2 (s2.extBut _ _ hc.2.1 (s1.extBut _ _ hc.1 e)))
theorem zp(hh:A.handled=none)(S:Src prog w i f ti vi)(T:Src prog w j g tj vj)(D:eE z TI TO i j f g){Q:Fin->Shared->Prop}
  (hz:fH s.heap z TI TO (rawInt t) fl) (ht:s.heap.get? t=some ot) (hTI:IsPair s.heap TI (.ref i) (.ref j)) (hi:ti k s.heap) (hj:tj m s.heap) (hxy:vi k=none\/vj m=none)
  (hE:∀ h' e,(∀ c o,c ∉ [z,i,j]->s.heap.get? c=some o->h'.get? c=some o)->(∃ o,h'.get? e=some o/\o.cls=.type "StopIteration")->E (.ref e) { s with heap:=h' }) :
  wpAny (model prog w) A (Builtin.«zip.__next__» ⟨[.ref z],[]⟩) Q E s:=by
 refine My (m:=field (.ref z) 2) (Pb hz rfl (x:=.bool false) rfl ?_);refine My (m:=field (.ref z) 3) (Pb hz rfl (x:=.ref TI) rfl (My (OZ hTI rfl ?_)));refine My (m:=Builtin.SmallTypes.ownedTupleIsFree (.ref z)) (m5 hz ht λ q1 z1 s1=>?_);simp only [Qa,Q5];refine My ?_;simp only [List.forIn_toArray,QT,RN];refine My (My (P2 (My (m:=Builtin.SmallTypes.nextOf (.ref i)) ?_)))
 cases hx:vi k with
 | none=>
  refine S.fin _ k _ _ _ hh (S.but hi s1.extBut D.zf) hx λ q2 e s2 he=>hE q2 e (λ c o hc q=>?_) he;simp only [OU,OJ,O6,QU] at hc;exact s2 _ _ hc.2.1 (s1.extBut _ _ hc.1 q)
 | some x=>
  have hy:vj m=none:=hxy.resolve_left (by rw [hx];exact Rk x);refine S.item _ k _ x _ _ (S.but hi s1.extBut D.zf) hx λ q2 i2 s2=>Oz (Oz ?_);have j2:tj m q2:=T.but (T.but hj s1.extBut D.zg) s2.extBut D.ig;refine My (My (P2 (My (m:=Builtin.SmallTypes.nextOf (.ref j)) (T.fin _ m _ _ _ hh j2 hy λ q3 e s3 he=>hE q3 e (λ c o hc q=>?_) he))));simp only [OU,OJ,O6,QU] at hc;exact s3 _ _ hc.2.2 (s2.extBut _ _ hc.2.1 (s1.extBut _ _ hc.1 q))
theorem kc(S:Src prog w i f ti vi)(T:Src prog w j g tj vj)(D:eE z TI TO i j f g){Q:Option Value->Shared->Prop}
  (hz:fH s.heap z TI TO (rawInt t) fl) (ht:s.heap.get? t=some ot) (hTI:IsPair s.heap TI (.ref i) (.ref j)) (hi:ti k s.heap) (hj:tj m s.heap) (hx:vi k=some x) (hy:vj m=some y)
  (hQ:∀ h',fH h' z TI TO (rawInt t) true->ti (k+1) h'->tj (m+1) h'->IsPair h' s.heap.objs.size x y->h'.objs.size=s.heap.objs.size+1->(∀ c o,c ∉ [z,i,j]->s.heap.get? c=some o->h'.get? c=some o)->Q (some (.ref s.heap.objs.size)) { s with heap:=h' }) :
  wpAny (model prog w) A (pyNext (.ref z)) Q E s:=by
 have ty:s.TypeIs (.ref z) "zip":=⟨_,hz,rfl⟩;unfold pyNext;exact wpAny_bind (wpAny_attempt (wpAny_callSpecial?_slot (name:=Str.ofString "__next__") ty F.slot_zip_next (wpAny_call_entry F.slot_zip_next ty F.entry_zip_next (wo S T D hz ht hTI hi hj hx hy λ h' c1 c2 c3 c4 c5 c6=>wpAny_pure (hQ h' c1 c2 c3 c4 c5 c6)) (F.args_zip_next_1 _))))
theorem md(hh:A.handled=none)(S:Src prog w i f ti vi)(T:Src prog w j g tj vj)(D:eE z TI TO i j f g){Q:Option Value->Shared->Prop}
  (hz:fH s.heap z TI TO (rawInt t) fl) (ht:s.heap.get? t=some ot) (hTI:IsPair s.heap TI (.ref i) (.ref j)) (hi:ti k s.heap) (hj:tj m s.heap) (hxy:vi k=none\/vj m=none)
  (hQ:∀ h',(∀ c o,c ∉ [z,i,j]->s.heap.get? c=some o->h'.get? c=some o)->Q none { s with heap:=h' }):wpAny (model prog w) A (pyNext (.ref z)) Q E s:=by
 have ty:s.TypeIs (.ref z) "zip":=⟨_,hz,rfl⟩;unfold pyNext;refine wpAny_bind (wpAny_attempt (wpAny_callSpecial?_slot (name:=Str.ofString "__next__") ty F.slot_zip_next (wpAny_call_entry F.slot_zip_next ty F.entry_zip_next (zp (show A.in1.handled=none from hh) S T D hz ht hTI hi hj hxy λ h' e kp he=>?_) (F.args_zip_next_1 _))));obtain⟨o,ho,hc⟩:=he;exact wpAny_bind (wpAny_isInstance (T := "StopIteration") (b:=true) ⟨o,ho,hc⟩ isSubtype_stop (wpAny_pure (hQ _ kp)))
def Zst(ka kb:Bool)(a b z TI TO p q:Addr)(as bs:Array Value)(n:Nat)(h:Heap):Prop:=
 (IsZip h z TI TO .none\/∃ (t:Addr) (fl:Bool) (ot:Obj),fH h z TI TO (rawInt t) fl/\h.get? t=some ot/\t ∉ [z,TI,TO,p,q])/\IsPair h TI (.ref p) (.ref q)/\(∃ u v,IsPair h TO u v)/\(bb h ka p a n/\SeqAt h ka a as)/\(bb h kb q b n/\SeqAt h kb b bs)
theorem Zst.keep{ka kb:Bool}{a b z TI TO p q:Addr}{as bs:Array Value}{n:Nat}{h h':Heap}(st:Zst ka kb a b z TI TO p q as bs n h)(k:∀ c o,h.get? c=some o->h'.get? c=some o):Zst ka kb a b z TI TO p q as bs n h':=by
 obtain⟨e0,e1,⟨u,v,e2⟩,⟨e3,e4⟩,e5,e6⟩:=st;refine⟨e0.imp (λ e=>k _ _ e) (λ ⟨t,fl,ot,x1,x2,x3⟩=>⟨t,fl,ot,k _ _ x1,k _ _ x2,x3⟩),k _ _ e1,⟨u,v,k _ _ e2⟩,⟨e3.at λ o e=>k _ o e,e4.at λ o e=>k _ o e⟩,e5.at λ o e=>k _ o e,e6.at λ o e=>k _ o e⟩
variable {ka kb:Bool}{a b p q:Addr}{as bs:Array Value}{n:Nat}
theorem zd(nd:[z,TI,TO,p,q].Nodup)(na:a ∉ [z,TI,TO,p,q])(nb:b ∉ [z,TI,TO,p,q]){Q:Option Value->Shared->Prop}(st:Zst ka kb a b z TI TO p q as bs n s.heap)(hx:as[n]? = some x)(hy:bs[n]? = some y)
  (hQ:∀ h',Zst ka kb a b z TI TO p q as bs (n+1) h'->IsPair h' s.heap.objs.size x y->h'.objs.size=s.heap.objs.size+1->(∀ c o,c ∉ [z,TI,TO,p,q]->s.heap.get? c=some o->h'.get? c=some o)->Q (some (.ref s.heap.objs.size)) { s with heap:=h' }) :
  wpAny (model prog w) A (pyNext (.ref z)) Q E s:=by
 obtain⟨e0,e1,⟨u,v,e2⟩,e3,e4⟩:=st;simp only [Qe,OU,OJ,O6,QU,Qz,and_true,Q0] at nd na nb;obtain⟨⟨z1,z2,z3,z4⟩,⟨t1,t2,t3⟩,⟨w1,w2⟩,y1⟩:=nd;obtain⟨a1,a2,a3,a4,a5⟩:=na;obtain⟨b1,b2,b3,b4,b5⟩:=nb;have S:=dg (prog:=prog) (w:=w) ka p a a4 as;have T:=dg (prog:=prog) (w:=w) kb q b b5 bs;have D:eE z TI TO p q [p,a] [q,b]:=⟨⟨OK z1,t1,t2,t3⟩,z2,by simp [z3,OK a1],by simp [z4,OK b1],by simp [w1,OK a3],by simp [w2,OK b3],by simp [y1,OK b4],by simp [OK y1,OK a5]⟩
 have zl:z < s.heap.objs.size/\TI < s.heap.objs.size/\TO < s.heap.objs.size/\p < s.heap.objs.size/\q < s.heap.objs.size:=by
  refine⟨?_,OA e1,OA e2,?_,?_⟩
  ·rcases e0 with e|⟨_,_,_,e,_⟩<;>exact OA e
  ·obtain⟨o,_,e,_⟩:=e3.1.obj;exact OA e
  ·obtain⟨o,_,e,_⟩:=e4.1.obj;exact OA e
 have nw:s.heap.objs.size ∉ [z,TI,TO,p,q]:=by
  simp only [OU,OJ,O6,QU];exact⟨Pn zl.1,Pn zl.2.1,Pn zl.2.2.1,Pn zl.2.2.2.1,Pn zl.2.2.2.2⟩
 rcases e0 with e0|⟨t,fl,ot,e0,et,nt⟩
 ·refine fJ S T D e0 e1 e2 e3 e4 hx hy λ h1 c1 c2 c3 c4 c5 c6 c7=>hQ h1 ⟨.inr ⟨_,false,_,c1,c5,nw⟩,c7 TI _ (by simp [OK z1,t1,t2,t3]) e1,⟨_,_,c2⟩,c3,c4⟩ c5 c6 λ c o hc e=>c7 c o (λ z=>hc ?_) e;simp only [OU,OJ,O6] at z ⊢
  rcases z with h|h|h|h<;>simp [h]
 ·refine kc S T D e0 et e1 e3 e4 hx hy λ h1 c1 c3 c4 c5 c6 c7=>hQ h1 ⟨.inr ⟨_,true,_,c1,c7 t _ (λ z=>nt ?_) et,nt⟩,c7 TI _ (by simp [OK z1,t2,t3]) e1,⟨_,_,c7 TO _ (by simp [OK z2,w1,w2]) e2⟩,c3,c4⟩ c5 c6 λ c o hc e=>c7 c o (λ z=>hc ?_) e
  all_goals
   simp only [OU,OJ,O6] at z ⊢
   rcases z with h|h|h<;>simp [h]
theorem CZ(hh:A.handled=none)(nd:[z,TI,TO,p,q].Nodup)(na:a ∉ [z,TI,TO,p,q])(nb:b ∉ [z,TI,TO,p,q]){Q:Option Value->Shared->Prop}(st:Zst ka kb a b z TI TO p q as bs n s.heap)(hxy:as[n]? = none\/bs[n]? = none)
  (hQ:∀ h',(∀ c o,c ∉ [z,TI,TO,p,q]->s.heap.get? c=some o->h'.get? c=some o)->Q none { s with heap:=h' }) :
  wpAny (model prog w) A (pyNext (.ref z)) Q E s:=by
 obtain⟨e0,e1,⟨u,v,e2⟩,e3,e4⟩:=st;simp only [Qe,OU,OJ,O6,QU,Qz,and_true,Q0] at nd na nb;obtain⟨⟨z1,z2,z3,z4⟩,⟨t1,t2,t3⟩,⟨w1,w2⟩,y1⟩:=nd;obtain⟨a1,a2,a3,a4,a5⟩:=na;obtain⟨b1,b2,b3,b4,b5⟩:=nb;have S:=dg (prog:=prog) (w:=w) ka p a a4 as;have T:=dg (prog:=prog) (w:=w) kb q b b5 bs;have D:eE z TI TO p q [p,a] [q,b]:=⟨⟨OK z1,t1,t2,t3⟩,z2,by simp [z3,OK a1],by simp [z4,OK b1],by simp [w1,OK a3],by simp [w2,OK b3],by simp [y1,OK b4],by simp [OK y1,OK a5]⟩
 rcases e0 with e0|⟨t,fl,ot,e0,et,nt⟩
 ·refine gH hh S T D e0 e1 e2 e3 e4 hxy λ h1 kp=>hQ h1 λ c o hc e=>kp c o (λ z=>hc ?_) e;simp only [OU,OJ,O6] at z ⊢
  rcases z with h|h|h|h<;>simp [h]
 ·refine md hh S T D e0 et e1 e3 e4 hxy λ h1 kp=>hQ h1 λ c o hc e=>kp c o (λ z=>hc ?_) e;simp only [OU,OJ,O6] at z ⊢
  rcases z with h|h|h<;>simp [h]
structure Got(h:Heap)(lo:Nat)(as bs:Array Value)(ts:List Addr):Prop where
 nd:ts.Nodup
 lo:∀ t∈ts,lo<=t
 get:∀ (m:Nat) t,ts[m]? = some t->∃ x y,as[m]? = some x/\bs[m]? = some y/\IsPair h t x y
theorem Got.lt{h:Heap}{lo:Nat}{as bs:Array Value}{ts:List Addr}(G:Got h lo as bs ts):∀ t∈ts,t < h.objs.size:=λ t ht=>by
 obtain⟨m,hm,rfl⟩:=Qw ht;obtain⟨x,y,_,_,e⟩:=G.get m _ (Ow hm);exact OA e
theorem zh{R:Result->Shared->Prop}(hh:A.handled=none)(nd:[z,TI,TO,p,q].Nodup)(na:a ∉ [z,TI,TO,p,q])(nb:b ∉ [z,TI,TO,p,q])(S lo:Addr)(hS:S ∉ [z,TI,TO,p,q])(aS:a ≠ S)(bS:b ≠ S)(hlo:∀ c∈[z,TI,TO,p,q],lo<=c)(hlS:lo<=S)(hsz:min as.size bs.size<=sizeLine) :
  ∀ (k n:Nat) (s:Shared) (ts:List Addr) (c:Nat),min as.size bs.size - n=k->n<=min as.size bs.size->Zst ka kb a b z TI TO p q as bs n s.heap->s.heap.get? S=some { cls:=.type "list",dict:=none,data:=.seq (ts.map Value.ref).toArray c,slots:=#[] }->ts.length=n->Got s.heap lo as bs ts->S ∉ ts->(∀ t∈ts,t ∉ [z,TI,TO,p,q])->lo<=s.heap.objs.size →
  (∀ h' ts' c',h'.get? S=some { cls:=.type "list",dict:=none,data:=.seq (ts'.map Value.ref).toArray c',slots:=#[] }->ts'.length=min as.size bs.size->Got h' lo as bs ts'->S ∉ ts'->(∀ d o,d < lo->s.heap.get? d=some o->h'.get? d=some o)->R (.ok (.ret .none)) { s with heap:=h' }) →
  codeAny (model prog w) A (.builtin "list.extend.loop" ⟨[.ref S,.ref z,.none],[]⟩) R s:=by
 intro k
 induction k with
 | zero=>
  intro n s ts c hk hn st hL hl G hSt hts hlz hR;refine Qq PySem.F.entry_extend_loop ?_;rw [P4 QD _]
  show wpAny _ A.in1 (pyNext (.ref z) >>= _) _ _ s
  refine My (CZ (show A.in1.handled=none from hh) nd na nb st ?_ λ h' kp=>?_)
  ·by_cases h1:as.size<=n
   ·exact .inl (Array.getElem?_eq_none h1)
   ·exact .inr (Array.getElem?_eq_none (by omega))
  ·exact Oz (hR h' ts c (kp _ _ hS hL) (by omega) ⟨G.nd,G.lo,λ m t ht=>by
    obtain⟨x,y,e1,e2,e3⟩:=G.get m t ht;exact⟨x,y,e1,e2,kp _ _ (hts t (OX ht)) e3⟩⟩ hSt λ d o hd e=>kp d o (λ z=>absurd (hlo d z) (Nat.not_le.mpr hd)) e)
 | succ k ih=>
  intro n s ts c hk hn st hL hl G hSt hts hlz hR;have h1:n < as.size:=by omega
  have h2:n < bs.size:=by omega
  refine Qq PySem.F.entry_extend_loop ?_;rw [P4 QD _]
  show wpAny _ A.in1 (pyNext (.ref z) >>= _) _ _ s
  refine My (zd nd na nb st (QG h1) (QG h2) λ h' st' pr sz kp=>?_);have hL':=kp _ _ hS hL
  show wpAny _ A.in1 (updateSeq S (·.push (.ref s.heap.objs.size)) >>= _) _ _ _
  refine My ?_;have Sn:S ≠ s.heap.objs.size:=OS (OA hL);have kp2:∀ d o,d ≠ S->h'.get? d=some o->(h'.update S (Obj.mapSeq (·.push (.ref s.heap.objs.size)))).get? d=some o:=λ d o hd e=>(OY _ _ (OK hd)).trans e
  have G':Got (h'.update S (Obj.mapSeq (·.push (.ref s.heap.objs.size)))) lo as bs (ts++[s.heap.objs.size]):=by
   refine⟨?_,λ t ht=>?_,λ m t ht=>?_⟩
   ·rw [RC];refine⟨G.nd,by simp,λ x hx y hy=>?_⟩;rw [OE.mp hy];exact OS (G.lt x hx)
   ·rcases OQ.mp ht with ht|ht
    ·exact G.lo t ht
    ·rw [OE.mp ht];exact hlz
   ·by_cases hm:m < ts.length
    ·rw [Pj hm] at ht;obtain⟨x,y,e1,e2,e3⟩:=G.get m t ht;have hmem:=OX ht;exact⟨x,y,e1,e2,kp2 _ _ (λ z=>hSt (z ▸ hmem)) (kp _ _ (hts t hmem) e3)⟩
    ·rw [O7 (by omega)] at ht
     have h0:m - ts.length=0:=by
      rcases Nat.eq_zero_or_pos (m - ts.length) with h|h
      ·exact h
      ·rw [Qu (by simp;omega)] at ht;cases ht
     rw [h0] at ht;simp at ht;subst ht;have hmn:m=n:=by omega
     subst hmn;exact⟨_,_,QG h1,QG h2,kp2 _ _ (OK Sn) pr⟩
  have nw:s.heap.objs.size ∉ [z,TI,TO,p,q]:=by
   obtain⟨e0,e1,⟨u,v,e2⟩,e3,e4⟩:=st;simp only [OU,OJ,O6,QU];refine⟨?_,Pn (OA e1),Pn (OA e2),?_,?_⟩
   ·rcases e0 with e|⟨_,_,_,e,_⟩<;>exact Pn (OA e)
   ·obtain⟨o,_,e,_⟩:=e3.1.obj;exact Pn (OA e)
   ·obtain⟨o,_,e,_⟩:=e4.1.obj;exact Pn (OA e)
  have stK:Zst ka kb a b z TI TO p q as bs (n+1) (h'.update S (Obj.mapSeq (·.push (.ref s.heap.objs.size)))):=by
   obtain⟨e0,e1,⟨u,v,e2⟩,⟨e3,e4⟩,e5,e6⟩:=st';simp only [OU,OJ,O6,QU] at hS;obtain⟨n1,n2,n3,n4,n5⟩:=hS;refine⟨e0.imp (λ e=>kp2 _ _ (OK n1) e) (λ ⟨t,fl,ot,x1,x2,x3⟩=>?_),kp2 _ _ (OK n2) e1,⟨u,v,kp2 _ _ (OK n3) e2⟩,⟨e3.at λ o e=>kp2 _ o (OK n4) e,e4.at λ o e=>kp2 _ o aS e⟩,e5.at λ o e=>kp2 _ o (OK n5) e,e6.at λ o e=>kp2 _ o bS e⟩
   by_cases htS:t=S
   ·subst htS;exact⟨t,fl,_,kp2 _ _ (OK n1) x1,Pf _ hL' rfl,x3⟩
   ·exact⟨t,fl,ot,kp2 _ _ (OK n1) x1,kp2 _ _ htS x2,x3⟩
  have hLn:(h'.update S (Obj.mapSeq (·.push (Value.ref s.heap.objs.size)))).get? S=some { cls:=.type "list",dict:=none,data:=.seq ((ts++[s.heap.objs.size]).map Value.ref).toArray (c+1),slots:=#[] }:=by
   rw [Pf (Obj.mapSeq (·.push (Value.ref s.heap.objs.size))) hL' rfl];simp [Obj.mapSeq]
  refine P1 hL' rfl (Oz ⟨Qn QD _,ih (n+1) _ (ts++[s.heap.objs.size]) _ (by omega) (by omega) stK hLn (by simp [hl]) G' ?_ ?_ ?_ λ h3 ts3 c3 r1 r2 r3 r4 r5=>hR h3 ts3 c3 r1 r2 r3 r4 λ d o hd e=>r5 d o hd ?_⟩) ?_ ?_
  ·intro hm
   rcases OQ.mp hm with hm|hm
   ·exact hSt hm
   ·exact Sn (OE.mp hm)
  ·intro t ht
   rcases OQ.mp ht with ht|ht
   ·exact hts t ht
   ·rw [OE.mp ht];exact nw
  ·show lo<=(h'.update S _).objs.size
   rw [R3,sz];exact PJ hlz (QY _)
  ·exact kp2 _ _ (OS (OW hd hlS)) (kp d o (λ z=>absurd (hlo d z) (Nat.not_le.mpr hd)) e)
  ·simp;omega
  ·simp;omega
theorem sx:typeLookup (.type "zip") "__len__"=pure none:=by rw [typeLookup_type,builtinLookup_eq_fast];kernel_rfl
theorem pT:typeLookup (.type "zip") "__length_hint__"=pure none:=by rw [typeLookup_type,builtinLookup_eq_fast];kernel_rfl
theorem Zst.ty(st:Zst ka kb a b z TI TO p q as bs n s.heap):s.TypeIs (.ref z) "zip":=by
 rcases st.1 with e|⟨_,_,_,e,_⟩
 ·exact⟨_,e,rfl⟩
 ·exact⟨_,e,rfl⟩
theorem Zst.but{h h':Heap}{S:Addr}(st:Zst ka kb a b z TI TO p q as bs 0 h)(e0:IsZip h z TI TO .none)(hS:S ∉ [z,TI,TO,p,q])(aS:a ≠ S)(bS:b ≠ S)(k:∀ c o,c ≠ S->h.get? c=some o->h'.get? c=some o):Zst ka kb a b z TI TO p q as bs 0 h':=by
 obtain⟨_,e1,⟨u,v,e2⟩,⟨e3,e4⟩,e5,e6⟩:=st;simp only [OU,OJ,O6,QU] at hS;obtain⟨n1,n2,n3,n4,n5⟩:=hS;exact⟨.inl (k _ _ (OK n1) e0),k _ _ (OK n2) e1,⟨u,v,k _ _ (OK n3) e2⟩,⟨e3.at λ o e=>k _ o (OK n4) e,e4.at λ o e=>k _ o aS e⟩,e5.at λ o e=>k _ o (OK n5) e,e6.at λ o e=>k _ o bS e⟩
theorem mE{Q:Value->Shared->Prop}(hh:A.handled=none)(nd:[z,TI,TO,p,q].Nodup)(na:a ∉ [z,TI,TO,p,q])(nb:b ∉ [z,TI,TO,p,q])(lo:Addr)(hlo:∀ c∈[z,TI,TO,p,q],lo<=c)(hsz:min as.size bs.size<=sizeLine)
  (e0:IsZip s.heap z TI TO .none) (st:Zst ka kb a b z TI TO p q as bs 0 s.heap)
  (hQ:∀ h' ts' c',h'.get? s.heap.objs.size=some { cls:=.type "list",dict:=none,data:=.seq (ts'.map Value.ref).toArray c',slots:=#[] }->ts'.length=min as.size bs.size->Got h' lo as bs ts'->s.heap.objs.size ∉ ts'->(∀ d o,d < lo->s.heap.get? d=some o->h'.get? d=some o)->Q (.ref s.heap.objs.size) { s with heap:=h' }) :
  wpAny (model prog w) A (call (.type "list") [.ref z]) Q E s:=by
 have zl:∀ c∈[z,TI,TO,p,q],c < s.heap.objs.size:=by
  obtain⟨_,e1,⟨u,v,e2⟩,⟨e3,e4⟩,e5,e6⟩:=st;intro c hc;simp only [OU,OJ,O6] at hc
  rcases hc with rfl|rfl|rfl|rfl|rfl
  ·exact OA e0
  ·exact OA e1
  ·exact OA e2
  ·obtain⟨o,_,e,_⟩:=e3.obj;exact OA e
  ·obtain⟨o,_,e,_⟩:=e5.obj;exact OA e
 have hSf:s.heap.objs.size ∉ [z,TI,TO,p,q]:=λ hm=>Pk _ (zl _ hm);have hSz:s.heap.objs.size ≠ z:=λ e=>hSf (by simp [e]);have al:a < s.heap.objs.size:=by obtain⟨o,_,e,_⟩:=st.2.2.2.1.2.obj;exact OA e
 have bl:b < s.heap.objs.size:=by obtain⟨o,_,e,_⟩:=st.2.2.2.2.2.obj;exact OA e
 have hlS:lo<=s.heap.objs.size:=Q9 (Nat.lt_of_le_of_lt (hlo z (by simp)) (zl z (by simp)))
 refine callType_codes (Q₁:=λ obj s₁=>obj=.ref s.heap.objs.size/\s₁={ s with heap:=s.heap.push { cls:=.type "list",data:=.seq #[] } }) PySem.F.called_list (PySem.F.typeCall_list_1 _) PySem.F.entry_list_init
  (code_list_new _ ⟨rfl,rfl⟩) λ obj s₁ h₁=>?_
 obtain⟨rfl,rfl⟩:=h₁;have hS:(s.heap.push { cls:=.type "list",data:=.seq #[] }).get? s.heap.objs.size=some { cls:=.type "list",data:=.seq #[] }:=OD _ rfl;refine⟨⟨_,hS,rfl⟩,PySem.F.args_list_init_2 _ _,?_⟩
 show wpAny _ A.in1.in1 (do let old ←Builtin.List.listItems (.ref s.heap.objs.size);Builtin.List.listUpdate (.ref s.heap.objs.size) (λ _=>#[]);letGo old.toList.reverse;Builtin.List.listExtendWith (.ref s.heap.objs.size) (.ref z) .none) _ _ _
 refine wpAny_bind ?_;unfold Builtin.List.listItems;refine wpAny_bind (wpAny_seqItems hS rfl (wpAny_pure ?_))
 show wpAny _ A.in1.in1 (updateSeq s.heap.objs.size (λ _=>#[]) >>= λ _=>letGo (#[]:Array Value).toList.reverse >>= λ _=>Builtin.List.listExtendWith (.ref s.heap.objs.size) (.ref z) .none) _ _ _
 refine My (P1 hS rfl ?_);have hS₂:=Pf (Obj.mapSeq (λ _=>(#[]:Array Value))) hS rfl;refine My (PV ?_);have k1:∀ c o,s.heap.get? c=some o->((s.heap.push { cls:=.type "list",data:=.seq #[] }).update s.heap.objs.size (Obj.mapSeq (λ _=>(#[]:Array Value)))).get? c=some o:=λ c o e=>(OY _ _ (Pn (OA e))).trans (Ox _ e);have st1:=st.keep k1;have e1:=k1 _ _ e0;have sz1:((s.heap.push { cls:=.type "list",data:=.seq #[] }).update s.heap.objs.size (Obj.mapSeq (λ _=>(#[]:Array Value)))).objs.size=s.heap.objs.size+1:=by rw [R3,O5]
 generalize (s.heap.push { cls:=.type "list",data:=.seq #[] }).update s.heap.objs.size (Obj.mapSeq (λ _=>(#[]:Array Value)))=hp at hS₂ k1 st1 e1 sz1;unfold Builtin.List.listExtendWith;have ty1:Shared.TypeIs { s with heap:=hp } (.ref z) "zip":=Zst.ty (s:={ s with heap:=hp }) st1;refine wpAny_bind (wpAny_typeOf ty1 ?_);have h1:Builtin.List.listSameRef (.ref s.heap.objs.size) (.ref z)=false:=by simp [Builtin.List.listSameRef,hSz]
 have h2:(Value.type "zip" == Value.type "list")=false:=by decide
 have h3:(Value.type "zip" == Value.type "tuple")=false:=by decide
 simp only [h1,h2,h3,Bool.or_false,Bool.false_eq_true,if_false];refine wpAny_bind (wpAny_pyIter_zip e1 ?_);refine wpAny_bind (wpAny_holding ?_);unfold Builtin.List.listLengthHint;refine wpAny_bind (wpAny_specialOf ty1 sx ?_)
 show wpAny _ A.in1.in1 (specialOf (Value.ref z) (Str.ofString "__length_hint__") >>= _) _ _ _
 refine My (Q7 ty1 pT ?_);refine Oz ?_
 show wpAny _ A.in1.in1 (rule "list.extend.makes-room" >>= λ _=>Builtin.List.listTouch (.ref s.heap.objs.size) >>= λ _=>
  again (.builtin "list.extend.loop" ⟨[.ref s.heap.objs.size,.ref z,.none],[]⟩)) _ _ _
 refine My (Rj ?_);refine My ?_
 show wpAny _ A.in1.in1 (updateSeq s.heap.objs.size (·.push .none) >>= λ _=>updateSeq s.heap.objs.size (·.pop)) _ _ _
 refine My (P1 hS₂ rfl ?_);have hS₃:=Pf (Obj.mapSeq (·.push Value.none)) hS₂ rfl;refine P1 (hz:=by seq_fits) hS₃ rfl ?_;have hS₄:=Pf (Obj.mapSeq (·.pop)) hS₃ rfl
 have oth:∀ c o,c ≠ s.heap.objs.size->hp.get? c=some o->((hp.update s.heap.objs.size (Obj.mapSeq (·.push Value.none))).update s.heap.objs.size (Obj.mapSeq (·.pop))).get? c=some o:=
  λ c o hc e=>(OY _ _ (OK hc)).trans ((OY _ _ (OK hc)).trans e)
 have st4:=st1.but e1 hSf (OS al) (OS bl) oth;refine Oz ⟨Qn QD _,zh (A:=A.in1) hh nd na nb s.heap.objs.size lo hSf (OS al) (OS bl) hlo hlS hsz _ 0 _ [] _ rfl (PD _) st4 (by exact hS₄) rfl ⟨Q0,λ t h=>absurd h OJ,λ m t h=>by simp at h⟩ (by simp) (λ t h=>absurd h OJ) ?_ λ h' ts' c' r1 r2 r3 r4 r5=>?_⟩
 ·show lo<=((hp.update _ _).update _ _).objs.size
  rw [R3,R3,sz1];exact PJ hlS (QY _)
 ·refine⟨rfl,hQ h' ts' c' r1 r2 r3 r4 λ d o hd e=>r5 d o hd (oth d o (OS (OA e)) (k1 d o e))⟩
end
section
variable {X:Cx}{pins:List (Addr × Obj)}{σ:St}{s:Shared}
theorem Inv.adoptAll:∀ (ts:List Addr) (zs:List (V × V)){H:Hp},Inv X pins σ H s->ts.length=zs.length->ts.Nodup->(∀ t∈ts,za X pins t/\H t=none)->(∀ (m:Nat) t z,ts[m]? = some t->zs[m]? = some z->∃ u v,bF z.1 u/\bF z.2 v/\IsPair s.heap t u v) →
  ∃ H',Inv X pins σ H' s/\Ext H H'/\(∀ c,c ∉ ts->H' c=H c)/\∀ (m:Nat) t z,ts[m]? = some t->zs[m]? = some z->H' t=some (.tup [z.1,z.2])
 | [],zs,H,I,_,_,_,_=>⟨H,I,Ext.refl _,λ _ _=>rfl,λ m t z h=>by simp at h⟩
 | t::ts,[],H,I,hl,_,_,_=>by simp at hl
 | t::ts,z::zs,H,I,hl,nd,hn,hp=>by
  rw [Qe] at nd;obtain⟨N,ht⟩:=hn t ON;obtain⟨u,v,ru,rv,pr⟩:=hp 0 t z rfl rfl;have I1:=I.adopt (o:=.tup [z.1,z.2]) N ht ⟨(show 2<=sizeLine by decide),[u,v],.cons ru (.cons rv .nil),⟨_,pr,rfl,_,rfl⟩⟩;have up:∀ c∈ts,c ≠ t:=λ c hc e=>nd.1 (e ▸ hc);obtain⟨H',I',e',q',g'⟩:=Inv.adoptAll ts zs I1 (by simpa using hl) nd.2 (λ c hc=>⟨(hn c (OH _ hc)).1,by rw [af (up c hc)];exact(hn c (OH _ hc)).2⟩) λ m t' z' h1 h2=>hp (m+1) t' z' (by simpa using h1) (by simpa using h2);refine⟨H',I',(Ext.new ht).trans e',λ c hc=>?_,λ m t' z' h1 h2=>?_⟩
  ·rw [q' c (λ h=>hc (OH _ h)),af (λ h=>hc (by rw [h];exact ON))]
  ·cases m with
   | zero=>
    simp at h1 h2;subst h1;subst h2;rw [q' t nd.1,aq]
   | succ m=>exact g' m t' z' (by simpa using h1) (by simpa using h2)
end
def lzK(xs ys:List V)(H:Hp)(Q:VK):Prop:=∀ (D:Addr) (ts:List V) (H':Hp),H D=none->Ext H H'->H' D=some (.lst ts)->Al (λ z y=>Ca z y H') (xs.zip ys) ts->Q (.ref D) H'
theorem GB(xs ys:List V)(H:Hp)(Q:VK):lzK xs ys H Q=∀ (D:Addr) (ts:List V) (H':Hp),H D=none->Ext H H'->H' D=some (.lst ts)->Al (λ z y=>Ca z y H') (xs.zip ys) ts->Q (.ref D) H':=rfl
def Gp(xs:List V)(H:Hp)(Q:VK):HO->Prop:=λ o=>match o with
 | .lst ys=>lzK xs ys H Q
 | .tup ys=>lzK xs ys H Q
 | _=>False
theorem Ao(xs ys:List V)(H:Hp)(Q:VK):Gp xs H Q (.lst ys)=lzK xs ys H Q:=rfl
def Kf(b:Addr)(H:Hp)(Q:VK):HO->Prop:=λ o=>match o with
 | .lst xs=>az (H b) (Gp xs H Q)
 | .tup xs=>az (H b) (Gp xs H Q)
 | _=>False
theorem Ap(b:Addr)(xs:List V)(H:Hp)(Q:VK):Kf b H Q (.lst xs)=az (H b) (Gp xs H Q):=rfl
def Gy(Q:VK):List V->Hp->Prop:=λ vs H=>match vs with
 | [.ref a,.ref b]=>az (H a) (Kf b H Q)
 | _=>False
theorem Jm(Q:VK)(a b:Addr)(H:Hp):Gy Q [.ref a,.ref b] H=az (H a) (Kf b H Q):=rfl
def tLZ(ta:TA):TE:=λ σ H Q=>ta σ H (Gy Q)
theorem Lx(ta:TA)(σ:St)(H:Hp)(Q:VK):tLZ ta σ H Q=ta σ H (Gy Q):=rfl
theorem Fw{Q:VK}{vs:List V}{H:Hp}(h:Gy Q vs H):∃ a b ka kb xs ys,vs=[.ref a,.ref b]/\SqK ka H a xs/\SqK kb H b ys/\lzK xs ys H Q:=by
 unfold Gy at h;split at h
 ·rename_i a b;obtain⟨o,e,h⟩:=ai h;unfold Kf at h;split at h
  ·rename_i xs;obtain⟨o',e',h⟩:=ai h;unfold Gp at h;split at h
   ·exact⟨a,b,false,false,xs,_,rfl,e,e',h⟩
   ·exact⟨a,b,false,true,xs,_,rfl,e,e',h⟩
   ·exact h.elim
  ·rename_i xs;obtain⟨o',e',h⟩:=ai h;unfold Gp at h;split at h
   ·exact⟨a,b,true,false,xs,_,rfl,e,e',h⟩
   ·exact⟨a,b,true,true,xs,_,rfl,e,e',h⟩
   ·exact h.elim
  ·exact h.elim
 ·exact h.elim
theorem Inv.sqLe{X:Cx}{pins:List (Addr × Obj)}{σ:St}{H:Hp}{s:Shared}{k:Bool}{a:Addr}{xs:List V}(I:Inv X pins σ H s)(h:SqK k H a xs):xs.length<=sizeLine:=by
 cases k
 ·obtain⟨_,_,_,h⟩:=I.list (SqL.of h);exact h
 ·obtain⟨_,_,_,h⟩:=I.tuple (SqT.of h);exact h
section
variable {X:Cx}
theorem m9:∀ ts:List Addr,aU (ts.map V.ref) (ts.map Value.ref)
 | []=>.nil
 | _::ts=>.cons rfl (m9 ts)
theorem kD{a b:Expr}{ta:TA}{p p2 pos pos2:Pos}(hc:X.calm=true)(hg:Gl X "list")(hm:X.mg "list"=none)(hg2:Gl X "zip")(hm2:X.mg "zip"=none)(ha:PA X [a,b] ta)(hs:starEach [a,b] X.env=[(false,eval a X.env),(false,eval b X.env)]:=by rfl)(hs2:starEach [b] X.env=[(false,eval b X.env)]:=by rfl)(hs3:starEach [Expr.Call (.Name "zip" p2) [a,b] [] pos2] X.env=[(false,eval (Expr.Call (.Name "zip" p2) [a,b] [] pos2) X.env)]:=by rfl)(hs4:starEach ([]:List Expr) X.env=[]:=by rfl) :
  PE X (.Call (.Name "list" p) [.Call (.Name "zip" p2) [a,b] [] pos2] [] pos) (tLZ ta):=by
 intro pins s σ H Q I h;refine Qm (dJ I hg hm (show bootBuiltins "list"=some (.type "list") by decide +kernel) ?_);refine Pc ?_ (by rw [hs3,hs4]) (by rw [hs4];rfl);rw [hs3]
 show wpAny _ _ (spliced ((false,eval _ X.env)::[])) _ _ s
 refine RK ?_;refine Call_ (dJ I hg2 hm2 (show bootBuiltins "zip"=some (.type "zip") by decide +kernel) (Pc (thn (ha pos2 pins s σ H _ I h) λ us s1 ⟨vs,H1,I1,r1,q1⟩=>?_) (by rw [hs,hs2]) (by rw [hs2];rfl)));obtain⟨a,b,ka,kb,xs,ys,rfl,sa,sb,q⟩:=Fw q1
 cases r1 with
 | cons r rr=>
  cases rr with
  | cons r' rr=>
   cases rr;cases r;cases r';obtain⟨as,ra,s1a⟩:=I1.sq sa;obtain⟨bs,rb,s1b⟩:=I1.sq sb;have la:=ra.length;have lb:=rb.length;have lz:=I1.sqLe sa;have lz2:=I1.sqLe sb;refine vQ s1a s1b λ h' n hn e1 e2 e3 e4 e5 e6 e7=>?_;refine RV ?_
   have nn:∀ c∈[n+4,n+2,n+3,n,n+1],n<=c:=λ c hc=>by
    simp only [OU,OJ,O6] at hc
    rcases hc with rfl|rfl|rfl|rfl|rfl<;>omega
   have al:a < n:=by rw [hn];obtain⟨o,_,e,_⟩:=s1a.obj;exact OA e
   have bl:b < n:=by rw [hn];obtain⟨o,_,e,_⟩:=s1b.obj;exact OA e
   refine mE (s:={ s1 with heap:=h' }) (I1.ok.hd hc) (by simp) (λ z=>absurd (nn a z) (Nat.not_le.mpr al)) (λ z=>absurd (nn b z) (Nat.not_le.mpr bl)) n nn (by simp;omega) e1 ⟨.inl e1,e2,⟨_,_,e3⟩,⟨e4,s1a.at λ o e=>e7 _ o e⟩,e5,s1b.at λ o e=>e7 _ o e⟩ λ h2 ts c r1 r2 G r4 r5=>?_;have r1':h2.get? (n+5)=some { cls:=.type "list",dict:=none,data:=.seq (ts.map Value.ref).toArray c,slots:=#[] }:=by rw [←e6];exact r1
   have I2:Inv X pins σ H1 { s1 with heap:=h2 }:=I1.kept (t':=s1.toks) λ c o e=>r5 c o (by rw [hn];exact OA e) (e7 c o e);have hln:ts.length=(xs.zip ys).length:=by rw [r2,Rg];simp;omega
   have fr:∀ t,n<=t->za X pins t/\H1 t=none:=λ t ht=>⟨I1.newAt (by rw [←hn];exact ht),I1.hok.fresh (by rw [←hn];exact ht)⟩
   obtain⟨H2,I3,x2,q2,g2⟩:=I2.adoptAll ts (xs.zip ys) hln G.nd (λ t ht=>fr t (G.lo t ht)) λ m t z h1 h2=>by
    obtain⟨u,v,g1,g2,g3⟩:=G.get m t h1;rw [QE] at h2;obtain⟨u',hu,ru⟩:=ra.get h2.1;obtain⟨v',hv,rv⟩:=rb.get h2.2;have hu':as.toArray[m]? = some u':=by simpa using hu
    have hv':bs.toArray[m]? = some v':=by simpa using hv
    rw [g1] at hu';rw [g2] at hv';cases hu';cases hv';exact⟨u,v,ru,rv,g3⟩
   have hD:H2 (n+5)=none:=by
    rw [q2 _ (by rw [←e6];exact r4)];exact(fr (n+5) (Pp ..)).2
   have I4:=I3.adopt (o:=.lst (ts.map V.ref)) (fr (n+5) (Pp ..)).1 hD ⟨by rw [OB,r2];simp;omega,ts.map Value.ref,c,m9 ts,r1'⟩;refine⟨.ref (n+5),_,I4,by rw [←e6];rfl,q (n+5) (ts.map V.ref) _ (fr (n+5) (Pp ..)).2 (x2.trans (Ext.new hD)) aq ⟨by rw [OB,hln],λ m z y hz hy=>?_⟩⟩;rw [OL] at hy;obtain⟨t,ht,rfl⟩:=OF.mp hy;exact⟨t,rfl,by rw [af (λ e=>r4 (by rw [e6,←e];exact OX ht))];exact g2 m t z ht hz⟩
end
def CN(H:Hp)(Q:VK):List Int->Prop:=λ ns=>0 < ns.length/\∀ M,M∈ns->(∀ a∈ns,M<=a)->Q (.int M) H
theorem lp(H:Hp)(Q:VK)(ns:List Int):CN H Q ns=(0 < ns.length/\∀ M,M∈ns->(∀ a∈ns,M<=a)->Q (.int M) H):=rfl
def CO(H:Hp)(Q:VK):List Int->Prop:=λ ns=>0 < ns.length/\∀ M,M∈ns->(∀ a∈ns,a<=M)->Q (.int M) H
theorem oY(H:Hp)(Q:VK)(ns:List Int):CO H Q ns=(0 < ns.length/\∀ M,M∈ns->(∀ a∈ns,a<=M)->Q (.int M) H):=rfl
def Cu:List V->Hp->VK->Prop:=λ vs H Q=>match vs with
 | [.ref p]=>az (av H p) (dP (CN H Q))
 | _=>False
theorem Eo(p:Addr)(H:Hp)(Q:VK):Cu [.ref p] H Q=az (av H p) (dP (CN H Q)):=rfl
def Cw:List V->Hp->VK->Prop:=λ vs H Q=>match vs with
 | [.ref p]=>az (av H p) (dP (CO H Q))
 | _=>False
theorem Er(p:Addr)(H:Hp)(Q:VK):Cw [.ref p] H Q=az (av H p) (dP (CO H Q)):=rfl
section
variable {X:Cx}
theorem ia(hc:X.calm=true):cn X (.builtin "min") Cu:=by
 intro pins s σ H vs us Q I r h;unfold Cu at h;split at h
 ·rename_i p;obtain⟨xs,e,ns,rfl,hn,q⟩:=ai h
  cases r with
  | cons r rr=>
   cases rr;cases r;obtain⟨its,rv,pl,hz⟩:=I.list (SqL.of (bf e));have hlt:p < s.heap.objs.size:=by obtain⟨_,e,_⟩:=pl.isList;exact OA e
   have hlen:its.length=ns.length:=by have:=rv.length;simpa using this.symm
   have hsz:its.toArray.size=ns.length:=by simp [hlen]
   have hP:∀ (i:Nat) (v:Value),its.toArray[i]? = some v->∃ t,v=.int (ns.getD i 0) t:=λ i v hP=>by
    have hv:its[i]? = some v:=by simpa using hP
    have hi:i < ns.length:=by rw [←hlen];exact(Oy.mp hv).1
    obtain⟨u,hu,ru⟩:=rv.get (i:=i) (x:=.int (ns.getD i 0)) (by rw [OL,Ow hi];simp [List.getD,Ow hi]);rw [hv] at hu;cases hu;exact ru
   refine call_min_walkS (Qf pl.isList ⟨s.heap.objs.size,_,_,_,_,_,_,λ i j=>decide (ns.getD i 0 < ns.getD j 0),rfl,(Sa (show X.A.in1.handled=none from I.ok.hd hc) _ p (OS hlt) its.toArray).toS,⟨⟨_,OD _ rfl,rfl,rfl⟩,pl.isList.push _⟩,λ b hb=>?_,by rw [hsz];exact hn,CmpOf.ints_lt (λ i=>ns.getD i 0) λ i v h=>hP i v h,λ v s' hv hm=>?_⟩)
   ·rw [O5]
    rcases OU.mp hb with rfl|hb
    ·exact PL _
    ·rw [OE.mp hb];exact QX hlt
   ·obtain⟨hp,g,d,tk,os⟩:=s'
    have kp:∀ b o,s.heap.get? b=some o->hp.get? b=some o:=λ b o e=>hm.heap b o (λ hmem=>by
     have:b=s.heap.objs.size:=by simpa using hmem
     subst this;exact absurd (OA e) (Pk _)) (Ox _ e)
    have e1:g=s.gens:=hm.gens;have e2:d=s.drawn:=hm.drawn;have e3:os=s.os:=hm.os;subst e1 e2 e3;obtain⟨b1,b2⟩:=argBest_lt (λ i=>ns.getD i 0) (its.toArray.size - 1);have rv2:=hP _ v hv;generalize argBest (λ i j=>decide (ns.getD i 0 < ns.getD j 0)) (its.toArray.size - 1)=k at b1 b2 rv2;rw [hsz] at b1 b2;have hk:k < ns.length:=by omega
    refine⟨.int (ns.getD k 0),H,I.kept (t':=tk) kp,rv2,q _ ?_ λ a ha=>?_⟩
    ·rw [List.getD,Ow hk];exact P7 hk
    ·obtain⟨j,hj,rfl⟩:=Qw ha;have:=b2 j (by omega);rw [show ns.getD j 0=ns[j] by rw [List.getD,Ow hj];rfl] at this;exact this
 ·exact h.elim
theorem ib(hc:X.calm=true):cn X (.builtin "max") Cw:=by
 intro pins s σ H vs us Q I r h;unfold Cw at h;split at h
 ·rename_i p;obtain⟨xs,e,ns,rfl,hn,q⟩:=ai h
  cases r with
  | cons r rr=>
   cases rr;cases r;obtain⟨its,rv,pl,hz⟩:=I.list (SqL.of (bf e));have hlt:p < s.heap.objs.size:=by obtain⟨_,e,_⟩:=pl.isList;exact OA e
   have hlen:its.length=ns.length:=by have:=rv.length;simpa using this.symm
   have hsz:its.toArray.size=ns.length:=by simp [hlen]
   have hP:∀ (i:Nat) (v:Value),its.toArray[i]? = some v->∃ t,v=.int (ns.getD i 0) t:=λ i v hP=>by
    have hv:its[i]? = some v:=by simpa using hP
    have hi:i < ns.length:=by rw [←hlen];exact(Oy.mp hv).1
    obtain⟨u,hu,ru⟩:=rv.get (i:=i) (x:=.int (ns.getD i 0)) (by rw [OL,Ow hi];simp [List.getD,Ow hi]);rw [hv] at hu;cases hu;exact ru
   refine call_max_walkS (Qf pl.isList ⟨s.heap.objs.size,_,_,_,_,_,_,λ i j=>decide (ns.getD i 0 > ns.getD j 0),rfl,(Sa (show X.A.in1.handled=none from I.ok.hd hc) _ p (OS hlt) its.toArray).toS,⟨⟨_,OD _ rfl,rfl,rfl⟩,pl.isList.push _⟩,λ b hb=>?_,by rw [hsz];exact hn,CmpOf.ints_gt (λ i=>ns.getD i 0) λ i v h=>hP i v h,λ v s' hv hm=>?_⟩)
   ·rw [O5]
    rcases OU.mp hb with rfl|hb
    ·exact PL _
    ·rw [OE.mp hb];exact QX hlt
   ·obtain⟨hp,g,d,tk,os⟩:=s'
    have kp:∀ b o,s.heap.get? b=some o->hp.get? b=some o:=λ b o e=>hm.heap b o (λ hmem=>by
     have:b=s.heap.objs.size:=by simpa using hmem
     subst this;exact absurd (OA e) (Pk _)) (Ox _ e)
    have e1:g=s.gens:=hm.gens;have e2:d=s.drawn:=hm.drawn;have e3:os=s.os:=hm.os;subst e1 e2 e3;obtain⟨b1,b2⟩:=argBest_gt (λ i=>ns.getD i 0) (its.toArray.size - 1);have rv2:=hP _ v hv;generalize argBest (λ i j=>decide (ns.getD i 0 > ns.getD j 0)) (its.toArray.size - 1)=k at b1 b2 rv2;rw [hsz] at b1 b2;have hk:k < ns.length:=by omega
    refine⟨.int (ns.getD k 0),H,I.kept (t':=tk) kp,rv2,q _ ?_ λ a ha=>?_⟩
    ·rw [List.getD,Ow hk];exact P7 hk
    ·obtain⟨j,hj,rfl⟩:=Qw ha;have:=b2 j (by omega);rw [show ns.getD j 0=ns[j] by rw [List.getD,Ow hj];rfl] at this;exact this
 ·exact h.elim
end
def CS(l:Addr)(xs:List V)(H:Hp)(Q:VK):List V->Prop:=λ zs=>xs.length+zs.length<=sizeLine/\Q .non (upd H l (.lst (xs++zs)))
theorem EX(l:Addr)(xs:List V)(H:Hp)(Q:VK)(zs:List V):CS l xs H Q zs=(xs.length+zs.length<=sizeLine/\Q .non (upd H l (.lst (xs++zs)))):=rfl
def Hm(l b:Addr)(H:Hp)(Q:VK):List V->Prop:=λ xs=>az (av H b) (CS l xs H Q)
theorem EY(l b:Addr)(H:Hp)(Q:VK)(xs:List V):Hm l b H Q xs=az (av H b) (CS l xs H Q):=rfl
theorem xg(l b:Addr)(H:Hp)(Q:VK):vt (.ref l) [.ref b] H Q=az (av H l) (Hm l b H Q):=by
 refine propext ⟨λ h=>?_,λ h=>?_⟩
 ·obtain⟨l',b',xs,zs,e1,e2,h1,h2,h3,q⟩:=h;cases e1;cases e2;unfold av;rw [h1]
  show az (av H b) _
  unfold av;rw [h2];exact⟨h3,q⟩
 ·obtain⟨xs,e,h⟩:=ai h;obtain⟨zs,e2,h3,q⟩:=ai h;exact⟨l,b,xs,zs,rfl,rfl,bf e,bf e2,h3,q⟩
section
variable {X:Cx}{a b c d:Expr}{ta tb tc td:TE}{pos:Pos}
end
section
variable {k:Nat}{g:TG}{tt:TT}{te:TE}{σ:St}{Q:VK}{H:Hp}{K:PySem.W.Frag}
theorem cI{α:Type}{J:It}(zs:List α)(c:α->Bool)(P:α->V->Hp->Prop)(R:Addr->α->V->Hp->Prop)
  (hgo:∀ i z H',zs[i]? = some z->Ext H H'->J.go i H'/\∀ x H'',J.yld i H' x H''->Ext H' H''/\P z x H'')
  (hst:∀ H',Ext H H'->J.stop zs.length H')
  (hR1:∀ D z y H1 H2,R D z y H1->Ext H1 H2->R D z y H2) (hR2:∀ D z y H1 xs o,R D z y H1->H1 D=some (.lst xs)->R D z y (upd H1 D o))
  (hl:zs.length<=sizeLine)
  (hs:∀ D z x H' N1 N0,z∈zs->H D=none->Ext H H'->(∃ ys,H' D=some (.lst ys))->P z x H'->(c z=true->∀ y H'',Ext H' H''->R D z y H''->N1 y H'')->(c z=false->∀ H'',Ext H' H''->N0 H'')->g x (List.replicate k none++σ) H' (kCm k tt te σ N1 N0))
  (hd:∀ D ys H',H D=none->Ext H H'->H' D=some (.lst ys)->Al (λ z y=>R D z y H') (zs.filter c) ys->Q (.ref D) H'):yW k g tt te σ Q J H:=by
 intro D hD;refine⟨λ i m ys H'=>m=zs.length - i/\i<=zs.length/\Ext H H'/\H' D=some (.lst ys)/\Al (λ z y=>R D z y H') ((zs.take i).filter c) ys,⟨zs.length,by simp,PD _,Ext.new hD,aq,by simpa using Al.nil⟩,?_⟩;rintro i m ys H' ⟨rfl,hi,e,hD',al⟩
 by_cases hlt:i < zs.length
 ·have hz:zs[i]? = some zs[i]:=Ow hlt;obtain⟨go,y⟩:=hgo i zs[i] H' hz e;have tk:zs.take (i+1)=zs.take i++[zs[i]]:=by rw [R1,hz];rfl
  have ln:ys.length < sizeLine:=by
   have h1:=al.1;have h2:=Rc c (zs.take i);simp only [O8] at h2;omega
  refine .inr ⟨go,λ ys' H2=>Ext H H2/\H2 D=some (.lst ys')/\Al (λ z y=>R D z y H2) ((zs.take (i+1)).filter c) ys',λ ys' H2 p=>⟨zs.length - (i+1),by omega,rfl,hlt,p⟩,λ x H2 z=>?_⟩;obtain⟨e2,p2⟩:=y x H2 z;refine hs D zs[i] x H2 (kC3 D ys _) _ (P7 hlt) hD (e.trans e2) ⟨ys,e2.at hD'⟩ p2 (λ hc y H3 e3 r3=>?_) λ hc H3 e3=>?_
  ·refine⟨e3.at (e2.at hD'),ln,(e.trans (e2.trans e3)).put hD,aq,?_⟩;rw [tk,Rt,show [zs[i]].filter c=[zs[i]] by simp [hc]];exact Al.snoc (al.imp λ z y r=>hR2 _ _ _ _ _ _ (hR1 _ _ _ _ _ r (e2.trans e3)) (e3.at (e2.at hD'))) (hR2 _ _ _ _ _ _ r3 (e3.at (e2.at hD')))
  ·refine⟨e.trans (e2.trans e3),(e2.trans e3).at hD',?_⟩;rw [tk,Rt,show [zs[i]].filter c=[] by simp [hc],Rh];exact al.imp λ z y r=>hR1 _ _ _ _ _ r (e2.trans e3)
 ·have e':i=zs.length:=by omega
  subst e';rw [P6] at al;exact .inl ⟨hst H' e,hd D ys H' hD e hD' al⟩
end
def Ite(l:Addr)(xs:List V):It:=
 ⟨λ i H=>H l=some (.lst xs)/\i < xs.length,λ i H x H'=>∃ p u,H p=none/\x=.ref p/\xs[i]? = some u/\H'=upd H p (.tup [.int (i:Int),u]),λ i H=>H l=some (.lst xs)/\i=xs.length⟩
def Tne(l e it:Addr)(i:Nat)(h:Heap):Prop:=(∃ old,IsEnum h e it (i:Int) old)/\h.IsListIter it l i
theorem wB{P:Program}{w:World}{K:PySem.W.Frag}{elts:List Expr}{x1}{tp:Pos}(l e it:Addr)(xs:List V)(ne:e ≠ it):yK P w K (.Tuple elts x1 tp) (Ite l xs) [e,it] e (Tne l e it) where
 mem:=ON
 obj:=λ i h st c hc=>by
  obtain⟨⟨old,e1⟩,e2⟩:=st;simp only [OU,OJ,O6] at hc
  rcases hc with rfl|rfl
  ·exact⟨_,e1,λ v z=>by cases z⟩
  ·obtain⟨o,e,_,d⟩:=e2;exact⟨o,e,λ v z=>by rw [d] at z;cases z⟩
 keep:=λ i h h' st k=>by
  obtain⟨⟨old,e1⟩,e2⟩:=st;exact⟨⟨old,k e (by simp) _ e1⟩,e2.at λ o q=>k it (by simp) o q⟩
 item:=by
  intro X hP hw hK hc i pins s σ H E I hf st hg;subst hP hw hK;obtain⟨ha,l1⟩:=hg;obtain⟨as,ra,pl,_⟩:=I.list (SqL.of ha);have hx:xs[i]? = some xs[i]:=Ow l1;obtain⟨u,hu,ru⟩:=ra.get hx;have free:∀ c∈[e,it],H c=none:=λ c h=>(hf c h).1;have nle:l ≠ e:=λ z=>by have:=free e (by simp);rw [←z,ha] at this;cases this
  have nlt:l ≠ it:=λ z=>by have:=free it (by simp);rw [←z,ha] at this;cases this
  have W:=WalksT.enumerate (prog:=X.prog) (w:=X.w) (I.ok.hd hc) e it l ne nle nlt as.toArray;have la:=ra.length;obtain⟨e1,e2⟩:=st;obtain⟨old,e1'⟩:=e1;refine W.item i s _ E (by simp;omega) ⟨⟨old,e1'⟩,e2,pl.isList⟩ λ T vals h1 tk hp hle hT hmid kp=>⟨_,rfl,?_⟩;refine W.go elts x1 tp i T ⟨h1,s.gens,s.drawn,tk,s.os⟩ _ E hmid λ h2 st2 kp2=>?_;have nT:=W.apart i T h1 hmid;obtain⟨tk',x,hx',rfl⟩:=hp
  have hxu:x=u:=by
   have:as[i]? = some x:=by simpa using hx'
   rw [hu] at this;exact(O1 this).symm
  subst hxu;have hT2:h2.IsTuple T #[.int (i:Int) tk',x]:=hT.at λ o q=>kp2 T o nT q;have I2:Inv X pins σ (upd H T (.tup [.int (i:Int),xs[i]])) { s with heap:=h2,toks:=tk }:=I.turnNew (t':=tk) (ch:=[e,it]) (λ c hc=>hf c hc) (λ c o hc q=>kp2 c o hc (kp c o hc q)) hle ⟨(show 2<=sizeLine by decide),[.int (i:Int) tk',x],.cons ⟨tk',rfl⟩ (.cons ru .nil),hT2⟩;have fr:H T=none:=I.hok.fresh hle;refine⟨.ref T,_,I2,rfl,⟨_,_,fr,rfl,hx,rfl⟩,⟨st2.1,st2.2.1⟩,λ c hc=>?_⟩
  have hlt:c < s.heap.objs.size:=by
   simp only [OU,OJ,O6] at hc
   rcases hc with rfl|rfl
   ·exact OA e1'
   ·obtain⟨o,q,_⟩:=e2;exact OA q
  rw [af (OS (OW hlt hle))];exact free c hc
 done:=by
  intro X hP hw hK hc i pins s σ H E I hf st hg;subst hP hw hK;obtain⟨ha,rfl⟩:=hg;obtain⟨as,ra,pl,_⟩:=I.list (SqL.of ha);have free:∀ c∈[e,it],H c=none:=λ c h=>(hf c h).1;have nle:l ≠ e:=λ z=>by have:=free e (by simp);rw [←z,ha] at this;cases this
  have nlt:l ≠ it:=λ z=>by have:=free it (by simp);rw [←z,ha] at this;cases this
  have W:=WalksT.enumerate (prog:=X.prog) (w:=X.w) (I.ok.hd hc) e it l ne nle nlt as.toArray;have la:=ra.length;have hsz:as.toArray.size=xs.length:=by simp [la]
  obtain⟨e1,e2⟩:=st;refine W.done s _ E (by rw [hsz];exact⟨e1,e2,pl.isList⟩) λ h' tk kp=>⟨rfl,I.turnL (t':=tk) (ch:=[e,it]) (λ c hc=>hf c hc) kp⟩
 self:=λ A i s Q E st h=>by
  obtain⟨⟨old,e1⟩,e2⟩:=st;exact wpAny_pyIter_enum e1 h
def KU(l:Addr)(H:Hp)(R:It->Hp->Prop):List V->Prop:=λ xs=>R (Ite l xs) H
theorem Ju(l:Addr)(H:Hp)(R:It->Hp->Prop)(xs:List V):KU l H R xs=R (Ite l xs) H:=rfl
def Ki(R:It->Hp->Prop):List V->Hp->Prop:=λ vs H=>match vs with
 | [.ref l]=>az (av H l) (KU l H R)
 | _=>False
theorem Jv(R:It->Hp->Prop)(l:Addr)(H:Hp):Ki R [.ref l] H=az (av H l) (KU l H R):=rfl
def Hs(ta:TA):TI:=λ σ H R=>ta σ H (Ki R)
theorem Fi(ta:TA)(σ:St)(H:Hp)(R:It->Hp->Prop):Hs ta σ H R=ta σ H (Ki R):=rfl
section
variable {X:Cx}
theorem DB{a:Expr}{elts:List Expr}{x1}{tp:Pos}{ta:TA}{p pos:Pos}(hg:Gl X "enumerate")(hm:X.mg "enumerate"=none)(ha:PA X [a] ta)(he:starEach [a] X.env=[(false,eval a X.env)]:=by rfl) :
  PI X (.Tuple elts x1 tp) (.Call (.Name "enumerate" p) [a] [] pos) (Hs ta):=by
 intro pins s σ H R I h;refine Call_ (dJ I hg hm (show bootBuiltins "enumerate"=some (.type "enumerate") by decide +kernel) (PyProof.Rows.callWith_type1 (thn (ha pos pins s σ H _ I h) λ us s1 ⟨vs,H1,I1,r1,q1⟩=>?_) (by rw [he];rfl) (by rfl)));unfold Ki at q1;split at q1
 ·rename_i l;obtain⟨xs,e,q⟩:=ai q1;replace e:=bf e
  cases r1 with
  | cons r rr=>
   cases rr;cases r;obtain⟨as,ra,pl,_⟩:=I1.list (SqL.of e);refine call_enumerate_list pl.isList λ h' e1 e2 e3 e4=>?_;have I2:Inv X pins σ H1 { s1 with heap:=h' }:=I1.kept (t':=s1.toks) e4;refine wpAny_pyIter_enum (s:={ s1 with heap:=h' }) e1 ⟨s1.heap.objs.size+1,[s1.heap.objs.size+1,s1.heap.objs.size],_,_,H1,rfl,I2,wB l (s1.heap.objs.size+1) s1.heap.objs.size xs (by simp),⟨⟨_,e1⟩,e2⟩,λ c hc=>?_,q⟩
   have hle:s1.heap.objs.size<=c:=by
    simp only [OU,OJ,O6] at hc
    rcases hc with rfl|rfl
    ·exact Pp ..
    ·exact OC _
   exact I1.fpOk hle (I1.hok.fresh hle)
 ·exact q1.elim
end
section
variable {g:TG}{σ:St}{Q:VK}{H:Hp}{K:PySem.W.Frag}
theorem Bp{tb:TS}{nx:St->Hp->Prop}{rt:VK}{bk ct:St->Hp->Prop}{l:Addr}{xs:List V}(Pv:Nat->St->Hp->Prop)(h0:Pv 0 σ H)(hl:∀ i σ H,Pv i σ H->H l=some (.lst xs))
  (hs:∀ i u p σ H H',xs[i]? = some u->Pv i σ H->H p=none->Ext H H'->H' p=some (.tup [.int (i:Int),u])->g (.ref p) σ H' (oW tb ⟨Pv (i+1),rt,nx,Pv (i+1)⟩)) (hd:∀ σ H,Pv xs.length σ H->nx σ H):Cb g tb ⟨nx,rt,bk,ct⟩ σ (Ite l xs) H:=by
 refine⟨λ i m σ H=>m=xs.length - i/\i<=xs.length/\Pv i σ H,⟨xs.length,by simp,PD _,h0⟩,?_⟩;rintro i m σ H ⟨rfl,hi,p⟩;have qa:=hl i σ H p
 by_cases hlt:i < xs.length
 ·refine .inr ⟨⟨qa,hlt⟩,Pv (i+1),λ σ' H' p'=>⟨xs.length - (i+1),by omega,rfl,hlt,p'⟩,λ x H' y=>?_⟩;obtain⟨r,u,hr,rfl,hu,rfl⟩:=y;exact hs i u r σ H _ hu p hr (Ext.new hr) aq
 ·have e:i=xs.length:=by omega
  subst e;exact .inl ⟨⟨qa,rfl⟩,hd σ H p⟩
end
section
variable {X:Cx}{CX:CXT}{k:Nat}{f C:Addr}{fd:FuncData}{ps:List Str}{sp:Sp}{dvs:List V}{ds:List Value}{E:St->XK}{x m:Str}{p pos apos:Pos}{e o:Expr}{es:List Expr}{ta:TE}{t:TA}
end
section
variable {X:Cx}{e st:Expr}{te tst:TE}{pos p2:Pos}
end
def yM(n:Int):List V:=(List.range n.toNat).map λ (i:Nat)=>V.int (i:Int)
def kLR(Q:VK):List V->Hp->Prop:=λ vs H=>match vs with
 | [.int n]=>0<=n/\n<=4096/\iF (.lst (yM n)) H Q
 | _=>False
theorem Lc(Q:VK)(n:Int)(H:Hp):kLR Q [.int n] H=(0<=n/\n<=4096/\iF (.lst (yM n)) H Q):=rfl
def tLR(ta:TA):TE:=λ σ H Q=>ta σ H (kLR Q)
theorem Ly(ta:TA)(σ:St)(H:Hp)(Q:VK):tLR ta σ H Q=ta σ H (kLR Q):=rfl
theorem pX{n:Int}(h0:n<=4096)(h1:-5000<=n):Builtin.Range.small 0 n 1=true/\Builtin.Range.rangeSize 0 n 1=((n.toNat:Nat):Int):=by
 have e:Builtin.Range.rangeSize 0 n 1=((n.toNat:Nat):Int):=by
  unfold Builtin.Range.rangeSize;rw [if_pos (by decide)];split
  ·rw [Int.ediv_one];omega
  ·omega
 refine⟨?_,e⟩;unfold Builtin.Range.small;rw [e,if_pos (by decide)];unfold Builtin.Range.rangeFitsLong;simp;omega
theorem ju:∀ {xs:List V}{us:List Value},us.length=xs.length->(∀ (i:Nat) (x:V) (u:Value),xs[i]? = some x->us[i]? = some u->bF x u)->aU xs us
 | [],[],_,_=>.nil
 | [],_::_,h,_=>by cases h
 | _::_,[],h,_=>by cases h
 | x::xs,u::us,h,k=>.cons (k 0 x u rfl rfl) (ju (by simpa using h) λ i y w a b=>k (i+1) y w (by simpa using a) (by simpa using b))
section
variable {X:Cx}
theorem oo{a:Expr}{ta:TA}{p p2 pos pos2:Pos}(hc:X.calm=true)(hg:Gl X "list")(hm:X.mg "list"=none)(hg2:Gl X "range")(hm2:X.mg "range"=none)(ha:PA X [a] ta)(hs:starEach [a] X.env=[(false,eval a X.env)]:=by rfl)(hs3:starEach [Expr.Call (.Name "range" p2) [a] [] pos2] X.env=[(false,eval (Expr.Call (.Name "range" p2) [a] [] pos2) X.env)]:=by rfl)(hs4:starEach ([]:List Expr) X.env=[]:=by rfl) :
  PE X (.Call (.Name "list" p) [.Call (.Name "range" p2) [a] [] pos2] [] pos) (tLR ta):=by
 intro pins s σ H Q I h;refine Qm (dJ I hg hm (show bootBuiltins "list"=some (.type "list") by decide +kernel) ?_);refine Pc ?_ (by rw [hs3,hs4]) (by rw [hs4];rfl);rw [hs3]
 show wpAny _ _ (spliced ((false,eval _ X.env)::[])) _ _ s
 refine Calls.spliced_cons ?_;refine Call_ (dJ I hg2 hm2 boot_range (PyProof.Rows.callWith_type1 (thn (ha pos2 pins s σ H _ I h) λ us s1 ⟨vs,H1,I1,r1,q1⟩=>?_) hs rfl));unfold kLR at q1;split at q1
 ·rename_i n;obtain⟨hn0,hn,q⟩:=q1
  cases r1 with
  | cons r rr=>
   cases rr;obtain⟨t,rfl⟩:=r;refine call_range_1 ?_;refine RV ?_;obtain⟨k1,k2⟩:=pX hn (by omega);have I2:Inv X pins σ H1 { s1 with heap:=s1.heap.push { cls:=.type "range",data:=.fields #[.int 0 s1.toks,.int n t,.int 1 (s1.toks+1)] },toks:=s1.toks+1+1 }:=I1.kept (t':=s1.toks+1+1) λ b ob e=>Ox _ e;refine call_list_range (s:={ s1 with heap:=s1.heap.push { cls:=.type "range",data:=.fields #[.int 0 s1.toks,.int n t,.int 1 (s1.toks+1)] },toks:=s1.toks+1+1 }) (n:=n.toNat) (I1.ok.hd hc) (OD _ rfl) k1 k2 (by omega) λ h' tk acc c kp hget hit=>?_;have fr:=I2.hok.fresh (OC _)
   have hv:aU (yM n) acc.toList:=by
    refine ju (by unfold yM;rw [length_map,length_range,Array.length_toList,hit.1]) λ i x u hx hu=>?_;unfold yM at hx;rw [getElem?_map] at hx;obtain⟨j,hj,rfl⟩:=Option.map_eq_some_iff.mp hx;obtain⟨hj1,hj2⟩:=List.getElem?_eq_some_iff.mp hj;have ej:i=j:=by simpa using hj2
    subst ej;obtain⟨tk',e⟩:=hit.2 i u (by simpa using hu);exact⟨tk',by rw [e];congr 1;omega⟩
   refine⟨.ref (s1.heap.push { cls:=.type "range",data:=.fields #[.int 0 s1.toks,.int n t,.int 1 (s1.toks+1)] }).objs.size,_,I2.laid (t':=tk) (o:=.lst (yM n)) kp (OC _) ⟨?_,acc.toList,c,hv,?_⟩,rfl,q _ _ fr (Ext.new fr) aq⟩
   ·unfold yM;rw [length_map,length_range];exact ag (by omega)
   ·exact hget
 ·exact q1.elim
end
theorem ip{n:Nat}(h:n+64 < cLine):n+1 < cLine:=by omega
def KZ(Q:VK)(x:V):VK:=λ y H=>∃ a v,x=.ref a/\qH H a y (some v)/\Q v H
def Nh(ty:TE)(σ:St)(Q:VK):VK:=λ x H=>ty σ H (KZ Q x)
theorem Jy(ty:TE)(σ:St)(Q:VK)(x:V)(H:Hp):Nh ty σ Q x H=ty σ H (KZ Q x):=rfl
theorem Ef(td ty:TE)(σ:St)(H:Hp)(Q:VK):GK td ty σ H Q=td σ H (Nh ty σ Q):=rfl
theorem BN{H:Hp}{a:Addr}{kvs:List (Key × V)}{k:Key}{v:V}{Q:VK}(e:H a=some (.dK kvs))(h:dO kvs k=some v)(q:Q v H):KZ Q (.ref a) (kV k) H:=⟨a,v,rfl,h ▸ qH.k e,q⟩
def MK(neg:Bool):R2:=λ y x H Q=>∃ a o,x=.ref a/\qH H a y o/\Q (.bl (if neg=true then !o.isSome else o.isSome)) H
theorem BM{neg:Bool}{H:Hp}{a:Addr}{kvs:List (Key × V)}{k:Key}{Q:VK}(e:H a=some (.dK kvs))(q:Q (.bl (if neg=true then !(dO kvs k).isSome else (dO kvs k).isSome)) H):MK neg (kV k) (.ref a) H Q:=⟨a,_,rfl,qH.k e,q⟩
section
variable {X:Cx}
theorem BW(hu:X.A.units+1 < cLine):OpR X (compareOp .In) (MK false):=by
 intro pins s σ H x y v u Q I rx ry h;obtain⟨a,o,rfl,g,q⟩:=h;obtain rfl:u=Value.ref a:=ry;exact Oc hu I g rx λ s3 I3=>⟨.bl o.isSome,H,I3,rfl,q⟩
end
def KW(nx:St->Hp->Prop)(σ:St)(v x:V):VK:=λ y H=>∃ a H4,x=.ref a/\Gr H a y v H4/\nx σ H4
def KY(ty:TE)(nx:St->Hp->Prop)(σ:St)(v:V):VK:=λ x H=>ty σ H (KW nx σ v x)
theorem Jw(ty:TE)(nx:St->Hp->Prop)(σ:St)(v x:V)(H:Hp):KY ty nx σ v x H=ty σ H (KW nx σ v x):=rfl
def Ng(td ty:TE)(nx:St->Hp->Prop)(σ:St):VK:=λ v H=>td σ H (KY ty nx σ v)
theorem Jx(td ty:TE)(nx:St->Hp->Prop)(σ:St)(v:V)(H:Hp):Ng td ty nx σ v H=td σ H (KY ty nx σ v):=rfl
theorem Ek(td ty tv:TE)(nx:St->Hp->Prop)(rt:VK)(bk ct:St->Hp->Prop)(σ:St)(H:Hp):GQ td ty tv ⟨nx,rt,bk,ct⟩ σ H=tv σ H (Ng td ty nx σ):=rfl
theorem uw{H:Hp}{a:Addr}{kvs:List (Key × V)}{k:Key}{v:V}{nx:St->Hp->Prop}{σ:St}(e:H a=some (.dK kvs))(hl:kvs.length < sizeLine)(q:nx σ (upd H a (.dK (kj kvs k v)))):KW nx σ v (.ref a) (kV k) H:=⟨a,_,rfl,Gr.k e hl,q⟩
section
variable {X:Cx}
end
def tV(i:Nat):TE:=λ σ H Q=>match σ[i]? with
 | some (some v)=>Q v H
 | _=>False
theorem GD(i:Nat):J5 i=tV i:=by
 funext σ H Q;refine propext ⟨λ ⟨v,e,q⟩=>?_,λ h=>?_⟩
 ·unfold tV;rw [e];exact q
 ·unfold tV at h;split at h
  ·rename_i v e;exact⟨v,e,h⟩
  ·exact h.elim
theorem Iy{v:V}{σ:St}{H:Hp}{Q:VK}:tV 0 (some v::σ) H Q=Q v H:=rfl
theorem Iw{a0:Option V}{v:V}{σ:St}{H:Hp}{Q:VK}:tV 1 (a0::some v::σ) H Q=Q v H:=rfl
theorem Iv{a0 a1:Option V}{v:V}{σ:St}{H:Hp}{Q:VK}:tV 2 (a0::a1::some v::σ) H Q=Q v H:=rfl
theorem Iu{a0 a1 a2:Option V}{v:V}{σ:St}{H:Hp}{Q:VK}:tV 3 (a0::a1::a2::some v::σ) H Q=Q v H:=rfl
theorem Ir{a0 a1 a2 a3:Option V}{v:V}{σ:St}{H:Hp}{Q:VK}:tV 4 (a0::a1::a2::a3::some v::σ) H Q=Q v H:=rfl
theorem Iq{a0 a1 a2 a3 a4:Option V}{v:V}{σ:St}{H:Hp}{Q:VK}:tV 5 (a0::a1::a2::a3::a4::some v::σ) H Q=Q v H:=rfl
theorem Ip{a0 a1 a2 a3 a4 a5:Option V}{v:V}{σ:St}{H:Hp}{Q:VK}:tV 6 (a0::a1::a2::a3::a4::a5::some v::σ) H Q=Q v H:=rfl
theorem Io{a0 a1 a2 a3 a4 a5 a6:Option V}{v:V}{σ:St}{H:Hp}{Q:VK}:tV 7 (a0::a1::a2::a3::a4::a5::a6::some v::σ) H Q=Q v H:=rfl
theorem Im{a0 a1 a2 a3 a4 a5 a6 a7:Option V}{v:V}{σ:St}{H:Hp}{Q:VK}:tV 8 (a0::a1::a2::a3::a4::a5::a6::a7::some v::σ) H Q=Q v H:=rfl
theorem Il{a0 a1 a2 a3 a4 a5 a6 a7 a8:Option V}{v:V}{σ:St}{H:Hp}{Q:VK}:tV 9 (a0::a1::a2::a3::a4::a5::a6::a7::a8::some v::σ) H Q=Q v H:=rfl
theorem Ea{a0 a1 a2 a3 a4 a5 a6 a7 a8 a9:Option V}{v:V}{σ:St}{H:Hp}{Q:VK}:tV 10 (a0::a1::a2::a3::a4::a5::a6::a7::a8::a9::some v::σ) H Q=Q v H:=rfl
theorem D9{a0 a1 a2 a3 a4 a5 a6 a7 a8 a9 a10:Option V}{v:V}{σ:St}{H:Hp}{Q:VK}:tV 11 (a0::a1::a2::a3::a4::a5::a6::a7::a8::a9::a10::some v::σ) H Q=Q v H:=rfl
theorem D8{a0 a1 a2 a3 a4 a5 a6 a7 a8 a9 a10 a11:Option V}{v:V}{σ:St}{H:Hp}{Q:VK}:tV 12 (a0::a1::a2::a3::a4::a5::a6::a7::a8::a9::a10::a11::some v::σ) H Q=Q v H:=rfl
theorem D0{a0 a1 a2 a3 a4 a5 a6 a7 a8 a9 a10 a11 a12:Option V}{v:V}{σ:St}{H:Hp}{Q:VK}:tV 13 (a0::a1::a2::a3::a4::a5::a6::a7::a8::a9::a10::a11::a12::some v::σ) H Q=Q v H:=rfl
theorem DZ{a0 a1 a2 a3 a4 a5 a6 a7 a8 a9 a10 a11 a12 a13:Option V}{v:V}{σ:St}{H:Hp}{Q:VK}:tV 14 (a0::a1::a2::a3::a4::a5::a6::a7::a8::a9::a10::a11::a12::a13::some v::σ) H Q=Q v H:=rfl
theorem DY{a0 a1 a2 a3 a4 a5 a6 a7 a8 a9 a10 a11 a12 a13 a14:Option V}{v:V}{σ:St}{H:Hp}{Q:VK}:tV 15 (a0::a1::a2::a3::a4::a5::a6::a7::a8::a9::a10::a11::a12::a13::a14::some v::σ) H Q=Q v H:=rfl
theorem DX{a0 a1 a2 a3 a4 a5 a6 a7 a8 a9 a10 a11 a12 a13 a14 a15:Option V}{v:V}{σ:St}{H:Hp}{Q:VK}:tV 16 (a0::a1::a2::a3::a4::a5::a6::a7::a8::a9::a10::a11::a12::a13::a14::a15::some v::σ) H Q=Q v H:=rfl
def nI0(g:Int->Int->V):R2:=λ x y H Q=>match x,y with
 | .int i,.int j=>Q (g i j) H
 | _,_=>False
theorem LH(g:Int->Int->V)(i j:Int)(H:Hp)(Q:VK):nI0 g (.int i) (.int j) H Q=Q (g i j) H:=rfl
theorem ko(g:Int->Int->V):rI0 g=nI0 g:=by
 funext x y H Q;refine propext ⟨λ ⟨i,j,e,e',q⟩=>by subst e e';exact q,λ h=>?_⟩;unfold nI0 at h;split at h
 ·exact⟨_,_,rfl,rfl,h⟩
 ·exact h.elim
def nI(C:Int->Int->Prop)(g:Int->Int->V):R2:=λ x y H Q=>match x,y with
 | .int i,.int j=>C i j/\Q (g i j) H
 | _,_=>False
theorem NU(C:Int->Int->Prop)(g:Int->Int->V)(i j:Int)(H:Hp)(Q:VK):nI C g (.int i) (.int j) H Q=(C i j/\Q (g i j) H):=rfl
theorem uj(C:Int->Int->Prop)(g:Int->Int->V):rI C g=nI C g:=by
 funext x y H Q;refine propext ⟨λ ⟨i,j,e,e',q⟩=>by subst e e';exact q,λ h=>?_⟩;unfold nI at h;split at h
 ·exact⟨_,_,rfl,rfl,h⟩
 ·exact h.elim
def nU(g:Int->V):V->Hp->VK->Prop:=λ x H Q=>match x with
 | .int i=>Q (g i) H
 | _=>False
theorem NT(g:Int->V)(i:Int)(H:Hp)(Q:VK):nU g (.int i) H Q=Q (g i) H:=rfl
theorem Lr(g:Int->V):rU g=nU g:=by
 funext x H Q;refine propext ⟨λ ⟨i,e,q⟩=>by subst e;exact q,λ h=>?_⟩;unfold nU at h;split at h
 ·exact⟨_,rfl,h⟩
 ·exact h.elim
def kr(Q:Bool->Hp->Prop):VK:=λ x H=>match x with
 | .bl k=>Q k H
 | _=>False
theorem Ak(Q:Bool->Hp->Prop)(k:Bool)(H:Hp):kr Q (.bl k) H=Q k H:=rfl
theorem AS(Q:Bool->Hp->Prop):Hj Q=kr Q:=by
 funext x H;refine propext ⟨λ ⟨k,e,q⟩=>by subst e;exact q,λ h=>?_⟩;unfold kr at h;split at h
 ·exact⟨_,rfl,h⟩
 ·exact h.elim
def sk(t:TE):TT:=λ σ H Q=>t σ H (kr Q)
theorem Et(t:TE)(σ:St)(H:Hp)(Q:Bool->Hp->Prop):sk t σ H Q=t σ H (kr Q):=rfl
theorem lS(t:TE):Ci t=sk t:=by
 funext σ H Q
 show t σ H (Hj Q)=t σ H (kr Q)
 rw [AS]
theorem w5(t:TE):tB t=sk t:=lS t
def uu(tb:TE)(σ:St)(Q:VK):VK:=λ x H=>match x with
 | .bl c=>if c=true then tb σ H Q else Q (.bl false) H
 | _=>False
theorem Fe(tb:TE)(σ:St)(Q:VK)(c:Bool)(H:Hp):uu tb σ Q (.bl c) H=(if c=true then tb σ H Q else Q (.bl false) H):=rfl
def CH(ta tb:TE):TE:=λ σ H Q=>ta σ H (uu tb σ Q)
theorem EC(ta tb:TE)(σ:St)(H:Hp)(Q:VK):CH ta tb σ H Q=ta σ H (uu tb σ Q):=rfl
theorem zZ(ta tb:TE):GN ta tb=CH ta tb:=by
 funext σ H Q
 show ta σ H (Me tb σ Q)=ta σ H (uu tb σ Q)
 congr 1;funext x H;refine propext ⟨λ ⟨k,e,q⟩=>by subst e;exact q,λ h=>?_⟩;unfold uu at h;split at h
 ·exact⟨_,rfl,h⟩
 ·exact h.elim
def Gx(tb:TE)(σ:St)(Q:VK):VK:=λ x H=>match x with
 | .bl c=>if c=true then Q (.bl true) H else tb σ H Q
 | _=>False
theorem Jh(tb:TE)(σ:St)(Q:VK)(c:Bool)(H:Hp):Gx tb σ Q (.bl c) H=(if c=true then Q (.bl true) H else tb σ H Q):=rfl
def Kz(ta tb:TE):TE:=λ σ H Q=>ta σ H (Gx tb σ Q)
theorem IV(ta tb:TE)(σ:St)(H:Hp)(Q:VK):Kz ta tb σ H Q=ta σ H (Gx tb σ Q):=rfl
theorem DW(ta tb:TE):Mx ta tb=Kz ta tb:=by
 funext σ H Q
 show ta σ H (Oa tb σ Q)=ta σ H (Gx tb σ Q)
 congr 1;funext x H;refine propext ⟨λ ⟨k,e,q⟩=>by subst e;exact q,λ h=>?_⟩;unfold Gx at h;split at h
 ·exact⟨_,rfl,h⟩
 ·exact h.elim
def um(Q:VK):VK:=λ x H=>match x with
 | .bl c=>Q (.bl (!c)) H
 | _=>False
theorem EO(Q:VK)(c:Bool)(H:Hp):um Q (.bl c) H=Q (.bl (!c)) H:=rfl
def CD(ta:TE):TE:=λ σ H Q=>ta σ H (um Q)
theorem Ew(ta:TE)(σ:St)(H:Hp)(Q:VK):CD ta σ H Q=ta σ H (um Q):=rfl
theorem zY(ta:TE):GH ta=CD ta:=by
 funext σ H Q
 show ta σ H (Ma Q)=ta σ H (um Q)
 congr 1;funext x H;refine propext ⟨λ ⟨k,e,q⟩=>by subst e;exact q,λ h=>?_⟩;unfold um at h;split at h
 ·exact⟨_,rfl,h⟩
 ·exact h.elim
def so(r':R2)(tc:TE)(σ:St)(y:V)(Q:VK):VK:=λ z H=>match z with
 | .bl k=>if k=true then tc σ H (Kk r' y Q) else Q (.bl false) H
 | _=>False
theorem Fb(r':R2)(tc:TE)(σ:St)(y:V)(Q:VK)(k:Bool)(H:Hp):so r' tc σ y Q (.bl k) H=(if k=true then tc σ H (Kk r' y Q) else Q (.bl false) H):=rfl
theorem Fy(r':R2)(tc:TE)(σ:St)(y:V)(Q:VK):K1 r' tc σ y Q=so r' tc σ y Q:=by
 funext z H;refine propext ⟨λ ⟨k,e,q⟩=>by subst e;exact q,λ h=>?_⟩;unfold so at h;split at h
 ·exact⟨_,rfl,h⟩
 ·exact h.elim
def yX(r r':R2)(tc:TE)(σ:St)(x:V)(Q:VK):VK:=λ y H=>r x y H (so r' tc σ y Q)
theorem Fc(r r':R2)(tc:TE)(σ:St)(x y:V)(Q:VK)(H:Hp):yX r r' tc σ x Q y H=r x y H (so r' tc σ y Q):=rfl
def yY(r r':R2)(tb tc:TE)(σ:St)(Q:VK):VK:=λ x H=>tb σ H (yX r r' tc σ x Q)
theorem Fd(r r':R2)(tb tc:TE)(σ:St)(Q:VK)(x:V)(H:Hp):yY r r' tb tc σ Q x H=tb σ H (yX r r' tc σ x Q):=rfl
def uS(r r':R2)(ta tb tc:TE):TE:=λ σ H Q=>ta σ H (yY r r' tb tc σ Q)
theorem Aj(r r':R2)(ta tb tc:TE)(σ:St)(H:Hp)(Q:VK):uS r r' ta tb tc σ H Q=ta σ H (yY r r' tb tc σ Q):=rfl
theorem w6(r r':R2)(ta tb tc:TE):BQ r r' ta tb tc=uS r r' ta tb tc:=by
 funext σ H Q
 show ta σ H (Ob r r' tb tc σ Q)=ta σ H (yY r r' tb tc σ Q)
 congr 1;funext x H1
 show tb σ H1 (Ni r r' tc σ x Q)=tb σ H1 (yX r r' tc σ x Q)
 congr 1;funext y H2
 show r x y H2 (K1 r' tc σ y Q)=r x y H2 (so r' tc σ y Q)
 rw [Fy]
def y8:TGs:=λ vs σ H Q=>match vs with
 | []=>Q σ H
 | _=>False
theorem Fj(σ:St)(H:Hp)(Q:St->Hp->Prop):y8 [] σ H Q=Q σ H:=rfl
theorem FE:Nw=y8:=by
 funext vs σ H Q;refine propext ⟨λ ⟨e,q⟩=>by subst e;exact q,λ h=>?_⟩;unfold y8 at h;split at h
 ·exact⟨rfl,h⟩
 ·exact h.elim
def qR(t:TG)(u:TGs):TGs:=λ vs σ H Q=>match vs with
 | v::r=>t v σ H (kGs u r Q)
 | _=>False
theorem Aw(t:TG)(u:TGs)(v:V)(r:List V)(σ:St)(H:Hp)(Q:St->Hp->Prop):qR t u (v::r) σ H Q=t v σ H (kGs u r Q):=rfl
theorem Bl(t:TG)(u:TGs):Ht t u=qR t u:=by
 funext vs σ H Q;refine propext ⟨λ ⟨v,r,e,q⟩=>by subst e;exact q,λ h=>?_⟩;unfold qR at h;split at h
 ·exact⟨_,_,rfl,h⟩
 ·exact h.elim
theorem mL{α0:Type}{f:α0->List V}{B:α0->Prop}(inj:∀ a a',f a=f a'->a=a')(a:α0):(∃ a',f a=f a'/\B a')=B a:=propext ⟨λ ⟨a',e,q⟩=>by obtain rfl:=inj _ _ e;exact q,λ q=>⟨a,rfl,q⟩⟩
theorem mG{α0:Type}{f:α0->List V}{B:α0->Prop}{vs:List V}{n:Nat}(h:∃ a,vs=f a/\B a)(l:∀ a,(f a).length=n):vs.length=n:=by
 obtain⟨_,rfl,_⟩:=h;exact l _
theorem jV{α0 α1:Type}{f:α0->α1->List V}{B:α0->α1->Prop}(inj:∀ a b a' b',f a b=f a' b'->a=a'/\b=b')(a:α0)(b:α1):(∃ a' b',f a b=f a' b'/\B a' b')=B a b:=propext ⟨λ ⟨a',b',e,q⟩=>by obtain⟨rfl,rfl⟩:=inj _ _ _ _ e;exact q,λ q=>⟨a,b,rfl,q⟩⟩
theorem jW{α0 α1:Type}{f:α0->α1->List V}{B:α0->α1->Prop}{vs:List V}{n:Nat}(h:∃ a b,vs=f a b/\B a b)(l:∀ a b,(f a b).length=n):vs.length=n:=by
 obtain⟨_,_,rfl,_⟩:=h;exact l _ _
theorem uc{α0 α1 α2:Type}{f:α0->α1->α2->List V}{B:α0->α1->α2->Prop}(inj:∀ a b c a' b' c',f a b c=f a' b' c'->a=a'/\b=b'/\c=c')(a:α0)(b:α1)(c:α2):(∃ a' b' c',f a b c=f a' b' c'/\B a' b' c')=B a b c:=propext ⟨λ ⟨a',b',c',e,q⟩=>by obtain⟨rfl,rfl,rfl⟩:=inj _ _ _ _ _ _ e;exact q,λ q=>⟨a,b,c,rfl,q⟩⟩
theorem ud{α0 α1 α2:Type}{f:α0->α1->α2->List V}{B:α0->α1->α2->Prop}{vs:List V}{n:Nat}(h:∃ a b c,vs=f a b c/\B a b c)(l:∀ a b c,(f a b c).length=n):vs.length=n:=by
 obtain⟨_,_,_,rfl,_⟩:=h;exact l _ _ _
theorem MG{α0 α1 α2 α3:Type}{f:α0->α1->α2->α3->List V}{B:α0->α1->α2->α3->Prop}(inj:∀ a b c d a' b' c' d',f a b c d=f a' b' c' d'->a=a'/\b=b'/\c=c'/\d=d')(a:α0)(b:α1)(c:α2)(d:α3):(∃ a' b' c' d',f a b c d=f a' b' c' d'/\B a' b' c' d')=B a b c d:=propext ⟨λ ⟨a',b',c',d',e,q⟩=>by obtain⟨rfl,rfl,rfl,rfl⟩:=inj _ _ _ _ _ _ _ _ e;exact q,λ q=>⟨a,b,c,d,rfl,q⟩⟩
theorem MH{α0 α1 α2 α3:Type}{f:α0->α1->α2->α3->List V}{B:α0->α1->α2->α3->Prop}{vs:List V}{n:Nat}(h:∃ a b c d,vs=f a b c d/\B a b c d)(l:∀ a b c d,(f a b c d).length=n):vs.length=n:=by
 obtain⟨_,_,_,_,rfl,_⟩:=h;exact l _ _ _ _
theorem NX{P:List Value->Prop}(h:P []):∀ us:List Value,us.length=0->P us:=λ us e=>by
 cases us with
 | nil=>exact h
 | cons a r=>cases e
theorem k9{P:List Value->Prop}(h:∀ a,P [a]):∀ us:List Value,us.length=1->P us:=λ us e=>by
 cases us with
 | nil=>cases e
 | cons x r=>exact NX (P:=λ r=>P (x::r)) (h x) r (Sk e)
theorem jT{P:List Value->Prop}(h:∀ a b,P [a,b]):∀ us:List Value,us.length=2->P us:=λ us e=>by
 cases us with
 | nil=>cases e
 | cons x r=>exact k9 (P:=λ r=>P (x::r)) (h x) r (Sk e)
theorem oS{P:List Value->Prop}(h:∀ a b c,P [a,b,c]):∀ us:List Value,us.length=3->P us:=λ us e=>by
 cases us with
 | nil=>cases e
 | cons x r=>exact jT (P:=λ r=>P (x::r)) (h x) r (Sk e)
theorem MW{P:List Value->Prop}(h:∀ a b c d,P [a,b,c,d]):∀ us:List Value,us.length=4->P us:=λ us e=>by
 cases us with
 | nil=>cases e
 | cons x r=>exact oS (P:=λ r=>P (x::r)) (h x) r (Sk e)
section
variable {X:Cx}
theorem pvN(i:Nat){x:Str}{pos:Pos}(hN:X.N[i]? = some x:=by rfl)(hv:Vis X.env.scope x:=by first|exact Or.inl rfl|exact Or.inr (Or.inl rfl)|exact Or.inr (Or.inr rfl))(hd:(x == ("__debug__":Str))=false:=by decide)
  (hcd:(x == ("__classdict__":Str))=false:=by decide):PE X (.Name x pos) (tV i):=by rw [←GD];exact pv i hN hv hd hcd
theorem aK:OpR X (binaryOp .Add) (nI0 λ i j=>.int (i+j)):=by rw [←ko];exact qM
theorem eQ:OpR X (binaryOp .Sub) (nI0 λ i j=>.int (i - j)):=by rw [←ko];exact HZ
theorem oV:OpR X (compareOp .Lt) (nI0 λ i j=>.bl (decide (i < j))):=by rw [←ko];exact GV
theorem ui:OpR X (compareOp .LtE) (nI0 λ i j=>.bl (decide (i<=j))):=by rw [←ko];exact Lk
theorem mQ:OpR X (compareOp .Gt) (nI0 λ i j=>.bl (decide (j < i))):=by rw [←ko];exact GW
theorem GX:OpR X (compareOp .GtE) (nI0 λ i j=>.bl (decide (j<=i))):=by rw [←ko];exact Ll
theorem dI:OpR X (binaryOp .Mult) (nI mK λ i j=>.int (i * j)):=by rw [←uj];exact ir
theorem DS:OpR X (binaryOp .Mult) (nI CW λ i j=>.int (i * j)):=by rw [←uj];exact DO
theorem iZ:OpR X (binaryOp .FloorDiv) (nI Lb λ i j=>.int (i / j)):=by rw [←uj];exact DP
theorem iV:OpR X (binaryOp .Mod) (nI (λ _ j=>0 < j) λ i j=>.int (i % j)):=by rw [←uj];exact iU
theorem qN:OpR X (binaryOp .Pow) (nI La λ i j=>.int (i ^ j.toNat)):=by rw [←uj];exact Ib
theorem fT:UnR X (unaryOp .USub) (nU λ i=>.int (-i)):=by rw [←Lr];exact Hz
variable {a b c d e:Expr}{ta tb tc td t:TE}{pos:Pos}
theorem zJ{op:CmpOp}{r:R2}(ho:OpR X (compareOp op) r)(ha:PE X a ta)(hb:PE X b tb)(hm:behindInMarks op b=false):PT X (.Compare a [op] [b] pos) (sk (tOp r ta tb)):=by rw [←lS];exact pE ho ha hb hm
theorem Ds(h:PE X e t)(he:∀ whole,isTrue e X.env whole=(do let v ←whole;standAt e.pos;holding [v] (truthy v)):=by intro _;rfl):PT X e (sk t):=by rw [←w5];exact HJ h he
theorem nz{op op':CmpOp}{r r':R2}(ho:OpR X (compareOp op) r)(ho':OpR X (compareOp op') r')(ha:PE X a ta)(hb:PE X b tb)(hc:PE X c tc)
  (hm:lastMarks [op,op'] [b,c]=false:=by with_unfolding_all rfl):PE X (.Compare a [op,op'] [b,c] pos) (uS r r' ta tb tc):=by rw [←w6];exact zT ho ho' ha hb hc hm
variable {mM:List Expr}
theorem DK(ha:PE X a ta)(hb:PE X (.BoolOp .And (b::mM) pos) tb):PE X (.BoolOp .And (a::b::mM) pos) (CH ta tb):=by rw [←zZ];exact HX ha hb
theorem HS(ha:PE X a ta)(hb:PE X (.BoolOp .Or (b::mM) pos) tb):PE X (.BoolOp .Or (a::b::mM) pos) (Kz ta tb):=by rw [←DW];exact Lg ha hb
theorem DF(ha:PE X a ta):PE X (.UnaryOp .Not a pos) (CD ta):=by rw [←zY];exact HV ha
theorem aT:PGs X [] y8:=by rw [←FE];exact DC
theorem wL{e:Expr}{es:List Expr}{t:TG}{u:TGs}(h1:PG X e t)(h2:PGs X es u)
  (hs:(assignEach (e::es) X.env).map (·.2)=assign e X.env::(assignEach es X.env).map (·.2):=by rfl):PGs X (e::es) (qR t u):=by rw [←Bl];exact zN h1 h2 hs
end
theorem vb{c:TT}{t u:TS}{nx:St->Hp->Prop}{rt:VK}{bk ct:St->Hp->Prop}{σ:St}{H:Hp}(R:St->Hp->Prop)(h:∀ nx':St->Hp->Prop,(∀ σ' H',R σ' H'->nx' σ' H')->J6 c t u ⟨nx',rt,bk,ct⟩ σ H)(k:∀ σ' H',R σ' H'->nx σ' H'):J6 c t u ⟨nx,rt,bk,ct⟩ σ H:=h nx k
theorem Hc{i:Nat}:ME (tV i):=by rw [←GD];exact uT
theorem rp{t:TE}(h:ME t):MT (sk t):=by rw [←lS];exact pI h
def KH(k:Int)(H:Hp)(Q:VK):List V->Prop:=λ xs=>0<=k/\k<=4096/\xs.length * k.toNat<=sizeLine/\iF (.lst (List.replicate k.toNat xs).flatten) H Q
theorem Je(k:Int)(H:Hp)(Q:VK)(xs:List V):KH k H Q xs=(0<=k/\k<=4096/\xs.length * k.toNat<=sizeLine/\iF (.lst (List.replicate k.toNat xs).flatten) H Q):=rfl
def Ky:R2:=λ x y H Q=>match x,y with
 | .ref l,.int k=>az (av H l) (KH k H Q)
 | _,_=>False
theorem IU(l:Addr)(k:Int)(H:Hp)(Q:VK):Ky (.ref l) (.int k) H Q=az (av H l) (KH k H Q):=rfl
theorem DN{X:Cx}:OpR X (binaryOp .Mult) Ky:=Ia.mono λ x y H Q h=>by
 unfold Ky at h;split at h
 ·rename_i l k;obtain⟨xs,e,h0,h1,h2,q⟩:=ai h;exact⟨l,k,xs,rfl,rfl,bf e,by omega,by omega,h2,q.to⟩
 ·exact h.elim
def uU(l:Addr)(i:Int)(xs:List V)(H:Hp)(Q:VK):V->Prop:=λ y=>Q y (upd H l (.lst (xs.eraseIdx i.toNat)))
theorem Am(l:Addr)(i:Int)(xs:List V)(H:Hp)(Q:VK)(y:V):uU l i xs H Q y=Q y (upd H l (.lst (xs.eraseIdx i.toNat))):=rfl
def CM(l:Addr)(i:Int)(H:Hp)(Q:VK):List V->Prop:=λ xs=>0<=i/\i < xs.length/\xs.length<=4096/\az (xs[i.toNat]?) (uU l i xs H Q)
theorem EM(l:Addr)(i:Int)(H:Hp)(Q:VK)(xs:List V):CM l i H Q xs=(0<=i/\i < xs.length/\xs.length<=4096/\az (xs[i.toNat]?) (uU l i xs H Q)):=rfl
def uR:V->List V->Hp->VK->Prop:=λ x vs H Q=>match x,vs with
 | .ref l,[.int i]=>az (av H l) (CM l i H Q)
 | _,_=>False
theorem Ah(l:Addr)(i:Int)(H:Hp)(Q:VK):uR (.ref l) [.int i] H Q=az (av H l) (CM l i H Q):=rfl
theorem w9{X:Cx}:MtM X "list.pop" uR:=λ pins s σ H x vs v us Q I rx rv h=>Aa pins s σ H x vs v us Q I rx rv (by
 unfold uR at h;split at h
 ·rename_i l i;obtain⟨xs,e,h0,h1,h2,q⟩:=ai h;obtain⟨y,hy,q⟩:=ai q;exact⟨l,xs,i,i.toNat,y,rfl,rfl,bf e,by omega,by omega,seqIndex_of h0 h1,hy,q⟩
 ·exact h.elim)
theorem vG{t:TA}(h:MA t):ME (Ku t):=λ σ H Q Q' m q=>h σ H _ _ (λ xs H1 ⟨l,n⟩=>⟨l,λ p H' a b c=>m _ _ (n p H' a b c)⟩) q
def KQ(neg:Bool)(x:V)(H:Hp)(Q:VK):List V->Prop:=λ xs=>gr x=true/\xs.all gr=true/\Q (.bl (if neg=true then !inV x xs else inV x xs)) H
theorem Jo(neg:Bool)(x:V)(H:Hp)(Q:VK)(xs:List V):KQ neg x H Q xs=(gr x=true/\xs.all gr=true/\Q (.bl (if neg=true then !inV x xs else inV x xs)) H):=rfl
def nIn(neg:Bool):R2:=λ x y H Q=>match y with
 | .ref p=>az (cL H p) (KQ neg x H Q)
 | _=>False
theorem LG(neg:Bool)(x:V)(p:Addr)(H:Hp)(Q:VK):nIn neg x (.ref p) H Q=az (cL H p) (KQ neg x H Q):=rfl
theorem HI{K:W.Frag}{neg:Bool}{x y:V}{H:Hp}{Q:VK}(h:nIn neg x y H Q):rIn K neg x y H Q:=by
 unfold nIn at h;split at h
 ·rename_i p;obtain⟨xs,e,h1,h2,q⟩:=ai h;exact⟨p,xs,rfl,gC e,h1,h2,q⟩
 ·exact h.elim
theorem wW{X:Cx}:OpR X (compareOp .NotIn) (nIn true):=oq.mono λ x y H Q h=>HI h
def Kd(lo hi:Option Int)(H:Hp)(Q:VK):List V->Prop:=λ xs=>¬ (HT.sIx xs.length 0 lo=0/\HT.sIx xs.length xs.length hi=xs.length)/\iF (.tup (jU xs lo hi)) H Q
def Kx:V->Option Int->Option Int->Hp->VK->Prop:=λ x lo hi H Q=>match x with
 | .ref a=>az (iQ H a) (Kd lo hi H Q)
 | _=>False
theorem IT(a:Addr)(lo hi:Option Int)(H:Hp)(Q:VK):Kx (.ref a) lo hi H Q=az (iQ H a) (Kd lo hi H Q):=rfl
theorem lW(xs:List V)(z:Int)(h:0<=z):jU xs (some z) none=xs.drop z.toNat:=by
 unfold jU;obtain⟨n,rfl⟩:=Int.eq_ofNat_of_zero_le h;rw [HT.sIx_none,HT.sIx_nat]
 show _=xs.drop n
 rcases Sl n xs.length with q|q
 ·rw [QO q];exact Qt (by rw [P0];omega)
 ·rw [RI q,QV (OC _),QV q,List.take_nil]
theorem mP{X:Cx}:SlR X Kx:=HF.mono λ x lo hi H Q h=>by
 unfold Kx at h;split at h
 ·rename_i a;obtain⟨xs,e,w,q⟩:=ai h;exact⟨a,xs,rfl,SqT.of (qK e),w,q.to⟩
 ·exact h.elim
section
variable {X:Cx}
end
section
variable {prog:Program}{w:World}{A:Around}{E:Value->Shared->Prop}{s:Shared}
end
section
variable {X:Cx}
end
section
variable {k:Nat}{g:TG}{tt:TT}{te:TE}{σ:St}{Q:VK}{H:Hp}
end
structure IsC(K:W.Frag)(C:Addr):Prop where
 cl:Cls K C
 fc:W.findIn K (.ref C) "__class__"=some (some (.builtin "object.__class__"))
 ocs:W.specialIn K (.builtin "object.__class__") "__get__"=some (some (.builtin "getset_descriptor.__get__"))
 oct:W.takesIn K (.builtin "object.__class__")=some true
 mo:W.mroIn K C (.type "object")=some true
section
variable {X:Cx}
end
section
variable {prog:Program}{w:World}{A:Around}{E:Value->Shared->Prop}{K:Frag}{x C dx:Addr}{s:Shared}{name:Str}{v:Value}
end
section
variable {X:Cx}{e o value:Expr}{ta tv:TE}{f:Str}{pos pos':Pos}
end
open Sem (wp)
open AutoSeq1 (wpAny_loadPart')
section
variable {X:Cx}
end
def Hw(o:Obj):Prop:=∃ vs,o.data=.fields vs/\vs[2]? = some .none
section
variable {prog:Program}{w:World}{A:Around}{E:Value->Shared->Prop}{s:Shared}
end
def NB(X:Cx):Prop:=∃ (e:Addr) (oe:Obj) (u:HO),X.A.handled=some (.ref e)/\X.H₀ e=some (.frz oe u)/\Hw oe
structure Ol(P:Program)(w:World)(K:W.Frag)(tg:Expr)(J:It)(fp:List Addr)(it:Addr)(tn:Nat->Heap->Prop):Prop where
 mem:it∈fp
 obj:∀ i h,tn i h->∀ b∈fp,∃ o,h.get? b=some o/\∀ v,o.data ≠ .cell v
 keep:∀ i h h',tn i h->(∀ b∈fp,∀ o,h.get? b=some o->h'.get? b=some o)->tn i h'
 item:∀ (X:Cx),X.prog=P->X.w=w->X.K=K->NB X->∀ (i:Nat) (pins:List (Addr × Obj)) (s:Shared) (σ:St) (H:Hp) (E:Value->Shared->Prop),Inv X pins σ H s->(∀ b∈fp,oT X pins H b)->tn i s.heap->J.go i H →
  wpAny (model P w) X.A (pyNext (.ref it)) (λ r s1=>∃ u,r=some u /\
   wpAny (model P w) X.A (letOwnedTupleGo tg (.ref it) u) (λ _ s2=>∃ x H',Inv X pins σ H' s2/\bF x u/\J.yld i H x H'/\tn (i+1) s2.heap/\∀ b∈fp,H' b=none) E s1) E s
 done:∀ (X:Cx),X.prog=P->X.w=w->X.K=K->NB X->∀ (i:Nat) (pins:List (Addr × Obj)) (s:Shared) (σ:St) (H:Hp) (E:Value->Shared->Prop),Inv X pins σ H s->(∀ b∈fp,oT X pins H b)->tn i s.heap->J.stop i H →
  wpAny (model P w) X.A (pyNext (.ref it)) (λ r s1=>r=none/\Inv X pins σ H s1) E s
section
variable {X:Cx}{tg:Expr}
end
structure Mp(k:Nat)(e:Addr)(A:Around):Prop where
 hd:A.handled=some (.ref e)
 dp:A.depth+3 * k+5 < recursionLimit
 un:A.units+16 * k+200 < cLine
structure Om(P:Program)(w:World)(K:W.Frag)(mg:Str->Option Value)(base:Heap)(CX:CXT)(k:Nat)(f:Addr)(fd:FuncData)(ps:List Str)(sp:Sp):Prop where
 len:∀ vs H Q E,sp vs H Q E->vs.length=ps.length
 run:∀ (A:Around) (outer:List Env) (s:Shared) (H:Hp) (args:Args) (us:List Value) (vs:List V) (Q:VK) (E:XK) (e:Addr) (oe:Obj) (u:HO),Mp k e A->H e=some (.frz oe u)->Hw oe->BL P w K mg base A outer s H->BindsTo s fd args (ps.zip us)->aU vs us->sp vs H Q E →
  codeAny (model P w) A (.call (.ref f) args) (CR CX outer P w H s Q E) s
section
variable {X:Cx}
end
abbrev cv(h:Heap)(T:Addr)(a b c:Value):Prop:=h.get? T=some { cls:=.type "tuple",data:=.seq #[a,b,c] }
section
variable {prog:Program}{w:World}{A:Around}{E:Value->Shared->Prop}{s:Shared}
theorem cb{T:Addr}{a b c x:Value}{k:Nat}{Q:Unit->Shared->Prop}(hT:cv s.heap T a b c)
  (h:∀ h',h'.get? T=some { cls:=.type "tuple",data:=.seq ((#[a,b,c]:Array Value).setIfInBounds k x) }->Heap.SameBut T s.heap h'->Q () { s with heap:=h' }) :
  wpAny (model prog w) A (updateSeq T (·.setIfInBounds k x)) Q E s:=by
 refine P1 hT rfl (h _ ?_ (Sv ..));rw [Pf _ hT rfl];simp [Obj.mapSeq]
structure kz(z TI TO i j l:Addr)(f g e:List Addr):Prop where
 ti:TI ≠ z/\TI ≠ TO/\TI ≠ i/\TI ≠ j/\TI ≠ l
 zt:z ≠ TO
 zf:z ∉ f
 zg:z ∉ g
 ze:z ∉ e
 tf:TO ∉ f
 tg:TO ∉ g
 te:TO ∉ e
 ig:i ∉ g
 ie:i ∉ e
 jf:j ∉ f
 je:j ∉ e
 lf:l ∉ f
 lg:l ∉ g
variable {z TI TO i j l:Addr}{f g e:List Addr}{ti tj tl:Nat->Heap->Prop}{vi vj vl:Nat->Option Value}{k m n:Nat}{x y u a b c:Value}
theorem wq(S:Src prog w i f ti vi)(T:Src prog w j g tj vj)(U:Src prog w l e tl vl)(D:kz z TI TO i j l f g e){Q:Value->Shared->Prop}
  (hz:IsZip s.heap z TI TO .none) (hTI:cv s.heap TI (.ref i) (.ref j) (.ref l)) (hTO:cv s.heap TO a b c) (hi:ti k s.heap) (hj:tj m s.heap) (hl:tl n s.heap) (hx:vi k=some x) (hy:vj m=some y) (hu:vl n=some u)
  (hQ:∀ h',IsZip h' z TI TO (rawInt s.heap.objs.size)->cv h' TO x y u->ti (k+1) h'->tj (m+1) h'->tl (n+1) h'->cv h' s.heap.objs.size x y u->h'.objs.size=s.heap.objs.size+1->(∀ c o,c ∉ [z,TO,i,j,l]->s.heap.get? c=some o->h'.get? c=some o)->Q (.ref s.heap.objs.size) { s with heap:=h' }) :
  wpAny (model prog w) A (Builtin.«zip.__next__» ⟨[.ref z],[]⟩) (λ fin s'=>∃ v,fin=.done (.ret v)/\Q v s') E s:=by
 have iz:i ≠ z:=aZ S.mem D.zf;have jz:j ≠ z:=aZ T.mem D.zg;have lz:l ≠ z:=aZ U.mem D.ze;have iTO:i ≠ TO:=aZ S.mem D.tf;have jTO:j ≠ TO:=aZ T.mem D.tg;have lTO:l ≠ TO:=aZ U.mem D.te;refine wpAny_bind (m:=field (.ref z) 2) (wpAny_field hz rfl (x:=.bool false) rfl ?_);refine wpAny_bind (m:=field (.ref z) 3) (wpAny_field hz rfl (x:=.ref TI) rfl (wpAny_bind (wpAny_seqItems hTI rfl ?_)));refine wpAny_bind (m:=Builtin.SmallTypes.ownedTupleIsFree (.ref z)) ?_;unfold Builtin.SmallTypes.ownedTupleIsFree;refine wpAny_bind (wpAny_field hz rfl (x:=.none) rfl (wpAny_pure ?_));simp only [if_true];refine wpAny_bind (wpAny_rule (wpAny_bind (wpAny_field hz rfl (x:=.ref TO) rfl (wpAny_bind (wpAny_setField_rec hz (by simp) λ q1 z1 s1=>?_)))));replace z1:IsZip q1 z TI TO .ellipsis:=z1;refine wpAny_bind ?_;simp only [List.zipIdx_cons,List.zipIdx_nil,forIn_cons,forIn_nil];refine wpAny_bind (wpAny_bind (wpAny_onRaise (wpAny_bind (m:=Builtin.SmallTypes.nextOf (.ref i)) (S.item _ k _ x _ _ (S.but hi s1.extBut D.zf) hx λ q2 i2 s2=>wpAny_pure ?_))));have o2:cv q2 TO a b c:=s2.extBut _ _ iTO.symm (s1.extBut _ _ D.zt.symm hTO);refine wpAny_bind (wpAny_seqItems o2 rfl (wpAny_bind (cb o2 λ q3 o3 s3=>wpAny_bind (wpAny_letGo (wpAny_pure ?_)))));replace o3:cv q3 TO x b c:=o3;have j3:tj m q3:=T.but (T.but (T.but hj s1.extBut D.zg) s2.extBut D.ig) s3.extBut D.tg;refine wpAny_bind (wpAny_bind (wpAny_onRaise (wpAny_bind (m:=Builtin.SmallTypes.nextOf (.ref j)) (T.item _ m _ y _ _ j3 hy λ q4 j4 s4=>wpAny_pure ?_))));have o4:cv q4 TO x b c:=s4.extBut _ _ jTO.symm o3;refine wpAny_bind (wpAny_seqItems o4 rfl (wpAny_bind (cb o4 λ q5 o5 s5=>wpAny_bind (wpAny_letGo (wpAny_pure ?_)))));replace o5:cv q5 TO x y c:=o5;have l5:tl n q5:=U.but (U.but (U.but (U.but (U.but hl s1.extBut D.ze) s2.extBut D.ie) s3.extBut D.te) s4.extBut D.je) s5.extBut D.te;refine wpAny_bind (wpAny_bind (wpAny_onRaise (wpAny_bind (m:=Builtin.SmallTypes.nextOf (.ref l)) (U.item _ n _ u _ _ l5 hu λ q6 l6 s6=>wpAny_pure ?_))));have o6:cv q6 TO x y c:=s6.extBut _ _ lTO.symm o5;refine wpAny_bind (wpAny_seqItems o6 rfl (wpAny_bind (cb o6 λ q7 o7 s7=>wpAny_bind (wpAny_letGo (wpAny_pure (wpAny_pure ?_))))));replace o7:cv q7 TO x y u:=o7;refine wpAny_bind (wpAny_seqItems o7 rfl (wpAny_bind (wpAny_newTuple ?_)));have sz:q7.objs.size=s.heap.objs.size:=by rw [s7.1,s6.1,s5.1,s4.1,s3.1,s2.1,s1.1]
 have z7:IsZip q7 z TI TO .ellipsis:=s7.extBut _ _ D.zt (s6.extBut _ _ lz.symm (s5.extBut _ _ D.zt (s4.extBut _ _ jz.symm (s3.extBut _ _ D.zt (s2.extBut _ _ iz.symm z1)))))
 have k7:∀ c o,c ∉ [z,TO,i,j,l]->s.heap.get? c=some o->q7.get? c=some o:=λ c o hc e=>by
  simp only [OU,OJ,O6,QU] at hc;exact s7.extBut _ _ hc.2.1 (s6.extBut _ _ hc.2.2.2.2 (s5.extBut _ _ hc.2.1 (s4.extBut _ _ hc.2.2.2.1 (s3.extBut _ _ hc.2.1 (s2.extBut _ _ hc.2.2.1 (s1.extBut _ _ hc.1 e))))))
 have i7:ti (k+1) q7:=S.but (S.but (S.but (S.but (S.but i2 s3.extBut D.tf) s4.extBut D.jf) s5.extBut D.tf) s6.extBut D.lf) s7.extBut D.tf;have j7:tj (m+1) q7:=T.but (T.but (T.but j4 s5.extBut D.tg) s6.extBut D.lg) s7.extBut D.tg;have l7:tl (n+1) q7:=U.but l6 s7.extBut D.te;have zlt:z < q7.objs.size:=Heap.lt_size z7;refine wpAny_bind (m:=Builtin.SmallTypes.ownedTupleHandOut (.ref z) (.ref q7.objs.size)) ?_;unfold Builtin.SmallTypes.ownedTupleHandOut;have z8:IsZip (q7.push { cls:=.type "tuple",data:=.seq #[x,y,u] }) z TI TO .ellipsis:=Heap.get?_push_of_some _ z7;refine wpAny_bind (wpAny_setField_rec z8 (by simp) λ q9 z9 s9=>?_);replace z9:IsZip q9 z TI TO (rawInt q7.objs.size):=z9;refine wpAny_setField_rec z9 (by simp) λ q10 z10 s10=>?_;replace z10:IsZip q10 z TI TO (rawInt q7.objs.size):=z10;have up:∀ c o,c ≠ z->q7.get? c=some o->q10.get? c=some o:=λ c o hc e=>s10.extBut _ _ hc (s9.extBut _ _ hc (Heap.get?_push_of_some _ e));have t10:cv q10 q7.objs.size x y u:=s10.extBut _ _ (Nat.ne_of_gt zlt) (s9.extBut _ _ (Nat.ne_of_gt zlt) (Heap.get?_push_size _ rfl));have n10:q10.objs.size=q7.objs.size+1:=by rw [s10.1,s9.1,Heap.size_push]
 rw [sz] at z10 t10 n10;refine Oz ⟨_,rfl,?_⟩
 show Q (.ref q7.objs.size) _
 rw [sz];exact hQ q10 z10 (up _ _ D.zt.symm o7) (S.keep _ _ _ i7 λ c hc o e=>up c o (aZ hc D.zf) e) (T.keep _ _ _ j7 λ c hc o e=>up c o (aZ hc D.zg) e) (U.keep _ _ _ l7 λ c hc o e=>up c o (aZ hc D.ze) e) t10 n10 λ c o hc e=>up c o (λ q=>hc (by simp [q])) (k7 c o hc e)
theorem zq(hh:A.handled=none)(S:Src prog w i f ti vi)(T:Src prog w j g tj vj)(U:Src prog w l e tl vl)(D:kz z TI TO i j l f g e){Q:Fin->Shared->Prop}
  (hz:IsZip s.heap z TI TO .none) (hTI:cv s.heap TI (.ref i) (.ref j) (.ref l)) (hTO:cv s.heap TO a b c) (hi:ti k s.heap) (hj:tj m s.heap) (hl:tl n s.heap) (hxy:vi k=none\/vj m=none\/vl n=none)
  (hE:∀ h' e,(∀ c o,c ∉ [z,TO,i,j,l]->s.heap.get? c=some o->h'.get? c=some o)->(∃ o,h'.get? e=some o/\o.cls=.type "StopIteration")->E (.ref e) { s with heap:=h' }) :
  wpAny (model prog w) A (Builtin.«zip.__next__» ⟨[.ref z],[]⟩) Q E s:=by
 have iz:i ≠ z:=aZ S.mem D.zf;have jz:j ≠ z:=aZ T.mem D.zg;have lz:l ≠ z:=aZ U.mem D.ze;have iTO:i ≠ TO:=aZ S.mem D.tf;have jTO:j ≠ TO:=aZ T.mem D.tg;refine wpAny_bind (m:=field (.ref z) 2) (wpAny_field hz rfl (x:=.bool false) rfl ?_);refine wpAny_bind (m:=field (.ref z) 3) (wpAny_field hz rfl (x:=.ref TI) rfl (wpAny_bind (wpAny_seqItems hTI rfl ?_)));refine wpAny_bind (m:=Builtin.SmallTypes.ownedTupleIsFree (.ref z)) ?_;unfold Builtin.SmallTypes.ownedTupleIsFree;refine wpAny_bind (wpAny_field hz rfl (x:=.none) rfl (wpAny_pure ?_));simp only [if_true];refine wpAny_bind (wpAny_rule (wpAny_bind (wpAny_field hz rfl (x:=.ref TO) rfl (wpAny_bind (wpAny_setField_rec hz (by simp) λ q1 z1 s1=>?_)))));replace z1:IsZip q1 z TI TO .ellipsis:=z1;refine wpAny_bind ?_;simp only [List.zipIdx_cons,List.zipIdx_nil,forIn_cons,forIn_nil];refine wpAny_bind (wpAny_bind (wpAny_onRaise (wpAny_bind (m:=Builtin.SmallTypes.nextOf (.ref i)) ?_)))
 cases hx:vi k with
 | none=>
  refine S.fin _ k _ _ _ hh (S.but hi s1.extBut D.zf) hx λ q2 e s2 ⟨oe,he,hce⟩=>?_;have z2:IsZip q2 z TI TO .ellipsis:=s2 _ _ iz.symm z1;have ez:e ≠ z:=λ q=>by subst q;rw [z2] at he;cases he;simp at hce
  refine Pg z2 (by simp) λ q3 _ s3=>hE q3 e (λ c o hc q=>?_) ⟨oe,s3.extBut _ _ ez he,hce⟩;simp only [OU,OJ,O6,QU] at hc;exact s3.extBut _ _ hc.1 (s2 _ _ hc.2.2.1 (s1.extBut _ _ hc.1 q))
 | some x=>
  refine S.item _ k _ x _ _ (S.but hi s1.extBut D.zf) hx λ q2 i2 s2=>Oz ?_;have o2:cv q2 TO a b c:=s2.extBut _ _ iTO.symm (s1.extBut _ _ D.zt.symm hTO);refine My (OZ o2 rfl (My (cb o2 λ q3 o3 s3=>My (PV (Oz ?_)))));replace o3:cv q3 TO x b c:=o3;have j3:tj m q3:=T.but (T.but (T.but hj s1.extBut D.zg) s2.extBut D.ig) s3.extBut D.tg;refine My (My (Ql (My (m:=Builtin.SmallTypes.nextOf (.ref j)) ?_)))
  cases hy:vj m with
  | none=>
   refine T.fin _ m _ _ _ hh j3 hy λ q4 e s4 ⟨oe,he,hce⟩=>?_;have z4:IsZip q4 z TI TO .ellipsis:=s4 _ _ jz.symm (s3.extBut _ _ D.zt (s2.extBut _ _ iz.symm z1));have ez:e ≠ z:=λ q=>by subst q;rw [z4] at he;cases he;simp at hce
   refine Pg z4 (by simp) λ q5 _ s5=>hE q5 e (λ c o hc q=>?_) ⟨oe,s5.extBut _ _ ez he,hce⟩;simp only [OU,OJ,O6,QU] at hc;exact s5.extBut _ _ hc.1 (s4 _ _ hc.2.2.2.1 (s3.extBut _ _ hc.2.1 (s2.extBut _ _ hc.2.2.1 (s1.extBut _ _ hc.1 q))))
  | some y=>
   have hu:vl n=none:=by
    rcases hxy with h|h|h
    ·rw [hx] at h;cases h
    ·rw [hy] at h;cases h
    ·exact h
   refine T.item _ m _ y _ _ j3 hy λ q4 j4 s4=>Oz ?_;have o4:cv q4 TO x b c:=s4.extBut _ _ jTO.symm o3;refine My (OZ o4 rfl (My (cb o4 λ q5 o5 s5=>My (PV (Oz ?_)))));have l5:tl n q5:=U.but (U.but (U.but (U.but (U.but hl s1.extBut D.ze) s2.extBut D.ie) s3.extBut D.te) s4.extBut D.je) s5.extBut D.te;refine My (My (Ql (My (m:=Builtin.SmallTypes.nextOf (.ref l)) (U.fin _ n _ _ _ hh l5 hu λ q6 e s6 ⟨oe,he,hce⟩=>?_))));have z6:IsZip q6 z TI TO .ellipsis:=s6 _ _ lz.symm (s5.extBut _ _ D.zt (s4.extBut _ _ jz.symm (s3.extBut _ _ D.zt (s2.extBut _ _ iz.symm z1))));have ez:e ≠ z:=λ q=>by subst q;rw [z6] at he;cases he;simp at hce
   refine Pg z6 (by simp) λ q7 _ s7=>hE q7 e (λ c o hc q=>?_) ⟨oe,s7.extBut _ _ ez he,hce⟩;simp only [OU,OJ,O6,QU] at hc;exact s7.extBut _ _ hc.1 (s6 _ _ hc.2.2.2.2 (s5.extBut _ _ hc.2.1 (s4.extBut _ _ hc.2.2.2.1 (s3.extBut _ _ hc.2.1 (s2.extBut _ _ hc.2.2.1 (s1.extBut _ _ hc.1 q))))))
theorem kd(S:Src prog w i f ti vi)(T:Src prog w j g tj vj)(U:Src prog w l e tl vl)(D:kz z TI TO i j l f g e){Q:Option Value->Shared->Prop}
  (hz:IsZip s.heap z TI TO .none) (hTI:cv s.heap TI (.ref i) (.ref j) (.ref l)) (hTO:cv s.heap TO a b c) (hi:ti k s.heap) (hj:tj m s.heap) (hl:tl n s.heap) (hx:vi k=some x) (hy:vj m=some y) (hu:vl n=some u)
  (hQ:∀ h',IsZip h' z TI TO (rawInt s.heap.objs.size)->cv h' TO x y u->ti (k+1) h'->tj (m+1) h'->tl (n+1) h'->cv h' s.heap.objs.size x y u->h'.objs.size=s.heap.objs.size+1->(∀ c o,c ∉ [z,TO,i,j,l]->s.heap.get? c=some o->h'.get? c=some o)->Q (some (.ref s.heap.objs.size)) { s with heap:=h' }) :
  wpAny (model prog w) A (pyNext (.ref z)) Q E s:=by
 have ty:s.TypeIs (.ref z) "zip":=⟨_,hz,rfl⟩;unfold pyNext;exact wpAny_bind (wpAny_attempt (wpAny_callSpecial?_slot (name:=Str.ofString "__next__") ty F.slot_zip_next (wpAny_call_entry F.slot_zip_next ty F.entry_zip_next (wq S T U D hz hTI hTO hi hj hl hx hy hu λ h' c1 c2 c3 c4 c5 c6 c7 c8=>wpAny_pure (hQ h' c1 c2 c3 c4 c5 c6 c7 c8)) (F.args_zip_next_1 _))))
theorem me(hh:A.handled=none)(S:Src prog w i f ti vi)(T:Src prog w j g tj vj)(U:Src prog w l e tl vl)(D:kz z TI TO i j l f g e){Q:Option Value->Shared->Prop}
  (hz:IsZip s.heap z TI TO .none) (hTI:cv s.heap TI (.ref i) (.ref j) (.ref l)) (hTO:cv s.heap TO a b c) (hi:ti k s.heap) (hj:tj m s.heap) (hl:tl n s.heap) (hxy:vi k=none\/vj m=none\/vl n=none)
  (hQ:∀ h',(∀ c o,c ∉ [z,TO,i,j,l]->s.heap.get? c=some o->h'.get? c=some o)->Q none { s with heap:=h' }):wpAny (model prog w) A (pyNext (.ref z)) Q E s:=by
 have ty:s.TypeIs (.ref z) "zip":=⟨_,hz,rfl⟩;unfold pyNext;refine wpAny_bind (wpAny_attempt (wpAny_callSpecial?_slot (name:=Str.ofString "__next__") ty F.slot_zip_next (wpAny_call_entry F.slot_zip_next ty F.entry_zip_next (zq (show A.in1.handled=none from hh) S T U D hz hTI hTO hi hj hl hxy λ h' e kp he=>?_) (F.args_zip_next_1 _))));obtain⟨o,ho,hc⟩:=he;exact wpAny_bind (wpAny_isInstance (T := "StopIteration") (b:=true) ⟨o,ho,hc⟩ isSubtype_stop (wpAny_pure (hQ _ kp)))
end
theorem ke(a b c:Value):checkTypeCall "zip" ⟨[a,b,c],[]⟩=pure ():=by kernel_rfl
theorem mx(a b c:Value):checkBuiltinCall "zip.__new__" ⟨[.type "zip",a,b,c],[]⟩=pure ():=by kernel_rfl
theorem gN(a b c d:Value):argsOk "object.__init__" ⟨[a,b,c,d],[]⟩:=by
 unfold argsOk;rw [signature?_of (id := "object.__init__") (n:=['_','_','t','i','n','i','_','_']) (o:=['t','c','e','j','b','o']) (by kernel_rfl) F.owner_object];kernel_rfl
section
variable {prog:Program}{w:World}{A:Around}{E:Value->Shared->Prop}{s:Shared}
abbrev yq1(a:Addr)(h:Heap):Heap:=h.push (j8 false a)
abbrev yq2(a b:Addr)(h:Heap):Heap:=(yq1 a h).push (j8 false b)
abbrev Gn(a b c:Addr)(h:Heap):Heap:=(yq2 a b h).push (j8 false c)
abbrev yq3(a b c:Addr)(h:Heap):Heap:=(Gn a b c h).push { cls:=.type "tuple",data:=.seq #[.ref h.objs.size,.ref (yq1 a h).objs.size,.ref (yq2 a b h).objs.size] }
abbrev yq4(a b c:Addr)(h:Heap):Heap:=(yq3 a b c h).push { cls:=.type "tuple",data:=.seq #[.none,.none,.none] }
abbrev yq5(a b c:Addr)(h:Heap):Heap:=(yq4 a b c h).push { cls:=.type "zip",data:=.fields #[.none,.bool false,.bool false,.ref (Gn a b c h).objs.size,.ref (yq3 a b c h).objs.size] }
theorem sy(a b c:Addr)(xs ys us:Array Value):Meets (Builtin.«zip.__new__» ⟨[.type "zip",.ref a,.ref b,.ref c],[]⟩) (λ _ R s=>SeqAt s.heap false a xs/\SeqAt s.heap false b ys/\SeqAt s.heap false c us/\R (.ok (.ret (.ref (yq4 a b c s.heap).objs.size))) { s with heap:=yq5 a b c s.heap }):=
 .of_wp λ prog w A R s h=>by
  obtain⟨hp,g,d,tk,os⟩:=s;obtain⟨h1,h2,h3,h⟩:=h;have hsub:=sub_zip;have q1:SeqAt (Shared.heap ⟨hp,g,d,tk,os⟩) false a xs:=h1;have q2:SeqAt (Shared.heap ⟨hp.push (j8 false a),g,d,tk,os⟩) false b ys:=h2.at λ o e=>Ox _ e;have q3:SeqAt (Shared.heap ⟨(hp.push (j8 false a)).push (j8 false b),g,d,tk,os⟩) false c us:=h3.at λ o e=>Ox _ (Ox _ e)
  wp_walk using i6 q1,i6 q2,i6 q3
  exact⟨_,rfl,h⟩
theorem FX{a b c:Addr}{xs ys us:Array Value}{Q:Value->Shared->Prop}(h1:SeqAt s.heap false a xs)(h2:SeqAt s.heap false b ys)(h3:SeqAt s.heap false c us)
  (h:∀ h' n,n=s.heap.objs.size->IsZip h' (n+5) (n+3) (n+4) .none->cv h' (n+3) (.ref n) (.ref (n+1)) (.ref (n+2))->cv h' (n+4) .none .none .none->bb h' false n a 0->bb h' false (n+1) b 0->bb h' false (n+2) c 0->h'.objs.size=n+6->(∀ c o,s.heap.get? c=some o->h'.get? c=some o)->Q (.ref (n+5)) { s with heap:=h' }) :
  wpAny (model prog w) A (call (.type "zip") [.ref a,.ref b,.ref c]) Q E s:=by
 refine callType_new F.called_zip (by decide) (ke _ _ _) (mx _ _ _) (λ ob=>gN ob _ _ _) F.entry_zip_new (sy a b c xs ys us) ⟨h1,h2,h3,?_⟩;have n1:(yq1 a s.heap).objs.size=s.heap.objs.size+1:=O5 ..;have n2:(yq2 a b s.heap).objs.size=s.heap.objs.size+2:=by rw [O5,n1]
 have n3:(Gn a b c s.heap).objs.size=s.heap.objs.size+3:=by rw [O5,n2]
 have n4:(yq3 a b c s.heap).objs.size=s.heap.objs.size+4:=by rw [O5,n3]
 have n5:(yq4 a b c s.heap).objs.size=s.heap.objs.size+5:=by rw [O5,n4]
 have n6:(yq5 a b c s.heap).objs.size=s.heap.objs.size+6:=by rw [O5,n5]
 have f1:bb (yq1 a s.heap) false s.heap.objs.size a 0:=⟨_,OD _ rfl,rfl,rfl⟩;have f2:bb (yq2 a b s.heap) false (yq1 a s.heap).objs.size b 0:=⟨_,OD _ rfl,rfl,rfl⟩;have f3:bb (Gn a b c s.heap) false (yq2 a b s.heap).objs.size c 0:=⟨_,OD _ rfl,rfl,rfl⟩;have u2:∀ d o,(Gn a b c s.heap).get? d=some o->(yq5 a b c s.heap).get? d=some o:=λ d o e=>Ox _ (Ox _ (Ox _ e));have g5:(yq5 a b c s.heap).get? (yq4 a b c s.heap).objs.size=some _:=OD _ rfl;have g4:(yq5 a b c s.heap).get? (yq3 a b c s.heap).objs.size=some _:=Ox _ (OD _ rfl);have g3:(yq5 a b c s.heap).get? (Gn a b c s.heap).objs.size=some _:=Ox _ (Ox _ (OD _ rfl));have e1:bb (yq5 a b c s.heap) false s.heap.objs.size a 0:=f1.at λ o e=>u2 _ o (Ox _ (Ox _ e));have e2:bb (yq5 a b c s.heap) false (yq1 a s.heap).objs.size b 0:=f2.at λ o e=>u2 _ o (Ox _ e);have e3:bb (yq5 a b c s.heap) false (yq2 a b s.heap).objs.size c 0:=f3.at λ o e=>u2 _ o e
 show _/\_
 rw [n3,n4,n5] at g5;rw [n1,n2,n3] at g3;rw [n4] at g4;rw [n1] at e2;rw [n2] at e3;rw [n5];exact⟨⟨_,g5,rfl⟩,h _ _ rfl g5 g3 g4 e1 e2 e3 n6 λ d o e=>u2 d o (Ox _ (Ox _ (Ox _ e)))⟩
end
def It3(a b c:Addr)(xs ys us:List V):It:=
 ⟨λ i H=>SqK false H a xs/\SqK false H b ys/\SqK false H c us/\i < xs.length/\i < ys.length/\i < us.length,λ i H x H'=>∃ p u v t,H p=none/\x=.ref p/\xs[i]? = some u/\ys[i]? = some v/\us[i]? = some t/\H'=upd H p (.tup [u,v,t]),λ i H=>SqK false H a xs/\SqK false H b ys/\SqK false H c us/\(xs.length<=i\/ys.length<=i\/us.length<=i)⟩
def Tn3(a b c z TI TO p q r:Addr)(i:Nat)(h:Heap):Prop:=IsZip h z TI TO .none/\cv h TI (.ref p) (.ref q) (.ref r)/\(∃ u v t,cv h TO u v t)/\bb h false p a i/\bb h false q b i/\bb h false r c i
theorem wz{P:Program}{w:World}{K:W.Frag}{elts:List Expr}{x1}{tp:Pos}(a b c z TI TO p q r:Addr)(xs ys us:List V)(nd:[z,TI,TO,p,q,r].Nodup):yK P w K (.Tuple elts x1 tp) (It3 a b c xs ys us) [z,TI,TO,p,q,r] z (Tn3 a b c z TI TO p q r) where
 mem:=ON
 obj:=λ i h st d hd=>by
  obtain⟨e1,e2,⟨u,v,t,e3⟩,e4,e5,e6⟩:=st;simp only [OU,OJ,O6] at hd
  rcases hd with rfl|rfl|rfl|rfl|rfl|rfl
  ·exact⟨_,e1,λ v z=>by cases z⟩
  ·exact⟨_,e2,λ v z=>by cases z⟩
  ·exact⟨_,e3,λ v z=>by cases z⟩
  ·obtain⟨o,fs,e,d⟩:=e4.obj;exact⟨o,e,λ v z=>by rw [d] at z;cases z⟩
  ·obtain⟨o,fs,e,d⟩:=e5.obj;exact⟨o,e,λ v z=>by rw [d] at z;cases z⟩
  ·obtain⟨o,fs,e,d⟩:=e6.obj;exact⟨o,e,λ v z=>by rw [d] at z;cases z⟩
 keep:=λ i h h' st k=>by
  obtain⟨e1,e2,⟨u,v,t,e3⟩,e4,e5,e6⟩:=st;exact⟨k z (by simp) _ e1,k TI (by simp) _ e2,⟨u,v,t,k TO (by simp) _ e3⟩,e4.at λ o e=>k p (by simp) o e,e5.at λ o e=>k q (by simp) o e,e6.at λ o e=>k r (by simp) o e⟩
 item:=by
  intro X hP hw hK hc i pins s σ H E I hf st hg;subst hP hw hK;obtain⟨e1,e2,⟨u0,v0,t0,e3⟩,e4,e5,e6⟩:=st;obtain⟨ha,hb,hc',l1,l2,l3⟩:=hg;obtain⟨as,ra,sa⟩:=I.sq ha;obtain⟨bs,rb,sb⟩:=I.sq hb;obtain⟨cs,rc,sc⟩:=I.sq hc';have hx:xs[i]? = some xs[i]:=Ow l1;have hy:ys[i]? = some ys[i]:=Ow l2;have ht:us[i]? = some us[i]:=Ow l3;obtain⟨u,hu,ru⟩:=ra.get hx;obtain⟨v,hv,rv⟩:=rb.get hy;obtain⟨y,hyy,ry⟩:=rc.get ht;have free:∀ d∈[z,TI,TO,p,q,r],H d=none:=λ d h=>(hf d h).1;have naz:∀ d∈[z,TI,TO,p,q,r],a ≠ d:=λ d h=>ha.ne (free d h);have nbz:∀ d∈[z,TI,TO,p,q,r],b ≠ d:=λ d h=>hb.ne (free d h);have ncz:∀ d∈[z,TI,TO,p,q,r],c ≠ d:=λ d h=>hc'.ne (free d h);simp only [Qe,OU,OJ,O6,QU,Qz,and_true,Q0] at nd;obtain⟨⟨z1,z2,z3,z4,z5⟩,⟨t1,t2,t3,t4⟩,⟨w1,w2,w3⟩,⟨y1,y2⟩,y3⟩:=nd;have S:=dg (prog:=X.prog) (w:=X.w) false p a (naz p (by simp)) as.toArray;have T:=dg (prog:=X.prog) (w:=X.w) false q b (nbz q (by simp)) bs.toArray;have U:=dg (prog:=X.prog) (w:=X.w) false r c (ncz r (by simp)) cs.toArray;have D:kz z TI TO p q r [p,a] [q,b] [r,c]:=⟨⟨OK z1,t1,t2,t3,t4⟩,z2,by simp [z3,OK (naz z (by simp))],by simp [z4,OK (nbz z (by simp))],by simp [z5,OK (ncz z (by simp))],by simp [w1,OK (naz TO (by simp))],by simp [w2,OK (nbz TO (by simp))],by simp [w3,OK (ncz TO (by simp))],by simp [y1,OK (nbz p (by simp))],by simp [y2,OK (ncz p (by simp))],by simp [OK y1,OK (naz q (by simp))],by simp [y3,OK (ncz q (by simp))],by simp [OK y2,OK (naz r (by simp))],by simp [OK y3,OK (nbz r (by simp))]⟩;refine kd S T U D e1 e2 e3 ⟨e4,sa⟩ ⟨e5,sb⟩ ⟨e6,sc⟩ (x:=u) (y:=v) (u:=y) (by simpa using hu) (by simpa using hv) (by simpa using hyy) λ h1 c1 c2 c3 c4 c4' c5 c6 c7=>?_;refine⟨_,rfl,wpAny_letOwnedTupleGo_zip (s:={ s with heap:=h1 }) c1 λ h2 d1 d2=>?_⟩;have lt:z < s.heap.objs.size:=OA e1;have kp:∀ d o,d ∉ [z,TO,p,q,r]->s.heap.get? d=some o->h2.get? d=some o:=λ d o hd e=>d2.extBut _ _ (λ q=>hd (by simp [q])) (c7 d o hd e);have hn:h2.get? s.heap.objs.size=some { cls:=.type "tuple",data:=.seq #[u,v,y] }:=d2.extBut _ _ (Pn lt) c5;have I2:Inv X pins σ (upd H s.heap.objs.size (.tup [xs[i],ys[i],us[i]])) { s with heap:=h2 }:=I.turnNew (t':=s.toks) (ch:=[z,TO,p,q,r]) (λ d hd=>hf d (by simp only [OU,OJ,O6] at hd ⊢;rcases hd with h|h|h|h|h<;>simp [h])) kp (OC _) ⟨(show 3<=sizeLine by decide),[u,v,y],.cons ru (.cons rv (.cons ry .nil)),⟨_,hn,rfl,_,rfl⟩⟩;have fr:H s.heap.objs.size=none:=I.hok.fresh (OC _);refine⟨.ref s.heap.objs.size,_,I2,rfl,⟨_,_,_,_,fr,rfl,hx,hy,ht,rfl⟩,⟨d1,d2.extBut _ _ (OK z1) (c7 TI _ (by simp [OK z1,t1,t2,t3,t4]) e2),⟨u,v,y,d2.extBut _ _ (OK z2) c2⟩,c3.1.at λ o e=>d2.extBut _ _ (OK z3) e,c4.1.at λ o e=>d2.extBut _ _ (OK z4) e,c4'.1.at λ o e=>d2.extBut _ _ (OK z5) e⟩,λ d hd=>?_⟩
  obtain⟨o,ho,_⟩:∃ o,s.heap.get? d=some o/\True:=by
   simp only [OU,OJ,O6] at hd
   rcases hd with rfl|rfl|rfl|rfl|rfl|rfl
   ·exact⟨_,e1,trivial⟩
   ·exact⟨_,e2,trivial⟩
   ·exact⟨_,e3,trivial⟩
   ·obtain⟨o,_,e,_⟩:=e4.obj;exact⟨o,e,trivial⟩
   ·obtain⟨o,_,e,_⟩:=e5.obj;exact⟨o,e,trivial⟩
   ·obtain⟨o,_,e,_⟩:=e6.obj;exact⟨o,e,trivial⟩
  rw [af (OS (OA ho))];exact free d hd
 done:=by
  intro X hP hw hK hc i pins s σ H E I hf st hg;subst hP hw hK;obtain⟨e1,e2,⟨u0,v0,t0,e3⟩,e4,e5,e6⟩:=st;obtain⟨ha,hb,hc',l⟩:=hg;obtain⟨as,ra,sa⟩:=I.sq ha;obtain⟨bs,rb,sb⟩:=I.sq hb;obtain⟨cs,rc,sc⟩:=I.sq hc';have free:∀ d∈[z,TI,TO,p,q,r],H d=none:=λ d h=>(hf d h).1;have naz:∀ d∈[z,TI,TO,p,q,r],a ≠ d:=λ d h=>ha.ne (free d h);have nbz:∀ d∈[z,TI,TO,p,q,r],b ≠ d:=λ d h=>hb.ne (free d h);have ncz:∀ d∈[z,TI,TO,p,q,r],c ≠ d:=λ d h=>hc'.ne (free d h);simp only [Qe,OU,OJ,O6,QU,Qz,and_true,Q0] at nd;obtain⟨⟨z1,z2,z3,z4,z5⟩,⟨t1,t2,t3,t4⟩,⟨w1,w2,w3⟩,⟨y1,y2⟩,y3⟩:=nd;have S:=dg (prog:=X.prog) (w:=X.w) false p a (naz p (by simp)) as.toArray;have T:=dg (prog:=X.prog) (w:=X.w) false q b (nbz q (by simp)) bs.toArray;have U:=dg (prog:=X.prog) (w:=X.w) false r c (ncz r (by simp)) cs.toArray;have D:kz z TI TO p q r [p,a] [q,b] [r,c]:=⟨⟨OK z1,t1,t2,t3,t4⟩,z2,by simp [z3,OK (naz z (by simp))],by simp [z4,OK (nbz z (by simp))],by simp [z5,OK (ncz z (by simp))],by simp [w1,OK (naz TO (by simp))],by simp [w2,OK (nbz TO (by simp))],by simp [w3,OK (ncz TO (by simp))],by simp [y1,OK (nbz p (by simp))],by simp [y2,OK (ncz p (by simp))],by simp [OK y1,OK (naz q (by simp))],by simp [y3,OK (ncz q (by simp))],by simp [OK y2,OK (naz r (by simp))],by simp [OK y3,OK (nbz r (by simp))]⟩;have la:=ra.length;have lb:=rb.length;have lc:=rc.length;refine me (I.ok.hd hc) S T U D e1 e2 e3 ⟨e4,sa⟩ ⟨e5,sb⟩ ⟨e6,sc⟩ (l.imp (λ h=>by simp;omega) (Or.imp (λ h=>by simp;omega) λ h=>by simp;omega)) λ h1 kp=>⟨rfl,I.turnL (t':=s.toks) (ch:=[z,TO,p,q,r]) (λ d hd=>hf d (by simp only [OU,OJ,O6] at hd ⊢;rcases hd with h|h|h|h|h<;>simp [h])) kp⟩
 self:=λ _ _ _ _ _ st h=>Rq st.1 h
def kY2(a b c:Addr)(xs ys:List V)(H:Hp)(R:It->Hp->Prop):List V->Prop:=λ us=>R (It3 a b c xs ys us) H
theorem LJ(a b c:Addr)(xs ys us:List V)(H:Hp)(R:It->Hp->Prop):kY2 a b c xs ys H R us=R (It3 a b c xs ys us) H:=rfl
def kY1(a b c:Addr)(xs:List V)(H:Hp)(R:It->Hp->Prop):List V->Prop:=λ ys=>az (av H c) (kY2 a b c xs ys H R)
theorem LK(a b c:Addr)(xs ys:List V)(H:Hp)(R:It->Hp->Prop):kY1 a b c xs H R ys=az (av H c) (kY2 a b c xs ys H R):=rfl
def kY(a b c:Addr)(H:Hp)(R:It->Hp->Prop):List V->Prop:=λ xs=>az (av H b) (kY1 a b c xs H R)
theorem NV(a b c:Addr)(xs:List V)(H:Hp)(R:It->Hp->Prop):kY a b c H R xs=az (av H b) (kY1 a b c xs H R):=rfl
def kY0(R:It->Hp->Prop):List V->Hp->Prop:=λ vs H=>match vs with
 | [.ref a,.ref b,.ref c]=>az (av H a) (kY a b c H R)
 | _=>False
theorem LL(R:It->Hp->Prop)(a b c:Addr)(H:Hp):kY0 R [.ref a,.ref b,.ref c] H=az (av H a) (kY a b c H R):=rfl
def Hq(ta:TA):TI:=λ σ H R=>ta σ H (kY0 R)
theorem Fg(ta:TA)(σ:St)(H:Hp)(R:It->Hp->Prop):Hq ta σ H R=ta σ H (kY0 R):=rfl
section
variable {X:Cx}
theorem DA{a b c:Expr}{elts:List Expr}{x1}{tp:Pos}{ta:TA}{p pos:Pos}(hg:Gl X "zip")(hm:X.mg "zip"=none)(ha:PA X [a,b,c] ta)(hs:starEach [a,b,c] X.env=[(false,eval a X.env),(false,eval b X.env),(false,eval c X.env)]:=by rfl)(hs2:starEach [b,c] X.env=[(false,eval b X.env),(false,eval c X.env)]:=by rfl) :
  PI X (.Tuple elts x1 tp) (.Call (.Name "zip" p) [a,b,c] [] pos) (Hq ta):=by
 intro pins s σ H R I h;refine Call_ (dJ I hg hm (show bootBuiltins "zip"=some (.type "zip") by decide +kernel) (PyProof.Rows.callWith_type1 (thn (ha pos pins s σ H _ I h) λ us s1 ⟨vs,H1,I1,r1,q1⟩=>?_) (by rw [hs,hs2]) (by rw [hs2];rfl)));unfold kY0 at q1;split at q1
 ·rename_i a b c;obtain⟨xs,e1,q1⟩:=ai q1;obtain⟨ys,e2,q1⟩:=ai q1;obtain⟨zs,e3,q⟩:=ai q1;have sa:SqK false H1 a xs:=bf e1;have sb:SqK false H1 b ys:=bf e2;have sc:SqK false H1 c zs:=bf e3
  cases r1 with
  | cons r rr=>
   cases rr with
   | cons r' rr=>
    cases rr with
    | cons r'' rr=>
     cases rr;cases r;cases r';cases r'';obtain⟨as,ra,s1a⟩:=I1.sq sa;obtain⟨bs,rb,s1b⟩:=I1.sq sb;obtain⟨cs,rc,s1c⟩:=I1.sq sc;refine FX s1a s1b s1c λ h' n hn e1 e2 e3 e4 e5 e5' e6 e7=>?_;have I2:Inv X pins σ H1 { s1 with heap:=h' }:=I1.kept (t':=s1.toks) e7;refine Rq (s:={ s1 with heap:=h' }) e1 ⟨n+5,[n+5,n+3,n+4,n,n+1,n+2],_,_,H1,rfl,I2,wz a b c (n+5) (n+3) (n+4) n (n+1) (n+2) xs ys zs (by simp),⟨e1,e2,⟨_,_,_,e3⟩,e4,e5,e5'⟩,λ d hd=>?_,q⟩
     have hle:s1.heap.objs.size<=d:=by
      rw [←hn];simp only [OU,OJ,O6] at hd
      rcases hd with rfl|rfl|rfl|rfl|rfl|rfl
      ·exact Pp ..
      ·exact Pp ..
      ·exact Pp ..
      ·exact OC _
      ·exact Pp ..
      ·exact Pp ..
     exact I1.fpOk hle (I1.hok.fresh hle)
 ·exact q1.elim
end
theorem Bm{g:TG}{σ:St}{H:Hp}{tb:TS}{nx:St->Hp->Prop}{rt:VK}{bk ct:St->Hp->Prop}{a b c:Addr}{xs ys us:List V}(Pv:Nat->St->Hp->Prop)(h0:Pv 0 σ H)(hl:∀ i σ H,Pv i σ H->H a=some (.lst xs)/\H b=some (.lst ys)/\H c=some (.lst us))
  (hs:∀ i u v t p σ H H',xs[i]? = some u->ys[i]? = some v->us[i]? = some t->Pv i σ H->H p=none->Ext H H'->H' p=some (.tup [u,v,t])->g (.ref p) σ H' (oW tb ⟨Pv (i+1),rt,nx,Pv (i+1)⟩)) (hd:∀ σ H,Pv (min xs.length (min ys.length us.length)) σ H->nx σ H):Cb g tb ⟨nx,rt,bk,ct⟩ σ (It3 a b c xs ys us) H:=by
 refine⟨λ i m σ H=>m=min xs.length (min ys.length us.length) - i/\i<=min xs.length (min ys.length us.length)/\Pv i σ H,⟨min xs.length (min ys.length us.length),by simp,PD _,h0⟩,?_⟩;rintro i m σ H ⟨rfl,hi,p⟩;obtain⟨qa,qb,qc⟩:=hl i σ H p
 by_cases hlt:i < min xs.length (min ys.length us.length)
 ·refine .inr ⟨⟨qa,qb,qc,by omega,by omega,by omega⟩,Pv (i+1),λ σ' H' p'=>⟨min xs.length (min ys.length us.length) - (i+1),by omega,rfl,hlt,p'⟩,λ x H' y=>?_⟩;obtain⟨r,u,v,t,hr,rfl,hu,hv,ht,rfl⟩:=y;exact hs i u v t r σ H _ hu hv ht p hr (Ext.new hr) aq
 ·have e:i=min xs.length (min ys.length us.length):=by omega
  subst e;exact .inl ⟨⟨qa,qb,qc,by omega⟩,hd σ H p⟩
def KR(Q:VK)(a:Addr):VK:=λ y H=>∃ o,qH H a y o/\Q (o.getD .non) H
def Nf(ty:TE)(σ:St)(Q:VK):VK:=λ x H=>∃ a,x=.ref a/\IsD H a/\ty σ H (KR Q a)
theorem Af(td ty:TE)(σ:St)(H:Hp)(Q:VK):BP td ty σ H Q=td σ H (Nf ty σ Q):=rfl
theorem zv{ty:TE}{σ:St}{Q:VK}{H:Hp}{a:Addr}{kvs:List (Key × V)}(e:H a=some (.dK kvs))(q:ty σ H (KR Q a)):Nf ty σ Q (.ref a) H:=⟨a,rfl,.inl ⟨kvs,.inl e⟩,q⟩
theorem De{Q:VK}{H:Hp}{a:Addr}{kvs:List (Key × V)}{k:Key}(e:H a=some (.dK kvs))(q:Q ((dO kvs k).getD .non) H):KR Q a (kV k) H:=⟨_,qH.k e,q⟩
def NP(neg:Bool):R2:=λ x y H Q=>∃ d ds,fP H 6 x=some d/\fP H 6 y=some (.list ds)/\Q (.bl (if neg=true then !(ds.any λ y=>PyData.eqv y d) else ds.any λ y=>PyData.eqv y d)) H
section
variable {X:Cx}
theorem Ay{ds:List PyData}(h:(PyData.list ds).canLay0=true):PyData.canLayAll0 ds=true:=by simpa [PyData.canLay0] using h
theorem nB(hu:X.A.units+64 < cLine):OpR X (compareOp .NotIn) (NP true):=by
 intro pins s σ H x y v u Q I rx ry h;obtain⟨d,ds,e1,e2,q⟩:=h;obtain⟨a,b,c⟩:=i8 (K:=X.K) 6 x d e1;obtain⟨a',b',c'⟩:=i8 (K:=X.K) 6 y _ e2;obtain⟨as,z⟩:=a.reads I rx;obtain⟨bs,z'⟩:=a'.reads I ry;exact SeqAt.notIn_list_reads z' z (Ay b') b (by have:=Nat.min_le_right (PyData.depthAll ds) d.depth;omega) ⟨.bl _,H,I,rfl,q⟩
end
def vg(X:Cx)(f:Value)(ks:List Str)(r:List V->List V->Hp->VK->Prop):Prop:=∀ pins s σ H vs us zs ws Q,Inv X pins σ H s->aU vs us->aU zs ws->r vs zs H Q->wpAny (model X.prog X.w) X.A (call f us (ks.zip ws)) (EP X pins σ Q) X.xe s
def K6(r:List V->List V->Hp->VK->Prop)(Q:VK)(vs:List V):List V->Hp->Prop:=λ zs H=>r vs zs H Q
theorem JE(r:List V->List V->Hp->VK->Prop)(Q:VK)(vs zs:List V)(H:Hp):K6 r Q vs zs H=r vs zs H Q:=rfl
def K7(r:List V->List V->Hp->VK->Prop)(tk:TA)(σ:St)(Q:VK):List V->Hp->Prop:=λ vs H=>tk σ H (K6 r Q vs)
theorem JF(r:List V->List V->Hp->VK->Prop)(tk:TA)(σ:St)(Q:VK)(vs:List V)(H:Hp):K7 r tk σ Q vs H=tk σ H (K6 r Q vs):=rfl
def MC(r:List V->List V->Hp->VK->Prop)(t tk:TA):TE:=λ σ H Q=>t σ H (K7 r tk σ Q)
theorem IE(r:List V->List V->Hp->VK->Prop)(t tk:TA)(σ:St)(H:Hp)(Q:VK):MC r t tk σ H Q=t σ H (K7 r tk σ Q):=rfl
theorem nA{X:Cx}{id:String}{x:Str}{p pos:Pos}{e:Expr}{es:List Expr}{kws:List Keyword}{ks:List Str}{r:List V->List V->Hp->VK->Prop}{t tk:TA}(hc:vg X (.builtin id) ks r)(hg:Gl X x)(hm:X.mg x=none)(hv:bootBuiltins x=some (.builtin id))(ha:PA X (e::es) t)(hk:PK X kws tk)(hn:x ≠ "__name__":=by decide)(hdb:(x == ("__debug__":Str))=false:=by decide)
  (hks:(backToKw pos (keywordEach kws X.env)).filterMap (·.1)=ks:=by rfl)
  (h1:backTo pos (starEach (e::es) X.env)=(false,eval e X.env)::backTo pos (starEach es X.env):=by rfl)
  (h2:(backTo pos (starEach (e::es) X.env)).any (·.1)=false:=by rfl)
  (h3:(backToKw pos (keywordEach kws X.env)).all (·.1.isSome)=true:=by rfl)
  (h4:(backToKw pos (keywordEach kws X.env)).any (·.1.isNone)=false:=by rfl):PE X (.Call (.Name x p) (e::es) kws pos) (MC r t tk):=by
 intro pins s σ H Q I h;refine Qm (dJ I hg hm hv ?_ hn hdb);refine callWith_kw (thn (ha pos pins s σ H _ I h) λ us s1 ⟨vs,H1,I1,r1,q1⟩=>thn (hk pos pins s1 σ H1 _ I1 q1) λ ws s2 ⟨zs,H2,I2,r2,q2⟩=>?_) h1 h2 h3 h4;rw [hks];exact hc pins s2 σ H2 vs us zs ws Q I2 r1 r2 q2
theorem kO{prog:Program}{w:World}{A:Around}{E:Value->Shared->Prop}{s:Shared}{id:String}{b:Builtin}{xs:List Value}{kv:List (Str × Value)}{Q:Value->Shared->Prop}(hk:builtinKind id=none)(hp:plainId id=true)
  (hb:entryFor table id=some b) (ha:argsOk id ⟨xs,kv⟩)
  (hc:wpAny (model prog w) A.in1 (b ⟨xs,kv⟩) (λ fin z=>match fin with
   | .done f=>(match (Except.ok f:Result) with | .ok (.ret v)=>Q v z | .ok _=>False | .error e=>E e z)
   | .again c=>c.quiet=true/\codeAny (model prog w) A c (λ r z=>match r with | .ok (.ret v)=>Q v z | .ok _=>False | .error e=>E e z) z) E s) :
  wpAny (model prog w) A (call (.builtin id) xs kv) Q E s:=by
 refine wpAny_call (codeAny_call_builtin (args:=⟨xs,kv⟩) hp hb ?_);simp only [checkBuiltinCall,hk]
 cases hs:Manifest.signature? id with
 | none=>exact Oz hc
 | some sg=>
  simp only [argsOk,hs] at ha;have h2:Bind.checkArgs id sg ⟨xs,kv⟩=pure ():=ha;simp only [h2];exact Oz hc
section
variable {prog:Program}{w:World}{A:Around}{R:Result->Shared->Prop}{J:Addr}{fp wr:List Addr}{G:Array GenState->Array GenState->Prop}{n:Nat}{P:Nat->Value->Prop}{St:Nat->Shared->Prop}
theorem Ab(kv:List (Str × Value))(W:WalksS prog w A.in1 J fp wr G n P St)(bt:Nat->Nat->Bool)(hcmp:CmpOf prog w A.in1 .Lt P bt)(D:Addr)(hD:D ∉ fp) :
  ∀ (k j:Nat) (s:Shared) (b:Value) (c:Nat),n - (j+1)=k->j+1<=n->St (j+1) s->P (argBest bt j) b->s.heap.get? D=some { cls:=.type "list",dict:=none,data:=.seq #[b,b] c,slots:=#[] } →
  (∀ v z,P (argBest bt (n - 1)) v->Moved (D::wr) G s z->R (.ok (.ret v)) z)->codeAny (model prog w) A (.builtin "min.loop" ⟨[.ref J,.none,.ref D],kv⟩) R s:=by
 have hDw:D ∉ wr:=λ h=>hD (W.sub _ h);have sub:∀ a∈wr,a∈D::wr:=λ a ha=>OH _ ha;have nm:(toString "min" ++ toString ".loop":String) = "min.loop":=by decide
 have nD:∀ {a:Addr},a ∉ D::wr->D ≠ a:=λ ha h=>ha (by rw [h];exact ON);intro k
 induction k with
 | zero=>
  intro j s b c hk hj st hb hg hR;have hjn:j+1=n:=by omega
  refine(Qq F.entry_min_loop ?_);rw [(P4 Qx _)]
  show wpAny _ A.in1 ((seqItems? (.ref D)) >>= _) _ _ s
  refine My (OZ hg rfl ?_)
  show wpAny _ A.in1 ((tryCatch (pyNext (.ref J)) _) >>= _) _ _ s
  refine My (Qd (W.done s _ _ (hjn ▸ st) λ z mv=>?_));have hg':=mv.heap D _ hDw hg
  show wpAny _ A.in1 ((updateSeq D (λ _=>#[])) >>= _) _ _ _
  refine My ?_;refine(P1 hg' rfl (My (PV (Oz ?_))));exact hR b _ (by rw [←hjn];exact hb) ((mv.mono sub).then_heap (tk:=z.toks) (OC _) λ a o ha e=>(OY _ _ (nD ha)).trans e)
 | succ k ih=>
  intro j s b c hk hj st hb hg hR;have hlt:j+1 < n:=by omega
  refine(Qq F.entry_min_loop ?_);rw [(P4 Qx _)]
  show wpAny _ A.in1 ((seqItems? (.ref D)) >>= _) _ _ s
  refine My (OZ hg rfl ?_)
  show wpAny _ A.in1 ((tryCatch (pyNext (.ref J)) _) >>= _) _ _ s
  refine My (Qd (W.item (j+1) s _ _ hlt st λ v z hP st' mv=>?_));have hg':=mv.heap D _ hDw hg
  show wpAny _ A.in1 ((tryCatch (holding [v,v] (richCompare .Lt v b >>= _)) _) >>= _) _ _ _
  refine My (Qd (P2 (My (hcmp (j+1) (argBest bt j) v b _ _ _ hP hb ?_))));refine(My (P2 (P8 ?_)));refine(My (PV (Oz ?_)))
  cases hbt:bt (j+1) (argBest bt j) with
  | true=>
   simp only [Rf];refine My ?_;refine(P1 hg' rfl (My (PV ?_)));rw [nm];refine Oz ⟨Qn Qx _,ih (j+1) _ v _ (by omega) hlt (W.frame _ z _ z.toks st' (OC _) λ a ha o e=>?_) (by simp only [argBest,hbt,Rf];exact hP) (Pf _ hg' rfl) λ v' z' hP' mv'=>?_⟩
   ·exact(OY _ _ (λ h:D=a=>hD (by rw [h];exact ha))).trans e
   ·exact hR v' z' hP' (RY W.gtrans ((mv.mono sub).then_heap (by first|exact OC _|exact QY _|omega) λ a o ha e=>(OY _ _ (nD ha)).trans e) mv')
  | false=>
   simp only [Qa,Q5];refine(My (PV ?_));rw [nm];refine Oz ⟨Qn Qx _,ih (j+1) _ b c (by omega) hlt st' (by simp only [argBest,hbt,Qa,Q5];exact hb) hg' λ v' z' hP' mv'=>?_⟩;exact hR v' z' hP' (RY W.gtrans (mv.mono sub) mv')
theorem xa(d:Value)(W:WalksS prog w A.in1 J fp wr G n P St)(bt:Nat->Nat->Bool)(hcmp:CmpOf prog w A.in1 .Lt P bt)(D:Addr)(hD:D ∉ fp){s:Shared}{c:Nat}(st:St 0 s)
  (hg:s.heap.get? D=some { cls:=.type "list",dict:=none,data:=.seq #[] c,slots:=#[] })
  (h0:n=0->∀ z,Moved (D::wr) G s z->R (.ok (.ret d)) z) (hR:0 < n->∀ v z,P (argBest bt (n - 1)) v->Moved (D::wr) G s z->R (.ok (.ret v)) z):codeAny (model prog w) A (.builtin "min.loop" ⟨[.ref J,.none,.ref D],[("default",d)]⟩) R s:=by
 have hDw:D ∉ wr:=λ h=>hD (W.sub _ h);have sub:∀ a∈wr,a∈D::wr:=λ a ha=>OH _ ha;have nm:(toString "min" ++ toString ".loop":String) = "min.loop":=by decide
 have nD:∀ {a:Addr},a ∉ D::wr->D ≠ a:=λ ha h=>ha (by rw [h];exact ON);refine(Qq F.entry_min_loop ?_);rw [(P4 Qx _)]
 show wpAny _ A.in1 ((seqItems? (.ref D)) >>= _) _ _ s
 refine My (OZ hg rfl ?_)
 show wpAny _ A.in1 ((tryCatch (pyNext (.ref J)) _) >>= _) _ _ s
 by_cases hn:n=0
 ·refine My (Qd (W.done s _ _ (by rw [hn];exact st) λ z mv=>?_));refine My (Rj (Oz ?_));exact h0 hn z (mv.mono sub)
 ·refine My (Qd (W.item 0 s _ _ (by omega) st λ v z hP st' mv=>?_));have hg':=mv.heap D _ hDw hg
  show wpAny _ A.in1 ((updateSeq D (λ _=>#[v,v])) >>= _) _ _ _
  refine My ?_;refine(P1 hg' rfl ?_);rw [nm];refine Oz ⟨Qn Qx _,Ab _ W bt hcmp D hD _ 0 _ v _ rfl (by omega) (W.frame _ z _ z.toks st' (OC _) λ a ha o e=>?_) hP (Pf _ hg' rfl) λ v' z' hP' mv'=>?_⟩
  ·exact(OY _ _ (λ h:D=a=>hD (by rw [h];exact ha))).trans e
  ·exact hR (by omega) v' z' hP' (RY W.gtrans ((mv.mono sub).then_heap (by first|exact OC _|exact QY _|omega) λ a o ha e=>(OY _ _ (nD ha)).trans e) mv')
end
theorem yF(a d:Value):argsOk "min" ⟨[a],[("default",d)]⟩:=by unfold argsOk;kernel_rfl
theorem yr{prog:Program}{w:World}{A:Around}{E:Value->Shared->Prop}{s:Shared}{x d:Value}{Q:Value->Shared->Prop}
  (h:wpAny (model prog w) A.in1 (pyIter x) (λ it z=>∃ J fp wr G n P St bt,it=.ref J/\WalksS prog w A.in1 J fp wr G n P St/\St 0 z/\(∀ b∈fp,b < z.heap.objs.size)/\CmpOf prog w A.in1 .Lt P bt /\
   (n=0->∀ z',Moved wr G z z'->Q d z')/\(0 < n->∀ v z',P (argBest bt (n - 1)) v->Moved wr G z z'->Q v z')) E s) :
  wpAny (model prog w) A (call (.builtin "min") [x] [("default",d)]) Q E s:=by
 have nm:(toString "min" ++ toString ".loop":String) = "min.loop":=by decide
 refine kO F.kind_min F.plain_min F.entry_min (yF x d) ?_
 show wpAny _ A.in1 (Builtin.Builtins.bindParams "min" ["key", "default"] 0 ⟨[],[("default",d)]⟩ >>= _) _ _ s
 refine My (wpAny_of_eq (show Builtin.Builtins.bindParams "min" ["key", "default"] 0 ⟨[],[("default",d)]⟩=pure [none,some d] from rfl) ?_);refine My (Oz ?_);refine My (thn h λ it z hz=>?_);obtain⟨J,fp,wr,G,n,P,St,bt,rfl,W,st,hfp,hcmp,h0,hQ⟩:=hz;refine My (P9 ?_);have hD:z.heap.objs.size ∉ fp:=λ hm=>Pk _ (hfp _ hm);rw [nm];refine Oz ⟨Qn Qx _,xa d W bt hcmp z.heap.objs.size hD (W.frame 0 z _ z.toks st (OC _) λ b _ o e=>Ox _ e) (OD _ rfl) (λ hn z' mv=>?_) λ hn v z' hP mv=>?_⟩
 ·exact h0 hn z' (Sm (tk:=z.toks) mv (OC _))
 ·exact hQ hn v z' hP (Sm (tk:=z.toks) mv (OC _))
def uV(d:Int)(H:Hp)(Q:VK):List Int->Prop:=λ ns=>(ns=[]->Q (.int d) H)/\∀ M,M∈ns->(∀ a∈ns,M<=a)->Q (.int M) H
def Cv:List V->List V->Hp->VK->Prop:=λ vs zs H Q=>match vs,zs with
 | [.ref p],[.int d]=>az (av H p) (dP (uV d H Q))
 | _,_=>False
theorem Ep(p:Addr)(d:Int)(H:Hp)(Q:VK):Cv [.ref p] [.int d] H Q=az (av H p) (dP (uV d H Q)):=rfl
theorem tN{X:Cx}(hc:X.calm=true):vg X (.builtin "min") ["default"] Cv:=by
 intro pins s σ H vs us zs ws Q I r rz h;unfold Cv at h;split at h
 ·rename_i p d;obtain⟨xs,e,ns,rfl,h0,q⟩:=ai h
  cases rz with
  | cons rd rz'=>
  cases rz'
  cases r with
  | cons r rr=>
   cases rr;cases r;obtain⟨its,rv,pl,hz⟩:=I.list (SqL.of (bf e));have hlt:p < s.heap.objs.size:=by obtain⟨_,e,_⟩:=pl.isList;exact OA e
   have hlen:its.length=ns.length:=by have:=rv.length;simpa using this.symm
   have hsz:its.toArray.size=ns.length:=by simp [hlen]
   have hP:∀ (i:Nat) (v:Value),its.toArray[i]? = some v->∃ t,v=.int (ns.getD i 0) t:=λ i v hP=>by
    have hv:its[i]? = some v:=by simpa using hP
    have hi:i < ns.length:=by rw [←hlen];exact(Oy.mp hv).1
    obtain⟨u,hu,ru⟩:=rv.get (i:=i) (x:=.int (ns.getD i 0)) (by rw [OL,Ow hi];simp [List.getD,Ow hi]);rw [hv] at hu;cases hu;exact ru
   refine yr (Qf pl.isList ⟨s.heap.objs.size,_,_,_,_,_,_,λ i j=>decide (ns.getD i 0 < ns.getD j 0),rfl,(Sa (show X.A.in1.handled=none from I.ok.hd hc) _ p (OS hlt) its.toArray).toS,⟨⟨_,OD _ rfl,rfl,rfl⟩,pl.isList.push _⟩,λ b hb=>?_,CmpOf.ints_lt (λ i=>ns.getD i 0) λ i v h=>hP i v h,λ hn s' hm=>?_,λ hn v s' hv hm=>?_⟩)
   ·rw [O5]
    rcases OU.mp hb with rfl|hb
    ·exact PL _
    ·rw [OE.mp hb];exact QX hlt
   ·obtain⟨hp,g,d',tk,os⟩:=s'
    have kp:∀ b o,s.heap.get? b=some o->hp.get? b=some o:=λ b o e=>hm.heap b o (λ hmem=>by
     have:b=s.heap.objs.size:=by simpa using hmem
     subst this;exact absurd (OA e) (Pk _)) (Ox _ e)
    have e1:g=s.gens:=hm.gens;have e2:d'=s.drawn:=hm.drawn;have e3:os=s.os:=hm.os;subst e1 e2 e3;exact⟨.int d,H,I.kept (t':=tk) kp,rd,h0 (Pq (by rw [←hsz];exact hn))⟩
   ·obtain⟨hp,g,d',tk,os⟩:=s'
    have kp:∀ b o,s.heap.get? b=some o->hp.get? b=some o:=λ b o e=>hm.heap b o (λ hmem=>by
     have:b=s.heap.objs.size:=by simpa using hmem
     subst this;exact absurd (OA e) (Pk _)) (Ox _ e)
    have e1:g=s.gens:=hm.gens;have e2:d'=s.drawn:=hm.drawn;have e3:os=s.os:=hm.os;subst e1 e2 e3;obtain⟨b1,b2⟩:=argBest_lt (λ i=>ns.getD i 0) (its.toArray.size - 1);have rv2:=hP _ v hv;generalize argBest (λ i j=>decide (ns.getD i 0 < ns.getD j 0)) (its.toArray.size - 1)=k at b1 b2 rv2;rw [hsz] at b1 b2 hn;have hk:k < ns.length:=by omega
    refine⟨.int (ns.getD k 0),H,I.kept (t':=tk) kp,rv2,q _ ?_ λ a ha=>?_⟩
    ·rw [List.getD,Ow hk];exact P7 hk
    ·obtain⟨j,hj,rfl⟩:=Qw ha;have:=b2 j (by omega);rw [show ns.getD j 0=ns[j] by rw [List.getD,Ow hj];rfl] at this;exact this
 ·exact h.elim
section
variable {prog:Program}{w:World}{A:Around}{R:Result->Shared->Prop}{J:Addr}{fp wr:List Addr}{G:Array GenState->Array GenState->Prop}{n:Nat}{P:Nat->Value->Prop}{St:Nat->Shared->Prop}
theorem Ac(kv:List (Str × Value))(W:WalksS prog w A.in1 J fp wr G n P St)(bt:Nat->Nat->Bool)(hcmp:CmpOf prog w A.in1 .Gt P bt)(D:Addr)(hD:D ∉ fp) :
  ∀ (k j:Nat) (s:Shared) (b:Value) (c:Nat),n - (j+1)=k->j+1<=n->St (j+1) s->P (argBest bt j) b->s.heap.get? D=some { cls:=.type "list",dict:=none,data:=.seq #[b,b] c,slots:=#[] } →
  (∀ v z,P (argBest bt (n - 1)) v->Moved (D::wr) G s z->R (.ok (.ret v)) z)->codeAny (model prog w) A (.builtin "max.loop" ⟨[.ref J,.none,.ref D],kv⟩) R s:=by
 have hDw:D ∉ wr:=λ h=>hD (W.sub _ h);have sub:∀ a∈wr,a∈D::wr:=λ a ha=>OH _ ha;have nm:(toString "max" ++ toString ".loop":String) = "max.loop":=by decide
 have nD:∀ {a:Addr},a ∉ D::wr->D ≠ a:=λ ha h=>ha (by rw [h];exact ON);intro k
 induction k with
 | zero=>
  intro j s b c hk hj st hb hg hR;have hjn:j+1=n:=by omega
  refine(Qq F.entry_max_loop ?_);rw [(P4 Qy _)]
  show wpAny _ A.in1 ((seqItems? (.ref D)) >>= _) _ _ s
  refine My (OZ hg rfl ?_)
  show wpAny _ A.in1 ((tryCatch (pyNext (.ref J)) _) >>= _) _ _ s
  refine My (Qd (W.done s _ _ (hjn ▸ st) λ z mv=>?_));have hg':=mv.heap D _ hDw hg
  show wpAny _ A.in1 ((updateSeq D (λ _=>#[])) >>= _) _ _ _
  refine My ?_;refine(P1 hg' rfl (My (PV (Oz ?_))));exact hR b _ (by rw [←hjn];exact hb) ((mv.mono sub).then_heap (tk:=z.toks) (OC _) λ a o ha e=>(OY _ _ (nD ha)).trans e)
 | succ k ih=>
  intro j s b c hk hj st hb hg hR;have hlt:j+1 < n:=by omega
  refine(Qq F.entry_max_loop ?_);rw [(P4 Qy _)]
  show wpAny _ A.in1 ((seqItems? (.ref D)) >>= _) _ _ s
  refine My (OZ hg rfl ?_)
  show wpAny _ A.in1 ((tryCatch (pyNext (.ref J)) _) >>= _) _ _ s
  refine My (Qd (W.item (j+1) s _ _ hlt st λ v z hP st' mv=>?_));have hg':=mv.heap D _ hDw hg
  show wpAny _ A.in1 ((tryCatch (holding [v,v] (richCompare .Gt v b >>= _)) _) >>= _) _ _ _
  refine My (Qd (P2 (My (hcmp (j+1) (argBest bt j) v b _ _ _ hP hb ?_))));refine(My (P2 (P8 ?_)));refine(My (PV (Oz ?_)))
  cases hbt:bt (j+1) (argBest bt j) with
  | true=>
   simp only [Rf];refine My ?_;refine(P1 hg' rfl (My (PV ?_)));rw [nm];refine Oz ⟨Qn Qy _,ih (j+1) _ v _ (by omega) hlt (W.frame _ z _ z.toks st' (OC _) λ a ha o e=>?_) (by simp only [argBest,hbt,Rf];exact hP) (Pf _ hg' rfl) λ v' z' hP' mv'=>?_⟩
   ·exact(OY _ _ (λ h:D=a=>hD (by rw [h];exact ha))).trans e
   ·exact hR v' z' hP' (RY W.gtrans ((mv.mono sub).then_heap (by first|exact OC _|exact QY _|omega) λ a o ha e=>(OY _ _ (nD ha)).trans e) mv')
  | false=>
   simp only [Qa,Q5];refine(My (PV ?_));rw [nm];refine Oz ⟨Qn Qy _,ih (j+1) _ b c (by omega) hlt st' (by simp only [argBest,hbt,Qa,Q5];exact hb) hg' λ v' z' hP' mv'=>?_⟩;exact hR v' z' hP' (RY W.gtrans (mv.mono sub) mv')
theorem xc(d:Value)(W:WalksS prog w A.in1 J fp wr G n P St)(bt:Nat->Nat->Bool)(hcmp:CmpOf prog w A.in1 .Gt P bt)(D:Addr)(hD:D ∉ fp){s:Shared}{c:Nat}(st:St 0 s)
  (hg:s.heap.get? D=some { cls:=.type "list",dict:=none,data:=.seq #[] c,slots:=#[] })
  (h0:n=0->∀ z,Moved (D::wr) G s z->R (.ok (.ret d)) z) (hR:0 < n->∀ v z,P (argBest bt (n - 1)) v->Moved (D::wr) G s z->R (.ok (.ret v)) z):codeAny (model prog w) A (.builtin "max.loop" ⟨[.ref J,.none,.ref D],[("default",d)]⟩) R s:=by
 have hDw:D ∉ wr:=λ h=>hD (W.sub _ h);have sub:∀ a∈wr,a∈D::wr:=λ a ha=>OH _ ha;have nm:(toString "max" ++ toString ".loop":String) = "max.loop":=by decide
 have nD:∀ {a:Addr},a ∉ D::wr->D ≠ a:=λ ha h=>ha (by rw [h];exact ON);refine(Qq F.entry_max_loop ?_);rw [(P4 Qy _)]
 show wpAny _ A.in1 ((seqItems? (.ref D)) >>= _) _ _ s
 refine My (OZ hg rfl ?_)
 show wpAny _ A.in1 ((tryCatch (pyNext (.ref J)) _) >>= _) _ _ s
 by_cases hn:n=0
 ·refine My (Qd (W.done s _ _ (by rw [hn];exact st) λ z mv=>?_));refine My (Rj (Oz ?_));exact h0 hn z (mv.mono sub)
 ·refine My (Qd (W.item 0 s _ _ (by omega) st λ v z hP st' mv=>?_));have hg':=mv.heap D _ hDw hg
  show wpAny _ A.in1 ((updateSeq D (λ _=>#[v,v])) >>= _) _ _ _
  refine My ?_;refine(P1 hg' rfl ?_);rw [nm];refine Oz ⟨Qn Qy _,Ac _ W bt hcmp D hD _ 0 _ v _ rfl (by omega) (W.frame _ z _ z.toks st' (OC _) λ a ha o e=>?_) hP (Pf _ hg' rfl) λ v' z' hP' mv'=>?_⟩
  ·exact(OY _ _ (λ h:D=a=>hD (by rw [h];exact ha))).trans e
  ·exact hR (by omega) v' z' hP' (RY W.gtrans ((mv.mono sub).then_heap (by first|exact OC _|exact QY _|omega) λ a o ha e=>(OY _ _ (nD ha)).trans e) mv')
end
theorem yG(a d:Value):argsOk "max" ⟨[a],[("default",d)]⟩:=by unfold argsOk;kernel_rfl
theorem yu{prog:Program}{w:World}{A:Around}{E:Value->Shared->Prop}{s:Shared}{x d:Value}{Q:Value->Shared->Prop}
  (h:wpAny (model prog w) A.in1 (pyIter x) (λ it z=>∃ J fp wr G n P St bt,it=.ref J/\WalksS prog w A.in1 J fp wr G n P St/\St 0 z/\(∀ b∈fp,b < z.heap.objs.size)/\CmpOf prog w A.in1 .Gt P bt /\
   (n=0->∀ z',Moved wr G z z'->Q d z')/\(0 < n->∀ v z',P (argBest bt (n - 1)) v->Moved wr G z z'->Q v z')) E s) :
  wpAny (model prog w) A (call (.builtin "max") [x] [("default",d)]) Q E s:=by
 have nm:(toString "max" ++ toString ".loop":String) = "max.loop":=by decide
 refine kO F.kind_max F.plain_max F.entry_max (yG x d) ?_
 show wpAny _ A.in1 (Builtin.Builtins.bindParams "max" ["key", "default"] 0 ⟨[],[("default",d)]⟩ >>= _) _ _ s
 refine My (wpAny_of_eq (show Builtin.Builtins.bindParams "max" ["key", "default"] 0 ⟨[],[("default",d)]⟩=pure [none,some d] from rfl) ?_);refine My (Oz ?_);refine My (thn h λ it z hz=>?_);obtain⟨J,fp,wr,G,n,P,St,bt,rfl,W,st,hfp,hcmp,h0,hQ⟩:=hz;refine My (P9 ?_);have hD:z.heap.objs.size ∉ fp:=λ hm=>Pk _ (hfp _ hm);rw [nm];refine Oz ⟨Qn Qy _,xc d W bt hcmp z.heap.objs.size hD (W.frame 0 z _ z.toks st (OC _) λ b _ o e=>Ox _ e) (OD _ rfl) (λ hn z' mv=>?_) λ hn v z' hP mv=>?_⟩
 ·exact h0 hn z' (Sm (tk:=z.toks) mv (OC _))
 ·exact hQ hn v z' hP (Sm (tk:=z.toks) mv (OC _))
def uX(d:Int)(H:Hp)(Q:VK):List Int->Prop:=λ ns=>(ns=[]->Q (.int d) H)/\∀ M,M∈ns->(∀ a∈ns,a<=M)->Q (.int M) H
def Cy:List V->List V->Hp->VK->Prop:=λ vs zs H Q=>match vs,zs with
 | [.ref p],[.int d]=>az (av H p) (dP (uX d H Q))
 | _,_=>False
theorem Es(p:Addr)(d:Int)(H:Hp)(Q:VK):Cy [.ref p] [.int d] H Q=az (av H p) (dP (uX d H Q)):=rfl
theorem tO{X:Cx}(hc:X.calm=true):vg X (.builtin "max") ["default"] Cy:=by
 intro pins s σ H vs us zs ws Q I r rz h;unfold Cy at h;split at h
 ·rename_i p d;obtain⟨xs,e,ns,rfl,h0,q⟩:=ai h
  cases rz with
  | cons rd rz'=>
  cases rz'
  cases r with
  | cons r rr=>
   cases rr;cases r;obtain⟨its,rv,pl,hz⟩:=I.list (SqL.of (bf e));have hlt:p < s.heap.objs.size:=by obtain⟨_,e,_⟩:=pl.isList;exact OA e
   have hlen:its.length=ns.length:=by have:=rv.length;simpa using this.symm
   have hsz:its.toArray.size=ns.length:=by simp [hlen]
   have hP:∀ (i:Nat) (v:Value),its.toArray[i]? = some v->∃ t,v=.int (ns.getD i 0) t:=λ i v hP=>by
    have hv:its[i]? = some v:=by simpa using hP
    have hi:i < ns.length:=by rw [←hlen];exact(Oy.mp hv).1
    obtain⟨u,hu,ru⟩:=rv.get (i:=i) (x:=.int (ns.getD i 0)) (by rw [OL,Ow hi];simp [List.getD,Ow hi]);rw [hv] at hu;cases hu;exact ru
   refine yu (Qf pl.isList ⟨s.heap.objs.size,_,_,_,_,_,_,λ i j=>decide (ns.getD i 0 > ns.getD j 0),rfl,(Sa (show X.A.in1.handled=none from I.ok.hd hc) _ p (OS hlt) its.toArray).toS,⟨⟨_,OD _ rfl,rfl,rfl⟩,pl.isList.push _⟩,λ b hb=>?_,CmpOf.ints_gt (λ i=>ns.getD i 0) λ i v h=>hP i v h,λ hn s' hm=>?_,λ hn v s' hv hm=>?_⟩)
   ·rw [O5]
    rcases OU.mp hb with rfl|hb
    ·exact PL _
    ·rw [OE.mp hb];exact QX hlt
   ·obtain⟨hp,g,d',tk,os⟩:=s'
    have kp:∀ b o,s.heap.get? b=some o->hp.get? b=some o:=λ b o e=>hm.heap b o (λ hmem=>by
     have:b=s.heap.objs.size:=by simpa using hmem
     subst this;exact absurd (OA e) (Pk _)) (Ox _ e)
    have e1:g=s.gens:=hm.gens;have e2:d'=s.drawn:=hm.drawn;have e3:os=s.os:=hm.os;subst e1 e2 e3;exact⟨.int d,H,I.kept (t':=tk) kp,rd,h0 (Pq (by rw [←hsz];exact hn))⟩
   ·obtain⟨hp,g,d',tk,os⟩:=s'
    have kp:∀ b o,s.heap.get? b=some o->hp.get? b=some o:=λ b o e=>hm.heap b o (λ hmem=>by
     have:b=s.heap.objs.size:=by simpa using hmem
     subst this;exact absurd (OA e) (Pk _)) (Ox _ e)
    have e1:g=s.gens:=hm.gens;have e2:d'=s.drawn:=hm.drawn;have e3:os=s.os:=hm.os;subst e1 e2 e3;obtain⟨b1,b2⟩:=argBest_gt (λ i=>ns.getD i 0) (its.toArray.size - 1);have rv2:=hP _ v hv;generalize argBest (λ i j=>decide (ns.getD i 0 > ns.getD j 0)) (its.toArray.size - 1)=k at b1 b2 rv2;rw [hsz] at b1 b2 hn;have hk:k < ns.length:=by omega
    refine⟨.int (ns.getD k 0),H,I.kept (t':=tk) kp,rv2,q _ ?_ λ a ha=>?_⟩
    ·rw [List.getD,Ow hk];exact P7 hk
    ·obtain⟨j,hj,rfl⟩:=Qw ha;have:=b2 j (by omega);rw [show ns.getD j 0=ns[j] by rw [List.getD,Ow hj];rfl] at this;exact this
 ·exact h.elim
def Hf(kv:List (Int × Int))(c:Int):Option Int:=(kv.find? λ p=>decide (p.1=c)).map λ p=>p.2
def Ou(ka kb:List (Int × Int)):Bool:=ka.length == kb.length && ka.all λ p=>Hf kb p.1 == some p.2
abbrev PKy:=List Int × List Int
section
variable {prog:Program}{w:World}
def mJ(prog:Program)(w:World)(h:Heap)(k:PKy)(a:Addr):Prop:=∃ o u v n,h.get? a=some o/\o.cls=.type "tuple" /\ o.data=.seq #[.ref u,.ref v] n/\IsTupleKey (intKind prog w) h k.1 u/\IsTupleKey (intKind prog w) h k.2 v
theorem mJ.inj{h:Heap}{a:Addr}{x y:PKy}(hx:mJ prog w h x a)(hy:mJ prog w h y a):x=y:=by
 obtain⟨o,u,v,n,h1,h2,h3,h4,h5⟩:=hx;obtain⟨o',u',v',n',g1,g2,g3,g4,g5⟩:=hy;rw [h1] at g1;cases g1;rw [h3] at g3;cases g3;exact Prod.ext (h4.inj g4) (h5.inj g5)
theorem mJ.typeIs{s:Shared}{a:Addr}{k:PKy}(h:mJ prog w s.heap k a):s.TypeIs (.ref a) "tuple":=by
 obtain⟨o,u,v,n,h1,h2,_⟩:=h;exact⟨o,h1,h2⟩
theorem mJ.keeps{h h':Heap}{k:PKy}{a d:Addr}{o:Obj}{es:Array DictEntry}{ep:Nat}(hk:mJ prog w h k a)(hd:h.get? d=some o)(ho:o.data=.dict es ep)(hs:Heap.SameBut d h h'):mJ prog w h' k a:=by
 obtain⟨o',u,v,n,h1,h2,h3,h4,h5⟩:=hk;have hne:a ≠ d:=λ e=>by rw [e,hd] at h1;cases h1;rw [ho] at h3;cases h3
 exact⟨o',u,v,n,(hs.2 a hne).trans h1,h2,h3,h4.keeps hd ho hs,h5.keeps hd ho hs⟩
def qL(prog:Program)(w:World)(k:PKy):Int:=reduceHash (Builtin.Tuple.tupleHashOf [tupleKeyHash (intKind prog w) k.1,tupleKeyHash (intKind prog w) k.2])
theorem Dy{A:Around}{E:Value->Shared->Prop}{s:Shared}{k:PKy}{a:Addr}{Q:Int->Shared->Prop}(hu:A.units+1 < cLine)(hk:mJ prog w s.heap k a)
  (q:Q (qL prog w k) { s with toks:=s.toks+((k.1.length+1)+(k.2.length+1)+1) }):wpAny (model prog w) A (pyHash (.ref a)) Q E s:=by
 have ty:=hk.typeIs;obtain⟨o,u,v,n,h1,h2,h3,h4,h5⟩:=hk;unfold pyHash pyHashByItsType;refine wpAny_bind (wpAny_cRoomFor_or (.inr (by omega)) ?_);refine wpAny_bind (wpAny_specialOf ty PySem.F.slot_tuple_hash.lookup ?_);rw [if_neg (by rw [beq_iff_eq];intro z;cases z)];refine wpAny_bind (wpAny_specialOf ty PySem.F.slot_tuple_hash.lookup ?_);rw [if_neg (by decide)];refine wpAny_bind (wpAny_callSpecialIfBoundUnlessNone?_slot ty PySem.F.slot_tuple_hash (wpAny_call_entry PySem.F.slot_tuple_hash ty PySem.F.entry_tuple_hash ?_ (PySem.F.args_tuple_hash_1 _)));unfold Builtin.«tuple.__hash__»;refine wpAny_bind ?_
 show wpAny _ _ (pure (Value.ref a,_)) _ _ _
 refine Oz ?_;refine My (wpAny_tupleItemsOf h1 h3 ?_);refine My ?_;rw [←Array.forIn_toList]
 show wpAny _ _ (forIn [Value.ref u,Value.ref v] #[] _) _ _ _
 simp only [forIn_cons,forIn_nil];refine wpAny_bind (wpAny_bind (wpAny_pyHash_tuple (show A.units+1 < cLine from hu) h4 (wpAny_pure ?_)));refine wpAny_bind (wpAny_bind (wpAny_pyHash_tuple (show A.units+1 < cLine from hu) h5 (wpAny_pure (wpAny_pure ?_))));unfold retInt;refine wpAny_ret_mkInt ?_
 show wpAny _ _ (pyHashByItsType.reduced _) _ _ _
 have q':Q (qL prog w k) { heap:=s.heap,gens:=s.gens,drawn:=s.drawn,toks:=s.toks+(k.1.length+1)+(k.2.length+1)+1,os:=s.os }:=by
  rw [Nat.add_assoc,Nat.add_assoc,←Nat.add_assoc (k.1.length+1)];exact q
 unfold qL reduceHash at q';unfold pyHashByItsType.reduced;simp only [Array.toList_push,List.nil_append,cons_append];split
 ·rename_i hc;rw [Pd hc] at q';exact Oz q'
 ·rename_i hc;rw [O2 hc] at q';exact My (Rj (Oz q'))
theorem AY{k:Int}{v:Value}(h:Value.isInt k v=true):∃ t,v=.int k t:=by
 cases v<;>simp [Value.isInt] at h
 rename_i t;subst h;exact⟨_,rfl⟩
theorem kG{h:Heap}:∀ {xs:List Int}{vs:List Value},ItemsAre (intKind prog w) xs vs->ReadsAll h vs (xs.map PyData.int) []
 | _,_,.nil=>.nil
 | _,_,.cons (k:=k) (v:=v) hk t=>by
  obtain⟨tk,rfl⟩:=AY hk;exact .cons (.int _ _) (kG t)
theorem qW{h:Heap}{xs:List Int}{a:Addr}(hk:IsTupleKey (intKind prog w) h xs a):Reads h (.ref a) (.tuple (xs.map PyData.int)) []:=by
 obtain⟨o,its,n,h1,h2,h3,h4⟩:=hk;exact .tuple h1 h2 h3 (kG h4)
def pkD(k:PKy):PyData:=.tuple [.tuple (k.1.map PyData.int),.tuple (k.2.map PyData.int)]
theorem mJ.reads{h:Heap}{k:PKy}{a:Addr}(hk:mJ prog w h k a):Reads h (.ref a) (pkD k) []:=by
 obtain⟨o,u,v,n,h1,h2,h3,h4,h5⟩:=hk;exact .tuple h1 h2 h3 (.cons (qW h4) (.cons (qW h5) .nil))
theorem uP(k:PKy):(pkD k).canLay0=true/\(pkD k).depth<=2:=by
 have key:∀ xs:List Int,PyData.canLayAll0 (xs.map PyData.int)=true/\PyData.depthAll (xs.map PyData.int)=0:=by
  intro xs
  induction xs with
  | nil=>exact⟨by simp [PyData.canLayAll0],by simp [PyData.depthAll]⟩
  | cons x xs ih=>exact⟨by simp [PyData.canLayAll0,PyData.canLay0,ih.1],by simp [PyData.depthAll,PyData.depth,ih.2]⟩
 exact⟨by simp [pkD,PyData.canLay0,PyData.canLayAll0,key],by simp [pkD,PyData.depth,PyData.depthAll,key]⟩
theorem Dz(a b:PKy):PyData.eqv (pkD a) (pkD b)=decide (a=b):=by
 unfold pkD;rw [dM,bx,bx,cz,dM,cZ,dM,cZ,Bool.and_true];obtain⟨a1,a2⟩:=a;obtain⟨b1,b2⟩:=b
 by_cases h1:a1=b1
 ·by_cases h2:a2=b2
  ·simp [h1,h2]
  ·simp [h1,h2]
 ·simp [h1]
theorem Lf{A:Around}{E:Value->Shared->Prop}{s:Shared}{x y:PKy}{a b:Addr}{Q:Bool->Shared->Prop}(hu:A.units+2 < cLine)(hx:mJ prog w s.heap x a)(hy:mJ prog w s.heap y b)(q:Q (decide (x=y)) s):wpAny (model prog w) A (eqBool (.ref a) (.ref b)) Q E s:=by
 have h1:=(uP x).2;have:=SeqAt.eqAt_reads (pkD x) (pkD y) A s _ _ _ _ hx.reads hy.reads (uP x).1 (uP y).1 (by have:=Nat.min_le_left (pkD x).depth (pkD y).depth;omega);rw [Dz] at this;exact this _ _ _ _ q
theorem pY{A:Around}{E:Value->Shared->Prop}{s:Shared}{n:Nat}{vs:List Value}{Q:Option Bool × Unit->Shared->Prop}(h:∀ v∈vs,∀ Q':Bool->Shared->Prop,Q' true s->wpAny (model prog w) A (eqIsQuiet n v) Q' E s)(q:Q (none,()) s) :
  wpAny (model prog w) A (forIn vs (none,()) λ y (_:Option Bool × Unit)=>do
   let r ←eqIsQuiet n y
   if (!r)=true then pure (ForInStep.done (some false,())) else pure (ForInStep.yield (none,()))) Q E s:=by
 induction vs with
 | nil=>exact Oz q
 | cons v vs ih=>
  rw [QT];refine My (My (h v ON _ ?_));rw [O2 (by decide)];exact Oz (ih λ v hv=>h v (OH _ hv))
theorem nv{A:Around}{E:Value->Shared->Prop}{s:Shared}{n:Nat}{a:Addr}{o:Obj}{vs:List Value}{m:Nat}{Q:Bool->Shared->Prop}(h1:s.heap.get? a=some o)(h2:o.cls=.type "tuple")(h3:o.data=.seq vs.toArray m)(h:∀ v∈vs,∀ Q':Bool->Shared->Prop,Q' true s->wpAny (model prog w) A (eqIsQuiet n v) Q' E s)(q:Q true s):wpAny (model prog w) A (eqIsQuiet (n+1) (.ref a)) Q E s:=by
 have ty:s.TypeIs (.ref a) "tuple":=⟨o,h1,h2⟩;rw [eqIsQuiet.eq_def];refine My (Q7 ty PySem.F.slot_tuple_eq.lookup ?_);refine My (R0 ty isSubtype_tuple_tuple ?_);rw [O2 (by decide)];refine My (OZ h1 h3 ?_);refine My ?_;rw [←Array.forIn_toList];exact pY h (Oz q)
theorem zL{A:Around}{E:Value->Shared->Prop}{s:Shared}{k:PKy}{a:Addr}{Q:Bool->Shared->Prop}(hk:mJ prog w s.heap k a)(q:Q true s):wpAny (model prog w) A (eqIsQuiet 8 (.ref a)) Q E s:=by
 obtain⟨o,u,v,n,h1,h2,h3,h4,h5⟩:=hk
 have one:∀ {xs:List Int} {b:Addr},IsTupleKey (intKind prog w) s.heap xs b->∀ Q':Bool->Shared->Prop,Q' true s->wpAny (model prog w) A (eqIsQuiet 7 (.ref b)) Q' E s:=by
  intro xs b hb Q' q';obtain⟨o,its,n,g1,g2,g3,g4⟩:=hb;refine nv (vs:=its.toList) g1 g2 g3 (λ v hv Q'' q''=>?_) q';rw [eqIsQuiet_byValue _ (g4.byValue v hv)];exact Oz q''
 refine nv (vs:=[.ref u,.ref v]) h1 h2 h3 (λ y hy Q' q'=>?_) q;simp only [OU,OJ,O6] at hy
 rcases hy with rfl|rfl
 ·exact one h4 Q' q'
 ·exact one h5 Q' q'
def iJ(prog:Program)(w:World):HeapKind prog w PKy where
 is:=mJ prog w
 hash:=qL prog w
 draws k:=(k.1.length+1)+(k.2.length+1)+1
 room A:=A.units+2 < cLine
 inj:=mJ.inj
 keeps:=mJ.keeps
 pyHash:=λ hr hk q=>Dy (by omega) hk q
 eqBool:=λ hr hx hy q=>Lf hr hx hy q
 quiet:=λ hk q=>zL hk q
end
def NI(P:Program)(w:World)(a:Addr)(xs:List (PKy × Addr × Value))(h:Heap):Prop:=∃ o es ep,h.get? a=some o/\o.ExactDict/\o.data=.dict es ep/\es.toList=xs.map (entryOfKey (iJ P w))/\(xs.map (·.1)).Nodup
def dPo(P:Program)(w:World)(a:Addr)(xs:List (PKy × Addr × Value)):HO:=.ext (NI P w a xs)
def PKV(H:Hp)(k:PKy)(b:Addr):Prop:=∃ u v,H b=some (.tup [.ref u,.ref v])/\H u=some (.tup (k.1.map V.int))/\H v=some (.tup (k.2.map V.int))
def mO(P:Program)(w:World)(H:Hp)(d:Addr)(Z:List PKy):Prop:=∃ xs,H d=some (dPo P w d xs)/\(d == sysModules)=false/\xs.length<=Z.length/\(∀ x∈xs,PKV H x.1 x.2.1)/\∀ k,(atKey xs k).isSome=decide (k∈Z)
theorem PKV.ext{H H':Hp}{k:PKy}{b:Addr}(h:PKV H k b)(e:Ext H H'):PKV H' k b:=by
 obtain⟨u,v,h1,h2,h3⟩:=h;exact⟨u,v,e.at h1,e.at h2,e.at h3⟩
theorem PKV.upd{H:Hp}{k:PKy}{b d:Addr}{φ:Heap->Prop}{o:HO}(h:PKV H k b)(hd:H d=some (.ext φ)):PKV (upd H d o) k b:=by
 obtain⟨u,v,h1,h2,h3⟩:=h;exact⟨u,v,by rw [af (λ z=>by rw [z,hd] at h1;cases h1)];exact h1,by rw [af (λ z=>by rw [z,hd] at h2;cases h2)];exact h2,by rw [af (λ z=>by rw [z,hd] at h3;cases h3)];exact h3⟩
theorem mO.ext{P:Program}{w:World}{H H':Hp}{d:Addr}{Z:List PKy}(h:mO P w H d Z)(e:Ext H H'):mO P w H' d Z:=by
 obtain⟨xs,h1,h2,h3,h4,h5⟩:=h;exact⟨xs,e.at h1,h2,h3,λ x hx=>(h4 x hx).ext e,h5⟩
theorem rq{P:Program}{w:World}:∀ {ks:List Int}{us:List Value},aU (ks.map V.int) us->ItemsAre (intKind P w) ks us
 | [],_,r=>by rw [Si] at r;cases r;exact .nil
 | k::ks,_,r=>by
  rw [PB] at r
  cases r with
  | cons h t=>
   obtain⟨tk,e⟩:=(show ∃ t,_=Value.int k t from h);subst e;exact .cons (intKind_is P w k tk) (rq t)
section
variable {P:Program}{w:World}{H:Hp}{h:Heap}{a:Addr}
theorem GC{ks:List Int}(ok:HOk P w H h)(e:H a=some (.tup (ks.map V.int))):IsTupleKey (intKind P w) h ks a:=by
 obtain⟨_,its,r,o,h1,h2,n,h3⟩:=(show bM P w H h a (.tup (ks.map V.int)) from ok a _ e);exact⟨o,its.toArray,n,h1,h2,h3,by simpa using rq r⟩
theorem CA{k:PKy}(ok:HOk P w H h)(e:PKV H k a):mJ P w h k a:=by
 obtain⟨u,v,h1,h2,h3⟩:=e;obtain⟨_,its,r,o,g1,g2,n,g3⟩:=(show bM P w H h a (.tup [.ref u,.ref v]) from ok a _ h1)
 cases r with
 | cons r1 t1=>cases t1 with
  | cons r2 t2=>cases t2 with
   | nil=>
    cases (show _=Value.ref u from r1);cases (show _=Value.ref v from r2);exact⟨o,u,v,n,g1,g2,g3,GC ok h2,GC ok h3⟩
theorem Hh{xs:List (PKy × Addr × Value)}(ok:HOk P w H h)(e:H a=some (dPo P w a xs))(hk:∀ x∈xs,PKV H x.1 x.2.1):h.DictOfH (iJ P w) a xs:=by
 obtain⟨⟨o,es,ep,h1,h2,h3,h4,h5⟩,_⟩:=(show bM P w H h a (dPo P w a xs) from ok a _ e);exact⟨o,es,ep,h1,h2,h3,h4,λ x hx=>CA ok (hk x hx),h5⟩
end
section
variable {X:Cx}{pins:List (Addr × Obj)}{σ:St}{H:Hp}{s:Shared}{d b:Addr}{k:PKy}{Z:List PKy}{A:Around}{E:Value->Shared->Prop}
theorem NR{Q:Value->Shared->Prop}(hu:A.units+64 < cLine)(I:Inv X pins σ H s)(g:mO X.prog X.w H d Z)(hk:PKV H k b)(h:∀ s',Inv X pins σ H s'->Q (.bool (decide (k∈Z))) s'):wpAny (model X.prog X.w) A (compareOp .In (.ref b) (.ref d)) Q E s:=by
 obtain⟨xs,h1,h2,h3,h4,h5⟩:=g;refine wpAny_in_heap (knd:=iJ X.prog X.w) (show A.units+1+2 < cLine by omega) (CA I.hok hk) h2 (Hh I.hok h1 h4) ?_;rw [h5];exact h _ (I.tok _)
theorem pR{xs:List (PKy × Addr × Value)}{j:PKy}:(atKey xs j).isSome=true ↔ ∃ x∈xs,x.1=j:=by
 unfold atKey;rw [Option.isSome_map,List.find?_isSome];simp
theorem kB{xs:List (PKy × Addr × Value)}{v:Value}:∀ x∈storedH xs k b v,(∃ y∈xs,x.1=y.1/\x.2.1=y.2.1)\/(x.1=k/\x.2.1=b):=by
 intro x hx;unfold storedH at hx;split at hx
 ·obtain⟨y,hy,rfl⟩:=List.mem_map.mp hx;refine .inl ⟨y,hy,?_⟩;unfold putAt
  split<;>exact⟨rfl,rfl⟩
 ·rcases OQ.mp hx with h|h
  ·exact .inl ⟨x,h,rfl,rfl⟩
  ·rw [OE.mp h];exact .inr ⟨rfl,rfl⟩
theorem yE{xs:List (PKy × Addr × Value)}{v:Value}(j:PKy):(atKey (storedH xs k b v) j).isSome=(decide (j=k) || (atKey xs j).isSome):=by
 apply PZ.mpr;rw [SA,QA,pR,pR];constructor
 ·rintro ⟨x,hx,rfl⟩
  rcases kB x hx with ⟨y,hy,e,_⟩|⟨e,_⟩
  ·exact .inr ⟨y,hy,e.symm⟩
  ·exact .inl e
 ·intro h;unfold storedH;split
  ·rename_i hk;rw [pR] at hk
   have h':∃ x∈xs,x.1=j:=by
    rcases h with rfl|h
    ·exact hk
    ·exact h
   obtain⟨x,hx,rfl⟩:=h';refine⟨_,List.mem_map.mpr ⟨x,hx,rfl⟩,?_⟩;unfold putAt
   split<;>rfl
  ·rcases h with rfl|⟨x,hx,e⟩
   ·exact⟨_,Pm _ (OE.mpr rfl),rfl⟩
   ·exact⟨x,Qp _ hx,e⟩
theorem sE{xs:List (PKy × Addr × Value)}{v:Value}:(storedH xs k b v).length<=xs.length+1:=by
 unfold storedH;split
 ·rw [OB];omega
 ·rw [OR];exact OC _
theorem Li{r:Value}{Q:Unit->Shared->Prop}(hu:A.units+64 < cLine)(I:Inv X pins σ H s)(g:mO X.prog X.w H d Z)(hk:PKV H k b)(hz:Z.length<=sizeLine)
  (h:∀ (o:HO) (s':Shared),mO X.prog X.w (upd H d o) d (k::Z)->Inv X pins σ (upd H d o) s'->Q () s'):wpAny (model X.prog X.w) A (setItem (.ref d) (.ref b) r) Q E s:=by
 obtain⟨xs,h1,h2,h3,h4,h5⟩:=g;refine wpAny_setItem_heap (knd:=iJ X.prog X.w) (hsz:=by omega) (show A.units+1+2 < cLine by omega) (CA I.hok hk) (Hh I.hok h1 h4) λ h' dd hs=>?_;obtain⟨q,es,ep,hq,g2,g3,g4,_,g5⟩:=dd
 have hkeys:∀ x∈storedH xs k b r,PKV (upd H d (dPo X.prog X.w d (storedH xs k b r))) x.1 x.2.1:=λ x hx=>by
  rcases kB x hx with ⟨y,hy,e1,e2⟩|⟨e1,e2⟩
  ·rw [e1,e2];exact(h4 y hy).upd h1
  ·rw [e1,e2];exact hk.upd h1
 refine h (dPo X.prog X.w d (storedH xs k b r)) _ ⟨_,aq,h2,?_,hkeys,λ j=>?_⟩ (pO I (by rw [h1];exact True.intro) hs ⟨q,hq⟩ ?_)
 ·have:=sE (xs:=xs) (k:=k) (b:=b) (v:=r);rw [Ph];omega
 ·rw [yE,h5,←Bool.decide_or];exact RG.mpr OU.symm
 ·refine⟨⟨q,es,ep,hq,g2,g3,g4,g5⟩,⟨q,hq⟩,λ h1 h2 ⟨o,es,ep,a1,a2⟩ hk=>⟨o,es,ep,hk _ a1,a2⟩⟩
end
def MJ(P:Program)(w:World):R2:=λ y x H Q=>∃ d b k Z,x=.ref d/\y=.ref b/\mO P w H d Z/\PKV H k b/\Q (.bl (decide (k∈Z))) H
theorem Dd{P:Program}{w:World}{H:Hp}{d b:Addr}{k:PKy}{Z:List PKy}{Q:VK}(e:mO P w H d Z)(hk:PKV H k b)(q:Q (.bl (decide (k∈Z))) H):MJ P w (.ref b) (.ref d) H Q:=⟨d,b,k,Z,rfl,rfl,e,hk,q⟩
def MP(P:Program)(w:World)(H:Hp)(Q:VK):Prop:=∀ (p:Addr) (H':Hp),H p=none->Ext H H'->mO P w H' p []->Q (.ref p) H'
def BX(P:Program)(w:World):TE:=λ _ H Q=>MP P w H Q
theorem Ai(P:Program)(w:World)(σ:St)(H:Hp)(Q:VK):BX P w σ H Q=MP P w H Q:=rfl
def KI(P:Program)(w:World)(nx:St->Hp->Prop)(σ:St)(x:V):VK:=λ y H=>∃ d b k Z,x=.ref d/\y=.ref b/\mO P w H d Z/\PKV H k b/\Z.length<=sizeLine/\∀ o,mO P w (upd H d o) d (k::Z)->nx σ (upd H d o)
def KJ(P:Program)(w:World)(ty:TE)(nx:St->Hp->Prop)(σ:St):VK:=λ x H=>ty σ H (KI P w nx σ x)
theorem Jf(P:Program)(w:World)(ty:TE)(nx:St->Hp->Prop)(σ:St)(x:V)(H:Hp):KJ P w ty nx σ x H=ty σ H (KI P w nx σ x):=rfl
def KL(P:Program)(w:World)(td ty:TE)(nx:St->Hp->Prop)(σ:St):VK:=λ _ H=>td σ H (KJ P w ty nx σ)
theorem Jg(P:Program)(w:World)(td ty:TE)(nx:St->Hp->Prop)(σ:St)(v:V)(H:Hp):KL P w td ty nx σ v H=td σ H (KJ P w ty nx σ):=rfl
def GP(P:Program)(w:World)(td ty tv:TE):TS:=λ D σ H=>tv σ H (KL P w td ty D.nx σ)
theorem Ej(P:Program)(w:World)(td ty tv:TE)(nx:St->Hp->Prop)(rt:VK)(bk ct:St->Hp->Prop)(σ:St)(H:Hp):GP P w td ty tv ⟨nx,rt,bk,ct⟩ σ H=tv σ H (KL P w td ty nx σ):=rfl
theorem Hy{P:Program}{w:World}{H:Hp}{d b:Addr}{k:PKy}{Z:List PKy}{nx:St->Hp->Prop}{σ:St}(e:mO P w H d Z)(hk:PKV H k b)(hz:Z.length<=sizeLine)(q:∀ o,mO P w (upd H d o) d (k::Z)->nx σ (upd H d o)):KI P w nx σ (.ref d) (.ref b) H:=⟨d,b,k,Z,rfl,rfl,e,hk,hz,q⟩
section
variable {X:Cx}
theorem Ie(hu:X.A.units+64 < cLine):OpR X (compareOp .In) (MJ X.prog X.w):=by
 intro pins s σ H x y v u Q I rx ry h;obtain⟨d,b,k,Z,rfl,rfl,g,hk,q⟩:=h;cases (show u=Value.ref d from ry);cases (show v=Value.ref b from rx);exact NR hu I g hk λ s3 I3=>⟨.bl (decide (k∈Z)),H,I3,rfl,q⟩
theorem wN{pos:Pos}:PE X (.Dict [] [] pos) (BX X.prog X.w):=λ pins s σ H Q I h=>by
 have hn:=I.hok.fresh (OC s.heap.objs.size);refine wpAny_Dict_empty ⟨.ref s.heap.objs.size,_,I.laid (a:=s.heap.objs.size) (o:=dPo X.prog X.w s.heap.objs.size []) (t':=s.toks) (λ _ _ q=>Ox _ q) (OC _) ?_,rfl,h _ _ hn (Ext.new hn) ?_⟩
 ·exact⟨⟨_,#[],0,OD _ rfl,⟨rfl,rfl,rfl⟩,rfl,rfl,Q0⟩,⟨_,OD _ rfl⟩,λ h1 h2 ⟨o,es,ep,a1,a2⟩ hk=>⟨o,es,ep,hk _ a1,a2⟩⟩
 ·exact⟨[],aq,Qo.mpr (OK (OS I.big)),OC _,λ x hx=>by (cases hx),λ k=>by rw [OM OJ];rfl⟩
theorem Du{td ty tv:TE}{o i value:Expr}{pos' pos:Pos}(hu:X.A.units+64 < cLine)(ho:PE X o td)(hi:PE X i ty)(hv:PE X value tv)(hs:swapsWith value (some (.Subscript o i pos')) pos.line X.env=pure false) :
  PS X (.Assign [.Subscript o i pos'] value pos) (GP X.prog X.w td ty tv):=by
 intro pins s σ H D I h;refine wpAny_Assign_Subscript (thn (hv pins s σ H _ I h) λ r s1 ⟨v,H1,I1,rv,q1⟩=>thn (ho pins s1 σ H1 _ I1 q1) λ u s2 ⟨x,H2,I2,rx,q2⟩=>thn (hi pins s2 σ H2 _ I2 q2) λ iv s3 ⟨y,H3,I3,ry,d,b,k,Z,ex,ey,g,hk,hz,q3⟩=>?_) hs;subst ex ey;obtain rfl:u=Value.ref d:=rx;obtain rfl:iv=Value.ref b:=ry;exact Li hu I3 g hk hz λ o s4 kn I4=>⟨σ,_,I4,q3 o kn⟩
end
end L2
namespace PH
def eK(ns:List Int):Prop:=ns.length<=8/\∀ n∈ns,1<=n/\n<=1000000000
def ae:List Int->Int
 | []=>1
 | n::r=>n * ae r
def ao:List Int->Int->List Int
 | [],_=>[]
 | n::r,x=>x / ae r % n::ao r x
theorem bA:∀ ns ms:List Int,ae (ns++ms)=ae ns * ae ms
 | [],ms=>by simp [ae]
 | n::r,ms=>by simp only [RW,ae,bA r ms,Qb]
theorem hU(ns:List Int)(i:Nat)(z:Int)(h:ns[i]? = some z):ae (ns.take (i+1))=ae (ns.take i) * z:=by
 rw [Qs,h,bA];simp [ae]
theorem ny:∀ ns:List Int,(∀ n∈ns,1<=n/\n<=1000000000)->1<=ae ns/\ae ns<=1000000000 ^ ns.length
 | [],_=>by simp [ae]
 | n::r,h=>by
  obtain⟨h1,h2⟩:=ny r λ m hm=>h m (OH _ hm);obtain⟨g1,g2⟩:=h n ON;refine⟨?_,?_⟩
  ·show 1<=n * ae r
   exact Int.le_trans (by omega) (Qj g1 h1 (by decide) (by omega):1 * 1<=n * ae r)
  ·show n * ae r<=1000000000 ^ (r.length+1)
   rw [So,PQ];exact Qj h2 g2 (by omega) (Int.le_trans (by omega) h2)
theorem Dw:∀ {k:Nat},k<=8->(1000000000:Int) ^ k<=1000000000 ^ 8
 | 0,_=>by decide
 | 1,_=>by decide
 | 2,_=>by decide
 | 3,_=>by decide
 | 4,_=>by decide
 | 5,_=>by decide
 | 6,_=>by decide
 | 7,_=>by decide
 | 8,_=>by decide
 | k+9,h=>by omega
theorem eK.prod{ns:List Int}(h:eK ns):1<=ae ns/\ae ns<=1000000000 ^ 8:=by
 obtain⟨a,b⟩:=ny ns h.2;exact⟨a,Int.le_trans b (Dw h.1)⟩
theorem eK.take{ns:List Int}(h:eK ns)(i:Nat):eK (ns.take i):=⟨by have:=h.1;simp;omega,λ n hn=>h.2 n (PC hn)⟩
theorem eK.drop{ns:List Int}(h:eK ns)(i:Nat):eK (ns.drop i):=⟨by have:=h.1;simp;omega,λ n hn=>h.2 n (Qh hn)⟩
theorem nL(ns:List Int)(i:Nat)(z:Int)(hi:i < ns.length)(h:ns[ns.length - 1 - i]? = some z):ns.drop (ns.length - (i+1))=z::ns.drop (ns.length - i):=by
 have e:ns.length - (i+1)=ns.length - 1 - i:=by omega
 have e2:ns.length - i=ns.length - 1 - i+1:=by omega
 rw [e,e2];obtain⟨hl,hz⟩:=Oy.mp h;rw [←hz];exact List.drop_eq_getElem_cons hl
theorem sH(ns:List Int)(i:Nat)(z:Int)(hi:i < ns.length)(h:ns[ns.length - 1 - i]? = some z):ae (ns.drop (ns.length - (i+1)))=ae (ns.drop (ns.length - i)) * z:=by
 rw [nL ns i z hi h];exact PQ _ _
theorem pW(ns:List Int)(x:Int)(i:Nat)(z:Int)(hi:i < ns.length)(h:ns[ns.length - 1 - i]? = some z):(ao (ns.drop (ns.length - (i+1))) x).reverse=(ao (ns.drop (ns.length - i)) x).reverse++[x / ae (ns.drop (ns.length - i)) % z]:=by
 rw [nL ns i z hi h];simp [ao]
theorem xP(ns:List Int)(x:Int)(i:Nat)(z:Int)(hi:i < ns.length)(h:ns[ns.length - 1 - i]? = some z)(hz:0<=ae (ns.drop (ns.length - i))):x / ae (ns.drop (ns.length - (i+1)))=x / ae (ns.drop (ns.length - i)) / z:=by
 rw [sH ns i z hi h];exact(QQ hz).symm
theorem bp:∀ (ns:List Int) (x:Int),(ao ns x).length=ns.length
 | [],_=>rfl
 | _::r,x=>by simp [ao,bp r x]
def InR:List Int->List Int->Prop
 | [],[]=>True
 | n::r,x::xs=>(0<=x/\x < n)/\InR r xs
 | _,_=>False
def J9:List Int->List Int->Int
 | _::r,x::xs=>x * ae r+J9 r xs
 | _,_=>0
theorem InR.len:∀ {ns xs:List Int},InR ns xs->xs.length=ns.length
 | [],[],_=>rfl
 | [],_::_,h=>h.elim
 | _::_,[],h=>h.elim
 | _::r,_::xs,⟨_,h⟩=>by simp [InR.len h]
theorem InR.split:∀ (ns:List Int) (x:Int),(∀ n∈ns,1<=n/\n<=1000000000)->InR ns (ao ns x)
 | [],_,_=>trivial
 | n::r,x,hs=>⟨⟨Px _ (by have:=hs n ON;omega),Pl _ (by have:=hs n ON;omega)⟩,InR.split r x λ m hm=>hs m (OH _ hm)⟩
open PySem L2
def vi:V->Int
 | .int i=>i
 | _=>0
def cM(x:V)(b:Int):Bool:=match x with
 | .int i=>decide (0<=i) && decide (i < b)
 | _=>false
def br(H:Hp)(x:V):Prop:=(isW H x).isSome=true/\∀ q xs,x=.ref q->H q=some (.tup xs)->∀ y∈xs,(isW H y).isSome=true
def fG(ns:List Int):Option HO->Bool
 | some (.tup xs)=>decide (xs.length=ns.length) && (xs.zip ns).all (λ p=>cM p.1 p.2)
 | _=>false
def bu(ns:List Int)(x:V)(H:Hp):Bool:=match x with
 | .ref q=>fG ns (H q)
 | _=>false
theorem pL{H H':Hp}(e:Ext H H'){x:V}{b:Bool}(h:isW H x=some b):isW H' x=some b:=by
 cases x with
 | ref p=>
  obtain⟨_,o,ho,_⟩:=gR h;rw [fj,ho] at h;rw [fj,e.at ho];exact h
 | _=>exact h
theorem br.ext{H H':Hp}{x:V}(h:br H x)(e:Ext H H'):br H' x:=by
 obtain⟨b,hb⟩:=PN.mp h.1;refine⟨by rw [pL e hb];rfl,λ q xs hx hq y hy=>?_⟩;subst hx;obtain⟨_,o,ho,_⟩:=gR hb;have e2:=e.at ho;rw [hq] at e2;cases e2;obtain⟨c,hc⟩:=PN.mp (h.2 q xs rfl ho y hy);rw [pL e hc];rfl
theorem aI{H:Hp}{q:Addr}{xs:List Int}(h:H q=some (.tup (xs.map V.int))):br H (.ref q):=by
 refine⟨by rw [fj,h];rfl,λ q' ys e hy y hm=>?_⟩;cases e;rw [h] at hy;cases hy;obtain⟨i,_,rfl⟩:=OO.mp hm;rfl
theorem cy{H H':Hp}(e:Ext H H'){ns:List Int}{x:V}(h:(isW H x).isSome=true):bu ns x H'=bu ns x H:=by
 cases x with
 | ref p=>
  obtain⟨b,hb⟩:=PN.mp h;obtain⟨_,o,ho,_⟩:=gR hb
  show fG ns (H' p)=fG ns (H p)
  rw [ho,e.at ho]
 | _=>rfl
theorem B4:∀ {ns ys:List Int},InR ns ys->((ys.map V.int).zip ns).all (λ p=>cM p.1 p.2)=true
 | [],[],_=>rfl
 | [],_::_,h=>h.elim
 | _::_,[],h=>h.elim
 | n::ns,y::ys,⟨h,k⟩=>by
  simp only [PB,List.zip_cons_cons,List.all_cons,B4 k,R8]
  show (decide (0<=y) && decide (y < n))=true
  simp [h.1,h.2]
theorem gz{ns ys:List Int}{q:Addr}{H:Hp}(h:H q=some (.tup (ys.map V.int)))(hy:InR ns ys):bu ns (.ref q) H=true:=by
 show fG ns (H q)=true
 rw [h]
 show (decide _ && _)=true
 rw [B4 hy,R8,QA,OB,hy.len]
theorem Mt:∀ (xs:List V) (ns:List Int),xs.zip (ns.map V.int)=(xs.zip ns).map λ p=>(p.1,V.int p.2)
 | [],_=>rfl
 | _::_,[]=>rfl
 | x::xs,n::ns=>by simp [Mt xs ns]
theorem jX{α:Type}(l:List α):(l.filter λ _=>true)=l:=List.filter_eq_self.mpr λ _ _=>rfl
def aP(a:Int × Int):Int × Int:=(a.1,if a.1 > 1 then a.2 else 0)
def axL(axs:List (Int × Int)):List (List Int):=axs.map λ a=>[a.1,a.2]
def aR(axs:List (Int × Int)):Int:=(axs.map λ a=>min 0 ((a.1 - 1) * a.2)).sum
def aH(axs:List (Int × Int)):Int:=(axs.map λ a=>max 0 ((a.1 - 1) * a.2)).sum
def fQ(axs:List (Int × Int)):Prop:=axs.length<=8/\∀ a∈axs,1<=a.1/\a.1<=1000000000
structure qT(room first:Int)(axs:List (Int × Int)):Prop where
 ax:fQ axs
 r1:1<=room
 r2:room<=1000000000000000000
 lo:0<=first+aR (axs.map aP)
 hi:first+aH (axs.map aP) < room
theorem fQ.kept{axs:List (Int × Int)}(h:fQ axs):fQ (axs.map aP):=⟨by rw [OB];exact h.1,λ a ha=>by
 obtain⟨b,hb,rfl⟩:=OO.mp ha;exact h.2 b hb⟩
theorem fQ.sizes{axs:List (Int × Int)}(h:fQ axs):eK (axs.map λ a=>a.1):=⟨by rw [OB];exact h.1,λ n hn=>by
 obtain⟨b,hb,rfl⟩:=OO.mp hn;exact h.2 b hb⟩
def eI(room first:Int)(l:Addr):List (Str × V):=fh "axes" (.ref l) (fh "first" (.int first) (fh "room" (.int room) []))
theorem Lo:¬ (("room":Str) = "axes"):=by decide +kernel
theorem Ln:¬ (("room":Str) = "first"):=by decide +kernel
theorem Lq:¬ (("first":Str) = "axes"):=by decide +kernel
theorem gT(room first:Int)(l:Addr):(eI room first l).lookup ("room":Str)=some (.int room):=by
 unfold eI;rw [aN,if_neg Lo,aN,if_neg Ln,aN,if_pos rfl]
theorem dX(room first:Int)(l:Addr):(eI room first l).lookup ("first":Str)=some (.int first):=by
 unfold eI;rw [aN,if_neg Lq,aN,if_pos rfl]
theorem cx(room first:Int)(l:Addr):(eI room first l).lookup ("axes":Str)=some (.ref l):=by
 unfold eI;rw [aN,if_pos rfl]
theorem zu(room first:Int)(l:Addr){m:Str}(h1:¬ m = "axes")(h2:¬ m = "first")(h3:¬ m = "room"):(eI room first l).lookup m=none:=by
 unfold eI;rw [aN,if_neg h1,aN,if_neg h2,aN,if_neg h3];rfl
theorem aM:∀ ns:List Int,(∀ n∈ns,(1:Int)<=n)->1<=ae ns
 | [],_=>by simp [ae]
 | n::ns,h=>by
  have h1:=h n ON;have h2:=aM ns λ m hm=>h m (OH _ hm)
  show 1<=n * ae ns
  have:=Qj h1 h2 (by decide) (by omega);omega
theorem cX(a:Int × Int)(l:List (Int × Int)):aR (a::l)=min 0 ((a.1 - 1) * a.2)+aR l:=by unfold aR;simp
theorem cY(a:Int × Int)(l:List (Int × Int)):aH (a::l)=max 0 ((a.1 - 1) * a.2)+aH l:=by unfold aH;simp
def kl(xs ps:List Int):Int:=(List.zipWith (λ x p=>x * p) xs ps).sum
theorem eu(ns:List Int)(h:∀ n∈ns,(1:Int)<=n)(i:Nat):ae (ns.take i)<=ae ns:=by
 have e:ae ns=ae (ns.take i) * ae (ns.drop i):=by rw [←bA,List.take_append_drop]
 have a:=aM (ns.take i) λ n hn=>h n (PC hn);have b:=aM (ns.drop i) λ n hn=>h n (Qh hn);rw [e];have:=PM b (show 0<=ae (ns.take i) by omega);omega
def bG(cs:List Int)(a:Int × Int):List Int:=cs.flatMap λ c=>(List.range a.1.toNat).map λ (n:Nat)=>c+(n:Int) * a.2
def ah(first:Int)(axs:List (Int × Int)):List Int:=axs.foldl bG [first]
theorem ja(cs:List Int)(a:Int × Int):(bG cs a).length=cs.length * a.1.toNat:=by
 unfold bG
 induction cs with
 | nil=>simp
 | cons c r ih=>rw [Se,OR,ih,OB,Pa,Ph,Nat.add_mul];omega
theorem jE(first:Int)(axs:List (Int × Int))(a:Int × Int):ah first (axs++[a])=bG (ah first axs) a:=by
 unfold ah;rw [List.foldl_append];rfl
theorem nJ:∀ (axs:List (Int × Int)) (cs:List Int),(∀ a∈axs,(1:Int)<=a.1)->((axs.foldl bG cs).length:Int)=cs.length * ae (axs.map λ a=>a.1)
 | [],cs,_=>by simp [ae]
 | a::r,cs,h=>by
  have ha:=h a ON;rw [Rw,nJ r (bG cs a) λ b hb=>h b (OH _ hb),ja,Rn,Qc (by omega),Qb];rfl
theorem aJ(first:Int)(axs:List (Int × Int))(h:∀ a∈axs,(1:Int)<=a.1):((ah first axs).length:Int)=ae (axs.map λ a=>a.1):=by
 unfold ah;rw [nJ axs [first] h];simp
def aO(b:Int)(axs:List (Int × Int)):List (Int × Int):=axs.map λ a=>(a.1,a.2 * b)
theorem gW{b:Int}{axs:List (Int × Int)}(h:fQ axs):fQ (aO b axs):=⟨by unfold aO;rw [length_map];exact h.1,λ a ha=>by
 unfold aO at ha;obtain⟨c,hc,rfl⟩:=List.mem_map.mp ha;exact h.2 c hc⟩
theorem wG(b:Int)(axs:List (Int × Int)):(aO b axs).map (λ a=>a.1)=axs.map λ a=>a.1:=by unfold aO;rw [map_map];rfl
def cu(ns:List Int):List (List Int):=(List.range (ae ns).toNat).map λ i=>ao ns ((i:Nat):Int)
theorem jv:∀ (p:List Int) (n x:Int),0 < n->ao (p++[n]) x=ao p (x / n)++[x % n]
 | [],n,x,hn=>by simp [ao,ae]
 | m::p,n,x,hn=>by
  have ih:=jv p n x hn
  show x / ae (p++[n]) % m::ao (p++[n]) x=x / n / ae p % m::(ao p (x / n)++[x % n])
  rw [ih,bA,show ae [n]=n by simp [ae],PQ,QQ (by omega)]
theorem nu(b:Nat):∀ a:Nat,List.range (a * b)=(List.range a).flatMap λ j=>(List.range b).map λ k=>j * b+k
 | 0=>by simp
 | a+1=>by
  rw [Nat.succ_mul,List.range_add,nu b a,List.range_succ,Rm];simp
theorem sG(p:List Int)(n:Int)(hp:0<=ae p)(hn:0 < n):cu (p++[n])=(cu p).flatMap λ row=>(List.range n.toNat).map λ k=>row++[((k:Nat):Int)]:=by
 unfold cu
 have e:(ae (p++[n])).toNat=(ae p).toNat * n.toNat:=by
  rw [bA,show ae [n]=n by simp [ae]];obtain⟨a,ha⟩:=OT hp;obtain⟨b,hb⟩:=OT (show 0<=n by omega);rw [ha,hb];rfl
 rw [e,nu,List.map_flatMap,List.flatMap_map];congr 1;funext j;rw [PF];apply List.map_congr_left;intro k hk;have hk':k < n.toNat:=by simpa using hk
 show ao (p++[n]) ((j * n.toNat+k:Nat):Int)=ao p (j:Nat)++[((k:Nat):Int)]
 rw [jv p n _ hn]
 have c:((j * n.toNat+k:Nat):Int)=(k:Int)+(j:Int) * n:=by
  push_cast
  rw [show ((n.toNat:Nat):Int)=n by omega];omega
 rw [c,Int.add_mul_ediv_right _ _ (by omega),Int.ediv_eq_zero_of_lt (by omega) (by omega),Po,Int.add_mul_emod_self_right,Sg (by omega) (by omega)]
theorem jl(ns:List Int):(cu ns).length=(ae ns).toNat:=by simp [cu]
theorem m7(a:Int × Int)(h:1<=a.1):∀ (cs:List Int) (m:Nat),(bG cs a)[m]? = (cs[m / a.1.toNat]?).map λ c=>c+((m % a.1.toNat:Nat):Int) * a.2
 | [],m=>by simp [bG]
 | c::cs,m=>by
  have hs:0 < a.1.toNat:=by omega
  have e:bG (c::cs) a=((List.range a.1.toNat).map λ (n:Nat)=>c+(n:Int) * a.2)++bG cs a:=by unfold bG;rw [List.flatMap_cons]
  rw [e]
  by_cases hm:m < a.1.toNat
  ·rw [Pj (by rw [OB,Pa];exact hm),OL,List.getElem?_range hm,Nat.div_eq_of_lt hm,Nat.mod_eq_of_lt hm];rfl
  ·rw [O7 (by rw [OB,Pa];omega),OB,Pa,m7 a h cs (m - a.1.toNat)]
   have e1:m / a.1.toNat=(m - a.1.toNat) / a.1.toNat+1:=by
    have:=Nat.div_eq_sub_div hs (show a.1.toNat<=m by omega);exact this
   have e2:m % a.1.toNat=(m - a.1.toNat) % a.1.toNat:=Nat.mod_eq_sub_mod (by omega);rw [e1,e2,List.getElem?_cons_succ]
theorem nK:∀ (axs:List (Int × Int)) (cs:List Int) (k:Nat),(∀ a∈axs,(1:Int)<=a.1)->(axs.foldl bG cs)[k]? = (cs[((k:Int) / ae (axs.map λ a=>a.1)).toNat]?).map λ c=>c+kl (ao (axs.map λ a=>a.1) (k:Int)) (axs.map λ a=>a.2)
 | [],cs,k,_=>by
  show cs[k]? = (cs[((k:Int) / 1).toNat]?).map λ c=>c+0
  rw [Int.ediv_one,OI];simp
 | a::r,cs,k,h=>by
  have ha:=h a ON;have hr:=λ b hb=>h b (OH a hb);have hp:1<=ae (r.map λ a=>a.1):=aM _ λ n hn=>by obtain⟨b,hb,rfl⟩:=OO.mp hn;exact hr b hb
  rw [Rw,nK r (bG cs a) k hr,m7 a ha];generalize hP:ae (r.map λ a=>a.1)=P at hp;have hnn:0<=(k:Int) / P:=Int.ediv_nonneg (by omega) (by omega)
  have e1:((k:Int) / P).toNat / a.1.toNat=((k:Int) / ae ((a::r).map λ a=>a.1)).toNat:=by
   show _=((k:Int) / (a.1 * ae (r.map λ a=>a.1))).toNat
   rw [hP,PQ a.1 P,←QQ (by omega)];generalize (k:Int) / P=m at hnn;have hd:m / a.1=((m.toNat / a.1.toNat:Nat):Int):=by rw [Int.natCast_ediv,Qc hnn,Qc (by omega)]
   rw [hd,OI]
  have e2:((((k:Int) / P).toNat % a.1.toNat:Nat):Int)=(k:Int) / P % a.1:=by rw [Int.natCast_emod,Qc hnn,Qc (by omega)]
  rw [e1,e2,Option.map_map];congr 1;funext c
  show c+(k:Int) / P % a.1 * a.2+kl (ao (r.map λ a=>a.1) (k:Int)) (r.map λ a=>a.2)=c+kl ((k:Int) / ae (r.map λ a=>a.1) % a.1::ao (r.map λ a=>a.1) (k:Int)) (a.2::r.map λ a=>a.2)
  unfold kl;rw [List.zipWith_cons_cons,sum_cons,hP];omega
theorem kM{first:Int}{axs:List (Int × Int)}{k:Nat}{c:Int}(h:∀ a∈axs,(1:Int)<=a.1)(hk:(ah first axs)[k]? = some c):c=first+kl (ao (axs.map λ a=>a.1) (k:Int)) (axs.map λ a=>a.2):=by
 unfold ah at hk;rw [nK axs [first] k h] at hk;obtain⟨c0,h1,h2⟩:=Option.map_eq_some_iff.mp hk;have:c0∈[first]:=mem_of_getElem? h1;rw [List.mem_singleton.mp this] at h2;exact h2.symm
theorem jn:∀ (ns:List Int) (x:Int),(∀ n∈ns,(1:Int)<=n)->J9 ns (ao ns x)=x % ae ns
 | [],x,_=>by show 0=x % 1;rw [Int.emod_one]
 | n::r,x,h=>by
  have ih:=jn r x λ m hm=>h m (OH _ hm);have hp:=aM r λ m hm=>h m (OH _ hm)
  show x / ae r % n * ae r+J9 r (ao r x)=x % (n * ae r)
  rw [ih];generalize ae r=P at hp;have a:=RU x (n * P);have b:=RU x P;have c:=RU (x / P) n;have d:x / P / n=x / (n * P):=by rw [QQ (by omega),PQ P n]
  rw [d] at c;have e1:n * P * (x / (n * P))=P * (n * (x / (n * P))):=by rw [PQ n P,Qb]
  have e2:P * (x / P)=P * (x / P % n)+P * (n * (x / (n * P))):=by rw [←Int.mul_add,c]
  have e3:x / P % n * P=P * (x / P % n):=PQ _ _;omega
theorem ni{ns:List Int}{i j:Int}(h:∀ n∈ns,(1:Int)<=n)(i0:0<=i)(i1:i < ae ns)(j0:0<=j)(j1:j < ae ns)(e:ao ns i=ao ns j):i=j:=by
 have a:=jn ns i h;have b:=jn ns j h;rw [Sg i0 i1] at a;rw [Sg j0 j1] at b;rw [←a,←b,e]
def ki(ms:List Int):Int:=(ms.map λ s=>s - 1).sum
def dG:List Int->List Int->Int
 | s::ms,p::ps=>(s - 1) * (p.natAbs:Int)+dG ms ps
 | _,_=>0
theorem Gg{s p:Int}(hs:1<=s):max 0 ((s - 1) * p) - min 0 ((s - 1) * p)=(s - 1) * (p.natAbs:Int)/\0<=(s - 1) * (p.natAbs:Int):=by
 rcases Int.le_total 0 p with h|h
 ·have:=Q6 (show 0<=s - 1 by omega) h;rw [show (p.natAbs:Int)=p by omega];omega
 ·have:=Q6 (show 0<=s - 1 by omega) (show 0<=-p by omega);rw [Int.mul_neg] at this;rw [show (p.natAbs:Int)=-p by omega,Int.mul_neg];omega
theorem lG:∀ (ms ps:List Int),(∀ m∈ms,(1:Int)<=m)->ps.length=ms.length->aH (ms.zip ps) - aR (ms.zip ps)=dG ms ps/\aR (ms.zip ps)<=0/\0<=aH (ms.zip ps)/\0<=dG ms ps
 | [],[],_,_=>by decide
 | [],_::_,_,h=>by simp at h
 | _::_,[],_,h=>by simp at h
 | s::ms,p::ps,h,hl=>by
  obtain⟨i1,i2,i3,i4⟩:=lG ms ps (λ m hm=>h m (OH _ hm)) (by simpa using hl);obtain⟨a1,a2⟩:=Gg (p:=p) (h s ON);rw [List.zip_cons_cons,cX,cY]
  show _=(s - 1) * (p.natAbs:Int)+dG ms ps/\_/\_/\0<=(s - 1) * (p.natAbs:Int)+dG ms ps
  generalize (s - 1) * (p.natAbs:Int)=y at *;generalize (s - 1) * p=x at *;omega
theorem vp{ms:List Int}(h:∀ m∈ms,(1:Int)<=m):0<=ki ms:=by
 unfold ki
 induction ms with
 | nil=>decide
 | cons s r ih=>
  have:=ih λ m hm=>h m (OH _ hm);have:=h s ON;rw [PB,sum_cons];omega
theorem nj:∀ (ms ps:List Int) (B:Int),(∀ m∈ms,(1:Int)<=m)->ps.length=ms.length->(∀ p∈ps,(p.natAbs:Int)<=B)->0<=B->dG ms ps<=ki ms * B
 | [],[],B,_,_,_,_=>by show (0:Int)<=0 * B;omega
 | [],_::_,_,_,h,_,_=>by simp at h
 | _::_,[],_,_,h,_,_=>by simp at h
 | s::ms,p::ps,B,h,hl,hb,h0=>by
  have ih:=nj ms ps B (λ m hm=>h m (mem_cons_of_mem _ hm)) (by simpa using hl) (λ q hq=>hb q (mem_cons_of_mem _ hq)) h0;have hs:=h s mem_cons_self;have hp:=hb p mem_cons_self;have m1:=Int.mul_le_mul_of_nonneg_left hp (show 0<=s - 1 by omega);have e:ki (s::ms)=(s - 1)+ki ms:=by unfold ki;rw [map_cons,sum_cons]
  show (s - 1) * (p.natAbs:Int)+dG ms ps<=_
  rw [e,QJ];omega
theorem nr(s:Int)(ms:List Int):ki (s::ms)=(s - 1)+ki ms:=by unfold ki;rw [map_cons,sum_cons]
theorem wD{ms:List Int}(h:∀ m∈ms,1<=m/\m<=3)(hp:ae ms<=60):ki ms<=7:=by
 have key:∀ l:List Int,(∀ m∈l,1<=m/\m<=3)->(3:Int) ^ (ki l).toNat<=ae l * ae l/\0<=ki l/\1<=ae l:=by
  intro l
  induction l with
  | nil=>intro _;decide
  | cons s r ih=>
   intro hl;obtain⟨i1,i2,i3⟩:=ih λ m hm=>hl m (OH _ hm);have hs:=hl s ON;rw [nr]
   show _<=s * ae r * (s * ae r)/\_/\1<=s * ae r
   have e:s * ae r * (s * ae r)=s * s * (ae r * ae r):=by
    rw [Qb,Qb,Int.mul_left_comm (ae r) s (ae r)]
   rw [e];generalize hP:ae r * ae r=P at *;generalize ae r=p at *;generalize ki r=t at *;obtain⟨n,rfl⟩:=OT i2
   rcases (show s=1\/s=2\/s=3 by omega) with rfl|rfl|rfl
   ·rw [show ((1:Int) - 1+(n:Int)).toNat=n by omega];rw [OI] at i1;omega
   ·rw [show ((2:Int) - 1+(n:Int)).toNat=n+1 by omega,So];rw [OI] at i1;have:(0:Int)<=3 ^ n:=Int.pow_nonneg (by decide);omega
   ·rw [show ((3:Int) - 1+(n:Int)).toNat=n+1+1 by omega,So,So];rw [OI] at i1;omega
 obtain⟨k1,k2,k3⟩:=key ms h;have hpp:=Qj hp hp (by omega) (by decide);obtain⟨n,hn⟩:=OT k2;rw [hn,OI] at k1;rw [hn]
 rcases Nat.lt_or_ge n 8 with h8|h8
 ·omega
 ·have:(3:Int) ^ 8<=3 ^ n:=by
   obtain⟨d,rfl⟩:=Nat.exists_eq_add_of_le h8;rw [Int.pow_add]
   have:(1:Int)<=3 ^ d:=by
    have:(0:Int) < 3 ^ d:=Int.pow_pos (by decide);omega
   have:=PM this (show (0:Int)<=3 ^ 8 by decide);omega
  have:(3:Int) ^ 8=6561:=by decide
  omega
theorem vq{k:Int}(hk:0<=k):∀ ms:List Int,(∀ m∈ms,1<=m/\m<=k+1)->ki ms<=k * ms.length
 | [],_=>by show (0:Int)<=k * 0;omega
 | s::r,h=>by
  have ih:=vq hk r λ m hm=>h m (OH _ hm);have hs:=h s ON;rw [nr,Ph,show ((r.length+1:Nat):Int)=(r.length:Int)+1 by omega,Int.mul_add,Ro];omega
def top(i:Nat):Stmt:=PySem.Challenge.pw_pacehall_k78_bars_both_ways.main.body.getD i (.Pass ⟨0,0,0,0⟩)
abbrev dt:Stmt:=dz (top 7) 0
abbrev eF:Stmt:=dz (top 8) 0
abbrev gY:Stmt:=top 10
theorem tX:aj ["thing"] ["thing"] (aa gY):=⟨rfl,rfl,rfl,by decide +kernel,rfl,by decide +kernel,by decide +kernel⟩
abbrev gZ:Stmt:=top 13
theorem fD:aj ["sizes", "count", "size"] ["sizes"] (aa gZ):=⟨rfl,rfl,rfl,by decide +kernel,rfl,by decide +kernel,by decide +kernel⟩
abbrev cB:Stmt:=top 14
theorem il:aj ["thing", "bound"] ["thing", "bound"] (aa cB):=⟨rfl,rfl,rfl,by decide +kernel,rfl,by decide +kernel,by decide +kernel⟩
abbrev fm:Stmt:=top 15
theorem tY:aj ["sizes", "thing"] ["sizes", "thing"] (aa fm):=⟨rfl,rfl,rfl,by decide +kernel,rfl,by decide +kernel,by decide +kernel⟩
abbrev dA:Stmt:=top 16
theorem bP:aj ["sizes", "number", "place", "left", "size"] ["sizes", "number"] (aa dA):=⟨rfl,rfl,rfl,by decide +kernel,rfl,by decide +kernel,by decide +kernel⟩
abbrev gX:Stmt:=top 17
theorem tW:aj ["sizes", "number"] ["sizes", "number"] (aa gX):=⟨rfl,rfl,rfl,by decide +kernel,rfl,by decide +kernel,by decide +kernel⟩
abbrev ek:Stmt:=top 18
theorem mF:aj ["count"] ["count"] (aa ek):=⟨rfl,rfl,rfl,by decide +kernel,rfl,by decide +kernel,by decide +kernel⟩
abbrev iG:Stmt:=top 19
theorem rM:aj ["sizes", "count"] ["sizes"] (aa iG):=⟨rfl,rfl,rfl,by decide +kernel,rfl,by decide +kernel,by decide +kernel⟩
abbrev fZ:Stmt:=top 24
theorem qD:aj ["thing", "low", "high"] ["thing", "low", "high"] (aa fZ):=⟨rfl,rfl,rfl,by decide +kernel,rfl,by decide +kernel,by decide +kernel⟩
abbrev jj:Stmt:=top 25
theorem yB:aj ["thing"] ["thing"] (aa jj):=⟨rfl,rfl,rfl,by decide +kernel,rfl,by decide +kernel,by decide +kernel⟩
abbrev jk:Stmt:=top 26
theorem yC:aj ["thing"] ["thing"] (aa jk):=⟨rfl,rfl,rfl,by decide +kernel,rfl,by decide +kernel,by decide +kernel⟩
abbrev fq:Stmt:=top 27
theorem tZ:aj ["thing"] ["thing"] (aa fq):=⟨rfl,rfl,rfl,by decide +kernel,rfl,by decide +kernel,by decide +kernel⟩
abbrev fY:Stmt:=top 28
theorem qC:aj ["axis"] ["axis"] (aa fY):=⟨rfl,rfl,rfl,by decide +kernel,rfl,by decide +kernel,by decide +kernel⟩
abbrev ck:Stmt:=dz (top 29) 0
theorem jS:aj ["self", "room", "first", "axes"] ["self", "room", "first", "axes"] (aa ck):=⟨rfl,rfl,rfl,by decide +kernel,rfl,by decide +kernel,by decide +kernel⟩
abbrev dk:Stmt:=dz (top 29) 1
theorem oN:aj ["self"] ["self"] (aa dk):=⟨rfl,rfl,rfl,by decide +kernel,rfl,by decide +kernel,by decide +kernel⟩
abbrev iu:Stmt:=dz (top 29) 2
abbrev eZ:Stmt:=dz (top 29) 3
theorem oP:aj ["self"] ["self"] (aa eZ):=⟨rfl,rfl,rfl,by decide +kernel,rfl,by decide +kernel,by decide +kernel⟩
abbrev jx:Stmt:=dz (top 29) 4
abbrev fb:Stmt:=dz (top 29) 6
theorem cK:aj ["self", "found", "size", "pace"] ["self"] (aa fb):=⟨rfl,rfl,rfl,by decide +kernel,rfl,by decide +kernel,by decide +kernel⟩
abbrev dm:Stmt:=dz (top 29) 7
theorem oO:aj ["self"] ["self"] (aa dm):=⟨rfl,rfl,rfl,by decide +kernel,rfl,by decide +kernel,by decide +kernel⟩
abbrev cj:Stmt:=dz (top 29) 8
theorem jR:aj ["self"] ["self"] (aa cj):=⟨rfl,rfl,rfl,by decide +kernel,rfl,by decide +kernel,by decide +kernel⟩
abbrev gy:Stmt:=top 30
theorem jr:aj ["cells", "size", "pace", "found", "cell"] ["cells", "size", "pace"] (aa gy):=⟨rfl,rfl,rfl,by decide +kernel,rfl,by decide +kernel,by decide +kernel⟩
abbrev gb:Stmt:=top 32
theorem ef:aj ["view", "seen", "number", "cell"] ["view"] (aa gb):=⟨rfl,rfl,rfl,by decide +kernel,rfl,by decide +kernel,by decide +kernel⟩
abbrev dC:Stmt:=top 33
theorem kh:aj ["one", "other"] ["one", "other"] (aa dC):=⟨rfl,rfl,rfl,by decide +kernel,rfl,by decide +kernel,by decide +kernel⟩
abbrev bD:Stmt:=top 35
theorem fg:aj ["to", "source"] ["to", "source"] (aa bD):=⟨rfl,rfl,rfl,by decide +kernel,rfl,by decide +kernel,by decide +kernel⟩
abbrev dB:Stmt:=top 37
theorem fO:aj ["view", "found"] ["view"] (aa dB):=⟨rfl,rfl,rfl,by decide +kernel,rfl,by decide +kernel,by decide +kernel⟩
abbrev bE:Stmt:=top 38
theorem aE:aj ["to", "source", "spots", "found", "place", "cell", "origin"] ["to", "source", "spots"] (aa bE):=⟨rfl,rfl,rfl,by decide +kernel,rfl,by decide +kernel,by decide +kernel⟩
abbrev eo:Stmt:=top 39
theorem bH:aj ["to", "source", "spots", "written", "found", "place", "cell"] ["to", "source"] (aa eo):=⟨rfl,rfl,rfl,by decide +kernel,rfl,by decide +kernel,by decide +kernel⟩
abbrev Ct:Stmt:=top 41
theorem Mj:aj ["pair", "axis"] ["pair", "axis"] (aa Ct):=⟨rfl,rfl,rfl,by decide +kernel,rfl,by decide +kernel,by decide +kernel⟩
abbrev cD:Stmt:=top 42
theorem bQ:aj ["pairs", "many", "axis", "gaps", "low", "high"] ["pairs", "many"] (aa cD):=⟨rfl,rfl,rfl,by decide +kernel,rfl,by decide +kernel,by decide +kernel⟩
abbrev bC:Stmt:=top 43
theorem bc:aj ["pairs", "many", "chosen", "axis", "above", "below", "pair"] ["pairs", "many"] (aa bC):=⟨rfl,rfl,rfl,by decide +kernel,rfl,by decide +kernel,by decide +kernel⟩
abbrev bX:Stmt:=top 44
theorem bg:aj ["to", "source", "left", "many", "order", "loop", "used"] ["to", "source"] (aa bX):=⟨rfl,rfl,rfl,by decide +kernel,rfl,by decide +kernel,by decide +kernel⟩
abbrev da:Stmt:=top 45
theorem jQ:aj ["thing", "sizes", "known"] ["thing", "sizes", "known"] (aa da):=⟨rfl,rfl,rfl,by decide +kernel,rfl,by decide +kernel,by decide +kernel⟩
abbrev dY:Stmt:=top 46
theorem jG:aj ["pairs", "axis", "gaps"] ["pairs", "axis"] (aa dY):=⟨rfl,rfl,rfl,by decide +kernel,rfl,by decide +kernel,by decide +kernel⟩
abbrev mS:Stmt:=top 47
theorem vf:aj ["to", "source", "some", "known", "pair"] ["to", "source", "some"] (aa mS):=⟨rfl,rfl,rfl,by decide +kernel,rfl,by decide +kernel,by decide +kernel⟩
abbrev gf:Stmt:=top 49
theorem eh:aj ["_law_script", "_law_k", "_law_many", "_law_number", "_law_cell"] ["_law_script", "_law_k", "_law_many"] (aa gf):=⟨rfl,rfl,rfl,by decide +kernel,rfl,by decide +kernel,by decide +kernel⟩
abbrev er:Stmt:=top 51
theorem cR:aj ["_law_number", "_law_by", "_law_many", "_law_found", "_law_k"] ["_law_number", "_law_by", "_law_many"] (aa er):=⟨rfl,rfl,rfl,by decide +kernel,rfl,by decide +kernel,by decide +kernel⟩
abbrev eW:Stmt:=top 52
theorem aD:aj ["_law_script", "_law_most_here", "_law_wide", "_law_many", "_law_menu", "_law_sizes_here", "_law_count", "_law_digit", "_law_size"] ["_law_script", "_law_most_here", "_law_wide"] (aa eW):=⟨rfl,rfl,rfl,by decide +kernel,rfl,by decide +kernel,by decide +kernel⟩
abbrev gd:Stmt:=top 53
theorem bo:aj ["_law_script", "_law_sizes_here", "_law_unit", "_law_turn", "_law_signs", "_law_paces", "_law_left", "_law_axis"] ["_law_script", "_law_sizes_here"] (aa gd):=⟨rfl,rfl,rfl,by decide +kernel,rfl,by decide +kernel,by decide +kernel⟩
abbrev cP:Stmt:=top 54
theorem cQ:aj ["_law_script", "_law_paces", "_law_way", "_law_k", "_law_axis"] ["_law_script", "_law_paces"] (aa cP):=⟨rfl,rfl,rfl,by decide +kernel,rfl,by decide +kernel,by decide +kernel⟩
abbrev di:Stmt:=top 55
theorem oM:aj ["_law_sizes_here", "_law_paces"] ["_law_sizes_here", "_law_paces"] (aa di):=⟨rfl,rfl,rfl,by decide +kernel,rfl,by decide +kernel,by decide +kernel⟩
abbrev dZ:Stmt:=top 56
theorem qE:aj ["_law_sizes_here", "_law_paces"] ["_law_sizes_here", "_law_paces"] (aa dZ):=⟨rfl,rfl,rfl,by decide +kernel,rfl,by decide +kernel,by decide +kernel⟩
abbrev dj:Stmt:=top 57
theorem bB:aj ["_law_first", "_law_sizes_here", "_law_paces", "_law_found", "_law_size", "_law_pace", "_law_longer", "_law_cell"] ["_law_first", "_law_sizes_here", "_law_paces"] (aa dj):=⟨rfl,rfl,rfl,by decide +kernel,rfl,by decide +kernel,by decide +kernel⟩
abbrev hG:Stmt:=top 58
theorem bq:aj ["_law_script", "_law_sizes_here", "_law_paces", "_law_others_here", "_law_first", "_law_begin", "_law_last", "_law_room", "_law_one", "_law_other"] ["_law_script", "_law_sizes_here"] (aa hG):=⟨rfl,rfl,rfl,by decide +kernel,rfl,by decide +kernel,by decide +kernel⟩
abbrev ft:Stmt:=top 59
theorem ik:aj ["_law_script", "_law_view", "_law_by", "_law_more"] ["_law_script", "_law_view"] (aa ft):=⟨rfl,rfl,rfl,by decide +kernel,rfl,by decide +kernel,by decide +kernel⟩
abbrev cO:Stmt:=top 60
theorem bI:aj ["_law_sizes_here", "_law_found", "_law_size", "_law_longer", "_law_place"] ["_law_sizes_here"] (aa cO):=⟨rfl,rfl,rfl,by decide +kernel,rfl,by decide +kernel,by decide +kernel⟩
abbrev eX:Stmt:=top 61
theorem bZ:aj ["_law_writes", "_law_reads", "_law_holder", "_law_n", "_law_found", "_law_j", "_law_i"] ["_law_writes", "_law_reads"] (aa eX):=⟨rfl,rfl,rfl,by decide +kernel,rfl,by decide +kernel,by decide +kernel⟩
abbrev cc:Stmt:=top 62
theorem eC:aj ["_law_some_here", "_law_due", "_law_axes", "_law_axis", "_law_along"] ["_law_some_here", "_law_due", "_law_axes"] (aa cc):=⟨rfl,rfl,rfl,by decide +kernel,rfl,by decide +kernel,by decide +kernel⟩
abbrev gc:Stmt:=top 63
theorem gn:aj ["_law_script", "_law_at", "_law_due", "_law_found", "_law_k"] ["_law_script", "_law_at", "_law_due"] (aa gc):=⟨rfl,rfl,rfl,by decide +kernel,rfl,by decide +kernel,by decide +kernel⟩
abbrev dD:Stmt:=top 64
theorem aY:aj ["_law_pair", "_law_sizes_here", "_law_cell", "_law_i", "_law_j", "_law_some_here", "_law_k"] ["_law_pair", "_law_sizes_here", "_law_cell"] (aa dD):=⟨rfl,rfl,rfl,by decide +kernel,rfl,by decide +kernel,by decide +kernel⟩
abbrev eY:Stmt:=top 65
theorem dq:aj ["_law_two_here", "_law_some_here", "_law_due", "_law_one", "_law_other", "_law_found"] ["_law_two_here", "_law_some_here", "_law_due"] (aa eY):=⟨rfl,rfl,rfl,by decide +kernel,rfl,by decide +kernel,by decide +kernel⟩
abbrev dE:Stmt:=top 66
theorem cG:aj ["_law_two_here", "_law_due", "_law_axes", "_law_cell", "_law_told", "_law_k", "_law_some_here"] ["_law_two_here", "_law_due", "_law_axes", "_law_cell"] (aa dE):=⟨rfl,rfl,rfl,by decide +kernel,rfl,by decide +kernel,by decide +kernel⟩
abbrev jZ:Stmt:=top 67
theorem dQ:aj ["_law_script", "_law_sizes_here", "_law_axes", "_law_one", "_law_other", "_law_writes", "_law_reads", "_law_two_here", "_law_every", "_law_due", "_law_some_here", "_law_handed", "_law_pair", "_law_k", "_law_odd", "_law_at", "_law_turned"] ["_law_script"] (aa jZ):=⟨rfl,rfl,rfl,by decide +kernel,rfl,by decide +kernel,by decide +kernel⟩
set_option genInjectivity false in
structure Adr where
 a_PaceError:Addr
 a_NoPlace:Addr
 a_NoView:Addr
 a_NoCount:Addr
 a_NoPair:Addr
 a_TooMany:Addr
 a_Twice:Addr
 a_View:Addr
 a_TooMany___init__:Addr
 d_TooMany___init__:FuncData
 a_Twice___init__:Addr
 d_Twice___init__:FuncData
 a_is_whole:Addr
 d_is_whole:FuncData
 a_count_of:Addr
 d_count_of:FuncData
 a_is_number_below:Addr
 d_is_number_below:FuncData
 a_is_place:Addr
 d_is_place:FuncData
 a_split_number:Addr
 d_split_number:FuncData
 a_place_at:Addr
 d_place_at:FuncData
 a_refuse_long:Addr
 d_refuse_long:FuncData
 a_places:Addr
 d_places:FuncData
 a_is_within:Addr
 d_is_within:FuncData
 a_is_size:Addr
 d_is_size:FuncData
 a_is_axis:Addr
 d_is_axis:FuncData
 a_are_axes:Addr
 d_are_axes:FuncData
 a_kept_axis:Addr
 d_kept_axis:FuncData
 a_View___init__:Addr
 d_View___init__:FuncData
 a_View_sizes:Addr
 d_View_sizes:FuncData
 a_View_paces:Addr
 d_View_paces:FuncData
 a_View_count:Addr
 d_View_count:FuncData
 a_View_cell:Addr
 d_View_cell:FuncData
 a_View_cells:Addr
 d_View_cells:FuncData
 a_View_least:Addr
 d_View_least:FuncData
 a_View_greatest:Addr
 d_View_greatest:FuncData
 a_widened:Addr
 d_widened:FuncData
 a_has_twice:Addr
 d_has_twice:FuncData
 a_refuse_rooms:Addr
 d_refuse_rooms:FuncData
 a_refuse_sizes_unlike:Addr
 d_refuse_sizes_unlike:FuncData
 a_refuse_twice:Addr
 d_refuse_twice:FuncData
 a_places_written_anew:Addr
 d_places_written_anew:FuncData
 a_bound_pairs:Addr
 d_bound_pairs:FuncData
 a_gap:Addr
 d_gap:FuncData
 a_helpful_loop:Addr
 d_helpful_loop:FuncData
 a_barring_pairs:Addr
 d_barring_pairs:FuncData
 a_loop_order:Addr
 d_loop_order:FuncData
 a_is_known_pair:Addr
 d_is_known_pair:FuncData
 a_bars_axis:Addr
 d_bars_axis:FuncData
 a_bars:Addr
 d_bars:FuncData
 a__law_draw:Addr
 d__law_draw:FuncData
 a__law_digits:Addr
 d__law_digits:FuncData
 a__law_sizes:Addr
 d__law_sizes:FuncData
 a__law_once:Addr
 d__law_once:FuncData
 a__law_others:Addr
 d__law_others:FuncData
 a__law_least:Addr
 d__law_least:FuncData
 a__law_most:Addr
 d__law_most:FuncData
 a__law_cells:Addr
 d__law_cells:FuncData
 a__law_two:Addr
 d__law_two:FuncData
 a__law_far:Addr
 d__law_far:FuncData
 a__law_places:Addr
 d__law_places:FuncData
 a__law_pairs:Addr
 d__law_pairs:FuncData
 a__law_is_bar:Addr
 d__law_is_bar:FuncData
 a__law_some:Addr
 d__law_some:FuncData
 a__law_strange:Addr
 d__law_strange:FuncData
 a__law_asked:Addr
 d__law_asked:FuncData
 a__law_of_told:Addr
 d__law_of_told:FuncData
 a_law:Addr
 d_law:FuncData
structure Tx(K:W.Frag)(mg:Str->Option Value)(t:Adr):Prop where
 m_PaceError:mg "PaceError"=some (.ref t.a_PaceError)
 m_NoPlace:mg "NoPlace"=some (.ref t.a_NoPlace)
 m_NoView:mg "NoView"=some (.ref t.a_NoView)
 m_NoCount:mg "NoCount"=some (.ref t.a_NoCount)
 m_NoPair:mg "NoPair"=some (.ref t.a_NoPair)
 m_TooMany:mg "TooMany"=some (.ref t.a_TooMany)
 m_Twice:mg "Twice"=some (.ref t.a_Twice)
 m_View:mg "View"=some (.ref t.a_View)
 m_MOST_TOLD:∃ tk,mg "MOST_TOLD"=some (.int 4096 tk)
 m_MOST_ROOM:∃ tk,mg "MOST_ROOM"=some (.int 1000000000000000000 tk)
 m_MOST_SIZE:∃ tk,mg "MOST_SIZE"=some (.int 1000000000 tk)
 m_MOST_AXES:∃ tk,mg "MOST_AXES"=some (.int 8 tk)
 oi_TooMany:Ny K t.a_TooMany t.a_TooMany___init__
 tk_TooMany_number:W.takerIn K t.a_TooMany "number"=some none
 na_TooMany_number:cU K t.a_TooMany "number"
 bi_PaceError:Mq K t.a_PaceError
 oi_Twice:Ny K t.a_Twice t.a_Twice___init__
 tk_Twice_one:W.takerIn K t.a_Twice "one"=some none
 na_Twice_one:cU K t.a_Twice "one"
 tk_Twice_other:W.takerIn K t.a_Twice "other"=some none
 na_Twice_other:cU K t.a_Twice "other"
 cl_View:Cls K t.a_View
 na_View_axes:cU K t.a_View "axes"
 na_View_first:cU K t.a_View "first"
 na_View_room:cU K t.a_View "room"
 mk_View:Mk K t.a_View t.a_View___init__
 mt_View_sizes:yO K t.a_View "sizes" t.a_View_sizes
 mt_View_paces:yO K t.a_View "paces" t.a_View_paces
 mt_View_count:yO K t.a_View "count" t.a_View_count
 mt_View_cell:yO K t.a_View "cell" t.a_View_cell
 mt_View_cells:yO K t.a_View "cells" t.a_View_cells
 mt_View_least:yO K t.a_View "least" t.a_View_least
 mt_View_greatest:yO K t.a_View "greatest" t.a_View_greatest
 F_TooMany___init__:Fun K "__init__" "TooMany.__init__" dt t.a_TooMany___init__ t.d_TooMany___init__
 b_TooMany___init__:aw K t.d_TooMany___init__ ["self", "number"] []
 F_Twice___init__:Fun K "__init__" "Twice.__init__" eF t.a_Twice___init__ t.d_Twice___init__
 b_Twice___init__:aw K t.d_Twice___init__ ["self", "one", "other"] []
 F_is_whole:Fun K "is_whole" "is_whole" gY t.a_is_whole t.d_is_whole
 m_is_whole:mg "is_whole"=some (.ref t.a_is_whole)
 b_is_whole:aw K t.d_is_whole ["thing"] []
 F_count_of:Fun K "count_of" "count_of" gZ t.a_count_of t.d_count_of
 m_count_of:mg "count_of"=some (.ref t.a_count_of)
 b_count_of:aw K t.d_count_of ["sizes"] []
 F_is_number_below:Fun K "is_number_below" "is_number_below" cB t.a_is_number_below t.d_is_number_below
 m_is_number_below:mg "is_number_below"=some (.ref t.a_is_number_below)
 b_is_number_below:aw K t.d_is_number_below ["thing", "bound"] []
 F_is_place:Fun K "is_place" "is_place" fm t.a_is_place t.d_is_place
 m_is_place:mg "is_place"=some (.ref t.a_is_place)
 b_is_place:aw K t.d_is_place ["sizes", "thing"] []
 F_split_number:Fun K "split_number" "split_number" dA t.a_split_number t.d_split_number
 m_split_number:mg "split_number"=some (.ref t.a_split_number)
 b_split_number:aw K t.d_split_number ["sizes", "number"] []
 F_place_at:Fun K "place_at" "place_at" gX t.a_place_at t.d_place_at
 m_place_at:mg "place_at"=some (.ref t.a_place_at)
 b_place_at:aw K t.d_place_at ["sizes", "number"] []
 F_refuse_long:Fun K "refuse_long" "refuse_long" ek t.a_refuse_long t.d_refuse_long
 m_refuse_long:mg "refuse_long"=some (.ref t.a_refuse_long)
 b_refuse_long:aw K t.d_refuse_long ["count"] []
 F_places:Fun K "places" "places" iG t.a_places t.d_places
 m_places:mg "places"=some (.ref t.a_places)
 b_places:aw K t.d_places ["sizes"] []
 F_is_within:Fun K "is_within" "is_within" fZ t.a_is_within t.d_is_within
 m_is_within:mg "is_within"=some (.ref t.a_is_within)
 b_is_within:aw K t.d_is_within ["thing", "low", "high"] []
 F_is_size:Fun K "is_size" "is_size" jj t.a_is_size t.d_is_size
 m_is_size:mg "is_size"=some (.ref t.a_is_size)
 b_is_size:aw K t.d_is_size ["thing"] []
 F_is_axis:Fun K "is_axis" "is_axis" jk t.a_is_axis t.d_is_axis
 m_is_axis:mg "is_axis"=some (.ref t.a_is_axis)
 b_is_axis:aw K t.d_is_axis ["thing"] []
 F_are_axes:Fun K "are_axes" "are_axes" fq t.a_are_axes t.d_are_axes
 m_are_axes:mg "are_axes"=some (.ref t.a_are_axes)
 b_are_axes:aw K t.d_are_axes ["thing"] []
 F_kept_axis:Fun K "kept_axis" "kept_axis" fY t.a_kept_axis t.d_kept_axis
 m_kept_axis:mg "kept_axis"=some (.ref t.a_kept_axis)
 b_kept_axis:aw K t.d_kept_axis ["axis"] []
 F_View___init__:Fun K "__init__" "View.__init__" ck t.a_View___init__ t.d_View___init__
 b_View___init__:aw K t.d_View___init__ ["self", "room", "first", "axes"] []
 F_View_sizes:Fun K "sizes" "View.sizes" dk t.a_View_sizes t.d_View_sizes
 b_View_sizes:aw K t.d_View_sizes ["self"] []
 F_View_paces:Fun K "paces" "View.paces" iu t.a_View_paces t.d_View_paces
 b_View_paces:aw K t.d_View_paces ["self"] []
 F_View_count:Fun K "count" "View.count" eZ t.a_View_count t.d_View_count
 b_View_count:aw K t.d_View_count ["self"] []
 F_View_cell:Fun K "cell" "View.cell" jx t.a_View_cell t.d_View_cell
 b_View_cell:aw K t.d_View_cell ["self", "place"] []
 F_View_cells:Fun K "cells" "View.cells" fb t.a_View_cells t.d_View_cells
 b_View_cells:aw K t.d_View_cells ["self"] []
 F_View_least:Fun K "least" "View.least" dm t.a_View_least t.d_View_least
 b_View_least:aw K t.d_View_least ["self"] []
 F_View_greatest:Fun K "greatest" "View.greatest" cj t.a_View_greatest t.d_View_greatest
 b_View_greatest:aw K t.d_View_greatest ["self"] []
 F_widened:Fun K "widened" "widened" gy t.a_widened t.d_widened
 m_widened:mg "widened"=some (.ref t.a_widened)
 b_widened:aw K t.d_widened ["cells", "size", "pace"] []
 F_has_twice:Fun K "has_twice" "has_twice" gb t.a_has_twice t.d_has_twice
 m_has_twice:mg "has_twice"=some (.ref t.a_has_twice)
 b_has_twice:aw K t.d_has_twice ["view"] []
 F_refuse_rooms:Fun K "refuse_rooms" "refuse_rooms" dC t.a_refuse_rooms t.d_refuse_rooms
 m_refuse_rooms:mg "refuse_rooms"=some (.ref t.a_refuse_rooms)
 b_refuse_rooms:aw K t.d_refuse_rooms ["one", "other"] []
 F_refuse_sizes_unlike:Fun K "refuse_sizes_unlike" "refuse_sizes_unlike" bD t.a_refuse_sizes_unlike t.d_refuse_sizes_unlike
 m_refuse_sizes_unlike:mg "refuse_sizes_unlike"=some (.ref t.a_refuse_sizes_unlike)
 b_refuse_sizes_unlike:aw K t.d_refuse_sizes_unlike ["to", "source"] []
 F_refuse_twice:Fun K "refuse_twice" "refuse_twice" dB t.a_refuse_twice t.d_refuse_twice
 m_refuse_twice:mg "refuse_twice"=some (.ref t.a_refuse_twice)
 b_refuse_twice:aw K t.d_refuse_twice ["view"] []
 F_places_written_anew:Fun K "places_written_anew" "places_written_anew" bE t.a_places_written_anew t.d_places_written_anew
 m_places_written_anew:mg "places_written_anew"=some (.ref t.a_places_written_anew)
 b_places_written_anew:aw K t.d_places_written_anew ["to", "source", "spots"] []
 F_bound_pairs:Fun K "bound_pairs" "bound_pairs" eo t.a_bound_pairs t.d_bound_pairs
 m_bound_pairs:mg "bound_pairs"=some (.ref t.a_bound_pairs)
 b_bound_pairs:aw K t.d_bound_pairs ["to", "source"] []
 F_gap:Fun K "gap" "gap" Ct t.a_gap t.d_gap
 m_gap:mg "gap"=some (.ref t.a_gap)
 b_gap:aw K t.d_gap ["pair", "axis"] []
 F_helpful_loop:Fun K "helpful_loop" "helpful_loop" cD t.a_helpful_loop t.d_helpful_loop
 m_helpful_loop:mg "helpful_loop"=some (.ref t.a_helpful_loop)
 b_helpful_loop:aw K t.d_helpful_loop ["pairs", "many"] []
 F_barring_pairs:Fun K "barring_pairs" "barring_pairs" bC t.a_barring_pairs t.d_barring_pairs
 m_barring_pairs:mg "barring_pairs"=some (.ref t.a_barring_pairs)
 b_barring_pairs:aw K t.d_barring_pairs ["pairs", "many"] []
 F_loop_order:Fun K "loop_order" "loop_order" bX t.a_loop_order t.d_loop_order
 m_loop_order:mg "loop_order"=some (.ref t.a_loop_order)
 b_loop_order:aw K t.d_loop_order ["to", "source"] []
 F_is_known_pair:Fun K "is_known_pair" "is_known_pair" da t.a_is_known_pair t.d_is_known_pair
 m_is_known_pair:mg "is_known_pair"=some (.ref t.a_is_known_pair)
 b_is_known_pair:aw K t.d_is_known_pair ["thing", "sizes", "known"] []
 F_bars_axis:Fun K "bars_axis" "bars_axis" dY t.a_bars_axis t.d_bars_axis
 m_bars_axis:mg "bars_axis"=some (.ref t.a_bars_axis)
 b_bars_axis:aw K t.d_bars_axis ["pairs", "axis"] []
 F_bars:Fun K "bars" "bars" mS t.a_bars t.d_bars
 m_bars:mg "bars"=some (.ref t.a_bars)
 b_bars:aw K t.d_bars ["to", "source", "some"] []
 F__law_draw:Fun K "_law_draw" "_law_draw" gf t.a__law_draw t.d__law_draw
 m__law_draw:mg "_law_draw"=some (.ref t.a__law_draw)
 b__law_draw:aw K t.d__law_draw ["_law_script", "_law_k", "_law_many"] []
 F__law_digits:Fun K "_law_digits" "_law_digits" er t.a__law_digits t.d__law_digits
 m__law_digits:mg "_law_digits"=some (.ref t.a__law_digits)
 b__law_digits:aw K t.d__law_digits ["_law_number", "_law_by", "_law_many"] []
 F__law_sizes:Fun K "_law_sizes" "_law_sizes" eW t.a__law_sizes t.d__law_sizes
 m__law_sizes:mg "_law_sizes"=some (.ref t.a__law_sizes)
 b__law_sizes:aw K t.d__law_sizes ["_law_script", "_law_most_here", "_law_wide"] []
 F__law_once:Fun K "_law_once" "_law_once" gd t.a__law_once t.d__law_once
 m__law_once:mg "_law_once"=some (.ref t.a__law_once)
 b__law_once:aw K t.d__law_once ["_law_script", "_law_sizes_here"] []
 F__law_others:Fun K "_law_others" "_law_others" cP t.a__law_others t.d__law_others
 m__law_others:mg "_law_others"=some (.ref t.a__law_others)
 b__law_others:aw K t.d__law_others ["_law_script", "_law_paces"] []
 F__law_least:Fun K "_law_least" "_law_least" di t.a__law_least t.d__law_least
 m__law_least:mg "_law_least"=some (.ref t.a__law_least)
 b__law_least:aw K t.d__law_least ["_law_sizes_here", "_law_paces"] []
 F__law_most:Fun K "_law_most" "_law_most" dZ t.a__law_most t.d__law_most
 m__law_most:mg "_law_most"=some (.ref t.a__law_most)
 b__law_most:aw K t.d__law_most ["_law_sizes_here", "_law_paces"] []
 F__law_cells:Fun K "_law_cells" "_law_cells" dj t.a__law_cells t.d__law_cells
 m__law_cells:mg "_law_cells"=some (.ref t.a__law_cells)
 b__law_cells:aw K t.d__law_cells ["_law_first", "_law_sizes_here", "_law_paces"] []
 F__law_two:Fun K "_law_two" "_law_two" hG t.a__law_two t.d__law_two
 m__law_two:mg "_law_two"=some (.ref t.a__law_two)
 b__law_two:aw K t.d__law_two ["_law_script", "_law_sizes_here"] []
 F__law_far:Fun K "_law_far" "_law_far" ft t.a__law_far t.d__law_far
 m__law_far:mg "_law_far"=some (.ref t.a__law_far)
 b__law_far:aw K t.d__law_far ["_law_script", "_law_view"] []
 F__law_places:Fun K "_law_places" "_law_places" cO t.a__law_places t.d__law_places
 m__law_places:mg "_law_places"=some (.ref t.a__law_places)
 b__law_places:aw K t.d__law_places ["_law_sizes_here"] []
 F__law_pairs:Fun K "_law_pairs" "_law_pairs" eX t.a__law_pairs t.d__law_pairs
 m__law_pairs:mg "_law_pairs"=some (.ref t.a__law_pairs)
 b__law_pairs:aw K t.d__law_pairs ["_law_writes", "_law_reads"] []
 F__law_is_bar:Fun K "_law_is_bar" "_law_is_bar" cc t.a__law_is_bar t.d__law_is_bar
 m__law_is_bar:mg "_law_is_bar"=some (.ref t.a__law_is_bar)
 b__law_is_bar:aw K t.d__law_is_bar ["_law_some_here", "_law_due", "_law_axes"] []
 F__law_some:Fun K "_law_some" "_law_some" gc t.a__law_some t.d__law_some
 m__law_some:mg "_law_some"=some (.ref t.a__law_some)
 b__law_some:aw K t.d__law_some ["_law_script", "_law_at", "_law_due"] []
 F__law_strange:Fun K "_law_strange" "_law_strange" dD t.a__law_strange t.d__law_strange
 m__law_strange:mg "_law_strange"=some (.ref t.a__law_strange)
 b__law_strange:aw K t.d__law_strange ["_law_pair", "_law_sizes_here", "_law_cell"] []
 F__law_asked:Fun K "_law_asked" "_law_asked" eY t.a__law_asked t.d__law_asked
 m__law_asked:mg "_law_asked"=some (.ref t.a__law_asked)
 b__law_asked:aw K t.d__law_asked ["_law_two_here", "_law_some_here", "_law_due"] []
 F__law_of_told:Fun K "_law_of_told" "_law_of_told" dE t.a__law_of_told t.d__law_of_told
 m__law_of_told:mg "_law_of_told"=some (.ref t.a__law_of_told)
 b__law_of_told:aw K t.d__law_of_told ["_law_two_here", "_law_due", "_law_axes", "_law_cell"] []
 F_law:Fun K "law" "law" jZ t.a_law t.d_law
 m_law:mg "law"=some (.ref t.a_law)
 b_law:aw K t.d_law ["_law_script"] []
 z_ValueError:mg "ValueError"=none
 z_all:mg "all"=none
 z_bool:mg "bool"=none
 z_enumerate:mg "enumerate"=none
 z_int:mg "int"=none
 z_isinstance:mg "isinstance"=none
 z_len:mg "len"=none
 z_list:mg "list"=none
 z_max:mg "max"=none
 z_min:mg "min"=none
 z_range:mg "range"=none
 z_reversed:mg "reversed"=none
 z_sum:mg "sum"=none
 z_tuple:mg "tuple"=none
 z_zip:mg "zip"=none
local macro_rules | `(tactic| trivial) => `(tactic| first | exact Or.inl rfl | exact Or.inr rfl | exact Or.inr (Or.inl rfl) | exact Or.inr (Or.inr rfl) | assumption)
local macro_rules | `(tactic| simp! only [$xs,*]) => do
  let ys := xs.getElems.map λ x => (⟨x.raw⟩ : Lean.TSyntax `Lean.Parser.Tactic.simpLemma)
  let zs ← ("↓reduceIte ↓jm ↓FP ↓FO ↓FN ↓FL ↓FK ↓FJ ↓FI ↓FH ↓FG ↓FF ↓Bk ↓Bj ↓Bi ↓Bh ↓Bg ↓Bf ↓Be ↓B2 ↓LS ↓Lw ↓NS ↓LN ↓Ls ↓qk ↓ql ↓qj ↓Ji ↓IB ↓JI ↓IH ↓LR ↓Lv ↓Jq ↓Lz ↓Jz ↓IC ↓Av ↓E1 ↓Eg ↓xN ↓xM ↓xK ↓xJ ↓Ei ↓LY ↓LA ↓Ed ↓Iz ↓IA ↓EZ ↓Ee ↓Jp ↓qP ↓JG ↓IG ↓LW ↓Jl ↓IQ ↓Jn ↓LV ↓LC ↓IM ↓IL ↓sX ↓qp ↓oF ↓qo ↓xH ↓xG ↓xF ↓xE ↓xC ↓xB ↓xw ↓xv ↓xu ↓xt ↓xo ↓xn ↓xm ↓xr ↓xq ↓xp ↓xl ↓xk ↓xj ↓xA ↓xy ↓xx ↓JD ↓LZ ↓LB ↓JC ↓IF ↓JH ↓xh ↓Jd ↓sW ↓EL ↓Ja ↓En ↓Aq ↓Ar ↓JM ↓LX ↓LD ↓ay ↓ID ↓LO ↓Fh ↓xI ↓Jr ↓JK ↓LM ↓He ↓Ik ↓Eh ↓EI ↓Eb ↓JN ↓tq ↓fA ↓fz ↓mC ↓fN ↓As ↓Au ↓Jt ↓sY ↓mB ↓mz ↓qm ↓my ↓EU ↓IX ↓IZ ↓I0 ↓Lu ↓xf ↓EN ↓Ec ↓LP ↓LQ ↓IJ ↓IP ↓NW ↓Ez ↓ER ↓Ag ↓Jj ↓Jk ↓B1 ↓LU ↓LF ↓EA ↓Jb ↓Jc ↓JL ↓EG ↓IK ↓JB ↓Ff ↓IS ↓ED ↓EF ↓EE ↓LI ↓JJ ↓ba ↓bh ↓dw ↓Em ↓El ↓EV ↓EW ↓Js ↓IW ↓EH ↓EJ ↓EK ↓Eu ↓sZ ↓An ↓ES ↓Ex ↓ET ↓xi ↓Ey ↓JA ↓EB ↓Ao ↓Ap ↓Jm ↓Lx ↓Eo ↓Er ↓EX ↓EY ↓xg ↓Ju ↓Jv ↓Fi ↓Ly ↓Jy ↓Ef ↓Jw ↓Jx ↓Ek ↓Iy ↓Iw ↓Iv ↓Iu ↓Ir ↓Iq ↓Ip ↓Io ↓Im ↓Il ↓Ea ↓D9 ↓D8 ↓D0 ↓DZ ↓DY ↓DX ↓LH ↓NU ↓NT ↓Ak ↓Et ↓Fe ↓EC ↓Jh ↓IV ↓EO ↓Ew ↓Fb ↓Fc ↓Fd ↓Aj ↓Fj ↓Aw ↓Je ↓IU ↓EM ↓Ah ↓Jo ↓LG ↓IT ↓LJ ↓LK ↓NV ↓LL ↓Fg ↓Af ↓JE ↓JF ↓IE ↓Ep ↓Es ↓Ai ↓Jf ↓Jg ↓Ej jm cL av iQ zD zC Ax zz t5 aq Df Dh Dg HA Dk HC Dl Di Dj zw AX Fz AW AV Od oC Mm Ml Bs cz lU cZ fe Gk J4 Gj Option.isSome_some Option.isSome_none Option.map_some List.length_cons List.length_nil List.length_map List.map_cons List.map_nil and_true true_and and_self implies_true reduceCtorEq decide_true decide_false Bool.not_true Bool.not_false if_true if_false decide_eq_true_eq Bool.false_eq_true Bool.not_eq_true' decide_eq_false_iff_not Bool.and_true Bool.true_and Bool.and_self Bool.and_eq_true Int.reduceToNat Int.reducePow Int.reduceMul Int.reduceAdd Int.reduceSub Int.reduceNeg Int.reduceLT Int.reduceLE Int.reduceEq Int.reduceNe Int.reduceDiv Int.reduceMod Nat.reduceAdd Nat.reduceLeDiff Nat.reduceLT Nat.reduceMul Nat.reducePow gt_iff_lt ge_iff_le ne_eq false_implies true_implies eq_self String.reduceEq Int.cast_ofNat_Int not_true_eq_false not_false_eq_true false_and and_false List.cons_append List.nil_append List.append_nil Hg".splitOn " ").toArray.mapM λ s => if s.startsWith "↓" then `(Lean.Parser.Tactic.simpLemma| ↓ $(Lean.mkIdent (s.replace "↓" "").toName):ident) else `(Lean.Parser.Tactic.simpLemma| $(Lean.mkIdent s.toName):ident)
  `(tactic| simp (config := { failIfUnchanged := false, maxDischargeDepth := 30, maxSteps := 10000000 }) only [$zs,*, $ys,*, *])
local macro_rules | `(%[$xs,*|$k:num]) => do
  let a := xs.getElems
  let s (i : Nat) : String := a[i]!.raw.getId.toString
  let I (n : String) : Lean.TSyntax `term := ⟨(Lean.mkIdent n.toName).raw⟩
  match k.getNat with
  | 41 => `($(a[0]!) (P := $(I "P")) (w := $(I "w")) (base := $(I "base")) $(I "T"))
  | 0 => `(@pvN _ $(a[0]!) _ _ (by rfl) (by trivial) (by decide) (by decide))
  | 1 => if a.size = 1 then `(@Gv _ _ _ _ _ $(a[0]!) (@bw _) (by rfl)) else `(@Gv _ _ _ _ _ $(a[0]!) $(a[1]!) (by rfl))
  | 2 => `(@eP _ _ _ _)
  | 7 => `(by trivial)
  | 8 => `(by omega)
  | 3 => `(@DJ _ _ _ _ _ _ _ _ _ _ _ _ _ _ _ _ $(I ("G_" ++ s 0)) ($(I "hr.mono") (by decide)) (by rfl) $(I ("T.m_" ++ s 0)) $(I ("T.F_" ++ s 0 ++ ".kp")) $(I ("T.b_" ++ s 0)) .nil eJ $(a[1]!) (by decide) (by rfl) (by rfl))
  | 4 => `(@fF _ _ $(a[0]!) _ _ _ _ ($(a[1]!)).nd rfl (Or.inl rfl) $(a[2]!) (by rfl) (by trivial))
  | 5 => `(@vB _ _ $(a[0]!) _ ($(a[1]!)).nd rfl (Or.inl rfl) (by trivial))
  | 6 => `(@iI _ _ _ _ _ _ _ $(Lean.Syntax.mkStrLit (s 0)) _ $(a[1]!) (by rfl) $(I ("T.z_" ++ s 0)) (by decide +kernel) $(a[2]!) (by decide) (by decide) (by rfl) (by rfl))
  | 9 => `(@gx _ _ _ _ _ $(a)*)
  | 10 => `(@lu _ _ _ $(a)*)
  | 11 => `(@eO _ _ _ _ _ _ _ _ $(a)*)
  | 12 => `(@uN _ _ _ _ $(a)*)
  | 13 => `(@CB _ _ _ _ _ _ _ $(a)*)
  | 14 => `(@zJ _ _ _ _ _ _ _ _ $(a)*)
  | 15 => `(@vB _ _ $(a)*)
  | 16 => `(@DE _ _ _ _ $(a)*)
  | 17 => `(@Cz _ _ _ _ _ _ _ _ $(a)*)
  | 18 => `(@wL _ _ _ _ _ $(a)*)
  | 19 => `(@DD _ _ _ _ _ $(a)*)
  | 20 => `(@HM _ _ _ _ $(a)*)
  | 21 => `(@HL _ _ _ _ _ _ _ _ $(a)*)
  | 22 => `(@Dx _ _ _ $(a)*)
  | 23 => `(@cN _ _ _ $(a)*)
  | 24 => `(@zO _ _ _ _ _ _ _ _ _ _ $(a)*)
  | 25 => `(@DH _ _ _ _ _ _ _ _ _ _ _ $(a)*)
  | 26 => `(@HP _ _ _ _ _ $(a)*)
  | 27 => `(@Dv _ _ _ _ $(a)*)
  | 28 => `(@Ds _ _ _ $(a)*)
  | 29 => `(@wK _ _ _ _ _ _ $(a)*)
  | 30 => `(@HK _ _ _ _ $(a)*)
  | 31 => `(@DG _ _ _ _ _ $(a)*)
  | 32 => `(@wM _ _ _ _ _ _ _ _ _ _ _ _ _ _ _ _ _ $(a)*)
  | 33 => `(@DK _ _ _ _ _ _ _ $(a)*)
  | 34 => `(@Lh _ _ _ _ _ _ _ _ _ _ _ _ $(a)*)
  | 35 => `(@HU _ _ _ _ _ $(a)*)
  | 36 => `(@Le _ _ _ _ _ _ _ $(a)*)
  | 37 => `(@DI _ _ _ _ _ _ _ _ $(a)*)
  | 38 => `(@wO _ _ _ _ _ _ _ _ _ $(a)*)
  | 39 => `(@Dt _ _ _ _ _ _ _ _ _ _ _ _ _ $(a)*)
  | 40 => `(@zP _ _ _ _ _ _ _ _ _ _ _ _ _ _ _ _ _ $(a)*)
  | _ => Lean.Macro.throwUnsupported
local macro_rules | `(∅) => `(by rfl)
local macro_rules | `(⋯) => `(by decide)
local macro_rules | `(nofun) => `(by decide +kernel)
local macro_rules | `(tactic| ac_rfl) => `(tactic| simp! only [and_true])
local macro_rules | `(tactic| exists $x:ident) => `(tactic| replace $x := λ (_ : Unit) => $x)
section
variable {P:Program}{w:World}{K:PySem.W.Frag}{mg:Str->Option Value}{base:Heap}{t:Adr}
def fR(ns:List Int)(k m:Int):Int:=(if k < (ns.length:Int) then ns.getD k.toNat 0 else (if 0 < (ns.length:Int) then ns.getD (k % (ns.length:Int)).toNat 0 % 999999937 * (48271+2 * k * k)+k * 69621 else k * k * 7919+104729) % 2147483647 * 16807 % 2147483629) % m
theorem vI{ns:List Int}{k z:Int}(h0:0<=k)(h1:k < (ns.length:Int))(hz:atI (ns.map V.int) k=some (.int z)):ns.getD k.toNat 0=z:=by
 obtain⟨n,rfl⟩:=OT h0;have hn:n < ns.length:=by omega
 have e:atI (ns.map V.int) (n:Int)=some (.int ns[n]):=bU (by rw [OL,Ow hn];rfl);rw [hz] at e;have e2:=O1 e;simp only [V.int.injEq] at e2;rw [OI,Qg,Ow hn,e2];rfl
theorem FV{ns:List Int}{k m z:Int}(h0:0<=k)(h1:k < (ns.length:Int))(hz:atI (ns.map V.int) k=some (.int z)):fR ns k m=z % m:=by
 unfold fR;rw [if_pos h1,vI h0 h1 hz]
theorem FU{ns:List Int}{k m z:Int}(h1:¬ k < (ns.length:Int))(h2:0 < (ns.length:Int))(hz:atI (ns.map V.int) (k % (ns.length:Int))=some (.int z)):fR ns k m=(z % 999999937 * (48271+2 * k * k)+k * 69621) % 2147483647 * 16807 % 2147483629 % m:=by
 unfold fR;rw [if_neg h1,if_pos h2,vI (Int.emod_nonneg _ %[0|8]) (Int.emod_lt_of_pos _ h2) hz]
theorem FT{ns:List Int}{k m:Int}(h1:¬ k < (ns.length:Int))(h2:¬ 0 < (ns.length:Int)):fR ns k m=(k * k * 7919+104729) % 2147483647 * 16807 % 2147483629 % m:=by
 unfold fR;rw [if_neg h1,if_neg h2]
abbrev og(K:PySem.W.Frag)(a:Addr)(ns:List Int)(k:Int)(m:Int)(H:Hp)(Q:VK)(E:XK):Prop:=SqL K H a (ns.map V.int)/\ns.length<=63/\(0<=k/\k < 1000)/\0 < m/\Q (.int (fR ns k m)) H
def pw(K:W.Frag)(a:Addr)(ns:List Int):Sp:=λ vs H Q E=>∃ (k:Int) (m:Int),vs=[.ref a,.int k,.int m]/\(og K a ns k m H Q E)
theorem nO(K:W.Frag)(a:Addr)(ns:List Int)(k:Int)(m:Int)(H:Hp)(Q:VK)(E:XK):pw K a ns [.ref a,.int k,.int m] H Q E=(og K a ns k m H Q E):=jV (f:=λ (k:Int) (m:Int)=>[.ref a,.int k,.int m]) (λ _ _ _ _ h=>by cases h;exact⟨rfl,rfl⟩) k m
theorem xY(K:W.Frag)(a:Addr)(ns:List Int){vs:List V}{H:Hp}{Q:VK}{E:XK}(h:pw K a ns vs H Q E):vs.length=3:=jW h λ _ _=>rfl
theorem gJ(T:Tx K mg t)(a:Addr)(ns:List Int):bL P w K mg base CX0 1 t.a__law_draw t.d__law_draw ["_law_script", "_law_k", "_law_many"] (pw K a ns):=by
 refine T.F__law_draw.ok eh (λ vs H Q E h=>xY _ _ _ h) (λ c A o s H vs Q E hr h=>?_)
 ·obtain⟨k,m,rfl,hS,hl,⟨hk0,hk1⟩,hm,kk⟩:=h
  refine⟨_,(gx (Cz (pE GV (pv 1) (iI (id := "len") dn ∅ T.z_len nofun (Gv (pv 0) bw)) (ar _))
   (lu (uN (eO iU (CB pK (pv 0) (pv 1) (λ _ _=>rfl)) (pv 2))))
   ak)
  (gx (fF (i:=3) eh.nd rfl (Or.inl rfl) (eO qM (eO ir (eO ir (pv 1) (pv 1)) eP) eP))
  (gx (Cz (pE GW (iI (id := "len") dn ∅ T.z_len nofun (Gv (pv 0) bw)) eP (ar _))
   (gx (fF (i:=4) eh.nd rfl (Or.inl rfl) (eO iU (CB pK (pv 0) (eO iU (pv 1) (iI (id := "len") dn ∅ T.z_len nofun (Gv (pv 0) bw))) (λ _ _=>rfl)) eP))
   (lu (fF (i:=3) eh.nd rfl (Or.inl rfl) (eO qM (eO ir (pv 4) (eO qM eP (eO ir (eO ir eP (pv 1)) (pv 1)))) (eO ir (pv 1) eP)))))
   ak)
  (lu (uN (eO iU (eO iU (eO ir (eO iU (pv 3) eP) eP) eP) (pv 2))))))),?_⟩
  refine⟨_,rfl,_,rfl,a,_,rfl,.inl hS,_,_,rfl,rfl,_,rfl,?_⟩;refine Nn (λ h=>?_) (λ h=>?_)
  ·have h1:k < (ns.length:Int):=by simpa using h
   obtain⟨z,hz,_⟩:=ma ns k hk0 h1;exact⟨_,rfl,_,rfl,a,_,k,_,rfl,rfl,hS,hz,_,rfl,_,_,rfl,rfl,hm,by rw [FV hk0 h1 hz] at kk;exact kk⟩
  ·have h1:¬ k < (ns.length:Int):=by simpa using h
   refine⟨_,rfl,_,rfl,_,_,rfl,rfl,.inl ⟨by omega,by omega⟩,_,_,rfl,rfl,.inr ⟨by decide,by decide⟩,_,_,rfl,rfl,?_⟩;refine⟨_,rfl,a,_,rfl,.inl hS,_,_,rfl,rfl,_,rfl,?_⟩;refine Nn (λ h2=>?_) (λ h2=>?_)
   ·have h3:0 < (ns.length:Int):=by simpa using h2
    have h4:(0:Int) < ((ns.map V.int).length:Int):=by simpa using h3
    obtain⟨z,hz,_⟩:=ma ns (k % ((ns.map V.int).length:Int)) (Px _ %[0|8]) (by have:=Pl k h4;simpa using this);refine⟨_,rfl,_,rfl,_,rfl,a,_,rfl,.inl hS,_,_,rfl,rfl,h4,a,_,_,_,rfl,rfl,hS,hz,_,_,rfl,rfl,(by first|decide|(show (0:Int) < _;decide)),?_⟩;refine⟨_,rfl,_,rfl,_,_,rfl,rfl,.inl ⟨by decide,by decide⟩,_,rfl,_,_,rfl,rfl,.inr ⟨by omega,by omega⟩,_,_,rfl,rfl,_,_,rfl,rfl,?_,?_⟩
    ·refine .inl ⟨?_,?_⟩
     ·have:=Px z (show (999999937:Int) ≠ 0 by decide);omega
     ·have:=Pl z (show (0:Int) < 999999937 by decide);omega
    refine⟨_,rfl,_,_,rfl,rfl,.inr ⟨by decide,by decide⟩,_,_,rfl,rfl,?_⟩;exact⟨_,rfl,_,_,rfl,rfl,(by first|decide|(show (0:Int) < _;decide)),_,_,rfl,rfl,.inr ⟨by decide,by decide⟩,_,_,rfl,rfl,(by first|decide|(show (0:Int) < _;decide)),_,rfl,_,_,rfl,rfl,hm,by rw [FU h1 h3 (show atI (ns.map V.int) (k % (ns.length:Int))=some (.int z) by rw [←hz,OB])] at kk;exact kk⟩
   ·exact⟨_,rfl,_,_,rfl,rfl,(by first|decide|(show (0:Int) < _;decide)),_,_,rfl,rfl,.inr ⟨by decide,by decide⟩,_,_,rfl,rfl,(by first|decide|(show (0:Int) < _;decide)),_,rfl,_,_,rfl,rfl,hm,by rw [FT h1 (show ¬ (0:Int) < (ns.length:Int) by simpa using h2)] at kk;exact kk⟩
def uH(K:W.Frag)(a:Addr)(ns:List Int):Sp:=λ vs H Q E=>∃ (k:Int) (m:Int),vs=[.ref a,.int k,.int m]/\(SqL K H a (ns.map V.int)/\ns.length<=63/\(0<=k/\k < 1000)/\0 < m/\∀ z:Int,0<=z->z < m->Q (.int z) H)
theorem aB(K:W.Frag)(a:Addr)(ns:List Int)(k:Int)(m:Int)(H:Hp)(Q:VK)(E:XK):uH K a ns [.ref a,.int k,.int m] H Q E=(SqL K H a (ns.map V.int)/\ns.length<=63/\(0<=k/\k < 1000)/\0 < m/\∀ z:Int,0<=z->z < m->Q (.int z) H):=jV (f:=λ (k:Int) (m:Int)=>[.ref a,.int k,.int m]) (λ _ _ _ _ h=>by cases h;exact⟨rfl,rfl⟩) k m
theorem Ko(K:W.Frag)(a:Addr)(ns:List Int){vs:List V}{H:Hp}{Q:VK}{E:XK}(h:uH K a ns vs H Q E):vs.length=3:=jW h λ _ _=>rfl
theorem bY(T:Tx K mg t)(a:Addr)(ns:List Int):bL P w K mg base CX0 1 t.a__law_draw t.d__law_draw ["_law_script", "_law_k", "_law_many"] (uH K a ns):=(gJ (P:=P) (w:=w) (base:=base) T a ns).imp λ vs H Q E h=>by
 obtain⟨k,m,e,hS,hl,hk,hm,kk⟩:=h;exact⟨k,m,e,hS,hl,hk,hm,kk _ (show 0<=fR ns k m from Px _ %[0|8]) (show fR ns k m < m from Pl _ hm)⟩
def oZ  : Sp:=λ vs H Q E=>∃ (x:V),vs=[x]/\(az (isW H x) (kE4 H Q))
theorem bO  (x:V) (H:Hp) (Q:VK) (E:XK):oZ  [x] H Q E=(az (isW H x) (kE4 H Q)):=mL (f:=λ (x:V)=>[x]) (λ _ _ h=>by cases h;exact rfl) x
theorem xQ  {vs:List V}{H:Hp}{Q:VK}{E:XK}(h:oZ  vs H Q E):vs.length=1:=mG h λ _=>rfl
theorem ed(T:Tx K mg t):bL P w K mg base CX0 1 t.a_is_whole t.d_is_whole ["thing"] oZ:=by
 refine T.F_is_whole.ok tX (λ vs H Q E h=>xQ h) (λ c A o s H vs Q E hr h=>?_)
 ·obtain⟨x,rfl,h⟩:=h;obtain⟨b,hb,k⟩:=ai h;clear h;rw [He] at k;refine⟨_,%[%[%[%[isinstance,cJ,%[%[0|0],%[(@eT _ _ (.ty "int") (.type "int") _ ∅ T.z_int nofun rfl ⋯ ⋯)|1]|1]|6],%[(@DF _ _ _ _ %[isinstance,cJ,%[%[0|0],%[(@eT _ _ (.ty "bool") (.type "bool") _ ∅ T.z_bool nofun rfl ⋯ ⋯)|1]|1]|6])|35]|33]|12]|10],?_⟩;rw [show aA ["thing"] [x]=[some (x)] from rfl]
  cases x with
  | int i=>cases hb;ac_rfl
  | bl i=>cases hb;ac_rfl
  | non=>cases hb;ac_rfl
  | str i=>cases hb;ac_rfl
  | ref p=>
   obtain⟨rfl,o,ho,ht⟩:=gR hb
   rcases ht with ht|ht|ht<;>ac_rfl
  | _=>cases hb
def kSz(F:List Int->Prop):List Int->Prop:=λ ns=>eK ns/\F ns
theorem j6(F:List Int->Prop)(ns:List Int):kSz F ns=(eK ns/\F ns):=rfl
def K0(H:Hp)(Q:VK):List Int->Prop:=λ ns=>Q (.int (ae ns)) H
theorem qJ(H:Hp)(Q:VK)(ns:List Int):K0 H Q ns=Q (.int (ae ns)) H:=rfl
def px  : Sp:=λ vs H Q E=>∃ (p:Addr),vs=[.ref p]/\(az (av H p) (dP (kSz (K0 H Q))))
theorem jt  (p:Addr) (H:Hp) (Q:VK) (E:XK):px  [.ref p] H Q E=(az (av H p) (dP (kSz (K0 H Q)))):=mL (f:=λ (p:Addr)=>[.ref p]) (λ _ _ h=>by cases h;exact rfl) p
theorem xZ  {vs:List V}{H:Hp}{Q:VK}{E:XK}(h:px  vs H Q E):vs.length=1:=mG h λ _=>rfl
theorem gh(T:Tx K mg t):bL P w K mg base CX0 1 t.a_count_of t.d_count_of ["sizes"] px:=by
 refine T.F_count_of.ok fD (λ vs H Q E h=>xZ h) (λ c A o s H vs Q E hr h=>?_)
 ·obtain⟨p,rfl,h⟩:=h;obtain⟨xs,hp,ns,rfl,hs,k⟩:=ai h;replace hp:=bf hp;rw [qJ] at k;refine⟨_,%[%[1,fD,%[0|2]|4],%[%[OV,rfl,%[%[0|0]|20],%[2,fD|5],%[%[1,fD,%[DS,%[1|0],%[2|0]|11]|4]|10],(by intros;rfl)|21],%[%[%[1|0]|12]|10]|9]|9],?_⟩;rw [show aA ["sizes", "count", "size"] [.ref p]=[some (.ref p),none,none] from rfl];ac_rfl;refine cw (xs:=ns.map V.int) (λ i σ H'=>∃ v:Option V,σ=[some (.ref p),some (.int (ae (ns.take i))),v]/\H'=H) ⟨_,rfl,rfl⟩ (λ i σ H' _ ⟨_,_,e⟩=>by subst e;exact hp) ?_ ?_
  ·rintro i x _ _ hi ⟨v,rfl,rfl⟩;rw [OL] at hi;obtain⟨z,hz,rfl⟩:=OF.mp hi;have e:=hU ns i z hz;have b1:=(hs.take i).prod;have b2:=hs.2 z (OX hz)
   have c1:(ae (ns.take i)).natAbs < 2 ^ 256:=by
    generalize ae (ns.take i)=y at b1;have:(1000000000:Int) ^ 8 < 2 ^ 256:=by decide
    omega
   have c2:z.natAbs < 2 ^ 256:=by omega
   clear b1 b2;simp! only [↓ay,BI];exact⟨_,rfl⟩
  ·rintro _ _ ⟨v,rfl,rfl⟩;rw [OB,P6];ac_rfl
def lI  : Sp:=λ vs H Q E=>∃ (i:Int) (lo:Int) (hi:Int),vs=[.int i,.int lo,.int hi]/\(Q (.bl (decide (lo<=i) && decide (i<=hi))) H)
theorem kP  (i:Int) (lo:Int) (hi:Int) (H:Hp) (Q:VK) (E:XK):lI  [.int i,.int lo,.int hi] H Q E=(Q (.bl (decide (lo<=i) && decide (i<=hi))) H):=uc (f:=λ (i:Int) (lo:Int) (hi:Int)=>[.int i,.int lo,.int hi]) (λ _ _ _ _ _ _ h=>by cases h;exact⟨rfl,rfl,rfl⟩) i lo hi
theorem tu  {vs:List V}{H:Hp}{Q:VK}{E:XK}(h:lI  vs H Q E):vs.length=3:=ud h λ _ _ _=>rfl
theorem iw(T:Tx K mg t):bL P w K mg base CX0 2 t.a_is_within t.d_is_within ["thing", "low", "high"] lI:=by
 have G_is_whole:=%[ed|41];refine T.F_is_within.ok qD (λ vs H Q E h=>tu h) (λ c A o s H vs Q E hr h=>?_)
 ·obtain⟨i,lo,hi,rfl,k⟩:=h;refine⟨_,%[%[%[%[is_whole,%[%[0|0]|1]|3],%[(@nz _ _ _ _ _ _ _ _ _ _ _ _ ui ui %[1|0] %[0|0] %[2|0] ∅)|35]|33]|12]|10],?_⟩;rw [show aA ["thing", "low", "high"] [.int i,.int lo,.int hi]=[some (.int i),some (.int lo),some (.int hi)] from rfl]
  by_cases h0:lo<=i
  ·rw [OG h0,RE] at k;simp! only [↓bO]
  ·rw [OM h0,QF] at k;simp! only [↓bO]
def uz  : Sp:=λ vs H Q E=>∃ (i:Int),vs=[.int i]/\(Q (.bl (decide (1<=i) && decide (i<=1000000000))) H)
theorem Bw  (i:Int) (H:Hp) (Q:VK) (E:XK):uz  [.int i] H Q E=(Q (.bl (decide (1<=i) && decide (i<=1000000000))) H):=mL (f:=λ (i:Int)=>[.int i]) (λ _ _ h=>by cases h;exact rfl) i
theorem AB  {vs:List V}{H:Hp}{Q:VK}{E:XK}(h:uz  vs H Q E):vs.length=1:=mG h λ _=>rfl
theorem sQ(T:Tx K mg t):bL P w K mg base CX0 3 t.a_is_size t.d_is_size ["thing"] uz:=by
 have G_is_within:=%[iw|41];refine T.F_is_size.ok yB (λ vs H Q E h=>AB h) (λ c A o s H vs Q E hr h=>?_)
 ·obtain⟨i,rfl,k⟩:=h;refine⟨_,%[%[%[is_within,%[%[0|0],%[%[0|2],%[(@lx _ _ (.int 1000000000) _ _ ∅ T.m_MOST_SIZE.choose_spec ⟨_,rfl⟩ ⋯)|1]|1]|1]|3]|12]|10],?_⟩;rw [show aA ["thing"] [.int i]=[some (.int i)] from rfl];simp! only [↓kP]
abbrev rY  (p:Addr) (H:Hp) (Q:VK) (E:XK):Prop:=∃ a:Int × Int,H p=some (.tup [.int a.1,.int a.2])/\1<=a.1/\a.1<=1000000000/\Q (.bl true) H
def uK  : Sp:=λ vs H Q E=>∃ (p:Addr),vs=[.ref p]/\(rY  p H Q E)
theorem BC  (p:Addr) (H:Hp) (Q:VK) (E:XK):uK  [.ref p] H Q E=(rY  p H Q E):=mL (f:=λ (p:Addr)=>[.ref p]) (λ _ _ h=>by cases h;exact rfl) p
theorem AM  {vs:List V}{H:Hp}{Q:VK}{E:XK}(h:uK  vs H Q E):vs.length=1:=mG h λ _=>rfl
theorem sR(T:Tx K mg t):bL P w K mg base CX0 4 t.a_is_axis t.d_is_axis ["thing"] uK:=by
 have G_is_size:=%[sQ|41];have G_is_whole:=%[ed|41];refine T.F_is_axis.ok yC (λ vs H Q E h=>AM h) (λ c A o s H vs Q E hr h=>?_)
 ·obtain⟨p,rfl,a,hp,h1,h2,k⟩:=h;refine⟨_,%[%[%[%[isinstance,cJ,%[%[0|0],%[(@eT _ _ (.ty "tuple") (.type "tuple") _ ∅ T.z_tuple nofun rfl ⋯ ⋯)|1]|1]|6],%[%[(dH hr.units),%[len,au,%[%[0|0]|1]|6],%[0|2],(ar _)|37],%[%[is_size,%[%[cp,%[0|0],%[0|2],(λ _ _=>rfl)|13]|1]|3],%[%[is_whole,%[%[cp,%[0|0],%[0|2],(λ _ _=>rfl)|13]|1]|3]|35]|33]|33]|33]|12]|10],?_⟩;rw [show aA ["thing"] [.ref p]=[some (.ref p)] from rfl];simp! only [↓Bw,↓bO]
abbrev rS  (p:Addr) (H:Hp) (Q:VK) (E:XK):Prop:=∃ a:Int × Int,H p=some (.tup [.int a.1,.int a.2])/\∀ (r:Addr) (H':Hp),H r=none->Ext H H'->H' r=some (.tup [.int (aP a).1,.int (aP a).2])->Q (.ref r) H'
def uE  : Sp:=λ vs H Q E=>∃ (p:Addr),vs=[.ref p]/\(rS  p H Q E)
theorem Bz  (p:Addr) (H:Hp) (Q:VK) (E:XK):uE  [.ref p] H Q E=(rS  p H Q E):=mL (f:=λ (p:Addr)=>[.ref p]) (λ _ _ h=>by cases h;exact rfl) p
theorem AH  {vs:List V}{H:Hp}{Q:VK}{E:XK}(h:uE  vs H Q E):vs.length=1:=mG h λ _=>rfl
theorem ou(T:Tx K mg t):bL P w K mg base CX0 1 t.a_kept_axis t.d_kept_axis ["axis"] uE:=by
 refine T.F_kept_axis.ok qC (λ vs H Q E h=>AH h) (λ c A o s H vs Q E hr h=>?_)
 ·obtain⟨p,rfl,a,hp,k⟩:=h;refine⟨_,%[%[%[%[%[cp,%[0|0],%[0|2],(λ _ _=>rfl)|13],%[(@zQ _ _ _ _ _ _ _ _ %[mQ,%[cp,%[0|0],%[0|2],(λ _ _=>rfl)|13],%[0|2],(ar _)|14] %[cp,%[0|0],%[0|2],(λ _ _=>rfl)|13] %[0|2])|1]|1]|19]|12]|10],?_⟩;rw [show aA ["axis"] [.ref p]=[some (.ref p)] from rfl];have e1:(aP a).1=a.1:=rfl
  by_cases h1:1 < a.1
  ·have e2:(aP a).2=a.2:=Pd h1;rw [e1,e2] at k;ac_rfl;exact λ r H' h e h'=>k r H' h e h'
  ·have e2:(aP a).2=0:=O2 h1;rw [e1,e2] at k;ac_rfl;exact λ r H' h e h'=>k r H' h e h'
abbrev rZ  (p:Addr) (H:Hp) (Q:VK) (E:XK):Prop:=∃ axs:List (Int × Int),bV H p (axL axs)/\fQ axs/\∀ H',Ext H H'->Q (.bl true) H'
def uL  : Sp:=λ vs H Q E=>∃ (p:Addr),vs=[.ref p]/\(rZ  p H Q E)
theorem BE  (p:Addr) (H:Hp) (Q:VK) (E:XK):uL  [.ref p] H Q E=(rZ  p H Q E):=mL (f:=λ (p:Addr)=>[.ref p]) (λ _ _ h=>by cases h;exact rfl) p
theorem AN  {vs:List V}{H:Hp}{Q:VK}{E:XK}(h:uL  vs H Q E):vs.length=1:=mG h λ _=>rfl
theorem qe(T:Tx K mg t):bL P w K mg base CX0 5 t.a_are_axes t.d_are_axes ["thing"] uL:=by
 have G_is_axis:=%[sR|41];refine T.F_are_axes.ok tZ (λ vs H Q E h=>AN h) (λ c A o s H vs Q E hr h=>?_)
 ·obtain⟨p,rfl,axs,⟨ys,hp,al⟩,ha,k⟩:=h;refine⟨_,%[%[%[%[isinstance,cJ,%[%[0|0],%[(@eT _ _ (.ty "list") (.type "list") _ ∅ T.z_list nofun rfl ⋯ ⋯)|1]|1]|6],%[%[ui,%[len,au,%[%[0|0]|1]|6],(@lx _ _ (.int 8) _ _ ∅ T.m_MOST_AXES.choose_spec ⟨_,rfl⟩ ⋯),(ar _)|37],%[%[all,(gF rfl),%[%[(["axis", "thing"]),(1),(aC (aa fq) ["thing"] rfl rfl nofun),rfl,%[%[0|0]|20],(λ C s₀ H₀ ex pn=>%[(0),_,(show List.Nodup (["axis", "thing"]:List Str) from by decide +kernel),rfl,(Or.inl rfl),%[0|7]|15]),(λ C s₀ H₀ ex pn=>(@aV _)),(λ C s₀ H₀ ex pn=>%[is_axis,%[%[0|0]|1]|3]),(by intros;rfl)|25]|1]|6]|35]|33]|33]|12]|10],?_⟩;rw [show aA ["thing"] [.ref p]=[some (.ref p)] from rfl];have hl:ys.length=axs.length:=by rw [al.1];unfold axL;rw [length_map]
  have hl8:(axs.length:Int)<=8:=by have:=ha.1;omega
  ac_rfl;refine bK ys (λ _=>true) (λ _=>.bl true) (λ z x H'=>x=z/\H' p=some (.lst ys)) (mR hp).1 (mR hp).2 (ag %[0|8]) ?_ ?_
  ·intro D z x H' N1 N0 hz hD e ⟨hx,_⟩ k1 _;subst hx;obtain⟨i,hi,rfl⟩:=Qw hz;have hi':i < axs.length:=by rw [←hl];exact hi
   obtain⟨q,hq1,hq2⟩:=al.2 i [axs[i].1,axs[i].2] ys[i] (by unfold axL;rw [getElem?_map,getElem?_eq_getElem hi'];rfl) (getElem?_eq_getElem hi);have hb:=ha.2 _ (getElem_mem hi');have k1':=k1 rfl H' (Ext.refl _);have hq3:=e.at hq2;rw [hq1];clear k1 k hp al;simp! only [↓bh,↓ba];rw [BC];exact⟨axs[i],hq3,hb.1,hb.2,k1'⟩
  ·intro D H' hD e hD';have hD2:H' D=some (.lst ((ys.map λ _=>true).map V.bl)):=by rw [hD',jX,PF];rfl
   have e2:((ys.map λ _=>true).all id)=true:=by rw [all_map];simp
   have k2:=k H' e;clear k hD';ac_rfl
theorem gi{zs:List (List Int)}{ys:List V}{H:Hp}(al:Al (dc H) zs ys){i:Nat}{y:V}(h:ys[i]? = some y):∃ z,zs[i]? = some z/\dc H z y:=by
 have hi:i < ys.length:=(Oy.mp h).1;have hz:zs[i]? = some (zs[i]'(by rw [←al.1];exact hi)):=Ow _;exact⟨_,hz,al.2 i _ y hz h⟩
def va(x:V)(b:Int)(H:Hp)(Q:VK):Bool->Prop:=λ _=>Q (.bl (cM x b)) H
theorem lF(x:V)(b:Int)(H:Hp)(Q:VK)(c:Bool):va x b H Q c=Q (.bl (cM x b)) H:=rfl
def pC  : Sp:=λ vs H Q E=>∃ (x:V) (b:Int),vs=[x,.int b]/\(az (isW H x) (va x b H Q))
theorem nQ  (x:V) (b:Int) (H:Hp) (Q:VK) (E:XK):pC  [x,.int b] H Q E=(az (isW H x) (va x b H Q)):=jV (f:=λ (x:V) (b:Int)=>[x,.int b]) (λ _ _ _ _ h=>by cases h;exact⟨rfl,rfl⟩) x b
theorem ya  {vs:List V}{H:Hp}{Q:VK}{E:XK}(h:pC  vs H Q E):vs.length=2:=jW h λ _ _=>rfl
theorem du(T:Tx K mg t):bL P w K mg base CX0 2 t.a_is_number_below t.d_is_number_below ["thing", "bound"] pC:=by
 have G_is_whole:=%[ed|41];refine T.F_is_number_below.ok il (λ vs H Q E h=>ya h) (λ c A o s H vs Q E hr h=>?_)
 ·obtain⟨x,b,rfl,h⟩:=h;obtain⟨c,hw,k⟩:=ai h;rw [lF] at k;refine⟨_,%[%[%[%[is_whole,%[%[0|0]|1]|3],%[(@nz _ _ _ _ _ _ _ _ _ _ _ _ ui oV %[0|2] %[0|0] %[1|0] ∅)|35]|33]|12]|10],?_⟩;rw [show aA ["thing", "bound"] [x,.int b]=[some (x),some (.int b)] from rfl]
  cases x with
  | int i=>
   cases hw;have k':Q (.bl (decide (0<=i) && decide (i < b))) H:=k;clear k h
   by_cases h0:0<=i
   ·rw [OG h0,RE] at k';simp! only [↓bO]
   ·rw [OM h0,QF] at k';simp! only [↓bO]
  | bl i=>cases hw;have k':Q (.bl false) H:=k;clear k h;simp! only [↓bO]
  | non=>cases hw;have k':Q (.bl false) H:=k;clear k h;simp! only [↓bO]
  | str i=>cases hw;have k':Q (.bl false) H:=k;clear k h;simp! only [↓bO]
  | ref p=>
   obtain⟨rfl,o,ho,ht⟩:=gR hw;have k':Q (.bl false) H:=k;clear k h;simp! only [↓bO]
  | _=>cases hw
def kPl(x:V)(H:Hp)(Q:VK):List Int->Prop:=λ ns=>br H x/\∀ H',Ext H H'->Q (.bl (bu ns x H)) H'
theorem uf(x:V)(H:Hp)(Q:VK)(ns:List Int):kPl x H Q ns=(br H x/\∀ H',Ext H H'->Q (.bl (bu ns x H)) H'):=rfl
def jh  : Sp:=λ vs H Q E=>∃ (p:Addr) (x:V),vs=[.ref p,x]/\(az (av H p) (dP (kSz (kPl x H Q))))
theorem c9  (p:Addr) (x:V) (H:Hp) (Q:VK) (E:XK):jh  [.ref p,x] H Q E=(az (av H p) (dP (kSz (kPl x H Q)))):=jV (f:=λ (p:Addr) (x:V)=>[.ref p,x]) (λ _ _ _ _ h=>by cases h;exact⟨rfl,rfl⟩) p x
theorem qv  {vs:List V}{H:Hp}{Q:VK}{E:XK}(h:jh  vs H Q E):vs.length=2:=jW h λ _ _=>rfl
theorem qd(T:Tx K mg t):bL P w K mg base CX0 3 t.a_is_place t.d_is_place ["sizes", "thing"] jh:=by
 have G_is_number_below:=%[du|41];refine T.F_is_place.ok tY (λ vs H Q E h=>qv h) (λ c A o s H vs Q E hr h=>?_)
 ·obtain⟨p,x,rfl,h⟩:=h;obtain⟨xs0,hp,ns,rfl,hs,hk,k⟩:=ai h;replace hp:=bf hp;refine⟨_,%[%[(PW.pt %[%[%[%[isinstance,cJ,%[%[1|0],%[(@eT _ _ (.ty "tuple") (.type "tuple") _ ∅ T.z_tuple nofun rfl ⋯ ⋯)|1]|1]|6],(by intros;rfl)|28]|30],(@gv _ _ _ _ %[(cS hr.units),%[len,au,%[%[1|0]|1]|6],%[len,au,%[%[0|0]|1]|6],(ar _)|14])|36]),%[%[(@cN _ _ _ _)|12]|10],(@ak _)|17],%[%[%[all,(gF rfl),%[%[(["number", "size", "sizes", "thing"]),(2),(aC (aa fm) ["sizes", "thing"] rfl rfl nofun),rfl,(@mW _ _ _ _ _ _ _ _ _ ∅ T.z_zip %[%[1|0],%[%[0|0]|1]|1] ∅ ∅),(λ C s₀ H₀ ex pn=>(%[(2),rfl,%[%[(0),_,(show List.Nodup (["number", "size", "sizes", "thing"]:List Str) from by decide +kernel),rfl,(Or.inl rfl),%[0|7]|15],%[%[(1),_,(show List.Nodup (["number", "size", "sizes", "thing"]:List Str) from by decide +kernel),rfl,(Or.inl rfl),%[0|7]|15],(@aT _),∅|18],∅|18],∅,∅|26].mono λ _ _ _ _ h=>cH h)),(λ C s₀ H₀ ex pn=>(@aV _)),(λ C s₀ H₀ ex pn=>%[is_number_below,%[%[0|0],%[%[1|0]|1]|1]|3]),(by intros;rfl)|25]|1]|6]|12]|10]|9],?_⟩;rw [show aA ["sizes", "thing"] [.ref p,x]=[some (.ref p),some (x)] from rfl]
  cases x with
  | int i=>have k':Q (.bl false) H:=k H (Ext.refl _);clear k h;ac_rfl
  | bl i=>have k':Q (.bl false) H:=k H (Ext.refl _);clear k h;ac_rfl
  | non=>have k':Q (.bl false) H:=k H (Ext.refl _);clear k h;ac_rfl
  | str i=>have k':Q (.bl false) H:=k H (Ext.refl _);clear k h;ac_rfl
  | ref q=>
   obtain⟨b,hb⟩:=PN.mp hk.1;obtain⟨rfl,o,ho,ht⟩:=gR hb;have hpf:bu ns (.ref q) H=fG ns (some o):=by rw [←ho];rfl
   rw [hpf] at k;clear hpf h hb
   cases o with
   | tup xs=>
    by_cases hl:xs.length=ns.length
    ·have hpl:fG ns (some (.tup xs))=(xs.zip ns).all λ p=>cM p.1 p.2:=by show (decide _ && _)=_;rw [OG hl,RE]
     rw [hpl] at k;clear hpl ht;ac_rfl;refine bK (xs.zip (ns.map V.int)) (λ _=>true) (λ z=>.bl (cM z.1 (vi z.2))) Ca (km (ka:=true) (kb:=false) ho hp).1 (km (ka:=true) (kb:=false) ho hp).2 (of_eq_true (Hg _ (by have:=hs.1;rw [Rg,OB];omega))) ?_ ?_
     ·intro D z y H' N1 N0 hz hD e ⟨r,hr',hr2⟩ k1 _;subst hr';obtain⟨x0,n0⟩:=z;have hm:=QS hz;obtain⟨n,_,rfl⟩:=OO.mp hm.2;obtain⟨c,hc⟩:=PN.mp (hk.2 q xs rfl ho x0 hm.1);have hc':=pL e hc;have k1':=k1 rfl H' (Ext.refl _);rw [show vi (V.int n,()).1=n from rfl] at k1';clear k1 k hc hm hz;simp! only [↓dw,↓ba,↓nQ,↓lF]
     ·intro D H' hD e hD'
      have hD2:H' D=some (.lst (((xs.zip ns).map λ p=>cM p.1 p.2).map V.bl)):=by
       rw [hD',jX,Mt,PF,PF];rfl
      have k2:=k H' e;have e2:(((xs.zip ns).map λ p=>cM p.1 p.2).all id)=(xs.zip ns).all λ p=>cM p.1 p.2:=by rw [all_map];rfl
      clear k hD';ac_rfl
    ·have hpl:fG ns (some (.tup xs))=false:=by show (decide _ && _)=_;rw [OM hl,QF]
     rw [hpl] at k;have k':=k H (Ext.refl _);have hl':¬ ((xs.length:Int)=(ns.length:Int)):=by omega
     clear k hpl;ac_rfl
   | lst xs=>have k':Q (.bl false) H:=k H (Ext.refl _);clear k;ac_rfl
   | dK xs=>have k':Q (.bl false) H:=k H (Ext.refl _);clear k;ac_rfl
   | dT xs=>have k':Q (.bl false) H:=k H (Ext.refl _);clear k ht;have ht:tyO (.dT xs)=some "dict":=rfl;ac_rfl
   | frz ob u=>
    cases u with
    | lst ys=>have k':Q (.bl false) H:=k H (Ext.refl _);clear k ht;have ht:tyO (.frz ob (.lst ys))=some "list":=rfl;ac_rfl
    | _=>rcases ht with ht|ht|ht<;>cases ht
   | _=>rcases ht with ht|ht|ht<;>cases ht
  | _=>cases hk.1
def Gw(x:Int)(H:Hp)(Q:VK):List Int->Prop:=λ ns=>∀ (r:Addr) (H':Hp),H r=none->Ext H H'->H' r=some (.tup ((ao ns x).map V.int))->Q (.ref r) H'
theorem qI(x:Int)(H:Hp)(Q:VK)(ns:List Int):Gw x H Q ns=∀ (r:Addr) (H':Hp),H r=none->Ext H H'->H' r=some (.tup ((ao ns x).map V.int))->Q (.ref r) H':=rfl
def pf  : Sp:=λ vs H Q E=>∃ (p:Addr) (x:Int),vs=[.ref p,.int x]/\(az (av H p) (dP (kSz (Gw x H Q))))
theorem nN  (p:Addr) (x:Int) (H:Hp) (Q:VK) (E:XK):pf  [.ref p,.int x] H Q E=(az (av H p) (dP (kSz (Gw x H Q)))):=jV (f:=λ (p:Addr) (x:Int)=>[.ref p,.int x]) (λ _ _ _ _ h=>by cases h;exact⟨rfl,rfl⟩) p x
theorem xT  {vs:List V}{H:Hp}{Q:VK}{E:XK}(h:pf  vs H Q E):vs.length=2:=jW h λ _ _=>rfl
theorem ff(T:Tx K mg t):bL P w K mg base CX0 1 t.a_split_number t.d_split_number ["sizes", "number"] pf:=by
 refine T.F_split_number.ok bP (λ vs H Q E h=>xT h) (λ c A o s H vs Q E hr h=>?_)
 ·obtain⟨p,x,rfl,h⟩:=h;obtain⟨xs,hp,ns,rfl,hs,k⟩:=ai h;replace hp:=bf hp;rw [qI] at k;refine⟨_,%[%[2,bP,%[(@bw _)|16]|4],%[%[3,bP,%[1|0]|4],%[%[OV,rfl,(@HN _ _ _ _ _ _ ∅ T.z_reversed %[%[0|0]|1] ∅),%[4,bP|5],%[%[%[O4,Pu,Pt,b9,%[2|0],%[%[iV,%[3|0],%[4|0]|11]|1],∅,∅,∅,∅,∅|34],∅|27],%[%[3,bP,%[iZ,%[3|0],%[4|0]|11]|4]|10]|9],(by intros;rfl)|21],%[%[(@HW _ _ _ _ _ _ _ _ _ O4 PySem.F.slot_list_reverse PySem.F.type_list_reverse sS %[2|0] ∅ ∅),∅|27],%[%[%[gk,∅,T.z_tuple,nofun,%[%[2|0]|1],⋯,⋯,∅,∅|38]|12]|10]|9]|9]|9]|9],?_⟩;rw [show aA ["sizes", "number", "place", "left", "size"] [.ref p,.int x]=[some (.ref p),some (.int x),none,none,none] from rfl];ac_rfl;intro r H1 hr1 e1 h1;have hrp:r ≠ p:=λ z=>by rw [z,hp] at hr1;cases hr1
  have hp1:=e1.at hp
  try ac_rfl
  refine FQ (xs:=ns.map V.int) (λ i σ H'=>∃ v:Option V,σ=[some (.ref p),some (.int x),some (.ref r),some (.int (x / ae (ns.drop (ns.length - i)))),v]/\Ext H H'/\H' r=some (.lst ((ao (ns.drop (ns.length - i)) x).reverse.map V.int))) ⟨none,by simp [ae],e1,by simpa [ao] using h1⟩ (λ i σ H' _ ⟨_,_,e,_⟩=>SqL.of (e.at hp)) ?_ ?_
  ·rintro i y _ H2 hi hx ⟨v,rfl,e2,h2⟩;rw [OB] at hi hx;rw [OL] at hx;obtain⟨z,hz,rfl⟩:=OF.mp hx;have b1:=(hs.drop (ns.length - i)).prod;have b2:=hs.2 z (OX hz);have e:=xP ns x i z hi hz %[0|8];have e':=pW ns x i z hi hz
   have hln:((ao (ns.drop (ns.length - i)) x).reverse).length < sizeLine:=by
    rw [List.length_reverse,bp];exact of_eq_true (L0 _ (by have:=hs.1;simp;omega))
   have z0:0 < z:=by omega
   have z1:z < 1073741824:=by omega
   clear b1 b2;simp! only [↓ay];exact⟨_,rfl,e2.put hr1,by rw [Pz];rfl⟩
  ·rintro _ H2 ⟨v,rfl,e2,h2⟩;rw [OB,Nat.sub_self,List.drop_zero] at h2;ac_rfl;intro q H3 hq e3 h3;exact k q H3 ((e2.put hr1).free hq) ((e2.put hr1).trans e3) (by rw [h3,←List.map_reverse,List.reverse_reverse])
def jg  : Sp:=λ vs H Q E=>∃ (p:Addr) (i:Int),vs=[.ref p,.int i]/\(∃ ns:List Int,H p=some (.lst (ns.map V.int))/\eK ns/\0<=i/\i < ae ns/\Gw i H Q ns)
theorem jF  (p:Addr) (i:Int) (H:Hp) (Q:VK) (E:XK):jg  [.ref p,.int i] H Q E=(∃ ns:List Int,H p=some (.lst (ns.map V.int))/\eK ns/\0<=i/\i < ae ns/\Gw i H Q ns):=jV (f:=λ (p:Addr) (i:Int)=>[.ref p,.int i]) (λ _ _ _ _ h=>by cases h;exact⟨rfl,rfl⟩) p i
theorem qu  {vs:List V}{H:Hp}{Q:VK}{E:XK}(h:jg  vs H Q E):vs.length=2:=jW h λ _ _=>rfl
theorem pZ(T:Tx K mg t):bL P w K mg base CX0 3 t.a_place_at t.d_place_at ["sizes", "number"] jg:=by
 have G_count_of:=%[gh|41];have G_is_number_below:=%[du|41];have G_split_number:=%[ff|41];refine T.F_place_at.ok tW (λ vs H Q E h=>qu h) (λ c A o s H vs Q E hr h=>?_)
 ·obtain⟨p,i,rfl,ns,hp,hs,i0,i1,k1⟩:=h
  have hbf:cM (.int i) (ae ns)=true:=by
   show (decide (0<=i) && decide (i < ae ns))=true
   rw [OG i0,OG i1];rfl
  refine⟨_,%[%[%[%[%[is_number_below,%[%[1|0],%[%[count_of,%[%[0|0]|1]|3]|1]|1]|3],(by intros;rfl)|28]|30],%[(@dU _ _)|10],(@ak _)|17],%[%[%[split_number,%[%[0|0],%[%[1|0]|1]|1]|3]|12]|10]|9],?_⟩;rw [show aA ["sizes", "number"] [.ref p,.int i]=[some (.ref p),some (.int i)] from rfl];simp! only [↓jt,↓j6,↓qJ,↓nQ,↓lF,↓nN]
abbrev rQ(cT:Addr)(n:Int)(H:Hp)(Q:VK)(E:XK):Prop:=(n<=4096->Q .non H)/\¬ 4096 < n
def uC(cT:Addr):Sp:=λ vs H Q E=>∃ (n:Int),vs=[.int n]/\(rQ cT n H Q E)
theorem rJ(cT:Addr)(n:Int)(H:Hp)(Q:VK)(E:XK):uC cT [.int n] H Q E=(rQ cT n H Q E):=mL (f:=λ (n:Int)=>[.int n]) (λ _ _ h=>by cases h;exact rfl) n
theorem AF(cT:Addr){vs:List V}{H:Hp}{Q:VK}{E:XK}(h:uC cT vs H Q E):vs.length=1:=mG h λ _=>rfl
theorem fK(T:Tx K mg t):bL P w K mg base CX0 3 t.a_refuse_long t.d_refuse_long ["count"] (uC t.a_TooMany):=by
 refine T.F_refuse_long.ok mF (λ vs H Q E h=>AF _ h) (λ c A o s H vs Q E hr h=>?_)
 ·obtain⟨n,rfl,k1,hn⟩:=h;refine⟨_,%[%[%[mQ,%[0|0],(@lx _ _ (.int 4096) _ _ ∅ T.m_MOST_TOLD.choose_spec ⟨_,rfl⟩ ⋯),(ar _)|14],%[(@dU _ _)|10],(@ak _)|17]|10],?_⟩;rw [show aA ["count"] [.int n]=[some (.int n)] from rfl];have k1':=k1 %[0|8];clear k1;ac_rfl
theorem MU(x:Int):min 0 x=if x < 0 then x else 0:=by split<;>omega
theorem MV(x:Int):max 0 x=if 0 < x then x else 0:=by split<;>omega
structure aG(C:Addr)(H:Hp)(v:Addr)(room first:Int)(axs:List (Int × Int)):Prop where
 ob:∃ dx l,H v=some (.ins C dx (eI room first l))/\bV H l (axL axs)
theorem aG.ext{C:Addr}{H H':Hp}{v:Addr}{room first:Int}{axs:List (Int × Int)}(h:aG C H v room first axs)(e:Ext H H'):aG C H' v room first axs:=by
 obtain⟨dx,l,h1,h2⟩:=h.ob;exact⟨⟨dx,l,e.at h1,h2.ext e⟩⟩
theorem CC{m:Str}(h:m∈([("sizes":Str), "paces", "count", "cell", "cell_at", "cells", "least", "greatest"]:List Str)):¬ m = "axes" /\ ¬ m = "first" /\ ¬ m = "room":=by
 revert m
 decide +kernel
theorem vn(room first:Int)(l:Addr){m:Str}(h:m∈([("sizes":Str), "paces", "count", "cell", "cell_at", "cells", "least", "greatest"]:List Str)):(eI room first l).lookup m=none:=zu room first l (CC h).1 (CC h).2.1 (CC h).2.2
theorem Mn{H:Hp}{axs:List (Int × Int)}{ys:List V}(al:Al (dc H) (axL axs) ys){i:Nat}{y:V}(h:ys[i]? = some y):∃ a q,axs[i]? = some a/\y=.ref q/\H q=some (.tup [.int a.1,.int a.2]):=by
 obtain⟨z,hz,q,hq,hq2⟩:=gi al h;unfold axL at hz;rw [getElem?_map] at hz;obtain⟨a,ha,rfl⟩:=Option.map_eq_some_iff.mp hz;exact⟨a,q,ha,hq,hq2⟩
abbrev oa(C:Addr)(v:Addr)(H:Hp)(Q:VK)(E:XK):Prop:=∃ (room first:Int) (axs:List (Int × Int)),aG C H v room first axs/\fQ axs/\∀ H',Ext H H'->Q (.int (first+aR axs)) H'
def lq(C:Addr):Sp:=λ vs H Q E=>∃ (v:Addr),vs=[.ref v]/\(oa C v H Q E)
theorem yA(C:Addr)(v:Addr)(H:Hp)(Q:VK)(E:XK):lq C [.ref v] H Q E=(oa C v H Q E):=mL (f:=λ (v:Addr)=>[.ref v]) (λ _ _ h=>by cases h;exact rfl) v
theorem xX(C:Addr){vs:List V}{H:Hp}{Q:VK}{E:XK}(h:lq C vs H Q E):vs.length=1:=mG h λ _=>rfl
theorem mq(T:Tx K mg t):bL P w K mg base CX0 1 t.a_View_least t.d_View_least ["self"] (lq t.a_View):=by
 refine T.F_View_least.ok oO (λ vs H Q E h=>xX _ h) (λ c A o s H vs Q E hr h=>?_)
 ·obtain⟨v,rfl,room,first,axs,vo,hax,k⟩:=h;obtain⟨dx,l,hv,ys,hl,al⟩:=vo.ob;have c1:=T.cl_View;have c2:=T.na_View_first;have c3:=T.na_View_axes
  have f1:=dX room first l
  have f2:=cx room first l
  refine⟨_,%[%[%[aK,%[%[0|0],rfl|31],%[sum,(gD rfl),%[%[(["size", "pace", "self"]),(2),(aC (aa dm) ["self"] rfl rfl nofun),rfl,%[%[%[0|0],rfl|31]|20],(λ C s₀ H₀ ex pn=>(%[(2),rfl,%[%[(0),_,(show List.Nodup (["size", "pace", "self"]:List Str) from by decide +kernel),rfl,(Or.inl rfl),%[0|7]|15],%[%[(1),_,(show List.Nodup (["size", "pace", "self"]:List Str) from by decide +kernel),rfl,(Or.inl rfl),%[0|7]|15],(@aT _),∅|18],∅|18],∅,∅|26].mono λ _ _ _ _ h=>cH h)),(λ C s₀ H₀ ex pn=>(@aV _)),(λ C s₀ H₀ ex pn=>%[min,(nM rfl),%[%[0|2],%[%[dI,%[eQ,%[0|0],%[0|2]|11],%[1|0]|11]|1]|1]|6]),(by intros;rfl)|25]|1]|6]|11]|12]|10],?_⟩;rw [show aA ["self"] [.ref v]=[some (.ref v)] from rfl];ac_rfl;have wk:=gq (K:=K) (R:=axP) (λ _ _ _ _ h e=>h.ext e) hl (iW al);refine bK axs (λ _=>true) (λ a=>.int (min 0 ((a.1 - 1) * a.2))) axP wk.1 wk.2 (ag (by have:=hax.1;omega)) ?_ ?_
  ·intro D a x H' N1 N0 ha hD e ⟨q,hx,hq⟩ k1 _;subst hx;have hb:=hax.2 a ha;have k1':=k1 rfl H' (Ext.refl _);have hcm:mK (a.1 - 1) a.2:=.inl ⟨by omega,by omega⟩;rw [MU] at k1';clear k1 k;simp! only [↓dw,↓ba]
  ·intro D H' hD e hD';have hD2:H' D=some (.lst ((axs.map λ a=>min 0 ((a.1 - 1) * a.2)).map V.int)):=by rw [hD',jX,PF];rfl
   have k2:Q (.int (first+(axs.map λ a=>min 0 ((a.1 - 1) * a.2)).sum)) H':=k H' e;clear k hD';ac_rfl
abbrev iy(C:Addr)(v:Addr)(H:Hp)(Q:VK)(E:XK):Prop:=∃ (room first:Int) (axs:List (Int × Int)),aG C H v room first axs/\fQ axs/\∀ H',Ext H H'->Q (.int (first+aH axs)) H'
def gU(C:Addr):Sp:=λ vs H Q E=>∃ (v:Addr),vs=[.ref v]/\(iy C v H Q E)
theorem oK(C:Addr)(v:Addr)(H:Hp)(Q:VK)(E:XK):gU C [.ref v] H Q E=(iy C v H Q E):=mL (f:=λ (v:Addr)=>[.ref v]) (λ _ _ h=>by cases h;exact rfl) v
theorem oG(C:Addr){vs:List V}{H:Hp}{Q:VK}{E:XK}(h:gU C vs H Q E):vs.length=1:=mG h λ _=>rfl
theorem iE(T:Tx K mg t):bL P w K mg base CX0 1 t.a_View_greatest t.d_View_greatest ["self"] (gU t.a_View):=by
 refine T.F_View_greatest.ok jR (λ vs H Q E h=>oG _ h) (λ c A o s H vs Q E hr h=>?_)
 ·obtain⟨v,rfl,room,first,axs,vo,hax,k⟩:=h;obtain⟨dx,l,hv,ys,hl,al⟩:=vo.ob;have c1:=T.cl_View;have c2:=T.na_View_first;have c3:=T.na_View_axes
  have f1:=dX room first l
  have f2:=cx room first l
  refine⟨_,%[%[%[aK,%[%[0|0],rfl|31],%[sum,(gD rfl),%[%[(["size", "pace", "self"]),(2),(aC (aa cj) ["self"] rfl rfl nofun),rfl,%[%[%[0|0],rfl|31]|20],(λ C s₀ H₀ ex pn=>(%[(2),rfl,%[%[(0),_,(show List.Nodup (["size", "pace", "self"]:List Str) from by decide +kernel),rfl,(Or.inl rfl),%[0|7]|15],%[%[(1),_,(show List.Nodup (["size", "pace", "self"]:List Str) from by decide +kernel),rfl,(Or.inl rfl),%[0|7]|15],(@aT _),∅|18],∅|18],∅,∅|26].mono λ _ _ _ _ h=>cH h)),(λ C s₀ H₀ ex pn=>(@aV _)),(λ C s₀ H₀ ex pn=>%[max,(gE rfl),%[%[0|2],%[%[dI,%[eQ,%[0|0],%[0|2]|11],%[1|0]|11]|1]|1]|6]),(by intros;rfl)|25]|1]|6]|11]|12]|10],?_⟩;rw [show aA ["self"] [.ref v]=[some (.ref v)] from rfl];ac_rfl;have wk:=gq (K:=K) (R:=axP) (λ _ _ _ _ h e=>h.ext e) hl (iW al);refine bK axs (λ _=>true) (λ a=>.int (max 0 ((a.1 - 1) * a.2))) axP wk.1 wk.2 (ag (by have:=hax.1;omega)) ?_ ?_
  ·intro D a x H' N1 N0 ha hD e ⟨q,hx,hq⟩ k1 _;subst hx;have hb:=hax.2 a ha;have k1':=k1 rfl H' (Ext.refl _);have hcm:mK (a.1 - 1) a.2:=.inl ⟨by omega,by omega⟩;rw [MV] at k1';clear k1 k;simp! only [↓dw,↓ba]
  ·intro D H' hD e hD';have hD2:H' D=some (.lst ((axs.map λ a=>max 0 ((a.1 - 1) * a.2)).map V.int)):=by rw [hD',jX,PF];rfl
   have k2:Q (.int (first+(axs.map λ a=>max 0 ((a.1 - 1) * a.2)).sum)) H':=k H' e;clear k hD';ac_rfl
def MX(H:Hp)(Q:VK)(f:Int × Int->Int)(axs:List (Int × Int)):Prop:=∀ (r:Addr) (H':Hp),H r=none->Ext H H'->H' r=some (.lst ((axs.map f).map V.int))->Q (.ref r) H'
abbrev kR(C:Addr)(v:Addr)(H:Hp)(Q:VK)(E:XK):Prop:=∃ (room first:Int) (axs:List (Int × Int)),aG C H v room first axs/\axs.length<=8/\MX H Q (λ a=>a.1) axs
def lJ(C:Addr):Sp:=λ vs H Q E=>∃ (v:Addr),vs=[.ref v]/\(kR C v H Q E)
theorem cA(C:Addr)(v:Addr)(H:Hp)(Q:VK)(E:XK):lJ C [.ref v] H Q E=(kR C v H Q E):=mL (f:=λ (v:Addr)=>[.ref v]) (λ _ _ h=>by cases h;exact rfl) v
theorem tE(C:Addr){vs:List V}{H:Hp}{Q:VK}{E:XK}(h:lJ C vs H Q E):vs.length=1:=mG h λ _=>rfl
theorem cg(T:Tx K mg t):bL P w K mg base CX0 1 t.a_View_sizes t.d_View_sizes ["self"] (lJ t.a_View):=by
 refine T.F_View_sizes.ok oN (λ vs H Q E h=>tE _ h) (λ c A o s H vs Q E hr h=>?_)
 ·obtain⟨v,rfl,room,first,axs,vo,hax,k⟩:=h;obtain⟨dx,l,hv,ys,hl,al⟩:=vo.ob;have c1:=T.cl_View;have c3:=T.na_View_axes
  have f2:=cx room first l
  refine⟨_,%[%[%[(["size", "pace", "self"]),(2),(aC (aa dk) ["self"] rfl rfl nofun),rfl,%[%[%[0|0],rfl|31]|20],(λ C s₀ H₀ ex pn=>(%[(2),rfl,%[%[(0),_,(show List.Nodup (["size", "pace", "self"]:List Str) from by decide +kernel),rfl,(Or.inl rfl),%[0|7]|15],%[%[(1),_,(show List.Nodup (["size", "pace", "self"]:List Str) from by decide +kernel),rfl,(Or.inl rfl),%[0|7]|15],(@aT _),∅|18],∅|18],∅,∅|26].mono λ _ _ _ _ h=>cH h)),(λ C s₀ H₀ ex pn=>(@aV _)),(λ C s₀ H₀ ex pn=>%[0|0]),(by intros;rfl)|25]|12]|10],?_⟩;rw [show aA ["self"] [.ref v]=[some (.ref v)] from rfl];ac_rfl;have wk:=gq (K:=K) (R:=axP) (λ _ _ _ _ h e=>h.ext e) hl (iW al);refine bK axs (λ _=>true) (λ a=>.int a.1) axP wk.1 wk.2 (ag %[0|8]) ?_ ?_
  ·intro D a x H' N1 N0 ha hD e ⟨q,hx,hq⟩ k1 _;subst hx;have k1':=k1 rfl H' (Ext.refl _);clear k1 k;simp! only [↓dw,↓ba]
  ·intro D H' hD e hD';exact k D H' hD e (by rw [hD',jX,PF];rfl)
abbrev t7(C:Addr)(v:Addr)(H:Hp)(Q:VK)(E:XK):Prop:=∃ (room first:Int) (axs:List (Int × Int)),aG C H v room first axs/\axs.length<=8/\MX H Q (λ a=>a.2) axs
def Kn(C:Addr):Sp:=λ vs H Q E=>∃ (v:Addr),vs=[.ref v]/\(t7 C v H Q E)
abbrev kS(C:Addr)(v:Addr)(H:Hp)(Q:VK)(E:XK):Prop:=∃ (room first:Int) (axs:List (Int × Int)),aG C H v room first axs/\fQ axs/\∀ H',Ext H H'->Q (.int (ae (axs.map λ a=>a.1))) H'
def lK(C:Addr):Sp:=λ vs H Q E=>∃ (v:Addr),vs=[.ref v]/\(kS C v H Q E)
theorem tQ(C:Addr)(v:Addr)(H:Hp)(Q:VK)(E:XK):lK C [.ref v] H Q E=(kS C v H Q E):=mL (f:=λ (v:Addr)=>[.ref v]) (λ _ _ h=>by cases h;exact rfl) v
theorem tF(C:Addr){vs:List V}{H:Hp}{Q:VK}{E:XK}(h:lK C vs H Q E):vs.length=1:=mG h λ _=>rfl
theorem mr(T:Tx K mg t):bL P w K mg base CX0 2 t.a_View_count t.d_View_count ["self"] (lK t.a_View):=by
 have G_View_sizes:=%[cg|41];have G_count_of:=%[gh|41];refine T.F_View_count.ok oP (λ vs H Q E h=>tF _ h) (λ c A o s H vs Q E hr h=>?_)
 ·obtain⟨v,rfl,room,first,axs,vo,hax,k⟩:=h;obtain⟨dx,l,hv,_⟩:=vo.ob
  have f3:=vn room first l (m := "sizes") nofun
  refine⟨_,%[%[%[count_of,%[%[%[0|0],T.cl_View,T.mt_View_sizes,G_View_sizes,(hr.mono ⋯),T.b_View_sizes,.nil,eJ,∅|32]|1]|3]|12]|10],?_⟩;rw [show aA ["self"] [.ref v]=[some (.ref v)] from rfl];ac_rfl;rw [cA];refine⟨room,first,axs,vo,hax.1,λ r H' hr' e h'=>?_⟩;have k':=k H' e;have hsz:=hax.sizes;clear k;simp! only [↓jt,↓j6,↓qJ]
def pd(C:Addr):Sp:=λ vs H Q E=>∃ (x:Addr) (room:Int) (first:Int) (l:Addr),vs=[.ref x,.int room,.int first,.ref l]/\(∃ (dx:Addr) (axs:List (Int × Int)),H x=some (.ins C dx [])/\bV H l (axL axs)/\qT room first axs/\∀ (H':Hp) (D:Addr),(∀ H0,Ext H0 H->H0 x=none->Ext H0 H')->H D=none->H' x=some (.ins C dx (eI room first D))->bV H' D (axL (axs.map aP))->Q .non H')
theorem js(C:Addr)(x:Addr)(room:Int)(first:Int)(l:Addr)(H:Hp)(Q:VK)(E:XK):pd C [.ref x,.int room,.int first,.ref l] H Q E=(∃ (dx:Addr) (axs:List (Int × Int)),H x=some (.ins C dx [])/\bV H l (axL axs)/\qT room first axs/\∀ (H':Hp) (D:Addr),(∀ H0,Ext H0 H->H0 x=none->Ext H0 H')->H D=none->H' x=some (.ins C dx (eI room first D))->bV H' D (axL (axs.map aP))->Q .non H'):=MG (f:=λ (x:Addr) (room:Int) (first:Int) (l:Addr)=>[.ref x,.int room,.int first,.ref l]) (λ _ _ _ _ _ _ _ _ h=>by cases h;exact⟨rfl,rfl,rfl,rfl⟩) x room first l
theorem xR(C:Addr){vs:List V}{H:Hp}{Q:VK}{E:XK}(h:pd C vs H Q E):vs.length=4:=MH h λ _ _ _ _=>rfl
theorem eG(T:Tx K mg t):bL P w K mg base CX0 6 t.a_View___init__ t.d_View___init__ ["self", "room", "first", "axes"] (pd t.a_View):=by
 have G_is_within:=%[iw|41];have G_is_whole:=%[ed|41];have G_are_axes:=%[qe|41];have G_kept_axis:=%[ou|41];have G_View_least:=%[mq|41];have G_View_greatest:=%[iE|41];refine T.F_View___init__.ok jS (λ vs H Q E h=>xR _ h) (λ c A o s H vs Q E hr h=>?_)
 ·obtain⟨x,room,first,l,rfl,dx,axs,hx,tl,vok,k⟩:=h;have c1:=T.cl_View;have c2:=T.na_View_first;have c3:=T.na_View_axes;have c4:=T.na_View_room;refine⟨_,%[%[(PW.pt %[%[%[%[is_within,%[%[1|0],%[%[0|2],%[(@lx _ _ (.int 1000000000000000000) _ _ ∅ T.m_MOST_ROOM.choose_spec ⟨_,rfl⟩ ⋯)|1]|1]|1]|3],(by intros;rfl)|28]|30],%[%[%[%[is_whole,%[%[2|0]|1]|3],(by intros;rfl)|28]|30],(@gv _ _ _ _ %[%[%[are_axes,%[%[3|0]|1]|3],(by intros;rfl)|28]|30])|36]|36]),%[(@dU _ _)|10],(@ak _)|17],%[(@lQ _ _ _ _ _ _ _ _ %[0|0] %[1|0] rfl),%[(@lQ _ _ _ _ _ _ _ _ %[0|0] %[2|0] rfl),%[(@lQ _ _ _ _ _ _ _ _ %[0|0] %[(["axis", "self", "room", "first", "axes"]),(1),(aC (aa ck) ["self", "room", "first", "axes"] rfl rfl nofun),rfl,%[%[3|0]|20],(λ C s₀ H₀ ex pn=>%[(0),_,(show List.Nodup (["axis", "self", "room", "first", "axes"]:List Str) from by decide +kernel),rfl,(Or.inl rfl),%[0|7]|15]),(λ C s₀ H₀ ex pn=>(@aV _)),(λ C s₀ H₀ ex pn=>%[kept_axis,%[%[0|0]|1]|3]),(by intros;rfl)|25] rfl),%[%[(PW.pt %[%[oV,%[%[0|0],T.cl_View,T.mt_View_least,G_View_least,(hr.mono ⋯),T.b_View_least,.nil,eJ,∅|32],%[0|2],(ar _)|14],(@gv _ _ _ _ %[GX,%[%[0|0],T.cl_View,T.mt_View_greatest,G_View_greatest,(hr.mono ⋯),T.b_View_greatest,.nil,eJ,∅|32],%[1|0],(ar _)|14])|36]),%[(@dU _ _)|10],(@ak _)|17]|10]|9]|9]|9]|9],?_⟩;rw [show aA ["self", "room", "first", "axes"] [.ref x,.int room,.int first,.ref l]=[some (.ref x),some (.int room),some (.int first),some (.ref l)] from rfl];have r1:=vok.r1;have r2:=vok.r2;simp! only [↓kP,↓bO];rw [BE];refine⟨axs,tl,vok.ax,λ H1 e1=>?_⟩;have hx1:=e1.at hx;have tl1:=tl.ext e1;clear hx tl;ac_rfl;refine⟨(show (1:Nat) < 1000 by decide),?_⟩;obtain⟨ys,hl1,al1⟩:=tl1;have hlx:l ≠ x:=λ z=>by rw [z,hx1] at hl1;cases hl1
  have hx2:(upd H1 x (HO.ins t.a_View dx (fh "first" (V.int first) (fh "room" (V.int room) [])))) x=some (HO.ins t.a_View dx (fh "first" (V.int first) (fh "room" (V.int room) []))):=aq
  have hl2:(upd H1 x (HO.ins t.a_View dx (fh "first" (V.int first) (fh "room" (V.int room) [])))) l=some (.lst ys):=by rw [af hlx];exact hl1
  have al2:Al (λ a y=>axP a y (upd H1 x (HO.ins t.a_View dx (fh "first" (V.int first) (fh "room" (V.int room) []))))) axs ys:=(iW al1).imp λ a y ⟨q,hy,hq⟩=>⟨q,hy,by rw [af (λ z=>by rw [z,hx1] at hq;cases hq)];exact hq⟩;have b2:∀ H0,Ext H0 H->H0 x=none->Ext H0 (upd H1 x (HO.ins t.a_View dx (fh "first" (V.int first) (fh "room" (V.int room) [])))):=λ H0 q0 q1=>(q0.trans e1).put q1
  have b3:∀ b,b ≠ x->(upd H1 x (HO.ins t.a_View dx (fh "first" (V.int first) (fh "room" (V.int room) [])))) b=none->H b=none:=λ b hb q=>by rw [af hb] at q;exact e1.free q
  generalize upd H1 x (HO.ins t.a_View dx (fh "first" (V.int first) (fh "room" (V.int room) [])))=H2 at hx2 hl2 al2 b2 b3;clear hl1 al1 hx1;ac_rfl;have wk:=gq (K:=K) (R:=axP) (λ _ _ _ _ h e=>h.ext e) hl2 al2;refine lY axs (λ _=>true) axP (λ D a y H'=>∃ q,y=.ref q/\q ≠ D/\H' q=some (.tup [.int (aP a).1,.int (aP a).2])) wk.1 wk.2 (λ D _ y H1 H2 ⟨q,h1,h2,h3⟩ e=>⟨q,h1,h2,e.at h3⟩) (λ D _ y H1 o ⟨q,h1,h2,h3⟩=>⟨q,h1,h2,by rw [af h2];exact h3⟩) (ag (by have:=vok.ax.1;omega)) ?_ ?_
  ·intro D a y H' N1 N0 ha hD e ⟨ys0,hys0⟩ ⟨q,hy,hq⟩ k1 _;subst hy;have k1':=k1 rfl;clear k1 k;simp! only [↓bh,↓ba];rw [Bz];exact⟨a,hq,λ r H'' hr' e' h'=>k1' _ H'' e' ⟨r,rfl,(λ z=>by rw [z,hys0] at hr';cases hr'),h'⟩⟩
  ·intro D zs H3 hD e3 hD3 al3;rw [jX] at al3;have hx3:=e3.at hx2;have hDx:D ≠ x:=λ z=>by rw [z,hx2] at hD;cases hD
   clear wk;ac_rfl;refine⟨(show (2:Nat) < 1000 by decide),?_⟩
   have tt:bV (upd H3 x (HO.ins t.a_View dx (eI room first D))) D (axL (axs.map aP)):=by
    refine⟨zs,by rw [af hDx];exact hD3,?_,λ i z y hz hy=>?_⟩
    ·rw [al3.1];unfold axL;rw [length_map,length_map]
    ·unfold axL at hz;rw [map_map,getElem?_map] at hz;obtain⟨a,ha,rfl⟩:=Option.map_eq_some_iff.mp hz;obtain⟨q,hq1,_,hq3⟩:=al3.2 i a y ha hy;exact⟨q,hq1,by rw [af (λ z=>by rw [z,hx3] at hq3;cases hq3)];exact hq3⟩
   have b4:∀ H0,Ext H0 H->H0 x=none->Ext H0 (upd H3 x (HO.ins t.a_View dx (eI room first D))):=λ H0 q0 q1=>((b2 H0 q0 q1).trans e3).put q1;have hx4:(upd H3 x (HO.ins t.a_View dx (eI room first D))) x=some (HO.ins t.a_View dx (eI room first D)):=aq
   have f1:=vn room first D (m := "least") nofun
   have f2:=vn room first D (m := "greatest") nofun
   refine⟨f1,?_⟩
   show lq t.a_View [V.ref x] (upd H3 x (HO.ins t.a_View dx (eI room first D))) _ _
   generalize upd H3 x (HO.ins t.a_View dx (eI room first D))=H4 at tt b4 hx4
   have vo:aG t.a_View H4 x room first (axs.map aP):=⟨dx,D,hx4,tt⟩
   rw [yA];refine⟨room,first,axs.map aP,vo,vok.ax.kept,λ H5 e5=>?_⟩
   have hlo:¬ first+aR (axs.map aP) < 0:=by have:=vok.lo;omega
   have hx5:=e5.at hx4;ac_rfl;rw [oK];refine⟨room,first,axs.map aP,vo.ext e5,vok.ax.kept,λ H6 e6=>?_⟩
   have hhi:¬ room<=first+aH (axs.map aP):=by have:=vok.hi;omega
   have k':=k H6 D (λ H0 q0 q1=>((b4 H0 q0 q1).trans e5).trans e6) (b3 D hDx hD) (e6.at hx5) ((tt.ext e5).ext e6);clear k;ac_rfl
theorem kA(cs:List Int)(a:Int × Int)(i:Nat)(c:Int)(h:cs[i]? = some c):bG (cs.take (i+1)) a=bG (cs.take i) a++(List.range a.1.toNat).map λ (n:Nat)=>c+(n:Int) * a.2:=by
 unfold bG;rw [take_add_one,h,List.flatMap_append];simp
abbrev jH  (p:Addr) (z:Int) (pc:Int) (H:Hp) (Q:VK) (E:XK):Prop:=∃ cs:List Int,H p=some (.lst (cs.map V.int))/\1<=z/\cs.length * z.toNat<=4096/\z<=1000000000/\∀ (r:Addr) (H':Hp),H r=none->Ext H H'->H' r=some (.lst ((bG cs (z,pc)).map V.int))->Q (.ref r) H'
def jc  : Sp:=λ vs H Q E=>∃ (p:Addr) (z:Int) (pc:Int),vs=[.ref p,.int z,.int pc]/\(jH  p z pc H Q E)
theorem qz  (p:Addr) (z:Int) (pc:Int) (H:Hp) (Q:VK) (E:XK):jc  [.ref p,.int z,.int pc] H Q E=(jH  p z pc H Q E):=uc (f:=λ (p:Addr) (z:Int) (pc:Int)=>[.ref p,.int z,.int pc]) (λ _ _ _ _ _ _ h=>by cases h;exact⟨rfl,rfl,rfl⟩) p z pc
theorem qr  {vs:List V}{H:Hp}{Q:VK}{E:XK}(h:jc  vs H Q E):vs.length=3:=ud h λ _ _ _=>rfl
theorem sP(T:Tx K mg t):bL P w K mg base CX0 1 t.a_widened t.d_widened ["cells", "size", "pace"] jc:=by
 refine T.F_widened.ok jr (λ vs H Q E h=>qr h) (λ c A o s H vs Q E hr h=>?_)
 ·obtain⟨p,z,pc,rfl,cs,hp,hz,hln,hz2,k⟩:=h;refine⟨_,%[%[3,jr,%[(@bw _)|16]|4],%[%[OV,rfl,%[%[0|0]|20],%[(4),_,jr.nd,rfl,(Or.inr rfl),%[0|7]|15],%[%[%[O4,RA,Rz,jo,%[3|0],%[%[(["number", "cells", "size", "pace", "found", "cell"]),(1),(aC (aa gy) ["cells", "size", "pace", "found", "cell"] rfl rfl nofun),rfl,%[∅,T.z_range,%[%[1|0]|1],∅|29],(λ C s₀ H₀ ex pn=>%[(0),_,(show List.Nodup (["number", "cells", "size", "pace", "found", "cell"]:List Str) from by decide +kernel),rfl,(Or.inl rfl),%[0|7]|15]),(λ C s₀ H₀ ex pn=>(@aV _)),(λ C s₀ H₀ ex pn=>%[aK,%[5|0],%[dI,%[0|0],%[3|0]|11]|11]),(by intros;rfl)|25]|1],∅,∅,∅,∅,∅|34],∅|27]|10],(by intros;rfl)|21],%[%[%[3|0]|12]|10]|9]|9],?_⟩;rw [show aA ["cells", "size", "pace", "found", "cell"] [.ref p,.int z,.int pc]=[some (.ref p),some (.int z),some (.int pc),none,none] from rfl];ac_rfl;intro r H1 hr1 e1 h1;have hp1:=e1.at hp;ac_rfl;refine cw (xs:=cs.map V.int) (λ i σ H'=>∃ v4:Option V,σ=[some (.ref p),some (.int z),some (.int pc),some (.ref r),v4]/\Ext H H'/\H' r=some (.lst ((bG (cs.take i) (z,pc)).map V.int))) ⟨none,rfl,e1,h1⟩ (λ i σ H' _ ⟨_,_,e,_⟩=>e.at hp) ?_ ?_
  ·rintro i x _ H2 hi ⟨v4,rfl,e2,h2⟩;rw [OL] at hi;obtain⟨c,hc,rfl⟩:=OF.mp hi;have hil:i < cs.length:=(Oy.mp hc).1
   have hzn:z.toNat<=4096:=by
    have:=Ri z.toNat (show 1<=cs.length by omega);omega
   have hwl:(bG (cs.take i) (z,pc)).length+z.toNat<=4096:=by
    rw [ja,O8,show ((z,pc):Int × Int).1=z from rfl];have:(min i cs.length+1) * z.toNat<=cs.length * z.toNat:=Ri _ %[0|8];rw [Nat.add_mul,Nat.one_mul] at this;omega
   simp! only [↓ay];refine⟨by omega,by omega,?_⟩;refine bK (List.range z.toNat) (λ _=>true) (λ j=>.int (c+(j:Int) * pc)) (λ j x H'=>x=.int (0+(j:Nat))) eD.1 eD.2 (ag (by rw [Pa];omega)) ?_ ?_
   ·intro D j x H' N1 N0 hj hD e hx k1 _;subst hx;have hj':=Py.mp hj;have k1':=k1 rfl H' (Ext.refl _);have hcm:mK (j:Int) pc:=.inl %[0|8];have e0:(0:Int)+(j:Int)=(j:Int):=Po _;clear k1 k hj;simp! only [↓bh,↓ba]
   ·intro D H3 hD e3 hD3;have hD3':H3 D=some (.lst (((List.range z.toNat).map λ (j:Nat)=>c+(j:Int) * pc).map V.int)):=by rw [hD3,jX,PF];rfl
    have h2_3:=e3.at h2;have hle:(bG (cs.take i) (z,pc)).length+(List.range z.toNat).length<=sizeLine:=ag (by rw [Pa];omega);clear hD3 hi;ac_rfl;refine⟨_,rfl,(e2.trans e3).put hr1,?_⟩;rw [kA cs (z,pc) i c hc,Pz]
  ·rintro _ H2 ⟨v4,rfl,e2,h2⟩;ac_rfl;rw [OB,P6] at h2;exact k r H2 hr1 e2 h2
abbrev oh(C cT:Addr)(v:Addr)(H:Hp)(Q:VK)(E:XK):Prop:=∃ (room first:Int) (axs:List (Int × Int)),aG C H v room first axs/\fQ axs/\(ae (axs.map λ a=>a.1)<=4096->∀ (r:Addr) (H':Hp),H r=none->Ext H H'->H' r=some (.lst ((ah first axs).map V.int))->Q (.ref r) H')/\¬ 4096 < ae (axs.map λ a=>a.1)
def pA(C cT:Addr):Sp:=λ vs H Q E=>∃ (v:Addr),vs=[.ref v]/\(oh C cT v H Q E)
theorem gG(C cT:Addr)(v:Addr)(H:Hp)(Q:VK)(E:XK):pA C cT [.ref v] H Q E=(oh C cT v H Q E):=mL (f:=λ (v:Addr)=>[.ref v]) (λ _ _ h=>by cases h;exact rfl) v
theorem x5(C cT:Addr){vs:List V}{H:Hp}{Q:VK}{E:XK}(h:pA C cT vs H Q E):vs.length=1:=mG h λ _=>rfl
theorem eA(T:Tx K mg t):bL P w K mg base CX0 4 t.a_View_cells t.d_View_cells ["self"] (pA t.a_View t.a_TooMany):=by
 have G_View_count:=%[mr|41];have G_refuse_long:=%[fK|41];have G_widened:=%[sP|41];refine T.F_View_cells.ok cK (λ vs H Q E h=>x5 _ _ h) (λ c A o s H vs Q E hr h=>?_)
 ·obtain⟨v,rfl,room,first,axs,vo,hax,kQ,kE⟩:=h;obtain⟨dx,l,hv,ys,hl,al⟩:=vo.ob;have c1:=T.cl_View;have c2:=T.na_View_first;have c3:=T.na_View_axes
  have f1:=dX room first l
  have f2:=cx room first l
  have f3:=vn room first l (m := "count") nofun
  refine⟨_,%[%[%[refuse_long,%[%[%[0|0],T.cl_View,T.mt_View_count,G_View_count,(hr.mono ⋯),T.b_View_count,.nil,eJ,∅|32]|1]|3],∅|27],%[%[1,cK,%[%[%[%[0|0],rfl|31]|1]|16]|4],%[%[OV,rfl,%[%[%[0|0],rfl|31]|20],(%[(2),rfl,%[%[2,cK|5],%[%[3,cK|5],(@aT _),∅|18],∅|18],∅,∅|26].mono λ _ _ _ _ h=>cH h),%[%[1,cK,%[widened,%[%[1|0],%[%[2|0],%[%[3|0]|1]|1]|1]|3]|4]|10],(by intros;rfl)|21],%[%[%[1|0]|12]|10]|9]|9]|9],?_⟩;rw [show aA ["self", "found", "size", "pace"] [.ref v]=[some (.ref v),none,none,none] from rfl];clear G_View_count G_refuse_long G_widened;ac_rfl;rw [tQ];refine⟨room,first,axs,vo,hax,λ H1 e1=>?_⟩;have hv1:=e1.at hv;have hl1:=e1.at hl;ac_rfl;rw [rJ];refine⟨λ hc=>?_,kE⟩;have kQ':=kQ hc;clear kQ kE;ac_rfl;intro r H2 hr2 e2 h2;have hv2:=e2.at hv1;have hl2:=e2.at hl1;ac_rfl;have hpos:∀ a∈axs,(1:Int)<=a.1:=λ a ha=>(hax.2 a ha).1;refine cw (xs:=ys) (λ i σ H'=>∃ (r:Addr) (v2 v3:Option V),σ=[some (.ref v),some (.ref r),v2,v3]/\Ext H H'/\H r=none/\H' r=some (.lst ((ah first (axs.take i)).map V.int))) ⟨r,none,none,rfl,e1.trans e2,e1.free hr2,h2⟩ (λ i σ H' _ ⟨_,_,_,_,e,_,_⟩=>e.at hl) ?_ ?_
  ·rintro i y _ H3 hi ⟨r3,v2,v3,rfl,e3,hr3,h3⟩;obtain⟨a,q,ha,rfl,hq⟩:=Mn al hi;have hq3:=e3.at hq;have hm:=hax.2 a (OX ha);simp! only [↓ay];rw [qz];refine⟨_,h3,hm.1,?_,hm.2,λ r4 H4 hr4 e4 h4=>?_⟩
   ·have hl4:=aJ first (axs.take i) λ b hb=>hpos b (PC hb)
    have hp:=eu (axs.map λ a=>a.1) (λ n hn=>by obtain⟨b,hb,rfl⟩:=OO.mp hn;exact hpos b hb) (i+1);rw [hU _ i a.1 (by rw [OL,ha];rfl),←Sw,←hl4] at hp;have hza:((a.1.toNat:Nat):Int)=a.1:=Qc %[0|8]
    have:(((ah first (axs.take i)).length * a.1.toNat:Nat):Int)<=4096:=by rw [Rn,hza];omega
    omega
   ·ac_rfl;refine⟨r4,_,_,rfl,e3.trans e4,e3.free hr4,?_⟩;rw [h4,Qs,ha]
    show _=some (HO.lst (List.map V.int (ah first (axs.take i++[a]))))
    rw [jE]
  ·rintro _ H3 ⟨r3,v2,v3,rfl,e3,hr3,h3⟩;have hyl:ys.length=axs.length:=by rw [al.1];unfold axL;rw [length_map]
   rw [hyl,P6] at h3;ac_rfl;exact kQ' r3 H3 hr3 e3 h3
def CT(cT:Addr)(H:Hp)(Q:VK)(E:XK):List Int->Prop:=λ ns=>(ae ns<=4096->∀ D H',H D=none->Ext H H'->bV H' D (cu ns)->Q (.ref D) H')/\¬ 4096 < ae ns
theorem C9(cT:Addr)(H:Hp)(Q:VK)(E:XK)(ns:List Int):CT cT H Q E ns=((ae ns<=4096->∀ D H',H D=none->Ext H H'->bV H' D (cu ns)->Q (.ref D) H')/\¬ 4096 < ae ns):=rfl
def lM(cT:Addr):Sp:=λ vs H Q E=>∃ (p:Addr),vs=[.ref p]/\(az (av H p) (dP (kSz (CT cT H Q E))))
theorem tS(cT:Addr)(p:Addr)(H:Hp)(Q:VK)(E:XK):lM cT [.ref p] H Q E=(az (av H p) (dP (kSz (CT cT H Q E)))):=mL (f:=λ (p:Addr)=>[.ref p]) (λ _ _ h=>by cases h;exact rfl) p
theorem tH(cT:Addr){vs:List V}{H:Hp}{Q:VK}{E:XK}(h:lM cT vs H Q E):vs.length=1:=mG h λ _=>rfl
theorem wX(T:Tx K mg t):bL P w K mg base CX0 4 t.a_places t.d_places ["sizes"] (lM t.a_TooMany):=by
 have G_count_of:=%[gh|41];have G_refuse_long:=%[fK|41];have G_split_number:=%[ff|41];refine T.F_places.ok rM (λ vs H Q E h=>tH _ h) (λ c A o s H vs Q E hr h=>?_)
 ·obtain⟨p,rfl,h⟩:=h;obtain⟨xs,hp,ns,rfl,hs,k1,k2⟩:=ai h;replace hp:=bf hp;clear h;refine⟨_,%[%[1,rM,%[count_of,%[%[0|0]|1]|3]|4],%[%[%[refuse_long,%[%[1|0]|1]|3],∅|27],%[%[%[(["number", "sizes", "count"]),(1),(aC (aa iG) ["sizes", "count"] rfl rfl nofun),rfl,%[∅,T.z_range,%[%[1|0]|1],∅|29],(λ C s₀ H₀ ex pn=>%[(0),_,(show List.Nodup (["number", "sizes", "count"]:List Str) from by decide +kernel),rfl,(Or.inl rfl),%[0|7]|15]),(λ C s₀ H₀ ex pn=>(@aV _)),(λ C s₀ H₀ ex pn=>%[split_number,%[%[1|0],%[%[0|0]|1]|1]|3]),(by intros;rfl)|25]|12]|10]|9]|9],?_⟩;rw [show aA ["sizes", "count"] [.ref p]=[some (.ref p),none] from rfl];have hpos:=hs.prod.1;simp! only [↓jt,↓j6,↓qJ];rw [rJ];refine⟨λ hn=>?_,k2⟩;have k1':=k1 hn;clear k1 k2;have hr2:ae ns < 2 ^ 62:=by omega
  have hr1:-(2 ^ 62)<=ae ns:=by omega
  ac_rfl;refine⟨hr1,hr2,?_⟩;refine lY (List.range (ae ns).toNat) (λ _=>true) (λ j x H'=>x=.int (0+(j:Nat))) (λ D j y H'=>∃ q,y=.ref q/\q ≠ D/\H' q=some (.tup ((ao ns (j:Nat)).map V.int))) eD.1 eD.2 (λ D _ y H1 H2 ⟨q,h1,h2,h3⟩ e=>⟨q,h1,h2,e.at h3⟩) (λ D _ y H1 o ⟨q,h1,h2,h3⟩=>⟨q,h1,h2,by rw [af h2];exact h3⟩) (ag (by rw [Pa];omega)) ?_ ?_
  ·intro D j x H' N1 N0 hz hD e ⟨ys0,hys0⟩ hx kk _;subst hx;have hp':=e.at hp;have kk':=kk rfl;clear kk;simp! only [↓bh,↓ba,↓nN,↓j6];rw [qI];intro r H2 hr2 e2 h2;rw [Po] at h2;exact kk' _ H2 e2 ⟨r,rfl,(λ z=>by rw [z,hys0] at hr2;cases hr2),h2⟩
  ·intro D ys H' hD e hD' al;rw [jX] at al;refine k1' D H' hD e ⟨ys,hD',?_,λ i z y hz hy=>?_⟩
   ·rw [al.1,Pa,jl]
   ·unfold cu at hz;rw [getElem?_map] at hz;obtain⟨j,hj,rfl⟩:=Option.map_eq_some_iff.mp hz;obtain⟨q,h1,_,h3⟩:=al.2 i j y hj hy;exact⟨q,h1,h3⟩
abbrev kZ  (n:Int) (b:Int) (m:Int) (H:Hp) (Q:VK) (E:XK):Prop:=1<=b/\b<=1000/\0<=m/\m<=8/\∀ (ds:List Int) (r:Addr) (H':Hp),H r=none->Ext H H'->H' r=some (.lst (ds.map V.int))->(ds.length:Int)=m->(∀ d∈ds,0<=d/\d < b)->Q (.ref r) H'
def lP  : Sp:=λ vs H Q E=>∃ (n:Int) (b:Int) (m:Int),vs=[.int n,.int b,.int m]/\(kZ  n b m H Q E)
theorem ic  (n:Int) (b:Int) (m:Int) (H:Hp) (Q:VK) (E:XK):lP  [.int n,.int b,.int m] H Q E=(kZ  n b m H Q E):=uc (f:=λ (n:Int) (b:Int) (m:Int)=>[.int n,.int b,.int m]) (λ _ _ _ _ _ _ h=>by cases h;exact⟨rfl,rfl,rfl⟩) n b m
theorem tK  {vs:List V}{H:Hp}{Q:VK}{E:XK}(h:lP  vs H Q E):vs.length=3:=ud h λ _ _ _=>rfl
theorem cE(T:Tx K mg t):bL P w K mg base CX0 1 t.a__law_digits t.d__law_digits ["_law_number", "_law_by", "_law_many"] lP:=by
 refine T.F__law_digits.ok cR (λ vs H Q E h=>tK h) (λ c A o s H vs Q E hr h=>?_)
 ·obtain⟨n,b,m,rfl,hb,hb1,hm0,hm1,k⟩:=h;refine⟨_,%[%[3,cR,%[(@bw _)|16]|4],%[%[OV,rfl,%[∅,T.z_range,%[%[2|0]|1],∅|29],%[4,cR|5],%[%[%[O4,Pu,Pt,b9,%[3|0],%[%[iV,%[0|0],%[1|0]|11]|1],∅,∅,∅,∅,∅|34],∅|27],%[%[0,cR,%[iZ,%[0|0],%[1|0]|11]|4]|10]|9],(by intros;rfl)|21],%[%[%[3|0]|12]|10]|9]|9],?_⟩;rw [show aA ["_law_number", "_law_by", "_law_many", "_law_found", "_law_k"] [.int n,.int b,.int m]=[some (.int n),some (.int b),some (.int m),none,none] from rfl];have hb0:0 < b:=by omega
  ac_rfl;intro r H1 hr1 e1 h1;ac_rfl;refine⟨by omega,by omega,?_⟩;refine dS (λ i σ H'=>∃ (x:Int) (ds:List Int) (v4:Option V),σ=[some (.int x),some (.int b),some (.int m),some (.ref r),v4]/\Ext H H'/\H' r=some (.lst (ds.map V.int))/\ds.length=i/\∀ d∈ds,0<=d/\d < b) ⟨n,[],none,rfl,e1,h1,rfl,λ _ h=>absurd h OJ⟩ ?_ ?_
  ·rintro i _ H2 hi ⟨x,ds,v4,rfl,e2,h2,hdl,hdb⟩;have hi':i < m.toNat:=hi;have g1:=Px x (show b ≠ 0 by omega);have g2:=Pl x hb0;have hln:ds.length < sizeLine:=eR %[0|8];exists hdb;clear hi k;simp! only [↓ay];refine⟨eR %[0|8],by omega,x / b,ds++[x % b],_,rfl,e2.put hr1,by rw [Pz];rfl,by simp [hdl],λ d hd=>?_⟩
   rcases OQ.mp hd with h|h
   ·exact hdb () d h
   ·rw [OE.mp h];exact⟨g1,g2⟩
  ·rintro _ H2 ⟨x,ds,v4,rfl,e2,h2,hdl,hdb⟩;have k1:=k ds r H2 hr1 e2 h2 %[0|8] hdb;clear k hdb;ac_rfl
def Hv(os:List (Int × Int))(n:Nat):Prop:=os.length=n/\(os.map λ o=>o.1).Perm ((List.range n).map λ (i:Nat)=>(i:Int))/\∀ o∈os,o.2=1\/o.2=-1
theorem kJ:∀ (xs:List Int) (k:Nat),(xs.map V.int).eraseIdx k=(xs.eraseIdx k).map V.int
 | [],k=>by cases k<;>rfl
 | x::xs,0=>rfl
 | x::xs,k+1=>Qk (V.int x::·) (kJ xs k)
theorem kI:∀ {xs:List Int}{k:Nat}{x:Int},xs[k]? = some x->(x::xs.eraseIdx k).Perm xs
 | [],k,x,h=>by simp at h
 | y::xs,0,x,h=>by cases h;exact List.Perm.refl _
 | y::xs,k+1,x,h=>(List.Perm.swap y x _).trans ((kI (xs:=xs) (k:=k) (by simpa using h)).cons y)
theorem fW{vals:List Int}{c:Int}(h0:0<=c)(h1:c < vals.length):atI (vals.map V.int) c=some (.int (vals.getD c.toNat 0)):=by
 obtain⟨n,rfl⟩:=OT h0;have hn:n < vals.length:=by omega
 refine bU ?_;rw [OL,Ow hn];simp [List.getD,Ow hn]
theorem Ad(xs:List Int)(j:Nat)(z:Int):(xs.map V.int).set j (.int z)=(xs.set j z).map V.int:=by
 rw [List.map_set]
theorem Mf{n:Nat}{c:Int}(h0:0<=c)(h1:c < n):ixN n c=some c.toNat:=by
 unfold ixN;rw [if_pos h0,if_pos %[0|8]]
def GO(ms:List Int)(o:Int × Int)(y:Int):Int:=if o.2=1 then y else ms.getD o.1.toNat 0 - 1 - y
def NC(ms:List Int)(os:List (Int × Int))(ys:List Int):List Int:=(os.zip ys).foldl (λ pl p=>pl.set p.1.1.toNat (GO ms p.1 p.2)) (List.replicate ms.length 0)
theorem rf(n:Nat):(List.replicate n [V.int 0]).flatten=(List.replicate n (0:Int)).map V.int:=by
 induction n with
 | zero=>rfl
 | succ n ih=>rw [Qv,QZ,ih,Qv,PB];rfl
def szO(ms:List Int)(os:List (Int × Int)):List Int:=os.map λ o=>ms.getD o.1.toNat 0
theorem lA{ms:List Int}{c:Int}(h0:0<=c)(h1:c < (ms.length:Int)):ms.getD c.toNat 0∈ms:=by
 have hn:c.toNat < ms.length:=by omega
 rw [Qg,Ow hn];exact P7 hn
def Ms(n:Nat)(H:Hp)(q:Addr)(os:List (Int × Int)):Prop:=bV H q (os.map λ o=>[o.1,o.2])/\os.length=n/\∀ o∈os,(0<=o.1/\o.1 < (n:Int))/\(o.2=1\/o.2=-1)
def NG(ms:List Int)(o:Int × Int):List Int:=(List.range (ms.getD o.1.toNat 0).toNat).map λ (k:Nat)=>GO ms o (k:Int)
def Og(ms:List Int)(os:List (Int × Int)):List (List Int):=os.foldl (λ fs o=>fs.flatMap λ pl=>(NG ms o).map λ k=>pl.set o.1.toNat k) [List.replicate ms.length 0]
theorem wV{xs:List V}{i:Int}{k:V->Prop}(P:V->Prop)(h0:0<=i)(h1:i < xs.length)(ha:∀ v∈xs,P v)(hk:∀ v,P v->k v):az (atI xs i) k:=vE h0 h1 λ v hv=>hk v (ha v hv)
def SzK(ms:List Int):Prop:=(ms.length<=3/\(∀ m∈ms,1<=m/\m<=6)/\ae ms<=60)\/(ms.length<=8/\(∀ m∈ms,1<=m/\m<=3)/\ae ms<=54)
def okP:List Int:=[1,2,3,4,6,8,9,12,16,18,24,27,32,36,48,54]
theorem zV{c s:Int}(hc:c∈okP)(h1:1<=s)(h3:s<=3)(h:c * s<=60):c * s∈okP:=by
 have key:∀ c∈okP,(c * 2<=60->c * 2∈okP)/\(c * 3<=60->c * 3∈okP):=by decide
 obtain⟨k2,k3⟩:=key c hc
 rcases (show s=1\/s=2\/s=3 by omega) with rfl|rfl|rfl
 ·rw [Ro];exact hc
 ·exact k2 h
 ·exact k3 h
theorem Ij{c:Int}(hc:c∈okP):c<=54:=by
 have key:∀ c∈okP,c<=54:=by decide
 exact key c hc
def SzI(mu ms:List Int)(i:Nat):Prop:=ms.length=i/\ae ms<=60/\((∀ m∈ms,1<=m/\m<=6)/\((∀ m∈mu,1<=m/\m<=3)->(∀ m∈ms,1<=m/\m<=3)/\ae ms∈okP))
abbrev wd(K:PySem.W.Frag)(a:Addr)(ns:List Int)(p:Addr)(H:Hp)(Q:VK)(E:XK):Prop:=p=a/\SqL K H a (ns.map V.int)/\ns.length<=63/\∀ (ms:List Int) (r:Addr) (H':Hp),Ext H H'->H' r=some (.lst (ms.map V.int))->SzK ms->Q (.ref r) H'
def Cp(K:W.Frag)(a:Addr)(ns:List Int):Sp:=λ vs H Q E=>∃ (p:Addr),vs=[.ref p,.int 60,.bl true]/\(wd K a ns p H Q E)
theorem Ga(K:W.Frag)(a:Addr)(ns:List Int)(p:Addr)(H:Hp)(Q:VK)(E:XK):Cp K a ns [.ref p,.int 60,.bl true] H Q E=(wd K a ns p H Q E):=mL (f:=λ (p:Addr)=>[.ref p,.int 60,.bl true]) (λ _ _ h=>by cases h;exact rfl) p
theorem Fs(K:W.Frag)(a:Addr)(ns:List Int){vs:List V}{H:Hp}{Q:VK}{E:XK}(h:Cp K a ns vs H Q E):vs.length=3:=mG h λ _=>rfl
theorem mi(T:Tx K mg t)(a:Addr)(ns:List Int):bL P w K mg base CX0 2 t.a__law_sizes t.d__law_sizes ["_law_script", "_law_most_here", "_law_wide"] (Cp K a ns):=by
 have G__law_draw:=%[bY|41] a ns;have G__law_digits:=%[cE|41];refine T.F__law_sizes.ok aD (λ vs H Q E h=>Fs _ _ _ h) (λ c A o s H vs Q E hr h=>?_)
 ·obtain⟨_,rfl,rfl,hS,hl,kk⟩:=h;rename_i a;refine⟨_,%[%[3,aD,%[cp,%[%[%[0|2],%[%[0|2],%[%[0|2],%[%[0|2],%[%[0|2],%[%[0|2],%[%[0|2],%[%[0|2]|1]|1]|1]|1]|1]|1]|1]|1]|16],%[_law_draw,%[%[0|0],%[%[0|2],%[%[0|2]|1]|1]|1]|3],(λ _ _=>rfl)|13]|4],%[%[4,aD,%[%[%[0|2],%[%[0|2],%[%[0|2],%[%[0|2],%[%[0|2],%[%[0|2],%[%[0|2],%[%[0|2]|1]|1]|1]|1]|1]|1]|1]|1]|16]|4],%[%[(PW.pt (@mU _ _ _ _ _ _ _ %[%[2|0],(by intros;rfl)|28] (@lr _ _ _ _ %[(dH hr.units),%[_law_draw,%[%[0|0],%[%[0|2],%[%[0|2]|1]|1]|1]|3],%[0|2],(ar _)|14]))),%[%[3,aD,%[aK,%[0|2],%[_law_draw,%[%[0|0],%[%[0|2],%[%[0|2]|1]|1]|1]|3]|11]|4],%[%[4,aD,%[%[%[0|2],%[%[0|2],%[%[0|2],%[%[0|2],%[%[0|2],%[%[0|2],%[%[0|2],%[%[0|2]|1]|1]|1]|1]|1]|1]|1]|1]|16]|4]|10]|9],(@ak _)|17],%[%[5,aD,%[(@bw _)|16]|4],%[%[6,aD,%[0|2]|4],%[%[OV,rfl,%[%[_law_digits,%[%[_law_draw,%[%[0|0],%[%[0|2],%[%[0|2]|1]|1]|1]|3],%[%[0|2],%[%[3|0]|1]|1]|1]|3]|20],%[7,aD|5],%[%[8,aD,%[cp,%[4|0],%[7|0],(λ _ _=>rfl)|13]|4],%[%[%[mQ,%[dI,%[6|0],%[8|0]|11],%[1|0],(ar _)|14],%[%[8,aD,%[0|2]|4]|10],(@ak _)|17],%[%[6,aD,%[dI,%[6|0],%[8|0]|11]|4],%[%[%[O4,Pu,Pt,b9,%[5|0],%[%[8|0]|1],∅,∅,∅,∅,∅|34],∅|27]|10]|9]|9]|9],(by intros;rfl)|21],%[%[%[5|0]|12]|10]|9]|9]|9]|9]|9]|9],?_⟩;rw [show aA ["_law_script", "_law_most_here", "_law_wide", "_law_many", "_law_menu", "_law_sizes_here", "_law_count", "_law_digit", "_law_size"] [.ref a,.int 60,.bl true]=[some (.ref a),some (.int 60),some (.bl true),none,none,none,none,none,none] from rfl];clear G__law_draw G__law_digits;exists kk;ac_rfl;intro q1 H1 hq1 e1 h1;have hS1:=e1.2 K a _ hS;clear hq1;ac_rfl;rw [aB];refine⟨hS1,hl,⟨by decide,by decide⟩,by decide,λ d d0 d1=>?_⟩;ac_rfl;refine gA (λ j=>0<=j/\j<=3) d0 d1 (λ v hv=>?_) λ mn hmn=>?_
  ·simp only [OU,OJ,O6] at hv
   rcases hv with rfl|rfl|rfl|rfl|rfl|rfl|rfl|rfl<;>exact⟨_,rfl,by decide⟩
  clear h1;ac_rfl;intro q2 H2 hq2 e2 h2;have hS2:=e2.2 K a _ hS1;clear hq2;simp! only [-qP];refine vb (λ σ' H'=>∃ (mn:Int) (q:Addr) (mu:List Int),σ'=[some (.ref a),some (.int 60),some (.bl true),some (.int mn),some (.ref q),none,none,none,none]/\Ext H2 H'/\H' q=some (.lst (mu.map V.int))/\mu.length=8/\0<=mn/\mn<=8/\((mn<=3/\∀ m∈mu,1<=m/\m<=6)\/∀ m∈mu,1<=m/\m<=3)) (λ nx' hn=>?_) ?_
  ·exists hn;ac_rfl;rw [aB];refine⟨hS2,hl,⟨by decide,by decide⟩,by decide,λ g g0 g1=>?_⟩
   by_cases hg:g=1
   ·ac_rfl;rw [aB];refine⟨hS2,hl,⟨by decide,by decide⟩,by decide,λ x x0 x1=>?_⟩;ac_rfl;intro q3 H3 hq3 e3 h3;have hn':=hn () [some (.ref a),some (.int 60),some (.bl true),some (.int (4+x)),some (.ref q3),none,none,none,none] H3 ⟨_,q3,[1,2,3,2,1,2,3,2],rfl,e3,h3,rfl,by omega,by omega,.inr ⋯⟩;clear hn;ac_rfl
   ·have hn':=hn () [some (.ref a),some (.int 60),some (.bl true),some (.int mn),some (.ref q2),none,none,none,none] H2 ⟨_,q2,[2,3,4,2,5,1,3,6],rfl,Ext.refl _,h2,rfl,hmn.1,by omega,.inl ⟨hmn.2,by decide⟩⟩;clear hn;ac_rfl
  rintro _ H3 ⟨mn,q,mu,rfl,e3,h3,hml,mn0,mn8,hmu⟩;have hS3:=e3.2 K a _ hS2;clear h2 hmn;ac_rfl;intro r H4 hr4 e4 h4;have hS4:=e4.2 K a _ hS3;have h3_4:=e4.at h3;clear h3;ac_rfl;rw [aB];refine⟨hS4,hl,⟨by decide,by decide⟩,by decide,λ c c0 c1=>?_⟩;ac_rfl;rw [ic];refine⟨by decide,by decide,mn0,mn8,λ ds dr H5 hd5 e5 h5 hdl hdb=>?_⟩;have h4_5:=e5.at h4;have h3_5:=e5.at h3_4;have nqr:q ≠ r:=λ z=>by rw [z,h4_5] at h3_5;have:=Qk List.length (HO.lst.inj (O1 h3_5));rw [OB,hml] at this;simp at this
  have ndr:dr ≠ r:=λ z=>by rw [z,h4] at hd5;cases hd5
  have e05:=e1.trans (e2.trans (e3.trans (e4.trans e5)));have hr0:H r=none:=(e1.trans (e2.trans e3)).free hr4;exists hdl;exists hml;exists hmu;exists hdb;clear h4 h3_4 hd5 e1 e2 e3 e4 e5 hS1 hS2 hS3 hS4;ac_rfl;refine cw (xs:=ds.map V.int) (λ i σ H'=>∃ (ms:List Int) (v7 v8:Option V),σ=[some (.ref a),some (.int 60),some (.bl true),some (.int mn),some (.ref q),some (.ref r),some (.int (ae ms)),v7,v8]/\Ext H H'/\H' q=some (.lst (mu.map V.int))/\H' dr=some (.lst (ds.map V.int))/\H' r=some (.lst (ms.map V.int))/\SzI mu ms i) ⟨[],none,none,rfl,e05,h3_5,h5,h4_5,⟨rfl,by decide,λ _ h=>absurd h OJ,λ _=>⟨λ _ h=>absurd h OJ,by decide⟩⟩⟩ (λ i σ H' _ ⟨_,_,_,_,_,_,h,_⟩=>h) ?_ ?_
  ·rintro i y _ H6 hi ⟨ms,v7,v8,rfl,e6,q6,d6,h6,⟨hmsl,hms60,hm6,hmw⟩⟩;rw [OL] at hi;obtain⟨g,hg,rfl⟩:=OF.mp hi;obtain⟨g0,g8⟩:=hdb () g (OX hg);have hil:i < ds.length:=(Oy.mp hg).1;have hat:=fW (vals:=mu) g0 (by rw [hml ()];omega)
   have hin:mu.getD g.toNat 0∈mu:=by
    have:g.toNat < mu.length:=by rw [hml ()];omega
    rw [List.getD,Ow this];exact P7 this
   have hx6:1<=mu.getD g.toNat 0/\mu.getD g.toNat 0<=6:=by
    rcases hmu () with h|h
    ·exact h.2 _ hin
    ·have:=h _ hin;omega
   have hx3:(∀ m∈mu,1<=m/\m<=3)->mu.getD g.toNat 0<=3:=λ h=>(h _ hin).2;generalize mu.getD g.toNat 0=z at hat hx6 hx3;have p1:=aM ms λ m hm=>(hm6 m hm).1;have cm:mK (ae ms) z:=.inr ⟨by omega,by omega⟩;have hll:ms.length < sizeLine:=eR (by have:=hdl ();omega);have hpa:∀ s:Int,ae (ms++[s])=ae ms * s:=λ s=>by rw [bA];show _ * (s * 1)=_;rw [Ro]
   have fin:∀ s:Int,1<=s->s<=6->((∀ m∈mu,1<=m/\m<=3)->s<=3)->ae ms * s<=60->SzI mu (ms++[s]) (i+1):=by
    intro s s1 s6 s3 hs;refine⟨by rw [OR,hmsl];rfl,by rw [hpa];exact hs,λ m hm=>?_,λ hw=>⟨λ m hm=>?_,by rw [hpa];exact zV (hmw hw).2 s1 (s3 hw) hs⟩⟩
    ·rcases OQ.mp hm with h|h
     ·exact hm6 m h
     ·rw [OE.mp h];exact⟨s1,s6⟩
    ·rcases OQ.mp hm with h|h
     ·exact(hmw hw).1 m h
     ·rw [OE.mp h];exact⟨s1,s3 hw⟩
   exists fin;exists hpa;exists hx3;exists hx6;exists hmw;exists hm6;exists hmsl;clear hi hg hr4 h5 h4_5 h3_5 e05 hS p1 hil g0 g8 c0 c1 mn0 mn8 d0 d1 hin
   by_cases hbig:60 < ae ms * z
   ·have cm1:mK (ae ms) 1:=.inr ⟨by decide,by decide⟩;have f1:=λ (_:Unit)=>fin () 1 ⋯ ⋯ (λ _=>by decide) (by rw [Ro];exact hms60);clear fin;simp! only [↓ay];refine⟨ms++[1],_,_,by rw [hpa ()],e6.put hr0,by rw [af nqr];exact q6,by rw [af ndr];exact d6,by rw [Pz];rfl,f1 ()⟩
   ·have hle:ae ms * z<=60:=by omega
    have f1:=λ (_:Unit)=>fin () z (hx6 ()).1 (hx6 ()).2 (hx3 ()) hle;clear fin;simp! only [↓ay];refine⟨ms++[z],_,_,by rw [hpa ()],e6.put hr0,by rw [af nqr];exact q6,by rw [af ndr];exact d6,by rw [Pz];rfl,f1 ()⟩
  ·rintro _ H6 ⟨ms,v7,v8,rfl,e6,q6,d6,h6,⟨hmsl,hms60,hm6,hmw⟩⟩;rw [OB] at hmsl
   have hsz:SzK ms:=by
    rcases hmu () with h|h
    ·exact .inl ⟨by have:=hdl ();omega,hm6,hms60⟩
    ·exact .inr ⟨by have:=hdl ();omega,(hmw h).1,Ij (hmw h).2⟩
   have k':=kk () ms r H6 e6 h6 hsz;clear kk hsz;ac_rfl
theorem sI{l1 l2:List Int}(h:l1.Perm l2):ae l1=ae l2:=by
 induction h with
 | nil=>rfl
 | cons x _ ih=>show x * _=x * _;rw [ih]
 | swap x y l=>show y * (x * ae l)=x * (y * ae l);rw [←Qb,←Qb,PQ y x]
 | trans _ _ i1 i2=>exact i1.trans i2
def gO(ms:List Int)(v:Int):Int:=ms.getD v.toNat 0
theorem rg(ms:List Int):((List.range ms.length).map λ (i:Nat)=>(i:Int)).map (gO ms)=ms:=by
 rw [PF];apply List.ext_getElem?;intro i;rw [OL]
 by_cases hi:i < ms.length
 ·rw [List.getElem?_range hi,Ow hi]
  show some (ms.getD ((i:Int)).toNat 0)=_
  rw [OI,List.getD,Ow hi];rfl
 ·rw [Qu (by rw [Pa];omega),Qu %[0|8]];rfl
theorem lH:∀ (ms ps:List Int) (x:Nat) (p:Int),ps.length=ms.length->x < ms.length->ps.getD x 0=0->dG ms (ps.set x p)=dG ms ps+(ms.getD x 0 - 1) * (p.natAbs:Int)
 | [],_,_,_,_,h,_=>by simp at h
 | _::_,[],_,_,h,_,_=>by simp at h
 | m::ms,q::ps,0,p,hl,hx,h0=>by
  have h0':q=0:=h0;subst h0'
  show (m - 1) * (p.natAbs:Int)+dG ms ps=(m - 1) * ((0:Int).natAbs:Int)+dG ms ps+(m - 1) * (p.natAbs:Int)
  rw [show (((0:Int).natAbs:Nat):Int)=0 from rfl,Int.mul_zero];omega
 | m::ms,q::ps,x+1,p,hl,hx,h0=>by
  have ih:=lH ms ps x p (by simpa using hl) (by simpa using hx) (by simpa using h0)
  show (m - 1) * (q.natAbs:Int)+dG ms (ps.set x p)=(m - 1) * (q.natAbs:Int)+dG ms ps+(ms.getD x 0 - 1) * (p.natAbs:Int)
  rw [ih];omega
theorem jb:∀ ms:List Int,dG ms (List.replicate ms.length 0)=0
 | []=>rfl
 | m::ms=>by
  show (m - 1) * (((0:Int).natAbs:Nat):Int)+dG ms (List.replicate ms.length 0)=0
  rw [jb ms,show (((0:Int).natAbs:Nat):Int)=0 from rfl,Int.mul_zero];rfl
structure gu(ms ls ps:List Int)(u B:Int):Prop where
 len:ps.length=ms.length
 sub:∀ x∈ls,0<=x/\x < (ms.length:Int)
 nd:ls.Nodup
 lle:ls.length<=ms.length
 zer:∀ x∈ls,ps.getD x.toNat 0=0
 u1:1<=u
 c:∃ c:Int,1<=c/\ae (ls.map (gO ms)) * c=ae ms
 ub:u * ae (ls.map (gO ms))<=(2+((ms.length:Int) - ls.length)) * ae ms
 sp:dG ms ps<=u
 pb:∀ p∈ps,(p.natAbs:Int)<=B
theorem gu.one{ms ls ps:List Int}{u B:Int}(h:gu ms ls ps u B)(h1:∀ m∈ms,(1:Int)<=m):∀ m∈ls.map (gO ms),(1:Int)<=m:=λ m hm=>by
 obtain⟨x,hx,rfl⟩:=OO.mp hm;have:=h.sub x hx;exact h1 _ (lA this.1 this.2)
theorem gu.ule{ms ls ps:List Int}{u B:Int}(h:gu ms ls ps u B)(h1:∀ m∈ms,(1:Int)<=m):u<=(2+((ms.length:Int) - ls.length)) * ae ms:=by
 have q1:=aM _ (h.one h1);have:=PM q1 (show 0<=u by have:=h.u1;omega);have:=h.ub;omega
theorem gu.step{ms ls es ps:List Int}{u B x b p:Int}(h:gu ms ls ps u B)(h1:∀ m∈ms,(1:Int)<=m)(hp:(x::es).Perm ls)(hb0:0<=b)(hb1:b<=1)(hpu:(p.natAbs:Int)=u)(hB:((ms.length:Int)+1) * ae ms<=B):gu ms es (ps.set x.toNat p) (u * gO ms x+b) B:=by
 have hxm:x∈ls:=hp.mem_iff.mp ON;have hx:=h.sub x hxm;have hnd:(x::es).Nodup:=hp.nodup_iff.mpr h.nd;have hll:es.length+1=ls.length:=by rw [←hp.length_eq];rfl
 have hsub:∀ y∈es,y∈ls:=λ y hy=>hp.mem_iff.mp (OH _ hy)
 have hq:ae (ls.map (gO ms))=gO ms x * ae (es.map (gO ms)):=by
  rw [←sI (hp.map (gO ms))];rfl
 have s1:1<=gO ms x:=h1 _ (lA hx.1 hx.2)
 have q1:1<=ae (es.map (gO ms)):=aM _ λ m hm=>by
  obtain⟨y,hy,rfl⟩:=OO.mp hm;have:=h.sub y (hsub y hy);exact h1 _ (lA this.1 this.2)
 obtain⟨c,c1,hc⟩:=h.c;have u1:=h.u1
 have us:u<=u * gO ms x:=by
  have:=PM s1 (show 0<=u by omega);omega
 have hle:=h.lle;have hP:=aM ms h1;refine⟨by rw [List.length_set];exact h.len,λ y hy=>h.sub y (hsub y hy),(Qe.mp hnd).2,by omega,λ y hy=>?_,by omega,⟨c * gO ms x,?_,?_⟩,?_,?_,λ q hq=>?_⟩
 ·have hyx:y ≠ x:=λ e=>(Qe.mp hnd).1 (e ▸ hy);have hy0:=h.sub y (hsub y hy);have:=h.zer y (hsub y hy);rw [List.getD,RZ %[0|8]];exact this
 ·have:=Qj c1 s1 ⋯ %[0|8];omega
 ·rw [←hc,hq,PQ c,PQ (gO ms x) (ae _),Qb]
 ·have e1:(u * gO ms x+b) * ae (es.map (gO ms))=u * ae (ls.map (gO ms))+b * ae (es.map (gO ms)):=by rw [hq,QJ,Qb]
  have hQ:ae (es.map (gO ms))<=ae ms:=by
   have w1:=O3 s1 (show 0<=ae (es.map (gO ms)) by omega);have w2:=PM c1 (show 0<=gO ms x * ae (es.map (gO ms)) by omega);rw [hq] at hc;omega
  have hbQ:=O3 hb1 (show 0<=ae (es.map (gO ms)) by omega);have hub:=h.ub
  have e2:(2+((ms.length:Int) - (es.length:Int))) * ae ms=(2+((ms.length:Int) - (ls.length:Int))) * ae ms+ae ms:=by
   rw [show 2+((ms.length:Int) - (es.length:Int))=2+((ms.length:Int) - (ls.length:Int))+1 by omega,QJ (2+((ms.length:Int) - (ls.length:Int))) 1,Sz]
  rw [e1,e2];omega
 ·have hz:=h.zer x hxm;rw [lH ms ps x.toNat p h.len %[0|8] hz,hpu];have hsp:=h.sp
  have e:(ms.getD x.toNat 0 - 1) * u=u * gO ms x - u:=by
   show (gO ms x - 1) * u=_
   rw [Int.sub_mul,Sz,PQ]
  rw [e];omega
 ·rcases List.mem_or_eq_of_mem_set hq with hq|rfl
  ·exact h.pb q hq
  ·rw [hpu];have hule:=h.ule h1;have:(2+((ms.length:Int) - (ls.length:Int))) * ae ms<=((ms.length:Int)+1) * ae ms:=O3 %[0|8] %[0|8];omega
theorem gu.init{ms:List Int}{u B:Int}(h1:∀ m∈ms,(1:Int)<=m)(u1:1<=u)(u2:u<=2)(hB:0<=B):gu ms ((List.range ms.length).map λ (i:Nat)=>(i:Int)) (List.replicate ms.length 0) u B:=by
 have hP:=aM ms h1;refine⟨Rb,λ x hx=>?_,?_,by rw [OB,Pa];exact OC _,λ x hx=>?_,u1,⟨1,by decide,by rw [rg,Ro]⟩,?_,by rw [jb];omega,λ p hp=>?_⟩
 ·obtain⟨i,hi,rfl⟩:=OO.mp hx;have:=Py.mp hi;omega
 ·refine List.Pairwise.map _ (λ a b hab=>?_) List.nodup_range;omega
 ·rw [List.getD,QP]
  split<;>rfl
 ·rw [rg,OB,Pa];have:=O3 u2 (show 0<=ae ms by omega);rw [show 2+((ms.length:Int) - (ms.length:Int))=2 by omega];exact this
 ·rw [List.eq_of_mem_replicate hp];exact hB
def PcK(ms ps:List Int):Prop:=ps.length=ms.length/\∃ S B:Int,dG ms ps<=S/\(∀ p∈ps,(p.natAbs:Int)<=B)/\6<=B/\0<=S/\S+ki ms * (B+2)<=3960
theorem SzK.pos{ms:List Int}(h:SzK ms):(∀ m∈ms,1<=m/\m<=6)/\ms.length<=8/\ae ms<=60:=by
 rcases h with h|h
 ·exact⟨h.2.1,by omega,h.2.2⟩
 ·exact⟨λ m hm=>by have:=h.2.1 m hm;omega,h.1,by omega⟩
theorem SzK.bounds{ms:List Int}(h:SzK ms):∃ B:Int,((ms.length:Int)+1) * ae ms<=B/\6<=B/\(2+(ms.length:Int)) * ae ms+ki ms * (B+2)<=3960/\0<=ki ms/\ki ms<=15:=by
 have h1:∀ m∈ms,(1:Int)<=m:=λ m hm=>(h.pos.1 m hm).1;have hP:=aM ms h1;have nn:=vp h1
 rcases h with ⟨h3,h6,hp⟩|⟨h8,h3,hp⟩
 ·have t:=vq (k:=5) ⋯ ms h6;have hl:(ms.length:Int)<=3:=by omega
  have m1:=Qj (show (ms.length:Int)+1<=4 by omega) hp %[0|8] ⋯;have m2:=Qj (show 2+(ms.length:Int)<=5 by omega) hp %[0|8] ⋯;exact⟨240,by omega,by decide,by omega,nn,by omega⟩
 ·have t:=wD h3 %[0|8];have hl:(ms.length:Int)<=8:=by omega
  have m1:=Qj (show (ms.length:Int)+1<=9 by omega) hp %[0|8] ⋯;have m2:=Qj (show 2+(ms.length:Int)<=10 by omega) hp %[0|8] ⋯;exact⟨486,by omega,by decide,by omega,nn,by omega⟩
theorem gu.done{ms ps:List Int}{u B:Int}(h:gu ms [] ps u B)(h1:∀ m∈ms,(1:Int)<=m)(hB:6<=B)(hb:(2+(ms.length:Int)) * ae ms+ki ms * (B+2)<=3960):PcK ms ps:=by
 have hu:=h.ule h1;have hP:=aM ms h1;rw [show 2+((ms.length:Int) - (([]:List Int).length:Int))=2+(ms.length:Int) by simp] at hu;have:=Q6 (show 0<=2+(ms.length:Int) by omega) (show 0<=ae ms by omega);exact⟨h.len,(2+(ms.length:Int)) * ae ms,B,by have:=h.sp;omega,h.pb,hB,this,hb⟩
def BD:List Int->List Int->Prop
 | [],[]=>True
 | s::ms,d::ds=>(d.natAbs:Int)<=s - 1/\BD ms ds
 | _,_=>False
theorem BD.len:∀ {ms d:List Int},BD ms d->d.length=ms.length
 | [],[],_=>rfl
 | [],_::_,h=>h.elim
 | _::_,[],h=>h.elim
 | _::ms,_::d,h=>Qk (· + 1) (BD.len h.2)
theorem dh(x p:Int)(xs ps:List Int):kl (x::xs) (p::ps)=x * p+kl xs ps:=by
 unfold kl;rw [List.zipWith_cons_cons,sum_cons]
theorem rB:∀ {ms d ps:List Int},BD ms d->ps.length=ms.length->((kl d ps).natAbs:Int)<=dG ms ps
 | [],[],[],_,_=>by decide
 | [],[],_::_,_,h=>by simp at h
 | [],_::_,_,h,_=>h.elim
 | _::_,[],_,h,_=>h.elim
 | _::_,_::_,[],_,h=>by simp at h
 | s::ms,x::d,p::ps,h,hl=>by
  have ih:=rB h.2 (ps:=ps) (by simpa using hl);rw [dh]
  show _<=(s - 1) * (p.natAbs:Int)+dG ms ps
  have h1:((x * p).natAbs:Int)<=(s - 1) * (p.natAbs:Int):=by
   rw [Int.natAbs_mul,Rn];exact O3 h.1 %[0|8]
  omega
theorem vL:∀ {d ps:List Int}{a:Nat}{p:Int},d.length=ps.length->a < ps.length->ps.getD a 0=0->kl d (ps.set a p)=kl d ps+d.getD a 0 * p
 | [],[],_,_,_,h,_=>by simp at h
 | [],_::_,_,_,h,_,_=>by simp at h
 | _::_,[],_,_,h,_,_=>by simp at h
 | x::d,q::ps,0,p,hl,ha,h0=>by
  have h0':q=0:=h0;subst h0';rw [List.set_cons_zero,dh,dh,Int.mul_zero]
  show x * p+kl d ps=0+kl d ps+x * p
  omega
 | x::d,q::ps,a+1,p,hl,ha,h0=>by
  have ih:=vL (d:=d) (ps:=ps) (a:=a) (p:=p) (by simpa using hl) (by simpa using ha) (by simpa using h0);rw [List.set_cons_succ,dh,dh,ih]
  show x * q+(kl d ps+d.getD a 0 * p)=x * q+kl d ps+d.getD a 0 * p
  omega
structure j9(ms ls ps:List Int)(u:Int):Prop where
 sps:dG ms ps < u
 ij:∀ d,BD ms d->kl d ps=0->∀ a:Nat,a < ms.length->¬ (a:Int)∈ls->d.getD a 0=0
theorem j9.init{ms:List Int}{u:Int}(u1:1<=u):j9 ms ((List.range ms.length).map λ (i:Nat)=>(i:Int)) (List.replicate ms.length 0) u:=
 ⟨by rw [jb];omega,λ d _ _ a ha hn=>absurd (OO.mpr ⟨a,Py.mpr ha,rfl⟩) hn⟩
theorem j9.step{ms ls es ps:List Int}{u B x b p:Int}(h:gu ms ls ps u B)(hJ:j9 ms ls ps u)(h1:∀ m∈ms,(1:Int)<=m)(hp:(x::es).Perm ls)(hb0:0<=b)(hpu:(p.natAbs:Int)=u):j9 ms es (ps.set x.toNat p) (u * gO ms x+b):=by
 have hxm:x∈ls:=hp.mem_iff.mp ON;have hx:=h.sub x hxm;have hz:=h.zer x hxm;have hl:=h.len;have hs:=hJ.sps;have hu:=h.u1;refine⟨?_,λ d hd h0 a ha hn=>?_⟩
 ·rw [lH ms ps x.toNat p hl %[0|8] hz,hpu]
  have e:(ms.getD x.toNat 0 - 1) * u=u * gO ms x - u:=by
   show (gO ms x - 1) * u=_
   rw [Int.sub_mul,Sz,PQ]
  rw [e];omega
 ·rw [vL (by rw [hd.len,hl]) %[0|8] hz] at h0;have hb:=rB hd hl
  have hdx:d.getD x.toNat 0=0:=by
   apply Rx;intro hne
   have:u<=((d.getD x.toNat 0 * p).natAbs:Int):=by
    rw [Int.natAbs_mul,Rn,hpu];have:=O3 (show (1:Int)<=((d.getD x.toNat 0).natAbs:Int) by omega) (show 0<=u by omega);omega
   omega
  by_cases hax:(a:Int)=x
  ·rw [←hax,OI] at hdx;exact hdx
  ·rw [hdx,Ru] at h0;refine hJ.ij d hd %[0|8] a ha λ hm=>?_
   rcases OU.mp (hp.mem_iff.mpr hm) with e|e
   ·exact hax e
   ·exact hn e
def y9(ms ps:List Int):Prop:=∀ d,BD ms d->kl d ps=0->∀ a:Nat,a < ms.length->d.getD a 0=0
theorem j9.done{ms ps:List Int}{u:Int}(h:j9 ms [] ps u):y9 ms ps:=λ d hd h0 a ha=>h.ij d hd h0 a ha (λ z=>by cases z)
theorem vK:∀ {x y ps:List Int},x.length=ps.length->y.length=ps.length->kl (List.zipWith (λ a b=>a - b) x y) ps=kl x ps - kl y ps
 | [],[],[],_,_=>rfl
 | _::_,_,[],h,_=>by simp at h
 | _,_::_,[],_,h=>by simp at h
 | [],_,_::_,h,_=>by simp at h
 | _,[],_::_,_,h=>by simp at h
 | a::x,b::y,p::ps,hx,hy=>by
  have ih:=vK (x:=x) (y:=y) (ps:=ps) (by simpa using hx) (by simpa using hy);rw [RM,dh,dh,dh,ih,Int.sub_mul];omega
theorem BD.sub:∀ {ms x y:List Int},InR ms x->InR ms y->BD ms (List.zipWith (λ a b=>a - b) x y)
 | [],[],[],_,_=>trivial
 | [],_::_,_,h,_=>h.elim
 | [],_,_::_,_,h=>h.elim
 | _::_,[],_,h,_=>h.elim
 | _::_,_,[],_,h=>h.elim
 | m::ms,a::x,b::y,hx,hy=>⟨by have:=hx.1;have:=hy.1;show ((a - b).natAbs:Int)<=m - 1;omega,BD.sub hx.2 hy.2⟩
theorem C8{ms ps:List Int}(hl:ps.length=ms.length):(ms.zip ps).map (λ a=>a.2)=ps:=by
 rw [show (λ a:Int × Int=>a.2)=Prod.snd from rfl,List.map_snd_zip %[0|8]]
theorem qU{ms ps:List Int}(hl:ps.length=ms.length):(ms.zip ps).map (λ a=>a.1)=ms:=by
 rw [show (λ a:Int × Int=>a.1)=Prod.fst from rfl,Ss %[0|8]]
theorem y9.nodup{ms ps:List Int}(h:y9 ms ps)(hs:∀ n∈ms,1<=n/\n<=1000000000)(hl:ps.length=ms.length)(f:Int):(ah f (ms.zip ps)).Nodup:=by
 have one:∀ a∈ms.zip ps,(1:Int)<=a.1:=λ a ha=>(hs a.1 (of_mem_zip (show (a.1,a.2)∈ms.zip ps from ha)).1).1;have hlen:=aJ f (ms.zip ps) one;rw [qU hl] at hlen;unfold List.Nodup;rw [List.pairwise_iff_getElem];intro i j hi hj hij e;have a:=kM one (getElem?_eq_getElem hi);have b:=kM one (getElem?_eq_getElem hj);rw [qU hl,C8 hl] at a b;rw [a,b] at e;have zi:InR ms (ao ms (i:Int)):=InR.split ms i hs;have zj:InR ms (ao ms (j:Int)):=InR.split ms j hs;have hd:=vK (x:=ao ms (i:Int)) (y:=ao ms (j:Int)) (ps:=ps) (by rw [bp,hl]) (by rw [bp,hl]);have hall:=h _ (BD.sub zi zj) %[0|8]
 have heq:ao ms (i:Int)=ao ms (j:Int):=by
  refine List.ext_getElem (by rw [bp,bp]) λ n h1 h2=>?_;have hn:n < ms.length:=by rw [bp] at h1;exact h1
  have:=hall n hn;rw [Qg,List.getElem?_zipWith,Ow h1,Ow h2] at this;have:(ao ms (i:Int))[n] - (ao ms (j:Int))[n]=0:=this;omega
 have:=ni (λ n hn=>(hs n hn).1) %[0|8] %[0|8] %[0|8] %[0|8] heq;omega
abbrev rP(K:PySem.W.Frag)(a:Addr)(ns:List Int)(p:Addr)(l:Addr)(H:Hp)(Q:VK)(E:XK):Prop:=p=a/\SqL K H a (ns.map V.int)/\ns.length<=63/\∃ ms:List Int,H l=some (.lst (ms.map V.int))/\SzK ms/\∀ (ps:List Int) (r:Addr) (H':Hp),Ext H H'->H' r=some (.lst (ps.map V.int))->PcK ms ps->y9 ms ps->Q (.ref r) H'
def uB(K:W.Frag)(a:Addr)(ns:List Int):Sp:=λ vs H Q E=>∃ (p:Addr) (l:Addr),vs=[.ref p,.ref l]/\(rP K a ns p l H Q E)
theorem By(K:W.Frag)(a:Addr)(ns:List Int)(p:Addr)(l:Addr)(H:Hp)(Q:VK)(E:XK):uB K a ns [.ref p,.ref l] H Q E=(rP K a ns p l H Q E):=jV (f:=λ (p:Addr) (l:Addr)=>[.ref p,.ref l]) (λ _ _ _ _ h=>by cases h;exact⟨rfl,rfl⟩) p l
theorem AE(K:W.Frag)(a:Addr)(ns:List Int){vs:List V}{H:Hp}{Q:VK}{E:XK}(h:uB K a ns vs H Q E):vs.length=2:=jW h λ _ _=>rfl
theorem oA(T:Tx K mg t)(a:Addr)(ns:List Int):bL P w K mg base CX0 2 t.a__law_once t.d__law_once ["_law_script", "_law_sizes_here"] (uB K a ns):=by
 have G__law_draw:=%[bY|41] a ns;have G__law_digits:=%[cE|41];refine T.F__law_once.ok bo (λ vs H Q E h=>AE _ _ _ h) (λ c A o s H vs Q E hr h=>?_)
 ·obtain⟨_,l,rfl,rfl,hS,hl,ms,hm,hsz,kk⟩:=h;rename_i a;refine⟨_,%[%[2,bo,%[aK,%[0|2],%[_law_draw,%[%[0|0],%[%[0|2],%[%[0|2]|1]|1]|1]|3]|11]|4],%[%[3,bo,%[_law_draw,%[%[0|0],%[%[0|2],%[%[0|2]|1]|1]|1]|3]|4],%[%[4,bo,%[_law_digits,%[%[_law_draw,%[%[0|0],%[%[0|2],%[%[0|2]|1]|1]|1]|3],%[%[0|2],%[%[len,au,%[%[1|0]|1]|6]|1]|1]|1]|3]|4],%[%[5,bo,%[DN,%[%[%[0|2]|1]|16],%[len,au,%[%[1|0]|1]|6]|11]|4],%[%[6,bo,(@oo _ _ _ _ _ _ _ rfl ∅ T.z_list ∅ T.z_range %[%[len,au,%[%[1|0]|1]|6]|1] ∅ ∅ ∅)|4],%[(@rk _ _ _ _ _ _ OV %[(cS hr.units),%[6|0],%[(@bw _)|16],(ar _)|14] %[%[7,bo,%[O4,PySem.F.slot_list_pop,PySem.F.type_list_pop,w9,%[6|0],%[%[iV,%[3|0],%[len,au,%[%[6|0]|1]|6]|11]|1],∅,∅,∅,∅,∅|34]|4],%[%[3,bo,%[iZ,%[3|0],%[aK,%[len,au,%[%[6|0]|1]|6],%[0|2]|11]|11]|4],%[(@uO _ _ _ _ _ _ %[dI,%[2|0],%[cp,%[%[%[0|2],%[(@oU _ _ _ _ _ _ fT %[0|2]),%[%[0|2],%[(@oU _ _ _ _ _ _ fT %[0|2])|1]|1]|1]|1]|16],%[cp,%[4|0],%[7|0],(λ _ _=>rfl)|13],(λ _ _=>rfl)|13]|11] (@HQ _ _ _ _ _ _ _ %[5|0] %[7|0] zB (by intros;rfl)) ∅ ∅ ∅),%[%[2,bo,%[aK,%[dI,%[2|0],%[cp,%[1|0],%[7|0],(λ _ _=>rfl)|13]|11],%[iZ,%[cp,%[4|0],%[7|0],(λ _ _=>rfl)|13],%[0|2]|11]|11]|4]|10]|9]|9]|9]),%[%[%[5|0]|12]|10]|9]|9]|9]|9]|9]|9],?_⟩;rw [show aA ["_law_script", "_law_sizes_here", "_law_unit", "_law_turn", "_law_signs", "_law_paces", "_law_left", "_law_axis"] [.ref a,.ref l]=[some (.ref a),some (.ref l),none,none,none,none,none,none] from rfl];clear G__law_draw G__law_digits;have h8:=hsz.pos.2.1;have one:∀ m∈ms,(1:Int)<=m:=λ m hm=>(hsz.pos.1 m hm).1;have m6:∀ m∈ms,m<=6:=λ m hm=>(hsz.pos.1 m hm).2;have p60:=hsz.pos.2.2;obtain⟨B,hB1,hB6,hBb,_,_⟩:=hsz.bounds;exists kk;exists one;exists m6;exists hB1;exists hBb;have n8:(ms.length:Int)<=8:=by omega
  ac_rfl;rw [aB];refine⟨hS,hl,⟨by decide,by decide⟩,by decide,λ u0 u00 u01=>?_⟩;ac_rfl;rw [aB];refine⟨hS,hl,⟨by decide,by decide⟩,by decide,λ tn t0 t1=>?_⟩;ac_rfl;rw [aB];refine⟨hS,hl,⟨by decide,by decide⟩,by decide,λ c c0 c1=>?_⟩;ac_rfl;rw [ic];refine⟨by decide,by decide,by omega,n8,λ ds d H1 hd1 e1 h1 hdl hdb=>?_⟩;have hm1:=e1.at hm;have hle:((List.replicate ms.length [V.int 0]).flatten).length<=sizeLine:=by rw [rf,OB,Rb];exact ag %[0|8]
  ac_rfl;intro z1 H2 hz1 e2 h2;have hm2:=e2.at hm1;clear hz1;ac_rfl;refine⟨by omega,by omega,ag (by simp;omega),?_⟩;intro r H3 hr3 e3 h3;rw [Int.toNat_natCast,rf] at h3;have hm3:=e3.at hm2;clear hm1 hm2 h2;ac_rfl;rw [Lc];refine⟨by omega,by omega,?_⟩;intro lf H4 hlf e4 h4;have hrng:yM (ms.length:Int)=((List.range ms.length).map λ (i:Nat)=>(i:Int)).map V.int:=by unfold yM;rw [map_map,Int.toNat_natCast];rfl
  rw [hrng] at h4;have h3_4:=e4.at h3;have e04:=e1.trans (e2.trans (e3.trans e4));have hm4:=e04.at hm;have h1_4:=(e2.trans (e3.trans e4)).at h1;have hlf0:H lf=none:=(e1.trans (e2.trans e3)).free hlf;have hr0:H r=none:=(e1.trans e2).free hr3;have hlr:lf ≠ r:=λ z=>by rw [z,h3] at hlf;cases hlf
  have nl:l ≠ lf:=λ z=>by rw [←z,hm3] at hlf;cases hlf
  have nlr:l ≠ r:=λ z=>by rw [←z,(e1.trans e2).at hm] at hr3;cases hr3
  have ndf:d ≠ lf:=λ z=>by rw [←z,(e2.trans e3).at h1] at hlf;cases hlf
  have ndr:d ≠ r:=λ z=>by rw [←z,e2.at h1] at hr3;cases hr3
  have inj0:=j9.init (ms:=ms) (show 1<=1+u0 by omega);have ini:=gu.init (ms:=ms) (B:=B) (one ()) (show 1<=1+u0 by omega) %[0|8] %[0|8];exists hdl;exists hdb;clear h1 h3 hm3 hd1 hrng e1 e2 e3 e4 hlf hr3 hsz p60 c0 c1 t1 u00 u01;ac_rfl;refine vk (by repeat' first|exact Hc|exact mo_nI0|exact mo_nI|apply rp|apply mo_unN|exact uT|exact MS|exact mo_rI0|exact mo_rI|exact mo_rIsN|exact rn|exact BY|exact mo_qIx|exact BZ|exact mo_qLen|apply pI|apply mo_tB|apply mo_not|apply mo_and|apply mo_or|apply Hd|apply mo_un|apply mo_cons|apply vG|apply mo_cb) (λ m σ H'=>∃ (ls ps:List Int) (u tn:Int) (v7:Option V),σ=[some (.ref a),some (.ref l),some (.int u),some (.int tn),some (.ref d),some (.ref r),some (.ref lf),v7]/\m=ls.length/\Ext H H'/\H' l=some (.lst (ms.map V.int))/\H' lf=some (.lst (ls.map V.int))/\H' r=some (.lst (ps.map V.int))/\H' d=some (.lst (ds.map V.int))/\0<=tn/\gu ms ls ps u B/\j9 ms ls ps u) _ ⟨_,_,_,tn,none,rfl,rfl,e04,hm4,h4,h3_4,h1_4,t0,ini,inj0⟩ ?_;rintro m _ H5 ⟨ls,ps,u,tn,v7,rfl,rfl,e5,hm5,hl5,hr5,hd5,tn0,hI,hJ⟩;clear h4 h3_4 h1_4 hm4 e04 ini inj0
  cases ls with
  | nil=>
   have fin:=hI.done (one ()) hB6 (hBb ());have finJ:=hJ.done;exists fin;exists finJ;clear hI hJ;ac_rfl;intro q H6 hq e6 h6;have hl6:=e6.at hl5;have k1:=kk () ps r H6 (e5.trans e6) (e6.at hr5) (fin ()) (finJ ());clear hl5 kk fin finJ hq;ac_rfl
  | cons l0 ls=>
   have hlen:=hI.lle;rw [Ph] at hlen;have hule:=hI.ule (one ());have hu1:=hI.u1;have hsub:=hI.sub;exists hI;exists hJ;exists hule;exists hsub;ac_rfl;intro q H6 hq e6 h6;have hl6:=e6.at hl5;clear hl5 hq;have i0:=Px tn (show ((ls.length+1:Nat):Int) ≠ 0 by omega);have i1:=Pl tn (show (0:Int) < ((ls.length+1:Nat):Int) by omega);ac_rfl;generalize hix:(tn % ((ls.length+1:Nat):Int))=ix at i0 i1 ⊢;refine⟨by omega,by omega,?_⟩;obtain⟨x,hx⟩:∃ x,(l0::ls)[ix.toNat]? = some x:=⟨_,Ow (by rw [Ph];omega)⟩
   have hx':(V.int l0::List.map V.int ls)[ix.toNat]? = some (.int x):=by
    show ((l0::ls).map V.int)[ix.toNat]? = _
    rw [OL,hx];rfl
   have hxm:0<=x/\x < (ms.length:Int):=hsub () x (OX hx)
   have her:(V.int l0::List.map V.int ls).eraseIdx ix.toNat=((l0::ls).eraseIdx ix.toNat).map V.int:=by
    rw [show (V.int l0::List.map V.int ls)=(l0::ls).map V.int from rfl,kJ]
   have hle':((l0::ls).eraseIdx ix.toNat).length=ls.length:=by rw [List.length_eraseIdx_of_lt (by rw [Ph];omega)];rfl
   rw [hx',jm,Am,her];have hpe:=kI hx;generalize (l0::ls).eraseIdx ix.toNat=es at hle' hpe ⊢;have hl7:(upd H6 lf (.lst (es.map V.int))) lf=some (.lst (es.map V.int)):=aq;have hr7:(upd H6 lf (.lst (es.map V.int))) r=some (.lst (ps.map V.int)):=by rw [af (OK hlr)];exact e6.at hr5
   have hd7:(upd H6 lf (.lst (es.map V.int))) d=some (.lst (ds.map V.int)):=by rw [af ndf];exact e6.at hd5
   have hm7:(upd H6 lf (.lst (es.map V.int))) l=some (.lst (ms.map V.int)):=by rw [af nl];exact e6.at hm5
   have e7:Ext H (upd H6 lf (.lst (es.map V.int))):=(e5.trans e6).put hlf0;generalize upd H6 lf (.lst (es.map V.int))=H7 at hl7 hr7 hd7 hm7 e7 ⊢;obtain⟨z,hz,hzm⟩:=ma ds x hxm.1 (by have:=hdl ();omega);have hzb:=hdb () z hzm;have hat:=fW (vals:=ms) hxm.1 hxm.2;have hin:=lA (ms:=ms) hxm.1 hxm.2;have hs1:=one () _ hin;have hs6:=m6 () _ hin;have hpl:ps.length=ms.length:=(hI ()).len;have hixp:ixN ps.length x=some x.toNat:=Mf hxm.1 (by rw [hpl];exact hxm.2)
   replace hule:u<=3960:=by
    have hP:=aM ms (one ());have hb:=hBb ();have:=hule ();rw [Ph] at this;have m1:(2+((ms.length:Int) - ((ls.length+1:Nat):Int))) * ae ms<=(2+(ms.length:Int)) * ae ms:=O3 %[0|8] %[0|8];have nn:=Q6 (vp (one ())) (show 0<=B+2 by omega);omega
   have cmz:mK u (ms.getD x.toNat 0):=.inr ⟨by omega,by omega⟩;have stp:=λ (b p:Int) hb0 hb1 hpu=>(hI ()).step (b:=b) (p:=p) (one ()) hpe hb0 hb1 hpu (hB1 ());have stj:=λ (b p:Int) hb0 hpu=>j9.step (b:=b) (p:=p) (hI ()) (hJ ()) (one ()) hpe hb0 hpu;exists stj;exists stp;exists hzb;exists hs1;exists hs6;exists hpl;clear hl6 hr5 hd5 hm5 h6 hx' her hx hix hI hJ hsub hpe hin i0 i1 e5 e6;ac_rfl;refine⟨%[0|8],?_⟩;intro w2 H8 hw2 e8 h8;have hd8:=e8.at hd7;clear hw2;ac_rfl;refine gA (λ j=>j=1\/j=-1) (hzb ()).1 (show z < 4 from (hzb ()).2) (λ v hv=>?_) λ j hj=>?_
   ·simp only [OU,OJ,O6] at hv
    rcases hv with rfl|rfl|rfl|rfl
    ·exact⟨_,rfl,.inl rfl⟩
    ·exact⟨_,rfl,.inr rfl⟩
    ·exact⟨_,rfl,.inl rfl⟩
    ·exact⟨_,rfl,.inr rfl⟩
   have hja:((u * j).natAbs:Int)=u:=by
    rcases hj with rfl|rfl
    ·rw [Ro];omega
    ·omega
   have cmj:mK u j:=.inl ⟨by omega,by omega⟩;have hr8:=e8.at hr7;have hz2:0<=z / 2/\z / 2<=1:=by have:=hzb ();omega
   have fin:=λ (_:Unit)=>stp () (z / 2) (u * j) hz2.1 hz2.2 hja;have finJ:=λ (_:Unit)=>stj () (z / 2) (u * j) hz2.1 hja;clear h8 stp stj hj hja;ac_rfl;rw [Ad];have hm9:upd H8 r (.lst ((ps.set x.toNat (u * j)).map V.int)) l=some (.lst (ms.map V.int)):=by rw [af nlr];exact e8.at hm7
   have hl9:upd H8 r (.lst ((ps.set x.toNat (u * j)).map V.int)) lf=some (.lst (es.map V.int)):=by rw [af hlr];exact e8.at hl7
   have hd9:upd H8 r (.lst ((ps.set x.toNat (u * j)).map V.int)) d=some (.lst (ds.map V.int)):=by rw [af ndr];exact hd8
   have hr9:upd H8 r (.lst ((ps.set x.toNat (u * j)).map V.int)) r=some (.lst ((ps.set x.toNat (u * j)).map V.int)):=aq;have e9:Ext H (upd H8 r (.lst ((ps.set x.toNat (u * j)).map V.int))):=(e7.trans e8).put hr0;generalize upd H8 r (.lst ((ps.set x.toNat (u * j)).map V.int))=H9 at hm9 hl9 hd9 hr9 e9 ⊢;clear hr8 hd8 hr7 hd7 hm7 hl7 e8;ac_rfl;exact⟨es.length,by omega,es,ps.set x.toNat (u * j),_,_,_,rfl,rfl,e9,rfl,rfl,Int.ediv_nonneg tn0 %[0|8],fin (),finJ ()⟩
def OtK(ms ps qs:List Int):Prop:=qs.length=ms.length/\∀ B:Int,6<=B->(∀ p∈ps,(p.natAbs:Int)<=B)->∀ q∈qs,(q.natAbs:Int)<=B+2
theorem rC(xs:List V)(z:Int)(h:0<=z):jU xs (some z) none=xs.drop z.toNat:=by
 unfold jU;obtain⟨n,rfl⟩:=Int.eq_ofNat_of_zero_le h;rw [HT.sIx_none,HT.sIx_nat]
 show _=xs.drop n
 rcases Sl n xs.length with q|q
 ·rw [QO q];exact Qt (by rw [P0];omega)
 ·rw [RI q,QV (OC _),QV q,List.take_nil]
theorem ve(xs:List V)(z:Int)(h:0<=z):jU xs none (some z)=xs.take z.toNat:=by
 unfold jU;obtain⟨n,rfl⟩:=Int.eq_ofNat_of_zero_le h;rw [HT.sIx_none,HT.sIx_nat,List.drop_zero,Nat.sub_zero]
 show xs.take (min n xs.length)=xs.take n
 rcases Sl n xs.length with q|q
 ·rw [QO q]
 ·rw [RI q,P6,Qt q]
theorem fS{l b:Addr}{xs ys:List V}{H:Hp}{Q:VK}(h:H l=some (.lst xs))(h':H b=some (.lst ys))(hl:xs.length+ys.length<=sizeLine)(q:iF (.lst (xs++ys)) H Q):Kc Ka (.ref l) Q (.ref b) H:=by
 rw [B2,B1,av,h]
 show az (av H b) (Ke xs H Q)
 rw [av,h'];exact⟨hl,q⟩
theorem OtK.refl{ms ps:List Int}(h:ps.length=ms.length):OtK ms ps ps:=⟨h,λ B _ hb q hq=>by have:=hb q hq;omega⟩
theorem OtK.put{ms ps:List Int}{x:Nat}{z:Int}(h:ps.length=ms.length)(hx:x < ps.length)(hz:∀ B:Int,6<=B->(∀ p∈ps,(p.natAbs:Int)<=B)->(z.natAbs:Int)<=B+2):OtK ms ps (ps.take x++[z]++ps.drop (x+1)):=by
 refine⟨by rw [OR,OR,O8,P0,PU];omega,λ B h6 hb q hq=>?_⟩
 rcases OQ.mp hq with hq|hq
 ·rcases OQ.mp hq with hq|hq
  ·have:=hb q (PC hq);omega
  ·rw [OE.mp hq];exact hz B h6 hb
 ·have:=hb q (Qh hq);omega
theorem OtK.turn{ms ps:List Int}{x:Nat}(h:ps.length=ms.length)(hx:x < ps.length):OtK ms ps (ps.drop x++ps.take x):=by
 refine⟨by rw [OR,O8,P0];omega,λ B h6 hb q hq=>?_⟩
 rcases OQ.mp hq with hq|hq
 ·have:=hb q (Qh hq);omega
 ·have:=hb q (PC hq);omega
theorem OtK.small{ms ps qs:List Int}(h:qs.length=ms.length)(hq:∀ q∈qs,-6<=q/\q<=6):OtK ms ps qs:=⟨h,λ B h6 _ q hm=>by have:=hq q hm;omega⟩
abbrev rO(K:PySem.W.Frag)(a:Addr)(ns:List Int)(p:Addr)(l:Addr)(H:Hp)(Q:VK)(E:XK):Prop:=p=a/\SqL K H a (ns.map V.int)/\ns.length<=63/\∃ ms ps:List Int,H l=some (.lst (ps.map V.int))/\ps.length=ms.length/\ps.length<=8/\∀ (qs:List Int) (r:Addr) (H':Hp),Ext H H'->H' r=some (.lst (qs.map V.int))->OtK ms ps qs->Q (.ref r) H'
def uA(K:W.Frag)(a:Addr)(ns:List Int):Sp:=λ vs H Q E=>∃ (p:Addr) (l:Addr),vs=[.ref p,.ref l]/\(rO K a ns p l H Q E)
theorem Bx(K:W.Frag)(a:Addr)(ns:List Int)(p:Addr)(l:Addr)(H:Hp)(Q:VK)(E:XK):uA K a ns [.ref p,.ref l] H Q E=(rO K a ns p l H Q E):=jV (f:=λ (p:Addr) (l:Addr)=>[.ref p,.ref l]) (λ _ _ _ _ h=>by cases h;exact⟨rfl,rfl⟩) p l
theorem AD(K:W.Frag)(a:Addr)(ns:List Int){vs:List V}{H:Hp}{Q:VK}{E:XK}(h:uA K a ns vs H Q E):vs.length=2:=jW h λ _ _=>rfl
theorem kg(T:Tx K mg t)(a:Addr)(ns:List Int):bL P w K mg base CX0 2 t.a__law_others t.d__law_others ["_law_script", "_law_paces"] (uA K a ns):=by
 have G__law_draw:=%[bY|41] a ns;have G__law_digits:=%[cE|41];refine T.F__law_others.ok cQ (λ vs H Q E h=>AD _ _ _ h) (λ c A o s H vs Q E hr h=>?_)
 ·obtain⟨_,l,rfl,rfl,hS,hl,ms,ps,hp,hpl,hp8,kk⟩:=h;rename_i a;refine⟨_,%[%[2,cQ,%[_law_draw,%[%[0|0],%[%[0|2],%[%[0|2]|1]|1]|1]|3]|4],%[%[3,cQ,%[_law_draw,%[%[0|0],%[%[0|2],%[%[0|2]|1]|1]|1]|3]|4],%[%[(PW.pt %[%[oV,%[2|0],%[0|2],(ar _)|14],(@gv _ _ _ _ %[(dH hr.units),%[1|0],%[(@bw _)|16],(ar _)|14])|36]),%[%[%[fC,∅,T.z_list,nofun,%[%[1|0]|1],⋯,⋯,∅,∅|38]|12]|10],(@ak _)|17],%[%[4,cQ,%[iV,%[3|0],%[len,au,%[%[1|0]|1]|6]|11]|4],%[%[%[(dH hr.units),%[2|0],%[0|2],(ar _)|14],%[%[%[bJ,%[bJ,%[oR,%[1|0],(@aQ _),%[%[4|0]|22]|24],%[%[%[eQ,%[0|2],%[cp,%[1|0],%[4|0],(λ _ _=>rfl)|13]|11]|1]|16]|11],%[oR,%[1|0],%[%[aK,%[4|0],%[0|2]|11]|22],(@aQ _)|24]|11]|12]|10],(@ak _)|17],%[%[%[(dH hr.units),%[2|0],%[0|2],(ar _)|14],%[%[%[bJ,%[oR,%[1|0],%[%[4|0]|22],(@aQ _)|24],%[oR,%[1|0],(@aQ _),%[%[4|0]|22]|24]|11]|12]|10],(@ak _)|17],%[%[%[(dH hr.units),%[2|0],%[0|2],(ar _)|14],%[%[%[(["_law_digit", "_law_script", "_law_paces", "_law_way", "_law_k", "_law_axis"]),(1),(aC (aa cP) ["_law_script", "_law_paces", "_law_way", "_law_k", "_law_axis"] rfl rfl nofun),rfl,%[%[_law_digits,%[%[_law_draw,%[%[0|0],%[%[0|2],%[%[0|2]|1]|1]|1]|3],%[%[0|2],%[%[len,au,%[%[1|0]|1]|6]|1]|1]|1]|3]|20],(λ C s₀ H₀ ex pn=>%[(0),_,(show List.Nodup (["_law_digit", "_law_script", "_law_paces", "_law_way", "_law_k", "_law_axis"]:List Str) from by decide +kernel),rfl,(Or.inl rfl),%[0|7]|15]),(λ C s₀ H₀ ex pn=>(@aV _)),(λ C s₀ H₀ ex pn=>%[eQ,%[0|0],%[0|2]|11]),(by intros;rfl)|25]|12]|10],(@ak _)|17],%[%[%[(dH hr.units),%[2|0],%[0|2],(ar _)|14],%[%[%[bJ,%[bJ,%[oR,%[1|0],(@aQ _),%[%[4|0]|22]|24],%[%[%[0|2]|1]|16]|11],%[oR,%[1|0],%[%[aK,%[4|0],%[0|2]|11]|22],(@aQ _)|24]|11]|12]|10],(@ak _)|17],%[%[%[bJ,%[bJ,%[oR,%[1|0],(@aQ _),%[%[4|0]|22]|24],%[%[%[aK,%[cp,%[1|0],%[4|0],(λ _ _=>rfl)|13],%[cp,%[%[%[0|2],%[(@oU _ _ _ _ _ _ fT %[0|2]),%[%[0|2]|1]|1]|1]|16],%[iV,%[iZ,%[3|0],%[0|2]|11],%[0|2]|11],(λ _ _=>rfl)|13]|11]|1]|16]|11],%[oR,%[1|0],%[%[aK,%[4|0],%[0|2]|11]|22],(@aQ _)|24]|11]|12]|10]|9]|9]|9]|9]|9]|9]|9]|9],?_⟩;rw [show aA ["_law_script", "_law_paces", "_law_way", "_law_k", "_law_axis"] [.ref a,.ref l]=[some (.ref a),some (.ref l),none,none,none] from rfl];clear G__law_draw G__law_digits;exists kk;exists hpl;ac_rfl;rw [aB];refine⟨hS,hl,⟨by decide,by decide⟩,by decide,λ wy w0 w1=>?_⟩;ac_rfl;rw [aB];refine⟨hS,hl,⟨by decide,by decide⟩,by decide,λ k k0 k1=>?_⟩
  by_cases hw3:wy < 3
  ·ac_rfl;intro r1 H1 hr1 e1 h1;exact kk () ps r1 H1 e1 h1 (OtK.refl (hpl ()))
  ·cases hps:ps with
   | nil=>
    have hp':H l=some (.lst []):=by rw [hp,hps];rfl
    clear hp;ac_rfl;intro r1 H1 hr1 e1 h1;have hp1:=e1.at hp';clear hr1 hp';ac_rfl;intro r2 H2 hr2 e2 h2;exact kk () ps r2 H2 (e1.trans e2) (by rw [h2,hps];rfl) (OtK.refl (hpl ()))
   | cons y0 ys=>
   have hpos:0 < (ps.length:Int):=by rw [hps,Ph];omega
   have hne:¬ ps=[]:=λ z=>by rw [hps] at z;cases z
   have hp':H l=some (.lst (.int y0::ys.map V.int)):=by rw [hp,hps];rfl
   have hlen:ps.length=ys.length+1:=by rw [hps];rfl
   have x0:=Px k (show (ps.length:Int) ≠ 0 by omega);have x1:=Pl k hpos;obtain⟨x,hx⟩:∃ x,k % ((ys.length+1:Nat):Int)=x:=⟨_,rfl⟩;rw [hlen,hx] at x0 x1;clear hp;ac_rfl;intro r1 H1 hr1 e1 h1;have hp1:=e1.at hp';have hS1:=e1.2 K a _ hS;clear hr1 hp';have hcons:V.int y0::ys.map V.int=ps.map V.int:=by rw [hps];rfl
   have hxl:x.toNat < ps.length:=by omega
   have hat:atI (V.int y0::ys.map V.int) x=some (.int (ps.getD x.toNat 0)):=by rw [hcons];exact fW x0 (by rw [hlen];exact x1)
   have hpin:ps.getD x.toNat 0∈ps:=by
    rw [List.getD,Ow hxl];exact P7 hxl
   have hpos':(0:Int) < ((ys.length+1:Nat):Int):=by omega
   have ct:=ve (.int y0::ys.map V.int) x x0;have cf:=rC (.int y0::ys.map V.int) x x0;have cf1:=rC (.int y0::ys.map V.int) (x+1) %[0|8];rw [show (x+1).toNat=x.toNat+1 by omega] at cf1;have hys:ys.length+1<=8:=by omega
   exists hcons;exists hlen;clear hps hpos hne hS hp8
   by_cases h3:wy=3
   ·ac_rfl;intro r2 H2 hr2 e2 h2;have hp2:=e2.at hp1;have hS2:=e2.2 K a _ hS1;clear hr2;ac_rfl;intro q2 G2 hq2 g2 k2;have h_2:=g2.at h2;have hp_2:=g2.at hp2;clear hq2 h2 hp2;refine fS h_2 k2 (ag (by rw [O8,PU,Ph,OB];omega)) ?_;intro q3 G3 hq3 g3 k3;have hp_3:=g3.at hp_2;clear hq3 h_2 k2 hp_2;ac_rfl;intro q4 G4 hq4 g4 k4;have k3_4:=g4.at k3;clear hq4 k3 hp_3;refine fS k3_4 k4 (ag (by rw [OR,O8,P0,PU,Ph,OB];omega)) ?_;intro q5 G5 hq5 g5 k5;have fin:=kk () (ps.take x.toNat++[0 - ps.getD x.toNat 0]++ps.drop (x.toNat+1)) q5 G5 (e1.trans (e2.trans (g2.trans (g3.trans (g4.trans g5))))) (by rw [k5,hcons (),Pz,Pz,Sw,R7];rfl) (OtK.put (hpl ()) hxl λ B h6 hb=>by have:=hb _ hpin;omega);clear kk k3_4 k4 k5;ac_rfl
   by_cases h4:wy=4
   ·ac_rfl;intro r2 H2 hr2 e2 h2;have hp2:=e2.at hp1;clear hr2;ac_rfl;intro r3 H3 hr3 e3 h3';have h2_3:=e3.at h2;clear hr3 h2 hp2;refine fS h2_3 h3' (ag (by rw [O8,P0,Ph,OB];omega)) ?_;intro r4 H4 hr4 e4 h4';have fin:=kk () (ps.drop x.toNat++ps.take x.toNat) r4 H4 (e1.trans (e2.trans (e3.trans e4))) (by rw [h4',hcons (),Pz,Sw,R7]) (OtK.turn (hpl ()) hxl);clear kk h2_3 h3' h4';ac_rfl
   by_cases h5:wy=5
   ·ac_rfl;rw [aB];refine⟨hS1,hl,⟨by decide,by decide⟩,by decide,λ c c0 c1=>?_⟩;ac_rfl;rw [ic];refine⟨by decide,by decide,by omega,by omega,λ ds d H2 hd2 e2 h2 hdl hdb=>?_⟩;have hd8:ds.length<=9:=by omega
    exists hdl;exists hdb;clear hd2;ac_rfl;refine bK (ds.map V.int) (λ _=>true) (λ z=>.int (vi z - 6)) (λ z x H'=>x=z/\H' d=some (.lst (ds.map V.int))) (mR h2).1 (mR h2).2 (ag (by rw [OB];omega)) ?_ ?_
    ·intro D z y H' N1 N0 hz hD e ⟨hy,_⟩ kx _;subst hy;obtain⟨i,_,rfl⟩:=OO.mp hz;have k1':N1 (.int (i - 6)) H':=kx rfl H' (Ext.refl _);clear kx kk hz;simp! only [↓bh,↓ba]
    ·intro D H3 hD e3 h3';rw [jX,PF] at h3'
     have fin:=kk () (ds.map λ i=>i - 6) D H3 (e1.trans (e2.trans e3)) (by rw [h3',PF];rfl) (OtK.small (by rw [OB,←hpl ()];have:=hdl ();have:=hlen ();omega) λ q hq=>by
      obtain⟨i,hi,rfl⟩:=OO.mp hq;have:=hdb () i hi;omega)
     clear kk h3';ac_rfl
   by_cases h6:wy=6
   ·ac_rfl;intro r2 H2 hr2 e2 h2;have hp2:=e2.at hp1;have hS2:=e2.2 K a _ hS1;clear hr2;ac_rfl;intro q2 G2 hq2 g2 k2;have h_2:=g2.at h2;have hp_2:=g2.at hp2;clear hq2 h2 hp2;refine fS h_2 k2 (ag (by rw [O8,PU,Ph,OB];omega)) ?_;intro q3 G3 hq3 g3 k3;have hp_3:=g3.at hp_2;clear hq3 h_2 k2 hp_2;ac_rfl;intro q4 G4 hq4 g4 k4;have k3_4:=g4.at k3;clear hq4 k3 hp_3;refine fS k3_4 k4 (ag (by rw [OR,O8,P0,PU,Ph,OB];omega)) ?_;intro q5 G5 hq5 g5 k5;have fin:=kk () (ps.take x.toNat++[0]++ps.drop (x.toNat+1)) q5 G5 (e1.trans (e2.trans (g2.trans (g3.trans (g4.trans g5))))) (by rw [k5,hcons (),Pz,Pz,Sw,R7];rfl) (OtK.put (hpl ()) hxl λ B h6 hb=>by show (0:Int)<=B+2;omega);clear kk k3_4 k4 k5;ac_rfl
   ·have m0:=Px (k / 8) (show (3:Int) ≠ 0 by decide);have m1:=Pl (k / 8) (show (0:Int) < 3 by decide);ac_rfl;intro r2 H2 hr2 e2 h2;have hp2:=e2.at hp1;have hS2:=e2.2 K a _ hS1;clear hr2;ac_rfl;intro q1 G1 hq1 g1 k1;clear hq1;ac_rfl;refine gA (λ j=>-1<=j/\j<=2) m0 m1 (λ v hv=>?_) λ j hj=>?_
    ·simp only [OU,OJ,O6] at hv
     rcases hv with rfl|rfl|rfl<;>exact⟨_,rfl,by decide⟩
    clear k1;ac_rfl;intro q2 G2 hq2 g2 k2;have h_2:=(g1.trans g2).at h2;have hp_2:=(g1.trans g2).at hp2;clear hq2 h2 hp2;refine fS h_2 k2 (ag (by rw [O8,PU,Ph,OB];omega)) ?_;intro q3 G3 hq3 g3 k3;have hp_3:=g3.at hp_2;clear hq3 h_2 k2 hp_2;ac_rfl;intro q4 G4 hq4 g4 k4;have k3_4:=g4.at k3;clear hq4 k3 hp_3;refine fS k3_4 k4 (ag (by rw [OR,O8,P0,PU,Ph,OB];omega)) ?_;intro q5 G5 hq5 g5 k5;have fin:=kk () (ps.take x.toNat++[ps.getD x.toNat 0+j]++ps.drop (x.toNat+1)) q5 G5 (e1.trans (e2.trans (g1.trans (g2.trans (g3.trans (g4.trans g5)))))) (by rw [k5,hcons (),Pz,Pz,Sw,R7];rfl) (OtK.put (hpl ()) hxl λ B h6 hb=>by have:=hb _ hpin;omega);clear kk k3_4 k4 k5;ac_rfl
abbrev wa  (l:Addr) (r:Addr) (H:Hp) (Q:VK) (E:XK):Prop:=∃ ms ps:List Int,H l=some (.lst (ms.map V.int))/\H r=some (.lst (ps.map V.int))/\(∀ m∈ms,1<=m/\m<=6)/\ms.length<=8/\ps.length=ms.length/\∀ H',Ext H H'->Q (.int (aR (ms.zip ps))) H'
def Cn  : Sp:=λ vs H Q E=>∃ (l:Addr) (r:Addr),vs=[.ref l,.ref r]/\(wa  l r H Q E)
theorem pQ  (l:Addr) (r:Addr) (H:Hp) (Q:VK) (E:XK):Cn  [.ref l,.ref r] H Q E=(wa  l r H Q E):=jV (f:=λ (l:Addr) (r:Addr)=>[.ref l,.ref r]) (λ _ _ _ _ h=>by cases h;exact⟨rfl,rfl⟩) l r
theorem Fo  {vs:List V}{H:Hp}{Q:VK}{E:XK}(h:Cn  vs H Q E):vs.length=2:=jW h λ _ _=>rfl
theorem ml(T:Tx K mg t):bL P w K mg base CX0 1 t.a__law_least t.d__law_least ["_law_sizes_here", "_law_paces"] Cn:=by
 refine T.F__law_least.ok oM (λ vs H Q E h=>Fo h) (λ c A o s H vs Q E hr h=>?_)
 ·obtain⟨l,r,rfl,ms,ps,hm,hp,h6,h8,hpl,k⟩:=h;refine⟨_,%[%[%[sum,(gD rfl),%[%[(["_law_size", "_law_pace", "_law_sizes_here", "_law_paces"]),(2),(aC (aa di) ["_law_sizes_here", "_law_paces"] rfl rfl nofun),rfl,(@mW _ _ _ _ _ _ _ _ _ ∅ T.z_zip %[%[0|0],%[%[1|0]|1]|1] ∅ ∅),(λ C s₀ H₀ ex pn=>(%[(2),rfl,%[%[(0),_,(show List.Nodup (["_law_size", "_law_pace", "_law_sizes_here", "_law_paces"]:List Str) from by decide +kernel),rfl,(Or.inl rfl),%[0|7]|15],%[%[(1),_,(show List.Nodup (["_law_size", "_law_pace", "_law_sizes_here", "_law_paces"]:List Str) from by decide +kernel),rfl,(Or.inl rfl),%[0|7]|15],(@aT _),∅|18],∅|18],∅,∅|26].mono λ _ _ _ _ h=>cH h)),(λ C s₀ H₀ ex pn=>(@aV _)),(λ C s₀ H₀ ex pn=>%[min,(nM rfl),%[%[0|2],%[%[dI,%[1|0],%[eQ,%[0|0],%[0|2]|11]|11]|1]|1]|6]),(by intros;rfl)|25]|1]|6]|12]|10],?_⟩;rw [show aA ["_law_sizes_here", "_law_paces"] [.ref l,.ref r]=[some (.ref l),some (.ref r)] from rfl];exists h6;ac_rfl;refine bK ((ms.map V.int).zip (ps.map V.int)) (λ _=>true) (λ z=>.int (min 0 ((vi z.1 - 1) * vi z.2))) Ca (km (ka:=false) (kb:=false) hm hp).1 (km (ka:=false) (kb:=false) hm hp).2 (ag (by rw [Rg,OB,OB];omega)) ?_ ?_
  ·intro D z y H' N1 N0 hz hD e ⟨u,hu,hu2⟩ k1 _;subst hu;obtain⟨x0,n0⟩:=z;have hmz:=QS hz;obtain⟨a,ha,rfl⟩:=OO.mp hmz.1;obtain⟨b,hb2,rfl⟩:=OO.mp hmz.2;have k1':N1 (.int (min 0 ((a - 1) * b))) H':=k1 rfl H' (Ext.refl _);have ca:=h6 () a ha;have hcm:mK b (a - 1):=.inr ⟨by omega,by omega⟩;rw [MU,PQ] at k1';clear k1 hmz hz k;simp! only [↓dw,↓ba]
  ·intro D H' hD e hD'
   have hD2:H' D=some (.lst (((ms.zip ps).map λ a=>min 0 ((a.1 - 1) * a.2)).map V.int)):=by
    rw [hD',jX,List.zip_map,PF,PF];rfl
   have hsum:((ms.zip ps).map λ a=>min 0 ((a.1 - 1) * a.2)).sum=aR (ms.zip ps):=rfl;have k2:=k H' e;clear k hD';ac_rfl
abbrev vZ  (l:Addr) (r:Addr) (H:Hp) (Q:VK) (E:XK):Prop:=∃ ms ps:List Int,H l=some (.lst (ms.map V.int))/\H r=some (.lst (ps.map V.int))/\(∀ m∈ms,1<=m/\m<=6)/\ms.length<=8/\ps.length=ms.length/\∀ H',Ext H H'->Q (.int (aH (ms.zip ps))) H'
def Cm  : Sp:=λ vs H Q E=>∃ (l:Addr) (r:Addr),vs=[.ref l,.ref r]/\(vZ  l r H Q E)
theorem vR  (l:Addr) (r:Addr) (H:Hp) (Q:VK) (E:XK):Cm  [.ref l,.ref r] H Q E=(vZ  l r H Q E):=jV (f:=λ (l:Addr) (r:Addr)=>[.ref l,.ref r]) (λ _ _ _ _ h=>by cases h;exact⟨rfl,rfl⟩) l r
theorem Fn  {vs:List V}{H:Hp}{Q:VK}{E:XK}(h:Cm  vs H Q E):vs.length=2:=jW h λ _ _=>rfl
theorem oB(T:Tx K mg t):bL P w K mg base CX0 1 t.a__law_most t.d__law_most ["_law_sizes_here", "_law_paces"] Cm:=by
 refine T.F__law_most.ok qE (λ vs H Q E h=>Fn h) (λ c A o s H vs Q E hr h=>?_)
 ·obtain⟨l,r,rfl,ms,ps,hm,hp,h6,h8,hpl,k⟩:=h;refine⟨_,%[%[%[sum,(gD rfl),%[%[(["_law_size", "_law_pace", "_law_sizes_here", "_law_paces"]),(2),(aC (aa dZ) ["_law_sizes_here", "_law_paces"] rfl rfl nofun),rfl,(@mW _ _ _ _ _ _ _ _ _ ∅ T.z_zip %[%[0|0],%[%[1|0]|1]|1] ∅ ∅),(λ C s₀ H₀ ex pn=>(%[(2),rfl,%[%[(0),_,(show List.Nodup (["_law_size", "_law_pace", "_law_sizes_here", "_law_paces"]:List Str) from by decide +kernel),rfl,(Or.inl rfl),%[0|7]|15],%[%[(1),_,(show List.Nodup (["_law_size", "_law_pace", "_law_sizes_here", "_law_paces"]:List Str) from by decide +kernel),rfl,(Or.inl rfl),%[0|7]|15],(@aT _),∅|18],∅|18],∅,∅|26].mono λ _ _ _ _ h=>cH h)),(λ C s₀ H₀ ex pn=>(@aV _)),(λ C s₀ H₀ ex pn=>%[max,(gE rfl),%[%[0|2],%[%[dI,%[1|0],%[eQ,%[0|0],%[0|2]|11]|11]|1]|1]|6]),(by intros;rfl)|25]|1]|6]|12]|10],?_⟩;rw [show aA ["_law_sizes_here", "_law_paces"] [.ref l,.ref r]=[some (.ref l),some (.ref r)] from rfl];exists h6;ac_rfl;refine bK ((ms.map V.int).zip (ps.map V.int)) (λ _=>true) (λ z=>.int (max 0 ((vi z.1 - 1) * vi z.2))) Ca (km (ka:=false) (kb:=false) hm hp).1 (km (ka:=false) (kb:=false) hm hp).2 (ag (by rw [Rg,OB,OB];omega)) ?_ ?_
  ·intro D z y H' N1 N0 hz hD e ⟨u,hu,hu2⟩ k1 _;subst hu;obtain⟨x0,n0⟩:=z;have hmz:=QS hz;obtain⟨a,ha,rfl⟩:=OO.mp hmz.1;obtain⟨b,hb2,rfl⟩:=OO.mp hmz.2;have k1':N1 (.int (max 0 ((a - 1) * b))) H':=k1 rfl H' (Ext.refl _);have ca:=h6 () a ha;have hcm:mK b (a - 1):=.inr ⟨by omega,by omega⟩;rw [MV,PQ] at k1';clear k1 hmz hz k;simp! only [↓dw,↓ba]
  ·intro D H' hD e hD'
   have hD2:H' D=some (.lst (((ms.zip ps).map λ a=>max 0 ((a.1 - 1) * a.2)).map V.int)):=by
    rw [hD',jX,List.zip_map,PF,PF];rfl
   have hsum:((ms.zip ps).map λ a=>max 0 ((a.1 - 1) * a.2)).sum=aH (ms.zip ps):=rfl;have k2:=k H' e;clear k hD';ac_rfl
abbrev wg  (f:Int) (l:Addr) (q:Addr) (H:Hp) (Q:VK) (E:XK):Prop:=∃ ms ps:List Int,H l=some (.lst (ms.map V.int))/\H q=some (.lst (ps.map V.int))/\(∀ m∈ms,1<=m/\m<=6)/\ms.length<=8/\ps.length=ms.length/\ae ms<=60/\∀ (r:Addr) (H':Hp),Ext H H'->H' r=some (.lst ((ah f (ms.zip ps)).map V.int))->Q (.ref r) H'
def Cr  : Sp:=λ vs H Q E=>∃ (f:Int) (l:Addr) (q:Addr),vs=[.int f,.ref l,.ref q]/\(wg  f l q H Q E)
theorem vS  (f:Int) (l:Addr) (q:Addr) (H:Hp) (Q:VK) (E:XK):Cr  [.int f,.ref l,.ref q] H Q E=(wg  f l q H Q E):=uc (f:=λ (f:Int) (l:Addr) (q:Addr)=>[.int f,.ref l,.ref q]) (λ _ _ _ _ _ _ h=>by cases h;exact⟨rfl,rfl,rfl⟩) f l q
theorem Fu  {vs:List V}{H:Hp}{Q:VK}{E:XK}(h:Cr  vs H Q E):vs.length=3:=ud h λ _ _ _=>rfl
theorem mm(T:Tx K mg t):bL P w K mg base CX0 1 t.a__law_cells t.d__law_cells ["_law_first", "_law_sizes_here", "_law_paces"] Cr:=by
 refine T.F__law_cells.ok bB (λ vs H Q E h=>Fu h) (λ c A o s H vs Q E hr h=>?_)
 ·obtain⟨first,l,q,rfl,ms,ps,hm,hp,h6,h8,hpl,hpr,k⟩:=h;refine⟨_,%[%[3,bB,%[%[%[0|0]|1]|16]|4],%[%[OV,rfl,(@mW _ _ _ _ _ _ _ _ _ ∅ T.z_zip %[%[1|0],%[%[2|0]|1]|1] ∅ ∅),(%[(2),rfl,%[%[4,bB|5],%[%[(5),_,bB.nd,rfl,(Or.inr rfl),%[0|7]|15],(@aT _),∅|18],∅|18],∅,∅|26].mono λ _ _ _ _ h=>cH h),%[%[6,bB,%[(@bw _)|16]|4],%[%[OV,rfl,%[%[3|0]|20],%[(7),_,bB.nd,rfl,(Or.inr rfl),%[0|7]|15],%[%[%[O4,RA,Rz,jo,%[6|0],%[%[(["_law_k", "_law_first", "_law_sizes_here", "_law_paces", "_law_found", "_law_size", "_law_pace", "_law_longer", "_law_cell"]),(1),(aC (aa dj) ["_law_first", "_law_sizes_here", "_law_paces", "_law_found", "_law_size", "_law_pace", "_law_longer", "_law_cell"] rfl rfl nofun),rfl,%[∅,T.z_range,%[%[4|0]|1],∅|29],(λ C s₀ H₀ ex pn=>%[(0),_,(show List.Nodup (["_law_k", "_law_first", "_law_sizes_here", "_law_paces", "_law_found", "_law_size", "_law_pace", "_law_longer", "_law_cell"]:List Str) from by decide +kernel),rfl,(Or.inl rfl),%[0|7]|15]),(λ C s₀ H₀ ex pn=>(@aV _)),(λ C s₀ H₀ ex pn=>%[aK,%[8|0],%[dI,%[6|0],%[0|0]|11]|11]),(by intros;rfl)|25]|1],∅,∅,∅,∅,∅|34],∅|27]|10],(by intros;rfl)|21],%[%[3,bB,%[6|0]|4]|10]|9]|9],(by intros;rfl)|21],%[%[%[3|0]|12]|10]|9]|9],?_⟩;rw [show aA ["_law_first", "_law_sizes_here", "_law_paces", "_law_found", "_law_size", "_law_pace", "_law_longer", "_law_cell"] [.int first,.ref l,.ref q]=[some (.int first),some (.ref l),some (.ref q),none,none,none,none,none] from rfl]
  have hfst:(ms.zip ps).map (λ a=>a.1)=ms:=by
   rw [show (λ a:Int × Int=>a.1)=Prod.fst from rfl,Ss %[0|8]]
  have hpos:∀ a∈ms.zip ps,(1:Int)<=a.1:=λ a ha=>(h6 a.1 (QS (show (a.1,a.2)∈ms.zip ps from ha)).1).1;exists hpos;exists hfst;exists h6;exists k;ac_rfl;intro r H1 hr1 e1 h1;have hm1:=e1.at hm;have hp1:=e1.at hp;ac_rfl;refine vJ (ka:=false) (kb:=false) (xs:=ms.map V.int) (ys:=ps.map V.int) (λ i σ H'=>∃ (r:Addr) (v4 v5 v6 v7:Option V),σ=[some (.int first),some (.ref l),some (.ref q),some (.ref r),v4,v5,v6,v7]/\Ext H H'/\H' r=some (.lst ((ah first ((ms.zip ps).take i)).map V.int))) ⟨r,none,none,none,none,rfl,e1,h1⟩ (λ i σ H' ⟨_,_,_,_,_,_,e,_⟩=>⟨e.at hm,e.at hp⟩) ?_ ?_
  ·rintro i x y w' _ H2 H3 hx hy ⟨r,v4,v5,v6,v7,rfl,e2,h2⟩ hw e3 h3;rw [OL] at hx hy;obtain⟨a,ha,rfl⟩:=OF.mp hx;obtain⟨b,hb,rfl⟩:=OF.mp hy;have hab:(ms.zip ps)[i]? = some (a,b):=by rw [QE];exact⟨ha,hb⟩
   have ham:=h6 () a (OX ha)
   have hlen:(ah first ((ms.zip ps).take i)).length * a.toNat<=60:=by
    have hl4:=aJ first ((ms.zip ps).take i) λ b hb=>hpos () b (PC hb)
    have hpp:=eu ms (λ n hn=>(h6 () n hn).1) (i+1);rw [hU _ i a ha] at hpp;rw [Sw,hfst ()] at hl4;rw [←hl4] at hpp;have hza:((a.toNat:Nat):Int)=a:=Qc %[0|8]
    have:(((ah first ((ms.zip ps).take i)).length * a.toNat:Nat):Int)<=60:=by rw [Rn,hza];omega
    omega
   have hsn:ah first ((ms.zip ps).take (i+1))=bG (ah first ((ms.zip ps).take i)) (a,b):=by
    rw [Qs,hab]
    show ah first ((ms.zip ps).take i++[(a,b)])=_
    rw [jE]
   rw [hsn];have h2_3:=e3.at h2;have e03:=e2.trans e3
   generalize ah first ((ms.zip ps).take i)=cs at hlen h2_3 h2
   exists hlen;clear hsn hx hy ha hb hab hw h2 e2 e3 h1 hr1 hm1 hp1 e1;simp! only [↓ay];intro g H4 hg4 e4 h4;have h2_4:=e4.at h2_3;have hg0:H g=none:=e03.free hg4;ac_rfl;refine cw (xs:=cs.map V.int) (λ j σ H'=>∃ v7:Option V,σ=[some (.int first),some (.ref l),some (.ref q),some (.ref r),some (.int a),some (.int b),some (.ref g),v7]/\Ext H H'/\Ext H3 H'/\H' g=some (.lst ((bG (cs.take j) (a,b)).map V.int))) ⟨_,rfl,e03.trans e4,e4,h4⟩ (λ j σ H' _ ⟨_,_,_,e,_⟩=>e.at h2_3) ?_ ?_
   ·rintro j x _ H5 hj ⟨v7',rfl,e5,e35,h5⟩;rw [OL] at hj;obtain⟨c,hc,rfl⟩:=OF.mp hj;have hjl:j < cs.length:=(Oy.mp hc).1
    have hwl:(bG (cs.take j) (a,b)).length+a.toNat<=60:=by
     rw [ja,O8]
     show min j cs.length * a.toNat+a.toNat<=60
     have:(min j cs.length+1) * a.toNat<=cs.length * a.toNat:=Ri _ %[0|8];rw [Nat.add_mul,Nat.one_mul] at this;have:=hlen ();omega
    rw [kA cs (a,b) j c hc];generalize bG (cs.take j) (a,b)=ws at h5 hwl;clear hj hc h2_4 h4 e4 k;simp! only [↓ay];refine⟨by omega,by omega,?_⟩;refine bK (List.range a.toNat) (λ _=>true) (λ m=>.int (c+(m:Int) * b)) (λ j x H'=>x=.int (0+(j:Nat))) eD.1 eD.2 (ag (by rw [Pa];omega)) ?_ ?_
    ·intro D m x H' N1 N0 hm' hD e hx k1 _;subst hx;have hmr:=Py.mp hm'
     have k1':N1 (.int (c+b * (0+(m:Int)))) H':=by
      rw [Po,PQ b];exact k1 rfl H' (Ext.refl _)
     have hcm:mK b (0+(m:Int)):=.inr ⟨by omega,by omega⟩;clear k1 hm';simp! only [↓bh,↓ba]
    ·intro D H6 hD e6 h6';rw [jX] at h6';have h5_6:=e6.at h5;have hll:ws.length+(List.range a.toNat).length<=sizeLine:=ag (by rw [Pa];omega);clear h5;ac_rfl;refine⟨_,rfl,(e5.trans e6).put hg0,(e35.trans e6).put hg4,?_⟩;rw [Pz,PF];rfl
   ·rintro _ H5 ⟨v7',rfl,e5,e35,h5⟩;rw [OB,P6] at h5;ac_rfl;exact⟨g,_,_,_,_,rfl,e5,h5⟩
  ·rintro _ H3 ⟨r3,v4,v5,v6,v7,rfl,e3,h3⟩;have hmn:min (ms.map V.int).length (ps.map V.int).length=(ms.zip ps).length:=by rw [OB,OB,Rg]
   rw [hmn,P6] at h3;ac_rfl;exact k () r3 H3 e3 h3
theorem wu(cs:List Int)(a:Int × Int)(h:1<=a.1):bG cs (aP a)=bG cs a:=by
 unfold bG
 show (cs.flatMap λ c=>(List.range a.1.toNat).map λ (n:Nat)=>c+(n:Int) * (if a.1 > 1 then a.2 else 0))=_
 by_cases h1:a.1 > 1
 ·rw [Pd h1]
 ·rw [O2 h1];have e:a.1.toNat=1:=by omega
  rw [e];refine Qk (λ f=>cs.flatMap f) (funext λ c=>?_);simp
theorem nH:∀ (axs:List (Int × Int)) (cs:List Int),(∀ a∈axs,(1:Int)<=a.1)->(axs.map aP).foldl bG cs=axs.foldl bG cs
 | [],cs,_=>rfl
 | a::r,cs,h=>by
  rw [PB,Rw,Rw,wu cs a (h a ON),nH r _ λ b hb=>h b (OH _ hb)]
theorem kL(f:Int)(axs:List (Int × Int))(h:∀ a∈axs,(1:Int)<=a.1):ah f (axs.map aP)=ah f axs:=nH axs [f] h
theorem kF(axs:List (Int × Int)):(axs.map aP).map (λ a=>a.1)=axs.map λ a=>a.1:=by rw [PF];rfl
theorem nE{axs:List (Int × Int)}(h:fQ axs):fQ (axs.map aP):=⟨by rw [OB];exact h.1,λ a ha=>by
 obtain⟨b,hb,rfl⟩:=OO.mp ha;exact h.2 b hb⟩
theorem eV:∀ l:List (Int × Int),(∀ a∈l,(1:Int)<=a.1)->aR (l.map aP)=aR l/\aH (l.map aP)=aH l
 | [],_=>⟨rfl,rfl⟩
 | a::r,h=>by
  obtain⟨i1,i2⟩:=eV r λ b hb=>h b (OH _ hb);have ha:=h a ON
  have e:((aP a).1 - 1) * (aP a).2=(a.1 - 1) * a.2:=by
   show (a.1 - 1) * (if a.1 > 1 then a.2 else 0)=_
   split
   ·rfl
   ·have:a.1=1:=by omega
    rw [this];simp
  rw [PB,cX,cY,cX,cY,e,i1,i2];exact⟨rfl,rfl⟩
theorem zo(ms ws:List Int):(ms.map V.int).zip (ws.map V.int)=(ms.zip ws).map λ z=>(V.int z.1,V.int z.2):=by
 rw [List.zip_map];rfl
theorem B9{H:Hp}{ms ws:List Int}{ts:List V}(al:Al (λ z y=>Ca z y H) ((ms.map V.int).zip (ws.map V.int)) ts):Al (dc H) (axL (ms.zip ws)) ts:=by
 rw [zo] at al;refine⟨by rw [al.1];unfold axL;rw [length_map,length_map],λ i z y hz hy=>?_⟩;unfold axL at hz;rw [getElem?_map] at hz;obtain⟨x,hx,rfl⟩:=Option.map_eq_some_iff.mp hz;obtain⟨p,hp,hq⟩:=al.2 i (V.int x.1,V.int x.2) y (by rw [getElem?_map,hx];rfl) hy;exact⟨p,hp,hq⟩
structure Gq(ms:List Int)(room f:Int)(ps:List Int):Prop where
 len:ps.length=ms.length
 lo:0<=f+aR (ms.zip ps)
 hi:f+aH (ms.zip ps) < room
theorem lE{ms ps:List Int}(h:SzK ms)(hl:ps.length=ms.length):fQ (ms.zip ps):=⟨by rw [Rg];have:=h.pos.2.1;omega,λ a ha=>by
 have:=h.pos.1 a.1 (QS (show (a.1,a.2)∈ms.zip ps from ha)).1;omega⟩
theorem vh{ms ps:List Int}(hl:ps.length=ms.length):(ms.zip ps).map (λ a=>a.1)=ms:=by
 rw [show (λ a:Int × Int=>a.1)=Prod.fst from rfl,Ss %[0|8]]
theorem Gq.view{ms ps:List Int}{room f:Int}(h:Gq ms room f ps)(hs:SzK ms)(r1:1<=room)(r2:room<=4096):qT room f (ms.zip ps):=by
 have hax:=lE hs h.len;obtain⟨g1,g2⟩:=eV (ms.zip ps) λ a ha=>(hax.2 a ha).1;have:=h.lo;have:=h.hi;exact⟨hax,r1,by omega,by rw [g1];omega,by rw [g2];omega⟩
theorem wx{ms ps qs:List Int}(hs:SzK ms)(hp:PcK ms ps)(hq:OtK ms ps qs):∃ S1 S2:Int,aH (ms.zip ps) - aR (ms.zip ps)<=S1/\aH (ms.zip qs) - aR (ms.zip qs)<=S2/\S1+S2<=3960/\aR (ms.zip ps)<=0/\0<=aH (ms.zip ps)/\aR (ms.zip qs)<=0/\0<=aH (ms.zip qs):=by
 have one:∀ m∈ms,(1:Int)<=m:=λ m hm=>(hs.pos.1 m hm).1;obtain⟨hl,S,B,h1,h2,h3,h4,h5⟩:=hp;obtain⟨a1,a2,a3,_⟩:=lG ms ps one hl;obtain⟨b1,b2,b3,_⟩:=lG ms qs one hq.1;have hb:=nj ms qs (B+2) one hq.1 (hq.2 B h3 h2) %[0|8];exact⟨S,ki ms * (B+2),by omega,by omega,h5,a2,a3,b2,b3⟩
abbrev vY(K:PySem.W.Frag)(a:Addr)(ns:List Int)(C:Addr)(p:Addr)(l:Addr)(H:Hp)(Q:VK)(E:XK):Prop:=p=a/\SqL K H a (ns.map V.int)/\ns.length<=63/\∃ ms:List Int,H l=some (.lst (ms.map V.int))/\SzK ms/\∀ (room f1 f2:Int) (ps qs:List Int) (x1 x2 c1 c2 r:Addr) (H':Hp),Ext H H'->H' r=some (.tup [.ref x1,.ref x2,.ref c1,.ref c2])->aG C H' x1 room f1 ((ms.zip ps).map aP)->aG C H' x2 room f2 ((ms.zip qs).map aP)->H' c1=some (.lst ((ah f1 (ms.zip ps)).map V.int))->H' c2=some (.lst ((ah f2 (ms.zip qs)).map V.int))->Gq ms room f1 ps->Gq ms room f2 qs->1<=room->room<=4096->(ah f1 (ms.zip ps)).Nodup->Q (.ref r) H'
def Ck(K:W.Frag)(a:Addr)(ns:List Int)(C:Addr):Sp:=λ vs H Q E=>∃ (p:Addr) (l:Addr),vs=[.ref p,.ref l]/\(vY K a ns C p l H Q E)
theorem FY(K:W.Frag)(a:Addr)(ns:List Int)(C:Addr)(p:Addr)(l:Addr)(H:Hp)(Q:VK)(E:XK):Ck K a ns C [.ref p,.ref l] H Q E=(vY K a ns C p l H Q E):=jV (f:=λ (p:Addr) (l:Addr)=>[.ref p,.ref l]) (λ _ _ _ _ h=>by cases h;exact⟨rfl,rfl⟩) p l
theorem Fm(K:W.Frag)(a:Addr)(ns:List Int)(C:Addr){vs:List V}{H:Hp}{Q:VK}{E:XK}(h:Ck K a ns C vs H Q E):vs.length=2:=jW h λ _ _=>rfl
theorem qf(T:Tx K mg t)(a:Addr)(ns:List Int):bL P w K mg base CX0 8 t.a__law_two t.d__law_two ["_law_script", "_law_sizes_here"] (Ck K a ns t.a_View):=by
 have G__law_draw:=%[bY|41] a ns;have G__law_digits:=%[cE|41];have G__law_once:=%[oA|41] a ns;have G__law_others:=%[kg|41] a ns;have G__law_least:=%[ml|41];have G__law_most:=%[oB|41];have G__law_cells:=%[mm|41];have G_View___init__:=%[eG|41];refine T.F__law_two.ok bq (λ vs H Q E h=>Fm _ _ _ _ h) (λ c A o s H vs Q E hr h=>?_)
 ·obtain⟨_,l,rfl,rfl,hS,hl,ms,hm,hsz,kk⟩:=h;rename_i a;refine⟨_,%[%[2,bq,%[_law_once,%[%[0|0],%[%[1|0]|1]|1]|3]|4],%[%[3,bq,%[_law_others,%[%[0|0],%[%[2|0]|1]|1]|3]|4],%[%[4,bq,%[eQ,%[_law_draw,%[%[0|0],%[%[0|2],%[%[0|2]|1]|1]|1]|3],%[_law_least,%[%[1|0],%[%[2|0]|1]|1]|3]|11]|4],%[%[5,bq,%[eQ,%[_law_draw,%[%[0|0],%[%[0|2],%[%[0|2]|1]|1]|1]|3],%[_law_least,%[%[1|0],%[%[3|0]|1]|1]|3]|11]|4],%[%[%[(dH hr.units),%[_law_draw,%[%[0|0],%[%[0|2],%[%[0|2]|1]|1]|1]|3],%[0|2],(ar _)|14],%[%[5,bq,%[max,(gE rfl),%[%[aK,%[4|0],%[cp,%[%[%[0|2],%[%[0|2],%[(@oU _ _ _ _ _ _ fT %[0|2])|1]|1]|1]|16],%[_law_draw,%[%[0|0],%[%[0|2],%[%[0|2]|1]|1]|1]|3],(λ _ _=>rfl)|13]|11],%[%[eQ,%[0|2],%[_law_least,%[%[1|0],%[%[3|0]|1]|1]|3]|11]|1]|1]|6]|4]|10],(@ak _)|17],%[%[6,bq,%[max,(gE rfl),%[%[aK,%[4|0],%[_law_most,%[%[1|0],%[%[2|0]|1]|1]|3]|11],%[%[aK,%[5|0],%[_law_most,%[%[1|0],%[%[3|0]|1]|1]|3]|11]|1]|1]|6]|4],%[%[7,bq,%[aK,%[aK,%[6|0],%[0|2]|11],%[_law_draw,%[%[0|0],%[%[0|2],%[%[0|2]|1]|1]|1]|3]|11]|4],%[%[8,bq,%[T.mk_View,G_View___init__,(hr.mono ⋯),∅,T.m_View,T.b_View___init__,.nil,eJ,%[%[7|0],%[%[4|0],%[(@kD _ _ _ _ _ _ _ _ rfl ∅ T.z_list ∅ T.z_zip %[%[1|0],%[%[2|0]|1]|1] ∅ ∅ ∅ ∅)|1]|1]|1],⋯,∅,∅|40]|4],%[%[9,bq,%[T.mk_View,G_View___init__,(hr.mono ⋯),∅,T.m_View,T.b_View___init__,.nil,eJ,%[%[7|0],%[%[5|0],%[(@kD _ _ _ _ _ _ _ _ rfl ∅ T.z_list ∅ T.z_zip %[%[1|0],%[%[3|0]|1]|1] ∅ ∅ ∅ ∅)|1]|1]|1],⋯,∅,∅|40]|4],%[%[%[%[%[8|0],%[%[9|0],%[%[_law_cells,%[%[4|0],%[%[1|0],%[%[2|0]|1]|1]|1]|3],%[%[_law_cells,%[%[5|0],%[%[1|0],%[%[3|0]|1]|1]|1]|3]|1]|1]|1]|1]|19]|12]|10]|9]|9]|9]|9]|9]|9]|9]|9]|9],?_⟩;rw [show aA ["_law_script", "_law_sizes_here", "_law_paces", "_law_others_here", "_law_first", "_law_begin", "_law_last", "_law_room", "_law_one", "_law_other"] [.ref a,.ref l]=[some (.ref a),some (.ref l),none,none,none,none,none,none,none,none] from rfl];clear G__law_draw G__law_digits G__law_once G__law_others G__law_least G__law_most G__law_cells G_View___init__;have h8:=hsz.pos.2.1;have p60:=hsz.pos.2.2;have m6:=λ (_:Unit)=>hsz.pos.1;exists kk;ac_rfl;rw [By];refine⟨rfl,hS,hl,ms,hm,hsz,λ ps r1 H2 e2 h2 hpc hij=>?_⟩;exists hij;have hS2:=e2.2 K a _ hS;have hm2:=e2.at hm;have hpl:=hpc.1;ac_rfl;rw [Bx];refine⟨rfl,hS2,hl,ms,ps,h2,hpl,by omega,λ qs r3 H3 e3 h3 hot=>?_⟩;have hS3:=e3.2 K a _ hS2;have hm3:=e3.at hm2;have h2_3:=e3.at h2;have hql:=hot.1;obtain⟨S1,S2,b1,b2,b3,b4,b5,b6,b7⟩:=wx hsz hpc hot;exists hpc;exists hot;exists hpl;exists hql;exists hsz;have e03:=e2.trans e3;clear h2 hm2 hS2 e2 e3 hS hm;ac_rfl;rw [aB];refine⟨hS3,hl,⟨by decide,by decide⟩,by decide,λ d1 d10 d11=>?_⟩;ac_rfl;rw [pQ];refine⟨ms,ps,hm3,h2_3,m6 (),h8,hpl (),λ H4 e4=>?_⟩;have hS4:=e4.2 K a _ hS3;ac_rfl;rw [aB];refine⟨hS4,hl,⟨by decide,by decide⟩,by decide,λ d2 d20 d21=>?_⟩;ac_rfl;rw [pQ];refine⟨ms,qs,e4.at hm3,e4.at h3,m6 (),h8,hql (),λ H5 e5=>?_⟩;have hS5:=e5.2 K a _ hS4;have e35:=e4.trans e5;obtain⟨f1,hf1⟩:∃ f,d1 - aR (ms.zip ps)=f:=⟨_,rfl⟩;obtain⟨g2,hg2⟩:∃ f,d2 - aR (ms.zip qs)=f:=⟨_,rfl⟩;clear hS3 hS4;simp! only [-qP];refine vb (λ σ' H'=>∃ f2:Int,σ'=[some (.ref a),some (.ref l),some (.ref r1),some (.ref r3),some (.int f1),some (.int f2),none,none,none,none]/\Ext H5 H'/\0<=f2+aR (ms.zip qs)/\f2+aH (ms.zip qs)<=13+S1+S2) (λ nx' hn=>?_) ?_
  ·exists hn;ac_rfl;rw [aB];refine⟨hS5,hl,⟨by decide,by decide⟩,by decide,λ g g0 g1=>?_⟩
   by_cases hg:g=0
   ·ac_rfl;intro q6 H6 hq6 e6 h6;have hS6:=e6.2 K a _ hS5;clear hq6;ac_rfl;rw [aB];refine⟨hS6,hl,⟨by decide,by decide⟩,by decide,λ x x0 x1=>?_⟩;ac_rfl;refine gA (λ j=>-1<=j/\j<=1) x0 x1 (λ v hv=>?_) λ j hj=>?_
    ·simp only [OU,OJ,O6] at hv
     rcases hv with rfl|rfl|rfl<;>exact⟨_,rfl,by decide⟩
    clear h6;ac_rfl;rw [pQ];refine⟨ms,qs,(e35.trans e6).at hm3,(e35.trans e6).at h3,m6 (),h8,hql (),λ H7 e7=>?_⟩;have hn':=hn () [some (.ref a),some (.ref l),some (.ref r1),some (.ref r3),some (.int f1),some (.int (if f1+j < 0 - aR (ms.zip qs) then 0 - aR (ms.zip qs) else f1+j)),none,none,none,none] H7 ⟨_,rfl,e6.trans e7,by split<;>omega,by split<;>omega⟩;clear hn;ac_rfl
   ·have hn':=hn () [some (.ref a),some (.ref l),some (.ref r1),some (.ref r3),some (.int f1),some (.int g2),none,none,none,none] H5 ⟨g2,rfl,Ext.refl _,by omega,by omega⟩;clear hn;ac_rfl
  rintro _ H6 ⟨f2,rfl,e6,lo2,hi2⟩;have e36:=e35.trans e6;have hm6:=e36.at hm3;have h2_6:=e36.at h2_3;have h3_6:=e36.at h3;have hS6:=e6.2 K a _ hS5;have lo1:0<=f1+aR (ms.zip ps):=by omega
  have hi1:f1+aH (ms.zip ps)<=12+S1:=by omega
  clear hS5 e4 e5 e6 e35 hm3 h2_3 h3 hf1 hg2;ac_rfl;rw [vR];refine⟨ms,ps,hm6,h2_6,m6 (),h8,hpl (),λ H7 e7=>?_⟩;ac_rfl;rw [vR];refine⟨ms,qs,e7.at hm6,e7.at h3_6,m6 (),h8,hql (),λ H8 e8=>?_⟩;have e68:=e7.trans e8;have hS8:=e68.2 K a _ hS6;have hm8:=e68.at hm6;have h2_8:=e68.at h2_6;have h3_8:=e68.at h3_6;obtain⟨la,hla⟩:∃ la,(if f1+aH (ms.zip ps) < f2+aH (ms.zip qs) then f2+aH (ms.zip qs) else f1+aH (ms.zip ps))=la:=⟨_,rfl⟩
  have la1:f1+aH (ms.zip ps)<=la/\f2+aH (ms.zip qs)<=la/\la<=13+S1+S2:=by
   rw [←hla]
   split<;>omega
  clear hm6 h2_6 h3_6 hS6 e7;ac_rfl;rw [aB];refine⟨hS8,hl,⟨by decide,by decide⟩,by decide,λ d3 d30 d31=>?_⟩;obtain⟨room,hroom⟩:∃ r,la+1+d3=r:=⟨_,rfl⟩;have rm1:1<=room:=by omega
  have rm2:room<=4096:=by omega
  have o1:Gq ms room f1 ps:=⟨hpl (),lo1,by omega⟩;have o2:Gq ms room f2 qs:=⟨hql (),lo2,by omega⟩;have v1:=o1.view (hsz ()) rm1 rm2;have v2:=o2.view (hsz ()) rm1 rm2;exists o1;exists o2;clear hla la1 lo1 hi1 lo2 hi2 b1 b2 b3 b4 b5 b6 b7 d10 d11 d20 d21;ac_rfl;rw [GB];intro D1 ts1 H9 hD1 e9 h9 al9;have t9:=B9 al9;have hm9:=e9.at hm8;have h3_9:=e9.at h3_8;clear al9 hD1;ac_rfl;intro x1 dx1 G1 hx1 hdx1 hne1 g1 k1 k1';rw [js];refine⟨dx1,ms.zip ps,k1,bV.ext ⟨ts1,h9,t9⟩ g1,v1,λ G2 D2 g2' hD2 hx2 tt2=>?_⟩;have eg:=g2' H9 g1 hx1;have vo1:aG t.a_View G2 x1 room f1 ((ms.zip ps).map aP):=⟨dx1,D2,hx2,tt2⟩;have e82:=e9.trans eg;have hm10:=eg.at hm9;have h3_10:=eg.at h3_9;clear h9 t9 hm9 h3_9 k1 k1' hx1 hdx1 hne1 g1 g2' hD2 hx2 tt2 eg;ac_rfl;rw [GB];intro D3 ts3 G3 hD3 g3 k3 al3;have t3:=B9 al3;clear al3 hD3;ac_rfl;intro x2 dx2 G4 hx2 hdx2 hne2 g4 k4 k4';rw [js];refine⟨dx2,ms.zip qs,k4,bV.ext ⟨ts3,k3,t3⟩ g4,v2,λ G5 D5 g5' hD5 hx5 tt5=>?_⟩;have eg2:=g3.trans (g5' G3 g4 hx2);have vo2:aG t.a_View G5 x2 room f2 ((ms.zip qs).map aP):=⟨dx2,D5,hx5,tt5⟩;have e85:=e82.trans eg2;replace vo1:=vo1.ext eg2;clear k3 t3 k4 k4' hx2 hdx2 hne2 g4 g5' hD5 hx5 tt5 hm10 h3_10;ac_rfl;rw [vS];refine⟨ms,ps,e85.at hm8,e85.at h2_8,m6 (),h8,hpl (),p60,λ c1 G6 g6 k6=>?_⟩;ac_rfl;rw [vS];refine⟨ms,qs,(e85.trans g6).at hm8,(e85.trans g6).at h3_8,m6 (),h8,hql (),p60,λ c2 G7 g7 k7=>?_⟩;ac_rfl;intro r G8 hr8 g8 k8;exact kk () room f1 f2 ps qs x1 x2 c1 c2 r G8 (e03.trans (e36.trans (e68.trans (e85.trans (g6.trans (g7.trans g8)))))) k8 (vo1.ext (g6.trans (g7.trans g8))) (vo2.ext (g6.trans (g7.trans g8))) ((g7.trans g8).at k6) (g8.at k7) (o1 ()) (o2 ()) rm1 rm2 ((hij ()).nodup (λ n hn=>by have:=m6 () n hn;omega) (hpl ()) f1)
theorem zX{ws:List Int}{i j:Nat}{c:Int}(h:ws.Nodup)(hij:i < j)(h1:ws[i]? = some c)(h2:ws[j]? = some c):False:=by
 obtain⟨a,ha⟩:=Oy.mp h1;obtain⟨b,hb⟩:=Oy.mp h2;have:=(Su h).mp (ha.trans hb.symm);omega
abbrev nX(C:Addr)(v:Addr)(H:Hp)(Q:VK)(E:XK):Prop:=∃ (room first:Int) (axs:List (Int × Int)),aG C H v room first axs/\fQ axs/\ae (axs.map λ a=>a.1)<=4096/\((ah first axs).Nodup->∀ H',Ext H H'->Q .non H')/\(∀ (i j:Nat) (c:Int) (r p q:Addr) (H':Hp),i < j->(ah first axs)[i]? = some c->(ah first axs)[j]? = some c->Ext H H'->H' r=some (.tup [.ref p,.ref q])->H' p=some (.tup ((ao (axs.map λ a=>a.1) (i:Int)).map V.int))->H' q=some (.tup ((ao (axs.map λ a=>a.1) (j:Int)).map V.int))->Q (.ref r) H')
def pe(C:Addr):Sp:=λ vs H Q E=>∃ (v:Addr),vs=[.ref v]/\(nX C v H Q E)
theorem yw(C:Addr)(v:Addr)(H:Hp)(Q:VK)(E:XK):pe C [.ref v] H Q E=(nX C v H Q E):=mL (f:=λ (v:Addr)=>[.ref v]) (λ _ _ h=>by cases h;exact rfl) v
theorem xS(C:Addr){vs:List V}{H:Hp}{Q:VK}{E:XK}(h:pe C vs H Q E):vs.length=1:=mG h λ _=>rfl
theorem ow(T:Tx K mg t):bL P w K mg base CX0 5 t.a_has_twice t.d_has_twice ["view"] (pe t.a_View):=by
 have G_View_cells:=%[eA|41];have G_View_sizes:=%[cg|41];have G_place_at:=%[pZ|41];refine T.F_has_twice.ok ef (λ vs H Q E h=>xS _ h) (λ c A o s H vs Q E hr h=>?_)
 ·obtain⟨v,rfl,room,first,axs,vo,hax,hc,kN,kT⟩:=h;exists kN;exists kT;obtain⟨dx,l,hv,_⟩:=vo.ob;have vo_hv:=hv;have c1:=T.cl_View
  have f3:=vn room first l (m := "cells") nofun
  have f4:=vn room first l (m := "sizes") nofun
  refine⟨_,%[%[1,ef,(@iH _ _)|4],%[%[OV,rfl,(@DB _ _ _ _ _ _ _ _ ∅ T.z_enumerate %[%[%[0|0],T.cl_View,T.mt_View_cells,G_View_cells,(hr.mono ⋯),T.b_View_cells,.nil,eJ,∅|32]|1] ∅),(%[(2),rfl,%[%[2,ef|5],%[%[3,ef|5],(@aT _),∅|18],∅|18],∅,∅|26].mono λ _ _ _ _ h=>cH h),%[%[%[(BW (ip hr.units)),%[3|0],%[1|0],(by with_unfolding_all rfl)|14],%[%[%[%[%[place_at,%[%[%[0|0],T.cl_View,T.mt_View_sizes,G_View_sizes,(hr.mono ⋯),T.b_View_sizes,.nil,eJ,∅|32],%[(@vC _ _ _ _ _ _ (ip hr.units) %[1|0] %[3|0] (λ _ _=>rfl))|1]|1]|3],%[%[place_at,%[%[%[0|0],T.cl_View,T.mt_View_sizes,G_View_sizes,(hr.mono ⋯),T.b_View_sizes,.nil,eJ,∅|32],%[%[2|0]|1]|1]|3]|1]|1]|19]|12]|10],(@ak _)|17],%[(@pF _ _ _ _ _ _ _ _ _ (ip hr.units) %[1|0] %[3|0] %[2|0] rfl)|10]|9],(by intros;rfl)|21],%[%[(@iq _ _ _)|12]|10]|9]|9],?_⟩;rw [show aA ["view", "seen", "number", "cell"] [.ref v]=[some (.ref v),none,none,none] from rfl];clear G_View_cells G_View_sizes G_place_at;ac_rfl;intro d H1 hd1 e1 h1;have hv1:=e1.at hv;ac_rfl;rw [gG];refine⟨room,first,axs,vo.ext e1,hax,λ _ r2 H2 hr2 e2 h2=>?_,by omega⟩
  have hcl:((ah first axs).length:Int)=ae (axs.map λ a=>a.1):=aJ first axs λ b hb=>(hax.2 b hb).1
  generalize ah first axs=cs at h2 kN kT hcl
  have h1_2:=e2.at h1;have hv2:=e2.at hv1;ac_rfl;have hsz:=hax.sizes;have hc4:cs.length<=4096:=by omega
  have e02:=e1.trans e2;clear h1 hv1 hv;refine Bp (λ i σ H'=>∃ (kvs:List (Key × V)) (v2 v3:Option V),σ=[some (.ref v),some (.ref d),v2,v3]/\Ext H H'/\H' r2=some (.lst (cs.map V.int))/\H' d=some (.dK kvs)/\kvs.length<=i/\(cs.take i).Nodup/\(∀ c,dO kvs (.inl c)=none->c ∉ cs.take i)/\∀ c x,dO kvs (.inl c)=some x->∃ k:Nat,k < i/\x=.int (k:Int)/\cs[k]? = some c) ⟨[],none,none,rfl,e02,h2,h1_2,OC _,Q0,λ c _=>OJ,λ c x h=>by cases h⟩ (λ i σ H' ⟨_,_,_,_,_,h,_⟩=>h) ?_ ?_
  ·rintro i u p _ H3 H4 hi ⟨kvs,v2,v3,rfl,e3,h3,hd3,hkl,hnd,hB,hC⟩ hp3 e4 h4;rw [OL] at hi;obtain⟨c,hci,rfl⟩:=OF.mp hi;have hil:i < cs.length:=(Oy.mp hci).1;have hd4:=e4.at hd3;have h3_4:=e4.at h3;have eH4:=e3.trans e4;have hv4:=eH4.at vo_hv;clear hi;simp! only [↓ay];refine BM (k:=.inl c) hd4 ?_
   cases hvv:dO kvs (.inl c) with
   | some x=>
    obtain⟨k,hki,rfl,hck⟩:=hC c x hvv;have hkl':k < cs.length:=by omega
    clear kN hB hC hnd;ac_rfl;rw [cA];refine⟨room,first,axs,vo.ext eH4,hax.1,λ r5 H5 hr5 e5 h5=>?_⟩;have hd5:=e5.at hd4;have hv5:=e5.at hv4;clear hd4 hv4;ac_rfl;refine BN (k:=.inl c) hd5 hvv ?_;ac_rfl;rw [jF];refine⟨_,h5,hsz,by omega,by omega,?_⟩;rw [qI];intro r6 H6 hr6 e6 h6;have hv6:=e6.at hv5;clear hv5;ac_rfl;rw [cA];refine⟨room,first,axs,vo.ext (eH4.trans (e5.trans e6)),hax.1,λ r7 H7 hr7 e7 h7=>?_⟩;ac_rfl;rw [jF];refine⟨_,h7,hsz,by omega,by omega,?_⟩;rw [qI];intro r8 H8 hr8 e8 h8;ac_rfl;intro r9 H9 hr9 e9 h9;exact kT () k i c r9 r6 r8 H9 hki hck hci (eH4.trans (e5.trans (e6.trans (e7.trans (e8.trans e9))))) h9 ((e7.trans (e8.trans e9)).at h6) (e9.at h8)
   | none=>
    have hlt:kvs.length < sizeLine:=eR %[0|8];have hnr:r2 ≠ d:=λ z=>by rw [z,hd4] at h3_4;cases h3_4
    clear kN kT;ac_rfl;refine uw (k:=.inl c) hd4 hlt ?_;refine⟨_,_,_,rfl,eH4.put hd1,by rw [af hnr];exact h3_4,aq,?_,?_,λ c' hc' hm=>?_,λ c' x hc'=>?_⟩
    ·rw [zI _ hvv,OR];simp;omega
    ·rw [Qs,hci];exact RC.mpr ⟨hnd,by simp,λ a ha b hb=>by rw [Option.toList_some,OE] at hb;subst hb;exact λ e=>hB _ hvv (e ▸ ha)⟩
    ·rw [fi] at hc';split at hc'
     ·cases hc'
     ·rename_i hne;rw [Qs,hci] at hm
      rcases OQ.mp hm with hm|hm
      ·exact hB c' hc' hm
      ·rw [Option.toList_some,OE] at hm;exact hne (by rw [hm])
    ·rw [fi] at hc';split at hc'
     ·rename_i he;cases hc';cases he;exact⟨i,PL _,rfl,hci⟩
     ·obtain⟨k,k1,k2,k3⟩:=hC c' x hc';exact⟨k,by omega,k2,k3⟩
  ·rintro _ H3 ⟨kvs,v2,v3,rfl,e3,h3,hd3,hkl,hnd,hB,hC⟩;rw [OB,P6] at hnd;have k':=kN () hnd H3 e3;clear kN kT;ac_rfl
abbrev nY(C:Addr)(u:Addr)(v:Addr)(H:Hp)(Q:VK)(E:XK):Prop:=∃ (room f1 f2:Int) (A B:List (Int × Int)),aG C H u room f1 A/\aG C H v room f2 B/\Q .non H
def ph(C:Addr):Sp:=λ vs H Q E=>∃ (u:Addr) (v:Addr),vs=[.ref u,.ref v]/\(nY C u v H Q E)
theorem yx(C:Addr)(u:Addr)(v:Addr)(H:Hp)(Q:VK)(E:XK):ph C [.ref u,.ref v] H Q E=(nY C u v H Q E):=jV (f:=λ (u:Addr) (v:Addr)=>[.ref u,.ref v]) (λ _ _ _ _ h=>by cases h;exact⟨rfl,rfl⟩) u v
theorem xU(C:Addr){vs:List V}{H:Hp}{Q:VK}{E:XK}(h:ph C vs H Q E):vs.length=2:=jW h λ _ _=>rfl
theorem jL(T:Tx K mg t):bL P w K mg base CX0 1 t.a_refuse_rooms t.d_refuse_rooms ["one", "other"] (ph t.a_View):=by
 refine T.F_refuse_rooms.ok kh (λ vs H Q E h=>xU _ h) (λ c A o s H vs Q E hr h=>?_)
 ·obtain⟨u,v,rfl,room,f1,f2,A,B,vu,vv,k⟩:=h;obtain⟨dx,D,hu,_⟩:=vu.ob;obtain⟨dy,D2,hv,_⟩:=vv.ob;have c1:=T.cl_View;have c4:=T.na_View_room;have g1:=gT room f1 D;have g2:=gT room f2 D2;refine⟨_,%[%[%[(cS hr.units),%[%[0|0],rfl|31],%[%[1|0],rfl|31],(ar _)|14],%[(@dU _ _)|10],(@ak _)|17]|10],?_⟩;rw [show aA ["one", "other"] [.ref u,.ref v]=[some (.ref u),some (.ref v)] from rfl];ac_rfl
abbrev kU(C:Addr)(u:Addr)(v:Addr)(H:Hp)(Q:VK)(E:XK):Prop:=∃ (r1 r2 f1 f2:Int) (A B:List (Int × Int)),aG C H u r1 f1 A/\aG C H v r2 f2 B/\A.length<=8/\(A.map λ a=>a.1)=(B.map λ a=>a.1)/\∀ H',Ext H H'->Q .non H'
def lL(C:Addr):Sp:=λ vs H Q E=>∃ (u:Addr) (v:Addr),vs=[.ref u,.ref v]/\(kU C u v H Q E)
theorem tR(C:Addr)(u:Addr)(v:Addr)(H:Hp)(Q:VK)(E:XK):lL C [.ref u,.ref v] H Q E=(kU C u v H Q E):=jV (f:=λ (u:Addr) (v:Addr)=>[.ref u,.ref v]) (λ _ _ _ _ h=>by cases h;exact⟨rfl,rfl⟩) u v
theorem tG(C:Addr){vs:List V}{H:Hp}{Q:VK}{E:XK}(h:lL C vs H Q E):vs.length=2:=jW h λ _ _=>rfl
theorem eL(T:Tx K mg t):bL P w K mg base CX0 2 t.a_refuse_sizes_unlike t.d_refuse_sizes_unlike ["to", "source"] (lL t.a_View):=by
 have G_View_sizes:=%[cg|41];refine T.F_refuse_sizes_unlike.ok fg (λ vs H Q E h=>tG _ h) (λ c A o s H vs Q E hr h=>?_)
 ·obtain⟨u,v,rfl,r1,r2,f1,f2,A,B,vu,vv,h8,hs,k⟩:=h;obtain⟨dx,D,hu,_⟩:=vu.ob;obtain⟨dy,D2,hv,_⟩:=vv.ob;have c1:=T.cl_View;have g1:=vn r1 f1 D (m := "sizes") nofun;have g2:=vn r2 f2 D2 (m := "sizes") nofun;refine⟨_,%[%[%[(cS hr.units),%[%[0|0],T.cl_View,T.mt_View_sizes,G_View_sizes,(hr.mono ⋯),T.b_View_sizes,.nil,eJ,∅|32],%[%[1|0],T.cl_View,T.mt_View_sizes,G_View_sizes,(hr.mono ⋯),T.b_View_sizes,.nil,eJ,∅|32],(ar _)|14],%[(@dU _ _)|10],(@ak _)|17]|10],?_⟩;rw [show aA ["to", "source"] [.ref u,.ref v]=[some (.ref u),some (.ref v)] from rfl];clear G_View_sizes;have hl:B.length<=8:=by have:=Qk List.length hs;rw [OB,OB] at this;omega
  exists k;exists hs;ac_rfl;rw [cA];refine⟨r1,f1,A,vu,h8,λ q1 H1 hq1 e1 h1=>?_⟩;have hv1:=e1.at hv;clear hq1;ac_rfl;rw [cA];refine⟨r2,f2,B,vv.ext e1,hl,λ q2 H2 hq2 e2 h2=>?_⟩;have h1_2:=e2.at h1;rw [←hs ()] at h2;have k':=k () H2 (e1.trans e2);clear k hq2 h1;ac_rfl
abbrev nZ(C:Addr)(v:Addr)(H:Hp)(Q:VK)(E:XK):Prop:=∃ (room first:Int) (axs:List (Int × Int)),aG C H v room first axs/\fQ axs/\ae (axs.map λ a=>a.1)<=4096/\(ah first axs).Nodup/\∀ H',Ext H H'->Q .non H'
def pj(C:Addr):Sp:=λ vs H Q E=>∃ (v:Addr),vs=[.ref v]/\(nZ C v H Q E)
theorem yy(C:Addr)(v:Addr)(H:Hp)(Q:VK)(E:XK):pj C [.ref v] H Q E=(nZ C v H Q E):=mL (f:=λ (v:Addr)=>[.ref v]) (λ _ _ h=>by cases h;exact rfl) v
theorem xV(C:Addr){vs:List V}{H:Hp}{Q:VK}{E:XK}(h:pj C vs H Q E):vs.length=1:=mG h λ _=>rfl
theorem jK(T:Tx K mg t):bL P w K mg base CX0 6 t.a_refuse_twice t.d_refuse_twice ["view"] (pj t.a_View):=by
 have G_has_twice:=%[ow|41];refine T.F_refuse_twice.ok fO (λ vs H Q E h=>xV _ h) (λ c A o s H vs Q E hr h=>?_)
 ·obtain⟨v,rfl,room,first,axs,vo,hax,hc,hnd,kN⟩:=h;refine⟨_,%[%[1,fO,%[has_twice,%[%[0|0]|1]|3]|4],%[%[%[lR,%[1|0],(@iq _ _ _),(ar _)|14],%[(@dU _ _)|10],(@ak _)|17]|10]|9],?_⟩;rw [show aA ["view", "found"] [.ref v]=[some (.ref v),none] from rfl];clear G_has_twice;exists kN;ac_rfl;rw [yw];refine⟨room,first,axs,vo,hax,hc,λ _ H1 e1=>?_,λ i j c r p q H1 hij hi hj e1 hr1 hp1 hq1=>(zX hnd hij hi hj).elim⟩;have k':=kN () H1 e1;clear kN hnd;ac_rfl
theorem rj{κ:Type}[DecidableEq κ](kvs:List (κ × V))(k:κ)(v:V):(kj kvs k v).length<=kvs.length+1:=by
 unfold kj;split
 ·rw [OB];omega
 ·rw [OR];simp
structure sj(ws rs:List Int)(ys:List V)(i:Nat)(kvs:List (Key × V)):Prop where
 len:kvs.length<=i
 get:∀ c x,dO kvs (.inl c)=some x->∃ n,n < i/\ws[n]? = some c/\rs[n]? ≠ some c/\ys[n]? = some x
 has:∀ n c,n < i->ws[n]? = some c->rs[n]? ≠ some c->dO kvs (.inl c) ≠ none
theorem sj.nil{ws rs:List Int}{ys:List V}:sj ws rs ys 0 []:=⟨OC _,(λ c x h=>by cases h),λ n c h=>absurd h (Rl _)⟩
theorem sj.skip{ws rs:List Int}{ys:List V}{i:Nat}{kvs:List (Key × V)}{c:Int}(h:sj ws rs ys i kvs)(hw:ws[i]? = some c)(hr:rs[i]? = some c):sj ws rs ys (i+1) kvs:=by
 refine⟨by have:=h.len;omega,λ c x hc=>?_,λ n c' hn h1 h2=>?_⟩
 ·obtain⟨n,a,b⟩:=h.get c x hc;exact⟨n,by omega,b⟩
 ·by_cases hni:n=i
  ·subst hni;rw [hw] at h1;cases h1;exact absurd hr h2
  ·exact h.has n c' %[0|8] h1 h2
theorem sj.put{ws rs:List Int}{ys:List V}{i:Nat}{kvs:List (Key × V)}{c d:Int}{u:V}(h:sj ws rs ys i kvs)(hw:ws[i]? = some c)(hr:rs[i]? = some d)(hcd:¬ c=d)(hu:ys[i]? = some u):sj ws rs ys (i+1) (kj kvs (.inl c) u):=by
 refine⟨by have:=h.len;have:=rj kvs (.inl c) u;omega,λ c' x hc=>?_,λ n c' hn h1 h2=>?_⟩
 ·rw [fi] at hc;split at hc
  ·rename_i he;cases hc;cases he;exact⟨i,PL _,hw,λ e=>hcd (by rw [hr] at e;exact(O1 e).symm),hu⟩
  ·obtain⟨n,a,b⟩:=h.get c' x hc;exact⟨n,by omega,b⟩
 ·rw [fi];split
  ·exact Rk _
  ·rename_i hne
   by_cases hni:n=i
   ·subst hni;rw [hw] at h1;cases h1;exact absurd rfl hne
   ·exact h.has n c' %[0|8] h1 h2
abbrev sf(C:Addr)(u:Addr)(v:Addr)(l:Addr)(H:Hp)(Q:VK)(E:XK):Prop:=∃ (room f1 f2:Int) (A B:List (Int × Int)) (ys:List V),aG C H u room f1 A/\aG C H v room f2 B/\fQ A/\fQ B/\(A.map λ a=>a.1)=(B.map λ a=>a.1)/\ae (A.map λ a=>a.1)<=4096/\H l=some (.lst ys)/\(ys.length:Int)=ae (A.map λ a=>a.1)/\∀ (d:Addr) (kvs:List (Key × V)) (H':Hp),Ext H H'->H d=none->H' d=some (.dK kvs)->sj (ah f1 A) (ah f2 B) ys ys.length kvs->Q (.ref d) H'
def uM(C:Addr):Sp:=λ vs H Q E=>∃ (u:Addr) (v:Addr) (l:Addr),vs=[.ref u,.ref v,.ref l]/\(sf C u v l H Q E)
theorem BF(C:Addr)(u:Addr)(v:Addr)(l:Addr)(H:Hp)(Q:VK)(E:XK):uM C [.ref u,.ref v,.ref l] H Q E=(sf C u v l H Q E):=uc (f:=λ (u:Addr) (v:Addr) (l:Addr)=>[.ref u,.ref v,.ref l]) (λ _ _ _ _ _ _ h=>by cases h;exact⟨rfl,rfl,rfl⟩) u v l
theorem AO(C:Addr){vs:List V}{H:Hp}{Q:VK}{E:XK}(h:uM C vs H Q E):vs.length=3:=ud h λ _ _ _=>rfl
theorem eN(T:Tx K mg t):bL P w K mg base CX0 5 t.a_places_written_anew t.d_places_written_anew ["to", "source", "spots"] (uM t.a_View):=by
 have G_View_cells:=%[eA|41];refine T.F_places_written_anew.ok aE (λ vs H Q E h=>AO _ h) (λ c A o s H vs Q E hr h=>?_)
 ·obtain⟨u,v,l,rfl,room,f1,f2,A,B,ys,vu,vv,hA,hB,hs,hc,hl,hyl,k⟩:=h;obtain⟨dx,D,hu,_⟩:=vu.ob;obtain⟨dy,D2,hv,_⟩:=vv.ob;have c1:=T.cl_View;have g1:=vn room f1 D (m := "cells") nofun;have g2:=vn room f2 D2 (m := "cells") nofun;refine⟨_,%[%[3,aE,(@iH _ _)|4],%[%[OV,rfl,(@DA _ _ _ _ _ _ _ _ _ _ ∅ T.z_zip %[%[2|0],%[%[%[0|0],T.cl_View,T.mt_View_cells,G_View_cells,(hr.mono ⋯),T.b_View_cells,.nil,eJ,∅|32],%[%[%[1|0],T.cl_View,T.mt_View_cells,G_View_cells,(hr.mono ⋯),T.b_View_cells,.nil,eJ,∅|32]|1]|1]|1] ∅ ∅),(%[(3),rfl,%[%[4,aE|5],%[%[5,aE|5],%[%[6,aE|5],(@aT _),∅|18],∅|18],∅|18],∅,∅|26].mono λ _ _ _ _ h=>cH h),%[%[%[(cS hr.units),%[5|0],%[6|0],(ar _)|14],%[(@pF _ _ _ _ _ _ _ _ _ (ip hr.units) %[3|0] %[5|0] %[4|0] rfl)|10],(@ak _)|17]|10],(by intros;rfl)|21],%[%[%[3|0]|12]|10]|9]|9],?_⟩;rw [show aA ["to", "source", "spots", "found", "place", "cell", "origin"] [.ref u,.ref v,.ref l]=[some (.ref u),some (.ref v),some (.ref l),none,none,none,none] from rfl];clear G_View_cells;exists k;have l1:=aJ f1 A λ b hb=>(hA.2 b hb).1;have l2:=aJ f2 B λ b hb=>(hB.2 b hb).1;rw [←hs] at l2;ac_rfl;intro d H1 hd e1 h1;have hu1:=e1.at hu;have hl1:=e1.at hl;ac_rfl;rw [gG];refine⟨room,f1,A,vu.ext e1,hA,λ _ r2 H2 hr2 e2 h2=>?_,by omega⟩;have hv2:=(e1.trans e2).at hv;have hl2:=e2.at hl1;have h1_2:=e2.at h1;clear hr2 hu1 hl1 h1;ac_rfl;rw [gG];refine⟨room,f2,B,vv.ext (e1.trans e2),hB,λ _ r3 H3 hr3 e3 h3=>?_,by rw [←hs];omega⟩;have h2_3:=e3.at h2;have hl3:=e3.at hl2;have h1_3:=e3.at h1_2;have e03:=e1.trans (e2.trans e3);generalize ah f1 A=ws at *;generalize ah f2 B=rs at *;clear hr3 hv2 hl2 h1_2 h2 hu hv;ac_rfl;refine Bm (xs:=ys) (ys:=ws.map V.int) (us:=rs.map V.int) (λ i σ H'=>∃ (kvs:List (Key × V)) (v4 v5 v6:Option V),σ=[some (.ref u),some (.ref v),some (.ref l),some (.ref d),v4,v5,v6]/\Ext H H'/\H' l=some (.lst ys)/\H' r2=some (.lst (ws.map V.int))/\H' r3=some (.lst (rs.map V.int))/\H' d=some (.dK kvs)/\sj ws rs ys i kvs) ⟨[],none,none,none,rfl,e03,hl3,h2_3,h3,h1_3,sj.nil⟩ (λ i σ H' ⟨_,_,_,_,_,_,a,b,c,_⟩=>⟨a,b,c⟩) ?_ ?_
  ·rintro i x y z p _ H4 H5 hx hy hz ⟨kvs,v4,v5,v6,rfl,e4,hl4,h2_4,h3_4,hd4,hwr⟩ hp e5 h5;rw [OL] at hy hz;obtain⟨wc,hw,rfl⟩:=OF.mp hy;obtain⟨rc,hr',rfl⟩:=OF.mp hz;have hi:i < ys.length:=(Oy.mp hx).1;have hl5:=e5.at hl4;have h2_5:=e5.at h2_4;have h3_5:=e5.at h3_4;have hd5:=e5.at hd4;have hlt:kvs.length < sizeLine:=eR (by have:=hwr.len;omega);have e05:=e4.trans e5
   by_cases hne:wc=rc
   ·subst hne;have hn:=hwr.skip hw hr';exists hn;clear hwr hx hy hz hw hr' hl4 h2_4 h3_4 hd4 k hp;simp! only [↓ay];exact⟨kvs,_,_,_,rfl,e05,rfl,hn ()⟩
   ·have hn:=hwr.put hw hr' hne hx;exists hn;have n1:l ≠ d:=λ z=>by rw [z,hd5] at hl5;cases hl5
    have n2:r2 ≠ d:=λ z=>by rw [z,hd5] at h2_5;cases h2_5
    have n3:r3 ≠ d:=λ z=>by rw [z,hd5] at h3_5;cases h3_5
    clear hwr hx hy hz hw hr' hl4 h2_4 h3_4 hd4 k hp;simp! only [↓ay];refine uw (k:=.inl wc) hd5 hlt ?_;exact⟨_,_,_,_,rfl,e05.put hd,by rw [af n1];exact hl5,by rw [af n2];exact h2_5,by rw [af n3];exact h3_5,aq,hn ()⟩
  ·rintro _ H4 ⟨kvs,v4,v5,v6,rfl,e4,hl4,h2_4,h3_4,hd4,hwr⟩;have hmn:min ys.length (min (ws.map V.int).length (rs.map V.int).length)=ys.length:=by rw [OB,OB];omega
   rw [hmn] at hwr;have k':=k () d kvs H4 e4 hd hd4 hwr;clear k hwr hmn;ac_rfl
def bN(ws rs:List Int)(j:Nat):List (Nat × Nat):=match rs[j]? with
 | some c=>(match ws.findIdx? (λ x=>decide (x=c)) with
  | some i=>if rs[i]? = some c then [] else [(i,j)]
  | none=>[])
 | none=>[]
def aF(ws rs:List Int)(n:Nat):List (Nat × Nat):=(List.range n).flatMap (bN ws rs)
theorem gg(ws rs:List Int)(n:Nat):aF ws rs (n+1)=aF ws rs n++bN ws rs n:=by
 unfold aF;rw [List.range_succ,List.flatMap_append,List.flatMap_singleton]
theorem pM{ws:List Int}{c:Int}{n:Nat}(hnd:ws.Nodup)(h:ws[n]? = some c):ws.findIdx? (λ x=>decide (x=c))=some n:=by
 obtain⟨hn,he⟩:=Oy.mp h;rw [PY];refine⟨hn,OG he,λ j hj=>?_⟩;intro hjc;have e2:=Pe hjc;exact absurd ((Su hnd).mp (e2.trans he.symm)) %[0|8]
theorem sj.pair{ws rs:List Int}{ys:List V}{kvs:List (Key × V)}{c:Int}{j n:Nat}(h:sj ws rs ys n kvs)(hnd:ws.Nodup)(hl:ws.length<=n)(hj:rs[j]? = some c) :
  (dO kvs (.inl c)=none->bN ws rs j=[])/\∀ x,dO kvs (.inl c)=some x->∃ i,bN ws rs j=[(i,j)]/\ys[i]? = some x:=by
 refine⟨λ hv=>?_,λ x hv=>?_⟩
 ·unfold bN;rw [hj]
  show (match ws.findIdx? (λ x=>decide (x=c)) with|some i=>if rs[i]? = some c then [] else [(i,j)]|none=>[])=[]
  cases hf:ws.findIdx? (λ x=>decide (x=c)) with
  | none=>rfl
  | some i=>
   rw [PY] at hf;obtain⟨hi,he,_⟩:=hf;have he':=Pe he
   by_cases hr:rs[i]? = some c
   ·show (if rs[i]? = some c then [] else [(i,j)])=[]
    rw [Pd hr]
   ·exact absurd hv (h.has i c %[0|8] (by rw [Ow hi,he']) hr)
 ·obtain⟨i,hi,hw,hr,hx⟩:=h.get c x hv;refine⟨i,?_,hx⟩;unfold bN;rw [hj]
  show (match ws.findIdx? (λ x=>decide (x=c)) with|some i=>if rs[i]? = some c then [] else [(i,j)]|none=>[])=_
  rw [pM hnd hw]
  show (if rs[i]? = some c then [] else [(i,j)])=_
  rw [O2 hr]
def gQ(H:Hp)(ys:List V)(ij:Nat × Nat)(y:V):Prop:=∃ q u v,y=.ref q/\H q=some (.tup [u,v])/\ys[ij.1]? = some u/\ys[ij.2]? = some v
theorem gQ.ext{H H':Hp}{ys:List V}{ij:Nat × Nat}{y:V}(h:gQ H ys ij y)(e:Ext H H'):gQ H' ys ij y:=by
 obtain⟨q,u,v,h1,h2,h3⟩:=h;exact⟨q,u,v,h1,e.at h2,h3⟩
theorem gQ.upd{H:Hp}{ys:List V}{ij:Nat × Nat}{y:V}{r:Addr}{zs:List V}{o:HO}(h:gQ H ys ij y)(hr:H r=some (.lst zs)):gQ (upd H r o) ys ij y:=by
 obtain⟨q,u,v,h1,h2,h3⟩:=h;exact⟨q,u,v,h1,by rw [af (λ z=>by rw [z,hr] at h2;cases h2)];exact h2,h3⟩
theorem fX{α:Type}{R:α->V->Prop}{zs:List α}{z:α}{ys:List V}{y:V}(h:Al R zs ys)(r:R z y):Al R (zs++[z]) (ys++[y]):=by
 refine⟨by rw [OR,OR,h.1];rfl,λ i a b ha hb=>?_⟩
 by_cases hi:i < zs.length
 ·rw [Pj hi] at ha;rw [Pj (by rw [h.1];exact hi)] at hb;exact h.2 i a b ha hb
 ·rw [O7 %[0|8]] at ha;rw [O7 (by rw [h.1];omega),h.1] at hb
  have h0:i - zs.length=0:=by
   have:=(Oy.mp ha).1;simp at this;omega
  rw [h0] at ha hb;cases ha;cases hb;exact r
abbrev oi(C:Addr)(u:Addr)(v:Addr)(H:Hp)(Q:VK)(E:XK):Prop:=∃ (room f1 f2:Int) (A B:List (Int × Int)),aG C H u room f1 A/\aG C H v room f2 B/\fQ A/\fQ B/\(A.map λ a=>a.1)=(B.map λ a=>a.1)/\ae (A.map λ a=>a.1)<=4096/\(ah f1 A).Nodup/\∀ (l r:Addr) (ys zs:List V) (H':Hp),Ext H H'->H r=none->H' l=some (.lst ys)->Al (dc H') (cu (A.map λ a=>a.1)) ys->H' r=some (.lst zs)->Al (gQ H' ys) (aF (ah f1 A) (ah f2 B) (ah f2 B).length) zs->Q (.ref r) H'
def pB(C:Addr):Sp:=λ vs H Q E=>∃ (u:Addr) (v:Addr),vs=[.ref u,.ref v]/\(oi C u v H Q E)
theorem nP(C:Addr)(u:Addr)(v:Addr)(H:Hp)(Q:VK)(E:XK):pB C [.ref u,.ref v] H Q E=(oi C u v H Q E):=jV (f:=λ (u:Addr) (v:Addr)=>[.ref u,.ref v]) (λ _ _ _ _ h=>by cases h;exact⟨rfl,rfl⟩) u v
theorem x8(C:Addr){vs:List V}{H:Hp}{Q:VK}{E:XK}(h:pB C vs H Q E):vs.length=2:=jW h λ _ _=>rfl
theorem fL(T:Tx K mg t):bL P w K mg base CX0 7 t.a_bound_pairs t.d_bound_pairs ["to", "source"] (pB t.a_View):=by
 have G_refuse_rooms:=%[jL|41];have G_refuse_sizes_unlike:=%[eL|41];have G_refuse_twice:=%[jK|41];have G_places:=%[wX|41];have G_View_sizes:=%[cg|41];have G_View_cells:=%[eA|41];have G_places_written_anew:=%[eN|41];refine T.F_bound_pairs.ok bH (λ vs H Q E h=>x8 _ h) (λ c A o s H vs Q E hr h=>?_)
 ·obtain⟨u,v,rfl,room,f1,f2,A,B,vu,vv,hA,hB,hs,hc,hnd,kN⟩:=h;obtain⟨dx,D,hu,_⟩:=vu.ob;obtain⟨dy,D2,hv,_⟩:=vv.ob;have c1:=T.cl_View;have g1:=vn room f1 D (m := "sizes") nofun;have g2:=vn room f2 D2 (m := "cells") nofun;refine⟨_,%[%[%[refuse_rooms,%[%[0|0],%[%[1|0]|1]|1]|3],∅|27],%[%[%[refuse_sizes_unlike,%[%[0|0],%[%[1|0]|1]|1]|3],∅|27],%[%[%[refuse_twice,%[%[0|0]|1]|3],∅|27],%[%[2,bH,%[places,%[%[%[0|0],T.cl_View,T.mt_View_sizes,G_View_sizes,(hr.mono ⋯),T.b_View_sizes,.nil,eJ,∅|32]|1]|3]|4],%[%[3,bH,%[places_written_anew,%[%[0|0],%[%[1|0],%[%[2|0]|1]|1]|1]|3]|4],%[%[4,bH,%[(@bw _)|16]|4],%[%[OV,rfl,(@mW _ _ _ _ _ _ _ _ _ ∅ T.z_zip %[%[2|0],%[%[%[1|0],T.cl_View,T.mt_View_cells,G_View_cells,(hr.mono ⋯),T.b_View_cells,.nil,eJ,∅|32]|1]|1] ∅ ∅),(%[(2),rfl,%[%[5,bH|5],%[%[6,bH|5],(@aT _),∅|18],∅|18],∅,∅|26].mono λ _ _ _ _ h=>cH h),%[%[%[(BW (ip hr.units)),%[6|0],%[3|0],(by with_unfolding_all rfl)|14],%[%[%[O4,Pu,Pt,b9,%[4|0],%[%[%[(@vC _ _ _ _ _ _ (ip hr.units) %[3|0] %[6|0] (λ _ _=>rfl)),%[%[5|0]|1]|1]|19]|1],∅,∅,∅,∅,∅|34],∅|27]|10],(@ak _)|17]|10],(by intros;rfl)|21],%[%[%[4|0]|12]|10]|9]|9]|9]|9]|9]|9]|9],?_⟩;rw [show aA ["to", "source", "spots", "written", "found", "place", "cell"] [.ref u,.ref v]=[some (.ref u),some (.ref v),none,none,none,none,none] from rfl];clear G_refuse_rooms G_refuse_sizes_unlike G_refuse_twice G_places G_View_sizes G_View_cells G_places_written_anew;exists hs;exists kN;exists hnd;ac_rfl;rw [yx];refine⟨room,f1,f2,A,B,vu,vv,?_⟩;ac_rfl;rw [tR];refine⟨room,room,f1,f2,A,B,vu,vv,hA.1,hs (),λ H1 e1=>?_⟩;have vu1:=vu.ext e1;have vv1:=vv.ext e1;ac_rfl;rw [yy];refine⟨room,f1,A,vu1,hA,hc,hnd (),λ H2 e2=>?_⟩;have kN':=kN ();have e02:=e1.trans e2;have hu2:=e02.at hu;have vu2:=vu.ext e02;have vv2:=vv.ext e02;exists kN';clear kN vu1 vv1;ac_rfl;rw [cA];refine⟨room,f1,A,vu2,hA.1,λ r3 H3 hr3 e3 h3=>?_⟩;have hsz:eK (A.map λ a=>a.1):=hA.sizes;have e03:=e02.trans e3;have vu3:=vu.ext e03;have vv3:=vv.ext e03;clear hr3 hu2 vu2 vv2;simp! only [↓tS,↓j6,↓C9];refine⟨λ r4 H4 hr4 e4 t4=>?_,by omega⟩;obtain⟨ys,h4,al4⟩:=t4;have e04:=e03.trans e4;have vu4:=vu.ext e04;have vv4:=vv.ext e04;have p1:1<=ae (A.map λ a=>a.1):=aM _ λ m hm=>(hsz.2 m hm).1;have hyl:(ys.length:Int)=ae (A.map λ a=>a.1):=by rw [al4.1,jl];omega
  clear hr4 vu3 vv3 h3;ac_rfl;rw [BF];refine⟨room,f1,f2,A,B,ys,vu4,vv4,hA,hB,hs (),hc,h4,hyl,λ d kvs H5 e5 hd5 h5 hwr=>?_⟩;have e05:=e04.trans e5;have h4_5:=e5.at h4;have al5:=al4.imp λ _ _ t=>dc.ext t e5;have hv5:=e05.at hv;have vv5:=vv.ext e05;have l1:=aJ f1 A λ b hb=>(hA.2 b hb).1;have l2:=aJ f2 B λ b hb=>(hB.2 b hb).1;rw [←hs ()] at l2;clear vu4 vv4 h4 al4;ac_rfl;intro r6 H6 hr6 e6 h6;have hv6:=e6.at hv5;have h4_6:=e6.at h4_5;have h5_6:=e6.at h5;have f6:H r6=none:=e05.free hr6;have n4:r4 ≠ r6:=λ z=>by rw [z,hr6] at h4_5;cases h4_5
  have nd:d ≠ r6:=λ z=>by rw [z,hr6] at h5;cases h5
  clear hv5 h4_5 h5;ac_rfl;rw [gG];refine⟨room,f2,B,vv5.ext e6,hB,λ _ r7 H7 hr7 e7 h7=>?_,by rw [←hs ()];omega⟩;have n7:r7 ≠ r6:=λ z=>by rw [z,h6] at hr7;cases hr7
  have h4_7:=e7.at h4_6;have h5_7:=e7.at h5_6;have h6_7:=e7.at h6;have e07:=e05.trans (e6.trans e7);have e57:=e6.trans e7;have al7:=al5.imp λ _ _ t=>dc.ext t e57;generalize ah f1 A=ws at *;generalize ah f2 B=rs at *;have hpr:=λ (_:Unit)=>λ {j:Nat} {c:Int} (hj:rs[j]? = some c)=>hwr.pair (hnd ()) %[0|8] hj;clear hr7 hv6 h4_6 h5_6 h6 al5 hr6;ac_rfl;refine vJ (ka:=false) (kb:=false) (xs:=ys) (ys:=rs.map V.int) (λ i σ H'=>∃ (zs:List V) (v5 v6:Option V),σ=[some (.ref u),some (.ref v),some (.ref r4),some (.ref d),some (.ref r6),v5,v6]/\Ext H H'/\H' r4=some (.lst ys)/\H' r7=some (.lst (rs.map V.int))/\H' d=some (.dK kvs)/\H' r6=some (.lst zs)/\Al (dc H') (cu (A.map λ a=>a.1)) ys/\zs.length<=i/\Al (gQ H' ys) (aF ws rs i) zs) ⟨[],none,none,rfl,e07,h4_7,h7,h5_7,h6_7,al7,OC _,Al.nil⟩ (λ i σ H' ⟨_,_,_,_,_,a,b,_⟩=>⟨a,b⟩) ?_ ?_
  ·rintro i x y p _ H8 H9 hx hy ⟨zs,v5,v6,rfl,e8,h4_8,h7_8,h5_8,h6_8,al8,hzl,alp⟩ hp e9 h9;rw [OL] at hy;obtain⟨c,hcr,rfl⟩:=OF.mp hy;have hi:i < ys.length:=(Oy.mp hx).1;have e09:=e8.trans e9;have h4_9:=e9.at h4_8;have h7_9:=e9.at h7_8;have h5_9:=e9.at h5_8;have h6_9:=e9.at h6_8;have al9:=al8.imp λ _ _ t=>dc.ext t e9;have alp9:=alp.imp λ _ _ t=>gQ.ext t e9;obtain⟨hno,hyes⟩:=hpr () hcr;have hsc:=gg ws rs i;have hlt:zs.length < sizeLine:=eR %[0|8];exists hsc;exists al9;exists alp9;exists hno;exists hyes;exists hx;clear hy hcr h4_8 h7_8 h5_8 h6_8 al8 alp hp al7;simp! only [↓ay];refine BM (k:=.inl c) h5_9 ?_
   cases hvv:dO kvs (.inl c) with
   | none=>
    have hn:=hno () hvv;have fin:Al (gQ H9 ys) (aF ws rs (i+1)) zs:=by rw [hsc (),hn,Rh];exact alp9 ()
    exists fin;clear hno hyes hn hvv;ac_rfl;exact⟨zs,_,_,rfl,e09,rfl,al9 (),by omega,fin ()⟩
   | some x0=>
    obtain⟨i0,hpa,hy0⟩:=hyes () x0 hvv;exists hpa;exists hy0;have hvv':=hvv;exists hvv;clear hno hyes hvv';ac_rfl;refine BN (k:=.inl c) h5_9 (hvv ()) ?_;ac_rfl;intro q10 H10 hq10 e10 h10;have h6_10:=e10.at h6_9;have h4_10:=e10.at h4_9;have h7_10:=e10.at h7_9;have h5_10:=e10.at h5_9;clear hq10 h6_9 h4_9 h7_9 h5_9;ac_rfl;refine⟨_,_,_,rfl,(e09.trans e10).put f6,by rw [af n4];exact h4_10,by rw [af n7];exact h7_10,by rw [af nd];exact h5_10,rfl,?_,?_,?_⟩
    ·exact(al9 ()).imp λ _ _ t=>(dc.ext t e10).upd h6_10
    ·rw [OR];show _+1<=_;omega
    ·rw [hsc (),hpa ()];exact fX ((alp9 ()).imp λ _ _ t=>(gQ.ext t e10).upd h6_10) (gQ.upd ⟨q10,x0,x,rfl,h10,hy0 (),hx ()⟩ h6_10)
  ·rintro _ H8 ⟨zs,v5,v6,rfl,e8,h4_8,h7_8,h5_8,h6_8,al8,hzl,alp⟩;have hmn:min ys.length (rs.map V.int).length=rs.length:=by rw [OB];omega
   rw [hmn] at alp;have k':=kN' () r4 r6 ys zs H8 e8 f6 h4_8 al8 h6_8 alp;clear kN' alp al8 hmn hpr hwr;ac_rfl
structure yP(ws:List Int)(i:Nat)(kvs:List (Key × V)):Prop where
 len:kvs.length<=i
 get:∀ c x,dO kvs (.inl c)=some x->∃ n,n < i/\ws[n]? = some c/\x=.int (n:Int)
 has:∀ n c,n < i->ws[n]? = some c->dO kvs (.inl c) ≠ none
theorem yP.nil{ws:List Int}:yP ws 0 []:=⟨OC _,(λ c x h=>by cases h),λ n c h=>absurd h (Rl _)⟩
theorem yP.put{ws:List Int}{i:Nat}{kvs:List (Key × V)}{c:Int}(h:yP ws i kvs)(hw:ws[i]? = some c):yP ws (i+1) (kj kvs (.inl c) (.int (i:Int))):=by
 refine⟨by have:=h.len;have:=rj kvs (.inl c) (.int (i:Int));omega,λ c' x hc=>?_,λ n c' hn h1=>?_⟩
 ·rw [fi] at hc;split at hc
  ·rename_i he;cases hc;cases he;exact⟨i,PL _,hw,rfl⟩
  ·obtain⟨n,a,b⟩:=h.get c' x hc;exact⟨n,by omega,b⟩
 ·rw [fi];split
  ·exact Rk _
  ·rename_i hne
   by_cases hni:n=i
   ·subst hni;rw [hw] at h1;cases h1;exact absurd rfl hne
   ·exact h.has n c' %[0|8] h1
theorem yP.none'{ws rs:List Int}{kvs:List (Key × V)}{c:Int}{j n:Nat}(h:yP ws n kvs)(hl:ws.length<=n)(hj:rs[j]? = some c)(hv:dO kvs (.inl c)=none):bN ws rs j=[]:=by
 unfold bN;rw [hj]
 show (match ws.findIdx? (λ x=>decide (x=c)) with|some i=>if rs[i]? = some c then [] else [(i,j)]|none=>[])=[]
 cases hf:ws.findIdx? (λ x=>decide (x=c)) with
 | none=>rfl
 | some i=>
  rw [PY] at hf;obtain⟨hi,he,_⟩:=hf;have he':=Pe he;exact absurd hv (h.has i c %[0|8] (by rw [Ow hi,he']))
theorem wR{ws rs:List Int}{c:Int}{j i:Nat}(hnd:ws.Nodup)(hj:rs[j]? = some c)(hi:ws[i]? = some c):bN ws rs j=if rs[i]? = some c then [] else [(i,j)]:=by
 unfold bN;rw [hj]
 show (match ws.findIdx? (λ x=>decide (x=c)) with|some i=>if rs[i]? = some c then [] else [(i,j)]|none=>[])=_
 rw [pM hnd hi]
def ijL(zs:List (Nat × Nat)):List (Int × Int):=zs.map λ z=>((z.1:Int),(z.2:Int))
theorem sO(ws rs:List Int)(j:Nat):(bN ws rs j).length<=1:=by
 unfold bN
 repeat' split
 all_goals simp
theorem dN(ws rs:List Int):∀ n,(aF ws rs n).length<=n
 | 0=>OC _
 | n+1=>by
  rw [gg,OR];have:=dN ws rs n;have:=sO ws rs n;omega
theorem wC{H:Hp}{r q:Addr}{zs:List (Nat × Nat)}{z:Nat × Nat}{ys:List V}(h:Al (dc H) (axL (ijL zs)) ys)(hr:H r=some (.lst ys))(hq:H q=some (.tup [.int (z.1:Int),.int (z.2:Int)])):Al (dc (upd H r (.lst (ys++[.ref q])))) (axL (ijL (zs++[z]))) (ys++[.ref q]):=by
 have e:axL (ijL (zs++[z]))=axL (ijL zs)++[[(z.1:Int),(z.2:Int)]]:=by unfold axL ijL;rw [map_append,map_append];rfl
 rw [e];exact fX (h.imp λ _ _ t=>dc.upd t hr) (dc.upd ⟨q,rfl,hq⟩ hr)
abbrev kX  (p:Addr) (q:Addr) (H:Hp) (Q:VK) (E:XK):Prop:=∃ ws rs:List Int,H p=some (.lst (ws.map V.int))/\H q=some (.lst (rs.map V.int))/\ws.Nodup/\rs.length=ws.length/\ws.length<=60/\∀ (r:Addr) (H':Hp),H r=none->Ext H H'->bV H' r (axL (ijL (aF ws rs rs.length)))->Q (.ref r) H'
def lO  : Sp:=λ vs H Q E=>∃ (p:Addr) (q:Addr),vs=[.ref p,.ref q]/\(kX  p q H Q E)
theorem tU  (p:Addr) (q:Addr) (H:Hp) (Q:VK) (E:XK):lO  [.ref p,.ref q] H Q E=(kX  p q H Q E):=jV (f:=λ (p:Addr) (q:Addr)=>[.ref p,.ref q]) (λ _ _ _ _ h=>by cases h;exact⟨rfl,rfl⟩) p q
theorem tJ  {vs:List V}{H:Hp}{Q:VK}{E:XK}(h:lO  vs H Q E):vs.length=2:=jW h λ _ _=>rfl
theorem mj(T:Tx K mg t):bL P w K mg base CX0 1 t.a__law_pairs t.d__law_pairs ["_law_writes", "_law_reads"] lO:=by
 refine T.F__law_pairs.ok bZ (λ vs H Q E h=>tJ h) (λ c A o s H vs Q E hr h=>?_)
 ·obtain⟨p,q,rfl,ws,rs,hp,hq,hnd,hlen,h60,k⟩:=h;refine⟨_,%[%[2,bZ,(@iH _ _)|4],%[%[OV,rfl,%[∅,T.z_range,%[%[len,au,%[%[0|0]|1]|6]|1],∅|29],%[3,bZ|5],%[(@pF _ _ _ _ _ _ _ _ _ (ip hr.units) %[2|0] %[cp,%[0|0],%[3|0],(λ _ _=>rfl)|13] %[3|0] rfl)|10],(by intros;rfl)|21],%[%[4,bZ,%[(@bw _)|16]|4],%[%[OV,rfl,%[∅,T.z_range,%[%[len,au,%[%[1|0]|1]|6]|1],∅|29],%[5,bZ|5],%[%[6,bZ,(@zS _ _ _ _ _ _ _ (ip hr.units) %[2|0] %[cp,%[1|0],%[5|0],(λ _ _=>rfl)|13] ⟨by rfl,by rfl,by rfl,by rfl⟩)|4],%[%[(PW.pt (@mU _ _ _ _ _ _ _ %[lR,%[6|0],(@iq _ _ _),(ar _)|14] (@mU _ _ _ _ _ _ _ %[(cS hr.units),%[6|0],%[5|0],(ar _)|14] (@lr _ _ _ _ %[(cS hr.units),%[cp,%[1|0],%[6|0],(λ _ _=>rfl)|13],%[cp,%[0|0],%[6|0],(λ _ _=>rfl)|13],(ar _)|14])))),%[%[%[O4,Pu,Pt,b9,%[4|0],%[%[%[%[6|0],%[%[5|0]|1]|1]|19]|1],∅,∅,∅,∅,∅|34],∅|27]|10],(@ak _)|17]|10]|9],(by intros;rfl)|21],%[%[%[4|0]|12]|10]|9]|9]|9]|9],?_⟩;rw [show aA ["_law_writes", "_law_reads", "_law_holder", "_law_n", "_law_found", "_law_j", "_law_i"] [.ref p,.ref q]=[some (.ref p),some (.ref q),none,none,none,none,none] from rfl];exists k;exists hnd;ac_rfl;intro d H1 hd e1 h1;have hp1:=e1.at hp;have hq1:=e1.at hq;ac_rfl;refine⟨by omega,by omega,?_⟩;refine dS (λ i σ H'=>∃ (kvs:List (Key × V)) (v3:Option V),σ=[some (.ref p),some (.ref q),some (.ref d),v3,none,none,none]/\Ext H H'/\H' d=some (.dK kvs)/\yP ws i kvs) ⟨[],none,rfl,e1,h1,yP.nil⟩ ?_ ?_
  ·rintro i _ H2 hi ⟨kvs,v3,rfl,e2,h2,ho⟩;have hi':i < ws.length:=by have:i < ((ws.length:Int)).toNat:=hi;omega
   obtain⟨c,hc⟩:∃ c,ws[i]? = some c:=⟨_,Ow hi'⟩;have hn:=ho.put hc;have hlt:kvs.length < sizeLine:=eR (by have:=ho.len;omega);have hat:atI (ws.map V.int) (0+(i:Int))=some (V.int c):=by rw [Po];exact bU (by rw [OL,hc];rfl)
   have hp2:=e2.at hp;exists hn;clear ho hc hi k hp1 hq1 h1;simp! only [↓ay];refine uw (k:=.inl c) h2 hlt ?_;exact⟨_,_,rfl,e2.put hd,aq,by rw [Po];exact hn ()⟩
  ·rintro _ H2 ⟨kvs,v3,rfl,e2,h2,ho⟩;have hp2:=e2.at hp;have hq2:=e2.at hq;have hl2:((ws.length:Int)).toNat=ws.length:=by omega
   rw [hl2] at ho;clear hp1 hq1 h1 e1 hl2;ac_rfl;intro r H3 hr3 e3 h3;have hp3:=e3.at hp2;have hq3:=e3.at hq2;have h2_3:=e3.at h2;have e03:=e2.trans e3;have hr0:H r=none:=e2.free hr3;exists ho;have nd:d ≠ r:=λ z=>by rw [z,hr3] at h2;cases h2
   have np:p ≠ r:=λ z=>by rw [z,hr3] at hp2;cases hp2
   have nq:q ≠ r:=λ z=>by rw [z,hr3] at hq2;cases hq2
   clear hp2 hq2 h2;ac_rfl;refine⟨by omega,by omega,?_⟩;refine dS (λ i σ H'=>∃ (ys:List V) (v5 v6:Option V),σ=[some (.ref p),some (.ref q),some (.ref d),v3,some (.ref r),v5,v6]/\Ext H H'/\H' d=some (.dK kvs)/\H' r=some (.lst ys)/\Al (dc H') (axL (ijL (aF ws rs i))) ys) ⟨[],none,none,rfl,e03,h2_3,h3,⟨rfl,λ i z y hz=>by cases hz⟩⟩ ?_ ?_
   ·rintro j _ H4 hj ⟨ys,v5,v6,rfl,e4,hd4,h4,al⟩;have hj':j < rs.length:=by have:j < ((ws.length:Int)).toNat:=hj;omega
    obtain⟨c,hc⟩:∃ c,rs[j]? = some c:=⟨_,Ow hj'⟩;have hat:atI (rs.map V.int) (0+(j:Int))=some (V.int c):=by rw [Po];exact bU (by rw [OL,hc];rfl)
    have hp4:=e4.at hp;have hq4:=e4.at hq;have hsc:=gg ws rs j
    have hyl:ys.length<=60:=by
     have:=dN ws rs j;have:=al.1;unfold axL ijL at this;rw [length_map,length_map] at this;omega
    have hno:dO kvs (.inl c)=none->bN ws rs j=[]:=λ hv=>(ho ()).none' (OC _) hc hv
    have hyes:∀ x,dO kvs (.inl c)=some x->∃ n,n < ws.length/\x=.int (n:Int)/\ws[n]? = some c/\bN ws rs j=if rs[n]? = some c then [] else [(n,j)]:=λ x hv=>by
     obtain⟨n,h1,h2,h3⟩:=(ho ()).get c x hv;exact⟨n,h1,h3,h2,wR (hnd ()) hc h2⟩
    exists hno;exists hyes;exists al;exists hsc;exists hc;clear k hj h3 hp3 hq3 h2_3 e2;simp! only [↓ay];refine zv hd4 ?_;ac_rfl;refine De (k:=.inl c) hd4 ?_
    cases hvv:dO kvs (.inl c) with
    | none=>
     have hn:=hno () hvv;have fin:Al (dc H4) (axL (ijL (aF ws rs (j+1)))) ys:=by rw [hsc (),hn,Rh];exact al ()
     exists fin;clear hno hyes hn hvv hsc al;rw [Sq];ac_rfl;exact⟨_,_,_,rfl,e4,rfl,fin ()⟩
    | some x0=>
     obtain⟨n,hn,rfl,hwn,hpa⟩:=hyes () x0 hvv;clear hno hyes hvv;obtain⟨b,hb⟩:∃ b,rs[n]? = some b:=⟨_,Ow %[0|8]⟩;have hat2:atI (rs.map V.int) (n:Int)=some (V.int b):=bU (by rw [OL,hb];rfl);have hat3:atI (ws.map V.int) (n:Int)=some (V.int c):=bU (by rw [OL,hwn];rfl);replace hsc:=hsc ();rw [hpa] at hsc;rw [Option.getD_some]
     by_cases hnj:n=j
     ·subst hnj;have hnot:rs[n]? = some c:=hc ();rw [Pd hnot,Rh] at hsc;have fin:Al (dc H4) (axL (ijL (aF ws rs (n+1)))) ys:=by rw [hsc];exact al ()
      exists fin;clear hsc hpa al hwn hb hnot hc;ac_rfl;rw [O2 (show ¬ ¬ (n:Int)=0+(n:Int) from λ h=>h (Po _).symm)];exact⟨_,_,_,rfl,e4,rfl,fin ()⟩
     by_cases hbc:b=c
     ·subst hbc;rw [Pd hb,Rh] at hsc;have fin:Al (dc H4) (axL (ijL (aF ws rs (j+1)))) ys:=by rw [hsc];exact al ()
      exists fin;have hnj':¬ (n:Int)=0+(j:Int):=by omega
      clear hsc hpa al hwn hb hc;ac_rfl;exact⟨_,_,_,rfl,e4,rfl,fin ()⟩
     ·rw [O2 (by rw [hb];intro z;exact hbc (O1 z))] at hsc;exists hsc;have hnj':¬ (n:Int)=0+(j:Int):=by omega
      have hlt:ys.length < sizeLine:=eR %[0|8];clear hpa hwn hb hc;ac_rfl;intro g H5 hg e5 h5;have h4_5:=e5.at h4;have hd5:=e5.at hd4;ac_rfl;refine⟨_,_,_,rfl,(e4.trans e5).put hr0,by rw [af nd];exact hd5,rfl,?_⟩;rw [hsc ()];exact wC (z:=(n,j)) ((al ()).imp λ _ _ t=>dc.ext t e5) h4_5 (by rw [h5,Po])
   ·rintro _ H4 ⟨ys,v5,v6,rfl,e4,hd4,h4,al⟩;have hl2:((ws.length:Int)).toNat=rs.length:=by omega
    rw [hl2] at al;have k':=k () r H4 hr0 e4 ⟨ys,h4,al⟩;clear k al hl2;ac_rfl
theorem qZ{b:Int}(hb:0<=b):∀ axs:List (Int × Int),aR (aO b axs)=aR axs * b/\aH (aO b axs)=aH axs * b
 | []=>⟨(Ru b).symm,(Ru b).symm⟩
 | a::r=>by
  obtain⟨i1,i2⟩:=qZ hb r;have e:aO b (a::r)=(a.1,a.2 * b)::aO b r:=rfl;rw [e,cX,cY,cX,cY,i1,i2,QJ,QJ]
  show min 0 ((a.1 - 1) * (a.2 * b))+_=_/\max 0 ((a.1 - 1) * (a.2 * b))+_=_
  rw [←Qb];generalize (a.1 - 1) * a.2=x
  rcases Int.le_total 0 x with hx|hx
  ·have:=Q6 hx hb;have m1:min 0 x=0:=by omega
   have m2:max 0 x=x:=by omega
   rw [m1,m2,Ru];omega
  ·have:x * b<=0:=Int.mul_nonpos_of_nonpos_of_nonneg hx hb;have m1:min 0 x=x:=by omega
   have m2:max 0 x=0:=by omega
   rw [m1,m2,Ru];omega
theorem Br{room f times:Int}{axs:List (Int × Int)}(h0:0<=f+aR axs)(h1:f+aH axs < room)(ht:1<=times):0<=f * times+aR (aO times axs)/\f * times+aH (aO times axs) < room * times:=by
 obtain⟨e1,e2⟩:=qZ (show 0<=times by omega) axs;rw [e1,e2,←QJ,←QJ];refine⟨Q6 h0 %[0|8],?_⟩;have:=O3 (show f+aH axs+1<=room by omega) (show 0<=times by omega);rw [QJ _ 1,Sz] at this;omega
theorem jC(b m:Int):∀ (axs:List (Int × Int)) (cs:List Int),(aO b axs).foldl bG (cs.map λ c=>c * b+m)=(axs.foldl bG cs).map λ c=>c * b+m
 | [],cs=>rfl
 | a::r,cs=>by
  have e:bG (cs.map λ c=>c * b+m) (a.1,a.2 * b)=(bG cs a).map λ c=>c * b+m:=by
   unfold bG;rw [List.flatMap_map,List.map_flatMap];congr 1;funext c;rw [map_map];congr 1;funext n
   show c * b+m+(n:Int) * (a.2 * b)=(c+(n:Int) * a.2) * b+m
   rw [QJ,Qb];omega
  have e2:aO b (a::r)=(a.1,a.2 * b)::aO b r:=rfl;rw [e2,Rw,Rw,e,jC b m r]
theorem oH(b m f:Int)(axs:List (Int × Int)):ah (f * b+m) (aO b axs)=(ah f axs).map λ c=>c * b+m:=jC b m axs [f]
theorem jw(b:Int)(axs:List (Int × Int)):(aO b (axs.map aP)).map aP=aO b (axs.map aP):=by
 unfold aO;rw [map_map,map_map,map_map];refine List.map_congr_left λ a _=>?_
 show aP ((aP a).1,(aP a).2 * b)=((aP a).1,(aP a).2 * b)
 unfold aP
 show (a.1,if a.1 > 1 then (if a.1 > 1 then a.2 else 0) * b else 0)=_
 split
 ·rfl
 ·rw [Ru]
def jY(ns:List Int):Int:=1+fR ns 15 100000000000000
def si(ns:List Int):Int:=fR ns 16 1000000000
theorem vc(ns:List Int):1<=jY ns/\jY ns<=100000000000000:=by
 have h0:0<=fR ns 15 100000000000000:=Int.emod_nonneg _ ⋯;have h1:fR ns 15 100000000000000 < 100000000000000:=Int.emod_lt_of_pos _ ⋯;unfold jY;omega
theorem JX(ns:List Int):0<=si ns/\si ns < 1000000000:=⟨Px _ ⋯,Pl _ ⋯⟩
theorem JW{room f b m:Int}{axs:List (Int × Int)}(hx:fQ axs)(r1:1<=room)(r2:room<=4096)(h0:0<=f+aR axs)(h1:f+aH axs < room)(hb:1<=b/\b<=100000000000000)(hm:0<=m/\m < 1000000000):qT (room * b+m) (f * b+m) (aO b axs):=by
 have hax:fQ (aO b axs):=gW hx;obtain⟨g1,g2⟩:=eV (aO b axs) λ a ha=>(hax.2 a ha).1;obtain⟨s1,s2⟩:=Br h0 h1 hb.1;have k1:room * b<=4096 * b:=O3 r2 %[0|8];have k2:1 * b<=room * b:=O3 r1 %[0|8];exact⟨hax,by omega,by omega,by rw [g1];omega,by rw [g2];omega⟩
abbrev rT(K:PySem.W.Frag)(a:Addr)(ns:List Int)(C:Addr)(p:Addr)(v:Addr)(H:Hp)(Q:VK)(E:XK):Prop:=p=a/\SqL K H a (ns.map V.int)/\ns.length<=63/\∃ (room f:Int) (A:List (Int × Int)),aG C H v room f A/\fQ A/\1<=room/\room<=4096/\0<=f+aR A/\f+aH A < room/\∀ (x:Addr) (H':Hp),Ext H H'->aG C H' x (room * jY ns+si ns) (f * jY ns+si ns) ((aO (jY ns) A).map aP)->Q (.ref x) H'
def uF(K:W.Frag)(a:Addr)(ns:List Int)(C:Addr):Sp:=λ vs H Q E=>∃ (p:Addr) (v:Addr),vs=[.ref p,.ref v]/\(rT K a ns C p v H Q E)
theorem rK(K:W.Frag)(a:Addr)(ns:List Int)(C:Addr)(p:Addr)(v:Addr)(H:Hp)(Q:VK)(E:XK):uF K a ns C [.ref p,.ref v] H Q E=(rT K a ns C p v H Q E):=jV (f:=λ (p:Addr) (v:Addr)=>[.ref p,.ref v]) (λ _ _ _ _ h=>by cases h;exact⟨rfl,rfl⟩) p v
theorem AI(K:W.Frag)(a:Addr)(ns:List Int)(C:Addr){vs:List V}{H:Hp}{Q:VK}{E:XK}(h:uF K a ns C vs H Q E):vs.length=2:=jW h λ _ _=>rfl
theorem qg(T:Tx K mg t)(a:Addr)(ns:List Int):bL P w K mg base CX0 8 t.a__law_far t.d__law_far ["_law_script", "_law_view"] (uF K a ns t.a_View):=by
 have G__law_draw:=%[gJ|41] a ns;have G_View___init__:=%[eG|41];refine T.F__law_far.ok ik (λ vs H Q E h=>AI _ _ _ _ h) (λ c A o s H vs Q E hr h=>?_)
 ·obtain⟨_,v,rfl,rfl,hS,hl,room,f,axs,vu,hx,r1,r2,h0,h1,kk⟩:=h;rename_i a;obtain⟨dx,D,hu,tt⟩:=vu.ob;refine⟨_,%[(@fF _ _ (2) _ _ _ _ ik.nd rfl (Or.inr rfl) %[aK,%[0|2],%[_law_draw,%[%[0|0],%[%[0|2],%[%[qN,%[0|2],%[0|2]|11]|1]|1]|1]|3]|11] ∅ %[0|7]),%[%[3,ik,%[_law_draw,%[%[0|0],%[%[0|2],%[%[qN,%[0|2],%[0|2]|11]|1]|1]|1]|3]|4],%[%[%[T.mk_View,G_View___init__,(hr.mono ⋯),∅,T.m_View,T.b_View___init__,.nil,eJ,%[%[aK,%[dI,%[%[1|0],rfl|31],%[2|0]|11],%[3|0]|11],%[%[aK,%[dI,%[%[1|0],rfl|31],%[2|0]|11],%[3|0]|11],%[%[(["_law_size", "_law_pace", "_law_script", "_law_view", "_law_by", "_law_more"]),(2),(aC (aa ft) ["_law_script", "_law_view", "_law_by", "_law_more"] rfl rfl nofun),rfl,%[%[%[1|0],rfl|31]|20],(λ C s₀ H₀ ex pn=>(%[(2),rfl,%[%[(0),_,(show List.Nodup (["_law_size", "_law_pace", "_law_script", "_law_view", "_law_by", "_law_more"]:List Str) from by decide +kernel),rfl,(Or.inl rfl),%[0|7]|15],%[%[(1),_,(show List.Nodup (["_law_size", "_law_pace", "_law_script", "_law_view", "_law_by", "_law_more"]:List Str) from by decide +kernel),rfl,(Or.inl rfl),%[0|7]|15],(@aT _),∅|18],∅|18],∅,∅|26].mono λ _ _ _ _ h=>cH h)),(λ C s₀ H₀ ex pn=>(@aV _)),(λ C s₀ H₀ ex pn=>%[%[%[0|0],%[%[dI,%[1|0],%[4|0]|11]|1]|1]|19]),(by intros;rfl)|25]|1]|1]|1],⋯,∅,∅|40]|12]|10]|9]|9],?_⟩;rw [show aA ["_law_script", "_law_view", "_law_by", "_law_more"] [.ref a,.ref v]=[some (.ref a),some (.ref v),none,none] from rfl];clear G__law_draw G_View___init__;obtain⟨ys,hD,al⟩:=tt;have hok:=JW hx r1 r2 h0 h1 (vc ns) (JX ns);have hB:=vc ns;exists kk;have c1:=T.cl_View;have c2:=T.na_View_first;have c3:=T.na_View_axes;have c4:=T.na_View_room;have g1:=gT room f D;have g2:=dX room f D;have g3:=cx room f D;ac_rfl;rw [nO];refine⟨hS,hl,⟨by decide,by decide⟩,by decide,?_⟩;have eB:1+fR ns 15 100000000000000=jY ns:=rfl;have eM:fR ns 16 1000000000=si ns:=rfl;ac_rfl;rw [nO];refine⟨hS,hl,⟨by decide,by decide⟩,by decide,?_⟩;rw [eM];generalize jY ns=b at *;generalize si ns=m at *;have hcm1:mK room b:=.inr %[0|8];have hcm2:mK f b:=.inr %[0|8];clear eB eM hS;ac_rfl;have wk:=gq (K:=K) (R:=axP) (λ _ _ _ _ h e=>h.ext e) hD (iW al);have h8:=hx.1;refine cI axs (λ _=>true) axP (λ D a y H'=>∃ q,y=.ref q/\H' q=some (.tup [.int a.1,.int (a.2 * b)])) wk.1 wk.2 (λ D _ y H1 H2 ⟨q,h1,h3⟩ e=>⟨q,h1,e.at h3⟩) (λ D _ y H1 xs o ⟨q,h1,h3⟩ hD=>⟨q,h1,by rw [af (λ z=>by rw [z,hD] at h3;cases h3)];exact h3⟩) (ag %[0|8]) ?_ ?_
  ·intro D' x y H' N1 N0 ha hD e _ ⟨q,hy,hq⟩ k1 _;subst hy;have k1':=k1 rfl;have hcm:mK x.2 b:=.inr %[0|8];clear k1 kk;simp! only [↓dw,↓ba];intro t1 H6 ht1 e6 h6;exact k1' _ H6 e6 ⟨t1,rfl,h6⟩
  intro D2 zs H2 hD2' e2 hD2 al2;rw [jX] at al2
  have tt2:bV H2 D2 (axL (aO b axs)):=by
   refine⟨zs,hD2,by rw [al2.1];unfold axL aO;rw [length_map,length_map],λ i z y hz hy=>?_⟩;unfold axL aO at hz;rw [map_map,getElem?_map] at hz;obtain⟨x,hx,rfl⟩:=Option.map_eq_some_iff.mp hz;obtain⟨q,hq1,hq3⟩:=al2.2 i x y hx hy;exact⟨q,hq1,hq3⟩
  clear wk al2 hD2;ac_rfl;intro x1 dx1 G1 hx1 hdx1 hne1 ge1 k1 k1';rw [js];refine⟨dx1,aO b axs,k1,tt2.ext ge1,hok,λ G2 D3 g2' hD3 hx2 tt3=>?_⟩;have eg:=g2' H2 ge1 hx1;have kq:=kk () x1 G2 (e2.trans eg) ⟨dx1,D3,hx2,tt3⟩;clear kk tt3 hok al;ac_rfl
theorem yn{α β:Type}(zs:List α)(f:α->List β)(j:Nat)(z:α)(h:zs[j]? = some z):(zs.take (j+1)).flatMap f=(zs.take j).flatMap f++f z:=by
 rw [R1,h,Rm];simp
theorem Bq(zs:List (List Int))(n:Nat):∀ j:Nat,((zs.take j).flatMap λ row=>(List.range n).map λ k=>row++[((k:Nat):Int)]).length<=zs.length * n:=by
 intro j
 have e:((zs.take j).flatMap λ row=>(List.range n).map λ k=>row++[((k:Nat):Int)]).length=(zs.take j).length * n:=by
  generalize zs.take j=l
  induction l with
  | nil=>simp
  | cons a r ih=>rw [Se,OR,ih,OB,Pa,Ph,Nat.succ_mul,Nat.add_comm]
 rw [e];exact Ri n (by rw [O8];omega)
theorem qS{α:Type}{R:α->V->Prop}{zs zs':List α}{ys ys':List V}(h:Al R zs ys)(h':Al R zs' ys'):Al R (zs++zs') (ys++ys'):=by
 refine⟨by rw [OR,OR,h.1,h'.1],λ i a b ha hb=>?_⟩
 by_cases hi:i < zs.length
 ·rw [Pj hi] at ha;rw [Pj (by rw [h.1];exact hi)] at hb;exact h.2 i a b ha hb
 ·rw [O7 %[0|8]] at ha;rw [O7 (by rw [h.1];omega),h.1] at hb;exact h'.2 _ a b ha hb
abbrev we  (p:Addr) (H:Hp) (Q:VK) (E:XK):Prop:=∃ ns:List Int,H p=some (.lst (ns.map V.int))/\eK ns/\ae ns<=4096/\∀ (r:Addr) (H':Hp),Ext H H'->bV H' r (cu ns)->Q (.ref r) H'
def Cq  : Sp:=λ vs H Q E=>∃ (p:Addr),vs=[.ref p]/\(we  p H Q E)
theorem Gb  (p:Addr) (H:Hp) (Q:VK) (E:XK):Cq  [.ref p] H Q E=(we  p H Q E):=mL (f:=λ (p:Addr)=>[.ref p]) (λ _ _ h=>by cases h;exact rfl) p
theorem Ft  {vs:List V}{H:Hp}{Q:VK}{E:XK}(h:Cq  vs H Q E):vs.length=1:=mG h λ _=>rfl
theorem kf(T:Tx K mg t):bL P w K mg base CX0 1 t.a__law_places t.d__law_places ["_law_sizes_here"] Cq:=by
 refine T.F__law_places.ok bI (λ vs H Q E h=>Ft h) (λ c A o s H vs Q E hr h=>?_)
 ·obtain⟨p,rfl,ns,hp,hs,hc,kk⟩:=h;refine⟨_,%[%[1,bI,%[%[%[(@bw _)|19]|1]|16]|4],%[%[OV,rfl,%[%[0|0]|20],%[2,bI|5],%[%[3,bI,%[(@bw _)|16]|4],%[%[OV,rfl,%[%[1|0]|20],%[(4),_,bI.nd,rfl,(Or.inr rfl),%[0|7]|15],%[%[%[O4,RA,Rz,jo,%[3|0],%[%[(["_law_k", "_law_sizes_here", "_law_found", "_law_size", "_law_longer", "_law_place"]),(1),(aC (aa cO) ["_law_sizes_here", "_law_found", "_law_size", "_law_longer", "_law_place"] rfl rfl nofun),rfl,%[∅,T.z_range,%[%[2|0]|1],∅|29],(λ C s₀ H₀ ex pn=>%[(0),_,(show List.Nodup (["_law_k", "_law_sizes_here", "_law_found", "_law_size", "_law_longer", "_law_place"]:List Str) from by decide +kernel),rfl,(Or.inl rfl),%[0|7]|15]),(λ C s₀ H₀ ex pn=>(@aV _)),(λ C s₀ H₀ ex pn=>%[cC,%[5|0],%[%[%[0|0]|1]|19]|11]),(by intros;rfl)|25]|1],∅,∅,∅,∅,∅|34],∅|27]|10],(by intros;rfl)|21],%[%[1,bI,%[3|0]|4]|10]|9]|9],(by intros;rfl)|21],%[%[%[1|0]|12]|10]|9]|9],?_⟩;rw [show aA ["_law_sizes_here", "_law_found", "_law_size", "_law_longer", "_law_place"] [.ref p]=[some (.ref p),none,none,none,none] from rfl];ac_rfl;intro q0 H0 hq0 e0 h0;ac_rfl;intro r H1 hr1 e1 h1;have hp1:=(e0.trans e1).at hp;ac_rfl;refine cw (xs:=ns.map V.int) (λ i σ H'=>∃ (r:Addr) (v2 v3 v4:Option V),σ=[some (.ref p),some (.ref r),v2,v3,v4]/\Ext H H'/\bV H' r (cu (ns.take i))) ⟨r,_,_,_,rfl,e0.trans e1,⟨_,h1,rfl,λ i z y hz hy=>?_⟩⟩ (λ i σ H' _ ⟨_,_,_,_,_,e,_⟩=>e.at hp) ?_ ?_
  ·have e':cu (ns.take 0)=[[]]:=rfl;rw [e'] at hz
   cases i with
   | zero=>simp at hz hy;subst hz;subst hy;exact⟨q0,rfl,e1.at h0⟩
   | succ i=>simp at hz
  ·rintro i x _ H2 hi ⟨r,v2,v3,v4,rfl,e2,⟨ys,hr2,al⟩⟩;rw [OL] at hi;obtain⟨n,hn,rfl⟩:=OF.mp hi;have hb:=hs.2 n (OX hn);have hpp:=(hs.take i).prod.1;have htk:ns.take (i+1)=ns.take i++[n]:=by rw [Qs,hn];rfl
   have hrow:cu (ns.take (i+1))=(cu (ns.take i)).flatMap λ row=>(List.range n.toNat).map λ k=>row++[((k:Nat):Int)]:=by
    rw [htk];exact sG _ n %[0|8] %[0|8]
   have hlen:(cu (ns.take i)).length * n.toNat<=4096:=by
    have q1:=eu ns (λ m hm=>(hs.2 m hm).1) (i+1);rw [htk,bA,show ae [n]=n by simp [ae]] at q1;rw [jl]
    have q2:((ae (ns.take i)).toNat * n.toNat:Nat)=(ae (ns.take i) * n).toNat:=by
     obtain⟨a,ha⟩:=OT (show 0<=ae (ns.take i) by omega);obtain⟨b,hb'⟩:=OT (show 0<=n by omega);rw [ha,hb'];rfl
    omega
   have hsm:∀ z∈cu (ns.take i),z.length<=8:=λ z hz=>by
    unfold cu at hz;obtain⟨j,_,rfl⟩:=List.mem_map.mp hz;rw [bp];exact(hs.take i).1
   clear hi htk;simp! only [↓ay];intro L H3 hL e3 h3;have hrL:r ≠ L:=λ z=>by rw [z,hL] at hr2;cases hr2
   ac_rfl;have hr3:=e3.at hr2;ac_rfl;refine cw (xs:=ys) (λ j σ H'=>∃ (v4:Option V) (zs':List V),σ=[some (.ref p),some (.ref r),some (.int n),some (.ref L),v4]/\Ext H2 H'/\H' L=some (.lst zs')/\Al (dc H') (((cu (ns.take i)).take j).flatMap λ row=>(List.range n.toNat).map λ k=>row++[((k:Nat):Int)]) zs') ⟨_,[],rfl,e3,h3,by simpa using Al.nil⟩ (λ j σ H' _ ⟨_,_,_,e,_⟩=>e.at hr2) ?_ ?_
   ·rintro j y _ H4 hj ⟨v4,zs',rfl,e4,g4,al4⟩;obtain⟨z,hz,q,rfl,hq⟩:=gi (al.imp λ _ _ t=>t.ext e4) hj;have hzl:=hsm z (OX hz);have hst:=yn (cu (ns.take i)) (λ row=>(List.range n.toNat).map λ k=>row++[((k:Nat):Int)]) j z hz;have hfl:=Bq (cu (ns.take i)) n.toNat (j+1);rw [hst,OR,OB,Pa] at hfl;have hzs:=al4.1;rw [hst];generalize ((cu (ns.take i)).take j).flatMap (λ row=>(List.range n.toNat).map λ k=>row++[((k:Nat):Int)])=fs at al4 hzs hfl;have hsz:(z.map V.int).length+1<=sizeLine:=ag (by rw [OB];omega);exists al4;clear hst hz hj;simp! only [↓ay];refine⟨by omega,by omega,?_⟩;refine cI (List.range n.toNat) (λ _=>true) (λ j x H'=>x=.int (0+(j:Nat))) (λ D k y H'=>∃ g,y=.ref g/\H' g=some (.tup ((z++[((k:Nat):Int)]).map V.int))) eD.1 eD.2 (λ D _ y H1 H2 ⟨q,h1,h3⟩ e=>⟨q,h1,e.at h3⟩) (λ D _ y H1 xs o ⟨q,h1,h3⟩ hD=>⟨q,h1,by rw [af (λ z=>by rw [z,hD] at h3;cases h3)];exact h3⟩) (ag (by rw [Pa];omega)) ?_ ?_
    ·intro D k x H' N1 N0 hk hD e _ hx k1 _;subst hx;have k1':=k1 rfl;have hq5:=e.at hq;clear k1 hk kk;simp! only [↓bh,↓ba];intro t1 H6 ht1 e6 h6;have hq6:=e6.at hq5;ac_rfl;rw [fE];refine⟨hsz,λ t2 H7 e7 h7=>?_⟩;exact k1' _ H7 (e6.trans e7) ⟨t2,rfl,by rw [h7,Pz,Po];rfl⟩
    intro D zs6 H6 hD e6 h6' al6;rw [jX] at al6;have g6:=e6.at g4;have hl6:=al6.1;rw [Pa] at hl6;have hll:zs'.length+zs6.length<=sizeLine:=ag (by rw [hzs,hl6];omega)
    have al7:Al (dc H6) (fs++(List.range n.toNat).map λ k=>z++[((k:Nat):Int)]) (zs'++zs6):=qS ((al4 ()).imp λ _ _ t=>t.ext e6) ⟨by rw [hl6,OB,Pa],λ i' a b ha hb=>by
     rw [OL] at ha;obtain⟨k,hk,rfl⟩:=OF.mp ha;obtain⟨g,h1,h2⟩:=al6.2 i' k b hk hb;exact⟨g,h1,h2⟩⟩
    exists al7;clear al4 al6 kk;ac_rfl;refine⟨ag %[0|8],_,_,rfl,(e4.trans e6).put hL,rfl,(al7 ()).imp λ _ _ t=>t.upd g6⟩
   ·rintro _ H4 ⟨v4,zs',rfl,e4,g4,al4⟩;rw [al.1,P6] at al4;ac_rfl;exact⟨L,_,_,_,rfl,e2.trans e4,zs',g4,al4⟩
  ·rintro _ H2 ⟨r,v2,v3,v4,rfl,e2,tt⟩;rw [OB,P6] at tt;ac_rfl;exact kk r H2 e2 tt
def bR(x y:List Int)(a:Nat):Int:=x.getD a 0 - y.getD a 0
def crB:List (Int × Int)->List Int->List Int->Bool
 | [],_,_=>false
 | o::os,x,y=>if bR x y o.1.toNat=0 then crB os x y else decide (0 < bR x y o.1.toNat * o.2)
theorem rD{o:Int × Int}{os:List (Int × Int)}{x y:List Int}(h:bR x y o.1.toNat=0):crB (o::os) x y=crB os x y:=Pd h
theorem rE{o:Int × Int}{os:List (Int × Int)}{x y:List Int}(h:¬ bR x y o.1.toNat=0):crB (o::os) x y=decide (0 < bR x y o.1.toNat * o.2):=O2 h
theorem pP:∀ {os qs:List (Int × Int)}{x y:List Int},crB os x y=true->crB (os++qs) x y=true
 | [],_,_,_,h=>by cases h
 | o::os,qs,x,y,h=>by
  rw [RW]
  by_cases hg:bR x y o.1.toNat=0
  ·rw [rD hg] at h ⊢;exact pP h
  ·rw [rE hg] at h ⊢;exact h
theorem rF:∀ {os qs:List (Int × Int)}{x y:List Int},(∀ o∈os,bR x y o.1.toNat=0)->crB (os++qs) x y=crB qs x y
 | [],_,_,_,_=>rfl
 | o::os,qs,x,y,h=>by
  rw [RW,rD (h o ON)];exact rF λ o ho=>h o (OH _ ho)
def GA(n:Nat)(os:List (Int × Int)):Prop:=(∀ o∈os,(0<=o.1/\o.1 < (n:Int))/\(o.2=1\/o.2=-1))/\(os.map λ o=>o.1).Nodup
def Ot(n:Nat)(z:List Int)(os:List (Int × Int)):List Int:=os.foldl (λ pl o=>pl.set o.1.toNat (z.getD o.1.toNat 0)) (List.replicate n 0)
def Oq{α:Type}(W R:α->Int)(L:List α):List (Int × Int):=L.foldl (λ kv n=>kv++[(W n,(Hf kv (R n)).getD (R n))]) []
theorem xb{ws rs:List Int}{n i j:Nat}(hnd:ws.Nodup):(i,j)∈aF ws rs n ↔ j < n/\∃ c,rs[j]? = some c/\ws[i]? = some c/\¬ rs[i]? = some c:=by
 unfold aF;rw [List.mem_flatMap];constructor
 ·rintro ⟨j',hj',h⟩;unfold bN at h
  cases hc:rs[j']? with
  | none=>rw [hc] at h;cases h
  | some c=>
   rw [hc] at h;have h':(i,j)∈(match ws.findIdx? (λ x=>decide (x=c)) with|some i=>if rs[i]? = some c then [] else [(i,j')]|none=>[]):=h
   cases hf:ws.findIdx? (λ x=>decide (x=c)) with
   | none=>rw [hf] at h';cases h'
   | some i'=>
    rw [hf] at h';have h2:(i,j)∈(if rs[i']? = some c then [] else [(i',j')]):=h';rw [PY] at hf;split at h2
    ·cases h2
    ·rename_i hr;have:=OE.mp h2;cases this;obtain⟨hi,he,_⟩:=hf;exact⟨Py.mp hj',c,hc,by rw [Ow hi,Pe he],hr⟩
 ·rintro ⟨hj,c,hc,hw,hr⟩;refine⟨j,List.mem_range.mpr hj,?_⟩;unfold bN;rw [hc]
  show (i,j)∈(match ws.findIdx? (λ x=>decide (x=c)) with|some i=>if rs[i]? = some c then [] else [(i,j)]|none=>[])
  rw [pM hnd hw]
  show (i,j)∈(if rs[i]? = some c then [] else [(i,j)])
  rw [O2 hr];exact OE.mpr rfl
def Oj(ms ws:List Int)(z:List Int):Int:=ws.getD (J9 ms z).toNat 0
def Oi(ms ws rs:List Int)(os:List (Int × Int)):Bool:=(aF ws rs rs.length).all λ p=>crB os (ao ms (p.1:Int)) (ao ms (p.2:Int))
abbrev PP:=List Int × List Int
def Km(d:Int)(ns:List Int)(M:Int):Prop:=(ns=[]/\M=d)\/(M∈ns/\∀ a∈ns,M<=a)
def zb(d:Int)(ns:List Int)(M:Int):Prop:=(ns=[]/\M=d)\/(M∈ns/\∀ a∈ns,a<=M)
def lj(Z:List PP)(a:Nat):List Int:=Z.map λ z=>bR z.1 z.2 a
def zc(Z:List PP)(a:Nat)(w:Int):Prop:=(w=1\/w=-1)/\(∀ z∈Z,0<=bR z.1 z.2 a * w)/\∃ z∈Z,¬ bR z.1 z.2 a=0
def CY(Z:List PP)(a:Nat):Prop:=(∀ z∈Z,bR z.1 z.2 a=0)\/((∃ z∈Z,bR z.1 z.2 a < 0)/\∃ z∈Z,0 < bR z.1 z.2 a)
theorem dW{Z:List PP}{a:Nat}{z:PP}(h:z∈Z):bR z.1 z.2 a∈lj Z a:=OO.mpr ⟨z,h,rfl⟩
theorem Bb{Z:List PP}{a:Nat}{lo hi:Int}(hl:Km 0 (lj Z a) lo)(hh:zb 0 (lj Z a) hi)(h1:0<=lo)(h2:0 < hi):zc Z a 1:=by
 refine⟨.inl rfl,λ z hz=>?_,?_⟩
 ·rcases hl with ⟨e,_⟩|⟨_,h⟩
  ·have:=dW (a:=a) hz;rw [e] at this;cases this
  ·have:=h _ (dW (a:=a) hz);omega
 ·rcases hh with ⟨_,e⟩|⟨h,_⟩
  ·omega
  ·obtain⟨z,hz,e⟩:=OO.mp h;exact⟨z,hz,by omega⟩
theorem Bc{Z:List PP}{a:Nat}{lo hi:Int}(hl:Km 0 (lj Z a) lo)(hh:zb 0 (lj Z a) hi)(h1:hi<=0)(h2:lo < 0):zc Z a (-1):=by
 refine⟨.inr rfl,λ z hz=>?_,?_⟩
 ·rcases hh with ⟨e,_⟩|⟨_,h⟩
  ·have:=dW (a:=a) hz;rw [e] at this;cases this
  ·have:=h _ (dW (a:=a) hz);omega
 ·rcases hl with ⟨_,e⟩|⟨h,_⟩
  ·omega
  ·obtain⟨z,hz,e⟩:=OO.mp h;exact⟨z,hz,by omega⟩
theorem FC{Z:List PP}{a:Nat}{lo hi:Int}(hl:Km 0 (lj Z a) lo)(hh:zb 0 (lj Z a) hi)(h1:¬ (0<=lo/\0 < hi))(h2:¬ (hi<=0/\lo < 0)):CY Z a:=by
 rcases hl with ⟨e,_⟩|⟨m1,l1⟩
 ·left;intro z hz;have:=dW (a:=a) hz;rw [e] at this;cases this
 ·rcases hh with ⟨e,_⟩|⟨m2,l2⟩
  ·rw [e] at m1;cases m1
  ·by_cases h:lo < 0
   ·right;obtain⟨z,hz,e⟩:=OO.mp m1;obtain⟨z',hz',e'⟩:=OO.mp m2;exact⟨⟨z,hz,by omega⟩,z',hz',by omega⟩
   ·left;intro z hz;have:=l1 _ (dW (a:=a) hz);have:=l2 _ (dW (a:=a) hz);omega
structure LoI(n:Nat)(P L:List PP)(os:List (Int × Int)):Prop where
 ord:GA n os
 sub:∀ z∈L,z∈P
 zer:∀ z∈L,∀ o∈os,bR z.1 z.2 o.1.toNat=0
 crr:∀ z∈P,z∈L\/crB os z.1 z.2=true
theorem LoI.init(n:Nat)(P:List PP):LoI n P P []:=⟨⟨(λ o h=>by cases h),Q0⟩,λ _ h=>h,(λ _ _ o h=>by cases h),λ _ h=>.inl h⟩
theorem LoI.step{n:Nat}{P L:List PP}{os:List (Int × Int)}{a:Nat}{w:Int}(h:LoI n P L os)(hh:zc L a w)(ha:a < n):LoI n P (L.filter λ z=>decide (bR z.1 z.2 a=0)) (os++[((a:Int),w)])/\(L.filter λ z=>decide (bR z.1 z.2 a=0)).length < L.length:=by
 obtain⟨hw,h0,z1,hz1,hg1⟩:=hh;have hnew:∀ o∈os,¬ o.1=(a:Int):=λ o ho e=>hg1 (by have:=h.zer z1 hz1 o ho;rw [e,OI] at this;exact this);refine⟨⟨⟨λ o ho=>?_,?_⟩,λ z hz=>h.sub z (Pw.mp hz).1,λ z hz o ho=>?_,λ z hz=>?_⟩,?_⟩
 ·rcases OQ.mp ho with ho|ho
  ·exact h.ord.1 o ho
  ·rw [OE.mp ho];exact⟨⟨by show (0:Int)<=(a:Int);omega,by show (a:Int) < (n:Int);omega⟩,hw⟩
 ·rw [Pz];refine RC.mpr ⟨h.ord.2,List.pairwise_singleton _ _,λ x hx y hy e=>?_⟩;obtain⟨o,ho,e1⟩:=OO.mp hx;have hy':y=(a:Int):=OE.mp hy;exact hnew o ho (by rw [e1,e,hy'])
 ·obtain⟨hz,hg⟩:=Pw.mp hz
  rcases OQ.mp ho with ho|ho
  ·exact h.zer z hz o ho
  ·rw [OE.mp ho]
   show bR z.1 z.2 ((a:Int)).toNat=0
   rw [OI];exact Pe hg
 ·rcases h.crr z hz with hL|hc
  ·by_cases hg:bR z.1 z.2 a=0
   ·exact .inl (Pw.mpr ⟨hL,OG hg⟩)
   ·right;rw [rF (h.zer z hL),rE (by show ¬ bR z.1 z.2 ((a:Int)).toNat=0;rw [OI];exact hg)]
    show decide (0 < bR z.1 z.2 ((a:Int)).toNat * w)=true
    rw [OI];refine OG ?_;have:=h0 z hL
    rcases hw with rfl|rfl<;>omega
  ·exact .inr (pP hc)
 ·refine Nat.lt_of_le_of_ne (Rc _ _) λ e=>?_;have:=List.length_filter_eq_length_iff.mp e z1 hz1;exact hg1 (Pe this)
theorem gI{α:Type}[DecidableEq α]:∀ {l1 l2:List α},l1.Nodup->l2.Nodup->(∀ a,a∈l1 ↔ a∈l2)->l1.Perm l2
 | [],l2,_,_,h=>by
  cases l2 with
  | nil=>exact .nil
  | cons b r=>exact absurd ((h b).mpr ON) (by simp)
 | a::l,l2,h1,h2,h=>by
  obtain⟨n1,n2⟩:=Qe.mp h1;have ha:a∈l2:=(h a).mp ON;refine(List.Perm.cons a (gI n2 (h2.erase a) λ b=>?_)).trans (List.perm_cons_erase ha).symm;rw [h2.mem_erase_iff];constructor
  ·intro hb;exact⟨λ e=>n1 (e ▸ hb),(h b).mp (OH _ hb)⟩
  ·rintro ⟨hne,hb⟩
   rcases OU.mp ((h b).mpr hb) with e|e
   ·exact absurd e hne
   ·exact e
def iA(n:Nat)(os:List (Int × Int)):List (Int × Int):=(((List.range n).map λ (i:Nat)=>(i:Int)).filter λ a=>decide (¬ a∈os.map λ o=>o.1)).map λ a=>(a,1)
theorem kH(n:Nat):((List.range n).map λ (i:Nat)=>(i:Int)).Nodup:=by
 unfold List.Nodup;rw [List.pairwise_map];exact List.nodup_range.imp λ h e=>h %[0|8]
theorem GA.full{n:Nat}{os:List (Int × Int)}(h:GA n os):Hv (os++iA n os) n:=by
 have hp:((os++iA n os).map λ o=>o.1).Perm ((List.range n).map λ (i:Nat)=>(i:Int)):=by
  refine gI ?_ (kH n) λ a=>?_
  ·rw [Pz];refine RC.mpr ⟨h.2,?_,λ x hx y hy e=>?_⟩
   ·unfold iA;rw [map_map];have:((λ o:Int × Int=>o.1) ∘ λ a:Int=>(a,(1:Int)))=id:=rfl;rw [this,List.map_id];exact(kH n).filter _
   ·obtain⟨o,ho,rfl⟩:=List.mem_map.mp hy;unfold iA at ho;obtain⟨a,ha,rfl⟩:=List.mem_map.mp ho;have:=of_decide_eq_true (List.mem_filter.mp ha).2;exact this (by have e':x=a:=e;rw [←e'];exact hx)
  ·constructor
   ·intro ha;obtain⟨o,ho,rfl⟩:=OO.mp ha
    rcases OQ.mp ho with ho|ho
    ·have:=(h.1 o ho).1;exact OO.mpr ⟨o.1.toNat,Py.mpr %[0|8],by omega⟩
    ·unfold iA at ho;obtain⟨b,hb,rfl⟩:=List.mem_map.mp ho;exact(List.mem_filter.mp hb).1
   ·intro ha
    by_cases hm:a∈os.map λ o=>o.1
    ·obtain⟨o,ho,e⟩:=OO.mp hm;exact OO.mpr ⟨o,Qp _ ho,e⟩
    ·refine List.mem_map.mpr ⟨(a,1),mem_append_right _ ?_,rfl⟩;unfold iA;exact List.mem_map.mpr ⟨a,List.mem_filter.mpr ⟨ha,decide_eq_true hm⟩,rfl⟩
 refine⟨?_,hp,λ o ho=>?_⟩
 ·have:=hp.length_eq;rw [OB,OB,Pa] at this;exact this
 ·rcases OQ.mp ho with ho|ho
  ·exact(h.1 o ho).2
  ·unfold iA at ho;obtain⟨a,_,rfl⟩:=List.mem_map.mp ho;exact .inl rfl
theorem lC{H:Hp}{f:V->Option PyData}{p:Addr}{z:List Int}(h:H p=some (.tup (z.map V.int))):cq H (cq H f) (.ref p)=some (.tuple (z.map PyData.int)):=by
 rw [fA,h]
 show ue (cq H f) (.tup (z.map V.int))=_
 rw [fw,fe];rfl
theorem iM(a b:List Int):PyData.eqv (.tuple (a.map PyData.int)) (.tuple (b.map PyData.int))=decide (a=b):=by rw [dM,cZ]
def PrV(H:Hp)(z:List Int × List Int)(y:V):Prop:=∃ q u v,y=.ref q/\H q=some (.tup [.ref u,.ref v])/\H u=some (.tup (z.1.map V.int))/\H v=some (.tup (z.2.map V.int))
theorem PrV.ext{H H':Hp}{z:List Int × List Int}{y:V}(h:PrV H z y)(e:Ext H H'):PrV H' z y:=by
 obtain⟨q,u,v,h1,h2,h3,h4⟩:=h;exact⟨q,u,v,h1,e.at h2,e.at h3,e.at h4⟩
theorem PrV.upd{H:Hp}{z:List Int × List Int}{y:V}{r:Addr}{zs:List V}{o:HO}(h:PrV H z y)(hr:H r=some (.lst zs)):PrV (upd H r o) z y:=by
 obtain⟨q,u,v,h1,h2,h3,h4⟩:=h;exact⟨q,u,v,h1,by rw [af (λ z=>by rw [z,hr] at h2;cases h2)];exact h2,by rw [af (λ z=>by rw [z,hr] at h3;cases h3)];exact h3,by rw [af (λ z=>by rw [z,hr] at h4;cases h4)];exact h4⟩
def prD(z:List Int × List Int):PyData:=.tuple [.tuple (z.1.map PyData.int),.tuple (z.2.map PyData.int)]
theorem eS{H:Hp}{f:V->Option PyData}:∀ {zs:List (List Int × List Int)}{ys:List V},Al (PrV H) zs ys->aW (ys.map (cq H (cq H (cq H f))))=some (zs.map prD)
 | [],ys,h=>by rw [Pq h.1];rfl
 | z::zs,[],h=>by have:=h.1;simp at this
 | z::zs,y::ys,h=>by
  obtain⟨q,u,v,rfl,hq,hu,hv⟩:=h.2 0 z y rfl rfl;have ih:=eS (H:=H) (f:=f) (zs:=zs) (ys:=ys) ⟨by have:=h.1;simpa using this,λ i z y a b=>h.2 (i+1) z y (by simpa using a) (by simpa using b)⟩
  have e1:cq H (cq H (cq H f)) (.ref q)=some (prD z):=by
   rw [fA,hq]
   show ue (cq H (cq H f)) (.tup [.ref u,.ref v])=_
   rw [fw]
   show (aW [cq H (cq H f) (.ref u),cq H (cq H f) (.ref v)]).map PyData.tuple=_
   rw [lC hu,lC hv];rfl
  rw [PB,e1,fN,ih];rfl
theorem vx:∀ zs:List (List Int × List Int),PyData.eqvAll (zs.map prD) (zs.map prD)=true
 | []=>by rw [Si,cz]
 | z::zs=>by
  have e:PyData.eqv (prD z) (prD z)=true:=by
   unfold prD;rw [dM,bx,bx,cz,iM,iM];simp
  rw [PB,bx,e,vx zs];rfl
theorem sN{g:Int->Int}(hg:∀ x y,g x=g y->x=y)(ws rs:List Int)(j:Nat):bN (ws.map g) (rs.map g) j=bN ws rs j:=by
 unfold bN;rw [getElem?_map]
 cases hj:rs[j]? with
 | none=>rfl
 | some c=>
  show (match (ws.map g).findIdx? (λ x=>decide (x=g c)) with|some i=>if (rs.map g)[i]? = some (g c) then [] else [(i,j)]|none=>[])=(match ws.findIdx? (λ x=>decide (x=c)) with|some i=>if rs[i]? = some c then [] else [(i,j)]|none=>[])
  have e:(ws.map g).findIdx? (λ x=>decide (x=g c))=ws.findIdx? (λ x=>decide (x=c)):=by
   rw [List.findIdx?_map];congr 1;funext x
   show decide (g x=g c)=decide (x=c)
   exact RG.mpr ⟨hg x c,λ h=>by rw [h]⟩
  rw [e]
  cases ws.findIdx? (λ x=>decide (x=c)) with
  | none=>rfl
  | some i=>
   show (if (rs.map g)[i]? = some (g c) then [] else [(i,j)])=(if rs[i]? = some c then [] else [(i,j)])
   rw [OL]
   cases hi:rs[i]? with
   | none=>rfl
   | some d=>
    show (if some (g d)=some (g c) then [] else [(i,j)])=(if some d=some c then [] else [(i,j)])
    by_cases hdc:d=c
    ·rw [hdc,Pd rfl,Pd rfl]
    ·rw [O2 (λ h=>hdc (hg d c (O1 h))),O2 (λ h=>hdc (O1 h))]
theorem sM{g:Int->Int}(hg:∀ x y,g x=g y->x=y)(ws rs:List Int)(n:Nat):aF (ws.map g) (rs.map g) n=aF ws rs n:=by
 unfold aF;refine congrArg (λ f=>(List.range n).flatMap f) (funext λ j=>sN hg ws rs j)
theorem wZ{g:Int->Int}(hg:∀ x y,g x=g y->x=y)(ws:List Int):(ws.map g).Nodup ↔ ws.Nodup:=by
 unfold List.Nodup;rw [List.pairwise_map];exact⟨λ h=>h.imp λ h e=>h (by rw [e]),λ h=>h.imp λ h e=>h (hg _ _ e)⟩
def oQ(ms:List Int)(z:Nat × Nat):List Int × List Int:=(ao ms (z.1:Int),ao ms (z.2:Int))
theorem mT{H:Hp}{ms:List Int}{ys:List V}{i:Nat}{y:V}(al:Al (dc H) (cu ms) ys)(h:ys[i]? = some y):∃ q,y=.ref q/\H q=some (.tup ((ao ms (i:Int)).map V.int)):=by
 obtain⟨z,hz,q,hq,hq2⟩:=gi al h;unfold cu at hz;rw [getElem?_map] at hz;obtain⟨k,hk,rfl⟩:=Option.map_eq_some_iff.mp hz
 have:k=i:=by
  have hi:=(Oy.mp hk).1;rw [Ow hi] at hk;have:=O1 hk;rw [List.getElem_range] at this;exact this.symm
 subst this;exact⟨q,hq,hq2⟩
theorem vD{H:Hp}{ms:List Int}{ys zs:List V}{L:List (Nat × Nat)}(al:Al (dc H) (cu ms) ys)(alp:Al (gQ H ys) L zs):Al (PrV H) (L.map (oQ ms)) zs:=by
 refine⟨by rw [alp.1,OB],λ k z y hz hy=>?_⟩;rw [OL] at hz;obtain⟨ij,hk,rfl⟩:=OF.mp hz;obtain⟨q,u,v,rfl,hq,hu,hv⟩:=alp.2 k ij y hk hy;obtain⟨a,rfl,ha⟩:=mT al hu;obtain⟨b,rfl,hb⟩:=mT al hv;exact⟨q,a,b,rfl,hq,ha,hb⟩
theorem wU{ws rs:List Int}{j:Nat}:∀ z∈bN ws rs j,z.1 < ws.length/\z.2 < rs.length:=λ z hz=>by
 unfold bN at hz
 cases hj:rs[j]? with
 | none=>rw [hj] at hz;cases hz
 | some c=>
  rw [hj] at hz;have hz':z∈(match ws.findIdx? (λ x=>decide (x=c)) with|some i=>if rs[i]? = some c then [] else [(i,j)]|none=>[]):=hz
  cases hf:ws.findIdx? (λ x=>decide (x=c)) with
  | none=>rw [hf] at hz';cases hz'
  | some i=>
   rw [hf] at hz';have hz2:z∈(if rs[i]? = some c then [] else [(i,j)]):=hz';rw [PY] at hf;split at hz2
   ·cases hz2
   ·rw [OE.mp hz2];exact⟨hf.1,(Oy.mp hj).1⟩
theorem wQ{ws rs:List Int}{n:Nat}:∀ z∈aF ws rs n,z.1 < ws.length/\z.2 < rs.length:=λ z hz=>by
 unfold aF at hz;obtain⟨j,_,h⟩:=List.mem_flatMap.mp hz;exact wU z h
def NA(g:Int->Int):Prop:=∀ x y,g x=g y->x=y
theorem FA{b m:Int}(h:1<=b):NA (λ c=>c * b+m):=λ x y e=>by
 have e':x * b+m=y * b+m:=e;exact Int.eq_of_mul_eq_mul_right (show b ≠ 0 by omega) %[0|8]
theorem J1{α β:Type}{f:α->β}{R:β->V->Prop}{zs:List α}{ys:List V}(h:Al (λ z y=>R (f z) y) zs ys):Al R (zs.map f) ys:=by
 refine⟨by rw [h.1,OB],λ i z y hz hy=>?_⟩;rw [OL] at hz;obtain⟨a,ha,rfl⟩:=OF.mp hz;exact h.2 i a y ha hy
theorem BS{H:Hp}{ms:List Int}{ys:List V}{i:Nat}(al:Al (dc H) (cu ms) ys)(h:i < ys.length):∃ q,atI ys (i:Int)=some (.ref q)/\H q=some (.tup ((ao ms (i:Int)).map V.int)):=by
 obtain⟨q,hq,hq2⟩:=mT al (Ow h);exact⟨q,bU (by rw [Ow h,hq]),hq2⟩
theorem PrV.len{ms:List Int}{L:List (Nat × Nat)}:∀ z∈L.map (oQ ms),z.1.length=ms.length/\z.2.length=ms.length:=λ z hz=>by
 obtain⟨ij,_,rfl⟩:=OO.mp hz
 show (ao ms _).length=_/\(ao ms _).length=_
 rw [bp,bp];exact⟨rfl,rfl⟩
abbrev wj  (p:Addr) (a:Int) (H:Hp) (Q:VK) (E:XK):Prop:=∃ z:List Int × List Int,PrV H z (.ref p)/\0<=a/\a < (z.1.length:Int)/\z.2.length=z.1.length/\Q (.int (bR z.1 z.2 a.toNat)) H
def Cs  : Sp:=λ vs H Q E=>∃ (p:Addr) (a:Int),vs=[.ref p,.int a]/\(wj  p a H Q E)
theorem i9  (p:Addr) (a:Int) (H:Hp) (Q:VK) (E:XK):Cs  [.ref p,.int a] H Q E=(wj  p a H Q E):=jV (f:=λ (p:Addr) (a:Int)=>[.ref p,.int a]) (λ _ _ _ _ h=>by cases h;exact⟨rfl,rfl⟩) p a
theorem Fv  {vs:List V}{H:Hp}{Q:VK}{E:XK}(h:Cs  vs H Q E):vs.length=2:=jW h λ _ _=>rfl
theorem qO(T:Tx K mg t):bL P w K mg base CX0 1 t.a_gap t.d_gap ["pair", "axis"] Cs:=by
 refine T.F_gap.ok Mj (λ vs H Q E h=>Fv h) (λ c A o s H vs Q E hr h=>?_)
 ·obtain⟨p,a,rfl,z,⟨_,u,v,hpe,hq,hu,hv⟩,a0,a1,hl,k⟩:=h;cases hpe;refine⟨_,%[%[%[eQ,%[cp,%[cp,%[0|0],%[0|2],(λ _ _=>rfl)|13],%[1|0],(λ _ _=>rfl)|13],%[cp,%[cp,%[0|0],%[0|2],(λ _ _=>rfl)|13],%[1|0],(λ _ _=>rfl)|13]|11]|12]|10],?_⟩;rw [show aA ["pair", "axis"] [.ref p,.int a]=[some (.ref p),some (.int a)] from rfl];have h1:=fW (vals:=z.1) a0 a1;have h2:=fW (vals:=z.2) a0 (by rw [hl];exact a1);unfold bR at k;ac_rfl
theorem yf{d:Int}{H:Hp}{Q:VK}{ns:List Int}(h:∀ M,Km d ns M->Q (.int M) H):uV d H Q ns:=⟨λ e=>h d (.inl ⟨e,rfl⟩),λ M hM hle=>h M (.inr ⟨hM,hle⟩)⟩
theorem yg{d:Int}{H:Hp}{Q:VK}{ns:List Int}(h:∀ M,zb d ns M->Q (.int M) H):uX d H Q ns:=⟨λ e=>h d (.inl ⟨e,rfl⟩),λ M hM hle=>h M (.inr ⟨hM,hle⟩)⟩
def yL(n:Nat)(Z:List PP):Prop:=∀ z∈Z,z.1.length=n/\z.2.length=n
def ky(n:Nat)(Z:List PP):Prop:=∀ a:Nat,a < n->CY Z a
def Hx(n:Nat)(L:List PP)(H:Hp)(x:V):Prop:=(x=.non/\ky n L)\/∃ (a:Nat) (w:Int) (q:Addr),x=.ref q/\H q=some (.tup [.int (a:Int),.int w])/\a < n/\zc L a w
abbrev rV  (l:Addr) (n:Int) (H:Hp) (Q:VK) (E:XK):Prop:=∃ (Z:List PP) (zs:List V) (m:Nat),n=(m:Int)/\m<=8/\H l=some (.lst zs)/\Al (PrV H) Z zs/\Z.length<=60/\yL m Z/\∀ (x:V) (H':Hp),Ext H H'->Hx m Z H' x->Q x H'
def uG  : Sp:=λ vs H Q E=>∃ (l:Addr) (n:Int),vs=[.ref l,.int n]/\(rV  l n H Q E)
theorem rL  (l:Addr) (n:Int) (H:Hp) (Q:VK) (E:XK):uG  [.ref l,.int n] H Q E=(rV  l n H Q E):=jV (f:=λ (l:Addr) (n:Int)=>[.ref l,.int n]) (λ _ _ _ _ h=>by cases h;exact⟨rfl,rfl⟩) l n
theorem AJ  {vs:List V}{H:Hp}{Q:VK}{E:XK}(h:uG  vs H Q E):vs.length=2:=jW h λ _ _=>rfl
theorem jM(T:Tx K mg t):bL P w K mg base CX0 2 t.a_helpful_loop t.d_helpful_loop ["pairs", "many"] uG:=by
 have G_gap:=%[qO|41];refine T.F_helpful_loop.ok bQ (λ vs H Q E h=>AJ h) (λ c A o s H vs Q E hr h=>?_)
 ·obtain⟨l,_,rfl,Z,zs,m,rfl,m8,hl,al,h60,hln,kk⟩:=h;refine⟨_,%[%[OV,rfl,%[∅,T.z_range,%[%[1|0]|1],∅|29],%[(2),_,bQ.nd,rfl,(Or.inr rfl),%[0|7]|15],%[%[(["pair", "pairs", "many", "axis", "gaps", "low", "high"]),(1),(3),_,bQ.nd,rfl,(Or.inl rfl),(aC (aa cD) ["pairs", "many", "axis", "gaps", "low", "high"] rfl rfl nofun),rfl,%[%[0|0]|20],(λ C s₀ H₀ ex pn=>%[(0),_,(show List.Nodup (["pair", "pairs", "many", "axis", "gaps", "low", "high"]:List Str) from by decide +kernel),rfl,(Or.inl rfl),%[0|7]|15]),(λ C s₀ H₀ ex pn=>(@aV _)),(λ C s₀ H₀ ex pn=>%[gap,%[%[0|0],%[%[3|0]|1]|1]|3]),∅,(by intros;rfl),%[0|7]|39],%[%[4,bQ,(@nA _ ("min") _ _ _ _ _ _ _ _ _ _ (tN rfl) ∅ T.z_min nofun %[%[3|0]|1] (@vA _ _ _ _ _ _ _ %[0|2] (@BV _)) ⋯ ⋯ ∅ ∅ ∅ ∅ ∅)|4],%[%[5,bQ,(@nA _ ("max") _ _ _ _ _ _ _ _ _ _ (tO rfl) ∅ T.z_max nofun %[%[3|0]|1] (@vA _ _ _ _ _ _ _ %[0|2] (@BV _)) ⋯ ⋯ ∅ ∅ ∅ ∅ ∅)|4],%[%[(PW.pt (@mU _ _ _ _ _ _ _ %[GX,%[4|0],%[0|2],(ar _)|14] (@lr _ _ _ _ %[mQ,%[5|0],%[0|2],(ar _)|14]))),%[%[%[%[%[2|0],%[%[0|2]|1]|1]|19]|12]|10],(@ak _)|17],%[%[(PW.pt (@mU _ _ _ _ _ _ _ %[ui,%[5|0],%[0|2],(ar _)|14] (@lr _ _ _ _ %[oV,%[4|0],%[0|2],(ar _)|14]))),%[%[%[%[%[2|0],%[(@oU _ _ _ _ _ _ fT %[0|2])|1]|1]|19]|12]|10],(@ak _)|17]|10]|9]|9]|9]|9],(by intros;rfl)|21],%[%[(@iq _ _ _)|12]|10]|9],?_⟩;rw [show aA ["pairs", "many", "axis", "gaps", "low", "high"] [.ref l,.int (m:Int)]=[some (.ref l),some (.int (m:Int)),none,none,none,none] from rfl];clear G_gap;exists kk;exists hln;ac_rfl;refine⟨by omega,by omega,?_⟩;refine dS (λ i σ H'=>∃ v2 v3 v4 v5:Option V,σ=[some (.ref l),some (.int (m:Int)),v2,v3,v4,v5]/\Ext H H'/\ky i Z) ⟨none,none,none,none,rfl,Ext.refl _,λ a h=>absurd h (Rl _)⟩ ?_ ?_
  ·rintro i _ H1 hi ⟨v2,v3,v4,v5,rfl,e1,hno⟩;have him:i < m:=by have:i < ((m:Int)).toNat:=hi;omega
   have hl1:=e1.at hl;have al1:=al.imp λ _ _ t=>PrV.ext t e1;have wk:=gq (K:=K) (R:=λ z x H'=>PrV H' z x) (λ _ _ _ _ h e=>PrV.ext h e) hl1 al1;exists hno;clear hi al1;simp! only [↓ay];refine bK Z (λ _=>true) (λ z=>.int (bR z.1 z.2 i)) (λ z x H'=>PrV H' z x) wk.1 wk.2 (ag %[0|8]) ?_ ?_
   ·intro D z y H' N1 N0 hz hD e hy k1 _;have hy':=hy;obtain⟨y',_,_,rfl,_⟩:=hy';have k1':=k1 rfl H' (Ext.refl _);have hzl:=hln () z hz;clear k1 kk wk hz;simp! only [↓bh,↓ba];rw [i9];refine⟨z,hy,by omega,by omega,by omega,?_⟩;rw [Po,OI];exact k1'
   ·intro D H2 hD e2 h2;rw [jX] at h2;have h2':H2 D=some (.lst ((lj Z i).map V.int)):=by rw [h2];unfold lj;rw [map_map];rfl
    clear h2 wk hD hl1;ac_rfl;refine yf λ lo hlo=>?_;ac_rfl;refine yg λ hi' hhi=>?_;have e02:=e1.trans e2
    by_cases ha:0<=lo/\0 < hi'
    ·have hh:=Bb hlo hhi ha.1 ha.2;obtain⟨ha1,ha2⟩:=ha;exists hh;clear hlo hhi h2';ac_rfl;intro r H3 hr3 e3 h3;rw [Po] at h3;exact kk () (.ref r) H3 (e02.trans e3) (.inr ⟨i,_,r,rfl,h3,him,hh ()⟩)
    ·by_cases hb:hi'<=0/\lo < 0
     ·have hh:=Bc hlo hhi hb.1 hb.2;obtain⟨hb1,hb2⟩:=hb;have hb3:¬ 0<=lo:=by omega
      exists hh;clear hlo hhi h2' ha;ac_rfl;intro r H3 hr3 e3 h3;rw [Po] at h3;exact kk () (.ref r) H3 (e02.trans e3) (.inr ⟨i,_,r,rfl,h3,him,hh ()⟩)
     ·have hbw:=FC hlo hhi ha hb
      have hn':ky (i+1) Z:=λ a h=>by
       by_cases e:a=i
       ·rw [e];exact hbw
       ·exact hno () a %[0|8]
      exists hn';clear hlo hhi kk h2' hbw
      by_cases q1:0<=lo
      ·have q2:¬ 0 < hi':=λ h=>ha ⟨q1,h⟩;have q3:¬ lo < 0:=by omega
       have q4:hi'<=0:=by omega
       clear ha hb;ac_rfl;exact⟨_,_,_,_,rfl,e02,hn' ()⟩
      ·have q3:lo < 0:=by omega
       have q4:¬ hi'<=0:=λ h=>hb ⟨h,q3⟩;clear ha hb;ac_rfl;exact⟨_,_,_,_,rfl,e02,hn' ()⟩
  ·rintro _ H1 ⟨v2,v3,v4,v5,rfl,e1,hno⟩;rw [OI] at hno;have k':=kk () .non H1 e1 (.inl ⟨rfl,hno⟩);clear kk hno;ac_rfl
theorem vy(a b:PP):PyData.eqv (prD a) (prD b)=decide (a=b):=by
 unfold prD;rw [dM,bx,bx,cz,iM,iM,Bool.and_true];obtain⟨a1,a2⟩:=a;obtain⟨b1,b2⟩:=b
 by_cases h1:a1=b1
 ·by_cases h2:a2=b2
  ·simp [h1,h2]
  ·simp [h1,h2]
 ·simp [h1]
theorem vz(Y:List PP)(z:PP):((Y.map prD).any λ y=>PyData.eqv y (prD z))=decide (z∈Y):=by
 rw [List.any_map];apply PZ.mpr;rw [Ry,QA];constructor
 ·rintro ⟨y,hy,e⟩;have e':PyData.eqv (prD y) (prD z)=true:=e;rw [vy] at e';rw [←Pe e'];exact hy
 ·intro h;exact⟨z,h,by show PyData.eqv (prD z) (prD z)=true;rw [vy];exact OG rfl⟩
theorem B7{H:Hp}{f:V->Option PyData}{z:PP}{y:V}(h:PrV H z y):cq H (cq H (cq H f)) y=some (prD z):=by
 obtain⟨q,u,v,rfl,hq,hu,hv⟩:=h;rw [fA,hq]
 show ue (cq H (cq H f)) (.tup [.ref u,.ref v])=_
 rw [fw]
 show (aW [cq H (cq H f) (.ref u),cq H (cq H f) (.ref v)]).map PyData.tuple=_
 rw [lC hu,lC hv];rfl
theorem A0(a:Int)(xs:List Int):inV (.int a) (xs.map V.int)=decide (a∈xs):=by
 unfold inV;rw [List.any_map];apply Bool.eq_iff_iff.mpr;rw [any_eq_true,decide_eq_true_eq];constructor
 ·rintro ⟨y,hy,e⟩;have e':eqV (.int y) (.int a)=true:=e;have:y=a:=by simpa [eqV] using e'
  rw [←this];exact hy
 ·intro h;exact⟨a,h,by show eqV (.int a) (.int a)=true;simp [eqV]⟩
def iT(Z Y:List PP)(m:Nat):Prop:=(∀ y∈Y,y∈Z)/\∀ a:Nat,a < m->((∃ z∈Z,0 < bR z.1 z.2 a)->∃ y∈Y,0 < bR y.1 y.2 a)/\((∃ z∈Z,bR z.1 z.2 a < 0)->∃ y∈Y,bR y.1 y.2 a < 0)
def upB(a:Nat)(z:PP):Bool:=decide (0 < bR z.1 z.2 a)
def su(a:Nat)(z:PP):Bool:=decide (bR z.1 z.2 a < 0)
theorem qX{α:Type}{p:α->Bool}{l:List α}{z:α}(hz:z∈l)(h:p z=true):∃ x,x∈(l.filter p).take 1/\p x=true:=by
 have hm:z∈l.filter p:=Pw.mpr ⟨hz,h⟩
 cases hf:l.filter p with
 | nil=>rw [hf] at hm;cases hm
 | cons x r=>
  have hx:x∈l.filter p:=by rw [hf];exact ON
  exact⟨x,by simp,(Pw.mp hx).2⟩
theorem iT.step{Z Y Y':List PP}{i:Nat}(h:iT Z Y i)(h1:∀ y∈Y,y∈Y')(h2:∀ x∈(Z.filter (upB i)).take 1++(Z.filter (su i)).take 1,x∈Y')(h3:∀ y∈Y',y∈Z):iT Z Y' (i+1):=by
 refine⟨h3,λ a ha=>?_⟩
 by_cases e:a=i
 ·subst e;refine⟨λ ⟨z,hz,hg⟩=>?_,λ ⟨z,hz,hg⟩=>?_⟩
  ·obtain⟨x,hx,hp⟩:=qX (p:=upB a) hz (OG hg);exact⟨x,h2 x (Qp _ hx),Pe hp⟩
  ·obtain⟨x,hx,hp⟩:=qX (p:=su a) hz (OG hg);exact⟨x,h2 x (Pm _ hx),Pe hp⟩
 ·obtain⟨p1,p2⟩:=h.2 a %[0|8];refine⟨λ hz=>?_,λ hz=>?_⟩
  ·obtain⟨y,hy,hg⟩:=p1 hz;exact⟨y,h1 y hy,hg⟩
  ·obtain⟨y,hy,hg⟩:=p2 hz;exact⟨y,h1 y hy,hg⟩
theorem lD{α:Type}{R:α->V->Prop}{zs:List α}{ys:List V}(h:Al R zs ys)(n:Nat):Al R (zs.take n) (ys.take n):=by
 refine⟨by rw [O8,O8,h.1],λ i z y hz hy=>?_⟩;rw [List.getElem?_take] at hz hy;split at hz
 ·rename_i hi;rw [Pd hi] at hy;exact h.2 i z y hz hy
 ·cases hz
abbrev jJ  (l:Addr) (n:Int) (H:Hp) (Q:VK) (E:XK):Prop:=∃ (Z:List PP) (zs:List V) (m:Nat),n=(m:Int)/\m<=8/\H l=some (.lst zs)/\Al (PrV H) Z zs/\Z.length<=60/\yL m Z/\∀ (Y:List PP) (r:Addr) (ys:List V) (H':Hp),Ext H H'->H r=none->H' r=some (.lst ys)->Al (PrV H') Y ys->iT Z Y m->Y.length<=2 * m->Q (.ref r) H'
def ji  : Sp:=λ vs H Q E=>∃ (l:Addr) (n:Int),vs=[.ref l,.int n]/\(jJ  l n H Q E)
theorem qB  (l:Addr) (n:Int) (H:Hp) (Q:VK) (E:XK):ji  [.ref l,.int n] H Q E=(jJ  l n H Q E):=jV (f:=λ (l:Addr) (n:Int)=>[.ref l,.int n]) (λ _ _ _ _ h=>by cases h;exact⟨rfl,rfl⟩) l n
theorem qw  {vs:List V}{H:Hp}{Q:VK}{E:XK}(h:ji  vs H Q E):vs.length=2:=jW h λ _ _=>rfl
theorem iD(T:Tx K mg t):bL P w K mg base CX0 2 t.a_barring_pairs t.d_barring_pairs ["pairs", "many"] ji:=by
 have G_gap:=%[qO|41];refine T.F_barring_pairs.ok bc (λ vs H Q E h=>qw h) (λ c A o s H vs Q E hr h=>?_)
 ·obtain⟨l,_,rfl,Z,zs,m,rfl,m8,hl,al,h60,hln,kk⟩:=h;refine⟨_,%[%[2,bc,%[(@bw _)|16]|4],%[%[OV,rfl,%[∅,T.z_range,%[%[1|0]|1],∅|29],%[(3),_,bc.nd,rfl,(Or.inr rfl),%[0|7]|15],%[%[(["pair", "pairs", "many", "chosen", "axis", "above", "below", "!pair"]),(1),(4),_,bc.nd,rfl,(Or.inl rfl),(aC (aa bC) ["pairs", "many", "chosen", "axis", "above", "below", "pair"] rfl rfl nofun),rfl,%[%[0|0]|20],(λ C s₀ H₀ ex pn=>%[(0),_,(show List.Nodup (["pair", "pairs", "many", "chosen", "axis", "above", "below", "!pair"]:List Str) from by decide +kernel),rfl,(Or.inl rfl),%[0|7]|15]),(λ C s₀ H₀ ex pn=>(@iY _ _ _ %[mQ,%[gap,%[%[0|0],%[%[4|0]|1]|1]|3],%[0|2],(ar _)|14])),(λ C s₀ H₀ ex pn=>%[0|0]),∅,(by intros;rfl),%[0|7]|39],%[%[(["pair", "pairs", "many", "chosen", "axis", "above", "below", "!pair"]),(1),(5),_,bc.nd,rfl,(Or.inl rfl),(aC (aa bC) ["pairs", "many", "chosen", "axis", "above", "below", "pair"] rfl rfl nofun),rfl,%[%[0|0]|20],(λ C s₀ H₀ ex pn=>%[(0),_,(show List.Nodup (["pair", "pairs", "many", "chosen", "axis", "above", "below", "!pair"]:List Str) from by decide +kernel),rfl,(Or.inl rfl),%[0|7]|15]),(λ C s₀ H₀ ex pn=>(@iY _ _ _ %[oV,%[gap,%[%[0|0],%[%[4|0]|1]|1]|3],%[0|2],(ar _)|14])),(λ C s₀ H₀ ex pn=>%[0|0]),∅,(by intros;rfl),%[0|7]|39],%[%[OV,rfl,%[%[bJ,%[oR,%[4|0],(@aQ _),%[%[0|2]|22]|24],%[oR,%[5|0],(@aQ _),%[%[0|2]|22]|24]|11]|20],%[6,bc|5],%[%[%[(nB hr.units),%[6|0],%[2|0],(by with_unfolding_all rfl)|14],%[%[%[O4,Pu,Pt,b9,%[2|0],%[%[6|0]|1],∅,∅,∅,∅,∅|34],∅|27]|10],(@ak _)|17]|10],(by intros;rfl)|21]|10]|9]|9],(by intros;rfl)|21],%[%[%[2|0]|12]|10]|9]|9],?_⟩;rw [show aA ["pairs", "many", "chosen", "axis", "above", "below", "pair"] [.ref l,.int (m:Int)]=[some (.ref l),some (.int (m:Int)),none,none,none,none,none] from rfl];clear G_gap;exists kk;exists hln;ac_rfl;intro r H1 hr1 e1 h1;ac_rfl;refine⟨by omega,by omega,?_⟩;refine dS (λ i σ H'=>∃ (Y:List PP) (ys:List V) (v3 v4 v5 v6:Option V),σ=[some (.ref l),some (.int (m:Int)),some (.ref r),v3,v4,v5,v6]/\Ext H H'/\H' r=some (.lst ys)/\Al (PrV H') Y ys/\Y.length<=2 * i/\iT Z Y i) ⟨[],[],none,none,none,none,rfl,e1,h1,Al.nil,OC _,(λ y h=>by cases h),λ a h=>absurd h (Rl _)⟩ ?_ ?_
  ·rintro i _ H2 hi ⟨Y,ys,v3,v4,v5,v6,rfl,e2,h2,alY,hYl,hbar⟩;have him:i < m:=by have:i < ((m:Int)).toNat:=hi;omega
   have hl2:=e2.at hl;have al2:=al.imp λ _ _ t=>PrV.ext t e2;have wk:=gq (K:=K) (R:=λ z x H'=>PrV H' z x) (λ _ _ _ _ h e=>PrV.ext h e) hl2 al2;exists hbar;exists alY;clear hi;simp! only [↓ay];refine cI Z (upB i) (λ z x H'=>PrV H' z x) (λ D z y H'=>PrV H' z y) wk.1 wk.2 (λ D _ y H1 H2 h e=>h.ext e) (λ D _ y H1 xs o h hD=>h.upd hD) (ag %[0|8]) ?_ ?_
   ·intro D z y H' N1 N0 hz hD e _ hy k1 k0;have hy':=hy;obtain⟨y',_,_,rfl,_⟩:=hy';have k1':=λ h=>k1 h (.ref y') H' (Ext.refl _) hy;have k0':=λ h=>k0 h H' (Ext.refl _);have hzl:=hln () z hz;unfold upB at k1' k0';exists k1';exists k0';clear k1 k0 kk wk hz;simp! only [↓bh,↓ba];rw [i9];refine⟨z,hy,by omega,by omega,by omega,?_⟩;rw [Int.zero_add,Int.toNat_natCast];generalize bR z.1 z.2 i=g at k1' k0'
    by_cases hg:0 < g
    ·have k2:=k1' () (OG hg);clear k1' k0';ac_rfl
    ·have k2:=k0' () (OM hg);clear k1' k0';ac_rfl
   intro D1 as1 H3 hD1 e3 h3 al3;have hl3:=e3.at hl2;have al3':=al2.imp λ _ _ t=>PrV.ext t e3;have wk3:=gq (K:=K) (R:=λ z x H'=>PrV H' z x) (λ _ _ _ _ h e=>PrV.ext h e) hl3 al3';clear wk hD1 hl2;ac_rfl;refine cI Z (su i) (λ z x H'=>PrV H' z x) (λ D z y H'=>PrV H' z y) wk3.1 wk3.2 (λ D _ y H1 H2 h e=>h.ext e) (λ D _ y H1 xs o h hD=>h.upd hD) (ag %[0|8]) ?_ ?_
   ·intro D z y H' N1 N0 hz hD e _ hy k1 k0;have hy':=hy;obtain⟨y',_,_,rfl,_⟩:=hy';have k1':=λ h=>k1 h (.ref y') H' (Ext.refl _) hy;have k0':=λ h=>k0 h H' (Ext.refl _);have hzl:=hln () z hz;unfold su at k1' k0';exists k1';exists k0';clear k1 k0 kk wk3 hz;simp! only [↓bh,↓ba];rw [i9];refine⟨z,hy,by omega,by omega,by omega,?_⟩;rw [Int.zero_add,Int.toNat_natCast];generalize bR z.1 z.2 i=g at k1' k0'
    by_cases hg:g < 0
    ·have k2:=k1' () (OG hg);clear k1' k0';ac_rfl
    ·have k2:=k0' () (OM hg);clear k1' k0';ac_rfl
   intro D2 bs1 H4 hD2 e4 h4 al4;have h3_4:=e4.at h3;have e24:=e3.trans e4;have al34:=al3.imp λ _ _ t=>PrV.ext t e4;have aX:=qS (lD al34 1) (lD al4 1);have hstep:=λ (_:Unit)=>λ {Y':List PP}=>(hbar ()).step (Y':=Y');exists aX;clear wk3 hD2 hl3 al3 al4 al34 al3' h3;have ct1:jU as1 none (some 1)=as1.take 1:=ve as1 1 ⋯;have ct2:jU bs1 none (some 1)=bs1.take 1:=ve bs1 1 ⋯;ac_rfl;intro t1 H5 ht1 e5 h5;have h4_5:=e5.at h4;clear ht1 h4 h3_4 ct1;ac_rfl;intro t2 H6 ht2 e6 h6;have h5_6:=e6.at h5;have hcat:(as1.take 1).length+(bs1.take 1).length<=sizeLine:=ag (by rw [O8,O8];omega);clear ht2 h4_5 h5 ct2;ac_rfl;intro t3 H7 ht3 e7 h7;have e47:=e5.trans (e6.trans e7);have e27:=e24.trans e47;have aX7:=(aX ()).imp λ _ _ t=>PrV.ext t e47;have hxl:(as1.take 1++bs1.take 1).length<=2:=by rw [OR,O8,O8];omega
   have nt:t3 ≠ r:=λ z=>by rw [z,(e24.trans (e5.trans e6)).at h2] at ht3;cases ht3
   have h2_7:=e27.at h2;have alY7:=(alY ()).imp λ _ _ t=>PrV.ext t e27
   have hXZ:∀ x∈(Z.filter (upB i)).take 1++(Z.filter (su i)).take 1,x∈Z:=λ x hx=>by
    rcases OQ.mp hx with hx|hx
    ·exact(Pw.mp (PC hx)).1
    ·exact(Pw.mp (PC hx)).1
   have hYZ:=(hbar ()).1;have e07:=e2.trans e27;generalize (Z.filter (upB i)).take 1++(Z.filter (su i)).take 1=XX at aX7 hXZ hstep;generalize as1.take 1++bs1.take 1=xs at h7 aX7 hxl;exists hXZ;exists hYZ;clear ht3 h6 h5_6 hcat aX e5 e6 e7 e47 e24 e27 alY hbar;ac_rfl;refine cw (xs:=xs) (λ j σ H'=>∃ (Y':List PP) (ys':List V) (v6:Option V),σ=[some (.ref l),some (.int (m:Int)),some (.ref r),some (.int (0+(i:Int))),some (.ref D1),some (.ref D2),v6]/\Ext H H'/\H' t3=some (.lst xs)/\H' r=some (.lst ys')/\Al (PrV H') Y' ys'/\Y'.length<=2 * i+j/\(∀ y∈Y,y∈Y')/\(∀ x∈XX.take j,x∈Y')/\(∀ y∈Y',y∈Z)/\Al (PrV H') XX xs) ⟨Y,ys,_,rfl,e07,h7,h2_7,alY7,hYl,λ _ h=>h,(λ x h=>by cases h),hYZ (),aX7⟩ (λ j σ H' _ ⟨_,_,_,_,_,h,_⟩=>h) ?_ ?_
   ·rintro j y _ H8 hj ⟨Y',ys',v6',rfl,e8,ht8,hr8,alY8,hYl8,hyy,hxx,hyz,aX8⟩;have hjx:j < XX.length:=by have:=(Oy.mp hj).1;rw [aX8.1] at this;exact this
    obtain⟨z,hz⟩:∃ z,XX[j]? = some z:=⟨_,Ow hjx⟩;have pz:=aX8.2 j z y hz hj;have hzZ:=hXZ () z (OX hz);have hjl:j < 2:=by have:=aX8.1;omega
    have dp:fP H8 6 y=some (prD z):=B7 (f:=cq H8 (cq H8 (cq H8 noD))) pz;have d0:aW (ys'.map (fP H8 5))=some (Y'.map prD):=eS (f:=cq H8 (cq H8 noD)) alY8
    have dl:fP H8 6 (.ref r)=some (.list (Y'.map prD)):=by
     rw [hV,hr8]
     show ue (fP H8 5) (.lst ys')=_
     rw [fz,d0];rfl
    have hys8:ys'.length<=20:=by rw [alY8.1];omega
    have htk:XX.take (j+1)=XX.take j++[z]:=by rw [Qs,hz];rfl
    exists dp;exists dl;exists htk;exists alY8;exists aX8;exists hyy;exists hxx;exists hyz;exists pz;clear d0 hj hz hXZ hYZ hstep kk;simp! only [↓ay];refine⟨_,_,dp (),dl (),?_⟩;rw [Pd rfl,vz]
    by_cases hm:z∈Y'
    ·have fin:(∀ x∈XX.take (j+1),x∈Y'):=λ x hx=>by
      rw [htk ()] at hx
      rcases OQ.mp hx with hx|hx
      ·exact hxx () x hx
      ·rw [OE.mp hx];exact hm
     rw [OG hm];exists fin;clear hm;ac_rfl;exact⟨Y',ys',_,rfl,e8,rfl,alY8 (),by omega,hyy (),fin (),hyz (),aX8 ()⟩
    ·rw [OM hm]
     have fin:(∀ x∈XX.take (j+1),x∈Y'++[z]):=λ x hx=>by
      rw [htk ()] at hx
      rcases OQ.mp hx with hx|hx
      ·exact Qp _ (hxx () x hx)
      ·exact Pm _ hx
     have hl8:ys'.length < sizeLine:=eR %[0|8];exists fin;clear hm;ac_rfl
     exact⟨Y'++[z],ys'++[y],_,rfl,e8.put hr1,by rw [af nt];exact ht8,rfl,fX ((alY8 ()).imp λ _ _ t=>PrV.upd t hr8) (PrV.upd (pz ()) hr8),by rw [OR,PU];omega,λ y hy=>Qp _ (hyy () y hy),fin (),λ y hy=>by
      rcases OQ.mp hy with hy|hy
      ·exact hyz () y hy
      ·rw [OE.mp hy];exact hzZ,(aX8 ()).imp λ _ _ t=>PrV.upd t hr8⟩
   ·rintro _ H8 ⟨Y',ys',v6',rfl,e8,ht8,hr8,alY8,hYl8,hyy,hxx,hyz,aX8⟩;rw [aX8.1,P6] at hxx;have hfin:=hstep () hyy hxx hyz;have hYl9:Y'.length<=2 * (i+1):=by omega
    exists hfin;exists alY8;clear hstep hyy hxx hyz aX8 hXZ hYZ alY7 aX7 h7 h2_7;ac_rfl;exact⟨Y',ys',_,_,_,_,rfl,e8,rfl,alY8 (),hYl9,hfin ()⟩
  ·rintro _ H2 ⟨Y,ys,v3,v4,v5,v6,rfl,e2,h2,alY,hYl,hbar⟩;rw [OI] at hbar hYl;have k':=kk () Y r ys H2 e2 hr1 h2 alY hbar hYl;clear kk hbar alY;ac_rfl
theorem GA.len{n:Nat}{os:List (Int × Int)}(h:GA n os):os.length<=n:=by
 have:=h.full.1;rw [OR] at this;omega
theorem LoI.done{n:Nat}{P:List PP}{os:List (Int × Int)}(h:LoI n P [] os):∀ z∈P,crB (os++iA n os) z.1 z.2=true:=λ z hz=>by
 rcases h.crr z hz with h|h
 ·cases h
 ·exact pP h
def Mo(P:List PP)(n:Nat)(H:Hp)(x:Addr):Prop:=(∃ (os:List (Int × Int)) (r:Addr),H x=some (.tup [.str "loops",.ref r])/\bV H r (os.map λ o=>[o.1,o.2])/\Hv os n/\∀ z∈P,crB os z.1 z.2=true)\/∃ (L Y:List PP) (r:Addr) (ys:List V),H x=some (.tup [.str "none",.ref r])/\H r=some (.lst ys)/\Al (PrV H) Y ys/\iT L Y n/\ky n L/\¬ L=[]/\Y.length<=2 * n/\∀ z∈L,z∈P
def J2(H H':Hp)(x:Addr):Prop:=∀ w r,H' x=some (.tup [w,.ref r])->H r=none
abbrev n9(C:Addr)(u:Addr)(v:Addr)(H:Hp)(Q:VK)(E:XK):Prop:=∃ (room f1 f2:Int) (A B:List (Int × Int)) (ms:List Int),aG C H u room f1 A/\aG C H v room f2 B/\fQ A/\fQ B/\(A.map λ a=>a.1)=ms/\(B.map λ a=>a.1)=ms/\ae ms<=60/\(ah f1 A).Nodup/\∀ (x:Addr) (H':Hp),Ext H H'->J2 H H' x->Mo ((aF (ah f1 A) (ah f2 B) (ah f2 B).length).map (oQ ms)) ms.length H' x->Q (.ref x) H'
def pq(C:Addr):Sp:=λ vs H Q E=>∃ (u:Addr) (v:Addr),vs=[.ref u,.ref v]/\(n9 C u v H Q E)
theorem yz(C:Addr)(u:Addr)(v:Addr)(H:Hp)(Q:VK)(E:XK):pq C [.ref u,.ref v] H Q E=(n9 C u v H Q E):=jV (f:=λ (u:Addr) (v:Addr)=>[.ref u,.ref v]) (λ _ _ _ _ h=>by cases h;exact⟨rfl,rfl⟩) u v
theorem xW(C:Addr){vs:List V}{H:Hp}{Q:VK}{E:XK}(h:pq C vs H Q E):vs.length=2:=jW h λ _ _=>rfl
theorem mh(T:Tx K mg t):bL P w K mg base CX0 8 t.a_loop_order t.d_loop_order ["to", "source"] (pq t.a_View):=by
 have G_bound_pairs:=%[fL|41];have G_helpful_loop:=%[jM|41];have G_gap:=%[qO|41];have G_barring_pairs:=%[iD|41];refine T.F_loop_order.ok bg (λ vs H Q E h=>xW _ h) (λ c A o s H vs Q E hr h=>?_)
 ·obtain⟨u,v,rfl,room,f1,f2,A,B,ms,vu,vv,hA,hB,m1,m2,h60,hnd,kk⟩:=h;obtain⟨dx,D,hu,tD⟩:=vu.ob;obtain⟨ax,hD,alA⟩:=tD;have hax:ax.length=ms.length:=by rw [alA.1,←m1];unfold axL;rw [length_map,length_map]
  have c1:=T.cl_View;have c3:=T.na_View_axes;have g3:=cx room f1 D;refine⟨_,%[%[2,bg,%[bound_pairs,%[%[0|0],%[%[1|0]|1]|1]|3]|4],%[%[3,bg,%[len,au,%[%[%[0|0],rfl|31]|1]|6]|4],%[%[4,bg,%[(@bw _)|16]|4],%[(@fF _ _ (5) _ _ _ _ bg.nd rfl (Or.inr rfl) %[helpful_loop,%[%[2|0],%[%[3|0]|1]|1]|3] ∅ %[0|7]),%[(@rk _ _ _ _ _ _ OV %[lR,%[5|0],(@iq _ _ _),(ar _)|14] %[%[%[O4,Pu,Pt,b9,%[4|0],%[%[5|0]|1],∅,∅,∅,∅,∅|34],∅|27],%[%[(["pair", "to", "source", "left", "many", "order", "loop", "used"]),(1),(2),_,bg.nd,rfl,(Or.inl rfl),(aC (aa bX) ["to", "source", "left", "many", "order", "loop", "used"] rfl rfl nofun),rfl,%[%[2|0]|20],(λ C s₀ H₀ ex pn=>%[(0),_,(show List.Nodup (["pair", "to", "source", "left", "many", "order", "loop", "used"]:List Str) from by decide +kernel),rfl,(Or.inl rfl),%[0|7]|15]),(λ C s₀ H₀ ex pn=>(@iY _ _ _ %[(dH hr.units),%[gap,%[%[0|0],%[%[cp,%[6|0],%[0|2],(λ _ _=>rfl)|13]|1]|1]|3],%[0|2],(ar _)|14])),(λ C s₀ H₀ ex pn=>%[0|0]),∅,(by intros;rfl),%[0|7]|39],%[(@fF _ _ (5) _ _ _ _ bg.nd rfl (Or.inr rfl) %[helpful_loop,%[%[2|0],%[%[3|0]|1]|1]|3] ∅ %[0|7])|10]|9]|9]),%[%[%[mQ,%[len,au,%[%[2|0]|1]|6],%[0|2],(ar _)|14],%[%[%[%[(@mX _ _ _ _),%[%[barring_pairs,%[%[2|0],%[%[3|0]|1]|1]|3]|1]|1]|19]|12]|10],(@ak _)|17],%[(@fF _ _ (6) _ _ _ _ bg.nd rfl (Or.inr rfl) %[(["axis", "way", "to", "source", "left", "many", "order", "loop", "used"]),(2),(aC (aa bX) ["to", "source", "left", "many", "order", "loop", "used"] rfl rfl nofun),rfl,%[%[4|0]|20],(λ C s₀ H₀ ex pn=>(%[(2),rfl,%[%[(0),_,(show List.Nodup (["axis", "way", "to", "source", "left", "many", "order", "loop", "used"]:List Str) from by decide +kernel),rfl,(Or.inl rfl),%[0|7]|15],%[%[(1),_,(show List.Nodup (["axis", "way", "to", "source", "left", "many", "order", "loop", "used"]:List Str) from by decide +kernel),rfl,(Or.inl rfl),%[0|7]|15],(@aT _),∅|18],∅|18],∅,∅|26].mono λ _ _ _ _ h=>cH h)),(λ C s₀ H₀ ex pn=>(@aV _)),(λ C s₀ H₀ ex pn=>%[0|0]),(by intros;rfl)|25] ∅ %[0|7]),%[%[%[%[(@mX _ _ _ _),%[%[bJ,%[4|0],%[(["axis", "to", "source", "left", "many", "order", "loop", "used"]),(1),(aC (aa bX) ["to", "source", "left", "many", "order", "loop", "used"] rfl rfl nofun),rfl,%[∅,T.z_range,%[%[3|0]|1],∅|29],(λ C s₀ H₀ ex pn=>%[(0),_,(show List.Nodup (["axis", "to", "source", "left", "many", "order", "loop", "used"]:List Str) from by decide +kernel),rfl,(Or.inl rfl),%[0|7]|15]),(λ C s₀ H₀ ex pn=>(@iY _ _ _ %[wW,%[0|0],%[7|0],(by with_unfolding_all rfl)|14])),(λ C s₀ H₀ ex pn=>%[%[%[0|0],%[%[0|2]|1]|1]|19]),(by intros;rfl)|25]|11]|1]|1]|19]|12]|10]|9]|9]|9]|9]|9]|9]|9],?_⟩;rw [show aA ["to", "source", "left", "many", "order", "loop", "used"] [.ref u,.ref v]=[some (.ref u),some (.ref v),none,none,none,none,none] from rfl];clear G_bound_pairs G_helpful_loop G_gap G_barring_pairs alA;have h8:ms.length<=8:=by rw [←m1,OB];exact hA.1
  have n2:=aJ f2 B λ b hb=>(hB.2 b hb).1;rw [m2] at n2;exists m1;exists m2;exists hnd;exists kk;ac_rfl;rw [nP];refine⟨room,f1,f2,A,B,vu,vv,hA,hB,by rw [m1 (),m2 ()],by rw [m1 ()];omega,hnd (),λ l r ys zs H1 e1 hr1 hl1 al1 hz1 alp1=>?_⟩;rw [m1 ()] at al1;have pr1:=vD al1 alp1;have hpl:=dN (ah f1 A) (ah f2 B) (ah f2 B).length;have hln:yL ms.length ((aF (ah f1 A) (ah f2 B) (ah f2 B).length).map (oQ ms)):=PrV.len;have hZl:((aF (ah f1 A) (ah f2 B) (ah f2 B).length).map (oQ ms)).length<=60:=by rw [OB];omega
  generalize (aF (ah f1 A) (ah f2 B) (ah f2 B).length).map (oQ ms)=Z at pr1 hln hZl kk;have hu1:=e1.at hu;have hD1:=e1.at hD;have hax':(ax.length:Int)=(ms.length:Int):=by omega
  exists hln;exists pr1;clear hl1 al1 alp1 hpl hr1;ac_rfl;intro od H2 hod e2 h2;have e02:=e1.trans e2;have hod0:H od=none:=e1.free hod;have nro:r ≠ od:=λ z=>by rw [z,hod] at hz1;cases hz1
  have hz2:=e2.at hz1;have pr2:=λ (_:Unit)=>(pr1 ()).imp λ _ _ t=>PrV.ext t e2;clear hz1 pr1 hu1 hD1 hod e1 e2;ac_rfl;rw [rL];refine⟨Z,zs,ms.length,rfl,h8,hz2,pr2 (),hZl,hln (),λ x H3 e3 nx=>?_⟩;have e03:=e02.trans e3;have hz3:=e3.at hz2;have h2_3:=e3.at h2;have pr3:=(pr2 ()).imp λ _ _ t=>PrV.ext t e3;have ini:=LoI.init ms.length Z;clear hz2 pr2 h2 e02 e3;ac_rfl;refine vk (by repeat' first|exact Hc|exact mo_nI0|exact mo_nI|apply rp|apply mo_unN|exact uT|exact MS|exact mo_rI0|exact mo_rI|exact mo_rIsN|exact rn|exact BY|exact mo_qIx|exact BZ|exact mo_qLen|apply pI|apply mo_tB|apply mo_not|apply mo_and|apply mo_or|apply Hd|apply mo_un|apply mo_cons|apply vG|apply mo_cb) (λ m σ H'=>∃ (L:List PP) (os:List (Int × Int)) (lf:Addr) (zs us:List V) (x:V),σ=[some (.ref u),some (.ref v),some (.ref lf),some (.int (ms.length:Int)),some (.ref od),some x,none]/\m=L.length/\Ext H H'/\H' lf=some (.lst zs)/\Al (PrV H') L zs/\L.length<=60/\H' od=some (.lst us)/\Al (dc H') (os.map λ o=>[o.1,o.2]) us/\LoI ms.length Z L os/\lf ≠ od/\Hx ms.length L H' x) _ ⟨Z,[],_,zs,[],x,rfl,rfl,e03,hz3,pr3,hZl,h2_3,⟨rfl,λ i z y h=>by cases h⟩,ini,nro,nx⟩ ?_;rintro m _ H4 ⟨L,os,lf,zs4,us,x4,rfl,rfl,e4,hlf,alL,hL60,ho4,alO,hI,nlf,hN⟩;clear hz3 pr3 h2_3 ini nx e03;have hol:us.length<=8:=by have:=hI.ord.len;rw [alO.1,OB];omega
  rcases hN with ⟨rfl,hno⟩|⟨a,w',q,rfl,hq,han,hh⟩
  ·have hus:us.length=os.length:=by rw [alO.1,OB]
   exists hI;exists hno;exists alL;exists alO;have hzl:zs4.length=L.length:=(alL ()).1
   by_cases hLe:L=[]
   ·subst hLe;have hz0:zs4=[]:=Pq hzl;subst hz0;have hcr:=λ (_:Unit)=>(hI ()).done;have hok:=λ (_:Unit)=>(hI ()).ord.full;have hob:=λ (_:Unit)=>(hI ()).ord.1;have wk:=gq (K:=K) (R:=axP) (λ _ _ _ _ h e=>h.ext e) ho4 (iW (alO ()));clear hI hno hzl;ac_rfl;refine bK os (λ _=>true) (λ o=>.int o.1) (λ z x H'=>axP z x H') wk.1 wk.2 (ag %[0|8]) ?_ ?_
    ·intro D z y H' N1 N0 hz hD e ⟨qq,hy,hqq⟩ k1 _;subst hy;have k1':N1 (.int z.1) H':=k1 rfl H' (Ext.refl _);clear k1 kk wk hz;simp! only [↓dw,↓ba]
    ·intro D5 H5 hD5 e5 h5;rw [jX] at h5;have h5':H5 D5=some (.lst ((os.map λ o=>o.1).map V.int)):=by rw [h5,PF];rfl
     have ho5:=e5.at ho4;have alO5:=(alO ()).imp λ _ _ t=>dc.ext t e5;exists alO5;clear h5 wk hD5 ho4 alO;ac_rfl;refine⟨by omega,by omega,?_⟩;rw [OI];refine cI (List.range ms.length) (λ j=>decide (¬ (j:Int)∈os.map λ o=>o.1)) (λ j x H'=>x=.int (0+(j:Nat))) (λ D j y H'=>∃ q,y=.ref q/\H' q=some (.tup [.int (j:Int),.int 1])) eD.1 eD.2 (λ D _ y H1 H2 ⟨q,h1,h3⟩ e=>⟨q,h1,e.at h3⟩) (λ D _ y H1 xs o ⟨q,h1,h3⟩ hD=>⟨q,h1,by rw [af (λ z=>by rw [z,hD] at h3;cases h3)];exact h3⟩) (ag (by rw [Pa];omega)) ?_ ?_
     ·intro D j y H' N1 N0 hj hD e _ hy k1 k0;subst hy;have h5j:=e.at h5';have hin:=A0 (j:Int) (os.map λ o=>o.1);have fl1:gr (.int (j:Int))=true:=rfl;have fl2:(((os.map λ o=>o.1).map V.int).all gr)=true:=by rw [all_map];exact Qi.mpr λ _ _=>rfl
      have k1':=k1;have k0':=k0
      by_cases hm:(j:Int)∈os.map λ o=>o.1
      ·rw [OG hm] at hin;have k2:=k0 (OM (λ z=>z hm)) H' (Ext.refl _);clear k1 k0 k1' k0' kk hj hm h5';generalize (os.map λ o=>o.1).map V.int=xs at h5j hin fl2;rw [Po];simp! only [↓bh,↓ba]
      ·rw [OM hm] at hin;have k2:=k1 (OG hm);clear k1 k0 k1' k0' kk hj hm h5';generalize (os.map λ o=>o.1).map V.int=xs at h5j hin fl2;rw [Po];simp! only [↓bh,↓ba];intro t1 H9 ht1 e9 h9;exact k2 _ H9 e9 ⟨t1,rfl,h9⟩
     intro D7 zs7 H7 hD7 e7 h7 al7
     have hrl:iA ms.length os=((List.range ms.length).filter λ (j:Nat)=>decide (¬ (j:Int)∈os.map λ o=>o.1)).map λ (j:Nat)=>((j:Int),(1:Int)):=by
      unfold iA;rw [List.filter_map,map_map];rfl
     have al7':Al (dc H7) ((iA ms.length os).map λ o=>[o.1,o.2]) zs7:=by
      rw [hrl];refine⟨by rw [al7.1,OB,OB],λ i z y hz hy=>?_⟩;rw [PF,OL] at hz;obtain⟨j,hj,rfl⟩:=OF.mp hz;obtain⟨q,hq1,hq3⟩:=al7.2 i j y hj hy;exact⟨q,hq1,hq3⟩
     have ho7:=e7.at ho5
     have hzl7:us.length+zs7.length<=5000:=by
      have:zs7.length<=ms.length:=by rw [al7.1];have:=Rc (λ j:Nat=>decide (¬ (j:Int)∈os.map λ o=>o.1)) (List.range ms.length);rw [Pa] at this;exact this
      omega
     exists al7';clear hrl al7 hD7 h5' ho5;ac_rfl;refine⟨ag %[0|8],?_⟩;intro r8 H8 hr8 e8 h8';have e58:=e7.trans e8;have al8:=λ (_:Unit)=>qS ((alO5 ()).imp λ _ _ t=>dc.ext t e58) ((al7' ()).imp λ _ _ t=>dc.ext t e8);have hf8:H r8=none:=(e4.trans (e5.trans e7)).free hr8;clear hr8 hzl7 ho7 h7;ac_rfl;intro x9 H9 hx9 e9 h9;exact kk () x9 H9 (e4.trans (e5.trans (e58.trans e9))) (λ w r hw=>by rw [h9] at hw;cases hw;exact hf8) (.inl ⟨os++iA ms.length os,r8,h9,⟨_,e9.at h8',by rw [Pz];exact(al8 ()).imp λ _ _ t=>dc.ext t e9⟩,hok (),hcr ()⟩)
   ·have hlpos:(0:Int) < (zs4.length:Int):=by
     have:L.length ≠ 0:=λ e=>hLe (Pq e);omega
    have hlpos2:(0:Int) < (L.length:Int):=by rw [←hzl];exact hlpos
    clear hzl;ac_rfl;rw [qB];refine⟨L,zs4,ms.length,rfl,h8,hlf,alL (),hL60,λ z hz=>hln () z ((hI ()).sub z hz),λ Y r5 ys5 H5 e5 hr5 h5 al5 hbar hYl5=>?_⟩;exists al5;exists hbar;have hf5:H r5=none:=e4.free hr5;clear hr5;ac_rfl;intro x6 H6 hx6 e6 h6;exact kk () x6 H6 (e4.trans (e5.trans e6)) (λ w r hw=>by rw [h6] at hw;cases hw;exact hf5) (.inr ⟨L,Y,r5,ys5,h6,e6.at h5,(al5 ()).imp λ _ _ t=>PrV.ext t e6,hbar (),hno (),hLe,hYl5,(hI ()).sub⟩)
  ·obtain⟨hI',hlt⟩:=hI.step hh han;have nql:q ≠ od:=λ z=>by rw [z,ho4] at hq;cases hq
   have hus8:us.length < sizeLine:=eR %[0|8];have hq5:(upd H4 od (.lst (us++[.ref q]))) q=some (.tup [.int (a:Int),.int w']):=by rw [af nql];exact hq
   have hlf5:(upd H4 od (.lst (us++[.ref q]))) lf=some (.lst zs4):=by rw [af nlf];exact hlf
   have ho5:(upd H4 od (.lst (us++[.ref q]))) od=some (.lst (us++[.ref q])):=aq;have al5:=alL.imp λ _ _ t=>PrV.upd (o:=.lst (us++[.ref q])) t ho4
   have alO5:Al (dc (upd H4 od (.lst (us++[.ref q])))) ((os++[((a:Int),w')]).map λ o=>[o.1,o.2]) (us++[.ref q]):=by
    rw [Pz];exact fX (alO.imp λ _ _ t=>dc.upd t ho4) (dc.upd ⟨q,rfl,hq⟩ ho4)
   have e5:Ext H (upd H4 od (.lst (us++[.ref q]))):=e4.put hod0;have hsub:=λ (_:Unit)=>hI.sub;exists hI';clear hI hh alL alO;ac_rfl;generalize upd H4 od (.lst (us++[.ref q]))=H5 at hq5 hlf5 ho5 al5 alO5 e5 ⊢;have wk:=gq (K:=K) (R:=λ z x H'=>PrV H' z x) (λ _ _ _ _ h e=>PrV.ext h e) hlf5 al5;exists alO5;clear hq hlf ho4 al5 e4;ac_rfl;refine cI L (λ z=>decide (bR z.1 z.2 a=0)) (λ z x H'=>PrV H' z x) (λ D z y H'=>PrV H' z y) wk.1 wk.2 (λ D _ y H1 H2 h e=>h.ext e) (λ D _ y H1 xs o h hD=>h.upd hD) (ag %[0|8]) ?_ ?_
   ·intro D z y H' N1 N0 hz hD e _ hy k1 k0;have hy':=hy;obtain⟨y',_,_,rfl,_⟩:=hy';have k1':=λ h=>k1 h (.ref y') H' (Ext.refl _) hy;have k0':=λ h=>k0 h H' (Ext.refl _);have hzl:=hln () z (hsub () z hz);have hq':=e.at hq5;exists k1';exists k0';clear k1 k0 wk hz;simp! only [↓bh,↓ba];rw [i9];refine⟨z,hy,by omega,by omega,by omega,?_⟩;rw [OI];generalize bR z.1 z.2 a=g at k1' k0'
    by_cases hg:g=0
    ·have k2:=k1' () (OG hg);clear k1' k0';ac_rfl
    ·have k2:=k0' () (OM hg);clear k1' k0';ac_rfl
   intro D6 zs6 H6 hD6 e6 h6 al6;have ho6:=e6.at ho5;have nD:D6 ≠ od:=λ z=>by rw [z,ho5] at hD6;cases hD6
   have alO6:=λ (_:Unit)=>(alO5 ()).imp λ _ _ t=>dc.ext t e6;have e06:=e5.trans e6;have hfl:(L.filter λ z=>decide (bR z.1 z.2 a=0)).length<=60:=by omega
   have hln6:=λ (_:Unit)=>(show yL ms.length (L.filter λ z=>decide (bR z.1 z.2 a=0)) from λ z hz=>hln () z (hsub () z (Pw.mp hz).1));exists al6;clear wk hD6 hlf5 ho5 alO5 hsub hq5 e5;ac_rfl;rw [rL];refine⟨_,zs6,ms.length,rfl,h8,h6,al6 (),hfl,hln6 (),λ x7 H7 e7 nx7=>?_⟩;have q1:=λ (_:Unit)=>e7.at h6;have q2:=λ (_:Unit)=>(al6 ()).imp λ _ _ t=>PrV.ext t e7;have q3:=λ (_:Unit)=>e7.at ho6;have q4:=λ (_:Unit)=>(alO6 ()).imp λ _ _ t=>dc.ext t e7;have e07:=e06.trans e7;exists nx7;clear alO6 al6 hln6 hln h6 ho6 e7 e06 e6;ac_rfl;exact⟨_,hlt,_,_,D6,zs6,_,x7,rfl,rfl,e07,q1 (),q2 (),hfl,q3 (),q4 (),hI' (),nD,nx7 ()⟩
theorem sL{H:Hp}{q:Addr}{zs:List V}{ns:List Int}(h:H q=some (.tup zs))(hl:zs.length ≠ ns.length):bu ns (.ref q) H=false:=by
 show fG ns (H q)=false
 rw [h]
 show (decide (zs.length=ns.length) && _)=false
 rw [OM hl,QF]
theorem wJ{H:Hp}{q:Addr}{zs:List V}{ns:List Int}{i:Nat}{x:V}{n:Int}(h:H q=some (.tup zs))(h1:zs[i]? = some x)(h2:ns[i]? = some n)(hb:cM x n=false):bu ns (.ref q) H=false:=by
 show fG ns (H q)=false
 rw [h]
 show (decide (zs.length=ns.length) && (zs.zip ns).all (λ p=>cM p.1 p.2))=false
 have:(zs.zip ns).all (λ p=>cM p.1 p.2)=false:=by
  rw [Sf];refine⟨(x,n),OX (i:=i) ?_,by simp [hb]⟩;rw [QE];exact⟨h1,h2⟩
 rw [this,Bool.and_false]
theorem wI{H:Hp}{q:Addr}{o:HO}{ns:List Int}(h:H q=some o)(hn:∀ xs,o ≠ .tup xs):bu ns (.ref q) H=false:=by
 show fG ns (H q)=false
 rw [h]
 cases o with
 | tup xs=>exact absurd rfl (hn xs)
 | _=>rfl
theorem pU{H:Hp}{q:Addr}{zs:List V}(h:H q=some (.tup zs))(hz:∀ y∈zs,(isW H y).isSome=true):br H (.ref q):=by
 refine⟨by rw [fj,h];rfl,λ q' ys e hy y hm=>?_⟩;cases e;rw [h] at hy;cases hy;exact hz y hm
theorem pV{H:Hp}{q:Addr}{o:HO}(h:H q=some o)(hw:(isW H (.ref q)).isSome=true)(hn:∀ xs,o ≠ .tup xs):br H (.ref q):=⟨hw,λ q' ys e hy y hm=>by
 cases e;rw [h] at hy;cases hy;exact absurd rfl (hn ys)⟩
theorem sD{H:Hp}{x:V}(hw:(isW H x).isSome=true)(hn:∀ q,x ≠ .ref q):br H x:=⟨hw,λ q ys e _ _ _=>absurd e (hn q)⟩
def CV(y:V):Prop:=y=.non\/(∃ i,y=.int i)\/∃ s,y=.str s
def Kl(ms:List Int)(H:Hp)(y:V):Prop:=CV y\/(∃ q xs,y=.ref q/\H q=some (.lst xs))\/(∃ q xs,y=.ref q/\H q=some (.tup xs)/\¬ (xs.length:Int)=2)\/∃ q x1 x2,y=.ref q/\H q=some (.tup [x1,x2])/\br H x1/\br H x2/\(bu ms x1 H=false\/bu ms x2 H=false)
def KnT(ms:List Int)(Z:List PP)(H:Hp)(y:V)(b:Bool):Prop:=(∃ (q:Addr) (z:PP),y=.ref q/\PKV H z q/\InR ms z.1/\InR ms z.2/\b=decide (z∈Z))\/(b=false/\Kl ms H y)
theorem Kl.ext{ms:List Int}{H H':Hp}{y:V}(h:Kl ms H y)(e:Ext H H'):Kl ms H' y:=by
 rcases h with h|⟨q,xs,h1,h2⟩|⟨q,xs,h1,h2,h3⟩|⟨q,x1,x2,h1,h2,h3,h4,h5⟩
 ·exact .inl h
 ·exact .inr (.inl ⟨q,xs,h1,e.at h2⟩)
 ·exact .inr (.inr (.inl ⟨q,xs,h1,e.at h2,h3⟩))
 ·exact .inr (.inr (.inr ⟨q,x1,x2,h1,e.at h2,h3.ext e,h4.ext e,by rw [cy e h3.1,cy e h4.1];exact h5⟩))
theorem KnT.ext{ms:List Int}{Z:List PP}{H H':Hp}{y:V}{b:Bool}(h:KnT ms Z H y b)(e:Ext H H'):KnT ms Z H' y b:=by
 rcases h with ⟨q,z,h1,h2,h3⟩|⟨h1,h2⟩
 ·exact .inl ⟨q,z,h1,h2.ext e,h3⟩
 ·exact .inr ⟨h1,h2.ext e⟩
theorem fk:∀ {a b:List Int},a.map V.int=b.map V.int->a=b
 | [],[],_=>rfl
 | [],_::_,h=>by simp at h
 | _::_,[],h=>by simp at h
 | x::a,y::b,h=>by
  rw [PB,PB] at h
  injection h with h1 h2
  injection h1 with h1
  rw [h1,fk h2]
theorem Gi{H:Hp}{q:Addr}{z z':PP}(h:PKV H z q)(h':PKV H z' q):z=z':=by
 obtain⟨u,v,a1,a2,a3⟩:=h;obtain⟨u',v',b1,b2,b3⟩:=h';rw [a1] at b1;simp only [Option.some.injEq,HO.tup.injEq,RT,V.ref.injEq,and_true] at b1;obtain⟨rfl,rfl⟩:=b1;rw [a2] at b2;rw [a3] at b3;exact Prod.ext (fk (HO.tup.inj (O1 b2))) (fk (HO.tup.inj (O1 b3)))
theorem KnT.odd{ms:List Int}{Z:List PP}{H:Hp}{y:V}{b:Bool}(h:KnT ms Z H y b)(h0:KnT ms Z H y false):b=false:=by
 rcases h with ⟨q,z,rfl,h2,h3,h4,rfl⟩|⟨h1,_⟩
 ·rcases h0 with ⟨q',z',e,g2,_,_,g5⟩|⟨_,g⟩
  ·cases e;rw [Gi h2 g2];exact g5.symm
  ·obtain⟨u,v,a1,a2,a3⟩:=h2
   rcases g with (g|⟨_,g⟩|⟨_,g⟩)|⟨q',xs,e,g⟩|⟨q',xs,e,g,gl⟩|⟨q',x1,x2,e,g,_,_,gp⟩
   ·cases g
   ·cases g
   ·cases g
   ·cases e;rw [a1] at g;cases g
   ·cases e;rw [a1] at g;cases g;exact absurd rfl gl
   ·cases e;rw [a1] at g;cases g;rw [gz a2 h3,gz a3 h4] at gp
    rcases gp with gp|gp<;>cases gp
 ·exact h1
abbrev wb(P:Program)(w:World)(y:V)(p:Addr)(d:Addr)(H:Hp)(Q:VK)(E:XK):Prop:=∃ (ms:List Int) (Z:List PP) (b:Bool),H p=some (.lst (ms.map V.int))/\eK ms/\KnT ms Z H y b/\mO P w H d Z/\∀ H',Ext H H'->Q (.bl b) H'
def Co(P:Program)(w:World):Sp:=λ vs H Q E=>∃ (y:V) (p:Addr) (d:Addr),vs=[y,.ref p,.ref d]/\(wb P w y p d H Q E)
theorem FZ(P:Program)(w:World)(y:V)(p:Addr)(d:Addr)(H:Hp)(Q:VK)(E:XK):Co P w [y,.ref p,.ref d] H Q E=(wb P w y p d H Q E):=uc (f:=λ (y:V) (p:Addr) (d:Addr)=>[y,.ref p,.ref d]) (λ _ _ _ _ _ _ h=>by cases h;exact⟨rfl,rfl,rfl⟩) y p d
theorem Fq(P:Program)(w:World){vs:List V}{H:Hp}{Q:VK}{E:XK}(h:Co P w vs H Q E):vs.length=3:=ud h λ _ _ _=>rfl
theorem iC(T:Tx K mg t):bL P w K mg base CX0 4 t.a_is_known_pair t.d_is_known_pair ["thing", "sizes", "known"] (Co P w):=by
 have G_is_place:=%[qd|41];refine T.F_is_known_pair.ok jQ (λ vs H Q E h=>Fq _ _ h) (λ c A o s H vs Q E hr h=>?_)
 ·obtain⟨y,p,d,rfl,ms,Z,b,hp,hsz,hk,kn,kk⟩:=h;refine⟨_,%[%[(PW.pt %[%[%[%[isinstance,cJ,%[%[0|0],%[(@eT _ _ (.ty "tuple") (.type "tuple") _ ∅ T.z_tuple nofun rfl ⋯ ⋯)|1]|1]|6],(by intros;rfl)|28]|30],(@gv _ _ _ _ %[(cS hr.units),%[len,au,%[%[0|0]|1]|6],%[0|2],(ar _)|14])|36]),%[%[(@cN _ _ _ _)|12]|10],(@ak _)|17],%[%[%[%[is_place,%[%[1|0],%[%[cp,%[0|0],%[0|2],(λ _ _=>rfl)|13]|1]|1]|3],%[%[is_place,%[%[1|0],%[%[cp,%[0|0],%[0|2],(λ _ _=>rfl)|13]|1]|1]|3],%[%[(Ie hr.units),%[0|0],%[2|0],(by with_unfolding_all rfl)|37]|35]|33]|33]|12]|10]|9],?_⟩;rw [show aA ["thing", "sizes", "known"] [y,.ref p,.ref d]=[some (y),some (.ref p),some (.ref d)] from rfl];clear G_is_place;exists kk;exists kn
  rcases hk with ⟨q,z,rfl,hk,i1,i2,rfl⟩|⟨rfl,ho⟩
  ·have hk':=hk;obtain⟨u,v,hb,hu,hv⟩:=hk';exists hk;have t1:=aI hu;have p1:bu ms (.ref u) H=true:=gz hu i1;simp! only [↓c9,↓j6,↓uf];intro H1 e1;have hb1:=e1.at hb;have hp1:=e1.at hp;have hv1:=e1.at hv;have t2:=aI hv1;have p2:bu ms (.ref v) H1=true:=gz hv1 i2;clear t1 p1 hb hp hu hv;simp! only [↓c9,↓j6,↓uf];intro H2 e2;have e02:=e1.trans e2;have kn2:=(kn ()).ext e02;have hk2:=(hk ()).ext e02;have k':=kk () H2 e02;clear t2 p2 kk kn hk hb1 hp1 hv1;ac_rfl;exact Dd kn2 hk2 k'
  ·have k0:=kk () H (Ext.refl _)
   rcases ho with (rfl|⟨_,rfl⟩|⟨_,rfl⟩)|⟨q,xs,rfl,hq⟩|⟨q,xs,rfl,hq,hlen⟩|⟨q,x1,x2,rfl,hq,t1,t2,hpl⟩
   ·clear kk kn;ac_rfl
   ·clear kk kn;ac_rfl
   ·clear kk kn;ac_rfl
   ·clear kk kn;ac_rfl
   ·clear kk kn;ac_rfl
   ·cases p1:bu ms x1 H with
    | false=>
     clear k0 kn t2 hpl;simp! only [↓c9,↓j6,↓uf];intro H1 e1;have k':=kk () H1 e1;clear kk t1 p1;ac_rfl
    | true=>
     have p2:bu ms x2 H=false:=by
      rcases hpl with h|h
      ·rw [h] at p1;cases p1
      ·exact h
     clear k0 kn hpl;simp! only [↓c9,↓j6,↓uf];intro H1 e1;have t3:=t2.ext e1;have p3:bu ms x2 H1=false:=by rw [cy e1 t2.1];exact p2
     have hq1:=e1.at hq;have hp1:=e1.at hp;clear t1 p1 hq hp t2 p2;simp! only [↓c9,↓j6,↓uf];intro H2 e2;have k':=kk () H2 (e1.trans e2);clear kk t3 p3;ac_rfl
def dR(Y:List PP)(a:Nat):Bool:=(Y.all λ z=>decide (bR z.1 z.2 a=0)) || ((Y.any λ z=>decide (bR z.1 z.2 a < 0)) && Y.any λ z=>decide (0 < bR z.1 z.2 a))
def ll(gs:List Int)(M:Int):Prop:=M∈gs/\∀ g∈gs,M<=g
def oX(gs:List Int)(M:Int):Prop:=M∈gs/\∀ g∈gs,g<=M
theorem vT{Y:List PP}{a:Nat}{M N:Int}(h1:ll (Y.map λ z=>bR z.1 z.2 a) M)(h2:oX (Y.map λ z=>bR z.1 z.2 a) N):dR Y a=decide ((M < 0/\0 < N)\/(M=0/\N=0)):=by
 obtain⟨m1,l1⟩:=h1;obtain⟨m2,l2⟩:=h2;have gm:∀ z∈Y,bR z.1 z.2 a∈Y.map λ z=>bR z.1 z.2 a:=λ z hz=>List.mem_map.mpr ⟨z,hz,rfl⟩;apply Bool.eq_iff_iff.mpr;unfold dR;rw [Bool.or_eq_true,Bool.and_eq_true,all_eq_true,any_eq_true,any_eq_true,decide_eq_true_eq];obtain⟨zm,hzm,em⟩:=List.mem_map.mp m1;obtain⟨zn,hzn,en⟩:=List.mem_map.mp m2;constructor
 ·rintro (h|⟨⟨z,hz,hg⟩,y,hy,hg'⟩)
  ·have a1:=Pe (h zm hzm);have a2:=Pe (h zn hzn);omega
  ·have a1:=Pe hg;have a2:=Pe hg';have:=l1 _ (gm z hz);have:=l2 _ (gm y hy);omega
 ·rintro (⟨h1,h2⟩|⟨h1,h2⟩)
  ·exact .inr ⟨⟨zm,hzm,OG %[0|8]⟩,zn,hzn,OG %[0|8]⟩
  ·refine .inl λ z hz=>OG ?_;have:=l1 _ (gm z hz);have:=l2 _ (gm z hz);omega
theorem ll.eq{gs:List Int}{M N:Int}(h:ll gs M)(h':ll gs N):N=M:=Int.le_antisymm (h'.2 M h.1) (h.2 N h'.1)
theorem MinMax.le{gs:List Int}{M N:Int}(h:ll gs M)(h':oX gs N):M<=N:=h.2 N h'.1
theorem B0:∀ gs:List Int,gs ≠ []->∃ N,oX gs N
 | [],h=>absurd rfl h
 | [g],_=>⟨g,ON,λ x hx=>by rw [OE.mp hx];exact Int.le_refl _⟩
 | g::h::r,_=>by
  obtain⟨N,h1,h2⟩:=B0 (h::r) (by simp)
  by_cases hg:g<=N
  ·exact⟨N,OH _ h1,λ x hx=>by
    rcases OU.mp hx with e|hx
    ·rw [e];exact hg
    ·exact h2 x hx⟩
  ·exact⟨g,ON,λ x hx=>by
    rcases OU.mp hx with e|hx
    ·rw [e];exact Int.le_refl _
    ·have:=h2 x hx;omega⟩
abbrev rX  (l:Addr) (a:Int) (H:Hp) (Q:VK) (E:XK):Prop:=∃ (Y:List PP) (ys:List V) (n:Nat),H l=some (.lst ys)/\Al (PrV H) Y ys/\Y.length<=100/\¬ Y=[]/\yL n Y/\0<=a/\a < (n:Int)/\n<=8/\∀ H',Ext H H'->Q (.bl (dR Y a.toNat)) H'
def uJ  : Sp:=λ vs H Q E=>∃ (l:Addr) (a:Int),vs=[.ref l,.int a]/\(rX  l a H Q E)
theorem BB  (l:Addr) (a:Int) (H:Hp) (Q:VK) (E:XK):uJ  [.ref l,.int a] H Q E=(rX  l a H Q E):=jV (f:=λ (l:Addr) (a:Int)=>[.ref l,.int a]) (λ _ _ _ _ h=>by cases h;exact⟨rfl,rfl⟩) l a
theorem AL  {vs:List V}{H:Hp}{Q:VK}{E:XK}(h:uJ  vs H Q E):vs.length=2:=jW h λ _ _=>rfl
theorem oy(T:Tx K mg t):bL P w K mg base CX0 2 t.a_bars_axis t.d_bars_axis ["pairs", "axis"] uJ:=by
 have G_gap:=%[qO|41];refine T.F_bars_axis.ok jG (λ vs H Q E h=>AL h) (λ c A o s H vs Q E hr h=>?_)
 ·obtain⟨l,a,rfl,Y,ys,n,hl,al,h60,hne,hln,a0,a1,n8,kk⟩:=h;refine⟨_,%[%[(["pair", "pairs", "axis", "gaps"]),(1),(2),_,jG.nd,rfl,(Or.inl rfl),(aC (aa dY) ["pairs", "axis", "gaps"] rfl rfl nofun),rfl,%[%[0|0]|20],(λ C s₀ H₀ ex pn=>%[(0),_,(show List.Nodup (["pair", "pairs", "axis", "gaps"]:List Str) from by decide +kernel),rfl,(Or.inl rfl),%[0|7]|15]),(λ C s₀ H₀ ex pn=>(@aV _)),(λ C s₀ H₀ ex pn=>%[gap,%[%[0|0],%[%[2|0]|1]|1]|3]),∅,(by intros;rfl),%[0|7]|39],%[%[(@HS _ _ _ _ _ _ _ %[%[oV,%[min,(ia rfl),%[%[2|0]|1]|6],%[0|2],(ar _)|37],%[%[mQ,%[max,(ib rfl),%[%[2|0]|1]|6],%[0|2],(ar _)|37]|35]|33] %[%[%[(dH hr.units),%[min,(ia rfl),%[%[2|0]|1]|6],%[0|2],(ar _)|37],%[%[(dH hr.units),%[max,(ib rfl),%[%[2|0]|1]|6],%[0|2],(ar _)|37]|35]|33]|35])|12]|10]|9],?_⟩;rw [show aA ["pairs", "axis", "gaps"] [.ref l,.int a]=[some (.ref l),some (.int a),none] from rfl];clear G_gap;have wk:=gq (K:=K) (R:=λ z x H'=>PrV H' z x) (λ _ _ _ _ h e=>PrV.ext h e) hl al;have hpos:0 < Y.length:=QI.mpr hne;exists kk;exists hln;clear hne;ac_rfl;refine bK Y (λ _=>true) (λ z=>.int (bR z.1 z.2 a.toNat)) (λ z x H'=>PrV H' z x) wk.1 wk.2 (ag %[0|8]) ?_ ?_
  ·intro D z y H' N1 N0 hz hD e hy k1 _;have hy':=hy;obtain⟨y',_,_,rfl,_⟩:=hy';have k1':N1 (.int (bR z.1 z.2 a.toNat)) H':=k1 rfl H' (Ext.refl _);have hzl:=hln () z hz;clear k1 kk wk hz;simp! only [↓bh,↓ba];rw [i9];exact⟨z,hy,a0,by omega,by omega,k1'⟩
  intro D H1 hD e1 h1;rw [jX] at h1;have h1':H1 D=some (.lst ((Y.map λ z=>bR z.1 z.2 a.toNat).map V.int)):=by rw [h1,PF];rfl
  have hgl:0 < (Y.map λ z=>bR z.1 z.2 a.toNat).length:=by rw [OB];exact hpos
  have hbb:=λ (_:Unit) (M N:Int) (h1:ll (Y.map λ z=>bR z.1 z.2 a.toNat) M) (h2:oX (Y.map λ z=>bR z.1 z.2 a.toNat) N)=>vT (a:=a.toNat) h1 h2;have k':=λ (_:Unit)=>kk () H1 e1;generalize (Y.map λ z=>bR z.1 z.2 a.toNat)=gs at h1' hgl hbb;clear wk h1 hD kk;ac_rfl;rw [lp];refine⟨hgl,λ M hM hle=>?_⟩;have hMin:ll gs M:=⟨hM,hle⟩;exists hMin;clear hM hle
  by_cases hm:M < 0
  ·ac_rfl;rw [oY];refine⟨hgl,λ N hN hge=>?_⟩;have hv:=hbb () M N (hMin ()) ⟨hN,hge⟩;clear hN hge
   by_cases hn:0 < N
   ·rw [OG (.inl ⟨hm,hn⟩)] at hv;have k2:=k' ();rw [hv] at k2;clear hv k' hbb;ac_rfl
   ·rw [OM %[0|8]] at hv;have k2:=k' ();rw [hv] at k2;clear hv k' hbb;ac_rfl;rw [lp];refine⟨hgl,λ M2 hM2 hle2=>?_⟩;have e2:=(hMin ()).eq ⟨hM2,hle2⟩;subst e2;have hz:¬ M2=0:=by omega
    clear hM2 hle2;ac_rfl
  ·ac_rfl;rw [lp];refine⟨hgl,λ M2 hM2 hle2=>?_⟩;have e2:=(hMin ()).eq ⟨hM2,hle2⟩;subst e2;clear hM2 hle2
   by_cases hz:M2=0
   ·subst hz;ac_rfl;rw [oY];refine⟨hgl,λ N hN hge=>?_⟩;have hv:=hbb () 0 N (hMin ()) ⟨hN,hge⟩;clear hN hge;have k2:=k' ()
    by_cases hn:N=0
    ·rw [OG (.inr ⟨rfl,hn⟩)] at hv;rw [hv] at k2;clear hv k' hbb;ac_rfl
    ·rw [OM %[0|8]] at hv;rw [hv] at k2;clear hv k' hbb;ac_rfl
   ·obtain⟨N,hN⟩:∃ N,oX gs N:=by
     obtain⟨g,hg⟩:=List.exists_mem_of_length_pos hgl;exact B0 gs (List.ne_nil_of_mem hg)
    have hv:=hbb () M2 N (hMin ()) hN;rw [OM %[0|8]] at hv;have k2:=k' ();rw [hv] at k2;clear hv k' hbb hN;ac_rfl
theorem PrV.pk{H:Hp}{z:PP}{q:Addr}(h:PrV H z (.ref q)):PKV H z q:=by
 obtain⟨q',u,v,e,h1,h2,h3⟩:=h;cases e;exact⟨u,v,h1,h2,h3⟩
theorem zK{H:Hp}{z:PP}{y:V}{d:Addr}{φ:Heap->Prop}{o:HO}(h:PrV H z y)(hd:H d=some (.ext φ)):PrV (upd H d o) z y:=by
 obtain⟨q,u,v,rfl,h1,h2,h3⟩:=h;obtain⟨u',v',g1,g2,g3⟩:=PKV.upd (o:=o) (k:=z) (b:=q) ⟨u,v,h1,h2,h3⟩ hd;exact⟨q,u',v',rfl,g1,g2,g3⟩
theorem Hi{H:Hp}{d:Addr}{Z:List PKy}(h:mO P w H d Z):∃ φ,H d=some (.ext φ):=by
 obtain⟨xs,h1,_⟩:=h;exact⟨_,h1⟩
theorem KnT.same{ms:List Int}{Z Z':List PP}{H:Hp}{y:V}{b:Bool}(h:KnT ms Z H y b)(hz:∀ z,z∈Z ↔ z∈Z'):KnT ms Z' H y b:=by
 rcases h with ⟨q,z,h1,h2,h3,h4,h5⟩|h
 ·exact .inl ⟨q,z,h1,h2,h3,h4,by rw [h5];exact RG.mpr (hz z)⟩
 ·exact .inr h
def yJ(Z Y:List PP)(n:Nat):Bool:=(Y.all λ z=>decide (z∈Z)) && (List.range n).all (dR Y)
def iS(ms:List Int)(Z:List PP)(H:Hp)(x:V)(b:Bool):Prop:=(b=false/\(CV x\/∃ q,x=.ref q/\((∃ xs,H q=some (.tup xs))\/(∃ kvs,H q=some (.dK kvs))\/H q=some (.lst []))))\/∃ (q:Addr) (ys:List V),x=.ref q/\H q=some (.lst ys)/\0 < ys.length/\ys.length<=100/\((∃ Y:List PP,Al (PrV H) Y ys/\(∀ z∈Y,InR ms z.1/\InR ms z.2)/\b=yJ Z Y ms.length)\/(b=false/\(∀ y∈ys,∃ c,KnT ms Z H y c)/\∃ y∈ys,KnT ms Z H y false))
theorem iS.ext{ms:List Int}{Z:List PP}{H H':Hp}{x:V}{b:Bool}(h:iS ms Z H x b)(e:Ext H H'):iS ms Z H' x b:=by
 rcases h with ⟨h1,h2⟩|⟨q,ys,h1,h2,h3,h4,h5⟩
 ·refine .inl ⟨h1,?_⟩
  rcases h2 with h2|⟨q,hq,⟨xs,h⟩|⟨kvs,h⟩|h⟩
  ·exact .inl h2
  ·exact .inr ⟨q,hq,.inl ⟨xs,e.at h⟩⟩
  ·exact .inr ⟨q,hq,.inr (.inl ⟨kvs,e.at h⟩)⟩
  ·exact .inr ⟨q,hq,.inr (.inr (e.at h))⟩
 ·refine .inr ⟨q,ys,h1,e.at h2,h3,h4,?_⟩
  rcases h5 with ⟨Y,a1,a2⟩|⟨a1,a2,y,hy,a3⟩
  ·exact .inl ⟨Y,a1.imp λ _ _ t=>PrV.ext t e,a2⟩
  ·exact .inr ⟨a1,λ y hy=>(let ⟨c,hc⟩:=a2 y hy;⟨c,hc.ext e⟩),y,hy,a3.ext e⟩
abbrev rW(C:Addr)(u:Addr)(v:Addr)(x:V)(H:Hp)(Q:VK)(E:XK):Prop:=∃ (room f1 f2:Int) (A B:List (Int × Int)) (ms:List Int) (Z:List PP) (b:Bool),aG C H u room f1 A/\aG C H v room f2 B/\fQ A/\fQ B/\(A.map λ a=>a.1)=ms/\(B.map λ a=>a.1)=ms/\ae ms<=60/\(ah f1 A).Nodup/\(aF (ah f1 A) (ah f2 B) (ah f2 B).length).map (oQ ms)=Z/\iS ms Z H x b/\∀ H',Ext H H'->Q (.bl b) H'
def uI(C:Addr):Sp:=λ vs H Q E=>∃ (u:Addr) (v:Addr) (x:V),vs=[.ref u,.ref v,x]/\(rW C u v x H Q E)
theorem BA(C:Addr)(u:Addr)(v:Addr)(x:V)(H:Hp)(Q:VK)(E:XK):uI C [.ref u,.ref v,x] H Q E=(rW C u v x H Q E):=uc (f:=λ (u:Addr) (v:Addr) (x:V)=>[.ref u,.ref v,x]) (λ _ _ _ _ _ _ h=>by cases h;exact⟨rfl,rfl,rfl⟩) u v x
theorem AK(C:Addr){vs:List V}{H:Hp}{Q:VK}{E:XK}(h:uI C vs H Q E):vs.length=3:=ud h λ _ _ _=>rfl
theorem DT(T:Tx K mg t):bL P w K mg base CX0 8 t.a_bars t.d_bars ["to", "source", "some"] (uI t.a_View):=by
 have G_bound_pairs:=%[fL|41];have G_is_known_pair:=%[iC|41];have G_View_sizes:=%[cg|41];have G_bars_axis:=%[oy|41];refine T.F_bars.ok vf (λ vs H Q E h=>AK _ h) (λ c A o s H vs Q E hr h=>?_)
 ·obtain⟨u,v,x,rfl,room,f1,f2,A,B,ms,Z,b,vu,vv,hA,hB,m1,m2,h60,hnd,hZ,hbx,kk⟩:=h;obtain⟨dx,D,hu,tD⟩:=vu.ob;obtain⟨ax,hD,alA⟩:=tD;have hax:(ax.length:Int)=(ms.length:Int):=by rw [alA.1,←m1];unfold axL;rw [length_map,length_map]
  have c1:=T.cl_View;have c3:=T.na_View_axes;have g3:=cx room f1 D;have f4:=vn room f1 D (m := "sizes") nofun;refine⟨_,%[(@fF _ _ (3) _ _ _ _ vf.nd rfl (Or.inr rfl) (@wN _ _) ∅ %[0|7]),%[%[OV,rfl,%[%[bound_pairs,%[%[0|0],%[%[1|0]|1]|1]|3]|20],%[4,vf|5],%[(@Du _ _ _ _ _ _ _ _ _ hr.units %[3|0] %[4|0] (@cN _ _ _ _) rfl)|10],(by intros;rfl)|21],%[%[(PW.pt %[%[%[%[isinstance,cJ,%[%[2|0],%[(@eT _ _ (.ty "list") (.type "list") _ ∅ T.z_list nofun rfl ⋯ ⋯)|1]|1]|6],(by intros;rfl)|28]|30],(@gv _ _ _ _ %[(dH hr.units),%[len,au,%[%[2|0]|1]|6],%[0|2],(ar _)|14])|36]),%[%[(@cN _ _ _ _)|12]|10],(@ak _)|17],%[%[%[%[%[all,(gF rfl),%[%[(["thing", "to", "source", "some", "known", "pair"]),(1),(aC (aa mS) ["to", "source", "some", "known", "pair"] rfl rfl nofun),rfl,%[%[2|0]|20],(λ C s₀ H₀ ex pn=>%[(0),_,(show List.Nodup (["thing", "to", "source", "some", "known", "pair"]:List Str) from by decide +kernel),rfl,(Or.inl rfl),%[0|7]|15]),(λ C s₀ H₀ ex pn=>(@aV _)),(λ C s₀ H₀ ex pn=>%[is_known_pair,%[%[0|0],%[%[%[1|0],T.cl_View,T.mt_View_sizes,G_View_sizes,(hr.mono ⋯),T.b_View_sizes,.nil,eJ,∅|32],%[%[4|0]|1]|1]|1]|3]),(by intros;rfl)|25]|1]|6],(by intros;rfl)|28]|30],%[%[(@cN _ _ _ _)|12]|10],(@ak _)|17],%[%[%[all,(gF rfl),%[%[(["axis", "to", "source", "some", "known", "pair"]),(1),(aC (aa mS) ["to", "source", "some", "known", "pair"] rfl rfl nofun),rfl,%[∅,T.z_range,%[%[len,au,%[%[%[0|0],rfl|31]|1]|6]|1],∅|29],(λ C s₀ H₀ ex pn=>%[(0),_,(show List.Nodup (["axis", "to", "source", "some", "known", "pair"]:List Str) from by decide +kernel),rfl,(Or.inl rfl),%[0|7]|15]),(λ C s₀ H₀ ex pn=>(@aV _)),(λ C s₀ H₀ ex pn=>%[bars_axis,%[%[3|0],%[%[0|0]|1]|1]|3]),(by intros;rfl)|25]|1]|6]|12]|10]|9]|9]|9]|9],?_⟩;rw [show aA ["to", "source", "some", "known", "pair"] [.ref u,.ref v,x]=[some (.ref u),some (.ref v),some (x),none,none] from rfl];clear G_bound_pairs G_is_known_pair G_View_sizes G_bars_axis alA;have h8:ms.length<=8:=by rw [←m1,OB];exact hA.1
  have n1:=aJ f1 A λ b hb=>(hA.2 b hb).1;have n2:=aJ f2 B λ b hb=>(hB.2 b hb).1;have hszs:=hA.sizes;rw [m1] at n1 hszs;rw [m2] at n2;exists m1;exists m2;exists hnd;exists kk;exists hZ;exists hbx;ac_rfl;intro d H1 hd1 e1 kn1;replace kn1:Unit->mO P w H1 d []:=λ (_:Unit)=>kn1;ac_rfl;rw [nP];refine⟨room,f1,f2,A,B,vu.ext e1,vv.ext e1,hA,hB,by rw [m1 (),m2 ()],by rw [m1 ()];omega,hnd (),λ l r2 ys2 zs H2 e2 hr2 hl2 al2 hz2 alp2=>?_⟩;rw [m1 ()] at al2;have pr2:=vD al2 alp2;have hpl:=dN (ah f1 A) (ah f2 B) (ah f2 B).length;have hZl:((aF (ah f1 A) (ah f2 B) (ah f2 B).length).map (oQ ms)).length<=60:=by rw [OB];omega
  rw [hZ ()] at pr2 hZl;have kn2:=(kn1 ()).ext e2;have e02:=e1.trans e2
  have nrd:r2 ≠ d:=λ z=>by
   obtain⟨φ,hφ⟩:=Hi kn2;rw [z,hφ] at hz2;cases hz2
  clear hl2 al2 alp2 hpl hr2 kn1 e1 e2 hZ;ac_rfl;refine cw (xs:=zs) (λ i σ H'=>∃ (Z':List PKy) (v4:Option V),σ=[some (.ref u),some (.ref v),some x,some (.ref d),v4]/\Ext H H'/\H' r2=some (.lst zs)/\Al (PrV H') Z zs/\mO P w H' d Z'/\Z'.length=i/\∀ z,z∈Z.take i ↔ z∈Z') ⟨[],none,rfl,e02,hz2,pr2,kn2,rfl,λ z=>by rw [List.take_zero]⟩ (λ i σ H' _ ⟨_,_,_,_,h,_⟩=>h) ?_ ?_
  ·rintro i y _ H3 hi ⟨Z',v4,rfl,e3,hz3,pr3,kn3,hZ'l,hsub⟩;have hil:i < Z.length:=by have:=(Oy.mp hi).1;rw [pr3.1] at this;exact this
   obtain⟨z,hz⟩:∃ z,Z[i]? = some z:=⟨_,Ow hil⟩;have pz:=pr3.2 i z y hz hi;have htk:Z.take (i+1)=Z.take i++[z]:=by rw [Qs,hz];rfl
   obtain⟨φ,hφ⟩:=Hi kn3;have pz':=pz;obtain⟨q,_,_,rfl,_⟩:=pz';have pk3:=pz.pk
   have fin:∀ x,x∈Z.take (i+1) ↔ x∈z::Z':=λ x=>by
    rw [htk,OQ,OE,OU,hsub x];exact or_comm
   exists fin;exists pr3;exists kn3;clear hi hz pz htk hsub kk hbx;simp! only [↓ay];refine Hy (kn3 ()) pk3 (by rw [sizeLine_eq];omega) λ o kn4=>?_;exact⟨z::Z',_,rfl,e3.put hd1,by rw [af nrd];exact hz3,(pr3 ()).imp λ _ _ t=>zK t hφ,kn4,by rw [Ph,hZ'l],fin ()⟩
  ·rintro _ H3 ⟨Z',v4,rfl,e3,hz3,pr3,kn3,hZ'l,hsub⟩;rw [pr3.1,P6] at hsub;have hb3:=(hbx ()).ext e3;have hu3:=e3.at hu;have hD3:=e3.at hD;have vu3:=vu.ext e3;exists hsub;exists kn3;clear hz3 pr3 hz2 pr2 kn2 e02 hbx
   rcases hb3 with ⟨rfl,(rfl|⟨_,rfl⟩|⟨_,rfl⟩)|⟨q,rfl,⟨xs,hq⟩|⟨kvs,hq⟩|hq⟩⟩|⟨q,ys,rfl,hq,hy0,hy1,hlist⟩
   ·have k':=kk () H3 e3;clear kk;ac_rfl
   ·have k':=kk () H3 e3;clear kk;ac_rfl
   ·have k':=kk () H3 e3;clear kk;ac_rfl
   ·have k':=kk () H3 e3;clear kk;ac_rfl
   ·have k':=kk () H3 e3;clear kk;ac_rfl
   ·have k':=kk () H3 e3;clear kk;ac_rfl
   ·have hyn:¬ (ys.length:Int)=0:=by omega
    have hall:∀ y∈ys,∃ c,KnT ms Z' H3 y c:=by
     rcases hlist with ⟨Y,alY,hin,_⟩|⟨_,h,_⟩
     ·intro y hy;obtain⟨i,hi⟩:=Ra.mp hy;have hil:i < Y.length:=by have:=(Oy.mp hi).1;rw [alY.1] at this;exact this
      have pz:=alY.2 i Y[i] y (Ow hil) hi;have hm:=hin Y[i] (P7 hil);have pz':=pz;obtain⟨q',_,_,rfl,_⟩:=pz';exact⟨_,.inl ⟨q',Y[i],rfl,pz.pk,hm.1,hm.2,rfl⟩⟩
     ·intro y hy;obtain⟨c,hc⟩:=h y hy;exact⟨c,hc.same (hsub ())⟩
    obtain⟨cF,hcF⟩:=Classical.axiomOfChoice (λ y:V=>(show ∃ c,y∈ys->KnT ms Z' H3 y c from by
     by_cases hy:y∈ys
     ·obtain⟨c,hc⟩:=hall y hy;exact⟨c,λ _=>hc⟩
     ·exact⟨false,λ h=>absurd h hy⟩))
    exists hcF;exists hlist;clear hall;have wk:=mR (K:=K) hq;ac_rfl;refine bK ys (λ _=>true) (λ y=>.bl (cF y)) (λ z x H'=>x=z/\H' q=some (.lst ys)) wk.1 wk.2 (ag %[0|8]) ?_ ?_
    ·intro D' z y H' N1 N0 hz hD' e ⟨hy,_⟩ k1 _;subst hy;have k1':=k1 rfl;have hc:=λ (_:Unit)=>(hcF () y hz).ext e;have hu':=e.at hu3;have vu':=vu3.ext e;have kn':=λ (_:Unit)=>(kn3 ()).ext e;clear k1 kk wk hz hcF hlist;simp! only [↓bh,↓ba];rw [cA];refine⟨room,f1,A,vu',hA.1,λ r5 H5 hr5 e5 h5=>?_⟩;rw [m1 ()] at h5;clear hr5;ac_rfl;rw [FZ];exact⟨ms,Z',_,h5,hszs,(hc ()).ext e5,(kn' ()).ext e5,λ H6 e6=>k1' H6 (e5.trans e6)⟩
    intro D4 H4 hD4 e4 h4;rw [jX] at h4;have h4':H4 D4=some (.lst ((ys.map cF).map V.bl)):=by rw [h4,PF];rfl
    have e04:=e3.trans e4;clear wk h4 hD4
    rcases hlist () with ⟨Y,alY,hin,hb⟩|⟨hb,_,y0,hy0',hodd⟩
    ·have hall:((ys.map cF).all id)=Y.all λ z=>decide (z∈Z):=by
      rw [all_map];apply PZ.mpr;rw [Qi,Qi]
      have key:∀ (i:Nat) (z:PP) (y:V),Y[i]? = some z->ys[i]? = some y->cF y=decide (z∈Z):=λ i z y hz hy=>by
       have pz:=alY.2 i z y hz hy;have hm:=hin z (OX hz);have hk:=hcF () y (OX hy);have pz':=pz;obtain⟨q',_,_,rfl,_⟩:=pz';have hk2:KnT ms Z' H3 (.ref q') (decide (z∈Z)):=.inl ⟨q',z,rfl,pz.pk,hm.1,hm.2,RG.mpr (hsub () z)⟩
       cases hc:cF (.ref q') with
       | false=>rw [hc] at hk;exact(hk2.odd hk).symm
       | true=>
        cases hd:decide (z∈Z) with
        | true=>rfl
        | false=>rw [hd] at hk2;rw [hc] at hk;exact hk.odd hk2
      constructor
      ·intro h z hz;obtain⟨i,hi⟩:=Ra.mp hz;have hil:i < ys.length:=by rw [alY.1];exact(Oy.mp hi).1
       have hy:=Ow hil;rw [←key i z _ hi hy];exact h _ (OX hy)
      ·intro h y hy;obtain⟨i,hi⟩:=Ra.mp hy;have hil:i < Y.length:=by rw [←alY.1];exact(Oy.mp hi).1
       have hz:=Ow hil
       show cF y=true
       rw [key i _ y hz hi];exact h _ (OX hz)
     generalize ys.map cF=bs at h4' hall;have hYl:Y.length<=100:=by rw [←alY.1];exact hy1
     have hYn:¬ Y=[]:=λ e=>by have:=alY.1;rw [e,List.length_nil] at this;omega
     have hr4:=e4.at hq;have hu4:=e4.at hu3;have hD4':=e4.at hD3;have al4:=λ (_:Unit)=>alY.imp λ _ _ t=>PrV.ext t e4;have hlY:yL ms.length Y:=λ z hz=>⟨(hin z hz).1.len,(hin z hz).2.len⟩
     cases hbv:bs.all id with
     | false=>
      have hbf:b=false:=by rw [hb];unfold yJ;rw [←hall,hbv,Bool.false_and]
      subst hbf;have k':=kk () H4 e04;clear kk hall hb alY hin hcF hlist al4 hlY;ac_rfl
     | true=>
      have hbt:b=(List.range ms.length).all (dR Y):=by rw [hb];unfold yJ;rw [←hall,hbv,Bool.true_and]
      subst hbt;exists hlY;clear hall hb alY hin hcF hlist hu3 hD3 hq;ac_rfl;refine⟨by omega,by omega,?_⟩;rw [OI];refine bK (List.range ms.length) (λ _=>true) (λ j=>.bl (dR Y j)) (λ j x H'=>x=.int (0+(j:Nat))) eD.1 eD.2 (ag (by rw [Pa];omega)) ?_ ?_
      ·intro D' j y H' N1 N0 hj hD' e hy k1 _;subst hy;have hjr:=Py.mp hj;have k1':=k1 rfl;have hr':=e.at hr4;have al':=λ (_:Unit)=>(al4 ()).imp λ _ _ t=>PrV.ext t e;clear k1 kk hj;simp! only [↓bh,↓ba];rw [BB];refine⟨Y,ys,ms.length,hr',al' (),hYl,hYn,hlY (),by omega,by omega,h8,λ H6 e6=>?_⟩;rw [Po,OI];exact k1' H6 e6
      intro D5 H5 hD5 e5 h5;rw [jX] at h5;have h5':H5 D5=some (.lst (((List.range ms.length).map (dR Y)).map V.bl)):=by rw [h5,PF];rfl
      have ha5:(((List.range ms.length).map (dR Y)).all id)=(List.range ms.length).all (dR Y):=by rw [all_map];rfl
      have k':=kk () H5 (e04.trans e5);generalize ((List.range ms.length).map (dR Y))=bs' at h5' ha5;clear h5 hD5 kk;ac_rfl
    ·subst hb;have hf:cF y0=false:=(hcF () y0 hy0').odd (hodd.same (hsub ()))
     have hbv:((ys.map cF).all id)=false:=by
      rw [all_map,Sf];exact⟨y0,hy0',by show ¬ cF y0=true;rw [hf];decide⟩
     generalize ys.map cF=bs at h4' hbv;have k':=kk () H4 e04;clear kk hcF hlist hodd hf;ac_rfl
def Cd(Z Y:List PP)(n:Nat):Bool:=!Y.isEmpty && yJ Z Y n
theorem Gd{Y:List PP}{a:Nat}{M N:Int}(h1:ll (Y.map λ z=>bR z.1 z.2 a) M)(h2:oX (Y.map λ z=>bR z.1 z.2 a) N):dR Y a=(decide (M < 0) == decide (0 < N)):=by
 have hle:=MinMax.le h1 h2;rw [vT h1 h2]
 by_cases hm:M < 0
 ·by_cases hn:0 < N
  ·rw [OG hm,OG hn,OG (.inl ⟨hm,hn⟩)];rfl
  ·rw [OG hm,OM hn,OM %[0|8]];rfl
 ·by_cases hn:0 < N
  ·rw [OM hm,OG hn,OM %[0|8]];rfl
  ·rw [OM hm,OM hn,OG %[0|8]];rfl
theorem lB(Y:List PP):PyData.eqvAll (Y.map prD) []=Y.isEmpty:=by
 cases Y with
 | nil=>rw [Si,cz];rfl
 | cons z Y=>rw [PB,lU];rfl
abbrev rR  (l:Addr) (d:Addr) (n:Int) (H:Hp) (Q:VK) (E:XK):Prop:=∃ (Y Z:List PP) (ys zs:List V) (m:Nat),n=(m:Int)/\m<=8/\H l=some (.lst ys)/\Al (PrV H) Y ys/\H d=some (.lst zs)/\Al (PrV H) Z zs/\Z.length<=60/\Y.length<=100/\yL m Y/\∀ H',Ext H H'->Q (.bl (Cd Z Y m)) H'
def uD  : Sp:=λ vs H Q E=>∃ (l:Addr) (d:Addr) (n:Int),vs=[.ref l,.ref d,.int n]/\(rR  l d n H Q E)
theorem l9  (l:Addr) (d:Addr) (n:Int) (H:Hp) (Q:VK) (E:XK):uD  [.ref l,.ref d,.int n] H Q E=(rR  l d n H Q E):=uc (f:=λ (l:Addr) (d:Addr) (n:Int)=>[.ref l,.ref d,.int n]) (λ _ _ _ _ _ _ h=>by cases h;exact⟨rfl,rfl,rfl⟩) l d n
theorem AG  {vs:List V}{H:Hp}{Q:VK}{E:XK}(h:uD  vs H Q E):vs.length=3:=ud h λ _ _ _=>rfl
theorem fM(T:Tx K mg t):bL P w K mg base CX0 1 t.a__law_is_bar t.d__law_is_bar ["_law_some_here", "_law_due", "_law_axes"] uD:=by
 refine T.F__law_is_bar.ok eC (λ vs H Q E h=>AG h) (λ c A o s H vs Q E hr h=>?_)
 ·obtain⟨l,d,_,rfl,Y,Z,ys,zs,m,rfl,m8,hl,alY,hd,alZ,hZl,hYl,hln,kk⟩:=h;refine⟨_,%[%[(PW.pt %[%[(dH hr.units),%[0|0],%[(@bw _)|16],(ar _)|14],(@gv _ _ _ _ %[(cS hr.units),%[(["_law_pair", "_law_some_here", "_law_due", "_law_axes", "_law_axis", "_law_along"]),(1),(aC (aa cc) ["_law_some_here", "_law_due", "_law_axes", "_law_axis", "_law_along"] rfl rfl nofun),rfl,%[%[0|0]|20],(λ C s₀ H₀ ex pn=>%[(0),_,(show List.Nodup (["_law_pair", "_law_some_here", "_law_due", "_law_axes", "_law_axis", "_law_along"]:List Str) from by decide +kernel),rfl,(Or.inl rfl),%[0|7]|15]),(λ C s₀ H₀ ex pn=>(@iY _ _ _ %[(nB hr.units),%[0|0],%[2|0],(by with_unfolding_all rfl)|14])),(λ C s₀ H₀ ex pn=>%[0|0]),(by intros;rfl)|25],%[(@bw _)|16],(ar _)|14])|36]),%[%[(@cN _ _ _ _)|12]|10],(@ak _)|17],%[%[OV,rfl,%[∅,T.z_range,%[%[2|0]|1],∅|29],%[(3),_,eC.nd,rfl,(Or.inr rfl),%[0|7]|15],%[%[(["_law_pair", "_law_some_here", "_law_due", "_law_axes", "_law_axis", "_law_along"]),(1),(4),_,eC.nd,rfl,(Or.inl rfl),(aC (aa cc) ["_law_some_here", "_law_due", "_law_axes", "_law_axis", "_law_along"] rfl rfl nofun),rfl,%[%[0|0]|20],(λ C s₀ H₀ ex pn=>%[(0),_,(show List.Nodup (["_law_pair", "_law_some_here", "_law_due", "_law_axes", "_law_axis", "_law_along"]:List Str) from by decide +kernel),rfl,(Or.inl rfl),%[0|7]|15]),(λ C s₀ H₀ ex pn=>(@aV _)),(λ C s₀ H₀ ex pn=>%[eQ,%[cp,%[cp,%[0|0],%[0|2],(λ _ _=>rfl)|13],%[4|0],(λ _ _=>rfl)|13],%[cp,%[cp,%[0|0],%[0|2],(λ _ _=>rfl)|13],%[4|0],(λ _ _=>rfl)|13]|11]),∅,(by intros;rfl),%[0|7]|39],%[%[%[(cS hr.units),%[oV,%[min,(ia rfl),%[%[4|0]|1]|6],%[0|2],(ar _)|37],%[mQ,%[max,(ib rfl),%[%[4|0]|1]|6],%[0|2],(ar _)|37],(ar _)|14],%[%[(@cN _ _ _ _)|12]|10],(@ak _)|17]|10]|9],(by intros;rfl)|21],%[%[(@cN _ _ _ _)|12]|10]|9]|9],?_⟩;rw [show aA ["_law_some_here", "_law_due", "_law_axes", "_law_axis", "_law_along"] [.ref l,.ref d,.int (m:Int)]=[some (.ref l),some (.ref d),some (.int (m:Int)),none,none] from rfl];have hyl:=alY.1;exists alY;exists alZ;have alY0:=alY;exists kk;exists hln;exists hyl;ac_rfl;intro m1 H1 hm1 e1 h1;have hl1:=e1.at hl;have hd1:=e1.at hd;have al1:=λ (_:Unit)=>(alY ()).imp λ _ _ t=>PrV.ext t e1;clear hm1 alY
  by_cases hY:Y=[]
  ·subst hY;have hys:ys=[]:=Pq (hyl ());subst hys;have k':=kk () H1 e1;clear kk al1;ac_rfl;exact k'
  ·have d0:=eS (H:=H1) (f:=cq H1 (cq H1 noD)) (al1 ())
   have hYe:Y.isEmpty=false:=by cases Y with
    | nil=>exact absurd rfl hY
    | cons _ _=>rfl
   have hev:=lB Y;rw [hYe] at hev;have hyp:0 < Y.length:=List.length_pos_iff.mpr hY;have hbe:Cd Z Y m=yJ Z Y m:=by unfold Cd;rw [hYe];rfl
   rw [hbe] at kk;exists hYe;exists hbe;have wk:=gq (K:=K) (R:=λ z x H'=>PrV H' z x) (λ _ _ _ _ h e=>PrV.ext h e) hl1 (al1 ());have alZ1:=λ (_:Unit)=>(alZ ()).imp λ _ _ t=>PrV.ext t e1;clear hY alZ;ac_rfl;refine cI Y (λ z=>decide (¬ z∈Z)) (λ z x H'=>PrV H' z x) (λ D z y H'=>PrV H' z y) wk.1 wk.2 (λ D _ y H1 H2 h e=>h.ext e) (λ D _ y H1 xs o h hD=>h.upd hD) (ag %[0|8]) ?_ ?_
   ·intro D z y H' N1 N0 hz hD e _ hy k1 k0;have hd':=e.at hd1;have alZ':=(alZ1 ()).imp λ _ _ t=>PrV.ext t e;have dp:fP H' 6 y=some (prD z):=B7 (f:=cq H' (cq H' (cq H' noD))) hy;have d1:aW (zs.map (fP H' 5))=some (Z.map prD):=eS (f:=cq H' (cq H' noD)) alZ'
    have dl:fP H' 6 (.ref d)=some (.list (Z.map prD)):=by
     rw [hV,hd']
     show ue (fP H' 5) (.lst zs)=_
     rw [fz,d1];rfl
    have k1':=λ h=>k1 h y H' (Ext.refl _) hy;have k0':=λ h=>k0 h H' (Ext.refl _);have hy':=hy;obtain⟨y',_,_,rfl,_⟩:=hy';exists dp;exists dl;exists k1';exists k0';clear k1 k0 kk wk hz d1 alZ' d0 hev;simp! only [↓bh,↓ba];refine⟨_,_,dp (),dl (),?_⟩;rw [Pd rfl,vz]
    by_cases hm:z∈Z
    ·have k2:=k0' () (OM (λ h=>h hm));rw [OG hm];clear k1' k0' hm dp dl;ac_rfl
    ·have k2:=k1' () (OG hm);rw [OM hm];clear k1' k0' hm dp dl;ac_rfl
   intro D2 fs H2 hD2 e2 h2 al2;have hl2:=e2.at hl1;have e02:=e1.trans e2
   have hff:(Y.filter λ z=>decide (¬ z∈Z)).isEmpty=(Y.all λ z=>decide (z∈Z)):=by
    apply PZ.mpr;rw [List.isEmpty_iff,List.filter_eq_nil_iff,Qi];constructor
    ·intro h z hz;have:=h z hz;exact OG (Rx λ hn=>this (OG hn))
    ·intro h z hz hd;exact Pe hd (Pe (h z hz))
   exists al2;clear wk hD2 d0 hev al1 alZ1 hl1;ac_rfl;intro m3 H3 hm3 e3 h3;have h2_3:=e3.at h2;have hl3:=e3.at hl2;have al3:=(al2 ()).imp λ _ _ t=>PrV.ext t e3;have d3:=eS (H:=H3) (f:=cq H3 (cq H3 noD)) al3;have hev:=lB (Y.filter λ z=>decide (¬ z∈Z));rw [hff] at hev;generalize (Y.filter λ z=>decide (¬ z∈Z))=F at d3 hev;have e03:=e02.trans e3;clear hm3 h2 hl2 al2 al3 hff
   cases hz:(Y.all λ z=>decide (z∈Z)) with
   | false=>
    rw [hz] at hev;have hbf:yJ Z Y m=false:=by unfold yJ;rw [hz,Bool.false_and]
    rw [hbf] at kk;have k':=kk () H3 e03;clear kk hz hbf hbe;ac_rfl
   | true=>
    rw [hz] at hev;have hbt:yJ Z Y m=(List.range m).all (dR Y):=by unfold yJ;rw [hz,Bool.true_and]
    rw [hbt] at kk;clear hz hbt hbe;ac_rfl;refine⟨by omega,by omega,?_⟩;clear d3 hev h2_3 h3;refine dS (λ i σ H'=>∃ v3 v4:Option V,σ=[some (.ref l),some (.ref d),some (.int (m:Int)),v3,v4]/\Ext H H'/\∀ a < i,dR Y a=true) ⟨none,none,rfl,e03,λ a h=>absurd h (Rl _)⟩ ?_ ?_
    ·rintro i _ H4 hi ⟨v3,v4,rfl,e4,hok⟩;have him:i < m:=by have:i < ((m:Int)).toNat:=hi;omega
     have hl4:=e4.at hl;have al4:=(alY0 ()).imp λ _ _ t=>PrV.ext t e4;have wk:=gq (K:=K) (R:=λ z x H'=>PrV H' z x) (λ _ _ _ _ h e=>PrV.ext h e) hl4 al4;exists hok;clear hi;simp! only [↓ay];refine bK Y (λ _=>true) (λ z=>.int (bR z.1 z.2 i)) (λ z x H'=>PrV H' z x) wk.1 wk.2 (ag %[0|8]) ?_ ?_
     ·intro D z y H' N1 N0 hz hD e hy k1 _;obtain⟨q,u,v,rfl,hq,hu,hv⟩:=hy;have k1':N1 (.int (bR z.1 z.2 i)) H':=k1 rfl H' (Ext.refl _);have hzl:=hln () z hz;have a1:=fW (vals:=z.1) (c:=0+(i:Int)) %[0|8] %[0|8];have a2:=fW (vals:=z.2) (c:=0+(i:Int)) %[0|8] %[0|8];have ei:(0+(i:Int)).toNat=i:=by omega
      rw [ei] at a1 a2;unfold bR at k1';clear k1 wk hz kk;simp! only [↓bh,↓ba]
     intro D H5 hD e5 h5;rw [jX] at h5;have h5':H5 D=some (.lst ((Y.map λ z=>bR z.1 z.2 i).map V.int)):=by rw [h5,PF];rfl
     have hgl:0 < (Y.map λ z=>bR z.1 z.2 i).length:=by rw [OB];exact hyp
     have hbb:=λ (_:Unit) (M N:Int) (h1:ll (Y.map λ z=>bR z.1 z.2 i) M) (h2:oX (Y.map λ z=>bR z.1 z.2 i) N)=>Gd (a:=i) h1 h2;generalize (Y.map λ z=>bR z.1 z.2 i)=gs at h5' hgl hbb;have e45:=e4.trans e5;clear wk h5 hD al4 hl4;ac_rfl;rw [lp];refine⟨hgl,λ M hM hle=>?_⟩;ac_rfl;rw [oY];refine⟨hgl,λ N hN hge=>?_⟩;have hv:=hbb () M N ⟨hM,hle⟩ ⟨hN,hge⟩;clear hM hle hN hge hbb
     have fin:dR Y i=true->∀ a < i+1,dR Y a=true:=λ h a ha=>by
      by_cases e:a=i
      ·rw [e];exact h
      ·exact hok () a %[0|8]
     have bad:dR Y i=false->(List.range m).all (dR Y)=false:=λ h=>Sf.mpr ⟨i,Py.mpr him,by rw [h];decide⟩
     by_cases hm:M < 0
     ·by_cases hn:0 < N
      ·rw [OG hm,OG hn] at hv;have f2:=λ (_:Unit)=>fin hv;clear fin bad hv kk;ac_rfl;exact⟨_,_,rfl,e45,f2 ()⟩
      ·rw [OG hm,OM hn] at hv;rw [bad hv] at kk;have k':=kk () H5 e45;clear fin bad hv kk;ac_rfl
     ·by_cases hn:0 < N
      ·rw [OM hm,OG hn] at hv;rw [bad hv] at kk;have k':=kk () H5 e45;clear fin bad hv kk;ac_rfl
      ·rw [OM hm,OM hn] at hv;have f2:=λ (_:Unit)=>fin hv;clear fin bad hv kk;ac_rfl;exact⟨_,_,rfl,e45,f2 ()⟩
    ·rintro _ H4 ⟨v3,v4,rfl,e4,hok⟩;rw [OI] at hok;have hat:(List.range m).all (dR Y)=true:=Qi.mpr λ a ha=>hok a (Py.mp ha);rw [hat] at kk;have k':=kk () H4 e4;clear kk hok hat;ac_rfl
abbrev rN(K:PySem.W.Frag)(a:Addr)(ns:List Int)(p:Addr)(at':Int)(d:Addr)(H:Hp)(Q:VK)(E:XK):Prop:=p=a/\SqL K H a (ns.map V.int)/\ns.length<=63/\0<=at'/\at'<=60/\∃ (Z:List PP) (zs:List V),H d=some (.lst zs)/\Al (PrV H) Z zs/\Z.length<=60/\∀ (Y:List PP) (ys:List V) (r:Addr) (H':Hp),Ext H H'->H' r=some (.lst ys)->Al (PrV H') Y ys->Y.length<=5->(∀ y∈Y,y∈Z)->Q (.ref r) H'
def uy(K:W.Frag)(a:Addr)(ns:List Int):Sp:=λ vs H Q E=>∃ (p:Addr) (at':Int) (d:Addr),vs=[.ref p,.int at',.ref d]/\(rN K a ns p at' d H Q E)
theorem rH(K:W.Frag)(a:Addr)(ns:List Int)(p:Addr)(at':Int)(d:Addr)(H:Hp)(Q:VK)(E:XK):uy K a ns [.ref p,.int at',.ref d] H Q E=(rN K a ns p at' d H Q E):=uc (f:=λ (p:Addr) (at':Int) (d:Addr)=>[.ref p,.int at',.ref d]) (λ _ _ _ _ _ _ h=>by cases h;exact⟨rfl,rfl,rfl⟩) p at' d
theorem AA(K:W.Frag)(a:Addr)(ns:List Int){vs:List V}{H:Hp}{Q:VK}{E:XK}(h:uy K a ns vs H Q E):vs.length=3:=ud h λ _ _ _=>rfl
theorem oz(T:Tx K mg t)(a:Addr)(ns:List Int):bL P w K mg base CX0 2 t.a__law_some t.d__law_some ["_law_script", "_law_at", "_law_due"] (uy K a ns):=by
 have G__law_draw:=%[bY|41] a ns;refine T.F__law_some.ok gn (λ vs H Q E h=>AA _ _ _ h) (λ c A o s H vs Q E hr h=>?_)
 ·obtain⟨_,at',d,rfl,rfl,hS,hl,a0,a1,Z,zs,hd,alZ,hZl,kk⟩:=h;rename_i a;refine⟨_,%[%[3,gn,%[(@bw _)|16]|4],%[%[OV,rfl,%[∅,T.z_range,%[%[_law_draw,%[%[0|0],%[%[1|0],%[%[0|2]|1]|1]|1]|3]|1],∅|29],%[4,gn|5],%[%[%[(cS hr.units),%[2|0],%[(@bw _)|16],(ar _)|14],%[%[%[O4,Pu,Pt,b9,%[3|0],%[%[cp,%[2|0],%[_law_draw,%[%[0|0],%[%[aK,%[aK,%[1|0],%[0|2]|11],%[4|0]|11],%[%[len,au,%[%[2|0]|1]|6]|1]|1]|1]|3],(λ _ _=>rfl)|13]|1],∅,∅,∅,∅,∅|34],∅|27]|10],(@ak _)|17]|10],(by intros;rfl)|21],%[%[%[3|0]|12]|10]|9]|9],?_⟩;rw [show aA ["_law_script", "_law_at", "_law_due", "_law_found", "_law_k"] [.ref a,.int at',.ref d]=[some (.ref a),some (.int at'),some (.ref d),none,none] from rfl];clear G__law_draw;have hzl:=alZ.1;exists kk;exists alZ;exists hzl;ac_rfl;intro r H1 hr1 e1 h1;have hS1:=e1.2 K a _ hS;ac_rfl;rw [aB];refine⟨hS1,hl,⟨by omega,by omega⟩,by decide,λ c c0 c1=>?_⟩;clear hS1;ac_rfl;refine⟨by omega,by omega,?_⟩;refine dS (λ i σ H'=>∃ (Y:List PP) (ys:List V) (v4:Option V),σ=[some (.ref a),some (.int at'),some (.ref d),some (.ref r),v4]/\Ext H H'/\H' r=some (.lst ys)/\Al (PrV H') Y ys/\Y.length<=i/\∀ y∈Y,y∈Z) ⟨[],[],none,rfl,e1,h1,Al.nil,OC _,(λ y h=>by cases h)⟩ ?_ ?_
  ·rintro i _ H2 hi ⟨Y,ys,v4,rfl,e2,h2,alY,hYl,hYZ⟩;have hic:i < 5:=by have:i < c.toNat:=hi;omega
   have hd2:=e2.at hd;have hS2:=e2.2 K a _ hS;have alZ2:=λ (_:Unit)=>(alZ ()).imp λ _ _ t=>PrV.ext t e2;have hyl:ys.length < sizeLine:=eR (by rw [alY.1];omega);exists alY;exists hYZ;clear hi kk;simp! only [↓ay];intro m3 H3 hm3 e3 h3;have hd3:=e3.at hd2;have h2_3:=e3.at h2;have hS3:=e3.2 K a _ hS2;have e03:=e2.trans e3;have alZ3:=(alZ2 ()).imp λ _ _ t=>PrV.ext t e3;have alY3:=λ (_:Unit)=>(alY ()).imp λ _ _ t=>PrV.ext t e3;have d3:=eS (H:=H3) (f:=cq H3 (cq H3 noD)) alZ3;have hev:=lB Z;clear hm3 hd2 h2 hS2 alZ2 alY
   by_cases hZ:Z=[]
   ·have hZe:Z.isEmpty=true:=by rw [hZ];rfl
    rw [hZe] at hev;clear hZ hZe alZ3;ac_rfl;exact⟨Y,ys,_,rfl,e03,rfl,alY3 (),by omega,hYZ ()⟩
   ·have hZe:Z.isEmpty=false:=by cases Z with
     | nil=>exact absurd rfl hZ
     | cons _ _=>rfl
    have hzp:0 < Z.length:=QI.mpr hZ;rw [hZe] at hev;exists alZ3;clear hZ hZe;ac_rfl;clear d3 hev;rw [aB];refine⟨hS3,hl,⟨by omega,by omega⟩,by have:=hzl ();omega,λ c2 c20 c21=>?_⟩;obtain⟨j,rfl⟩:=OT c20;have hj:j < Z.length:=by have:=hzl ();omega
    obtain⟨z,hz⟩:∃ z,Z[j]? = some z:=⟨_,Ow hj⟩;obtain⟨y,hy⟩:∃ y,zs[j]? = some y:=⟨_,Ow (by rw [hzl ()];exact hj)⟩;have pz:=(alZ3 ()).2 j z y hz hy;have hat:atI zs (j:Int)=some y:=bU hy;have hzZ:=OX hz;have hr0:H r=none:=hr1
    have fin:∀ x∈Y++[z],x∈Z:=λ x hx=>by
     rcases OQ.mp hx with hx|hx
     ·exact hYZ () x hx
     ·rw [OE.mp hx];exact hzZ
    exists fin;exists pz;clear hz hy hzZ c20 c21;ac_rfl;exact⟨Y++[z],ys++[y],_,rfl,e03.put hr0,rfl,fX ((alY3 ()).imp λ _ _ t=>PrV.upd t h2_3) (PrV.upd (pz ()) h2_3),by rw [OR,PU];omega,fin ()⟩
  ·rintro _ H2 ⟨Y,ys,v4,rfl,e2,h2,alY,hYl,hYZ⟩;have k':=kk () Y ys r H2 e2 h2 alY %[0|8] hYZ;clear kk alY hYZ;ac_rfl
structure BJ(C:Addr)(ms:List Int)(Z:List PP)(H:Hp)(u v:Addr):Prop where
 ex:∃ (room f1 f2:Int) (A B:List (Int × Int)),aG C H u room f1 A/\aG C H v room f2 B/\fQ A/\fQ B/\(A.map λ a=>a.1)=ms/\(B.map λ a=>a.1)=ms/\ae ms<=60/\(ah f1 A).Nodup/\(aF (ah f1 A) (ah f2 B) (ah f2 B).length).map (oQ ms)=Z
theorem BJ.ext{C:Addr}{ms:List Int}{Z:List PP}{H H':Hp}{u v:Addr}(h:BJ C ms Z H u v)(e:Ext H H'):BJ C ms Z H' u v:=by
 obtain⟨room,f1,f2,A,B,h1,h2,h3⟩:=h.ex;exact⟨room,f1,f2,A,B,h1.ext e,h2.ext e,h3⟩
def Ce(C:Addr)(ms:List Int)(Z:List PP)(H:Hp)(l:Addr):Prop:=∃ t1 t2 u1 v1 u2 v2,H l=some (.lst [.ref t1,.ref t2])/\H t1=some (.tup [.ref u1,.ref v1])/\H t2=some (.tup [.ref u2,.ref v2])/\BJ C ms Z H u1 v1/\BJ C ms Z H u2 v2
theorem Ce.ext{C:Addr}{ms:List Int}{Z:List PP}{H H':Hp}{l:Addr}(h:Ce C ms Z H l)(e:Ext H H'):Ce C ms Z H' l:=by
 obtain⟨t1,t2,u1,v1,u2,v2,h1,h2,h3,h4,h5⟩:=h;exact⟨t1,t2,u1,v1,u2,v2,e.at h1,e.at h2,e.at h3,h4.ext e,h5.ext e⟩
def pD(C:Addr):Sp:=λ vs H Q E=>∃ (l:Addr) (x:V) (b:Bool),vs=[.ref l,x,.bl b]/\(∃ (ms:List Int) (Z:List PP),Ce C ms Z H l/\iS ms Z H x b/\∀ H',Ext H H'->Q (.bl true) H')
theorem cW(C:Addr)(l:Addr)(x:V)(b:Bool)(H:Hp)(Q:VK)(E:XK):pD C [.ref l,x,.bl b] H Q E=(∃ (ms:List Int) (Z:List PP),Ce C ms Z H l/\iS ms Z H x b/\∀ H',Ext H H'->Q (.bl true) H'):=uc (f:=λ (l:Addr) (x:V) (b:Bool)=>[.ref l,x,.bl b]) (λ _ _ _ _ _ _ h=>by cases h;exact⟨rfl,rfl,rfl⟩) l x b
theorem yb(C:Addr){vs:List V}{H:Hp}{Q:VK}{E:XK}(h:pD C vs H Q E):vs.length=3:=ud h λ _ _ _=>rfl
theorem gK(T:Tx K mg t):bL P w K mg base CX0 9 t.a__law_asked t.d__law_asked ["_law_two_here", "_law_some_here", "_law_due"] (pD t.a_View):=by
 have G_bars:=%[DT|41];refine T.F__law_asked.ok dq (λ vs H Q E h=>yb _ h) (λ c A o s H vs Q E hr h=>?_)
 ·obtain⟨l,x,b,rfl,ms,Z,⟨t1,t2,u1,v1,u2,v2,hl,ht1,ht2,w1,w2⟩,hbx,kk⟩:=h;refine⟨_,%[%[OV,rfl,%[%[0|0]|20],(%[(2),rfl,%[%[3,dq|5],%[%[4,dq|5],(@aT _),∅|18],∅|18],∅,∅|26].mono λ _ _ _ _ h=>cH h),%[%[5,dq,%[bars,%[%[3|0],%[%[4|0],%[%[1|0]|1]|1]|1]|3]|4],%[%[(PW.pt %[%[%[%[isinstance,cJ,%[%[5|0],%[(@eT _ _ (.ty "bool") (.type "bool") _ ∅ T.z_bool nofun rfl ⋯ ⋯)|1]|1]|6],(by intros;rfl)|28]|30],(@gv _ _ _ _ %[(cS hr.units),%[5|0],%[2|0],(ar _)|14])|36]),%[%[(@cN _ _ _ _)|12]|10],(@ak _)|17]|10]|9],(by intros;rfl)|21],%[%[(@cN _ _ _ _)|12]|10]|9],?_⟩;rw [show aA ["_law_two_here", "_law_some_here", "_law_due", "_law_one", "_law_other", "_law_found"] [.ref l,x,.bl b]=[some (.ref l),some (x),some (.bl b),none,none,none] from rfl];clear G_bars;exists kk;exists hbx;ac_rfl;refine cw (xs:=[.ref t1,.ref t2]) (λ i σ H'=>∃ v3 v4 v5:Option V,σ=[some (.ref l),some x,some (.bl b),v3,v4,v5]/\Ext H H') ⟨none,none,none,rfl,Ext.refl _⟩ (λ i σ H' _ ⟨_,_,_,_,e⟩=>e.at hl) ?_ ?_
  ·rintro i y _ H2 hi ⟨v3,v4,v5,rfl,e2⟩
   obtain⟨t',u,v,rfl,ht',tw⟩:∃ t' u v,y=.ref t'/\H2 t'=some (.tup [.ref u,.ref v])/\BJ t.a_View ms Z H2 u v:=by
    have:=OX hi;simp only [OU,OJ,O6] at this
    rcases this with rfl|rfl
    ·exact⟨t1,u1,v1,rfl,e2.at ht1,w1.ext e2⟩
    ·exact⟨t2,u2,v2,rfl,e2.at ht2,w2.ext e2⟩
   obtain⟨room,f1,f2,A,B,vu,vv,hA,hB,m1,m2,h60,hnd,hZ⟩:=tw.ex;exists hnd;exists hZ;exists m1;exists m2;clear hi kk;simp! only [↓ay];rw [BA];refine⟨room,f1,f2,A,B,ms,Z,b,vu,vv,hA,hB,m1 (),m2 (),h60,hnd (),hZ (),(hbx ()).ext e2,λ H3 e3=>?_⟩;clear hbx ht'
   cases b with
   | true=>
    ac_rfl;exact⟨_,_,_,rfl,e2.trans e3⟩
   | false=>
    ac_rfl;exact⟨_,_,_,rfl,e2.trans e3⟩
  ·rintro _ H2 ⟨v3,v4,v5,rfl,e2⟩;have k':=kk () H2 e2;clear kk;ac_rfl
theorem iK{xs:List V}{n:Int}{H:Hp}{Q:VK}(h0:0<=n)(h1:n < xs.length)(q:iF (.tup (xs.take n.toNat)) H Q):Kd none (some n) H Q xs:=by
 obtain⟨k,rfl⟩:=OT h0;refine⟨λ e=>?_,?_⟩
 ·have:=e.2;rw [HT.sIx_nat] at this;omega
 ·rw [lX xs _ h0];exact q
theorem iL{xs:List V}{n:Int}{H:Hp}{Q:VK}(h0:1<=n)(h1:n<=xs.length)(q:iF (.tup (xs.drop n.toNat)) H Q):Kd (some n) none H Q xs:=by
 obtain⟨k,rfl⟩:=OT (show 0<=n by omega);refine⟨λ e=>?_,?_⟩
 ·have:=e.1;rw [HT.sIx_nat] at this;omega
 ·rw [lW xs _ (show (0:Int)<=(k:Int) by omega)];exact q
theorem Oh{H:Hp}{q:Addr}{z ms:List Int}{k:Nat}{x:V}{n:Int}(hz:z.length=ms.length)(hm:ms[k]? = some n)(hq:H q=some (.tup ((z.map V.int).take k++[x]++(z.map V.int).drop (k+1))))(hw:(isW H x).isSome=true)(hb:cM x n=false):br H (.ref q)/\bu ms (.ref q) H=false:=by
 have hk:k < ms.length:=(Oy.mp hm).1;refine⟨pU hq λ y hy=>?_,wJ hq (i:=k) (x:=x) ?_ hm hb⟩
 ·rcases OQ.mp hy with hy|hy
  ·rcases OQ.mp hy with hy|hy
   ·obtain⟨i,_,rfl⟩:=OO.mp (PC hy);rfl
   ·rw [OE.mp hy];exact hw
  ·obtain⟨i,_,rfl⟩:=OO.mp (Qh hy);rfl
 ·have hl:((z.map V.int).take k).length=k:=by rw [O8,OB];omega
  rw [List.append_assoc,O7 %[0|8],hl,Nat.sub_self];rfl
def df(ms:List Int)(Z:List PP)(H:Hp)(ys:List V):Prop:=∀ y∈ys,KnT ms Z H y false
theorem df.ext{ms:List Int}{Z:List PP}{H H':Hp}{ys:List V}(h:df ms Z H ys)(e:Ext H H'):df ms Z H' ys:=λ y hy=>(h y hy).ext e
theorem df.app{ms:List Int}{Z:List PP}{H:Hp}{ys zs:List V}(h:df ms Z H ys)(h':df ms Z H zs):df ms Z H (ys++zs):=λ y hy=>by
 rcases OQ.mp hy with hy|hy
 ·exact h y hy
 ·exact h' y hy
theorem df.snoc{ms:List Int}{Z:List PP}{H:Hp}{ys:List V}{y:V}(h:df ms Z H ys)(h':KnT ms Z H y false):df ms Z H (ys++[y]):=h.app λ x hx=>by rw [OE.mp hx];exact h'
theorem df.nil{ms:List Int}{Z:List PP}{H:Hp}:df ms Z H []:=λ y hy=>by cases hy
theorem DV{ms:List Int}{Z:List PP}{H:Hp}{q:Addr}{xs:List V}(h:H q=some (.lst xs)):KnT ms Z H (.ref q) false:=.inr ⟨rfl,.inr (.inl ⟨q,xs,rfl,h⟩)⟩
theorem pH{ms:List Int}{Z:List PP}{H:Hp}{q:Addr}{xs:List V}(h:H q=some (.tup xs))(hl:¬ (xs.length:Int)=2):KnT ms Z H (.ref q) false:=.inr ⟨rfl,.inr (.inr (.inl ⟨q,xs,rfl,h,hl⟩))⟩
theorem fU{ms:List Int}{Z:List PP}{H:Hp}{q:Addr}{x1 x2:V}(h:H q=some (.tup [x1,x2]))(t1:br H x1)(t2:br H x2)(hp:bu ms x1 H=false\/bu ms x2 H=false):KnT ms Z H (.ref q) false:=.inr ⟨rfl,.inr (.inr (.inr ⟨q,x1,x2,rfl,h,t1,t2,hp⟩))⟩
theorem pG{ms:List Int}{Z:List PP}{H:Hp}{y:V}(h:CV y):KnT ms Z H y false:=.inr ⟨rfl,.inl h⟩
theorem zW{ms:List Int}{Z:List PP}{H:Hp}{q u:Addr}{x:List Int}(h:H q=some (.tup [.ref u,.ref u]))(hu:H u=some (.tup (x.map V.int)))(hx:InR ms x)(hne:∀ z∈Z,¬ z.1=z.2):KnT ms Z H (.ref q) false:=.inl ⟨q,(x,x),rfl,⟨u,u,h,hu,hu⟩,hx,hx,(OM λ hm=>hne _ hm rfl).symm⟩
abbrev jI  (q:Addr) (p:Addr) (c:Int) (H:Hp) (Q:VK) (E:XK):Prop:=∃ (ms:List Int) (z:PP) (Z:List PP),PKV H z q/\H p=some (.lst (ms.map V.int))/\eK ms/\InR ms z.1/\InR ms z.2/\(∀ z∈Z,¬ z.1=z.2)/\0<=c/\∀ (y:V) (H':Hp),Ext H H'->KnT ms Z H' y false->Q y H'
def jd  : Sp:=λ vs H Q E=>∃ (q:Addr) (p:Addr) (c:Int),vs=[.ref q,.ref p,.int c]/\(jI  q p c H Q E)
theorem qA  (q:Addr) (p:Addr) (c:Int) (H:Hp) (Q:VK) (E:XK):jd  [.ref q,.ref p,.int c] H Q E=(jI  q p c H Q E):=uc (f:=λ (q:Addr) (p:Addr) (c:Int)=>[.ref q,.ref p,.int c]) (λ _ _ _ _ _ _ h=>by cases h;exact⟨rfl,rfl,rfl⟩) q p c
theorem qt  {vs:List V}{H:Hp}{Q:VK}{E:XK}(h:jd  vs H Q E):vs.length=3:=ud h λ _ _ _=>rfl
theorem jN(T:Tx K mg t):bL P w K mg base CX0 1 t.a__law_strange t.d__law_strange ["_law_pair", "_law_sizes_here", "_law_cell"] jd:=by
 refine T.F__law_strange.ok aY (λ vs H Q E h=>qt h) (λ c A o s H vs Q E hr h=>?_)
 ·obtain⟨q,p,c,rfl,ms,z,Z,⟨u,v,hq,hu,hv⟩,hp,hsz,i1,i2,hne,c0,kk⟩:=h;refine⟨_,%[(@uO _ _ _ _ _ _ %[0|0] (%[(2),rfl,%[%[3,aY|5],%[%[4,aY|5],(@aT _),∅|18],∅|18],∅,∅|26].mono λ _ _ _ _ h=>cH h) ∅ ∅ ∅),%[%[5,aY,%[%[%[%[%[3|0],%[%[4|0]|1]|1]|16],%[%[%[%[3|0],%[%[4|0],%[%[3|0]|1]|1]|1]|19],%[%[%[%[3|0]|1]|19],%[(@iq _ _ _),%[%[0|2],%[(@mX _ _ _ _),%[%[%[%[fC,∅,T.z_list,nofun,%[%[3|0]|1],⋯,⋯,∅,∅|38],%[%[4|0]|1]|1]|19],%[%[%[%[3|0],%[%[cC,%[3|0],%[%[%[0|2]|1]|19]|11]|1]|1]|19],%[%[%[%[3|0],%[(@iq _ _ _)|1]|1]|19],%[%[%[%[3|0],%[%[3|0]|1]|1]|19],%[%[%[%[4|0],%[%[4|0],%[%[0|2]|1]|1]|1]|19]|1]|1]|1]|1]|1]|1]|1]|1]|1]|1]|1]|16]|4],%[%[OV,rfl,%[∅,T.z_range,%[%[len,au,%[%[1|0]|1]|6]|1],∅|29],%[6,aY|5],%[%[5,aY,%[bJ,%[5|0],%[%[%[%[%[cC,%[cC,%[mP,%[3|0],(@aQ _),%[%[6|0]|22]|24],%[%[%[cp,%[1|0],%[6|0],(λ _ _=>rfl)|13]|1]|19]|11],%[mP,%[3|0],%[%[aK,%[6|0],%[0|2]|11]|22],(@aQ _)|24]|11],%[%[4|0]|1]|1]|19],%[%[%[%[3|0],%[%[cC,%[cC,%[mP,%[4|0],(@aQ _),%[%[6|0]|22]|24],%[%[(@cN _ _ _ _)|1]|19]|11],%[mP,%[4|0],%[%[aK,%[6|0],%[0|2]|11]|22],(@aQ _)|24]|11]|1]|1]|19]|1]|1]|16]|11]|4],%[%[5,aY,%[bJ,%[5|0],%[%[%[%[%[3|0],%[%[cC,%[cC,%[mP,%[4|0],(@aQ _),%[%[6|0]|22]|24],%[%[(@oU _ _ _ _ _ _ fT %[0|2])|1]|19]|11],%[mP,%[4|0],%[%[aK,%[6|0],%[0|2]|11]|22],(@aQ _)|24]|11]|1]|1]|19],%[%[%[%[cC,%[cC,%[mP,%[3|0],(@aQ _),%[%[6|0]|22]|24],%[%[(@cN _ _ _ _)|1]|19]|11],%[mP,%[3|0],%[%[aK,%[6|0],%[0|2]|11]|22],(@aQ _)|24]|11],%[%[4|0]|1]|1]|19]|1]|1]|16]|11]|4]|10]|9],(by intros;rfl)|21],%[%[%[cp,%[5|0],%[iV,%[2|0],%[len,au,%[%[5|0]|1]|6]|11],(λ _ _=>rfl)|13]|12]|10]|9]|9]|9],?_⟩;rw [show aA ["_law_pair", "_law_sizes_here", "_law_cell", "_law_i", "_law_j", "_law_some_here", "_law_k"] [.ref q,.ref p,.int c]=[some (.ref q),some (.ref p),some (.int c),none,none,none,none] from rfl];obtain⟨z1,z2⟩:=z;replace hu:H u=some (.tup (z1.map V.int)):=hu;replace hv:H v=some (.tup (z2.map V.int)):=hv;replace i1:InR ms z1:=i1;replace i2:InR ms z2:=i2;have l1:z1.length=ms.length:=i1.len;have l2:z2.length=ms.length:=i2.len;have h8:=hsz.1;exists kk;exists hne;exists i1;exists i2;exists hsz;ac_rfl;intro o1 H1 ho1 e1 h1;have hu1:=e1.at hu;have hv1:=e1.at hv;have L1:df ms Z H1 [.ref o1]:=df.nil.snoc (DV h1);exists L1;clear ho1 h1;ac_rfl;intro o2 H2 ho2 e2 h2;have hu2:=e2.at hu1;have hv2:=e2.at hv1;have E2:=e1.trans e2;have L2:=λ (_:Unit)=>((L1 ()).ext e2).snoc (pH h2 (show ¬ ((3:Nat):Int)=2 by decide));clear ho2 e2 e1 h2 hu1 hv1 L1;ac_rfl;intro o3 H3 ho3 e3 h3;have hu3:=e3.at hu2;have hv3:=e3.at hv2;have E3:=E2.trans e3;have L3:=λ (_:Unit)=>((L2 ()).ext e3).snoc (pH h3 (show ¬ ((1:Nat):Int)=2 by decide));clear ho3 e3 E2 h3 hu2 hv2 L2;ac_rfl;intro o4 H4 ho4 e4 h4;have hu4:=e4.at hu3;have hv4:=e4.at hv3;have E4:=E3.trans e4;have L4:=λ (_:Unit)=>((L3 ()).ext e4);replace L4:=λ (_:Unit)=>(((L4 ()).snoc (pG (.inl rfl))).snoc (pG (y:=.int 7) (.inr (.inl ⟨7,rfl⟩)))).snoc (pG (y:=.str "pair") (.inr (.inr ⟨_,rfl⟩)));clear ho4 e4 E3 hu3 hv3 L3;ac_rfl;intro o5 H5 ho5 e5 h5;have hu5:=e5.at hu4;have hv5:=e5.at hv4;have E5:=E4.trans e5;have L5:=λ (_:Unit)=>((L4 ()).ext e5).snoc (fU h5 (pV (e5.at h4) (by rw [fj,e5.at h4];rfl) (λ xs e=>by cases e)) (aI hv5) (.inl (wI (e5.at h4) (λ xs e=>by cases e))));clear ho5 e5 E4 h5 h4 hu4 hv4 L4;ac_rfl;intro o6 H6 ho6 e6 h6;have hu6:=e6.at hu5;have hv6:=e6.at hv5;have E6:=E5.trans e6;have L6:=λ (_:Unit)=>((L5 ()).ext e6);clear ho6 e6 E5 hu5 hv5 L5;ac_rfl;rw [fE];refine⟨ag (by rw [OB];simp;omega),λ o7 H7 e7 h7=>?_⟩;have h7':H7 o7=some (.tup ((z1++[0]).map V.int)):=by rw [h7,Pz];rfl
  have hu7:=e7.at hu6;have hv7:=e7.at hv6;have E7:=E6.trans e7;have L7:=λ (_:Unit)=>(L6 ()).ext e7;clear h6 h7 hu6 hv6 L6 e7 E6;ac_rfl;intro o8 H8 ho8 e8 h8';have hu8:=e8.at hu7;have hv8:=e8.at hv7;have E8:=E7.trans e8;have L8:=λ (_:Unit)=>((L7 ()).ext e8).snoc (fU h8' (aI hu8) (aI (e8.at h7')) (.inr (sL (e8.at h7') (by rw [OB,OR];simp;omega))));clear ho8 e8 E7 h8' h7' hu7 hv7 L7;ac_rfl;intro o9 H9 ho9 e9 h9;have hu9:=e9.at hu8;have hv9:=e9.at hv8;have E9:=E8.trans e9;have L9:=λ (_:Unit)=>((L8 ()).ext e9).snoc (fU h9 (aI hu9) (sD rfl (λ q e=>by cases e)) (.inr rfl));clear ho9 e9 E8 h9 hu8 hv8 L8;ac_rfl;intro o10 H10 ho10 e10 h10;have hu10:=e10.at hu9;have hv10:=e10.at hv9;have E10:=E9.trans e10;have L10:=λ (_:Unit)=>((L9 ()).ext e10).snoc (zW h10 hu10 (i1 ()) (hne ()));clear ho10 e10 E9 h10 hu9 hv9 L9;ac_rfl;intro o11 H11 ho11 e11 h11;have hu11:=e11.at hu10;have hv11:=e11.at hv10;have E11:=E10.trans e11;have L11:=λ (_:Unit)=>((L10 ()).ext e11).snoc (pH h11 (show ¬ ((3:Nat):Int)=2 by decide));clear ho11 e11 E10 h11 hu10 hv10 L10;ac_rfl;intro o12 H12 ho12 e12 h12;have hu12:=e12.at hu11;have hv12:=e12.at hv11;have E12:=E11.trans e12;have L12:=λ (_:Unit)=>((L11 ()).ext e12);have h12':∃ xs,H12 o12=some (.lst xs)/\xs.length=11/\df ms Z H12 xs:=⟨_,h12,rfl,L12 ()⟩;have hp12:=E12.at hp;have hpl:(ms.length:Int) < 100:=by omega
  clear ho12 h12 hu11 hv11 L11 L12 e12 E11;obtain⟨xs0,h12,hx0,L12⟩:=h12';ac_rfl;refine⟨by omega,by omega,?_⟩;refine dS (λ i σ H'=>∃ (r:Addr) (xs:List V) (v6:Option V),σ=[some (.ref q),some (.ref p),some (.int c),some (.ref u),some (.ref v),some (.ref r),v6]/\Ext H H'/\H' r=some (.lst xs)/\xs.length=11+4 * i/\df ms Z H' xs) ⟨o12,xs0,none,rfl,E12,h12,hx0,L12⟩ ?_ ?_
  ·rintro i _ G0 hi ⟨r,xs,v6,rfl,F0,hr0,hxl,M0⟩;have him:i < ms.length:=by have:i < ((ms.length:Int)).toNat:=hi;omega
   obtain⟨sz,hsz'⟩:∃ sz,ms[i]? = some sz:=⟨_,Ow him⟩;have hat:atI (ms.map V.int) (0+(i:Int))=some (.int sz):=by rw [Po];exact bU (by rw [OL,hsz'];rfl)
   have t0:(0+(i:Int)).toNat=i:=by omega
   have t1:(0+(i:Int)+1).toNat=i+1:=by omega
   have bz:cM (.int sz) sz=false:=by show (decide (0<=sz) && decide (sz < sz))=false;rw [OM (Int.lt_irrefl _),Bool.and_false]
   have bn:cM (.int (-1)) sz=false:=rfl;exists t0;exists t1;exists bz;exists bn;exists hsz';exists hxl;have u0:=F0.at hu;have v0:=F0.at hv;have p0:=F0.at hp;have r0:=hr0;exists M0;have N0:Unit->df ms Z G0 []:=λ (_:Unit)=>df.nil;clear hi kk hu hv hp hr0 h12 hp12 hu12 hv12 L12 E12 hq hsz i1 i2 hne;simp! only [↓ay];have hc0:xs.length+2<=sizeLine:=ag (by have:=hxl ();omega);have hc1:xs.length+2+2<=sizeLine:=ag (by have:=hxl ();omega);refine iK %[0|8] (by rw [OB];omega) ?_;rw [t0 ()];intro a1 G1 xa1 f1 g1;have u1:=f1.at u0;have v1:=f1.at v0;have p1:=f1.at p0;have r1:=f1.at r0;have F1:=F0.trans f1;have M1:=λ (_:Unit)=>(M0 ()).ext f1;have N1:=λ (_:Unit)=>(N0 ()).ext f1;clear u0 v0 p0 r0 F0 M0 N0 xa1 f1;ac_rfl;intro b1 G2 xb1 f2 g2;have u2:=f2.at u1;have v2:=f2.at v1;have p2:=f2.at p1;have r2:=f2.at r1;have F2:=F1.trans f2;have M2:=λ (_:Unit)=>(M1 ()).ext f2;have N2:=λ (_:Unit)=>(N1 ()).ext f2;have A1_2:=f2.at g1;clear u1 v1 p1 r1 F1 M1 N1 g1 xb1 f2;ac_rfl;rw [fE];refine⟨ag (by simp;omega),λ c1 G3 f3 g3=>?_⟩;have u3:=f3.at u2;have v3:=f3.at v2;have p3:=f3.at p2;have r3:=f3.at r2;have F3:=F2.trans f3;have M3:=λ (_:Unit)=>(M2 ()).ext f3;have N3:=λ (_:Unit)=>(N2 ()).ext f3;clear u2 v2 p2 r2 F2 M2 N2 f3;clear A1_2 g2;ac_rfl;refine iL %[0|8] (by rw [OB];omega) ?_;rw [t1 ()];intro d1 G4 xd1 f4 g4;have u4:=f4.at u3;have v4:=f4.at v3;have p4:=f4.at p3;have r4:=f4.at r3;have F4:=F3.trans f4;have M4:=λ (_:Unit)=>(M3 ()).ext f4;have N4:=λ (_:Unit)=>(N3 ()).ext f4;have C1_4:=f4.at g3;clear u3 v3 p3 r3 F3 M3 N3 g3 xd1 f4;ac_rfl;rw [fE];refine⟨ag (by simp;omega),λ e1 G5 f5 g5=>?_⟩;have u5:=f5.at u4;have v5:=f5.at v4;have p5:=f5.at p4;have r5:=f5.at r4;have F5:=F4.trans f5;have M5:=λ (_:Unit)=>(M4 ()).ext f5;have N5:=λ (_:Unit)=>(N4 ()).ext f5;clear u4 v4 p4 r4 F4 M4 N4 f5;clear C1_4 g4;have Q1:=λ (_:Unit)=>PH.Oh l1 (hsz' ()) g5 rfl (bz ());clear g5;ac_rfl;intro w1 G6 xw1 f6 g6;have u6:=f6.at u5;have v6:=f6.at v5;have p6:=f6.at p5;have r6:=f6.at r5;have F6:=F5.trans f6;have M6:=λ (_:Unit)=>(M5 ()).ext f6;have N6:=λ (_:Unit)=>(N5 ()).ext f6;have Q1_6:=λ (_:Unit)=>(⟨(Q1 ()).1.ext f6,by rw [cy f6 (Q1 ()).1.1];exact(Q1 ()).2⟩:br G6 _/\bu ms _ G6=false);clear u5 v5 p5 r5 F5 M5 N5 Q1 xw1 f6;replace N6:=λ (_:Unit)=>(N6 ()).snoc (fU g6 (Q1_6 ()).1 (aI v6) (.inl (Q1_6 ()).2));clear g6 Q1_6;ac_rfl;refine iK %[0|8] (by rw [OB];omega) ?_;rw [t0 ()];intro a2 G7 xa2 f7 g7;have u7:=f7.at u6;have v7:=f7.at v6;have p7:=f7.at p6;have r7:=f7.at r6;have F7:=F6.trans f7;have M7:=λ (_:Unit)=>(M6 ()).ext f7;have N7:=λ (_:Unit)=>(N6 ()).ext f7;clear u6 v6 p6 r6 F6 M6 N6 xa2 f7;ac_rfl;intro b2 G8 xb2 f8 g8;have u8:=f8.at u7;have v8:=f8.at v7;have p8:=f8.at p7;have r8:=f8.at r7;have F8:=F7.trans f8;have M8:=λ (_:Unit)=>(M7 ()).ext f8;have N8:=λ (_:Unit)=>(N7 ()).ext f8;have A2_8:=f8.at g7;clear u7 v7 p7 r7 F7 M7 N7 g7 xb2 f8;ac_rfl;rw [fE];refine⟨ag (by simp;omega),λ c2 G9 f9 g9=>?_⟩;have u9:=f9.at u8;have v9:=f9.at v8;have p9:=f9.at p8;have r9:=f9.at r8;have F9:=F8.trans f9;have M9:=λ (_:Unit)=>(M8 ()).ext f9;have N9:=λ (_:Unit)=>(N8 ()).ext f9;clear u8 v8 p8 r8 F8 M8 N8 f9;clear A2_8 g8;ac_rfl;refine iL %[0|8] (by rw [OB];omega) ?_;rw [t1 ()];intro d2 G10 xd2 f10 g10;have u10:=f10.at u9;have v10:=f10.at v9;have p10:=f10.at p9;have r10:=f10.at r9;have F10:=F9.trans f10;have M10:=λ (_:Unit)=>(M9 ()).ext f10;have N10:=λ (_:Unit)=>(N9 ()).ext f10;have C2_10:=f10.at g9;clear u9 v9 p9 r9 F9 M9 N9 g9 xd2 f10;ac_rfl;rw [fE];refine⟨ag (by simp;omega),λ e2 G11 f11 g11=>?_⟩;have u11:=f11.at u10;have v11:=f11.at v10;have p11:=f11.at p10;have r11:=f11.at r10;have F11:=F10.trans f11;have M11:=λ (_:Unit)=>(M10 ()).ext f11;have N11:=λ (_:Unit)=>(N10 ()).ext f11;clear u10 v10 p10 r10 F10 M10 N10 f11;clear C2_10 g10;have Q2:=λ (_:Unit)=>PH.Oh l2 (hsz' ()) g11 rfl (rfl);clear g11;ac_rfl;intro w2 G12 xw2 f12 g12;have u12:=f12.at u11;have v12:=f12.at v11;have p12:=f12.at p11;have r12:=f12.at r11;have F12:=F11.trans f12;have M12:=λ (_:Unit)=>(M11 ()).ext f12;have N12:=λ (_:Unit)=>(N11 ()).ext f12;have Q2_12:=λ (_:Unit)=>(⟨(Q2 ()).1.ext f12,by rw [cy f12 (Q2 ()).1.1];exact(Q2 ()).2⟩:br G12 _/\bu ms _ G12=false);clear u11 v11 p11 r11 F11 M11 N11 Q2 xw2 f12;replace N12:=λ (_:Unit)=>(N12 ()).snoc (fU g12 (aI u12) (Q2_12 ()).1 (.inr (Q2_12 ()).2));clear g12 Q2_12;ac_rfl;intro y1 G13 xy1 f13 g13;have u13:=f13.at u12;have v13:=f13.at v12;have p13:=f13.at p12;have r13:=f13.at r12;have F13:=F12.trans f13;have M13:=λ (_:Unit)=>(M12 ()).ext f13;have N13:=λ (_:Unit)=>(N12 ()).ext f13;clear u12 v12 p12 r12 F12 M12 N12 xy1 f13;ac_rfl;intro s1 G14 xs1 f14 g14;have u14:=f14.at u13;have v14:=f14.at v13;have p14:=f14.at p13;have F14:=F13.trans f14;have M14:=λ (_:Unit)=>((M13 ()).app (N13 ())).ext f14;clear u13 v13 p13 r13 F13 M13 N13 xs1 g13 f14;have r14:=g14;have N14:Unit->df ms Z G14 []:=λ (_:Unit)=>df.nil;clear g14;ac_rfl;refine iK %[0|8] (by rw [OB];omega) ?_;rw [t0 ()];intro a3 G15 xa3 f15 g15;have u15:=f15.at u14;have v15:=f15.at v14;have p15:=f15.at p14;have r15:=f15.at r14;have F15:=F14.trans f15;have M15:=λ (_:Unit)=>(M14 ()).ext f15;have N15:=λ (_:Unit)=>(N14 ()).ext f15;clear u14 v14 p14 r14 F14 M14 N14 xa3 f15;ac_rfl;intro b3 G16 xb3 f16 g16;have u16:=f16.at u15;have v16:=f16.at v15;have p16:=f16.at p15;have r16:=f16.at r15;have F16:=F15.trans f16;have M16:=λ (_:Unit)=>(M15 ()).ext f16;have N16:=λ (_:Unit)=>(N15 ()).ext f16;have A3_16:=f16.at g15;clear u15 v15 p15 r15 F15 M15 N15 g15 xb3 f16;ac_rfl;rw [fE];refine⟨ag (by simp;omega),λ c3 G17 f17 g17=>?_⟩;have u17:=f17.at u16;have v17:=f17.at v16;have p17:=f17.at p16;have r17:=f17.at r16;have F17:=F16.trans f17;have M17:=λ (_:Unit)=>(M16 ()).ext f17;have N17:=λ (_:Unit)=>(N16 ()).ext f17;clear u16 v16 p16 r16 F16 M16 N16 f17;clear A3_16 g16;ac_rfl;refine iL %[0|8] (by rw [OB];omega) ?_;rw [t1 ()];intro d3 G18 xd3 f18 g18;have u18:=f18.at u17;have v18:=f18.at v17;have p18:=f18.at p17;have r18:=f18.at r17;have F18:=F17.trans f18;have M18:=λ (_:Unit)=>(M17 ()).ext f18;have N18:=λ (_:Unit)=>(N17 ()).ext f18;have C3_18:=f18.at g17;clear u17 v17 p17 r17 F17 M17 N17 g17 xd3 f18;ac_rfl;rw [fE];refine⟨ag (by simp;omega),λ e3 G19 f19 g19=>?_⟩;have u19:=f19.at u18;have v19:=f19.at v18;have p19:=f19.at p18;have r19:=f19.at r18;have F19:=F18.trans f19;have M19:=λ (_:Unit)=>(M18 ()).ext f19;have N19:=λ (_:Unit)=>(N18 ()).ext f19;clear u18 v18 p18 r18 F18 M18 N18 f19;clear C3_18 g18;have Q3:=λ (_:Unit)=>PH.Oh l2 (hsz' ()) g19 rfl (bn ());clear g19;ac_rfl;intro w3 G20 xw3 f20 g20;have u20:=f20.at u19;have v20:=f20.at v19;have p20:=f20.at p19;have r20:=f20.at r19;have F20:=F19.trans f20;have M20:=λ (_:Unit)=>(M19 ()).ext f20;have N20:=λ (_:Unit)=>(N19 ()).ext f20;have Q3_20:=λ (_:Unit)=>(⟨(Q3 ()).1.ext f20,by rw [cy f20 (Q3 ()).1.1];exact(Q3 ()).2⟩:br G20 _/\bu ms _ G20=false);clear u19 v19 p19 r19 F19 M19 N19 Q3 xw3 f20;replace N20:=λ (_:Unit)=>(N20 ()).snoc (fU g20 (aI u20) (Q3_20 ()).1 (.inr (Q3_20 ()).2));clear g20 Q3_20;ac_rfl;refine iK %[0|8] (by rw [OB];omega) ?_;rw [t0 ()];intro a4 G21 xa4 f21 g21;have u21:=f21.at u20;have v21:=f21.at v20;have p21:=f21.at p20;have r21:=f21.at r20;have F21:=F20.trans f21;have M21:=λ (_:Unit)=>(M20 ()).ext f21;have N21:=λ (_:Unit)=>(N20 ()).ext f21;clear u20 v20 p20 r20 F20 M20 N20 xa4 f21;ac_rfl;intro b4 G22 xb4 f22 g22;have u22:=f22.at u21;have v22:=f22.at v21;have p22:=f22.at p21;have r22:=f22.at r21;have F22:=F21.trans f22;have M22:=λ (_:Unit)=>(M21 ()).ext f22;have N22:=λ (_:Unit)=>(N21 ()).ext f22;have A4_22:=f22.at g21;clear u21 v21 p21 r21 F21 M21 N21 g21 xb4 f22;ac_rfl;rw [fE];refine⟨ag (by simp;omega),λ c4 G23 f23 g23=>?_⟩;have u23:=f23.at u22;have v23:=f23.at v22;have p23:=f23.at p22;have r23:=f23.at r22;have F23:=F22.trans f23;have M23:=λ (_:Unit)=>(M22 ()).ext f23;have N23:=λ (_:Unit)=>(N22 ()).ext f23;clear u22 v22 p22 r22 F22 M22 N22 f23;clear A4_22 g22;ac_rfl;refine iL %[0|8] (by rw [OB];omega) ?_;rw [t1 ()];intro d4 G24 xd4 f24 g24;have u24:=f24.at u23;have v24:=f24.at v23;have p24:=f24.at p23;have r24:=f24.at r23;have F24:=F23.trans f24;have M24:=λ (_:Unit)=>(M23 ()).ext f24;have N24:=λ (_:Unit)=>(N23 ()).ext f24;have C4_24:=f24.at g23;clear u23 v23 p23 r23 F23 M23 N23 g23 xd4 f24;ac_rfl;rw [fE];refine⟨ag (by simp;omega),λ e4 G25 f25 g25=>?_⟩;have u25:=f25.at u24;have v25:=f25.at v24;have p25:=f25.at p24;have r25:=f25.at r24;have F25:=F24.trans f25;have M25:=λ (_:Unit)=>(M24 ()).ext f25;have N25:=λ (_:Unit)=>(N24 ()).ext f25;clear u24 v24 p24 r24 F24 M24 N24 f25;clear C4_24 g24;have Q4:=λ (_:Unit)=>PH.Oh l1 (hsz' ()) g25 rfl (rfl);clear g25;ac_rfl;intro w4 G26 xw4 f26 g26;have u26:=f26.at u25;have v26:=f26.at v25;have p26:=f26.at p25;have r26:=f26.at r25;have F26:=F25.trans f26;have M26:=λ (_:Unit)=>(M25 ()).ext f26;have N26:=λ (_:Unit)=>(N25 ()).ext f26;have Q4_26:=λ (_:Unit)=>(⟨(Q4 ()).1.ext f26,by rw [cy f26 (Q4 ()).1.1];exact(Q4 ()).2⟩:br G26 _/\bu ms _ G26=false);clear u25 v25 p25 r25 F25 M25 N25 Q4 xw4 f26;replace N26:=λ (_:Unit)=>(N26 ()).snoc (fU g26 (Q4_26 ()).1 (aI v26) (.inl (Q4_26 ()).2));clear g26 Q4_26;ac_rfl;intro y2 G27 xy2 f27 g27;have u27:=f27.at u26;have v27:=f27.at v26;have p27:=f27.at p26;have r27:=f27.at r26;have F27:=F26.trans f27;have M27:=λ (_:Unit)=>(M26 ()).ext f27;have N27:=λ (_:Unit)=>(N26 ()).ext f27;clear u26 v26 p26 r26 F26 M26 N26 xy2 f27;ac_rfl;refine⟨ag (by have:=hxl ();simp;omega),?_⟩;intro s2 G28 xs2 f28 g28;have u28:=f28.at u27;have v28:=f28.at v27;have p28:=f28.at p27;have F28:=F27.trans f28;have M28:=λ (_:Unit)=>((M27 ()).app (N27 ())).ext f28;clear u27 v27 p27 r27 F27 M27 N27 xs2 g27 f28;have r28:=g28;have N28:Unit->df ms Z G28 []:=λ (_:Unit)=>df.nil;clear g28;ac_rfl;exact⟨s2,_,_,rfl,F28,r28,by have:=hxl ();simp;omega,M28 ()⟩
  ·rintro _ G0 ⟨r,xs,v6,rfl,F0,hr0,hxl,M0⟩;rw [OI] at hxl;have k':=kk ();have hm0:=Px c (show ((xs.length:Nat):Int) ≠ 0 by omega);have hm1:=Pl c (show 0 < ((xs.length:Nat):Int) by omega);have hxp:0 < ((xs.length:Nat):Int):=by omega
   exists M0;exists hxl;clear kk h12 hp12 hu12 hv12 L12;ac_rfl;refine wV (λ y=>KnT ms Z G0 y false) hm0 hm1 (M0 ()) λ y hy=>?_;have k2:=k' y G0 F0 hy;clear k' hy;ac_rfl
theorem iT.both{L Y:List PP}{n:Nat}(h:iT L Y n)(hno:ky n L):∀ a:Nat,a < n->CY Y a:=λ a ha=>by
 obtain⟨h1,h2⟩:=h.2 a ha
 rcases hno a ha with h0|⟨hn,hp⟩
 ·exact .inl λ y hy=>h0 y (h.1 y hy)
 ·exact .inr ⟨h2 hn,h1 hp⟩
theorem iT.some{L Y:List PP}{n:Nat}(h:iT L Y n)(hl:yL n L)(hne:¬ L=[])(hd:∀ z∈L,¬ z.1=z.2):¬ Y=[]:=λ e=>by
 obtain⟨z,hz⟩:∃ z,z∈L:=by
  cases L with
  | nil=>exact absurd rfl hne
  | cons a r=>exact⟨a,ON⟩
 refine hd z hz (List.ext_getElem (by rw [(hl z hz).1,(hl z hz).2]) λ a ha hb=>?_);have han:a < n:=by rw [←(hl z hz).1];exact ha
 have hg:bR z.1 z.2 a=z.1[a] - z.2[a]:=by
  unfold bR;rw [List.getD_eq_getElem?_getD,List.getD_eq_getElem?_getD,getElem?_eq_getElem ha,getElem?_eq_getElem hb];rfl
 obtain⟨h1,h2⟩:=h.2 a han;apply Rx;intro hneq
 rcases Int.lt_trichotomy (bR z.1 z.2 a) 0 with hlt|heq|hgt
 ·obtain⟨y,hy,_⟩:=h2 ⟨z,hz,hlt⟩;rw [e] at hy;cases hy
 ·omega
 ·obtain⟨y,hy,_⟩:=h1 ⟨z,hz,hgt⟩;rw [e] at hy;cases hy
theorem zU{ms ws rs:List Int}(hs:∀ n∈ms,1<=n/\n<=1000000000)(hw:(ws.length:Int)=ae ms)(hr:(rs.length:Int)=ae ms)(hnd:ws.Nodup):∀ z∈(aF ws rs rs.length).map (oQ ms),¬ z.1=z.2/\InR ms z.1/\InR ms z.2:=λ z hz=>by
 obtain⟨⟨i,j⟩,hp,rfl⟩:=OO.mp hz;obtain⟨hj,c,hcj,hci,hri⟩:=(xb hnd).mp hp;have hil:i < ws.length:=(Oy.mp hci).1;refine⟨λ e=>?_,InR.split ms i hs,InR.split ms j hs⟩;have e':ao ms (i:Int)=ao ms (j:Int):=e;have:=ni (λ n hn=>(hs n hn).1) %[0|8] %[0|8] %[0|8] %[0|8] e';have hij:i=j:=by omega
 rw [hij] at hri;exact hri hcj
theorem iO{ms:List Int}{Z Y:List PP}{H:Hp}{q:Addr}{ys:List V}(h:H q=some (.lst ys))(al:Al (PrV H) Y ys)(hl:Y.length<=100)(hin:∀ z∈Y,InR ms z.1/\InR ms z.2):iS ms Z H (.ref q) (Cd Z Y ms.length):=by
 cases Y with
 | nil=>
  have:ys=[]:=Pq al.1;subst this;exact .inl ⟨rfl,.inr ⟨q,rfl,.inr (.inr h)⟩⟩
 | cons z Y=>
  refine .inr ⟨q,ys,rfl,h,by rw [al.1,length_cons];omega,by rw [al.1];exact hl,.inl ⟨z::Y,al,hin,?_⟩⟩;unfold Cd;rfl
theorem yD{Z L Y:List PP}{n:Nat}(hb:iT L Y n)(hno:ky n L)(hsub:∀ z∈L,z∈Z)(hY:¬ Y=[]):Cd Z Y n=true:=by
 have hbw:=hb.both hno;unfold Cd yJ
 have h1:Y.isEmpty=false:=by cases Y with
  | nil=>exact absurd rfl hY
  | cons _ _=>rfl
 rw [h1,Qi.mpr λ z hz=>OG (hsub z (hb.1 z hz)),Qi.mpr λ a ha=>?_]
 ·rfl
 ·unfold dR;rw [Bool.or_eq_true,Bool.and_eq_true,all_eq_true,any_eq_true,any_eq_true]
  rcases hbw a (Py.mp ha) with h|⟨⟨z,hz,hg⟩,y,hy,hg'⟩
  ·exact .inl λ z hz=>OG (h z hz)
  ·exact .inr ⟨⟨z,hz,OG hg⟩,y,hy,OG hg'⟩
theorem FW(xs:List V)(k:Nat)(h:k < xs.length):jU xs (some (k:Int)) (some ((k:Int)+1))=(xs.drop k).take 1:=by
 unfold jU;rw [show ((k:Int)+1)=((k+1:Nat):Int) by omega,HT.sIx_nat,HT.sIx_nat,Nat.min_eq_left %[0|8],Nat.min_eq_left %[0|8],show k+1 - k=1 by omega]
theorem vX{α:Type}{R:α->V->Prop}{zs:List α}{ys:List V}(h:Al R zs ys)(n:Nat):Al R (zs.drop n) (ys.drop n):=by
 refine⟨by rw [P0,P0,h.1],λ i z y hz hy=>?_⟩;rw [List.getElem?_drop] at hz hy;exact h.2 _ z y hz hy
def PrL(Y:List PP)(H:Hp)(y:V):Prop:=∃ (q:Addr) (Y':List PP) (ys:List V),y=.ref q/\H q=some (.lst ys)/\Al (PrV H) Y' ys/\Y'.length<=61/\∀ z∈Y',z∈Y
theorem PrL.ext{Y:List PP}{H H':Hp}{y:V}(h:PrL Y H y)(e:Ext H H'):PrL Y H' y:=by
 obtain⟨q,Y',ys,h1,h2,h3,h4⟩:=h;exact⟨q,Y',ys,h1,e.at h2,h3.imp λ _ _ t=>PrV.ext t e,h4⟩
def ua(Y:List PP)(H:Hp)(ys:List V):Prop:=∀ y∈ys,PrL Y H y
theorem ua.ext{Y:List PP}{H H':Hp}{ys:List V}(h:ua Y H ys)(e:Ext H H'):ua Y H' ys:=λ y hy=>(h y hy).ext e
theorem ua.snoc{Y:List PP}{H:Hp}{ys:List V}{y:V}(h:ua Y H ys)(h':PrL Y H y):ua Y H (ys++[y]):=λ x hx=>by
 rcases OQ.mp hx with hx|hx
 ·exact h x hx
 ·rw [OE.mp hx];exact h'
theorem ua.nil{Y:List PP}{H:Hp}:ua Y H []:=λ y hy=>by cases hy
abbrev kW(C:Addr)(l:Addr)(d:Addr)(n:Int)(c:Int)(H:Hp)(Q:VK)(E:XK):Prop:=∃ (ms:List Int) (Z:List PP) (zs:List V),n=(ms.length:Int)/\eK ms/\Ce C ms Z H l/\H d=some (.lst zs)/\Al (PrV H) Z zs/\Z.length<=60/\(∀ z∈Z,¬ z.1=z.2/\InR ms z.1/\InR ms z.2)/\0<=c/\∀ H',Ext H H'->Q (.bl true) H'
def lN(C:Addr):Sp:=λ vs H Q E=>∃ (l:Addr) (d:Addr) (n:Int) (c:Int),vs=[.ref l,.ref d,.int n,.int c]/\(kW C l d n c H Q E)
theorem tT(C:Addr)(l:Addr)(d:Addr)(n:Int)(c:Int)(H:Hp)(Q:VK)(E:XK):lN C [.ref l,.ref d,.int n,.int c] H Q E=(kW C l d n c H Q E):=MG (f:=λ (l:Addr) (d:Addr) (n:Int) (c:Int)=>[.ref l,.ref d,.int n,.int c]) (λ _ _ _ _ _ _ _ _ h=>by cases h;exact⟨rfl,rfl,rfl,rfl⟩) l d n c
theorem tI(C:Addr){vs:List V}{H:Hp}{Q:VK}{E:XK}(h:lN C vs H Q E):vs.length=4:=MH h λ _ _ _ _=>rfl
theorem jO(T:Tx K mg t):bL P w K mg base CX0 10 t.a__law_of_told t.d__law_of_told ["_law_two_here", "_law_due", "_law_axes", "_law_cell"] (lN t.a_View):=by
 have G_loop_order:=%[mh|41];have G__law_asked:=%[gK|41];have G__law_is_bar:=%[fM|41];refine T.F__law_of_told.ok cG (λ vs H Q E h=>tI _ h) (λ c A o s H vs Q E hr h=>?_)
 ·obtain⟨l,d,n,c,rfl,ms,Z,zs,rfl,hsz,tw,hd,alZ,hZl,hne,c0,kk⟩:=h;refine⟨_,%[%[4,cG,%[loop_order,%[%[cp,%[cp,%[0|0],%[0|2],(λ _ _=>rfl)|13],%[0|2],(λ _ _=>rfl)|13],%[%[cp,%[cp,%[0|0],%[0|2],(λ _ _=>rfl)|13],%[0|2],(λ _ _=>rfl)|13]|1]|1]|3]|4],%[%[%[(cS hr.units),%[cp,%[4|0],%[0|2],(λ _ _=>rfl)|13],(@mX _ _ _ _),(ar _)|14],%[%[(@cN _ _ _ _)|12]|10],(@ak _)|17],%[%[5,cG,%[iV,%[3|0],%[len,au,%[%[cp,%[4|0],%[0|2],(λ _ _=>rfl)|13]|1]|6]|11]|4],%[%[OV,rfl,%[%[%[%[cp,%[4|0],%[0|2],(λ _ _=>rfl)|13],%[%[bJ,%[cp,%[4|0],%[0|2],(λ _ _=>rfl)|13],%[%[%[cp,%[cp,%[4|0],%[0|2],(λ _ _=>rfl)|13],%[5|0],(λ _ _=>rfl)|13]|1]|16]|11],%[%[bJ,%[oR,%[cp,%[4|0],%[0|2],(λ _ _=>rfl)|13],(@aQ _),%[%[5|0]|22]|24],%[oR,%[cp,%[4|0],%[0|2],(λ _ _=>rfl)|13],%[%[aK,%[5|0],%[0|2]|11]|22],(@aQ _)|24]|11],%[%[oR,%[cp,%[4|0],%[0|2],(λ _ _=>rfl)|13],%[%[5|0]|22],%[%[aK,%[5|0],%[0|2]|11]|22]|24]|1]|1]|1]|1]|16]|20],%[6,cG|5],%[%[%[%[%[_law_asked,%[%[0|0],%[%[fC,∅,T.z_list,nofun,%[%[6|0]|1],⋯,⋯,∅,∅|38],%[%[_law_is_bar,%[%[6|0],%[%[1|0],%[%[2|0]|1]|1]|1]|3]|1]|1]|1]|3],(by intros;rfl)|28]|30],%[%[(@cN _ _ _ _)|12]|10],(@ak _)|17]|10],(by intros;rfl)|21],%[%[%[%[_law_asked,%[%[0|0],%[%[cp,%[4|0],%[0|2],(λ _ _=>rfl)|13],%[(@cN _ _ _ _)|1]|1]|1]|3],%[%[_law_asked,%[%[0|0],%[%[gk,∅,T.z_tuple,nofun,%[%[cp,%[4|0],%[0|2],(λ _ _=>rfl)|13]|1],⋯,⋯,∅,∅|38],%[(@cN _ _ _ _)|1]|1]|1]|3]|35]|33]|12]|10]|9]|9]|9]|9],?_⟩;rw [show aA ["_law_two_here", "_law_due", "_law_axes", "_law_cell", "_law_told", "_law_k", "_law_some_here"] [.ref l,.ref d,.int (ms.length:Int),.int c]=[some (.ref l),some (.ref d),some (.int (ms.length:Int)),some (.int c),none,none,none] from rfl];clear G_loop_order G__law_asked G__law_is_bar;have tw':=tw;obtain⟨t1,t2,u1,v1,u2,v2,hl,ht1,ht2,w1,w2⟩:=tw';obtain⟨room,f1,f2,A,B,vu,vv,hA,hB,m1,m2,h60,hnd,hZ⟩:=w1.ex;have h8:=hsz.1;exists kk;exists hnd;exists hZ;exists m1;exists m2;exists tw;exists alZ;exists hne;clear w1 w2 ht2;ac_rfl;rw [yz];refine⟨room,f1,f2,A,B,ms,vu,vv,hA,hB,m1 (),m2 (),h60,hnd (),λ x H1 e1 _ told=>?_⟩;rw [hZ ()] at told;clear hl ht1
  rcases told with ⟨os,r,hx,_,hok,hcr⟩|⟨L,Y,r,ys,hx,hr1,alY,hbar,hno,hLe,hYl,hsub⟩
  ·have k':=kk () H1 e1;clear kk hcr hok;ac_rfl
  ·have hYs:=hbar.some (λ z hz=>⟨(hne () z (hsub z hz)).2.1.len,(hne () z (hsub z hz)).2.2.len⟩) hLe λ z hz=>(hne () z (hsub z hz)).1;have hbt:=yD hbar hno hsub hYs;have hYin:∀ z∈Y,InR ms z.1/\InR ms z.2:=λ z hz=>(hne () z (hsub z (hbar.1 z hz))).2;have hYp:0 < Y.length:=QI.mpr hYs;have hyl:=alY.1;have hcm0:=Px c (show (Y.length:Int) ≠ 0 by omega);have hcm1:=Pl c (show (0:Int) < (Y.length:Int) by omega);have hypos:(0:Int) < (ys.length:Int):=by omega
   obtain⟨k,hk⟩:=OT hcm0;have hkl:k < Y.length:=by omega
   have hky:k < ys.length:=by omega
   have hck:c % (ys.length:Int)=(k:Int):=by rw [hyl];exact hk
   exists hYin;exists alY;exists hbt;exists hyl;clear hbar hno hLe hsub hYs hcm0 hcm1 hk;obtain⟨yk,hyk⟩:∃ y,ys[k]? = some y:=⟨_,Ow hky⟩;obtain⟨zk,hzk⟩:∃ z,Y[k]? = some z:=⟨_,Ow hkl⟩;have hatk:atI ys (k:Int)=some yk:=bU hyk;have pzk:=(alY ()).2 k zk yk hzk hyk;have hzY:=OX hzk;have ct1:=lX ys (k:Int) %[0|8];rw [OI] at ct1;have ct2:=lW ys ((k:Int)+1) %[0|8];rw [show ((k:Int)+1).toNat=k+1 by omega] at ct2;have ct3:=FW ys k hky;have hc1:ys.length+1<=sizeLine:=ag (by have:=hyl ();omega);have hc2:(ys.take k).length+(ys.drop (k+1)).length<=sizeLine:=ag (by have:=hyl ();rw [O8,P0];omega);exists pzk;exists hzY;have N1:Unit->ua Y H1 [.ref r]:=λ (_:Unit)=>ua.nil.snoc ⟨r,Y,ys,rfl,hr1,alY (),by omega,λ z hz=>hz⟩;have hx1:=hx;have r1:=hr1;clear hx hr1 hyk hzk;ac_rfl;intro a2 H2 xa2 f2 g2;have hx2:=f2.at hx1;have r2:=f2.at r1;have F2:=e1.trans f2;have N2:=λ (_:Unit)=>(N1 ()).ext f2;have A2:=λ (_:Unit)=>(alY ()).imp λ _ _ t=>PrV.ext t f2;have pz2:=λ (_:Unit)=>(pzk ()).ext f2;clear xa2 hx1 r1 N1 alY pzk f2 e1 hypos;ac_rfl;intro a3 H3 xa3 f3 g3;have hx3:=f3.at hx2;have r3:=f3.at r2;have F3:=F2.trans f3;have A3:=λ (_:Unit)=>(A2 ()).imp λ _ _ t=>PrV.ext t f3
   have N3:=λ (_:Unit)=>((N2 ()).ext f3).snoc ⟨a3,Y++[zk],ys++[yk],rfl,g3,fX (A3 ()) ((pz2 ()).ext f3),by rw [OR];simp;omega,λ z hz=>by
    rcases OQ.mp hz with hz|hz
    ·exact hz
    ·rw [OE.mp hz];exact hzY ()⟩
   clear xa3 hx2 r2 N2 A2 pz2 f3 F2 g2 g3;ac_rfl;intro a4 H4 xa4 f4 g4;have hx4:=f4.at hx3;have r4:=f4.at r3;have F4:=F3.trans f4;have A4:=λ (_:Unit)=>(A3 ()).imp λ _ _ t=>PrV.ext t f4;have N4:=λ (_:Unit)=>(N3 ()).ext f4;clear xa4 hx3 r3 N3 A3 f4 F3;ac_rfl;intro a5 H5 xa5 f5 g5;have hx5:=f5.at hx4;have r5:=f5.at r4;have g4_5:=f5.at g4;have F5:=F4.trans f5;have A5:=λ (_:Unit)=>(A4 ()).imp λ _ _ t=>PrV.ext t f5;have N5:=λ (_:Unit)=>(N4 ()).ext f5;clear xa5 hx4 r4 N4 A4 f5 F4 g4;ac_rfl;intro a6 H6 xa6 f6 g6;have hx6:=f6.at hx5;have r6:=f6.at r5;have F6:=F5.trans f6;have A6:=λ (_:Unit)=>(A5 ()).imp λ _ _ t=>PrV.ext t f6
   have N6:=λ (_:Unit)=>((N5 ()).ext f6).snoc ⟨a6,Y.take k++Y.drop (k+1),_,rfl,g6,qS (lD (A6 ()) k) (vX (A6 ()) (k+1)),by rw [OR,O8,P0];omega,λ z hz=>by
    rcases OQ.mp hz with hz|hz
    ·exact PC hz
    ·exact Qh hz⟩
   clear xa6 hx5 r5 N5 A5 f6 F5 g4_5 g5 g6;ac_rfl;intro a7 H7 xa7 f7 g7;have hx7:=f7.at hx6;have r7:=f7.at r6;have F7:=F6.trans f7;have A7:=λ (_:Unit)=>(A6 ()).imp λ _ _ t=>PrV.ext t f7;have N7:=λ (_:Unit)=>((N6 ()).ext f7).snoc ⟨a7,(Y.drop k).take 1,_,rfl,g7,lD (vX (A7 ()) k) 1,by rw [O8];omega,λ z hz=>Qh (PC hz)⟩;clear xa7 hx6 r6 N6 A6 f7 F6 g7;ac_rfl;intro a8 H8 xa8 f8 g8;have hx8:=f8.at hx7;have r8:=f8.at r7;have F8:=F7.trans f8;have A8:=λ (_:Unit)=>(A7 ()).imp λ _ _ t=>PrV.ext t f8;have N8:=λ (_:Unit)=>(N7 ()).ext f8;clear xa8 hx7 r7 N7 A7 f8 F7 ct1 ct2 ct3 hc1 hc2;ac_rfl;have al8:=λ (_:Unit)=>(alZ ()).imp λ _ _ t=>PrV.ext t F8;refine cw (xs:=[.ref r,.ref a3,.ref a6,.ref a7]) (λ i σ H'=>∃ v6:Option V,σ=[some (.ref l),some (.ref d),some (.int (ms.length:Int)),some (.int c),some (.ref x),some (.int (k:Int)),v6]/\Ext H8 H') ⟨none,rfl,Ext.refl _⟩ (λ i σ H' _ ⟨_,_,e⟩=>e.at g8) ?_ ?_
   ·rintro i y _ H9 hi ⟨v6,rfl,e9⟩;obtain⟨q,Y',ys',rfl,hq,alY',hYl',hsub'⟩:=(N8 () y (OX hi)).ext e9;have F9:=F8.trans e9;have hd9:=F9.at hd;have alZ9:=(al8 ()).imp λ _ _ t=>PrV.ext t e9;have hin':∀ z∈Y',InR ms z.1/\InR ms z.2:=λ z hz=>hYin () z (hsub' z hz);have hln':yL ms.length Y':=λ z hz=>⟨(hin' z hz).1.len,(hin' z hz).2.len⟩;have hyl':=alY'.1;exists alY';exists alZ9;exists hin';exists hln';exists hyl';clear hi kk g8 hx8 r8 A8 hsub' N8;simp! only [↓ay];intro a10 H10 xa10 f10 g10;have hq10:=f10.at hq;have hd10:=f10.at hd9;have F10:=F9.trans f10;have alZ10:=λ (_:Unit)=>(alZ9 ()).imp λ _ _ t=>PrV.ext t f10;have alY10:=λ (_:Unit)=>(alY' ()).imp λ _ _ t=>PrV.ext t f10;have e10:=e9.trans f10;clear xa10 hq hd9 alZ9 alY' f10 F9 e9;ac_rfl;rw [l9];refine⟨Y',Z,ys',zs,ms.length,rfl,h8,hq10,alY10 (),hd10,alZ10 (),hZl,by omega,hln' (),λ H11 e11=>?_⟩;have g11:=e11.at g10;have F11:=F10.trans e11;have e911:=e10.trans e11;have hbx:=iO (Z:=Z) g11 ((alY10 ()).imp λ _ _ t=>PrV.ext t e11) %[0|8] (hin' ());exists hbx;clear g10 g11 hq10 hd10 alZ10 alY10 F10 e10 e11;ac_rfl;rw [cW];refine⟨ms,Z,(tw ()).ext F11,hbx (),λ H12 e12=>?_⟩;clear hbx;ac_rfl;exact⟨_,rfl,e911.trans e12⟩
   ·rintro _ H9 ⟨v6,rfl,e9⟩;have F9:=F8.trans e9;have hx9:=e9.at hx8;have r9:=e9.at r8;have A9:=λ (_:Unit)=>(A8 ()).imp λ _ _ t=>PrV.ext t e9
    have hb1:iS ms Z H9 (.ref r) true:=by
     have:=iO (Z:=Z) r9 (A9 ()) %[0|8] (hYin ());rw [hbt ()] at this;exact this
    exists hb1;clear hx8 r8 A8 g8 N8 e9 al8;ac_rfl;rw [cW];refine⟨ms,Z,(tw ()).ext F9,hb1 (),λ H10 e10=>?_⟩;have hx10:=e10.at hx9;have r10:=e10.at r9;have F10:=F9.trans e10;clear hb1 hx9 r9 A9 e10 F9;ac_rfl;intro a11 H11 xa11 f11 g11;have F11:=F10.trans f11;have hb2:iS ms Z H11 (.ref a11) false:=.inl ⟨rfl,.inr ⟨a11,rfl,.inl ⟨_,g11⟩⟩⟩;exists hb2;clear xa11 hx10 r10 f11 g11;ac_rfl;rw [cW];refine⟨ms,Z,(tw ()).ext F11,hb2 (),λ H12 e12=>?_⟩;have k':=kk () H12 (F11.trans e12);clear kk hb2;ac_rfl
def MI(ms:List Int)(a:Int × Int):List Int × List Int:=(ao ms a.1,ao ms a.2)
theorem zG(ms:List Int)(L:List (Nat × Nat)):(ijL L).map (MI ms)=L.map (oQ ms):=by
 unfold ijL;rw [map_map];rfl
theorem BG{xs:List V}{y:V}(h:xs[xs.length - 1]? = some y)(hl:0 < xs.length):atI xs (-1)=some y:=by
 unfold atI ixN;rw [if_neg %[0|8],if_pos %[0|8],show (-1+(xs.length:Int)).toNat=xs.length - 1 by omega];exact h
theorem AQ{ms:List Int}{Z:List PP}{H:Hp}{zs:List V}(al:Al (PrV H) Z zs)(hin:∀ z∈Z,InR ms z.1/\InR ms z.2):∀ y∈zs,∃ c,KnT ms Z H y c:=λ y hy=>by
 obtain⟨i,hi⟩:=Ra.mp hy;have hil:i < Z.length:=by have:=(Oy.mp hi).1;rw [al.1] at this;exact this
 have pz:=al.2 i Z[i] y (Ow hil) hi;have hm:=hin Z[i] (P7 hil);have pz':=pz;obtain⟨q',_,_,rfl,_⟩:=pz';exact⟨_,.inl ⟨q',Z[i],rfl,pz.pk,hm.1,hm.2,rfl⟩⟩
def uv(ms:List Int)(H:Hp)(q:Addr):Prop:=∃ z:PP,PKV H z q/\InR ms z.1/\InR ms z.2
theorem uv.ext{ms:List Int}{H H':Hp}{q:Addr}(h:uv ms H q)(e:Ext H H'):uv ms H' q:=by
 obtain⟨z,h1,h2⟩:=h;exact⟨z,h1.ext e,h2⟩
abbrev Gm(K:PySem.W.Frag)(a:Addr)(H:Hp)(Q:VK)(E:XK):Prop:=∃ ns:List Int,SqL K H a (ns.map V.int)/\ns.length<=63/\∀ H',Q (.bl true) H'
def ug(K:W.Frag):Sp:=λ vs H Q E=>∃ (a:Addr),vs=[.ref a]/\(Gm K a H Q E)
theorem Fp(K:W.Frag){vs:List V}{H:Hp}{Q:VK}{E:XK}(h:ug K vs H Q E):vs.length=1:=mG h λ _=>rfl
theorem Ii(T:Tx K mg t):bL P w K mg base CX0 11 t.a_law t.d_law ["_law_script"] (ug K):=by
 refine T.F_law.ok dQ (λ vs H Q E h=>Fp _ h) (λ c A o s H vs Q E hr h=>?_)
 ·obtain⟨a,rfl,ns,hS,hl,kk⟩:=h;have G__law_sizes:=%[mi|41] a ns;have G__law_two:=%[qf|41] a ns;have G__law_far:=%[qg|41] a ns;have G__law_places:=%[kf|41];have G__law_pairs:=%[mj|41];have G__law_some:=%[oz|41] a ns;have G__law_asked:=%[gK|41];have G__law_is_bar:=%[fM|41];have G__law_strange:=%[jN|41];have G__law_draw:=%[bY|41] a ns;have G__law_of_told:=%[jO|41];refine⟨_,%[%[1,dQ,%[_law_sizes,%[%[0|0],%[%[0|2],%[(@cN _ _ _ _)|1]|1]|1]|3]|4],%[%[2,dQ,%[len,au,%[%[1|0]|1]|6]|4],%[(@uO _ _ _ _ _ _ %[_law_two,%[%[0|0],%[%[1|0]|1]|1]|3] (%[(4),rfl,%[%[3,dQ|5],%[%[4,dQ|5],%[%[5,dQ|5],%[%[6,dQ|5],(@aT _),∅|18],∅|18],∅|18],∅|18],∅,∅|26].mono λ _ _ _ _ h=>cH h) ∅ ∅ ∅),%[%[7,dQ,%[%[%[%[%[3|0],%[%[4|0]|1]|1]|19],%[%[%[%[_law_far,%[%[0|0],%[%[3|0]|1]|1]|3],%[%[_law_far,%[%[0|0],%[%[4|0]|1]|1]|3]|1]|1]|19]|1]|1]|16]|4],%[(@fF _ _ (8) _ _ _ _ dQ.nd rfl (Or.inr rfl) %[_law_places,%[%[1|0]|1]|3] ∅ %[0|7]),%[%[(["_law_i", "_law_j", "_law_script", "_law_sizes_here", "_law_axes", "_law_one", "_law_other", "_law_writes", "_law_reads", "_law_two_here", "_law_every", "_law_due", "_law_some_here", "_law_handed", "_law_pair", "_law_k", "_law_odd", "_law_at", "_law_turned"]),(2),(9),_,dQ.nd,rfl,(Or.inl rfl),(aC (aa jZ) ["_law_script", "_law_sizes_here", "_law_axes", "_law_one", "_law_other", "_law_writes", "_law_reads", "_law_two_here", "_law_every", "_law_due", "_law_some_here", "_law_handed", "_law_pair", "_law_k", "_law_odd", "_law_at", "_law_turned"] rfl rfl nofun),rfl,%[%[_law_pairs,%[%[5|0],%[%[6|0]|1]|1]|3]|20],(λ C s₀ H₀ ex pn=>(%[(2),rfl,%[%[(0),_,(show List.Nodup (["_law_i", "_law_j", "_law_script", "_law_sizes_here", "_law_axes", "_law_one", "_law_other", "_law_writes", "_law_reads", "_law_two_here", "_law_every", "_law_due", "_law_some_here", "_law_handed", "_law_pair", "_law_k", "_law_odd", "_law_at", "_law_turned"]:List Str) from by decide +kernel),rfl,(Or.inl rfl),%[0|7]|15],%[%[(1),_,(show List.Nodup (["_law_i", "_law_j", "_law_script", "_law_sizes_here", "_law_axes", "_law_one", "_law_other", "_law_writes", "_law_reads", "_law_two_here", "_law_every", "_law_due", "_law_some_here", "_law_handed", "_law_pair", "_law_k", "_law_odd", "_law_at", "_law_turned"]:List Str) from by decide +kernel),rfl,(Or.inl rfl),%[0|7]|15],(@aT _),∅|18],∅|18],∅,∅|26].mono λ _ _ _ _ h=>cH h)),(λ C s₀ H₀ ex pn=>(@aV _)),(λ C s₀ H₀ ex pn=>%[%[%[cp,%[10|0],%[0|0],(λ _ _=>rfl)|13],%[%[cp,%[10|0],%[1|0],(λ _ _=>rfl)|13]|1]|1]|19]),∅,(by intros;rfl),%[0|7]|39],%[%[OV,rfl,%[%[%[%[(@bw _)|16],%[%[9|0],%[%[_law_some,%[%[0|0],%[%[0|2],%[%[9|0]|1]|1]|1]|3],%[%[_law_some,%[%[0|0],%[%[0|2],%[%[9|0]|1]|1]|1]|3]|1]|1]|1]|1]|16]|20],%[10,dQ|5],%[%[11,dQ,%[fC,∅,T.z_list,nofun,%[%[10|0]|1],⋯,⋯,∅,∅|38]|4],%[%[(PW.pt %[%[%[%[_law_asked,%[%[7|0],%[%[11|0],%[%[_law_is_bar,%[%[10|0],%[%[9|0],%[%[2|0]|1]|1]|1]|3]|1]|1]|1]|3],(by intros;rfl)|28]|30],(@gv _ _ _ _ %[(cS hr.units),%[11|0],%[10|0],(ar _)|14])|36]),%[%[(@cN _ _ _ _)|12]|10],(@ak _)|17]|10]|9],(by intros;rfl)|21],%[%[12,dQ,%[%[%[cp,%[8|0],%[0|2],(λ _ _=>rfl)|13],%[%[cp,%[8|0],(@oU _ _ _ _ _ _ fT %[0|2]),(λ _ _=>rfl)|13]|1]|1]|19]|4],%[%[%[(cS hr.units),%[9|0],%[(@bw _)|16],(ar _)|14],%[%[12,dQ,%[cp,%[9|0],%[_law_draw,%[%[0|0],%[%[0|2],%[%[len,au,%[%[9|0]|1]|6]|1]|1]|1]|3],(λ _ _=>rfl)|13]|4]|10],(@ak _)|17],%[%[OV,rfl,%[∅,T.z_range,%[%[0|2]|1],∅|29],%[13,dQ|5],%[%[14,dQ,%[_law_strange,%[%[12|0],%[%[1|0],%[%[_law_draw,%[%[0|0],%[%[aK,%[0|2],%[13|0]|11],%[%[qN,%[0|2],%[0|2]|11]|1]|1]|1]|3]|1]|1]|1]|3]|4],%[%[15,dQ,%[_law_draw,%[%[0|0],%[%[aK,%[0|2],%[13|0]|11],%[%[aK,%[len,au,%[%[9|0]|1]|6],%[0|2]|11]|1]|1]|1]|3]|4],%[%[%[%[%[_law_asked,%[%[7|0],%[%[bJ,%[bJ,%[oR,%[9|0],(@aQ _),%[%[15|0]|22]|24],%[%[%[14|0]|1]|16]|11],%[oR,%[9|0],%[%[15|0]|22],(@aQ _)|24]|11],%[(@cN _ _ _ _)|1]|1]|1]|3],(by intros;rfl)|28]|30],%[%[(@cN _ _ _ _)|12]|10],(@ak _)|17]|10]|9]|9],(by intros;rfl)|21],%[%[16,dQ,%[bJ,%[9|0],%[%[%[%[%[cp,%[12|0],%[0|2],(λ _ _=>rfl)|13],%[%[cp,%[12|0],%[0|2],(λ _ _=>rfl)|13]|1]|1]|19]|1]|16]|11]|4],%[%[%[%[%[_law_asked,%[%[7|0],%[%[16|0],%[%[_law_is_bar,%[%[16|0],%[%[9|0],%[%[2|0]|1]|1]|1]|3]|1]|1]|1]|3],(by intros;rfl)|28]|30],%[%[(@cN _ _ _ _)|12]|10],(@ak _)|17],%[%[OV,rfl,%[%[%[(@iq _ _ _),%[(@mX _ _ _ _),%[%[0|2],%[%[gk,∅,T.z_tuple,nofun,%[%[9|0]|1],⋯,⋯,∅,∅|38],%[(@iH _ _)|1]|1]|1]|1]|1]|16]|20],%[14,dQ|5],%[%[%[%[%[_law_asked,%[%[7|0],%[%[14|0],%[(@cN _ _ _ _)|1]|1]|1]|3],(by intros;rfl)|28]|30],%[%[(@cN _ _ _ _)|12]|10],(@ak _)|17]|10],(by intros;rfl)|21],%[%[%[_law_of_told,%[%[7|0],%[%[9|0],%[%[2|0],%[%[_law_draw,%[%[0|0],%[%[0|2],%[%[qN,%[0|2],%[0|2]|11]|1]|1]|1]|3]|1]|1]|1]|1]|3]|12]|10]|9]|9]|9]|9]|9]|9]|9]|9]|9]|9]|9]|9]|9],?_⟩;rw [show aA ["_law_script", "_law_sizes_here", "_law_axes", "_law_one", "_law_other", "_law_writes", "_law_reads", "_law_two_here", "_law_every", "_law_due", "_law_some_here", "_law_handed", "_law_pair", "_law_k", "_law_odd", "_law_at", "_law_turned"] [.ref a]=[some (.ref a),none,none,none,none,none,none,none,none,none,none,none,none,none,none,none,none] from rfl];clear G__law_sizes G__law_two G__law_far G__law_places G__law_pairs G__law_some G__law_asked G__law_is_bar G__law_strange G__law_draw G__law_of_told;exists kk;ac_rfl;rw [Ga];refine⟨rfl,hS,hl,λ ms pl H1 e1 h1 hsz=>?_⟩;have hS1:=e1.2 K a _ hS;ac_rfl;rw [FY];refine⟨rfl,hS1,hl,ms,h1,hsz,λ room f1 f2 ps qs x1 x2 w1 w2 r2 H2 e2 h2 v1 v2 hw1 hw2 o1 o2 rm1 rm2 hnd=>?_⟩;have hS2:=e2.2 K a _ hS1;have h1_2:=e2.at h1;have h8:=hsz.pos.2.1;have p60:=hsz.pos.2.2;have h6:=hsz.pos.1;have hs:∀ n∈ms,1<=n/\n<=1000000000:=λ n hn=>by have:=h6 n hn;omega
  have p1:=aM ms λ m hm=>(hs m hm).1;have mz1:=vh o1.len;have mz2:=vh o2.len;have ax1:=lE hsz o1.len;have ax2:=lE hsz o2.len;have ck1:=kL f1 (ms.zip ps) λ a ha=>(ax1.2 a ha).1;have ck2:=kL f2 (ms.zip qs) λ a ha=>(ax2.2 a ha).1;have cl1:=aJ f1 (ms.zip ps) λ a ha=>(ax1.2 a ha).1;have cl2:=aJ f2 (ms.zip qs) λ a ha=>(ax2.2 a ha).1;rw [mz1] at cl1;rw [mz2] at cl2;have kx1:=nE ax1;have kx2:=nE ax2;have ks1:((ms.zip ps).map aP).map (λ a=>a.1)=ms:=by rw [kF];exact mz1
  have ks2:((ms.zip qs).map aP).map (λ a=>a.1)=ms:=by rw [kF];exact mz2
  obtain⟨sl1,sg1⟩:=eV (ms.zip ps) λ a ha=>(ax1.2 a ha).1;obtain⟨sl2,sg2⟩:=eV (ms.zip qs) λ a ha=>(ax2.2 a ha).1;have lo1:=o1.lo;have hi1:=o1.hi;have lo2:=o2.lo;have hi2:=o2.hi;rw [←sl1] at lo1;rw [←sg1] at hi1;rw [←sl2] at lo2;rw [←sg2] at hi2;have sk1:=λ (_:Unit)=>jw (jY ns) (ms.zip ps);have sk2:=λ (_:Unit)=>jw (jY ns) (ms.zip qs);have hB:=(vc ns).1;generalize ah f1 (ms.zip ps)=ws at *;generalize ah f2 (ms.zip qs)=rs at *;generalize (ms.zip ps).map aP=A1 at *;generalize (ms.zip qs).map aP=A2 at *;have gB:∀ (f:Int) (A:List (Int × Int)) (cs:List Int),ah f A=cs->ah (f * jY ns+si ns) (aO (jY ns) A)=cs.map λ c=>c * jY ns+si ns:=λ f A cs h=>by rw [oH,h]
  have gS:∀ (A:List (Int × Int)),A.map (λ a=>a.1)=ms->(aO (jY ns) A).map (λ a=>a.1)=ms:=λ A h=>by rw [wG];exact h
  have hin:NA λ c=>c * jY ns+si ns:=FA hB;have c1c:=gB f1 A1 ws ck1;have c2c:=gB f2 A2 rs ck2;have hne:=zU hs cl1 cl2 hnd;have tv1:∀ H',Ext H2 H'->BJ t.a_View ms ((aF ws rs rs.length).map (oQ ms)) H' x1 x2:=λ H' e=>⟨room,f1,f2,A1,A2,v1.ext e,v2.ext e,kx1,kx2,ks1,ks2,p60,by rw [ck1];exact hnd,by rw [ck1,ck2]⟩;have tv2:∀ H' y1 y2,aG t.a_View H' y1 (room * jY ns+si ns) (f1 * jY ns+si ns) (aO (jY ns) A1)->aG t.a_View H' y2 (room * jY ns+si ns) (f2 * jY ns+si ns) (aO (jY ns) A2)->BJ t.a_View ms ((aF ws rs rs.length).map (oQ ms)) H' y1 y2:=λ H' y1 y2 u1 u2=>⟨_,_,_,_,_,u1,u2,gW kx1,gW kx2,gS _ ks1,gS _ ks2,p60,by rw [c1c];exact(wZ hin ws).mpr hnd,by rw [c1c,c2c,sM hin,OB]⟩;have hpl:=dN ws rs rs.length;have hZl:((aF ws rs rs.length).map (oQ ms)).length<=60:=by rw [OB];omega
  exists tv1;exists tv2;exists hne;exists hnd;exists hs;clear mz1 mz2 ax1 ax2 sl1 sl2 sg1 sg2 o1 o2 hS1 hS e1 h1 gB gS hin c1c c2c ck1 ck2 ks1 ks2 h6 hsz e2;ac_rfl;intro t1 H3 xt1 f3 g3;have hS3:=f3.2 K a _ hS2;have h1_3:=f3.at h1_2;have v1_3:=v1.ext f3;have v2_3:=v2.ext f3;have hw1_3:=f3.at hw1;have hw2_3:=f3.at hw2;have F3:=f3;clear xt1 hS2 h1_2 v1 v2 hw1 hw2 h2 f3;ac_rfl;rw [rK];refine⟨rfl,hS3,hl,room,f1,A1,v1_3,kx1,rm1,rm2,lo1,hi1,λ y1 H4 e4 u1=>?_⟩;rw [sk1 ()] at u1;ac_rfl;rw [rK];refine⟨rfl,e4.2 K a _ hS3,hl,room,f2,A2,v2_3.ext e4,kx2,rm1,rm2,lo2,hi2,λ y2 H5 e5 u2=>?_⟩;rw [sk2 ()] at u2;have e35:=e4.trans e5;have u1_5:=u1.ext e5;have g3_5:=e35.at g3;have F5:=F3.trans e35;clear e4 e5 u1 g3;ac_rfl;intro t2 H6 xt2 f6 g6;have g3_6:=f6.at g3_5;have u1_6:=u1_5.ext f6;have u2_6:=u2.ext f6;have F6:=F5.trans f6;have e36:=e35.trans f6;clear xt2 g3_5 u1_5 u2 F5 f6 e35;ac_rfl;intro tl H7 xtl f7 g7;have F7:=F6.trans f7;have e37:=e36.trans f7;have tw:Ce t.a_View ms ((aF ws rs rs.length).map (oQ ms)) H7 tl:=⟨t1,t2,x1,x2,y1,y2,g7,f7.at g3_6,f7.at g6,tv1 () H7 F7,tv2 () H7 y1 y2 (u1_6.ext f7) (u2_6.ext f7)⟩;have hS7:=e37.2 K a _ hS3;have h1_7:=e37.at h1_3;have hw1_7:=e37.at hw1_3;have hw2_7:=e37.at hw2_3;exists tw;clear xtl g7 g6 g3_6 u1_6 u2_6 F6 F7 F3 f7 e36 e37 hS3 h1_3 hw1_3 hw2_3 v1_3 v2_3 tv1 tv2 kx1 kx2 sk1 sk2 lo1 hi1 lo2 hi2;ac_rfl;rw [Gb];refine⟨ms,h1_7,⟨h8,hs ()⟩,by omega,λ re H8 e8 t8=>?_⟩;have hw1_8:=e8.at hw1_7;have hw2_8:=e8.at hw2_7;ac_rfl;rw [tU];refine⟨ws,rs,hw1_8,hw2_8,hnd (),by omega,by omega,λ r9 H9 hr9 e9 t9=>?_⟩;obtain⟨ts,hts,al9⟩:=t9;obtain⟨ls,hls,alr⟩:=t8;have hlen:ls.length=ws.length:=by rw [alr.1];unfold cu;rw [length_map,length_range];omega
  have e79:=e8.trans e9;have hls9:=e9.at hls;have alr9:=alr.imp λ _ _ t=>dc.ext t e9;have wk:=gq (K:=K) (R:=axP) (λ _ _ _ _ h e=>h.ext e) hts (iW al9);exists hlen;exists alr9;clear hw1_7 hw2_7 hw1_8 hw2_8 hls alr al9 hr9 e8 e9;ac_rfl;refine cI (ijL (aF ws rs rs.length)) (λ _=>true) axP (λ D a y H'=>PrV H' (MI ms a) y) wk.1 wk.2 (λ D _ y H1 H2 h e=>h.ext e) (λ D _ y H1 xs o h hD=>h.upd hD) (ag (by unfold ijL;rw [length_map];omega)) ?_ ?_
  ·intro D' x y H' N1 N0 ha hD e _ ⟨q,hy,hq⟩ k1 _;subst hy;have k1':=k1 rfl;obtain⟨z,hz,rfl⟩:=OO.mp ha;obtain⟨b1,b2⟩:=wQ z hz;obtain⟨q1,ha1,hq1⟩:=BS (alr9 ()) (i:=z.1) (by rw [hlen ()];exact b1);obtain⟨q2,ha2,hq2⟩:=BS (alr9 ()) (i:=z.2) (by rw [hlen ()];omega);have hls':=e.at hls9;have f1':=e.at hq1;have f2':=e.at hq2;clear k1 wk kk ha hz;simp! only [↓dw,↓ba];intro t1 H6 ht1 e6 h6;exact k1' _ H6 e6 ⟨t1,q1,q2,rfl,h6,e6.at f1',e6.at f2'⟩
  intro D zs H10 xD e10 hD al10;rw [jX] at al10;have alZ:=J1 al10;rw [zG] at alZ;generalize (aF ws rs rs.length).map (oQ ms)=Z at *;have e710:=e79.trans e10;have tw10:=λ (_:Unit)=>(tw ()).ext e710;have hS10:=e710.2 K a _ hS7;have h1_10:=e710.at h1_7;have hls10:=e10.at hls9;have alr10:=λ (_:Unit)=>(alr9 ()).imp λ _ _ t=>dc.ext t e10;exists alZ;clear wk al10 hts xD tw hS7 h1_7 hls9 alr9 e79 e10 e710 hpl;have hzl:=(alZ ()).1;have hin:∀ z∈Z,InR ms z.1/\InR ms z.2:=λ z hz=>(hne () z hz).2;exists hin;exists hzl;ac_rfl;intro a11 H11 xa11 f11 g11;have N11:Unit->ua Z H11 [.ref a11]:=λ (_:Unit)=>ua.nil.snoc ⟨a11,[],[],rfl,g11,Al.nil,by simp,(λ z hz=>by cases hz)⟩;have hS11:=f11.2 K a _ hS10;have hD11:=f11.at hD;have alZ11:=λ (_:Unit)=>(alZ ()).imp λ _ _ t=>PrV.ext t f11;have F11:=f11;clear xa11 g11 f11;ac_rfl;rw [rH];refine⟨rfl,hS11,hl,by decide,by decide,Z,zs,hD11,alZ11 (),hZl,λ Y1 ys1 s1 H12 f12 g12 al12 hY1 hY1Z=>?_⟩;have N12:=λ (_:Unit)=>(((N11 ()).ext f12).snoc ⟨D,Z,zs,rfl,f12.at hD11,(alZ11 ()).imp λ _ _ t=>PrV.ext t f12,by omega,λ z hz=>hz⟩).snoc ⟨s1,Y1,ys1,rfl,g12,al12,by omega,hY1Z⟩;have hS12:=f12.2 K a _ hS11;have hD12:=f12.at hD11;have alZ12:=λ (_:Unit)=>(alZ11 ()).imp λ _ _ t=>PrV.ext t f12;have F12:=F11.trans f12;clear f12 g12 al12 hY1 hY1Z N11 hS11 hD11 alZ11 F11;ac_rfl;rw [rH];refine⟨rfl,hS12,hl,by decide,by decide,Z,zs,hD12,alZ12 (),hZl,λ Y2 ys2 s2 H13 f13 g13 al13 hY2 hY2Z=>?_⟩;have N13:=λ (_:Unit)=>((N12 ()).ext f13).snoc ⟨s2,Y2,ys2,rfl,g13,al13,by omega,hY2Z⟩;have F13:=F12.trans f13;clear f13 g13 al13 hY2 hY2Z N12 hS12 hD12 alZ12 F12;ac_rfl;intro a14 H14 xa14 f14 g14;have N14:=λ (_:Unit)=>(N13 ()).ext f14;have F14:=F13.trans f14;clear xa14 f14 N13 F13;ac_rfl;refine cw (xs:=[.ref a11,.ref D,.ref s1,.ref s2]) (λ i σ H'=>∃ v10 v11:Option V,σ=[some (.ref a),some (.ref pl),some (.int (ms.length:Int)),some (.ref x1),some (.ref x2),some (.ref w1),some (.ref w2),some (.ref tl),some (.ref re),some (.ref D),v10,v11,none,none,none,none,none]/\Ext H14 H') ⟨none,none,rfl,Ext.refl _⟩ (λ i σ H' _ ⟨_,_,_,e⟩=>e.at g14) ?_ ?_
  ·rintro i y _ H15 hi ⟨v10,v11,rfl,e15⟩;obtain⟨q,Y',ys',rfl,hq,alY',hYl',hsub'⟩:=(N14 () y (OX hi)).ext e15;have F15:=F14.trans e15;have hD15:=F15.at hD;have alZ15:=(alZ ()).imp λ _ _ t=>PrV.ext t F15;have hin':∀ z∈Y',InR ms z.1/\InR ms z.2:=λ z hz=>hin () z (hsub' z hz);have hln':yL ms.length Y':=λ z hz=>⟨(hin' z hz).1.len,(hin' z hz).2.len⟩;exists alY';exists alZ15;exists hin';exists hln';clear hi kk g14 hsub' N14;simp! only [↓ay];intro a16 H16 xa16 f16 g16;have hq16:=f16.at hq;have hD16:=f16.at hD15;have F16:=F15.trans f16;have alZ16:=λ (_:Unit)=>(alZ15 ()).imp λ _ _ t=>PrV.ext t f16;have alY16:=λ (_:Unit)=>(alY' ()).imp λ _ _ t=>PrV.ext t f16;have e16:=e15.trans f16;clear xa16 hq hD15 alZ15 alY' f16 F15 e15;ac_rfl;rw [l9];refine⟨Y',Z,ys',zs,ms.length,rfl,h8,hq16,alY16 (),hD16,alZ16 (),hZl,by omega,hln' (),λ H17 f17=>?_⟩;have g17:=f17.at g16;have hq17:=f17.at hq16;have F17:=F16.trans f17;have e17:=e16.trans f17;have alY17:=λ (_:Unit)=>(alY16 ()).imp λ _ _ t=>PrV.ext t f17;have hbx:=iO (Z:=Z) g17 (alY17 ()) %[0|8] (hin' ());exists hbx;clear g16 hq16 hD16 alZ16 alY16 F16 e16 f17;ac_rfl;rw [cW];refine⟨ms,Z,(tw10 ()).ext F17,hbx (),λ H18 f18=>?_⟩;have g18:=f18.at g17;have hq18:=f18.at hq17;have d1:=eS (H:=H18) (f:=cq H18 (cq H18 noD)) ((alY17 ()).imp λ _ _ t=>PrV.ext t f18);have d3:=vx Y';have e18:=e17.trans f18;clear hbx g17 hq17 alY17 F17 e17 f18;ac_rfl;exact⟨_,_,rfl,e18⟩
  rintro _ H15 ⟨v10,v11,rfl,e15⟩;have F15:=F14.trans e15;have hls15:=F15.at hls10;have alr15:=(alr10 ()).imp λ _ _ t=>dc.ext t F15;have hlp:0 < ls.length:=by have:=hlen ();omega
  obtain⟨q1,ha1,hq1⟩:=mT alr15 (Ow (show 0 < ls.length from hlp));obtain⟨q2,ha2,hq2⟩:=mT alr15 (Ow (show ls.length - 1 < ls.length by omega));have at1:atI ls 0=some (.ref q1):=bU (j:=0) (by rw [Ow hlp,ha1]);have at2:atI ls (-1)=some (.ref q2):=BG (by rw [Ow %[0|8],ha2]) hlp;clear N14 g14 e15 F14 ha1 ha2 alr15;ac_rfl;intro pr H16 xpr f16 g16;have pa16:uv ms H16 pr:=⟨(ao ms ((0:Nat):Int),ao ms ((ls.length - 1:Nat):Int)),⟨q1,q2,g16,f16.at hq1,f16.at hq2⟩,InR.split ms _ (hs ()),InR.split ms _ (hs ())⟩;have F16:=F15.trans f16;exists pa16;clear xpr g16 f16 F15 hq1 hq2 at1 at2 hls15;simp! only [-qP];refine vb (λ σ' H'=>∃ q:Addr,σ'=[some (.ref a),some (.ref pl),some (.int (ms.length:Int)),some (.ref x1),some (.ref x2),some (.ref w1),some (.ref w2),some (.ref tl),some (.ref re),some (.ref D),v10,v11,some (.ref q),none,none,none,none]/\Ext H10 H'/\uv ms H' q) (λ nx' hn=>?_) ?_
  ·exists hn;have hD16:=F16.at hD;have hS16:=F16.2 K a _ hS10;clear kk;ac_rfl;intro m3 H17 xm3 f17 g17;have hD17:=f17.at hD16;have hS17:=f17.2 K a _ hS16;have F17:=F16.trans f17;have alZ17:=(alZ ()).imp λ _ _ t=>PrV.ext t F17;have d0:=eS (H:=H17) (f:=cq H17 (cq H17 noD)) alZ17;have hev:=lB Z
   by_cases hZ:Z=[]
   ·have hZe:Z.isEmpty=true:=by rw [hZ];rfl
    rw [hZe] at hev;have hn':=hn () _ H17 ⟨pr,rfl,F17,(pa16 ()).ext f17⟩;clear hn hZ hZe alZ17 xm3 pa16;ac_rfl
   ·have hZe:Z.isEmpty=false:=by cases Z with
     | nil=>exact absurd rfl hZ
     | cons _ _=>rfl
    rw [hZe] at hev;have hzp:0 < Z.length:=QI.mpr hZ;exists alZ17;clear hZ hZe xm3 pa16;ac_rfl;clear d0 hev;rw [aB];refine⟨hS17,hl,⟨by decide,by decide⟩,by have:=hzl ();omega,λ c2 c20 c21=>?_⟩;obtain⟨j,rfl⟩:=OT c20;have hj:j < Z.length:=by have:=hzl ();omega
    obtain⟨z,hz⟩:∃ z,Z[j]? = some z:=⟨_,Ow hj⟩;obtain⟨y,hy⟩:∃ y,zs[j]? = some y:=⟨_,Ow (by rw [hzl ()];exact hj)⟩;have pz:=(alZ17 ()).2 j z y hz hy;have hat:atI zs (j:Int)=some y:=bU hy;have hzi:=hin () z (OX hz);have pz':=pz;obtain⟨q,_,_,rfl,_⟩:=pz';have hn':=hn () _ H17 ⟨q,rfl,F17,z,pz.pk,hzi.1,hzi.2⟩;clear hn hz hy c20 c21 pz hzi;ac_rfl
  rintro _ H17 ⟨q,rfl,F17,pa17⟩;exists pa17;clear pa16 F16;ac_rfl;refine dS (λ i σ H'=>∃ v13 v14 v15:Option V,σ=[some (.ref a),some (.ref pl),some (.int (ms.length:Int)),some (.ref x1),some (.ref x2),some (.ref w1),some (.ref w2),some (.ref tl),some (.ref re),some (.ref D),v10,v11,some (.ref q),v13,v14,v15,none]/\Ext H17 H') ⟨none,none,none,rfl,Ext.refl _⟩ ?_ ?_
  ·rintro i _ H18 hi ⟨v13,v14,v15,rfl,e18⟩;have hi3:i < 3:=by have:i < (3:Int).toNat:=hi;omega
   have F18:=F17.trans e18;have hS18:=F18.2 K a _ hS10;have h1_18:=F18.at h1_10;obtain⟨z,pk,zi1,zi2⟩:=(pa17 ()).ext e18;exists pk;clear hi kk;simp! only [↓ay];rw [aB];refine⟨hS18,hl,⟨by omega,by omega⟩,by decide,λ c c0 c1=>?_⟩;ac_rfl;rw [qA];refine⟨ms,z,Z,pk (),h1_18,⟨h8,hs ()⟩,zi1,zi2,(λ z hz=>(hne () z hz).1),c0,λ y H19 f19 hy=>?_⟩;have hS19:=f19.2 K a _ hS18;have e19:=e18.trans f19;have F19:=F18.trans f19;have hD19:=F19.at hD;exists hy;clear f19 e18 F18 hS18 h1_18 pk zi1 zi2 c0 c1;ac_rfl;rw [aB];refine⟨hS19,hl,⟨by omega,by omega⟩,by omega,λ c2 c20 c21=>?_⟩;obtain⟨j,rfl⟩:=OT c20;have ct1:=lX zs (j:Int) %[0|8];rw [OI] at ct1;have ct2:=lW zs (j:Int) %[0|8];rw [OI] at ct2;have hc1:(zs.take j).length+1<=sizeLine:=ag (by have:=hzl ();rw [O8];omega);clear c20 c21;ac_rfl;intro a20 H20 xa20 f20 g20;have hD20:=f20.at hD19;have e20:=e19.trans f20;have F20:=F19.trans f20;have hy20:=λ (_:Unit)=>(hy ()).ext f20;clear xa20 f20 hD19 e19 F19 hy;ac_rfl;intro a21 H21 xa21 f21 g21;have hD21:=f21.at hD20;have g20_21:=f21.at g20;have e21:=e20.trans f21;have F21:=F20.trans f21;have hy21:=λ (_:Unit)=>(hy20 ()).ext f21;clear xa21 f21 hD20 g20 e20 F20 hy20;ac_rfl;intro a22 H22 xa22 f22 g22;have hD22:=f22.at hD21;have e22:=e21.trans f22;have F22:=F21.trans f22;have hy22:=λ (_:Unit)=>(hy21 ()).ext f22;clear xa22 f22 hD21 g20_21 g21 e21 F21 hy21;ac_rfl;intro a23 H23 xa23 f23 g23;have g22_23:=f23.at g22;have e23:=e22.trans f23;have F23:=F22.trans f23;have hy23:=λ (_:Unit)=>(hy22 ()).ext f23;have hc2:(zs.take j++[y]).length+(zs.drop j).length<=sizeLine:=ag (by have:=hzl ();rw [OR,O8,P0];simp;omega);clear xa23 f23 hD22 g22 e22 F22 hy22 ct1 ct2 hc1;ac_rfl;intro a24 H24 xa24 f24 g24;have e24:=e23.trans f24;have F24:=F23.trans f24
   have hbx:iS ms Z H24 (.ref a24) false:=by
    have hk:=AQ ((alZ ()).imp λ _ _ t=>PrV.ext t F24) (hin ());have hy24:=(hy23 ()).ext f24;refine .inr ⟨a24,_,rfl,g24,by simp;omega,by have:=hzl ();simp;omega,.inr ⟨rfl,λ x hx=>?_,y,by simp,hy24⟩⟩
    rcases OQ.mp hx with hx|hx
    ·rcases OQ.mp hx with hx|hx
     ·exact hk x (PC hx)
     ·rw [OE.mp hx];exact⟨_,hy24⟩
    ·exact hk x (Qh hx)
   exists hbx;clear xa24 f24 g22_23 g23 g24 e23 F23 hy23 hc2;ac_rfl;rw [cW];refine⟨ms,Z,(tw10 ()).ext F24,hbx (),λ H25 f25=>?_⟩;clear hbx;ac_rfl;exact⟨_,_,_,rfl,e24.trans f25⟩
  rintro _ H18 ⟨v13,v14,v15,rfl,e18⟩;have F18:=F17.trans e18;obtain⟨z,pk,zi1,zi2⟩:=(pa17 ()).ext e18;obtain⟨u,v,hq18,hu18,hv18⟩:=pk;have hD18:=F18.at hD;have hc0:zs.length+1<=sizeLine:=ag (by have:=hzl ();omega);clear pa17 e18 F17;ac_rfl;intro a19 H19 xa19 f19 g19;have hD19:=f19.at hD18;have F19:=F18.trans f19;have pz19:PrV H19 (z.2,z.1) (.ref a19):=⟨a19,v,u,rfl,g19,f19.at hv18,f19.at hu18⟩;exists pz19;clear xa19 f19 g19 hD18 hq18 hu18 hv18 F18;ac_rfl;intro a20 H20 xa20 f20 g20;have hD20:=f20.at hD19;have F20:=F19.trans f20;have pz20:=λ (_:Unit)=>(pz19 ()).ext f20;clear xa20 f20 hD19 F19 pz19;ac_rfl;intro a21 H21 xa21 f21 g21;have hD21:=f21.at hD20;have F21:=F20.trans f21;have alT:=λ (_:Unit)=>fX ((alZ ()).imp λ _ _ t=>PrV.ext t F21) ((pz20 ()).ext f21)
  have hinT:∀ x∈Z++[(z.2,z.1)],InR ms x.1/\InR ms x.2:=λ x hx=>by
   rcases OQ.mp hx with hx|hx
   ·exact hin () x hx
   ·rw [OE.mp hx];exact⟨zi2,zi1⟩
  have hlT:(Z++[(z.2,z.1)]).length<=100:=by rw [OR];simp;omega
  exists hinT;clear xa21 f21 hD20 F20 pz20 g20 hc0;generalize Z++[(z.2,z.1)]=ZT at alT hinT hlT;ac_rfl;rw [l9];refine⟨ZT,Z,_,zs,ms.length,rfl,h8,g21,alT (),hD21,(alZ ()).imp (λ _ _ t=>PrV.ext t F21),hZl,hlT,(λ x hx=>⟨(hinT () x hx).1.len,(hinT () x hx).2.len⟩),λ H22 f22=>?_⟩;have F22:=F21.trans f22;have hD22:=f22.at hD21;have hbx:=iO (Z:=Z) (f22.at g21) ((alT ()).imp λ _ _ t=>PrV.ext t f22) hlT (hinT ());exists hbx;clear g21 f22 alT hinT hD21 F21;ac_rfl;rw [cW];refine⟨ms,Z,(tw10 ()).ext F22,hbx (),λ H23 f23=>?_⟩;have F23:=F22.trans f23;have hD23:=f23.at hD22;clear hbx f23 hD22 F22;ac_rfl;intro a24 H24 xa24 f24 g24;have F24:=F23.trans f24;clear xa24 hD23;ac_rfl;intro a25 H25 xa25 f25 g25;have F25:=F24.trans f25;have g24_25:=f25.at g24;clear xa25 g24 f24;ac_rfl;intro a26 H26 xa26 f26 g26;have F26:=F25.trans f26
  have B26:∀ y∈[V.non,.str "some",.int 7,.ref a24,.ref a25],iS ms Z H26 y false:=λ y hy=>by
   simp only [OU,OJ,O6] at hy
   rcases hy with rfl|rfl|rfl|rfl|rfl
   ·exact .inl ⟨rfl,.inl (.inl rfl)⟩
   ·exact .inl ⟨rfl,.inl (.inr (.inr ⟨_,rfl⟩))⟩
   ·exact .inl ⟨rfl,.inl (.inr (.inl ⟨_,rfl⟩))⟩
   ·exact .inl ⟨rfl,.inr ⟨a24,rfl,.inl ⟨_,f26.at g24_25⟩⟩⟩
   ·exact .inl ⟨rfl,.inr ⟨a25,rfl,.inr (.inl ⟨_,f26.at g25⟩)⟩⟩
  exists B26;clear xa26 f25 f26 g24_25 g25 F23 F24 F25;ac_rfl;refine cw (xs:=[V.non,.str "some",.int 7,.ref a24,.ref a25]) (λ i σ H'=>∃ v14:Option V,σ=[some (.ref a),some (.ref pl),some (.int (ms.length:Int)),some (.ref x1),some (.ref x2),some (.ref w1),some (.ref w2),some (.ref tl),some (.ref re),some (.ref D),v10,v11,some (.ref q),v13,v14,v15,some (.ref a21)]/\Ext H26 H') ⟨_,rfl,Ext.refl _⟩ (λ i σ H' _ ⟨_,_,e⟩=>e.at g26) ?_ ?_
  ·rintro i y _ H27 hi ⟨v14',rfl,e27⟩;have hbx:=(B26 () y (OX hi)).ext e27;have F27:=F26.trans e27;exists hbx;clear hi kk g26 B26;simp! only [↓ay];rw [cW];refine⟨ms,Z,(tw10 ()).ext F27,hbx (),λ H28 f28=>?_⟩;clear hbx;ac_rfl;exact⟨_,rfl,e27.trans f28⟩
  rintro _ H27 ⟨v14',rfl,e27⟩;have F27:=F26.trans e27;have hS27:=F27.2 K a _ hS10;have hD27:=F27.at hD;clear g26 B26 e27 F26;ac_rfl;rw [aB];refine⟨hS27,hl,⟨by decide,by decide⟩,by decide,λ c c0 c1=>?_⟩;ac_rfl;rw [tT];refine⟨ms,Z,zs,rfl,⟨h8,hs ()⟩,(tw10 ()).ext F27,hD27,(alZ ()).imp (λ _ _ t=>PrV.ext t F27),hZl,hne (),c0,λ H28 f28=>?_⟩;have k':=kk () H28;clear kk;ac_rfl
end
theorem NF{l:W.OpenLaw}{w:World}{K:W.Frag}{h:Heap}{mg:Str->Option Value}{fa:Addr}(X:K.In h)(G:h.Ns mainGlobals mg)(hfa:mg "law"=some (.ref fa))
  {C0:Addr} (y0:W.nsIn K mainGlobals "PaceError"=some (some (.ref C0)))
  {C1:Addr} (y1:W.nsIn K mainGlobals "NoPlace"=some (some (.ref C1)))
  {C2:Addr} (y2:W.nsIn K mainGlobals "NoView"=some (some (.ref C2)))
  {C3:Addr} (y3:W.nsIn K mainGlobals "NoCount"=some (some (.ref C3)))
  {C4:Addr} (y4:W.nsIn K mainGlobals "NoPair"=some (some (.ref C4)))
  {C5:Addr} (y5:W.nsIn K mainGlobals "TooMany"=some (some (.ref C5)))
  {C6:Addr} (y6:W.nsIn K mainGlobals "Twice"=some (some (.ref C6)))
  {C7:Addr} (y7:W.nsIn K mainGlobals "View"=some (some (.ref C7)))
  {f0:Addr} {d0:FuncData} (F0:Fun K "__init__" "TooMany.__init__" dt f0 d0)
  {f1:Addr} {d1:FuncData} (F1:Fun K "__init__" "Twice.__init__" eF f1 d1)
  {f2:Addr} {d2:FuncData} (a2:W.nsIn K mainGlobals "is_whole"=some (some (.ref f2))) (F2:Fun K "is_whole" "is_whole" gY f2 d2)
  {f3:Addr} {d3:FuncData} (a3:W.nsIn K mainGlobals "count_of"=some (some (.ref f3))) (F3:Fun K "count_of" "count_of" gZ f3 d3)
  {f4:Addr} {d4:FuncData} (a4:W.nsIn K mainGlobals "is_number_below"=some (some (.ref f4))) (F4:Fun K "is_number_below" "is_number_below" cB f4 d4)
  {f5:Addr} {d5:FuncData} (a5:W.nsIn K mainGlobals "is_place"=some (some (.ref f5))) (F5:Fun K "is_place" "is_place" fm f5 d5)
  {f6:Addr} {d6:FuncData} (a6:W.nsIn K mainGlobals "split_number"=some (some (.ref f6))) (F6:Fun K "split_number" "split_number" dA f6 d6)
  {f7:Addr} {d7:FuncData} (a7:W.nsIn K mainGlobals "place_at"=some (some (.ref f7))) (F7:Fun K "place_at" "place_at" gX f7 d7)
  {f8:Addr} {d8:FuncData} (a8:W.nsIn K mainGlobals "refuse_long"=some (some (.ref f8))) (F8:Fun K "refuse_long" "refuse_long" ek f8 d8)
  {f9:Addr} {d9:FuncData} (a9:W.nsIn K mainGlobals "places"=some (some (.ref f9))) (F9:Fun K "places" "places" iG f9 d9)
  {f10:Addr} {d10:FuncData} (a10:W.nsIn K mainGlobals "is_within"=some (some (.ref f10))) (F10:Fun K "is_within" "is_within" fZ f10 d10)
  {f11:Addr} {d11:FuncData} (a11:W.nsIn K mainGlobals "is_size"=some (some (.ref f11))) (F11:Fun K "is_size" "is_size" jj f11 d11)
  {f12:Addr} {d12:FuncData} (a12:W.nsIn K mainGlobals "is_axis"=some (some (.ref f12))) (F12:Fun K "is_axis" "is_axis" jk f12 d12)
  {f13:Addr} {d13:FuncData} (a13:W.nsIn K mainGlobals "are_axes"=some (some (.ref f13))) (F13:Fun K "are_axes" "are_axes" fq f13 d13)
  {f14:Addr} {d14:FuncData} (a14:W.nsIn K mainGlobals "kept_axis"=some (some (.ref f14))) (F14:Fun K "kept_axis" "kept_axis" fY f14 d14)
  {f15:Addr} {d15:FuncData} (F15:Fun K "__init__" "View.__init__" ck f15 d15)
  {f16:Addr} {d16:FuncData} (F16:Fun K "sizes" "View.sizes" dk f16 d16)
  {f17:Addr} {d17:FuncData} (F17:Fun K "paces" "View.paces" iu f17 d17)
  {f18:Addr} {d18:FuncData} (F18:Fun K "count" "View.count" eZ f18 d18)
  {f19:Addr} {d19:FuncData} (F19:Fun K "cell" "View.cell" jx f19 d19)
  {f20:Addr} {d20:FuncData} (F20:Fun K "cells" "View.cells" fb f20 d20)
  {f21:Addr} {d21:FuncData} (F21:Fun K "least" "View.least" dm f21 d21)
  {f22:Addr} {d22:FuncData} (F22:Fun K "greatest" "View.greatest" cj f22 d22)
  {f23:Addr} {d23:FuncData} (a23:W.nsIn K mainGlobals "widened"=some (some (.ref f23))) (F23:Fun K "widened" "widened" gy f23 d23)
  {f24:Addr} {d24:FuncData} (a24:W.nsIn K mainGlobals "has_twice"=some (some (.ref f24))) (F24:Fun K "has_twice" "has_twice" gb f24 d24)
  {f25:Addr} {d25:FuncData} (a25:W.nsIn K mainGlobals "refuse_rooms"=some (some (.ref f25))) (F25:Fun K "refuse_rooms" "refuse_rooms" dC f25 d25)
  {f26:Addr} {d26:FuncData} (a26:W.nsIn K mainGlobals "refuse_sizes_unlike"=some (some (.ref f26))) (F26:Fun K "refuse_sizes_unlike" "refuse_sizes_unlike" bD f26 d26)
  {f27:Addr} {d27:FuncData} (a27:W.nsIn K mainGlobals "refuse_twice"=some (some (.ref f27))) (F27:Fun K "refuse_twice" "refuse_twice" dB f27 d27)
  {f28:Addr} {d28:FuncData} (a28:W.nsIn K mainGlobals "places_written_anew"=some (some (.ref f28))) (F28:Fun K "places_written_anew" "places_written_anew" bE f28 d28)
  {f29:Addr} {d29:FuncData} (a29:W.nsIn K mainGlobals "bound_pairs"=some (some (.ref f29))) (F29:Fun K "bound_pairs" "bound_pairs" eo f29 d29)
  {f30:Addr} {d30:FuncData} (a30:W.nsIn K mainGlobals "gap"=some (some (.ref f30))) (F30:Fun K "gap" "gap" Ct f30 d30)
  {f31:Addr} {d31:FuncData} (a31:W.nsIn K mainGlobals "helpful_loop"=some (some (.ref f31))) (F31:Fun K "helpful_loop" "helpful_loop" cD f31 d31)
  {f32:Addr} {d32:FuncData} (a32:W.nsIn K mainGlobals "barring_pairs"=some (some (.ref f32))) (F32:Fun K "barring_pairs" "barring_pairs" bC f32 d32)
  {f33:Addr} {d33:FuncData} (a33:W.nsIn K mainGlobals "loop_order"=some (some (.ref f33))) (F33:Fun K "loop_order" "loop_order" bX f33 d33)
  {f34:Addr} {d34:FuncData} (a34:W.nsIn K mainGlobals "is_known_pair"=some (some (.ref f34))) (F34:Fun K "is_known_pair" "is_known_pair" da f34 d34)
  {f35:Addr} {d35:FuncData} (a35:W.nsIn K mainGlobals "bars_axis"=some (some (.ref f35))) (F35:Fun K "bars_axis" "bars_axis" dY f35 d35)
  {f36:Addr} {d36:FuncData} (a36:W.nsIn K mainGlobals "bars"=some (some (.ref f36))) (F36:Fun K "bars" "bars" mS f36 d36)
  {f37:Addr} {d37:FuncData} (a37:W.nsIn K mainGlobals "_law_draw"=some (some (.ref f37))) (F37:Fun K "_law_draw" "_law_draw" gf f37 d37)
  {f38:Addr} {d38:FuncData} (a38:W.nsIn K mainGlobals "_law_digits"=some (some (.ref f38))) (F38:Fun K "_law_digits" "_law_digits" er f38 d38)
  {f39:Addr} {d39:FuncData} (a39:W.nsIn K mainGlobals "_law_sizes"=some (some (.ref f39))) (F39:Fun K "_law_sizes" "_law_sizes" eW f39 d39)
  {f40:Addr} {d40:FuncData} (a40:W.nsIn K mainGlobals "_law_once"=some (some (.ref f40))) (F40:Fun K "_law_once" "_law_once" gd f40 d40)
  {f41:Addr} {d41:FuncData} (a41:W.nsIn K mainGlobals "_law_others"=some (some (.ref f41))) (F41:Fun K "_law_others" "_law_others" cP f41 d41)
  {f42:Addr} {d42:FuncData} (a42:W.nsIn K mainGlobals "_law_least"=some (some (.ref f42))) (F42:Fun K "_law_least" "_law_least" di f42 d42)
  {f43:Addr} {d43:FuncData} (a43:W.nsIn K mainGlobals "_law_most"=some (some (.ref f43))) (F43:Fun K "_law_most" "_law_most" dZ f43 d43)
  {f44:Addr} {d44:FuncData} (a44:W.nsIn K mainGlobals "_law_cells"=some (some (.ref f44))) (F44:Fun K "_law_cells" "_law_cells" dj f44 d44)
  {f45:Addr} {d45:FuncData} (a45:W.nsIn K mainGlobals "_law_two"=some (some (.ref f45))) (F45:Fun K "_law_two" "_law_two" hG f45 d45)
  {f46:Addr} {d46:FuncData} (a46:W.nsIn K mainGlobals "_law_far"=some (some (.ref f46))) (F46:Fun K "_law_far" "_law_far" ft f46 d46)
  {f47:Addr} {d47:FuncData} (a47:W.nsIn K mainGlobals "_law_places"=some (some (.ref f47))) (F47:Fun K "_law_places" "_law_places" cO f47 d47)
  {f48:Addr} {d48:FuncData} (a48:W.nsIn K mainGlobals "_law_pairs"=some (some (.ref f48))) (F48:Fun K "_law_pairs" "_law_pairs" eX f48 d48)
  {f49:Addr} {d49:FuncData} (a49:W.nsIn K mainGlobals "_law_is_bar"=some (some (.ref f49))) (F49:Fun K "_law_is_bar" "_law_is_bar" cc f49 d49)
  {f50:Addr} {d50:FuncData} (a50:W.nsIn K mainGlobals "_law_some"=some (some (.ref f50))) (F50:Fun K "_law_some" "_law_some" gc f50 d50)
  {f51:Addr} {d51:FuncData} (a51:W.nsIn K mainGlobals "_law_strange"=some (some (.ref f51))) (F51:Fun K "_law_strange" "_law_strange" dD f51 d51)
  {f52:Addr} {d52:FuncData} (a52:W.nsIn K mainGlobals "_law_asked"=some (some (.ref f52))) (F52:Fun K "_law_asked" "_law_asked" eY f52 d52)
  {f53:Addr} {d53:FuncData} (a53:W.nsIn K mainGlobals "_law_of_told"=some (some (.ref f53))) (F53:Fun K "_law_of_told" "_law_of_told" dE f53 d53)
  {f54:Addr} {od54 an54:Option Addr} {sl54:Array (Option Value)} {oc54 kV54 dc54 pm54 cd54 ct54:Value}
  (a54:W.nsIn K mainGlobals "law"=some (some (.ref f54))) (l54:K.lookup f54=some ⟨oc54,od54,.func (W.fnOf "law" "law" (fV jZ) (eU jZ) (aa jZ) .none kV54 dc54 pm54 an54 cd54 ct54),sl54⟩)
  (c54:W.codeIn K cd54 "law"=true) (k54:W.keepIn K (.ref f54)=true)
  (fi_TooMany:W.findIn K (.ref C5) "__init__"=some (some (.ref f0)))
  (xe_TooMany:vd K C5 f0 [.type "ValueError",.type "Exception",.type "BaseException",.type "object"] "ValueError.__new__"=true)
  (xf_TooMany:W.typeIn K (.ref f0)=some (.type "function"))
  (xo_TooMany:pN K C5=true)
  (xs_TooMany:W.findIn K (.ref C5) "__setattr__"=some (some (.builtin "object.__setattr__")))
  (xh_TooMany:W.hasDictIn K C5=true)
  (nt_TooMany_number:W.takerIn K C5 "number"=some none)
  (nf_TooMany_number:W.findIn K (.ref C5) "number"=some none)
  (bs_PaceError:W.specialIn K (.ref C0) "__getattribute__"=some (some (.builtin "type.__getattribute__")))
  (br_PaceError:W.readsIn K C0 (.type "type")=true)
  (bf_PaceError:W.findCls K (.ref C0) (.type "type") "__init__"=some (.val (.builtin "ValueError.__init__")))
  (fi_Twice:W.findIn K (.ref C6) "__init__"=some (some (.ref f1)))
  (xe_Twice:vd K C6 f1 [.type "ValueError",.type "Exception",.type "BaseException",.type "object"] "ValueError.__new__"=true)
  (xf_Twice:W.typeIn K (.ref f1)=some (.type "function"))
  (xo_Twice:pN K C6=true)
  (xs_Twice:W.findIn K (.ref C6) "__setattr__"=some (some (.builtin "object.__setattr__")))
  (xh_Twice:W.hasDictIn K C6=true)
  (nt_Twice_one:W.takerIn K C6 "one"=some none)
  (nf_Twice_one:W.findIn K (.ref C6) "one"=some none)
  (nt_Twice_other:W.takerIn K C6 "other"=some none)
  (nf_Twice_other:W.findIn K (.ref C6) "other"=some none)
  (pg_View:W.plainGet K C7 Str.empty=true)
  (hd_View:W.hasDictIn K C7=true)
  (po_View:W.plainOver K C7=true)
  (sa_View:W.findIn K (.ref C7) "__setattr__"=some (some (.builtin "object.__setattr__")))
  (nf_View_axes:W.findIn K (.ref C7) "axes"=some none)
  (nf_View_first:W.findIn K (.ref C7) "first"=some none)
  (nf_View_room:W.findIn K (.ref C7) "room"=some none)
  (fi_View___init__:W.findIn K (.ref C7) "__init__"=some (some (.ref f15)))
  (fn_View___init__:W.isFn K (.ref f15)=true)
  (mm_View:W.makesIn K C7=true)
  (ck_View:W.keepIn K (.ref C7)=true)
  (fi_View_sizes:W.findIn K (.ref C7) "sizes"=some (some (.ref f16)))
  (fn_View_sizes:W.isFn K (.ref f16)=true)
  (fi_View_paces:W.findIn K (.ref C7) "paces"=some (some (.ref f17)))
  (fn_View_paces:W.isFn K (.ref f17)=true)
  (fi_View_count:W.findIn K (.ref C7) "count"=some (some (.ref f18)))
  (fn_View_count:W.isFn K (.ref f18)=true)
  (fi_View_cell:W.findIn K (.ref C7) "cell"=some (some (.ref f19)))
  (fn_View_cell:W.isFn K (.ref f19)=true)
  (fi_View_cells:W.findIn K (.ref C7) "cells"=some (some (.ref f20)))
  (fn_View_cells:W.isFn K (.ref f20)=true)
  (fi_View_least:W.findIn K (.ref C7) "least"=some (some (.ref f21)))
  (fn_View_least:W.isFn K (.ref f21)=true)
  (fi_View_greatest:W.findIn K (.ref C7) "greatest"=some (some (.ref f22)))
  (fn_View_greatest:W.isFn K (.ref f22)=true)
  {tk0:Tok} (w0:W.nsIn K mainGlobals "MOST_TOLD"=some (some (.int 4096 tk0)))
  {tk1:Tok} (w1:W.nsIn K mainGlobals "MOST_ROOM"=some (some (.int 1000000000000000000 tk1)))
  {tk2:Tok} (w2:W.nsIn K mainGlobals "MOST_SIZE"=some (some (.int 1000000000 tk2)))
  {tk3:Tok} (w3:W.nsIn K mainGlobals "MOST_AXES"=some (some (.int 8 tk3)))
  (z0:W.nsIn K mainGlobals "ValueError"=some none)
  (z1:W.nsIn K mainGlobals "all"=some none)
  (z2:W.nsIn K mainGlobals "bool"=some none)
  (z3:W.nsIn K mainGlobals "enumerate"=some none)
  (z4:W.nsIn K mainGlobals "int"=some none)
  (z5:W.nsIn K mainGlobals "isinstance"=some none)
  (z6:W.nsIn K mainGlobals "len"=some none)
  (z7:W.nsIn K mainGlobals "list"=some none)
  (z8:W.nsIn K mainGlobals "max"=some none)
  (z9:W.nsIn K mainGlobals "min"=some none)
  (z10:W.nsIn K mainGlobals "range"=some none)
  (z11:W.nsIn K mainGlobals "reversed"=some none)
  (z12:W.nsIn K mainGlobals "sum"=some none)
  (z13:W.nsIn K mainGlobals "tuple"=some none)
  (z14:W.nsIn K mainGlobals "zip"=some none)
  : ∃ fd:FuncData,(∀ (s:Shared) (v:Value),BindsTo s fd ⟨[v],[]⟩ [("_law_script",v)])/\∀ base:Heap,K.In base->base.Ns mainGlobals mg->bL l.prog w K mg base CX0 11 fa fd ["_law_script"] (ug K):=by
 have e:=hfa.symm.trans (O9 X G a54);cases e;have F54:=JV (st:=jZ) l54 c54 k54;have T:Tx K mg ⟨C0,C1,C2,C3,C4,C5,C6,C7,f0,_,f1,_,f2,_,f3,_,f4,_,f5,_,f6,_,f7,_,f8,_,f9,_,f10,_,f11,_,f12,_,f13,_,f14,_,f15,_,f16,_,f17,_,f18,_,f19,_,f20,_,f21,_,f22,_,f23,_,f24,_,f25,_,f26,_,f27,_,f28,_,f29,_,f30,_,f31,_,f32,_,f33,_,f34,_,f35,_,f36,_,f37,_,f38,_,f39,_,f40,_,f41,_,f42,_,f43,_,f44,_,f45,_,f46,_,f47,_,f48,_,f49,_,f50,_,f51,_,f52,_,f53,_,fa,_⟩:=⟨O9 X G y0,O9 X G y1,O9 X G y2,O9 X G y3,O9 X G y4,O9 X G y5,O9 X G y6,O9 X G y7,⟨_,O9 X G w0⟩,⟨_,O9 X G w1⟩,⟨_,O9 X G w2⟩,⟨_,O9 X G w3⟩,⟨xe_TooMany,xf_TooMany,⟨xo_TooMany,xs_TooMany,xh_TooMany⟩⟩,nt_TooMany_number,nf_TooMany_number,⟨bs_PaceError,br_PaceError,bf_PaceError⟩,⟨xe_Twice,xf_Twice,⟨xo_Twice,xs_Twice,xh_Twice⟩⟩,nt_Twice_one,nf_Twice_one,nt_Twice_other,nf_Twice_other,⟨pg_View,hd_View,po_View,sa_View⟩,nf_View_axes,nf_View_first,nf_View_room,⟨mm_View,fi_View___init__,fn_View___init__,ck_View⟩,⟨fi_View_sizes,fn_View_sizes,F16.kp⟩,⟨fi_View_paces,fn_View_paces,F17.kp⟩,⟨fi_View_count,fn_View_count,F18.kp⟩,⟨fi_View_cell,fn_View_cell,F19.kp⟩,⟨fi_View_cells,fn_View_cells,F20.kp⟩,⟨fi_View_least,fn_View_least,F21.kp⟩,⟨fi_View_greatest,fn_View_greatest,F22.kp⟩,F0,F0.binds (ps:=["self", "number"]) (λ _ _ _ _ _ _=>jT (λ _ _=>rfl)),F1,F1.binds (ps:=["self", "one", "other"]) (λ _ _ _ _ _ _=>oS (λ _ _ _=>rfl)),F2,O9 X G a2,F2.binds (ps:=["thing"]) (λ _ _ _ _ _ _=>k9 (λ _=>rfl)),F3,O9 X G a3,F3.binds (ps:=["sizes"]) (λ _ _ _ _ _ _=>k9 (λ _=>rfl)),F4,O9 X G a4,F4.binds (ps:=["thing", "bound"]) (λ _ _ _ _ _ _=>jT (λ _ _=>rfl)),F5,O9 X G a5,F5.binds (ps:=["sizes", "thing"]) (λ _ _ _ _ _ _=>jT (λ _ _=>rfl)),F6,O9 X G a6,F6.binds (ps:=["sizes", "number"]) (λ _ _ _ _ _ _=>jT (λ _ _=>rfl)),F7,O9 X G a7,F7.binds (ps:=["sizes", "number"]) (λ _ _ _ _ _ _=>jT (λ _ _=>rfl)),F8,O9 X G a8,F8.binds (ps:=["count"]) (λ _ _ _ _ _ _=>k9 (λ _=>rfl)),F9,O9 X G a9,F9.binds (ps:=["sizes"]) (λ _ _ _ _ _ _=>k9 (λ _=>rfl)),F10,O9 X G a10,F10.binds (ps:=["thing", "low", "high"]) (λ _ _ _ _ _ _=>oS (λ _ _ _=>rfl)),F11,O9 X G a11,F11.binds (ps:=["thing"]) (λ _ _ _ _ _ _=>k9 (λ _=>rfl)),F12,O9 X G a12,F12.binds (ps:=["thing"]) (λ _ _ _ _ _ _=>k9 (λ _=>rfl)),F13,O9 X G a13,F13.binds (ps:=["thing"]) (λ _ _ _ _ _ _=>k9 (λ _=>rfl)),F14,O9 X G a14,F14.binds (ps:=["axis"]) (λ _ _ _ _ _ _=>k9 (λ _=>rfl)),F15,F15.binds (ps:=["self", "room", "first", "axes"]) (λ _ _ _ _ _ _=>MW (λ _ _ _ _=>rfl)),F16,F16.binds (ps:=["self"]) (λ _ _ _ _ _ _=>k9 (λ _=>rfl)),F17,F17.binds (ps:=["self"]) (λ _ _ _ _ _ _=>k9 (λ _=>rfl)),F18,F18.binds (ps:=["self"]) (λ _ _ _ _ _ _=>k9 (λ _=>rfl)),F19,F19.binds (ps:=["self", "place"]) (λ _ _ _ _ _ _=>jT (λ _ _=>rfl)),F20,F20.binds (ps:=["self"]) (λ _ _ _ _ _ _=>k9 (λ _=>rfl)),F21,F21.binds (ps:=["self"]) (λ _ _ _ _ _ _=>k9 (λ _=>rfl)),F22,F22.binds (ps:=["self"]) (λ _ _ _ _ _ _=>k9 (λ _=>rfl)),F23,O9 X G a23,F23.binds (ps:=["cells", "size", "pace"]) (λ _ _ _ _ _ _=>oS (λ _ _ _=>rfl)),F24,O9 X G a24,F24.binds (ps:=["view"]) (λ _ _ _ _ _ _=>k9 (λ _=>rfl)),F25,O9 X G a25,F25.binds (ps:=["one", "other"]) (λ _ _ _ _ _ _=>jT (λ _ _=>rfl)),F26,O9 X G a26,F26.binds (ps:=["to", "source"]) (λ _ _ _ _ _ _=>jT (λ _ _=>rfl)),F27,O9 X G a27,F27.binds (ps:=["view"]) (λ _ _ _ _ _ _=>k9 (λ _=>rfl)),F28,O9 X G a28,F28.binds (ps:=["to", "source", "spots"]) (λ _ _ _ _ _ _=>oS (λ _ _ _=>rfl)),F29,O9 X G a29,F29.binds (ps:=["to", "source"]) (λ _ _ _ _ _ _=>jT (λ _ _=>rfl)),F30,O9 X G a30,F30.binds (ps:=["pair", "axis"]) (λ _ _ _ _ _ _=>jT (λ _ _=>rfl)),F31,O9 X G a31,F31.binds (ps:=["pairs", "many"]) (λ _ _ _ _ _ _=>jT (λ _ _=>rfl)),F32,O9 X G a32,F32.binds (ps:=["pairs", "many"]) (λ _ _ _ _ _ _=>jT (λ _ _=>rfl)),F33,O9 X G a33,F33.binds (ps:=["to", "source"]) (λ _ _ _ _ _ _=>jT (λ _ _=>rfl)),F34,O9 X G a34,F34.binds (ps:=["thing", "sizes", "known"]) (λ _ _ _ _ _ _=>oS (λ _ _ _=>rfl)),F35,O9 X G a35,F35.binds (ps:=["pairs", "axis"]) (λ _ _ _ _ _ _=>jT (λ _ _=>rfl)),F36,O9 X G a36,F36.binds (ps:=["to", "source", "some"]) (λ _ _ _ _ _ _=>oS (λ _ _ _=>rfl)),F37,O9 X G a37,F37.binds (ps:=["_law_script", "_law_k", "_law_many"]) (λ _ _ _ _ _ _=>oS (λ _ _ _=>rfl)),F38,O9 X G a38,F38.binds (ps:=["_law_number", "_law_by", "_law_many"]) (λ _ _ _ _ _ _=>oS (λ _ _ _=>rfl)),F39,O9 X G a39,F39.binds (ps:=["_law_script", "_law_most_here", "_law_wide"]) (λ _ _ _ _ _ _=>oS (λ _ _ _=>rfl)),F40,O9 X G a40,F40.binds (ps:=["_law_script", "_law_sizes_here"]) (λ _ _ _ _ _ _=>jT (λ _ _=>rfl)),F41,O9 X G a41,F41.binds (ps:=["_law_script", "_law_paces"]) (λ _ _ _ _ _ _=>jT (λ _ _=>rfl)),F42,O9 X G a42,F42.binds (ps:=["_law_sizes_here", "_law_paces"]) (λ _ _ _ _ _ _=>jT (λ _ _=>rfl)),F43,O9 X G a43,F43.binds (ps:=["_law_sizes_here", "_law_paces"]) (λ _ _ _ _ _ _=>jT (λ _ _=>rfl)),F44,O9 X G a44,F44.binds (ps:=["_law_first", "_law_sizes_here", "_law_paces"]) (λ _ _ _ _ _ _=>oS (λ _ _ _=>rfl)),F45,O9 X G a45,F45.binds (ps:=["_law_script", "_law_sizes_here"]) (λ _ _ _ _ _ _=>jT (λ _ _=>rfl)),F46,O9 X G a46,F46.binds (ps:=["_law_script", "_law_view"]) (λ _ _ _ _ _ _=>jT (λ _ _=>rfl)),F47,O9 X G a47,F47.binds (ps:=["_law_sizes_here"]) (λ _ _ _ _ _ _=>k9 (λ _=>rfl)),F48,O9 X G a48,F48.binds (ps:=["_law_writes", "_law_reads"]) (λ _ _ _ _ _ _=>jT (λ _ _=>rfl)),F49,O9 X G a49,F49.binds (ps:=["_law_some_here", "_law_due", "_law_axes"]) (λ _ _ _ _ _ _=>oS (λ _ _ _=>rfl)),F50,O9 X G a50,F50.binds (ps:=["_law_script", "_law_at", "_law_due"]) (λ _ _ _ _ _ _=>oS (λ _ _ _=>rfl)),F51,O9 X G a51,F51.binds (ps:=["_law_pair", "_law_sizes_here", "_law_cell"]) (λ _ _ _ _ _ _=>oS (λ _ _ _=>rfl)),F52,O9 X G a52,F52.binds (ps:=["_law_two_here", "_law_some_here", "_law_due"]) (λ _ _ _ _ _ _=>oS (λ _ _ _=>rfl)),F53,O9 X G a53,F53.binds (ps:=["_law_two_here", "_law_due", "_law_axes", "_law_cell"]) (λ _ _ _ _ _ _=>MW (λ _ _ _ _=>rfl)),F54,O9 X G a54,F54.binds (ps:=["_law_script"]) (λ _ _ _ _ _ _=>k9 (λ _=>rfl)),PX X G z0,PX X G z1,PX X G z2,PX X G z3,PX X G z4,PX X G z5,PX X G z6,PX X G z7,PX X G z8,PX X G z9,PX X G z10,PX X G z11,PX X G z12,PX X G z13,PX X G z14⟩;exact⟨W.fnOf "law" "law" (fV jZ) (eU jZ) (aa jZ) .none kV54 dc54 pm54 an54 cd54 ct54,λ s v=>.of_eq rfl,λ base _ _=>Ii T⟩
theorem Oo{l:W.OpenLaw}{q:Program}{loose:List Str}{XP:(Str->Option Value)->Heap->Prop}{YP:World->Heap->Prop}{d:DefRec}{K:Params->W.Frag}(hn:l.most=some 63)(hdf:d.params.defaults=[])
  (hY:∀ (w:World) (h:Heap),YP w h->(K w.params).In h)
  (F:∀ (w:World) (mg:Str->Option Value) (fa:Addr) (h:Heap),(K w.params).In h->h.Ns mainGlobals mg->mg d.name=some (.ref fa) →
   ∃ fd:FuncData,(∀ (s:Shared) (u:Value),BindsTo s fd ⟨[u],[]⟩ [("_law_script",u)])/\∀ base:Heap,(K w.params).In base->base.Ns mainGlobals mg->bL l.prog w (K w.params) mg base CX0 11 fa fd ["_law_script"] (ug (K w.params))) :
  W.WalkO q loose XP YP l.row.toRowW d [] (λ f vs=>PySem.call f vs):=
 L2.Mr (n:=63) (k:=11) (x := "_law_script") (CX:=λ _=>CX0) (sp:=λ w=>ug (K w.params)) hn ⋯ hdf ⟨rfl,by decide,by decide⟩ hY F (λ _ _ a ns hl _ hS=>⟨a,rfl,ns,hS,hl,λ _=>rfl⟩) λ _ _ _ _ _ z=>z
end PH
namespace PySem.W.Fast
def tw215903023632546172:=0
def tw9263099437459417731:=0
def tw8988025174005919632:=0
def tw3643853044895678285:=0
def tw15095790559030810110:=0
def tw11193178030728600490:=0
def tw15263219558083017888:=0
def tw7386727048085776780:=0
def tw9011242485120160768:=0
def tw2635424900726803879:=0
def tw5094166807193343633:=0
def tw10198766221474488862:=0
def tw15331190254126265329:=0
def tw13745627668066443832:=0
def tw15759875961722636764:=0
def tw10003468271676823843:=0
def tw18206945139994288424:=0
def tw4192814103233751066:=0
def tw13063389116496885878:=0
def tw12571992833942553444:=0
def tw4390361313620016349:=0
def tw3100520638290979699:=0
def tw15713378677561015394:=0
def tw9553918780895457654:=0
def tw4361796934892285543:=0
def tw16733532629048508413:=0
def tw2879928256421221631:=0
def tw2234250785558644806:=0
def tw999756359870905632:=0
def tw4955553833357451954:=0
def tw18214533196650034467:=0
def tw2814169033840297310:=0
def tw10788641379255445638:=0
def tw8343298816457086638:=0
def tw13777312370709322211:=0
def tw11370315554195275840:=0
def tw15974102213090693865:=0
def tw1318622058106521072:=0
def tw9515039970585512631:=0
def tw7619230260300479472:=0
def tw4282904164250954401:=0
def tw12232606466521782519:=0
def tw3172449310473247999:=0
def tw3089860621086923081:=0
def tw5408444766424177724:=0
def tw9637440023657901947:=0
def tw780623311963188797:=0
def tw2434577471150101001:=0
def tw11859093294447228293:=0
def tw6978003390552058959:=0
def tw9743799072760149779:=0
def tw13807130211631059861:=0
def tw4921564402655793998:=0
def tw12527685936168882518:=0
def tw10553485524278118515:=0
def tw18355452348055328210:=0
def tw12416374334505882833:=0
def tw235919835998877730:=0
def tw9539008689987633783:=0
def tw13203486667165577363:=0
def tw12884600229867378244:=0
def tw16973732876506201623:=0
def tw11864602932046788026:=0
def tw4817881149341445832:=0
def tw17761624231455775487:=0
def tw3064724714723983349:=0
def tw3631151639907444954:=0
def tw4939981149877255313:=0
def tw4732660441286335194:=0
def tw4807138906127927276:=0
def tw2278002171573231676:=0
def tw16930490678519342495:=0
def tw9580536396349840545:=0
def tw9668744615241337935:=0
def tw3879224348582152716:=0
def tw4287231839730870696:=0
def tw3832621022350375556:=0
def tw8968726018877533790:=0
def tw15471669364881272143:=0
def tw13216797972934614667:=0
def tw12526148008252550902:=0
def tw4737495164043610757:=0
def tw18259930481517953596:=0
def tw11296083909082653103:=0
def tw17546482386490235487:=0
def tw15798809132520084920:=0
def tw9190161239637063838:=0
def tw16361220542073840308:=0
def tw4966937478645098810:=0
def tw18335836787640813009:=0
def tw5065949571121265701:=0
def tw707484449771056221:=0
def tw9277563937205701980:=0
def tw15929152067011812589:=0
def tw14097131230215009293:=0
def tw4032501878195376776:=0
def tw13748185452994780607:=0
def tw6815134759471612903:=0
def tw15209955734376183182:=0
def tw5819419207460871909:=0
def tw16584190264620727918:=0
def tw7553772799744314607:=0
def tw627758943424332270:=0
def tw4714148849160903110:=0
def tw5181964535647664346:=0
def tw10978106238333149209:=0
def tw18075441900061730285:=0
def tw6599214699694397422:=0
def tw14668794790646396457:=0
def tw11341439006269100362:=0
def tw5517073927028285456:=0
def tw17907862196921223007:=0
def tw3359318838966292623:=0
end PySem.W.Fast
open PySem PySem.W PyProof.Rows
theorem PySem.Challenge.cw_pacehall_k78_bars_both_ways_holds : PySem.Challenge.rw_pacehall_k78_bars_both_ways.Holds := by
 w_on;o_law;k_head;(case hw=>w_witness2)
 k_fill
 refine PH.Oo (l:=PySem.Challenge.rw_pacehall_k78_bars_both_ways) rfl rfl (λ w h Y=>PySem.W.kIn_of Y) ?F
 case F=>
  intro w mg fa h KX G hmg
  refine' PH.NF KX G hmg ?y0 ?y1 ?y2 ?y3 ?y4 ?y5 ?y6 ?y7 ?F0 ?F1 ?a2 ?F2 ?a3 ?F3 ?a4 ?F4 ?a5 ?F5 ?a6 ?F6 ?a7 ?F7 ?a8 ?F8 ?a9 ?F9 ?a10 ?F10 ?a11 ?F11 ?a12 ?F12 ?a13 ?F13 ?a14 ?F14 ?F15 ?F16 ?F17 ?F18 ?F19 ?F20 ?F21 ?F22 ?a23 ?F23 ?a24 ?F24 ?a25 ?F25 ?a26 ?F26 ?a27 ?F27 ?a28 ?F28 ?a29 ?F29 ?a30 ?F30 ?a31 ?F31 ?a32 ?F32 ?a33 ?F33 ?a34 ?F34 ?a35 ?F35 ?a36 ?F36 ?a37 ?F37 ?a38 ?F38 ?a39 ?F39 ?a40 ?F40 ?a41 ?F41 ?a42 ?F42 ?a43 ?F43 ?a44 ?F44 ?a45 ?F45 ?a46 ?F46 ?a47 ?F47 ?a48 ?F48 ?a49 ?F49 ?a50 ?F50 ?a51 ?F51 ?a52 ?F52 ?a53 ?F53 ?a54 ?l54 ?c54 ?k54 ?fi_TooMany ?xe_TooMany ?xf_TooMany ?xo_TooMany ?xs_TooMany ?xh_TooMany ?nt_TooMany_number ?nf_TooMany_number ?bs_PaceError ?br_PaceError ?bf_PaceError ?fi_Twice ?xe_Twice ?xf_Twice ?xo_Twice ?xs_Twice ?xh_Twice ?nt_Twice_one ?nf_Twice_one ?nt_Twice_other ?nf_Twice_other ?pg_View ?hd_View ?po_View ?sa_View ?nf_View_axes ?nf_View_first ?nf_View_room ?fi_View___init__ ?fn_View___init__ ?mm_View ?ck_View ?fi_View_sizes ?fn_View_sizes ?fi_View_paces ?fn_View_paces ?fi_View_count ?fn_View_count ?fi_View_cell ?fn_View_cell ?fi_View_cells ?fn_View_cells ?fi_View_least ?fn_View_least ?fi_View_greatest ?fn_View_greatest ?w0 ?w1 ?w2 ?w3 ?z0 ?z1 ?z2 ?z3 ?z4 ?z5 ?z6 ?z7 ?z8 ?z9 ?z10 ?z11 ?z12 ?z13 ?z14
  (case y0|y1|y2|y3|y4|y5|y6|y7|fi_TooMany|fi_Twice|fi_View___init__|fi_View_sizes=>first|k_is|k_exc|kts_exm|decide|rfl|decide +kernel|kernel_rfl)
  (case fi_View_paces|fi_View_count|fi_View_cell|fi_View_cells|fi_View_least|fi_View_greatest|a2|a3|a4|a5|a6|a7=>first|k_is|k_exc|kts_exm|decide|rfl|decide +kernel|kernel_rfl)
  (case a8|a9|a10|a11|a12|a13|a14|a23|a24|a25|a26|a27=>first|k_is|k_exc|kts_exm|decide|rfl|decide +kernel|kernel_rfl)
  (case a28|a29|a30|a31|a32|a33|a34|a35|a36|a37|a38|a39=>first|k_is|k_exc|kts_exm|decide|rfl|decide +kernel|kernel_rfl)
  (case a40|a41|a42|a43|a44|a45|a46|a47|a48|a49|a50|a51=>first|k_is|k_exc|kts_exm|decide|rfl|decide +kernel|kernel_rfl)
  (case a52|a53|a54=>first|k_is|k_exc|kts_exm|decide|rfl|decide +kernel|kernel_rfl)
  (case F0|F1|F2|F3|F4|F5|F6|F7|F8|F9|F10|F11=>(refine' L2.JV ?l ?c ?k;(case l|c|k=>first|k_is|k_exc|kts_exm|decide|rfl|decide +kernel|kernel_rfl)))
  (case F12|F13|F14|F15|F16|F17|F18|F19|F20|F21|F22|F23=>(refine' L2.JV ?l ?c ?k;(case l|c|k=>first|k_is|k_exc|kts_exm|decide|rfl|decide +kernel|kernel_rfl)))
  (case F24|F25|F26|F27|F28|F29|F30|F31|F32|F33|F34|F35=>(refine' L2.JV ?l ?c ?k;(case l|c|k=>first|k_is|k_exc|kts_exm|decide|rfl|decide +kernel|kernel_rfl)))
  (case F36|F37|F38|F39|F40|F41|F42|F43|F44|F45|F46|F47=>(refine' L2.JV ?l ?c ?k;(case l|c|k=>first|k_is|k_exc|kts_exm|decide|rfl|decide +kernel|kernel_rfl)))
  (case F48|F49|F50|F51|F52|F53=>(refine' L2.JV ?l ?c ?k;(case l|c|k=>first|k_is|k_exc|kts_exm|decide|rfl|decide +kernel|kernel_rfl)))
  (case l54|c54|k54|xe_TooMany|xf_TooMany|xo_TooMany|xs_TooMany|xh_TooMany|nt_TooMany_number|nf_TooMany_number|bs_PaceError|br_PaceError=>first|k_is|k_exc|kts_exm|decide|rfl|decide +kernel|kernel_rfl)
  (case bf_PaceError|xe_Twice|xf_Twice|xo_Twice|xs_Twice|xh_Twice|nt_Twice_one|nf_Twice_one|nt_Twice_other|nf_Twice_other|pg_View|hd_View=>first|k_is|k_exc|kts_exm|decide|rfl|decide +kernel|kernel_rfl)
  (case po_View|sa_View|nf_View_axes|nf_View_first|nf_View_room|fn_View___init__|mm_View|ck_View|fn_View_sizes|fn_View_paces|fn_View_count|fn_View_cell=>first|k_is|k_exc|kts_exm|decide|rfl|decide +kernel|kernel_rfl)
  (case fn_View_cells|fn_View_least|fn_View_greatest|w0|w1|w2|w3|z0|z1|z2|z3|z4=>first|k_is|k_exc|kts_exm|decide|rfl|decide +kernel|kernel_rfl)
  (case z5|z6|z7|z8|z9|z10|z11|z12|z13|z14=>first|k_is|k_exc|kts_exm|decide|rfl|decide +kernel|kernel_rfl)
#print axioms PySem.Challenge.cw_pacehall_k78_bars_both_ways_holds