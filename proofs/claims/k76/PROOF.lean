import PyProof.Rows.All
import Wide.All
import OpenK.AllK
import Wide.FinOn
import Lean
import PyProof.EqAt
import PyProof.EqKinds
import PyProof.TupleCall
import PySem.Challenge.RW_pacehall_k76_whole_none_of_all_orders
set_option Elab.async false
set_option linter.all false
set_option maxRecDepth 100000
set_option maxHeartbeats 0
open List (mem_cons_self mem_cons_of_mem mem_append_left getElem_inj mem_append_right length_cons map_cons length_map append_nil of_mem_zip length_take getElem?_append_right getElem?_append_left getElem?_map mem_of_getElem? length_append length_replicate size_toArray length_drop length_set any_cons replicate_succ foldl_cons length_singleton map_nil find?_cons cons_append getElem_mem getElem?_eq_getElem forIn_cons lookup_cons mem_cons not_mem_nil take_length all_eq_true getElem_of_mem forIn_nil nodup_cons nodup_nil getElem?_eq_none length_zip length_range eq_nil_of_length_eq_zero map_append take_add_one mem_of_mem_take foldl_append map_map sum_cons getD_eq_getElem?_getD all_map map_take)
namespace QL
def My:=@PySem.wpAny_bind
def Nw:=@List.getElem?_eq_getElem
def Nx:=@PySem.Heap.get?_push_of_some
def Ny:=@List.getElem?_eq_some_iff
def Nz:=@List.length_map
def NA:=@PySem.wpAny_pure
def NB:=@PySem.Heap.lt_size
def NC:=@List.mem_singleton
def ND:=@List.mem_map
def NF:=@Nat.le_refl
def NG:=@PySem.Heap.get?_push_size
def NH:=@List.mem_cons_of_mem
def NI:=@Option.map_eq_some_iff
def NJ:=@Int.toNat_natCast
def NK:=@List.mem_cons_self
def NL:=@List.getElem?_map
def NM:=@Ne.symm
def NN:=@List.not_mem_nil
def NO:=@Bool.false_ne_true
def NP:=@List.length_append
def NQ:=@Nat.ne_of_lt
def NR:=@List.mem_cons
def NS:=@Nat.lt_of_lt_of_le
def NT:=@decide_eq_true
def NU:=@Int.eq_ofNat_of_zero_le
def NV:=@Int.mul_le_mul_of_nonneg_right
def NW:=@PySem.PassesOwn.never
def NX:=@Option.some.inj
def NY:=@if_neg
def NZ:=@PySem.Heap.get?_update_other
def N2:=@List.mem_append
def N3:=@PySem.wpAny_seqItems
def N4:=@List.mem_append_right
def N5:=@List.size_toArray
def N6:=@List.mem_of_getElem?
def N7:=@if_pos
def N8:=@List.length_take
def N9:=@decide_eq_false
def Oa:=@PySem.Heap.size_push
def Ob:=@or_false
def Oc:=@List.mem_append_left
def Od:=@PySem.F.plainAttrs_list
def Oe:=@PySem.wpAny_field
def Of:=@PyProof.Rows.callWith_type1
def Og:=@PySem.W.mg_of
def Oh:=@List.getElem?_append_right
def Oi:=@List.mem_range
def Oj:=@List.length_range
def Ol:=@List.getD_eq_getElem?_getD
def Om:=@PySem.Heap.get?_update_self
def Oo:=@PySem.wpAny_setField_rec
def Oq:=@List.getElem?_append_left
def Ot:=@Int.mul_le_mul_of_nonneg_left
def Ou:=@Nat.lt_irrefl
def Ov:=@List.mem_filter
def Ow:=@List.length_cons
def Ox:=@Nat.ne_of_gt
def Oy:=@List.map_append
def Oz:=@of_decide_eq_true
def OA:=@List.map_map
def OB:=@List.eq_nil_of_length_eq_zero
def OC:=@Int.toNat_of_nonneg
def OD:=@Nat.le_add_right
def OE:=@List.take_length
def OF:=@PySem.wpAny_callSpecial?_slot
def OG:=@Int.emod_lt_of_pos
def OH:=@List.take_add_one
def OI:=@Nat.le_trans
def OJ:=@Int.zero_add
def OK:=@List.mem_of_mem_take
def OL:=@Nat.zero_le
def OM:=@congrArg
def ON:=@Int.mul_comm
def OO:=@PySem.F.slot_zip_next
def OP:=@List.map_cons
def OQ:=@List.length_singleton
def OR:=@PySem.wpAny_letGo
def OT:=@PySem.W.mg_none_of
def OU:=@Int.mul_assoc
def OV:=@Int.emod_nonneg
def OW:=@Nat.lt_succ_self
def OX:=@List.mem_flatMap
def OY:=@PySem.wpAny_updateSeq
def OZ:=@PySem.wpAny_holding
def O0:=@PySem.Around.under_plainId
def O1:=@List.getElem?_eq_none
def O2:=@PySem.wpAny_call_entry
def O3:=@PySem.wpAny_truthy_bool
def O4:=@PySem.wpAny_newObj_type
def O5:=@PySem.F.type_list_append
def O6:=@PySem.F.slot_list_append
def O7:=@Bool.false_eq_true
def O8:=@List.nodup_cons
def O9:=@List.length_replicate
def Pa:=@List.getElem_mem
def Pb:=@List.nodup_append
def Pc:=@Bool.eq_iff_iff
def Pd:=@List.take_of_length_le
def Pe:=@PySem.wpAny_tryCatch
def Pf:=@PySem.wpAny_pyIter_list
def Pg:=@List.all_eq_true
def Ph:=@List.findIdx?_eq_some_iff_getElem
def Pj:=@List.getElem?_zip_eq_some
def Pk:=@Int.mul_le_mul
def Pl:=@Int.add_mul
def Pm:=@PySem.wpAny_onRaise
def Pn:=@PySem.wpAny_Call_Name_kw
def Po:=@PySem.plainId_quiet
def Pp:=@beq_eq_false_iff_ne
def Pq:=@PySem.codeAny_builtin
def Pr:=@List.length_drop
def Pt:=@List.replicate_succ
def Pu:=@List.length_zip
def Pw:=@List.getElem_of_mem
def Px:=@PySem.F.plain_min_loop
def Py:=@PySem.F.plain_max_loop
def Pz:=@not_false_eq_true
def PB:=@List.pairwise_map
def PC:=@Int.emod_eq_of_lt
def PD:=@List.mem_of_mem_drop
def PF:=@List.lookup_cons
def PJ:=@PySem.wpAny_passesOwn
def PL:=@PySem.F.plain_extend_loop
def PM:=@Int.mul_nonneg
def PN:=@Array.getElem?_eq_getElem
def PQ:=@List.find?_cons
def PR:=@PySem.mem_of_lookup
def PU:=@List.flatMap_append
def PV:=@PySem.F.args_zip_next_1
def PX:=@Option.isSome_iff_exists
def PY:=@Nat.le_of_lt
def PZ:=@PySem.F.slot_tuple_iterator_next
def P0:=@List.nodup_nil
def P1:=@PySem.F.slot_tuple_hash
def P2:=@Option.map_some
def P4:=@List.pairwise_singleton
def P5:=@List.getElem?_replicate
def P6:=@Int.ediv_ediv_of_nonneg
def P7:=@PySem.F.entry_zip_next
def P8:=@List.of_mem_zip
def P9:=@List.forIn_cons
def Qa:=@List.foldl_cons
def Qb:=@not_or
def Qc:=@List.drop_of_length_le
def Qd:=@decide_eq_true_eq
def Qe:=@PyProof.Rows.slot_tuple_getitem
def Qf:=@Nat.lt_succ_of_lt
def Qg:=@Nat.le_succ
def Qh:=@List.flatten_cons
def Qi:=@List.flatMap_cons
def Qj:=@if_false
def Qk:=@PySem.wpAny_specialOf
def Ql:=@PySem.W.kia_one
def Qm:=@List.length_filter_le
def Qn:=@Int.zero_mul
def Qo:=@PySem.Calls.spliced_cons
def Qp:=@if_true
def Qq:=@Bool.and_eq_true
def Qr:=@Nat.mul_le_mul_right
def Qs:=@PySem.wpAny_rule
def Qt:=@List.dropLast_concat_getLast
def Qu:=@List.foldl_append
def Qv:=@List.map_congr_left
def Qw:=@Int.natCast_mul
def Qx:=@Array.length_toList
def Qy:=@PySem.wpAny_pyIter_zip
def Qz:=@Nat.lt_trans
def QA:=@List.zip_cons_cons
def QB:=@List.filter_append
def QC:=@PySem.wpAny_attempt
def QD:=@List.length_set
def QE:=@Classical.byContradiction
def QF:=@List.getElem_inj
def QG:=@PySem.F.type_list_extend
def QH:=@PySem.F.slot_list_extend
def QI:=@PySem.F.args_tuple_add_2
def QJ:=@PySem.F.entry_tuple_add
def QK:=@Int.mul_one
def QL:=@PySem.tupleKind_room_in1
def QM:=@PySem.codeAny_mono
def QN:=@beq_self_eq_true
def QO:=@Nat.min_eq_right
def QP:=@List.zipIdx_cons
def QQ:=@List.nodup_range
def QR:=@List.ext_getElem
def QS:=@PySem.F.slot_tuple_add
def QT:=@List.zipWith_cons_cons
def QU:=@List.forIn_nil
def QV:=@List.append_nil
def QW:=@PySem.wpAny_mono
def QX:=@PySem.F.slot_dict_get
def QY:=@Nat.min_eq_left
def QZ:=@List.zipIdx_nil
def Q0:=@List.take_append_drop
def Q1:=@Int.emod_add_mul_ediv
def Q2:=@PySem.Calls.spliced_nil
def Q3:=@List.cons_append
def Q4:=@beq_iff_eq
def Q5:=@PySem.Paired.length
def Q6:=@PySem.Moved.trans
def Q7:=@List.getElem?_set_ne
def Q8:=@PySem.wpAny_isInstance
def Q9:=@List.take_succ
def Ra:=@PySem.Heap.size_update
def Rb:=@Bool.false_and
def Rc:=@Option.some_ne_none
def Rf:=@List.length_reverse
def Rg:=@List.filterMap_cons
def Rh:=@Int.one_mul
def Ri:=@PySem.Calls.callWith_builtin
def Rj:=@PySem.wpAny_execs_nil
def Rk:=@List.map_take
def Rl:=@Option.toList_some
def Rm:=@List.map_drop
def Rn:=@List.getElem?_take
def Ro:=@List.all_cons
def Rp:=@Bool.true_and
def Rq:=@Bool.and_true
def Rr:=@PySem.call_meets
def Rt:=@PySem.Walks.list
def Ru:=@PySem.wpAny_updateSeq_pair
def Rv:=@Option.isSome_map
def Rw:=@List.ext_getElem?
def Rx:=@List.append_assoc
def Ry:=@PySem.Heap.get?_none_of_le
def Rz:=@PySem.wpAny_comprehension_free
def RA:=@Nat.succ.inj
def RB:=@Nat.le_total
def RC:=@PySem.Moved.drop_new
def RD:=@Int.pow_succ
def RE:=@Nat.le_of_not_lt
def RF:=@List.map_reverse
def RG:=@List.map_fst_zip
def RH:=@List.map_flatMap
def RI:=@List.flatMap_map
def RJ:=@List.any_eq_true
def RK:=@PySem.Heap.SameBut.update
def RL:=@PySem.wpAny_standAt
def RM:=@Nat.not_lt_zero
def RN:=@List.nil_append
def RO:=@List.cons.injEq
def RP:=@Int.add_mul_emod_self_right
end QL
open QL
namespace L2
open PySem PySem.Spec PyProof.Rows
abbrev Key:=Sum Int Str
def so:Key->Value->Bool
 | .inl k,v=>Value.isInt k v
 | .inr x,v=>Value.isStrOf x v
def Ni(w:World):Key->Int
 | .inl k=>hashInt k
 | .inr x=>hashStr w x
theorem bH:∀ {k:Key}{v:Value},so k v=true->(∃ i t,k=Sum.inl i/\v=Value.int i t)\/(∃ x t,k=Sum.inr x/\v=Value.str x t)
 | .inl i,v,h=>by
  obtain⟨t,e⟩:=Value.isInt_shape (k:=i) (v:=v) h;exact .inl ⟨i,t,rfl,e⟩
 | .inr x,v,h=>by
  obtain⟨t,e⟩:=Value.isStrOf_shape (x:=x) (v:=v) h;exact .inr ⟨x,t,rfl,e⟩
theorem xF(i:Int)(t:Tok):so (.inl i) (.int i t)=true:=by simp [so,Value.isInt]
theorem xE(x:Str)(t:Tok):so (.inr x) (.str x t)=true:=by simp [so,Value.isStrOf]
theorem Js(a b:Int):decide ((Sum.inl a:Key)=Sum.inl b)=(a == b):=by
 by_cases e:a=b
 ·subst e;simp
 ·have h:¬ (Sum.inl a:Key)=Sum.inl b:=λ q=>e (Sum.inl.inj q);rw [N9 h];exact(Pp.mpr e).symm
theorem Jp(a b:Str):decide ((Sum.inr a:Key)=Sum.inr b)=decide (a=b):=by
 by_cases e:a=b
 ·subst e;simp
 ·have h:¬ (Sum.inr a:Key)=Sum.inr b:=λ q=>e (Sum.inr.inj q);rw [N9 h,N9 e]
theorem Jr(a:Int)(b:Str):decide ((Sum.inl a:Key)=Sum.inr b)=false:=N9 (λ q=>nomatch q)
theorem Jq(a:Str)(b:Int):decide ((Sum.inr a:Key)=Sum.inl b)=false:=N9 (λ q=>nomatch q)
def cA(prog:Program)(w:World):PySem.KeyKind prog w Key where
 is:=so
 hash:=Ni w
 inj:=λ v a b ha hb=>by
  rcases bH ha with ⟨i,t,rfl,rfl⟩|⟨x,t,rfl,rfl⟩
  ·rcases bH hb with ⟨j,u,rfl,e⟩|⟨y,u,rfl,e⟩
   ·injection e with e1 _;rw [e1]
   ·exact nomatch e
  ·rcases bH hb with ⟨j,u,rfl,e⟩|⟨y,u,rfl,e⟩
   ·exact nomatch e
   ·injection e with e1 _;rw [e1]
 byValue:=λ k v h=>by
  rcases bH h with ⟨i,t,rfl,rfl⟩|⟨x,t,rfl,rfl⟩<;>rfl
 pyHash:=λ hv h=>by
  rcases bH hv with ⟨i,t,rfl,rfl⟩|⟨x,t,rfl,rfl⟩
  ·exact wpAny_pyHash_int h
  ·exact wpAny_pyHash_str h
 eqBool:=λ hu hv h=>by
  rcases bH hu with ⟨i,t,rfl,rfl⟩|⟨x,t,rfl,rfl⟩
  ·rcases bH hv with ⟨j,u,rfl,rfl⟩|⟨y,u,rfl,rfl⟩
   ·rw [Js] at h;exact wpAny_eqBool_int h
   ·rw [Jr] at h;exact SeqAt.EqAt.int_str i t y u _ _ _ _ h
  ·rcases bH hv with ⟨j,u,rfl,rfl⟩|⟨y,u,rfl,rfl⟩
   ·rw [Jq] at h;exact SeqAt.EqAt.str_int x t j u _ _ _ _ h
   ·rw [Jp] at h;exact wpAny_eqBool_str h
 «strs»:=λ k x t v h=>by
  rcases bH h with ⟨i,u,rfl,e⟩|⟨y,u,rfl,e⟩
  ·exact nomatch e
  ·injection e with e1 _
   subst e1
   cases v<;>rfl
theorem qp(prog:Program)(w:World)(i:Int)(t:Tok):(cA prog w).is (.inl i) (.int i t)=true:=xF i t
theorem qo(prog:Program)(w:World)(x:Str)(t:Tok):(cA prog w).is (.inr x) (.str x t)=true:=xE x t
inductive V where
 | non|bl (b:Bool)|int (i:Int)|str (x:Str)|byt (b:Array UInt8)|flt (b:UInt64)|ref (a:Addr)|ty (n:String)
 deriving DecidableEq
def bT:V->Value->Prop
 | .non,u=>u=Value.none
 | .bl b,u=>u=Value.bool b
 | .int i,u=>∃ t,u=Value.int i t
 | .str x,u=>∃ t,u=Value.str x t
 | .byt b,u=>∃ t,u=Value.bytes b t
 | .flt b,u=>∃ t,u=Value.float b t
 | .ref a,u=>u=Value.ref a
 | .ty n,u=>u=Value.type n
abbrev bq:List V->List Value->Prop:=Paired bT
theorem bq.length{xs:List V}{us:List Value}(r:bq xs us):xs.length=us.length:=Q5 r
theorem bq.get:∀ {xs:List V}{us:List Value}{i:Nat}{x:V},bq xs us->xs[i]? = some x->∃ u,us[i]? = some u/\bT x u
 | _,_,_,_,.nil,e=>by simp at e
 | _,_,0,_,.cons r _,e=>by simp at e;subst e;exact⟨_,rfl,r⟩
 | _,_,i+1,x,.cons _ t,e=>by
  obtain⟨u,h1,h2⟩:=bq.get (i:=i) (x:=x) t (by simpa using e);exact⟨u,by simpa using h1,h2⟩
theorem bq.set{x:V}{u:Value}(r:bT x u):∀ {xs:List V}{us:List Value}(i:Nat),bq xs us->bq (xs.set i x) (us.set i u)
 | _,_,_,.nil=>.nil
 | _,_,0,.cons _ t=>.cons r t
 | _,_,i+1,.cons q t=>.cons q (bq.set r i t)
theorem bq.append:∀ {xs ys:List V}{us ws:List Value},bq xs us->bq ys ws->bq (xs++ys) (us++ws)
 | _,_,_,_,.nil,s=>s
 | _,_,_,_,.cons r t,s=>.cons r (bq.append t s)
theorem bq.take:∀ {xs:List V}{us:List Value}(n:Nat),bq xs us->bq (xs.take n) (us.take n)
 | _,_,0,_=>.nil
 | _,_,_+1,.nil=>.nil
 | _,_,n+1,.cons r t=>.cons r (bq.take n t)
theorem bq.drop:∀ {xs:List V}{us:List Value}(n:Nat),bq xs us->bq (xs.drop n) (us.drop n)
 | _,_,0,r=>r
 | _,_,_+1,.nil=>.nil
 | _,_,n+1,.cons _ t=>bq.drop n t
def nc:Option V->Option Value->Prop
 | some v,some u=>bT v u
 | none,none=>True
 | _,_=>False
def KV{κ:Type}:List (κ × V)->List (κ × Value)->Prop:=Paired λ (p:κ × V) (q:κ × Value)=>p.1=q.1/\bT p.2 q.2
def kV:Key->V
 | .inl i=>.int i
 | .inr x=>.str x
inductive HO where
 | lst (xs:List V)
 | tup (xs:List V)
 | dK (kvs:List (Key × V))|dT (kvs:List (List Key × V))
 | set (S:Int->Bool) (n:Nat)
 | ins (C dx:Addr) (fs:List (Str × V))
 | own (x:Addr)
 | xd (fs:List (Str × V))
 | met (f x:Addr)
 | rng (lo hi:Int)
 | frz (o:Obj) (u:HO)
 | tbl (ps:Array Value)
 | ext (φ:Heap->Prop)
abbrev Hp:=Addr->Option HO
def upd(H:Hp)(a:Addr)(o:HO):Hp:=λ b=>if b=a then some o else H b
theorem au{H:Hp}{a:Addr}{o:HO}:upd H a o a=some o:=by unfold upd;rw [if_pos rfl]
theorem ag{H:Hp}{a b:Addr}{o:HO}(h:b ≠ a):upd H a o b=H b:=by unfold upd;rw [if_neg h]
theorem CH{H:Hp}{a:Addr}{o u:HO}:upd (upd H a o) a u=upd H a u:=by
 funext b;unfold upd;split<;>rfl
theorem K5{H:Hp}{a b:Addr}{o u:HO}(h:H a=some o)(h':H b=some u)(d:o ≠ u):a ≠ b:=by
 intro e;subst e;rw [h] at h';exact d (NX h')
theorem cF{H:Hp}{a b:Addr}{o:HO}(h:H a=some o)(h':H b=none):a ≠ b:=by
 intro e;subst e;rw [h] at h';cases h'
section
variable (P:Program)(w:World)
def cu(H:Hp)(h:Heap)(a:Addr):HO->Prop
 | .lst xs=>xs.length<=sizeLine/\∃ (its:List Value) (n:Nat),bq xs its/\h.get? a=some { cls:=.type "list",data:=.seq its.toArray n }
 | .tup xs=>xs.length<=sizeLine/\∃ its:List Value,bq xs its/\IsTup h a its.toArray
 | .dK kvs=>kvs.length<=sizeLine/\(a == sysModules)=false/\∃ vs,KV kvs vs/\h.DictOf (cA P w) a vs
 | .dT kvs=>kvs.length<=sizeLine/\(a == sysModules)=false/\∃ xs:List (List Key × Addr × Value),
   Paired (λ (p:List Key × V) (q:List Key × Addr × Value)=>p.1=q.1/\H q.2.1=some (.tup (p.1.map kV))/\bT p.2 q.2.2) kvs xs /\
   ∃ o es ep,h.get? a=some o/\o.ExactDict/\o.data=.dict es ep/\es.toList=xs.map (entryOfKey (tupleKind (cA P w)))/\(xs.map (·.1)).Nodup
 | .set S n=>h.SetOf (intKind P w) a S n
 | .ins C dx fs=>H dx=some (.own a)/\fs.length<=1000/\dx ≠ a/\h.get? a=some (W.instObj C dx) /\
   ∃ mA,h.Ns1 dx mA/\(∀ f,nc (fs.lookup f) (mA f))/\PySem.Within mA (fs.map (·.1))
 | .own _=>∃ o,h.get? a=some o
 | .xd fs=>∃ mA,h.Ns1 a mA/\∀ f,nc (fs.lookup f) (mA f)
 | .rng lo hi=>∃ t u v,h.get? a=some { cls:=.type "range",data:=.fields #[.int lo t,.int hi u,.int 1 v] }
 | .frz o u=>h.get? a=some o/\cu H h a u
 | .tbl ps=>h.get? a=some { cls:=.none,data:=.fields ps }
 | .met f x=>h.get? a=some (W.methodObj (.ref f) (.ref x))
 | .ext φ=>φ h/\(∃ o,h.get? a=some o)/\∀ h1 h2:Heap,φ h1->(∀ o,h1.get? a=some o->h2.get? a=some o)->φ h2
def HOk(H:Hp)(h:Heap):Prop:=∀ a o,H a=some o->cu P w H h a o
end
section
variable {P:Program}{w:World}{H H':Hp}{h h':Heap}{a:Addr}{o:HO}
theorem cu.lt(x:cu P w H h a o):a < h.objs.size:=by
 cases o with
 | lst xs=>obtain⟨_,_,_,_,e⟩:=x;exact NB e
 | tup xs=>obtain⟨_,_,_,p⟩:=x;exact p.lt
 | dK kvs=>obtain⟨_,_,_,_,o,_,_,e,_⟩:=x;exact NB e
 | dT kvs=>obtain⟨_,_,_,_,o,_,_,e,_⟩:=x;exact NB e
 | set S n=>obtain⟨o,_,_,_,e,_⟩:=x;exact NB e
 | ins C dx fs=>obtain⟨_,_,_,e,_⟩:=x;exact NB e
 | own y=>obtain⟨_,e⟩:=x;exact NB e
 | xd fs=>obtain⟨_,⟨_,_,_,e,_⟩,_⟩:=x;exact NB e
 | rng lo hi=>obtain⟨_,_,_,e⟩:=x;exact NB e
 | frz ob u=>obtain⟨e,_⟩:=x;exact NB e
 | tbl ps=>exact NB (show h.get? a=some _ from x)
 | met f y=>exact NB (show h.get? a=some _ from x)
 | ext φ=>obtain⟨_,⟨_,e⟩,_⟩:=x;exact NB e
theorem Paired.mapP{α β:Type}{F G:α->β->Prop}:∀ {l₁:List α}{l₂:List β},Paired F l₁ l₂->(∀ a b,F a b->G a b)->Paired G l₁ l₂
 | _,_,.nil,_=>.nil
 | _,_,.cons r t,f=>.cons (f _ _ r) (Paired.mapP t f)
theorem cu.stay(x:cu P w H h a o)(k:∀ b u,(b=a\/H b=some (.own a))->h.get? b=some u->h'.get? b=some u)
  (ho:∀ b,H b=some (.own a)->H' b=some (.own a)) (ht:∀ b xs,H b=some (.tup xs)->H' b=some (.tup xs)):cu P w H' h' a o:=by
 induction o with
 | lst xs=>obtain⟨z,its,n,r,e⟩:=x;exact⟨z,its,n,r,k _ _ (.inl rfl) e⟩
 | tup xs=>obtain⟨z,its,r,ob,e,c⟩:=x;exact⟨z,its,r,ob,k _ _ (.inl rfl) e,c⟩
 | dK kvs=>obtain⟨z,y,vs,r,ob,es,ep,e,c⟩:=x;exact⟨z,y,vs,r,ob,es,ep,k _ _ (.inl rfl) e,c⟩
 | dT kvs=>
  obtain⟨z,y,xs,r,ob,es,ep,e,c⟩:=x;exact⟨z,y,xs,Paired.mapP r λ p q z=>⟨z.1,ht _ _ z.2.1,z.2.2⟩,ob,es,ep,k _ _ (.inl rfl) e,c⟩
 | set S n=>obtain⟨ob,es,ep,t,e,c⟩:=x;exact⟨ob,es,ep,t,k _ _ (.inl rfl) e,c⟩
 | ins C dx fs=>
  obtain⟨d,z,ne,e,mA,⟨od,es,ep,e2,c⟩,r⟩:=x;exact⟨ho _ d,z,ne,k _ _ (.inl rfl) e,mA,⟨od,es,ep,k _ _ (.inr d) e2,c⟩,r⟩
 | own y=>obtain⟨ob,e⟩:=x;exact⟨ob,k _ _ (.inl rfl) e⟩
 | xd fs=>obtain⟨mA,⟨od,es,ep,e,c⟩,r⟩:=x;exact⟨mA,⟨od,es,ep,k _ _ (.inl rfl) e,c⟩,r⟩
 | rng lo hi=>obtain⟨t,u,v,e⟩:=x;exact⟨t,u,v,k _ _ (.inl rfl) e⟩
 | frz ob u ih=>obtain⟨e,q⟩:=x;exact⟨k _ _ (.inl rfl) e,ih q⟩
 | tbl ps=>
  have e:h.get? a=some { cls:=.none,data:=.fields ps }:=x
  show h'.get? a=some { cls:=.none,data:=.fields ps }
  exact k a _ (.inl rfl) e
 | met f y=>
  have e:h.get? a=some (W.methodObj (.ref f) (.ref y)):=x
  show h'.get? a=some (W.methodObj (.ref f) (.ref y))
  exact k a _ (.inl rfl) e
 | ext φ=>obtain⟨p,⟨o,e⟩,st⟩:=x;exact⟨st _ _ p λ o q=>k _ _ (.inl rfl) q,⟨o,k _ _ (.inl rfl) e⟩,st⟩
theorem HOk.lt(x:HOk P w H h)(e:H a=some o):a < h.objs.size:=(x a o e).lt
theorem HOk.fresh(x:HOk P w H h)(e:h.objs.size<=a):H a=none:=by
 cases q:H a with
 | none=>rfl
 | some u=>exact absurd (NS (x.lt q) e) (Ou _)
theorem HOk.kept(x:HOk P w H h)(k:∀ b u,h.get? b=some u->h'.get? b=some u):HOk P w H h':=λ a o e=>
 (x a o e).stay (λ b u _ q=>k b u q) (λ _ q=>q) λ _ _ q=>q
theorem HOk.laid(x:HOk P w H h)(k:∀ b u,h.get? b=some u->h'.get? b=some u)(hp:h.objs.size<=a)(new:cu P w (upd H a o) h' a o):HOk P w (upd H a o) h':=λ b u e=>by
 have hn:=x.fresh hp
 by_cases hb:b=a
 ·subst hb;rw [au] at e;cases e;exact new
 ·rw [ag hb] at e;exact(x b u e).stay (λ c v _ q=>k c v q) (λ c q=>by rw [ag (cF q hn)];exact q) λ c xs q=>by rw [ag (cF q hn)];exact q
end
def Rd(H:Hp)(a:Addr)(u:HO):Prop:=H a=some u\/∃ o,H a=some (.frz o u)
theorem Rd.ok{P:Program}{w:World}{H:Hp}{h:Heap}{a:Addr}{u:HO}(r:Rd H a u)(x:HOk P w H h):cu P w H h a u:=by
 rcases r with r|⟨o,r⟩
 ·exact x a u r
 ·obtain⟨_,q⟩:=x a _ r;exact q
def Mut:Option HO->Prop
 | some (.lst _)=>True
 | some (.dK _)=>True
 | some (.dT _)=>True
 | some (.set _ _)=>True
 | some (.ins _ _ _)=>True
 | some (.ext _)=>True
 | _=>False
section
variable {P:Program}{w:World}{H:Hp}{h h':Heap}{x e:Addr}{o':HO}
theorem HOk.write(ok:HOk P w H h)(mu:Mut (H x))(he:e=x\/H e=some (.own x))(k:∀ b u,b ≠ e->h.get? b=some u->h'.get? b=some u)(heo:∃ u,h'.get? e=some u)
  (new:cu P w (upd H x o') h' x o'):HOk P w (upd H x o') h':=λ b u q=>by
 have nown:∀ c y,H c=some (.own y)->c ≠ x:=λ c y r z=>by subst z;rw [r] at mu;exact mu
 have ntup:∀ c xs,H c=some (.tup xs)->c ≠ x:=λ c xs r z=>by subst z;rw [r] at mu;exact mu
 by_cases hb:b=x
 ·subst hb;rw [au] at q;cases q;exact new
 ·rw [ag hb] at q
  by_cases hbe:b=e
  ·have q':H b=some (.own x):=by
    rcases he with z|z
    ·exact absurd (hbe.trans z) hb
    ·rw [hbe];exact z
   rw [q] at q';cases q';obtain⟨v,hv⟩:=heo;exact⟨v,by rw [hbe];exact hv⟩
  ·refine(ok b u q).stay (λ c v hc r=>k c v ?_ r) (λ c r=>by rw [ag (nown c b r)];exact r) λ c xs r=>by rw [ag (ntup c xs r)];exact r
   rcases hc with rfl|hc
   ·exact hbe
   ·rintro rfl
    rcases he with z|z
    ·exact nown c b hc z
    ·rw [hc] at z;cases z;exact hb rfl
end
structure Un(fs ex:List Addr)(H H':Hp)(h h':Heap):Prop where
 keep:∀ b o,h.get? b=some o->H b=none->b ∉ fs->b ∉ ex->h'.get? b=some o
 slot:∀ b o,h.get? b=some o->H b=none->b∈fs->b ∉ ex->∃ sl,h'.get? b=some { o with slots:=sl }
 free:∀ b o,h.get? b=some o->H b=none->b ∉ ex->H' b=none
 there:∀ b o,h.get? b=some o->b ∉ ex->∃ o',h'.get? b=some o'
 tups:∀ b xs,H b=some (.tup xs)->H' b=some (.tup xs)
 frzs:∀ b o u,H b=some (.frz o u)->H' b=some (.frz o u)
 tbls:∀ b ps,H b=some (.tbl ps)->∃ more,H' b=some (.tbl (ps++more))
section
variable {fs fs' ex ex':List Addr}{H H1 H2:Hp}{h h1 h2 h':Heap}{a x e:Addr}{o:HO}
theorem Un.any(u:Un fs ex H H1 h h1){b:Addr}{ob:Obj}(q:h.get? b=some ob)(n:H b=none)(hx:b ∉ ex):∃ sl,h1.get? b=some { ob with slots:=sl }:=by
 by_cases hb:b∈fs
 ·exact u.slot b ob q n hb hx
 ·exact⟨ob.slots,u.keep b ob q n hb hx⟩
theorem Un.trans(a:Un fs ex H H1 h h1)(b:Un fs ex H1 H2 h1 h2):Un fs ex H H2 h h2 where
 keep:=λ c ob q n hc hx=>b.keep c ob (a.keep c ob q n hc hx) (a.free c ob q n hx) hc hx
 slot:=λ c ob q n hc hx=>by
  obtain⟨sl,e1⟩:=a.slot c ob q n hc hx;obtain⟨sl',e2⟩:=b.slot c _ e1 (a.free c ob q n hx) hc hx;exact⟨sl',e2⟩
 free:=λ c ob q n hx=>by
  obtain⟨o',e1⟩:=a.there c ob q hx;exact b.free c o' e1 (a.free c ob q n hx) hx
 there:=λ c ob q hx=>by
  obtain⟨o',e1⟩:=a.there c ob q hx;exact b.there c o' e1 hx
 tups:=λ c xs q=>b.tups c xs (a.tups c xs q)
 frzs:=λ c ob xs q=>b.frzs c ob xs (a.frzs c ob xs q)
 tbls:=λ c ps q=>by
  obtain⟨m1,e1⟩:=a.tbls c ps q;obtain⟨m2,e2⟩:=b.tbls c _ e1;exact⟨m1++m2,by rw [e2,Array.append_assoc]⟩
theorem Un.kept(k:∀ b u,h.get? b=some u->h'.get? b=some u):Un fs ex H H h h':=
 ⟨λ b ob q _ _ _=>k b ob q,λ b ob q _ _ _=>⟨ob.slots,k b ob q⟩,λ _ _ _ n _=>n,λ b ob q _=>⟨ob,k b ob q⟩,λ _ _ q=>q,λ _ _ _ q=>q,λ _ ps q=>⟨#[],by rw [q];simp⟩⟩
theorem Un.refl:Un fs ex H H h h:=Un.kept λ _ _ q=>q
theorem Un.laid(k:∀ b u,h.get? b=some u->h'.get? b=some u)(hp:h.objs.size<=a)(hn:H a=none):Un fs ex H (upd H a o) h h' where
 keep:=λ b u q _ _ _=>k b u q
 slot:=λ b u q _ _ _=>⟨u.slots,k b u q⟩
 free:=λ b u q n _=>by rw [ag (NQ (NS (NB q) hp))];exact n
 there:=λ b u q _=>⟨u,k b u q⟩
 tups:=λ b xs q=>by rw [ag (cF q hn)];exact q
 frzs:=λ b u xs q=>by rw [ag (cF q hn)];exact q
 tbls:=λ b ps q=>⟨#[],by rw [ag (cF q hn),q];simp⟩
theorem Un.write(mu:Mut (H x))(he:e=x\/H e=some (.own x))(k:∀ b u,b ≠ e->h.get? b=some u->h'.get? b=some u)(heo:∃ u,h'.get? e=some u):Un fs ex H (upd H x o) h h':=by
 have hx:∀ b,H b=none->b ≠ x:=λ b n z=>by subst z;rw [n] at mu;exact mu
 have hb:∀ b,H b=none->b ≠ e:=λ b n z=>by
  subst z
  rcases he with r|r
  ·exact hx b n r
  ·rw [n] at r;cases r
 have hm:∀ b u,H b=some u->¬ Mut (some u)->b ≠ x:=λ b u q nm z=>by subst z;rw [q] at mu;exact nm mu
 refine⟨λ b u q n _ _=>k b u (hb b n) q,λ b u q n _ _=>⟨u.slots,k b u (hb b n) q⟩,λ b u q n _=>by rw [ag (hx b n)];exact n,λ b u q _=>?_,
  λ b xs q=>by rw [ag (hm b _ q λ z=>z)];exact q,λ b u xs q=>by rw [ag (hm b _ q λ z=>z)];exact q,λ b ps q=>⟨#[],by rw [ag (hm b _ q λ z=>z),q];simp⟩⟩
 by_cases hbe:b=e
 ·subst hbe;exact heo
 ·exact⟨u,k b u hbe q⟩
end
def trk(h:Heap)(H:Hp):List Addr:=(List.range h.objs.size).filter λ a=>(H a).isSome
def yl(h:Heap)(H:Hp):Heap:=W.hideAll h (trk h H)
theorem xM(h:Heap)(H:Hp):(yl h H).objs.size=h.objs.size:=W.hideAll_size _ _
theorem AB{h:Heap}{H:Hp}{b:Addr}{o:Obj}(e:h.get? b=some o)(n:H b=none):(yl h H).get? b=some o:=
 W.hideAll_get _ e λ hm=>by
  have q:(H b).isSome=true:=(Ov.mp hm).2;rw [n] at q;simp at q
theorem DC{h:Heap}{H:Hp}{b:Addr}{o:Obj}(e:(yl h H).get? b=some o):h.get? b=some o/\H b=none:=by
 have e':h.get? b=some o:=W.of_hideAll (trk h H) e;refine⟨e',?_⟩
 cases q:H b with
 | none=>rfl
 | some x=>
  have hm:b∈trk h H:=Ov.mpr ⟨Oi.mpr (NB e'),by simp [q]⟩;have z:(yl h H).get? b=none:=W.hideAll_none (trk h H) hm;rw [z] at e;cases e
def Fq(g h:Heap)(L:Addr):List (Addr × Obj):=(List.range h.objs.size).filterMap λ a=>if a=L\/(g.get? a).isSome=true then none else (h.get? a).map λ o=>(a,o)
def nk(g h:Heap)(L d:Addr):List (Addr × Obj):=(Fq g h L).filter λ p=>decide (p.1 ≠ d)
structure Mod(K:W.Frag)(mg:Str->Option Value)(base:Heap):Prop where
 kin:K.In base
 glob:base.Ns mainGlobals mg
 blt:∃ mb,base.Ns builtinsNs mb/\∀ x:Str,x ≠ "__name__" → mb x=bootBuiltins x
 nolimit:base.NoLimit
structure Cx where
 prog:Program
 w:World
 K:W.Frag
 mg:Str->Option Value
 base:Heap
 A:Around
 N:List Str
 s₀:Shared
 H₀:Hp
 env:Env
 outer:List Env
 stack:List Env
 ex:List Addr
 fn:Str->Bool
 calm:Bool
 pn:List (Addr × Obj)
 xe:Value->Shared->Prop
def frs(l:List Env):List Addr:=l.filterMap (·.frame)
abbrev Cx.fs(X:Cx):List Addr:=frs X.outer
def Vis(sc:Scope)(x:Str):Prop:=sc.names.lookup x=some .local\/sc.names.lookup x=some .cell\/sc.names.lookup x=some .free
def Loc(sc:Scope)(x:Str):Prop:=sc.names.lookup x=some .local\/sc.names.lookup x=some .cell
def Nq(env:Env)(h:Heap)(m:Str->Option Value)(x:Str)(u:Value):Prop:=
 (env.kindOf x=some .local/\m x=some u)\/((env.kindOf x=some .cell\/env.kindOf x=some .free)/\∃ c,env.cells.lookup x=some c/\h.IsCell c (some u))
structure Cx.Ok(X:Cx):Prop where
 mod:Mod X.K X.mg X.base
 kind:X.env.scope.kind=.function
 glob:X.env.globals=mainGlobals
 blt:X.env.builtins=builtinsNs
 above:X.s₀.heap.objs.size<=X.env.locals
 inj:∀ x y c,X.env.cells.lookup x=some c->X.env.cells.lookup y=some c->x=y
 has:∀ x,(X.env.kindOf x=some .cell\/X.env.kindOf x=some .free)->∃ c,X.env.cells.lookup x=some c
 cab:∀ x c,X.fn x=true->X.env.cells.lookup x=some c->X.s₀.heap.objs.size<=c
 hd:X.calm=true->X.A.handled=none
 frames:X.A.frames=some X.stack
 stk:X.stack=X.outer\/(X.stack=X.env::X.outer/\X.env.frame=some X.env.locals)
 exf:∀ b∈X.ex,b ≠ X.env.locals/\∀ x c,X.env.cells.lookup x=some c->c ≠ b
 bs:∀ b o,X.base.get? b=some o->X.s₀.heap.get? b=some o/\X.H₀ b=none
 bsz:X.base.objs.size<=X.s₀.heap.objs.size
 noex:∀ b o,X.base.get? b=some o->b ∉ X.ex
 exfs:∀ b∈X.ex,b ∉ X.fs
 funs:X.s₀.heap.FunFrames X.base X.outer
 frf:∀ b∈X.fs,X.H₀ b=none
structure Inv(X:Cx)(pins:List (Addr × Obj))(σ:List (Option V))(H:Hp)(s:Shared):Prop where
 ok:X.Ok
 os:s.os=X.s₀.os
 bare:AllBare s.gens
 base:Un X.fs X.ex X.H₀ H X.s₀.heap s.heap
 loc:∃ m,s.heap.Ns X.env.locals m/\∀ (i:Nat) (x:Str) (v:V),X.N[i]? = some x->σ[i]? = some (some v)->Vis X.env.scope x->∃ u,bT v u/\Nq X.env s.heap m x u
 cell:∀ x c,X.env.cells.lookup x=some c->∃ v,s.heap.IsCell c v
 free:H X.env.locals=none
 freeC:∀ x c,X.env.cells.lookup x=some c->H c=none
 pin:∀ p∈X.pn++pins,s.heap.get? p.1=some p.2/\H p.1=none/\p.1 ≠ X.env.locals/\p.1 ∉ X.fs/\∀ v,p.2.data ≠ .cell v
 hok:HOk X.prog X.w H s.heap
 len:σ.length=X.N.length
section
variable {X:Cx}{pins:List (Addr × Obj)}{σ:List (Option V)}{H H':Hp}{s:Shared}{h':Heap}
theorem Cx.Ok.nofr(ok:X.Ok){b:Addr}{o:Obj}(e:X.base.get? b=some o):b ∉ X.fs:=λ hb=>by
 have:=(ok.funs.mem hb).1;rw [e] at this;cases this
theorem Inv.bs(I:Inv X pins σ H s):∀ b o,X.base.get? b=some o->s.heap.get? b=some o/\H b=none:=λ b o e=>
 ⟨I.base.keep b o (I.ok.bs b o e).1 (I.ok.bs b o e).2 (I.ok.nofr e) (I.ok.noex b o e),I.base.free b o (I.ok.bs b o e).1 (I.ok.bs b o e).2 (I.ok.noex b o e)⟩
theorem Inv.bk(I:Inv X pins σ H s):∀ b o,X.base.get? b=some o->s.heap.get? b=some o:=λ b o e=>(I.bs b o e).1
theorem Inv.mod(I:Inv X pins σ H s):Mod X.K X.mg X.base:=I.ok.mod
theorem Inv.kIn(I:Inv X pins σ H s):X.K.In s.heap:=I.ok.mod.kin.keeps I.bk
theorem Inv.lt(I:Inv X pins σ H s):X.env.locals < s.heap.objs.size:=let ⟨_,hn,_⟩:=I.loc;hn.lt
theorem Inv.sz(I:Inv X pins σ H s):X.s₀.heap.objs.size<=s.heap.objs.size:=OI I.ok.above (PY I.lt)
theorem Inv.nofs(I:Inv X pins σ H s){a:Addr}(h:s.heap.objs.size<=a):a ∉ X.fs:=λ hb=>by
 obtain⟨_,o,ho,_⟩:=I.ok.funs.mem hb;exact absurd (NS (NB ho) (OI I.sz h)) (Ou _)
theorem Inv.cne(I:Inv X pins σ H s):∀ x c,X.env.cells.lookup x=some c->c ≠ X.env.locals:=λ x c e z=>by
 obtain⟨v,o,ho,hd⟩:=I.cell x c e;obtain⟨m,⟨o',es,ep,ho',hd',_⟩,_⟩:=I.loc;rw [z,ho'] at ho;cases ho;rw [hd'] at hd;cases hd
theorem Inv.funs(I:Inv X pins σ H s):s.heap.FunFrames X.base X.outer:=by
 have all:∀ (l:List Env),(∀ b∈frs l,b∈X.fs)->X.s₀.heap.FunFrames X.base l->s.heap.FunFrames X.base l:=by
  intro l
  induction l with
  | nil=>intro _ _;trivial
  | cons env r ih=>
   intro hs hl;obtain⟨hk,⟨L,o,hf,hn,ho,hd⟩,hr⟩:=hl;have hL:L∈X.fs:=hs L (by unfold frs;rw [List.filterMap_cons,hf];exact mem_cons_self);obtain⟨sl,e⟩:=I.base.slot L o ho (I.ok.frf L hL) hL λ z=>I.ok.exfs L z hL;exact⟨hk,⟨L,_,hf,hn,e,hd⟩,ih (λ b hb=>hs b (by unfold frs;rw [List.filterMap_cons,hf];exact mem_cons_of_mem _ hb)) hr⟩
 exact all X.outer (λ _ hb=>hb) I.ok.funs
theorem Inv.stack(I:Inv X pins σ H s):s.heap.FunFrames X.base X.stack:=by
 rcases I.ok.stk with e|⟨e,hf⟩
 ·rw [e];exact I.funs
 ·rw [e];obtain⟨m,hn,_⟩:=I.loc;refine .cons (by rw [I.ok.kind];decide) hf hn ?_ I.funs;exact Ry (OI I.ok.bsz I.ok.above)
theorem Inv.stkSub(I:Inv X pins σ H s):∀ b∈frs X.stack,b∈X.env.locals::X.fs:=λ b hb=>by
 rcases I.ok.stk with e|⟨e,hf⟩
 ·rw [e] at hb;exact NH _ hb
 ·rw [e] at hb;unfold frs at hb;rw [List.filterMap_cons,hf] at hb;exact hb
theorem Inv.stkFree(I:Inv X pins σ H s):∀ b∈frs X.stack,H b=none:=λ b hb=>by
 rcases NR.mp (I.stkSub b hb) with e|hb
 ·rw [e];exact I.free
 ·obtain⟨_,o,ho,_⟩:=I.ok.funs.mem hb;exact I.base.free b o ho (I.ok.frf b hb) λ z=>I.ok.exfs b z hb
theorem Inv.step{g':Array GenState}{t':Nat}{d':Drawn}{ch:List Addr}(I:Inv X pins σ H s)
  (hch:∀ b∈ch,(b∈X.ex\/X.s₀.heap.objs.size<=b)/\b ≠ X.env.locals/\(∀ x c,X.env.cells.lookup x=some c->c ≠ b)/\∀ p∈X.pn++pins,p.1 ≠ b)
  (keep:∀ b o,b ≠ X.env.locals->b ∉ X.fs->b ∉ ch->s.heap.get? b=some o->H b=none->h'.get? b=some o)
  (slot:∀ b o,b ≠ X.env.locals->b∈X.fs->b ∉ ch->s.heap.get? b=some o->H b=none->∃ sl,h'.get? b=some { o with slots:=sl }) (free:∀ b o,b ∉ ch->s.heap.get? b=some o->H b=none->H' b=none)
  (there:∀ b o,b ∉ ch->s.heap.get? b=some o->∃ o',h'.get? b=some o')
  (tups:∀ b xs,H b=some (.tup xs)->H' b=some (.tup xs)) (frzs:∀ b o u,H b=some (.frz o u)->H' b=some (.frz o u)) (tbls:∀ b ps,H b=some (.tbl ps)->∃ more,H' b=some (.tbl (ps++more)))
  (ns:∀ m,s.heap.Ns X.env.locals m->h'.Ns X.env.locals m) (hok:HOk X.prog X.w H' h') (hg:AllBare g') :
  Inv X pins σ H' { s with heap:=h',gens:=g',drawn:=d',toks:=t' }:=by
 have neL:∀ b o,X.s₀.heap.get? b=some o->b ≠ X.env.locals:=λ b o e=>NQ (NS (NB e) I.ok.above)
 have neC:∀ b o,X.s₀.heap.get? b=some o->b ∉ X.ex->b ∉ ch:=λ b o e hx hb=>by
  rcases (hch b hb).1 with z|z
  ·exact hx z
  ·exact absurd (NS (NB e) z) (Ou _)
 have cellK:∀ x c,X.env.cells.lookup x=some c->∀ v,s.heap.IsCell c v->h'.IsCell c v:=λ x c e v ⟨o,ho,hd⟩=>by
  have nch:c ∉ ch:=λ z=>(hch c z).2.2.1 x c e rfl
  by_cases hc:c∈X.fs
  ·obtain⟨sl,q⟩:=slot c o (I.cne x c e) hc nch ho (I.freeC x c e);exact⟨_,q,hd⟩
  ·exact⟨o,keep c o (I.cne x c e) hc nch ho (I.freeC x c e),hd⟩
 refine⟨I.ok,I.os,hg,⟨λ b o e n hb hx=>?_,λ b o e n hb hx=>?_,λ b o e n hx=>?_,λ b o e hx=>?_,λ b xs e=>tups b xs (I.base.tups b xs e),λ b o xs e=>frzs b o xs (I.base.frzs b o xs e),λ b ps e=>?_⟩,?_,λ x c e=>?_,?_,λ x c e=>?_,λ p hp=>?_,hok,I.len⟩
 ·exact keep b o (neL b o e) hb (neC b o e hx) (I.base.keep b o e n hb hx) (I.base.free b o e n hx)
 ·obtain⟨sl,e1⟩:=I.base.slot b o e n hb hx;obtain⟨sl',e2⟩:=slot b _ (neL b o e) hb (neC b o e hx) e1 (I.base.free b o e n hx);exact⟨sl',e2⟩
 ·obtain⟨o',e1⟩:=I.base.there b o e hx;exact free b o' (neC b o e hx) e1 (I.base.free b o e n hx)
 ·obtain⟨o',e1⟩:=I.base.there b o e hx;exact there b o' (neC b o e hx) e1
 ·obtain⟨m1,e1⟩:=I.base.tbls b ps e;obtain⟨m2,e2⟩:=tbls b _ e1;exact⟨m1++m2,by rw [e2,Array.append_assoc]⟩
 ·obtain⟨m,hn,hl⟩:=I.loc;refine⟨m,ns m hn,λ i x v e1 e2 e3=>?_⟩;obtain⟨u,r,l⟩:=hl i x v e1 e2 e3;refine⟨u,r,?_⟩
  rcases l with l|⟨k,c,e,z⟩
  ·exact .inl l
  ·exact .inr ⟨k,c,e,cellK x c e _ z⟩
 ·obtain⟨v,z⟩:=I.cell x c e;exact⟨v,cellK x c e v z⟩
 ·obtain⟨m,⟨o,_,_,ho,_⟩,_⟩:=I.loc;exact free _ o (λ z=>(hch _ z).2.1 rfl) ho I.free
 ·obtain⟨v,o,ho,hd⟩:=I.cell x c e;exact free c o (λ z=>(hch c z).2.2.1 x c e rfl) ho (I.freeC x c e)
 ·obtain⟨e,n,ne,nf,d⟩:=I.pin p hp;have nch:p.1 ∉ ch:=λ z=>(hch p.1 z).2.2.2 p hp rfl;exact⟨keep p.1 p.2 ne nf nch e n,free p.1 p.2 nch e n,ne,nf,d⟩
theorem Inv.un{t':Nat}(I:Inv X pins σ H s)(u:Un X.fs [] H H' s.heap h')(hok:HOk X.prog X.w H' h'):Inv X pins σ H' { s with heap:=h',toks:=t' }:=by
 obtain⟨m,⟨o,es,ep,ho,r⟩,_⟩:=id I.loc;obtain⟨sl,hL⟩:=u.any ho I.free (by simp)
 exact I.step (g':=s.gens) (d':=s.drawn) (ch:=[]) (λ _ z=>nomatch z) (λ b o _ hb _ e n=>u.keep b o e n hb (by simp)) (λ b o _ hb _ e n=>u.slot b o e n hb (by simp)) (λ b o _ e n=>u.free b o e n (by simp)) (λ b o _ e=>u.there b o e (by simp)) u.tups u.frzs u.tbls (λ m' hm=>by
  obtain⟨o',es',ep',ho',r'⟩:=hm;rw [ho] at ho';cases ho';exact⟨_,es',ep',hL,r'⟩) hok I.bare
theorem Inv.call{g':Array GenState}{t':Nat}{d':Drawn}{ch:List Addr}(I:Inv X pins σ H s)(u:Un (frs X.stack) ch H H' s.heap h')(hok:HOk X.prog X.w H' h')(hg:AllBare g')
  (hch:∀ b∈ch,(b∈X.ex\/X.s₀.heap.objs.size<=b)/\b ≠ X.env.locals/\(∀ x c,X.env.cells.lookup x=some c->c ≠ b)/\∀ p∈X.pn++pins,p.1 ≠ b) :
  Inv X pins σ H' { s with heap:=h',gens:=g',drawn:=d',toks:=t' }:=by
 obtain⟨m,⟨o,es,ep,ho,r⟩,_⟩:=id I.loc;obtain⟨sl,hL⟩:=u.any ho I.free λ z=>(hch _ z).2.1 rfl
 exact I.step (ch:=ch) hch (λ b o hL hb hc e n=>u.keep b o e n (λ z=>(NR.mp (I.stkSub b z)).elim hL hb) hc) (λ b o _ _ hc e n=>u.any e n hc) (λ b o hc e n=>u.free b o e n hc) (λ b o hc e=>u.there b o e hc) u.tups u.frzs u.tbls (λ m' hm=>by
  obtain⟨o',es',ep',ho',r'⟩:=hm;rw [ho] at ho';cases ho';exact⟨_,es',ep',hL,r'⟩) hok hg
theorem Inv.turned{t':Nat}{it:Addr}(I:Inv X pins σ H s)(k:∀ b o,b ≠ it->s.heap.get? b=some o->h'.get? b=some o)(hn:H it=none)(hL:it ≠ X.env.locals)
  (h1:it∈X.ex\/X.s₀.heap.objs.size<=it) (h2:∀ x c,X.env.cells.lookup x=some c->c ≠ it) (h3:∀ p∈X.pn++pins,p.1 ≠ it):Inv X pins σ H { s with heap:=h',toks:=t' }:=by
 have nit:∀ b u,H b=some u->b ≠ it:=λ b u e z=>by rw [z,hn] at e;cases e
 refine I.step (g':=s.gens) (d':=s.drawn) (ch:=[it]) (λ b hb=>?_) (λ b o _ _ hc e _=>k b o (λ z=>hc (by simp [z])) e) (λ b o _ _ hc e _=>⟨o.slots,k b o (λ z=>hc (by simp [z])) e⟩) (λ _ _ _ _ n=>n)
  (λ b o hc e=>⟨o,k b o (λ z=>hc (by simp [z])) e⟩) (λ _ _ e=>e) (λ _ _ _ e=>e) (λ b ps e=>⟨#[],by rw [e];simp⟩) (λ m hm=>?_) (λ b u e=>?_) I.bare
 ·have e:b=it:=by simpa using hb
  subst e;exact⟨h1,hL,h2,h3⟩
 ·obtain⟨o,es,ep,ho,r⟩:=hm;exact⟨o,es,ep,k _ o (NM hL) ho,r⟩
 ·refine(I.hok b u e).stay (λ c v hc q=>k c v ?_ q) (λ _ q=>q) λ _ _ q=>q
  rcases hc with z|z
  ·rw [z];exact nit b u e
  ·exact nit c _ z
theorem Inv.tok(I:Inv X pins σ H s)(t:Nat):Inv X pins σ H { s with toks:=t }:=I.un (h':=s.heap) (t':=t) Un.refl I.hok
theorem Inv.kept{t':Nat}(I:Inv X pins σ H s)(k:∀ b u,s.heap.get? b=some u->h'.get? b=some u):Inv X pins σ H { s with heap:=h',toks:=t' }:=I.un (Un.kept k) (I.hok.kept k)
theorem Inv.laid{a:Addr}{o:HO}{t':Nat}(I:Inv X pins σ H s)(k:∀ b u,s.heap.get? b=some u->h'.get? b=some u)(hp:s.heap.objs.size<=a)(new:cu X.prog X.w (upd H a o) h' a o) :
  Inv X pins σ (upd H a o) { s with heap:=h',toks:=t' }:=I.un (Un.laid k hp (I.hok.fresh hp)) (I.hok.laid k hp new)
theorem Inv.write{x e:Addr}{o:HO}{t':Nat}(I:Inv X pins σ H s)(mu:Mut (H x))(he:e=x\/H e=some (.own x))(k:∀ b u,b ≠ e->s.heap.get? b=some u->h'.get? b=some u)(heo:∃ u,h'.get? e=some u)
  (new:cu X.prog X.w (upd H x o) h' x o):Inv X pins σ (upd H x o) { s with heap:=h',toks:=t' }:=I.un (Un.write mu he k heo) (I.hok.write mu he k heo new)
theorem Inv.weak{σ':List (Option V)}(I:Inv X pins σ H s)(hl:σ'.length=σ.length)(w:∀ (i:Nat) v,σ'[i]? = some (some v)->σ[i]? = some (some v)):Inv X pins σ' H s:=
 ⟨I.ok,I.os,I.bare,I.base,let ⟨m,hn,hl'⟩:=I.loc;⟨m,hn,λ i x v e1 e2 e3=>hl' i x v e1 (w i v e2) e3⟩,I.cell,I.free,I.freeC,I.pin,I.hok,hl.trans I.len⟩
theorem Inv.pins_of{pins':List (Addr × Obj)}(I:Inv X pins σ H s)(h:∀ p∈pins',s.heap.get? p.1=some p.2/\H p.1=none/\p.1 ≠ X.env.locals/\p.1 ∉ X.fs/\∀ v,p.2.data ≠ .cell v):Inv X pins' σ H s:=
 ⟨I.ok,I.os,I.bare,I.base,I.loc,I.cell,I.free,I.freeC,λ p hp=>(N2.mp hp).elim (λ z=>I.pin p (Oc _ z)) (h p),I.hok,I.len⟩
theorem rG{N:List Str}(hN:N.Nodup){i j:Nat}{x:Str}(a:N[i]? = some x)(b:N[j]? = some x):i=j:=by
 obtain⟨h1,e1⟩:=Ny.mp a;obtain⟨h2,e2⟩:=Ny.mp b;exact(QF hN).mp (e1.trans e2.symm)
theorem nL{M:Model}{A:Around}{E:Value->Shared->Prop}{i:Nat}{x:Str}{v:V}{u:Value}{Q:Unit->Shared->Prop}(I:Inv X pins σ H s)(hN:X.N.Nodup)(hi:X.N[i]? = some x)(hx:Loc X.env.scope x)(r:bT v u)
  (h:∀ s',Inv X pins (σ.set i (some v)) H s'->(∃ a,Heap.SameBut a s.heap s'.heap/\(a=X.env.locals\/X.env.cells.lookup x=some a))->Q () s') (hf:X.fn x=true\/X.env.scope.names.lookup x=some .local:=by first|exact .inl rfl|exact .inr rfl|assumption):wpAny M A (storeName X.env x u) Q E s:=by
 obtain⟨m,hn,hl⟩:=id I.loc;have hcls:(X.env.scope.kind == .class || (X.env.scope.kind == .module && X.env.locals != X.env.globals))=false:=by rw [I.ok.kind];rfl
 have hiσ:i < σ.length:=by rw [I.len];exact(Ny.mp hi).1
 have cne:=I.cne
 have tracked:∀ {a:Addr} {h':Heap},(∃ o,s.heap.get? a=some o/\H a=none)->Heap.SameBut a s.heap h'->HOk X.prog X.w H h':=λ {a h'} ha hs b ob e=>by
  obtain⟨_,_,hfree⟩:=ha;refine(I.hok b ob e).stay (λ c w' hc q=>(hs.2 c ?_).trans q) (λ _ q=>q) λ _ _ q=>q;rintro rfl
  rcases hc with rfl|hc
  ·rw [hfree] at e;cases e
  ·rw [hfree] at hc;cases hc
 rcases hx with hk|hk
 ·refine wpAny_storeName_local hk hn (λ h' hn' hs=>?_) hcls;obtain⟨oL,_,_,hoL,_⟩:=id hn;refine h _ ⟨I.ok,I.os,I.bare,⟨λ b o e n hb hx=>?_,λ b o e n hb hx=>?_,I.base.free,λ b o e hx=>?_,I.base.tups,I.base.frzs,I.base.tbls⟩,⟨_,hn',λ j y v' e1 e2 e3=>?_⟩,λ y c e=>?_,I.free,I.freeC,λ p hp=>?_,tracked ⟨oL,hoL,I.free⟩ hs,by simpa using I.len⟩ ⟨_,hs,.inl rfl⟩
  ·exact(hs.2 b (NQ (NS (NB e) I.ok.above))).trans (I.base.keep b o e n hb hx)
  ·obtain⟨sl,e1⟩:=I.base.slot b o e n hb hx;exact⟨sl,(hs.2 b (NQ (NS (NB e) I.ok.above))).trans e1⟩
  ·obtain⟨o',e1⟩:=I.base.there b o e hx;exact⟨o',(hs.2 b (NQ (NS (NB e) I.ok.above))).trans e1⟩
  ·by_cases hj:j=i
   ·subst hj;rw [hi] at e1;cases e1;rw [List.getElem?_set_self hiσ] at e2;cases e2;exact⟨u,r,.inl ⟨hk,by simp⟩⟩
   ·rw [Q7 (NM hj)] at e2;obtain⟨u',r',q⟩:=hl j y v' e1 e2 e3;refine⟨u',r',?_⟩
    rcases q with ⟨k,e⟩|⟨k,c,e,z⟩
    ·refine .inl ⟨k,?_⟩;have:y ≠ x:=λ e=>hj (rG hN e1 (e ▸ hi));simp [this,e]
    ·exact .inr ⟨k,c,e,z.sameBut hs (cne y c e)⟩
  ·obtain⟨w',z⟩:=I.cell y c e;exact⟨w',z.sameBut hs (cne y c e)⟩
  ·obtain⟨e,n,ne,nf,d⟩:=I.pin p hp;exact⟨(hs.2 p.1 ne).trans e,n,ne,nf,d⟩
 ·have hfn:X.fn x=true:=by
   rcases hf with z|z
   ·exact z
   ·rw [z] at hk;cases hk
  obtain⟨c,hc⟩:=I.ok.has x (.inl hk);obtain⟨w',z⟩:=I.cell x c hc;refine wpAny_storeName_cell I.ok.kind hk hc z (λ h' hc' hs=>?_);obtain⟨oc,hoc,hocd⟩:=id z;refine h { s with heap:=h' } ⟨I.ok,I.os,I.bare,⟨λ b o e n hb hx=>?_,λ b o e n hb hx=>?_,I.base.free,λ b o e hx=>?_,I.base.tups,I.base.frzs,I.base.tbls⟩,⟨m,hn.sameBut hs (NM (cne x c hc)),λ j y v' e1 e2 e3=>?_⟩,λ y c' e=>?_,I.free,I.freeC,λ p hp=>?_,tracked ⟨oc,hoc,I.freeC x c hc⟩ hs,by simpa using I.len⟩ ⟨c,hs,.inr hc⟩
  ·exact(hs.2 b (NQ (NS (NB e) (I.ok.cab x c hfn hc)))).trans (I.base.keep b o e n hb hx)
  ·obtain⟨sl,e1⟩:=I.base.slot b o e n hb hx;exact⟨sl,(hs.2 b (NQ (NS (NB e) (I.ok.cab x c hfn hc)))).trans e1⟩
  ·obtain⟨o',e1⟩:=I.base.there b o e hx;exact⟨o',(hs.2 b (NQ (NS (NB e) (I.ok.cab x c hfn hc)))).trans e1⟩
  ·by_cases hj:j=i
   ·subst hj;rw [hi] at e1;cases e1;rw [List.getElem?_set_self hiσ] at e2;cases e2;exact⟨u,r,.inr ⟨.inl hk,c,hc,hc'⟩⟩
   ·rw [Q7 (NM hj)] at e2;obtain⟨u',r',q⟩:=hl j y v' e1 e2 e3;refine⟨u',r',?_⟩
    rcases q with q|⟨k,c',e,z'⟩
    ·exact .inl q
    ·refine .inr ⟨k,c',e,z'.sameBut hs ?_⟩;rintro rfl;exact hj (rG hN e1 (I.ok.inj _ _ _ e hc ▸ hi))
  ·by_cases hcc:c'=c
   ·subst hcc;exact⟨_,hc'⟩
   ·obtain⟨w2,z2⟩:=I.cell y c' e;exact⟨w2,z2.sameBut hs hcc⟩
  ·obtain⟨e,n,ne,nf,d⟩:=I.pin p hp;refine⟨(hs.2 p.1 ?_).trans e,n,ne,nf,d⟩;intro q;rw [q,hoc] at e;have q':oc=p.2:=NX e;exact d w' (by rw [←q'];exact hocd)
theorem rm{M:Model}{A:Around}{E:Value->Shared->Prop}{i:Nat}{x:Str}{v:V}{u:Value}{Q:Unit->Shared->Prop}(I:Inv X pins σ H s)(hN:X.N.Nodup)(hi:X.N[i]? = some x)(hx:Loc X.env.scope x)(r:bT v u)
  (h:∀ s',Inv X pins (σ.set i (some v)) H s'->Q () s') (hf:X.fn x=true\/X.env.scope.names.lookup x=some .local:=by first|exact .inl rfl|exact .inr rfl|assumption):wpAny M A (storeName X.env x u) Q E s:=
 nL I hN hi hx r (λ s' I' _=>h s' I') hf
theorem Inv.call'{s':Shared}{ch:List Addr}(I:Inv X pins σ H s)(ho:s'.os=s.os)(u:Un (frs X.stack) ch H H' s.heap s'.heap)(hok:HOk X.prog X.w H' s'.heap)(hg:AllBare s'.gens)
  (hch:∀ b∈ch,(b∈X.ex\/X.s₀.heap.objs.size<=b)/\b ≠ X.env.locals/\(∀ x c,X.env.cells.lookup x=some c->c ≠ b)/\∀ p∈X.pn++pins,p.1 ≠ b):Inv X pins σ H' s':=by
 obtain⟨h',g',d',t',o'⟩:=s';have e:o'=s.os:=ho;subst e;exact I.call (g':=g') (t':=t') (d':=d') u hok hg hch
end
abbrev XK:=Value->Option Addr->Hp->Prop
abbrev St:=List (Option V)
abbrev VK:=V->Hp->Prop
abbrev TE:=St->Hp->VK->Prop
abbrev TT:=St->Hp->(Bool->Hp->Prop)->Prop
abbrev TA:=St->Hp->(List V->Hp->Prop)->Prop
structure qK where
 nx:St->Hp->Prop
 rt:VK
 bk:St->Hp->Prop:=λ _ _=>False
 ct:St->Hp->Prop:=λ _ _=>False
abbrev TS:=qK->St->Hp->Prop
def EP(X:Cx)(pins:List (Addr × Obj))(σ:St)(Q:VK)(u:Value)(s':Shared):Prop:=∃ v H',Inv X pins σ H' s'/\bT v u/\Q v H'
def TP(X:Cx)(pins:List (Addr × Obj))(σ:St)(Q:Bool->Hp->Prop)(b:Bool)(s':Shared):Prop:=∃ H',Inv X pins σ H' s'/\Q b H'
def AP(X:Cx)(pins:List (Addr × Obj))(σ:St)(Q:List V->Hp->Prop)(us:List Value)(s':Shared):Prop:=∃ vs H',Inv X pins σ H' s'/\bq vs us/\Q vs H'
def SP(X:Cx)(pins:List (Addr × Obj))(D:qK)(f:Flow)(s':Shared):Prop:=
 match f with
 | .next=>∃ σ' H',Inv X pins σ' H' s'/\D.nx σ' H'
 | .brk=>∃ σ' H',Inv X pins σ' H' s'/\D.bk σ' H'
 | .cont=>∃ σ' H',Inv X pins σ' H' s'/\D.ct σ' H'
 | .ret u=>∃ v σ' H',Inv X pins σ' H' s'/\bT v u/\D.rt v H'
def PE(X:Cx)(e:Expr)(t:TE):Prop:=
 ∀ (pins:List (Addr × Obj)) (s:Shared) (σ:St) (H:Hp) (Q:VK),Inv X pins σ H s->t σ H Q->wpAny (model X.prog X.w) X.A (eval e X.env) (EP X pins σ Q) X.xe s
def PT(X:Cx)(e:Expr)(t:TT):Prop:=
 ∀ (pins:List (Addr × Obj)) (s:Shared) (σ:St) (H:Hp) (Q:Bool->Hp->Prop),Inv X pins σ H s->t σ H Q->wpAny (model X.prog X.w) X.A (isTrue e X.env (eval e X.env)) (TP X pins σ Q) X.xe s
def PW(X:Cx)(e:Expr)(t:TT):Prop:=
 ∀ (whole:Sem Value) (pins:List (Addr × Obj)) (s:Shared) (σ:St) (H:Hp) (Q:Bool->Hp->Prop),Inv X pins σ H s->t σ H Q->wpAny (model X.prog X.w) X.A (isTrue e X.env whole) (TP X pins σ Q) X.xe s
theorem PW.pt{X:Cx}{e:Expr}{t:TT}(h:PW X e t):PT X e t:=h _
def PA(X:Cx)(es:List Expr)(t:TA):Prop:=
 ∀ (pos:Pos) (pins:List (Addr × Obj)) (s:Shared) (σ:St) (H:Hp) (Q:List V->Hp->Prop),Inv X pins σ H s->t σ H Q->wpAny (model X.prog X.w) X.A (spliced (backTo pos (starEach es X.env))) (AP X pins σ Q) X.xe s
def PS(X:Cx)(st:Stmt)(t:TS):Prop:=
 ∀ (pins:List (Addr × Obj)) (s:Shared) (σ:St) (H:Hp) (D:qK),Inv X pins σ H s->t D σ H->wpAny (model X.prog X.w) X.A (exec st X.env) (SP X pins D) X.xe s
def PSs(X:Cx)(st:List Stmt)(t:TS):Prop:=
 ∀ (pins:List (Addr × Obj)) (s:Shared) (σ:St) (H:Hp) (D:qK),Inv X pins σ H s->t D σ H->wpAny (model X.prog X.w) X.A (execs st X.env) (SP X pins D) X.xe s
theorem thn{α:Type}{t:Sem α}{Q Q':α->Shared->Prop}{M:Model}{A:Around}{E:Value->Shared->Prop}{s:Shared}(h:wpAny M A t Q E s)(hQ:∀ a s,Q a s->Q' a s):wpAny M A t Q' E s:=QW h hQ λ _ _ x=>x
section
variable {X:Cx}
def JJ(i:Nat):TE:=λ σ H Q=>∃ v,σ[i]? = some (some v)/\Q v H
def tC(v:V):TE:=λ _ H Q=>Q v H
theorem Hs{i:Nat}{x:Str}{pos:Pos}(hN:X.N[i]? = some x)(hv:Vis X.env.scope x)(hd:(x == ("__debug__":Str))=false:=by decide)(hcd:(x == ("__classdict__":Str))=false:=by decide):PE X (.Name x pos) (JJ i):=by
 intro pins s σ H Q I h;obtain⟨v,e,h⟩:=h;obtain⟨m,hn,hl⟩:=I.loc;obtain⟨u,r,l⟩:=hl i x v hN e hv;have fin:EP X pins σ Q u s:=⟨v,H,I,r,h⟩
 rcases l with ⟨hk,hm⟩|⟨hk,c,hc,hcell⟩
 ·exact wpAny_Name (wpAny_loadName_local I.ok.kind hk hn hm fin) hd
 ·rcases hk with hk|hk
  ·exact wpAny_Name (wpAny_loadName_cell I.ok.kind hk hc hcell fin) hd
  ·exact wpAny_Name (wpAny_loadName_free I.ok.kind hk hc hcell fin hcd) hd
theorem fi{i j pos}:PE X (.Constant (.int i) j pos) (tC (.int i)):=λ _ _ _ H _ I h=>wpAny_Constant_int ⟨.int i,H,I.tok _,⟨_,rfl⟩,h⟩
theorem nu{b j pos}:PE X (.Constant (.bool b) j pos) (tC (.bl b)):=λ _ _ _ H _ I h=>Constant_bool ⟨.bl b,H,I,rfl,h⟩
theorem qT{j pos}:PE X (.Constant .none j pos) (tC .non):=λ _ _ _ H _ I h=>Constant_none ⟨.non,H,I,rfl,h⟩
theorem qS{x j pos}:PE X (.Constant (.str x) j pos) (tC (.str x)):=λ _ _ _ H _ I h=>Calls.Constant_str ⟨.str x,H,I.tok _,⟨_,rfl⟩,h⟩
def Gl(X:Cx)(x:Str):Prop:=X.env.kindOf x=some .globalImplicit
theorem pX{E:Value->Shared->Prop}{pins:List (Addr × Obj)}{s:Shared}{σ:St}{H:Hp}{x:Str}{u:Value}{pos:Pos}{Q:Value->Shared->Prop}(I:Inv X pins σ H s)(hg:Gl X x)(hm:X.mg x=some u)(h:Q u s)
  (hd:(x == ("__debug__":Str))=false:=by decide):wpAny (model X.prog X.w) X.A (eval (.Name x pos) X.env) Q E s:=
 Calls.Name_function_global I.ok.kind hg (Calls.loadGlobal_global (by rw [I.ok.glob];exact I.mod.glob.keeps I.bk) hm h) hd
theorem eC{E:Value->Shared->Prop}{pins:List (Addr × Obj)}{s:Shared}{σ:St}{H:Hp}{x:Str}{u:Value}{pos:Pos}{Q:Value->Shared->Prop}(I:Inv X pins σ H s)(hg:Gl X x)(hm:X.mg x=none)(hv:bootBuiltins x=some u)(h:Q u s)
  (hn:x ≠ "__name__":=by decide) (hd:(x == ("__debug__":Str))=false:=by decide):wpAny (model X.prog X.w) X.A (eval (.Name x pos) X.env) Q E s:=by
 obtain⟨mb,h1,h2⟩:=I.mod.blt;exact Calls.Name_function_global I.ok.kind hg (Calls.loadGlobal_builtin (by rw [I.ok.glob];exact I.mod.glob.keeps I.bk) hm (by rw [I.ok.blt];exact h1.keeps I.bk) ((h2 x hn).trans hv) h) hd
theorem lV{x:Str}{v:V}{u:Value}{pos:Pos}(hg:Gl X x)(hm:X.mg x=some u)(r:bT v u)(hd:(x == ("__debug__":Str))=false:=by decide):PE X (.Name x pos) (tC v):=
 λ _ _ _ H _ I h=>pX I hg hm ⟨v,H,I,r,h⟩ hd
theorem gd{x:Str}{v:V}{u:Value}{pos:Pos}(hg:Gl X x)(hm:X.mg x=none)(hv:bootBuiltins x=some u)(r:bT v u)(hn:x ≠ "__name__":=by decide)(hd:(x == ("__debug__":Str))=false:=by decide):PE X (.Name x pos) (tC v):=
 λ _ _ _ H _ I h=>eC I hg hm hv ⟨v,H,I,r,h⟩ hn hd
variable {a b:Expr}{ta tb:TE}{pos:Pos}
def tB(t:TE):TT:=λ σ H Q=>t σ H λ x H1=>∃ c,x=.bl c/\Q c H1
theorem Hl{e:Expr}{t:TE}(h:PE X e t)(he:∀ whole,isTrue e X.env whole=(do let v ←whole;standAt e.pos;holding [v] (truthy v)):=by intro _;rfl):PT X e (tB t):=by
 intro pins s σ H Q I hw;refine isTrue_plain (thn (h pins s σ H _ I hw) λ v s1 ⟨x,H1,I1,r1,q1⟩=>?_) (he _);obtain⟨d,rfl,q⟩:=q1;cases r1;exact O3 ⟨H1,I1,q⟩
variable {tA tB':TT}{nk:List Expr}
def L7(t u:TT):TT:=λ σ H Q=>t σ H λ c H1=>if c=true then u σ H1 Q else Q false H1
def tOr(t u:TT):TT:=λ σ H Q=>t σ H λ c H1=>if c=true then Q true H1 else u σ H1 Q
def L3(t:TT):TT:=λ σ H Q=>t σ H λ c H1=>Q (!c) H1
theorem pU(ha:PT X a tA):PW X (.BoolOp .And [a] pos) tA:=by
 intro wh pins s σ H Q I h;refine isTrue_and (thn (ha pins s σ H Q I h) λ c s1 e=>?_)
 cases c with
 | true=>exact isTrue_and_nil e
 | false=>exact e
theorem kC(ha:PT X a tA):PW X (.BoolOp .Or [a] pos) tA:=by
 intro wh pins s σ H Q I h;refine isTrue_or (thn (ha pins s σ H Q I h) λ c s1 e=>?_)
 cases c with
 | false=>exact isTrue_or_nil e
 | true=>exact e
theorem uD(ha:PT X a tA)(hb:PW X (.BoolOp .And (b::nk) pos) tB'):PW X (.BoolOp .And (a::b::nk) pos) (L7 tA tB'):=by
 intro wh pins s σ H Q I h;refine isTrue_and (thn (ha pins s σ H _ I h) λ c s1 ⟨H1,I1,q1⟩=>?_)
 cases c with
 | true=>exact hb wh pins s1 σ H1 Q I1 q1
 | false=>exact⟨H1,I1,q1⟩
theorem KR(ha:PT X a tA)(hb:PW X (.BoolOp .Or (b::nk) pos) tB'):PW X (.BoolOp .Or (a::b::nk) pos) (tOr tA tB'):=by
 intro wh pins s σ H Q I h;refine isTrue_or (thn (ha pins s σ H _ I h) λ c s1 ⟨H1,I1,q1⟩=>?_)
 cases c with
 | true=>exact⟨H1,I1,q1⟩
 | false=>exact hb wh pins s1 σ H1 Q I1 q1
theorem ia(ha:PT X a tA):PT X (.UnaryOp .Not a pos) (L3 tA):=by
 intro pins s σ H Q I h;exact isTrue_not (ha pins s σ H (λ c H1=>Q (!c) H1) I h)
def Gf(ta tb:TE):TE:=λ σ H Q=>ta σ H λ x H1=>∃ c,x=.bl c/\if c=true then tb σ H1 Q else Q (.bl false) H1
def L1(ta tb:TE):TE:=λ σ H Q=>ta σ H λ x H1=>∃ c,x=.bl c/\if c=true then Q (.bl true) H1 else tb σ H1 Q
def FZ(ta:TE):TE:=λ σ H Q=>ta σ H λ x H1=>∃ c,x=.bl c/\Q (.bl (!c)) H1
theorem Ht{op}{t:TE}(h:PE X a t):PE X (.BoolOp op [a] pos) t:=λ pins s σ H Q I hw=>BoolOp_one (h pins s σ H Q I hw)
theorem Hv(ha:PE X a ta)(hb:PE X (.BoolOp .And (b::nk) pos) tb):PE X (.BoolOp .And (a::b::nk) pos) (Gf ta tb):=by
 intro pins s σ H Q I h;refine BoolOp_and (thn (ha pins s σ H _ I h) λ v s1 ⟨x,H1,I1,r1,q1⟩=>?_);obtain⟨c,rfl,q1⟩:=q1;cases r1;refine O3 ?_
 cases c with
 | true=>exact hb pins s1 σ H1 Q I1 q1
 | false=>exact⟨.bl false,H1,I1,rfl,q1⟩
theorem KU(ha:PE X a ta)(hb:PE X (.BoolOp .Or (b::nk) pos) tb):PE X (.BoolOp .Or (a::b::nk) pos) (L1 ta tb):=by
 intro pins s σ H Q I h;refine BoolOp_or (thn (ha pins s σ H _ I h) λ v s1 ⟨x,H1,I1,r1,q1⟩=>?_);obtain⟨c,rfl,q1⟩:=q1;cases r1;refine O3 ?_
 cases c with
 | false=>exact hb pins s1 σ H1 Q I1 q1
 | true=>exact⟨.bl true,H1,I1,rfl,q1⟩
theorem Hu(ha:PE X a ta):PE X (.UnaryOp .Not a pos) (FZ ta):=by
 intro pins s σ H Q I h;refine UnaryOp_ (thn (ha pins s σ H _ I h) λ v s1 ⟨x,H1,I1,r1,q1⟩=>?_);obtain⟨c,rfl,q1⟩:=q1;cases r1;exact not_of (O3 ⟨.bl (!c),H1,I1,rfl,q1⟩)
def tIf(t:TT)(ta tb:TE):TE:=λ σ H Q=>t σ H λ c H1=>if c=true then ta σ H1 Q else tb σ H1 Q
theorem zr{c:Expr}(hc:PT X c tA)(ha:PE X a ta)(hb:PE X b tb):PE X (.IfExp c a b pos) (tIf tA ta tb):=by
 intro pins s σ H Q I h;refine wpAny_IfExp (thn (hc pins s σ H _ I h) λ d s1 ⟨H1,I1,q1⟩=>?_)
 cases d with
 | true=>exact ha pins s1 σ H1 Q I1 q1
 | false=>exact hb pins s1 σ H1 Q I1 q1
end
def SqL(K:W.Frag)(H:Hp)(a:Addr)(xs:List V):Prop:=
 Rd H a (.lst xs) \/
  ∃ (o:Obj) (its:Array Value) (n:Nat),K.lookup a=some o/\o.cls=.type "list" /\ o.dict=none/\o.data=.seq its n/\its.size<=sizeLine/\bq xs its.toList
def SqT(K:W.Frag)(H:Hp)(a:Addr)(xs:List V):Prop:=
 Rd H a (.tup xs) \/
  ∃ (o:Obj) (its:Array Value) (n:Nat),K.lookup a=some o/\o.cls=.type "tuple" /\ o.data=.seq its n/\its.size<=sizeLine/\bq xs its.toList
def Np:Value->Option V
 | .none=>some .non
 | .bool b=>some (.bl b)
 | .int i _=>some (.int i)
 | .str x _=>some (.str x)
 | .bytes b _=>some (.byt b)
 | .float b _=>some (.flt b)
 | .ref a=>some (.ref a)
 | .type n=>some (.ty n)
 | _=>none
theorem bT.abs{x:V}{u:Value}(r:bT x u):Np u=some x:=by
 cases x with
 | non=>cases r;rfl
 | bl _=>cases r;rfl
 | int _=>obtain⟨t,rfl⟩:=r;rfl
 | str _=>obtain⟨t,rfl⟩:=r;rfl
 | byt _=>obtain⟨t,rfl⟩:=r;rfl
 | flt _=>obtain⟨t,rfl⟩:=r;rfl
 | ref _=>cases r;rfl
 | ty _=>cases r;rfl
theorem bT.inj{x y:V}{u:Value}(r:bT x u)(q:bT y u):x=y:=NX (r.abs.symm.trans q.abs)
theorem bq.inj:∀ {xs ys:List V}{us:List Value},bq xs us->bq ys us->xs=ys
 | _,_,_,.nil,.nil=>rfl
 | _,_,_,.cons r t,.cons r' t'=>by rw [r.inj r',bq.inj t t']
section
variable {X:Cx}{pins:List (Addr × Obj)}{σ:St}{H:Hp}{s:Shared}{a:Addr}{xs ys:List V}
theorem SqL.of{K:W.Frag}(h:H a=some (.lst xs)):SqL K H a xs:=.inl (.inl h)
theorem SqT.of{K:W.Frag}(h:H a=some (.tup xs)):SqT K H a xs:=.inl (.inl h)
theorem Inv.list(I:Inv X pins σ H s)(h:SqL X.K H a xs):∃ its:List Value,bq xs its/\PlainL s.heap a its.toArray/\xs.length<=sizeLine:=by
 rcases h with h|⟨o,its,n,hk,hc,hd,hs,hz,r⟩
 ·obtain⟨z,its,n,r,e⟩:=h.ok I.hok;exact⟨its,r,⟨_,n,e,rfl,rfl,rfl⟩,z⟩
 ·refine⟨its.toList,r,⟨o,n,I.kIn a o hk,hc,hd,by simpa using hs⟩,?_⟩;have e:=r.length;simp only [Qx] at e;omega
theorem Inv.tuple(I:Inv X pins σ H s)(h:SqT X.K H a xs):∃ its:List Value,bq xs its/\IsTup s.heap a its.toArray/\xs.length<=sizeLine:=by
 rcases h with h|⟨o,its,n,hk,hc,hs,hz,r⟩
 ·obtain⟨z,its,r,p⟩:=h.ok I.hok;exact⟨its,r,p,z⟩
 ·refine⟨its.toList,r,⟨o,I.kIn a o hk,hc,n,by simpa using hs⟩,?_⟩;have e:=r.length;simp only [Qx] at e;omega
theorem Inv.list_inj(I:Inv X pins σ H s)(h:SqL X.K H a xs)(h':SqL X.K H a ys):xs=ys:=by
 obtain⟨its,r,⟨o,n,e,_,_,d⟩,_⟩:=I.list h;obtain⟨its',r',⟨o',n',e',_,_,d'⟩,_⟩:=I.list h';rw [e] at e';cases e';rw [d] at d'
 injection d' with d1 _
 have:its=its':=by simpa using OM Array.toList d1
 subst this;exact r.inj r'
theorem Inv.tuple_inj(I:Inv X pins σ H s)(h:SqT X.K H a xs)(h':SqT X.K H a ys):xs=ys:=by
 obtain⟨its,r,⟨o,e,_,n,d⟩,_⟩:=I.tuple h;obtain⟨its',r',⟨o',e',_,n',d'⟩,_⟩:=I.tuple h';rw [e] at e';cases e';rw [d] at d'
 injection d' with d1 _
 have:its=its':=by simpa using OM Array.toList d1
 subst this;exact r.inj r'
end
abbrev Cx.wish(X:Cx)(E:Value->Shared->Prop):Cx:={ X with xe:=E }
abbrev Cx.nox(X:Cx):Cx:=X.wish λ _ _=>False
theorem Cx.Ok.wish{X:Cx}(ok:X.Ok)(E:Value->Shared->Prop):(X.wish E).Ok:=
 ⟨ok.mod,ok.kind,ok.glob,ok.blt,ok.above,ok.inj,ok.has,ok.cab,ok.hd,ok.frames,ok.stk,ok.exf,ok.bs,ok.bsz,ok.noex,ok.exfs,ok.funs,ok.frf⟩
theorem Cx.Ok.unwish{X:Cx}{E:Value->Shared->Prop}(ok:(X.wish E).Ok):X.Ok:=
 ⟨ok.mod,ok.kind,ok.glob,ok.blt,ok.above,ok.inj,ok.has,ok.cab,ok.hd,ok.frames,ok.stk,ok.exf,ok.bs,ok.bsz,ok.noex,ok.exfs,ok.funs,ok.frf⟩
section
variable {X:Cx}{pins:List (Addr × Obj)}{σ:St}{H:Hp}{s:Shared}{E:Value->Shared->Prop}
theorem Inv.wish(I:Inv X pins σ H s)(E:Value->Shared->Prop):Inv (X.wish E) pins σ H s:=⟨I.ok.wish E,I.os,I.bare,I.base,I.loc,I.cell,I.free,I.freeC,I.pin,I.hok,I.len⟩
theorem Inv.unwish(I:Inv (X.wish E) pins σ H s):Inv X pins σ H s:=⟨I.ok.unwish,I.os,I.bare,I.base,I.loc,I.cell,I.free,I.freeC,I.pin,I.hok,I.len⟩
theorem SP.unwish{D:qK}{f:Flow}{s':Shared}(h:SP (X.wish E) pins D f s'):SP X pins D f s':=by
 cases f with
 | next=>obtain⟨σ',H',I,q⟩:=h;exact⟨σ',H',I.unwish,q⟩
 | brk=>obtain⟨σ',H',I,q⟩:=h;exact⟨σ',H',I.unwish,q⟩
 | cont=>obtain⟨σ',H',I,q⟩:=h;exact⟨σ',H',I.unwish,q⟩
 | ret u=>obtain⟨v,σ',H',I,r,q⟩:=h;exact⟨v,σ',H',I.unwish,r,q⟩
theorem PSs.nox{st:List Stmt}{t:TS}(h:PSs X.nox st t):PSs X st t:=λ pins s σ H D I hw=>
 QW (h pins s σ H D (I.wish _) hw) (λ _ _ q=>q.unwish) λ _ _ z=>False.elim z
end
section
variable {X:Cx}{st:Stmt}{nk:List Stmt}{t u:TS}{e:Expr}{te:TE}{pos:Pos}
def Ga:TS:=λ D σ H=>D.nx σ H
def LZ(t u:TS):TS:=λ D σ H=>t { D with nx:=u D } σ H
theorem aE:PSs X [] Ga:=λ _ _ σ H _ I h=>Rj ⟨σ,H,I,h⟩
theorem gq(h1:PS X st t)(h2:PSs X nk u):PSs X (st::nk) (LZ t u):=by
 intro pins s σ H D I h;refine wpAny_execs_cons (thn (h1 pins s σ H { D with nx:=u D } I h) λ f s1 q=>?_)
 cases f with
 | next=>
  obtain⟨σ',H',I',q⟩:=q;exact h2 pins s1 σ' H' D I' q
 | ret v=>exact q
 | brk=>exact q
 | cont=>exact q
theorem lT(h1:PS X st t):PSs X [st] t:=by
 intro pins s σ H D I h;refine wpAny_execs_cons (thn (h1 pins s σ H D I h) λ f s1 q=>?_)
 cases f with
 | next=>exact Rj q
 | ret v=>exact q
 | brk=>exact q
 | cont=>exact q
theorem Inv.quiet{pins:List (Addr × Obj)}{σ:St}{H:Hp}{s:Shared}(I:Inv X pins σ H s):interactive X.env=false:=by simp [interactive,I.ok.kind]
def Gb(te:TE):TS:=λ D σ H=>te σ H λ _ H1=>D.nx σ H1
theorem CZ(he:PE X e te)(hs:swapsWith e none pos.line X.env=pure false:=by rfl):PS X (.Expr e pos) (Gb te):=by
 intro pins s σ H D I h;exact wpAny_Expr_any (thn (he pins s σ H _ I h) λ v s1 ⟨x,H1,I1,r1,q1⟩=>⟨σ,H1,I1,q1⟩) I.quiet hs
def L0(te:TE):TS:=λ D σ H=>te σ H D.rt
theorem uE(he:PE X e te):PS X (.Return (some e) pos) (L0 te):=by
 intro pins s σ H D I h;exact wpAny_Return_some (thn (he pins s σ H _ I h) λ v s1 ⟨x,H1,I1,r1,q1⟩=>⟨x,σ,H1,I1,r1,q1⟩)
def JK(c:TT)(t u:TS):TS:=λ D σ H=>c σ H λ b H1=>if b=true then t D σ H1 else u D σ H1
theorem B6{c:Expr}{a b:List Stmt}{tc:TT}(hc:PT X c tc)(ha:PSs X a t)(hb:PSs X b u):PS X (.If c a b pos) (JK tc t u):=by
 intro pins s σ H D I h;refine wpAny_If (thn (hc pins s σ H _ I h) λ d s1 ⟨H1,I1,q1⟩=>?_)
 cases d with
 | true=>exact ha pins s1 σ H1 D I1 q1
 | false=>exact hb pins s1 σ H1 D I1 q1
def GY:TS:=λ _ _ _=>False
theorem eN:PS X st GY:=λ _ _ _ _ _ _ h=>h.elim
end
abbrev TG:=V->St->Hp->(St->Hp->Prop)->Prop
abbrev TGs:=List V->St->Hp->(St->Hp->Prop)->Prop
def PG(X:Cx)(target:Expr)(t:TG):Prop:=
 ∀ (pins:List (Addr × Obj)) (s:Shared) (σ:St) (H:Hp) (v:V) (u:Value) (Q:St->Hp->Prop),Inv X pins σ H s->bT v u->t v σ H Q →
  wpAny (model X.prog X.w) X.A (assign target X.env u) (λ _ s'=>∃ σ' H',Inv X pins σ' H' s'/\Q σ' H') X.xe s
def PGs(X:Cx)(ts:List Expr)(t:TGs):Prop:=
 ∀ (pins:List (Addr × Obj)) (s:Shared) (σ:St) (H:Hp) (vs:List V) (us:List Value) (Q:St->Hp->Prop),Inv X pins σ H s->bq vs us->t vs σ H Q →
  wpAny (model X.prog X.w) X.A (assignInOrder ((assignEach ts X.env).map (·.2)) us) (λ _ s'=>∃ σ' H',Inv X pins σ' H' s'/\Q σ' H') X.xe s
abbrev Be:=V->V->V->Hp->(Hp->Prop)->Prop
def MN(X:Cx)(t:Be):Prop:=
 ∀ (pins:List (Addr × Obj)) (s:Shared) (σ:St) (H:Hp) (o i v:V) (ov iv u:Value) (Q:Hp->Prop),Inv X pins σ H s->bT o ov->bT i iv->bT v u->t o i v H Q →
  wpAny (model X.prog X.w) X.A (setItem ov iv u) (λ _ s'=>∃ H',Inv X pins σ H' s'/\Q H') X.xe s
section
variable {X:Cx}{pos:Pos}
def gh(i:Nat):TG:=λ v σ H Q=>Q (σ.set i (some v)) H
theorem vf{i:Nat}{x:Str}(hN:X.N.Nodup)(hi:X.N[i]? = some x)(hx:Loc X.env.scope x)(hf:X.fn x=true\/X.env.scope.names.lookup x=some .local:=by first|exact .inl rfl|exact .inr rfl|assumption):PG X (.Name x pos) (gh i):=by
 intro pins s σ H v u Q I r h;exact wpAny_assign_Name (rm I hN hi hx r (λ s' I'=>⟨_,H,I',h⟩) hf)
def MM:TGs:=λ vs σ H Q=>vs=[]/\Q σ H
def GN(t:TG)(u:TGs):TGs:=λ vs σ H Q=>∃ v r,vs=v::r/\t v σ H λ σ' H'=>u r σ' H' Q
theorem Dj:PGs X [] MM:=by
 intro pins s σ H vs us Q I r h;obtain⟨e,h⟩:=h;subst e;cases r;exact assignInOrder_nil ⟨σ,H,I,h⟩
theorem zo{e:Expr}{es:List Expr}{t:TG}{u:TGs}(h1:PG X e t)(h2:PGs X es u)
  (hs:(assignEach (e::es) X.env).map (·.2)=assign e X.env::(assignEach es X.env).map (·.2):=by rfl):PGs X (e::es) (GN t u):=by
 intro pins s σ H vs us Q I r h;obtain⟨v,vr,e1,h⟩:=h;subst e1
 cases r with
 | cons r rr=>
  rw [hs];refine assignInOrder_cons (thn (h1 pins s σ H _ _ _ I r h) λ _ s1 ⟨σ1,H1,I1,q1⟩=>?_);exact h2 pins s1 σ1 H1 _ _ Q I1 rr q1
def MK(K:W.Frag)(n:Nat)(t:TGs):TG:=λ v σ H Q=>∃ a xs,v=.ref a/\SqT K H a xs/\xs.length=n/\t xs σ H Q
theorem Hq{es:List Expr}{k:Nat}{t:TGs}{n:Nat}(hc:X.calm=true)(h:PGs X es t)
  (hn:(assignEach es X.env).length=n:=by rfl) (hst:(assignEach es X.env).findIdx? (·.1)=none:=by rfl):PG X (.Tuple es k pos) (MK X.K n t):=by
 intro pins s σ H v u Q I r hw;obtain⟨a,xs,e1,hq,hl,hw⟩:=hw;subst e1;cases r;obtain⟨its,rv,ht,hz⟩:=I.tuple hq;refine assign_Tuple_tuple (I.ok.hd hc) ht (by simp [hn,←hl,rv.length]) hst λ h' hx=>?_;have I1:Inv X pins σ H { s with heap:=h' }:=I.kept (t':=s.toks) λ b o e=>hx b o (NQ (NB e)) e;exact h pins _ σ H xs _ Q I1 (by simpa using rv) hw
def ML(to ti:TE)(t:Be):TG:=λ v σ H Q=>to σ H λ o H1=>ti σ H1 λ i H2=>t o i v H2 λ H3=>Q σ H3
theorem Hr{o i:Expr}{to ti:TE}{t:Be}(ho:PE X o to)(hi:PE X i ti)(hs:MN X t)
  (ha:∀ v,assign (.Subscript o i pos) X.env v=(do
   let ov ←holding [v] (eval o X.env)
   let iv ←holding [v,ov] (eval i X.env)
   standAt pos
   holding [v,ov,iv] (setItem ov iv v)
   release [v,ov,iv] []):=by intro _;rfl):PG X (.Subscript o i pos) (ML to ti t):=by
 intro pins s σ H v u Q I r h;rw [ha];refine My (OZ (thn (ho pins s σ H _ I h) λ ov s1 ⟨x,H1,I1,r1,q1⟩=>?_));refine My (OZ (thn (hi pins s1 σ H1 _ I1 q1) λ iv s2 ⟨y,H2,I2,r2,q2⟩=>?_));refine My (RL (My (OZ (thn (hs pins s2 σ H2 x y v ov iv u _ I2 r1 r2 r q2) λ _ s3 ⟨H3,I3,q3⟩=>?_))));exact wpAny_release ⟨σ,H3,I3,q3⟩
def J4(te:TE)(g:TG):TS:=λ D σ H=>te σ H λ x H1=>g x σ H1 D.nx
theorem Bs{tg e:Expr}{te:TE}{g:TG}(he:PE X e te)(hg:PG X tg g)(hs:swapsWithSole [tg] e pos.line X.env=pure false:=by rfl)(hw:swappedStores [tg] e X.env=pure none:=by rfl)
  (h1:(assignEach [tg] X.env).map (·.2)=[assign tg X.env]:=by rfl):PS X (.Assign [tg] e pos) (J4 te g):=by
 intro pins s σ H D I h;refine wpAny_Assign_stores (thn (he pins s σ H _ I h) λ v s1 ⟨x,H1,I1,r1,q1⟩=>?_) hs hw;rw [h1];exact thn (hg pins s1 σ H1 x v _ I1 r1 q1) λ _ s2 q=>q
theorem gk{i:Nat}{x:Str}{e:Expr}{te:TE}{pos':Pos}(hN:X.N.Nodup)(hi:X.N[i]? = some x)(hx:Loc X.env.scope x)(he:PE X e te)(hs:swapsWith e (some (.Name x pos')) pos.line X.env=pure false:=by rfl)(hf:X.fn x=true\/X.env.scope.names.lookup x=some .local:=by first|exact .inl rfl|exact .inr rfl|assumption) :
  PS X (.Assign [.Name x pos'] e pos) (J4 te (gh i)):=by
 intro pins s σ H D I h;refine wpAny_Assign_Name (thn (he pins s σ H _ I h) λ v s1 ⟨y,H1,I1,r1,q1⟩=>?_) hs;exact rm I1 hN hi hx r1 (λ s2 I2=>⟨_,H1,I2,q1⟩) hf
end
section
variable {X:Cx}{pos:Pos}
def ug(c:TT)(tb:TS):TS:=λ D σ H=>∃ W:Nat->St->Hp->Prop,(∃ m,W m σ H)/\∀ m σ H,W m σ H →
 c σ H λ b H1=>if b=true then ∃ N:St->Hp->Prop,(∀ σ' H',N σ' H'->∃ m',m' < m/\W m' σ' H')/\tb { D with nx:=N,ct:=N,bk:=D.nx } σ H1 else D.nx σ H1
theorem rB{c:Expr}{body:List Stmt}{tc:TT}{tb:TS}(hp:PassesOwn (model X.prog X.w) X.A X.env X.xe)(hc:PT X c tc)(hb:PSs X body tb):PS X (.While c body [] pos) (ug tc tb):=by
 intro pins s σ H D I h;obtain⟨W,⟨m0,w0⟩,turn⟩:=h;refine wpAny_While (codeAny_whileLoop (λ n s'=>∃ σ' H',Inv X pins σ' H' s'/\W n σ' H') ?_ m0 ⟨σ,H,I,w0⟩);rintro n s1 ⟨σ1,H1,I1,w1⟩;refine PJ hp (thn (hc pins s1 σ1 H1 _ I1 (turn n σ1 H1 w1)) λ b s2 ⟨H2,I2,q2⟩=>?_)
 cases b with
 | true=>
  obtain⟨N,hN,q2⟩:=q2;rw [N7 rfl];refine PJ hp (thn (hb pins s2 σ1 H2 _ I2 q2) λ f s3 q3=>?_)
  cases f with
  | next=>
   obtain⟨σ3,H3,I3,n3⟩:=q3;obtain⟨m',hm,w3⟩:=hN σ3 H3 n3;exact⟨m',hm,σ3,H3,I3,w3⟩
  | cont=>
   obtain⟨σ3,H3,I3,n3⟩:=q3;obtain⟨m',hm,w3⟩:=hN σ3 H3 n3;exact⟨m',hm,σ3,H3,I3,w3⟩
  | brk=>exact q3
  | ret v=>exact q3
 | false=>
  rw [NY NO];exact Rj ⟨σ1,H2,I2,q2⟩
end
structure It where
 go:Nat->Hp->Prop
 yld:Nat->Hp->V->Hp->Prop
 stop:Nat->Hp->Prop
def pw(X:Cx)(pins:List (Addr × Obj))(H:Hp)(b:Addr):Prop:=
 H b=none/\b ≠ X.env.locals/\b ∉ X.fs/\(b∈X.ex\/X.s₀.heap.objs.size<=b)/\(∀ x c,X.env.cells.lookup x=some c->c ≠ b)/\∀ p∈X.pn++pins,p.1 ≠ b
theorem Inv.fpOk{X:Cx}{pins:List (Addr × Obj)}{σ:St}{H H':Hp}{s:Shared}{b:Addr}(I:Inv X pins σ H s)(hb:s.heap.objs.size<=b)(hn:H' b=none):pw X pins H' b:=by
 refine⟨hn,Ox (NS I.lt hb),I.nofs hb,.inr (OI I.sz hb),λ x c e z=>?_,λ p hp z=>?_⟩
 ·obtain⟨v,q⟩:=I.cell x c e;exact absurd (NS q.lt (by rw [z];exact hb)) (Ou _)
 ·exact absurd (NS (NB (I.pin p hp).1) (by rw [z];exact hb)) (Ou _)
structure yk(P:Program)(w:World)(K:W.Frag)(tg:Expr)(J:It)(fp:List Addr)(it:Addr)(tn:Nat->Heap->Prop):Prop where
 mem:it∈fp
 obj:∀ i h,tn i h->∀ b∈fp,∃ o,h.get? b=some o/\∀ v,o.data ≠ .cell v
 keep:∀ i h h',tn i h->(∀ b∈fp,∀ o,h.get? b=some o->h'.get? b=some o)->tn i h'
 item:∀ (X:Cx),X.prog=P->X.w=w->X.K=K->X.calm=true->∀ (i:Nat) (pins:List (Addr × Obj)) (s:Shared) (σ:St) (H:Hp) (E:Value->Shared->Prop),Inv X pins σ H s->(∀ b∈fp,pw X pins H b)->tn i s.heap->J.go i H →
  wpAny (model P w) X.A (pyNext (.ref it)) (λ r s1=>∃ u,r=some u /\
   wpAny (model P w) X.A (letOwnedTupleGo tg (.ref it) u) (λ _ s2=>∃ x H',Inv X pins σ H' s2/\bT x u/\J.yld i H x H'/\tn (i+1) s2.heap/\∀ b∈fp,H' b=none) E s1) E s
 done:∀ (X:Cx),X.prog=P->X.w=w->X.K=K->X.calm=true->∀ (i:Nat) (pins:List (Addr × Obj)) (s:Shared) (σ:St) (H:Hp) (E:Value->Shared->Prop),Inv X pins σ H s->(∀ b∈fp,pw X pins H b)->tn i s.heap->J.stop i H →
  wpAny (model P w) X.A (pyNext (.ref it)) (λ r s1=>r=none/\Inv X pins σ H s1) E s
 self:∀ (A:Around) (i:Nat) (s:Shared) (Q:Value->Shared->Prop) (E:Value->Shared->Prop),tn i s.heap->Q (.ref it) s->wpAny (model P w) A (pyIter (.ref it)) Q E s
abbrev TI:=St->Hp->(It->Hp->Prop)->Prop
def PIE(X:Cx)(pins:List (Addr × Obj))(σ:St)(tg:Expr)(R:It->Hp->Prop)(itv:Value)(s2:Shared):Prop:=
 ∃ (it:Addr) (fp:List Addr) (tn:Nat->Heap->Prop) (J:It) (H':Hp),itv=.ref it/\Inv X pins σ H' s2/\yk X.prog X.w X.K tg J fp it tn/\tn 0 s2.heap/\(∀ b∈fp,pw X pins H' b)/\R J H'
def PI(X:Cx)(tg iter:Expr)(wi:TI):Prop:=
 ∀ (pins:List (Addr × Obj)) (s:Shared) (σ:St) (H:Hp) (R:It->Hp->Prop),Inv X pins σ H s->wi σ H R →
  wpAny (model X.prog X.w) X.A (eval iter X.env) (λ v s1=>wpAny (model X.prog X.w) X.A (pyIter v) (PIE X pins σ tg R) X.xe s1) X.xe s
theorem yy{M:Model}{A:Around}{E:Value->Shared->Prop}{s:Shared}{tg:Expr}{it:Addr}{u:Value}{o:Obj}{n:String}{vs:Array Value}{Q:Unit->Shared->Prop}(ho:s.heap.get? it=some o)(hc:o.cls=.type n)(hd:o.data=.fields vs)
    (hn:["enumerate", "zip", "dict_itemiterator", "dict_reverseitemiterator", "odict_iterator", "itertools.zip_longest", "itertools.pairwise"].contains n=false) (hQ:Q () s):wpAny M A (letOwnedTupleGo tg (.ref it) u) Q E s:=by
  unfold letOwnedTupleGo
  cases tg<;>first
    | exact NA hQ
    | (cases u<;>first
        | exact NA hQ
        | (refine My (wpAny_load ho ?_)
           rw [hc,hd]
           show wpAny M A (if (["enumerate", "zip", "dict_itemiterator", "dict_reverseitemiterator", "odict_iterator", "itertools.zip_longest", "itertools.pairwise"].contains n && vs[0]? == some (rawInt _))=true then _ else _) Q E s
           rw [NY (by intro h;rw [hn,Rb] at h;cases h)];exact NA hQ))
def Itl(K:W.Frag)(a:Addr):It:=
 ⟨λ i H=>∃ xs x,SqL K H a xs/\xs[i]? = some x,λ i H x H'=>H'=H/\∀ xs,SqL K H a xs->xs[i]? = some x,λ i H=>∃ xs,SqL K H a xs/\xs.length<=i⟩
def Itt(K:W.Frag)(a:Addr):It:=
 ⟨λ i H=>∃ xs x,SqT K H a xs/\xs[i]? = some x,λ i H x H'=>H'=H/\∀ xs,SqT K H a xs->xs[i]? = some x,λ i H=>∃ xs,SqT K H a xs/\xs.length<=i⟩
def Itr(lo:Int)(n:Nat):It:=⟨λ i _=>i < n,λ i H x H'=>H'=H/\x=.int (lo+i),λ i _=>n<=i⟩
theorem vX{P:Program}{w:World}{K:W.Frag}{tg:Expr}(a it:Addr):yk P w K tg (Itl K a) [it] it (λ i h=>h.IsListIter it a i) where
 mem:=by simp
 obj:=λ i h st b hb=>by
  have e:b=it:=by simpa using hb
  subst e;obtain⟨o,e,c,d⟩:=st;exact⟨o,e,λ v z=>by rw [d] at z;cases z⟩
 keep:=λ i h h' st k=>st.at λ o e=>k it (by simp) o e
 item:=by
  intro X hP hw hK hc i pins s σ H E I hf st hg;subst hP hw hK;obtain⟨xs,x,hq,hx⟩:=hg;obtain⟨its,rv,p,hz⟩:=I.list hq;obtain⟨u,hu,ru⟩:=rv.get hx;obtain⟨f0,f1,f2,f3,f4,f5⟩:=hf it (by simp);refine wpAny_pyNext_list_item st p.isList (x:=u) (by simpa using hu) λ h' st' sb=>?_;have I1:Inv X pins σ H { s with heap:=h' }:=I.turned (t':=s.toks) (λ b o hb e=>(sb.2 b hb).trans e) f0 f1 f3 f4 f5;obtain⟨o,e,c,d⟩:=id st';exact⟨u,rfl,yy (s:={ s with heap:=h' }) e c d (by decide) ⟨x,H,I1,ru,⟨rfl,λ ys hy=>by rw [I.list_inj hy hq];exact hx⟩,st',λ b hb=>(hf b hb).1⟩⟩
 done:=by
  intro X hP hw hK hc i pins s σ H E I hf st hg;subst hP hw hK;obtain⟨xs,hq,hx⟩:=hg;obtain⟨its,rv,p,hz⟩:=I.list hq;obtain⟨f0,f1,f2,f3,f4,f5⟩:=hf it (by simp);have hl:=rv.length;exact wpAny_pyNext_list_end (I.ok.hd hc) st p.isList (by simp;omega) λ h' eb=>⟨rfl,I.turned (t':=s.toks) (λ b o hb e=>eb b o hb e) f0 f1 f3 f4 f5⟩
 self:=λ _ _ _ _ _ st h=>wpAny_pyIter_listiter st h
theorem sC{P:Program}{w:World}{K:W.Frag}{tg:Expr}(a it:Addr):yk P w K tg (Itt K a) [it] it (λ i h=>h.IsTupleIter it a i) where
 mem:=by simp
 obj:=λ i h st b hb=>by
  have e:b=it:=by simpa using hb
  subst e;obtain⟨o,e,c,d⟩:=st;exact⟨o,e,λ v z=>by rw [d] at z;cases z⟩
 keep:=λ i h h' st k=>st.at λ o e=>k it (by simp) o e
 item:=by
  intro X hP hw hK hc i pins s σ H E I hf st hg;subst hP hw hK;obtain⟨xs,x,hq,hx⟩:=hg;obtain⟨its,rv,p,hz⟩:=I.tuple hq;obtain⟨u,hu,ru⟩:=rv.get hx;obtain⟨f0,f1,f2,f3,f4,f5⟩:=hf it (by simp);refine wpAny_pyNext_tuple_item st (show s.heap.IsTuple a its.toArray from p) (x:=u) (by simpa using hu) λ h' st' sb=>?_;have I1:Inv X pins σ H { s with heap:=h' }:=I.turned (t':=s.toks) (λ b o hb e=>(sb.2 b hb).trans e) f0 f1 f3 f4 f5;obtain⟨o,e,c,d⟩:=id st';exact⟨u,rfl,yy (s:={ s with heap:=h' }) e c d (by decide) ⟨x,H,I1,ru,⟨rfl,λ ys hy=>by rw [I.tuple_inj hy hq];exact hx⟩,st',λ b hb=>(hf b hb).1⟩⟩
 done:=by
  intro X hP hw hK hc i pins s σ H E I hf st hg;subst hP hw hK;obtain⟨xs,hq,hx⟩:=hg;obtain⟨its,rv,p,hz⟩:=I.tuple hq;obtain⟨f0,f1,f2,f3,f4,f5⟩:=hf it (by simp);have hl:=rv.length;exact wpAny_pyNext_tuple_end (I.ok.hd hc) st (show s.heap.IsTuple a its.toArray from p) (by simp;omega) λ h' eb=>⟨rfl,I.turned (t':=s.toks) (λ b o hb e=>eb b o hb e) f0 f1 f3 f4 f5⟩
 self:=λ _ _ _ _ _ st h=>wpAny_pyIter_tupleiter st h
theorem sD{P:Program}{w:World}{K:PySem.W.Frag}{tg:Expr}(it:Addr)(lo:Int)(n:Nat):yk P w K tg (Itr lo n) [it] it (λ i h=>IsRangeIter h it (lo+(i:Nat) * 1) ((n:Int) - (i:Nat)) 1) where
 mem:=by simp
 obj:=λ i h st b hb=>by
  have e:b=it:=by simpa using hb
  subst e
  exact⟨_,st,λ v z=>by
   have z':Data.fields _=Data.cell v:=z;cases z'⟩
 keep:=λ i h h' st k=>k it (by simp) _ st
 item:=by
  intro X hP hw hK hc i pins s σ H E I hf st hg;subst hP hw hK;obtain⟨f0,f1,f2,f3,f4,f5⟩:=hf it (by simp);have W:=Walks.range (prog:=X.prog) (w:=X.w) (I.ok.hd hc) it lo 1 n;refine W.item i s _ _ hg st λ v h' tk hv st' kk=>?_;obtain⟨t,rfl⟩:=hv;have I1:Inv X pins σ H { s with heap:=h',toks:=tk }:=I.turned (λ b o hb e=>kk b o (by simpa using hb) e) f0 f1 f3 f4 f5;refine⟨_,rfl,yy (s:={ s with heap:=h',toks:=tk }) (n := "range_iterator") st' rfl rfl (by decide) ⟨.int (lo+i),H,I1,⟨t,?_⟩,⟨rfl,rfl⟩,st',λ b hb=>(hf b hb).1⟩⟩;rw [QK]
 done:=by
  intro X hP hw hK hc i pins s σ H E I hf st hg;subst hP hw hK;obtain⟨f0,f1,f2,f3,f4,f5⟩:=hf it (by simp);exact wpAny_pyNext_range_end (I.ok.hd hc) st (by have:n<=i:=hg;omega) λ h' eb=>⟨rfl,I.turned (t':=s.toks) (λ b o hb e=>eb b o hb e) f0 f1 f3 f4 f5⟩
 self:=λ _ _ _ _ _ st h=>wpAny_pyIter_rangeiter st h
section
variable {X:Cx}{tg:Expr}
theorem y8{pins:List (Addr × Obj)}{σ:St}{H:Hp}{s:Shared}{R:It->Hp->Prop}{E:Value->Shared->Prop}{lo hi:Int}{t u v:Tok}{tk:Nat}(I:Inv X pins σ H s)(h1:-(2 ^ 62)<=lo)(h2:lo < 2 ^ 62)(h3:-(2 ^ 62)<=hi)(h4:hi < 2 ^ 62)
  (q:R (Itr lo (hi - lo).toNat) H):wpAny (model X.prog X.w) X.A (pyIter (.ref s.heap.objs.size)) (PIE X pins σ tg R) E { s with heap:=s.heap.push { cls:=.type "range",data:=.fields #[.int lo t,.int hi u,.int 1 v] },toks:=tk }:=by
 refine wpAny_pyIter_range (IsRange.new ..) (small_one h1 h2 h3 h4) ?_;have I1:Inv X pins σ H { s with heap:=s.heap.push { cls:=.type "range",data:=.fields #[.int lo t,.int hi u,.int 1 v] },toks:=tk }:=I.kept λ b o e=>Nx _ e
 refine⟨(s.heap.push { cls:=.type "range",data:=.fields #[.int lo t,.int hi u,.int 1 v] }).objs.size,[(s.heap.push { cls:=.type "range",data:=.fields #[.int lo t,.int hi u,.int 1 v] }).objs.size],_,_,H,rfl,
  I1.kept (t':=tk) λ b o e=>Nx _ e,sD _ lo (hi - lo).toNat,?_,λ b hb=>?_,q⟩
 ·have e1:lo+((0:Nat):Int) * 1=lo:=by simp
  have e2:(((hi - lo).toNat:Nat):Int) - ((0:Nat):Int)=Builtin.Range.rangeSize lo hi 1:=by rw [rangeSize_one];split<;>omega
  show IsRangeIter _ _ (lo+((0:Nat):Int) * 1) ((((hi - lo).toNat:Nat):Int) - ((0:Nat):Int)) 1
  rw [e1,e2];exact NG _ rfl
 ·have e:b=(s.heap.push { cls:=.type "range",data:=.fields #[.int lo t,.int hi u,.int 1 v] }).objs.size:=by simpa using hb
  subst e;exact I1.fpOk (NF _) (I1.hok.fresh (NF _))
def GK(ta:TA):TI:=λ σ H R=>ta σ H λ vs H1=>∃ j:Int,vs=[.int j]/\-(2 ^ 62)<=j/\j < 2 ^ 62/\R (Itr 0 j.toNat) H1
theorem wg{a:Expr}{ta:TA}{p pos:Pos}(hg:Gl X "range")(hm:X.mg "range"=none)(ha:PA X [a] ta)(hs:starEach [a] X.env=[(false,eval a X.env)]:=by rfl):PI X tg (.Call (.Name "range" p) [a] [] pos) (GK ta):=by
 intro pins s σ H R I h;refine Call_ (eC I hg hm boot_range (Of (thn (ha pos pins s σ H _ I h) λ us s1 ⟨vs,H1,I1,r1,q1⟩=>?_) hs rfl));obtain⟨j,e,q1,q2,q⟩:=q1;subst e
 cases r1 with
 | cons r rr=>
  cases rr;obtain⟨t,rfl⟩:=r;exact call_range_1 (y8 I1 (by omega) (by omega) q1 q2 (by simpa using q))
def L4(wi:TI)(g:TG)(tb:TS):TS:=λ D σ H=>wi σ H λ J H1=>∃ W:Nat->Nat->St->Hp->Prop,(∃ m,W 0 m σ H1)/\∀ i m σ H,W i m σ H →
 (J.stop i H/\D.nx σ H)\/(J.go i H/\∃ N:St->Hp->Prop,(∀ σ' H',N σ' H'->∃ m',m' < m/\W (i+1) m' σ' H')/\∀ x H',J.yld i H x H'->g x σ H' λ σ2 H2=>tb { D with nx:=N,ct:=N,bk:=D.nx } σ2 H2)
def ny(fp:List Addr)(h:Heap):List (Addr × Obj):=fp.filterMap λ b=>(h.get? b).map λ o=>(b,o)
theorem fE{fp:List Addr}{h:Heap}{b:Addr}{o:Obj}(hb:b∈fp)(e:h.get? b=some o):(b,o)∈ny fp h:=List.mem_filterMap.mpr ⟨b,hb,by rw [e];rfl⟩
theorem wz{fp:List Addr}{h:Heap}{p:Addr × Obj}(hp:p∈ny fp h):p.1∈fp/\h.get? p.1=some p.2:=by
 obtain⟨b,hb,e⟩:=List.mem_filterMap.mp hp
 cases q:h.get? b with
 | none=>rw [q] at e;cases e
 | some o=>
  rw [q] at e;have e':(b,o)=p:=NX e;subst e';exact⟨hb,q⟩
theorem Inv.pinned{pins:List (Addr × Obj)}{σ:St}{H:Hp}{s:Shared}{fp:List Addr}(I:Inv X pins σ H s)(hf:∀ b∈fp,pw X pins H b)(ho:∀ b∈fp,∃ o,s.heap.get? b=some o/\∀ v,o.data ≠ .cell v):Inv X (pins++ny fp s.heap) σ H s:=
 I.pins_of λ p hp=>(N2.mp hp).elim (λ z=>I.pin p (N4 _ z)) λ z=>by
  obtain⟨hb,e⟩:=wz z;obtain⟨f0,f1,f2,_⟩:=hf p.1 hb;obtain⟨o,e',d⟩:=ho p.1 hb;rw [e] at e';cases e';exact⟨e,f0,f1,f2,d⟩
theorem Inv.unpinned{pins pl:List (Addr × Obj)}{σ:St}{H:Hp}{s:Shared}(I:Inv X (pins++pl) σ H s):Inv X pins σ H s:=I.pins_of λ p hp=>I.pin p (N4 _ (Oc _ hp))
theorem Hm{iter:Expr}{body:List Stmt}{wi:TI}{g:TG}{tb:TS}{pos:Pos}(hp:PassesOwn (model X.prog X.w) X.A X.env X.xe)(hc:X.calm=true)(hi:PI X tg iter wi)(hg:PG X tg g)(hb:PSs X body tb)
  (hs:∀ x,foldedSetIterable iter X.env x=pure x:=by intro _;rfl):PS X (.For tg iter body [] pos) (L4 wi g tb):=by
 intro pins s σ H D I h;refine wpAny_For (thn (hi pins s σ H _ I h) λ v s1 h1=>thn h1 λ itv s2 h2=>?_) hs;obtain⟨it,fp,tn,J,H2,e,I2,T,st2,f2,W,⟨m0,w0⟩,turn⟩:=h2;subst e;have stat:∀ {H':Hp},(∀ b∈fp,H' b=none)->∀ b∈fp,pw X pins H' b:=λ hn b hb=>⟨hn b hb,(f2 b hb).2⟩;refine codeAny_forLoop_any (λ n s'=>∃ i σ' H',Inv X pins σ' H' s'/\tn i s'.heap/\(∀ b∈fp,H' b=none)/\W i n σ' H') ?_ m0 ⟨0,σ,H2,I2,st2,λ b hb=>(f2 b hb).1,w0⟩;rintro n s3 ⟨i,σ3,H3,I3,st3,fr3,w3⟩
 rcases turn i n σ3 H3 w3 with ⟨stop,qn⟩|⟨go,N,hN,step⟩
 ·refine PJ hp (thn (T.done X rfl rfl rfl hc i pins s3 σ3 H3 X.xe I3 (stat fr3) st3 stop) λ r s4 ⟨hr,I4⟩=>?_);subst hr;exact Rj ⟨σ3,H3,I4,qn⟩
 ·refine PJ hp (thn (T.item X rfl rfl rfl hc i pins s3 σ3 H3 X.xe I3 (stat fr3) st3 go) λ r s4 ⟨u,hr,h4⟩=>?_);subst hr;refine PJ hp (thn h4 λ _ s5 ⟨x,H5,I5,r5,y5,st5,fr5⟩=>?_);have I5':=I5.pinned (stat fr5) (T.obj _ _ st5);refine PJ hp (thn (hg _ s5 σ3 H5 x u _ I5' r5 (step x H5 y5)) λ _ s6 ⟨σ6,H6,I6,q6⟩=>?_);refine PJ hp (thn (hb _ s6 σ6 H6 _ I6 q6) λ f s7 q7=>?_)
  have again:∀ {σ7:St} {H7:Hp},Inv X (pins++ny fp s5.heap) σ7 H7 s7->N σ7 H7->∃ m,m < n/\∃ i σ' H',Inv X pins σ' H' s7/\tn i s7.heap/\(∀ b∈fp,H' b=none)/\W i m σ' H':=λ {σ7 H7} I7 n7=>by
   obtain⟨m',hm,w7⟩:=hN σ7 H7 n7;refine⟨m',hm,i+1,σ7,H7,I7.unpinned,T.keep _ _ _ st5 λ b hb o e=>(I7.pin (b,o) (N4 _ (N4 _ (fE hb e)))).1,λ b hb=>?_,w7⟩;obtain⟨o,e,d⟩:=T.obj _ _ st5 b hb;exact(I7.pin (b,o) (N4 _ (N4 _ (fE hb e)))).2.1
  cases f with
  | next=>obtain⟨σ7,H7,I7,n7⟩:=q7;exact again I7 n7
  | cont=>obtain⟨σ7,H7,I7,n7⟩:=q7;exact again I7 n7
  | brk=>obtain⟨σ7,H7,I7,q7⟩:=q7;exact⟨σ7,H7,I7.unpinned,q7⟩
  | ret v=>obtain⟨x7,σ7,H7,I7,r7,q7⟩:=q7;exact⟨x7,σ7,H7,I7.unpinned,r7,q7⟩
end
theorem AI{K:PySem.W.Frag}{a:Addr}{xs:List V}{g:TG}{tb:TS}{D:qK}{σ:St}{H:Hp}(Pv:Nat->St->Hp->Prop)(h0:Pv 0 σ H)(hl:∀ i σ H,i<=xs.length->Pv i σ H->SqL K H a xs)
  (hs:∀ i x σ H,xs[i]? = some x->Pv i σ H->g x σ H λ σ2 H2=>tb { D with nx:=Pv (i+1),ct:=Pv (i+1),bk:=D.nx } σ2 H2) (hd:∀ σ H,Pv xs.length σ H->D.nx σ H) :
  ∃ W:Nat->Nat->St->Hp->Prop,(∃ m,W 0 m σ H)/\∀ i m σ H,W i m σ H →
   ((Itl K a).stop i H/\D.nx σ H)\/((Itl K a).go i H/\∃ N:St->Hp->Prop,(∀ σ' H',N σ' H'->∃ m',m' < m/\W (i+1) m' σ' H')/\∀ x H',(Itl K a).yld i H x H'->g x σ H' λ σ2 H2=>tb { D with nx:=N,ct:=N,bk:=D.nx } σ2 H2):=by
 refine⟨λ i m σ H=>m=xs.length - i/\i<=xs.length/\Pv i σ H,⟨xs.length,by simp,OL _,h0⟩,?_⟩;rintro i m σ H ⟨rfl,hi,p⟩;have q:=hl i σ H hi p
 by_cases hlt:i < xs.length
 ·refine .inr ⟨⟨xs,xs[i],q,by simp [hlt]⟩,Pv (i+1),λ σ' H' p'=>⟨xs.length - (i+1),by omega,rfl,hlt,p'⟩,λ x H' y=>?_⟩;obtain⟨e,y⟩:=y;subst e;exact hs i x σ _ (y xs q) p
 ·have e:i=xs.length:=by omega
  subst e;exact .inl ⟨⟨xs,q,NF _⟩,hd σ H p⟩
theorem xO{lo:Int}{n:Nat}{g:TG}{tb:TS}{D:qK}{σ:St}{H:Hp}(Pv:Nat->St->Hp->Prop)(h0:Pv 0 σ H)
  (hs:∀ i σ H,i < n->Pv i σ H->g (.int (lo+i)) σ H λ σ2 H2=>tb { D with nx:=Pv (i+1),ct:=Pv (i+1),bk:=D.nx } σ2 H2) (hd:∀ σ H,Pv n σ H->D.nx σ H) :
  ∃ W:Nat->Nat->St->Hp->Prop,(∃ m,W 0 m σ H)/\∀ i m σ H,W i m σ H →
   ((Itr lo n).stop i H/\D.nx σ H)\/((Itr lo n).go i H/\∃ N:St->Hp->Prop,(∀ σ' H',N σ' H'->∃ m',m' < m/\W (i+1) m' σ' H')/\∀ x H',(Itr lo n).yld i H x H'->g x σ H' λ σ2 H2=>tb { D with nx:=N,ct:=N,bk:=D.nx } σ2 H2):=by
 refine⟨λ i m σ H=>m=n - i/\i<=n/\Pv i σ H,⟨n,by simp,OL _,h0⟩,?_⟩;rintro i m σ H ⟨rfl,hi,p⟩
 by_cases hlt:i < n
 ·refine .inr ⟨hlt,Pv (i+1),λ σ' H' p'=>⟨n - (i+1),by omega,rfl,hlt,p'⟩,λ x H' y=>?_⟩;obtain⟨e,y⟩:=y;subst e y;exact hs i σ _ hlt p
 ·have e:i=n:=by omega
  subst e;exact .inl ⟨NF _,hd σ H p⟩
abbrev R2:=V->V->Hp->VK->Prop
def OpR(X:Cx)(f:Value->Value->Sem Value)(r:R2):Prop:=
 ∀ (pins:List (Addr × Obj)) (s:Shared) (σ:St) (H:Hp) (x y:V) (v u:Value) (Q:VK),Inv X pins σ H s->bT x v->bT y u->r x y H Q →
  wpAny (model X.prog X.w) X.A (f v u) (EP X pins σ Q) X.xe s
def UnR(X:Cx)(f:Value->Sem Value)(r:V->Hp->VK->Prop):Prop:=
 ∀ (pins:List (Addr × Obj)) (s:Shared) (σ:St) (H:Hp) (x:V) (v:Value) (Q:VK),Inv X pins σ H s->bT x v->r x H Q →
  wpAny (model X.prog X.w) X.A (f v) (EP X pins σ Q) X.xe s
def cP(X:Cx)(f:Value)(r:List V->Hp->VK->Prop):Prop:=
 ∀ (pins:List (Addr × Obj)) (s:Shared) (σ:St) (H:Hp) (xs:List V) (us:List Value) (Q:VK),Inv X pins σ H s->bq xs us->r xs H Q →
  wpAny (model X.prog X.w) X.A (call f us) (EP X pins σ Q) X.xe s
def tOp(r:R2)(ta tb:TE):TE:=λ σ H Q=>ta σ H λ x H1=>tb σ H1 λ y H2=>r x y H2 Q
def tUn(r:V->Hp->VK->Prop)(ta:TE):TE:=λ σ H Q=>ta σ H λ x H1=>r x H1 Q
def rI(C:Int->Int->Prop)(g:Int->Int->V):R2:=λ x y H Q=>∃ i j,x=.int i/\y=.int j/\C i j/\Q (g i j) H
def rI0(g:Int->Int->V):R2:=λ x y H Q=>∃ i j,x=.int i/\y=.int j/\Q (g i j) H
def rU(g:Int->V):V->Hp->VK->Prop:=λ x H Q=>∃ i,x=.int i/\Q (g i) H
section
variable {X:Cx}{a b c:Expr}{ta tb tc:TE}{pos:Pos}
theorem KL(ha:PE X a ta)(hb:PE X b tb){pins:List (Addr × Obj)}{s:Shared}{σ:St}{H:Hp}{R:V->V->Hp->Prop}(I:Inv X pins σ H s)
  (h:ta σ H λ x H1=>tb σ H1 λ y H2=>R x y H2) {Q:Value->Shared->Prop} {f:Value->Value->Sem Value}
  (hf:∀ v u s2 x y H2,Inv X pins σ H2 s2->bT x v->bT y u->R x y H2->wpAny (model X.prog X.w) X.A (f v u) Q X.xe s2) :
  wpAny (model X.prog X.w) X.A (eval a X.env) (λ v s₁=>wpAny (model X.prog X.w) X.A (eval b X.env) (λ u s₂=>wpAny (model X.prog X.w) X.A (f v u) Q X.xe s₂) X.xe s₁) X.xe s:=by
 refine thn (ha pins s σ H _ I h) λ v s1 ⟨x,H1,I1,r1,q1⟩=>?_;refine thn (hb pins s1 σ H1 _ I1 q1) λ u s2 ⟨y,H2,I2,r2,q2⟩=>?_;exact hf v u s2 x y H2 I2 r1 r2 q2
theorem fh{op:Operator}{r:R2}(ho:OpR X (binaryOp op) r)(ha:PE X a ta)(hb:PE X b tb):PE X (.BinOp a op b pos) (tOp r ta tb):=by
 intro pins s σ H Q I h;exact wpAny_BinOp (KL ha hb I h λ v u s2 x y H2 I2 rx ry q=>ho pins s2 σ H2 x y v u Q I2 rx ry q)
theorem px{op:UnaryOp}{r:V->Hp->VK->Prop}(ho:UnR X (unaryOp op) r)(ha:PE X a ta):PE X (.UnaryOp op a pos) (tUn r ta):=by
 intro pins s σ H Q I h;exact UnaryOp_ (thn (ha pins s σ H _ I h) λ v s1 ⟨x,H1,I1,r1,q1⟩=>ho pins s1 σ H1 x v Q I1 r1 q1)
theorem opI{f:Value->Value->Sem Value}{C:Int->Int->Prop}{g:Int->Int->Int}
  (rule:∀ (i j:Int) (t u:Tok) (s:Shared) (Q:Value->Shared->Prop) (E:Value->Shared->Prop),C i j->Q (.int (g i j) s.toks) { s with toks:=s.toks+1 }->wpAny (model X.prog X.w) X.A (f (.int i t) (.int j u)) Q E s) :
  OpR X f (rI C λ i j=>.int (g i j)):=by
 intro pins s σ H x y v u Q I rx ry h;obtain⟨i,j,rfl,rfl,hc,q⟩:=h;obtain⟨t,rfl⟩:=rx;obtain⟨t',rfl⟩:=ry;exact rule i j t t' s _ _ hc ⟨.int (g i j),H,I.tok _,⟨_,rfl⟩,q⟩
theorem Mf{f:Value->Value->Sem Value}{g:Int->Int->Int}
  (rule:∀ (i j:Int) (t u:Tok) (s:Shared) (Q:Value->Shared->Prop) (E:Value->Shared->Prop),Q (.int (g i j) s.toks) { s with toks:=s.toks+1 }->wpAny (model X.prog X.w) X.A (f (.int i t) (.int j u)) Q E s) :
  OpR X f (rI0 λ i j=>.int (g i j)):=by
 intro pins s σ H x y v u Q I rx ry h;obtain⟨i,j,rfl,rfl,q⟩:=h;obtain⟨t,rfl⟩:=rx;obtain⟨t',rfl⟩:=ry;exact rule i j t t' s _ _ ⟨.int (g i j),H,I.tok _,⟨_,rfl⟩,q⟩
theorem JM{f:Value->Value->Sem Value}{g:Int->Int->Bool}
  (rule:∀ (i j:Int) (t u:Tok) (s:Shared) (Q:Value->Shared->Prop) (E:Value->Shared->Prop),Q (.bool (g i j)) s->wpAny (model X.prog X.w) X.A (f (.int i t) (.int j u)) Q E s) :
  OpR X f (rI0 λ i j=>.bl (g i j)):=by
 intro pins s σ H x y v u Q I rx ry h;obtain⟨i,j,rfl,rfl,q⟩:=h;obtain⟨t,rfl⟩:=rx;obtain⟨t',rfl⟩:=ry;exact rule i j t t' s _ _ ⟨.bl (g i j),H,I,rfl,q⟩
def KP(i j:Int):Prop:=0 < j/\j < 1073741824
def KO(i j:Int):Prop:=0<=j/\j<=1000000/\i.natAbs < 2 ^ 64
def lN(i j:Int):Prop:=(-(2 ^ 64) < i/\i < 2 ^ 64)\/(-(2 ^ 64) < j/\j < 2 ^ 64)
theorem lN.ok{i j:Int}(h:lN i j):IntMulOk i j:=by
 rcases h with ⟨h1,h2⟩|⟨h1,h2⟩
 ·exact .of_left (intBits_le_64 h1 h2)
 ·exact .of_right (intBits_le_64 h1 h2)
theorem qU:OpR X (binaryOp .Add) (rI0 λ i j=>.int (i+j)):=Mf λ _ _ _ _ _ _ _ q=>add_int q
theorem Hx:OpR X (binaryOp .Sub) (rI0 λ i j=>.int (i - j)):=Mf λ _ _ _ _ _ _ _ q=>sub_int q
theorem ib:OpR X (binaryOp .Mult) (rI lN λ i j=>.int (i * j)):=opI λ _ _ _ _ _ _ _ hc q=>mul_int q hc.ok
theorem Dx:OpR X (binaryOp .FloorDiv) (rI KP λ i j=>.int (i / j)):=opI λ i j _ _ _ _ _ hc q=>by
 have h1:(0:Int) < j:=hc.1;have h2:j < 1073741824:=hc.2;exact floordiv_int (by omega) (by rw [Int.fdiv_eq_ediv_of_nonneg i (by omega)];exact q) (.inl (PyProof.noPylong_small (by omega)))
theorem iU:OpR X (binaryOp .Mod) (rI (λ _ j=>0 < j) λ i j=>.int (i % j)):=opI λ i j _ _ _ _ _ hc q=>by
 have h1:(0:Int) < j:=hc;exact mod_int' (by omega) (by rw [Int.fmod_eq_emod_of_nonneg i (by omega)];exact q)
theorem Hz:OpR X (binaryOp .Pow) (rI KO λ i j=>.int (i ^ j.toNat)):=opI λ _ _ _ _ _ _ _ hc q=>pow_int_small hc.1 hc.2.1 hc.2.2 q
theorem unI{f:Value->Sem Value}{g:Int->Int}
  (rule:∀ (i:Int) (t:Tok) (s:Shared) (Q:Value->Shared->Prop) (E:Value->Shared->Prop),Q (.int (g i) s.toks) { s with toks:=s.toks+1 }->wpAny (model X.prog X.w) X.A (f (.int i t)) Q E s) :
  UnR X f (rU λ i=>.int (g i)):=by
 intro pins s σ H x v Q I rx h;obtain⟨i,rfl,q⟩:=h;obtain⟨t,rfl⟩:=rx;exact rule i t s _ _ ⟨.int (g i),H,I.tok _,⟨_,rfl⟩,q⟩
theorem GU:UnR X (unaryOp .USub) (rU λ i=>.int (-i)):=unI λ _ _ _ _ _ q=>neg_int q
end
def FI:V->V->Bool
 | .non,.non=>true | .non,.int _=>true | .int _,.non=>true | .non,.bl _=>true | .bl _,.non=>true | .non,.str _=>true | .str _,.non=>true
 | .int _,.int _=>true | .bl _,.bl _=>true | .str _,.str _=>true | .byt _,.byt _=>true
 | .int _,.str _=>true | .str _,.int _=>true | .bl _,.str _=>true | .str _,.bl _=>true
 | _,_=>false
def rEq:R2:=λ x y H Q=>FI x y=true/\Q (.bl (decide (x=y))) H
def rNe:R2:=λ x y H Q=>FI x y=true/\Q (.bl (!decide (x=y))) H
theorem vD{i j:Int}:decide (V.int i=V.int j)=(i == j):=by
 rw [Pc];simp
theorem BK{i j:Bool}:decide (V.bl i=V.bl j)=(i == j):=by
 rw [Pc];simp
theorem vC{i j:Str}:decide (V.str i=V.str j)=(i == j):=by
 rw [Pc];simp
theorem vE{i j:Array UInt8}:decide (V.byt i=V.byt j)=(i.toList == j.toList):=by
 rw [Pc];cases i;cases j;simp
section
variable {X:Cx}{a b c:Expr}{ta tb tc:TE}{pos:Pos}
theorem aZ{pins:List (Addr × Obj)}{σ:St}{H:Hp}{s:Shared}{Q:VK}{k k':Bool}(I:Inv X pins σ H s)(q:Q (.bl k) H)(e:k=k'):EP X pins σ Q (.bool k') s:=by
 subst e;exact⟨.bl k,H,I,rfl,q⟩
theorem K2:OpR X (compareOp .Eq) rEq:=by
 intro pins s σ H x y v u Q I rx ry h;obtain⟨hs,q⟩:=h
 cases x with
 | non=>
  cases rx
  cases y with
  | non=>cases ry;exact PySem.EqNone.eq_none_none (aZ I q (by simp))
  | bl j=>cases ry;exact PySem.EqNone.eq_none_bool (aZ I q (by simp))
  | int j=>obtain⟨t',rfl⟩:=ry;exact PySem.EqNone.eq_none_int (aZ I q (by simp))
  | str j=>obtain⟨t',rfl⟩:=ry;exact PySem.EqNone.eq_none_str (aZ I q (by simp))
  | _=>exact absurd (show false=true from hs) NO
 | bl i=>
  cases rx
  cases y with
  | non=>cases ry;exact PySem.EqNone.eq_bool_none (aZ I q (by simp))
  | bl j=>cases ry;exact eq_bool (aZ I q BK)
  | str j=>obtain⟨t',rfl⟩:=ry;exact PySem.EqMixed.eq_bool_str (aZ I q (by simp))
  | _=>exact absurd (show false=true from hs) NO
 | int i=>
  obtain⟨t,rfl⟩:=rx
  cases y with
  | non=>cases ry;exact PySem.EqNone.eq_int_none (aZ I q (by simp))
  | int j=>obtain⟨t',rfl⟩:=ry;exact eq_int (aZ I q vD)
  | str j=>obtain⟨t',rfl⟩:=ry;exact PySem.EqMixed.eq_int_str (aZ I q (by simp))
  | _=>exact absurd (show false=true from hs) NO
 | str i=>
  obtain⟨t,rfl⟩:=rx
  cases y with
  | non=>cases ry;exact PySem.EqNone.eq_str_none (aZ I q (by simp))
  | bl j=>cases ry;exact PySem.EqMixed.eq_str_bool (aZ I q (by simp))
  | int j=>obtain⟨t',rfl⟩:=ry;exact PySem.EqMixed.eq_str_int (aZ I q (by simp))
  | str j=>obtain⟨t',rfl⟩:=ry;exact eq_str (aZ I q vC)
  | _=>exact absurd (show false=true from hs) NO
 | byt i=>
  obtain⟨t,rfl⟩:=rx
  cases y with
  | byt j=>obtain⟨t',rfl⟩:=ry;exact W.eq_bytes (aZ I q vE)
  | _=>exact absurd (show false=true from hs) NO
 | _=>cases y<;>exact absurd (show false=true from hs) NO
theorem KZ:OpR X (compareOp .NotEq) rNe:=by
 intro pins s σ H x y v u Q I rx ry h;obtain⟨hs,q⟩:=h
 cases x with
 | non=>
  cases rx
  cases y with
  | non=>cases ry;exact PySem.EqNone.ne_none_none (aZ I q (by simp))
  | bl j=>cases ry;exact PySem.EqNone.ne_none_bool (aZ I q (by simp))
  | int j=>obtain⟨t',rfl⟩:=ry;exact PySem.EqNone.ne_none_int (aZ I q (by simp))
  | str j=>obtain⟨t',rfl⟩:=ry;exact PySem.EqNone.ne_none_str (aZ I q (by simp))
  | _=>exact absurd (show false=true from hs) NO
 | bl i=>
  cases rx
  cases y with
  | non=>cases ry;exact PySem.EqNone.ne_bool_none (aZ I q (by simp))
  | bl j=>cases ry;exact ne_bool (aZ I q (OM not BK))
  | str j=>obtain⟨t',rfl⟩:=ry;exact PySem.EqMixed.ne_bool_str (aZ I q (by simp))
  | _=>exact absurd (show false=true from hs) NO
 | int i=>
  obtain⟨t,rfl⟩:=rx
  cases y with
  | non=>cases ry;exact PySem.EqNone.ne_int_none (aZ I q (by simp))
  | int j=>obtain⟨t',rfl⟩:=ry;exact ne_int (aZ I q (OM not vD))
  | str j=>obtain⟨t',rfl⟩:=ry;exact PySem.EqMixed.ne_int_str (aZ I q (by simp))
  | _=>exact absurd (show false=true from hs) NO
 | str i=>
  obtain⟨t,rfl⟩:=rx
  cases y with
  | non=>cases ry;exact PySem.EqNone.ne_str_none (aZ I q (by simp))
  | bl j=>cases ry;exact PySem.EqMixed.ne_str_bool (aZ I q (by simp))
  | int j=>obtain⟨t',rfl⟩:=ry;exact PySem.EqMixed.ne_str_int (aZ I q (by simp))
  | str j=>obtain⟨t',rfl⟩:=ry;exact ne_str (aZ I q (OM not vC))
  | _=>exact absurd (show false=true from hs) NO
 | byt i=>
  obtain⟨t,rfl⟩:=rx
  cases y with
  | byt j=>obtain⟨t',rfl⟩:=ry;exact W.ne_bytes (aZ I q (OM not vE))
  | _=>exact absurd (show false=true from hs) NO
 | _=>cases y<;>exact absurd (show false=true from hs) NO
theorem Gn:OpR X (compareOp .Lt) (rI0 λ i j=>.bl (decide (i < j))):=JM λ _ _ _ _ _ _ _ q=>lt_int q
theorem K0:OpR X (compareOp .LtE) (rI0 λ i j=>.bl (decide (i<=j))):=JM λ _ _ _ _ _ _ _ q=>le_int q
theorem Gp:OpR X (compareOp .Gt) (rI0 λ i j=>.bl (decide (j < i))):=JM λ _ _ _ _ _ _ _ q=>gt_int q
theorem K1:OpR X (compareOp .GtE) (rI0 λ i j=>.bl (decide (j<=i))):=JM λ _ _ _ _ _ _ _ q=>ge_int q
theorem Dt:OpR X (compareOp .IsNot) (λ x y H Q=>y=.non/\Q (.bl (!decide (x=.non))) H):=by
 intro pins s σ H x y v u Q I rx ry h;obtain⟨rfl,q⟩:=h;cases ry;refine isnot_none_gen (aZ I q ?_)
 cases x<;>first
  | (cases rx;rfl)
  | (obtain⟨t,rfl⟩:=rx;rfl)
theorem OpR.or{f:Value->Value->Sem Value}{r r':R2}(h:OpR X f r)(h':OpR X f r'):OpR X f (λ x y H Q=>r x y H Q\/r' x y H Q):=by
 intro pins s σ H x y v u Q I rx ry q
 rcases q with q|q
 ·exact h pins s σ H x y v u Q I rx ry q
 ·exact h' pins s σ H x y v u Q I rx ry q
theorem aA(b:Expr){op:CmpOp}(h:op ≠ .In:=by decide)(h2:op ≠ .NotIn:=by decide):behindInMarks op b=false:=by
 have e1:(op == CmpOp.In)=false:=by cases op<;>first|rfl|exact absurd rfl h
 have e2:(op == CmpOp.NotIn)=false:=by cases op<;>first|rfl|exact absurd rfl h2
 cases b<;>simp [behindInMarks,e1,e2]
theorem Dp{op:CmpOp}{r:R2}(ho:OpR X (compareOp op) r)(ha:PE X a ta)(hb:PE X b tb)(hm:behindInMarks op b=false):PE X (.Compare a [op] [b] pos) (tOp r ta tb):=by
 intro pins s σ H Q I h;exact wpAny_Compare1 (KL ha hb I h λ v u s2 x y H2 I2 rx ry q=>ho pins s2 σ H2 x y v u Q I2 rx ry q) hm
def BS(t:TE):TT:=λ σ H Q=>t σ H λ x H'=>∃ k,x=.bl k/\Q k H'
theorem pV{op:CmpOp}{r:R2}(ho:OpR X (compareOp op) r)(ha:PE X a ta)(hb:PE X b tb)(hm:behindInMarks op b=false):PT X (.Compare a [op] [b] pos) (BS (tOp r ta tb)):=by
 intro pins s σ H Q I h
 refine wpAny_isTrue_Compare1 (thn (ha pins s σ H _ I h) λ v s1 ⟨x,H1,I1,r1,q1⟩=>thn (hb pins s1 σ H1 _ I1 q1) λ u s2 ⟨y,H2,I2,r2,q2⟩=>
  thn (ho pins s2 σ H2 x y v u _ I2 r1 r2 q2) λ c s3 ⟨z,H3,I3,r3,k,e,q3⟩=>?_) hm
 subst e;cases r3;exact O3 ⟨H3,I3,q3⟩
def Bo(r r':R2)(ta tb tc:TE):TE:=λ σ H Q=>ta σ H λ x H1=>tb σ H1 λ y H2=>r x y H2 λ z H3=>∃ k,z=.bl k /\
 (if k=true then tc σ H3 λ w' H4=>r' y w' H4 Q else Q (.bl false) H3)
theorem zw{op op':CmpOp}{r r':R2}(ho:OpR X (compareOp op) r)(ho':OpR X (compareOp op') r')(ha:PE X a ta)(hb:PE X b tb)(hc:PE X c tc)
  (hm:lastMarks [op,op'] [b,c]=false:=by with_unfolding_all rfl):PE X (.Compare a [op,op'] [b,c] pos) (Bo r r' ta tb tc):=by
 intro pins s σ H Q I h
 refine Compare_chain (thn (ha pins s σ H _ I h) λ v s1 ⟨x,H1,I1,r1,q1⟩=>chain_link (thn (hb pins s1 σ H1 _ I1 q1) λ u s2 ⟨y,H2,I2,r2,q2⟩=>
  thn (ho pins s2 σ H2 x y v u _ I2 r1 r2 q2) λ d s3 ⟨z,H3,I3,r3,k,e,q3⟩=>?_)) hm
 subst e;cases r3;refine O3 ?_
 cases k with
 | false=>exact ite_ff ⟨.bl false,H3,I3,rfl,q3⟩
 | true=>exact ite_tt (chain_last (thn (hc pins s3 σ H3 _ I3 q3) λ w' s4 ⟨z',H4,I4,r4,q4⟩=>ho' pins s4 σ H4 y z' u w' Q I4 r2 r4 q4))
theorem nA:(sizeLine:Nat) < 2 ^ 63:=by rw [sizeLine_eq];decide
theorem yn{x:V}{us:List Value}(r:bq [x] us):∃ u,us=[u]/\bT x u:=by
 cases r with
 | cons r1 r2=>cases r2;exact⟨_,rfl,r1⟩
theorem BR{x y:V}{us:List Value}(r:bq [x,y] us):∃ u w',us=[u,w']/\bT x u/\bT y w':=by
 cases r with
 | cons r1 r2=>
  cases r2 with
  | cons r3 r4=>cases r4;exact⟨_,_,rfl,r1,r3⟩
theorem xV(hc:X.calm=true):cP X (.builtin "max") (λ xs H Q=>∃ i j,xs=[.int i,.int j]/\Q (.int (if j > i then j else i)) H):=by
 intro pins s σ H xs us Q I r h;obtain⟨i,j,rfl,q⟩:=h;obtain⟨u,w',rfl,⟨t,rfl⟩,⟨t',rfl⟩⟩:=BR r;refine max_two_ints (I.ok.hd hc) λ h' tk k=>⟨_,H,I.kept k,?_,q⟩
 by_cases hj:j > i
 ·rw [N7 hj,N7 hj];exact⟨_,rfl⟩
 ·rw [NY hj,NY hj];exact⟨_,rfl⟩
theorem xT(hc:X.calm=true):cP X (.builtin "min") (λ xs H Q=>∃ i j,xs=[.int i,.int j]/\Q (.int (if j < i then j else i)) H):=by
 intro pins s σ H xs us Q I r h;obtain⟨i,j,rfl,q⟩:=h;obtain⟨u,w',rfl,⟨t,rfl⟩,⟨t',rfl⟩⟩:=BR r;refine min_two_ints (I.ok.hd hc) λ h' tk k=>⟨_,H,I.kept k,?_,q⟩
 by_cases hj:j < i
 ·rw [N7 hj,N7 hj];exact⟨_,rfl⟩
 ·rw [NY hj,NY hj];exact⟨_,rfl⟩
end
structure BQ(h:Heap)(x dx C:Addr)(mA:Str->Option Value):Prop where
 obj:h.get? x=some (W.instObj C dx)
 ns:h.Ns1 dx mA
 ne:dx ≠ x
theorem xj{h:Heap}{dx:Addr}{mA:Str->Option Value}(n:h.Ns1 dx mA):∃ od,h.get? dx=some od/\∀ name,W.lookIn name od=some (mA name):=by
 obtain⟨o,es,ep,ho,hd,hk,_,hm⟩:=n;refine⟨o,ho,λ name=>?_⟩;have e:=hm name;unfold nsFind findBy at e;rw [←Array.find?_toList] at e;unfold W.lookIn;rw [hd];dsimp only;split
 ·rename_i y q;rw [q] at e;exact OM some e
 ·rename_i q;rw [q] at e
  have a:es.toList.any (·.refKey)=false:=by
   rw [List.any_eq_false];intro y hy;obtain⟨z,t,hkey⟩:=hk y (Array.mem_toList_iff.mp hy);simp [DictEntry.refKey,hkey]
  have a':¬ es.toList.any (·.refKey)=true:=by rw [a];exact NO
  rw [NY a'];exact OM some e
theorem BQ.look{h:Heap}{x dx C:Addr}{mA:Str->Option Value}(I:BQ h x dx C mA):∃ od,W.InstAt h x (W.instObj C dx) C (some od)/\∀ name,W.lookIn name od=some (mA name):=
 let ⟨od,ho,hl⟩:=xj I.ns
 ⟨od,⟨I.obj,rfl,rfl,ho⟩,hl⟩
section
variable {prog:Program}{w:World}{A:Around}{E:Value->Shared->Prop}{s:Shared}{K:PySem.W.Frag}{x dx C f:Addr}{mA:Str->Option Value}{name:Str}{v:Value}
theorem E2{expr:Bool}{Q:Value->Shared->Prop}(X:K.In s.heap)(I:BQ s.heap x dx C mA)(hg:W.plainGet K C name=true)(hh:W.hasDictIn K C=true)
  (ha:W.findIn K (.ref C) name=some none) (hv:mA name=some v) (hv':W.handedIn v=true) (h:Q v { s with toks:=s.toks+1 }) :
  wpAny (model prog w) A (getAttr (.ref x) name expr) Q E s:=by
 obtain⟨od,J,hl⟩:=I.look;exact W.get_value X J (W.plainGet_of hg).1 (W.findObj_own hh ha rfl (by rw [hl,hv])) hv' h
theorem AF{pl:Sem Bool}{Q:Value × List Value->Shared->Prop}(X:K.In s.heap)(I:BQ s.heap x dx C mA)(hg:W.plainGet K C name=true)
  (hf:W.findIn K (.ref C) name=some (some (.ref f))) (ht:W.isFn K (.ref f)=true) (hv:mA name=none) (h:Q (.ref f,[.ref x]) s) :
  wpAny (model prog w) A (getMethod (.ref x) name pl) Q E s:=by
 obtain⟨od,J,hl⟩:=I.look;exact W.method_fn X J (W.plainGet_of hg).1 (W.plainGet_of hg).2 hf (Q4.mp ht) (by show (W.lookIn name od).map (·.isSome)=some false;rw [hl,hv];rfl) h
theorem CU{ns:List Str}{Q:Unit->Shared->Prop}(X:K.In s.heap)(I:BQ s.heap x dx C mA)
  (hs:W.findIn K (.ref C) "__setattr__"=some (some (.builtin "object.__setattr__"))) (hp:W.plainOver K C=true) (ht:W.takerIn K C name=some none) (hh:W.hasDictIn K C=true)
  (hw:PySem.Within mA ns) (hsz:ns.length<=sizeLine)
  (h:∀ h',BQ h' x dx C (λ y=>if y=name then some v else mA y)->Heap.SameBut dx s.heap h'->Q () { s with heap:=h',toks:=s.toks+2 }) :
  wpAny (model prog w) A (setAttr (.ref x) name v) Q E s:=by
 obtain⟨od,J,hl⟩:=I.look;refine W.set_plain X J hs (W.osa_open (s:={ s with toks:=s.toks+1 }) (r:=none) X J hp ht λ b=>?_);obtain⟨cd,hc,hd'⟩:=W.any_some hh;have hx:s.heap.get? x=some ⟨.ref C,some dx,.plain,#[]⟩:=I.obj;refine My (NA (My (My (wpAny_loadPart hx (My (W.Looks.here (s:={ s with toks:=s.toks+1 }) (W.looks_clsIn X hc) ?_))))));rw [hd'];refine NA (a:=some dx) (My (NA (My ?_)));refine wpAny_nsSet1 (s:={ s with toks:=s.toks+1 }) I.ns λ h' hn2 hs2=>?_;obtain⟨oD,esD,epD,hoD,hdD,hcD⟩:=hn2.count (PySem.Within.cons name v hw);refine My (wpAny_lookBehind hoD (by rw [hdD];exact pastItsLine_dict (OI hcD (by rw [Ow];omega))) ?_);exact NA (h _ ⟨(hs2.2 _ (NM I.ne)).trans I.obj,hn2,I.ne⟩ hs2)
theorem zF{R:Result->Shared->Prop}{vs:List Value}{kw:List (Str × Value)}(X:K.In s.heap)(hm:W.makesIn K C=true)
  (hi:W.findIn K (.ref C) "__init__"=some (some (.ref f))) (hf:W.typeIn K (.ref f)=some (.type "function"))
  (h:codeAny (model prog w) (A.under (.builtin "type.__call__" ⟨.ref C::vs,kw⟩)) (.call (.ref f) ⟨.ref (s.heap.objs.size+1)::vs,kw⟩) (W.InitBack (s.heap.objs.size+1) R)
   { s with heap:=(s.heap.push W.emptyDict).push (W.instObj C s.heap.objs.size) }) :
  codeAny (model prog w) A (.call (.ref C) ⟨vs,kw⟩) R s:=by
 obtain⟨hh,g,d,t,os⟩:=s;exact W.make_core (W.makes_of X hm) (W.looks_findIn X hi) (λ self=>W.bind_fn X self hf) (.inl rfl) h
end
def fC(f:Str)(v:V):List (Str × V)->List (Str × V)
 | []=>[(f,v)]
 | (g,x)::r=>if g=f then (g,v)::r else (g,x)::fC f v r
theorem bb(f g:Str)(v:V):∀ fs:List (Str × V),(fC f v fs).lookup g=if g=f then some v else fs.lookup g
 | []=>by
  show List.lookup g [(f,v)]=_
  by_cases h:g=f
  ·have hb:(g == f)=true:=Q4.mpr h;simp only [List.lookup,hb,N7 h]
  ·have hb:(g == f)=false:=Pp.mpr h;simp only [List.lookup,hb,NY h]
 | (k,x)::r=>by
  have ih:=bb f g v r;rw [show fC f v ((k,x)::r)=(if k=f then (k,v)::r else (k,x)::fC f v r) from rfl]
  by_cases hk:k=f
  ·rw [N7 hk]
   by_cases h:g=k
   ·have hb:(g == k)=true:=Q4.mpr h;simp only [List.lookup,hb,N7 (h.trans hk)]
   ·have hb:(g == k)=false:=Pp.mpr h;simp only [List.lookup,hb,NY (λ e:g=f=>h (e.trans hk.symm))]
  ·rw [NY hk]
   by_cases h:g=k
   ·have hb:(g == k)=true:=Q4.mpr h;simp only [List.lookup,hb,NY (λ e:g=f=>hk (h.symm.trans e))]
   ·have hb:(g == k)=false:=Pp.mpr h;simp only [List.lookup,hb];exact ih
theorem jq(f:Str)(v:V):∀ fs:List (Str × V),f∈(fC f v fs).map (·.1)/\∀ g,g∈fs.map (·.1)->g∈(fC f v fs).map (·.1)
 | []=>⟨by simp [fC],λ g h=>by simp at h⟩
 | (k,x)::r=>by
  obtain⟨i1,i2⟩:=jq f v r;rw [show fC f v ((k,x)::r)=(if k=f then (k,v)::r else (k,x)::fC f v r) from rfl]
  by_cases hk:k=f
  ·rw [N7 hk];subst hk;exact⟨by simp,λ g h=>by simpa using h⟩
  ·rw [NY hk];refine⟨?_,λ g h=>?_⟩
   ·rw [OP];exact NH _ i1
   ·rw [OP] at h ⊢
    rcases NR.mp h with e|e
    ·exact NR.mpr (.inl e)
    ·exact NH _ (i2 g e)
theorem jD(f:Str)(v:V):∀ fs:List (Str × V),(fC f v fs).length<=fs.length+1
 | []=>by simp [fC]
 | (k,x)::r=>by
  have ih:=jD f v r;rw [show fC f v ((k,x)::r)=(if k=f then (k,v)::r else (k,x)::fC f v r) from rfl]
  by_cases hk:k=f
  ·rw [N7 hk,Ow,Ow];omega
  ·rw [NY hk,Ow,Ow];omega
theorem nc.some_of{v:V}{o:Option Value}(r:nc (some v) o):∃ u,o=some u/\bT v u:=by
 cases o with
 | none=>exact(show False from r).elim
 | some u=>exact⟨u,rfl,r⟩
theorem nc.none_of{o:Option Value}(r:nc none o):o=none:=by
 cases o with
 | none=>rfl
 | some u=>exact(show False from r).elim
theorem xN{v:V}{u:Value}(r:bT v u):W.handedIn u=true:=by
 cases v with
 | non=>cases (show u=Value.none from r);rfl
 | bl b=>cases (show u=Value.bool b from r);rfl
 | int i=>obtain⟨t,e⟩:=(show ∃ t,u=Value.int i t from r);cases e;rfl
 | str x=>obtain⟨t,e⟩:=(show ∃ t,u=Value.str x t from r);cases e;rfl
 | byt b=>obtain⟨t,e⟩:=(show ∃ t,u=Value.bytes b t from r);cases e;rfl
 | flt b=>obtain⟨t,e⟩:=(show ∃ t,u=Value.float b t from r);cases e;rfl
 | ref a=>cases (show u=Value.ref a from r);rfl
 | ty n=>cases (show u=Value.type n from r);rfl
section
variable {P:Program}{w:World}{H H':Hp}{h h':Heap}{a C dx:Addr}{fs fs':List (Str × V)}
theorem lX(hok:HOk P w H h)(e:H a=some (.ins C dx fs)):∃ mA,BQ h a dx C mA/\(∀ f,nc (fs.lookup f) (mA f))/\PySem.Within mA (fs.map (·.1))/\fs.length<=1000/\H dx=some (.own a):=by
 obtain⟨d,z,ne,ob,mA,n,r,q⟩:=(show cu P w H h a (.ins C dx fs) from hok a _ e);exact⟨mA,⟨ob,n,ne⟩,r,q,z,d⟩
end
structure Cls(K:W.Frag)(C:Addr):Prop where
 pg:W.plainGet K C Str.empty=true
 hd:W.hasDictIn K C=true
 po:W.plainOver K C=true
 sa:W.findIn K (.ref C) "__setattr__"=some (some (.builtin "object.__setattr__"))
theorem Cls.get{K:W.Frag}{C:Addr}(c:Cls K C)(f:Str):W.plainGet K C f=true:=c.pg
def dG(K:W.Frag)(C:Addr)(f:Str):Prop:=W.findIn K (.ref C) f=some none
theorem dG.taker{K:W.Frag}{C:Addr}{f:Str}(n:dG K C f):W.takerIn K C f=some none:=by
 unfold W.takerIn;rw [show W.findIn K (.ref C) f=some none from n];rfl
structure ym(K:W.Frag)(C:Addr)(m:Str)(f:Addr):Prop where
 at_:W.findIn K (.ref C) m=some (some (.ref f))
 fn:W.isFn K (.ref f)=true
 kp:W.keepIn K (.ref f)=true
section
variable {X:Cx}{pins:List (Addr × Obj)}{σ:St}{H:Hp}{s:Shared}{a C dx:Addr}{fs:List (Str × V)}{f:Str}{v:V}{A:Around}{E:Value->Shared->Prop}
theorem tI{b:Bool}{Q:Value->Shared->Prop}(I:Inv X pins σ H s)(e:H a=some (.ins C dx fs))(c:Cls X.K C)(n:dG X.K C f)(l:fs.lookup f=some v)
  (h:∀ u s',Inv X pins σ H s'->bT v u->Q u s'):wpAny (model X.prog X.w) A (getAttr (.ref a) f b) Q E s:=by
 obtain⟨mA,O,r,_,_,_⟩:=lX I.hok e;obtain⟨u,hu,ru⟩:=nc.some_of (v:=v) (o:=mA f) (by rw [←l];exact r f);exact E2 I.kIn O (c.get f) c.hd n hu (xN ru) (h u _ (I.tok _) ru)
theorem tH{m:Str}{g:Addr}{pl:Sem Bool}{Q:Value × List Value->Shared->Prop}(I:Inv X pins σ H s)(e:H a=some (.ins C dx fs))(c:Cls X.K C)(k:ym X.K C m g)(l:fs.lookup m=none)
  (h:Q (.ref g,[.ref a]) s):wpAny (model X.prog X.w) A (getMethod (.ref a) m pl) Q E s:=by
 obtain⟨mA,O,r,_,_,_⟩:=lX I.hok e;have hn:mA m=none:=nc.none_of (by rw [←l];exact r m);exact AF I.kIn O (c.get m) k.at_ k.fn hn h
theorem sF{y:V}{u:Value}{Q:Unit->Shared->Prop}(I:Inv X pins σ H s)(e:H a=some (.ins C dx fs))(c:Cls X.K C)(n:dG X.K C f)(hl:fs.length < 1000)(ry:bT y u)
  (h:∀ s',Inv X pins σ (upd H a (.ins C dx (fC f y fs))) s'->Q () s'):wpAny (model X.prog X.w) A (setAttr (.ref a) f u) Q E s:=by
 obtain⟨mA,O,r,wi,_,ho⟩:=lX I.hok e;have hz:(fs.map (·.1)).length<=sizeLine:=by rw [Nz,sizeLine_eq];omega
 refine CU I.kIn O c.sa c.po n.taker c.hd wi hz λ h' O' sb=>h _ ?_;have hd:∃ o,h'.get? dx=some o:=let ⟨o,_,_,e',_⟩:=O'.ns;⟨o,e'⟩;refine I.write (x:=a) (e:=dx) (by rw [e];exact True.intro) (.inr ho) (λ b q hb z=>(sb.2 b hb).trans z) hd ?_;refine⟨by rw [ag O.ne];exact ho,?_,O.ne,O'.obj,_,O'.ns,λ g=>?_,λ g hg=>?_⟩
 ·have:=jD f y fs;omega
 ·show nc ((fC f y fs).lookup g) (if g=f then some u else mA g)
  rw [bb]
  by_cases q:g=f
  ·rw [N7 q,N7 q];exact ry
  ·rw [NY q,NY q];exact r g
 ·by_cases q:g=f
  ·rw [q];exact(jq f y fs).1
  ·refine(jq f y fs).2 g (wi g λ z=>hg ?_)
   show (if g=f then some u else mA g)=none
   rw [NY q];exact z
theorem Inv.made(I:Inv X pins σ H s):Inv X pins σ (upd (upd H s.heap.objs.size (.own (s.heap.objs.size+1))) (s.heap.objs.size+1) (.ins C s.heap.objs.size []))
  { s with heap:=(s.heap.push W.emptyDict).push (W.instObj C s.heap.objs.size) }:=by
 have e1:(s.heap.push W.emptyDict).get? s.heap.objs.size=some W.emptyDict:=NG s.heap rfl
 have e2:((s.heap.push W.emptyDict).push (W.instObj C s.heap.objs.size)).get? (s.heap.objs.size+1)=some (W.instObj C s.heap.objs.size):=by
  have:=NG (s.heap.push W.emptyDict) (o:=W.instObj C s.heap.objs.size) rfl
  rwa [Oa] at this
 have e3:(s.heap.push W.emptyDict).Ns s.heap.objs.size (λ _=>none):=⟨W.emptyDict,#[],_,e1,rfl,(λ e he=>absurd he (by simp)),λ _=>rfl⟩;have I1:=I.laid (a:=s.heap.objs.size) (o:=.own (s.heap.objs.size+1)) (h':=s.heap.push W.emptyDict) (t':=s.toks) (λ b u q=>Nx _ q) (NF _) ⟨_,e1⟩;refine I1.laid (a:=s.heap.objs.size+1) (o:=.ins C s.heap.objs.size []) (t':=s.toks) (λ b u q=>Nx _ q) (Nat.le_of_eq (Oa _ _)) ?_;have ne:s.heap.objs.size ≠ s.heap.objs.size+1:=NQ (OW _);refine⟨by rw [ag ne,au],OL _,ne,e2,λ _=>none,(Heap.Ns1.of_empty e3).at λ o q=>Nx _ q,λ _=>True.intro,λ y hy=>absurd rfl hy⟩
theorem Fp{prog:Program}{w:World}{env:Env}{e:Expr}{f:Str}{pos:Pos}{s:Shared}{Q:Value->Shared->Prop}(hb:attributeBase e f env (eval e env)=eval e env)
  (h:wpAny (model prog w) A (eval e env) (λ o s₁=>wpAny (model prog w) A (getAttr o f true) Q E s₁) E s):wpAny (model prog w) A (eval (.Attribute e f pos) env) Q E s:=
 Attribute_any_ h (by rw [arm_eval_Attribute,hb])
end
section
variable {X:Cx}{o e value:Expr}{f:Str}{pos pos' tpos:Pos}{ta tv:TE}
end
section
variable {X:Cx}{pins:List (Addr × Obj)}{σ:St}{H:Hp}{s:Shared}{A:Around}{E:Value->Shared->Prop}{Q:Value->Shared->Prop}{c:Value}{b:Bool}
inductive qJ (K:PySem.W.Frag) (H:Hp):V->Value->Prop where
 | non:qJ K H .non (.type "NoneType")
 | bl (x:Bool):qJ K H (.bl x) (.type "bool")
 | int (i:Int):qJ K H (.int i) (.type "int")
 | str (x:Str):qJ K H (.str x) (.type "str")
 | flt (x:UInt64):qJ K H (.flt x) (.type "float")
 | lst {a:Addr} {xs:List V} (e:H a=some (.lst xs)):qJ K H (.ref a) (.type "list")
 | frz {a:Addr} {o:Obj} {xs:List V} (e:H a=some (.frz o (.lst xs))):qJ K H (.ref a) (.type "list")
 | tup {a:Addr} {xs:List V} (e:H a=some (.tup xs)):qJ K H (.ref a) (.type "tuple")
 | dK {a:Addr} {kvs:List (Key × V)} (e:H a=some (.dK kvs)):qJ K H (.ref a) (.type "dict")
 | dT {a:Addr} {kvs:List (List Key × V)} (e:H a=some (.dT kvs)):qJ K H (.ref a) (.type "dict")
 | ins {a C dx:Addr} {fs:List (Str × V)} (e:H a=some (.ins C dx fs)) (cl:Cls K C) (ha:PySem.W.findIn K (.ref C) "__class__"=some (some (.builtin "object.__class__")))
   (hn:PySem.W.specialIn K (.builtin "object.__class__") "__get__"=some (some (.builtin "getset_descriptor.__get__"))) (htk:PySem.W.takesIn K (.builtin "object.__class__")=some true)
   (hm:PySem.W.mroIn K C (.type "object")=some true):qJ K H (.ref a) (.ref C)
theorem xJ{x:V}{u t:Value}(I:Inv X pins σ H s)(rx:bT x u)(ty:qJ X.K H x t)(e:W.kitOne X.K t c=some b)(h:∀ tk,Q (.bool b) { s with toks:=tk }) :
  wpAny (model X.prog X.w) A (call (.builtin "isinstance") [u,c]) Q E s:=by
 cases ty with
 | non=>cases (show u=Value.none from rx);exact Ql W.kitx_none I.kIn True.intro e (λ z=>nomatch z) h
 | bl y=>cases (show u=Value.bool y from rx);exact Ql W.kitx_bool I.kIn True.intro e (λ z=>nomatch z) h
 | int i=>obtain⟨t,q⟩:=(show ∃ t,u=Value.int i t from rx);cases q;exact Ql W.kitx_int I.kIn True.intro e (λ z=>nomatch z) h
 | str y=>obtain⟨t,q⟩:=(show ∃ t,u=Value.str y t from rx);cases q;exact Ql W.kitx_str I.kIn True.intro e (λ z=>nomatch z) h
 | flt y=>obtain⟨t,q⟩:=(show ∃ t,u=Value.float y t from rx);cases q;exact Ql W.kitx_float I.kIn True.intro e (λ z=>nomatch z) h
 | @lst a xs ea=>
  cases (show u=Value.ref a from rx);obtain⟨_,_,n,_,h1⟩:=(show cu X.prog X.w H s.heap a (.lst xs) from I.hok a _ ea);exact Ql W.kitx_list I.kIn ⟨_,h1,rfl⟩ e (λ z=>nomatch z) h
 | @frz a ob xs ea=>
  cases (show u=Value.ref a from rx);obtain⟨_,_,_,n,_,h1⟩:=(show cu X.prog X.w H s.heap a (.frz ob (.lst xs)) from I.hok a _ ea);exact Ql W.kitx_list I.kIn ⟨_,h1,rfl⟩ e (λ z=>nomatch z) h
 | @tup a xs ea=>
  cases (show u=Value.ref a from rx);obtain⟨_,_,_,p⟩:=(show cu X.prog X.w H s.heap a (.tup xs) from I.hok a _ ea);obtain⟨o,h1,h2,_⟩:=p;exact Ql W.kitx_tuple I.kIn ⟨o,h1,h2⟩ e (λ z=>nomatch z) h
 | @dK a kvs ea=>
  cases (show u=Value.ref a from rx);obtain⟨_,_,vs,_,p⟩:=(show cu X.prog X.w H s.heap a (.dK kvs) from I.hok a _ ea);obtain⟨o,es,ep,h1,h2,_⟩:=p;exact Ql W.kitx_dict I.kIn ⟨o,h1,h2.1⟩ e (λ z=>nomatch z) h
 | @dT a kvs ea=>
  cases (show u=Value.ref a from rx);obtain⟨_,_,xs,_,o,es,ep,h1,h2,_⟩:=(show cu X.prog X.w H s.heap a (.dT kvs) from I.hok a _ ea);exact Ql W.kitx_dict I.kIn ⟨o,h1,h2.1⟩ e (λ z=>nomatch z) h
 | @ins a C dx fs ea cl ha hn htk hm=>
  cases (show u=Value.ref a from rx);obtain⟨mA,O,_⟩:=lX I.hok ea;obtain⟨od,J,_⟩:=O.look;exact Ql (W.kitx_own (cl.get _) cl.hd ha hn htk hm) I.kIn J e (λ z=>nomatch z) h
end
structure iQ(k:Nat)(A:Around):Prop where
 hd:A.handled=none
 dp:A.depth+3 * k+5 < recursionLimit
 un:A.units+16 * k+200 < cLine
theorem iQ.mono{j k:Nat}{A:Around}(r:iQ k A)(h:j<=k):iQ j A:=⟨r.hd,by have:=r.dp;omega,by have:=r.un;omega⟩
theorem iQ.deeper{k:Nat}{A:Around}(r:iQ (k+1) A)(env:Env):iQ k (A.deeper env):=
 ⟨r.hd,by have:=r.dp;show A.depth+1+3 * k+5 < _;omega,by have:=r.un;show A.units+3+16 * k+200 < _;omega⟩
theorem sS{A:Around}{C:Addr}{us:List Value}{kw:List (Str × Value)}:(A.under (.builtin "type.__call__" ⟨.ref C::us,kw⟩)).depth=A.depth+1:=by
 first|rfl|simp [Around.under,Code.weight,Code.isCreation,Code.isGuard,Code.isCaller,Code.frames,Code.isFrame,guardIds]
theorem sR{A:Around}{C:Addr}{us:List Value}{kw:List (Str × Value)}:(A.under (.builtin "type.__call__" ⟨.ref C::us,kw⟩)).units=A.units+1:=by
 first|rfl|simp [Around.under,Code.cUnits,Code.frames,Code.isFrame]
theorem iQ.make{k:Nat}{A:Around}(r:iQ (k+1) A)(C:Addr)(us:List Value)(kw:List (Str × Value)):iQ k (A.under (.builtin "type.__call__" ⟨.ref C::us,kw⟩)):=
 ⟨r.hd,by have:=r.dp;rw [sS];omega,by have:=r.un;rw [sR];omega⟩
theorem iQ.depth{k:Nat}{A:Around}(r:iQ k A):A.depth < recursionLimit:=by have:=r.dp;omega
theorem iQ.units{k:Nat}{A:Around}(r:iQ k A):A.units+64 < cLine:=by have:=r.un;omega
def FH:TA:=λ _ H Q=>Q [] H
def yo(ta:TE)(tr:TA):TA:=λ σ H Q=>ta σ H λ x H1=>tr σ H1 λ xs H2=>Q (x::xs) H2
section
variable {X:Cx}{e:Expr}{es:List Expr}{te:TE}{t:TA}{pos:Pos}
theorem dh:PA X [] FH:=λ _ _ _ _ H Q I h=>Q2 ⟨[],H,I,.nil,h⟩
theorem Ds(ha:PE X e te)(hr:PA X es t)(hs:starEach (e::es) X.env=(false,eval e X.env)::starEach es X.env:=by rfl):PA X (e::es) (yo te t):=by
 intro pos pins s σ H Q I h;rw [hs]
 show wpAny _ _ (spliced ((false,eval e X.env)::backTo pos (starEach es X.env))) _ _ s
 refine Qo (thn (ha pins s σ H _ I h) λ u s1 ⟨x,H1,I1,r1,q1⟩=>?_);exact thn (hr pos pins s1 σ H1 _ I1 q1) λ us s2 ⟨xs,H2,I2,r2,q2⟩=>⟨x::xs,H2,I2,.cons r1 r2,q2⟩
end
abbrev Sp:=List V->Hp->VK->XK->Prop
abbrev CXT:=List Env->Hp->Shared->XK->Value->Shared->Prop
structure Bg(P:Program)(w:World)(K:W.Frag)(mg:Str->Option Value)(base:Heap)(A:Around)(outer:List Env)(s:Shared)(H:Hp):Prop where
 frames:A.frames=some outer
 mod:Mod K mg base
 bs:∀ b o,base.get? b=some o->s.heap.get? b=some o/\H b=none
 bsz:base.objs.size<=s.heap.objs.size
 funs:s.heap.FunFrames base outer
 frf:∀ b∈frs outer,H b=none
 hok:HOk P w H s.heap
 bare:AllBare s.gens
def CE(outer:List Env)(P:Program)(w:World)(H:Hp)(s:Shared)(Q:VK)(u:Value)(s':Shared):Prop:=
 ∃ v H',s'.os=s.os/\AllBare s'.gens/\Un (frs outer) [] H H' s.heap s'.heap/\HOk P w H' s'.heap/\bT v u/\Q v H'
def CR(CX:CXT)(outer:List Env)(P:Program)(w:World)(H:Hp)(s:Shared)(Q:VK)(E:XK)(r:Result)(s':Shared):Prop:=
 match r with
 | .ok (.ret u)=>CE outer P w H s Q u s'
 | .ok _=>False
 | .error e=>CX outer H s E e s'
structure cq(P:Program)(w:World)(K:W.Frag)(mg:Str->Option Value)(base:Heap)(CX:CXT)(k:Nat)(f:Addr)(fd:FuncData)(ps:List Str)(sp:Sp):Prop where
 len:∀ vs H Q E,sp vs H Q E->vs.length=ps.length
 run:∀ (A:Around) (outer:List Env) (s:Shared) (H:Hp) (args:Args) (us:List Value) (vs:List V) (Q:VK) (E:XK),iQ k A->Bg P w K mg base A outer s H->BindsTo s fd args (ps.zip us)->bq vs us->sp vs H Q E →
  codeAny (model P w) A (.call (.ref f) args) (CR CX outer P w H s Q E) s
theorem cq.imp{P:Program}{w:World}{K:W.Frag}{mg:Str->Option Value}{base:Heap}{CX:CXT}{k:Nat}{f:Addr}{fd:FuncData}{ps:List Str}{sp sp':Sp}(F:cq P w K mg base CX k f fd ps sp)
  (h:∀ vs H Q E,sp' vs H Q E->sp vs H Q E):cq P w K mg base CX k f fd ps sp':=
 ⟨λ vs H Q E q=>F.len vs H Q E (h _ _ _ _ q),λ A outer s H args us vs Q E hr he hb hv hs=>F.run A outer s H args us vs Q E hr he hb hv (h _ _ _ _ hs)⟩
theorem Bg.make{P:Program}{w:World}{K:W.Frag}{mg:Str->Option Value}{base:Heap}{A:Around}{outer:List Env}{s:Shared}{H:Hp}(e:Bg P w K mg base A outer s H)(C:Addr)(us:List Value)(kw:List (Str × Value)) :
  Bg P w K mg base (A.under (.builtin "type.__call__" ⟨.ref C::us,kw⟩)) outer s H:=⟨by first|exact e.frames|(simpa [Around.under,Code.envs,Code.isFrame,pushEnvs] using e.frames),e.mod,e.bs,e.bsz,e.funs,e.frf,e.hok,e.bare⟩
section
variable {X:Cx}{pins:List (Addr × Obj)}{σ:St}{H:Hp}{s s':Shared}
theorem Inv.env0(I:Inv X pins σ H s):Bg X.prog X.w X.K X.mg X.base X.A X.stack s H:=
 ⟨I.ok.frames,I.ok.mod,I.bs,OI I.ok.bsz I.sz,I.stack,I.stkFree,I.hok,I.bare⟩
theorem Inv.after{Q:VK}{u:Value}(I:Inv X pins σ H s)(h:CE X.stack X.prog X.w H s Q u s'):EP X pins σ Q u s':=by
 obtain⟨v,H',os,bare,un,hok,r,q⟩:=h;obtain⟨hh,g,d,t,os'⟩:=s';obtain rfl:os'=s.os:=os;exact⟨v,H',I.call (h':=hh) (g':=g) (d':=d) (t':=t) (ch:=[]) un hok bare (λ b z=>absurd z (by simp)),r,q⟩
end
def Ge(sp:Sp)(dvs:List V)(E:XK)(t:TA):TE:=λ σ H Q=>t σ H λ vs H1=>sp (vs++dvs) H1 Q E
def aD(K:W.Frag)(fd:FuncData)(ps:List Str)(ds:List Value):Prop:=
 ∀ (s:Shared) (us:List Value),K.In s.heap->(us++ds).length=ps.length->BindsTo s fd ⟨us,[]⟩ (ps.zip (us++ds))
theorem aD.all{K:W.Frag}{fd:FuncData}{ps:List Str}(h:∀ us:List Value,us.length=ps.length->bindArgs fd ⟨us,[]⟩=pure (ps.zip us)):aD K fd ps []:=λ s us _ hl=>by
 rw [QV] at hl ⊢;exact .of_eq (h us hl)
def kI(CX:CXT)(X:Cx)(E:XK):Prop:=∀ (pins:List (Addr × Obj)) (σ:St) (H:Hp) (s:Shared) (e:Value) (s':Shared),Inv X pins σ H s->CX X.stack H s E e s'->X.xe e s'
section
variable {X:Cx}{CX:CXT}{k:Nat}{f C:Addr}{fd:FuncData}{ps:List Str}{sp:Sp}{dvs:List V}{ds:List Value}{E:XK}{x m:Str}{p pos apos:Pos}{e o:Expr}{es:List Expr}{ta:TE}{t:TA}
theorem Bp{pins:List (Addr × Obj)}{σ:St}{H:Hp}{s:Shared}{Q:VK}{us:List Value}{vs:List V}(F:cq X.prog X.w X.K X.mg X.base CX k f fd ps sp)(hr:iQ k X.A)(hb:aD X.K fd ps ds)(hd:bq dvs ds)(hx:kI CX X E)
  (I:Inv X pins σ H s) (r:bq vs us) (h:sp (vs++dvs) H Q E):wpAny (model X.prog X.w) X.A (call (.ref f) us) (EP X pins σ Q) X.xe s:=by
 have r2:bq (vs++dvs) (us++ds):=r.append hd;have hl:(us++ds).length=ps.length:=by rw [←r2.length];exact F.len _ _ _ _ h
 refine wpAny_call (QM (F.run X.A X.stack s H ⟨us,[]⟩ (us++ds) (vs++dvs) Q E hr I.env0 (hb s us I.kIn hl) r2 h) λ r s' hq=>?_)
 cases r with
 | error e=>exact hx pins σ H s e s' I hq
 | ok fl=>
  cases fl with
  | ret u=>exact I.after hq
  | next=>exact False.elim hq
  | brk=>exact False.elim hq
  | cont=>exact False.elim hq
theorem Dq(F:cq X.prog X.w X.K X.mg X.base CX k f fd ps sp)(hr:iQ k X.A)(hg:Gl X x)(hm:X.mg x=some (.ref f))(hk:W.keepIn X.K (.ref f)=true)(hb:aD X.K fd ps ds)(hd:bq dvs ds)(hx:kI CX X E)
  (ha:PA X (e::es) t) (hdb:(x == ("__debug__":Str))=false:=by decide) (he:starEach (e::es) X.env=(false,eval e X.env)::starEach es X.env:=by rfl) (hpl:(backTo pos (starEach es X.env)).any (·.1)=false:=by rfl) :
  PE X (.Call (.Name x p) (e::es) [] pos) (Ge sp dvs E t):=by
 intro pins s σ H Q I h;refine Pn (pX I hg hm ?_ hdb);refine W.callWith_K (h₀:=X.base) I.ok.mod.kin hk (thn (ha pos pins s σ H _ I h) λ us s1 ⟨vs,H1,I1,r,q⟩=>⟨I1.kIn,?_⟩) he hpl;exact Bp F hr hb hd hx I1 r q
structure Mk(K:W.Frag)(C f:Addr):Prop where
 makes:W.makesIn K C=true
 init:W.findIn K (.ref C) "__init__"=some (some (.ref f))
 fn:W.isFn K (.ref f)=true
 kp:W.keepIn K (.ref C)=true
theorem yX{pins:List (Addr × Obj)}{σ:St}{H:Hp}{s:Shared}{Q:VK}{us:List Value}{vs:List V}(M:Mk X.K C f)(F:cq X.prog X.w X.K X.mg X.base CX k f fd ps sp)(hr:iQ (k+1) X.A)(hb:aD X.K fd ps ds)(hd:bq dvs ds)
  (hx:kI CX X E) (I:Inv X pins σ H s) (r:bq vs us)
  (h:∀ x dx,H x=none->H dx=none->dx ≠ x->sp (.ref x::(vs++dvs)) (upd (upd H dx (.own x)) x (.ins C dx [])) (λ v H2=>v=.non/\Q (.ref x) H2) E) :
  wpAny (model X.prog X.w) X.A (call (.ref C) us) (EP X pins σ Q) X.xe s:=by
 have hq:=h (s.heap.objs.size+1) s.heap.objs.size (I.hok.fresh (Qg _)) (I.hok.fresh (NF _)) (NQ (OW _));have I2:=Inv.made (C:=C) I;have r2:bq (V.ref (s.heap.objs.size+1)::(vs++dvs)) (Value.ref (s.heap.objs.size+1)::(us++ds)):=.cons rfl (r.append hd)
 have hl:(Value.ref (s.heap.objs.size+1)::us++ds).length=ps.length:=by
  have e:=r2.length;rw [F.len _ _ _ _ hq] at e;exact e.symm
 refine wpAny_call (zF (f:=f) I.kIn M.makes M.init (Q4.mp M.fn) (QM (F.run _ X.stack _ _ ⟨Value.ref (s.heap.objs.size+1)::us,[]⟩ (Value.ref (s.heap.objs.size+1)::(us++ds)) _ _ E (hr.make C us [])
  (I2.env0.make C us []) (hb _ (Value.ref (s.heap.objs.size+1)::us) I2.kIn hl) r2 hq) λ r s' hq'=>?_))
 cases r with
 | error e=>exact hx pins σ _ _ e s' I2 hq'
 | ok fl=>
  cases fl with
  | ret u=>
   obtain⟨v,H',I3,rv,ev,q3⟩:=I2.after hq';subst ev;exact⟨rv,⟨V.ref (s.heap.objs.size+1),H',I3,rfl,q3⟩⟩
  | next=>exact False.elim hq'
  | brk=>exact False.elim hq'
  | cont=>exact False.elim hq'
end
def PK(X:Cx)(kws:List Keyword)(t:TA):Prop:=
 ∀ (pos:Pos) (pins:List (Addr × Obj)) (s:Shared) (σ:St) (H:Hp) (Q:List V->Hp->Prop),Inv X pins σ H s->t σ H Q->wpAny (model X.prog X.w) X.A (evalAll ((backToKw pos (keywordEach kws X.env)).map (·.2))) (AP X pins σ Q) X.xe s
section
variable {X:Cx}{CX:CXT}{k:Nat}{f C:Addr}{fd:FuncData}{ps ks:List Str}{sp:Sp}{E:XK}{x m:Str}{p pos apos kpos:Pos}{e o:Expr}{es:List Expr}{kws:List Keyword}{te ta:TE}{t tk:TA}{nm:Option Str}
theorem Bt:PK X [] FH:=λ _ _ _ _ H Q I h=>wpAny_evalAll_nil ⟨[],H,I,.nil,h⟩
theorem ve(ha:PE X e te)(hr:PK X kws t):PK X (⟨nm,e,kpos⟩ :: kws) (yo te t):=by
 intro pos pins s σ H Q I h
 show wpAny _ _ (evalAll ((do let v ←eval e X.env;standAt pos;pure v)::(backToKw pos (keywordEach kws X.env)).map (·.2))) _ _ s
 refine wpAny_evalAll_cons (My (thn (ha pins s σ H _ I h) λ u s1 ⟨x,H1,I1,r1,q1⟩=>My (RL (NA ?_))));exact thn (hr pos pins s1 σ H1 _ I1 q1) λ us s2 ⟨xs,H2,I2,r2,q2⟩=>⟨x::xs,H2,I2,.cons r1 r2,q2⟩
variable {g:List Value->List Value->List Value}{gV:List V->List V->List V}
end
structure ak(N P:List Str)(sc:Scope):Prop where
 kind:sc.kind=.function
 co:sc.isCoroutine=false
 gen:sc.isGenerator=false
 nd:N.Nodup
 pre:N.take P.length=P
 par:∀ x∈P,sc.names.lookup x=some .local\/sc.names.lookup x=some .cell
 nofree:∀ y∈sc.names,y.2 ≠ .free
theorem oF{kindOf:Str->Option NameKind}{x:Str}:∀ {binds:List (Str × Value)}{m:Str->Option Value},(∀ v,(x,v) ∉ binds)->bindL kindOf binds m x=m x
 | [],_,_=>rfl
 | (n,v)::r,m,h=>by
  unfold bindL;rw [oF λ w hw=>h w (mem_cons_of_mem _ hw)];split
  ·have:x ≠ n:=by rintro rfl;exact h v NK
   simp [this]
  ·rfl
theorem oH{kindOf:Str->Option NameKind}{x:Str}:∀ {binds:List (Str × Value)}{m:Str->Option Value},(∀ v,(x,v) ∉ binds)->bindC kindOf binds m x=m x
 | [],_,_=>rfl
 | (n,v)::r,m,h=>by
  unfold bindC;rw [oH λ w hw=>h w (mem_cons_of_mem _ hw)];split
  ·rfl
  ·have:x ≠ n:=by rintro rfl;exact h v NK
   simp [this]
theorem oG{kindOf:Str->Option NameKind}{x:Str}{v:Value}:∀ {P:List Str}{vs:List Value}{i:Nat}{m:Str->Option Value},P.Nodup->P[i]? = some x->vs[i]? = some v->kindOf x=some .local →
  bindL kindOf (P.zip vs) m x=some v
 | [],_,_,_,_,h,_,_=>by simp at h
 | _::_,[],_,_,_,_,h,_=>by simp at h
 | p::P,w::vs,0,m,nd,h1,h2,hk=>by
  simp at h1 h2;subst h1;subst h2
  show bindL kindOf ((p,w)::P.zip vs) m p=_
  unfold bindL;rw [oF λ v hv=>(nodup_cons.mp nd).1 (of_mem_zip hv).1,if_pos hk];simp
 | p::P,w::vs,i+1,m,nd,h1,h2,hk=>by
  show bindL kindOf ((p,w)::P.zip vs) m x=_
  unfold bindL;exact oG (i:=i) (nodup_cons.mp nd).2 (by simpa using h1) (by simpa using h2) hk
theorem oI{kindOf:Str->Option NameKind}{x:Str}{v:Value}:∀ {P:List Str}{vs:List Value}{i:Nat}{m:Str->Option Value},P.Nodup->P[i]? = some x->vs[i]? = some v->kindOf x ≠ some .local →
  bindC kindOf (P.zip vs) m x=some v
 | [],_,_,_,_,h,_,_=>by simp at h
 | _::_,[],_,_,_,_,h,_=>by simp at h
 | p::P,w::vs,0,m,nd,h1,h2,hk=>by
  simp at h1 h2;subst h1;subst h2
  show bindC kindOf ((p,w)::P.zip vs) m p=_
  unfold bindC;rw [oH λ v hv=>(nodup_cons.mp nd).1 (of_mem_zip hv).1,if_neg hk];simp
 | p::P,w::vs,i+1,m,nd,h1,h2,hk=>by
  show bindC kindOf ((p,w)::P.zip vs) m x=_
  unfold bindC;exact oI (i:=i) (nodup_cons.mp nd).2 (by simpa using h1) (by simpa using h2) hk
def aH(N:List Str)(vs:List V):St:=vs.map some++List.replicate (N.length - vs.length) none
def BP(CX:CXT)(P:Program)(w:World)(K:W.Frag)(mg:Str->Option Value)(base:Heap)(N:List Str)(qual:Str)(scope:Scope)(f:Addr)(cd:Value)(A:Around)(outer:List Env)(s:Shared)(H:Hp)(E:XK):Cx where
 prog:=P
 w:=w
 K:=K
 mg:=mg
 base:=base
 A:=A.deeper (envOfC qual scope s.heap.objs.size f cd)
 N:=N
 s₀:=s
 H₀:=H
 env:=envOfC qual scope s.heap.objs.size f cd
 outer:=outer
 stack:=envOfC qual scope s.heap.objs.size f cd::outer
 ex:=[]
 calm:=true
 fn:=λ _=>true
 pn:=[]
 xe:=λ e s'=>wpAny (model P w) (A.deeper (envOfC qual scope s.heap.objs.size f cd)) (leaving (envOfC qual scope s.heap.objs.size f cd) e) (λ _ s''=>CX outer H s E e s'') (λ e' s''=>CX outer H s E e' s'') s'
theorem rV{sc:Scope}{n:Nat}{x:Str}(h:sc.names.lookup x=some .cell):∃ c,(cellsFrom n sc.names []).lookup x=some c:=by
 have q:=W.cellsFrom_some sc.names n [] (.inl h);exact PX.mp q
theorem xK{CX:CXT}{P:Program}{w:World}{K:W.Frag}{mg:Str->Option Value}{base:Heap}{N ps:List Str}{qual:Str}{scope:Scope}{f:Addr}{cd:Value}{A:Around}{outer:List Env}{s s1:Shared}{H:Hp}{E:XK}{us:List Value}{vs:List V}
  (S:ak N ps scope) (hd:A.handled=none) (e0:Bg P w K mg base A outer s H) (hl:vs.length=ps.length) (r:bq vs us)
  (x:InCallC s s.heap.objs.size (bindL (envOfC qual scope s.heap.objs.size f cd).kindOf (ps.zip us) λ _=>none) (cellsFrom (s.heap.objs.size+1) scope.names []) (bindC (envOfC qual scope s.heap.objs.size f cd).kindOf (ps.zip us) λ _=>none) s1) :
  Inv (BP CX P w K mg base N qual scope f cd A outer s H E) [] (aH N vs) H s1:=by
 have hpl:ps.length<=N.length:=by have:=OM List.length S.pre;rw [N8] at this;omega
 obtain⟨h1,tk,rfl,hk⟩:=x.done;have noA:∀ b:Addr,b ∉ (BP CX P w K mg base N qual scope f cd A outer s H E).ex:=λ b z=>absurd (show b∈([]:List Addr) from z) (by simp)
 refine⟨⟨e0.mod,S.kind,rfl,rfl,NF _,λ y z c h1 h2=>?_,λ y hy=>?_,λ y c _ h=>?_,λ _=>hd,Around.frames_deeper e0.frames,.inr ⟨rfl,rfl⟩,λ b z=>absurd z (noA b),e0.bs,e0.bsz,λ b _ _=>noA b,λ b z=>absurd z (noA b),e0.funs,e0.frf⟩,
  rfl,e0.bare,Un.kept hk,⟨_,x.toInCall.ns,λ i y v h1 h2 h3=>?_⟩,λ y c h=>⟨_,x.cell y c h⟩,e0.hok.fresh (NF _),λ y c h=>?_,λ p hp=>absurd (show p∈([]:List (Addr × Obj)) from hp) (by simp),e0.hok.kept hk,?_⟩
 ·exact name_of_addr x.apart (PR h1) (PR h2)
 ·have hy:scope.names.lookup y=some .cell\/scope.names.lookup y=some .free:=hy
  rcases hy with hy|hy
  ·exact rV hy
  ·exact absurd rfl (S.nofree _ (PR hy))
 ·exact PY (x.above y c (PR h))
 ·have hi:i < vs.length:=by
   unfold aH at h2
   by_cases hi:i < vs.length
   ·exact hi
   ·rw [Oh (by simpa using hi)] at h2;rw [P5] at h2
    split at h2<;>cases h2
  have ha:vs[i]? = some v:=by
   unfold aH at h2;rw [getElem?_append_left (by simpa using hi),getElem?_map] at h2
   cases e:vs[i]? with
   | none=>rw [e] at h2;cases h2
   | some a=>rw [e] at h2;cases h2;rfl
  obtain⟨u,hu,rv⟩:=r.get ha
  have hp:ps[i]? = some y:=by
   rw [←S.pre,List.getElem?_take_of_lt (by omega)];exact h1
  have ndP:ps.Nodup:=by rw [←S.pre];exact S.nd.sublist (List.take_sublist _ _)
  refine⟨u,rv,?_⟩
  rcases S.par y (N6 hp) with k|k
  ·exact .inl ⟨k,oG ndP hp hu k⟩
  ·obtain⟨c,e⟩:=rV (n:=s.heap.objs.size+1) k;refine .inr ⟨.inl k,c,e,?_⟩;have q:=x.cell y c e;rw [oI ndP hp hu (by show scope.names.lookup y ≠ _;rw [k];decide)] at q;exact q
 ·exact e0.hok.fresh (PY (x.above y c (PR h)))
 ·unfold aH
  show _=N.length
  rw [NP,Nz,O9];omega
theorem LM{CX:CXT}{P:Program}{w:World}{K:W.Frag}{mg:Str->Option Value}{base:Heap}{k:Nat}{f:Addr}{name qual:Str}{params:Arguments}{body:List Stmt}{scope:Scope}{dV kV doc pm cdv ct oc:Value}{an od:Option Addr}
  {osl:Array (Option Value)} {N ps:List Str} {sp:Sp} (lk:K.lookup f=some ⟨oc,od,.func (W.fnOf name qual params body scope dV kV doc pm an cdv ct),osl⟩) (hcd:W.codeIn K cdv qual=true) (S:ak N ps scope)
  (len:∀ vs H Q E,sp vs H Q E->vs.length=ps.length)
  (hbody:∀ (A:Around) (outer:List Env) (s:Shared) (H:Hp) (vs:List V) (Q:VK) (E:XK),iQ k (A.deeper (envOfC qual scope s.heap.objs.size f cdv))->sp vs H Q E →
   ∃ t,PSs (BP CX P w K mg base N qual scope f cdv A outer s H E) body t/\t { nx:=λ _ H'=>Q .non H',rt:=Q } (aH N vs) H) :
  cq P w K mg base CX (k+1) f (W.fnOf name qual params body scope dV kV doc pm an cdv ct) ps sp:=by
 refine⟨len,λ A outer s H args us vs Q E hr e0 hb r hsp=>?_⟩;have hl:=len _ _ _ _ hsp;have KX:K.In s.heap:=e0.mod.kin.keeps λ b o e=>(e0.bs b o e).1;have lim:s.heap.NoLimit:=e0.mod.nolimit.keeps λ b o e=>(e0.bs b o e).1
 have hkind:∀ y∈ps.zip us,scope.names.lookup y.1=some .local\/(scope.names.lookup y.1=some .cell/\((cellsFrom (s.heap.objs.size+1) scope.names []).lookup y.1).isSome=true):=λ ⟨n,v⟩ hy=>by
  rcases S.par n (P8 hy).1 with q|q
  ·exact .inl q
  ·exact .inr ⟨q,W.cellsFrom_some _ _ _ (.inl q)⟩
 refine codeAny_call_function hr.depth (KX _ _ lk) rfl S.co S.gen rfl (W.codeRec_of KX hcd) (hb _ _ _ _ ?_);refine wpAny_newFunctionEnv_cells S.kind hkind λ env he s1 x=>?_;subst he;refine⟨lim.keeps x.toInCall.keep,codeAny_func ?_⟩;obtain⟨t,ht,hq⟩:=hbody A outer s H vs Q E (hr.deeper _) hsp;have I:Inv (BP CX P w K mg base N qual scope f cdv A outer s H E) [] (aH N vs) H s1:=xK S hr.hd e0 hl r x;refine QW (ht [] s1 (aH N vs) H _ I hq) (λ fl s' hs=>?_) λ e s' hs=>hs
 have fin:∀ {σ':St} {H':Hp} {v:V} {u:Value},Inv (BP CX P w K mg base N qual scope f cdv A outer s H E) [] σ' H' s'->bT v u->Q v H'->CE outer P w H s Q u s':=
  λ {σ' H' v u} J rv q=>⟨v,H',J.os,J.bare,J.base,J.hok,rv,q⟩
 cases fl with
 | ret u=>
  obtain⟨v,σ',H',J,rv,q⟩:=hs;exact fin J rv q
 | next=>
  obtain⟨σ',H',J,q⟩:=hs;exact fin (v:=V.non) (u:=Value.none) J rfl q
 | brk=>
  obtain⟨_,_,_,q⟩:=hs;exact False.elim q
 | cont=>
  obtain⟨_,_,_,q⟩:=hs;exact False.elim q
section
variable {X:Cx}{x:Str}{p pos:Pos}{e:Expr}{es:List Expr}{t:TA}{id T:String}{r:List V->Hp->VK->Prop}
def tCB(r:List V->Hp->VK->Prop)(t:TA):TE:=λ σ H Q=>t σ H λ vs H1=>r vs H1 Q
theorem iH(hc:cP X (.builtin id) r)(hg:Gl X x)(hm:X.mg x=none)(hv:bootBuiltins x=some (.builtin id))(ha:PA X (e::es) t)(hn:x ≠ "__name__":=by decide)(hdb:(x == ("__debug__":Str))=false:=by decide)
  (he:starEach (e::es) X.env=(false,eval e X.env)::starEach es X.env:=by rfl) (hpl:(backTo pos (starEach es X.env)).any (·.1)=false:=by rfl):PE X (.Call (.Name x p) (e::es) [] pos) (tCB r t):=by
 intro pins s σ H Q I h;refine Pn (eC I hg hm hv ?_ hn hdb);exact PyProof.Rows.callWith_builtin1 (thn (ha pos pins s σ H _ I h) λ us s1 ⟨vs,H1,I1,r1,q1⟩=>hc pins s1 σ H1 vs us Q I1 r1 q1) he hpl
theorem jk(hc:cP X (.type T) r)(hg:Gl X x)(hm:X.mg x=none)(hv:bootBuiltins x=some (.type T))(ha:PA X (e::es) t)(hn:x ≠ "__name__":=by decide)(hdb:(x == ("__debug__":Str))=false:=by decide)
  (he:starEach (e::es) X.env=(false,eval e X.env)::starEach es X.env:=by rfl) (hpl:(backTo pos (starEach es X.env)).any (·.1)=false:=by rfl):PE X (.Call (.Name x p) (e::es) [] pos) (tCB r t):=by
 intro pins s σ H Q I h;refine Pn (eC I hg hm hv ?_ hn hdb);exact Of (thn (ha pos pins s σ H _ I h) λ us s1 ⟨vs,H1,I1,r1,q1⟩=>hc pins s1 σ H1 vs us Q I1 r1 q1) he hpl
end
end L2
namespace HT
open PySem PyProof.Rows
section
open PySem.SeqAt
open PySem.AutoSeq1 (wpAny_loadPart')
open PySem.MeetsSeq PySem.MeetsSeq2 PySem.MeetsSeq3
end
section
variable {prog:Program}{w:World}{A:Around}{E:Value->Shared->Prop}{s:Shared}
theorem cat_tup{t b:Addr}{vs ws:List Value}{Q:Value->Shared->Prop}(ht:IsTup s.heap t vs.toArray)(hb:IsTup s.heap b ws.toArray)(hv:vs ≠ [])
  (h1:ws=[]->Q (.ref t) s) (h2:ws ≠ []->Q (.ref s.heap.objs.size) { s with heap:=s.heap.push { cls:=.type "tuple",data:=.seq (vs++ws).toArray } })
  (hsz:vs.length+ws.length<=sizeLine):wpAny (model prog w) A (binaryOp .Add (.ref t) (.ref b)) Q E s:=by
 obtain⟨⟨cls,dd,data,sl⟩,ho,hc,n,hd⟩:=id ht;obtain⟨⟨cls2,dd2,data2,sl2⟩,ho2,hc2,n2,hd2⟩:=id hb;simp only at hc hd hc2 hd2;subst hc hd hc2 hd2;have e:vs.toArray++ws.toArray=(vs++ws).toArray:=by simp
 by_cases hw:ws=[]
 ·exact concat_meets ⟨_,ho,rfl⟩ ⟨_,ho2,rfl⟩ noFill_tuple_add seq_tuple_add QS QJ (QI _ _)
   (tuple_addW1 t b vs.toArray ws.toArray n n2 dd dd2 sl sl2 (by simpa using hv) (by simp [hw])) ⟨ho,ho2,h1 hw⟩
 ·refine concat_meets ⟨_,ho,rfl⟩ ⟨_,ho2,rfl⟩ noFill_tuple_add seq_tuple_add QS QJ (QI _ _)
   (tuple_addW2 t b vs.toArray ws.toArray n n2 dd dd2 sl sl2 (by simpa using hv) (by simpa using hw) (by rw [N5,N5];exact hsz)) ⟨ho,ho2,?_⟩
  rw [e];exact h2 hw
def sIx(n d:Nat):Option Int->Nat
 | none=>d
 | some v=>if v < 0 then (v+(n:Int)).toNat else min v.toNat n
theorem sIx_none(n d:Nat):sIx n d none=d:=rfl
theorem sIx_nat(n d k:Nat):sIx n d (some (k:Int))=min k n:=by
 show (if (k:Int) < 0 then ((k:Int)+(n:Int)).toNat else min (k:Int).toNat n)=min k n
 rw [NY (by omega),NJ]
theorem Hi(n d:Nat)(hd:d<=n)(o:Option Int):sIx n d o<=n:=by
 cases o with
 | none=>exact hd
 | some v=>
  show (if v < 0 then (v+(n:Int)).toNat else min v.toNat n)<=n
  by_cases hv:v < 0
  ·rw [N7 hv];omega
  ·rw [NY hv];exact Nat.min_le_right _ _
theorem vG(v:Int)(n d:Nat):(if v < 0 then max (v+(n:Int)) 0 else min v (n:Int))=((sIx n d (some v):Nat):Int):=by
 show (if v < 0 then max (v+(n:Int)) 0 else min v (n:Int))=(((if v < 0 then (v+(n:Int)).toNat else min v.toNat n):Nat):Int)
 by_cases hv:v < 0
 ·simp only [N7 hv];omega
 ·simp only [NY hv];omega
theorem tW(lo hi:Option Int)(n:Nat):Builtin.Slice.sliceAdjust lo hi 1 (n:Int)=(((sIx n 0 lo:Nat):Int),((sIx n n hi:Nat):Int)):=by
 have h1:¬ ((1:Int) < 0):=by omega
 unfold Builtin.Slice.sliceAdjust;simp only [h1,if_false];refine Prod.ext ?_ ?_
 ·cases lo with
  | none=>rfl
  | some v=>exact vG v n 0
 ·cases hi with
  | none=>rfl
  | some v=>exact vG v n n
theorem sJ(i j:Nat):Builtin.Slice.slicePlaces (i:Int) (j:Int) 1=j - i:=by
 unfold Builtin.Slice.slicePlaces;have h1:(1:Int) > 0:=by omega
 simp only [h1,Qp,Int.ediv_one]
 split<;>omega
theorem kR{v:Value}{o:Option Int}{Q:Option Int->Shared->Prop}(p:IsPart v o)(h:Q o s):wpAny (model prog w) A (Builtin.Slice.slicePartIndex v) Q E s:=by
 cases p with
 | none=>exact slicePart_none h
 | int i t=>exact slicePart_int h
theorem iA{sl:Addr}{vl vu:Value}{lo hi:Option Int}{n:Nat}{Q:Int × Int × Nat->Shared->Prop}(hs:s.heap.IsSliceOf sl vl vu .none)(pl:IsPart vl lo)(pu:IsPart vu hi)
  (h:Q (((sIx n 0 lo:Nat):Int),1,sIx n n hi - sIx n 0 lo) s):wpAny (model prog w) A (Builtin.Slice.sliceApplied (.ref sl) (pure (n:Int))) Q E s:=by
 obtain⟨os,hos,hcs,hds⟩:=id hs;unfold Builtin.Slice.sliceApplied Builtin.Slice.sliceFields;refine wpAny_bind (wpAny_bind (wpAny_field hos hds (x:=vl) rfl (wpAny_bind (wpAny_field hos hds (x:=vu) rfl (wpAny_bind (wpAny_field hos hds (x:=.none) rfl (wpAny_pure ?_)))))));refine wpAny_bind (slicePart_none ?_)
 show wpAny _ _ (if ((1:Int) == 0)=true then _ else _) _ _ s
 rw [NY (by decide)];refine My (kR pl (My (kR pu (My (NA ?_)))))
 show wpAny _ _ (match Builtin.Slice.sliceAdjust lo hi 1 (n:Int) with|(lo,hi)=>pure (lo,(1:Int),Builtin.Slice.slicePlaces lo hi 1)) _ _ s
 rw [tW lo hi n]
 show wpAny _ _ (pure (((sIx n 0 lo:Nat):Int),(1:Int),Builtin.Slice.slicePlaces ((sIx n 0 lo:Nat):Int) ((sIx n n hi:Nat):Int) 1)) _ _ s
 rw [sJ];exact NA h
theorem zk(xs:Array Value)(i k:Nat):((List.range k).filterMap λ (m:Nat)=>xs[((i:Int)+(m:Int) * 1).toNat]?).toArray=((xs.toList.drop i).take k).toArray:=by
 have e:(λ (m:Nat)=>xs[((i:Int)+(m:Int) * 1).toNat]?)=λ m=>xs[i+m]?:=by
  funext m;have:((i:Int)+(m:Int) * 1).toNat=i+m:=by omega
  rw [this]
 rw [e];have:=pick_run xs i k;rw [List.filterMap_map] at this;have e2:((λ x=>xs[x]?) ∘ λ x=>i+x)=λ m=>xs[i+m]?:=rfl;rw [e2] at this;rw [this]
theorem getItem_tuple_cut{t sl:Addr}{items:Array Value}{vl vu:Value}{lo hi:Option Int}{Q:Value->Shared->Prop}(ht:IsTup s.heap t items)(hs:s.heap.IsSliceOf sl vl vu .none)(pl:IsPart vl lo)(pu:IsPart vu hi)
  (hw:¬ (sIx items.size 0 lo=0/\sIx items.size items.size hi=items.size))
  (h:Q (.ref s.heap.objs.size) { s with heap:=s.heap.push { cls:=.type "tuple",data:=.seq ((items.toList.drop (sIx items.size 0 lo)).take (sIx items.size items.size hi - sIx items.size 0 lo)).toArray } })
  (hsz:items.size<=sizeLine):wpAny (model prog w) A (getItem (.ref t) (.ref sl)) Q E s:=by
 have htake:sizeOk (.seq ((items.toList.drop (sIx items.size 0 lo)).take (sIx items.size items.size hi - sIx items.size 0 lo)).toArray):=by
  show ((items.toList.drop (sIx items.size 0 lo)).take (sIx items.size items.size hi - sIx items.size 0 lo)).toArray.size<=sizeLine
  rw [N5,N8,Pr,Qx];omega
 have hj:sIx items.size items.size hi<=items.size:=Hi _ _ (Nat.le_refl _) hi;obtain⟨os,hos,hcs,hds⟩:=id hs;have hTs:s.TypeIs (.ref sl) "slice":=⟨os,hos,hcs⟩;unfold getItem
 try with_reducible refine OZ ?_
 first|refine My (NA ?_)|skip
 refine My (wpAny_sequenceKey ht.typeIs (by decide) ?_)
 refine My (OF (name:=Str.ofString "__getitem__") ht.typeIs Qe
  (O2 Qe ht.typeIs entry_tuple_getitem ?_ (args_tuple_getitem _ _)))
 show wpAny _ _ (Builtin.Tuple.tupleItemsOf (.ref t) >>= _) _ _ s
 refine My (tupleItemsOf_ ht ?_);refine My (wpAny_typeOf hTs ?_);rw [N7 (by decide)];refine My (iA hs pl pu ?_)
 have hno:¬ ((((sIx items.size 0 lo:Nat):Int) == 0 && (1:Int) == 1 && (sIx items.size items.size hi - sIx items.size 0 lo) == items.size)=true):=by
  intro q;rw [Qq,Qq] at q;have q1:((sIx items.size 0 lo:Nat):Int)=0:=eq_of_beq q.1.1;have q2:sIx items.size items.size hi - sIx items.size 0 lo=items.size:=eq_of_beq q.2;exact hw ⟨by omega,by omega⟩
 show wpAny _ _ (if (((sIx items.size 0 lo:Nat):Int) == 0 && (1:Int) == 1 && (sIx items.size items.size hi - sIx items.size 0 lo) == items.size)=true then _ else _) _ _ s
 rw [NY hno,zk]
 first
  | exact My (m:=Builtin.Tuple.tupleExact _) (O4 (NA ⟨_,rfl,NA h⟩) htake)
  | exact My (m:=Builtin.Tuple.tupleExact _) (O4 (My (NA (NA ⟨_,rfl,NA h⟩))) htake)
  | exact My (My (m:=Builtin.Tuple.tupleExact _) (O4 (NA (NA ⟨_,rfl,NA h⟩)) htake))
  | exact My (My (m:=Builtin.Tuple.tupleExact _) (O4 (NA ⟨_,rfl,NA h⟩) htake))
end
end HT
namespace L2
open PySem PySem.Spec PyProof.Rows
abbrev TO:=St->Hp->(Option Int->Hp->Prop)->Prop
def PO(X:Cx)(e:Option Expr)(t:TO):Prop:=
 ∀ (pins:List (Addr × Obj)) (s:Shared) (σ:St) (H:Hp) (Q:Option Int->Hp->Prop),Inv X pins σ H s->t σ H Q →
  wpAny (model X.prog X.w) X.A (evalPart e X.env) (λ u s'=>∃ o H',Inv X pins σ H' s'/\IsPart u o/\Q o H') X.xe s
def u5:TO:=λ _ H Q=>Q none H
def FY(t:TE):TO:=λ σ H Q=>t σ H λ x H1=>∃ i,x=.int i/\Q (some i) H1
section
variable {X:Cx}{e:Expr}{te:TE}{lo hi:Option Expr}{tl th:TO}{pos p2:Pos}
theorem dm:PO X none u5:=by
 intro pins s σ H Q I h;rw [evalPart_none];exact NA ⟨none,H,I,.none,h⟩
theorem Dd(h:PE X e te):PO X (some e) (FY te):=by
 intro pins s σ H Q I hw;rw [evalPart_some];refine thn (h pins s σ H _ I hw) λ u s1 ⟨x,H1,I1,r1,q1⟩=>?_;obtain⟨i,rfl,q⟩:=q1;obtain⟨t,rfl⟩:=r1;exact⟨some i,H1,I1,.int i t,q⟩
def SlR(X:Cx)(r:V->Option Int->Option Int->Hp->VK->Prop):Prop:=
 ∀ (pins:List (Addr × Obj)) (s:Shared) (σ:St) (H:Hp) (x:V) (v vl vu:Value) (lo hi:Option Int) (sl:Addr) (Q:VK),Inv X pins σ H s->bT x v->s.heap.IsSliceOf sl vl vu .none->IsPart vl lo->IsPart vu hi->r x lo hi H Q →
  ∃ T id,typeLookup (.type T) "__getitem__"=pure (some (.builtin id))/\s.TypeIs v T/\wpAny (model X.prog X.w) X.A (getItem v (.ref sl)) (EP X pins σ Q) X.xe s
def tSl(r:V->Option Int->Option Int->Hp->VK->Prop)(te:TE)(tl th:TO):TE:=λ σ H Q=>te σ H λ x H1=>tl σ H1 λ l H2=>th σ H2 λ u H3=>r x l u H3 Q
theorem zp{r:V->Option Int->Option Int->Hp->VK->Prop}(hr:SlR X r)(he:PE X e te)(hl:PO X lo tl)(hu:PO X hi th):PE X (.Subscript e (.Slice lo hi none p2) pos) (tSl r te tl th):=by
 intro pins s σ H Q I h;refine Subscript_ (thn (he pins s σ H _ I h) λ v s1 ⟨x,H1,I1,r1,q1⟩=>?_);refine wpAny_Slice (thn (hl pins s1 σ H1 _ I1 q1) λ vl s2 ⟨l,H2,I2,pl,q2⟩=>thn (hu pins s2 σ H2 _ I2 q2) λ vu s3 ⟨u,H3,I3,pu,q3⟩=>?_);rw [evalPart_none];refine NA ?_;have I4:Inv X pins σ H3 { s3 with heap:=s3.heap.push { cls:=.type "slice",data:=.fields #[vl,vu,.none] } }:=I3.kept (t':=s3.toks) λ b ob q=>Nx _ q;obtain⟨T,id,hT,ht,hg⟩:=hr pins { s3 with heap:=s3.heap.push { cls:=.type "slice",data:=.fields #[vl,vu,.none] } } σ H3 x v vl vu l u s3.heap.objs.size Q I4 r1 (Heap.IsSliceOf.new ..) pl pu q3
 show wpAny (model X.prog X.w) X.A (subscriptTail e (.Slice lo hi none p2) v (.ref s3.heap.objs.size)) (EP X pins σ Q) X.xe { s3 with heap:=s3.heap.push { cls:=.type "slice",data:=.fields #[vl,vu,.none] } }
 exact tail_any (ops:=[.ref s3.heap.objs.size,v]) ht hT hg (by with_unfolding_all rfl)
def kA(xs:List V)(lo hi:Option Int):List V:=(xs.drop (HT.sIx xs.length 0 lo)).take (HT.sIx xs.length xs.length hi - HT.sIx xs.length 0 lo)
theorem jF(xs:List V)(lo hi:Option Int):(kA xs lo hi).length<=xs.length:=by
 unfold kA;rw [length_take,length_drop];omega
def M1(K:W.Frag):V->Option Int->Option Int->Hp->VK->Prop:=λ x lo hi H Q=>∃ a xs,x=.ref a/\SqT K H a xs /\
 ¬ (HT.sIx xs.length 0 lo=0/\HT.sIx xs.length xs.length hi=xs.length)/\∀ p,H p=none->Q (.ref p) (upd H p (.tup (kA xs lo hi)))
theorem G9:SlR X (M1 X.K):=by
 intro pins s σ H x v vl vu lo hi sl Q I rx hs pl pu h;obtain⟨a,xs,rfl,hx,hw,q⟩:=h;cases rx;obtain⟨its,r,ht,hz⟩:=I.tuple hx;have hlen:its.toArray.size=xs.length:=by rw [N5];exact r.length.symm
 refine⟨"tuple",_,Qe.lookup,ht.typeIs,?_⟩;refine HT.getItem_tuple_cut ht hs pl pu (by rw [hlen];exact hw) ?_ (by rw [hlen];exact hz);rw [hlen];refine⟨.ref s.heap.objs.size,_,I.laid (t':=s.toks) (o:=.tup (kA xs lo hi)) (λ b ob q=>Nx _ q) (NF _) ?_,rfl,q _ (I.hok.fresh (NF _))⟩;exact⟨OI (jF xs lo hi) hz,_,(r.drop (HT.sIx xs.length 0 lo)).take (HT.sIx xs.length xs.length hi - HT.sIx xs.length 0 lo),IsTup.new _ _⟩
def KQ(K:W.Frag):R2:=λ x y H Q=>∃ a b xs ys,x=.ref a/\y=.ref b/\SqT K H a xs/\SqT K H b ys/\xs ≠ []/\xs.length+ys.length<=sizeLine /\
 (ys=[]->Q (.ref a) H)/\(ys ≠ []->∀ p,H p=none->Q (.ref p) (upd H p (.tup (xs++ys))))
theorem bq.nil_iff{xs:List V}{us:List Value}(r:bq xs us):us=[] ↔ xs=[]:=by
 cases r with
 | nil=>simp
 | cons _ _=>simp
theorem Dy:OpR X (binaryOp .Add) (KQ X.K):=by
 intro pins s σ H x y v u Q I rx ry h;obtain⟨a,b,xs,ys,rfl,rfl,ha,hb,hx,hz,q1,q2⟩:=h;cases rx;cases ry;obtain⟨its,r1,p1,_⟩:=I.tuple ha;obtain⟨its2,r2,p2,_⟩:=I.tuple hb;refine HT.cat_tup p1 p2 (λ z=>hx (r1.nil_iff.mp z)) (λ z=>⟨.ref a,H,I,rfl,q1 (r2.nil_iff.mp z)⟩) (λ z=>?_) (by rw [←r1.length,←r2.length];exact hz);refine⟨.ref s.heap.objs.size,_,I.laid (t':=s.toks) (o:=.tup (xs++ys)) (λ b ob q=>Nx _ q) (NF _) ?_,rfl,q2 (λ w=>z (r2.nil_iff.mpr w)) _ (I.hok.fresh (NF _))⟩;exact⟨by rw [NP];exact hz,_,r1.append r2,IsTup.new _ _⟩
end
def ixN(n:Nat)(i:Int):Option Nat:=if 0<=i then (if i < n then some i.toNat else none) else if -(n:Int)<=i then some (i+n).toNat else none
def atI{α:Type}(xs:List α)(i:Int):Option α:=(ixN xs.length i).bind λ j=>xs[j]?
theorem vw{n:Nat}{i:Int}{j:Nat}(h:ixN n i=some j):seqIndex? i n=some j/\j < n/\-(n:Int)<=i/\i < n:=by
 unfold ixN at h
 by_cases h0:0<=i
 ·rw [N7 h0] at h
  by_cases h1:i < n
  ·rw [N7 h1] at h;have e:i.toNat=j:=NX h;exact⟨by rw [seqIndex_of h0 h1,e],by omega,by omega,h1⟩
  ·rw [NY h1] at h;cases h
 ·rw [NY h0] at h
  by_cases h1:-(n:Int)<=i
  ·rw [N7 h1] at h;have e:(i+n).toNat=j:=NX h;exact⟨by rw [seqIndex_neg (by omega) h1,e],by omega,h1,by omega⟩
  ·rw [NY h1] at h;cases h
theorem vM{α:Type}{xs:List α}{i:Int}{v:α}(h:atI xs i=some v):∃ j,seqIndex? i xs.length=some j/\xs[j]? = some v/\j < xs.length/\-(xs.length:Int)<=i/\i < xs.length:=by
 unfold atI at h
 cases e:ixN xs.length i with
 | none=>rw [e] at h;cases h
 | some j=>
  rw [e] at h;obtain⟨h1,h2,h3,h4⟩:=vw e;exact⟨j,h1,h,h2,h3,h4⟩
theorem ei{α:Type}{xs:List α}{j:Nat}{v:α}(h:xs[j]? = some v):atI xs (j:Int)=some v:=by
 have hj:j < xs.length:=(Ny.mp h).1
 have e:ixN xs.length (j:Int)=some j:=by
  unfold ixN;rw [if_pos (by omega),if_pos (by omega)];simp
 unfold atI;rw [e];exact h
def Ft(b:Expr):Prop:=∀ o i,subscripted b false o i=operate [o,i] (getItem o i)
def IxR(X:Cx)(r:R2):Prop:=
 ∀ (value slice:Expr) (pins:List (Addr × Obj)) (s:Shared) (σ:St) (H:Hp) (x y:V) (v u:Value) (Q:VK),Inv X pins σ H s->bT x v->bT y u->r x y H Q →
  subscripted slice false v u=operate [v,u] (getItem v u)->wpAny (model X.prog X.w) X.A (subscriptTail value slice v u) (EP X pins σ Q) X.xe s
def MtR(X:Cx)(id:String)(r:V->List V->Hp->VK->Prop):Prop:=
 ∀ (pins:List (Addr × Obj)) (s:Shared) (σ:St) (H:Hp) (x:V) (xs:List V) (v:Value) (us:List Value) (Q:VK),Inv X pins σ H s->bT x v->bq xs us->r x xs H Q →
  wpAny (model X.prog X.w) X.A (call (.builtin id) (v::us)) (EP X pins σ Q) X.xe s
section
variable {X:Cx}{a b:Expr}{ta tb:TE}{pos:Pos}
theorem IxR.or{r r':R2}(h:IxR X r)(h':IxR X r'):IxR X (λ x y H Q=>r x y H Q\/r' x y H Q):=by
 intro value slice pins s σ H x y v u Q I rx ry q hs
 rcases q with q|q
 ·exact h value slice pins s σ H x y v u Q I rx ry q hs
 ·exact h' value slice pins s σ H x y v u Q I rx ry q hs
theorem B8{r:R2}(hr:IxR X r)(ha:PE X a ta)(hb:PE X b tb)(hs:Ft b):PE X (.Subscript a b pos) (tOp r ta tb):=by
 intro pins s σ H Q I h;exact Subscript_ (KL ha hb I h λ v u s2 x y H2 I2 rx ry q=>hr a b pins s2 σ H2 x y v u Q I2 rx ry q (hs _ _))
def M7(K:W.Frag):R2:=λ x y H Q=>∃ p xs i v,x=.ref p/\y=.int i/\SqL K H p xs/\atI xs i=some v/\Q v H
def M6(K:W.Frag):R2:=λ x y H Q=>∃ p xs i v,x=.ref p/\y=.int i/\SqT K H p xs/\atI xs i=some v/\Q v H
theorem pY:IxR X (M7 X.K):=by
 intro value slice pins s σ H x y v u Q I rx ry h hs;obtain⟨p,xs,i,z,rfl,rfl,hq,he,q⟩:=h;cases rx;obtain⟨t,rfl⟩:=ry;obtain⟨its,r,pl,hz⟩:=I.list hq;obtain⟨j,h1,h2,h3,h4,h5⟩:=vM he;obtain⟨w,ew,rw'⟩:=r.get h2;have hl:=r.length;have hn:=nA;have fin:EP X pins σ Q w s:=⟨z,H,I,rw',q⟩
 by_cases h0:0<=i
 ·have hj:i.toNat=j:=by
   rw [seqIndex_of h0 h5] at h1;exact NX h1
  exact item_listR pl.isList h0 (by omega) (by rw [hj];simpa using ew) fin hs
 ·have hj:(i+(its.toArray.size:Int)).toNat=j:=by
   rw [seqIndex_neg (by omega) h4] at h1;rw [N5,←hl];exact NX h1
  exact subscriptTail_builtinR (x:=w) pl.isList.typeIs slot_list_getitem.lookup
   (wpAny_getItem_list_neg (Q:=λ r s'=>r=w/\EP X pins σ Q r s') pl.isList (by omega) (by rw [N5]<;>omega) (by omega) (by rw [hj];simpa using ew) ⟨rfl,fin⟩) hs
theorem Ju:IxR X (M6 X.K):=by
 intro value slice pins s σ H x y v u Q I rx ry h hs;obtain⟨p,xs,i,z,rfl,rfl,hq,he,q⟩:=h;cases rx;obtain⟨t,rfl⟩:=ry;obtain⟨its,r,pl,hz⟩:=I.tuple hq;obtain⟨j,h1,h2,h3,h4,h5⟩:=vM he;obtain⟨w,ew,rw'⟩:=r.get h2;have hl:=r.length;have hn:=nA;have fin:EP X pins σ Q w s:=⟨z,H,I,rw',q⟩
 exact subscriptTail_builtinR (x:=w) pl.typeIs slot_tuple_getitem.lookup
  (getItem_tuple (j:=j) (Q:=λ r s'=>r=w/\EP X pins σ Q r s') pl (by omega) (by omega) (by rw [N5,←hl];exact h1) (by simpa using ew) ⟨rfl,fin⟩) hs
theorem sQ(its:List Value)(n j:Nat)(u:Value):Obj.mapSeq (·.setIfInBounds j u) { cls:=.type "list",data:=.seq its.toArray n }={ cls:=.type "list",data:=.seq (its.set j u).toArray n }:=by
 simp [Obj.mapSeq]
theorem Inv.lst{pins:List (Addr × Obj)}{σ:St}{H:Hp}{s:Shared}{p:Addr}{xs:List V}(I:Inv X pins σ H s)(h:H p=some (.lst xs)) :
  ∃ (its:List Value) (n:Nat),bq xs its/\s.heap.get? p=some { cls:=.type "list",data:=.seq its.toArray n }/\xs.length<=sizeLine:=by
 obtain⟨z,its,n,r,e⟩:=I.hok p _ h;exact⟨its,n,r,e,z⟩
theorem Inv.lstUpd{pins:List (Addr × Obj)}{σ:St}{H:Hp}{s:Shared}{p:Addr}{xs ys:List V}{its its':List Value}{n n':Nat}{f:Obj->Obj}(I:Inv X pins σ H s)(h:H p=some (.lst xs))
  (ho:s.heap.get? p=some { cls:=.type "list",data:=.seq its.toArray n }) (hf:f { cls:=.type "list",data:=.seq its.toArray n }={ cls:=.type "list",data:=.seq its'.toArray n' }) (r:bq ys its') (hz:ys.length<=sizeLine) (t:Nat) :
  Inv X pins σ (upd H p (.lst ys)) { s with heap:=s.heap.update p f,toks:=t }:=by
 have e:(s.heap.update p f).get? p=some { cls:=.type "list",data:=.seq its'.toArray n' }:=by
  rw [Om f ho (by rw [hf]<;>rfl),hf]
 refine I.write (x:=p) (e:=p) (by rw [h];trivial) (.inl rfl) (λ b u hb q=>(NZ _ _ (NM hb)).trans q) ⟨_,e⟩ ?_;exact⟨hz,its',n',r,e⟩
def Gk:V->V->V->Hp->(Hp->Prop)->Prop:=λ o i v H Q=>∃ p xs k j,o=.ref p/\i=.int k/\H p=some (.lst xs)/\ixN xs.length k=some j/\Q (upd H p (.lst (xs.set j v)))
theorem yT:MN X Gk:=by
 intro pins s σ H o i v ov iv u Q I ro ri rv h;obtain⟨p,xs,k,j,rfl,rfl,hp,hj,q⟩:=h;cases ro;obtain⟨t,rfl⟩:=ri;obtain⟨its,n,r,ho,hz⟩:=I.lst hp;obtain⟨h1,h2,h3,h4⟩:=vw hj;have hl:=r.length;have hn:=nA
 have I':Inv X pins σ (upd H p (.lst (xs.set j v))) { s with heap:=s.heap.update p (Obj.mapSeq (·.setIfInBounds j u)) }:=
  I.lstUpd hp ho (sQ its n j u) (r.set rv j) (by rw [QD];exact hz) s.toks
 by_cases h0:0<=k
 ·have hk:k.toNat=j:=by
   rw [seqIndex_of h0 h4] at h1;exact NX h1
  exact W.ki_setAt ho h0 (by omega) (by rw [N5,←hl];exact h4) (by rw [hk];exact⟨_,I',q⟩)
 ·have hk:(k+(its.toArray.size:Int)).toNat=j:=by
   rw [seqIndex_neg (by omega) h3] at h1;rw [N5,←hl];exact NX h1
  exact W.ki_setBack ho (by omega) (by rw [N5,←hl];exact h3) (by omega) (by rw [hk];exact⟨_,I',q⟩)
theorem oJ(lo hi:Option Int)(n:Nat):(sliceBounds lo hi none n).1=((HT.sIx n 0 lo:Nat):Int)/\(sliceBounds lo hi none n).2.1=((HT.sIx n n hi:Nat):Int)/\(sliceBounds lo hi none n).2.2=1:=by
 refine⟨?_,?_,rfl⟩
 ·cases lo with
  | none=>simp [sliceBounds,HT.sIx]
  | some i=>
   simp only [sliceBounds,HT.sIx,Option.getD_none,show (1:Int) > 0 by decide,Qp]
   by_cases h:i < 0
   ·simp only [h,Qp]<;>omega
   ·simp only [h,Qj]<;>omega
 ·cases hi with
  | none=>simp [sliceBounds,HT.sIx]
  | some i=>
   simp only [sliceBounds,HT.sIx,Option.getD_none,show (1:Int) > 0 by decide,Qp]
   by_cases h:i < 0
   ·simp only [h,Qp]<;>omega
   ·simp only [h,Qj]<;>omega
theorem mK(its:List Value)(lo hi:Option Int):slicePick its.toArray lo hi none=((its.drop (HT.sIx its.length 0 lo)).take (HT.sIx its.length its.length hi - HT.sIx its.length 0 lo)).toArray:=by
 obtain⟨h1,h2,h3⟩:=oJ lo hi its.toArray.size;unfold slicePick;rw [h1,h2,h3]
 simp only [sliceRange_one,pick_run,N5]<;>rfl
def M3(K:W.Frag):V->Option Int->Option Int->Hp->VK->Prop:=λ x lo hi H Q=>∃ a xs,x=.ref a/\SqL K H a xs/\∀ p,H p=none->Q (.ref p) (upd H p (.lst (kA xs lo hi)))
theorem CS:SlR X (M3 X.K):=by
 intro pins s σ H x v vl vu lo hi sl Q I rx hs pl pu h;obtain⟨a,xs,rfl,hx,q⟩:=h;cases rx;obtain⟨its,r,ht,hz⟩:=I.list hx;have hlen:=r.length;refine⟨"list",_,slot_list_getitem.lookup,ht.isList.typeIs,?_⟩;refine wpAny_getItem_list_slice ht.isList hs pl pu .none (by simp) ?_ (by rw [N5]<;>omega);rw [mK,←hlen];refine⟨.ref s.heap.objs.size,_,I.laid (t':=s.toks) (o:=.lst (kA xs lo hi)) (λ b ob q=>Nx _ q) (NF _) ?_,rfl,q _ (I.hok.fresh (NF _))⟩;exact⟨OI (jF xs lo hi) hz,_,0,(r.drop (HT.sIx xs.length 0 lo)).take (HT.sIx xs.length xs.length hi - HT.sIx xs.length 0 lo),NG _ rfl⟩
def fL:V->Bool
 | .non=>true
 | .bl _=>true
 | .int _=>true
 | .str _=>true
 | _=>false
def eqV:V->V->Bool
 | .non,.non=>true
 | .bl a,.bl b=>a == b
 | .bl a,.int b=>(if a then 1 else 0) == b
 | .int a,.bl b=>a == (if b then 1 else 0)
 | .int a,.int b=>a == b
 | .str a,.str b=>a == b
 | _,_=>false
theorem Jy{A:Around}{s:Shared}{y x:V}{u v:Value}(ry:bT y u)(rx:bT x v)(fy:fL y=true)(fx:fL x=true):SeqAt.EqAt A s u v (eqV y x):=by
 cases y with
 | non=>
  cases ry
  cases x with
  | non=>cases rx;exact SeqAt.EqAt.same _
  | bl b=>cases rx;exact SeqAt.EqAt.none_bool b
  | int b=>obtain⟨t,rfl⟩:=rx;exact SeqAt.EqAt.none_int b t
  | str b=>obtain⟨t,rfl⟩:=rx;exact SeqAt.EqAt.none_str b t
  | _=>exact absurd (show false=true from fx) NO
 | bl a=>
  cases ry
  cases x with
  | non=>cases rx;exact SeqAt.EqAt.bool_none a
  | bl b=>cases rx;exact SeqAt.EqAt.bool_bool a b
  | int b=>obtain⟨t,rfl⟩:=rx;exact SeqAt.EqAt.bool_int a b t
  | str b=>obtain⟨t,rfl⟩:=rx;exact SeqAt.EqAt.bool_str a b t
  | _=>exact absurd (show false=true from fx) NO
 | int a=>
  obtain⟨t',rfl⟩:=ry
  cases x with
  | non=>cases rx;exact SeqAt.EqAt.int_none a t'
  | bl b=>cases rx;exact SeqAt.EqAt.int_bool a t' b
  | int b=>obtain⟨t,rfl⟩:=rx;exact SeqAt.EqAt.int_int a t' b t
  | str b=>obtain⟨t,rfl⟩:=rx;exact SeqAt.EqAt.int_str a t' b t
  | _=>exact absurd (show false=true from fx) NO
 | str a=>
  obtain⟨t',rfl⟩:=ry
  cases x with
  | non=>cases rx;exact SeqAt.EqAt.str_none a t'
  | bl b=>cases rx;exact SeqAt.EqAt.str_bool a t' b
  | int b=>obtain⟨t,rfl⟩:=rx;exact SeqAt.EqAt.str_int a t' b t
  | str b=>obtain⟨t,rfl⟩:=rx;exact SeqAt.EqAt.str_str a t' b t
  | _=>exact absurd (show false=true from fx) NO
 | _=>exact absurd (show false=true from fy) NO
def eqU(x:V)(u:Value):Bool:=match u with
 | .none=>eqV .non x
 | .bool b=>eqV (.bl b) x
 | .int i _=>eqV (.int i) x
 | .str z _=>eqV (.str z) x
 | _=>false
theorem BJ{x y:V}{u:Value}(r:bT y u)(f:fL y=true):eqU x u=eqV y x:=by
 cases y with
 | non=>cases r;rfl
 | bl b=>cases r;rfl
 | int i=>obtain⟨t,rfl⟩:=r;rfl
 | str z=>obtain⟨t,rfl⟩:=r;rfl
 | _=>exact absurd (show false=true from f) NO
theorem p7{x:V}:∀ {xs:List V}{us:List Value},bq xs us->xs.all fL=true->us.any (eqU x)=xs.any λ y=>eqV y x
 | _,_,.nil,_=>rfl
 | y::xs,u::us,.cons r t,f=>by
  rw [Ro,Qq] at f;rw [any_cons,any_cons,BJ r f.1,p7 t f.2]
theorem mz{A:Around}{s:Shared}{x:V}{v:Value}(rx:bT x v)(fx:fL x=true):∀ {xs:List V}{us:List Value},bq xs us->xs.all fL=true->∀ u∈us,SeqAt.EqAt A s u v (eqU x u)
 | _,_,.nil,_=>λ u hu=>by cases hu
 | y::xs,u::us,.cons r t,f=>λ u' hu=>by
  rw [Ro,Qq] at f
  rcases NR.mp hu with rfl|hu
  ·rw [BJ r f.1];exact Jy r rx f.1 fx
  ·exact mz rx fx t f.2 u' hu
def inV(x:V)(xs:List V):Bool:=xs.any λ y=>eqV y x
def rIn(K:W.Frag)(neg:Bool):R2:=λ x y H Q=>∃ p xs,y=.ref p/\(SqL K H p xs\/SqT K H p xs)/\fL x=true/\xs.all fL=true/\Q (.bl (if neg then !inV x xs else inV x xs)) H
theorem oK:OpR X (compareOp .NotIn) (rIn X.K true):=by
 intro pins s σ H x y v u Q I rx ry h;obtain⟨p,xs,rfl,hq,fx,fs,q⟩:=h;cases ry
 rcases hq with hq|hq
 ·obtain⟨its,r,pl,hz⟩:=I.list hq;refine SeqAt.notIn_listAt (eqU x) pl.isList (λ w hw=>mz rx fx r fs w (by simpa using hw)) ⟨.bl _,H,I,rfl,?_⟩;rw [show its.toArray.any (eqU x)=its.any (eqU x) by simp,p7 r fs];exact q
 ·obtain⟨its,r,pl,hz⟩:=I.tuple hq;refine SeqAt.notIn_tupleAt (eqU x) pl (λ w hw=>mz rx fx r fs w (by simpa using hw)) ⟨.bl _,H,I,rfl,?_⟩;rw [show its.toArray.any (eqU x)=its.any (eqU x) by simp,p7 r fs];exact q
theorem dZ:cP X (.builtin "len") (λ xs H Q=>∃ p ys,xs=[.ref p]/\(SqL X.K H p ys\/SqT X.K H p ys)/\Q (.int ys.length) H):=by
 intro pins s σ H xs us Q I r h;obtain⟨p,ys,rfl,hq,q⟩:=h;obtain⟨u,rfl,rx⟩:=yn r;cases rx;have hn:=nA
 rcases hq with hq|hq
 ·obtain⟨its,r',pl,hz⟩:=I.list hq;have hlen:=r'.length;exact Calls.call_len_list pl.isList (by simp only [N5]<;>omega) ⟨.int ys.length,H,I.tok _,⟨s.toks+1,by rw [N5,hlen]⟩,q⟩
 ·obtain⟨its,r',pl,hz⟩:=I.tuple hq;have hlen:=r'.length;exact len_tuple pl (by simp only [N5]<;>omega) ⟨.int ys.length,H,I.tok _,⟨s.toks+1,by rw [N5,hlen]⟩,q⟩
theorem oY:cP X (.builtin "len") (λ xs H Q=>∃ z,xs=[.str z]/\z.length<=sizeLine/\Q (.int z.length) H):=by
 intro pins s σ H xs us Q I r h;obtain⟨z,rfl,hz,q⟩:=h;obtain⟨u,rfl,t,rfl⟩:=yn r;have hn:=nA;exact len_str (by omega) ⟨.int z.length,H,I.tok _,⟨_,rfl⟩,q⟩
theorem cP.or{f:Value}{r r':List V->Hp->VK->Prop}(h:cP X f r)(h':cP X f r'):cP X f (λ xs H Q=>r xs H Q\/r' xs H Q):=by
 intro pins s σ H xs us Q I rs q
 rcases q with q|q
 ·exact h pins s σ H xs us Q I rs q
 ·exact h' pins s σ H xs us Q I rs q
theorem oX:cP X (.type "list") (λ xs H Q=>∃ p ys,xs=[.ref p]/\(SqL X.K H p ys\/SqT X.K H p ys)/\∀ l,H l=none->Q (.ref l) (upd H l (.lst ys))):=by
 intro pins s σ H xs us Q I r h;obtain⟨p,ys,rfl,hq,q⟩:=h;obtain⟨u,rfl,rx⟩:=yn r;cases rx
 have fin:∀ (its:List Value),bq ys its->ys.length<=sizeLine->∀ (h':Heap) (c':Nat),(∀ b o',s.heap.get? b=some o'->h'.get? b=some o') →
   h'.get? s.heap.objs.size=some { cls:=.type "list",dict:=none,data:=.seq its.toArray c',slots:=#[] }->EP X pins σ Q (.ref s.heap.objs.size) { s with heap:=h' }:=λ its r' hz h' c' kp e=>
  ⟨.ref s.heap.objs.size,_,I.laid (t':=s.toks) kp (NF _) (show cu X.prog X.w _ h' _ (.lst ys) from ⟨hz,its,c',r',e⟩),rfl,q _ (I.hok.fresh (NF _))⟩
 rcases hq with hq|hq
 ·obtain⟨its,r',pl,hz⟩:=I.list hq;have hlen:=r'.length;obtain⟨o,ho,hc,n,hd⟩:=pl.isList;exact call_list_seq p (.inl rfl) ho hc hd (λ h' c' kp e=>fin its r' hz h' c' kp e) (by simp only [N5]<;>omega)
 ·obtain⟨its,r',pl,hz⟩:=I.tuple hq;have hlen:=r'.length;obtain⟨o,ho,hc,n,hd⟩:=pl;exact call_list_seq p (.inr rfl) ho hc hd (λ h' c' kp e=>fin its r' hz h' c' kp e) (by simp only [N5]<;>omega)
theorem m4:cP X (.type "tuple") (λ xs H Q=>∃ p ys,xs=[.ref p]/\((SqL X.K H p ys/\∀ l,H l=none->Q (.ref l) (upd H l (.tup ys)))\/(SqT X.K H p ys/\Q (.ref p) H))):=by
 intro pins s σ H xs us Q I r h;obtain⟨p,ys,rfl,h⟩:=h;obtain⟨u,rfl,rx⟩:=yn r;cases rx
 rcases h with ⟨hq,q⟩|⟨hq,q⟩
 ·obtain⟨its,r',pl,hz⟩:=I.list hq;have hlen:=r'.length;refine call_tuple_list pl.isList (λ h' kp=>?_) (by simp only [N5]<;>omega);have I1:Inv X pins σ H { s with heap:=h' }:=I.kept (t':=s.toks) kp
  have I2:Inv X pins σ (upd H h'.objs.size (.tup ys)) { s with heap:=h'.push { cls:=.type "tuple",data:=.seq its.toArray } }:=
   I1.laid (t':=s.toks) (λ b o e=>Nx _ e) (NF _) (show cu X.prog X.w _ _ _ (.tup ys) from ⟨hz,its,r',IsTup.new _ _⟩)
  exact⟨.ref h'.objs.size,_,I2,rfl,q _ (I1.hok.fresh (NF _))⟩
 ·obtain⟨its,r',pl,hz⟩:=I.tuple hq;exact call_tuple_same pl ⟨.ref p,H,I,rfl,q⟩
def tyV(K:W.Frag)(T:String)(x:V)(H:Hp):Prop:=match x with
 | .str _=>T = "str"
 | .int _=>T = "int"
 | .ref p=>(T = "list" /\ ∃ xs,SqL K H p xs)\/(T = "tuple" /\ ∃ o,K.lookup p=some o/\o.cls=.type "tuple" /\ o.dict=none) \/
   (T = "dict" /\ ((∃ kvs,H p=some (.dK kvs))\/∃ kvs,H p=some (.dT kvs)))\/(T = "set" /\ ∃ S n,H p=some (.set S n))
 | _=>False
theorem Bl{pins:List (Addr × Obj)}{σ:St}{H:Hp}{s:Shared}{T:String}{x:V}{v:Value}(I:Inv X pins σ H s)(r:bT x v)(ty:tyV X.K T x H) :
  s.TypeIs v T/\∀ a,v=.ref a->∃ ob,s.heap.get? a=some ob/\ob.dict=none:=by
 cases x with
 | str z=>
  obtain⟨t,rfl⟩:=r;cases (show T = "str" from ty);exact⟨typeIs_str s z t,λ _ e=>nomatch e⟩
 | int i=>
  obtain⟨t,rfl⟩:=r;cases (show T = "int" from ty);exact⟨typeIs_int s i t,λ _ e=>nomatch e⟩
 | ref p=>
  cases r
  rcases ty with ⟨rfl,xs,hq⟩|⟨rfl,o,hk,hc,hd⟩|⟨rfl,hk⟩|⟨rfl,S,n,hk⟩
  ·obtain⟨its,_,pl,_⟩:=I.list hq;refine⟨pl.isList.typeIs,λ a e=>?_⟩;cases e;obtain⟨o,n,e,c,hd,_⟩:=pl;exact⟨o,e,hd⟩
  ·refine⟨⟨o,I.kIn p o hk,hc⟩,λ a e=>?_⟩;cases e;exact⟨o,I.kIn _ o hk,hd⟩
  ·have z:∃ o,s.heap.get? p=some o/\o.ExactDict:=by
    rcases hk with ⟨kvs,hk⟩|⟨kvs,hk⟩
    ·obtain⟨_,_,_,_,o,_,_,e,ex,_⟩:=I.hok p _ hk;exact⟨o,e,ex⟩
    ·obtain⟨_,_,_,_,o,_,_,e,ex,_⟩:=I.hok p _ hk;exact⟨o,e,ex⟩
   obtain⟨o,e,ex⟩:=z;refine⟨⟨o,e,ex.1⟩,λ a e2=>?_⟩;cases e2;exact⟨o,e,ex.2.1⟩
  ·obtain⟨o,_,_,_,e,ex,_⟩:=I.hok p _ hk;refine⟨⟨o,e,ex.1⟩,λ a e2=>?_⟩;cases e2;exact⟨o,e,ex.2.1⟩
 | _=>exact False.elim ty
def L6(K:W.Frag)(T:String)(r:V->List V->Hp->VK->Prop)(to:TE):TE:=λ σ H Q=>to σ H λ x H1=>tyV K T x H1/\r x [] H1 Q
def tBM(K:W.Frag)(T:String)(r:V->List V->Hp->VK->Prop)(to:TE)(t:TA):TE:=λ σ H Q=>to σ H λ x H1=>tyV K T x H1/\t σ H1 λ xs H2=>r x xs H2 Q
variable {o e:Expr}{es:List Expr}{to:TE}{t:TA}{name:Str}{apos cpos:Pos}{T id:String}{r:V->List V->Hp->VK->Prop}
theorem Bw(pa:PlainAttrs T)(slot:Slot T name id)(hty:typeOf (.builtin id)=pure (.type "method_descriptor"))(hm:MtR X id r)(ho:PE X o to)
  (hbase:attributeBase o name X.env (eval o X.env)=eval o X.env:=by rfl) (hline:(apos.endLine == cpos.line)=true:=by rfl):PE X (.Call (.Attribute o name apos) [] [] cpos) (L6 X.K T r to):=by
 intro pins s σ H Q I h;refine wpAny_Call_method0_late hbase hline (thn (ho pins s σ H _ I h) λ v s1 ⟨x,H1,I1,r1,ty,q1⟩=>?_);obtain⟨h1,h2⟩:=Bl I1 r1 ty;exact⟨T,id,pa,slot,hty,h1,h2,Ri rfl (PySem.evalArgs_none (hm pins s1 σ H1 x [] v [] Q I1 r1 .nil q1))⟩
theorem KW(pa:PlainAttrs T)(slot:Slot T name id)(hty:typeOf (.builtin id)=pure (.type "method_descriptor"))(hm:MtR X id r)(ho:PE X o to)(ha:PA X (e::es) t)
  (hbase:attributeBase o name X.env (eval o X.env)=eval o X.env:=by rfl)
  (hfew:((backTo cpos (starEach (e::es) X.env)).all (λ x=>!x.1) && (backToKw cpos (keywordEach [] X.env)).all (λ x=>x.1.isSome)
   && decide ((e::es).length+([]:List Keyword).length+(if ([]:List Keyword).isEmpty then 0 else 1) < 30))=true:=by rfl)
  (hline:(apos.endLine == cpos.line)=true:=by rfl) (hs:starEach (e::es) X.env=(false,eval e X.env)::starEach es X.env:=by rfl) (hplain:(backTo cpos (starEach es X.env)).any (·.1)=false:=by rfl) :
  PE X (.Call (.Attribute o name apos) (e::es) [] cpos) (tBM X.K T r to t):=by
 intro pins s σ H Q I h;refine wpAny_Call_method_late hbase hfew hline rfl (thn (ho pins s σ H _ I h) λ v s1 ⟨x,H1,I1,r1,ty,q1⟩=>?_);obtain⟨h1,h2⟩:=Bl I1 r1 ty;refine⟨T,id,pa,slot,hty,h1,h2,?_⟩;have hA:=ha cpos pins s1 σ H1 _ I1 q1;rw [hs] at hA ⊢;refine Ri (by show (false || (backTo cpos (starEach es X.env)).any (·.1))=false;rw [hplain]<;>rfl) (Calls.evalArgs_plain ?_);exact thn hA λ us s2 ⟨vs,H2,I2,r2,q2⟩=>hm pins s2 σ H2 x vs v us Q I2 r1 r2 q2
end
def MtM(X:Cx)(id:String)(r:V->List V->Hp->VK->Prop):Prop:=
 ∀ (pins:List (Addr × Obj)) (s:Shared) (σ:St) (H:Hp) (x:V) (xs:List V) (v:Value) (us:List Value) (Q:VK),Inv X pins σ H s->bT x v->bq xs us->r x xs H Q →
  wpAny (model X.prog X.w) X.A (call (.builtin id) (v::us)) (EP X pins σ Q) X.xe s
theorem bq.one:∀ {x:V}{us:List Value},bq [x] us->∃ u,us=[u]/\bT x u
 | _,_,.cons r .nil=>⟨_,rfl,r⟩
theorem bq.zero:∀ {us:List Value},bq [] us->us=[]
 | _,.nil=>rfl
theorem bq.eraseIdx:∀ {xs:List V}{us:List Value}(i:Nat),bq xs us->bq (xs.eraseIdx i) (us.eraseIdx i)
 | _,_,_,.nil=>.nil
 | _,_,0,.cons _ t=>t
 | _,_,i+1,.cons r t=>.cons r (bq.eraseIdx i t)
theorem bq.reverse{xs:List V}{us:List Value}(h:bq xs us):bq xs.reverse us.reverse:=by
 induction h with
 | nil=>exact .nil
 | cons r t ih=>rw [List.reverse_cons,List.reverse_cons];exact bq.append ih (.cons r .nil)
theorem bq.rep{xs:List V}{us:List Value}(h:bq xs us):∀ k:Nat,bq (List.replicate k xs).flatten (List.replicate k us).flatten
 | 0=>.nil
 | k+1=>by
  rw [Pt,Pt,Qh,Qh];exact bq.append h (bq.rep h k)
theorem nZ{α:Type}:∀ (l:List α) (i:Nat),(l.eraseIdx i).length<=l.length
 | [],_=>NF _
 | _::_,0=>Qg _
 | _::r,i+1=>Nat.succ_le_succ (nZ r i)
theorem og(its:List Value):∀ (k:Nat) (acc:List Value),
  List.foldl (λ x1 x2=>x1++x2) acc.toArray (List.replicate k its.toArray)=(acc++(List.replicate k its).flatten).toArray
 | 0,acc=>by simp
 | k+1,acc=>by
  have e:acc.toArray++its.toArray=(acc++its).toArray:=by simp
  have e2:(acc++its)++(List.replicate k its).flatten=acc++(List.replicate (k+1) its).flatten:=by
   rw [Pt,Qh,Rx]
  rw [←e2,←og its k (acc++its),←e,Pt,Qa]
section
variable {X:Cx}{pins:List (Addr × Obj)}{σ:St}{H:Hp}{s:Shared}{l b:Addr}{xs ys zs:List V}
theorem Inv.lset{its its':List Value}{n:Nat}{f:Array Value->Array Value}{t':Nat}(I:Inv X pins σ H s)(hH:H l=some (.lst xs))
  (e:s.heap.get? l=some { cls:=.type "list",data:=.seq its.toArray n }) (hf:f its.toArray=its'.toArray) (hv:bq ys its') (hz:ys.length<=sizeLine) :
  Inv X pins σ (upd H l (.lst ys)) { s with heap:=s.heap.update l (Obj.mapSeq f),toks:=t' }:=by
 have q:=PySem.IsL.update e f;rw [hf] at q;refine I.write (x:=l) (e:=l) (by rw [hH];exact trivial) (.inl rfl) (λ b' u hb hu=>(NZ s.heap (Obj.mapSeq f) (NM hb)).trans hu) ⟨_,q⟩ ?_;exact⟨hz,its',_,hv,q⟩
theorem Inv.lnew{its:List Value}{t':Nat}(I:Inv X pins σ H s)(hv:bq ys its)(hz:ys.length<=sizeLine) :
  Inv X pins σ (upd H s.heap.objs.size (.lst ys)) { s with heap:=s.heap.push { cls:=.type "list",data:=.seq its.toArray },toks:=t' }:=
 I.laid (λ _ _ q=>Nx _ q) (NF _) ⟨hz,its,0,hv,NG _ rfl⟩
theorem Inv.fresh(I:Inv X pins σ H s):H s.heap.objs.size=none:=I.hok.fresh (NF _)
theorem Inv.lstM(I:Inv X pins σ H s)(hH:H l=some (.lst xs)):xs.length<=sizeLine/\∃ (its:List Value) (n:Nat),bq xs its/\xs.length=its.length/\s.heap.get? l=some { cls:=.type "list",data:=.seq its.toArray n }:=by
 obtain⟨z,its,n,r,e⟩:=I.hok l _ hH;exact⟨z,its,n,r,r.length,e⟩
theorem rF{n:Nat}(h:n<=sizeLine):Builtin.List.listTooLong n=false:=by
 unfold Builtin.List.listTooLong;exact decide_eq_false (by omega)
end
section
variable {X:Cx}
def va:V->List V->Hp->VK->Prop:=λ x vs H Q=>∃ l xs y,x=.ref l/\vs=[y]/\H l=some (.lst xs)/\xs.length < sizeLine/\Q .non (upd H l (.lst (xs++[y])))
theorem dJ:MtM X "list.append" va:=by
 intro pins s σ H x vs v us Q I rx rv h;obtain⟨l,xs,y,rfl,rfl,hH,hz,q⟩:=h;cases rx;obtain⟨u,rfl,ru⟩:=rv.one;obtain⟨z,its,n,r,hl,e⟩:=I.lstM hH;refine Rr F.slot_list_append ⟨_,e,rfl⟩ F.entry_list_append (F.args_list_append_2 _ _) (PySem.list_append l its.toArray n u (by rw [N5];omega)) ⟨e,?_⟩;refine⟨.non,_,I.lset (its':=its++[u]) hH e (by simp) (r.append (.cons ru .nil)) ?_,rfl,q⟩;rw [NP,OQ];omega
def u9:V->List V->Hp->VK->Prop:=λ x vs H Q=>∃ l b xs zs,x=.ref l/\vs=[.ref b]/\H l=some (.lst xs)/\H b=some (.lst zs)/\xs.length+zs.length<=sizeLine/\Q .non (upd H l (.lst (xs++zs)))
theorem jm:MtM X "list.extend" u9:=by
 intro pins s σ H x vs v us Q I rx rv h;obtain⟨l,b,xs,zs,rfl,rfl,hH,hB,hz,q⟩:=h;cases rx;obtain⟨u,rfl,ru⟩:=rv.one;cases ru;obtain⟨z,its,n,r,hl,e⟩:=I.lstM hH;obtain⟨z2,its2,n2,r2,hl2,e2⟩:=I.lstM hB;have hsz:its.toArray.size+its2.toArray.size<=sizeLine:=by rw [N5,N5];omega
 have hlong:¬ (!its.toArray.isEmpty && Builtin.List.listTooLong (its.toArray.size+its2.toArray.size))=true:=by
  rw [rF hsz,Bool.and_false];exact NO
 refine Rr F.slot_list_extend ⟨_,e,rfl⟩ F.entry_list_extend (F.args_list_extend_2 _ _)
  (AutoSeq1.list_extend_list_list_0 l its.toArray n b its2.toArray n2 hlong (by rw [N5];omega) (by omega)) ⟨e,e2,?_⟩
 refine⟨.non,_,I.lset (its':=its++its2) hH e (by simp) (r.append r2) ?_,rfl,q⟩;rw [NP];omega
def Hj:V->List V->Hp->VK->Prop:=λ x vs H Q=>∃ l xs i k y,x=.ref l/\vs=[.int i]/\H l=some (.lst xs)/\-(2 ^ 63)<=i/\i < 2 ^ 63/\seqIndex? i xs.length=some k/\xs[k]? = some y/\Q y (upd H l (.lst (xs.eraseIdx k)))
theorem zB:MtM X "list.pop" Hj:=by
 intro pins s σ H x vs v us Q I rx rv h;obtain⟨l,xs,i,k,y,rfl,rfl,hH,h1,h2,hk,hy,q⟩:=h;cases rx;obtain⟨u,rfl,ru⟩:=rv.one;obtain⟨t,rfl⟩:=ru;obtain⟨z,its,n,r,hl,e⟩:=I.lstM hH;obtain⟨w,hw,rw'⟩:=r.get hy
 refine Rr F.slot_list_pop ⟨_,e,rfl⟩ F.entry_list_pop (F.args_list_pop_2 _ _)
  (MeetsSeq.list_pop_at l its.toArray n i t k w (fitsIndex_both h1 h2) (by rw [N5,←hl];exact hk) (by rw [←Array.getElem?_toList];exact hw) (by rw [N5];omega)) ⟨e,?_⟩
 refine⟨y,_,I.lset (its':=its.eraseIdx k) hH e ?_ (r.eraseIdx k) ?_,rw',q⟩
 ·show its.toArray.eraseIdxIfInBounds k=(its.eraseIdx k).toArray
  rw [List.eraseIdxIfInBounds_toArray]
 ·have:=nZ xs k;omega
def rq:V->List V->Hp->VK->Prop:=λ x vs H Q=>∃ l xs,x=.ref l/\vs=[]/\H l=some (.lst xs)/\Q .non (upd H l (.lst xs.reverse))
theorem kX:MtM X "list.reverse" rq:=by
 intro pins s σ H x vs v us Q I rx rv h;obtain⟨l,xs,rfl,rfl,hH,q⟩:=h;cases rx;have hus:=rv.zero;subst hus;obtain⟨z,its,n,r,hl,e⟩:=I.lstM hH;refine Rr F.slot_list_reverse ⟨_,e,rfl⟩ F.entry_list_reverse (F.args_list_reverse_1 _) (AutoSeq1.list_reverse_list_0 l its.toArray n (by rw [N5];omega)) ⟨e,?_⟩;refine⟨.non,_,I.lset (its':=its.reverse) hH e (by simp) r.reverse ?_,rfl,q⟩;rw [Rf];omega
def Mc:R2:=λ x y H Q=>∃ l b xs zs,x=.ref l/\y=.ref b/\H l=some (.lst xs)/\H b=some (.lst zs)/\xs.length+zs.length<=sizeLine/\∀ p,H p=none->Q (.ref p) (upd H p (.lst (xs++zs)))
theorem HD:OpR X (binaryOp .Add) Mc:=by
 intro pins s σ H x y v u Q I rx ry h;obtain⟨l,b,xs,zs,rfl,rfl,hH,hB,hz,q⟩:=h;cases rx;cases ry;obtain⟨z,its,n,r,hl,e⟩:=I.lstM hH;obtain⟨z2,its2,n2,r2,hl2,e2⟩:=I.lstM hB;refine PySem.P.add_list e e2 ?_ (by rw [N5,N5];omega);have ea:its.toArray++its2.toArray=(its++its2).toArray:=by simp
 rw [ea];exact⟨.ref _,_,I.lnew (t':=s.toks) (r.append r2) (by rw [NP];omega),rfl,q _ I.fresh⟩
def M4:R2:=λ x y H Q=>∃ l k xs,x=.ref l/\y=.int k/\H l=some (.lst xs)/\-(2 ^ 63)<=k/\k < 2 ^ 63/\xs.length * k.toNat<=sizeLine /\
 ∀ p,H p=none->Q (.ref p) (upd H p (.lst (List.replicate k.toNat xs).flatten))
theorem EJ{α:Type}(xs:List α)(k:Nat):(List.replicate k xs).flatten.length=k * xs.length:=by
 induction k with
 | zero=>simp
 | succ k ih=>rw [Pt,Qh,NP,ih,Nat.succ_mul,Nat.add_comm]
theorem Hy:OpR X (binaryOp .Mult) M4:=by
 intro pins s σ H x y v u Q I rx ry h;obtain⟨l,k,xs,rfl,rfl,hH,h1,h2,hz,q⟩:=h;cases rx;obtain⟨t,rfl⟩:=ry;obtain⟨z,its,n,r,hl,e⟩:=I.lstM hH;have hlen:its.toArray.size * k.toNat<=sizeLine:=by rw [N5,←hl];exact hz
 have hcap:¬ its.toArray.size * k.toNat > (2 ^ 63 - 1) / 8:=by
  have:(sizeLine:Nat)<=(2 ^ 63 - 1) / 8:=by decide
  omega
 have hfit:¬ (!Builtin.List.listFitsIndex k)=true:=by
  rw [fitsIndex_both h1 h2];exact NO
 have hlong:¬ Builtin.List.listTooLong (its.toArray.size * k.toNat)=true:=by
  rw [rF hlen];exact NO
 have hnew:List.foldl (λ x1 x2=>x1++x2) #[] (List.replicate (if its.toArray.isEmpty=true then 0 else k.toNat) its.toArray)=(List.replicate k.toNat its).flatten.toArray:=by
  have f0:∀ m:Nat,List.foldl (λ x1 x2=>x1++x2) #[] (List.replicate m its.toArray)=(List.replicate m its).flatten.toArray:=λ m=>by
   have:=og its m [];rw [RN] at this;exact this
  rw [f0]
  cases its with
  | nil=>simp
  | cons a r'=>rw [NY (by simp)]
 refine wpAny_binaryOp_repeat_ref (T := "list") (U := "int") (by decide) ⟨_,e,rfl⟩ (λ s'=>typeIs_int s' k t) noFill_list_mul F.fills_int_mul F.slot_int_rmul repeat_list F.slot_int_index.lookup
  (Rr F.slot_int_rmul (typeIs_int s k t) F.entry_int_rmul (F.args_int_rmul_2 _ _) (int___rmul___int_list k t l its.toArray n)
   ⟨e,rfl,⟨_,e,rfl⟩,Rr F.slot_list_mul ⟨_,e,rfl⟩ F.entry_list_mul (F.args_list_mul_2 _ _) (AutoListH.list___mul___list_int_3 l its.toArray n k t hfit hcap hlong) ⟨e,?_⟩⟩)
 rw [hnew];exact⟨.ref _,_,I.lnew (t':=s.toks) (r.rep k.toNat) (by rw [EJ,Nat.mul_comm];exact hz),rfl,q _ I.fresh⟩
end
section
variable {prog:Program}{w:World}{A:Around}{E:Value->Shared->Prop}{s:Shared}
end
section
variable {X:Cx}
end
end L2
namespace Att
open PySem PySem.W PySem.Calls PyProof.Rows
theorem jP{P:Params}{h:Heap}:∀ (ns:List Int) (vs:List Value),WellAll P h vs (ns.map WData.int)->IntsAre vs ns:=by
 intro ns
 induction ns with
 | nil=>
  intro vs w;rw [map_nil] at w;cases w;exact .nil
 | cons n ns ih=>
  intro vs w;rw [OP] at w
  cases w with
  | cons a b=>
   cases a;exact .cons _ _ (ih _ b)
theorem wa{l:OpenLaw}{n:Nat}(hn:l.most=some n){P:Params}{h:Heap}{args:List WData}{vals:List Value}
  (hpre:l.row.toRowW.claim.pre args=true) (hwl:WellAll P h vals args) :
  ∃ a vs ns,vals=[Value.ref a]/\args=[WData.list (ns.map WData.int)]/\h.get? a=some { cls:=.type "list",data:=.seq vs.toArray }/\IntsAre vs ns/\ns.length<=n:=by
 have hsh:WShape.hasAll [] args [.list .int]=true:=(pre_splitW hpre).1;have hc:l.pre.holds [] { args:=args }=true:=(pre_splitW hpre).2;obtain⟨d,r,rfl,h1,h2⟩:=hasAllW_cons hsh;obtain rfl:=hasAllW_nil h2;obtain⟨xs,rfl,h3⟩:=hasW_list h1;obtain⟨ns,rfl⟩:=items_int h3
 have hlen:ns.length<=n:=by
  unfold OpenLaw.pre at hc
  have h4:(WTm.not (.lt (.lit (.int (n:Int))) (.len (.arg 0)))).holds [] { args:=[.list (ns.map .int)] }=true:=by
   have h4:=(holds_andW hc).1;rw [hn] at h4;exact h4
  have h5:=condW_of h4 (w_not (w_lt w_lit (w_len_list (w_arg rfl))));rw [Nz] at h5;refine RE λ q=>?_;have q':(n:Int) < ((ns.length:Nat):Int):=by omega
  first
   | (rw [NT q'] at h5;exact absurd h5 (by decide))
   | (simp at h5;omega)
 cases hwl with
 | cons w1 w2=>
  cases w2
  cases w1 with
  | list ho hall=>exact⟨_,_,ns,rfl,rfl,ho,jP ns _ hall,hlen⟩
theorem we(l:OpenLaw)(args:List WData):l.row.toRowW.claim.post args (.bool true) args=true:=
 postW_of (r:=l.row.toRowW) (X:=(true == true))
  (show WShape.has [] (.bool true) .bool=true by first|rfl|decide|simp [WShape.has,WShape.arms,WShape.armsAll])
  (show (WTm.eq .res (.lit (.bool true))).value [] { args:=args,res:=some (.bool true),after:=args }=some (.bool (true == true)) from w_eq_bool (w_res rfl) w_lit) rfl
theorem attach_call{l:OpenLaw}{n:Nat}{q:Program}{loose:List Str}{XP:(Str->Option Value)->Heap->Prop}{YP:World->Heap->Prop}{d:DefRec}
  (hn:l.most=some n) (hdf:d.params.defaults=[])
  (call:∀ (w:World) (s₀ s₁:Shared) (mg mb:Str->Option Value) (fa:Addr) (o:Obj) (pm cd doc:Value) (a:Addr) (vs:List Value) (ns:List Int),
   Ground q loose [] XP w s₀ mg mb s₁.heap->YP w s₁.heap →
   s₁.heap.get? fa=some o->o.data=.func (docDef d.name d.params d.body d.scope pm cd doc)->s₁.heap.CodeRec cd d.name->mg d.name=some (.ref fa) →
   s₁.heap.get? a=some { cls:=.type "list",data:=.seq vs.toArray }->IntsAre vs ns->ns.length<=n->s₁.gens=#[] →
   codeAny (model l.prog w) callerA (.call (.ref fa) ⟨[.ref a],[]⟩) (λ r s'=>r=.ok (.ret (.bool true))/\OldK s₁.heap s'.heap/\s'.os=s₁.os/\AllBare s'.gens) s₁) :
  WalkO q loose XP YP l.row.toRowW d [] (λ f vs=>PySem.call f vs):=by
 intro w s₀ s₁ mg mb G Y fa o pm cd doc dV kV ho hd hcd hD hmg hg args vals as hpre hlay hrd hwl hlo;obtain rfl:dV=.none:=Dflts.none hD hdf;obtain rfl:kV=.none:=Dflts.noKw hD;obtain⟨a,vs,ns,rfl,rfl,hobj,hints,hlen⟩:=wa hn hpre hwl;refine enter_call (QM (call w s₀ s₁ mg mb fa o pm cd doc a vs ns G Y ho (fd_plain hd) hcd hmg hobj hints hlen hg) λ r s' hq=>?_);obtain⟨rfl,h2,h3,h4⟩:=hq;exact⟨.inl ⟨.bool true,.bool true,[],rfl,λ _=>rfl,.bool true,we l _,λ _=>⟨List.Pairwise.nil,λ _ hm=>(nomatch hm)⟩⟩,h2,h3,h4⟩
section
variable {prog:Program}{w:World}{A:Around}{E:Value->Shared->Prop}{s:Shared}{K:Frag}
def MU(h:Heap)(L d:Addr):List (Addr × Obj):=(List.range h.objs.size).filterMap λ a=>if a=L\/a=d then none else (h.get? a).map λ o=>(a,o)
end
end Att
namespace L2
open PySem PySem.Spec PyProof.Rows
theorem nJ:∀ {vs:List Value}{ns:List Int},IntsAre vs ns->bq (ns.map V.int) vs
 | _,_,.nil=>.nil
 | _,_,.cons n t h=>.cons ⟨t,rfl⟩ (nJ h)
def KN(H:Hp):Prop:=∀ b,H b=none\/∃ o xs,H b=some (.frz o (.lst xs))
theorem zY{P:Program}{w:World}{K:W.Frag}{mg mb:Str->Option Value}{CX:CXT}{k:Nat}{fa a:Addr}{fd:FuncData}{x:Str}{sp:Sp}{s₁:Shared}{vs:List Value}{ns:List Int}
  (KX:K.In s₁.heap) (hns:s₁.heap.Ns mainGlobals mg) (hb:s₁.heap.Ns builtinsNs mb) (hbb:∀ x:Str,x ≠ "__name__" → mb x=bootBuiltins x) (hlim:s₁.heap.NoLimit) (hg:s₁.gens=#[])
  (ha:s₁.heap.get? a=some { cls:=.type "list",data:=.seq vs.toArray }) (hi:IntsAre vs ns) (hl:ns.length<=sizeLine) (hr:iQ k callerA)
  (F:∀ base:Heap,K.In base->base.Ns mainGlobals mg->cq P w K mg base CX k fa fd [x] sp) (hbind:∀ (s:Shared) (u:Value),BindsTo s fd ⟨[u],[]⟩ [(x,u)])
  (hsp:∀ H:Hp,KN H->SqL K H a (ns.map V.int)->sp [.ref a] H (λ v _=>v=.bl true) λ _ _ _=>False)
  (hCX:∀ H e s',CX [] H s₁ (λ _ _ _=>False) e s'->False) :
  codeAny (model P w) callerA (.call (.ref fa) ⟨[.ref a],[]⟩) (λ r s'=>r=.ok (.ret (.bool true))/\OldK s₁.heap s'.heap/\s'.os=s₁.os/\AllBare s'.gens) s₁:=by
 have rv:=nJ hi;have lenV:=hi.length
 have core:∀ H:Hp,KN H->SqL K H a (ns.map V.int)->HOk P w H s₁.heap->(∀ b,H b ≠ none->b=a)->(H a ≠ none->K.lookup a=none) →
   codeAny (model P w) callerA (.call (.ref fa) ⟨[.ref a],[]⟩) (λ r s'=>r=.ok (.ret (.bool true))/\OldK s₁.heap s'.heap/\s'.os=s₁.os/\AllBare s'.gens) s₁:=by
  intro H hO hS hok hA hK;have base_of:∀ {b:Addr} {o:Obj},s₁.heap.get? b=some o->H b=none->(yl s₁.heap H).get? b=some o:=λ e n=>AB e n
  have noA:∀ {b:Addr} {o:Obj} {es:Array DictEntry} {ep:Nat},s₁.heap.get? b=some o->o.data=.dict es ep->H b=none:=λ {b o es ep} e d=>by
   cases q:H b with
   | none=>rfl
   | some u=>
    have e':b=a:=hA b (by rw [q];simp);subst e';rw [ha] at e;cases e;have d':Data.seq vs.toArray _=Data.dict es ep:=d;cases d'
  have nsK:∀ {b:Addr} {m:Str->Option Value},s₁.heap.Ns b m->(yl s₁.heap H).Ns b m:=λ {b m} ⟨o,es,ep,e,d,r⟩=>⟨o,es,ep,base_of e (noA e d),d,r⟩
  have hKb:K.In (yl s₁.heap H):=λ b o e=>base_of (KX b o e) (by
   cases q:H b with
   | none=>rfl
   | some u=>
    have e':b=a:=hA b (by rw [q];simp);subst e';rw [hK (by rw [q];simp)] at e;cases e)
  have hM:Mod K mg (yl s₁.heap H):=⟨hKb,nsK hns,⟨mb,nsK hb,hbb⟩,let ⟨mc,h1,h2⟩:=hlim;⟨mc,nsK h1,h2⟩⟩;have e0:Bg P w K mg (yl s₁.heap H) callerA [] s₁ H:=⟨rfl,hM,λ b o e=>DC e,Nat.le_of_eq (xM _ _),trivial,λ b hb=>absurd (show b∈([]:List Addr) from hb) (by simp),hok,.of_eq hg⟩;refine QM ((F _ hKb (nsK hns)).run callerA [] s₁ H ⟨[.ref a],[]⟩ [.ref a] [.ref a] _ _ hr e0 (hbind s₁ (.ref a)) (.cons rfl .nil) (hsp H hO hS)) λ r s' h=>?_
  cases r with
  | error e=>exact(hCX H e s' h).elim
  | ok fl=>
   cases fl with
   | next=>exact False.elim h
   | brk=>exact False.elim h
   | cont=>exact False.elim h
   | ret u=>
    obtain⟨v,H',os,bare,un,hok',r',q⟩:=h;have q':v=.bl true:=q;subst q';obtain rfl:u=Value.bool true:=r';refine⟨rfl,OldK.of_keep λ b o e=>?_,os,bare⟩
    cases q:H b with
    | none=>exact un.keep b o e q (by intro z;exact absurd (show b∈([]:List Addr) from z) (by simp)) (by simp)
    | some u=>
     rcases hO b with z|⟨ob,xs,z⟩
     ·rw [q] at z;cases z
     ·have z2:=un.frzs b ob _ z;obtain⟨e1,_⟩:=hok b _ z;obtain⟨e2,_⟩:=hok' b _ z2;rw [e] at e1;cases e1;exact e2
 cases hk:K.lookup a with
 | some o=>
  have e:=KX a o hk;rw [ha] at e;cases e;refine core (λ _=>none) (λ _=>.inl rfl) (.inr ⟨_,vs.toArray,_,hk,rfl,rfl,rfl,by rw [N5,lenV];exact hl,by simpa using rv⟩) (λ b u z=>by have z':(none:Option HO)=some u:=z;cases z') (λ b z=>absurd rfl z) λ z=>absurd rfl z
 | none=>
  refine core (λ b=>if b=a then some (.frz { cls:=.type "list",data:=.seq vs.toArray } (.lst (ns.map V.int))) else none) (λ b=>?_) (.inl (.inr ⟨{ cls:=.type "list",data:=.seq vs.toArray },N7 rfl⟩)) (λ b u z=>?_) (λ b z=>?_) λ _=>hk
  ·by_cases hb:b=a
   ·exact .inr ⟨_,_,N7 hb⟩
   ·exact .inl (NY hb)
  ·by_cases hb:b=a
   ·have z':=(N7 hb).symm.trans z;cases z';subst hb;exact⟨ha,by rw [Nz];exact hl,vs,_,rv,ha⟩
   ·have z':=(NY hb).symm.trans z;cases z'
  ·by_cases hb:b=a
   ·exact hb
   ·exact absurd (NY hb) z
abbrev KOf{K:PySem.W.Frag}{h:Heap}(_:K.In h):PySem.W.Frag:=K
theorem LV{l:W.OpenLaw}{n k:Nat}{q:Program}{loose:List Str}{XP:(Str->Option Value)->Heap->Prop}{YP:World->Heap->Prop}{d:DefRec}{K:Params->W.Frag}{CX:World->CXT}{sp:World->Sp}{x:Str}
  (hn:l.most=some n) (hn2:n<=sizeLine) (hdf:d.params.defaults=[]) (hr:iQ k callerA)
  (hY:∀ (w:World) (h:Heap),YP w h->(K w.params).In h)
  (F:∀ (w:World) (mg:Str->Option Value) (fa:Addr) (h:Heap),(K w.params).In h->h.Ns mainGlobals mg->mg d.name=some (.ref fa) →
   ∃ fd:FuncData,(∀ (s:Shared) (u:Value),BindsTo s fd ⟨[u],[]⟩ [(x,u)]) /\
    ∀ base:Heap,(K w.params).In base->base.Ns mainGlobals mg->cq l.prog w (K w.params) mg base (CX w) k fa fd [x] (sp w))
  (hsp:∀ (w:World) (H:Hp) (a:Addr) (ns:List Int),ns.length<=n->KN H->SqL (K w.params) H a (ns.map V.int)->sp w [.ref a] H (λ v _=>v=.bl true) λ _ _ _=>False)
  (hCX:∀ (w:World) (H:Hp) (s:Shared) (e:Value) (s':Shared),CX w [] H s (λ _ _ _=>False) e s'->False) :
  W.WalkO q loose XP YP l.row.toRowW d [] (λ f vs=>PySem.call f vs):=by
 refine Att.attach_call hn hdf λ w s₀ s₁ mg mb fa o pm cd doc a vs ns G Y ho hd hcd hmg hobj hints hlen hg=>?_;have KX:=hY w _ Y;obtain⟨fd,hb,hF⟩:=F w mg fa _ KX G.T.g hmg;exact zY KX G.T.g G.T.b G.T.builtins G.T.nolimit hg hobj hints (OI hlen hn2) hr hF hb (λ H hO hS=>hsp w H a ns hlen hO hS) λ H e s'=>hCX w H s₁ e s'
def d9(s:Stmt)(j:Nat):Stmt:=match s with
 | .ClassDef _ _ _ body _ _ _ _ _ _ _=>body.getD j (.Pass ⟨0,0,0,0⟩)
 | _=>.Pass ⟨0,0,0,0⟩
def ai(s:Stmt):Arguments:=match s with
 | .FunctionDef _ a _ _ _ _ _ _ _ _=>a
 | _=>{ posonlyargs:=[],args:=[],vararg:=none,kwonlyargs:=[],kw_defaults:=[],kwarg:=none,defaults:=[] }
def ah(s:Stmt):List Stmt:=match s with
 | .FunctionDef _ _ b _ _ _ _ _ _ _=>b
 | _=>[]
def aa(s:Stmt):Scope:=match s with
 | .FunctionDef _ _ _ _ _ _ sc _ _ _=>sc
 | _=>{ kind:=.function,names:=[],isGenerator:=false,isCoroutine:=false }
abbrev CX0:CXT:=λ _ _ _ _ _ _=>False
abbrev E0:XK:=λ _ _ _=>False
theorem fe{X:Cx}:kI CX0 X E0:=λ _ _ _ _ _ _ _ h=>h.elim
structure Fun(K:W.Frag)(x qual:Str)(st:Stmt)(f:Addr)(fd:FuncData):Prop where
 ex:∃ (oc:Value) (od:Option Addr) (kV doc pm:Value) (an:Option Addr) (cdv ct:Value) (osl:Array (Option Value)),
  fd=W.fnOf x qual (ai st) (ah st) (aa st) .none kV doc pm an cdv ct/\K.lookup f=some ⟨oc,od,.func fd,osl⟩/\W.codeIn K cdv qual=true
 kp:W.keepIn K (.ref f)=true
section
variable {P:Program}{w:World}{K:PySem.W.Frag}{mg:Str->Option Value}{base:Heap}
theorem Fun.ok{x qual:Str}{st:Stmt}{f:Addr}{fd:FuncData}{N ps:List Str}{k:Nat}{sp:Sp}(F:Fun K x qual st f fd)(S:ak N ps (aa st))(len:∀ vs H Q E,sp vs H Q E->vs.length=ps.length)
  (hbody:∀ (cdv:Value) (A:Around) (outer:List Env) (s:Shared) (H:Hp) (vs:List V) (Q:VK) (E:XK),iQ k (A.deeper (envOfC qual (aa st) s.heap.objs.size f cdv))->sp vs H Q E →
   ∃ t,PSs (BP CX0 P w K mg base N qual (aa st) f cdv A outer s H E).nox (ah st) t/\t { nx:=λ _ H'=>Q .non H',rt:=Q } (aH N vs) H):cq P w K mg base CX0 (k+1) f fd ps sp:=by
 obtain⟨oc,od,kV,doc,pm,an,cdv,ct,osl,rfl,lk,hcd⟩:=F.ex;refine LM lk hcd S len λ A outer s H vs Q E hr hsp=>?_;obtain⟨t,h,q⟩:=hbody cdv A outer s H vs Q E hr hsp;exact⟨t,h.nox,q⟩
theorem Fun.binds{x qual:Str}{st:Stmt}{f:Addr}{fd:FuncData}{ps:List Str}(F:Fun K x qual st f fd)
  (h:∀ (kV doc pm:Value) (an:Option Addr) (cdv ct:Value) (us:List Value),us.length=ps.length->bindArgs (W.fnOf x qual (ai st) (ah st) (aa st) .none kV doc pm an cdv ct) ⟨us,[]⟩=pure (ps.zip us)):aD K fd ps []:=by
 obtain⟨oc,od,kV,doc,pm,an,cdv,ct,osl,rfl,lk,hcd⟩:=F.ex;exact .all (h kV doc pm an cdv ct)
theorem av{x qual:Str}{st:Stmt}{f:Addr}{oc:Value}{od an:Option Addr}{osl:Array (Option Value)}{kV doc pm cdv ct:Value}(l:K.lookup f=some ⟨oc,od,.func (W.fnOf x qual (ai st) (ah st) (aa st) .none kV doc pm an cdv ct),osl⟩)
  (c:W.codeIn K cdv qual=true) (k:W.keepIn K (.ref f)=true):Fun K x qual st f (W.fnOf x qual (ai st) (ah st) (aa st) .none kV doc pm an cdv ct):=⟨⟨oc,od,kV,doc,pm,an,cdv,ct,osl,rfl,l,c⟩,k⟩
end
theorem nN{n:Nat}(h:n<=1000):n < sizeLine:=Nat.lt_of_le_of_lt h (by decide)
section
variable {X:Cx}
theorem pv(i:Nat){x:Str}{pos:Pos}(hN:X.N[i]? = some x:=by rfl)(hv:Vis X.env.scope x:=by first|exact Or.inl rfl|exact Or.inr (Or.inl rfl)|exact Or.inr (Or.inr rfl))(hd:(x == ("__debug__":Str))=false:=by decide)
  (hcd:(x == ("__classdict__":Str))=false:=by decide):PE X (.Name x pos) (JJ i):=Hs hN hv hd hcd
end
theorem MF{c A B:Prop}[Decidable c](h1:c->A)(h2:¬ c->B):if c then A else B:=by
 by_cases h:c
 ·rw [N7 h];exact h1 h
 ·rw [NY h];exact h2 h
def nq(H H':Hp):Prop:=∀ b o,H b=some o->H' b=some o
theorem nq.refl(H:Hp):nq H H:=λ _ _ h=>h
theorem nq.trans{H H1 H2:Hp}(a:nq H H1)(b:nq H1 H2):nq H H2:=λ c o h=>b c o (a c o h)
theorem nq.free{H H':Hp}(e:nq H H'){l:Addr}(h:H' l=Option.none):H l=Option.none:=by
 cases q:H l with
 | none=>rfl
 | some o=>
  rw [e l o q] at h;cases h
theorem nq.seq{K:W.Frag}{H H':Hp}{a:Addr}{xs:List V}(e:nq H H')(h:SqL K H a xs):SqL K H' a xs:=by
 rcases h with (h|⟨o,h⟩)|h
 ·exact .inl (.inl (e _ _ h))
 ·exact .inl (.inr ⟨o,e _ _ h⟩)
 ·exact .inr h
section
variable {κ:Type}[DecidableEq κ]
def fB(kvs:List (κ × V))(k:κ):Option V:=(kvs.find? λ kv=>decide (kv.1=k)).map (·.2)
def ku(kvs:List (κ × V))(k:κ)(v:V):List (κ × V):=
 if (kvs.any λ kv=>decide (kv.1=k))=true then kvs.map (λ kv=>if kv.1=k then (kv.1,v) else kv) else kvs++[(k,v)]
theorem cy{p:κ × V}{r:List (κ × V)}{k:κ}(e:p.1=k):fB (p::r) k=some p.2:=by simp [fB,PQ,e]
theorem cz{p:κ × V}{r:List (κ × V)}{k:κ}(e:¬ p.1=k):fB (p::r) k=fB r k:=by simp [fB,PQ,e]
theorem gn(k:κ):∀ kvs:List (κ × V),(kvs.any λ kv=>decide (kv.1=k))=(fB kvs k).isSome
 | []=>rfl
 | p::r=>by
  rw [any_cons]
  by_cases e:p.1=k
  ·simp only [cy e,NT e,Bool.true_or,Option.isSome_some]
  ·rw [cz e,N9 e,Bool.false_or];exact gn k r
theorem rh(k j:κ)(y:V):∀ kvs:List (κ × V),fB (kvs.map λ kv=>if kv.1=k then (kv.1,y) else kv) j=(fB kvs j).map λ x=>if j=k then y else x
 | []=>rfl
 | p::r=>by
  have ih:=rh k j y r;rw [OP]
  by_cases h:p.1=k
  ·rw [N7 h]
   by_cases e:p.1=j
   ·rw [cy (p:=(p.1,y)) e,cy e,P2,N7 (e.symm.trans h)]
   ·rw [cz (p:=(p.1,y)) e,cz e,ih]
  ·rw [NY h]
   by_cases e:p.1=j
   ·rw [cy (p:=p) e,cy e,P2,NY (λ z=>h (e.trans z))]
   ·rw [cz (p:=p) e,cz e,ih]
theorem nK(k j:κ)(y:V):∀ kvs:List (κ × V),fB kvs k=none->fB (kvs++[(k,y)]) j=if j=k then some y else fB kvs j
 | [],_=>by
  by_cases e:k=j
  ·rw [N7 e.symm];exact cy (p:=(k,y)) e
  ·rw [NY (λ z=>e z.symm)];exact cz (p:=(k,y)) e
 | p::r,hn=>by
  rw [Q3];have hk:¬ p.1=k:=λ z=>by rw [cy z] at hn;cases hn
  rw [cz hk] at hn;have ih:=nK k j y r hn
  by_cases e:p.1=j
  ·rw [cy e,cy e,NY (λ z=>hk (e.trans z))]
  ·rw [cz e,cz e,ih]
theorem iF(kvs:List (κ × V))(k j:κ)(y:V):fB (ku kvs k y) j=if j=k then some y else fB kvs j:=by
 unfold ku
 by_cases a:(kvs.any λ kv=>decide (kv.1=k))=true
 ·rw [N7 a,rh];rw [gn] at a
  by_cases e:j=k
  ·obtain⟨x,hx⟩:=PX.mp a;rw [N7 e,e,hx,P2,N7 rfl]
  ·rw [NY e]
   cases fB kvs j with
   | none=>rfl
   | some x=>rw [P2,NY e]
 ·rw [NY a];refine nK k j y kvs ?_;rw [gn] at a
  cases q:fB kvs k with
  | none=>rfl
  | some x=>rw [q] at a;exact(a rfl).elim
theorem jC(kvs:List (κ × V))(k:κ)(v:V):(ku kvs k v).length<=kvs.length+1:=by
 unfold ku;split
 ·rw [Nz];omega
 ·rw [NP,Ow,List.length_nil];omega
theorem rA{kvs:List (κ × V)}{k:κ}(v:V)(h:fB kvs k=none):ku kvs k v=kvs++[(k,v)]:=by
 unfold ku;rw [gn,h];exact if_neg (by decide)
theorem nc.isSome_eq{o:Option V}{u:Option Value}(r:nc o u):o.isSome=u.isSome:=by
 cases o with
 | none=>cases u with
  | none=>rfl
  | some _=>exact(show False from r).elim
 | some _=>cases u with
  | none=>exact(show False from r).elim
  | some _=>rfl
theorem nc.getD{o:Option V}{u:Option Value}{d:V}{d':Value}(r:nc o u)(rd:bT d d'):bT (o.getD d) (u.getD d'):=by
 cases o with
 | none=>cases u with
  | none=>exact rd
  | some _=>exact(show False from r).elim
 | some _=>cases u with
  | none=>exact(show False from r).elim
  | some _=>exact r
theorem KV.val{kvs:List (κ × V)}{vs:List (κ × Value)}(r:KV kvs vs)(k:κ):nc (fB kvs k) (valueAt vs k):=by
 unfold KV at r
 induction r with
 | nil=>exact True.intro
 | @cons p q ps qs h t ih=>
  obtain⟨h1,h2⟩:=h
  by_cases e:p.1=k
  ·have e':q.1=k:=h1.symm.trans e;have b:valueAt (q::qs) k=some q.2:=by simp [valueAt,PQ,e']
   rw [cy e,b];exact h2
  ·have e':¬ q.1=k:=λ z=>e (h1.trans z);have b:valueAt (q::qs) k=valueAt qs k:=by simp [valueAt,PQ,e']
   rw [cz e,b];exact ih
theorem KV.any{kvs:List (κ × V)}{vs:List (κ × Value)}(r:KV kvs vs)(k:κ):(kvs.any λ kv=>decide (kv.1=k))=vs.any λ kv=>decide (kv.1=k):=by
 unfold KV at r
 induction r with
 | nil=>rfl
 | cons h t ih=>rw [any_cons,any_cons,ih,h.1]
theorem KV.repl{kvs:List (κ × V)}{vs:List (κ × Value)}(r:KV kvs vs)(k:κ){y:V}{u:Value}(ry:bT y u) :
  KV (kvs.map λ kv=>if kv.1=k then (kv.1,y) else kv) (vs.map λ kv=>if kv.1=k then (kv.1,u) else kv):=by
 unfold KV at r ⊢
 induction r with
 | nil=>exact .nil
 | @cons p q ps qs h t ih=>
  rw [OP,OP];refine .cons ?_ ih;obtain⟨h1,h2⟩:=h
  by_cases e:p.1=k
  ·rw [N7 e,N7 (h1.symm.trans e)];exact⟨h1,ry⟩
  ·rw [NY e,NY (λ z=>e (h1.trans z))];exact⟨h1,h2⟩
theorem KV.put{kvs:List (κ × V)}{vs:List (κ × Value)}(r:KV kvs vs)(k:κ){y:V}{u:Value}(ry:bT y u):KV (ku kvs k y) (stored vs k u):=by
 unfold ku stored;rw [r.any k]
 by_cases e:(vs.any λ kv=>decide (kv.1=k))=true
 ·rw [N7 e,N7 e];exact r.repl k ry
 ·rw [NY e,NY e];exact Paired.snoc r ⟨rfl,ry⟩
theorem KV.length{kvs:List (κ × V)}{vs:List (κ × Value)}(r:KV kvs vs):kvs.length=vs.length:=Q5 r
end
theorem t6{P:Program}{w:World}{k:Key}{u:Value}(r:bT (kV k) u):(cA P w).is k u=true:=by
 cases k with
 | inl i=>obtain⟨t,e⟩:=(show ∃ t,u=Value.int i t from r);subst e;exact qp P w i t
 | inr x=>obtain⟨t,e⟩:=(show ∃ t,u=Value.str x t from r);subst e;exact qo P w x t
theorem oa{P:Program}{w:World}:∀ {ks:List Key}{us:List Value},bq (ks.map kV) us->ItemsAre (cA P w) ks us
 | [],_,r=>by rw [map_nil] at r;cases r;exact .nil
 | k::ks,_,r=>by
  rw [OP] at r
  cases r with
  | cons h t=>exact .cons (t6 h) (oa t)
abbrev KT(H:Hp):List (List Key × V)->List (List Key × Addr × Value)->Prop:=Paired λ p q=>p.1=q.1/\H q.2.1=some (.tup (p.1.map kV))/\bT p.2 q.2.2
theorem KT.val{H:Hp}{kvs:List (List Key × V)}{xs:List (List Key × Addr × Value)}(r:KT H kvs xs)(k:List Key):nc (fB kvs k) ((atKey xs k).map (·.2)):=by
 induction r with
 | nil=>exact True.intro
 | @cons p q ps qs h t ih=>
  obtain⟨h1,_,h2⟩:=h
  by_cases e:p.1=k
  ·have e':q.1=k:=h1.symm.trans e;have b:atKey (q::qs) k=some q.2:=by simp [atKey,PQ,e']
   rw [cy e,b];exact h2
  ·have e':¬ q.1=k:=λ z=>e (h1.trans z);have b:atKey (q::qs) k=atKey qs k:=by simp [atKey,PQ,e']
   rw [cz e,b];exact ih
theorem KT.repl{H:Hp}{kvs:List (List Key × V)}{xs:List (List Key × Addr × Value)}(r:KT H kvs xs)(k:List Key){y:V}{u:Value}(ry:bT y u) :
  KT H (kvs.map λ kv=>if kv.1=k then (kv.1,y) else kv) (xs.map (putAt k u)):=by
 induction r with
 | nil=>exact .nil
 | @cons p q ps qs h t ih=>
  rw [map_cons,map_cons];refine .cons ?_ ih;obtain⟨h1,h2,h3⟩:=h;unfold putAt
  by_cases e:p.1=k
  ·rw [N7 e,N7 (h1.symm.trans e)];exact⟨h1,h2,ry⟩
  ·rw [NY e,NY (λ z=>e (h1.trans z))];exact⟨h1,h2,h3⟩
theorem KT.put{H:Hp}{kvs:List (List Key × V)}{xs:List (List Key × Addr × Value)}(r:KT H kvs xs)(k:List Key){b:Addr}{y:V}{u:Value}(hb:H b=some (.tup (k.map kV)))(ry:bT y u) :
  KT H (ku kvs k y) (storedH xs k b u):=by
 have e:(kvs.any λ kv=>decide (kv.1=k))=(atKey xs k).isSome:=by
  rw [gn,(r.val k).isSome_eq,Rv]
 unfold ku storedH;rw [e]
 by_cases q:(atKey xs k).isSome=true
 ·rw [N7 q,N7 q];exact r.repl k ry
 ·rw [NY q,NY q];exact Paired.snoc r ⟨rfl,hb,ry⟩
theorem KT.keeps{H H':Hp}{kvs:List (List Key × V)}{xs:List (List Key × Addr × Value)}(r:KT H kvs xs)(ht:∀ b ys,H b=some (.tup ys)->H' b=some (.tup ys)):KT H' kvs xs:=
 Paired.mapP r λ _ _ z=>⟨z.1,ht _ _ z.2.1,z.2.2⟩
section
variable {P:Program}{w:World}{H:Hp}{h:Heap}{a:Addr}
theorem Gj{u:HO}(ok:HOk P w H h)(e:Rd H a u):cu P w H h a u:=e.ok ok
theorem sx{kvs:List (Key × V)}(ok:HOk P w H h)(e:Rd H a (.dK kvs)):kvs.length<=sizeLine/\(a == sysModules)=false/\∃ vs,KV kvs vs/\h.DictOf (cA P w) a vs:=
 show cu P w H h a (.dK kvs) from Gj ok e
theorem Cs{kvs:List (Key × V)}(ok:HOk P w H h)(e:H a=some (.dK kvs)):kvs.length<=sizeLine/\(a == sysModules)=false/\∃ vs,KV kvs vs/\h.DictOf (cA P w) a vs:=sx ok (.inl e)
theorem nB{ks:List Key}(ok:HOk P w H h)(e:H a=some (.tup (ks.map kV))):(tupleKind (cA P w)).is h ks a:=by
 obtain⟨_,its,r,o,h1,h2,n,h3⟩:=(show cu P w H h a (.tup (ks.map kV)) from ok a _ e);exact⟨o,its.toArray,n,h1,h2,h3,by simpa using oa r⟩
theorem su{kvs:List (List Key × V)}(ok:HOk P w H h)(e:Rd H a (.dT kvs)):kvs.length<=sizeLine/\(a == sysModules)=false /\
  ∃ xs,KT H kvs xs/\h.DictOfH (tupleKind (cA P w)) a xs:=by
 obtain⟨z,y,xs,r,o,es,ep,h1,h2,h3,h4,h5⟩:=(show cu P w H h a (.dT kvs) from Gj ok e);refine⟨z,y,xs,r,o,es,ep,h1,h2,h3,h4,λ x hx=>?_,h5⟩
 have all:∀ {l:List (List Key × V)} {m:List (List Key × Addr × Value)},KT H l m->∀ x∈m,(tupleKind (cA P w)).is h x.1 x.2.1:=by
  intro l m q
  induction q with
  | nil=>intro x hx;exact nomatch hx
  | @cons p q ps qs hq t ih=>
   intro x hx
   rcases NR.mp hx with e|hx
   ·subst e;exact nB ok (by rw [←hq.1];exact hq.2.1)
   ·exact ih x hx
 exact all r x hx
theorem LN{kvs:List (List Key × V)}(ok:HOk P w H h)(e:H a=some (.dT kvs)):kvs.length<=sizeLine/\(a == sysModules)=false /\
  ∃ xs,KT H kvs xs/\h.DictOfH (tupleKind (cA P w)) a xs:=su ok (.inl e)
end
def qL(H:Hp)(a:Addr)(y:V)(r:Option V):Prop:=
 (∃ kvs k,Rd H a (.dK kvs)/\y=kV k/\r=fB kvs k)\/∃ kvs k b,Rd H a (.dT kvs)/\y=.ref b/\H b=some (.tup (k.map kV))/\r=fB kvs k
def FC(H:Hp)(a:Addr)(y v:V)(H':Hp):Prop:=
 (∃ kvs k,H a=some (.dK kvs)/\y=kV k/\kvs.length < sizeLine/\H'=upd H a (.dK (ku kvs k v))) \/
 ∃ kvs k b,H a=some (.dT kvs)/\y=.ref b/\H b=some (.tup (k.map kV))/\kvs.length < sizeLine/\H'=upd H a (.dT (ku kvs k v))
theorem qL.k{H:Hp}{a:Addr}{kvs:List (Key × V)}{k:Key}(e:H a=some (.dK kvs)):qL H a (kV k) (fB kvs k):=.inl ⟨kvs,k,.inl e,rfl,rfl⟩
theorem FC.k{H:Hp}{a:Addr}{kvs:List (Key × V)}{k:Key}{v:V}(e:H a=some (.dK kvs))(hl:kvs.length < sizeLine):FC H a (kV k) v (upd H a (.dK (ku kvs k v))):=.inl ⟨kvs,k,e,rfl,hl,rfl⟩
section
variable {X:Cx}{pins:List (Addr × Obj)}{σ:St}{H:Hp}{s:Shared}{a:Addr}{y v:V}{u r:Value}{o:Option V}{A:Around}{E:Value->Shared->Prop}
theorem Inv.big(I:Inv X pins σ H s):sysModules < s.heap.objs.size:=by
 have h:mainGlobals < s.heap.objs.size:=(I.mod.glob.keeps I.bk).lt;exact Qz (by decide) h
theorem xQ{Q:Value->Shared->Prop}(hu:A.units+1 < cLine)(I:Inv X pins σ H s)(g:qL H a y (some v))(ry:bT y u)(h:∀ w' s',Inv X pins σ H s'->bT v w'->Q w' s') :
  wpAny (model X.prog X.w) A (getItem (.ref a) u) Q E s:=by
 rcases g with ⟨kvs,k,e,ey,l⟩|⟨kvs,k,b,e,ey,eb,l⟩
 ·subst ey;obtain⟨z,hd,vs,rel,dd⟩:=sx I.hok e;obtain⟨w',hw,rw'⟩:=nc.some_of (v:=v) (o:=valueAt vs k) (by rw [l];exact rel.val k);exact wpAny_getItem_of (t6 ry) dd.mapOf hw (h w' _ (I.tok _) rw')
 ·subst ey;cases (show u=Value.ref b from ry);obtain⟨z,hd,xs,rel,dd⟩:=su I.hok e;obtain⟨w',hw,rw'⟩:=nc.some_of (v:=v) (o:=(atKey xs k).map (·.2)) (by rw [l];exact rel.val k);obtain⟨p,hp,hp2⟩:=NI.mp hw;refine wpAny_getItem_heap (QL hu) (nB I.hok eb) dd hp ?_;rw [hp2];exact h w' _ (I.tok _) rw'
theorem Nm{Q:Value->Shared->Prop}(hu:A.units+1 < cLine)(I:Inv X pins σ H s)(g:qL H a y o)(ry:bT y u)(h:∀ s',Inv X pins σ H s'->Q (.bool o.isSome) s') :
  wpAny (model X.prog X.w) A (compareOp .In u (.ref a)) Q E s:=by
 rcases g with ⟨kvs,k,e,ey,l⟩|⟨kvs,k,b,e,ey,eb,l⟩
 ·subst ey;obtain⟨z,hd,vs,rel,dd⟩:=sx I.hok e;refine wpAny_in_of (t6 ry) hd dd.mapOf ?_;rw [←(rel.val k).isSome_eq,←l];exact h _ (I.tok _)
 ·subst ey;cases (show u=Value.ref b from ry);obtain⟨z,hd,xs,rel,dd⟩:=su I.hok e;refine wpAny_in_heap (QL hu) (nB I.hok eb) hd dd ?_;have q:=(rel.val k).isSome_eq;rw [Rv] at q;rw [←q,←l];exact h _ (I.tok _)
theorem p4{h':Heap}{t':Nat}{ob:HO}(I:Inv X pins σ H s)(mu:Mut (H a))(hs:Heap.SameBut a s.heap h')(he:∃ q,h'.get? a=some q)(new:cu X.prog X.w (upd H a ob) h' a ob) :
  Inv X pins σ (upd H a ob) { s with heap:=h',toks:=t' }:=
 I.write (x:=a) (e:=a) mu (.inl rfl) (λ b q hb z=>(hs.2 b hb).trans z) he new
theorem Jz{P:Program}{w:World}{H':Hp}{h':Heap}{kvs:List (Key × V)}{vs:List (Key × Value)}(z:kvs.length<=sizeLine)(hd:(a == sysModules)=false)(rel:KV kvs vs)(dd:h'.DictOf (cA P w) a vs) :
  cu P w H' h' a (.dK kvs):=⟨z,hd,vs,rel,dd⟩
theorem xP{H':Hp}{Q:Unit->Shared->Prop}(hu:A.units+1 < cLine)(I:Inv X pins σ H s)(g:FC H a y v H')(ry:bT y u)(rv:bT v r)(h:∀ s',Inv X pins σ H' s'->Q () s') :
  wpAny (model X.prog X.w) A (setItem (.ref a) u r) Q E s:=by
 rcases g with ⟨kvs,k,e,ey,l,eH⟩|⟨kvs,k,b,e,ey,eb,l,eH⟩
 ·subst ey eH;obtain⟨z,hd,vs,rel,dd⟩:=Cs I.hok e;have hz:vs.length<=sizeLine:=by rw [←rel.length];exact z
  have hl:(ku kvs k v).length<=sizeLine:=by have:=jC kvs k v;omega
  refine wpAny_setItem_pairs (hsz:=hz) (t6 ry) dd λ h' dd' hs=>h _ ?_;have he:∃ q,h'.get? a=some q:=let ⟨q,_,_,hq,_⟩:=dd';⟨q,hq⟩;exact p4 I (by rw [e];exact True.intro) hs he (Jz hl hd (rel.put k rv) dd')
 ·subst ey eH;cases (show u=Value.ref b from ry);obtain⟨z,hd,xs,rel,dd⟩:=LN I.hok e;have hz:xs.length<=sizeLine:=by rw [←Q5 rel];exact z
  have hl:(ku kvs k v).length<=sizeLine:=by have:=jC kvs k v;omega
  refine wpAny_setItem_heap (hsz:=hz) (QL hu) (nB I.hok eb) dd λ h' dd' hs=>h _ ?_;obtain⟨q,es,ep,hq,h2,h3,h4,_,h5⟩:=dd';refine p4 I (by rw [e];exact True.intro) hs ⟨q,hq⟩ ⟨hl,hd,_,(rel.put k eb rv).keeps λ c ys ec=>?_,q,es,ep,hq,h2,h3,h4,h5⟩;rw [ag (K5 ec e (λ z=>nomatch z))];exact ec
end
section
variable {X:Cx}{pins:List (Addr × Obj)}{σ:St}{H:Hp}{s:Shared}{a:Addr}{kvs:List (Key × V)}{k:Key}{u:Value}{A:Around}{E:Value->Shared->Prop}
end
def MP(i:Expr):Prop:=∀ ov iv,subscripted i false ov iv=operate [ov,iv] (getItem ov iv)
theorem CO{prog:Program}{w:World}{A:Around}{E:Value->Shared->Prop}{s:Shared}{env:Env}{value slice:Expr}{pos:Pos}{T id:String}{Q:Value->Shared->Prop}
  (hl:typeLookup (.type T) "__getitem__"=pure (some (.builtin id))) (hs:MP slice)
  (h:wpAny (model prog w) A (eval value env) (λ o s₁=>wpAny (model prog w) A (eval slice env) (λ i s₂=>s₂.TypeIs o T/\wpAny (model prog w) A (getItem o i) Q E s₂) E s₁) E s) :
  wpAny (model prog w) A (eval (.Subscript value slice pos) env) Q E s:=by
 refine Subscript_ (wpAny_mono h (λ o s₁ h₁=>wpAny_mono h₁ (λ i s₂ h₂=>?_) λ _ _ x=>x) λ _ _ x=>x);obtain⟨hT,h₂⟩:=h₂;unfold subscriptTail;refine wpAny_bind ?_;rw [getitemInPython_of_ne hT.not_modules];refine wpAny_bind (wpAny_specialOf hT hl ?_)
 have fin:wpAny (model prog w) A (subscripted slice false o i) (λ r s₃=>wpAny (model prog w) A (letTemporaryGo value o r >>= λ _=>pure r) Q E s₃) E s₂:=by
  rw [hs o i];exact wpAny_operating (QW h₂ (λ r s₃ h₃=>My (wpAny_letTemporaryGo (NA h₃))) λ _ _ x=>x)
 first
  | exact NA (My fin)
  | exact My (NA (My fin))
  | exact My fin
theorem qA{X:Cx}{pins:List (Addr × Obj)}{σ:St}{H:Hp}{s:Shared}{a:Addr}{y:V}{o:Option V}(I:Inv X pins σ H s)(g:qL H a y o):s.TypeIs (.ref a) "dict":=by
 rcases g with ⟨kvs,k,e,_,_⟩|⟨kvs,k,b,e,_,_,_⟩
 ·obtain⟨_,_,vs,_,dd⟩:=sx I.hok e;exact dd.typeIs
 ·obtain⟨_,_,xs,_,dd⟩:=su I.hok e;exact dd.typeIs
def Gd(td ty:TE):TE:=λ σ H Q=>td σ H λ x H1=>ty σ H1 λ y H2=>∃ a v,x=.ref a/\qL H2 a y (some v)/\Q v H2
def Gi(td ty tv:TE):TS:=λ D σ H=>tv σ H λ v H1=>td σ H1 λ x H2=>ty σ H2 λ y H3=>∃ a H4,x=.ref a/\FC H3 a y v H4/\D.nx σ H4
section
variable {X:Cx}{o i e value:Expr}{pos pos' tpos:Pos}{td ty tv:TE}
theorem vh(hu:X.A.units+1 < cLine)(ho:PE X o td)(hi:PE X i ty)(hs:MP i):PE X (.Subscript o i pos) (Gd td ty):=by
 intro pins s σ H Q I h;refine CO PySem.F.slot_dict_getitem.lookup hs (thn (ho pins s σ H _ I h) λ u s1 ⟨x,H1,I1,rx,q1⟩=>thn (hi pins s1 σ H1 _ I1 q1) λ iv s2 ⟨y,H2,I2,ry,a,v,ex,g,q2⟩=>?_);subst ex;obtain rfl:u=Value.ref a:=rx;exact⟨qA I2 g,xQ hu I2 g ry λ w' s3 I3 rw'=>⟨v,H2,I3,rw',q2⟩⟩
theorem lU(hu:X.A.units+1 < cLine)(ho:PE X o td)(hi:PE X i ty)(hv:PE X value tv)(hs:swapsWith value (some (.Subscript o i pos')) pos.line X.env=pure false) :
  PS X (.Assign [.Subscript o i pos'] value pos) (Gi td ty tv):=by
 intro pins s σ H D I h;refine wpAny_Assign_Subscript (thn (hv pins s σ H _ I h) λ r s1 ⟨v,H1,I1,rv,q1⟩=>thn (ho pins s1 σ H1 _ I1 q1) λ u s2 ⟨x,H2,I2,rx,q2⟩=>thn (hi pins s2 σ H2 _ I2 q2) λ iv s3 ⟨y,H3,I3,ry,a,H4,ex,g,q3⟩=>?_) hs;subst ex;obtain rfl:u=Value.ref a:=rx;exact xP hu I3 g ry rv λ s4 I4=>⟨σ,H4,I4,q3⟩
end
theorem AQ{P:Program}{w:World}{H:Hp}(h:Heap)(hb:sysModules < h.objs.size):cu P w H (h.push { cls:=.type "dict",data:=.dict #[] }) h.objs.size (.dK []):=
 ⟨OL _,Pp.mpr (NM (NQ hb)),[],.nil,Heap.DictOf.new h⟩
def GZ:TE:=λ _ H Q=>∀ p,H p=none->Q (.ref p) (upd H p (.dK []))
section
variable {X:Cx}{pos:Pos}
theorem zu:PE X (.Dict [] [] pos) GZ:=λ pins s σ H Q I h=>
 wpAny_Dict_empty ⟨.ref s.heap.objs.size,_,I.laid (a:=s.heap.objs.size) (o:=.dK []) (t':=s.toks) (λ _ _ q=>Nx _ q) (NF _) (AQ s.heap I.big),rfl,h _ (I.hok.fresh (NF _))⟩
end
structure M2(X:Cx)(o:Expr)(m:Str)(apos:Pos)(e f:Expr)(cpos:Pos):Prop where
 base:attributeBase o m X.env (eval o X.env)=eval o X.env
 few:((backTo cpos (starEach [e,f] X.env)).all (λ x=>!x.1) && (backToKw cpos (keywordEach [] X.env)).all (λ x=>x.1.isSome)
  && decide (([e,f]:List Expr).length+([]:List Keyword).length+(if ([]:List Keyword).isEmpty then 0 else 1) < 30))=true
 line:(apos.endLine == cpos.line)=true
 trees:backTo cpos (starEach [e,f] X.env)=[(false,eval e X.env),(false,eval f X.env)]
def IsD(H:Hp)(a:Addr):Prop:=(∃ kvs,Rd H a (.dK kvs))\/∃ kvs,Rd H a (.dT kvs)
theorem Jv{X:Cx}{pins:List (Addr × Obj)}{σ:St}{H:Hp}{s:Shared}{a:Addr}(I:Inv X pins σ H s)(d:IsD H a) :
  s.TypeIs (.ref a) "dict" /\ (∀ b,Value.ref a=.ref b->∃ ob,s.heap.get? b=some ob/\ob.dict=none)/\(a == sysModules)=false:=by
 rcases d with ⟨kvs,e⟩|⟨kvs,e⟩
 ·obtain⟨_,hd,vs,_,dd⟩:=sx I.hok e;refine⟨dd.typeIs,λ b q=>?_,hd⟩;cases q;obtain⟨ob,_,_,h1,h2,_⟩:=dd;exact⟨ob,h1,h2.2.1⟩
 ·obtain⟨_,hd,xs,_,dd⟩:=su I.hok e;refine⟨dd.typeIs,λ b q=>?_,hd⟩;cases q;obtain⟨ob,_,_,h1,h2,_⟩:=dd;exact⟨ob,h1,h2.2.1⟩
section
variable {X:Cx}{pins:List (Addr × Obj)}{σ:St}{H:Hp}{s:Shared}{a:Addr}{y d:V}{u r:Value}{o:Option V}{A:Around}{E:Value->Shared->Prop}
theorem JB{Q:Value->Shared->Prop}(hu:A.units+1 < cLine)(I:Inv X pins σ H s)(g:qL H a y o)(ry:bT y u)(rd:bT d r)(h:∀ w' s',Inv X pins σ H s'->bT (o.getD d) w'->Q w' s') :
  wpAny (model X.prog X.w) A (call (.builtin "dict.get") [.ref a,u,r]) Q E s:=by
 rcases g with ⟨kvs,k,e,ey,l⟩|⟨kvs,k,b,e,ey,eb,l⟩
 ·subst ey;obtain⟨z,hd,vs,rel,dd⟩:=sx I.hok e;refine call_meetsIn QX dd.typeIs PySem.F.entry_dict_get (PySem.F.args_dict_get_3 _ _ _) (meets_dict_get_default (cA X.prog X.w) a (t6 ry) hd r) ⟨_,dd.mapOf,h _ _ (I.tok _) ?_⟩;rw [l];exact(rel.val k).getD rd
 ·subst ey;cases (show u=Value.ref b from ry);obtain⟨z,hd,xs,rel,dd⟩:=su I.hok e;refine call_meetsIn QX dd.typeIs PySem.F.entry_dict_get (PySem.F.args_dict_get_3 _ _ _) (meetsH_dict_get_default (tupleKind (cA X.prog X.w)) a b hd r) ⟨QL hu,k,xs,nB I.hok eb,dd,h _ _ (I.tok _) ?_⟩;rw [l];exact(rel.val k).getD rd
end
def Bm(td ty tx:TE):TE:=λ σ H Q=>td σ H λ x H1=>∃ a,x=.ref a/\IsD H1 a/\ty σ H1 λ y H2=>tx σ H2 λ z H3=>∃ o,qL H3 a y o/\Q (o.getD z) H3
section
variable {X:Cx}{o e f:Expr}{apos cpos:Pos}{td ty tx:TE}
theorem zv(hu:X.A.units+1 < cLine)(ho:PE X o td)(he:PE X e ty)(hf:PE X f tx)(m:M2 X o "get" apos e f cpos):PE X (.Call (.Attribute o "get" apos) [e,f] [] cpos) (Bm td ty tx):=by
 intro pins s σ H Q I h;refine wpAny_Call_method m.base m.few m.line PySem.F.plainAttrs_dict QX PySem.F.type_dict_get (thn (ho pins s σ H _ I h) λ u s1 ⟨x,H1,I1,rx,a,ex,d,q1⟩=>?_);subst ex;obtain rfl:u=Value.ref a:=rx;obtain⟨t1,t2,_⟩:=Jv I1 d;refine⟨t1,t2,?_⟩;rw [m.trees]
 refine Ri rfl (Calls.evalArgs_plain (Qo (thn (he pins s1 σ H1 _ I1 q1) λ iv s2 ⟨y,H2,I2,ry,q2⟩=>
  Qo (thn (hf pins s2 σ H2 _ I2 q2) λ fv s3 ⟨z,H3,I3,rz,ov,g,q3⟩=>Q2 ?_))))
 exact JB hu I3 g ry rz λ w' s4 I4 rw'=>⟨_,H3,I4,rw',q3⟩
end
section
variable {X:Cx}{pins:List (Addr × Obj)}{σ:St}{H:Hp}{s:Shared}{a:Addr}{kvs:List (Key × V)}{A:Around}{E:Value->Shared->Prop}
end
section
variable {X:Cx}{pins:List (Addr × Obj)}{σ:St}{H:Hp}{s:Shared}{a:Addr}{y:V}{u:Value}{A:Around}{E:Value->Shared->Prop}
end
section
variable {κ:Type}[DecidableEq κ]
end
section
variable {X:Cx}
def Ct(i j:Int):Prop:=i.natAbs < 2 ^ 256/\j.natAbs < 2 ^ 256
theorem vL{i:Int}(h:i.natAbs < 2 ^ 256):Builtin.Int.intBits i<=2 ^ 20:=OI (intBits_le h) (by decide)
theorem Dw:OpR X (binaryOp .Mult) (rI Ct λ i j=>.int (i * j)):=opI λ _ _ _ _ _ _ _ hc q=>mul_int q (IntMulOk.of_bits (vL hc.1) (vL hc.2))
theorem AU:cP X (.builtin "isinstance") (λ xs H Q=>∃ x n ty b,xs=[x,.ty n]/\qJ X.K H x ty/\W.kitOne X.K ty (.type n)=some b/\Q (.bl b) H):=by
 intro pins s σ H xs us Q I r h;obtain⟨x,n,ty,b,rfl,hty,hk,q⟩:=h;obtain⟨u,w',rfl,rx,rc⟩:=BR r;cases (show w'=Value.type n from rc);exact xJ I rx hty hk (λ tk=>⟨.bl b,H,I.tok _,rfl,q⟩)
theorem xD(K:W.Frag)(A B:String)(r:Bool)
  (h:(if (Value.type A == Value.type B)=true then some true else if W.kitMeta B=true then (fastBuiltinMro A).map (·.contains (.type B)) else none)=some r):W.kitOne K (.type A) (.type B)=some r:=h
mutual
inductive lM (K:PySem.W.Frag) (H:Hp):V->PyData->Prop
 | non:lM K H .non .none
 | bl (b:Bool):lM K H (.bl b) (.bool b)
 | int (i:Int):lM K H (.int i) (.int i)
 | str (x:Str):lM K H (.str x) (.str x)
 | lst {a:Addr} {xs:List V} {ds:List PyData} (h:SqL K H a xs) (r:iS K H xs ds):lM K H (.ref a) (.list ds)
 | tup {a:Addr} {xs:List V} {ds:List PyData} (h:SqT K H a xs) (r:iS K H xs ds):lM K H (.ref a) (.tuple ds)
inductive iS (K:PySem.W.Frag) (H:Hp):List V->List PyData->Prop
 | nil:iS K H [] []
 | cons {x:V} {d:PyData} {xs:List V} {ds:List PyData} (h:lM K H x d) (t:iS K H xs ds):iS K H (x::xs) (d::ds)
end
mutual
theorem lM.reads{pins:List (Addr × Obj)}{σ:St}{H:Hp}{s:Shared}(I:Inv X pins σ H s):∀ {x:V}{d:PyData}{u:Value},lM X.K H x d->bT x u->∃ as,Reads s.heap u d as
 | _,_,_,.non,r=>by cases (show _=Value.none from r);exact⟨_,.none⟩
 | _,_,_,.bl b,r=>by cases (show _=Value.bool b from r);exact⟨_,.bool b⟩
 | _,_,_,.int i,r=>by obtain⟨t,rfl⟩:=r;exact⟨_,.int i t⟩
 | _,_,_,.str x,r=>by obtain⟨t,rfl⟩:=r;exact⟨_,.str x t⟩
 | _,_,_,@lM.lst _ _ a xs ds h q,r=>by
  cases (show _=Value.ref a from r);obtain⟨its,hv,hp,_⟩:=I.list h;obtain⟨o,n,e,c,_,d⟩:=hp;obtain⟨as,z⟩:=iS.reads I q hv;exact⟨_,.list e c d (by simpa using z)⟩
 | _,_,_,@lM.tup _ _ a xs ds h q,r=>by
  cases (show _=Value.ref a from r);obtain⟨its,hv,hp,_⟩:=I.tuple h;obtain⟨o,e,c,n,d⟩:=hp;obtain⟨as,z⟩:=iS.reads I q hv;exact⟨_,.tuple e c d (by simpa using z)⟩
theorem iS.reads{pins:List (Addr × Obj)}{σ:St}{H:Hp}{s:Shared}(I:Inv X pins σ H s):∀ {xs:List V}{ds:List PyData}{us:List Value},iS X.K H xs ds->bq xs us->∃ as,ReadsAll s.heap us ds as
 | _,_,_,.nil,.nil=>⟨_,.nil⟩
 | _,_,_,.cons h t,.cons r q=>by
  obtain⟨as,z⟩:=lM.reads I h r;obtain⟨bs,y⟩:=iS.reads I t q;exact⟨_,.cons z y⟩
end
def M9(K:W.Frag):R2:=λ x y H Q=>∃ d e,lM K H x d/\lM K H y e/\SeqAt.shaped d=true/\SeqAt.shaped e=true/\Q (.bl (PyData.eqv d e)) H
def M5(K:W.Frag):R2:=λ x y H Q=>∃ d e,lM K H x d/\lM K H y e/\SeqAt.shaped d=true/\SeqAt.shaped e=true/\Q (.bl (!PyData.eqv d e)) H
theorem HC(hu:X.A.units+64 < cLine):OpR X (compareOp .Eq) (M9 X.K):=by
 intro pins s σ H x y v u Q I rx ry h;obtain⟨d,e,hd,he,sd,se,q⟩:=h;obtain⟨as,z⟩:=hd.reads I rx;obtain⟨bs,z'⟩:=he.reads I ry;exact SeqAt.compareEq_shaped z z' sd se hu ⟨.bl _,H,I,rfl,q⟩
theorem HA(hu:X.A.units+64 < cLine):OpR X (compareOp .NotEq) (M5 X.K):=by
 intro pins s σ H x y v u Q I rx ry h;obtain⟨d,e,hd,he,sd,se,q⟩:=h;obtain⟨as,z⟩:=hd.reads I rx;obtain⟨bs,z'⟩:=he.reads I ry;exact SeqAt.compareNe_shaped z z' sd se hu ⟨.bl _,H,I,rfl,q⟩
end
theorem yW{H:Hp}{p:Addr}{o:HO}(h:H p=none):nq H (upd H p o):=λ b u e=>by
 rw [ag (cF e h)];exact e
theorem BL{α:Type}(xs:List α)(i:Int)(h0:0<=i)(h1:i < xs.length):∃ v,atI xs i=some v/\v∈xs:=by
 have hl:i.toNat < xs.length:=by omega
 refine⟨xs[i.toNat],?_,Pa hl⟩;have e:((i.toNat:Nat):Int)=i:=by omega
 have:=ei (xs:=xs) (j:=i.toNat) (v:=xs[i.toNat]) (Nw hl);rw [e] at this;exact this
theorem mF(ns:List Int)(i:Int)(h0:0<=i)(h1:i < ns.length):∃ z,atI (ns.map V.int) i=some (.int z)/\z∈ns:=by
 obtain⟨v,e,m⟩:=BL (ns.map V.int) i h0 (by simpa using h1);obtain⟨z,hz,rfl⟩:=ND.mp m;exact⟨z,e,hz⟩
def m9(cells:List (Str × Addr)):List (Str × NameKind)->List (Str × Addr)->List (Str × Addr)
 | [],acc=>acc
 | (n,k)::r,acc=>if (k == .free)=true then m9 cells r ((n,(cells.lookup n).getD 0)::acc) else m9 cells r acc
theorem gg{env:Env}:∀ (names:List (Str × NameKind)) (acc:List (Str × Addr)),(∀ y∈names,y.2=.free->∃ c,env.cells.lookup y.1=some c) →
  (forIn names acc (λ (x:Str × NameKind) (cs:List (Str × Addr))=>match x with
   | (name,kind)=>if (kind == .free)=true then (do let a ←cellOf env name;pure (ForInStep.yield ((name,a)::cs))) else (do pure PUnit.unit;pure (ForInStep.yield cs))):Sem (List (Str × Addr)))=pure (m9 env.cells names acc)
 | [],acc,_=>rfl
 | (n,k)::r,acc,h=>by
  rw [P9];have hr:∀ y∈r,y.2=.free->∃ c,env.cells.lookup y.1=some c:=λ y hy=>h y (NH _ hy)
  by_cases hk:(k == .free)=true
  ·obtain⟨c,hc⟩:=h (n,k) mem_cons_self (by simpa using hk);have hc':env.cells.lookup n=some c:=hc;simp only [hk,if_true,m9,hc',Option.getD_some];have e:cellOf env n=pure c:=by unfold cellOf;rw [hc']
   rw [e];exact gg r _ hr
  ·simp only [hk,Qj,m9];exact gg r acc hr
theorem gI{scope:Scope}{env:Env}(h:∀ y∈scope.names,y.2=.free->∃ c,env.cells.lookup y.1=some c):closureFor scope env=pure (m9 env.cells scope.names []):=by
 unfold closureFor;have:=gg (env:=env) scope.names [] h
 first
  | exact(OM (λ m=>m >>= λ cs=>pure cs) this).trans (pure_bind _ _)
  | (simp only [] at this ⊢;rw [this];rfl)
theorem mD{cells:List (Str × Addr)}{x:Str}{c:Addr}:∀ {names:List (Str × NameKind)}{acc:List (Str × Addr)},(∀ y∈names,y.2=.free->∃ c,cells.lookup y.1=some c)->(m9 cells names acc).lookup x=some c->acc.lookup x=some c\/cells.lookup x=some c
 | [],acc,_,h=>.inl h
 | (n,k)::r,acc,hf,h=>by
  have hr:∀ y∈r,y.2=.free->∃ c,cells.lookup y.1=some c:=λ y hy=>hf y (mem_cons_of_mem _ hy);unfold m9 at h
  by_cases hk:(k == .free)=true
  ·rw [N7 hk] at h
   rcases mD hr h with q|q
   ·rw [PF] at q
    cases hx:x == n with
    | true=>
     rw [hx] at q;obtain⟨d,hd⟩:=hf (n,k) NK (by simpa using hk);have e:x=n:=by simpa using hx
     subst e;have hd':cells.lookup x=some d:=hd;rw [hd'] at q ⊢;exact .inr (by simpa using q)
    | false=>rw [hx] at q;exact .inl q
   ·exact .inr q
  ·rw [NY hk] at h;exact mD hr h
theorem mE{cells:List (Str × Addr)}{x:Str}:∀ {names:List (Str × NameKind)}{acc:List (Str × Addr)},(∀ y∈names,y.2=.free->∃ c,cells.lookup y.1=some c)->(∃ c,acc.lookup x=some c)->∃ c,(m9 cells names acc).lookup x=some c
 | [],acc,_,h=>h
 | (n,k)::r,acc,hf,h=>by
  have hr:∀ y∈r,y.2=.free->∃ c,cells.lookup y.1=some c:=λ y hy=>hf y (mem_cons_of_mem _ hy);unfold m9
  by_cases hk:(k == .free)=true
  ·rw [N7 hk];refine mE hr ?_;rw [PF]
   cases hx:x == n with
   | true=>exact⟨_,rfl⟩
   | false=>exact h
  ·rw [NY hk];exact mE hr h
theorem iN{cells:List (Str × Addr)}{x:Str}:∀ {names:List (Str × NameKind)}{acc:List (Str × Addr)},(∀ y∈names,y.2=.free->∃ c,cells.lookup y.1=some c)->names.lookup x=some .free->∃ c,(m9 cells names acc).lookup x=some c
 | [],acc,_,h=>by simp at h
 | (n,k)::r,acc,hf,h=>by
  have hr:∀ y∈r,y.2=.free->∃ c,cells.lookup y.1=some c:=λ y hy=>hf y (mem_cons_of_mem _ hy);rw [lookup_cons] at h;unfold m9
  cases hx:x == n with
  | true=>
   rw [hx] at h;have hk:k=.free:=by simpa using h
   subst hk;rw [N7 (show (NameKind.free == NameKind.free)=true from rfl)];refine mE hr ⟨(cells.lookup n).getD 0,?_⟩;rw [PF,hx]
  | false=>
   rw [hx] at h
   by_cases hk:(k == .free)=true
   ·rw [N7 hk];exact iN hr h
   ·rw [NY hk];exact iN hr h
theorem fH{x:Str}{k:NameKind}:∀ {names:List (Str × NameKind)},names.lookup x=some k->(x,k)∈names
 | [],h=>by simp at h
 | (n,j)::r,h=>by
  rw [PF] at h
  cases hx:x == n with
  | true=>
   rw [hx] at h;have e:x=n:=by simpa using hx
   have e2:j=k:=by simpa using h
   subst e;subst e2;exact NK
  | false=>rw [hx] at h;exact NH _ (fH h)
theorem ek{env:Env}{x:Str}:∀ {names:List (Str × NameKind)},
  (names.map λ (n,k)=>if (k == NameKind.free && env.scope.kind == .function && env.kindOf n == some .cell) then (n,NameKind.cell) else (n,k)).lookup x
   = (names.lookup x).map λ k=>if (k == NameKind.free && env.scope.kind == .function && env.kindOf x == some .cell) then NameKind.cell else k
 | []=>rfl
 | (n,k)::r=>by
  have ih:=@ek env x r
  show List.lookup x ((if (k == NameKind.free && env.scope.kind == .function && env.kindOf n == some .cell)=true then (n,NameKind.cell) else (n,k))::_)=_
  cases hx:x == n with
  | true=>
   have e:x=n:=by simpa using hx
   subst e
   by_cases hc:(k == NameKind.free && env.scope.kind == .function && env.kindOf x == some .cell)=true
   ·rw [N7 hc];simp only [PF,QN,P2];rw [N7 hc]
   ·rw [NY hc];simp only [PF,QN,P2];rw [NY hc]
  | false=>
   by_cases hc:(k == NameKind.free && env.scope.kind == .function && env.kindOf n == some .cell)=true
   ·rw [N7 hc];simp only [PF,hx];exact ih
   ·rw [NY hc];simp only [PF,hx];exact ih
abbrev cCx(X:Cx)(scope:Scope)(N':List Str)(C:Addr)(s₀:Shared)(H₀:Hp)(ex:List Addr)(pn:List (Addr × Obj)):Cx:=
 { X with N:=N',s₀:=s₀,H₀:=H₀,env:=compEnvC scope (m9 X.env.cells scope.names []) C X.env,outer:=X.stack,stack:=X.stack,ex:=ex,fn:=λ _=>false,pn:=pn,xe:=λ _ _=>False }
def PTs(Y:Cx)(ifs:List Expr)(t:TT):Prop:=
 ∀ (pins:List (Addr × Obj)) (s:Shared) (σ:St) (H:Hp) (Q:Bool->Hp->Prop),Inv Y pins σ H s->t σ H Q →
  wpAny (model Y.prog Y.w) Y.A (forIn ifs true λ c r=>if r=true then do let ok ←isTrue c Y.env (eval c Y.env);pure (ForInStep.yield ok) else pure (ForInStep.yield r)) (TP Y pins σ Q) Y.xe s
def LY:TT:=λ _ H Q=>Q true H
theorem br{Y:Cx}:PTs Y [] LY:=λ _ _ _ H _ I h=>NA ⟨H,I,h⟩
theorem iW{Y:Cx}{c:Expr}{t:TT}(h:PT Y c t):PTs Y [c] t:=λ pins s σ H Q I hw=>PySem.wpAny_tests_one (h pins s σ H Q I hw)
theorem HOk.but{P:Program}{w:World}{H:Hp}{h h':Heap}{C:Addr}(ok:HOk P w H h)(hn:H C=none)(hs:Heap.SameBut C h h'):HOk P w H h':=λ b ob e=>by
 refine(ok b ob e).stay (λ c w' hc q=>(hs.2 c ?_).trans q) (λ _ q=>q) λ _ _ q=>q;rintro rfl
 rcases hc with rfl|hc
 ·rw [hn] at e;cases e
 ·rw [hn] at hc;cases hc
theorem Un.but{fs ex:List Addr}{H H':Hp}{h h1 h2:Heap}{C:Addr}(u:Un fs ex H H' h h1)(hs:Heap.SameBut C h1 h2)(hC:∀ b o,h.get? b=some o->b ≠ C):Un fs ex H H' h h2 where
 keep:=λ b o e n hb hx=>(hs.2 b (hC b o e)).trans (u.keep b o e n hb hx)
 slot:=λ b o e n hb hx=>by
  obtain⟨sl,q⟩:=u.slot b o e n hb hx;exact⟨sl,(hs.2 b (hC b o e)).trans q⟩
 free:=u.free
 there:=λ b o e hx=>by
  obtain⟨o',q⟩:=u.there b o e hx;exact⟨o',(hs.2 b (hC b o e)).trans q⟩
 tups:=u.tups
 frzs:=u.frzs
 tbls:=u.tbls
section
variable {X:Cx}
def BU(k:Nat)(wi:TI)(g:TG)(tt:TT)(te:TE):TE:=λ σ H Q=>wi σ H λ J H1=>∀ D,H1 D=none->∃ W:Nat->Nat->List V->Hp->Prop,(∃ m,W 0 m [] (upd H1 D (.lst [])))/\∀ i m ys H,W i m ys H →
 (J.stop i H/\Q (.ref D) H)\/(J.go i H/\∃ N:List V->Hp->Prop,(∀ ys' H',N ys' H'->∃ m',m' < m/\W (i+1) m' ys' H') /\
  ∀ x H',J.yld i H x H'->g x (List.replicate k none++σ) H' λ σ2 H2=>(∃ vs:St,vs.length=k/\σ2=vs++σ)/\tt σ2 H2 λ b H3=>if b=true then te σ2 H3 λ y H4=>H4 D=some (.lst ys)/\ys.length < sizeLine/\N (ys++[y]) (upd H4 D (.lst (ys++[y]))) else N ys H3)
theorem xR{Y:Cx}{tg elt iter:Expr}{ifs:List Expr}{scope:Scope}{pos:Pos}{it D:Addr}{g:TG}{tt:TT}{te:TE}{J:It}{fp:List Addr}{tn:Nat->Heap->Prop}{k:Nat}{σ:St}{Q:VK}
  (hc:Y.calm=true) (hx:Y.xe=λ _ _=>False) (hg:PG Y tg g) (ht:PTs Y ifs tt) (he:PE Y elt te) (T:yk Y.prog Y.w Y.K tg J fp it tn) (hf:∀ H:Hp,(∀ b∈fp,H b=none)->∀ b∈fp,pw Y [] H b)
  (W:Nat->Nat->List V->Hp->Prop)
  (turn:∀ i m ys H,W i m ys H->(J.stop i H/\Q (.ref D) H)\/(J.go i H/\∃ N:List V->Hp->Prop,(∀ ys' H',N ys' H'->∃ m',m' < m/\W (i+1) m' ys' H') /\
   ∀ x H',J.yld i H x H'->g x (List.replicate k none++σ) H' λ σ2 H2=>(∃ vs:St,vs.length=k/\σ2=vs++σ)/\tt σ2 H2 λ b H3=>if b=true then te σ2 H3 λ y H4=>H4 D=some (.lst ys)/\ys.length < sizeLine/\N (ys++[y]) (upd H4 D (.lst (ys++[y]))) else N ys H3))
  (n:Nat) (s:Shared) (h:∃ i ys H,Inv Y [] (List.replicate k none++σ) H s/\tn i s.heap/\(∀ b∈fp,H b=none)/\W i n ys H) :
  codeAny (model Y.prog Y.w) Y.A (.compLoop (.ListComp elt [⟨tg,iter,ifs,0⟩] scope pos) 0 (.ref it) (.ref D) Y.env) (λ r s'=>r=.ok .next/\∃ H',Inv Y [] (List.replicate k none++σ) H' s'/\Q (.ref D) H') s:=by
 refine codeAny_loop rfl (λ n s=>∃ i ys H,Inv Y [] (List.replicate k none++σ) H s/\tn i s.heap/\(∀ b∈fp,H b=none)/\W i n ys H) ?_ n h;rintro n s3 ⟨i,ys,H3,I3,st3,fr3,w3⟩
 show wpAny _ Y.A ((compTurn (.ListComp elt [⟨tg,iter,ifs,0⟩] scope pos) 0 (.ref it) (.ref D) Y.env).onRaise (λ x=>do noteFrame x Y.env;theTreesLotGoes x)) _ _ s3
 refine PySem.wpAny_noted ?_;rw [PySem.compTurn_list]
 have no:∀ {α:Type} {m:Sem α} {P:α->Shared->Prop} {E:Value->Shared->Prop} {s:Shared},wpAny (model Y.prog Y.w) Y.A m P Y.xe s->wpAny (model Y.prog Y.w) Y.A m P E s:=λ {α m P E s} h=>
  QW h (λ _ _ q=>q) λ _ _ q=>by rw [hx] at q;exact q.elim
 refine My (RL (My ?_))
 rcases turn i n ys H3 w3 with ⟨stop,qn⟩|⟨go,N,hN,step⟩
 ·refine thn (T.done Y rfl rfl rfl hc i [] s3 (List.replicate k none++σ) H3 _ I3 (hf H3 fr3) st3 stop) λ r s4 ⟨hr,I4⟩=>?_;subst hr;exact NA ⟨rfl,H3,I4,qn⟩
 ·refine thn (T.item Y rfl rfl rfl hc i [] s3 (List.replicate k none++σ) H3 _ I3 (hf H3 fr3) st3 go) λ r s4 ⟨u,hr,h4⟩=>?_;subst hr;refine My (thn h4 λ _ s5 ⟨x,H5,I5,r5,y5,st5,fr5⟩=>?_);have I5':=I5.pinned (hf H5 fr5) (T.obj _ _ st5);refine My (no (thn (hg _ s5 (List.replicate k none++σ) H5 x u _ I5' r5 (step x H5 y5)) λ _ s6 ⟨σ6,H6,I6,⟨vs,hvs,e6⟩,q6⟩=>?_));subst e6
  have forget:∀ {pins:List (Addr × Obj)} {H:Hp} {s:Shared},Inv Y pins (vs++σ) H s->Inv Y pins (List.replicate k none++σ) H s:=λ {pins H s} I=>I.weak (by simp [hvs]) λ i v e=>by
   by_cases hi:i < k
   ·rw [Oq (by simpa using hi)] at e;simp [P5,hi] at e
   ·rw [Oh (by simpa using RE hi)] at e;rw [Oh (by omega)]
    simpa [hvs] using e
  refine My (no (thn (ht _ s6 (vs++σ) H6 _ I6 q6) λ b s7 ⟨H7,I7,q7⟩=>?_))
  have again:∀ {H8:Hp} {s8:Shared} {ys':List V},Inv Y ([]++ny fp s5.heap) (vs++σ) H8 s8->N ys' H8->∃ m,m < n/\∃ i ys H,Inv Y [] (List.replicate k none++σ) H s8/\tn i s8.heap/\(∀ b∈fp,H b=none)/\W i m ys H:=λ {H8 s8 ys'} I8 n8=>by
   obtain⟨m',hm,w8⟩:=hN ys' H8 n8;refine⟨m',hm,i+1,ys',H8,forget I8.unpinned,T.keep _ _ _ st5 λ b hb o e=>(I8.pin (b,o) (N4 _ (N4 _ (fE hb e)))).1,λ b hb=>?_,w8⟩;obtain⟨o,e,d⟩:=T.obj _ _ st5 b hb;exact(I8.pin (b,o) (N4 _ (N4 _ (fE hb e)))).2.1
  cases b with
  | false=>
   rw [NY NO] at q7;exact NA ⟨rfl,again I7 q7⟩
  | true=>
   rw [N7 rfl] at q7;refine My (My (no (thn (he _ s7 (vs++σ) H7 _ I7 q7) λ y s8 ⟨y',H8,I8,ry,q8,l8,n8⟩=>?_)));exact My (no (thn (dJ _ s8 (vs++σ) H8 (.ref D) [y'] (.ref D) [y] (λ _ H'=>N (ys++[y']) H') I8 rfl (.cons ry .nil) ⟨D,ys,y',rfl,rfl,q8,l8,n8⟩) λ _ s9 ⟨_,H9,I9,_,q9⟩=>NA (NA ⟨rfl,again I9 q9⟩)))
structure iV(X:Cx)(scope:Scope)(N':List Str)(k:Nat):Prop where
 cell:∀ y∈scope.names,y.2 ≠ .cell
 kind:scope.kind=.function
 names:∀ y∈scope.names,y.2=.local->scope.names.lookup y.1=some .local
 free:∀ y∈scope.names,y.2=.free->X.env.scope.names.lookup y.1=some .cell
 len:N'.length=k+X.N.length
 sub:∀ i x,N'[k+i]? = some x->scope.names.lookup x=some .free->X.N[i]? = some x
 loc:∀ i x,N'[k+i]? = some x->scope.names.lookup x ≠ some .local
theorem iV.cells{scope:Scope}{N':List Str}{k:Nat}{pins:List (Addr × Obj)}{σ:St}{H:Hp}{s:Shared}(c:iV X scope N' k)(I:Inv X pins σ H s):∀ y∈scope.names,y.2=.free->∃ a,X.env.cells.lookup y.1=some a:=λ y hy e=>
 I.ok.has y.1 (.inl (c.free y hy e))
theorem AA{scope:Scope}{N':List Str}{k:Nat}{pins:List (Addr × Obj)}{σ:St}{H:Hp}{s s₄:Shared}{fp:List Addr}{m:Str->Option Value}(c:iV X scope N' k)(hc:X.calm=true)(I:Inv X pins σ H s)
  (hf:∀ b∈fp,pw X pins H b) (hfl:∀ b∈fp,b < s.heap.objs.size) (hb:∀ b∈fp,X.base.get? b=none) (hns:s₄.heap.Ns s.heap.objs.size m) (hk:∀ b o,s.heap.get? b=some o->s₄.heap.get? b=some o) (ho:s₄.os=s.os) (hg:s₄.gens=s.gens) :
  Inv (cCx X scope N' s.heap.objs.size s H fp (X.pn++pins)) [] (List.replicate k none++σ) H s₄:=by
 have hcl:=c.cells I
 have sub:∀ x a,(m9 X.env.cells scope.names []).lookup x=some a->X.env.cells.lookup x=some a:=λ x a e=>by
  rcases mD hcl e with q|q
  ·simp at q
  ·exact q
 have kinds:∀ x,(compEnvC scope (m9 X.env.cells scope.names []) s.heap.objs.size X.env).kindOf x=some .cell\/(compEnvC scope (m9 X.env.cells scope.names []) s.heap.objs.size X.env).kindOf x=some .free->scope.names.lookup x=some .free:=λ x hx=>by
  have e:(compEnvC scope (m9 X.env.cells scope.names []) s.heap.objs.size X.env).kindOf x=(scope.names.lookup x).map λ k=>if (k == NameKind.free && X.env.scope.kind == .function && X.env.kindOf x == some .cell) then NameKind.cell else k:=ek
  rw [e] at hx
  cases q:scope.names.lookup x with
  | none=>rw [q] at hx;simp at hx
  | some j=>
   rw [q] at hx;have hj:j ≠ .cell:=c.cell (x,j) (fH q)
   cases j<;>simp_all
 have fresh:∀ b,s.heap.objs.size<=b->s.heap.get? b=none:=λ b hb=>Ry hb;have ne:∀ b o,s.heap.get? b=some o->b ≠ s.heap.objs.size:=λ b o e=>NQ (NB e)
 have cl_lt:∀ x a,X.env.cells.lookup x=some a->a < s.heap.objs.size:=λ x a e=>by
  obtain⟨v,o,h1,_⟩:=I.cell x a e;exact NB h1
 refine⟨⟨I.ok.mod,c.kind,I.ok.glob,I.ok.blt,NF _,λ x y a e1 e2=>I.ok.inj x y a (sub x a e1) (sub y a e2),λ x hx=>iN hcl (kinds x hx),(λ _ _ z=>nomatch z),I.ok.hd,I.ok.frames,.inl rfl,λ b hb'=>⟨NQ (hfl b hb'),λ x a e=>(hf b hb').2.2.2.2.1 x a (sub x a e)⟩,
   I.bs,OI I.ok.bsz I.sz,(λ b o e hb'=>by rw [hb b hb'] at e;cases e),λ b hb' hz=>?_,I.stack,I.stkFree⟩,ho,by rw [hg];exact I.bare,Un.kept hk,⟨m,hns,λ i x v e1 e2 e3=>?_⟩,λ x a e=>?_,I.hok.fresh (NF _),λ x a e=>I.freeC x a (sub x a e),λ p hp=>?_,I.hok.kept hk,?_⟩
 ·rcases NR.mp (I.stkSub b hz) with z|z
  ·exact(hf b hb').2.1 z
  ·exact(hf b hb').2.2.1 z
 ·have hi:k<=i:=by
   refine RE λ hi=>?_;rw [Oq (by simpa using hi)] at e2;simp [P5,hi] at e2
  obtain⟨j,rfl⟩:∃ j,i=k+j:=⟨i - k,by omega⟩;rw [Oh (by simp)] at e2;have e2':σ[j]? = some (some v):=by simpa using e2
  have e:(relabel scope X.env).names.lookup x=(scope.names.lookup x).map λ k=>if (k == NameKind.free && X.env.scope.kind == .function && X.env.kindOf x == some .cell) then NameKind.cell else k:=ek
  have hfree:scope.names.lookup x=some .free:=by
   cases q:scope.names.lookup x with
   | none=>
    rcases e3 with z|z|z
    all_goals (have z':(relabel scope X.env).names.lookup x=some _:=z;rw [e,q] at z';simp at z')
   | some j'=>
    have h1:j' ≠ .cell:=c.cell (x,j') (fH q);have h2:j' ≠ .local:=λ z=>c.loc j x e1 (by rw [q,z])
    rcases e3 with z|z|z
    all_goals (have z':(relabel scope X.env).names.lookup x=some _:=z;rw [e,q] at z';cases j'<;>simp_all)
  have hX:=c.sub j x e1 hfree;have hcellX:=c.free (x,.free) (fH hfree) rfl;obtain⟨m0,hn0,hl0⟩:=I.loc;obtain⟨u,r,l⟩:=hl0 j x v hX e2' (.inr (.inl hcellX));refine⟨u,r,?_⟩
  rcases l with ⟨z,_⟩|⟨_,a,ea,hz⟩
  ·have z':X.env.scope.names.lookup x=some .local:=z;rw [hcellX] at z';cases z'
  ·obtain⟨a',ea'⟩:=iN (acc:=[]) hcl hfree;have e4:=sub x a' ea';rw [ea] at e4;cases e4;refine .inr ⟨.inl ?_,a,ea',?_⟩
   ·show (relabel scope X.env).names.lookup x=some .cell
    rw [e,hfree];have k1:(X.env.scope.kind == .function)=true:=by rw [I.ok.kind];rfl
    have k2:(X.env.kindOf x == some .cell)=true:=by
     have:X.env.kindOf x=some .cell:=hcellX;rw [this];rfl
    simp [k1,k2]
   ·obtain⟨o,h1,h2⟩:=hz;exact⟨o,hk _ _ h1,h2⟩
 ·obtain⟨v,o,h1,h2⟩:=I.cell x a (sub x a e);exact⟨v,o,hk _ _ h1,h2⟩
 ·have hp':p∈X.pn++pins:=by simpa using hp
  obtain⟨e,n,nl,nf,d⟩:=I.pin p hp';refine⟨hk _ _ e,n,ne _ _ e,λ z=>?_,d⟩
  rcases NR.mp (I.stkSub _ z) with z|z
  ·exact nl z
  ·exact nf z
 ·show (List.replicate k none++σ).length=N'.length
  rw [c.len,NP,O9,I.len]
theorem lC{elt iter tg:Expr}{ifs:List Expr}{scope:Scope}{pos:Pos}{g:TG}{tt:TT}{te:TE}{N':List Str}{k:Nat}{it:Addr}{J:It}{fp:List Addr}{tn:Nat->Heap->Prop}{pins:List (Addr × Obj)}{σ:St}{H:Hp}{s:Shared}{Q:VK}{RR:Value->Addr->Result->Shared->Prop}{E:Value->Shared->Prop}
  (c:iV X scope N' k) (hc:X.calm=true) (I:Inv X pins σ H s) (T:yk X.prog X.w X.K tg J fp it tn) (st:tn 0 s.heap) (hf:∀ b∈fp,pw X pins H b)
  (hg:∀ C s₀ H₀ ex pn,PG (cCx X scope N' C s₀ H₀ ex pn) tg g) (ht:∀ C s₀ H₀ ex pn,PTs (cCx X scope N' C s₀ H₀ ex pn) ifs tt) (he:∀ C s₀ H₀ ex pn,PE (cCx X scope N' C s₀ H₀ ex pn) elt te)
  (h:∀ D,H D=none->∃ W:Nat->Nat->List V->Hp->Prop,(∃ m,W 0 m [] (upd H D (.lst [])))/\∀ i m ys H,W i m ys H →
   (J.stop i H/\Q (.ref D) H)\/(J.go i H/\∃ N:List V->Hp->Prop,(∀ ys' H',N ys' H'->∃ m',m' < m/\W (i+1) m' ys' H') /\
    ∀ x H',J.yld i H x H'->g x (List.replicate k none++σ) H' λ σ2 H2=>(∃ vs:St,vs.length=k/\σ2=vs++σ)/\tt σ2 H2 λ b H3=>if b=true then te σ2 H3 λ y H4=>H4 D=some (.lst ys)/\ys.length < sizeLine/\N (ys++[y]) (upd H4 D (.lst (ys++[y]))) else N ys H3))
  (fin:∀ D C s' H' m,s'.heap.Ns C m->C ≠ X.env.locals->(∀ x a,X.env.cells.lookup x=some a->a ≠ C)->(H' C=none/\X.s₀.heap.objs.size<=C/\∀ p∈X.pn++pins,p.1 ≠ C)->(∀ h',Heap.SameBut C s'.heap h'->Inv X pins σ H' { s' with heap:=h' })->Q (.ref D) H'->RR (.ref D) C (.ok .next) s') :
  wpAny (model X.prog X.w) X.A (newList []) (λ acc s₃=>wpAny (model X.prog X.w) X.A (newFunctionEnv scope X.env.globals (m9 X.env.cells scope.names []) [] X.env.qual none .none (some X.env)) (λ cenv s₄=>
   codeAny (model X.prog X.w) X.A (.compStart (.ListComp elt [⟨tg,iter,ifs,0⟩] scope pos) 0 (.ref it) acc { cenv with scope:=relabel scope X.env }) (RR acc cenv.locals) s₄) E s₃) E s:=by
 refine wpAny_newObj_type (wpAny_newFunctionEnv c.cell (by intro y hy;simp at hy) (λ h₁ hns₁ hsb₁=>?_) c.kind);dsimp only at hns₁ hsb₁ ⊢;have I3:Inv X pins σ (upd H s.heap.objs.size (.lst [])) { s with heap:=s.heap.push { cls:=.type "list",data:=.seq ([]:List Value).toArray },toks:=s.toks }:=I.lnew (ys:=[]) (its:=[]) .nil (Nat.zero_le _);generalize hH2:s.heap.push { cls:=.type "list",dict:=none,data:=.seq ([]:List Value).toArray }=hp at hns₁ hsb₁ I3 ⊢;have hlt:∀ b o,s.heap.get? b=some o->hp.get? b=some o:=λ b o e=>by rw [←hH2];exact Heap.get?_push_of_some _ e
 have hnD:H s.heap.objs.size=none:=I.hok.fresh (NF _);have kp:∀ b o,hp.get? b=some o->h₁.get? b=some o:=λ b o e=>hsb₁.extBut b o (NQ (NB e)) (Nx _ e)
 have stk:∀ b∈fp,s.heap.get? b ≠ none:=λ b hb z=>by
  obtain⟨o,e,_⟩:=T.obj _ _ st b hb;rw [z] at e;cases e
 have flt:∀ b∈fp,b < s.heap.objs.size:=λ b hb=>by
  obtain⟨o,e,_⟩:=T.obj _ _ st b hb;exact NB e
 have fpD:∀ b∈fp,b ≠ s.heap.objs.size:=λ b hb=>NQ (flt b hb)
 have hf3:∀ b∈fp,pw X pins (upd H s.heap.objs.size (.lst [])) b:=λ b hb=>by
  obtain⟨a1,a2⟩:=hf b hb;exact⟨by rw [ag (fpD b hb)];exact a1,a2⟩
 have hnb:∀ b∈fp,X.base.get? b=none:=λ b hb=>by
  cases e:X.base.get? b with
  | none=>rfl
  | some o=>
   rcases (hf b hb).2.2.2.1 with z|z
   ·exact absurd z (I.ok.noex b o e)
   ·have:=NB (I.ok.bs b o e).1;exact absurd (NS this z) (Ou _)
 have hsz:s.heap.objs.size < hp.objs.size:=by rw [←hH2,Oa];exact OW _
 have IY:=AA (s₄:={ s with heap:=h₁,toks:=s.toks+([]:List (Str × Value)).length }) (fp:=fp) c hc I3 hf3 (λ b hb=>Qz (flt b hb) hsz) hnb hns₁ kp rfl rfl;obtain⟨W,⟨m0,w0⟩,turn⟩:=h s.heap.objs.size hnD
 have run:=xR (Y:=cCx X scope N' hp.objs.size { s with heap:=hp,toks:=s.toks } (upd H s.heap.objs.size (.lst [])) fp (X.pn++pins)) (tg:=tg) (elt:=elt) (iter:=iter) (ifs:=ifs) (scope:=scope) (pos:=pos) (it:=it) (D:=s.heap.objs.size) (k:=k) (σ:=σ) (Q:=Q)
  hc rfl (hg _ _ _ _ _) (ht _ _ _ _ _) (he _ _ _ _ _) T (λ H' hn b hb=>⟨hn b hb,NQ (Qz (flt b hb) hsz),λ z=>(IY.ok.exfs b hb) z,.inl hb,λ x a e=>(IY.ok.exf b hb).2 x a e,λ p hp=>by
   have hp':p∈X.pn++pins:=by simpa using hp
   exact(hf b hb).2.2.2.2.2 p hp'⟩) W turn m0
 have st₁:tn 0 h₁:=T.keep _ _ _ st λ b hb o e=>kp b o (hlt b o e);have go:=run { s with heap:=h₁,toks:=s.toks+([]:List (Str × Value)).length } ⟨0,[],_,IY,st₁,λ b hb=>(hf3 b hb).1,w0⟩
 have out:∀ r s',(r=Except.ok Flow.next/\∃ H',Inv (cCx X scope N' hp.objs.size { s with heap:=hp,toks:=s.toks } (upd H s.heap.objs.size (.lst [])) fp (X.pn++pins)) [] (List.replicate k none++σ) H' s'/\Q (.ref s.heap.objs.size) H')->RR (.ref s.heap.objs.size) hp.objs.size r s':=by
  rintro r s' ⟨rfl,H',J',q⟩;obtain⟨m,hn,_⟩:=J'.loc;have hC:hp.objs.size ≠ X.env.locals:=Ox (NS I.lt (PY hsz));refine fin _ _ s' H' m hn hC (λ x a e=>?_) ⟨J'.free,OI I.sz (PY hsz),λ p hp'=>NQ (Qz (NB (I.pin p hp').1) hsz)⟩ (λ h' hs'=>?_) q
  ·obtain⟨v,o,h1,_⟩:=I.cell x a e;exact NQ (Qz (NB h1) hsz)
  ·refine I.call' (ch:=fp) ?_ ?_ ?_ J'.bare λ b hb=>⟨(hf b hb).2.2.2.1,(hf b hb).2.1,(hf b hb).2.2.2.2.1,(hf b hb).2.2.2.2.2⟩
   ·exact J'.os
   ·have u1:Un (frs X.stack) fp H (upd H s.heap.objs.size (.lst [])) s.heap hp:=Un.laid hlt (NF _) hnD;exact(u1.trans J'.base).but hs' λ b o e=>NQ (Qz (NB e) hsz)
   ·exact J'.hok.but J'.free hs'
 exact codeAny_compStart_list (QM go out) (T.self _ 0 _ _ _ st₁ (QM go out))
theorem Dn{elt iter tg:Expr}{ifs:List Expr}{scope:Scope}{pos:Pos}{wi:TI}{g:TG}{tt:TT}{te:TE}{N':List Str}{k:Nat}
  (c:iV X scope N' k) (hc:X.calm=true) (hi:PI X tg iter wi)
  (hg:∀ C s₀ H₀ ex pn,PG (cCx X scope N' C s₀ H₀ ex pn) tg g) (ht:∀ C s₀ H₀ ex pn,PTs (cCx X scope N' C s₀ H₀ ex pn) ifs tt) (he:∀ C s₀ H₀ ex pn,PE (cCx X scope N' C s₀ H₀ ex pn) elt te)
  (hs:∀ x,foldedSetIterable iter X.env x=pure x:=by intro _;rfl):PE X (.ListComp elt [⟨tg,iter,ifs,0⟩] scope pos) (BU k wi g tt te):=by
 intro pins s σ H Q I h;rw [PySem.eval_ListComp];refine Rz (use:=none) rfl hs (gI (c.cells I)) c.kind c.names (thn (hi pins s σ H _ I h) λ v s1 h1=>thn h1 λ itv s2 h2=>?_);obtain⟨it,fp,tn,J,H2,rfl,I2,T,st2,f2,hW⟩:=h2;refine lC (RR:=λ acc C=>PySem.compPost (model X.prog X.w) X.A X.xe none (EP X pins σ Q) acc C) c hc I2 T st2 f2 hg ht he hW ?_;intro D C s' H' m hn _ _ _ hI q;exact⟨m,hn,λ h' hs'=>⟨.ref D,H',hI h' hs',rfl,q⟩⟩
def FX(i:Nat)(te:TE):TS:=λ D σ H=>te σ H λ x H1=>D.nx (σ.set i (some x)) H1
theorem CW{elt iter tg:Expr}{ifs:List Expr}{scope:Scope}{pos spos py:Pos}{wi:TI}{g:TG}{tt:TT}{te:TE}{N':List Str}{k i:Nat}{y:Str}
  (hN:X.N.Nodup) (hi':X.N[i]? = some y) (hy:Loc X.env.scope y)
  (c:iV X scope N' k) (hc:X.calm=true) (hi:PI X tg iter wi)
  (hg:∀ C s₀ H₀ ex pn,PG (cCx X scope N' C s₀ H₀ ex pn) tg g) (ht:∀ C s₀ H₀ ex pn,PTs (cCx X scope N' C s₀ H₀ ex pn) ifs tt) (he:∀ C s₀ H₀ ex pn,PE (cCx X scope N' C s₀ H₀ ex pn) elt te)
  (hsw:swapsWith (.ListComp elt [⟨tg,iter,ifs,0⟩] scope pos) (some (.Name y py)) spos.line X.env=pure true:=by rfl)
  (hs:∀ x,foldedSetIterable iter X.env x=pure x:=by intro _;rfl) (hf:X.fn y=true\/X.env.scope.names.lookup y=some .local:=by first|exact .inl rfl|exact .inr rfl|assumption) :
  PS X (.Assign [.Name y py] (.ListComp elt [⟨tg,iter,ifs,0⟩] scope pos) spos) (FX i (BU k wi g tt te)):=by
 intro pins s σ H D I h;rw [PySem.exec_Assign_Name_used _ _ _ _ hsw];refine My (RL (My ?_))
 show wpAny _ X.A (do let _ ←comprehension (.ListComp elt [⟨tg,iter,ifs,0⟩] scope pos) scope X.env _ (newList []) false (eval iter X.env) (some (assign (.Name y py) X.env))) _ _ s
 refine My (thn (Rz (use:=some (assign (.Name y py) X.env)) (Q:=λ _ s'=>SP X pins D .next s') rfl hs (gI (c.cells I)) c.kind c.names (thn (hi pins s σ H _ I h) λ v s1 h1=>thn h1 λ itv s2 h2=>?_)) λ _ s' hq=>NA (NA hq));obtain⟨it,fp,tn,J,H2,rfl,I2,T,st2,f2,hW⟩:=h2;refine lC (Q:=λ x H1=>D.nx (σ.set i (some x)) H1) (RR:=λ acc C=>PySem.compPost (model X.prog X.w) X.A X.xe (some (assign (.Name y py) X.env)) (λ _ s'=>SP X pins D .next s') acc C) c hc I2 T st2 f2 hg ht he hW ?_;intro D' C s' H' m hn hCl hCc hCo hI q
 show wpAny _ X.A (assign (.Name y py) X.env (.ref D')) _ _ s'
 have I':Inv X pins σ H' s':=hI s'.heap (Heap.SameBut.refl _ _);refine wpAny_assign_Name (nL I' hN hi' hy (show bT (.ref D') (.ref D') from rfl) (λ s'' I'' ⟨a,sb,ha⟩=>?_) hf)
 have hCa:C ≠ a:=by
  rcases ha with rfl|ha
  ·exact hCl
  ·exact λ z=>hCc _ _ ha z.symm
 refine⟨m,hn.sameBut sb hCa,λ h' hs'=>⟨_,H',?_,q⟩⟩;exact I''.turned (t':=s''.toks) (λ b o hb e=>(hs'.2 b hb).trans e) hCo.1 hCl (.inr hCo.2.1) hCc hCo.2.2
end
section
variable {M:Model}{A:Around}{E:Value->Shared->Prop}{s:Shared}
end
section
variable {X:Cx}
set_option genInjectivity false in
def Hw(K:W.Frag)(C:Addr)(z:Option Value)(bmB:List Value)(newId:String):Bool:=match K.lookup C with
 | some ⟨.type "type",_,.cls dat,slt⟩=>(match dat.mro,slt.toList with
  | .ref C'::up,[_,_,_,_,some (.builtin n),_]=>C' == C && n == newId && !dat.hasDel && W.tailIn K bmB up && W.nsOkIn K dat.ns && W.nsIn K dat.ns "__init__" == some z
  | _,_=>false)
 | _=>false
end
structure Nv(K:W.Frag)(x qual:Str)(st:Stmt)(f:Addr)(fd:FuncData):Prop where
 ex:∃ (oc:Value) (od:Option Addr) (dV kV doc pm:Value) (an:Option Addr) (cdv ct:Value) (osl:Array (Option Value)),
  fd=W.fnOf x qual (ai st) (ah st) (aa st) dV kV doc pm an cdv ct/\K.lookup f=some ⟨oc,od,.func fd,osl⟩/\W.codeIn K cdv qual=true
 kp:W.keepIn K (.ref f)=true
section
variable {P:Program}{w:World}{K:PySem.W.Frag}{mg:Str->Option Value}{base:Heap}
end
open PySem.W
section
variable {prog:Program}{w:World}{A:Around}{E:Value->Shared->Prop}{s:Shared}{K:PySem.W.Frag}{x C:Addr}{ox:Obj}{od:Option Obj}{name:Str}
end
structure yA(X:Cx)(pins:List (Addr × Obj))(e:Addr):Prop where
 s0:X.s₀.heap.get? e=none
 loc:e ≠ X.env.locals
 cel:∀ x c,X.env.cells.lookup x=some c->c ≠ e
 fs:e ∉ X.fs
 pin:∀ p∈X.pn++pins,p.1 ≠ e
section
variable {X:Cx}
end
def uT(K:Frag)(C fI:Addr)(bmB:List Value)(newId:String):Bool:=Hw K C (some (.ref fI)) bmB newId
section
variable {prog:Program}{w:World}{A:Around}{R:Result->Shared->Prop}{h:Heap}{g:Array GenState}{d:Drawn}{t:Nat}{os:OsState}{K:Frag}
variable {nm q:Str}{C N fI:Addr}{bs bm bmB:List Value}{hdct:Bool}{sn:List Str}{sub:List Value}{ab:Bool}{col:Option Bool}{dd:Option Addr}{k0 k1 k2 k3 k5:Option Value}{B Bn newId nid initId inN:String}{bmN:List Value}
end
def rQ:List Value->List Value
 | .ref _::r=>rQ r
 | l=>l
def Dz(l:List Value):Bool:=rQ l == [.type "ValueError",.type "Exception",.type "BaseException",.type "object"]
def p3(K:Frag)(C:Addr):Bool:=(clsIn K C).any λ cd=>Dz cd.mro && cd.mro.contains (.type "object")
structure JC(K:Frag)(C:Addr):Prop where
 ov:p3 K C=true
 sa:findIn K (.ref C) "__setattr__"=some (some (.builtin "object.__setattr__"))
 hd:hasDictIn K C=true
section
variable {prog:Program}{w:World}{A:Around}{E:Value->Shared->Prop}{K:Frag}{x C:Addr}{s:Shared}{name:Str}{v:Value}
end
section
variable {prog:Program}{w:World}{A:Around}{E:Value->Shared->Prop}{s:Shared}{K:PySem.W.Frag}{x C dx:Addr}{ox:Obj}{od:Option Obj}{name:Str}{mA:Str->Option Value}{u:Value}
end
section
variable {prog:Program}{w:World}{A:Around}{E:Value->Shared->Prop}{h:Heap}{g:Array GenState}{d:Drawn}{t:Nat}{os:OsState}{e a0:Addr}{dct:Option Addr}
variable {nm q:Str}{C N:Addr}{bs bm bmB:List Value}{hdct:Bool}{sn:List Str}{sub:List Value}{ab:Bool}{col:Option Bool}{dd:Option Addr}{k0 k1 k2 k3 k5:Option Value}{B newId nid initId:String}
end
structure MO(K:W.Frag)(C fI:Addr):Prop where
 ex:uT K C fI [.type "ValueError",.type "Exception",.type "BaseException",.type "object"] "ValueError.__new__"=true
 fn:typeIn K (.ref fI)=some (.type "function")
 st:JC K C
section
variable {X:Cx}{pins:List (Addr × Obj)}{σ:St}{H:Hp}{s:Shared}
theorem Inv.adopt{a:Addr}{o:HO}(I:Inv X pins σ H s)(N:yA X pins a)(hn:H a=none)(new:cu X.prog X.w (upd H a o) s.heap a o):Inv X pins σ (upd H a o) s:=by
 have ne:∀ {b:Addr} {u:HO},H b=some u->b ≠ a:=λ q z=>by rw [z,hn] at q;cases q
 refine⟨I.ok,I.os,I.bare,⟨I.base.keep,I.base.slot,λ b u q n hx=>?_,I.base.there,λ b xs q=>?_,λ b u v q=>?_,λ b ps q=>?_⟩,I.loc,I.cell,?_,λ x c q=>?_,λ p hp=>?_,λ b u q=>?_,I.len⟩
 ·rw [ag (λ z=>by rw [z,N.s0] at q;cases q)];exact I.base.free b u q n hx
 ·have z:=I.base.tups b xs q;rw [ag (ne z)];exact z
 ·have z:=I.base.frzs b u v q;rw [ag (ne z)];exact z
 ·obtain⟨m,z⟩:=I.base.tbls b ps q;exact⟨m,by rw [ag (ne z)];exact z⟩
 ·rw [ag (NM N.loc)];exact I.free
 ·rw [ag (N.cel x c q)];exact I.freeC x c q
 ·obtain⟨a1,b1,c1,d1,f1⟩:=I.pin p hp;exact⟨a1,by rw [ag (N.pin p hp)];exact b1,c1,d1,f1⟩
 ·by_cases hb:b=a
  ·subst hb;rw [au] at q;cases q;exact new
  ·rw [ag hb] at q;exact(I.hok b u q).stay (λ _ _ _ r=>r) (λ c r=>by rw [ag (ne r)];exact r) λ c xs r=>by rw [ag (ne r)];exact r
theorem Inv.newAt{a:Addr}(I:Inv X pins σ H s)(ha:s.heap.objs.size<=a):yA X pins a where
 s0:=Ry (OI I.sz ha)
 loc:=Ox (NS I.lt ha)
 cel:=λ x c e z=>by
  obtain⟨v,o,q,_⟩:=I.cell x c e;exact absurd (NS (NB q) (by rw [z];exact ha)) (Ou _)
 fs:=I.nofs ha
 pin:=λ p hp z=>absurd (NS (NB (I.pin p hp).1) (by rw [z];exact ha)) (Ou _)
structure LU(K:W.Frag)(B:Addr):Prop where
 sp:specialIn K (.ref B) "__getattribute__"=some (some (.builtin "type.__getattribute__"))
 rd:readsIn K B (.type "type")=true
 fc:findCls K (.ref B) (.type "type") "__init__"=some (.val (.builtin "ValueError.__init__"))
end
section
variable {X:Cx}{e o value:Expr}{ta tv:TE}{f:Str}{pos pos':Pos}
end
def del(H:Hp)(e:Addr):Hp:=λ b=>if b=e then none else H b
section
variable {X:Cx}
end
theorem Fe{a:Option V}{v:V}{σ:St}{H:Hp}{Q:St->Hp->Prop}:gh 0 v (a::σ) H Q=Q (some v::σ) H:=rfl
theorem Fd{a0:Option V}{a:Option V}{v:V}{σ:St}{H:Hp}{Q:St->Hp->Prop}:gh 1 v (a0::a::σ) H Q=Q (a0::some v::σ) H:=rfl
theorem Fc{a0 a1:Option V}{a:Option V}{v:V}{σ:St}{H:Hp}{Q:St->Hp->Prop}:gh 2 v (a0::a1::a::σ) H Q=Q (a0::a1::some v::σ) H:=rfl
theorem Fb{a0 a1 a2:Option V}{a:Option V}{v:V}{σ:St}{H:Hp}{Q:St->Hp->Prop}:gh 3 v (a0::a1::a2::a::σ) H Q=Q (a0::a1::a2::some v::σ) H:=rfl
theorem E9{a0 a1 a2 a3:Option V}{a:Option V}{v:V}{σ:St}{H:Hp}{Q:St->Hp->Prop}:gh 4 v (a0::a1::a2::a3::a::σ) H Q=Q (a0::a1::a2::a3::some v::σ) H:=rfl
theorem E8{a0 a1 a2 a3 a4:Option V}{a:Option V}{v:V}{σ:St}{H:Hp}{Q:St->Hp->Prop}:gh 5 v (a0::a1::a2::a3::a4::a::σ) H Q=Q (a0::a1::a2::a3::a4::some v::σ) H:=rfl
theorem E7{a0 a1 a2 a3 a4 a5:Option V}{a:Option V}{v:V}{σ:St}{H:Hp}{Q:St->Hp->Prop}:gh 6 v (a0::a1::a2::a3::a4::a5::a::σ) H Q=Q (a0::a1::a2::a3::a4::a5::some v::σ) H:=rfl
theorem E6{a0 a1 a2 a3 a4 a5 a6:Option V}{a:Option V}{v:V}{σ:St}{H:Hp}{Q:St->Hp->Prop}:gh 7 v (a0::a1::a2::a3::a4::a5::a6::a::σ) H Q=Q (a0::a1::a2::a3::a4::a5::a6::some v::σ) H:=rfl
theorem E5{a0 a1 a2 a3 a4 a5 a6 a7:Option V}{a:Option V}{v:V}{σ:St}{H:Hp}{Q:St->Hp->Prop}:gh 8 v (a0::a1::a2::a3::a4::a5::a6::a7::a::σ) H Q=Q (a0::a1::a2::a3::a4::a5::a6::a7::some v::σ) H:=rfl
theorem E4{a0 a1 a2 a3 a4 a5 a6 a7 a8:Option V}{a:Option V}{v:V}{σ:St}{H:Hp}{Q:St->Hp->Prop}:gh 9 v (a0::a1::a2::a3::a4::a5::a6::a7::a8::a::σ) H Q=Q (a0::a1::a2::a3::a4::a5::a6::a7::a8::some v::σ) H:=rfl
def aF{α:Type}:Option α->(α->Prop)->Prop
 | some x,k=>k x
 | none,_=>False
theorem jl{α:Type}(x:α)(k:α->Prop):aF (some x) k=k x:=rfl
theorem aj{α:Type}{o:Option α}{k:α->Prop}(h:aF o k):∃ x,o=some x/\k x:=by
 cases o with
 | none=>exact h.elim
 | some x=>exact⟨x,rfl,h⟩
def JL:HO->Option (List V)
 | .lst xs=>some xs
 | .tup xs=>some xs
 | .frz _ (.lst xs)=>some xs
 | _=>none
def Kf:HO->Option (List V)
 | .lst xs=>some xs
 | _=>none
def J3:HO->Option (List V)
 | .tup xs=>some xs
 | _=>none
def dq(H:Hp)(p:Addr):Option (List V):=(H p).bind JL
def aw(H:Hp)(p:Addr):Option (List V):=(H p).bind Kf
def iR(H:Hp)(p:Addr):Option (List V):=(H p).bind J3
theorem yV(xs:List V):JL (.lst xs)=some xs:=rfl
theorem yU(xs:List V):JL (.tup xs)=some xs:=rfl
theorem zW(xs:List V):Kf (.lst xs)=some xs:=rfl
theorem yP(xs:List V):J3 (.tup xs)=some xs:=rfl
theorem tU{α β:Type}(x:α)(f:α->Option β):(some x).bind f=f x:=rfl
abbrev Ext(H H':Hp):Prop:=(∀ a,(H a).isSome=true->H' a=H a)/\∀ (K:PySem.W.Frag) a xs,SqL K H a xs->SqL K H' a xs
def FN(r:R2)(x:V)(Q:VK):VK:=λ y H=>r x y H Q
theorem BE(r:R2)(x y:V)(H:Hp)(Q:VK):(FN r x Q y H)=(r x y H Q):=rfl
def kOp(r:R2)(tb:TE)(σ:St)(Q:VK):VK:=λ x H=>tb σ H (FN r x Q)
theorem Lx(r:R2)(tb:TE)(σ:St)(Q:VK)(x:V)(H:Hp):(kOp r tb σ Q x H)=(tb σ H (FN r x Q)):=rfl
theorem Lb(r:R2)(ta tb:TE)(σ:St)(H:Hp)(Q:VK):(tOp r ta tb σ H Q)=(ta σ H (kOp r tb σ Q)):=rfl
theorem Nb(v:V)(σ:St)(H:Hp)(Q:VK):(tC v σ H Q)=(Q v H):=rfl
def kUn(r:V->Hp->VK->Prop)(Q:VK):VK:=λ x H=>r x H Q
theorem Lr(r:V->Hp->VK->Prop)(Q:VK)(x:V)(H:Hp):(kUn r Q x H)=(r x H Q):=rfl
theorem K8(r:V->Hp->VK->Prop)(ta:TE)(σ:St)(H:Hp)(Q:VK):(tUn r ta σ H Q)=(ta σ H (kUn r Q)):=rfl
def yp:R2:=λ x y H Q=>y=.non/\Q (.bl (!decide (x=.non))) H
theorem qt(H:Hp)(Q:VK):yp (.non) .non H Q=Q (.bl false) H:=propext ⟨λ h=>h.2,λ h=>⟨rfl,h⟩⟩
theorem qr(i:Addr)(H:Hp)(Q:VK):yp (.ref i) .non H Q=Q (.bl true) H:=propext ⟨λ h=>h.2,λ h=>⟨rfl,h⟩⟩
def GC(Q:Bool->Hp->Prop):VK:=λ x H=>∃ k,x=.bl k/\Q k H
def Mr(Q:Bool->Hp->Prop):Bool->Hp->Prop:=λ c H=>Q (!c) H
theorem IF(Q:Bool->Hp->Prop)(c:Bool)(H:Hp):(Mr Q c H)=(Q (!c) H):=rfl
theorem HU(t:TT)(σ:St)(H:Hp)(Q:Bool->Hp->Prop):(L3 t σ H Q)=(t σ H (Mr Q)):=rfl
def MD(u:TT)(σ:St)(Q:Bool->Hp->Prop):Bool->Hp->Prop:=λ c H=>if c=true then u σ H Q else Q false H
theorem Jj(u:TT)(σ:St)(Q:Bool->Hp->Prop)(c:Bool)(H:Hp):(MD u σ Q c H)=(if c=true then u σ H Q else Q false H):=rfl
theorem Ia(t u:TT)(σ:St)(H:Hp)(Q:Bool->Hp->Prop):(L7 t u σ H Q)=(t σ H (MD u σ Q)):=rfl
def kOr(u:TT)(σ:St)(Q:Bool->Hp->Prop):Bool->Hp->Prop:=λ c H=>if c=true then Q true H else u σ H Q
theorem Lw(u:TT)(σ:St)(Q:Bool->Hp->Prop)(c:Bool)(H:Hp):(kOr u σ Q c H)=(if c=true then Q true H else u σ H Q):=rfl
theorem La(t u:TT)(σ:St)(H:Hp)(Q:Bool->Hp->Prop):(tOr t u σ H Q)=(t σ H (kOr u σ Q)):=rfl
def LK(tb:TE)(σ:St)(Q:VK):VK:=λ x H=>∃ c,x=.bl c/\if c=true then tb σ H Q else Q (.bl false) H
def Nk(tb:TE)(σ:St)(Q:VK):VK:=λ x H=>∃ c,x=.bl c/\if c=true then Q (.bl true) H else tb σ H Q
def LG(Q:VK):VK:=λ x H=>∃ c,x=.bl c/\Q (.bl (!c)) H
def Mt(ta tb:TE)(σ:St)(Q:VK):Bool->Hp->Prop:=λ c H=>if c=true then ta σ H Q else tb σ H Q
theorem IP(ta tb:TE)(σ:St)(Q:VK)(c:Bool)(H:Hp):(Mt ta tb σ Q c H)=(if c=true then ta σ H Q else tb σ H Q):=rfl
theorem Le(t:TT)(ta tb:TE)(σ:St)(H:Hp)(Q:VK):(tIf t ta tb σ H Q)=(t σ H (Mt ta tb σ Q)):=rfl
def JX(r':R2)(y:V)(Q:VK):VK:=λ w H=>r' y w H Q
theorem Ja(r':R2)(y w:V)(Q:VK)(H:Hp):(JX r' y Q w H)=(r' y w H Q):=rfl
def Kz(r':R2)(tc:TE)(σ:St)(y:V)(Q:VK):VK:=λ z H=>∃ k,z=.bl k/\(if k=true then tc σ H (JX r' y Q) else Q (.bl false) H)
def Mx(r r':R2)(tc:TE)(σ:St)(x:V)(Q:VK):VK:=λ y H=>r x y H (Kz r' tc σ y Q)
def Nl(r r':R2)(tb tc:TE)(σ:St)(Q:VK):VK:=λ x H=>tb σ H (Mx r r' tc σ x Q)
theorem HV(σ:St)(H:Hp)(Q:List V->Hp->Prop):(FH σ H Q)=(Q [] H):=rfl
def uQ(x:V)(Q:List V->Hp->Prop):List V->Hp->Prop:=λ xs H=>Q (x::xs) H
theorem zU(x:V)(Q:List V->Hp->Prop)(xs:List V)(H:Hp):(uQ x Q xs H)=(Q (x::xs) H):=rfl
def GI(tr:TA)(σ:St)(Q:List V->Hp->Prop):VK:=λ x H=>tr σ H (uQ x Q)
theorem Ez(tr:TA)(σ:St)(Q:List V->Hp->Prop)(x:V)(H:Hp):(GI tr σ Q x H)=(tr σ H (uQ x Q)):=rfl
theorem DJ(ta:TE)(tr:TA)(σ:St)(H:Hp)(Q:List V->Hp->Prop):(yo ta tr σ H Q)=(ta σ H (GI tr σ Q)):=rfl
def ud(sp:Sp)(dvs:List V)(E:XK)(Q:VK):List V->Hp->Prop:=λ vs H=>sp (vs++dvs) H Q E
theorem xi(v0:V)(sp:Sp)(dvs:List V)(E:XK)(Q:VK)(H:Hp):ud sp dvs E Q [v0] H=sp (v0::dvs) H Q E:=rfl
theorem xh(v0 v1:V)(sp:Sp)(dvs:List V)(E:XK)(Q:VK)(H:Hp):ud sp dvs E Q [v0,v1] H=sp (v0::v1::dvs) H Q E:=rfl
theorem xg(v0 v1 v2:V)(sp:Sp)(dvs:List V)(E:XK)(Q:VK)(H:Hp):ud sp dvs E Q [v0,v1,v2] H=sp (v0::v1::v2::dvs) H Q E:=rfl
theorem xf(v0 v1 v2 v3:V)(sp:Sp)(dvs:List V)(E:XK)(Q:VK)(H:Hp):ud sp dvs E Q [v0,v1,v2,v3] H=sp (v0::v1::v2::v3::dvs) H Q E:=rfl
theorem DL(sp:Sp)(dvs:List V)(E:XK)(t:TA)(σ:St)(H:Hp)(Q:VK):(Ge sp dvs E t σ H Q)=(t σ H (ud sp dvs E Q)):=rfl
def kCB(r:List V->Hp->VK->Prop)(Q:VK):List V->Hp->Prop:=λ vs H=>r vs H Q
theorem LC(r:List V->Hp->VK->Prop)(Q:VK)(vs:List V)(H:Hp):(kCB r Q vs H)=(r vs H Q):=rfl
theorem Lf(r:List V->Hp->VK->Prop)(t:TA)(σ:St)(H:Hp)(Q:VK):(tCB r t σ H Q)=(t σ H (kCB r Q)):=rfl
theorem DG(nx:St->Hp->Prop)(rt:VK)(bk ct:St->Hp->Prop)(σ:St)(H:Hp):(Ga ⟨nx,rt,bk,ct⟩ σ H)=(nx σ H):=rfl
theorem HR(t u:TS)(nx:St->Hp->Prop)(rt:VK)(bk ct:St->Hp->Prop)(σ:St)(H:Hp):(LZ t u ⟨nx,rt,bk,ct⟩ σ H)=(t ⟨u ⟨nx,rt,bk,ct⟩,rt,bk,ct⟩ σ H):=rfl
theorem HS(te:TE)(nx:St->Hp->Prop)(rt:VK)(bk ct:St->Hp->Prop)(σ:St)(H:Hp):(L0 te ⟨nx,rt,bk,ct⟩ σ H)=(te σ H rt):=rfl
def GH(nx:St->Hp->Prop)(σ:St):VK:=λ x H=>nx σ H
theorem Ey(nx:St->Hp->Prop)(σ:St)(x:V)(H:Hp):(GH nx σ x H)=(nx σ H):=rfl
theorem DH(te:TE)(nx:St->Hp->Prop)(rt:VK)(bk ct:St->Hp->Prop)(σ:St)(H:Hp):(Gb te ⟨nx,rt,bk,ct⟩ σ H)=(te σ H (GH nx σ)):=rfl
def Ms(t u:TS)(D:qK)(σ:St):Bool->Hp->Prop:=λ b H=>if b=true then t D σ H else u D σ H
theorem IM(t u:TS)(D:qK)(σ:St)(b:Bool)(H:Hp):(Ms t u D σ b H)=(if b=true then t D σ H else u D σ H):=rfl
theorem uK(c:TT)(t u:TS)(D:qK)(σ:St)(H:Hp):(JK c t u D σ H)=(c σ H (Ms t u D σ)):=rfl
def MB(g:TG)(σ:St)(nx:St->Hp->Prop):VK:=λ x H=>g x σ H nx
theorem Jh(g:TG)(σ:St)(nx:St->Hp->Prop)(x:V)(H:Hp):(MB g σ nx x H)=(g x σ H nx):=rfl
theorem HZ(te:TE)(g:TG)(nx:St->Hp->Prop)(rt:VK)(bk ct:St->Hp->Prop)(σ:St)(H:Hp):(J4 te g ⟨nx,rt,bk,ct⟩ σ H)=(te σ H (MB g σ nx)):=rfl
def kGs(u:TGs)(r:List V)(Q:St->Hp->Prop):St->Hp->Prop:=λ σ' H'=>u r σ' H' Q
theorem LA(u:TGs)(r:List V)(Q:St->Hp->Prop)(σ:St)(H:Hp):(kGs u r Q σ H)=(u r σ H Q):=rfl
section
variable {X:Cx}
theorem OpR.mono{f:Value->Value->Sem Value}{r r':R2}(h:OpR X f r)(m:∀ x y H Q,r' x y H Q->r x y H Q):OpR X f r':=λ pins s σ H x y v u Q I rx ry hq=>h pins s σ H x y v u Q I rx ry (m _ _ _ _ hq)
theorem cP.mono{f:Value}{r r':List V->Hp->VK->Prop}(h:cP X f r)(m:∀ xs H Q,r' xs H Q->r xs H Q):cP X f r':=λ pins s σ H xs us Q I rx hq=>h pins s σ H xs us Q I rx (m _ _ _ hq)
theorem IxR.mono{r r':R2}(h:IxR X r)(m:∀ x y H Q,r' x y H Q->r x y H Q):IxR X r':=λ a b pins s σ H x y v u Q I rx ry hq=>h a b pins s σ H x y v u Q I rx ry (m _ _ _ _ hq)
theorem SlR.mono{r r':V->Option Int->Option Int->Hp->VK->Prop}(h:SlR X r)(m:∀ x lo hi H Q,r' x lo hi H Q->r x lo hi H Q):SlR X r':=λ pins s σ H x v vl vu lo hi sl Q I rx a b c hq=>h pins s σ H x v vl vu lo hi sl Q I rx a b c (m _ _ _ _ _ hq)
theorem PG.mono{tg:Expr}{g g':TG}(h:PG X tg g)(m:∀ v σ H Q,g' v σ H Q->g v σ H Q):PG X tg g':=λ pins s σ H v u Q I r hq=>h pins s σ H v u Q I r (m _ _ _ _ hq)
theorem gx{K:W.Frag}{H:Hp}{p:Addr}{ys:List V}(h:dq H p=some ys):SqL K H p ys\/SqT K H p ys:=by
 unfold dq at h
 cases e:H p with
 | none=>rw [e] at h;cases h
 | some o=>
  rw [e] at h;have h':JL o=some ys:=h
  cases o with
  | lst xs=>cases h';exact .inl (SqL.of e)
  | tup xs=>cases h';exact .inr (SqT.of e)
  | frz ob u=>
   cases u with
   | lst xs=>cases h';exact .inl (.inl (.inr ⟨ob,e⟩))
   | _=>cases h'
  | _=>cases h'
theorem bD{H:Hp}{p:Addr}{ys:List V}(h:aw H p=some ys):H p=some (.lst ys):=by
 unfold aw at h
 cases e:H p with
 | none=>rw [e] at h;cases h
 | some o=>
  rw [e] at h;have h':Kf o=some ys:=h
  cases o with
  | lst xs=>cases h';rfl
  | _=>cases h'
theorem qQ{H:Hp}{p:Addr}{ys:List V}(h:iR H p=some ys):H p=some (.tup ys):=by
 unfold iR at h
 cases e:H p with
 | none=>rw [e] at h;cases h
 | some o=>
  rw [e] at h;have h':J3 o=some ys:=h
  cases o with
  | tup xs=>cases h';rfl
  | _=>cases h'
def Ko(H:Hp)(Q:VK):List V->Prop:=λ ys=>Q (.int ys.length) H
theorem II(H:Hp)(Q:VK)(ys:List V):Ko H Q ys=Q (.int ys.length) H:=rfl
def J9(xs:List V)(H:Hp)(Q:VK):Prop:=match xs with
 | [.ref p]=>aF (dq H p) (Ko H Q)
 | [.str z]=>z.length<=sizeLine/\Q (.int z.length) H
 | _=>False
theorem Ij(p:Addr)(H:Hp)(Q:VK):J9 [.ref p] H Q=aF (dq H p) (Ko H Q):=rfl
theorem aG:cP X (.builtin "len") J9:=by
 refine(dZ.or oY).mono λ xs H Q h=>?_;unfold J9 at h;split at h
 ·rename_i p;obtain⟨ys,e,q⟩:=aj h;exact .inl ⟨p,ys,rfl,gx e,q⟩
 ·rename_i z;exact .inr ⟨z,rfl,h.1,h.2⟩
 ·exact h.elim
def Kp(H:Hp)(Q:VK):V->Prop:=λ v=>Q v H
theorem IK(H:Hp)(Q:VK)(v:V):Kp H Q v=Q v H:=rfl
def kIx(i:Int)(H:Hp)(Q:VK):List V->Prop:=λ ys=>aF (atI ys i) (Kp H Q)
theorem Lz(i:Int)(H:Hp)(Q:VK)(ys:List V):kIx i H Q ys=aF (atI ys i) (Kp H Q):=rfl
def qIx:R2:=λ x y H Q=>match x,y with
 | .ref p,.int i=>aF (dq H p) (kIx i H Q)
 | _,_=>False
theorem Lh(p:Addr)(i:Int)(H:Hp)(Q:VK):qIx (.ref p) (.int i) H Q=aF (dq H p) (kIx i H Q):=rfl
theorem fN:IxR X qIx:=by
 refine(pY.or Ju).mono λ x y H Q h=>?_;unfold qIx at h;split at h
 ·rename_i p i;obtain⟨ys,e,q⟩:=aj h;obtain⟨v,e2,q2⟩:=aj q
  rcases gx (K:=X.K) e with z|z
  ·exact .inl ⟨p,ys,i,v,rfl,rfl,z,e2,q2⟩
  ·exact .inr ⟨p,ys,i,v,rfl,rfl,z,e2,q2⟩
 ·exact h.elim
theorem LQ{α:Type}(a:α)(xs:List α):atI (a::xs) 0=some a:=ei (j:=0) rfl
theorem LP{α:Type}(a b:α)(xs:List α):atI (a::b::xs) 1=some b:=ei (j:=1) rfl
def LH(H:Hp)(Q:VK):List V->Prop:=λ ys=>∀ l,H l=none->Q (.ref l) (upd H l (.lst ys))
def Gm(xs:List V)(H:Hp)(Q:VK):Prop:=match xs with
 | [.ref p]=>aF (dq H p) (LH H Q)
 | _=>False
theorem tL:cP X (.type "list") Gm:=by
 refine oX.mono λ xs H Q h=>?_;unfold Gm at h;split at h
 ·rename_i p;obtain⟨ys,e,q⟩:=aj h;exact⟨p,ys,rfl,gx e,q⟩
 ·exact h.elim
def Ce(p:Addr)(H:Hp)(Q:VK):HO->Prop:=λ o=>match o with
 | .lst ys=>∀ l,H l=none->Q (.ref l) (upd H l (.tup ys))
 | .tup _=>Q (.ref p) H
 | _=>False
def Bq(xs:List V)(H:Hp)(Q:VK):Prop:=match xs with
 | [.ref p]=>aF (H p) (Ce p H Q)
 | _=>False
theorem qB:cP X (.type "tuple") Bq:=by
 refine m4.mono λ xs H Q h=>?_;unfold Bq at h;split at h
 ·rename_i p;obtain⟨o,e,q⟩:=aj h;unfold Ce at q;split at q
  ·rename_i ys;exact⟨p,ys,rfl,.inl ⟨SqL.of e,q⟩⟩
  ·rename_i ys;exact⟨p,ys,rfl,.inr ⟨SqT.of e,q⟩⟩
  ·exact q.elim
 ·exact h.elim
def J7(xs:List V)(H:Hp)(Q:VK):Prop:=match xs with
 | [.int i,.int j]=>Q (.int (if i < j then j else i)) H
 | _=>False
theorem Ih(i j:Int)(H:Hp)(Q:VK):J7 [.int i,.int j] H Q=Q (.int (if i < j then j else i)) H:=rfl
theorem gz(hc:X.calm=true):cP X (.builtin "max") J7:=by
 refine(xV hc).mono λ xs H Q h=>?_;unfold J7 at h;split at h
 ·rename_i i j;exact⟨i,j,rfl,h⟩
 ·exact h.elim
def J6(xs:List V)(H:Hp)(Q:VK):Prop:=match xs with
 | [.int i,.int j]=>Q (.int (if j < i then j else i)) H
 | _=>False
theorem Ig(i j:Int)(H:Hp)(Q:VK):J6 [.int i,.int j] H Q=Q (.int (if j < i then j else i)) H:=rfl
theorem oy(hc:X.calm=true):cP X (.builtin "min") J6:=by
 refine(xT hc).mono λ xs H Q h=>?_;unfold J6 at h;split at h
 ·rename_i i j;exact⟨i,j,rfl,h⟩
 ·exact h.elim
def tyO:HO->Option String
 | .lst _=>some "list"
 | .tup _=>some "tuple"
 | .frz _ (.lst _)=>some "list"
 | .dK _=>some "dict"
 | .dT _=>some "dict"
 | _=>none
theorem CJ(xs:List V):tyO (.lst xs)=some "list":=rfl
theorem CI(xs:List V):tyO (.tup xs)=some "tuple":=rfl
theorem GV(xs:List (Key × V)):tyO (.dK xs)=some "dict":=rfl
def tyN(H:Hp):V->Option String
 | .non=>some "NoneType"
 | .bl _=>some "bool"
 | .int _=>some "int"
 | .str _=>some "str"
 | .ref p=>(H p).bind tyO
 | _=>none
theorem CM(H:Hp):tyN H .non=some "NoneType":=rfl
theorem GX(H:Hp)(b:Bool):tyN H (.bl b)=some "bool":=rfl
theorem CN(H:Hp)(i:Int):tyN H (.int i)=some "int":=rfl
theorem CK(H:Hp)(x:Str):tyN H (.str x)=some "str":=rfl
theorem CL(H:Hp)(p:Addr):tyN H (.ref p)=(H p).bind tyO:=rfl
theorem GW{K:W.Frag}{H:Hp}{x:V}{t:String}(h:tyN H x=some t):qJ K H x (.type t):=by
 cases x with
 | non=>cases h;exact .non
 | bl b=>cases h;exact .bl b
 | int i=>cases h;exact .int i
 | str x=>cases h;exact .str x
 | ref p=>
  have h':(H p).bind tyO=some t:=h
  cases e:H p with
  | none=>rw [e] at h';cases h'
  | some o=>
   rw [e] at h';have h2:tyO o=some t:=h'
   cases o with
   | lst xs=>cases h2;exact .lst e
   | tup xs=>cases h2;exact .tup e
   | dK xs=>cases h2;exact .dK e
   | dT xs=>cases h2;exact .dT e
   | frz ob u=>
    cases u with
    | lst xs=>cases h2;exact .frz e
    | _=>cases h2
   | _=>cases h2
 | _=>cases h
def nC:List String:=["NoneType", "bool", "int", "str", "list", "tuple", "dict"]
def MG(t n:String):Bool:=t == n || (t == "bool" && n == "int")
theorem Ar(K:W.Frag):∀ t∈nC,∀ n∈nC,W.kitOne K (.type t) (.type n)=some (MG t n):=by
 intro t ht n hn;unfold nC at ht hn;simp only [mem_cons,not_mem_nil,or_false] at ht hn
 rcases ht with rfl|rfl|rfl|rfl|rfl|rfl|rfl<;>rcases hn with rfl|rfl|rfl|rfl|rfl|rfl|rfl<;>exact xD K _ _ _ (by decide +kernel)
def jX(n:String)(H:Hp)(Q:VK):String->Prop:=λ t=>t∈nC/\Q (.bl (MG t n)) H
def yi(xs:List V)(H:Hp)(Q:VK):Prop:=match xs with
 | [x,.ty n]=>n∈nC/\aF (tyN H x) (jX n H Q)
 | _=>False
theorem dM:cP X (.builtin "isinstance") yi:=by
 refine AU.mono λ xs H Q h=>?_;unfold yi at h;split at h
 ·rename_i x n;obtain⟨hn,h⟩:=h;obtain⟨t,e,ht,q⟩:=aj h;exact⟨x,n,_,_,rfl,GW e,Ar _ t ht n hn,q⟩
 ·exact h.elim
theorem sU(x:V)(H:Hp)(Q:VK):yi [x,.ty "int"] H Q=aF (tyN H x) (jX "int" H Q):=by
 unfold yi;exact propext ⟨λ h=>h.2,λ h=>⟨by decide,h⟩⟩
theorem qv(x:V)(H:Hp)(Q:VK):yi [x,.ty "bool"] H Q=aF (tyN H x) (jX "bool" H Q):=by
 unfold yi;exact propext ⟨λ h=>h.2,λ h=>⟨by decide,h⟩⟩
theorem oU(x:V)(H:Hp)(Q:VK):yi [x,.ty "tuple"] H Q=aF (tyN H x) (jX "tuple" H Q):=by
 unfold yi;exact propext ⟨λ h=>h.2,λ h=>⟨by decide,h⟩⟩
theorem qu(x:V)(H:Hp)(Q:VK):yi [x,.ty "list"] H Q=aF (tyN H x) (jX "list" H Q):=by
 unfold yi;exact propext ⟨λ h=>h.2,λ h=>⟨by decide,h⟩⟩
theorem xb(H:Hp)(Q:VK):jX "int" H Q "NoneType"=Q (.bl false) H:=propext ⟨λ h=>h.2,λ h=>⟨by decide,h⟩⟩
theorem xa(H:Hp)(Q:VK):jX "tuple" H Q "NoneType"=Q (.bl false) H:=propext ⟨λ h=>h.2,λ h=>⟨by decide,h⟩⟩
theorem w6(H:Hp)(Q:VK):jX "bool" H Q "bool"=Q (.bl true) H:=propext ⟨λ h=>h.2,λ h=>⟨by decide,h⟩⟩
theorem w5(H:Hp)(Q:VK):jX "int" H Q "bool"=Q (.bl true) H:=propext ⟨λ h=>h.2,λ h=>⟨by decide,h⟩⟩
theorem w4(H:Hp)(Q:VK):jX "tuple" H Q "bool"=Q (.bl false) H:=propext ⟨λ h=>h.2,λ h=>⟨by decide,h⟩⟩
theorem wX(H:Hp)(Q:VK):jX "bool" H Q "int"=Q (.bl false) H:=propext ⟨λ h=>h.2,λ h=>⟨by decide,h⟩⟩
theorem wW(H:Hp)(Q:VK):jX "int" H Q "int"=Q (.bl true) H:=propext ⟨λ h=>h.2,λ h=>⟨by decide,h⟩⟩
theorem wV(H:Hp)(Q:VK):jX "tuple" H Q "int"=Q (.bl false) H:=propext ⟨λ h=>h.2,λ h=>⟨by decide,h⟩⟩
theorem wO(H:Hp)(Q:VK):jX "int" H Q "str"=Q (.bl false) H:=propext ⟨λ h=>h.2,λ h=>⟨by decide,h⟩⟩
theorem wN(H:Hp)(Q:VK):jX "tuple" H Q "str"=Q (.bl false) H:=propext ⟨λ h=>h.2,λ h=>⟨by decide,h⟩⟩
theorem wU(H:Hp)(Q:VK):jX "int" H Q "list"=Q (.bl false) H:=propext ⟨λ h=>h.2,λ h=>⟨by decide,h⟩⟩
theorem wR(H:Hp)(Q:VK):jX "list" H Q "list"=Q (.bl true) H:=propext ⟨λ h=>h.2,λ h=>⟨by decide,h⟩⟩
theorem wQ(H:Hp)(Q:VK):jX "tuple" H Q "list"=Q (.bl false) H:=propext ⟨λ h=>h.2,λ h=>⟨by decide,h⟩⟩
theorem wM(H:Hp)(Q:VK):jX "int" H Q "tuple"=Q (.bl false) H:=propext ⟨λ h=>h.2,λ h=>⟨by decide,h⟩⟩
theorem wL(H:Hp)(Q:VK):jX "tuple" H Q "tuple"=Q (.bl true) H:=propext ⟨λ h=>h.2,λ h=>⟨by decide,h⟩⟩
theorem wZ(H:Hp)(Q:VK):jX "int" H Q "dict"=Q (.bl false) H:=propext ⟨λ h=>h.2,λ h=>⟨by decide,h⟩⟩
theorem wY(H:Hp)(Q:VK):jX "tuple" H Q "dict"=Q (.bl false) H:=propext ⟨λ h=>h.2,λ h=>⟨by decide,h⟩⟩
def KG(r:V->List V->Hp->VK->Prop)(x:V)(Q:VK):List V->Hp->Prop:=λ xs H=>r x xs H Q
theorem Je(r:V->List V->Hp->VK->Prop)(x:V)(Q:VK)(xs:List V)(H:Hp):KG r x Q xs H=r x xs H Q:=rfl
def kBM(K:W.Frag)(T:String)(r:V->List V->Hp->VK->Prop)(t:TA)(σ:St)(Q:VK):VK:=λ x H=>tyV K T x H/\t σ H (KG r x Q)
theorem LD(K:W.Frag)(T:String)(r:V->List V->Hp->VK->Prop)(t:TA)(σ:St)(Q:VK)(x:V)(H:Hp):kBM K T r t σ Q x H=(tyV K T x H/\t σ H (KG r x Q)):=rfl
theorem Lg(K:W.Frag)(T:String)(r:V->List V->Hp->VK->Prop)(to:TE)(t:TA)(σ:St)(H:Hp)(Q:VK):tBM K T r to t σ H Q=to σ H (kBM K T r t σ Q):=rfl
def Mz(K:W.Frag)(T:String)(r:V->List V->Hp->VK->Prop)(Q:VK):VK:=λ x H=>tyV K T x H/\r x [] H Q
theorem Jd(K:W.Frag)(T:String)(r:V->List V->Hp->VK->Prop)(Q:VK)(x:V)(H:Hp):Mz K T r Q x H=(tyV K T x H/\r x [] H Q):=rfl
theorem HY(K:W.Frag)(T:String)(r:V->List V->Hp->VK->Prop)(to:TE)(σ:St)(H:Hp)(Q:VK):L6 K T r to σ H Q=to σ H (Mz K T r Q):=rfl
theorem yM(K:W.Frag)(p:Addr)(H:Hp)(h:(aw H p).isSome=true):tyV K "list" (.ref p) H=True:=by
 cases e:aw H p with
 | none=>rw [e] at h;cases h
 | some ys=>exact eq_true (.inl ⟨rfl,ys,SqL.of (bD e)⟩)
def MC(l:Addr)(y:V)(H:Hp)(Q:VK):List V->Prop:=λ xs=>xs.length < sizeLine/\Q .non (upd H l (.lst (xs++[y])))
theorem Ji(l:Addr)(y:V)(H:Hp)(Q:VK)(xs:List V):MC l y H Q xs=(xs.length < sizeLine/\Q .non (upd H l (.lst (xs++[y])))):=rfl
theorem wJ(l:Addr)(y:V)(H:Hp)(Q:VK):va (.ref l) [y] H Q=aF (aw H l) (MC l y H Q):=by
 refine propext ⟨λ h=>?_,λ h=>?_⟩
 ·obtain⟨_,xs,_,e1,e2,e3,a,b⟩:=h;cases e1;cases e2;have e:aw H l=some xs:=by unfold aw;rw [e3];rfl
  rw [e];exact⟨a,b⟩
 ·obtain⟨xs,e,a,b⟩:=aj h;exact⟨l,xs,y,rfl,rfl,bD e,a,b⟩
def Mq(l:Addr)(H:Hp)(Q:VK):List V->Prop:=λ xs=>Q .non (upd H l (.lst xs.reverse))
theorem IA(l:Addr)(H:Hp)(Q:VK)(xs:List V):Mq l H Q xs=Q .non (upd H l (.lst xs.reverse)):=rfl
theorem sT(l:Addr)(H:Hp)(Q:VK):rq (.ref l) [] H Q=aF (aw H l) (Mq l H Q):=by
 refine propext ⟨λ h=>?_,λ h=>?_⟩
 ·obtain⟨_,xs,e1,_,e3,b⟩:=h;cases e1;have e:aw H l=some xs:=by unfold aw;rw [e3];rfl
  rw [e];exact b
 ·obtain⟨xs,e,b⟩:=aj h;exact⟨l,xs,rfl,rfl,bD e,b⟩
def LI(xs:List V)(H:Hp)(Q:VK):List V->Prop:=λ ys=>xs.length+ys.length<=sizeLine/\∀ p,H p=none->Q (.ref p) (upd H p (.lst (xs++ys)))
def LJ(b:Addr)(H:Hp)(Q:VK):List V->Prop:=λ xs=>aF (aw H b) (LI xs H Q)
theorem Ib(l b:Addr)(H:Hp)(Q:VK):Mc (.ref l) (.ref b) H Q=aF (aw H l) (LJ b H Q):=by
 refine propext ⟨λ h=>?_,λ h=>?_⟩
 ·obtain⟨l',b',xs,zs,e1,e2,e3,e4,hz,hq⟩:=h;cases e1;cases e2;have e:aw H l=some xs:=by unfold aw;rw [e3];rfl
  have e':aw H b=some zs:=by unfold aw;rw [e4];rfl
  rw [e]
  show aF (aw H b) _
  rw [e'];exact⟨hz,hq⟩
 ·obtain⟨xs,e,q⟩:=aj h;obtain⟨zs,e',a,q⟩:=aj q;exact⟨l,b,xs,zs,rfl,rfl,bD e,bD e',a,q⟩
def Ci(p:Addr)(xs:List V)(v:V)(H:Hp)(Q:Hp->Prop):Nat->Prop:=λ j=>Q (upd H p (.lst (xs.set j v)))
theorem Ek(p:Addr)(xs:List V)(v:V)(H:Hp)(Q:Hp->Prop)(j:Nat):Ci p xs v H Q j=Q (upd H p (.lst (xs.set j v))):=rfl
def Mp(p:Addr)(i:Int)(v:V)(H:Hp)(Q:Hp->Prop):List V->Prop:=λ xs=>aF (ixN xs.length i) (Ci p xs v H Q)
theorem Iw(p:Addr)(i:Int)(v:V)(H:Hp)(Q:Hp->Prop)(xs:List V):Mp p i v H Q xs=aF (ixN xs.length i) (Ci p xs v H Q):=rfl
theorem DQ(p:Addr)(i:Int)(v:V)(H:Hp)(Q:Hp->Prop):Gk (.ref p) (.int i) v H Q=aF (aw H p) (Mp p i v H Q):=by
 refine propext ⟨λ h=>?_,λ h=>?_⟩
 ·obtain⟨_,xs,_,j,e1,e2,e3,e4,b⟩:=h;cases e1;cases e2;have e:aw H p=some xs:=by unfold aw;rw [e3];rfl
  rw [e]
  show aF (ixN xs.length i) _
  rw [e4];exact b
 ·obtain⟨xs,e,q⟩:=aj h;obtain⟨j,e4,q⟩:=aj q;exact⟨p,xs,i,j,rfl,rfl,bD e,e4,q⟩
def uP(t:Be)(o v:V)(σ:St)(Q:St->Hp->Prop):VK:=λ i H=>t o i v H λ H3=>Q σ H3
theorem zQ(t:Be)(o v:V)(σ:St)(Q:St->Hp->Prop)(i:V)(H:Hp):uP t o v σ Q i H=t o i v H (Q σ):=rfl
def BF(ti:TE)(t:Be)(v:V)(σ:St)(Q:St->Hp->Prop):VK:=λ o H=>ti σ H (uP t o v σ Q)
theorem zR(ti:TE)(t:Be)(v:V)(σ:St)(Q:St->Hp->Prop)(o:V)(H:Hp):BF ti t v σ Q o H=ti σ H (uP t o v σ Q):=rfl
theorem Jn(to ti:TE)(t:Be)(v:V)(σ:St)(H:Hp)(Q:St->Hp->Prop):ML to ti t v σ H Q=to σ H (BF ti t v σ Q):=rfl
def kGT(n:Nat)(t:TGs)(σ:St)(H:Hp)(Q:St->Hp->Prop):List V->Prop:=λ xs=>xs.length=n/\t xs σ H Q
theorem LB(n:Nat)(t:TGs)(σ:St)(H:Hp)(Q:St->Hp->Prop)(xs:List V):kGT n t σ H Q xs=(xs.length=n/\t xs σ H Q):=rfl
def qGT(n:Nat)(t:TGs):TG:=λ v σ H Q=>match v with
 | .ref a=>aF (iR H a) (kGT n t σ H Q)
 | _=>False
theorem Li(n:Nat)(t:TGs)(a:Addr)(σ:St)(H:Hp)(Q:St->Hp->Prop):qGT n t (.ref a) σ H Q=aF (iR H a) (kGT n t σ H Q):=rfl
theorem di{K:W.Frag}{n:Nat}{t:TGs}{v:V}{σ:St}{H:Hp}{Q:St->Hp->Prop}(h:qGT n t v σ H Q):MK K n t v σ H Q:=by
 unfold qGT at h;split at h
 ·rename_i a;obtain⟨xs,e,hl,q⟩:=aj h;exact⟨a,xs,rfl,SqT.of (qQ e),hl,q⟩
 ·exact h.elim
theorem rD:OpR X (compareOp .IsNot) yp:=Dt
def pC(tb:TS)(D:qK):St->Hp->Prop:=λ σ H=>tb D σ H
theorem aI(tb:TS)(D:qK)(σ:St)(H:Hp):pC tb D σ H=tb D σ H:=rfl
def BO(g:TG)(tb:TS)(D:qK)(σ:St)(J:It)(H1:Hp):Prop:=∃ W:Nat->Nat->St->Hp->Prop,(∃ m,W 0 m σ H1)/\∀ i m σ H,W i m σ H →
 (J.stop i H/\D.nx σ H)\/(J.go i H/\∃ N:St->Hp->Prop,(∀ σ' H',N σ' H'->∃ m',m' < m/\W (i+1) m' σ' H')/\∀ x H',J.yld i H x H'->g x σ H' λ σ2 H2=>tb { D with nx:=N,ct:=N,bk:=D.nx } σ2 H2)
theorem HW(wi:TI)(g:TG)(tb:TS)(D:qK)(σ:St)(H:Hp):L4 wi g tb D σ H=wi σ H (BO g tb D σ):=rfl
def kR1(R:It->Hp->Prop):List V->Hp->Prop:=λ vs H=>∃ j:Int,vs=[.int j]/\-(2 ^ 62)<=j/\j < 2 ^ 62/\R (Itr 0 j.toNat) H
theorem Ls(R:It->Hp->Prop)(j:Int)(H:Hp):kR1 R [.int j] H=(-(2 ^ 62)<=j/\j < 2 ^ 62/\R (Itr 0 j.toNat) H):=propext ⟨λ ⟨_,e,q⟩=>by cases e;exact q,λ q=>⟨j,rfl,q⟩⟩
theorem EG(ta:TA)(σ:St)(H:Hp)(R:It->Hp->Prop):GK ta σ H R=ta σ H (kR1 R):=rfl
def yt(K:W.Frag)(a:Addr)(H:Hp)(R:It->Hp->Prop):HO->Prop:=λ o=>match o with
 | .lst _=>R (Itl K a) H
 | .frz _ (.lst _)=>R (Itl K a) H
 | .tup _=>R (Itt K a) H
 | _=>False
theorem xc(K:W.Frag)(a:Addr)(H:Hp)(R:It->Hp->Prop)(xs:List V):yt K a H R (.lst xs)=R (Itl K a) H:=rfl
def JT(K:W.Frag)(R:It->Hp->Prop):VK:=λ x H=>match x with
 | .ref a=>aF (H a) (yt K a H R)
 | _=>False
theorem IQ(K:W.Frag)(R:It->Hp->Prop)(a:Addr)(H:Hp):JT K R (.ref a) H=aF (H a) (yt K a H R):=rfl
def KJ(K:W.Frag)(tl:TE):TI:=λ σ H R=>tl σ H (JT K R)
theorem Jl(K:W.Frag)(tl:TE)(σ:St)(H:Hp)(R:It->Hp->Prop):KJ K tl σ H R=tl σ H (JT K R):=rfl
theorem Bu{tg l:Expr}{tl:TE}(hl:PE X l tl):PI X tg l (KJ X.K tl):=by
 intro pins s σ H R I h;refine thn (hl pins s σ H _ I h) λ v s1 ⟨x,H1,I1,r1,q1⟩=>?_;unfold JT at q1;split at q1
 ·rename_i a;cases r1;obtain⟨o,e,q⟩:=aj q1
  have fp:∀ b∈[s1.heap.objs.size],pw X pins H1 b:=λ b hb=>by
   have e:b=s1.heap.objs.size:=by simpa using hb
   subst e;exact I1.fpOk (NF _) (I1.hok.fresh (NF _))
  have lst:∀ xs,SqL X.K H1 a xs->R (Itl X.K a) H1->wpAny (model X.prog X.w) X.A (pyIter (.ref a)) (PIE X pins σ tg R) X.xe s1:=λ xs hq q=>by
   obtain⟨its,rv,p,hz⟩:=I1.list hq;refine Pf p.isList ?_;exact⟨s1.heap.objs.size,[s1.heap.objs.size],_,_,H1,rfl,I1.kept (t':=s1.toks) λ b o e=>Nx _ e,vX a _,⟨_,NG _ rfl,rfl,rfl⟩,fp,q⟩
  unfold yt at q;split at q
  ·exact lst _ (SqL.of e) q
  ·exact lst _ (.inl (.inr ⟨_,e⟩)) q
  ·obtain⟨its,rv,p,hz⟩:=I1.tuple (SqT.of e);refine wpAny_pyIter_tuple (show s1.heap.IsTuple a its.toArray from p) ?_;exact⟨s1.heap.objs.size,[s1.heap.objs.size],_,_,H1,rfl,I1.kept (t':=s1.toks) λ b o e=>Nx _ e,sC a _,⟨_,NG _ rfl,rfl,rfl⟩,fp,q⟩
  ·exact q.elim
 ·exact q1.elim
theorem iZ{lo:Int}{n:Nat}{g:TG}{tb:TS}{nx:St->Hp->Prop}{rt:VK}{bk ct:St->Hp->Prop}{σ:St}{H:Hp}(Pv:Nat->St->Hp->Prop)(h0:Pv 0 σ H)
  (hs:∀ i σ H,i < n->Pv i σ H->g (.int (lo+i)) σ H (pC tb ⟨Pv (i+1),rt,nx,Pv (i+1)⟩)) (hd:∀ σ H,Pv n σ H->nx σ H):BO g tb ⟨nx,rt,bk,ct⟩ σ (Itr lo n) H:=xO Pv h0 hs hd
theorem cR{K:W.Frag}{a:Addr}{xs:List V}{g:TG}{tb:TS}{nx:St->Hp->Prop}{rt:VK}{bk ct:St->Hp->Prop}{σ:St}{H:Hp}(Pv:Nat->St->Hp->Prop)(h0:Pv 0 σ H)(hl:∀ i σ H,i<=xs.length->Pv i σ H->H a=some (.lst xs))
  (hs:∀ i x σ H,xs[i]? = some x->Pv i σ H->g x σ H (pC tb ⟨Pv (i+1),rt,nx,Pv (i+1)⟩)) (hd:∀ σ H,Pv xs.length σ H->nx σ H):BO g tb ⟨nx,rt,bk,ct⟩ σ (Itl K a) H:=AI (xs:=xs) Pv h0 (λ i σ H hi p=>SqL.of (hl i σ H hi p)) hs hd
def kWh(tb:TS)(nx:St->Hp->Prop)(rt:VK)(Pv:Nat->St->Hp->Prop)(m:Nat)(σ:St):Bool->Hp->Prop:=λ b H=>if b=true then tb ⟨λ σ' H'=>∃ m',m' < m/\Pv m' σ' H',rt,nx,λ σ' H'=>∃ m',m' < m/\Pv m' σ' H'⟩ σ H else nx σ H
theorem Lq(tb:TS)(nx:St->Hp->Prop)(rt:VK)(Pv:Nat->St->Hp->Prop)(m:Nat)(σ:St)(b:Bool)(H:Hp):kWh tb nx rt Pv m σ b H=(if b=true then tb ⟨λ σ' H'=>∃ m',m' < m/\Pv m' σ' H',rt,nx,λ σ' H'=>∃ m',m' < m/\Pv m' σ' H'⟩ σ H else nx σ H):=rfl
theorem Cy{c:TT}{tb:TS}{nx:St->Hp->Prop}{rt:VK}{bk ct:St->Hp->Prop}{σ:St}{H:Hp}(Pv:Nat->St->Hp->Prop)(m0:Nat)(h0:Pv m0 σ H)
  (mono:∀ σ H Q Q',(∀ b H1,Q b H1->Q' b H1)->c σ H Q->c σ H Q')
  (hs:∀ m σ H,Pv m σ H->c σ H (kWh tb nx rt Pv m σ)):ug c tb ⟨nx,rt,bk,ct⟩ σ H:=by
 refine⟨Pv,⟨m0,h0⟩,λ m σ H p=>mono σ H _ _ (λ b H1 q=>?_) (hs m σ H p)⟩;unfold kWh at q
 cases b with
 | true=>exact⟨_,λ σ' H' z=>z,q⟩
 | false=>exact q
end
def kE4(H:Hp)(Q:VK):Bool->Prop:=λ b=>Q (.bl b) H
theorem Gy(H:Hp)(Q:VK)(b:Bool):kE4 H Q b=Q (.bl b) H:=rfl
def kC3(D:Addr)(ys:List V)(N:List V->Hp->Prop):VK:=λ y H=>H D=some (.lst ys)/\ys.length < sizeLine/\N (ys++[y]) (upd H D (.lst (ys++[y])))
def kC2(te:TE)(σ2:St)(D:Addr)(ys:List V)(N:List V->Hp->Prop):Bool->Hp->Prop:=λ b H=>if b=true then te σ2 H (kC3 D ys N) else N ys H
def kC1(k:Nat)(tt:TT)(te:TE)(σ:St)(D:Addr)(ys:List V)(N:List V->Hp->Prop):St->Hp->Prop:=λ σ2 H=>(∃ vs:St,vs.length=k/\σ2=vs++σ)/\tt σ2 H (kC2 te σ2 D ys N)
theorem HF(σ:St)(H:Hp)(Q:Bool->Hp->Prop):LY σ H Q=Q true H:=rfl
def yv(k:Nat)(g:TG)(tt:TT)(te:TE)(σ:St)(Q:VK):It->Hp->Prop:=λ J H1=>∀ D,H1 D=none->∃ W:Nat->Nat->List V->Hp->Prop,(∃ m,W 0 m [] (upd H1 D (.lst [])))/\∀ i m ys H,W i m ys H →
 (J.stop i H/\Q (.ref D) H)\/(J.go i H/\∃ N:List V->Hp->Prop,(∀ ys' H',N ys' H'->∃ m',m' < m/\W (i+1) m' ys' H') /\
  ∀ x H',J.yld i H x H'->g x (List.replicate k none++σ) H' (kC1 k tt te σ D ys N))
theorem DK(k:Nat)(wi:TI)(g:TG)(tt:TT)(te:TE)(σ:St)(H:Hp)(Q:VK):BU k wi g tt te σ H Q=wi σ H (yv k g tt te σ Q):=rfl
def GD(i:Nat)(σ:St)(nx:St->Hp->Prop):VK:=λ x H=>gh i x σ H nx
theorem Eh(i:Nat)(σ:St)(nx:St->Hp->Prop)(x:V)(H:Hp):GD i σ nx x H=gh i x σ H nx:=rfl
theorem DE(i:Nat)(te:TE)(nx:St->Hp->Prop)(rt:VK)(bk ct:St->Hp->Prop)(σ:St)(H:Hp):FX i te ⟨nx,rt,bk,ct⟩ σ H=te σ H (GD i σ nx):=rfl
section
variable {k:Nat}{g:TG}{tt:TT}{te:TE}{σ:St}{Q:VK}{H:Hp}{K:PySem.W.Frag}
end
def bA{α:Type}:List (Option α)->Option (List α)
 | []=>some []
 | o::r=>o.bind λ x=>(bA r).map λ xs=>x::xs
def yj(f:V->Option PyData):HO->Option PyData
 | .lst xs=>(bA (xs.map f)).map .list
 | .tup xs=>(bA (xs.map f)).map .tuple
 | _=>none
def eI(H:Hp)(f:V->Option PyData):V->Option PyData
 | .non=>some .none
 | .bl b=>some (.bool b)
 | .int i=>some (.int i)
 | .str z=>if PyData.strOk z=true then some (.str z) else none
 | .ref p=>(H p).bind (yj f)
 | _=>none
def gM(H:Hp):Nat->V->Option PyData
 | 0,_=>none
 | n+1,x=>eI H (gM H n) x
def noD:V->Option PyData:=λ _=>none
theorem Jo(H:Hp)(x:V):gM H 6 x=eI H (eI H (eI H (eI H (eI H (eI H noD))))) x:=rfl
theorem sX(H:Hp)(n:Nat)(z:Str):gM H (n+1) (.str z)=if PyData.strOk z=true then some (.str z) else none:=rfl
theorem kZ(H:Hp)(n:Nat)(p:Addr):gM H (n+1) (.ref p)=(H p).bind (yj (gM H n)):=rfl
theorem sY(H:Hp)(f:V->Option PyData)(i:Int):eI H f (.int i)=some (.int i):=rfl
theorem fG(H:Hp)(f:V->Option PyData)(p:Addr):eI H f (.ref p)=(H p).bind (yj f):=rfl
theorem gY(f:V->Option PyData)(xs:List V):yj f (.lst xs)=(bA (xs.map f)).map .list:=rfl
theorem fF(f:V->Option PyData)(xs:List V):yj f (.tup xs)=(bA (xs.map f)).map .tuple:=rfl
theorem mZ{α:Type}:bA ([]:List (Option α))=some []:=rfl
theorem fW{α:Type}(x:α)(r:List (Option α)):bA (some x::r)=(bA r).map λ xs=>x::xs:=rfl
theorem fw(H:Hp)(f:V->Option PyData):∀ ns:List Int,bA ((ns.map V.int).map (eI H f))=some (ns.map PyData.int)
 | []=>rfl
 | i::r=>by
  show (bA ((r.map V.int).map (eI H f))).map _=_
  rw [fw H f r];rfl
theorem mC{K:W.Frag}{H:Hp}{n:Nat}(ih:∀ x d,gM H n x=some d->lM K H x d/\d.canLay0=true/\d.depth<=n):∀ (xs:List V) (ds:List PyData),bA (xs.map (gM H n))=some ds->iS K H xs ds/\PyData.canLayAll0 ds=true/\PyData.depthAll ds<=n
 | [],ds,h=>by cases h;exact⟨.nil,rfl,OL _⟩
 | x::xs,ds,h=>by
  have h':(gM H n x).bind (λ d=>(bA (xs.map (gM H n))).map λ ds=>d::ds)=some ds:=h
  cases e:gM H n x with
  | none=>rw [e] at h';cases h'
  | some d=>
   rw [e] at h';have h2:(bA (xs.map (gM H n))).map (λ ds=>d::ds)=some ds:=h'
   cases e2:bA (xs.map (gM H n)) with
   | none=>rw [e2] at h2;cases h2
   | some es=>
    rw [e2] at h2;cases h2;obtain⟨a,b,c⟩:=ih x d e;obtain⟨a',b',c'⟩:=mC ih xs es e2;exact⟨.cons a a',by simp [PyData.canLayAll0,b,b'],by simp only [PyData.depthAll];omega⟩
theorem i6{K:W.Frag}{H:Hp}:∀ (n:Nat) (x:V) (d:PyData),gM H n x=some d->lM K H x d/\d.canLay0=true/\d.depth<=n
 | 0,x,d,h=>by cases h
 | n+1,x,d,h=>by
  cases x with
  | non=>cases h;exact⟨.non,rfl,OL _⟩
  | bl b=>cases h;exact⟨.bl b,rfl,OL _⟩
  | int i=>cases h;exact⟨.int i,rfl,OL _⟩
  | str z=>
   rw [sX] at h;split at h
   ·rename_i hz;cases h;exact⟨.str z,by simpa [PyData.canLay0] using hz,OL _⟩
   ·cases h
  | ref p=>
   rw [kZ] at h
   cases e:H p with
   | none=>rw [e] at h;cases h
   | some o=>
    rw [e] at h;have h':yj (gM H n) o=some d:=h
    cases o with
    | lst xs=>
     rw [gY] at h'
     cases e2:bA (xs.map (gM H n)) with
     | none=>rw [e2] at h';cases h'
     | some ds=>
      rw [e2] at h';cases h';obtain⟨a,b,c⟩:=mC (K:=K) (i6 n) xs ds e2;exact⟨.lst (SqL.of e) a,by simpa [PyData.canLay0] using b,by simp only [PyData.depth];omega⟩
    | tup xs=>
     rw [fF] at h'
     cases e2:bA (xs.map (gM H n)) with
     | none=>rw [e2] at h';cases h'
     | some ds=>
      rw [e2] at h';cases h';obtain⟨a,b,c⟩:=mC (K:=K) (i6 n) xs ds e2;exact⟨.tup (SqT.of e) a,by simpa [PyData.canLay0] using b,by simp only [PyData.depth];omega⟩
    | _=>cases h'
  | _=>cases h
theorem eT{K:W.Frag}{H:Hp}{n:Nat}{x:V}{d:PyData}(hn:n<=64)(h:gM H n x=some d):lM K H x d/\SeqAt.shaped d=true:=by
 obtain⟨a,b,c⟩:=i6 (K:=K) n x d h;refine⟨a,?_⟩;unfold SeqAt.shaped;rw [b,decide_eq_true (show d.depth<=64 by omega)];rfl
def JU(neg:Bool)(H:Hp)(Q:VK)(d:PyData):PyData->Prop:=λ e=>Q (.bl (if neg=true then !PyData.eqv d e else PyData.eqv d e)) H
theorem zS(H:Hp)(Q:VK)(d e:PyData):JU true H Q d e=Q (.bl (!PyData.eqv d e)) H:=rfl
theorem zT(H:Hp)(Q:VK)(d e:PyData):JU false H Q d e=Q (.bl (PyData.eqv d e)) H:=rfl
def Kt(neg:Bool)(y:V)(H:Hp)(Q:VK):PyData->Prop:=λ d=>aF (gM H 6 y) (JU neg H Q d)
theorem IU(neg:Bool)(y:V)(H:Hp)(Q:VK)(d:PyData):Kt neg y H Q d=aF (gM H 6 y) (JU neg H Q d):=rfl
def qEq(neg:Bool):R2:=λ x y H Q=>if FI x y=true then Q (.bl (if neg=true then !decide (x=y) else decide (x=y))) H else aF (gM H 6 x) (Kt neg y H Q)
theorem sV(neg:Bool)(p:Addr)(x:V)(H:Hp)(Q:VK):qEq neg x (.ref p) H Q=aF (gM H 6 x) (Kt neg (.ref p) H Q):=by
 show (if FI x (.ref p)=true then _ else _)=_
 rw [NY (by cases x<;>exact NO)]
theorem mY(i:Int)(j:Int)(H:Hp)(Q:VK):qEq false (V.int i) (V.int j) H Q=Q (.bl (decide (i=j))) H:=by
 have e:decide (((V.int i):V)=(V.int j))=decide (i=j):=by simp
 show Q (.bl (if false=true then !decide ((V.int i)=(V.int j)) else decide ((V.int i)=(V.int j)))) H=_
 rw [e];rfl
theorem mW(i:Int)(j:Int)(H:Hp)(Q:VK):qEq true (V.int i) (V.int j) H Q=Q (.bl (!decide (i=j))) H:=by
 have e:decide (((V.int i):V)=(V.int j))=decide (i=j):=by simp
 show Q (.bl (if true=true then !decide ((V.int i)=(V.int j)) else decide ((V.int i)=(V.int j)))) H=_
 rw [e];rfl
theorem mX(i:Str)(j:Str)(H:Hp)(Q:VK):qEq false (V.str i) (V.str j) H Q=Q (.bl (decide (i=j))) H:=by
 have e:decide (((V.str i):V)=(V.str j))=decide (i=j):=by simp
 show Q (.bl (if false=true then !decide ((V.str i)=(V.str j)) else decide ((V.str i)=(V.str j)))) H=_
 rw [e];rfl
section
variable {X:Cx}
theorem dF(hu:X.A.units+64 < cLine):OpR X (compareOp .Eq) (qEq false):=by
 refine(K2.or (HC hu)).mono λ x y H Q h=>?_;unfold qEq at h;split at h
 ·rename_i hs;exact .inl ⟨hs,h⟩
 obtain⟨d,e1,h⟩:=aj h;obtain⟨e,e2,h⟩:=aj h;obtain⟨a,b⟩:=eT (K:=X.K) (by decide) e1;obtain⟨a',b'⟩:=eT (K:=X.K) (by decide) e2;exact .inr ⟨d,e,a,a',b,b',h⟩
theorem kF(hu:X.A.units+64 < cLine):OpR X (compareOp .NotEq) (qEq true):=by
 refine(KZ.or (HA hu)).mono λ x y H Q h=>?_;unfold qEq at h;split at h
 ·rename_i hs;exact .inl ⟨hs,h⟩
 obtain⟨d,e1,h⟩:=aj h;obtain⟨e,e2,h⟩:=aj h;obtain⟨a,b⟩:=eT (K:=X.K) (by decide) e1;obtain⟨a',b'⟩:=eT (K:=X.K) (by decide) e2;exact .inr ⟨d,e,a,a',b,b',h⟩
end
theorem Fg(i j:Int):PyData.eqv (.int i) (.int j)=decide (i=j):=Bool.beq_eq_decide_eq i j
theorem eG(xs ys:List PyData):PyData.eqv (.tuple xs) (.tuple ys)=PyData.eqvAll xs ys:=by simp only [PyData.eqv]
theorem AM(xs ys:List PyData):PyData.eqv (.list xs) (.list ys)=PyData.eqvAll xs ys:=by simp only [PyData.eqv]
theorem dD:PyData.eqvAll [] []=true:=by simp only [PyData.eqvAll]
theorem bV(x y:PyData)(xs ys:List PyData):PyData.eqvAll (x::xs) (y::ys)=(PyData.eqv x y && PyData.eqvAll xs ys):=by simp only [PyData.eqvAll]
theorem rP(x:PyData)(xs:List PyData):PyData.eqvAll (x::xs) []=false:=by simp only [PyData.eqvAll]
theorem AN(x:PyData)(xs:List PyData):PyData.eqvAll [] (x::xs)=false:=by simp only [PyData.eqvAll]
theorem dP:∀ ns ms:List Int,PyData.eqvAll (ns.map PyData.int) (ms.map PyData.int)=decide (ns=ms)
 | [],[]=>by rw [map_nil,dD];rfl
 | [],_::_=>by rw [map_nil,OP,AN];rfl
 | _::_,[]=>by rw [map_nil,OP,rP];rfl
 | i::r,j::t=>by
  rw [OP,OP,bV,Fg,dP r t]
  by_cases h:i=j<;>by_cases h2:r=t<;>simp [h,h2]
theorem Fv(i j:Int):KP i j=(0 < j/\j < 1073741824):=rfl
theorem JD(i j:Int)(h:-18446744073709551616 < j)(h':j < 18446744073709551616):lN i j=True:=eq_true (.inr ⟨by omega,by omega⟩)
theorem Fu(j:Int):KO 10 j=(0<=j/\j<=1000000):=propext ⟨λ h=>⟨h.1,h.2.1⟩,λ h=>⟨h.1,h.2,by decide⟩⟩
theorem Gz(n:Nat)(h:n<=1000):(n<=sizeLine)=True:=eq_true (PY (nN h))
theorem LF(n:Nat)(h:n<=1000):(n < sizeLine)=True:=eq_true (nN h)
theorem Ext.of{H H':Hp}(h:∀ a,(H a).isSome=true->H' a=H a):Ext H H':=⟨h,λ K a xs q=>by
 have s:nq H H':=λ b o e=>(h b (by rw [e];rfl)).trans e;exact s.seq q⟩
theorem Ext.same{H H':Hp}(h:Ext H H'):nq H H':=λ b o e=>(h.1 b (by rw [e];rfl)).trans e
theorem nq.ext{H H':Hp}(h:nq H H'):Ext H H':=Ext.of λ a q=>by
 cases e:H a with
 | none=>rw [e] at q;cases q
 | some o=>exact h a o e
theorem Ext.refl(H:Hp):Ext H H:=(nq.refl H).ext
theorem Ext.trans{H H1 H2:Hp}(a:Ext H H1)(b:Ext H1 H2):Ext H H2:=(a.same.trans b.same).ext
theorem Ext.new{H:Hp}{p:Addr}{o:HO}(h:H p=none):Ext H (upd H p o):=(yW h).ext
theorem Ext.put{H H1:Hp}{p:Addr}{o:HO}(a:Ext H H1)(h:H p=none):Ext H (upd H1 p o):=nq.ext λ b u e=>by
 rw [ag (cF e h)];exact a.same b u e
theorem Ext.free{H H1:Hp}{p:Addr}(a:Ext H H1)(h:H1 p=none):H p=none:=a.same.free h
theorem Ext.at{H H1:Hp}{p:Addr}{o:HO}(a:Ext H H1)(h:H p=some o):H1 p=some o:=a.same _ _ h
theorem vm{xs:List V}{i:Int}{k:V->Prop}(h0:0<=i)(h1:i < xs.length)(h:∀ v∈xs,k v):aF (atI xs i) k:=by
 obtain⟨v,e,m⟩:=BL xs i h0 h1;rw [e];exact h v m
theorem Nn(CX:CXT)(P:Program)(w:World)(K:W.Frag)(mg:Str->Option Value)(base:Heap)(N:List Str)(qual:Str)(scope:Scope)(f:Addr)(cd:Value)(A:Around)(outer:List Env)(s:Shared)(H:Hp)(E:XK):(BP CX P w K mg base N qual scope f cd A outer s H E).K=K:=rfl
theorem gH:∀ {a b:List Char},a.map Char.toNat=b.map Char.toNat->a=b
 | [],[],_=>rfl
 | [],_::_,h=>by cases h
 | _::_,[],h=>by cases h
 | x::r,y::q,h=>by
  simp only [OP,RO] at h
  have e:x=y:=by
   have z:x.val.toNat=y.val.toNat:=h.1;exact Char.ext (UInt32.toNat_inj.mp z)
  rw [e,gH h.2]
theorem oS(a b:String):(Str.ofString a=Str.ofString b)=(a=b):=by
 refine propext ⟨λ h=>?_,λ h=>by rw [h]⟩;rw [Str.ofString_eq_toList,Str.ofString_eq_toList] at h;have e:(a.toList.map Char.toNat).toArray=(b.toList.map Char.toNat).toArray:=OM Str.cps h;have e2:=gH (OM Array.toList e);exact String.ext e2
def isW(H:Hp):V->Option Bool
 | .int _=>some true
 | .bl _=>some false
 | .non=>some false
 | .str _=>some false
 | .ref p=>((H p).bind tyO).map λ _=>false
 | _=>none
theorem Ay(H:Hp)(i:Int):isW H (.int i)=some true:=rfl
theorem EY(H:Hp)(i:Bool):isW H (.bl i)=some false:=rfl
theorem Ax(H:Hp):isW H .non=some false:=rfl
theorem Aw(H:Hp)(i:Str):isW H (.str i)=some false:=rfl
theorem iJ(H:Hp)(p:Addr):isW H (.ref p)=((H p).bind tyO).map λ _=>false:=rfl
theorem lW{H:Hp}{p:Addr}{b:Bool}(h:isW H (.ref p)=some b):b=false/\∃ o,H p=some o/\(tyO o=some "list" \/ tyO o=some "tuple" \/ tyO o=some "dict"):=by
 rw [iJ] at h
 cases e:H p with
 | none=>rw [e] at h;cases h
 | some o=>
  rw [e] at h;have h':(tyO o).map (λ _=>false)=some b:=h
  cases e2:tyO o with
  | none=>rw [e2] at h';cases h'
  | some t=>
   rw [e2] at h';cases h';refine⟨rfl,o,rfl,?_⟩
   cases o with
   | lst xs=>exact .inl rfl
   | tup xs=>exact .inr (.inl rfl)
   | dK xs=>exact .inr (.inr rfl)
   | dT xs=>exact .inr (.inr rfl)
   | frz ob u=>cases u with
    | lst xs=>exact .inl rfl
    | _=>cases e2
   | _=>cases e2
def ME(t:TE):Prop:=∀ σ H (Q Q':VK),(∀ v H,Q v H->Q' v H)->t σ H Q->t σ H Q'
def MT(t:TT):Prop:=∀ σ H (Q Q':Bool->Hp->Prop),(∀ b H,Q b H->Q' b H)->t σ H Q->t σ H Q'
def MA(t:TA):Prop:=∀ σ H (Q Q':List V->Hp->Prop),(∀ b H,Q b H->Q' b H)->t σ H Q->t σ H Q'
def MR(r:R2):Prop:=∀ x y H (Q Q':VK),(∀ v H,Q v H->Q' v H)->r x y H Q->r x y H Q'
theorem dI{α:Type}{o:Option α}{k k':α->Prop}(m:∀ x,k x->k' x)(h:aF o k):aF o k':=by
 obtain⟨x,e,q⟩:=aj h;rw [e];exact m x q
theorem uJ{i:Nat}:ME (JJ i):=λ σ H Q Q' m ⟨v,e,q⟩=>⟨v,e,m _ _ q⟩
theorem Mj{v:V}:ME (tC v):=λ σ H Q Q' m q=>m _ _ q
theorem Gx{r:R2}{a b:TE}(hr:MR r)(ha:ME a)(hb:ME b):ME (tOp r a b):=λ σ H Q Q' m q=>ha σ H _ _ (λ _ _ q=>hb σ _ _ _ (λ _ _ q=>hr _ _ _ _ _ m q) q) q
theorem rH:MR yp:=λ x y H Q Q' m ⟨e,q⟩=>⟨e,m _ _ q⟩
theorem BA{n:Bool}:MR (qEq n):=λ x y H Q Q' m q=>by
 unfold qEq at q ⊢
 by_cases hs:FI x y=true
 ·rw [N7 hs] at q ⊢;exact m _ _ q
 ·rw [NY hs] at q ⊢;exact dI (λ _ q=>dI (λ _ q=>m _ _ q) q) q
theorem BB:MA FH:=λ σ H Q Q' m q=>m _ _ q
theorem pW{t:TE}(h:ME t):MT (BS t):=λ σ H Q Q' m q=>h σ H _ _ (λ _ _ ⟨k,e,q⟩=>⟨k,e,m _ _ q⟩) q
theorem u3{c:TT}{tb:TS}{nx:St->Hp->Prop}{rt:VK}{bk ct:St->Hp->Prop}{σ:St}{H:Hp}(mono:MT c)(Pv:Nat->St->Hp->Prop)(m0:Nat)(h0:Pv m0 σ H)
  (hs:∀ m σ H,Pv m σ H->c σ H (kWh tb nx rt Pv m σ)):ug c tb ⟨nx,rt,bk,ct⟩ σ H:=Cy Pv m0 h0 (λ σ H Q Q'=>mono σ H Q Q') hs
theorem rL:∀ {ns ms:List Int},ns.map V.int=ms.map V.int->ns=ms
 | [],[],_=>rfl
 | [],_::_,h=>by cases h
 | _::_,[],h=>by cases h
 | i::r,j::t,h=>by
  simp only [OP,RO,V.int.injEq] at h;rw [h.1,rL h.2]
def eJ(F:List Int->Prop):List V->Prop:=λ xs=>∃ ns,xs=ns.map V.int/\F ns
theorem Es(F:List Int->Prop)(ns:List Int):eJ F (ns.map V.int)=F ns:=propext ⟨λ ⟨ms,e,h⟩=>by rw [rL e];exact h,λ h=>⟨ns,rfl,h⟩⟩
theorem gv{xs:List V}{i:Int}{k:V->Prop}(P:Int->Prop)(h0:0<=i)(h1:i < xs.length)(hx:∀ v∈xs,∃ j,v=.int j/\P j)(h:∀ j,P j->k (.int j)):aF (atI xs i) k:=vm h0 h1 λ v hv=>by
 obtain⟨j,rfl,hj⟩:=hx v hv;exact h j hj
theorem Ba(i j:Int)(h:i.natAbs < 2 ^ 256)(h':j.natAbs < 2 ^ 256):Ct i j=True:=eq_true ⟨h,h'⟩
theorem AS(xs:List V)(z:Int)(h:0<=z):kA xs none (some z)=xs.take z.toNat:=by
 unfold kA;rw [HT.sIx_none,List.drop_zero,Nat.sub_zero];obtain⟨n,rfl⟩:=Int.eq_ofNat_of_zero_le h;rw [HT.sIx_nat]
 show _=xs.take n
 rcases RB n xs.length with q|q
 ·rw [QY q]
 ·rw [QO q,Pd (NF _),Pd q]
def Nj(lo hi:Option Int)(H:Hp)(Q:VK):List V->Prop:=λ xs=>∀ p,H p=none->Q (.ref p) (upd H p (.lst (kA xs lo hi)))
def Me:V->Option Int->Option Int->Hp->VK->Prop:=λ x lo hi H Q=>match x with
 | .ref a=>aF (aw H a) (Nj lo hi H Q)
 | _=>False
theorem MZ{X:Cx}:SlR X Me:=CS.mono λ x lo hi H Q h=>by
 unfold Me at h;split at h
 ·rename_i a;obtain⟨xs,e,q⟩:=aj h;exact⟨a,xs,rfl,SqL.of (bD e),q⟩
 ·exact h.elim
def Kg(r:V->Option Int->Option Int->Hp->VK->Prop)(x:V)(l:Option Int)(Q:VK):Option Int->Hp->Prop:=λ u H=>r x l u H Q
theorem Ir(r:V->Option Int->Option Int->Hp->VK->Prop)(x:V)(l:Option Int)(Q:VK)(u:Option Int)(H:Hp):Kg r x l Q u H=r x l u H Q:=rfl
def Kh(r:V->Option Int->Option Int->Hp->VK->Prop)(th:TO)(σ:St)(x:V)(Q:VK):Option Int->Hp->Prop:=λ l H=>th σ H (Kg r x l Q)
theorem Iu(r:V->Option Int->Option Int->Hp->VK->Prop)(th:TO)(σ:St)(x:V)(Q:VK)(l:Option Int)(H:Hp):Kh r th σ x Q l H=th σ H (Kg r x l Q):=rfl
def Mo(r:V->Option Int->Option Int->Hp->VK->Prop)(tl th:TO)(σ:St)(Q:VK):VK:=λ x H=>tl σ H (Kh r th σ x Q)
theorem Iv(r:V->Option Int->Option Int->Hp->VK->Prop)(tl th:TO)(σ:St)(Q:VK)(x:V)(H:Hp):Mo r tl th σ Q x H=tl σ H (Kh r th σ x Q):=rfl
theorem K9(r:V->Option Int->Option Int->Hp->VK->Prop)(te:TE)(tl th:TO)(σ:St)(H:Hp)(Q:VK):tSl r te tl th σ H Q=te σ H (Mo r tl th σ Q):=rfl
theorem wH(σ:St)(H:Hp)(Q:Option Int->Hp->Prop):u5 σ H Q=Q none H:=rfl
def GF(Q:Option Int->Hp->Prop):VK:=λ x H=>∃ i,x=.int i/\Q (some i) H
theorem Em(Q:Option Int->Hp->Prop)(i:Int)(H:Hp):GF Q (.int i) H=Q (some i) H:=propext ⟨λ ⟨_,e,q⟩=>by cases e;exact q,λ q=>⟨i,rfl,q⟩⟩
theorem DF(t:TE)(σ:St)(H:Hp)(Q:Option Int->Hp->Prop):FY t σ H Q=t σ H (GF Q):=rfl
def iE(o:HO)(H:Hp)(Q:VK):Prop:=∀ (p:Addr) (H':Hp),H p=none->Ext H H'->H' p=some o->Q (.ref p) H'
theorem iE.to{o:HO}{H:Hp}{Q:VK}(h:iE o H Q):∀ p,H p=none->Q (.ref p) (upd H p o):=λ p hp=>h p _ hp (Ext.new hp) au
def kQT(Q:VK):List V->Hp->Prop:=λ xs H=>xs.length<=sizeLine/\iE (.tup xs) H Q
theorem Lu(Q:VK)(xs:List V)(H:Hp):kQT Q xs H=(xs.length<=sizeLine/\iE (.tup xs) H Q):=rfl
def kQL(Q:VK):List V->Hp->Prop:=λ xs H=>xs.length<=sizeLine/\iE (.lst xs) H Q
theorem Lv(Q:VK)(xs:List V)(H:Hp):kQL Q xs H=(xs.length<=sizeLine/\iE (.lst xs) H Q):=rfl
def Md(t:TA):TE:=λ σ H Q=>t σ H (kQT Q)
theorem Ic(t:TA)(σ:St)(H:Hp)(Q:VK):Md t σ H Q=t σ H (kQT Q):=rfl
def J8(t:TA):TE:=λ σ H Q=>t σ H (kQL Q)
theorem Ii(t:TA)(σ:St)(H:Hp)(Q:VK):J8 t σ H Q=t σ H (kQL Q):=rfl
section
variable {X:Cx}{es:List Expr}{t:TA}{pos:Pos}
theorem Dk{x1}(h:PA X es t):PE X (.Tuple es x1 pos) (Md t):=by
 intro pins s σ H Q I hq;refine wpAny_Tuple_spliced (thn (h pos pins s σ H _ I hq) λ us s1 ⟨xs,H1,I1,r,z,q⟩=>⟨by rw [←r.length];exact z,?_⟩);have hf:H1 s1.heap.objs.size=none:=I1.hok.fresh (NF _);refine⟨.ref s1.heap.objs.size,upd H1 s1.heap.objs.size (.tup xs),I1.laid (t':=s1.toks) (λ b u e=>Nx _ e) (NF _) ?_,rfl,q.to _ hf⟩;exact⟨z,us,r,⟨_,NG _ rfl,rfl,_,rfl⟩⟩
theorem Dl(h:PA X es t):PE X (.List es pos) (J8 t):=by
 intro pins s σ H Q I hq;refine wpAny_List_spliced (thn (h pos pins s σ H _ I hq) λ us s1 ⟨xs,H1,I1,r,z,q⟩=>⟨by rw [←r.length];exact z,?_⟩);have hf:H1 s1.heap.objs.size=none:=I1.hok.fresh (NF _);refine⟨.ref s1.heap.objs.size,upd H1 s1.heap.objs.size (.lst xs),I1.laid (t':=s1.toks) (λ b u e=>Nx _ e) (NF _) ?_,rfl,q.to _ hf⟩;exact⟨z,us,0,r,NG _ rfl⟩
end
def kN(f:List V->HO)(H:Hp)(Q:VK):List V->Prop:=λ ys=>iE (f ys) H Q
theorem Ng(f:List V->HO)(H:Hp)(Q:VK)(ys:List V):kN f H Q ys=iE (f ys) H Q:=rfl
def Cb(xs:List V)(H:Hp)(Q:VK):Prop:=match xs with
 | [.ref p]=>aF (dq H p) (kN .lst H Q)
 | _=>False
theorem D0(p:Addr)(H:Hp)(Q:VK):Cb [.ref p] H Q=aF (dq H p) (kN .lst H Q):=rfl
theorem tM{X:Cx}:cP X (.type "list") Cb:=tL.mono λ xs H Q h=>by
 unfold Cb at h;split at h
 ·exact dI (λ _ q=>q.to) h
 ·exact h.elim
def kNT(p:Addr)(H:Hp)(Q:VK):HO->Prop:=λ o=>match o with
 | .lst ys=>iE (.tup ys) H Q
 | .tup _=>Q (.ref p) H
 | _=>False
theorem Eo(p:Addr)(H:Hp)(Q:VK)(ys:List V):kNT p H Q (.lst ys)=iE (.tup ys) H Q:=rfl
def uG(xs:List V)(H:Hp)(Q:VK):Prop:=match xs with
 | [.ref p]=>aF (H p) (kNT p H Q)
 | _=>False
theorem zH(p:Addr)(H:Hp)(Q:VK):uG [.ref p] H Q=aF (H p) (kNT p H Q):=rfl
theorem jH{X:Cx}:cP X (.type "tuple") uG:=qB.mono λ xs H Q h=>by
 unfold uG at h;split at h
 ·refine dI (λ o q=>?_) h;unfold kNT at q;unfold Ce;split at q
  ·exact q.to
  ·exact q
  ·exact q.elim
 ·exact h.elim
def JR(xs:List V)(H:Hp)(Q:VK):List V->Prop:=λ ys=>xs.length+ys.length<=sizeLine/\iE (.lst (xs++ys)) H Q
theorem IG(xs:List V)(H:Hp)(Q:VK)(ys:List V):JR xs H Q ys=(xs.length+ys.length<=sizeLine/\iE (.lst (xs++ys)) H Q):=rfl
def Kn(b:Addr)(H:Hp)(Q:VK):List V->Prop:=λ xs=>aF (aw H b) (JR xs H Q)
theorem IH(b:Addr)(H:Hp)(Q:VK)(xs:List V):Kn b H Q xs=aF (aw H b) (JR xs H Q):=rfl
def JN:R2:=λ x y H Q=>match x,y with
 | .ref l,.ref b=>aF (aw H l) (Kn b H Q)
 | _,_=>False
theorem BC(l b:Addr)(H:Hp)(Q:VK):JN (.ref l) (.ref b) H Q=aF (aw H l) (Kn b H Q):=rfl
theorem dn{X:Cx}:OpR X (binaryOp .Add) JN:=HD.mono λ x y H Q h=>by
 unfold JN at h;split at h
 ·rw [Ib];exact dI (λ _ q=>dI (λ _ q=>⟨q.1,q.2.to⟩) q) h
 ·exact h.elim
def kNS(lo hi:Option Int)(H:Hp)(Q:VK):List V->Prop:=λ xs=>iE (.lst (kA xs lo hi)) H Q
theorem Ly(lo hi:Option Int)(H:Hp)(Q:VK)(xs:List V):kNS lo hi H Q xs=iE (.lst (kA xs lo hi)) H Q:=rfl
def nSl:V->Option Int->Option Int->Hp->VK->Prop:=λ x lo hi H Q=>match x with
 | .ref a=>aF (aw H a) (kNS lo hi H Q)
 | _=>False
theorem Lj(a:Addr)(lo hi:Option Int)(H:Hp)(Q:VK):nSl (.ref a) lo hi H Q=aF (aw H a) (kNS lo hi H Q):=rfl
theorem yg{X:Cx}:SlR X nSl:=MZ.mono λ x lo hi H Q h=>by
 unfold nSl at h;split at h
 ·exact dI (λ _ q=>q.to) h
 ·exact h.elim
theorem PE.mono{X:Cx}{e:Expr}{t t':TE}(h:PE X e t)(m:∀ σ H Q,t' σ H Q->t σ H Q):PE X e t':=λ pins s σ H Q I q=>h pins s σ H Q I (m _ _ _ q)
def Gv:TE:=λ _ H Q=>iE (.dK []) H Q
theorem D8(σ:St)(H:Hp)(Q:VK):Gv σ H Q=iE (.dK []) H Q:=rfl
theorem iG{X:Cx}{pos:Pos}:PE X (.Dict [] [] pos) Gv:=zu.mono λ _ _ _ h=>h.to
section
variable {prog:Program}{w:World}{A:Around}{E:Value->Shared->Prop}{s:Shared}
end
section
variable {X:Cx}{pos:Pos}
end
def Itv(K:W.Frag)(a:Addr)(xs:List V):It:=
 ⟨λ i H=>SqL K H a xs/\i < xs.length,λ i H x H'=>H'=H/\xs[xs.length - 1 - i]? = some x,λ i _=>i=xs.length⟩
theorem yO{P:Program}{w:World}{K:W.Frag}{tg:Expr}(a it:Addr)(xs:List V):yk P w K tg (Itv K a xs) [it] it (λ i h=>i<=xs.length/\h.IsRevIter it a ((xs.length:Int) - 1 - (i:Int))) where
 mem:=by simp
 obj:=λ i h st b hb=>by
  have e:b=it:=by simpa using hb
  subst e;obtain⟨_,o,e,c,d⟩:=st;exact⟨o,e,λ v z=>by rw [d] at z;cases z⟩
 keep:=λ i h h' st k=>⟨st.1,st.2.at λ o e=>k it (by simp) o e⟩
 item:=by
  intro X hP hw hK hc i pins s σ H E I hf st hg;subst hP hw hK;obtain⟨hq,hlt⟩:=hg;obtain⟨its,rv,p,hz⟩:=I.list hq;have hx:xs[xs.length - 1 - i]? = some (xs[xs.length - 1 - i]'(by omega)):=Nw (by omega);obtain⟨u,hu,ru⟩:=rv.get hx;obtain⟨f0,f1,f2,f3,f4,f5⟩:=hf it (by simp);have st1:=st.2;rw [show ((xs.length:Int) - 1 - (i:Int))=((xs.length - 1 - i:Nat):Int) by omega] at st1;refine wpAny_pyNext_rev_item st1 p.isList (x:=u) (by simpa using hu) λ h' st' sb=>?_;have I1:Inv X pins σ H { s with heap:=h' }:=I.turned (t':=s.toks) (λ b o hb e=>(sb.2 b hb).trans e) f0 f1 f3 f4 f5;obtain⟨o,e,c,d⟩:=id st';rw [show (((xs.length - 1 - i:Nat):Int) - 1)=(xs.length:Int) - 1 - ((i+1:Nat):Int) by omega] at st';exact⟨u,rfl,yy (s:={ s with heap:=h' }) e c d (by decide) ⟨_,H,I1,ru,⟨rfl,hx⟩,⟨hlt,st'⟩,λ b hb=>(hf b hb).1⟩⟩
 done:=by
  intro X hP hw hK hc i pins s σ H E I hf st hg;subst hP hw hK;have e:i=xs.length:=hg;subst e;obtain⟨f0,f1,f2,f3,f4,f5⟩:=hf it (by simp);have st1:=st.2;rw [show ((xs.length:Int) - 1 - (xs.length:Int))=-1 by omega] at st1;exact wpAny_pyNext_rev_end (I.ok.hd hc) st1 λ h' eb=>⟨rfl,I.turned (t':=s.toks) (λ b o hb e=>eb b o hb e) f0 f1 f3 f4 f5⟩
 self:=λ _ _ _ _ _ st h=>wpAny_pyIter_revIter st.2 h
def Ki(K:W.Frag)(a:Addr)(H:Hp)(R:It->Hp->Prop):List V->Prop:=λ xs=>R (Itv K a xs) H
theorem Iy(K:W.Frag)(a:Addr)(H:Hp)(R:It->Hp->Prop)(xs:List V):Ki K a H R xs=R (Itv K a xs) H:=rfl
def JP(K:W.Frag)(R:It->Hp->Prop):List V->Hp->Prop:=λ vs H=>match vs with
 | [.ref a]=>aF (aw H a) (Ki K a H R)
 | _=>False
theorem Iz(K:W.Frag)(R:It->Hp->Prop)(a:Addr)(H:Hp):JP K R [.ref a] H=aF (aw H a) (Ki K a H R):=rfl
def MI(K:W.Frag)(ta:TA):TI:=λ σ H R=>ta σ H (JP K R)
theorem Jm(K:W.Frag)(ta:TA)(σ:St)(H:Hp)(R:It->Hp->Prop):MI K ta σ H R=ta σ H (JP K R):=rfl
section
variable {X:Cx}{tg:Expr}
theorem Ho{a:Expr}{ta:TA}{p pos:Pos}(hg:Gl X "reversed")(hm:X.mg "reversed"=none)(ha:PA X [a] ta)(hs:starEach [a] X.env=[(false,eval a X.env)]:=by rfl):PI X tg (.Call (.Name "reversed" p) [a] [] pos) (MI X.K ta):=by
 intro pins s σ H R I h;refine Call_ (eC I hg hm (show bootBuiltins "reversed"=some (.type "reversed") by decide +kernel) (PyProof.Rows.callWith_type1 (thn (ha pos pins s σ H _ I h) λ us s1 ⟨vs,H1,I1,r1,q1⟩=>?_) hs rfl));unfold JP at q1;split at q1
 ·rename_i b;obtain⟨xs,e,q⟩:=aj q1
  cases r1 with
  | cons r rr=>
   cases rr;cases r;obtain⟨its,rv,pl,hz⟩:=I1.list (SqL.of (bD e));refine call_reversed_list pl.isList ?_;have hsz:(its.toArray.size:Int)=(xs.length:Int):=by rw [←rv.length.symm];simp
   have I2:Inv X pins σ H1 { s1 with heap:=s1.heap.push (revObj b ((its.toArray.size:Int) - 1)) }:=I1.kept (t':=s1.toks) λ b o e=>Nx _ e;have hit:(s1.heap.push (revObj b ((its.toArray.size:Int) - 1))).IsRevIter s1.heap.objs.size b ((xs.length:Int) - 1 - ((0:Nat):Int)):=⟨_,NG _ rfl,rfl,by rw [hsz];simp [revObj]⟩;refine wpAny_pyIter_revIter hit ⟨s1.heap.objs.size,[s1.heap.objs.size],_,_,H1,rfl,I2,yO b _ xs,⟨OL _,hit⟩,λ c hb=>?_,q⟩;have e:c=s1.heap.objs.size:=by simpa using hb
   subst e;exact I1.fpOk (NF _) (I1.hok.fresh (NF _))
 ·exact q1.elim
end
theorem Ff{K:W.Frag}{a:Addr}{xs:List V}{g:TG}{tb:TS}{nx:St->Hp->Prop}{rt:VK}{bk ct:St->Hp->Prop}{σ:St}{H:Hp}(Pv:Nat->St->Hp->Prop)(h0:Pv 0 σ H)(hl:∀ i σ H,i<=xs.length->Pv i σ H->SqL K H a xs)
  (hs:∀ i x σ H,i < xs.length->xs[xs.length - 1 - i]? = some x->Pv i σ H->g x σ H (pC tb ⟨Pv (i+1),rt,nx,Pv (i+1)⟩)) (hd:∀ σ H,Pv xs.length σ H->nx σ H):BO g tb ⟨nx,rt,bk,ct⟩ σ (Itv K a xs) H:=by
 refine⟨λ i m σ H=>m=xs.length - i/\i<=xs.length/\Pv i σ H,⟨xs.length,by simp,OL _,h0⟩,?_⟩;rintro i m σ H ⟨rfl,hi,p⟩;have q:=hl i σ H hi p
 by_cases hlt:i < xs.length
 ·refine .inr ⟨⟨q,hlt⟩,Pv (i+1),λ σ' H' p'=>⟨xs.length - (i+1),by omega,rfl,hlt,p'⟩,λ x H' y=>?_⟩;obtain⟨e,y⟩:=y;subst e;exact hs i x σ _ hlt y p
 ·have e:i=xs.length:=by omega
  subst e;exact .inl ⟨rfl,hd σ H p⟩
theorem jA:∀ (n:Nat) (ns:List Int) (val:Nat->Int),(∀ i,val i=ns.getD i 0)->n<=ns.length->preSum val n=(ns.take n).sum
 | 0,ns,val,h,hl=>by simp [preSum]
 | n+1,ns,val,h,hl=>by
  have ih:=jA n ns val h (by omega)
  have e:ns.take (n+1)=ns.take n++[ns.getD n 0]:=by
   rw [Q9,Nw (by omega)];simp [List.getD,Nw (show n < ns.length by omega)]
  rw [preSum,ih,e,List.sum_append,h];simp
def Cf(H:Hp)(Q:VK):List Int->Prop:=λ ns=>Q (.int ns.sum) H
theorem Ef(H:Hp)(Q:VK)(ns:List Int):Cf H Q ns=Q (.int ns.sum) H:=rfl
def J5:List V->Hp->VK->Prop:=λ vs H Q=>match vs with
 | [.ref p]=>aF (aw H p) (eJ (Cf H Q))
 | _=>False
theorem Ie(p:Addr)(H:Hp)(Q:VK):J5 [.ref p] H Q=aF (aw H p) (eJ (Cf H Q)):=rfl
def KD(F:List Bool->Prop):List V->Prop:=λ xs=>∃ bs,xs=bs.map V.bl/\F bs
theorem vK:∀ {ns ms:List Bool},ns.map V.bl=ms.map V.bl->ns=ms
 | [],[],_=>rfl
 | [],_::_,h=>by cases h
 | _::_,[],h=>by cases h
 | i::r,j::t,h=>by
  simp only [OP,RO,V.bl.injEq] at h;rw [h.1,vK h.2]
theorem Jc(F:List Bool->Prop)(bs:List Bool):KD F (bs.map V.bl)=F bs:=propext ⟨λ ⟨ms,e,h⟩=>by rw [vK e];exact h,λ h=>⟨bs,rfl,h⟩⟩
def Cr(H:Hp)(Q:VK):List Bool->Prop:=λ bs=>Q (.bl (bs.all id)) H
theorem EE(H:Hp)(Q:VK)(bs:List Bool):Cr H Q bs=Q (.bl (bs.all id)) H:=rfl
def Ka:List V->Hp->VK->Prop:=λ vs H Q=>match vs with
 | [.ref p]=>aF (aw H p) (KD (Cr H Q))
 | _=>False
theorem Ik(p:Addr)(H:Hp)(Q:VK):Ka [.ref p] H Q=aF (aw H p) (KD (Cr H Q)):=rfl
section
variable {X:Cx}
theorem gy(hc:X.calm=true):cP X (.builtin "sum") J5:=by
 intro pins s σ H vs us Q I r h;unfold J5 at h;split at h
 ·rename_i p;obtain⟨xs,e,ns,rfl,q⟩:=aj h
  cases r with
  | cons r rr=>
   cases rr;cases r;obtain⟨its,rv,pl,hz⟩:=I.list (SqL.of (bD e));have hlt:p < s.heap.objs.size:=by obtain⟨_,e,_⟩:=pl.isList;exact NB e
   have hlen:its.length=ns.length:=by have:=rv.length;simpa using this.symm
   refine call_sum_walkAnyS (Pf pl.isList ⟨s.heap.objs.size,_,_,_,_,_,_,λ i=>ns.getD i 0,rfl,(Rt (show X.A.in1.handled=none from I.ok.hd hc) _ p (NQ hlt) its.toArray).toS,⟨⟨_,NG _ rfl,rfl,rfl⟩,pl.isList.push _⟩,λ b hb=>?_,λ i v hP=>?_,λ s' t' hm=>?_⟩)
   ·rw [Oa]
    rcases NR.mp hb with rfl|hb
    ·exact OW _
    ·rw [NC.mp hb];exact Qf hlt
   ·have hv:its[i]? = some v:=by simpa using hP
    have hi:i < ns.length:=by rw [←hlen];exact(Ny.mp hv).1
    obtain⟨u,hu,ru⟩:=rv.get (i:=i) (x:=.int (ns.getD i 0)) (by rw [NL,Nw hi];simp [List.getD,Nw hi]);rw [hv] at hu;cases hu;exact ru
   ·obtain⟨hp,g,d,tk,os⟩:=s'
    have kp:∀ b o,s.heap.get? b=some o->hp.get? b=some o:=λ b o e=>hm.heap b o (λ hmem=>by
     have:b=s.heap.objs.size:=by simpa using hmem
     subst this;exact absurd (NB e) (Ou _)) (Nx _ e)
    have e1:g=s.gens:=hm.gens;have e2:d=s.drawn:=hm.drawn;have e3:os=s.os:=hm.os;subst e1 e2 e3;refine⟨.int ns.sum,H,I.kept (t':=tk) kp,?_,q⟩;have es:=jA its.toArray.size ns (λ i=>ns.getD i 0) (λ _=>rfl) (by simp [hlen]);rw [show its.toArray.size=ns.length by simp [hlen],OE] at es;rw [show its.toArray.size=ns.length by simp [hlen],es];exact⟨t',rfl⟩
 ·exact h.elim
theorem yf(bs:List Bool):(List.range bs.length).all (λ i=>bs.getD i false)=bs.all id:=by
 rw [Pc,Pg,Pg];refine⟨λ h x hx=>?_,λ h i hi=>?_⟩
 ·obtain⟨i,hi,e⟩:=Pw hx;have:=h i (Oi.mpr hi)
  simpa [List.getD,Nw hi,e] using this
 ·have hi':=Oi.mp hi;have:=h (bs[i]) (Pa hi')
  simpa [List.getD,Nw hi'] using this
theorem gA(hc:X.calm=true):cP X (.builtin "all") Ka:=by
 intro pins s σ H vs us Q I r h;unfold Ka at h;split at h
 ·rename_i p;obtain⟨xs,e,bs,rfl,q⟩:=aj h
  cases r with
  | cons r rr=>
   cases rr;cases r;obtain⟨its,rv,pl,hz⟩:=I.list (SqL.of (bD e));have hlt:p < s.heap.objs.size:=by obtain⟨_,e,_⟩:=pl.isList;exact NB e
   have hlen:its.length=bs.length:=by have:=rv.length;simpa using this.symm
   refine call_all_walk (Pf pl.isList ⟨s.heap.objs.size,_,_,_,_,_,λ i=>bs.getD i false,rfl,Rt (show X.A.in1.handled=none from I.ok.hd hc) _ p (NQ hlt) its.toArray,⟨⟨_,NG _ rfl,rfl,rfl⟩,pl.isList.push _⟩,λ i v s' Q' E' hP hQ=>?_,λ h' tk hk=>?_⟩)
   ·have hv:its[i]? = some v:=by simpa using hP
    have hi:i < bs.length:=by rw [←hlen];exact(Ny.mp hv).1
    obtain⟨u,hu,ru⟩:=rv.get (i:=i) (x:=.bl (bs.getD i false)) (by rw [NL,Nw hi];simp [List.getD,Nw hi]);rw [hv] at hu;cases hu;have e2:v=.bool (bs.getD i false):=ru;subst e2;exact O3 hQ
   ·have kp:∀ b o,s.heap.get? b=some o->h'.get? b=some o:=λ b o e=>hk b o (λ hmem=>by
     have:b=s.heap.objs.size:=by simpa using hmem
     subst this;exact absurd (NB e) (Ou _)) (Nx _ e)
    refine⟨.bl (bs.all id),H,I.kept (t':=tk) kp,?_,q⟩;rw [show its.toArray.size=bs.length by simp [hlen],yf];exact rfl
 ·exact h.elim
end
structure Src(prog:Program)(w:World)(it:Addr)(fr:List Addr)(st:Nat->Heap->Prop)(val:Nat->Option Value):Prop where
 mem:it∈fr
 there:∀ k h,st k h->∀ b∈fr,∃ o,h.get? b=some o
 keep:∀ k h h',st k h->(∀ b∈fr,∀ o,h.get? b=some o->h'.get? b=some o)->st k h'
 item:∀ (A:Around) k s v (Q:Value->Shared->Prop) (E:Value->Shared->Prop),st k s.heap->val k=some v->(∀ h',st (k+1) h'->Heap.SameBut it s.heap h'->Q v { s with heap:=h' })->wpAny (model prog w) A (Builtin.SmallTypes.nextOf (.ref it)) Q E s
 fin:∀ (A:Around) k s (Q:Value->Shared->Prop) (E:Value->Shared->Prop),A.handled=none->st k s.heap->val k=none->(∀ h' e,Heap.ExtBut it s.heap h'->(∃ o,h'.get? e=some o/\o.cls=.type "StopIteration")->E (.ref e) { s with heap:=h' })->wpAny (model prog w) A (Builtin.SmallTypes.nextOf (.ref it)) Q E s
theorem yS{prog:Program}{w:World}(it l:Addr)(hne:l ≠ it)(xs:Array Value):Src prog w it [it,l] (λ k h=>h.IsListIter it l k/\h.IsList l xs) (λ k=>xs[k]?) where
 mem:=NK
 there:=λ k h st b hb=>by
  rcases NR.mp hb with e|hb
  ·obtain⟨o,q,_⟩:=st.1;exact⟨o,by rw [e];exact q⟩
  ·obtain⟨o,q,_⟩:=st.2;exact⟨o,by rw [NC.mp hb];exact q⟩
 keep:=λ k h h' st q=>⟨st.1.at λ o e=>q it (by simp) o e,st.2.at λ o e=>q l (by simp) o e⟩
 item:=λ A k s v Q E st hv hQ=>wpAny_nextOf_list_item st.1 st.2 hv λ h' a b=>hQ h' ⟨a,st.2.extBut b.extBut hne⟩ b
 fin:=λ A k s Q E hh st hv hE=>wpAny_nextOf_list_end hh st.1 st.2 hv hE
section
variable {prog:Program}{w:World}{A:Around}{E:Value->Shared->Prop}{s:Shared}
theorem mT{j t:Addr}{k:Nat}{xs:Array Value}{v:Value}{Q:Value->Shared->Prop}(hj:s.heap.IsTupleIter j t k)(ht:s.heap.IsTuple t xs)(hv:xs[k]? = some v)
  (hQ:∀ g,g.IsTupleIter j t (k+1)->Heap.SameBut j s.heap g->Q v { s with heap:=g }):wpAny (model prog w) A (Builtin.SmallTypes.nextOf (.ref j)) Q E s:=by
 obtain⟨oj,h0,h1,h2⟩:=id hj;obtain⟨ot,g0,_,n,g1⟩:=ht;unfold Builtin.SmallTypes.nextOf;refine wpAny_bind (wpAny_callSpecial?_slot (name:=Str.ofString "__next__") hj.typeIs F.slot_tuple_iterator_next (wpAny_call_entry F.slot_tuple_iterator_next hj.typeIs F.entry_tuple_iterator_next ?_ (F.args_tuple_iterator_next_1 _)));refine wpAny_bind (m:=field (.ref j) 0) (wpAny_field h0 h2 (x:=.ref t) rfl ?_)
 show wpAny _ _ (if (Value.ref t == Value.none)=true then _ else _) _ _ _
 rw [NY (show ¬ ((.ref t:Value) == .none)=true from NO)];refine My (m:=field (.ref j) 1) (Oe h0 h2 (x:=.int k 0) rfl ?_);refine My (m:=seqItems? (.ref t)) (N3 g0 g1 ?_);simp only [NJ,hv];refine My (wpAny_setField h0 h2 (by simp) (NA ⟨v,rfl,NA (hQ _ ⟨_,Om _ h0 (Obj.isFreed_of_fields (Obj.data_mapFields h2 _)),(Obj.cls_mapFields ..).trans h1,?_⟩ (RK ..))⟩));rw [Obj.data_mapFields h2];simp [rawInt]
theorem oT{j t:Addr}{k:Nat}{xs:Array Value}{Q:Value->Shared->Prop}(hh:A.handled=none)(hj:s.heap.IsTupleIter j t k)(ht:s.heap.IsTuple t xs)(hv:xs[k]? = none)
  (hE:∀ g e,Heap.ExtBut j s.heap g->(∃ o,g.get? e=some o/\o.cls=.type "StopIteration")->E (.ref e) { s with heap:=g }):wpAny (model prog w) A (Builtin.SmallTypes.nextOf (.ref j)) Q E s:=by
 obtain⟨oj,h0,h1,h2⟩:=id hj;obtain⟨ot,g0,_,n,g1⟩:=ht;unfold Builtin.SmallTypes.nextOf;refine wpAny_bind (wpAny_callSpecial?_slot (name:=Str.ofString "__next__") hj.typeIs F.slot_tuple_iterator_next (wpAny_call_entry F.slot_tuple_iterator_next hj.typeIs F.entry_tuple_iterator_next ?_ (F.args_tuple_iterator_next_1 _)));refine wpAny_bind (m:=field (.ref j) 0) (wpAny_field h0 h2 (x:=.ref t) rfl ?_)
 show wpAny _ _ (if (Value.ref t == Value.none)=true then _ else _) _ _ _
 rw [NY (show ¬ ((.ref t:Value) == .none)=true from NO)];refine My (m:=field (.ref j) 1) (Oe h0 h2 (x:=.int k 0) rfl ?_);refine My (m:=seqItems? (.ref t)) (N3 g0 g1 ?_);simp only [NJ,hv];refine My (Qs (My (wpAny_setField h0 h2 (by simp) (My (m:=newExc (.type "StopIteration") []) ?_))));simp only [newExc,newTuple];refine My (O4 (My (m:=firstArgMember _ _) (wpAny_of_eq (a:=Value.none) (by first|rfl|(simp only [firstArgMember];rfl)) (O4 ?_ (by size_fits)))) (by size_fits));simp only [raiseNew]
 refine My (wpAny_handled ?_);first|rw [show A.in1.handled=none from hh]|rw [hh]
 exact My (NA (wpAny_throw (hE _ _ (((RK ..).extBut.push _).push _) ⟨_,NG _ rfl,rfl⟩)))
theorem CQ(it l:Addr)(hne:l ≠ it)(xs:Array Value):Src prog w it [it,l] (λ k h=>h.IsTupleIter it l k/\h.IsTuple l xs) (λ k=>xs[k]?) where
 mem:=NK
 there:=λ k h st b hb=>by
  rcases NR.mp hb with e|hb
  ·obtain⟨o,q,_⟩:=st.1;exact⟨o,by rw [e];exact q⟩
  ·obtain⟨o,q,_⟩:=st.2;exact⟨o,by rw [NC.mp hb];exact q⟩
 keep:=λ k h h' st q=>⟨st.1.at λ o e=>q it (by simp) o e,st.2.at λ o e=>q l (by simp) o e⟩
 item:=λ A k s v Q E st hv hQ=>mT st.1 st.2 hv λ h' a b=>hQ h' ⟨a,st.2.extBut b.extBut hne⟩ b
 fin:=λ A k s Q E hh st hv hE=>oT hh st.1 st.2 hv hE
structure eY(z TI TO i j:Addr)(f g:List Addr):Prop where
 ti:TI ≠ z/\TI ≠ TO/\TI ≠ i/\TI ≠ j
 zt:z ≠ TO
 zf:z ∉ f
 zg:z ∉ g
 tf:TO ∉ f
 tg:TO ∉ g
 ig:i ∉ g
 jf:j ∉ f
variable {z TI TO i j:Addr}{f g:List Addr}{ti tj:Nat->Heap->Prop}{vi vj:Nat->Option Value}{k m:Nat}{x y a b:Value}
theorem bw{p q:Addr}{l:List Addr}(hp:p∈l)(hq:q ∉ l):p ≠ q:=λ e=>hq (e ▸ hp)
theorem Src.but{prog:Program}{w:World}{it:Addr}{fr:List Addr}{st:Nat->Heap->Prop}{val:Nat->Option Value}(S:Src prog w it fr st val){k:Nat}{c:Addr}{h h':Heap}(q:st k h)(e:Heap.ExtBut c h h')(hc:c ∉ fr):st k h':=
 S.keep k h h' q λ b hb o ho=>e b o (bw hb hc) ho
theorem vS(S:Src prog w i f ti vi)(T:Src prog w j g tj vj)(D:eY z TI TO i j f g){Q:Value->Shared->Prop}
  (hz:IsZip s.heap z TI TO .none) (hTI:IsPair s.heap TI (.ref i) (.ref j)) (hTO:IsPair s.heap TO a b) (hi:ti k s.heap) (hj:tj m s.heap) (hx:vi k=some x) (hy:vj m=some y)
  (hQ:∀ h',IsZip h' z TI TO (rawInt s.heap.objs.size)->IsPair h' TO x y->ti (k+1) h'->tj (m+1) h'->IsPair h' s.heap.objs.size x y->h'.objs.size=s.heap.objs.size+1->(∀ c o,c ∉ [z,TO,i,j]->s.heap.get? c=some o->h'.get? c=some o)->Q (.ref s.heap.objs.size) { s with heap:=h' }) :
  wpAny (model prog w) A (Builtin.«zip.__next__» ⟨[.ref z],[]⟩) (λ fin s'=>∃ v,fin=.done (.ret v)/\Q v s') E s:=by
 have iz:i ≠ z:=bw S.mem D.zf;have jz:j ≠ z:=bw T.mem D.zg;have iTO:i ≠ TO:=bw S.mem D.tf;have jTO:j ≠ TO:=bw T.mem D.tg;have ij:i ≠ j:=bw S.mem D.jf;refine wpAny_bind (m:=field (.ref z) 2) (wpAny_field hz rfl (x:=.bool false) rfl ?_);refine wpAny_bind (m:=field (.ref z) 3) (wpAny_field hz rfl (x:=.ref TI) rfl (wpAny_bind (wpAny_seqItems hTI rfl ?_)));refine wpAny_bind (m:=Builtin.SmallTypes.ownedTupleIsFree (.ref z)) ?_;unfold Builtin.SmallTypes.ownedTupleIsFree;refine wpAny_bind (wpAny_field hz rfl (x:=.none) rfl (wpAny_pure ?_));simp only [if_true];refine wpAny_bind (wpAny_rule (wpAny_bind (wpAny_field hz rfl (x:=.ref TO) rfl (wpAny_bind (wpAny_setField_rec hz (by simp) λ q1 z1 s1=>?_)))));replace z1:IsZip q1 z TI TO .ellipsis:=z1;refine wpAny_bind ?_;simp only [List.zipIdx_cons,List.zipIdx_nil,forIn_cons,forIn_nil];refine wpAny_bind (wpAny_bind (wpAny_onRaise (wpAny_bind (m:=Builtin.SmallTypes.nextOf (.ref i)) (S.item _ k _ x _ _ (S.but hi s1.extBut D.zf) hx λ q2 i2 s2=>wpAny_pure ?_))));have o2:IsPair q2 TO a b:=s2.extBut _ _ iTO.symm (s1.extBut _ _ D.zt.symm hTO);refine wpAny_bind (wpAny_seqItems o2 rfl (wpAny_bind (wpAny_updateSeq_pair o2 λ q3 o3 s3=>wpAny_bind (wpAny_letGo (wpAny_pure ?_)))));replace o3:IsPair q3 TO x b:=o3;have j3:tj m q3:=T.but (T.but (T.but hj s1.extBut D.zg) s2.extBut D.ig) s3.extBut D.tg;refine wpAny_bind (wpAny_bind (wpAny_onRaise (wpAny_bind (m:=Builtin.SmallTypes.nextOf (.ref j)) (T.item _ m _ y _ _ j3 hy λ q4 j4 s4=>wpAny_pure ?_))));have o4:IsPair q4 TO x b:=s4.extBut _ _ jTO.symm o3;refine wpAny_bind (wpAny_seqItems o4 rfl (wpAny_bind (wpAny_updateSeq_pair o4 λ q5 o5 s5=>wpAny_bind (wpAny_letGo (wpAny_pure (wpAny_pure ?_))))));replace o5:IsPair q5 TO x y:=o5;refine wpAny_bind (wpAny_seqItems o5 rfl (wpAny_bind (wpAny_newTuple ?_)));have sz:q5.objs.size=s.heap.objs.size:=by rw [s5.1,s4.1,s3.1,s2.1,s1.1]
 have z5:IsZip q5 z TI TO .ellipsis:=s5.extBut _ _ D.zt (s4.extBut _ _ jz.symm (s3.extBut _ _ D.zt (s2.extBut _ _ iz.symm z1)))
 have k5:∀ c o,c ∉ [z,TO,i,j]->s.heap.get? c=some o->q5.get? c=some o:=λ c o hc e=>by
  simp only [NR,NN,Ob,Qb] at hc;exact s5.extBut _ _ hc.2.1 (s4.extBut _ _ hc.2.2.2 (s3.extBut _ _ hc.2.1 (s2.extBut _ _ hc.2.2.1 (s1.extBut _ _ hc.1 e))))
 have i5:ti (k+1) q5:=S.but (S.but (S.but i2 s3.extBut D.tf) s4.extBut D.jf) s5.extBut D.tf;have j5:tj (m+1) q5:=T.but j4 s5.extBut D.tg;have zlt:z < q5.objs.size:=Heap.lt_size z5;refine wpAny_bind (m:=Builtin.SmallTypes.ownedTupleHandOut (.ref z) (.ref q5.objs.size)) ?_;unfold Builtin.SmallTypes.ownedTupleHandOut;have z6:IsZip (q5.push { cls:=.type "tuple",data:=.seq #[x,y] }) z TI TO .ellipsis:=Heap.get?_push_of_some _ z5;refine wpAny_bind (wpAny_setField_rec z6 (by simp) λ q7 z7 s7=>?_);replace z7:IsZip q7 z TI TO (rawInt q5.objs.size):=z7;refine wpAny_setField_rec z7 (by simp) λ q8 z8 s8=>?_;replace z8:IsZip q8 z TI TO (rawInt q5.objs.size):=z8;have up:∀ c o,c ≠ z->q5.get? c=some o->q8.get? c=some o:=λ c o hc e=>s8.extBut _ _ hc (s7.extBut _ _ hc (Heap.get?_push_of_some _ e));have t8:IsPair q8 q5.objs.size x y:=s8.extBut _ _ (Nat.ne_of_gt zlt) (s7.extBut _ _ (Nat.ne_of_gt zlt) (Heap.get?_push_size _ rfl));have n8:q8.objs.size=q5.objs.size+1:=by rw [s8.1,s7.1,Heap.size_push]
 rw [sz] at z8 t8 n8;refine NA ⟨_,rfl,?_⟩
 show Q (.ref q5.objs.size) _
 rw [sz];exact hQ q8 z8 (up _ _ D.zt.symm o5) (S.keep _ _ _ i5 λ c hc o e=>up c o (bw hc D.zf) e) (T.keep _ _ _ j5 λ c hc o e=>up c o (bw hc D.zg) e) t8 n8 λ c o hc e=>up c o (λ q=>hc (by simp [q])) (k5 c o hc e)
theorem yI(hh:A.handled=none)(S:Src prog w i f ti vi)(T:Src prog w j g tj vj)(D:eY z TI TO i j f g){Q:Fin->Shared->Prop}
  (hz:IsZip s.heap z TI TO .none) (hTI:IsPair s.heap TI (.ref i) (.ref j)) (hTO:IsPair s.heap TO a b) (hi:ti k s.heap) (hj:tj m s.heap) (hxy:vi k=none\/vj m=none)
  (hE:∀ h' e,(∀ c o,c ∉ [z,TO,i,j]->s.heap.get? c=some o->h'.get? c=some o)->(∃ o,h'.get? e=some o/\o.cls=.type "StopIteration")->E (.ref e) { s with heap:=h' }) :
  wpAny (model prog w) A (Builtin.«zip.__next__» ⟨[.ref z],[]⟩) Q E s:=by
 have iz:i ≠ z:=bw S.mem D.zf;have jz:j ≠ z:=bw T.mem D.zg;have iTO:i ≠ TO:=bw S.mem D.tf;have jTO:j ≠ TO:=bw T.mem D.tg;refine wpAny_bind (m:=field (.ref z) 2) (wpAny_field hz rfl (x:=.bool false) rfl ?_);refine wpAny_bind (m:=field (.ref z) 3) (wpAny_field hz rfl (x:=.ref TI) rfl (wpAny_bind (wpAny_seqItems hTI rfl ?_)));refine wpAny_bind (m:=Builtin.SmallTypes.ownedTupleIsFree (.ref z)) ?_;unfold Builtin.SmallTypes.ownedTupleIsFree;refine wpAny_bind (wpAny_field hz rfl (x:=.none) rfl (wpAny_pure ?_));simp only [if_true];refine wpAny_bind (wpAny_rule (wpAny_bind (wpAny_field hz rfl (x:=.ref TO) rfl (wpAny_bind (wpAny_setField_rec hz (by simp) λ q1 z1 s1=>?_)))));replace z1:IsZip q1 z TI TO .ellipsis:=z1;refine wpAny_bind ?_;simp only [List.zipIdx_cons,List.zipIdx_nil,forIn_cons,forIn_nil];refine wpAny_bind (wpAny_bind (wpAny_onRaise (wpAny_bind (m:=Builtin.SmallTypes.nextOf (.ref i)) ?_)))
 cases hx:vi k with
 | none=>
  refine S.fin _ k _ _ _ hh (S.but hi s1.extBut D.zf) hx λ q2 e s2 ⟨oe,he,hce⟩=>?_;have z2:IsZip q2 z TI TO .ellipsis:=s2 _ _ iz.symm z1;have ez:e ≠ z:=λ q=>by subst q;rw [z2] at he;cases he;simp at hce
  refine Oo z2 (by simp) λ q3 _ s3=>hE q3 e (λ c o hc q=>?_) ⟨oe,s3.extBut _ _ ez he,hce⟩;simp only [NR,NN,Ob,Qb] at hc;exact s3.extBut _ _ hc.1 (s2 _ _ hc.2.2.1 (s1.extBut _ _ hc.1 q))
 | some x=>
  have hy:vj m=none:=hxy.resolve_left (by rw [hx];exact Rc x);refine S.item _ k _ x _ _ (S.but hi s1.extBut D.zf) hx λ q2 i2 s2=>NA ?_;have o2:IsPair q2 TO a b:=s2.extBut _ _ iTO.symm (s1.extBut _ _ D.zt.symm hTO);refine My (N3 o2 rfl (My (Ru o2 λ q3 o3 s3=>My (OR (NA ?_)))));have j3:tj m q3:=T.but (T.but (T.but hj s1.extBut D.zg) s2.extBut D.ig) s3.extBut D.tg;refine My (My (Pm (My (m:=Builtin.SmallTypes.nextOf (.ref j)) (T.fin _ m _ _ _ hh j3 hy λ q4 e s4 ⟨oe,he,hce⟩=>?_))));have z4:IsZip q4 z TI TO .ellipsis:=s4 _ _ jz.symm (s3.extBut _ _ D.zt (s2.extBut _ _ iz.symm z1));have ez:e ≠ z:=λ q=>by subst q;rw [z4] at he;cases he;simp at hce
  refine Oo z4 (by simp) λ q5 _ s5=>hE q5 e (λ c o hc q=>?_) ⟨oe,s5.extBut _ _ ez he,hce⟩;simp only [NR,NN,Ob,Qb] at hc;exact s5.extBut _ _ hc.1 (s4 _ _ hc.2.2.2 (s3.extBut _ _ hc.2.1 (s2.extBut _ _ hc.2.2.1 (s1.extBut _ _ hc.1 q))))
theorem fT(S:Src prog w i f ti vi)(T:Src prog w j g tj vj)(D:eY z TI TO i j f g){Q:Option Value->Shared->Prop}
  (hz:IsZip s.heap z TI TO .none) (hTI:IsPair s.heap TI (.ref i) (.ref j)) (hTO:IsPair s.heap TO a b) (hi:ti k s.heap) (hj:tj m s.heap) (hx:vi k=some x) (hy:vj m=some y)
  (hQ:∀ h',IsZip h' z TI TO (rawInt s.heap.objs.size)->IsPair h' TO x y->ti (k+1) h'->tj (m+1) h'->IsPair h' s.heap.objs.size x y->h'.objs.size=s.heap.objs.size+1->(∀ c o,c ∉ [z,TO,i,j]->s.heap.get? c=some o->h'.get? c=some o)->Q (some (.ref s.heap.objs.size)) { s with heap:=h' }) :
  wpAny (model prog w) A (pyNext (.ref z)) Q E s:=by
 have ty:s.TypeIs (.ref z) "zip":=⟨_,hz,rfl⟩;unfold pyNext;exact wpAny_bind (wpAny_attempt (wpAny_callSpecial?_slot (name:=Str.ofString "__next__") ty F.slot_zip_next (wpAny_call_entry F.slot_zip_next ty F.entry_zip_next (vS S T D hz hTI hTO hi hj hx hy λ h' c1 c2 c3 c4 c5 c6 c7=>wpAny_pure (hQ h' c1 c2 c3 c4 c5 c6 c7)) (F.args_zip_next_1 _))))
theorem gD(hh:A.handled=none)(S:Src prog w i f ti vi)(T:Src prog w j g tj vj)(D:eY z TI TO i j f g){Q:Option Value->Shared->Prop}
  (hz:IsZip s.heap z TI TO .none) (hTI:IsPair s.heap TI (.ref i) (.ref j)) (hTO:IsPair s.heap TO a b) (hi:ti k s.heap) (hj:tj m s.heap) (hxy:vi k=none\/vj m=none)
  (hQ:∀ h',(∀ c o,c ∉ [z,TO,i,j]->s.heap.get? c=some o->h'.get? c=some o)->Q none { s with heap:=h' }):wpAny (model prog w) A (pyNext (.ref z)) Q E s:=by
 have ty:s.TypeIs (.ref z) "zip":=⟨_,hz,rfl⟩;unfold pyNext;refine wpAny_bind (wpAny_attempt (wpAny_callSpecial?_slot (name:=Str.ofString "__next__") ty F.slot_zip_next (wpAny_call_entry F.slot_zip_next ty F.entry_zip_next (yI (show A.in1.handled=none from hh) S T D hz hTI hTO hi hj hxy λ h' e kp he=>?_) (F.args_zip_next_1 _))));obtain⟨o,ho,hc⟩:=he;exact wpAny_bind (wpAny_isInstance (T := "StopIteration") (b:=true) ⟨o,ho,hc⟩ isSubtype_stop (wpAny_pure (hQ _ kp)))
end
def SeqAt(h:Heap)(k:Bool)(l:Addr)(xs:Array Value):Prop:=match k with
 | true=>h.IsTuple l xs
 | false=>h.IsList l xs
def bz(h:Heap)(k:Bool)(it l:Addr)(n:Nat):Prop:=match k with
 | true=>h.IsTupleIter it l n
 | false=>h.IsListIter it l n
def j6(k:Bool)(l:Addr):Obj:=match k with
 | true=>{ cls:=.type "tuple_iterator",data:=.fields #[.ref l,.int 0 0] }
 | false=>{ cls:=.type "list_iterator",data:=.fields #[.ref l,.int 0 0] }
theorem SeqAt.at{h h':Heap}{k:Bool}{l:Addr}{xs:Array Value}(q:SeqAt h k l xs)(e:∀ o,h.get? l=some o->h'.get? l=some o):SeqAt h' k l xs:=by
 cases k
 ·exact Heap.IsList.at q e
 ·exact Heap.IsTuple.at q e
theorem SeqAt.obj{h:Heap}{k:Bool}{l:Addr}{xs:Array Value}(q:SeqAt h k l xs):∃ o n,h.get? l=some o/\o.data=.seq xs n:=by
 cases k
 ·obtain⟨o,e,_,n,d⟩:=(show h.IsList l xs from q);exact⟨o,n,e,d⟩
 ·obtain⟨o,e,_,n,d⟩:=(show h.IsTuple l xs from q);exact⟨o,n,e,d⟩
theorem bz.at{h h':Heap}{k:Bool}{it l:Addr}{n:Nat}(q:bz h k it l n)(e:∀ o,h.get? it=some o->h'.get? it=some o):bz h' k it l n:=by
 cases k
 ·exact Heap.IsListIter.at q e
 ·exact Heap.IsTupleIter.at q e
theorem bz.obj{h:Heap}{k:Bool}{it l:Addr}{n:Nat}(q:bz h k it l n):∃ o fs,h.get? it=some o/\o.data=.fields fs:=by
 cases k
 ·obtain⟨o,e,_,d⟩:=(show h.IsListIter it l n from q);exact⟨o,_,e,d⟩
 ·obtain⟨o,e,_,d⟩:=(show h.IsTupleIter it l n from q);exact⟨o,_,e,d⟩
theorem dS{prog:Program}{w:World}(k:Bool)(it l:Addr)(hne:l ≠ it)(xs:Array Value):Src prog w it [it,l] (λ n h=>bz h k it l n/\SeqAt h k l xs) (λ n=>xs[n]?):=by
 cases k
 ·exact yS it l hne xs
 ·exact CQ it l hne xs
section
variable {prog:Program}{w:World}{A:Around}{E:Value->Shared->Prop}{s:Shared}
theorem iY{k:Bool}{l:Addr}{xs:Array Value}{Q:Value->Shared->Prop}(h:SeqAt s.heap k l xs)(hQ:Q (.ref s.heap.objs.size) { s with heap:=s.heap.push (j6 k l) }):wpAny (model prog w) A (pyIter (.ref l)) Q E s:=by
 cases k
 ·exact Pf h hQ
 ·exact wpAny_pyIter_tuple h hQ
abbrev zq1(ka:Bool)(a:Addr)(h:Heap):Heap:=h.push (j6 ka a)
abbrev zq2(ka kb:Bool)(a b:Addr)(h:Heap):Heap:=(zq1 ka a h).push (j6 kb b)
abbrev zq3(ka kb:Bool)(a b:Addr)(h:Heap):Heap:=(zq2 ka kb a b h).push { cls:=.type "tuple",data:=.seq #[.ref h.objs.size,.ref (zq1 ka a h).objs.size] }
abbrev zq4(ka kb:Bool)(a b:Addr)(h:Heap):Heap:=(zq3 ka kb a b h).push { cls:=.type "tuple",data:=.seq #[.none,.none] }
abbrev zq5(ka kb:Bool)(a b:Addr)(h:Heap):Heap:=(zq4 ka kb a b h).push { cls:=.type "zip",data:=.fields #[.none,.bool false,.bool false,.ref (zq2 ka kb a b h).objs.size,.ref (zq3 ka kb a b h).objs.size] }
theorem vO(ka kb:Bool)(a b:Addr)(xs ys:Array Value):Meets (Builtin.«zip.__new__» ⟨[.type "zip",.ref a,.ref b],[]⟩) (λ _ R s=>SeqAt s.heap ka a xs/\SeqAt s.heap kb b ys/\R (.ok (.ret (.ref (zq4 ka kb a b s.heap).objs.size))) { s with heap:=zq5 ka kb a b s.heap }):=
 .of_wp λ prog w A R s h=>by
  obtain⟨hp,g,d,tk,os⟩:=s;obtain⟨h1,h2,h⟩:=h;have hsub:=sub_zip;have q1:SeqAt (Shared.heap ⟨hp,g,d,tk,os⟩) ka a xs:=h1;have q2:SeqAt (Shared.heap ⟨hp.push (j6 ka a),g,d,tk,os⟩) kb b ys:=h2.at λ o e=>Nx _ e
  wp_walk using iY q1,iY q2
  exact⟨_,rfl,h⟩
theorem vH{ka kb:Bool}{a b:Addr}{xs ys:Array Value}{Q:Value->Shared->Prop}(h1:SeqAt s.heap ka a xs)(h2:SeqAt s.heap kb b ys)
  (h:∀ h' n,n=s.heap.objs.size->IsZip h' (n+4) (n+2) (n+3) .none->IsPair h' (n+2) (.ref n) (.ref (n+1))->IsPair h' (n+3) .none .none->bz h' ka n a 0->bz h' kb (n+1) b 0->h'.objs.size=n+5->(∀ c o,s.heap.get? c=some o->h'.get? c=some o)->Q (.ref (n+4)) { s with heap:=h' }) :
  wpAny (model prog w) A (call (.type "zip") [.ref a,.ref b]) Q E s:=by
 refine callType_new F.called_zip (by decide) (F.typeCall_zip_2 _ _) (F.newCall_zip_2 _ _) (λ ob=>F.args_object_init_3 ob _ _) F.entry_zip_new (vO ka kb a b xs ys) ⟨h1,h2,?_⟩;have n1:(zq1 ka a s.heap).objs.size=s.heap.objs.size+1:=Oa ..;have n2:(zq2 ka kb a b s.heap).objs.size=s.heap.objs.size+2:=by rw [Oa,n1]
 have n3:(zq3 ka kb a b s.heap).objs.size=s.heap.objs.size+3:=by rw [Oa,n2]
 have n4:(zq4 ka kb a b s.heap).objs.size=s.heap.objs.size+4:=by rw [Oa,n3]
 have n5:(zq5 ka kb a b s.heap).objs.size=s.heap.objs.size+5:=by rw [Oa,n4]
 have f1:bz (zq1 ka a s.heap) ka s.heap.objs.size a 0:=by
  cases ka<;>exact⟨_,NG _ rfl,rfl,rfl⟩
 have f2:bz (zq2 ka kb a b s.heap) kb (zq1 ka a s.heap).objs.size b 0:=by
  cases kb<;>exact⟨_,NG _ rfl,rfl,rfl⟩
 have u2:∀ c o,(zq2 ka kb a b s.heap).get? c=some o->(zq5 ka kb a b s.heap).get? c=some o:=λ c o e=>Nx _ (Nx _ (Nx _ e));have g5:(zq5 ka kb a b s.heap).get? (zq4 ka kb a b s.heap).objs.size=some _:=NG _ rfl;have g4:(zq5 ka kb a b s.heap).get? (zq3 ka kb a b s.heap).objs.size=some _:=Nx _ (NG _ rfl);have g3:(zq5 ka kb a b s.heap).get? (zq2 ka kb a b s.heap).objs.size=some _:=Nx _ (Nx _ (NG _ rfl));have e1:bz (zq5 ka kb a b s.heap) ka s.heap.objs.size a 0:=f1.at λ o e=>u2 _ o (Nx _ e);have e2:bz (zq5 ka kb a b s.heap) kb (zq1 ka a s.heap).objs.size b 0:=f2.at λ o e=>u2 _ o e
 show _/\_
 rw [n2,n3,n4] at g5;rw [n1,n2] at g3;rw [n3] at g4;rw [n1] at e2;rw [n4];exact⟨⟨_,g5,rfl⟩,h _ _ rfl g5 g3 g4 e1 e2 n5 λ c o e=>u2 c o (Nx _ (Nx _ e))⟩
end
section
variable {X:Cx}{pins:List (Addr × Obj)}{σ:List (Option V)}{H:Hp}{s:Shared}{h':Heap}
theorem Inv.turnNew{t':Nat}{ch:List Addr}{n:Addr}{o:HO}(I:Inv X pins σ H s)(hch:∀ b∈ch,pw X pins H b)(k:∀ b ob,b ∉ ch->s.heap.get? b=some ob->h'.get? b=some ob)(hn:s.heap.objs.size<=n)(new:cu X.prog X.w (upd H n o) h' n o) :
  Inv X pins σ (upd H n o) { s with heap:=h',toks:=t' }:=by
 have fn:=I.hok.fresh hn;have up:∀ {b u},H b=some u->upd H n o b=some u:=λ {b u} e=>by rw [ag (cF e fn)];exact e
 have nch:∀ {b u},H b=some u->b ∉ ch:=λ {b u} e z=>by rw [(hch b z).1] at e;cases e
 refine I.step (g':=s.gens) (d':=s.drawn) (ch:=ch) (λ b hb=>⟨(hch b hb).2.2.2.1,(hch b hb).2.1,(hch b hb).2.2.2.2.1,(hch b hb).2.2.2.2.2⟩) (λ b ob _ _ hc e _=>k b ob hc e) (λ b ob _ _ hc e _=>⟨ob.slots,k b ob hc e⟩)
  (λ b ob _ e q=>?_) (λ b ob hc e=>⟨ob,k b ob hc e⟩) (λ _ _ e=>up e) (λ _ _ _ e=>up e) (λ b ps e=>⟨#[],by rw [up e];simp⟩) (λ m hm=>?_) (λ b u e=>?_) I.bare
 ·rw [ag (NQ (NS (NB e) hn))];exact q
 ·obtain⟨ol,es,ep,ho,r⟩:=hm;exact⟨ol,es,ep,k _ ol (λ z=>(hch _ z).2.1 rfl) ho,r⟩
 ·by_cases hb:b=n
  ·subst hb;rw [au] at e;cases e;exact new
  ·rw [ag hb] at e;refine(I.hok b u e).stay (λ c v hc q=>k c v ?_ q) (λ c q=>up q) λ c xs q=>up q
   rcases hc with rfl|hc
   ·exact nch e
   ·exact nch hc
theorem Inv.turnL{t':Nat}{ch:List Addr}(I:Inv X pins σ H s)(hch:∀ b∈ch,pw X pins H b)(k:∀ b ob,b ∉ ch->s.heap.get? b=some ob->h'.get? b=some ob):Inv X pins σ H { s with heap:=h',toks:=t' }:=by
 have nch:∀ {b u},H b=some u->b ∉ ch:=λ {b u} e z=>by rw [(hch b z).1] at e;cases e
 refine I.step (g':=s.gens) (d':=s.drawn) (ch:=ch) (λ b hb=>⟨(hch b hb).2.2.2.1,(hch b hb).2.1,(hch b hb).2.2.2.2.1,(hch b hb).2.2.2.2.2⟩) (λ b ob _ _ hc e _=>k b ob hc e) (λ b ob _ _ hc e _=>⟨ob.slots,k b ob hc e⟩)
  (λ _ _ _ _ q=>q) (λ b ob hc e=>⟨ob,k b ob hc e⟩) (λ _ _ e=>e) (λ _ _ _ e=>e) (λ b ps e=>⟨#[],by rw [e];simp⟩) (λ m hm=>?_) (λ b u e=>?_) I.bare
 ·obtain⟨ol,es,ep,ho,r⟩:=hm;exact⟨ol,es,ep,k _ ol (λ z=>(hch _ z).2.1 rfl) ho,r⟩
 ·refine(I.hok b u e).stay (λ c v hc q=>k c v ?_ q) (λ _ q=>q) λ _ _ q=>q
  rcases hc with rfl|hc
  ·exact nch e
  ·exact nch hc
end
def SqK(k:Bool)(H:Hp)(a:Addr)(xs:List V):Prop:=match k with
 | true=>H a=some (.tup xs)
 | false=>H a=some (.lst xs)
theorem SqK.ne{k:Bool}{H:Hp}{a b:Addr}{xs:List V}(h:SqK k H a xs)(e:H b=none):a ≠ b:=λ z=>by
 subst z;cases k
 ·rw [show H a=some (.lst xs) from h] at e;cases e
 ·rw [show H a=some (.tup xs) from h] at e;cases e
theorem Inv.sq{X:Cx}{pins:List (Addr × Obj)}{σ:St}{H:Hp}{s:Shared}{k:Bool}{a:Addr}{xs:List V}(I:Inv X pins σ H s)(h:SqK k H a xs):∃ its:List Value,bq xs its/\SeqAt s.heap k a its.toArray:=by
 cases k
 ·obtain⟨its,r,p,_⟩:=I.list (SqL.of h);exact⟨its,r,p.isList⟩
 ·obtain⟨its,r,p,_⟩:=I.tuple (SqT.of h);exact⟨its,r,p⟩
def Itz(ka kb:Bool)(a b:Addr)(xs ys:List V):It:=
 ⟨λ i H=>SqK ka H a xs/\SqK kb H b ys/\i < xs.length/\i < ys.length,λ i H x H'=>∃ p u v,H p=none/\x=.ref p/\xs[i]? = some u/\ys[i]? = some v/\H'=upd H p (.tup [u,v]),λ i H=>SqK ka H a xs/\SqK kb H b ys/\(xs.length<=i\/ys.length<=i)⟩
def Tnz(ka kb:Bool)(a b z TI TO p q:Addr)(i:Nat)(h:Heap):Prop:=IsZip h z TI TO .none/\IsPair h TI (.ref p) (.ref q)/\(∃ u v,IsPair h TO u v)/\bz h ka p a i/\bz h kb q b i
theorem yN{P:Program}{w:World}{K:W.Frag}{elts:List Expr}{x1}{tp:Pos}(ka kb:Bool)(a b z TI TO p q:Addr)(xs ys:List V)(nd:[z,TI,TO,p,q].Nodup):yk P w K (.Tuple elts x1 tp) (Itz ka kb a b xs ys) [z,TI,TO,p,q] z (Tnz ka kb a b z TI TO p q) where
 mem:=NK
 obj:=λ i h st c hc=>by
  obtain⟨e1,e2,⟨u,v,e3⟩,e4,e5⟩:=st;simp only [NR,NN,Ob] at hc
  rcases hc with rfl|rfl|rfl|rfl|rfl
  ·exact⟨_,e1,λ v z=>by cases z⟩
  ·exact⟨_,e2,λ v z=>by cases z⟩
  ·exact⟨_,e3,λ v z=>by cases z⟩
  ·obtain⟨o,fs,e,d⟩:=e4.obj;exact⟨o,e,λ v z=>by rw [d] at z;cases z⟩
  ·obtain⟨o,fs,e,d⟩:=e5.obj;exact⟨o,e,λ v z=>by rw [d] at z;cases z⟩
 keep:=λ i h h' st k=>by
  obtain⟨e1,e2,⟨u,v,e3⟩,e4,e5⟩:=st;exact⟨k z (by simp) _ e1,k TI (by simp) _ e2,⟨u,v,k TO (by simp) _ e3⟩,e4.at λ o e=>k p (by simp) o e,e5.at λ o e=>k q (by simp) o e⟩
 item:=by
  intro X hP hw hK hc i pins s σ H E I hf st hg;subst hP hw hK;obtain⟨e1,e2,⟨u0,v0,e3⟩,e4,e5⟩:=st;obtain⟨ha,hb,l1,l2⟩:=hg;obtain⟨as,ra,sa⟩:=I.sq ha;obtain⟨bs,rb,sb⟩:=I.sq hb;have hx:xs[i]? = some xs[i]:=Nw l1;have hy:ys[i]? = some ys[i]:=Nw l2;obtain⟨u,hu,ru⟩:=ra.get hx;obtain⟨v,hv,rv⟩:=rb.get hy;have free:∀ c∈[z,TI,TO,p,q],H c=none:=λ c h=>(hf c h).1;have naz:∀ c∈[z,TI,TO,p,q],a ≠ c:=λ c h=>ha.ne (free c h);have nbz:∀ c∈[z,TI,TO,p,q],b ≠ c:=λ c h=>hb.ne (free c h);simp only [O8,NR,NN,Ob,Qb,Pz,and_true,P0] at nd;obtain⟨⟨z1,z2,z3,z4⟩,⟨t1,t2,t3⟩,⟨w1,w2⟩,y1⟩:=nd;have S:=dS (prog:=X.prog) (w:=X.w) ka p a (naz p (by simp)) as.toArray;have T:=dS (prog:=X.prog) (w:=X.w) kb q b (nbz q (by simp)) bs.toArray;have D:eY z TI TO p q [p,a] [q,b]:=⟨⟨NM z1,t1,t2,t3⟩,z2,by simp [z3,NM (naz z (by simp))],by simp [z4,NM (nbz z (by simp))],by simp [w1,NM (naz TO (by simp))],by simp [w2,NM (nbz TO (by simp))],by simp [y1,NM (nbz p (by simp))],by simp [NM y1,NM (naz q (by simp))]⟩;refine fT S T D e1 e2 e3 ⟨e4,sa⟩ ⟨e5,sb⟩ (x:=u) (y:=v) (by simpa using hu) (by simpa using hv) λ h1 c1 c2 c3 c4 c5 c6 c7=>?_;refine⟨_,rfl,wpAny_letOwnedTupleGo_zip (s:={ s with heap:=h1 }) c1 λ h2 d1 d2=>?_⟩;have lt:z < s.heap.objs.size:=NB e1;have kp:∀ c o,c ∉ [z,TO,p,q]->s.heap.get? c=some o->h2.get? c=some o:=λ c o hc e=>d2.extBut _ _ (λ q=>hc (by simp [q])) (c7 c o hc e);have hn:h2.get? s.heap.objs.size=some { cls:=.type "tuple",data:=.seq #[u,v] }:=d2.extBut _ _ (Ox lt) c5;have I2:Inv X pins σ (upd H s.heap.objs.size (.tup [xs[i],ys[i]])) { s with heap:=h2 }:=I.turnNew (t':=s.toks) (ch:=[z,TO,p,q]) (λ c hc=>hf c (by simp only [NR,NN,Ob] at hc ⊢;rcases hc with h|h|h|h<;>simp [h])) kp (NF _) ⟨(show 2<=sizeLine by decide),[u,v],.cons ru (.cons rv .nil),⟨_,hn,rfl,_,rfl⟩⟩;have fr:H s.heap.objs.size=none:=I.hok.fresh (NF _);refine⟨.ref s.heap.objs.size,_,I2,rfl,⟨_,_,_,fr,rfl,hx,hy,rfl⟩,⟨d1,d2.extBut _ _ (NM z1) (c7 TI _ (by simp [NM z1,t1,t2,t3]) e2),⟨u,v,d2.extBut _ _ (NM z2) c2⟩,c3.1.at λ o e=>d2.extBut _ _ (NM z3) e,c4.1.at λ o e=>d2.extBut _ _ (NM z4) e⟩,λ c hc=>?_⟩
  obtain⟨o,ho,_⟩:∃ o,s.heap.get? c=some o/\True:=by
   simp only [NR,NN,Ob] at hc
   rcases hc with rfl|rfl|rfl|rfl|rfl
   ·exact⟨_,e1,trivial⟩
   ·exact⟨_,e2,trivial⟩
   ·exact⟨_,e3,trivial⟩
   ·obtain⟨o,_,e,_⟩:=e4.obj;exact⟨o,e,trivial⟩
   ·obtain⟨o,_,e,_⟩:=e5.obj;exact⟨o,e,trivial⟩
  rw [ag (NQ (NB ho))];exact free c hc
 done:=by
  intro X hP hw hK hc i pins s σ H E I hf st hg;subst hP hw hK;obtain⟨e1,e2,⟨u0,v0,e3⟩,e4,e5⟩:=st;obtain⟨ha,hb,l⟩:=hg;obtain⟨as,ra,sa⟩:=I.sq ha;obtain⟨bs,rb,sb⟩:=I.sq hb;have free:∀ c∈[z,TI,TO,p,q],H c=none:=λ c h=>(hf c h).1;have naz:∀ c∈[z,TI,TO,p,q],a ≠ c:=λ c h=>ha.ne (free c h);have nbz:∀ c∈[z,TI,TO,p,q],b ≠ c:=λ c h=>hb.ne (free c h);simp only [O8,NR,NN,Ob,Qb,Pz,and_true,P0] at nd;obtain⟨⟨z1,z2,z3,z4⟩,⟨t1,t2,t3⟩,⟨w1,w2⟩,y1⟩:=nd;have S:=dS (prog:=X.prog) (w:=X.w) ka p a (naz p (by simp)) as.toArray;have T:=dS (prog:=X.prog) (w:=X.w) kb q b (nbz q (by simp)) bs.toArray;have D:eY z TI TO p q [p,a] [q,b]:=⟨⟨NM z1,t1,t2,t3⟩,z2,by simp [z3,NM (naz z (by simp))],by simp [z4,NM (nbz z (by simp))],by simp [w1,NM (naz TO (by simp))],by simp [w2,NM (nbz TO (by simp))],by simp [y1,NM (nbz p (by simp))],by simp [NM y1,NM (naz q (by simp))]⟩;have la:=ra.length;have lb:=rb.length;refine gD (I.ok.hd hc) S T D e1 e2 e3 ⟨e4,sa⟩ ⟨e5,sb⟩ (l.imp (λ h=>by simp;omega) λ h=>by simp;omega) λ h1 kp=>⟨rfl,I.turnL (t':=s.toks) (ch:=[z,TO,p,q]) (λ c hc=>hf c (by simp only [NR,NN,Ob] at hc ⊢;rcases hc with h|h|h|h<;>simp [h])) kp⟩
 self:=λ _ _ _ _ _ st h=>Qy st.1 h
def kZ2(ka:Bool)(a b:Addr)(xs:List V)(H:Hp)(R:It->Hp->Prop):HO->Prop:=λ o=>match o with
 | .lst ys=>R (Itz ka false a b xs ys) H
 | .tup ys=>R (Itz ka true a b xs ys) H
 | _=>False
theorem Ec(ka:Bool)(a b:Addr)(xs ys:List V)(H:Hp)(R:It->Hp->Prop):kZ2 ka a b xs H R (.lst ys)=R (Itz ka false a b xs ys) H:=rfl
theorem Eb(ka:Bool)(a b:Addr)(xs ys:List V)(H:Hp)(R:It->Hp->Prop):kZ2 ka a b xs H R (.tup ys)=R (Itz ka true a b xs ys) H:=rfl
def kZ1(a b:Addr)(H:Hp)(R:It->Hp->Prop):HO->Prop:=λ o=>match o with
 | .lst xs=>aF (H b) (kZ2 false a b xs H R)
 | .tup xs=>aF (H b) (kZ2 true a b xs H R)
 | _=>False
theorem Ee(a b:Addr)(xs:List V)(H:Hp)(R:It->Hp->Prop):kZ1 a b H R (.lst xs)=aF (H b) (kZ2 false a b xs H R):=rfl
theorem Ed(a b:Addr)(xs:List V)(H:Hp)(R:It->Hp->Prop):kZ1 a b H R (.tup xs)=aF (H b) (kZ2 true a b xs H R):=rfl
def kZ0(R:It->Hp->Prop):List V->Hp->Prop:=λ vs H=>match vs with
 | [.ref a,.ref b]=>aF (H a) (kZ1 a b H R)
 | _=>False
theorem Lm(R:It->Hp->Prop)(a b:Addr)(H:Hp):kZ0 R [.ref a,.ref b] H=aF (H a) (kZ1 a b H R):=rfl
def MH(ta:TA):TI:=λ σ H R=>ta σ H (kZ0 R)
theorem Jk(ta:TA)(σ:St)(H:Hp)(R:It->Hp->Prop):MH ta σ H R=ta σ H (kZ0 R):=rfl
theorem Jt{R:It->Hp->Prop}{vs:List V}{H:Hp}(h:kZ0 R vs H):∃ a b ka kb xs ys,vs=[.ref a,.ref b]/\SqK ka H a xs/\SqK kb H b ys/\R (Itz ka kb a b xs ys) H:=by
 unfold kZ0 at h;split at h
 ·rename_i a b;obtain⟨o,e,h⟩:=aj h;unfold kZ1 at h;split at h
  ·rename_i xs;obtain⟨o',e',h⟩:=aj h;unfold kZ2 at h;split at h
   ·exact⟨a,b,false,false,xs,_,rfl,e,e',h⟩
   ·exact⟨a,b,false,true,xs,_,rfl,e,e',h⟩
   ·exact h.elim
  ·rename_i xs;obtain⟨o',e',h⟩:=aj h;unfold kZ2 at h;split at h
   ·exact⟨a,b,true,false,xs,_,rfl,e,e',h⟩
   ·exact⟨a,b,true,true,xs,_,rfl,e,e',h⟩
   ·exact h.elim
  ·exact h.elim
 ·exact h.elim
section
variable {X:Cx}
theorem Hn{a b:Expr}{elts:List Expr}{x1}{tp:Pos}{ta:TA}{p pos:Pos}(hg:Gl X "zip")(hm:X.mg "zip"=none)(ha:PA X [a,b] ta)(hs:starEach [a,b] X.env=[(false,eval a X.env),(false,eval b X.env)]:=by rfl)(hs2:starEach [b] X.env=[(false,eval b X.env)]:=by rfl) :
  PI X (.Tuple elts x1 tp) (.Call (.Name "zip" p) [a,b] [] pos) (MH ta):=by
 intro pins s σ H R I h;refine Call_ (eC I hg hm (show bootBuiltins "zip"=some (.type "zip") by decide +kernel) (Of (thn (ha pos pins s σ H _ I h) λ us s1 ⟨vs,H1,I1,r1,q1⟩=>?_) (by rw [hs,hs2]) (by rw [hs2];rfl)));obtain⟨a,b,ka,kb,xs,ys,rfl,sa,sb,q⟩:=Jt q1
 cases r1 with
 | cons r rr=>
  cases rr with
  | cons r' rr=>
   cases rr;cases r;cases r';obtain⟨as,ra,s1a⟩:=I1.sq sa;obtain⟨bs,rb,s1b⟩:=I1.sq sb;refine vH s1a s1b λ h' n hn e1 e2 e3 e4 e5 e6 e7=>?_;have I2:Inv X pins σ H1 { s1 with heap:=h' }:=I1.kept (t':=s1.toks) e7;refine Qy (s:={ s1 with heap:=h' }) e1 ⟨n+4,[n+4,n+2,n+3,n,n+1],_,_,H1,rfl,I2,yN ka kb a b (n+4) (n+2) (n+3) n (n+1) xs ys (by simp),⟨e1,e2,⟨_,_,e3⟩,e4,e5⟩,λ c hc=>?_,q⟩
   have hle:s1.heap.objs.size<=c:=by
    rw [←hn];simp only [NR,NN,Ob] at hc
    rcases hc with rfl|rfl|rfl|rfl|rfl
    ·exact OD ..
    ·exact OD ..
    ·exact OD ..
    ·exact NF _
    ·exact OD ..
   exact I1.fpOk hle (I1.hok.fresh hle)
end
def JW(te:TE)(σ2:St)(N1:VK)(N0:Hp->Prop):Bool->Hp->Prop:=λ b H=>if b=true then te σ2 H N1 else N0 H
theorem bx(te:TE)(σ2:St)(N1:VK)(N0:Hp->Prop)(b:Bool)(H:Hp):JW te σ2 N1 N0 b H=(if b=true then te σ2 H N1 else N0 H):=rfl
def kCm(k:Nat)(tt:TT)(te:TE)(σ:St)(N1:VK)(N0:Hp->Prop):St->Hp->Prop:=λ σ2 H=>(∃ vs:St,vs.length=k/\σ2=vs++σ)/\tt σ2 H (JW te σ2 N1 N0)
theorem bG(tt:TT)(te:TE)(σ:St)(N1:VK)(N0:Hp->Prop)(a:Option V)(H:Hp):kCm 1 tt te σ N1 N0 (a::σ) H=tt (a::σ) H (JW te (a::σ) N1 N0):=propext ⟨λ h=>h.2,λ h=>⟨⟨[a],rfl,rfl⟩,h⟩⟩
theorem d8(tt:TT)(te:TE)(σ:St)(N1:VK)(N0:Hp->Prop)(a b:Option V)(H:Hp):kCm 2 tt te σ N1 N0 (a::b::σ) H=tt (a::b::σ) H (JW te (a::b::σ) N1 N0):=propext ⟨λ h=>h.2,λ h=>⟨⟨[a,b],rfl,rfl⟩,h⟩⟩
theorem DP(σ:St):List.replicate 1 (none:Option V)++σ=none::σ:=rfl
theorem DO(σ:St):List.replicate 2 (none:Option V)++σ=none::none::σ:=rfl
def Al{α:Type}(R:α->V->Prop)(zs:List α)(ys:List V):Prop:=ys.length=zs.length/\∀ (i:Nat) z y,zs[i]? = some z->ys[i]? = some y->R z y
theorem Al.nil{α:Type}{R:α->V->Prop}:Al R [] []:=⟨rfl,λ i z y h=>by simp at h⟩
theorem Al.snoc{α:Type}{R:α->V->Prop}{zs:List α}{ys:List V}{z:α}{y:V}(h:Al R zs ys)(r:R z y):Al R (zs++[z]) (ys++[y]):=by
 refine⟨by simp [h.1],λ i z' y' h1 h2=>?_⟩
 by_cases hi:i < zs.length
 ·rw [Oq hi] at h1;rw [Oq (by rw [h.1];exact hi)] at h2;exact h.2 i z' y' h1 h2
 ·rw [Oh (by omega)] at h1;rw [Oh (by rw [h.1];omega),h.1] at h2
  by_cases h0:i - zs.length=0
  ·rw [h0] at h1 h2;simp at h1 h2;subst h1;subst h2;exact r
  ·rw [O1 (by simp;omega)] at h1;cases h1
theorem Al.imp{α:Type}{R S:α->V->Prop}{zs:List α}{ys:List V}(h:Al R zs ys)(f:∀ z y,R z y->S z y):Al S zs ys:=⟨h.1,λ i z y a b=>f z y (h.2 i z y a b)⟩
theorem Al.map{α:Type}{f:α->V}{zs:List α}{ys:List V}(h:Al (λ z y=>y=f z) zs ys):ys=zs.map f:=by
 apply Rw;intro i;rw [NL]
 by_cases hi:i < zs.length
 ·have e1:zs[i]? = some zs[i]:=Nw hi;have e2:ys[i]? = some (ys[i]'(by rw [h.1];exact hi)):=Nw _;rw [e1,e2,h.2 i _ _ e1 e2];rfl
 ·have:=h.1;rw [O1 (show ys.length<=i by omega),O1 (show zs.length<=i by omega)];rfl
section
variable {k:Nat}{g:TG}{tt:TT}{te:TE}{σ:St}{Q:VK}{H:Hp}{K:PySem.W.Frag}
theorem iM{α:Type}{J:It}(zs:List α)(c:α->Bool)(P:α->V->Hp->Prop)(R:Addr->α->V->Hp->Prop)
  (hgo:∀ i z H',zs[i]? = some z->Ext H H'->J.go i H'/\∀ x H'',J.yld i H' x H''->Ext H' H''/\P z x H'')
  (hst:∀ H',Ext H H'->J.stop zs.length H')
  (hR1:∀ D z y H1 H2,R D z y H1->Ext H1 H2->R D z y H2) (hR2:∀ D z y H1 o,R D z y H1->R D z y (upd H1 D o))
  (hl:zs.length<=sizeLine)
  (hs:∀ D z x H' N1 N0,z∈zs->H D=none->Ext H H'->(∃ ys,H' D=some (.lst ys))->P z x H'->(c z=true->∀ y H'',Ext H' H''->R D z y H''->N1 y H'')->(c z=false->∀ H'',Ext H' H''->N0 H'')->g x (List.replicate k none++σ) H' (kCm k tt te σ N1 N0))
  (hd:∀ D ys H',H D=none->Ext H H'->H' D=some (.lst ys)->Al (λ z y=>R D z y H') (zs.filter c) ys->Q (.ref D) H'):yv k g tt te σ Q J H:=by
 intro D hD;refine⟨λ i m ys H'=>m=zs.length - i/\i<=zs.length/\Ext H H'/\H' D=some (.lst ys)/\Al (λ z y=>R D z y H') ((zs.take i).filter c) ys,⟨zs.length,by simp,OL _,Ext.new hD,au,by simpa using Al.nil⟩,?_⟩;rintro i m ys H' ⟨rfl,hi,e,hD',al⟩
 by_cases hlt:i < zs.length
 ·have hz:zs[i]? = some zs[i]:=Nw hlt;obtain⟨go,y⟩:=hgo i zs[i] H' hz e;have tk:zs.take (i+1)=zs.take i++[zs[i]]:=by rw [Q9,hz];rfl
  have ln:ys.length < sizeLine:=by
   have h1:=al.1;have h2:=Qm c (zs.take i);simp only [N8] at h2;omega
  refine .inr ⟨go,λ ys' H2=>Ext H H2/\H2 D=some (.lst ys')/\Al (λ z y=>R D z y H2) ((zs.take (i+1)).filter c) ys',λ ys' H2 p=>⟨zs.length - (i+1),by omega,rfl,hlt,p⟩,λ x H2 z=>?_⟩;obtain⟨e2,p2⟩:=y x H2 z;refine hs D zs[i] x H2 (kC3 D ys _) _ (Pa hlt) hD (e.trans e2) ⟨ys,e2.at hD'⟩ p2 (λ hc y H3 e3 r3=>?_) λ hc H3 e3=>?_
  ·refine⟨e3.at (e2.at hD'),ln,(e.trans (e2.trans e3)).put hD,au,?_⟩;rw [tk,QB,show [zs[i]].filter c=[zs[i]] by simp [hc]];exact Al.snoc (al.imp λ z y r=>hR2 _ _ _ _ _ (hR1 _ _ _ _ _ r (e2.trans e3))) (hR2 _ _ _ _ _ r3)
  ·refine⟨e.trans (e2.trans e3),(e2.trans e3).at hD',?_⟩;rw [tk,QB,show [zs[i]].filter c=[] by simp [hc],QV];exact al.imp λ z y r=>hR1 _ _ _ _ _ r (e2.trans e3)
 ·have e':i=zs.length:=by omega
  subst e';rw [OE] at al;exact .inl ⟨hst H' e,hd D ys H' hD e hD' al⟩
theorem bP{α:Type}{J:It}(zs:List α)(c:α->Bool)(f:α->V)(P:α->V->Hp->Prop)
  (hgo:∀ i z H',zs[i]? = some z->Ext H H'->J.go i H'/\∀ x H'',J.yld i H' x H''->Ext H' H''/\P z x H'')
  (hst:∀ H',Ext H H'->J.stop zs.length H') (hl:zs.length<=sizeLine)
  (hs:∀ D z x H' N1 N0,z∈zs->H D=none->Ext H H'->P z x H'->(c z=true->∀ H'',Ext H' H''->N1 (f z) H'')->(c z=false->∀ H'',Ext H' H''->N0 H'')->g x (List.replicate k none++σ) H' (kCm k tt te σ N1 N0))
  (hd:∀ D H',H D=none->Ext H H'->H' D=some (.lst ((zs.filter c).map f))->Q (.ref D) H'):yv k g tt te σ Q J H:=
 iM zs c P (λ _ z y _=>y=f z) hgo hst (λ _ _ _ _ _ r _=>r) (λ _ _ _ _ _ r=>r) hl (λ D z x H' N1 N0 hz hD e _ p k1 k0=>hs D z x H' N1 N0 hz hD e p (λ hc H'' e'=>k1 hc _ H'' e' rfl) k0) λ D ys H' hD e hD' al=>hd D H' hD e (by rw [←al.map];exact hD')
theorem eX{lo:Int}{n:Nat}:(∀ i z H',(List.range n)[i]? = some z->Ext H H'->(Itr lo n).go i H'/\∀ x H'',(Itr lo n).yld i H' x H''->Ext H' H''/\x=.int (lo+(z:Nat)))/\∀ H',Ext H H'->(Itr lo n).stop (List.range n).length H':=by
 refine⟨λ i z H' hz _=>?_,λ H' _=>by simp [Itr]⟩;obtain⟨h1,h2⟩:=Ny.mp hz;have e:i=z:=by simpa using h2
 subst e;exact⟨(show i < n by simpa using h1),λ x H'' y=>⟨by rw [y.1];exact Ext.refl _,y.2⟩⟩
theorem qO{a:Addr}{xs:List V}(h:H a=some (.lst xs)):(∀ i z H',xs[i]? = some z->Ext H H'->(Itl K a).go i H'/\∀ x H'',(Itl K a).yld i H' x H''->Ext H' H''/\(x=z/\H'' a=some (.lst xs)))/\∀ H',Ext H H'->(Itl K a).stop xs.length H':=
 ⟨λ i z H' hz e=>⟨⟨xs,z,SqL.of (e.at h),hz⟩,λ x H'' y=>⟨by rw [y.1];exact Ext.refl _,NX ((y.2 xs (SqL.of (e.at h))).symm.trans hz),by rw [y.1];exact e.at h⟩⟩,λ H' e=>⟨xs,SqL.of (e.at h),NF _⟩⟩
theorem SqK.ext{kk:Bool}{H H':Hp}{a:Addr}{xs:List V}(h:SqK kk H a xs)(e:Ext H H'):SqK kk H' a xs:=by
 cases kk
 ·exact e.at (show H a=some (.lst xs) from h)
 ·exact e.at (show H a=some (.tup xs) from h)
def BN(z:V × V)(x:V)(H:Hp):Prop:=∃ p,x=.ref p/\H p=some (.tup [z.1,z.2])
theorem kB{ka kb:Bool}{a b:Addr}{xs ys:List V}(ha:SqK ka H a xs)(hb:SqK kb H b ys):(∀ i z H',(xs.zip ys)[i]? = some z->Ext H H'->(Itz ka kb a b xs ys).go i H'/\∀ x H'',(Itz ka kb a b xs ys).yld i H' x H''->Ext H' H''/\BN z x H'')/\∀ H',Ext H H'->(Itz ka kb a b xs ys).stop (xs.zip ys).length H':=by
 refine⟨λ i z H' hz e=>?_,λ H' e=>⟨ha.ext e,hb.ext e,?_⟩⟩
 ·obtain⟨h1,h2⟩:=Ny.mp hz;rw [Pu] at h1;refine⟨⟨ha.ext e,hb.ext e,by omega,by omega⟩,λ x H'' y=>?_⟩;obtain⟨p,u,v,hp,rfl,hu,hv,rfl⟩:=y;refine⟨Ext.new hp,p,rfl,?_⟩;rw [au];rw [Nw (by omega)] at hu hv;cases hu;cases hv;rw [←h2,List.getElem_zip]
 ·rw [Pu];omega
theorem pZ{tb:TS}{nx:St->Hp->Prop}{rt:VK}{bk ct:St->Hp->Prop}{ka kb:Bool}{a b:Addr}{xs ys:List V}(Pv:Nat->St->Hp->Prop)(h0:Pv 0 σ H)(hl:∀ i σ H,Pv i σ H->SqK ka H a xs/\SqK kb H b ys)
  (hs:∀ i u v p σ H H',xs[i]? = some u->ys[i]? = some v->Pv i σ H->H p=none->Ext H H'->H' p=some (.tup [u,v])->g (.ref p) σ H' (pC tb ⟨Pv (i+1),rt,nx,Pv (i+1)⟩)) (hd:∀ σ H,Pv (min xs.length ys.length) σ H->nx σ H):BO g tb ⟨nx,rt,bk,ct⟩ σ (Itz ka kb a b xs ys) H:=by
 refine⟨λ i m σ H=>m=min xs.length ys.length - i/\i<=min xs.length ys.length/\Pv i σ H,⟨min xs.length ys.length,by simp,OL _,h0⟩,?_⟩;rintro i m σ H ⟨rfl,hi,p⟩;obtain⟨qa,qb⟩:=hl i σ H p
 by_cases hlt:i < min xs.length ys.length
 ·refine .inr ⟨⟨qa,qb,by omega,by omega⟩,Pv (i+1),λ σ' H' p'=>⟨min xs.length ys.length - (i+1),by omega,rfl,hlt,p'⟩,λ x H' y=>?_⟩;obtain⟨r,u,v,hr,rfl,hu,hv,rfl⟩:=y;exact hs i u v r σ H _ hu hv p hr (Ext.new hr) au
 ·have e:i=min xs.length ys.length:=by omega
  subst e;exact .inl ⟨⟨qa,qb,by omega⟩,hd σ H p⟩
end
def GO(sc:Scope)(N:List Str)(scope:Scope)(N':List Str)(k:Nat):Bool:=
 scope.names.all (λ y=>!(y.2 == .cell)) && (scope.kind == .function) && scope.names.all (λ y=>!(y.2 == .local) || scope.names.lookup y.1 == some .local) && scope.names.all (λ y=>!(y.2 == .free) || sc.names.lookup y.1 == some .cell) && decide (N'.length=k+N.length) &&
  ((N'.drop k).zip N).all (λ p=>(!(scope.names.lookup p.1 == some .free) || decide (p.1=p.2)) && !(scope.names.lookup p.1 == some .local))
theorem aN{X:Cx}{scope:Scope}{N':List Str}{k:Nat}(sc:Scope)(N:List Str)(h1:X.env.scope=sc)(h2:X.N=N)(h:GO sc N scope N' k=true):iV X scope N' k:=by
 unfold GO at h;simp only [Bool.and_eq_true,decide_eq_true_eq] at h;obtain⟨⟨⟨⟨⟨a1,a2⟩,a3⟩,a4⟩,a5⟩,a6⟩:=h;rw [all_eq_true] at a1 a3 a4 a6
 have pr:∀ i x,N'[k+i]? = some x->∃ y,N[i]? = some y/\(x,y)∈(N'.drop k).zip N:=λ i x hx=>by
  have h0:=(Ny.mp hx).1;have hi:i < N.length:=by omega
  have e1:(N'.drop k)[i]? = some x:=by rw [List.getElem?_drop];exact hx
  have e2:N[i]? = some N[i]:=Nw hi;refine⟨_,e2,N6 (i:=i) ?_⟩;rw [Pj];exact⟨e1,e2⟩
 refine⟨λ y hy e=>?_,by simpa using a2,λ y hy e=>?_,λ y hy e=>?_,by rw [h2];exact a5,λ i x hx hf=>?_,λ i x hx hf=>?_⟩
 ·have:=a1 y hy;rw [e] at this;simp at this
 ·have:=a3 y hy;rw [e] at this;simpa using this
 ·have:=a4 y hy;rw [e] at this;rw [h1];simpa using this
 ·obtain⟨y,hy,hm⟩:=pr i x hx;have:=a6 _ hm;simp only [hf] at this;rw [h2,hy];simp at this;rw [this]
 ·obtain⟨y,hy,hm⟩:=pr i x hx;have:=a6 _ hm;simp [hf] at this
def Co(H:Hp)(Q:VK):V->Prop:=λ v=>Q v H
theorem Et(H:Hp)(Q:VK)(v:V):Co H Q v=Q v H:=rfl
def yu(K:W.Frag)(f:Str)(H:Hp)(Q:VK):HO->Prop:=λ o=>match o with
 | .ins C dx fs=>Cls K C/\dG K C f/\aF (fs.lookup f) (Co H Q)
 | _=>False
theorem Eu(K:W.Frag)(f:Str)(H:Hp)(Q:VK)(C dx:Addr)(fs:List (Str × V)):yu K f H Q (.ins C dx fs)=(Cls K C/\dG K C f/\aF (fs.lookup f) (Co H Q)):=rfl
def FP(K:W.Frag)(f:Str)(Q:VK):VK:=λ x H=>match x with
 | .ref a=>aF (H a) (yu K f H Q)
 | _=>False
theorem IT(K:W.Frag)(f:Str)(Q:VK)(a:Addr)(H:Hp):FP K f Q (.ref a) H=aF (H a) (yu K f H Q):=rfl
def Mh(K:W.Frag)(ta:TE)(f:Str):TE:=λ σ H Q=>ta σ H (FP K f Q)
theorem Iq(K:W.Frag)(ta:TE)(f:Str)(σ:St)(H:Hp)(Q:VK):Mh K ta f σ H Q=ta σ H (FP K f Q):=rfl
theorem EV{K:W.Frag}{f:Str}{Q:VK}{x:V}{H:Hp}(h:FP K f Q x H):∃ a C dx fs v,x=.ref a/\H a=some (.ins C dx fs)/\Cls K C/\dG K C f/\fs.lookup f=some v/\Q v H:=by
 unfold FP at h;split at h
 ·obtain⟨o,e,h⟩:=aj h;unfold yu at h;split at h
  ·obtain⟨c,n,h⟩:=h;obtain⟨v,l,q⟩:=aj h;exact⟨_,_,_,_,v,rfl,e,c,n,l,q⟩
  ·exact h.elim
 ·exact h.elim
section
variable {X:Cx}{e o value:Expr}{ta tv:TE}{f:Str}{pos pos':Pos}
theorem Dm(he:PE X e ta)(hb:attributeBase e f X.env (eval e X.env)=eval e X.env):PE X (.Attribute e f pos) (Mh X.K ta f):=by
 intro pins s σ H Q I h;refine Fp hb (thn (he pins s σ H _ I h) λ u s1 ⟨x,H1,I1,rx,q1⟩=>?_);obtain⟨a,C,dx,fs,v,ex,ea,c,n,l,q⟩:=EV q1;subst ex;obtain rfl:u=Value.ref a:=rx;exact tI I1 ea c n l λ u' s2 I2 ru=>⟨v,H1,I2,ru,q⟩
def yq(K:W.Frag)(f:Str)(y:V)(a:Addr)(σ:St)(nx:St->Hp->Prop)(H:Hp):HO->Prop:=λ o=>match o with
 | .ins C dx fs=>Cls K C/\dG K C f/\fs.length < 1000/\nx σ (upd H a (.ins C dx (fC f y fs)))
 | _=>False
theorem Eg(K:W.Frag)(f:Str)(y:V)(a:Addr)(σ:St)(nx:St->Hp->Prop)(H:Hp)(C dx:Addr)(fs:List (Str × V)):yq K f y a σ nx H (.ins C dx fs)=(Cls K C/\dG K C f/\fs.length < 1000/\nx σ (upd H a (.ins C dx (fC f y fs)))):=rfl
def yr(K:W.Frag)(f:Str)(y:V)(σ:St)(nx:St->Hp->Prop):VK:=λ x H=>match x with
 | .ref a=>aF (H a) (yq K f y a σ nx H)
 | _=>False
theorem Ei(K:W.Frag)(f:Str)(y:V)(σ:St)(nx:St->Hp->Prop)(a:Addr)(H:Hp):yr K f y σ nx (.ref a) H=aF (H a) (yq K f y a σ nx H):=rfl
def Cg(K:W.Frag)(f:Str)(ta:TE)(σ:St)(nx:St->Hp->Prop):VK:=λ y H=>ta σ H (yr K f y σ nx)
theorem Ej(K:W.Frag)(f:Str)(ta:TE)(σ:St)(nx:St->Hp->Prop)(y:V)(H:Hp):Cg K f ta σ nx y H=ta σ H (yr K f y σ nx):=rfl
def Gr(K:W.Frag)(ta tv:TE)(f:Str):TS:=λ D σ H=>tv σ H (Cg K f ta σ D.nx)
theorem DW(K:W.Frag)(ta tv:TE)(f:Str)(nx:St->Hp->Prop)(rt:VK)(bk ct:St->Hp->Prop)(σ:St)(H:Hp):Gr K ta tv f ⟨nx,rt,bk,ct⟩ σ H=tv σ H (Cg K f ta σ nx):=rfl
theorem mx(ha:PE X o ta)(hv:PE X value tv)(hs:swapsWith value (some (.Attribute o f pos')) pos.line X.env=pure false):PS X (.Assign [.Attribute o f pos'] value pos) (Gr X.K ta tv f):=by
 intro pins s σ H D I h;refine plainObj_wpAny_Assign_Attribute (thn (hv pins s σ H _ I h) λ u s1 ⟨y,H1,I1,ry,q⟩=>thn (ha pins s1 σ H1 _ I1 q) λ ov s2 ⟨x,H2,I2,rx,q1⟩=>?_) hs;unfold yr at q1;split at q1
 ·rename_i a;obtain rfl:ov=Value.ref a:=rx;obtain⟨ob,ea,q1⟩:=aj q1;unfold yq at q1;split at q1
  ·obtain⟨c,n,l,q2⟩:=q1;exact sF I2 ea c n l ry λ s3 I3=>⟨σ,_,I3,q2⟩
  ·exact q1.elim
 ·exact q1.elim
end
def uN(sp:Sp)(dvs:List V)(E:XK)(a:Addr)(Q:VK):List V->Hp->Prop:=λ vs H=>sp (.ref a::(vs++dvs)) H Q E
theorem sW(sp:Sp)(dvs:List V)(E:XK)(a:Addr)(Q:VK)(H:Hp):uN sp dvs E a Q [] H=sp (.ref a::dvs) H Q E:=rfl
def qW(C:Addr)(m:Str)(sp:Sp)(dvs:List V)(E:XK)(t:TA)(σ:St)(Q:VK)(a:Addr)(H:Hp):HO->Prop:=λ o=>match o with
 | .ins C' dx fs=>C'=C/\fs.lookup m=none/\t σ H (uN sp dvs E a Q)
 | _=>False
theorem zN(C:Addr)(m:Str)(sp:Sp)(dvs:List V)(E:XK)(t:TA)(σ:St)(Q:VK)(a:Addr)(H:Hp)(dx:Addr)(fs:List (Str × V)):qW C m sp dvs E t σ Q a H (.ins C dx fs)=(fs.lookup m=none/\t σ H (uN sp dvs E a Q)):=propext ⟨λ h=>h.2,λ h=>⟨rfl,h⟩⟩
def ua(C:Addr)(m:Str)(sp:Sp)(dvs:List V)(E:XK)(t:TA)(σ:St)(Q:VK):VK:=λ x H=>match x with
 | .ref a=>aF (H a) (qW C m sp dvs E t σ Q a H)
 | _=>False
theorem Ep(C:Addr)(m:Str)(sp:Sp)(dvs:List V)(E:XK)(t:TA)(σ:St)(Q:VK)(a:Addr)(H:Hp):ua C m sp dvs E t σ Q (.ref a) H=aF (H a) (qW C m sp dvs E t σ Q a H):=rfl
def Gs(C:Addr)(m:Str)(sp:Sp)(dvs:List V)(E:XK)(ta:TE)(t:TA):TE:=λ σ H Q=>ta σ H (ua C m sp dvs E t σ Q)
theorem DY(C:Addr)(m:Str)(sp:Sp)(dvs:List V)(E:XK)(ta:TE)(t:TA)(σ:St)(H:Hp)(Q:VK):Gs C m sp dvs E ta t σ H Q=ta σ H (ua C m sp dvs E t σ Q):=rfl
theorem Av{C:Addr}{m:Str}{sp:Sp}{dvs:List V}{E:XK}{t:TA}{σ:St}{Q:VK}{x:V}{H:Hp}(h:ua C m sp dvs E t σ Q x H):∃ a dx fs,x=.ref a/\H a=some (.ins C dx fs)/\fs.lookup m=none/\t σ H λ vs H2=>sp (x::(vs++dvs)) H2 Q E:=by
 unfold ua at h;split at h
 ·obtain⟨o,e,h⟩:=aj h;unfold qW at h;split at h
  ·obtain⟨rfl,l,h⟩:=h;exact⟨_,_,_,rfl,e,l,h⟩
  ·exact h.elim
 ·exact h.elim
section
variable {X:Cx}{CX:CXT}{k:Nat}{f C:Addr}{fd:FuncData}{ps:List Str}{sp:Sp}{dvs:List V}{ds:List Value}{E:XK}{x m:Str}{p pos apos:Pos}{e o:Expr}{es:List Expr}{ta:TE}{t:TA}
theorem wm{pl:Sem Bool}(he:PE X o ta)(c:Cls X.K C)(hm:ym X.K C m f)(F:cq X.prog X.w X.K X.mg X.base CX k f fd ps sp)(hr:iQ k X.A)(hb:aD X.K fd ps ds)(hd:bq dvs ds)(hx:kI CX X E)
  (ht:eval (.Call (.Attribute o m apos) [] [] pos) X.env=(do
   let ov ←eval o X.env
   standAt apos.atName
   let (f,first) ←holding [ov] (getMethod ov m pl)
   callWith pos f first (backTo pos (starEach [] X.env)) (backToKw pos (keywordEach [] X.env))):=by rfl) :
  PE X (.Call (.Attribute o m apos) [] [] pos) (Gs C m sp dvs E ta FH):=by
 intro pins s σ H Q I h;refine W.methodCall_KW (pl:=pl) (thn (he pins s σ H _ I h) λ u s1 ⟨x,H1,I1,rx,q0⟩=>?_) ht;obtain⟨a,dx,fs,ex,ea,l,q⟩:=Av q0;subst ex;obtain rfl:u=Value.ref a:=rx;refine tH I1 ea c hm l ?_;exact W.callWith_K0 (first:=[.ref a]) I1.kIn hm.kp (Bp (us:=[.ref a]) (vs:=[.ref a]) F hr hb hd hx I1 (.cons rfl .nil) q)
end
def Cn(x:Addr)(Q:VK):VK:=λ v H=>v=.non/\Q (.ref x) H
theorem Er(x:Addr)(Q:VK)(H:Hp):Cn x Q .non H=Q (.ref x) H:=propext ⟨λ h=>h.2,λ h=>⟨rfl,h⟩⟩
def uc(C:Addr)(sp:Sp)(dvs:List V)(E:XK)(Q:VK):List V->Hp->Prop:=λ vs H=>∀ (x dx:Addr) (H':Hp),H x=none->H dx=none->dx ≠ x->Ext H H'->H' x=some (.ins C dx [])->H' dx=some (.own x)->sp (.ref x::(vs++dvs)) H' (Cn x Q) E
theorem wK(C:Addr)(sp:Sp)(dvs:List V)(E:XK)(Q:VK)(a b c:V)(H:Hp):uc C sp dvs E Q [a,b,c] H=∀ (x dx:Addr) (H':Hp),H x=none->H dx=none->dx ≠ x->Ext H H'->H' x=some (.ins C dx [])->H' dx=some (.own x)->sp (.ref x::a::b::c::dvs) H' (Cn x Q) E:=rfl
def Gu(C:Addr)(sp:Sp)(dvs:List V)(E:XK)(t:TA):TE:=λ σ H Q=>t σ H (uc C sp dvs E Q)
theorem DZ(C:Addr)(sp:Sp)(dvs:List V)(E:XK)(t:TA)(σ:St)(H:Hp)(Q:VK):Gu C sp dvs E t σ H Q=t σ H (uc C sp dvs E Q):=rfl
section
variable {X:Cx}{CX:CXT}{k:Nat}{f C:Addr}{fd:FuncData}{ps:List Str}{sp:Sp}{dvs:List V}{ds:List Value}{E:XK}{x m:Str}{p pos apos:Pos}{e o:Expr}{es:List Expr}{ta:TE}{t:TA}
theorem uc.to{Q:VK}{vs:List V}{H:Hp}(h:uc C sp dvs E Q vs H):∀ x dx,H x=none->H dx=none->dx ≠ x->sp (.ref x::(vs++dvs)) (upd (upd H dx (.own x)) x (.ins C dx [])) (λ v H2=>v=.non/\Q (.ref x) H2) E:=λ x dx hx hd ne=>
 h x dx _ hx hd ne ((Ext.new hd).put hx) au (by rw [ag ne,au])
theorem zq(M:Mk X.K C f)(F:cq X.prog X.w X.K X.mg X.base CX k f fd ps sp)(hr:iQ (k+1) X.A)(hg:Gl X x)(hm:X.mg x=some (.ref C))(hb:aD X.K fd ps ds)(hd:bq dvs ds)(hx:kI CX X E)
  (ha:PA X (e::es) t) (hdb:(x == ("__debug__":Str))=false:=by decide) (he:starEach (e::es) X.env=(false,eval e X.env)::starEach es X.env:=by rfl) (hpl:(backTo pos (starEach es X.env)).any (·.1)=false:=by rfl) :
  PE X (.Call (.Name x p) (e::es) [] pos) (Gu C sp dvs E t):=by
 intro pins s σ H Q I h;refine Pn (pX I hg hm ?_ hdb);refine W.callWith_K (h₀:=X.base) I.ok.mod.kin M.kp (thn (ha pos pins s σ H _ I h) λ us s1 ⟨vs,H1,I1,r,q⟩=>⟨I1.kIn,?_⟩) he hpl;exact yX M F hr hb hd hx I1 r q.to
end
def vq:Expr->Bool
 | .Starred ..=>false
 | _=>true
theorem CP{e:Expr}{es:List Expr}{env:Env}(h:vq e=true):starEach (e::es) env=(false,eval e env)::starEach es env:=by
 cases e<;>first|rfl|cases h
theorem FJ{X:Cx}{e:Expr}{es:List Expr}{te:TE}{t:TA}(ha:PE X e te)(hr:PA X es t)(hn:vq e=true:=by rfl):PA X (e::es) (yo te t):=Ds ha hr (CP hn)
def dR(H:Hp)(z:List Int)(y:V):Prop:=∃ q,y=.ref q/\H q=some (.tup (z.map V.int))
theorem dR.ext{H H':Hp}{z:List Int}{y:V}(h:dR H z y)(e:Ext H H'):dR H' z y:=by
 obtain⟨q,rfl,hq⟩:=h;exact⟨q,rfl,e.at hq⟩
theorem dR.upd{H:Hp}{z:List Int}{y:V}{p:Addr}{xs:List V}{o:HO}(h:dR H z y)(hp:H p=some (.lst xs)):dR (upd H p o) z y:=by
 obtain⟨q,rfl,hq⟩:=h;exact⟨q,rfl,by rw [ag (λ z=>by rw [z,hp] at hq;cases hq)];exact hq⟩
def bE(H:Hp)(p:Addr)(zs:List (List Int)):Prop:=∃ ys,H p=some (.lst ys)/\Al (dR H) zs ys
theorem bE.ext{H H':Hp}{p:Addr}{zs:List (List Int)}(h:bE H p zs)(e:Ext H H'):bE H' p zs:=by
 obtain⟨ys,hp,al⟩:=h;exact⟨ys,e.at hp,al.imp λ _ _ r=>r.ext e⟩
theorem aq{n:Nat}(h:n<=5000):n<=sizeLine:=OI h (by decide)
theorem fQ{n:Nat}(h:n < 5000):n < sizeLine:=NS h (by decide)
def KA(xs:List V)(H:Hp)(Q:VK):List V->Prop:=λ ys=>xs.length+ys.length<=sizeLine/\∀ (p:Addr) (H':Hp),Ext H H'->H' p=some (.tup (xs++ys))->Q (.ref p) H'
theorem Bh(xs:List V)(H:Hp)(Q:VK)(ys:List V):KA xs H Q ys=(xs.length+ys.length<=sizeLine/\∀ (p:Addr) (H':Hp),Ext H H'->H' p=some (.tup (xs++ys))->Q (.ref p) H'):=rfl
def KC(b:Addr)(H:Hp)(Q:VK):List V->Prop:=λ xs=>aF (iR H b) (KA xs H Q)
theorem Jb(b:Addr)(H:Hp)(Q:VK)(xs:List V):KC b H Q xs=aF (iR H b) (KA xs H Q):=rfl
def Cc:R2:=λ x y H Q=>match x,y with
 | .ref l,.ref b=>aF (iR H l) (KC b H Q)
 | _,_=>False
theorem D9(l b:Addr)(H:Hp)(Q:VK):Cc (.ref l) (.ref b) H Q=aF (iR H l) (KC b H Q):=rfl
theorem rE{X:Cx}:OpR X (binaryOp .Add) Cc:=by
 intro pins s σ H x y v u Q I rx ry h;unfold Cc at h;split at h
 ·rename_i l b;obtain⟨xs,e1,h⟩:=aj h;obtain⟨ys,e2,hz,k⟩:=aj h;have g1:=qQ e1;have g2:=qQ e2
  by_cases hx:xs=[]
  ·subst hx;cases rx;cases ry;obtain⟨its,r1,p1,_⟩:=I.tuple (SqT.of g1);obtain⟨its2,r2,p2,_⟩:=I.tuple (SqT.of g2);obtain⟨⟨cls,dd,data,sl⟩,ho,hc,n,hd⟩:=id p1;obtain⟨⟨cls2,dd2,data2,sl2⟩,ho2,hc2,n2,hd2⟩:=id p2;simp only at hc hd hc2 hd2;subst hc hd hc2 hd2;cases r1
   exact concat_meets ⟨_,ho,rfl⟩ ⟨_,ho2,rfl⟩ noFill_tuple_add seq_tuple_add QS QJ (QI _ _)
    (tuple_addW0 l b #[] its2.toArray n n2 dd dd2 sl sl2 (by simp)) ⟨ho,ho2,show EP X pins σ Q (.ref b) s from ⟨.ref b,H,I,rfl,k b H (Ext.refl _) (by rw [RN];exact g2)⟩⟩
  ·refine Dy pins s σ H (.ref l) (.ref b) v u Q I rx ry ⟨l,b,xs,ys,rfl,rfl,SqT.of g1,SqT.of g2,hx,hz,λ hy=>?_,λ hy p hp=>k p _ (Ext.new hp) au⟩;subst hy;exact k l H (Ext.refl _) (by rw [QV];exact g1)
 ·exact h.elim
theorem fK{K:W.Frag}{H:Hp}{α:Type}{R:α->V->Hp->Prop}(hR:∀ z y H H',R z y H->Ext H H'->R z y H'){l:Addr}{ys:List V}{zs:List α}(h:H l=some (.lst ys))(al:Al (λ z y=>R z y H) zs ys) :
  (∀ i z H',zs[i]? = some z->Ext H H'->(Itl K l).go i H'/\∀ x H'',(Itl K l).yld i H' x H''->Ext H' H''/\R z x H'')/\∀ H',Ext H H'->(Itl K l).stop zs.length H':=by
 refine⟨λ i z H' hz e=>?_,λ H' e=>⟨ys,SqL.of (e.at h),by rw [al.1];exact NF _⟩⟩;have hi:i < ys.length:=by rw [al.1];exact(Ny.mp hz).1
 have hy:ys[i]? = some ys[i]:=Nw hi;refine⟨⟨ys,ys[i],SqL.of (e.at h),hy⟩,λ x H'' y=>?_⟩;have hx:x=ys[i]:=NX ((y.2 ys (SqL.of (e.at h))).symm.trans hy);refine⟨by rw [y.1];exact Ext.refl _,?_⟩;rw [hx,y.1];exact hR _ _ _ _ (al.2 i z _ hz hy) e
def axP(a:Int × Int)(x:V)(H:Hp):Prop:=∃ q,x=.ref q/\H q=some (.tup [.int a.1,.int a.2])
theorem axP.ext{a:Int × Int}{x:V}{H H':Hp}(h:axP a x H)(e:Ext H H'):axP a x H':=by
 obtain⟨q,rfl,hq⟩:=h;exact⟨q,rfl,e.at hq⟩
theorem ic{H:Hp}{axs:List (Int × Int)}{ys:List V}(al:Al (dR H) (axs.map λ a=>[a.1,a.2]) ys):Al (λ a y=>axP a y H) axs ys:=by
 refine⟨by rw [al.1,Nz],λ i a y ha hy=>?_⟩;obtain⟨q,hq,h⟩:=al.2 i [a.1,a.2] y (by rw [NL,ha];rfl) hy;exact⟨q,hq,h⟩
abbrev fS(h:Heap)(z TI TO:Addr)(f0:Value)(f:Bool):Prop:=
 h.get? z=some { cls:=.type "zip",dict:=none,data:=.fields #[f0,.bool f,.bool false,.ref TI,.ref TO],slots:=#[] }
section
variable {prog:Program}{w:World}{A:Around}{E:Value->Shared->Prop}{s:Shared}
theorem A9{a:Addr}{o:Obj}{Q:Option Obj->Shared->Prop}(ho:s.heap.get? a=some o)(h:Q (some o) s):wpAny (model prog w) A (loadIfAlive a) Q E s:=by
 have h':Q (s.heap.get? a) s:=by rw [ho];exact h
 exact λ _ _ _=>h'
variable {z TI TO i j:Addr}{f g:List Addr}{ti tj:Nat->Heap->Prop}{vi vj:Nat->Option Value}{k m:Nat}{x y:Value}{t:Addr}{fl:Bool}{ot:Obj}
theorem nE{Q:Bool->Shared->Prop}(hz:fS s.heap z TI TO (rawInt t) fl)(ht:s.heap.get? t=some ot)
  (hQ:∀ h',fS h' z TI TO (rawInt t) true->Heap.SameBut z s.heap h'->Q false { s with heap:=h' }):wpAny (model prog w) A (Builtin.SmallTypes.ownedTupleIsFree (.ref z)) Q E s:=by
 unfold Builtin.SmallTypes.ownedTupleIsFree;refine wpAny_bind (wpAny_field hz rfl (x:=rawInt t) rfl ?_)
 show wpAny _ _ (loadIfAlive ((t:Int).toNat) >>= _) _ _ _
 rw [NJ];refine My (A9 ht ?_);simp only [Option.isNone_some,O7,Qj];refine My (Oe hz rfl (x:=.bool fl) rfl ?_)
 cases fl with
 | true=>
  rw [NY (show ¬ ((Value.bool true != Value.bool true)=true) from NO)];exact NA (hQ s.heap hz (Heap.SameBut.refl _ _))
 | false=>
  rw [N7 (show (Value.bool false != Value.bool true)=true from rfl)];exact My (Oo hz (by simp) λ h3 z3 s3=>NA (hQ h3 z3 s3))
theorem vQ(S:Src prog w i f ti vi)(T:Src prog w j g tj vj)(D:eY z TI TO i j f g){Q:Value->Shared->Prop}
  (hz:fS s.heap z TI TO (rawInt t) fl) (ht:s.heap.get? t=some ot) (hTI:IsPair s.heap TI (.ref i) (.ref j)) (hi:ti k s.heap) (hj:tj m s.heap) (hx:vi k=some x) (hy:vj m=some y)
  (hQ:∀ h',fS h' z TI TO (rawInt t) true->ti (k+1) h'->tj (m+1) h'->IsPair h' s.heap.objs.size x y->h'.objs.size=s.heap.objs.size+1->(∀ c o,c ∉ [z,i,j]->s.heap.get? c=some o->h'.get? c=some o)->Q (.ref s.heap.objs.size) { s with heap:=h' }) :
  wpAny (model prog w) A (Builtin.«zip.__next__» ⟨[.ref z],[]⟩) (λ fin s'=>∃ v,fin=.done (.ret v)/\Q v s') E s:=by
 have iz:i ≠ z:=bw S.mem D.zf;have jz:j ≠ z:=bw T.mem D.zg;refine My (m:=field (.ref z) 2) (Oe hz rfl (x:=.bool false) rfl ?_);refine My (m:=field (.ref z) 3) (Oe hz rfl (x:=.ref TI) rfl (My (N3 hTI rfl ?_)));refine My (m:=Builtin.SmallTypes.ownedTupleIsFree (.ref z)) (nE hz ht λ q1 z1 s1=>?_);simp only [O7,Qj];refine My ?_;simp only [List.forIn_toArray,P9,QU];refine My (My (OZ (My (m:=Builtin.SmallTypes.nextOf (.ref i)) (S.item _ k _ x _ _ (S.but hi s1.extBut D.zf) hx λ q2 i2 s2=>NA ?_))));have j2:tj m q2:=T.but (T.but hj s1.extBut D.zg) s2.extBut D.ig;refine NA ?_;refine My (My (OZ (My (m:=Builtin.SmallTypes.nextOf (.ref j)) (T.item _ m _ y _ _ j2 hy λ q3 j3 s3=>NA ?_))));refine NA (NA ?_);refine My (wpAny_newTuple (hsz:=(show 2<=sizeLine by decide)) ?_);have sz:q3.objs.size=s.heap.objs.size:=by rw [s3.1,s2.1,s1.1]
 have z3:fS q3 z TI TO (rawInt t) true:=s3.extBut _ _ jz.symm (s2.extBut _ _ iz.symm z1);have i3:ti (k+1) q3:=S.but i2 s3.extBut D.jf;refine NA ⟨_,rfl,?_⟩
 show Q (.ref q3.objs.size) _
 have n3:IsPair (q3.push { cls:=.type "tuple",data:=.seq #[x,y] }) q3.objs.size x y:=NG _ rfl;have n4:(q3.push { cls:=.type "tuple",data:=.seq #[x,y] }).objs.size=q3.objs.size+1:=Oa ..;rw [sz] at n3 n4;rw [sz];refine hQ _ (Nx _ z3) (S.keep _ _ _ i3 λ c hc o e=>Nx _ e) (T.keep _ _ _ j3 λ c hc o e=>Nx _ e) n3 n4 λ c o hc e=>?_;simp only [NR,NN,Ob,Qb] at hc;exact Nx _ (s3.extBut _ _ hc.2.2 (s2.extBut _ _ hc.2.1 (s1.extBut _ _ hc.1 e)))
theorem yG(hh:A.handled=none)(S:Src prog w i f ti vi)(T:Src prog w j g tj vj)(D:eY z TI TO i j f g){Q:Fin->Shared->Prop}
  (hz:fS s.heap z TI TO (rawInt t) fl) (ht:s.heap.get? t=some ot) (hTI:IsPair s.heap TI (.ref i) (.ref j)) (hi:ti k s.heap) (hj:tj m s.heap) (hxy:vi k=none\/vj m=none)
  (hE:∀ h' e,(∀ c o,c ∉ [z,i,j]->s.heap.get? c=some o->h'.get? c=some o)->(∃ o,h'.get? e=some o/\o.cls=.type "StopIteration")->E (.ref e) { s with heap:=h' }) :
  wpAny (model prog w) A (Builtin.«zip.__next__» ⟨[.ref z],[]⟩) Q E s:=by
 refine My (m:=field (.ref z) 2) (Oe hz rfl (x:=.bool false) rfl ?_);refine My (m:=field (.ref z) 3) (Oe hz rfl (x:=.ref TI) rfl (My (N3 hTI rfl ?_)));refine My (m:=Builtin.SmallTypes.ownedTupleIsFree (.ref z)) (nE hz ht λ q1 z1 s1=>?_);simp only [O7,Qj];refine My ?_;simp only [List.forIn_toArray,P9,QU];refine My (My (OZ (My (m:=Builtin.SmallTypes.nextOf (.ref i)) ?_)))
 cases hx:vi k with
 | none=>
  refine S.fin _ k _ _ _ hh (S.but hi s1.extBut D.zf) hx λ q2 e s2 he=>hE q2 e (λ c o hc q=>?_) he;simp only [NR,NN,Ob,Qb] at hc;exact s2 _ _ hc.2.1 (s1.extBut _ _ hc.1 q)
 | some x=>
  have hy:vj m=none:=hxy.resolve_left (by rw [hx];exact Rc x);refine S.item _ k _ x _ _ (S.but hi s1.extBut D.zf) hx λ q2 i2 s2=>NA (NA ?_);have j2:tj m q2:=T.but (T.but hj s1.extBut D.zg) s2.extBut D.ig;refine My (My (OZ (My (m:=Builtin.SmallTypes.nextOf (.ref j)) (T.fin _ m _ _ _ hh j2 hy λ q3 e s3 he=>hE q3 e (λ c o hc q=>?_) he))));simp only [NR,NN,Ob,Qb] at hc;exact s3 _ _ hc.2.2 (s2.extBut _ _ hc.2.1 (s1.extBut _ _ hc.1 q))
theorem j9(S:Src prog w i f ti vi)(T:Src prog w j g tj vj)(D:eY z TI TO i j f g){Q:Option Value->Shared->Prop}
  (hz:fS s.heap z TI TO (rawInt t) fl) (ht:s.heap.get? t=some ot) (hTI:IsPair s.heap TI (.ref i) (.ref j)) (hi:ti k s.heap) (hj:tj m s.heap) (hx:vi k=some x) (hy:vj m=some y)
  (hQ:∀ h',fS h' z TI TO (rawInt t) true->ti (k+1) h'->tj (m+1) h'->IsPair h' s.heap.objs.size x y->h'.objs.size=s.heap.objs.size+1->(∀ c o,c ∉ [z,i,j]->s.heap.get? c=some o->h'.get? c=some o)->Q (some (.ref s.heap.objs.size)) { s with heap:=h' }) :
  wpAny (model prog w) A (pyNext (.ref z)) Q E s:=by
 have ty:s.TypeIs (.ref z) "zip":=⟨_,hz,rfl⟩;unfold pyNext;exact wpAny_bind (wpAny_attempt (wpAny_callSpecial?_slot (name:=Str.ofString "__next__") ty F.slot_zip_next (wpAny_call_entry F.slot_zip_next ty F.entry_zip_next (vQ S T D hz ht hTI hi hj hx hy λ h' c1 c2 c3 c4 c5 c6=>wpAny_pure (hQ h' c1 c2 c3 c4 c5 c6)) (F.args_zip_next_1 _))))
theorem mI(hh:A.handled=none)(S:Src prog w i f ti vi)(T:Src prog w j g tj vj)(D:eY z TI TO i j f g){Q:Option Value->Shared->Prop}
  (hz:fS s.heap z TI TO (rawInt t) fl) (ht:s.heap.get? t=some ot) (hTI:IsPair s.heap TI (.ref i) (.ref j)) (hi:ti k s.heap) (hj:tj m s.heap) (hxy:vi k=none\/vj m=none)
  (hQ:∀ h',(∀ c o,c ∉ [z,i,j]->s.heap.get? c=some o->h'.get? c=some o)->Q none { s with heap:=h' }):wpAny (model prog w) A (pyNext (.ref z)) Q E s:=by
 have ty:s.TypeIs (.ref z) "zip":=⟨_,hz,rfl⟩;unfold pyNext;refine wpAny_bind (wpAny_attempt (wpAny_callSpecial?_slot (name:=Str.ofString "__next__") ty F.slot_zip_next (wpAny_call_entry F.slot_zip_next ty F.entry_zip_next (yG (show A.in1.handled=none from hh) S T D hz ht hTI hi hj hxy λ h' e kp he=>?_) (F.args_zip_next_1 _))));obtain⟨o,ho,hc⟩:=he;exact wpAny_bind (wpAny_isInstance (T := "StopIteration") (b:=true) ⟨o,ho,hc⟩ isSubtype_stop (wpAny_pure (hQ _ kp)))
def Zst(ka kb:Bool)(a b z TI TO p q:Addr)(as bs:Array Value)(n:Nat)(h:Heap):Prop:=
 (IsZip h z TI TO .none\/∃ (t:Addr) (fl:Bool) (ot:Obj),fS h z TI TO (rawInt t) fl/\h.get? t=some ot/\t ∉ [z,TI,TO,p,q])/\IsPair h TI (.ref p) (.ref q)/\(∃ u v,IsPair h TO u v)/\(bz h ka p a n/\SeqAt h ka a as)/\(bz h kb q b n/\SeqAt h kb b bs)
theorem Zst.keep{ka kb:Bool}{a b z TI TO p q:Addr}{as bs:Array Value}{n:Nat}{h h':Heap}(st:Zst ka kb a b z TI TO p q as bs n h)(k:∀ c o,h.get? c=some o->h'.get? c=some o):Zst ka kb a b z TI TO p q as bs n h':=by
 obtain⟨e0,e1,⟨u,v,e2⟩,⟨e3,e4⟩,e5,e6⟩:=st;refine⟨e0.imp (λ e=>k _ _ e) (λ ⟨t,fl,ot,x1,x2,x3⟩=>⟨t,fl,ot,k _ _ x1,k _ _ x2,x3⟩),k _ _ e1,⟨u,v,k _ _ e2⟩,⟨e3.at λ o e=>k _ o e,e4.at λ o e=>k _ o e⟩,e5.at λ o e=>k _ o e,e6.at λ o e=>k _ o e⟩
variable {ka kb:Bool}{a b p q:Addr}{as bs:Array Value}{n:Nat}
theorem yD(nd:[z,TI,TO,p,q].Nodup)(na:a ∉ [z,TI,TO,p,q])(nb:b ∉ [z,TI,TO,p,q]){Q:Option Value->Shared->Prop}(st:Zst ka kb a b z TI TO p q as bs n s.heap)(hx:as[n]? = some x)(hy:bs[n]? = some y)
  (hQ:∀ h',Zst ka kb a b z TI TO p q as bs (n+1) h'->IsPair h' s.heap.objs.size x y->h'.objs.size=s.heap.objs.size+1->(∀ c o,c ∉ [z,TI,TO,p,q]->s.heap.get? c=some o->h'.get? c=some o)->Q (some (.ref s.heap.objs.size)) { s with heap:=h' }) :
  wpAny (model prog w) A (pyNext (.ref z)) Q E s:=by
 obtain⟨e0,e1,⟨u,v,e2⟩,e3,e4⟩:=st;simp only [O8,NR,NN,Ob,Qb,Pz,and_true,P0] at nd na nb;obtain⟨⟨z1,z2,z3,z4⟩,⟨t1,t2,t3⟩,⟨w1,w2⟩,y1⟩:=nd;obtain⟨a1,a2,a3,a4,a5⟩:=na;obtain⟨b1,b2,b3,b4,b5⟩:=nb;have S:=dS (prog:=prog) (w:=w) ka p a a4 as;have T:=dS (prog:=prog) (w:=w) kb q b b5 bs;have D:eY z TI TO p q [p,a] [q,b]:=⟨⟨NM z1,t1,t2,t3⟩,z2,by simp [z3,NM a1],by simp [z4,NM b1],by simp [w1,NM a3],by simp [w2,NM b3],by simp [y1,NM b4],by simp [NM y1,NM a5]⟩
 have zl:z < s.heap.objs.size/\TI < s.heap.objs.size/\TO < s.heap.objs.size/\p < s.heap.objs.size/\q < s.heap.objs.size:=by
  refine⟨?_,NB e1,NB e2,?_,?_⟩
  ·rcases e0 with e|⟨_,_,_,e,_⟩<;>exact NB e
  ·obtain⟨o,_,e,_⟩:=e3.1.obj;exact NB e
  ·obtain⟨o,_,e,_⟩:=e4.1.obj;exact NB e
 have nw:s.heap.objs.size ∉ [z,TI,TO,p,q]:=by
  simp only [NR,NN,Ob,Qb];exact⟨Ox zl.1,Ox zl.2.1,Ox zl.2.2.1,Ox zl.2.2.2.1,Ox zl.2.2.2.2⟩
 rcases e0 with e0|⟨t,fl,ot,e0,et,nt⟩
 ·refine fT S T D e0 e1 e2 e3 e4 hx hy λ h1 c1 c2 c3 c4 c5 c6 c7=>hQ h1 ⟨.inr ⟨_,false,_,c1,c5,nw⟩,c7 TI _ (by simp [NM z1,t1,t2,t3]) e1,⟨_,_,c2⟩,c3,c4⟩ c5 c6 λ c o hc e=>c7 c o (λ z=>hc ?_) e;simp only [NR,NN,Ob] at z ⊢
  rcases z with h|h|h|h<;>simp [h]
 ·refine j9 S T D e0 et e1 e3 e4 hx hy λ h1 c1 c3 c4 c5 c6 c7=>hQ h1 ⟨.inr ⟨_,true,_,c1,c7 t _ (λ z=>nt ?_) et,nt⟩,c7 TI _ (by simp [NM z1,t2,t3]) e1,⟨_,_,c7 TO _ (by simp [NM z2,w1,w2]) e2⟩,c3,c4⟩ c5 c6 λ c o hc e=>c7 c o (λ z=>hc ?_) e
  all_goals
   simp only [NR,NN,Ob] at z ⊢
   rcases z with h|h|h<;>simp [h]
theorem Cu(hh:A.handled=none)(nd:[z,TI,TO,p,q].Nodup)(na:a ∉ [z,TI,TO,p,q])(nb:b ∉ [z,TI,TO,p,q]){Q:Option Value->Shared->Prop}(st:Zst ka kb a b z TI TO p q as bs n s.heap)(hxy:as[n]? = none\/bs[n]? = none)
  (hQ:∀ h',(∀ c o,c ∉ [z,TI,TO,p,q]->s.heap.get? c=some o->h'.get? c=some o)->Q none { s with heap:=h' }) :
  wpAny (model prog w) A (pyNext (.ref z)) Q E s:=by
 obtain⟨e0,e1,⟨u,v,e2⟩,e3,e4⟩:=st;simp only [O8,NR,NN,Ob,Qb,Pz,and_true,P0] at nd na nb;obtain⟨⟨z1,z2,z3,z4⟩,⟨t1,t2,t3⟩,⟨w1,w2⟩,y1⟩:=nd;obtain⟨a1,a2,a3,a4,a5⟩:=na;obtain⟨b1,b2,b3,b4,b5⟩:=nb;have S:=dS (prog:=prog) (w:=w) ka p a a4 as;have T:=dS (prog:=prog) (w:=w) kb q b b5 bs;have D:eY z TI TO p q [p,a] [q,b]:=⟨⟨NM z1,t1,t2,t3⟩,z2,by simp [z3,NM a1],by simp [z4,NM b1],by simp [w1,NM a3],by simp [w2,NM b3],by simp [y1,NM b4],by simp [NM y1,NM a5]⟩
 rcases e0 with e0|⟨t,fl,ot,e0,et,nt⟩
 ·refine gD hh S T D e0 e1 e2 e3 e4 hxy λ h1 kp=>hQ h1 λ c o hc e=>kp c o (λ z=>hc ?_) e;simp only [NR,NN,Ob] at z ⊢
  rcases z with h|h|h|h<;>simp [h]
 ·refine mI hh S T D e0 et e1 e3 e4 hxy λ h1 kp=>hQ h1 λ c o hc e=>kp c o (λ z=>hc ?_) e;simp only [NR,NN,Ob] at z ⊢
  rcases z with h|h|h<;>simp [h]
structure Got(h:Heap)(lo:Nat)(as bs:Array Value)(ts:List Addr):Prop where
 nd:ts.Nodup
 lo:∀ t∈ts,lo<=t
 get:∀ (m:Nat) t,ts[m]? = some t->∃ x y,as[m]? = some x/\bs[m]? = some y/\IsPair h t x y
theorem Got.lt{h:Heap}{lo:Nat}{as bs:Array Value}{ts:List Addr}(G:Got h lo as bs ts):∀ t∈ts,t < h.objs.size:=λ t ht=>by
 obtain⟨m,hm,rfl⟩:=Pw ht;obtain⟨x,y,_,_,e⟩:=G.get m _ (Nw hm);exact NB e
theorem yE{R:Result->Shared->Prop}(hh:A.handled=none)(nd:[z,TI,TO,p,q].Nodup)(na:a ∉ [z,TI,TO,p,q])(nb:b ∉ [z,TI,TO,p,q])(S lo:Addr)(hS:S ∉ [z,TI,TO,p,q])(aS:a ≠ S)(bS:b ≠ S)(hlo:∀ c∈[z,TI,TO,p,q],lo<=c)(hlS:lo<=S)(hsz:min as.size bs.size<=sizeLine) :
  ∀ (k n:Nat) (s:Shared) (ts:List Addr) (c:Nat),min as.size bs.size - n=k->n<=min as.size bs.size->Zst ka kb a b z TI TO p q as bs n s.heap->s.heap.get? S=some { cls:=.type "list",dict:=none,data:=.seq (ts.map Value.ref).toArray c,slots:=#[] }->ts.length=n->Got s.heap lo as bs ts->S ∉ ts->(∀ t∈ts,t ∉ [z,TI,TO,p,q])->lo<=s.heap.objs.size →
  (∀ h' ts' c',h'.get? S=some { cls:=.type "list",dict:=none,data:=.seq (ts'.map Value.ref).toArray c',slots:=#[] }->ts'.length=min as.size bs.size->Got h' lo as bs ts'->S ∉ ts'->(∀ d o,d < lo->s.heap.get? d=some o->h'.get? d=some o)->R (.ok (.ret .none)) { s with heap:=h' }) →
  codeAny (model prog w) A (.builtin "list.extend.loop" ⟨[.ref S,.ref z,.none],[]⟩) R s:=by
 intro k
 induction k with
 | zero=>
  intro n s ts c hk hn st hL hl G hSt hts hlz hR;refine Pq PySem.F.entry_extend_loop ?_;rw [O0 PL _]
  show wpAny _ A.in1 (pyNext (.ref z) >>= _) _ _ s
  refine My (Cu (show A.in1.handled=none from hh) nd na nb st ?_ λ h' kp=>?_)
  ·by_cases h1:as.size<=n
   ·exact .inl (Array.getElem?_eq_none h1)
   ·exact .inr (Array.getElem?_eq_none (by omega))
  ·exact NA (hR h' ts c (kp _ _ hS hL) (by omega) ⟨G.nd,G.lo,λ m t ht=>by
    obtain⟨x,y,e1,e2,e3⟩:=G.get m t ht;exact⟨x,y,e1,e2,kp _ _ (hts t (N6 ht)) e3⟩⟩ hSt λ d o hd e=>kp d o (λ z=>absurd (hlo d z) (Nat.not_le.mpr hd)) e)
 | succ k ih=>
  intro n s ts c hk hn st hL hl G hSt hts hlz hR;have h1:n < as.size:=by omega
  have h2:n < bs.size:=by omega
  refine Pq PySem.F.entry_extend_loop ?_;rw [O0 PL _]
  show wpAny _ A.in1 (pyNext (.ref z) >>= _) _ _ s
  refine My (yD nd na nb st (PN h1) (PN h2) λ h' st' pr sz kp=>?_);have hL':=kp _ _ hS hL
  show wpAny _ A.in1 (updateSeq S (·.push (.ref s.heap.objs.size)) >>= _) _ _ _
  refine My ?_;have Sn:S ≠ s.heap.objs.size:=NQ (NB hL);have kp2:∀ d o,d ≠ S->h'.get? d=some o->(h'.update S (Obj.mapSeq (·.push (.ref s.heap.objs.size)))).get? d=some o:=λ d o hd e=>(NZ _ _ (NM hd)).trans e
  have G':Got (h'.update S (Obj.mapSeq (·.push (.ref s.heap.objs.size)))) lo as bs (ts++[s.heap.objs.size]):=by
   refine⟨?_,λ t ht=>?_,λ m t ht=>?_⟩
   ·rw [Pb];refine⟨G.nd,by simp,λ x hx y hy=>?_⟩;rw [NC.mp hy];exact NQ (G.lt x hx)
   ·rcases N2.mp ht with ht|ht
    ·exact G.lo t ht
    ·rw [NC.mp ht];exact hlz
   ·by_cases hm:m < ts.length
    ·rw [Oq hm] at ht;obtain⟨x,y,e1,e2,e3⟩:=G.get m t ht;have hmem:=N6 ht;exact⟨x,y,e1,e2,kp2 _ _ (λ z=>hSt (z ▸ hmem)) (kp _ _ (hts t hmem) e3)⟩
    ·rw [Oh (by omega)] at ht
     have h0:m - ts.length=0:=by
      rcases Nat.eq_zero_or_pos (m - ts.length) with h|h
      ·exact h
      ·rw [O1 (by simp;omega)] at ht;cases ht
     rw [h0] at ht;simp at ht;subst ht;have hmn:m=n:=by omega
     subst hmn;exact⟨_,_,PN h1,PN h2,kp2 _ _ (NM Sn) pr⟩
  have nw:s.heap.objs.size ∉ [z,TI,TO,p,q]:=by
   obtain⟨e0,e1,⟨u,v,e2⟩,e3,e4⟩:=st;simp only [NR,NN,Ob,Qb];refine⟨?_,Ox (NB e1),Ox (NB e2),?_,?_⟩
   ·rcases e0 with e|⟨_,_,_,e,_⟩<;>exact Ox (NB e)
   ·obtain⟨o,_,e,_⟩:=e3.1.obj;exact Ox (NB e)
   ·obtain⟨o,_,e,_⟩:=e4.1.obj;exact Ox (NB e)
  have stK:Zst ka kb a b z TI TO p q as bs (n+1) (h'.update S (Obj.mapSeq (·.push (.ref s.heap.objs.size)))):=by
   obtain⟨e0,e1,⟨u,v,e2⟩,⟨e3,e4⟩,e5,e6⟩:=st';simp only [NR,NN,Ob,Qb] at hS;obtain⟨n1,n2,n3,n4,n5⟩:=hS;refine⟨e0.imp (λ e=>kp2 _ _ (NM n1) e) (λ ⟨t,fl,ot,x1,x2,x3⟩=>?_),kp2 _ _ (NM n2) e1,⟨u,v,kp2 _ _ (NM n3) e2⟩,⟨e3.at λ o e=>kp2 _ o (NM n4) e,e4.at λ o e=>kp2 _ o aS e⟩,e5.at λ o e=>kp2 _ o (NM n5) e,e6.at λ o e=>kp2 _ o bS e⟩
   by_cases htS:t=S
   ·subst htS;exact⟨t,fl,_,kp2 _ _ (NM n1) x1,Om _ hL' rfl,x3⟩
   ·exact⟨t,fl,ot,kp2 _ _ (NM n1) x1,kp2 _ _ htS x2,x3⟩
  have hLn:(h'.update S (Obj.mapSeq (·.push (Value.ref s.heap.objs.size)))).get? S=some { cls:=.type "list",dict:=none,data:=.seq ((ts++[s.heap.objs.size]).map Value.ref).toArray (c+1),slots:=#[] }:=by
   rw [Om (Obj.mapSeq (·.push (Value.ref s.heap.objs.size))) hL' rfl];simp [Obj.mapSeq]
  refine OY hL' rfl (NA ⟨Po PL _,ih (n+1) _ (ts++[s.heap.objs.size]) _ (by omega) (by omega) stK hLn (by simp [hl]) G' ?_ ?_ ?_ λ h3 ts3 c3 r1 r2 r3 r4 r5=>hR h3 ts3 c3 r1 r2 r3 r4 λ d o hd e=>r5 d o hd ?_⟩) ?_ ?_
  ·intro hm
   rcases N2.mp hm with hm|hm
   ·exact hSt hm
   ·exact Sn (NC.mp hm)
  ·intro t ht
   rcases N2.mp ht with ht|ht
   ·exact hts t ht
   ·rw [NC.mp ht];exact nw
  ·show lo<=(h'.update S _).objs.size
   rw [Ra,sz];exact OI hlz (Qg _)
  ·exact kp2 _ _ (NQ (NS hd hlS)) (kp d o (λ z=>absurd (hlo d z) (Nat.not_le.mpr hd)) e)
  ·simp;omega
  ·simp;omega
theorem sy:typeLookup (.type "zip") "__len__"=pure none:=by rw [typeLookup_type,builtinLookup_eq_fast];kernel_rfl
theorem qd:typeLookup (.type "zip") "__length_hint__"=pure none:=by rw [typeLookup_type,builtinLookup_eq_fast];kernel_rfl
theorem Zst.ty(st:Zst ka kb a b z TI TO p q as bs n s.heap):s.TypeIs (.ref z) "zip":=by
 rcases st.1 with e|⟨_,_,_,e,_⟩
 ·exact⟨_,e,rfl⟩
 ·exact⟨_,e,rfl⟩
theorem Zst.but{h h':Heap}{S:Addr}(st:Zst ka kb a b z TI TO p q as bs 0 h)(e0:IsZip h z TI TO .none)(hS:S ∉ [z,TI,TO,p,q])(aS:a ≠ S)(bS:b ≠ S)(k:∀ c o,c ≠ S->h.get? c=some o->h'.get? c=some o):Zst ka kb a b z TI TO p q as bs 0 h':=by
 obtain⟨_,e1,⟨u,v,e2⟩,⟨e3,e4⟩,e5,e6⟩:=st;simp only [NR,NN,Ob,Qb] at hS;obtain⟨n1,n2,n3,n4,n5⟩:=hS;exact⟨.inl (k _ _ (NM n1) e0),k _ _ (NM n2) e1,⟨u,v,k _ _ (NM n3) e2⟩,⟨e3.at λ o e=>k _ o (NM n4) e,e4.at λ o e=>k _ o aS e⟩,e5.at λ o e=>k _ o (NM n5) e,e6.at λ o e=>k _ o bS e⟩
theorem m5{Q:Value->Shared->Prop}(hh:A.handled=none)(nd:[z,TI,TO,p,q].Nodup)(na:a ∉ [z,TI,TO,p,q])(nb:b ∉ [z,TI,TO,p,q])(lo:Addr)(hlo:∀ c∈[z,TI,TO,p,q],lo<=c)(hsz:min as.size bs.size<=sizeLine)
  (e0:IsZip s.heap z TI TO .none) (st:Zst ka kb a b z TI TO p q as bs 0 s.heap)
  (hQ:∀ h' ts' c',h'.get? s.heap.objs.size=some { cls:=.type "list",dict:=none,data:=.seq (ts'.map Value.ref).toArray c',slots:=#[] }->ts'.length=min as.size bs.size->Got h' lo as bs ts'->s.heap.objs.size ∉ ts'->(∀ d o,d < lo->s.heap.get? d=some o->h'.get? d=some o)->Q (.ref s.heap.objs.size) { s with heap:=h' }) :
  wpAny (model prog w) A (call (.type "list") [.ref z]) Q E s:=by
 have zl:∀ c∈[z,TI,TO,p,q],c < s.heap.objs.size:=by
  obtain⟨_,e1,⟨u,v,e2⟩,⟨e3,e4⟩,e5,e6⟩:=st;intro c hc;simp only [NR,NN,Ob] at hc
  rcases hc with rfl|rfl|rfl|rfl|rfl
  ·exact NB e0
  ·exact NB e1
  ·exact NB e2
  ·obtain⟨o,_,e,_⟩:=e3.obj;exact NB e
  ·obtain⟨o,_,e,_⟩:=e5.obj;exact NB e
 have hSf:s.heap.objs.size ∉ [z,TI,TO,p,q]:=λ hm=>Ou _ (zl _ hm);have hSz:s.heap.objs.size ≠ z:=λ e=>hSf (by simp [e]);have al:a < s.heap.objs.size:=by obtain⟨o,_,e,_⟩:=st.2.2.2.1.2.obj;exact NB e
 have bl:b < s.heap.objs.size:=by obtain⟨o,_,e,_⟩:=st.2.2.2.2.2.obj;exact NB e
 have hlS:lo<=s.heap.objs.size:=PY (Nat.lt_of_le_of_lt (hlo z (by simp)) (zl z (by simp)))
 refine callType_codes (Q₁:=λ obj s₁=>obj=.ref s.heap.objs.size/\s₁={ s with heap:=s.heap.push { cls:=.type "list",data:=.seq #[] } }) PySem.F.called_list (PySem.F.typeCall_list_1 _) PySem.F.entry_list_init
  (code_list_new _ ⟨rfl,rfl⟩) λ obj s₁ h₁=>?_
 obtain⟨rfl,rfl⟩:=h₁;have hS:(s.heap.push { cls:=.type "list",data:=.seq #[] }).get? s.heap.objs.size=some { cls:=.type "list",data:=.seq #[] }:=NG _ rfl;refine⟨⟨_,hS,rfl⟩,PySem.F.args_list_init_2 _ _,?_⟩
 show wpAny _ A.in1.in1 (do let old ←Builtin.List.listItems (.ref s.heap.objs.size);Builtin.List.listUpdate (.ref s.heap.objs.size) (λ _=>#[]);letGo old.toList.reverse;Builtin.List.listExtendWith (.ref s.heap.objs.size) (.ref z) .none) _ _ _
 refine wpAny_bind ?_;unfold Builtin.List.listItems;refine wpAny_bind (wpAny_seqItems hS rfl (wpAny_pure ?_))
 show wpAny _ A.in1.in1 (updateSeq s.heap.objs.size (λ _=>#[]) >>= λ _=>letGo (#[]:Array Value).toList.reverse >>= λ _=>Builtin.List.listExtendWith (.ref s.heap.objs.size) (.ref z) .none) _ _ _
 refine My (OY hS rfl ?_);have hS₂:=Om (Obj.mapSeq (λ _=>(#[]:Array Value))) hS rfl;refine My (OR ?_);have k1:∀ c o,s.heap.get? c=some o->((s.heap.push { cls:=.type "list",data:=.seq #[] }).update s.heap.objs.size (Obj.mapSeq (λ _=>(#[]:Array Value)))).get? c=some o:=λ c o e=>(NZ _ _ (Ox (NB e))).trans (Nx _ e);have st1:=st.keep k1;have e1:=k1 _ _ e0;have sz1:((s.heap.push { cls:=.type "list",data:=.seq #[] }).update s.heap.objs.size (Obj.mapSeq (λ _=>(#[]:Array Value)))).objs.size=s.heap.objs.size+1:=by rw [Ra,Oa]
 generalize (s.heap.push { cls:=.type "list",data:=.seq #[] }).update s.heap.objs.size (Obj.mapSeq (λ _=>(#[]:Array Value)))=hp at hS₂ k1 st1 e1 sz1;unfold Builtin.List.listExtendWith;have ty1:Shared.TypeIs { s with heap:=hp } (.ref z) "zip":=Zst.ty (s:={ s with heap:=hp }) st1;refine wpAny_bind (wpAny_typeOf ty1 ?_);have h1:Builtin.List.listSameRef (.ref s.heap.objs.size) (.ref z)=false:=by simp [Builtin.List.listSameRef,hSz]
 have h2:(Value.type "zip" == Value.type "list")=false:=by decide
 have h3:(Value.type "zip" == Value.type "tuple")=false:=by decide
 simp only [h1,h2,h3,Bool.or_false,Bool.false_eq_true,if_false];refine wpAny_bind (wpAny_pyIter_zip e1 ?_);refine wpAny_bind (wpAny_holding ?_);unfold Builtin.List.listLengthHint;refine wpAny_bind (wpAny_specialOf ty1 sy ?_)
 show wpAny _ A.in1.in1 (specialOf (Value.ref z) (Str.ofString "__length_hint__") >>= _) _ _ _
 refine My (Qk ty1 qd ?_);refine NA ?_
 show wpAny _ A.in1.in1 (rule "list.extend.makes-room" >>= λ _=>Builtin.List.listTouch (.ref s.heap.objs.size) >>= λ _=>
  again (.builtin "list.extend.loop" ⟨[.ref s.heap.objs.size,.ref z,.none],[]⟩)) _ _ _
 refine My (Qs ?_);refine My ?_
 show wpAny _ A.in1.in1 (updateSeq s.heap.objs.size (·.push .none) >>= λ _=>updateSeq s.heap.objs.size (·.pop)) _ _ _
 refine My (OY hS₂ rfl ?_);have hS₃:=Om (Obj.mapSeq (·.push Value.none)) hS₂ rfl;refine OY (hz:=by seq_fits) hS₃ rfl ?_;have hS₄:=Om (Obj.mapSeq (·.pop)) hS₃ rfl
 have oth:∀ c o,c ≠ s.heap.objs.size->hp.get? c=some o->((hp.update s.heap.objs.size (Obj.mapSeq (·.push Value.none))).update s.heap.objs.size (Obj.mapSeq (·.pop))).get? c=some o:=
  λ c o hc e=>(NZ _ _ (NM hc)).trans ((NZ _ _ (NM hc)).trans e)
 have st4:=st1.but e1 hSf (NQ al) (NQ bl) oth;refine NA ⟨Po PL _,yE (A:=A.in1) hh nd na nb s.heap.objs.size lo hSf (NQ al) (NQ bl) hlo hlS hsz _ 0 _ [] _ rfl (OL _) st4 (by exact hS₄) rfl ⟨P0,λ t h=>absurd h NN,λ m t h=>by simp at h⟩ (by simp) (λ t h=>absurd h NN) ?_ λ h' ts' c' r1 r2 r3 r4 r5=>?_⟩
 ·show lo<=((hp.update _ _).update _ _).objs.size
  rw [Ra,Ra,sz1];exact OI hlS (Qg _)
 ·refine⟨rfl,hQ h' ts' c' r1 r2 r3 r4 λ d o hd e=>r5 d o hd (oth d o (NQ (NB e)) (k1 d o e))⟩
end
section
variable {X:Cx}{pins:List (Addr × Obj)}{σ:St}{s:Shared}
theorem Inv.adoptAll:∀ (ts:List Addr) (zs:List (V × V)){H:Hp},Inv X pins σ H s->ts.length=zs.length->ts.Nodup->(∀ t∈ts,yA X pins t/\H t=none)->(∀ (m:Nat) t z,ts[m]? = some t->zs[m]? = some z->∃ u v,bT z.1 u/\bT z.2 v/\IsPair s.heap t u v) →
  ∃ H',Inv X pins σ H' s/\Ext H H'/\(∀ c,c ∉ ts->H' c=H c)/\∀ (m:Nat) t z,ts[m]? = some t->zs[m]? = some z->H' t=some (.tup [z.1,z.2])
 | [],zs,H,I,_,_,_,_=>⟨H,I,Ext.refl _,λ _ _=>rfl,λ m t z h=>by simp at h⟩
 | t::ts,[],H,I,hl,_,_,_=>by simp at hl
 | t::ts,z::zs,H,I,hl,nd,hn,hp=>by
  rw [O8] at nd;obtain⟨N,ht⟩:=hn t NK;obtain⟨u,v,ru,rv,pr⟩:=hp 0 t z rfl rfl;have I1:=I.adopt (o:=.tup [z.1,z.2]) N ht ⟨(show 2<=sizeLine by decide),[u,v],.cons ru (.cons rv .nil),⟨_,pr,rfl,_,rfl⟩⟩;have up:∀ c∈ts,c ≠ t:=λ c hc e=>nd.1 (e ▸ hc);obtain⟨H',I',e',q',g'⟩:=Inv.adoptAll ts zs I1 (by simpa using hl) nd.2 (λ c hc=>⟨(hn c (NH _ hc)).1,by rw [ag (up c hc)];exact(hn c (NH _ hc)).2⟩) λ m t' z' h1 h2=>hp (m+1) t' z' (by simpa using h1) (by simpa using h2);refine⟨H',I',(Ext.new ht).trans e',λ c hc=>?_,λ m t' z' h1 h2=>?_⟩
  ·rw [q' c (λ h=>hc (NH _ h)),ag (λ h=>hc (by rw [h];exact NK))]
  ·cases m with
   | zero=>
    simp at h1 h2;subst h1;subst h2;rw [q' t nd.1,au]
   | succ m=>exact g' m t' z' (by simpa using h1) (by simpa using h2)
end
def lzK(xs ys:List V)(H:Hp)(Q:VK):Prop:=∀ (D:Addr) (ts:List V) (H':Hp),H D=none->Ext H H'->H' D=some (.lst ts)->Al (λ z y=>BN z y H') (xs.zip ys) ts->Q (.ref D) H'
theorem FR(xs ys:List V)(H:Hp)(Q:VK):lzK xs ys H Q=∀ (D:Addr) (ts:List V) (H':Hp),H D=none->Ext H H'->H' D=some (.lst ts)->Al (λ z y=>BN z y H') (xs.zip ys) ts->Q (.ref D) H':=rfl
def FA(xs:List V)(H:Hp)(Q:VK):HO->Prop:=λ o=>match o with
 | .lst ys=>lzK xs ys H Q
 | .tup ys=>lzK xs ys H Q
 | _=>False
theorem zO(xs ys:List V)(H:Hp)(Q:VK):FA xs H Q (.lst ys)=lzK xs ys H Q:=rfl
def JS(b:Addr)(H:Hp)(Q:VK):HO->Prop:=λ o=>match o with
 | .lst xs=>aF (H b) (FA xs H Q)
 | .tup xs=>aF (H b) (FA xs H Q)
 | _=>False
theorem zP(b:Addr)(xs:List V)(H:Hp)(Q:VK):JS b H Q (.lst xs)=aF (H b) (FA xs H Q):=rfl
def FO(Q:VK):List V->Hp->Prop:=λ vs H=>match vs with
 | [.ref a,.ref b]=>aF (H a) (JS b H Q)
 | _=>False
theorem IJ(Q:VK)(a b:Addr)(H:Hp):FO Q [.ref a,.ref b] H=aF (H a) (JS b H Q):=rfl
def tLZ(ta:TA):TE:=λ σ H Q=>ta σ H (FO Q)
theorem Lc(ta:TA)(σ:St)(H:Hp)(Q:VK):tLZ ta σ H Q=ta σ H (FO Q):=rfl
theorem EU{Q:VK}{vs:List V}{H:Hp}(h:FO Q vs H):∃ a b ka kb xs ys,vs=[.ref a,.ref b]/\SqK ka H a xs/\SqK kb H b ys/\lzK xs ys H Q:=by
 unfold FO at h;split at h
 ·rename_i a b;obtain⟨o,e,h⟩:=aj h;unfold JS at h;split at h
  ·rename_i xs;obtain⟨o',e',h⟩:=aj h;unfold FA at h;split at h
   ·exact⟨a,b,false,false,xs,_,rfl,e,e',h⟩
   ·exact⟨a,b,false,true,xs,_,rfl,e,e',h⟩
   ·exact h.elim
  ·rename_i xs;obtain⟨o',e',h⟩:=aj h;unfold FA at h;split at h
   ·exact⟨a,b,true,false,xs,_,rfl,e,e',h⟩
   ·exact⟨a,b,true,true,xs,_,rfl,e,e',h⟩
   ·exact h.elim
  ·exact h.elim
 ·exact h.elim
theorem Inv.sqLe{X:Cx}{pins:List (Addr × Obj)}{σ:St}{H:Hp}{s:Shared}{k:Bool}{a:Addr}{xs:List V}(I:Inv X pins σ H s)(h:SqK k H a xs):xs.length<=sizeLine:=by
 cases k
 ·obtain⟨_,_,_,h⟩:=I.list (SqL.of h);exact h
 ·obtain⟨_,_,_,h⟩:=I.tuple (SqT.of h);exact h
section
variable {X:Cx}
theorem nH:∀ ts:List Addr,bq (ts.map V.ref) (ts.map Value.ref)
 | []=>.nil
 | _::ts=>.cons rfl (nH ts)
theorem kU{a b:Expr}{ta:TA}{p p2 pos pos2:Pos}(hc:X.calm=true)(hg:Gl X "list")(hm:X.mg "list"=none)(hg2:Gl X "zip")(hm2:X.mg "zip"=none)(ha:PA X [a,b] ta)(hs:starEach [a,b] X.env=[(false,eval a X.env),(false,eval b X.env)]:=by rfl)(hs2:starEach [b] X.env=[(false,eval b X.env)]:=by rfl)(hs3:starEach [Expr.Call (.Name "zip" p2) [a,b] [] pos2] X.env=[(false,eval (Expr.Call (.Name "zip" p2) [a,b] [] pos2) X.env)]:=by rfl)(hs4:starEach ([]:List Expr) X.env=[]:=by rfl) :
  PE X (.Call (.Name "list" p) [.Call (.Name "zip" p2) [a,b] [] pos2] [] pos) (tLZ ta):=by
 intro pins s σ H Q I h;refine Pn (eC I hg hm (show bootBuiltins "list"=some (.type "list") by decide +kernel) ?_);refine Of ?_ (by rw [hs3,hs4]) (by rw [hs4];rfl);rw [hs3]
 show wpAny _ _ (spliced ((false,eval _ X.env)::[])) _ _ s
 refine Qo ?_;refine Call_ (eC I hg2 hm2 (show bootBuiltins "zip"=some (.type "zip") by decide +kernel) (Of (thn (ha pos2 pins s σ H _ I h) λ us s1 ⟨vs,H1,I1,r1,q1⟩=>?_) (by rw [hs,hs2]) (by rw [hs2];rfl)));obtain⟨a,b,ka,kb,xs,ys,rfl,sa,sb,q⟩:=EU q1
 cases r1 with
 | cons r rr=>
  cases rr with
  | cons r' rr=>
   cases rr;cases r;cases r';obtain⟨as,ra,s1a⟩:=I1.sq sa;obtain⟨bs,rb,s1b⟩:=I1.sq sb;have la:=ra.length;have lb:=rb.length;have lz:=I1.sqLe sa;have lz2:=I1.sqLe sb;refine vH s1a s1b λ h' n hn e1 e2 e3 e4 e5 e6 e7=>?_;refine Q2 ?_
   have nn:∀ c∈[n+4,n+2,n+3,n,n+1],n<=c:=λ c hc=>by
    simp only [NR,NN,Ob] at hc
    rcases hc with rfl|rfl|rfl|rfl|rfl<;>omega
   have al:a < n:=by rw [hn];obtain⟨o,_,e,_⟩:=s1a.obj;exact NB e
   have bl:b < n:=by rw [hn];obtain⟨o,_,e,_⟩:=s1b.obj;exact NB e
   refine m5 (s:={ s1 with heap:=h' }) (I1.ok.hd hc) (by simp) (λ z=>absurd (nn a z) (Nat.not_le.mpr al)) (λ z=>absurd (nn b z) (Nat.not_le.mpr bl)) n nn (by simp;omega) e1 ⟨.inl e1,e2,⟨_,_,e3⟩,⟨e4,s1a.at λ o e=>e7 _ o e⟩,e5,s1b.at λ o e=>e7 _ o e⟩ λ h2 ts c r1 r2 G r4 r5=>?_;have r1':h2.get? (n+5)=some { cls:=.type "list",dict:=none,data:=.seq (ts.map Value.ref).toArray c,slots:=#[] }:=by rw [←e6];exact r1
   have I2:Inv X pins σ H1 { s1 with heap:=h2 }:=I1.kept (t':=s1.toks) λ c o e=>r5 c o (by rw [hn];exact NB e) (e7 c o e);have hln:ts.length=(xs.zip ys).length:=by rw [r2,Pu];simp;omega
   have fr:∀ t,n<=t->yA X pins t/\H1 t=none:=λ t ht=>⟨I1.newAt (by rw [←hn];exact ht),I1.hok.fresh (by rw [←hn];exact ht)⟩
   obtain⟨H2,I3,x2,q2,g2⟩:=I2.adoptAll ts (xs.zip ys) hln G.nd (λ t ht=>fr t (G.lo t ht)) λ m t z h1 h2=>by
    obtain⟨u,v,g1,g2,g3⟩:=G.get m t h1;rw [Pj] at h2;obtain⟨u',hu,ru⟩:=ra.get h2.1;obtain⟨v',hv,rv⟩:=rb.get h2.2;have hu':as.toArray[m]? = some u':=by simpa using hu
    have hv':bs.toArray[m]? = some v':=by simpa using hv
    rw [g1] at hu';rw [g2] at hv';cases hu';cases hv';exact⟨u,v,ru,rv,g3⟩
   have hD:H2 (n+5)=none:=by
    rw [q2 _ (by rw [←e6];exact r4)];exact(fr (n+5) (OD ..)).2
   have I4:=I3.adopt (o:=.lst (ts.map V.ref)) (fr (n+5) (OD ..)).1 hD ⟨by rw [Nz,r2];simp;omega,ts.map Value.ref,c,nH ts,r1'⟩;refine⟨.ref (n+5),_,I4,by rw [←e6];rfl,q (n+5) (ts.map V.ref) _ (fr (n+5) (OD ..)).2 (x2.trans (Ext.new hD)) au ⟨by rw [Nz,hln],λ m z y hz hy=>?_⟩⟩;rw [NL] at hy;obtain⟨t,ht,rfl⟩:=NI.mp hy;exact⟨t,rfl,by rw [ag (λ e=>r4 (by rw [e6,←e];exact N6 ht))];exact g2 m t z ht hz⟩
end
def Ck(H:Hp)(Q:VK):List Int->Prop:=λ ns=>0 < ns.length/\∀ M,M∈ns->(∀ a∈ns,M<=a)->Q (.int M) H
theorem uY(H:Hp)(Q:VK)(ns:List Int):Ck H Q ns=(0 < ns.length/\∀ M,M∈ns->(∀ a∈ns,M<=a)->Q (.int M) H):=rfl
def Cm(H:Hp)(Q:VK):List Int->Prop:=λ ns=>0 < ns.length/\∀ M,M∈ns->(∀ a∈ns,a<=M)->Q (.int M) H
theorem uZ(H:Hp)(Q:VK)(ns:List Int):Cm H Q ns=(0 < ns.length/\∀ M,M∈ns->(∀ a∈ns,a<=M)->Q (.int M) H):=rfl
def B2:List V->Hp->VK->Prop:=λ vs H Q=>match vs with
 | [.ref p]=>aF (aw H p) (eJ (Ck H Q))
 | _=>False
theorem DR(p:Addr)(H:Hp)(Q:VK):B2 [.ref p] H Q=aF (aw H p) (eJ (Ck H Q)):=rfl
def B4:List V->Hp->VK->Prop:=λ vs H Q=>match vs with
 | [.ref p]=>aF (aw H p) (eJ (Cm H Q))
 | _=>False
theorem DT(p:Addr)(H:Hp)(Q:VK):B4 [.ref p] H Q=aF (aw H p) (eJ (Cm H Q)):=rfl
section
variable {X:Cx}
theorem lG(hc:X.calm=true):cP X (.builtin "min") B2:=by
 intro pins s σ H vs us Q I r h;unfold B2 at h;split at h
 ·rename_i p;obtain⟨xs,e,ns,rfl,hn,q⟩:=aj h
  cases r with
  | cons r rr=>
   cases rr;cases r;obtain⟨its,rv,pl,hz⟩:=I.list (SqL.of (bD e));have hlt:p < s.heap.objs.size:=by obtain⟨_,e,_⟩:=pl.isList;exact NB e
   have hlen:its.length=ns.length:=by have:=rv.length;simpa using this.symm
   have hsz:its.toArray.size=ns.length:=by simp [hlen]
   have hP:∀ (i:Nat) (v:Value),its.toArray[i]? = some v->∃ t,v=.int (ns.getD i 0) t:=λ i v hP=>by
    have hv:its[i]? = some v:=by simpa using hP
    have hi:i < ns.length:=by rw [←hlen];exact(Ny.mp hv).1
    obtain⟨u,hu,ru⟩:=rv.get (i:=i) (x:=.int (ns.getD i 0)) (by rw [NL,Nw hi];simp [List.getD,Nw hi]);rw [hv] at hu;cases hu;exact ru
   refine call_min_walkS (Pf pl.isList ⟨s.heap.objs.size,_,_,_,_,_,_,λ i j=>decide (ns.getD i 0 < ns.getD j 0),rfl,(Rt (show X.A.in1.handled=none from I.ok.hd hc) _ p (NQ hlt) its.toArray).toS,⟨⟨_,NG _ rfl,rfl,rfl⟩,pl.isList.push _⟩,λ b hb=>?_,by rw [hsz];exact hn,CmpOf.ints_lt (λ i=>ns.getD i 0) λ i v h=>hP i v h,λ v s' hv hm=>?_⟩)
   ·rw [Oa]
    rcases NR.mp hb with rfl|hb
    ·exact OW _
    ·rw [NC.mp hb];exact Qf hlt
   ·obtain⟨hp,g,d,tk,os⟩:=s'
    have kp:∀ b o,s.heap.get? b=some o->hp.get? b=some o:=λ b o e=>hm.heap b o (λ hmem=>by
     have:b=s.heap.objs.size:=by simpa using hmem
     subst this;exact absurd (NB e) (Ou _)) (Nx _ e)
    have e1:g=s.gens:=hm.gens;have e2:d=s.drawn:=hm.drawn;have e3:os=s.os:=hm.os;subst e1 e2 e3;obtain⟨b1,b2⟩:=argBest_lt (λ i=>ns.getD i 0) (its.toArray.size - 1);have rv2:=hP _ v hv;generalize argBest (λ i j=>decide (ns.getD i 0 < ns.getD j 0)) (its.toArray.size - 1)=k at b1 b2 rv2;rw [hsz] at b1 b2;have hk:k < ns.length:=by omega
    refine⟨.int (ns.getD k 0),H,I.kept (t':=tk) kp,rv2,q _ ?_ λ a ha=>?_⟩
    ·rw [List.getD,Nw hk];exact Pa hk
    ·obtain⟨j,hj,rfl⟩:=Pw ha;have:=b2 j (by omega);rw [show ns.getD j 0=ns[j] by rw [List.getD,Nw hj];rfl] at this;exact this
 ·exact h.elim
theorem lH(hc:X.calm=true):cP X (.builtin "max") B4:=by
 intro pins s σ H vs us Q I r h;unfold B4 at h;split at h
 ·rename_i p;obtain⟨xs,e,ns,rfl,hn,q⟩:=aj h
  cases r with
  | cons r rr=>
   cases rr;cases r;obtain⟨its,rv,pl,hz⟩:=I.list (SqL.of (bD e));have hlt:p < s.heap.objs.size:=by obtain⟨_,e,_⟩:=pl.isList;exact NB e
   have hlen:its.length=ns.length:=by have:=rv.length;simpa using this.symm
   have hsz:its.toArray.size=ns.length:=by simp [hlen]
   have hP:∀ (i:Nat) (v:Value),its.toArray[i]? = some v->∃ t,v=.int (ns.getD i 0) t:=λ i v hP=>by
    have hv:its[i]? = some v:=by simpa using hP
    have hi:i < ns.length:=by rw [←hlen];exact(Ny.mp hv).1
    obtain⟨u,hu,ru⟩:=rv.get (i:=i) (x:=.int (ns.getD i 0)) (by rw [NL,Nw hi];simp [List.getD,Nw hi]);rw [hv] at hu;cases hu;exact ru
   refine call_max_walkS (Pf pl.isList ⟨s.heap.objs.size,_,_,_,_,_,_,λ i j=>decide (ns.getD i 0 > ns.getD j 0),rfl,(Rt (show X.A.in1.handled=none from I.ok.hd hc) _ p (NQ hlt) its.toArray).toS,⟨⟨_,NG _ rfl,rfl,rfl⟩,pl.isList.push _⟩,λ b hb=>?_,by rw [hsz];exact hn,CmpOf.ints_gt (λ i=>ns.getD i 0) λ i v h=>hP i v h,λ v s' hv hm=>?_⟩)
   ·rw [Oa]
    rcases NR.mp hb with rfl|hb
    ·exact OW _
    ·rw [NC.mp hb];exact Qf hlt
   ·obtain⟨hp,g,d,tk,os⟩:=s'
    have kp:∀ b o,s.heap.get? b=some o->hp.get? b=some o:=λ b o e=>hm.heap b o (λ hmem=>by
     have:b=s.heap.objs.size:=by simpa using hmem
     subst this;exact absurd (NB e) (Ou _)) (Nx _ e)
    have e1:g=s.gens:=hm.gens;have e2:d=s.drawn:=hm.drawn;have e3:os=s.os:=hm.os;subst e1 e2 e3;obtain⟨b1,b2⟩:=argBest_gt (λ i=>ns.getD i 0) (its.toArray.size - 1);have rv2:=hP _ v hv;generalize argBest (λ i j=>decide (ns.getD i 0 > ns.getD j 0)) (its.toArray.size - 1)=k at b1 b2 rv2;rw [hsz] at b1 b2;have hk:k < ns.length:=by omega
    refine⟨.int (ns.getD k 0),H,I.kept (t':=tk) kp,rv2,q _ ?_ λ a ha=>?_⟩
    ·rw [List.getD,Nw hk];exact Pa hk
    ·obtain⟨j,hj,rfl⟩:=Pw ha;have:=b2 j (by omega);rw [show ns.getD j 0=ns[j] by rw [List.getD,Nw hj];rfl] at this;exact this
 ·exact h.elim
end
def Cp(l:Addr)(xs:List V)(H:Hp)(Q:VK):List V->Prop:=λ zs=>xs.length+zs.length<=sizeLine/\Q .non (upd H l (.lst (xs++zs)))
theorem Ew(l:Addr)(xs:List V)(H:Hp)(Q:VK)(zs:List V):Cp l xs H Q zs=(xs.length+zs.length<=sizeLine/\Q .non (upd H l (.lst (xs++zs)))):=rfl
def GG(l b:Addr)(H:Hp)(Q:VK):List V->Prop:=λ xs=>aF (aw H b) (Cp l xs H Q)
theorem Ex(l b:Addr)(H:Hp)(Q:VK)(xs:List V):GG l b H Q xs=aF (aw H b) (Cp l xs H Q):=rfl
theorem wI(l b:Addr)(H:Hp)(Q:VK):u9 (.ref l) [.ref b] H Q=aF (aw H l) (GG l b H Q):=by
 refine propext ⟨λ h=>?_,λ h=>?_⟩
 ·obtain⟨l',b',xs,zs,e1,e2,h1,h2,h3,q⟩:=h;cases e1;cases e2;unfold aw;rw [h1]
  show aF (aw H b) _
  unfold aw;rw [h2];exact⟨h3,q⟩
 ·obtain⟨xs,e,h⟩:=aj h;obtain⟨zs,e2,h3,q⟩:=aj h;exact⟨l,b,xs,zs,rfl,rfl,bD e,bD e2,h3,q⟩
section
variable {X:Cx}{a b c d:Expr}{ta tb tc td:TE}{pos:Pos}
end
section
variable {k:Nat}{g:TG}{tt:TT}{te:TE}{σ:St}{Q:VK}{H:Hp}{K:PySem.W.Frag}
theorem ft{α:Type}{J:It}(zs:List α)(c:α->Bool)(P:α->V->Hp->Prop)(R:Addr->α->V->Hp->Prop)
  (hgo:∀ i z H',zs[i]? = some z->Ext H H'->J.go i H'/\∀ x H'',J.yld i H' x H''->Ext H' H''/\P z x H'')
  (hst:∀ H',Ext H H'->J.stop zs.length H')
  (hR1:∀ D z y H1 H2,R D z y H1->Ext H1 H2->R D z y H2) (hR2:∀ D z y H1 xs o,R D z y H1->H1 D=some (.lst xs)->R D z y (upd H1 D o))
  (hl:zs.length<=sizeLine)
  (hs:∀ D z x H' N1 N0,z∈zs->H D=none->Ext H H'->(∃ ys,H' D=some (.lst ys))->P z x H'->(c z=true->∀ y H'',Ext H' H''->R D z y H''->N1 y H'')->(c z=false->∀ H'',Ext H' H''->N0 H'')->g x (List.replicate k none++σ) H' (kCm k tt te σ N1 N0))
  (hd:∀ D ys H',H D=none->Ext H H'->H' D=some (.lst ys)->Al (λ z y=>R D z y H') (zs.filter c) ys->Q (.ref D) H'):yv k g tt te σ Q J H:=by
 intro D hD;refine⟨λ i m ys H'=>m=zs.length - i/\i<=zs.length/\Ext H H'/\H' D=some (.lst ys)/\Al (λ z y=>R D z y H') ((zs.take i).filter c) ys,⟨zs.length,by simp,OL _,Ext.new hD,au,by simpa using Al.nil⟩,?_⟩;rintro i m ys H' ⟨rfl,hi,e,hD',al⟩
 by_cases hlt:i < zs.length
 ·have hz:zs[i]? = some zs[i]:=Nw hlt;obtain⟨go,y⟩:=hgo i zs[i] H' hz e;have tk:zs.take (i+1)=zs.take i++[zs[i]]:=by rw [Q9,hz];rfl
  have ln:ys.length < sizeLine:=by
   have h1:=al.1;have h2:=Qm c (zs.take i);simp only [N8] at h2;omega
  refine .inr ⟨go,λ ys' H2=>Ext H H2/\H2 D=some (.lst ys')/\Al (λ z y=>R D z y H2) ((zs.take (i+1)).filter c) ys',λ ys' H2 p=>⟨zs.length - (i+1),by omega,rfl,hlt,p⟩,λ x H2 z=>?_⟩;obtain⟨e2,p2⟩:=y x H2 z;refine hs D zs[i] x H2 (kC3 D ys _) _ (Pa hlt) hD (e.trans e2) ⟨ys,e2.at hD'⟩ p2 (λ hc y H3 e3 r3=>?_) λ hc H3 e3=>?_
  ·refine⟨e3.at (e2.at hD'),ln,(e.trans (e2.trans e3)).put hD,au,?_⟩;rw [tk,QB,show [zs[i]].filter c=[zs[i]] by simp [hc]];exact Al.snoc (al.imp λ z y r=>hR2 _ _ _ _ _ _ (hR1 _ _ _ _ _ r (e2.trans e3)) (e3.at (e2.at hD'))) (hR2 _ _ _ _ _ _ r3 (e3.at (e2.at hD')))
  ·refine⟨e.trans (e2.trans e3),(e2.trans e3).at hD',?_⟩;rw [tk,QB,show [zs[i]].filter c=[] by simp [hc],QV];exact al.imp λ z y r=>hR1 _ _ _ _ _ r (e2.trans e3)
 ·have e':i=zs.length:=by omega
  subst e';rw [OE] at al;exact .inl ⟨hst H' e,hd D ys H' hD e hD' al⟩
end
def Ite(l:Addr)(xs:List V):It:=
 ⟨λ i H=>H l=some (.lst xs)/\i < xs.length,λ i H x H'=>∃ p u,H p=none/\x=.ref p/\xs[i]? = some u/\H'=upd H p (.tup [.int (i:Int),u]),λ i H=>H l=some (.lst xs)/\i=xs.length⟩
def Tne(l e it:Addr)(i:Nat)(h:Heap):Prop:=(∃ old,IsEnum h e it (i:Int) old)/\h.IsListIter it l i
theorem vY{P:Program}{w:World}{K:PySem.W.Frag}{elts:List Expr}{x1}{tp:Pos}(l e it:Addr)(xs:List V)(ne:e ≠ it):yk P w K (.Tuple elts x1 tp) (Ite l xs) [e,it] e (Tne l e it) where
 mem:=NK
 obj:=λ i h st c hc=>by
  obtain⟨⟨old,e1⟩,e2⟩:=st;simp only [NR,NN,Ob] at hc
  rcases hc with rfl|rfl
  ·exact⟨_,e1,λ v z=>by cases z⟩
  ·obtain⟨o,e,_,d⟩:=e2;exact⟨o,e,λ v z=>by rw [d] at z;cases z⟩
 keep:=λ i h h' st k=>by
  obtain⟨⟨old,e1⟩,e2⟩:=st;exact⟨⟨old,k e (by simp) _ e1⟩,e2.at λ o q=>k it (by simp) o q⟩
 item:=by
  intro X hP hw hK hc i pins s σ H E I hf st hg;subst hP hw hK;obtain⟨ha,l1⟩:=hg;obtain⟨as,ra,pl,_⟩:=I.list (SqL.of ha);have hx:xs[i]? = some xs[i]:=Nw l1;obtain⟨u,hu,ru⟩:=ra.get hx;have free:∀ c∈[e,it],H c=none:=λ c h=>(hf c h).1;have nle:l ≠ e:=λ z=>by have:=free e (by simp);rw [←z,ha] at this;cases this
  have nlt:l ≠ it:=λ z=>by have:=free it (by simp);rw [←z,ha] at this;cases this
  have W:=WalksT.enumerate (prog:=X.prog) (w:=X.w) (I.ok.hd hc) e it l ne nle nlt as.toArray;have la:=ra.length;obtain⟨e1,e2⟩:=st;obtain⟨old,e1'⟩:=e1;refine W.item i s _ E (by simp;omega) ⟨⟨old,e1'⟩,e2,pl.isList⟩ λ T vals h1 tk hp hle hT hmid kp=>⟨_,rfl,?_⟩;refine W.go elts x1 tp i T ⟨h1,s.gens,s.drawn,tk,s.os⟩ _ E hmid λ h2 st2 kp2=>?_;have nT:=W.apart i T h1 hmid;obtain⟨tk',x,hx',rfl⟩:=hp
  have hxu:x=u:=by
   have:as[i]? = some x:=by simpa using hx'
   rw [hu] at this;exact(NX this).symm
  subst hxu;have hT2:h2.IsTuple T #[.int (i:Int) tk',x]:=hT.at λ o q=>kp2 T o nT q;have I2:Inv X pins σ (upd H T (.tup [.int (i:Int),xs[i]])) { s with heap:=h2,toks:=tk }:=I.turnNew (t':=tk) (ch:=[e,it]) (λ c hc=>hf c hc) (λ c o hc q=>kp2 c o hc (kp c o hc q)) hle ⟨(show 2<=sizeLine by decide),[.int (i:Int) tk',x],.cons ⟨tk',rfl⟩ (.cons ru .nil),hT2⟩;have fr:H T=none:=I.hok.fresh hle;refine⟨.ref T,_,I2,rfl,⟨_,_,fr,rfl,hx,rfl⟩,⟨st2.1,st2.2.1⟩,λ c hc=>?_⟩
  have hlt:c < s.heap.objs.size:=by
   simp only [NR,NN,Ob] at hc
   rcases hc with rfl|rfl
   ·exact NB e1'
   ·obtain⟨o,q,_⟩:=e2;exact NB q
  rw [ag (NQ (NS hlt hle))];exact free c hc
 done:=by
  intro X hP hw hK hc i pins s σ H E I hf st hg;subst hP hw hK;obtain⟨ha,rfl⟩:=hg;obtain⟨as,ra,pl,_⟩:=I.list (SqL.of ha);have free:∀ c∈[e,it],H c=none:=λ c h=>(hf c h).1;have nle:l ≠ e:=λ z=>by have:=free e (by simp);rw [←z,ha] at this;cases this
  have nlt:l ≠ it:=λ z=>by have:=free it (by simp);rw [←z,ha] at this;cases this
  have W:=WalksT.enumerate (prog:=X.prog) (w:=X.w) (I.ok.hd hc) e it l ne nle nlt as.toArray;have la:=ra.length;have hsz:as.toArray.size=xs.length:=by simp [la]
  obtain⟨e1,e2⟩:=st;refine W.done s _ E (by rw [hsz];exact⟨e1,e2,pl.isList⟩) λ h' tk kp=>⟨rfl,I.turnL (t':=tk) (ch:=[e,it]) (λ c hc=>hf c hc) kp⟩
 self:=λ A i s Q E st h=>by
  obtain⟨⟨old,e1⟩,e2⟩:=st;exact wpAny_pyIter_enum e1 h
def Ku(l:Addr)(H:Hp)(R:It->Hp->Prop):List V->Prop:=λ xs=>R (Ite l xs) H
theorem IV(l:Addr)(H:Hp)(R:It->Hp->Prop)(xs:List V):Ku l H R xs=R (Ite l xs) H:=rfl
def JV(R:It->Hp->Prop):List V->Hp->Prop:=λ vs H=>match vs with
 | [.ref l]=>aF (aw H l) (Ku l H R)
 | _=>False
theorem IW(R:It->Hp->Prop)(l:Addr)(H:Hp):JV R [.ref l] H=aF (aw H l) (Ku l H R):=rfl
def GL(ta:TA):TI:=λ σ H R=>ta σ H (JV R)
theorem EH(ta:TA)(σ:St)(H:Hp)(R:It->Hp->Prop):GL ta σ H R=ta σ H (JV R):=rfl
section
variable {X:Cx}
theorem Di{a:Expr}{elts:List Expr}{x1}{tp:Pos}{ta:TA}{p pos:Pos}(hg:Gl X "enumerate")(hm:X.mg "enumerate"=none)(ha:PA X [a] ta)(he:starEach [a] X.env=[(false,eval a X.env)]:=by rfl) :
  PI X (.Tuple elts x1 tp) (.Call (.Name "enumerate" p) [a] [] pos) (GL ta):=by
 intro pins s σ H R I h;refine Call_ (eC I hg hm (show bootBuiltins "enumerate"=some (.type "enumerate") by decide +kernel) (PyProof.Rows.callWith_type1 (thn (ha pos pins s σ H _ I h) λ us s1 ⟨vs,H1,I1,r1,q1⟩=>?_) (by rw [he];rfl) (by rfl)));unfold JV at q1;split at q1
 ·rename_i l;obtain⟨xs,e,q⟩:=aj q1;replace e:=bD e
  cases r1 with
  | cons r rr=>
   cases rr;cases r;obtain⟨as,ra,pl,_⟩:=I1.list (SqL.of e);refine call_enumerate_list pl.isList λ h' e1 e2 e3 e4=>?_;have I2:Inv X pins σ H1 { s1 with heap:=h' }:=I1.kept (t':=s1.toks) e4;refine wpAny_pyIter_enum (s:={ s1 with heap:=h' }) e1 ⟨s1.heap.objs.size+1,[s1.heap.objs.size+1,s1.heap.objs.size],_,_,H1,rfl,I2,vY l (s1.heap.objs.size+1) s1.heap.objs.size xs (by simp),⟨⟨_,e1⟩,e2⟩,λ c hc=>?_,q⟩
   have hle:s1.heap.objs.size<=c:=by
    simp only [NR,NN,Ob] at hc
    rcases hc with rfl|rfl
    ·exact OD ..
    ·exact NF _
   exact I1.fpOk hle (I1.hok.fresh hle)
 ·exact q1.elim
end
section
variable {g:TG}{σ:St}{Q:VK}{H:Hp}{K:PySem.W.Frag}
theorem AJ{tb:TS}{nx:St->Hp->Prop}{rt:VK}{bk ct:St->Hp->Prop}{l:Addr}{xs:List V}(Pv:Nat->St->Hp->Prop)(h0:Pv 0 σ H)(hl:∀ i σ H,Pv i σ H->H l=some (.lst xs))
  (hs:∀ i u p σ H H',xs[i]? = some u->Pv i σ H->H p=none->Ext H H'->H' p=some (.tup [.int (i:Int),u])->g (.ref p) σ H' (pC tb ⟨Pv (i+1),rt,nx,Pv (i+1)⟩)) (hd:∀ σ H,Pv xs.length σ H->nx σ H):BO g tb ⟨nx,rt,bk,ct⟩ σ (Ite l xs) H:=by
 refine⟨λ i m σ H=>m=xs.length - i/\i<=xs.length/\Pv i σ H,⟨xs.length,by simp,OL _,h0⟩,?_⟩;rintro i m σ H ⟨rfl,hi,p⟩;have qa:=hl i σ H p
 by_cases hlt:i < xs.length
 ·refine .inr ⟨⟨qa,hlt⟩,Pv (i+1),λ σ' H' p'=>⟨xs.length - (i+1),by omega,rfl,hlt,p'⟩,λ x H' y=>?_⟩;obtain⟨r,u,hr,rfl,hu,rfl⟩:=y;exact hs i u r σ H _ hu p hr (Ext.new hr) au
 ·have e:i=xs.length:=by omega
  subst e;exact .inl ⟨⟨qa,rfl⟩,hd σ H p⟩
end
section
variable {X:Cx}{CX:CXT}{k:Nat}{f C:Addr}{fd:FuncData}{ps:List Str}{sp:Sp}{dvs:List V}{ds:List Value}{E:St->XK}{x m:Str}{p pos apos:Pos}{e o:Expr}{es:List Expr}{ta:TE}{t:TA}
end
section
variable {X:Cx}{e st:Expr}{te tst:TE}{pos p2:Pos}
end
def qH(n:Int):List V:=(List.range n.toNat).map λ (i:Nat)=>V.int (i:Int)
def kLR(Q:VK):List V->Hp->Prop:=λ vs H=>match vs with
 | [.int n]=>0<=n/\n<=4096/\iE (.lst (qH n)) H Q
 | _=>False
theorem FU(Q:VK)(n:Int)(H:Hp):kLR Q [.int n] H=(0<=n/\n<=4096/\iE (.lst (qH n)) H Q):=rfl
def tLR(ta:TA):TE:=λ σ H Q=>ta σ H (kLR Q)
theorem Ld(ta:TA)(σ:St)(H:Hp)(Q:VK):tLR ta σ H Q=ta σ H (kLR Q):=rfl
theorem qf{n:Int}(h0:n<=4096)(h1:-5000<=n):Builtin.Range.small 0 n 1=true/\Builtin.Range.rangeSize 0 n 1=((n.toNat:Nat):Int):=by
 have e:Builtin.Range.rangeSize 0 n 1=((n.toNat:Nat):Int):=by
  unfold Builtin.Range.rangeSize;rw [if_pos (by decide)];split
  ·rw [Int.ediv_one];omega
  ·omega
 refine⟨?_,e⟩;unfold Builtin.Range.small;rw [e,if_pos (by decide)];unfold Builtin.Range.rangeFitsLong;simp;omega
theorem jw:∀ {xs:List V}{us:List Value},us.length=xs.length->(∀ (i:Nat) (x:V) (u:Value),xs[i]? = some x->us[i]? = some u->bT x u)->bq xs us
 | [],[],_,_=>.nil
 | [],_::_,h,_=>by cases h
 | _::_,[],h,_=>by cases h
 | x::xs,u::us,h,k=>.cons (k 0 x u rfl rfl) (jw (by simpa using h) λ i y w a b=>k (i+1) y w (by simpa using a) (by simpa using b))
section
variable {X:Cx}
theorem iq{a:Expr}{ta:TA}{p p2 pos pos2:Pos}(hc:X.calm=true)(hg:Gl X "list")(hm:X.mg "list"=none)(hg2:Gl X "range")(hm2:X.mg "range"=none)(ha:PA X [a] ta)(hs:starEach [a] X.env=[(false,eval a X.env)]:=by rfl)(hs3:starEach [Expr.Call (.Name "range" p2) [a] [] pos2] X.env=[(false,eval (Expr.Call (.Name "range" p2) [a] [] pos2) X.env)]:=by rfl)(hs4:starEach ([]:List Expr) X.env=[]:=by rfl) :
  PE X (.Call (.Name "list" p) [.Call (.Name "range" p2) [a] [] pos2] [] pos) (tLR ta):=by
 intro pins s σ H Q I h;refine Pn (eC I hg hm (show bootBuiltins "list"=some (.type "list") by decide +kernel) ?_);refine Of ?_ (by rw [hs3,hs4]) (by rw [hs4];rfl);rw [hs3]
 show wpAny _ _ (spliced ((false,eval _ X.env)::[])) _ _ s
 refine Calls.spliced_cons ?_;refine Call_ (eC I hg2 hm2 boot_range (PyProof.Rows.callWith_type1 (thn (ha pos2 pins s σ H _ I h) λ us s1 ⟨vs,H1,I1,r1,q1⟩=>?_) hs rfl));unfold kLR at q1;split at q1
 ·rename_i n;obtain⟨hn0,hn,q⟩:=q1
  cases r1 with
  | cons r rr=>
   cases rr;obtain⟨t,rfl⟩:=r;refine call_range_1 ?_;refine Q2 ?_;obtain⟨k1,k2⟩:=qf hn (by omega);have I2:Inv X pins σ H1 { s1 with heap:=s1.heap.push { cls:=.type "range",data:=.fields #[.int 0 s1.toks,.int n t,.int 1 (s1.toks+1)] },toks:=s1.toks+1+1 }:=I1.kept (t':=s1.toks+1+1) λ b ob e=>Nx _ e;refine call_list_range (s:={ s1 with heap:=s1.heap.push { cls:=.type "range",data:=.fields #[.int 0 s1.toks,.int n t,.int 1 (s1.toks+1)] },toks:=s1.toks+1+1 }) (n:=n.toNat) (I1.ok.hd hc) (NG _ rfl) k1 k2 (by omega) λ h' tk acc c kp hget hit=>?_;have fr:=I2.hok.fresh (NF _)
   have hv:bq (qH n) acc.toList:=by
    refine jw (by unfold qH;rw [length_map,length_range,Array.length_toList,hit.1]) λ i x u hx hu=>?_;unfold qH at hx;rw [getElem?_map] at hx;obtain⟨j,hj,rfl⟩:=Option.map_eq_some_iff.mp hx;obtain⟨hj1,hj2⟩:=List.getElem?_eq_some_iff.mp hj;have ej:i=j:=by simpa using hj2
    subst ej;obtain⟨tk',e⟩:=hit.2 i u (by simpa using hu);exact⟨tk',by rw [e];congr 1;omega⟩
   refine⟨.ref (s1.heap.push { cls:=.type "range",data:=.fields #[.int 0 s1.toks,.int n t,.int 1 (s1.toks+1)] }).objs.size,_,I2.laid (t':=tk) (o:=.lst (qH n)) kp (NF _) ⟨?_,acc.toList,c,hv,?_⟩,rfl,q _ _ fr (Ext.new fr) au⟩
   ·unfold qH;rw [length_map,length_range];exact aq (by omega)
   ·exact hget
 ·exact q1.elim
end
theorem fO{n:Nat}(h:n+64 < cLine):n+1 < cLine:=by omega
def Kx(Q:VK)(x:V):VK:=λ y H=>∃ a v,x=.ref a/\qL H a y (some v)/\Q v H
def Mw(ty:TE)(σ:St)(Q:VK):VK:=λ x H=>ty σ H (Kx Q x)
theorem I0(ty:TE)(σ:St)(Q:VK)(x:V)(H:Hp):Mw ty σ Q x H=ty σ H (Kx Q x):=rfl
theorem DI(td ty:TE)(σ:St)(H:Hp)(Q:VK):Gd td ty σ H Q=td σ H (Mw ty σ Q):=rfl
theorem Bk{H:Hp}{a:Addr}{kvs:List (Key × V)}{k:Key}{v:V}{Q:VK}(e:H a=some (.dK kvs))(h:fB kvs k=some v)(q:Q v H):Kx Q (.ref a) (kV k) H:=⟨a,v,rfl,h ▸ qL.k e,q⟩
def Mb(neg:Bool):R2:=λ y x H Q=>∃ a o,x=.ref a/\qL H a y o/\Q (.bl (if neg=true then !o.isSome else o.isSome)) H
theorem Bj{neg:Bool}{H:Hp}{a:Addr}{kvs:List (Key × V)}{k:Key}{Q:VK}(e:H a=some (.dK kvs))(q:Q (.bl (if neg=true then !(fB kvs k).isSome else (fB kvs k).isSome)) H):Mb neg (kV k) (.ref a) H Q:=⟨a,_,rfl,qL.k e,q⟩
section
variable {X:Cx}
theorem Bx(hu:X.A.units+1 < cLine):OpR X (compareOp .In) (Mb false):=by
 intro pins s σ H x y v u Q I rx ry h;obtain⟨a,o,rfl,g,q⟩:=h;obtain rfl:u=Value.ref a:=ry;exact Nm hu I g rx λ s3 I3=>⟨.bl o.isSome,H,I3,rfl,q⟩
end
def Kv(nx:St->Hp->Prop)(σ:St)(v x:V):VK:=λ y H=>∃ a H4,x=.ref a/\FC H a y v H4/\nx σ H4
def Kw(ty:TE)(nx:St->Hp->Prop)(σ:St)(v:V):VK:=λ x H=>ty σ H (Kv nx σ v x)
theorem IX(ty:TE)(nx:St->Hp->Prop)(σ:St)(v x:V)(H:Hp):Kw ty nx σ v x H=ty σ H (Kv nx σ v x):=rfl
def Mv(td ty:TE)(nx:St->Hp->Prop)(σ:St):VK:=λ v H=>td σ H (Kw ty nx σ v)
theorem IZ(td ty:TE)(nx:St->Hp->Prop)(σ:St)(v:V)(H:Hp):Mv td ty nx σ v H=td σ H (Kw ty nx σ v):=rfl
theorem DN(td ty tv:TE)(nx:St->Hp->Prop)(rt:VK)(bk ct:St->Hp->Prop)(σ:St)(H:Hp):Gi td ty tv ⟨nx,rt,bk,ct⟩ σ H=tv σ H (Mv td ty nx σ):=rfl
theorem qP{H:Hp}{a:Addr}{kvs:List (Key × V)}{k:Key}{v:V}{nx:St->Hp->Prop}{σ:St}(e:H a=some (.dK kvs))(hl:kvs.length < sizeLine)(q:nx σ (upd H a (.dK (ku kvs k v)))):Kv nx σ v (.ref a) (kV k) H:=⟨a,_,rfl,FC.k e hl,q⟩
section
variable {X:Cx}
end
def tV(i:Nat):TE:=λ σ H Q=>match σ[i]? with
 | some (some v)=>Q v H
 | _=>False
theorem FW(i:Nat):JJ i=tV i:=by
 funext σ H Q;refine propext ⟨λ ⟨v,e,q⟩=>?_,λ h=>?_⟩
 ·unfold tV;rw [e];exact q
 ·unfold tV at h;split at h
  ·rename_i v e;exact⟨v,e,h⟩
  ·exact h.elim
theorem HQ{v:V}{σ:St}{H:Hp}{Q:VK}:tV 0 (some v::σ) H Q=Q v H:=rfl
theorem HP{a0:Option V}{v:V}{σ:St}{H:Hp}{Q:VK}:tV 1 (a0::some v::σ) H Q=Q v H:=rfl
theorem HN{a0 a1:Option V}{v:V}{σ:St}{H:Hp}{Q:VK}:tV 2 (a0::a1::some v::σ) H Q=Q v H:=rfl
theorem HM{a0 a1 a2:Option V}{v:V}{σ:St}{H:Hp}{Q:VK}:tV 3 (a0::a1::a2::some v::σ) H Q=Q v H:=rfl
theorem HL{a0 a1 a2 a3:Option V}{v:V}{σ:St}{H:Hp}{Q:VK}:tV 4 (a0::a1::a2::a3::some v::σ) H Q=Q v H:=rfl
theorem HK{a0 a1 a2 a3 a4:Option V}{v:V}{σ:St}{H:Hp}{Q:VK}:tV 5 (a0::a1::a2::a3::a4::some v::σ) H Q=Q v H:=rfl
theorem HJ{a0 a1 a2 a3 a4 a5:Option V}{v:V}{σ:St}{H:Hp}{Q:VK}:tV 6 (a0::a1::a2::a3::a4::a5::some v::σ) H Q=Q v H:=rfl
theorem HI{a0 a1 a2 a3 a4 a5 a6:Option V}{v:V}{σ:St}{H:Hp}{Q:VK}:tV 7 (a0::a1::a2::a3::a4::a5::a6::some v::σ) H Q=Q v H:=rfl
theorem HH{a0 a1 a2 a3 a4 a5 a6 a7:Option V}{v:V}{σ:St}{H:Hp}{Q:VK}:tV 8 (a0::a1::a2::a3::a4::a5::a6::a7::some v::σ) H Q=Q v H:=rfl
theorem HG{a0 a1 a2 a3 a4 a5 a6 a7 a8:Option V}{v:V}{σ:St}{H:Hp}{Q:VK}:tV 9 (a0::a1::a2::a3::a4::a5::a6::a7::a8::some v::σ) H Q=Q v H:=rfl
def nI0(g:Int->Int->V):R2:=λ x y H Q=>match x,y with
 | .int i,.int j=>Q (g i j) H
 | _,_=>False
theorem Ll(g:Int->Int->V)(i j:Int)(H:Hp)(Q:VK):nI0 g (.int i) (.int j) H Q=Q (g i j) H:=rfl
theorem kG(g:Int->Int->V):rI0 g=nI0 g:=by
 funext x y H Q;refine propext ⟨λ ⟨i,j,e,e',q⟩=>by subst e e';exact q,λ h=>?_⟩;unfold nI0 at h;split at h
 ·exact⟨_,_,rfl,rfl,h⟩
 ·exact h.elim
def nI(C:Int->Int->Prop)(g:Int->Int->V):R2:=λ x y H Q=>match x,y with
 | .int i,.int j=>C i j/\Q (g i j) H
 | _,_=>False
theorem Nd(C:Int->Int->Prop)(g:Int->Int->V)(i j:Int)(H:Hp)(Q:VK):nI C g (.int i) (.int j) H Q=(C i j/\Q (g i j) H):=rfl
theorem t5(C:Int->Int->Prop)(g:Int->Int->V):rI C g=nI C g:=by
 funext x y H Q;refine propext ⟨λ ⟨i,j,e,e',q⟩=>by subst e e';exact q,λ h=>?_⟩;unfold nI at h;split at h
 ·exact⟨_,_,rfl,rfl,h⟩
 ·exact h.elim
def nU(g:Int->V):V->Hp->VK->Prop:=λ x H Q=>match x with
 | .int i=>Q (g i) H
 | _=>False
theorem Nc(g:Int->V)(i:Int)(H:Hp)(Q:VK):nU g (.int i) H Q=Q (g i) H:=rfl
theorem K7(g:Int->V):rU g=nU g:=by
 funext x H Q;refine propext ⟨λ ⟨i,e,q⟩=>by subst e;exact q,λ h=>?_⟩;unfold nU at h;split at h
 ·exact⟨_,rfl,h⟩
 ·exact h.elim
def kH(Q:Bool->Hp->Prop):VK:=λ x H=>match x with
 | .bl k=>Q k H
 | _=>False
theorem zL(Q:Bool->Hp->Prop)(k:Bool)(H:Hp):kH Q (.bl k) H=Q k H:=rfl
theorem Au(Q:Bool->Hp->Prop):GC Q=kH Q:=by
 funext x H;refine propext ⟨λ ⟨k,e,q⟩=>by subst e;exact q,λ h=>?_⟩;unfold kH at h;split at h
 ·exact⟨_,rfl,h⟩
 ·exact h.elim
def sm(t:TE):TT:=λ σ H Q=>t σ H (kH Q)
theorem DV(t:TE)(σ:St)(H:Hp)(Q:Bool->Hp->Prop):sm t σ H Q=t σ H (kH Q):=rfl
theorem my(t:TE):BS t=sm t:=by
 funext σ H Q
 show t σ H (GC Q)=t σ H (kH Q)
 rw [Au]
theorem wB(t:TE):tB t=sm t:=my t
def ue(tb:TE)(σ:St)(Q:VK):VK:=λ x H=>match x with
 | .bl c=>if c=true then tb σ H Q else Q (.bl false) H
 | _=>False
theorem ED(tb:TE)(σ:St)(Q:VK)(c:Bool)(H:Hp):ue tb σ Q (.bl c) H=(if c=true then tb σ H Q else Q (.bl false) H):=rfl
def Cd(ta tb:TE):TE:=λ σ H Q=>ta σ H (ue tb σ Q)
theorem Ea(ta tb:TE)(σ:St)(H:Hp)(Q:VK):Cd ta tb σ H Q=ta σ H (ue tb σ Q):=rfl
theorem zA(ta tb:TE):Gf ta tb=Cd ta tb:=by
 funext σ H Q
 show ta σ H (LK tb σ Q)=ta σ H (ue tb σ Q)
 congr 1;funext x H;refine propext ⟨λ ⟨k,e,q⟩=>by subst e;exact q,λ h=>?_⟩;unfold ue at h;split at h
 ·exact⟨_,rfl,h⟩
 ·exact h.elim
def FL(tb:TE)(σ:St)(Q:VK):VK:=λ x H=>match x with
 | .bl c=>if c=true then Q (.bl true) H else tb σ H Q
 | _=>False
theorem IE(tb:TE)(σ:St)(Q:VK)(c:Bool)(H:Hp):FL tb σ Q (.bl c) H=(if c=true then Q (.bl true) H else tb σ H Q):=rfl
def Kd(ta tb:TE):TE:=λ σ H Q=>ta σ H (FL tb σ Q)
theorem Io(ta tb:TE)(σ:St)(H:Hp)(Q:VK):Kd ta tb σ H Q=ta σ H (FL tb σ Q):=rfl
theorem DD(ta tb:TE):L1 ta tb=Kd ta tb:=by
 funext σ H Q
 show ta σ H (Nk tb σ Q)=ta σ H (FL tb σ Q)
 congr 1;funext x H;refine propext ⟨λ ⟨k,e,q⟩=>by subst e;exact q,λ h=>?_⟩;unfold FL at h;split at h
 ·exact⟨_,rfl,h⟩
 ·exact h.elim
def t7(Q:VK):VK:=λ x H=>match x with
 | .bl c=>Q (.bl (!c)) H
 | _=>False
theorem En(Q:VK)(c:Bool)(H:Hp):t7 Q (.bl c) H=Q (.bl (!c)) H:=rfl
def Ca(ta:TE):TE:=λ σ H Q=>ta σ H (t7 Q)
theorem DX(ta:TE)(σ:St)(H:Hp)(Q:VK):Ca ta σ H Q=ta σ H (t7 Q):=rfl
theorem zz(ta:TE):FZ ta=Ca ta:=by
 funext σ H Q
 show ta σ H (LG Q)=ta σ H (t7 Q)
 congr 1;funext x H;refine propext ⟨λ ⟨k,e,q⟩=>by subst e;exact q,λ h=>?_⟩;unfold t7 at h;split at h
 ·exact⟨_,rfl,h⟩
 ·exact h.elim
def sr(r':R2)(tc:TE)(σ:St)(y:V)(Q:VK):VK:=λ z H=>match z with
 | .bl k=>if k=true then tc σ H (JX r' y Q) else Q (.bl false) H
 | _=>False
theorem EA(r':R2)(tc:TE)(σ:St)(y:V)(Q:VK)(k:Bool)(H:Hp):sr r' tc σ y Q (.bl k) H=(if k=true then tc σ H (JX r' y Q) else Q (.bl false) H):=rfl
theorem EW(r':R2)(tc:TE)(σ:St)(y:V)(Q:VK):Kz r' tc σ y Q=sr r' tc σ y Q:=by
 funext z H;refine propext ⟨λ ⟨k,e,q⟩=>by subst e;exact q,λ h=>?_⟩;unfold sr at h;split at h
 ·exact⟨_,rfl,h⟩
 ·exact h.elim
def yw(r r':R2)(tc:TE)(σ:St)(x:V)(Q:VK):VK:=λ y H=>r x y H (sr r' tc σ y Q)
theorem EB(r r':R2)(tc:TE)(σ:St)(x y:V)(Q:VK)(H:Hp):yw r r' tc σ x Q y H=r x y H (sr r' tc σ y Q):=rfl
def yx(r r':R2)(tb tc:TE)(σ:St)(Q:VK):VK:=λ x H=>tb σ H (yw r r' tc σ x Q)
theorem EC(r r':R2)(tb tc:TE)(σ:St)(Q:VK)(x:V)(H:Hp):yx r r' tb tc σ Q x H=tb σ H (yw r r' tc σ x Q):=rfl
def uI(r r':R2)(ta tb tc:TE):TE:=λ σ H Q=>ta σ H (yx r r' tb tc σ Q)
theorem zK(r r':R2)(ta tb tc:TE)(σ:St)(H:Hp)(Q:VK):uI r r' ta tb tc σ H Q=ta σ H (yx r r' tb tc σ Q):=rfl
theorem wC(r r':R2)(ta tb tc:TE):Bo r r' ta tb tc=uI r r' ta tb tc:=by
 funext σ H Q
 show ta σ H (Nl r r' tb tc σ Q)=ta σ H (yx r r' tb tc σ Q)
 congr 1;funext x H1
 show tb σ H1 (Mx r r' tc σ x Q)=tb σ H1 (yw r r' tc σ x Q)
 congr 1;funext y H2
 show r x y H2 (Kz r' tc σ y Q)=r x y H2 (sr r' tc σ y Q)
 rw [EW]
def yz:TGs:=λ vs σ H Q=>match vs with
 | []=>Q σ H
 | _=>False
theorem EI(σ:St)(H:Hp)(Q:St->Hp->Prop):yz [] σ H Q=Q σ H:=rfl
theorem E3:MM=yz:=by
 funext vs σ H Q;refine propext ⟨λ ⟨e,q⟩=>by subst e;exact q,λ h=>?_⟩;unfold yz at h;split at h
 ·exact⟨rfl,h⟩
 ·exact h.elim
def qX(t:TG)(u:TGs):TGs:=λ vs σ H Q=>match vs with
 | v::r=>t v σ H (kGs u r Q)
 | _=>False
theorem zV(t:TG)(u:TGs)(v:V)(r:List V)(σ:St)(H:Hp)(Q:St->Hp->Prop):qX t u (v::r) σ H Q=t v σ H (kGs u r Q):=rfl
theorem AG(t:TG)(u:TGs):GN t u=qX t u:=by
 funext vs σ H Q;refine propext ⟨λ ⟨v,r,e,q⟩=>by subst e;exact q,λ h=>?_⟩;unfold qX at h;split at h
 ·exact⟨_,_,rfl,h⟩
 ·exact h.elim
theorem lJ{α0:Type}{f:α0->List V}{B:α0->Prop}(inj:∀ a a',f a=f a'->a=a')(a:α0):(∃ a',f a=f a'/\B a')=B a:=propext ⟨λ ⟨a',e,q⟩=>by obtain rfl:=inj _ _ e;exact q,λ q=>⟨a,rfl,q⟩⟩
theorem lK{α0:Type}{f:α0->List V}{B:α0->Prop}{vs:List V}{n:Nat}(h:∃ a,vs=f a/\B a)(l:∀ a,(f a).length=n):vs.length=n:=by
 obtain⟨_,rfl,_⟩:=h;exact l _
theorem jU{α0 α1:Type}{f:α0->α1->List V}{B:α0->α1->Prop}(inj:∀ a b a' b',f a b=f a' b'->a=a'/\b=b')(a:α0)(b:α1):(∃ a' b',f a b=f a' b'/\B a' b')=B a b:=propext ⟨λ ⟨a',b',e,q⟩=>by obtain⟨rfl,rfl⟩:=inj _ _ _ _ e;exact q,λ q=>⟨a,b,rfl,q⟩⟩
theorem jV{α0 α1:Type}{f:α0->α1->List V}{B:α0->α1->Prop}{vs:List V}{n:Nat}(h:∃ a b,vs=f a b/\B a b)(l:∀ a b,(f a b).length=n):vs.length=n:=by
 obtain⟨_,_,rfl,_⟩:=h;exact l _ _
theorem Bc{α0 α1 α2:Type}{f:α0->α1->α2->List V}{B:α0->α1->α2->Prop}(inj:∀ a b c a' b' c',f a b c=f a' b' c'->a=a'/\b=b'/\c=c')(a:α0)(b:α1)(c:α2):(∃ a' b' c',f a b c=f a' b' c'/\B a' b' c')=B a b c:=propext ⟨λ ⟨a',b',c',e,q⟩=>by obtain⟨rfl,rfl,rfl⟩:=inj _ _ _ _ _ _ e;exact q,λ q=>⟨a,b,c,rfl,q⟩⟩
theorem Bd{α0 α1 α2:Type}{f:α0->α1->α2->List V}{B:α0->α1->α2->Prop}{vs:List V}{n:Nat}(h:∃ a b c,vs=f a b c/\B a b c)(l:∀ a b c,(f a b c).length=n):vs.length=n:=by
 obtain⟨_,_,_,rfl,_⟩:=h;exact l _ _ _
theorem L8{α0 α1 α2 α3:Type}{f:α0->α1->α2->α3->List V}{B:α0->α1->α2->α3->Prop}(inj:∀ a b c d a' b' c' d',f a b c d=f a' b' c' d'->a=a'/\b=b'/\c=c'/\d=d')(a:α0)(b:α1)(c:α2)(d:α3):(∃ a' b' c' d',f a b c d=f a' b' c' d'/\B a' b' c' d')=B a b c d:=propext ⟨λ ⟨a',b',c',d',e,q⟩=>by obtain⟨rfl,rfl,rfl,rfl⟩:=inj _ _ _ _ _ _ _ _ e;exact q,λ q=>⟨a,b,c,d,rfl,q⟩⟩
theorem L9{α0 α1 α2 α3:Type}{f:α0->α1->α2->α3->List V}{B:α0->α1->α2->α3->Prop}{vs:List V}{n:Nat}(h:∃ a b c d,vs=f a b c d/\B a b c d)(l:∀ a b c d,(f a b c d).length=n):vs.length=n:=by
 obtain⟨_,_,_,_,rfl,_⟩:=h;exact l _ _ _ _
theorem Nh{P:List Value->Prop}(h:P []):∀ us:List Value,us.length=0->P us:=λ us e=>by
 cases us with
 | nil=>exact h
 | cons a r=>cases e
theorem lL{P:List Value->Prop}(h:∀ a,P [a]):∀ us:List Value,us.length=1->P us:=λ us e=>by
 cases us with
 | nil=>cases e
 | cons x r=>exact Nh (P:=λ r=>P (x::r)) (h x) r (RA e)
theorem iO{P:List Value->Prop}(h:∀ a b,P [a,b]):∀ us:List Value,us.length=2->P us:=λ us e=>by
 cases us with
 | nil=>cases e
 | cons x r=>exact lL (P:=λ r=>P (x::r)) (h x) r (RA e)
theorem tX{P:List Value->Prop}(h:∀ a b c,P [a,b,c]):∀ us:List Value,us.length=3->P us:=λ us e=>by
 cases us with
 | nil=>cases e
 | cons x r=>exact iO (P:=λ r=>P (x::r)) (h x) r (RA e)
theorem Mn{P:List Value->Prop}(h:∀ a b c d,P [a,b,c,d]):∀ us:List Value,us.length=4->P us:=λ us e=>by
 cases us with
 | nil=>cases e
 | cons x r=>exact tX (P:=λ r=>P (x::r)) (h x) r (RA e)
section
variable {X:Cx}
theorem pvN(i:Nat){x:Str}{pos:Pos}(hN:X.N[i]? = some x:=by rfl)(hv:Vis X.env.scope x:=by first|exact Or.inl rfl|exact Or.inr (Or.inl rfl)|exact Or.inr (Or.inr rfl))(hd:(x == ("__debug__":Str))=false:=by decide)
  (hcd:(x == ("__classdict__":Str))=false:=by decide):PE X (.Name x pos) (tV i):=by rw [←FW];exact pv i hN hv hd hcd
theorem cp:OpR X (binaryOp .Add) (nI0 λ i j=>.int (i+j)):=by rw [←kG];exact qU
theorem fP:OpR X (binaryOp .Sub) (nI0 λ i j=>.int (i - j)):=by rw [←kG];exact Hx
theorem sk:OpR X (compareOp .Lt) (nI0 λ i j=>.bl (decide (i < j))):=by rw [←kG];exact Gn
theorem tZ:OpR X (compareOp .LtE) (nI0 λ i j=>.bl (decide (i<=j))):=by rw [←kG];exact K0
theorem pA:OpR X (compareOp .Gt) (nI0 λ i j=>.bl (decide (j < i))):=by rw [←kG];exact Gp
theorem Gq:OpR X (compareOp .GtE) (nI0 λ i j=>.bl (decide (j<=i))):=by rw [←kG];exact K1
theorem dU:OpR X (binaryOp .Mult) (nI lN λ i j=>.int (i * j)):=by rw [←t5];exact ib
theorem DA:OpR X (binaryOp .Mult) (nI Ct λ i j=>.int (i * j)):=by rw [←t5];exact Dw
theorem iX:OpR X (binaryOp .FloorDiv) (nI KP λ i j=>.int (i / j)):=by rw [←t5];exact Dx
theorem nz:OpR X (binaryOp .Mod) (nI (λ _ j=>0 < j) λ i j=>.int (i % j)):=by rw [←t5];exact iU
theorem By:OpR X (binaryOp .Pow) (nI KO λ i j=>.int (i ^ j.toNat)):=by rw [←t5];exact Hz
theorem gc:UnR X (unaryOp .USub) (nU λ i=>.int (-i)):=by rw [←K7];exact GU
variable {a b c d e:Expr}{ta tb tc td t:TE}{pos:Pos}
theorem zc{op:CmpOp}{r:R2}(ho:OpR X (compareOp op) r)(ha:PE X a ta)(hb:PE X b tb)(hm:behindInMarks op b=false):PT X (.Compare a [op] [b] pos) (sm (tOp r ta tb)):=by rw [←my];exact pV ho ha hb hm
theorem eK(h:PE X e t)(he:∀ whole,isTrue e X.env whole=(do let v ←whole;standAt e.pos;holding [v] (truthy v)):=by intro _;rfl):PT X e (sm t):=by rw [←wB];exact Hl h he
theorem nV{op op':CmpOp}{r r':R2}(ho:OpR X (compareOp op) r)(ho':OpR X (compareOp op') r')(ha:PE X a ta)(hb:PE X b tb)(hc:PE X c tc)
  (hm:lastMarks [op,op'] [b,c]=false:=by with_unfolding_all rfl):PE X (.Compare a [op,op'] [b,c] pos) (uI r r' ta tb tc):=by rw [←wC];exact zw ho ho' ha hb hc hm
variable {nk:List Expr}
theorem Dr(ha:PE X a ta)(hb:PE X (.BoolOp .And (b::nk) pos) tb):PE X (.BoolOp .And (a::b::nk) pos) (Cd ta tb):=by rw [←zA];exact Hv ha hb
theorem Bv(ha:PE X a ta)(hb:PE X (.BoolOp .Or (b::nk) pos) tb):PE X (.BoolOp .Or (a::b::nk) pos) (Kd ta tb):=by rw [←DD];exact KU ha hb
theorem vg(ha:PE X a ta):PE X (.UnaryOp .Not a pos) (Ca ta):=by rw [←zz];exact Hu ha
theorem bj:PGs X [] yz:=by rw [←E3];exact Dj
theorem wj{e:Expr}{es:List Expr}{t:TG}{u:TGs}(h1:PG X e t)(h2:PGs X es u)
  (hs:(assignEach (e::es) X.env).map (·.2)=assign e X.env::(assignEach es X.env).map (·.2):=by rfl):PGs X (e::es) (qX t u):=by rw [←AG];exact zo h1 h2 hs
end
theorem BI{c:TT}{t u:TS}{nx:St->Hp->Prop}{rt:VK}{bk ct:St->Hp->Prop}{σ:St}{H:Hp}(R:St->Hp->Prop)(h:∀ nx':St->Hp->Prop,(∀ σ' H',R σ' H'->nx' σ' H')->JK c t u ⟨nx',rt,bk,ct⟩ σ H)(k:∀ σ' H',R σ' H'->nx σ' H'):JK c t u ⟨nx,rt,bk,ct⟩ σ H:=h nx k
theorem Gw{i:Nat}:ME (tV i):=by rw [←FW];exact uJ
theorem rJ{t:TE}(h:ME t):MT (sm t):=by rw [←my];exact pW h
def Kj(k:Int)(H:Hp)(Q:VK):List V->Prop:=λ xs=>0<=k/\k<=4096/\xs.length * k.toNat<=sizeLine/\iE (.lst (List.replicate k.toNat xs).flatten) H Q
theorem IB(k:Int)(H:Hp)(Q:VK)(xs:List V):Kj k H Q xs=(0<=k/\k<=4096/\xs.length * k.toNat<=sizeLine/\iE (.lst (List.replicate k.toNat xs).flatten) H Q):=rfl
def Kc:R2:=λ x y H Q=>match x,y with
 | .ref l,.int k=>aF (aw H l) (Kj k H Q)
 | _,_=>False
theorem Im(l:Addr)(k:Int)(H:Hp)(Q:VK):Kc (.ref l) (.int k) H Q=aF (aw H l) (Kj k H Q):=rfl
theorem vp{X:Cx}:OpR X (binaryOp .Mult) Kc:=Hy.mono λ x y H Q h=>by
 unfold Kc at h;split at h
 ·rename_i l k;obtain⟨xs,e,h0,h1,h2,q⟩:=aj h;exact⟨l,k,xs,rfl,rfl,bD e,by omega,by omega,h2,q.to⟩
 ·exact h.elim
def uL(l:Addr)(i:Int)(xs:List V)(H:Hp)(Q:VK):V->Prop:=λ y=>Q y (upd H l (.lst (xs.eraseIdx i.toNat)))
theorem zM(l:Addr)(i:Int)(xs:List V)(H:Hp)(Q:VK)(y:V):uL l i xs H Q y=Q y (upd H l (.lst (xs.eraseIdx i.toNat))):=rfl
def Cj(l:Addr)(i:Int)(H:Hp)(Q:VK):List V->Prop:=λ xs=>0<=i/\i < xs.length/\xs.length<=4096/\aF (xs[i.toNat]?) (uL l i xs H Q)
theorem El(l:Addr)(i:Int)(H:Hp)(Q:VK)(xs:List V):Cj l i H Q xs=(0<=i/\i < xs.length/\xs.length<=4096/\aF (xs[i.toNat]?) (uL l i xs H Q)):=rfl
def uH:V->List V->Hp->VK->Prop:=λ x vs H Q=>match x,vs with
 | .ref l,[.int i]=>aF (aw H l) (Cj l i H Q)
 | _,_=>False
theorem zI(l:Addr)(i:Int)(H:Hp)(Q:VK):uH (.ref l) [.int i] H Q=aF (aw H l) (Cj l i H Q):=rfl
theorem wD{X:Cx}:MtM X "list.pop" uH:=λ pins s σ H x vs v us Q I rx rv h=>zB pins s σ H x vs v us Q I rx rv (by
 unfold uH at h;split at h
 ·rename_i l i;obtain⟨xs,e,h0,h1,h2,q⟩:=aj h;obtain⟨y,hy,q⟩:=aj q;exact⟨l,xs,i,i.toNat,y,rfl,rfl,bD e,by omega,by omega,seqIndex_of h0 h1,hy,q⟩
 ·exact h.elim)
theorem vt{t:TA}(h:MA t):ME (J8 t):=λ σ H Q Q' m q=>h σ H _ _ (λ xs H1 ⟨l,n⟩=>⟨l,λ p H' a b c=>m _ _ (n p H' a b c)⟩) q
def Kq(neg:Bool)(x:V)(H:Hp)(Q:VK):List V->Prop:=λ xs=>fL x=true/\xs.all fL=true/\Q (.bl (if neg=true then !inV x xs else inV x xs)) H
theorem IL(neg:Bool)(x:V)(H:Hp)(Q:VK)(xs:List V):Kq neg x H Q xs=(fL x=true/\xs.all fL=true/\Q (.bl (if neg=true then !inV x xs else inV x xs)) H):=rfl
def nIn(neg:Bool):R2:=λ x y H Q=>match y with
 | .ref p=>aF (dq H p) (Kq neg x H Q)
 | _=>False
theorem Lk(neg:Bool)(x:V)(p:Addr)(H:Hp)(Q:VK):nIn neg x (.ref p) H Q=aF (dq H p) (Kq neg x H Q):=rfl
theorem Hk{K:W.Frag}{neg:Bool}{x y:V}{H:Hp}{Q:VK}(h:nIn neg x y H Q):rIn K neg x y H Q:=by
 unfold nIn at h;split at h
 ·rename_i p;obtain⟨xs,e,h1,h2,q⟩:=aj h;exact⟨p,xs,rfl,gx e,h1,h2,q⟩
 ·exact h.elim
theorem nX{X:Cx}:OpR X (compareOp .NotIn) (nIn true):=oK.mono λ x y H Q h=>Hk h
def JQ(lo hi:Option Int)(H:Hp)(Q:VK):List V->Prop:=λ xs=>¬ (HT.sIx xs.length 0 lo=0/\HT.sIx xs.length xs.length hi=xs.length)/\iE (.tup (kA xs lo hi)) H Q
def Kb:V->Option Int->Option Int->Hp->VK->Prop:=λ x lo hi H Q=>match x with
 | .ref a=>aF (iR H a) (JQ lo hi H Q)
 | _=>False
theorem Il(a:Addr)(lo hi:Option Int)(H:Hp)(Q:VK):Kb (.ref a) lo hi H Q=aF (iR H a) (JQ lo hi H Q):=rfl
theorem AR(xs:List V)(z:Int)(h:0<=z):kA xs (some z) none=xs.drop z.toNat:=by
 unfold kA;obtain⟨n,rfl⟩:=Int.eq_ofNat_of_zero_le h;rw [HT.sIx_none,HT.sIx_nat]
 show _=xs.drop n
 rcases RB n xs.length with q|q
 ·rw [QY q];exact Pd (by rw [Pr];omega)
 ·rw [QO q,Qc (NF _),Qc q,List.take_nil]
theorem Gg{X:Cx}:SlR X Kb:=G9.mono λ x lo hi H Q h=>by
 unfold Kb at h;split at h
 ·rename_i a;obtain⟨xs,e,w,q⟩:=aj h;exact⟨a,xs,rfl,SqT.of (qQ e),w,q.to⟩
 ·exact h.elim
section
variable {X:Cx}
end
section
variable {prog:Program}{w:World}{A:Around}{E:Value->Shared->Prop}{s:Shared}
end
section
variable {X:Cx}
end
section
variable {k:Nat}{g:TG}{tt:TT}{te:TE}{σ:St}{Q:VK}{H:Hp}
end
structure IsC(K:W.Frag)(C:Addr):Prop where
 cl:Cls K C
 fc:W.findIn K (.ref C) "__class__"=some (some (.builtin "object.__class__"))
 ocs:W.specialIn K (.builtin "object.__class__") "__get__"=some (some (.builtin "getset_descriptor.__get__"))
 oct:W.takesIn K (.builtin "object.__class__")=some true
 mo:W.mroIn K C (.type "object")=some true
def Ke(neg:Bool):R2:=λ x y H Q=>match x,y with
 | .bl b,.bl c=>Q (.bl (if neg=true then !(b == c) else b == c)) H
 | _,_=>False
theorem Ip(neg b c:Bool)(H:Hp)(Q:VK):Ke neg (.bl b) (.bl c) H Q=Q (.bl (if neg=true then !(b == c) else b == c)) H:=rfl
section
variable {X:Cx}
theorem Du:OpR X (compareOp .Is) (Ke false):=by
 intro pins s σ H x y v u Q I rx ry h;unfold Ke at h;split at h
 ·rename_i b c;cases (show v=Value.bool b from rx);cases (show u=Value.bool c from ry);refine wpAny_is_plain (by cases b<;>cases c<;>rfl) ⟨.bl (b == c),H,I,?_,h⟩
  cases b<;>cases c<;>rfl
 ·exact h.elim
end
section
variable {prog:Program}{w:World}{A:Around}{E:Value->Shared->Prop}{K:Frag}{x C dx:Addr}{s:Shared}{name:Str}{v:Value}
end
section
variable {X:Cx}{e o value:Expr}{ta tv:TE}{f:Str}{pos pos':Pos}
end
open Sem (wp)
open AutoSeq1 (wpAny_loadPart')
section
variable {X:Cx}
end
def GQ(o:Obj):Prop:=∃ vs,o.data=.fields vs/\vs[2]? = some .none
section
variable {prog:Program}{w:World}{A:Around}{E:Value->Shared->Prop}{s:Shared}
end
def MQ(X:Cx):Prop:=∃ (e:Addr) (oe:Obj) (u:HO),X.A.handled=some (.ref e)/\X.H₀ e=some (.frz oe u)/\GQ oe
structure Nr(P:Program)(w:World)(K:W.Frag)(tg:Expr)(J:It)(fp:List Addr)(it:Addr)(tn:Nat->Heap->Prop):Prop where
 mem:it∈fp
 obj:∀ i h,tn i h->∀ b∈fp,∃ o,h.get? b=some o/\∀ v,o.data ≠ .cell v
 keep:∀ i h h',tn i h->(∀ b∈fp,∀ o,h.get? b=some o->h'.get? b=some o)->tn i h'
 item:∀ (X:Cx),X.prog=P->X.w=w->X.K=K->MQ X->∀ (i:Nat) (pins:List (Addr × Obj)) (s:Shared) (σ:St) (H:Hp) (E:Value->Shared->Prop),Inv X pins σ H s->(∀ b∈fp,pw X pins H b)->tn i s.heap->J.go i H →
  wpAny (model P w) X.A (pyNext (.ref it)) (λ r s1=>∃ u,r=some u /\
   wpAny (model P w) X.A (letOwnedTupleGo tg (.ref it) u) (λ _ s2=>∃ x H',Inv X pins σ H' s2/\bT x u/\J.yld i H x H'/\tn (i+1) s2.heap/\∀ b∈fp,H' b=none) E s1) E s
 done:∀ (X:Cx),X.prog=P->X.w=w->X.K=K->MQ X->∀ (i:Nat) (pins:List (Addr × Obj)) (s:Shared) (σ:St) (H:Hp) (E:Value->Shared->Prop),Inv X pins σ H s->(∀ b∈fp,pw X pins H b)->tn i s.heap->J.stop i H →
  wpAny (model P w) X.A (pyNext (.ref it)) (λ r s1=>r=none/\Inv X pins σ H s1) E s
section
variable {X:Cx}{tg:Expr}
end
structure LS(k:Nat)(e:Addr)(A:Around):Prop where
 hd:A.handled=some (.ref e)
 dp:A.depth+3 * k+5 < recursionLimit
 un:A.units+16 * k+200 < cLine
structure Nt(P:Program)(w:World)(K:W.Frag)(mg:Str->Option Value)(base:Heap)(CX:CXT)(k:Nat)(f:Addr)(fd:FuncData)(ps:List Str)(sp:Sp):Prop where
 len:∀ vs H Q E,sp vs H Q E->vs.length=ps.length
 run:∀ (A:Around) (outer:List Env) (s:Shared) (H:Hp) (args:Args) (us:List Value) (vs:List V) (Q:VK) (E:XK) (e:Addr) (oe:Obj) (u:HO),LS k e A->H e=some (.frz oe u)->GQ oe->Bg P w K mg base A outer s H->BindsTo s fd args (ps.zip us)->bq vs us->sp vs H Q E →
  codeAny (model P w) A (.call (.ref f) args) (CR CX outer P w H s Q E) s
section
variable {X:Cx}
end
abbrev cQ(h:Heap)(T:Addr)(a b c:Value):Prop:=h.get? T=some { cls:=.type "tuple",data:=.seq #[a,b,c] }
section
variable {prog:Program}{w:World}{A:Around}{E:Value->Shared->Prop}{s:Shared}
theorem cM{T:Addr}{a b c x:Value}{k:Nat}{Q:Unit->Shared->Prop}(hT:cQ s.heap T a b c)
  (h:∀ h',h'.get? T=some { cls:=.type "tuple",data:=.seq ((#[a,b,c]:Array Value).setIfInBounds k x) }->Heap.SameBut T s.heap h'->Q () { s with heap:=h' }) :
  wpAny (model prog w) A (updateSeq T (·.setIfInBounds k x)) Q E s:=by
 refine OY hT rfl (h _ ?_ (RK ..));rw [Om _ hT rfl];simp [Obj.mapSeq]
structure kK(z TI TO i j l:Addr)(f g e:List Addr):Prop where
 ti:TI ≠ z/\TI ≠ TO/\TI ≠ i/\TI ≠ j/\TI ≠ l
 zt:z ≠ TO
 zf:z ∉ f
 zg:z ∉ g
 ze:z ∉ e
 tf:TO ∉ f
 tg:TO ∉ g
 te:TO ∉ e
 ig:i ∉ g
 ie:i ∉ e
 jf:j ∉ f
 je:j ∉ e
 lf:l ∉ f
 lg:l ∉ g
variable {z TI TO i j l:Addr}{f g e:List Addr}{ti tj tl:Nat->Heap->Prop}{vi vj vl:Nat->Option Value}{k m n:Nat}{x y u a b c:Value}
theorem vR(S:Src prog w i f ti vi)(T:Src prog w j g tj vj)(U:Src prog w l e tl vl)(D:kK z TI TO i j l f g e){Q:Value->Shared->Prop}
  (hz:IsZip s.heap z TI TO .none) (hTI:cQ s.heap TI (.ref i) (.ref j) (.ref l)) (hTO:cQ s.heap TO a b c) (hi:ti k s.heap) (hj:tj m s.heap) (hl:tl n s.heap) (hx:vi k=some x) (hy:vj m=some y) (hu:vl n=some u)
  (hQ:∀ h',IsZip h' z TI TO (rawInt s.heap.objs.size)->cQ h' TO x y u->ti (k+1) h'->tj (m+1) h'->tl (n+1) h'->cQ h' s.heap.objs.size x y u->h'.objs.size=s.heap.objs.size+1->(∀ c o,c ∉ [z,TO,i,j,l]->s.heap.get? c=some o->h'.get? c=some o)->Q (.ref s.heap.objs.size) { s with heap:=h' }) :
  wpAny (model prog w) A (Builtin.«zip.__next__» ⟨[.ref z],[]⟩) (λ fin s'=>∃ v,fin=.done (.ret v)/\Q v s') E s:=by
 have iz:i ≠ z:=bw S.mem D.zf;have jz:j ≠ z:=bw T.mem D.zg;have lz:l ≠ z:=bw U.mem D.ze;have iTO:i ≠ TO:=bw S.mem D.tf;have jTO:j ≠ TO:=bw T.mem D.tg;have lTO:l ≠ TO:=bw U.mem D.te;refine wpAny_bind (m:=field (.ref z) 2) (wpAny_field hz rfl (x:=.bool false) rfl ?_);refine wpAny_bind (m:=field (.ref z) 3) (wpAny_field hz rfl (x:=.ref TI) rfl (wpAny_bind (wpAny_seqItems hTI rfl ?_)));refine wpAny_bind (m:=Builtin.SmallTypes.ownedTupleIsFree (.ref z)) ?_;unfold Builtin.SmallTypes.ownedTupleIsFree;refine wpAny_bind (wpAny_field hz rfl (x:=.none) rfl (wpAny_pure ?_));simp only [if_true];refine wpAny_bind (wpAny_rule (wpAny_bind (wpAny_field hz rfl (x:=.ref TO) rfl (wpAny_bind (wpAny_setField_rec hz (by simp) λ q1 z1 s1=>?_)))));replace z1:IsZip q1 z TI TO .ellipsis:=z1;refine wpAny_bind ?_;simp only [List.zipIdx_cons,List.zipIdx_nil,forIn_cons,forIn_nil];refine wpAny_bind (wpAny_bind (wpAny_onRaise (wpAny_bind (m:=Builtin.SmallTypes.nextOf (.ref i)) (S.item _ k _ x _ _ (S.but hi s1.extBut D.zf) hx λ q2 i2 s2=>wpAny_pure ?_))));have o2:cQ q2 TO a b c:=s2.extBut _ _ iTO.symm (s1.extBut _ _ D.zt.symm hTO);refine wpAny_bind (wpAny_seqItems o2 rfl (wpAny_bind (cM o2 λ q3 o3 s3=>wpAny_bind (wpAny_letGo (wpAny_pure ?_)))));replace o3:cQ q3 TO x b c:=o3;have j3:tj m q3:=T.but (T.but (T.but hj s1.extBut D.zg) s2.extBut D.ig) s3.extBut D.tg;refine wpAny_bind (wpAny_bind (wpAny_onRaise (wpAny_bind (m:=Builtin.SmallTypes.nextOf (.ref j)) (T.item _ m _ y _ _ j3 hy λ q4 j4 s4=>wpAny_pure ?_))));have o4:cQ q4 TO x b c:=s4.extBut _ _ jTO.symm o3;refine wpAny_bind (wpAny_seqItems o4 rfl (wpAny_bind (cM o4 λ q5 o5 s5=>wpAny_bind (wpAny_letGo (wpAny_pure ?_)))));replace o5:cQ q5 TO x y c:=o5;have l5:tl n q5:=U.but (U.but (U.but (U.but (U.but hl s1.extBut D.ze) s2.extBut D.ie) s3.extBut D.te) s4.extBut D.je) s5.extBut D.te;refine wpAny_bind (wpAny_bind (wpAny_onRaise (wpAny_bind (m:=Builtin.SmallTypes.nextOf (.ref l)) (U.item _ n _ u _ _ l5 hu λ q6 l6 s6=>wpAny_pure ?_))));have o6:cQ q6 TO x y c:=s6.extBut _ _ lTO.symm o5;refine wpAny_bind (wpAny_seqItems o6 rfl (wpAny_bind (cM o6 λ q7 o7 s7=>wpAny_bind (wpAny_letGo (wpAny_pure (wpAny_pure ?_))))));replace o7:cQ q7 TO x y u:=o7;refine wpAny_bind (wpAny_seqItems o7 rfl (wpAny_bind (wpAny_newTuple ?_)));have sz:q7.objs.size=s.heap.objs.size:=by rw [s7.1,s6.1,s5.1,s4.1,s3.1,s2.1,s1.1]
 have z7:IsZip q7 z TI TO .ellipsis:=s7.extBut _ _ D.zt (s6.extBut _ _ lz.symm (s5.extBut _ _ D.zt (s4.extBut _ _ jz.symm (s3.extBut _ _ D.zt (s2.extBut _ _ iz.symm z1)))))
 have k7:∀ c o,c ∉ [z,TO,i,j,l]->s.heap.get? c=some o->q7.get? c=some o:=λ c o hc e=>by
  simp only [NR,NN,Ob,Qb] at hc;exact s7.extBut _ _ hc.2.1 (s6.extBut _ _ hc.2.2.2.2 (s5.extBut _ _ hc.2.1 (s4.extBut _ _ hc.2.2.2.1 (s3.extBut _ _ hc.2.1 (s2.extBut _ _ hc.2.2.1 (s1.extBut _ _ hc.1 e))))))
 have i7:ti (k+1) q7:=S.but (S.but (S.but (S.but (S.but i2 s3.extBut D.tf) s4.extBut D.jf) s5.extBut D.tf) s6.extBut D.lf) s7.extBut D.tf;have j7:tj (m+1) q7:=T.but (T.but (T.but j4 s5.extBut D.tg) s6.extBut D.lg) s7.extBut D.tg;have l7:tl (n+1) q7:=U.but l6 s7.extBut D.te;have zlt:z < q7.objs.size:=Heap.lt_size z7;refine wpAny_bind (m:=Builtin.SmallTypes.ownedTupleHandOut (.ref z) (.ref q7.objs.size)) ?_;unfold Builtin.SmallTypes.ownedTupleHandOut;have z8:IsZip (q7.push { cls:=.type "tuple",data:=.seq #[x,y,u] }) z TI TO .ellipsis:=Heap.get?_push_of_some _ z7;refine wpAny_bind (wpAny_setField_rec z8 (by simp) λ q9 z9 s9=>?_);replace z9:IsZip q9 z TI TO (rawInt q7.objs.size):=z9;refine wpAny_setField_rec z9 (by simp) λ q10 z10 s10=>?_;replace z10:IsZip q10 z TI TO (rawInt q7.objs.size):=z10;have up:∀ c o,c ≠ z->q7.get? c=some o->q10.get? c=some o:=λ c o hc e=>s10.extBut _ _ hc (s9.extBut _ _ hc (Heap.get?_push_of_some _ e));have t10:cQ q10 q7.objs.size x y u:=s10.extBut _ _ (Nat.ne_of_gt zlt) (s9.extBut _ _ (Nat.ne_of_gt zlt) (Heap.get?_push_size _ rfl));have n10:q10.objs.size=q7.objs.size+1:=by rw [s10.1,s9.1,Heap.size_push]
 rw [sz] at z10 t10 n10;refine NA ⟨_,rfl,?_⟩
 show Q (.ref q7.objs.size) _
 rw [sz];exact hQ q10 z10 (up _ _ D.zt.symm o7) (S.keep _ _ _ i7 λ c hc o e=>up c o (bw hc D.zf) e) (T.keep _ _ _ j7 λ c hc o e=>up c o (bw hc D.zg) e) (U.keep _ _ _ l7 λ c hc o e=>up c o (bw hc D.ze) e) t10 n10 λ c o hc e=>up c o (λ q=>hc (by simp [q])) (k7 c o hc e)
theorem yH(hh:A.handled=none)(S:Src prog w i f ti vi)(T:Src prog w j g tj vj)(U:Src prog w l e tl vl)(D:kK z TI TO i j l f g e){Q:Fin->Shared->Prop}
  (hz:IsZip s.heap z TI TO .none) (hTI:cQ s.heap TI (.ref i) (.ref j) (.ref l)) (hTO:cQ s.heap TO a b c) (hi:ti k s.heap) (hj:tj m s.heap) (hl:tl n s.heap) (hxy:vi k=none\/vj m=none\/vl n=none)
  (hE:∀ h' e,(∀ c o,c ∉ [z,TO,i,j,l]->s.heap.get? c=some o->h'.get? c=some o)->(∃ o,h'.get? e=some o/\o.cls=.type "StopIteration")->E (.ref e) { s with heap:=h' }) :
  wpAny (model prog w) A (Builtin.«zip.__next__» ⟨[.ref z],[]⟩) Q E s:=by
 have iz:i ≠ z:=bw S.mem D.zf;have jz:j ≠ z:=bw T.mem D.zg;have lz:l ≠ z:=bw U.mem D.ze;have iTO:i ≠ TO:=bw S.mem D.tf;have jTO:j ≠ TO:=bw T.mem D.tg;refine wpAny_bind (m:=field (.ref z) 2) (wpAny_field hz rfl (x:=.bool false) rfl ?_);refine wpAny_bind (m:=field (.ref z) 3) (wpAny_field hz rfl (x:=.ref TI) rfl (wpAny_bind (wpAny_seqItems hTI rfl ?_)));refine wpAny_bind (m:=Builtin.SmallTypes.ownedTupleIsFree (.ref z)) ?_;unfold Builtin.SmallTypes.ownedTupleIsFree;refine wpAny_bind (wpAny_field hz rfl (x:=.none) rfl (wpAny_pure ?_));simp only [if_true];refine wpAny_bind (wpAny_rule (wpAny_bind (wpAny_field hz rfl (x:=.ref TO) rfl (wpAny_bind (wpAny_setField_rec hz (by simp) λ q1 z1 s1=>?_)))));replace z1:IsZip q1 z TI TO .ellipsis:=z1;refine wpAny_bind ?_;simp only [List.zipIdx_cons,List.zipIdx_nil,forIn_cons,forIn_nil];refine wpAny_bind (wpAny_bind (wpAny_onRaise (wpAny_bind (m:=Builtin.SmallTypes.nextOf (.ref i)) ?_)))
 cases hx:vi k with
 | none=>
  refine S.fin _ k _ _ _ hh (S.but hi s1.extBut D.zf) hx λ q2 e s2 ⟨oe,he,hce⟩=>?_;have z2:IsZip q2 z TI TO .ellipsis:=s2 _ _ iz.symm z1;have ez:e ≠ z:=λ q=>by subst q;rw [z2] at he;cases he;simp at hce
  refine Oo z2 (by simp) λ q3 _ s3=>hE q3 e (λ c o hc q=>?_) ⟨oe,s3.extBut _ _ ez he,hce⟩;simp only [NR,NN,Ob,Qb] at hc;exact s3.extBut _ _ hc.1 (s2 _ _ hc.2.2.1 (s1.extBut _ _ hc.1 q))
 | some x=>
  refine S.item _ k _ x _ _ (S.but hi s1.extBut D.zf) hx λ q2 i2 s2=>NA ?_;have o2:cQ q2 TO a b c:=s2.extBut _ _ iTO.symm (s1.extBut _ _ D.zt.symm hTO);refine My (N3 o2 rfl (My (cM o2 λ q3 o3 s3=>My (OR (NA ?_)))));replace o3:cQ q3 TO x b c:=o3;have j3:tj m q3:=T.but (T.but (T.but hj s1.extBut D.zg) s2.extBut D.ig) s3.extBut D.tg;refine My (My (Pm (My (m:=Builtin.SmallTypes.nextOf (.ref j)) ?_)))
  cases hy:vj m with
  | none=>
   refine T.fin _ m _ _ _ hh j3 hy λ q4 e s4 ⟨oe,he,hce⟩=>?_;have z4:IsZip q4 z TI TO .ellipsis:=s4 _ _ jz.symm (s3.extBut _ _ D.zt (s2.extBut _ _ iz.symm z1));have ez:e ≠ z:=λ q=>by subst q;rw [z4] at he;cases he;simp at hce
   refine Oo z4 (by simp) λ q5 _ s5=>hE q5 e (λ c o hc q=>?_) ⟨oe,s5.extBut _ _ ez he,hce⟩;simp only [NR,NN,Ob,Qb] at hc;exact s5.extBut _ _ hc.1 (s4 _ _ hc.2.2.2.1 (s3.extBut _ _ hc.2.1 (s2.extBut _ _ hc.2.2.1 (s1.extBut _ _ hc.1 q))))
  | some y=>
   have hu:vl n=none:=by
    rcases hxy with h|h|h
    ·rw [hx] at h;cases h
    ·rw [hy] at h;cases h
    ·exact h
   refine T.item _ m _ y _ _ j3 hy λ q4 j4 s4=>NA ?_;have o4:cQ q4 TO x b c:=s4.extBut _ _ jTO.symm o3;refine My (N3 o4 rfl (My (cM o4 λ q5 o5 s5=>My (OR (NA ?_)))));have l5:tl n q5:=U.but (U.but (U.but (U.but (U.but hl s1.extBut D.ze) s2.extBut D.ie) s3.extBut D.te) s4.extBut D.je) s5.extBut D.te;refine My (My (Pm (My (m:=Builtin.SmallTypes.nextOf (.ref l)) (U.fin _ n _ _ _ hh l5 hu λ q6 e s6 ⟨oe,he,hce⟩=>?_))));have z6:IsZip q6 z TI TO .ellipsis:=s6 _ _ lz.symm (s5.extBut _ _ D.zt (s4.extBut _ _ jz.symm (s3.extBut _ _ D.zt (s2.extBut _ _ iz.symm z1))));have ez:e ≠ z:=λ q=>by subst q;rw [z6] at he;cases he;simp at hce
   refine Oo z6 (by simp) λ q7 _ s7=>hE q7 e (λ c o hc q=>?_) ⟨oe,s7.extBut _ _ ez he,hce⟩;simp only [NR,NN,Ob,Qb] at hc;exact s7.extBut _ _ hc.1 (s6 _ _ hc.2.2.2.2 (s5.extBut _ _ hc.2.1 (s4.extBut _ _ hc.2.2.2.1 (s3.extBut _ _ hc.2.1 (s2.extBut _ _ hc.2.2.1 (s1.extBut _ _ hc.1 q))))))
theorem ki(S:Src prog w i f ti vi)(T:Src prog w j g tj vj)(U:Src prog w l e tl vl)(D:kK z TI TO i j l f g e){Q:Option Value->Shared->Prop}
  (hz:IsZip s.heap z TI TO .none) (hTI:cQ s.heap TI (.ref i) (.ref j) (.ref l)) (hTO:cQ s.heap TO a b c) (hi:ti k s.heap) (hj:tj m s.heap) (hl:tl n s.heap) (hx:vi k=some x) (hy:vj m=some y) (hu:vl n=some u)
  (hQ:∀ h',IsZip h' z TI TO (rawInt s.heap.objs.size)->cQ h' TO x y u->ti (k+1) h'->tj (m+1) h'->tl (n+1) h'->cQ h' s.heap.objs.size x y u->h'.objs.size=s.heap.objs.size+1->(∀ c o,c ∉ [z,TO,i,j,l]->s.heap.get? c=some o->h'.get? c=some o)->Q (some (.ref s.heap.objs.size)) { s with heap:=h' }) :
  wpAny (model prog w) A (pyNext (.ref z)) Q E s:=by
 have ty:s.TypeIs (.ref z) "zip":=⟨_,hz,rfl⟩;unfold pyNext;exact wpAny_bind (wpAny_attempt (wpAny_callSpecial?_slot (name:=Str.ofString "__next__") ty F.slot_zip_next (wpAny_call_entry F.slot_zip_next ty F.entry_zip_next (vR S T U D hz hTI hTO hi hj hl hx hy hu λ h' c1 c2 c3 c4 c5 c6 c7 c8=>wpAny_pure (hQ h' c1 c2 c3 c4 c5 c6 c7 c8)) (F.args_zip_next_1 _))))
theorem mJ(hh:A.handled=none)(S:Src prog w i f ti vi)(T:Src prog w j g tj vj)(U:Src prog w l e tl vl)(D:kK z TI TO i j l f g e){Q:Option Value->Shared->Prop}
  (hz:IsZip s.heap z TI TO .none) (hTI:cQ s.heap TI (.ref i) (.ref j) (.ref l)) (hTO:cQ s.heap TO a b c) (hi:ti k s.heap) (hj:tj m s.heap) (hl:tl n s.heap) (hxy:vi k=none\/vj m=none\/vl n=none)
  (hQ:∀ h',(∀ c o,c ∉ [z,TO,i,j,l]->s.heap.get? c=some o->h'.get? c=some o)->Q none { s with heap:=h' }):wpAny (model prog w) A (pyNext (.ref z)) Q E s:=by
 have ty:s.TypeIs (.ref z) "zip":=⟨_,hz,rfl⟩;unfold pyNext;refine wpAny_bind (wpAny_attempt (wpAny_callSpecial?_slot (name:=Str.ofString "__next__") ty F.slot_zip_next (wpAny_call_entry F.slot_zip_next ty F.entry_zip_next (yH (show A.in1.handled=none from hh) S T U D hz hTI hTO hi hj hl hxy λ h' e kp he=>?_) (F.args_zip_next_1 _))));obtain⟨o,ho,hc⟩:=he;exact wpAny_bind (wpAny_isInstance (T := "StopIteration") (b:=true) ⟨o,ho,hc⟩ isSubtype_stop (wpAny_pure (hQ _ kp)))
end
theorem kj(a b c:Value):checkTypeCall "zip" ⟨[a,b,c],[]⟩=pure ():=by kernel_rfl
theorem mU(a b c:Value):checkBuiltinCall "zip.__new__" ⟨[.type "zip",a,b,c],[]⟩=pure ():=by kernel_rfl
theorem gK(a b c d:Value):argsOk "object.__init__" ⟨[a,b,c,d],[]⟩:=by
 unfold argsOk;rw [signature?_of (id := "object.__init__") (n:=['_','_','t','i','n','i','_','_']) (o:=['t','c','e','j','b','o']) (by kernel_rfl) F.owner_object];kernel_rfl
section
variable {prog:Program}{w:World}{A:Around}{E:Value->Shared->Prop}{s:Shared}
abbrev yq1(a:Addr)(h:Heap):Heap:=h.push (j6 false a)
abbrev yq2(a b:Addr)(h:Heap):Heap:=(yq1 a h).push (j6 false b)
abbrev Fz(a b c:Addr)(h:Heap):Heap:=(yq2 a b h).push (j6 false c)
abbrev yq3(a b c:Addr)(h:Heap):Heap:=(Fz a b c h).push { cls:=.type "tuple",data:=.seq #[.ref h.objs.size,.ref (yq1 a h).objs.size,.ref (yq2 a b h).objs.size] }
abbrev yq4(a b c:Addr)(h:Heap):Heap:=(yq3 a b c h).push { cls:=.type "tuple",data:=.seq #[.none,.none,.none] }
abbrev yq5(a b c:Addr)(h:Heap):Heap:=(yq4 a b c h).push { cls:=.type "zip",data:=.fields #[.none,.bool false,.bool false,.ref (Fz a b c h).objs.size,.ref (yq3 a b c h).objs.size] }
theorem sA(a b c:Addr)(xs ys us:Array Value):Meets (Builtin.«zip.__new__» ⟨[.type "zip",.ref a,.ref b,.ref c],[]⟩) (λ _ R s=>SeqAt s.heap false a xs/\SeqAt s.heap false b ys/\SeqAt s.heap false c us/\R (.ok (.ret (.ref (yq4 a b c s.heap).objs.size))) { s with heap:=yq5 a b c s.heap }):=
 .of_wp λ prog w A R s h=>by
  obtain⟨hp,g,d,tk,os⟩:=s;obtain⟨h1,h2,h3,h⟩:=h;have hsub:=sub_zip;have q1:SeqAt (Shared.heap ⟨hp,g,d,tk,os⟩) false a xs:=h1;have q2:SeqAt (Shared.heap ⟨hp.push (j6 false a),g,d,tk,os⟩) false b ys:=h2.at λ o e=>Nx _ e;have q3:SeqAt (Shared.heap ⟨(hp.push (j6 false a)).push (j6 false b),g,d,tk,os⟩) false c us:=h3.at λ o e=>Nx _ (Nx _ e)
  wp_walk using iY q1,iY q2,iY q3
  exact⟨_,rfl,h⟩
theorem Fl{a b c:Addr}{xs ys us:Array Value}{Q:Value->Shared->Prop}(h1:SeqAt s.heap false a xs)(h2:SeqAt s.heap false b ys)(h3:SeqAt s.heap false c us)
  (h:∀ h' n,n=s.heap.objs.size->IsZip h' (n+5) (n+3) (n+4) .none->cQ h' (n+3) (.ref n) (.ref (n+1)) (.ref (n+2))->cQ h' (n+4) .none .none .none->bz h' false n a 0->bz h' false (n+1) b 0->bz h' false (n+2) c 0->h'.objs.size=n+6->(∀ c o,s.heap.get? c=some o->h'.get? c=some o)->Q (.ref (n+5)) { s with heap:=h' }) :
  wpAny (model prog w) A (call (.type "zip") [.ref a,.ref b,.ref c]) Q E s:=by
 refine callType_new F.called_zip (by decide) (kj _ _ _) (mU _ _ _) (λ ob=>gK ob _ _ _) F.entry_zip_new (sA a b c xs ys us) ⟨h1,h2,h3,?_⟩;have n1:(yq1 a s.heap).objs.size=s.heap.objs.size+1:=Oa ..;have n2:(yq2 a b s.heap).objs.size=s.heap.objs.size+2:=by rw [Oa,n1]
 have n3:(Fz a b c s.heap).objs.size=s.heap.objs.size+3:=by rw [Oa,n2]
 have n4:(yq3 a b c s.heap).objs.size=s.heap.objs.size+4:=by rw [Oa,n3]
 have n5:(yq4 a b c s.heap).objs.size=s.heap.objs.size+5:=by rw [Oa,n4]
 have n6:(yq5 a b c s.heap).objs.size=s.heap.objs.size+6:=by rw [Oa,n5]
 have f1:bz (yq1 a s.heap) false s.heap.objs.size a 0:=⟨_,NG _ rfl,rfl,rfl⟩;have f2:bz (yq2 a b s.heap) false (yq1 a s.heap).objs.size b 0:=⟨_,NG _ rfl,rfl,rfl⟩;have f3:bz (Fz a b c s.heap) false (yq2 a b s.heap).objs.size c 0:=⟨_,NG _ rfl,rfl,rfl⟩;have u2:∀ d o,(Fz a b c s.heap).get? d=some o->(yq5 a b c s.heap).get? d=some o:=λ d o e=>Nx _ (Nx _ (Nx _ e));have g5:(yq5 a b c s.heap).get? (yq4 a b c s.heap).objs.size=some _:=NG _ rfl;have g4:(yq5 a b c s.heap).get? (yq3 a b c s.heap).objs.size=some _:=Nx _ (NG _ rfl);have g3:(yq5 a b c s.heap).get? (Fz a b c s.heap).objs.size=some _:=Nx _ (Nx _ (NG _ rfl));have e1:bz (yq5 a b c s.heap) false s.heap.objs.size a 0:=f1.at λ o e=>u2 _ o (Nx _ (Nx _ e));have e2:bz (yq5 a b c s.heap) false (yq1 a s.heap).objs.size b 0:=f2.at λ o e=>u2 _ o (Nx _ e);have e3:bz (yq5 a b c s.heap) false (yq2 a b s.heap).objs.size c 0:=f3.at λ o e=>u2 _ o e
 show _/\_
 rw [n3,n4,n5] at g5;rw [n1,n2,n3] at g3;rw [n4] at g4;rw [n1] at e2;rw [n2] at e3;rw [n5];exact⟨⟨_,g5,rfl⟩,h _ _ rfl g5 g3 g4 e1 e2 e3 n6 λ d o e=>u2 d o (Nx _ (Nx _ (Nx _ e)))⟩
end
def It3(a b c:Addr)(xs ys us:List V):It:=
 ⟨λ i H=>SqK false H a xs/\SqK false H b ys/\SqK false H c us/\i < xs.length/\i < ys.length/\i < us.length,λ i H x H'=>∃ p u v t,H p=none/\x=.ref p/\xs[i]? = some u/\ys[i]? = some v/\us[i]? = some t/\H'=upd H p (.tup [u,v,t]),λ i H=>SqK false H a xs/\SqK false H b ys/\SqK false H c us/\(xs.length<=i\/ys.length<=i\/us.length<=i)⟩
def Tn3(a b c z TI TO p q r:Addr)(i:Nat)(h:Heap):Prop:=IsZip h z TI TO .none/\cQ h TI (.ref p) (.ref q) (.ref r)/\(∃ u v t,cQ h TO u v t)/\bz h false p a i/\bz h false q b i/\bz h false r c i
theorem vW{P:Program}{w:World}{K:W.Frag}{elts:List Expr}{x1}{tp:Pos}(a b c z TI TO p q r:Addr)(xs ys us:List V)(nd:[z,TI,TO,p,q,r].Nodup):yk P w K (.Tuple elts x1 tp) (It3 a b c xs ys us) [z,TI,TO,p,q,r] z (Tn3 a b c z TI TO p q r) where
 mem:=NK
 obj:=λ i h st d hd=>by
  obtain⟨e1,e2,⟨u,v,t,e3⟩,e4,e5,e6⟩:=st;simp only [NR,NN,Ob] at hd
  rcases hd with rfl|rfl|rfl|rfl|rfl|rfl
  ·exact⟨_,e1,λ v z=>by cases z⟩
  ·exact⟨_,e2,λ v z=>by cases z⟩
  ·exact⟨_,e3,λ v z=>by cases z⟩
  ·obtain⟨o,fs,e,d⟩:=e4.obj;exact⟨o,e,λ v z=>by rw [d] at z;cases z⟩
  ·obtain⟨o,fs,e,d⟩:=e5.obj;exact⟨o,e,λ v z=>by rw [d] at z;cases z⟩
  ·obtain⟨o,fs,e,d⟩:=e6.obj;exact⟨o,e,λ v z=>by rw [d] at z;cases z⟩
 keep:=λ i h h' st k=>by
  obtain⟨e1,e2,⟨u,v,t,e3⟩,e4,e5,e6⟩:=st;exact⟨k z (by simp) _ e1,k TI (by simp) _ e2,⟨u,v,t,k TO (by simp) _ e3⟩,e4.at λ o e=>k p (by simp) o e,e5.at λ o e=>k q (by simp) o e,e6.at λ o e=>k r (by simp) o e⟩
 item:=by
  intro X hP hw hK hc i pins s σ H E I hf st hg;subst hP hw hK;obtain⟨e1,e2,⟨u0,v0,t0,e3⟩,e4,e5,e6⟩:=st;obtain⟨ha,hb,hc',l1,l2,l3⟩:=hg;obtain⟨as,ra,sa⟩:=I.sq ha;obtain⟨bs,rb,sb⟩:=I.sq hb;obtain⟨cs,rc,sc⟩:=I.sq hc';have hx:xs[i]? = some xs[i]:=Nw l1;have hy:ys[i]? = some ys[i]:=Nw l2;have ht:us[i]? = some us[i]:=Nw l3;obtain⟨u,hu,ru⟩:=ra.get hx;obtain⟨v,hv,rv⟩:=rb.get hy;obtain⟨y,hyy,ry⟩:=rc.get ht;have free:∀ d∈[z,TI,TO,p,q,r],H d=none:=λ d h=>(hf d h).1;have naz:∀ d∈[z,TI,TO,p,q,r],a ≠ d:=λ d h=>ha.ne (free d h);have nbz:∀ d∈[z,TI,TO,p,q,r],b ≠ d:=λ d h=>hb.ne (free d h);have ncz:∀ d∈[z,TI,TO,p,q,r],c ≠ d:=λ d h=>hc'.ne (free d h);simp only [O8,NR,NN,Ob,Qb,Pz,and_true,P0] at nd;obtain⟨⟨z1,z2,z3,z4,z5⟩,⟨t1,t2,t3,t4⟩,⟨w1,w2,w3⟩,⟨y1,y2⟩,y3⟩:=nd;have S:=dS (prog:=X.prog) (w:=X.w) false p a (naz p (by simp)) as.toArray;have T:=dS (prog:=X.prog) (w:=X.w) false q b (nbz q (by simp)) bs.toArray;have U:=dS (prog:=X.prog) (w:=X.w) false r c (ncz r (by simp)) cs.toArray;have D:kK z TI TO p q r [p,a] [q,b] [r,c]:=⟨⟨NM z1,t1,t2,t3,t4⟩,z2,by simp [z3,NM (naz z (by simp))],by simp [z4,NM (nbz z (by simp))],by simp [z5,NM (ncz z (by simp))],by simp [w1,NM (naz TO (by simp))],by simp [w2,NM (nbz TO (by simp))],by simp [w3,NM (ncz TO (by simp))],by simp [y1,NM (nbz p (by simp))],by simp [y2,NM (ncz p (by simp))],by simp [NM y1,NM (naz q (by simp))],by simp [y3,NM (ncz q (by simp))],by simp [NM y2,NM (naz r (by simp))],by simp [NM y3,NM (nbz r (by simp))]⟩;refine ki S T U D e1 e2 e3 ⟨e4,sa⟩ ⟨e5,sb⟩ ⟨e6,sc⟩ (x:=u) (y:=v) (u:=y) (by simpa using hu) (by simpa using hv) (by simpa using hyy) λ h1 c1 c2 c3 c4 c4' c5 c6 c7=>?_;refine⟨_,rfl,wpAny_letOwnedTupleGo_zip (s:={ s with heap:=h1 }) c1 λ h2 d1 d2=>?_⟩;have lt:z < s.heap.objs.size:=NB e1;have kp:∀ d o,d ∉ [z,TO,p,q,r]->s.heap.get? d=some o->h2.get? d=some o:=λ d o hd e=>d2.extBut _ _ (λ q=>hd (by simp [q])) (c7 d o hd e);have hn:h2.get? s.heap.objs.size=some { cls:=.type "tuple",data:=.seq #[u,v,y] }:=d2.extBut _ _ (Ox lt) c5;have I2:Inv X pins σ (upd H s.heap.objs.size (.tup [xs[i],ys[i],us[i]])) { s with heap:=h2 }:=I.turnNew (t':=s.toks) (ch:=[z,TO,p,q,r]) (λ d hd=>hf d (by simp only [NR,NN,Ob] at hd ⊢;rcases hd with h|h|h|h|h<;>simp [h])) kp (NF _) ⟨(show 3<=sizeLine by decide),[u,v,y],.cons ru (.cons rv (.cons ry .nil)),⟨_,hn,rfl,_,rfl⟩⟩;have fr:H s.heap.objs.size=none:=I.hok.fresh (NF _);refine⟨.ref s.heap.objs.size,_,I2,rfl,⟨_,_,_,_,fr,rfl,hx,hy,ht,rfl⟩,⟨d1,d2.extBut _ _ (NM z1) (c7 TI _ (by simp [NM z1,t1,t2,t3,t4]) e2),⟨u,v,y,d2.extBut _ _ (NM z2) c2⟩,c3.1.at λ o e=>d2.extBut _ _ (NM z3) e,c4.1.at λ o e=>d2.extBut _ _ (NM z4) e,c4'.1.at λ o e=>d2.extBut _ _ (NM z5) e⟩,λ d hd=>?_⟩
  obtain⟨o,ho,_⟩:∃ o,s.heap.get? d=some o/\True:=by
   simp only [NR,NN,Ob] at hd
   rcases hd with rfl|rfl|rfl|rfl|rfl|rfl
   ·exact⟨_,e1,trivial⟩
   ·exact⟨_,e2,trivial⟩
   ·exact⟨_,e3,trivial⟩
   ·obtain⟨o,_,e,_⟩:=e4.obj;exact⟨o,e,trivial⟩
   ·obtain⟨o,_,e,_⟩:=e5.obj;exact⟨o,e,trivial⟩
   ·obtain⟨o,_,e,_⟩:=e6.obj;exact⟨o,e,trivial⟩
  rw [ag (NQ (NB ho))];exact free d hd
 done:=by
  intro X hP hw hK hc i pins s σ H E I hf st hg;subst hP hw hK;obtain⟨e1,e2,⟨u0,v0,t0,e3⟩,e4,e5,e6⟩:=st;obtain⟨ha,hb,hc',l⟩:=hg;obtain⟨as,ra,sa⟩:=I.sq ha;obtain⟨bs,rb,sb⟩:=I.sq hb;obtain⟨cs,rc,sc⟩:=I.sq hc';have free:∀ d∈[z,TI,TO,p,q,r],H d=none:=λ d h=>(hf d h).1;have naz:∀ d∈[z,TI,TO,p,q,r],a ≠ d:=λ d h=>ha.ne (free d h);have nbz:∀ d∈[z,TI,TO,p,q,r],b ≠ d:=λ d h=>hb.ne (free d h);have ncz:∀ d∈[z,TI,TO,p,q,r],c ≠ d:=λ d h=>hc'.ne (free d h);simp only [O8,NR,NN,Ob,Qb,Pz,and_true,P0] at nd;obtain⟨⟨z1,z2,z3,z4,z5⟩,⟨t1,t2,t3,t4⟩,⟨w1,w2,w3⟩,⟨y1,y2⟩,y3⟩:=nd;have S:=dS (prog:=X.prog) (w:=X.w) false p a (naz p (by simp)) as.toArray;have T:=dS (prog:=X.prog) (w:=X.w) false q b (nbz q (by simp)) bs.toArray;have U:=dS (prog:=X.prog) (w:=X.w) false r c (ncz r (by simp)) cs.toArray;have D:kK z TI TO p q r [p,a] [q,b] [r,c]:=⟨⟨NM z1,t1,t2,t3,t4⟩,z2,by simp [z3,NM (naz z (by simp))],by simp [z4,NM (nbz z (by simp))],by simp [z5,NM (ncz z (by simp))],by simp [w1,NM (naz TO (by simp))],by simp [w2,NM (nbz TO (by simp))],by simp [w3,NM (ncz TO (by simp))],by simp [y1,NM (nbz p (by simp))],by simp [y2,NM (ncz p (by simp))],by simp [NM y1,NM (naz q (by simp))],by simp [y3,NM (ncz q (by simp))],by simp [NM y2,NM (naz r (by simp))],by simp [NM y3,NM (nbz r (by simp))]⟩;have la:=ra.length;have lb:=rb.length;have lc:=rc.length;refine mJ (I.ok.hd hc) S T U D e1 e2 e3 ⟨e4,sa⟩ ⟨e5,sb⟩ ⟨e6,sc⟩ (l.imp (λ h=>by simp;omega) (Or.imp (λ h=>by simp;omega) λ h=>by simp;omega)) λ h1 kp=>⟨rfl,I.turnL (t':=s.toks) (ch:=[z,TO,p,q,r]) (λ d hd=>hf d (by simp only [NR,NN,Ob] at hd ⊢;rcases hd with h|h|h|h|h<;>simp [h])) kp⟩
 self:=λ _ _ _ _ _ st h=>Qy st.1 h
def kY2(a b c:Addr)(xs ys:List V)(H:Hp)(R:It->Hp->Prop):List V->Prop:=λ us=>R (It3 a b c xs ys us) H
theorem Ln(a b c:Addr)(xs ys us:List V)(H:Hp)(R:It->Hp->Prop):kY2 a b c xs ys H R us=R (It3 a b c xs ys us) H:=rfl
def kY1(a b c:Addr)(xs:List V)(H:Hp)(R:It->Hp->Prop):List V->Prop:=λ ys=>aF (aw H c) (kY2 a b c xs ys H R)
theorem Lo(a b c:Addr)(xs ys:List V)(H:Hp)(R:It->Hp->Prop):kY1 a b c xs H R ys=aF (aw H c) (kY2 a b c xs ys H R):=rfl
def kY(a b c:Addr)(H:Hp)(R:It->Hp->Prop):List V->Prop:=λ xs=>aF (aw H b) (kY1 a b c xs H R)
theorem Nf(a b c:Addr)(xs:List V)(H:Hp)(R:It->Hp->Prop):kY a b c H R xs=aF (aw H b) (kY1 a b c xs H R):=rfl
def kY0(R:It->Hp->Prop):List V->Hp->Prop:=λ vs H=>match vs with
 | [.ref a,.ref b,.ref c]=>aF (aw H a) (kY a b c H R)
 | _=>False
theorem Lp(R:It->Hp->Prop)(a b c:Addr)(H:Hp):kY0 R [.ref a,.ref b,.ref c] H=aF (aw H a) (kY a b c H R):=rfl
def GJ(ta:TA):TI:=λ σ H R=>ta σ H (kY0 R)
theorem EF(ta:TA)(σ:St)(H:Hp)(R:It->Hp->Prop):GJ ta σ H R=ta σ H (kY0 R):=rfl
section
variable {X:Cx}
theorem Dg{a b c:Expr}{elts:List Expr}{x1}{tp:Pos}{ta:TA}{p pos:Pos}(hg:Gl X "zip")(hm:X.mg "zip"=none)(ha:PA X [a,b,c] ta)(hs:starEach [a,b,c] X.env=[(false,eval a X.env),(false,eval b X.env),(false,eval c X.env)]:=by rfl)(hs2:starEach [b,c] X.env=[(false,eval b X.env),(false,eval c X.env)]:=by rfl) :
  PI X (.Tuple elts x1 tp) (.Call (.Name "zip" p) [a,b,c] [] pos) (GJ ta):=by
 intro pins s σ H R I h;refine Call_ (eC I hg hm (show bootBuiltins "zip"=some (.type "zip") by decide +kernel) (PyProof.Rows.callWith_type1 (thn (ha pos pins s σ H _ I h) λ us s1 ⟨vs,H1,I1,r1,q1⟩=>?_) (by rw [hs,hs2]) (by rw [hs2];rfl)));unfold kY0 at q1;split at q1
 ·rename_i a b c;obtain⟨xs,e1,q1⟩:=aj q1;obtain⟨ys,e2,q1⟩:=aj q1;obtain⟨zs,e3,q⟩:=aj q1;have sa:SqK false H1 a xs:=bD e1;have sb:SqK false H1 b ys:=bD e2;have sc:SqK false H1 c zs:=bD e3
  cases r1 with
  | cons r rr=>
   cases rr with
   | cons r' rr=>
    cases rr with
    | cons r'' rr=>
     cases rr;cases r;cases r';cases r'';obtain⟨as,ra,s1a⟩:=I1.sq sa;obtain⟨bs,rb,s1b⟩:=I1.sq sb;obtain⟨cs,rc,s1c⟩:=I1.sq sc;refine Fl s1a s1b s1c λ h' n hn e1 e2 e3 e4 e5 e5' e6 e7=>?_;have I2:Inv X pins σ H1 { s1 with heap:=h' }:=I1.kept (t':=s1.toks) e7;refine Qy (s:={ s1 with heap:=h' }) e1 ⟨n+5,[n+5,n+3,n+4,n,n+1,n+2],_,_,H1,rfl,I2,vW a b c (n+5) (n+3) (n+4) n (n+1) (n+2) xs ys zs (by simp),⟨e1,e2,⟨_,_,_,e3⟩,e4,e5,e5'⟩,λ d hd=>?_,q⟩
     have hle:s1.heap.objs.size<=d:=by
      rw [←hn];simp only [NR,NN,Ob] at hd
      rcases hd with rfl|rfl|rfl|rfl|rfl|rfl
      ·exact OD ..
      ·exact OD ..
      ·exact OD ..
      ·exact NF _
      ·exact OD ..
      ·exact OD ..
     exact I1.fpOk hle (I1.hok.fresh hle)
 ·exact q1.elim
end
theorem AH{g:TG}{σ:St}{H:Hp}{tb:TS}{nx:St->Hp->Prop}{rt:VK}{bk ct:St->Hp->Prop}{a b c:Addr}{xs ys us:List V}(Pv:Nat->St->Hp->Prop)(h0:Pv 0 σ H)(hl:∀ i σ H,Pv i σ H->H a=some (.lst xs)/\H b=some (.lst ys)/\H c=some (.lst us))
  (hs:∀ i u v t p σ H H',xs[i]? = some u->ys[i]? = some v->us[i]? = some t->Pv i σ H->H p=none->Ext H H'->H' p=some (.tup [u,v,t])->g (.ref p) σ H' (pC tb ⟨Pv (i+1),rt,nx,Pv (i+1)⟩)) (hd:∀ σ H,Pv (min xs.length (min ys.length us.length)) σ H->nx σ H):BO g tb ⟨nx,rt,bk,ct⟩ σ (It3 a b c xs ys us) H:=by
 refine⟨λ i m σ H=>m=min xs.length (min ys.length us.length) - i/\i<=min xs.length (min ys.length us.length)/\Pv i σ H,⟨min xs.length (min ys.length us.length),by simp,OL _,h0⟩,?_⟩;rintro i m σ H ⟨rfl,hi,p⟩;obtain⟨qa,qb,qc⟩:=hl i σ H p
 by_cases hlt:i < min xs.length (min ys.length us.length)
 ·refine .inr ⟨⟨qa,qb,qc,by omega,by omega,by omega⟩,Pv (i+1),λ σ' H' p'=>⟨min xs.length (min ys.length us.length) - (i+1),by omega,rfl,hlt,p'⟩,λ x H' y=>?_⟩;obtain⟨r,u,v,t,hr,rfl,hu,hv,ht,rfl⟩:=y;exact hs i u v t r σ H _ hu hv ht p hr (Ext.new hr) au
 ·have e:i=min xs.length (min ys.length us.length):=by omega
  subst e;exact .inl ⟨⟨qa,qb,qc,by omega⟩,hd σ H p⟩
def Kr(Q:VK)(a:Addr)(y:V):VK:=λ z H=>∃ o,qL H a y o/\Q (o.getD z) H
def Ks(tx:TE)(σ:St)(Q:VK)(a:Addr):VK:=λ y H=>tx σ H (Kr Q a y)
theorem IS(tx:TE)(σ:St)(Q:VK)(a:Addr)(y:V)(H:Hp):Ks tx σ Q a y H=tx σ H (Kr Q a y):=rfl
def Mu(ty tx:TE)(σ:St)(Q:VK):VK:=λ x H=>∃ a,x=.ref a/\IsD H a/\ty σ H (Ks tx σ Q a)
theorem zG(td ty tx:TE)(σ:St)(H:Hp)(Q:VK):Bm td ty tx σ H Q=td σ H (Mu ty tx σ Q):=rfl
theorem CF{ty tx:TE}{σ:St}{Q:VK}{H:Hp}{a:Addr}{kvs:List (Key × V)}(e:H a=some (.dK kvs))(q:ty σ H (Ks tx σ Q a)):Mu ty tx σ Q (.ref a) H:=⟨a,rfl,.inl ⟨kvs,.inl e⟩,q⟩
theorem GS{Q:VK}{H:Hp}{a:Addr}{kvs:List (Key × V)}{k:Key}{z:V}(e:H a=some (.dK kvs))(q:Q ((fB kvs k).getD z) H):Kr Q a (kV k) z H:=⟨_,qL.k e,q⟩
def M8(neg:Bool):R2:=λ x y H Q=>∃ d ds,gM H 6 x=some d/\gM H 6 y=some (.list ds)/\Q (.bl (if neg=true then !(ds.any λ y=>PyData.eqv y d) else ds.any λ y=>PyData.eqv y d)) H
section
variable {X:Cx}
theorem zX{ds:List PyData}(h:(PyData.list ds).canLay0=true):PyData.canLayAll0 ds=true:=by simpa [PyData.canLay0] using h
theorem wu(hu:X.A.units+64 < cLine):OpR X (compareOp .NotIn) (M8 true):=by
 intro pins s σ H x y v u Q I rx ry h;obtain⟨d,ds,e1,e2,q⟩:=h;obtain⟨a,b,c⟩:=i6 (K:=X.K) 6 x d e1;obtain⟨a',b',c'⟩:=i6 (K:=X.K) 6 y _ e2;obtain⟨as,z⟩:=a.reads I rx;obtain⟨bs,z'⟩:=a'.reads I ry;exact SeqAt.notIn_list_reads z' z (zX b') b (by have:=Nat.min_le_right (PyData.depthAll ds) d.depth;omega) ⟨.bl _,H,I,rfl,q⟩
end
def uW(X:Cx)(f:Value)(ks:List Str)(r:List V->List V->Hp->VK->Prop):Prop:=∀ pins s σ H vs us zs ws Q,Inv X pins σ H s->bq vs us->bq zs ws->r vs zs H Q->wpAny (model X.prog X.w) X.A (call f us (ks.zip ws)) (EP X pins σ Q) X.xe s
def KH(r:List V->List V->Hp->VK->Prop)(Q:VK)(vs:List V):List V->Hp->Prop:=λ zs H=>r vs zs H Q
theorem Jf(r:List V->List V->Hp->VK->Prop)(Q:VK)(vs zs:List V)(H:Hp):KH r Q vs zs H=r vs zs H Q:=rfl
def KI(r:List V->List V->Hp->VK->Prop)(tk:TA)(σ:St)(Q:VK):List V->Hp->Prop:=λ vs H=>tk σ H (KH r Q vs)
theorem Jg(r:List V->List V->Hp->VK->Prop)(tk:TA)(σ:St)(Q:VK)(vs:List V)(H:Hp):KI r tk σ Q vs H=tk σ H (KH r Q vs):=rfl
def L5(r:List V->List V->Hp->VK->Prop)(t tk:TA):TE:=λ σ H Q=>t σ H (KI r tk σ Q)
theorem HX(r:List V->List V->Hp->VK->Prop)(t tk:TA)(σ:St)(H:Hp)(Q:VK):L5 r t tk σ H Q=t σ H (KI r tk σ Q):=rfl
theorem nW{X:Cx}{id:String}{x:Str}{p pos:Pos}{e:Expr}{es:List Expr}{kws:List Keyword}{ks:List Str}{r:List V->List V->Hp->VK->Prop}{t tk:TA}(hc:uW X (.builtin id) ks r)(hg:Gl X x)(hm:X.mg x=none)(hv:bootBuiltins x=some (.builtin id))(ha:PA X (e::es) t)(hk:PK X kws tk)(hn:x ≠ "__name__":=by decide)(hdb:(x == ("__debug__":Str))=false:=by decide)
  (hks:(backToKw pos (keywordEach kws X.env)).filterMap (·.1)=ks:=by rfl)
  (h1:backTo pos (starEach (e::es) X.env)=(false,eval e X.env)::backTo pos (starEach es X.env):=by rfl)
  (h2:(backTo pos (starEach (e::es) X.env)).any (·.1)=false:=by rfl)
  (h3:(backToKw pos (keywordEach kws X.env)).all (·.1.isSome)=true:=by rfl)
  (h4:(backToKw pos (keywordEach kws X.env)).any (·.1.isNone)=false:=by rfl):PE X (.Call (.Name x p) (e::es) kws pos) (L5 r t tk):=by
 intro pins s σ H Q I h;refine Pn (eC I hg hm hv ?_ hn hdb);refine callWith_kw (thn (ha pos pins s σ H _ I h) λ us s1 ⟨vs,H1,I1,r1,q1⟩=>thn (hk pos pins s1 σ H1 _ I1 q1) λ ws s2 ⟨zs,H2,I2,r2,q2⟩=>?_) h1 h2 h3 h4;rw [hks];exact hc pins s2 σ H2 vs us zs ws Q I2 r1 r2 q2
theorem lF{prog:Program}{w:World}{A:Around}{E:Value->Shared->Prop}{s:Shared}{id:String}{b:Builtin}{xs:List Value}{kv:List (Str × Value)}{Q:Value->Shared->Prop}(hk:builtinKind id=none)(hp:plainId id=true)
  (hb:entryFor table id=some b) (ha:argsOk id ⟨xs,kv⟩)
  (hc:wpAny (model prog w) A.in1 (b ⟨xs,kv⟩) (λ fin z=>match fin with
   | .done f=>(match (Except.ok f:Result) with | .ok (.ret v)=>Q v z | .ok _=>False | .error e=>E e z)
   | .again c=>c.quiet=true/\codeAny (model prog w) A c (λ r z=>match r with | .ok (.ret v)=>Q v z | .ok _=>False | .error e=>E e z) z) E s) :
  wpAny (model prog w) A (call (.builtin id) xs kv) Q E s:=by
 refine wpAny_call (codeAny_call_builtin (args:=⟨xs,kv⟩) hp hb ?_);simp only [checkBuiltinCall,hk]
 cases hs:Manifest.signature? id with
 | none=>exact NA hc
 | some sg=>
  simp only [argsOk,hs] at ha;have h2:Bind.checkArgs id sg ⟨xs,kv⟩=pure ():=ha;simp only [h2];exact NA hc
section
variable {prog:Program}{w:World}{A:Around}{R:Result->Shared->Prop}{J:Addr}{fp wr:List Addr}{G:Array GenState->Array GenState->Prop}{n:Nat}{P:Nat->Value->Prop}{St:Nat->Shared->Prop}
theorem zC(kv:List (Str × Value))(W:WalksS prog w A.in1 J fp wr G n P St)(bt:Nat->Nat->Bool)(hcmp:CmpOf prog w A.in1 .Lt P bt)(D:Addr)(hD:D ∉ fp) :
  ∀ (k j:Nat) (s:Shared) (b:Value) (c:Nat),n - (j+1)=k->j+1<=n->St (j+1) s->P (argBest bt j) b->s.heap.get? D=some { cls:=.type "list",dict:=none,data:=.seq #[b,b] c,slots:=#[] } →
  (∀ v z,P (argBest bt (n - 1)) v->Moved (D::wr) G s z->R (.ok (.ret v)) z)->codeAny (model prog w) A (.builtin "min.loop" ⟨[.ref J,.none,.ref D],kv⟩) R s:=by
 have hDw:D ∉ wr:=λ h=>hD (W.sub _ h);have sub:∀ a∈wr,a∈D::wr:=λ a ha=>NH _ ha;have nm:(toString "min" ++ toString ".loop":String) = "min.loop":=by decide
 have nD:∀ {a:Addr},a ∉ D::wr->D ≠ a:=λ ha h=>ha (by rw [h];exact NK);intro k
 induction k with
 | zero=>
  intro j s b c hk hj st hb hg hR;have hjn:j+1=n:=by omega
  refine(Pq F.entry_min_loop ?_);rw [(O0 Px _)]
  show wpAny _ A.in1 ((seqItems? (.ref D)) >>= _) _ _ s
  refine My (N3 hg rfl ?_)
  show wpAny _ A.in1 ((tryCatch (pyNext (.ref J)) _) >>= _) _ _ s
  refine My (Pe (W.done s _ _ (hjn ▸ st) λ z mv=>?_));have hg':=mv.heap D _ hDw hg
  show wpAny _ A.in1 ((updateSeq D (λ _=>#[])) >>= _) _ _ _
  refine My ?_;refine(OY hg' rfl (My (OR (NA ?_))));exact hR b _ (by rw [←hjn];exact hb) ((mv.mono sub).then_heap (tk:=z.toks) (NF _) λ a o ha e=>(NZ _ _ (nD ha)).trans e)
 | succ k ih=>
  intro j s b c hk hj st hb hg hR;have hlt:j+1 < n:=by omega
  refine(Pq F.entry_min_loop ?_);rw [(O0 Px _)]
  show wpAny _ A.in1 ((seqItems? (.ref D)) >>= _) _ _ s
  refine My (N3 hg rfl ?_)
  show wpAny _ A.in1 ((tryCatch (pyNext (.ref J)) _) >>= _) _ _ s
  refine My (Pe (W.item (j+1) s _ _ hlt st λ v z hP st' mv=>?_));have hg':=mv.heap D _ hDw hg
  show wpAny _ A.in1 ((tryCatch (holding [v,v] (richCompare .Lt v b >>= _)) _) >>= _) _ _ _
  refine My (Pe (OZ (My (hcmp (j+1) (argBest bt j) v b _ _ _ hP hb ?_))));refine(My (OZ (O3 ?_)));refine(My (OR (NA ?_)))
  cases hbt:bt (j+1) (argBest bt j) with
  | true=>
   simp only [Qp];refine My ?_;refine(OY hg' rfl (My (OR ?_)));rw [nm];refine NA ⟨Po Px _,ih (j+1) _ v _ (by omega) hlt (W.frame _ z _ z.toks st' (NF _) λ a ha o e=>?_) (by simp only [argBest,hbt,Qp];exact hP) (Om _ hg' rfl) λ v' z' hP' mv'=>?_⟩
   ·exact(NZ _ _ (λ h:D=a=>hD (by rw [h];exact ha))).trans e
   ·exact hR v' z' hP' (Q6 W.gtrans ((mv.mono sub).then_heap (by first|exact NF _|exact Qg _|omega) λ a o ha e=>(NZ _ _ (nD ha)).trans e) mv')
  | false=>
   simp only [O7,Qj];refine(My (OR ?_));rw [nm];refine NA ⟨Po Px _,ih (j+1) _ b c (by omega) hlt st' (by simp only [argBest,hbt,O7,Qj];exact hb) hg' λ v' z' hP' mv'=>?_⟩;exact hR v' z' hP' (Q6 W.gtrans (mv.mono sub) mv')
theorem wF(d:Value)(W:WalksS prog w A.in1 J fp wr G n P St)(bt:Nat->Nat->Bool)(hcmp:CmpOf prog w A.in1 .Lt P bt)(D:Addr)(hD:D ∉ fp){s:Shared}{c:Nat}(st:St 0 s)
  (hg:s.heap.get? D=some { cls:=.type "list",dict:=none,data:=.seq #[] c,slots:=#[] })
  (h0:n=0->∀ z,Moved (D::wr) G s z->R (.ok (.ret d)) z) (hR:0 < n->∀ v z,P (argBest bt (n - 1)) v->Moved (D::wr) G s z->R (.ok (.ret v)) z):codeAny (model prog w) A (.builtin "min.loop" ⟨[.ref J,.none,.ref D],[("default",d)]⟩) R s:=by
 have hDw:D ∉ wr:=λ h=>hD (W.sub _ h);have sub:∀ a∈wr,a∈D::wr:=λ a ha=>NH _ ha;have nm:(toString "min" ++ toString ".loop":String) = "min.loop":=by decide
 have nD:∀ {a:Addr},a ∉ D::wr->D ≠ a:=λ ha h=>ha (by rw [h];exact NK);refine(Pq F.entry_min_loop ?_);rw [(O0 Px _)]
 show wpAny _ A.in1 ((seqItems? (.ref D)) >>= _) _ _ s
 refine My (N3 hg rfl ?_)
 show wpAny _ A.in1 ((tryCatch (pyNext (.ref J)) _) >>= _) _ _ s
 by_cases hn:n=0
 ·refine My (Pe (W.done s _ _ (by rw [hn];exact st) λ z mv=>?_));refine My (Qs (NA ?_));exact h0 hn z (mv.mono sub)
 ·refine My (Pe (W.item 0 s _ _ (by omega) st λ v z hP st' mv=>?_));have hg':=mv.heap D _ hDw hg
  show wpAny _ A.in1 ((updateSeq D (λ _=>#[v,v])) >>= _) _ _ _
  refine My ?_;refine(OY hg' rfl ?_);rw [nm];refine NA ⟨Po Px _,zC _ W bt hcmp D hD _ 0 _ v _ rfl (by omega) (W.frame _ z _ z.toks st' (NF _) λ a ha o e=>?_) hP (Om _ hg' rfl) λ v' z' hP' mv'=>?_⟩
  ·exact(NZ _ _ (λ h:D=a=>hD (by rw [h];exact ha))).trans e
  ·exact hR (by omega) v' z' hP' (Q6 W.gtrans ((mv.mono sub).then_heap (by first|exact NF _|exact Qg _|omega) λ a o ha e=>(NZ _ _ (nD ha)).trans e) mv')
end
theorem yd(a d:Value):argsOk "min" ⟨[a],[("default",d)]⟩:=by unfold argsOk;kernel_rfl
theorem xS{prog:Program}{w:World}{A:Around}{E:Value->Shared->Prop}{s:Shared}{x d:Value}{Q:Value->Shared->Prop}
  (h:wpAny (model prog w) A.in1 (pyIter x) (λ it z=>∃ J fp wr G n P St bt,it=.ref J/\WalksS prog w A.in1 J fp wr G n P St/\St 0 z/\(∀ b∈fp,b < z.heap.objs.size)/\CmpOf prog w A.in1 .Lt P bt /\
   (n=0->∀ z',Moved wr G z z'->Q d z')/\(0 < n->∀ v z',P (argBest bt (n - 1)) v->Moved wr G z z'->Q v z')) E s) :
  wpAny (model prog w) A (call (.builtin "min") [x] [("default",d)]) Q E s:=by
 have nm:(toString "min" ++ toString ".loop":String) = "min.loop":=by decide
 refine lF F.kind_min F.plain_min F.entry_min (yd x d) ?_
 show wpAny _ A.in1 (Builtin.Builtins.bindParams "min" ["key", "default"] 0 ⟨[],[("default",d)]⟩ >>= _) _ _ s
 refine My (wpAny_of_eq (show Builtin.Builtins.bindParams "min" ["key", "default"] 0 ⟨[],[("default",d)]⟩=pure [none,some d] from rfl) ?_);refine My (NA ?_);refine My (thn h λ it z hz=>?_);obtain⟨J,fp,wr,G,n,P,St,bt,rfl,W,st,hfp,hcmp,h0,hQ⟩:=hz;refine My (O4 ?_);have hD:z.heap.objs.size ∉ fp:=λ hm=>Ou _ (hfp _ hm);rw [nm];refine NA ⟨Po Px _,wF d W bt hcmp z.heap.objs.size hD (W.frame 0 z _ z.toks st (NF _) λ b _ o e=>Nx _ e) (NG _ rfl) (λ hn z' mv=>?_) λ hn v z' hP mv=>?_⟩
 ·exact h0 hn z' (RC (tk:=z.toks) mv (NF _))
 ·exact hQ hn v z' hP (RC (tk:=z.toks) mv (NF _))
def uM(d:Int)(H:Hp)(Q:VK):List Int->Prop:=λ ns=>(ns=[]->Q (.int d) H)/\∀ M,M∈ns->(∀ a∈ns,M<=a)->Q (.int M) H
def B3:List V->List V->Hp->VK->Prop:=λ vs zs H Q=>match vs,zs with
 | [.ref p],[.int d]=>aF (aw H p) (eJ (uM d H Q))
 | _,_=>False
theorem DS(p:Addr)(d:Int)(H:Hp)(Q:VK):B3 [.ref p] [.int d] H Q=aF (aw H p) (eJ (uM d H Q)):=rfl
theorem tJ{X:Cx}(hc:X.calm=true):uW X (.builtin "min") ["default"] B3:=by
 intro pins s σ H vs us zs ws Q I r rz h;unfold B3 at h;split at h
 ·rename_i p d;obtain⟨xs,e,ns,rfl,h0,q⟩:=aj h
  cases rz with
  | cons rd rz'=>
  cases rz'
  cases r with
  | cons r rr=>
   cases rr;cases r;obtain⟨its,rv,pl,hz⟩:=I.list (SqL.of (bD e));have hlt:p < s.heap.objs.size:=by obtain⟨_,e,_⟩:=pl.isList;exact NB e
   have hlen:its.length=ns.length:=by have:=rv.length;simpa using this.symm
   have hsz:its.toArray.size=ns.length:=by simp [hlen]
   have hP:∀ (i:Nat) (v:Value),its.toArray[i]? = some v->∃ t,v=.int (ns.getD i 0) t:=λ i v hP=>by
    have hv:its[i]? = some v:=by simpa using hP
    have hi:i < ns.length:=by rw [←hlen];exact(Ny.mp hv).1
    obtain⟨u,hu,ru⟩:=rv.get (i:=i) (x:=.int (ns.getD i 0)) (by rw [NL,Nw hi];simp [List.getD,Nw hi]);rw [hv] at hu;cases hu;exact ru
   refine xS (Pf pl.isList ⟨s.heap.objs.size,_,_,_,_,_,_,λ i j=>decide (ns.getD i 0 < ns.getD j 0),rfl,(Rt (show X.A.in1.handled=none from I.ok.hd hc) _ p (NQ hlt) its.toArray).toS,⟨⟨_,NG _ rfl,rfl,rfl⟩,pl.isList.push _⟩,λ b hb=>?_,CmpOf.ints_lt (λ i=>ns.getD i 0) λ i v h=>hP i v h,λ hn s' hm=>?_,λ hn v s' hv hm=>?_⟩)
   ·rw [Oa]
    rcases NR.mp hb with rfl|hb
    ·exact OW _
    ·rw [NC.mp hb];exact Qf hlt
   ·obtain⟨hp,g,d',tk,os⟩:=s'
    have kp:∀ b o,s.heap.get? b=some o->hp.get? b=some o:=λ b o e=>hm.heap b o (λ hmem=>by
     have:b=s.heap.objs.size:=by simpa using hmem
     subst this;exact absurd (NB e) (Ou _)) (Nx _ e)
    have e1:g=s.gens:=hm.gens;have e2:d'=s.drawn:=hm.drawn;have e3:os=s.os:=hm.os;subst e1 e2 e3;exact⟨.int d,H,I.kept (t':=tk) kp,rd,h0 (OB (by rw [←hsz];exact hn))⟩
   ·obtain⟨hp,g,d',tk,os⟩:=s'
    have kp:∀ b o,s.heap.get? b=some o->hp.get? b=some o:=λ b o e=>hm.heap b o (λ hmem=>by
     have:b=s.heap.objs.size:=by simpa using hmem
     subst this;exact absurd (NB e) (Ou _)) (Nx _ e)
    have e1:g=s.gens:=hm.gens;have e2:d'=s.drawn:=hm.drawn;have e3:os=s.os:=hm.os;subst e1 e2 e3;obtain⟨b1,b2⟩:=argBest_lt (λ i=>ns.getD i 0) (its.toArray.size - 1);have rv2:=hP _ v hv;generalize argBest (λ i j=>decide (ns.getD i 0 < ns.getD j 0)) (its.toArray.size - 1)=k at b1 b2 rv2;rw [hsz] at b1 b2 hn;have hk:k < ns.length:=by omega
    refine⟨.int (ns.getD k 0),H,I.kept (t':=tk) kp,rv2,q _ ?_ λ a ha=>?_⟩
    ·rw [List.getD,Nw hk];exact Pa hk
    ·obtain⟨j,hj,rfl⟩:=Pw ha;have:=b2 j (by omega);rw [show ns.getD j 0=ns[j] by rw [List.getD,Nw hj];rfl] at this;exact this
 ·exact h.elim
section
variable {prog:Program}{w:World}{A:Around}{R:Result->Shared->Prop}{J:Addr}{fp wr:List Addr}{G:Array GenState->Array GenState->Prop}{n:Nat}{P:Nat->Value->Prop}{St:Nat->Shared->Prop}
theorem zD(kv:List (Str × Value))(W:WalksS prog w A.in1 J fp wr G n P St)(bt:Nat->Nat->Bool)(hcmp:CmpOf prog w A.in1 .Gt P bt)(D:Addr)(hD:D ∉ fp) :
  ∀ (k j:Nat) (s:Shared) (b:Value) (c:Nat),n - (j+1)=k->j+1<=n->St (j+1) s->P (argBest bt j) b->s.heap.get? D=some { cls:=.type "list",dict:=none,data:=.seq #[b,b] c,slots:=#[] } →
  (∀ v z,P (argBest bt (n - 1)) v->Moved (D::wr) G s z->R (.ok (.ret v)) z)->codeAny (model prog w) A (.builtin "max.loop" ⟨[.ref J,.none,.ref D],kv⟩) R s:=by
 have hDw:D ∉ wr:=λ h=>hD (W.sub _ h);have sub:∀ a∈wr,a∈D::wr:=λ a ha=>NH _ ha;have nm:(toString "max" ++ toString ".loop":String) = "max.loop":=by decide
 have nD:∀ {a:Addr},a ∉ D::wr->D ≠ a:=λ ha h=>ha (by rw [h];exact NK);intro k
 induction k with
 | zero=>
  intro j s b c hk hj st hb hg hR;have hjn:j+1=n:=by omega
  refine(Pq F.entry_max_loop ?_);rw [(O0 Py _)]
  show wpAny _ A.in1 ((seqItems? (.ref D)) >>= _) _ _ s
  refine My (N3 hg rfl ?_)
  show wpAny _ A.in1 ((tryCatch (pyNext (.ref J)) _) >>= _) _ _ s
  refine My (Pe (W.done s _ _ (hjn ▸ st) λ z mv=>?_));have hg':=mv.heap D _ hDw hg
  show wpAny _ A.in1 ((updateSeq D (λ _=>#[])) >>= _) _ _ _
  refine My ?_;refine(OY hg' rfl (My (OR (NA ?_))));exact hR b _ (by rw [←hjn];exact hb) ((mv.mono sub).then_heap (tk:=z.toks) (NF _) λ a o ha e=>(NZ _ _ (nD ha)).trans e)
 | succ k ih=>
  intro j s b c hk hj st hb hg hR;have hlt:j+1 < n:=by omega
  refine(Pq F.entry_max_loop ?_);rw [(O0 Py _)]
  show wpAny _ A.in1 ((seqItems? (.ref D)) >>= _) _ _ s
  refine My (N3 hg rfl ?_)
  show wpAny _ A.in1 ((tryCatch (pyNext (.ref J)) _) >>= _) _ _ s
  refine My (Pe (W.item (j+1) s _ _ hlt st λ v z hP st' mv=>?_));have hg':=mv.heap D _ hDw hg
  show wpAny _ A.in1 ((tryCatch (holding [v,v] (richCompare .Gt v b >>= _)) _) >>= _) _ _ _
  refine My (Pe (OZ (My (hcmp (j+1) (argBest bt j) v b _ _ _ hP hb ?_))));refine(My (OZ (O3 ?_)));refine(My (OR (NA ?_)))
  cases hbt:bt (j+1) (argBest bt j) with
  | true=>
   simp only [Qp];refine My ?_;refine(OY hg' rfl (My (OR ?_)));rw [nm];refine NA ⟨Po Py _,ih (j+1) _ v _ (by omega) hlt (W.frame _ z _ z.toks st' (NF _) λ a ha o e=>?_) (by simp only [argBest,hbt,Qp];exact hP) (Om _ hg' rfl) λ v' z' hP' mv'=>?_⟩
   ·exact(NZ _ _ (λ h:D=a=>hD (by rw [h];exact ha))).trans e
   ·exact hR v' z' hP' (Q6 W.gtrans ((mv.mono sub).then_heap (by first|exact NF _|exact Qg _|omega) λ a o ha e=>(NZ _ _ (nD ha)).trans e) mv')
  | false=>
   simp only [O7,Qj];refine(My (OR ?_));rw [nm];refine NA ⟨Po Py _,ih (j+1) _ b c (by omega) hlt st' (by simp only [argBest,hbt,O7,Qj];exact hb) hg' λ v' z' hP' mv'=>?_⟩;exact hR v' z' hP' (Q6 W.gtrans (mv.mono sub) mv')
theorem wG(d:Value)(W:WalksS prog w A.in1 J fp wr G n P St)(bt:Nat->Nat->Bool)(hcmp:CmpOf prog w A.in1 .Gt P bt)(D:Addr)(hD:D ∉ fp){s:Shared}{c:Nat}(st:St 0 s)
  (hg:s.heap.get? D=some { cls:=.type "list",dict:=none,data:=.seq #[] c,slots:=#[] })
  (h0:n=0->∀ z,Moved (D::wr) G s z->R (.ok (.ret d)) z) (hR:0 < n->∀ v z,P (argBest bt (n - 1)) v->Moved (D::wr) G s z->R (.ok (.ret v)) z):codeAny (model prog w) A (.builtin "max.loop" ⟨[.ref J,.none,.ref D],[("default",d)]⟩) R s:=by
 have hDw:D ∉ wr:=λ h=>hD (W.sub _ h);have sub:∀ a∈wr,a∈D::wr:=λ a ha=>NH _ ha;have nm:(toString "max" ++ toString ".loop":String) = "max.loop":=by decide
 have nD:∀ {a:Addr},a ∉ D::wr->D ≠ a:=λ ha h=>ha (by rw [h];exact NK);refine(Pq F.entry_max_loop ?_);rw [(O0 Py _)]
 show wpAny _ A.in1 ((seqItems? (.ref D)) >>= _) _ _ s
 refine My (N3 hg rfl ?_)
 show wpAny _ A.in1 ((tryCatch (pyNext (.ref J)) _) >>= _) _ _ s
 by_cases hn:n=0
 ·refine My (Pe (W.done s _ _ (by rw [hn];exact st) λ z mv=>?_));refine My (Qs (NA ?_));exact h0 hn z (mv.mono sub)
 ·refine My (Pe (W.item 0 s _ _ (by omega) st λ v z hP st' mv=>?_));have hg':=mv.heap D _ hDw hg
  show wpAny _ A.in1 ((updateSeq D (λ _=>#[v,v])) >>= _) _ _ _
  refine My ?_;refine(OY hg' rfl ?_);rw [nm];refine NA ⟨Po Py _,zD _ W bt hcmp D hD _ 0 _ v _ rfl (by omega) (W.frame _ z _ z.toks st' (NF _) λ a ha o e=>?_) hP (Om _ hg' rfl) λ v' z' hP' mv'=>?_⟩
  ·exact(NZ _ _ (λ h:D=a=>hD (by rw [h];exact ha))).trans e
  ·exact hR (by omega) v' z' hP' (Q6 W.gtrans ((mv.mono sub).then_heap (by first|exact NF _|exact Qg _|omega) λ a o ha e=>(NZ _ _ (nD ha)).trans e) mv')
end
theorem ye(a d:Value):argsOk "max" ⟨[a],[("default",d)]⟩:=by unfold argsOk;kernel_rfl
theorem xU{prog:Program}{w:World}{A:Around}{E:Value->Shared->Prop}{s:Shared}{x d:Value}{Q:Value->Shared->Prop}
  (h:wpAny (model prog w) A.in1 (pyIter x) (λ it z=>∃ J fp wr G n P St bt,it=.ref J/\WalksS prog w A.in1 J fp wr G n P St/\St 0 z/\(∀ b∈fp,b < z.heap.objs.size)/\CmpOf prog w A.in1 .Gt P bt /\
   (n=0->∀ z',Moved wr G z z'->Q d z')/\(0 < n->∀ v z',P (argBest bt (n - 1)) v->Moved wr G z z'->Q v z')) E s) :
  wpAny (model prog w) A (call (.builtin "max") [x] [("default",d)]) Q E s:=by
 have nm:(toString "max" ++ toString ".loop":String) = "max.loop":=by decide
 refine lF F.kind_max F.plain_max F.entry_max (ye x d) ?_
 show wpAny _ A.in1 (Builtin.Builtins.bindParams "max" ["key", "default"] 0 ⟨[],[("default",d)]⟩ >>= _) _ _ s
 refine My (wpAny_of_eq (show Builtin.Builtins.bindParams "max" ["key", "default"] 0 ⟨[],[("default",d)]⟩=pure [none,some d] from rfl) ?_);refine My (NA ?_);refine My (thn h λ it z hz=>?_);obtain⟨J,fp,wr,G,n,P,St,bt,rfl,W,st,hfp,hcmp,h0,hQ⟩:=hz;refine My (O4 ?_);have hD:z.heap.objs.size ∉ fp:=λ hm=>Ou _ (hfp _ hm);rw [nm];refine NA ⟨Po Py _,wG d W bt hcmp z.heap.objs.size hD (W.frame 0 z _ z.toks st (NF _) λ b _ o e=>Nx _ e) (NG _ rfl) (λ hn z' mv=>?_) λ hn v z' hP mv=>?_⟩
 ·exact h0 hn z' (RC (tk:=z.toks) mv (NF _))
 ·exact hQ hn v z' hP (RC (tk:=z.toks) mv (NF _))
def uO(d:Int)(H:Hp)(Q:VK):List Int->Prop:=λ ns=>(ns=[]->Q (.int d) H)/\∀ M,M∈ns->(∀ a∈ns,a<=M)->Q (.int M) H
def B5:List V->List V->Hp->VK->Prop:=λ vs zs H Q=>match vs,zs with
 | [.ref p],[.int d]=>aF (aw H p) (eJ (uO d H Q))
 | _,_=>False
theorem DU(p:Addr)(d:Int)(H:Hp)(Q:VK):B5 [.ref p] [.int d] H Q=aF (aw H p) (eJ (uO d H Q)):=rfl
theorem tK{X:Cx}(hc:X.calm=true):uW X (.builtin "max") ["default"] B5:=by
 intro pins s σ H vs us zs ws Q I r rz h;unfold B5 at h;split at h
 ·rename_i p d;obtain⟨xs,e,ns,rfl,h0,q⟩:=aj h
  cases rz with
  | cons rd rz'=>
  cases rz'
  cases r with
  | cons r rr=>
   cases rr;cases r;obtain⟨its,rv,pl,hz⟩:=I.list (SqL.of (bD e));have hlt:p < s.heap.objs.size:=by obtain⟨_,e,_⟩:=pl.isList;exact NB e
   have hlen:its.length=ns.length:=by have:=rv.length;simpa using this.symm
   have hsz:its.toArray.size=ns.length:=by simp [hlen]
   have hP:∀ (i:Nat) (v:Value),its.toArray[i]? = some v->∃ t,v=.int (ns.getD i 0) t:=λ i v hP=>by
    have hv:its[i]? = some v:=by simpa using hP
    have hi:i < ns.length:=by rw [←hlen];exact(Ny.mp hv).1
    obtain⟨u,hu,ru⟩:=rv.get (i:=i) (x:=.int (ns.getD i 0)) (by rw [NL,Nw hi];simp [List.getD,Nw hi]);rw [hv] at hu;cases hu;exact ru
   refine xU (Pf pl.isList ⟨s.heap.objs.size,_,_,_,_,_,_,λ i j=>decide (ns.getD i 0 > ns.getD j 0),rfl,(Rt (show X.A.in1.handled=none from I.ok.hd hc) _ p (NQ hlt) its.toArray).toS,⟨⟨_,NG _ rfl,rfl,rfl⟩,pl.isList.push _⟩,λ b hb=>?_,CmpOf.ints_gt (λ i=>ns.getD i 0) λ i v h=>hP i v h,λ hn s' hm=>?_,λ hn v s' hv hm=>?_⟩)
   ·rw [Oa]
    rcases NR.mp hb with rfl|hb
    ·exact OW _
    ·rw [NC.mp hb];exact Qf hlt
   ·obtain⟨hp,g,d',tk,os⟩:=s'
    have kp:∀ b o,s.heap.get? b=some o->hp.get? b=some o:=λ b o e=>hm.heap b o (λ hmem=>by
     have:b=s.heap.objs.size:=by simpa using hmem
     subst this;exact absurd (NB e) (Ou _)) (Nx _ e)
    have e1:g=s.gens:=hm.gens;have e2:d'=s.drawn:=hm.drawn;have e3:os=s.os:=hm.os;subst e1 e2 e3;exact⟨.int d,H,I.kept (t':=tk) kp,rd,h0 (OB (by rw [←hsz];exact hn))⟩
   ·obtain⟨hp,g,d',tk,os⟩:=s'
    have kp:∀ b o,s.heap.get? b=some o->hp.get? b=some o:=λ b o e=>hm.heap b o (λ hmem=>by
     have:b=s.heap.objs.size:=by simpa using hmem
     subst this;exact absurd (NB e) (Ou _)) (Nx _ e)
    have e1:g=s.gens:=hm.gens;have e2:d'=s.drawn:=hm.drawn;have e3:os=s.os:=hm.os;subst e1 e2 e3;obtain⟨b1,b2⟩:=argBest_gt (λ i=>ns.getD i 0) (its.toArray.size - 1);have rv2:=hP _ v hv;generalize argBest (λ i j=>decide (ns.getD i 0 > ns.getD j 0)) (its.toArray.size - 1)=k at b1 b2 rv2;rw [hsz] at b1 b2 hn;have hk:k < ns.length:=by omega
    refine⟨.int (ns.getD k 0),H,I.kept (t':=tk) kp,rv2,q _ ?_ λ a ha=>?_⟩
    ·rw [List.getD,Nw hk];exact Pa hk
    ·obtain⟨j,hj,rfl⟩:=Pw ha;have:=b2 j (by omega);rw [show ns.getD j 0=ns[j] by rw [List.getD,Nw hj];rfl] at this;exact this
 ·exact h.elim
def bR(kv:List (Int × Int))(c:Int):Option Int:=(kv.find? λ p=>decide (p.1=c)).map λ p=>p.2
def jT(kv:List (Int × Int)):List (Key × V):=kv.map λ p=>(Sum.inl p.1,V.int p.2)
def FQ(ka kb:List (Int × Int)):Bool:=ka.length == kb.length && ka.all λ p=>bR kb p.1 == some p.2
theorem jn{p:Int × Int}{r:List (Int × Int)}{c:Int}(e:p.1=c):bR (p::r) c=some p.2:=by simp [bR,PQ,e]
theorem jo{p:Int × Int}{r:List (Int × Int)}{c:Int}(e:¬ p.1=c):bR (p::r) c=bR r c:=by simp [bR,PQ,e]
theorem BG{a c:Int}(h:¬ a=c):¬ (Sum.inl a:Key)=Sum.inl c:=λ e=>h (Sum.inl.inj e)
theorem pE:∀ (kv:List (Int × Int)) (c:Int),fB (jT kv) (.inl c)=(bR kv c).map V.int
 | [],c=>rfl
 | p::r,c=>by
  by_cases h:p.1=c
  ·rw [jn h];exact cy (p:=(Sum.inl p.1,V.int p.2)) (r:=jT r) (OM Sum.inl h)
  ·rw [jo h,←pE r c];exact cz (p:=(Sum.inl p.1,V.int p.2)) (r:=jT r) (BG h)
theorem vb{kv:List (Int × Int)}{c:Int}(v:Int)(h:bR kv c=none):ku (jT kv) (.inl c) (.int v)=jT (kv++[(c,v)]):=by
 rw [rA _ (by rw [pE,h];rfl)];unfold jT;rw [map_append];rfl
theorem Bi:∀ {kb:List (Int × Int)}{ys:List (Key × Value)},KV (jT kb) ys->∀ c:Int,(bR kb c=none->valueAt ys (.inl c)=none)/\∀ j,bR kb c=some j->∃ t,valueAt ys (.inl c)=some (.int j t)
 | [],_,.nil,c=>⟨λ _=>rfl,λ j h=>by cases h⟩
 | p::r,(k,v)::ys,.cons hk t,c=>by
  obtain⟨i1,i2⟩:=Bi (kb:=r) (ys:=ys) t c;obtain⟨hk1,hk2⟩:=hk;have hk1':Sum.inl p.1=k:=hk1;obtain⟨t',hv⟩:∃ t,v=.int p.2 t:=hk2;unfold valueAt at *
  by_cases h:p.1=c
  ·have e:decide (k=Sum.inl c)=true:=NT (by rw [←hk1',h]);rw [jn h,PQ,e];refine⟨(λ z=>by cases z),λ j hj=>?_⟩;cases hj;exact⟨t',by rw [hv];rfl⟩
  ·have e:decide (k=Sum.inl c)=false:=N9 (by rw [←hk1'];exact BG h);rw [jo h,PQ,e];exact⟨i1,i2⟩
theorem rO{A:Around}{s:Shared}{kb:List (Int × Int)}{ys:List (Key × Value)}(hy:KV (jT kb) ys):∀ {ka:List (Int × Int)}{xs:List (Key × Value)},KV (jT ka) xs->W.KeqHits A s ys xs (ka.all λ p=>bR kb p.1 == some p.2)
 | [],_,.nil=>.nil
 | p::r,(k,v)::xs,.cons hk t=>by
  have ih:=rO (A:=A) (s:=s) hy (ka:=r) (xs:=xs) t;obtain⟨hk1,hk2⟩:=hk;have hk1':Sum.inl p.1=k:=hk1;obtain⟨t',hv⟩:∃ t,v=.int p.2 t:=hk2;subst hk1';subst hv;obtain⟨a1,a2⟩:=Bi hy p.1;rw [Ro]
  cases hl:bR kb p.1 with
  | none=>
   have:=W.KeqHits.miss (A:=A) (s:=s) (v:=.int p.2 t') (r:=xs) (a1 hl);exact this
  | some j=>
   obtain⟨t2,h2⟩:=a2 j hl;have:=W.KeqHits.hit h2 (PySem.SeqAt.EqAt.int_int (A:=A) (s:=s) p.2 t' j t2) ih
   rw [show (some j == some p.2)=(p.2 == j) by
    by_cases e:j=p.2
    ·subst e;simp
    ·have e':¬ p.2=j:=λ z=>e z.symm;rw [show (some j == some p.2)=false from beq_false_of_ne (λ z=>e (NX z)),show (p.2 == j)=false from beq_false_of_ne e']]
   exact this
def Mi:R2:=λ x y H Q=>∃ a b ka kb,x=.ref a/\y=.ref b/\H a=some (.dK (jT ka))/\H b=some (.dK (jT kb))/\Q (.bl (FQ ka kb)) H
theorem CG{a b:Addr}{ka kb:List (Int × Int)}{H:Hp}{Q:VK}(ha:H a=some (.dK (jT ka)))(hb:H b=some (.dK (jT kb)))(q:Q (.bl (FQ ka kb)) H):FN Mi (.ref a) Q (.ref b) H:=⟨a,b,ka,kb,rfl,rfl,ha,hb,q⟩
theorem Dv{X:Cx}(hu:X.A.units+1 < cLine):OpR X (compareOp .Eq) Mi:=by
 intro pins s σ H x y v u Q I rx ry h;obtain⟨a,b,ka,kb,rfl,rfl,ha,hb,q⟩:=h;cases rx;cases ry;obtain⟨_,za,xs,kx,dx⟩:=Cs I.hok ha;obtain⟨_,zb,ys,ky,dy⟩:=Cs I.hok hb;have lx:xs.length=ka.length:=by rw [←(Paired.length kx)];unfold jT;rw [length_map]
 have ly:ys.length=kb.length:=by rw [←(Paired.length ky)];unfold jT;rw [length_map]
 refine W.keq_eq (r:=ka.all λ p=>bR kb p.1 == some p.2) za zb dx dy (by omega) (λ _=>rO ky kx) ?_;rw [lx,ly];exact⟨.bl (FQ ka kb),H,I,rfl,q⟩
abbrev PKy:=List Int × List Int
section
variable {prog:Program}{w:World}
def nh(prog:Program)(w:World)(h:Heap)(k:PKy)(a:Addr):Prop:=∃ o u v n,h.get? a=some o/\o.cls=.type "tuple" /\ o.data=.seq #[.ref u,.ref v] n/\IsTupleKey (intKind prog w) h k.1 u/\IsTupleKey (intKind prog w) h k.2 v
theorem nh.inj{h:Heap}{a:Addr}{x y:PKy}(hx:nh prog w h x a)(hy:nh prog w h y a):x=y:=by
 obtain⟨o,u,v,n,h1,h2,h3,h4,h5⟩:=hx;obtain⟨o',u',v',n',g1,g2,g3,g4,g5⟩:=hy;rw [h1] at g1;cases g1;rw [h3] at g3;cases g3;exact Prod.ext (h4.inj g4) (h5.inj g5)
theorem nh.typeIs{s:Shared}{a:Addr}{k:PKy}(h:nh prog w s.heap k a):s.TypeIs (.ref a) "tuple":=by
 obtain⟨o,u,v,n,h1,h2,_⟩:=h;exact⟨o,h1,h2⟩
theorem nh.keeps{h h':Heap}{k:PKy}{a d:Addr}{o:Obj}{es:Array DictEntry}{ep:Nat}(hk:nh prog w h k a)(hd:h.get? d=some o)(ho:o.data=.dict es ep)(hs:Heap.SameBut d h h'):nh prog w h' k a:=by
 obtain⟨o',u,v,n,h1,h2,h3,h4,h5⟩:=hk;have hne:a ≠ d:=λ e=>by rw [e,hd] at h1;cases h1;rw [ho] at h3;cases h3
 exact⟨o',u,v,n,(hs.2 a hne).trans h1,h2,h3,h4.keeps hd ho hs,h5.keeps hd ho hs⟩
def qR(prog:Program)(w:World)(k:PKy):Int:=reduceHash (Builtin.Tuple.tupleHashOf [tupleKeyHash (intKind prog w) k.1,tupleKeyHash (intKind prog w) k.2])
theorem De{A:Around}{E:Value->Shared->Prop}{s:Shared}{k:PKy}{a:Addr}{Q:Int->Shared->Prop}(hu:A.units+1 < cLine)(hk:nh prog w s.heap k a)
  (q:Q (qR prog w k) { s with toks:=s.toks+((k.1.length+1)+(k.2.length+1)+1) }):wpAny (model prog w) A (pyHash (.ref a)) Q E s:=by
 have ty:=hk.typeIs;obtain⟨o,u,v,n,h1,h2,h3,h4,h5⟩:=hk;unfold pyHash pyHashByItsType;refine wpAny_bind (wpAny_cRoomFor_or (.inr (by omega)) ?_);refine wpAny_bind (wpAny_specialOf ty PySem.F.slot_tuple_hash.lookup ?_);rw [if_neg (by rw [beq_iff_eq];intro z;cases z)];refine wpAny_bind (wpAny_specialOf ty PySem.F.slot_tuple_hash.lookup ?_);rw [if_neg (by decide)];refine wpAny_bind (wpAny_callSpecialIfBoundUnlessNone?_slot ty PySem.F.slot_tuple_hash (wpAny_call_entry PySem.F.slot_tuple_hash ty PySem.F.entry_tuple_hash ?_ (PySem.F.args_tuple_hash_1 _)));unfold Builtin.«tuple.__hash__»;refine wpAny_bind ?_
 show wpAny _ _ (pure (Value.ref a,_)) _ _ _
 refine NA ?_;refine My (wpAny_tupleItemsOf h1 h3 ?_);refine My ?_;rw [←Array.forIn_toList]
 show wpAny _ _ (forIn [Value.ref u,Value.ref v] #[] _) _ _ _
 simp only [forIn_cons,forIn_nil];refine wpAny_bind (wpAny_bind (wpAny_pyHash_tuple (show A.units+1 < cLine from hu) h4 (wpAny_pure ?_)));refine wpAny_bind (wpAny_bind (wpAny_pyHash_tuple (show A.units+1 < cLine from hu) h5 (wpAny_pure (wpAny_pure ?_))));unfold retInt;refine wpAny_ret_mkInt ?_
 show wpAny _ _ (pyHashByItsType.reduced _) _ _ _
 have q':Q (qR prog w k) { heap:=s.heap,gens:=s.gens,drawn:=s.drawn,toks:=s.toks+(k.1.length+1)+(k.2.length+1)+1,os:=s.os }:=by
  rw [Nat.add_assoc,Nat.add_assoc,←Nat.add_assoc (k.1.length+1)];exact q
 unfold qR reduceHash at q';unfold pyHashByItsType.reduced;simp only [Array.toList_push,List.nil_append,cons_append];split
 ·rename_i hc;rw [N7 hc] at q';exact NA q'
 ·rename_i hc;rw [NY hc] at q';exact My (Qs (NA q'))
theorem Az{k:Int}{v:Value}(h:Value.isInt k v=true):∃ t,v=.int k t:=by
 cases v<;>simp [Value.isInt] at h
 rename_i t;subst h;exact⟨_,rfl⟩
theorem lq{h:Heap}:∀ {xs:List Int}{vs:List Value},ItemsAre (intKind prog w) xs vs->ReadsAll h vs (xs.map PyData.int) []
 | _,_,.nil=>.nil
 | _,_,.cons (k:=k) (v:=v) hk t=>by
  obtain⟨tk,rfl⟩:=Az hk;exact .cons (.int _ _) (lq t)
theorem rk{h:Heap}{xs:List Int}{a:Addr}(hk:IsTupleKey (intKind prog w) h xs a):Reads h (.ref a) (.tuple (xs.map PyData.int)) []:=by
 obtain⟨o,its,n,h1,h2,h3,h4⟩:=hk;exact .tuple h1 h2 h3 (lq h4)
def pkD(k:PKy):PyData:=.tuple [.tuple (k.1.map PyData.int),.tuple (k.2.map PyData.int)]
theorem nh.reads{h:Heap}{k:PKy}{a:Addr}(hk:nh prog w h k a):Reads h (.ref a) (pkD k) []:=by
 obtain⟨o,u,v,n,h1,h2,h3,h4,h5⟩:=hk;exact .tuple h1 h2 h3 (.cons (rk h4) (.cons (rk h5) .nil))
theorem uF(k:PKy):(pkD k).canLay0=true/\(pkD k).depth<=2:=by
 have key:∀ xs:List Int,PyData.canLayAll0 (xs.map PyData.int)=true/\PyData.depthAll (xs.map PyData.int)=0:=by
  intro xs
  induction xs with
  | nil=>exact⟨by simp [PyData.canLayAll0],by simp [PyData.depthAll]⟩
  | cons x xs ih=>exact⟨by simp [PyData.canLayAll0,PyData.canLay0,ih.1],by simp [PyData.depthAll,PyData.depth,ih.2]⟩
 exact⟨by simp [pkD,PyData.canLay0,PyData.canLayAll0,key],by simp [pkD,PyData.depth,PyData.depthAll,key]⟩
theorem Df(a b:PKy):PyData.eqv (pkD a) (pkD b)=decide (a=b):=by
 unfold pkD;rw [eG,bV,bV,dD,eG,dP,eG,dP,Bool.and_true];obtain⟨a1,a2⟩:=a;obtain⟨b1,b2⟩:=b
 by_cases h1:a1=b1
 ·by_cases h2:a2=b2
  ·simp [h1,h2]
  ·simp [h1,h2]
 ·simp [h1]
theorem KS{A:Around}{E:Value->Shared->Prop}{s:Shared}{x y:PKy}{a b:Addr}{Q:Bool->Shared->Prop}(hu:A.units+2 < cLine)(hx:nh prog w s.heap x a)(hy:nh prog w s.heap y b)(q:Q (decide (x=y)) s):wpAny (model prog w) A (eqBool (.ref a) (.ref b)) Q E s:=by
 have h1:=(uF x).2;have:=SeqAt.eqAt_reads (pkD x) (pkD y) A s _ _ _ _ hx.reads hy.reads (uF x).1 (uF y).1 (by have:=Nat.min_le_left (pkD x).depth (pkD y).depth;omega);rw [Df] at this;exact this _ _ _ _ q
theorem qg{A:Around}{E:Value->Shared->Prop}{s:Shared}{n:Nat}{vs:List Value}{Q:Option Bool × Unit->Shared->Prop}(h:∀ v∈vs,∀ Q':Bool->Shared->Prop,Q' true s->wpAny (model prog w) A (eqIsQuiet n v) Q' E s)(q:Q (none,()) s) :
  wpAny (model prog w) A (forIn vs (none,()) λ y (_:Option Bool × Unit)=>do
   let r ←eqIsQuiet n y
   if (!r)=true then pure (ForInStep.done (some false,())) else pure (ForInStep.yield (none,()))) Q E s:=by
 induction vs with
 | nil=>exact NA q
 | cons v vs ih=>
  rw [P9];refine My (My (h v NK _ ?_));rw [NY (by decide)];exact NA (ih λ v hv=>h v (NH _ hv))
theorem nR{A:Around}{E:Value->Shared->Prop}{s:Shared}{n:Nat}{a:Addr}{o:Obj}{vs:List Value}{m:Nat}{Q:Bool->Shared->Prop}(h1:s.heap.get? a=some o)(h2:o.cls=.type "tuple")(h3:o.data=.seq vs.toArray m)(h:∀ v∈vs,∀ Q':Bool->Shared->Prop,Q' true s->wpAny (model prog w) A (eqIsQuiet n v) Q' E s)(q:Q true s):wpAny (model prog w) A (eqIsQuiet (n+1) (.ref a)) Q E s:=by
 have ty:s.TypeIs (.ref a) "tuple":=⟨o,h1,h2⟩;rw [eqIsQuiet.eq_def];refine My (Qk ty PySem.F.slot_tuple_eq.lookup ?_);refine My (Q8 ty isSubtype_tuple_tuple ?_);rw [NY (by decide)];refine My (N3 h1 h3 ?_);refine My ?_;rw [←Array.forIn_toList];exact qg h (NA q)
theorem zh{A:Around}{E:Value->Shared->Prop}{s:Shared}{k:PKy}{a:Addr}{Q:Bool->Shared->Prop}(hk:nh prog w s.heap k a)(q:Q true s):wpAny (model prog w) A (eqIsQuiet 8 (.ref a)) Q E s:=by
 obtain⟨o,u,v,n,h1,h2,h3,h4,h5⟩:=hk
 have one:∀ {xs:List Int} {b:Addr},IsTupleKey (intKind prog w) s.heap xs b->∀ Q':Bool->Shared->Prop,Q' true s->wpAny (model prog w) A (eqIsQuiet 7 (.ref b)) Q' E s:=by
  intro xs b hb Q' q';obtain⟨o,its,n,g1,g2,g3,g4⟩:=hb;refine nR (vs:=its.toList) g1 g2 g3 (λ v hv Q'' q''=>?_) q';rw [eqIsQuiet_byValue _ (g4.byValue v hv)];exact NA q''
 refine nR (vs:=[.ref u,.ref v]) h1 h2 h3 (λ y hy Q' q'=>?_) q;simp only [NR,NN,Ob] at hy
 rcases hy with rfl|rfl
 ·exact one h4 Q' q'
 ·exact one h5 Q' q'
def iI(prog:Program)(w:World):HeapKind prog w PKy where
 is:=nh prog w
 hash:=qR prog w
 draws k:=(k.1.length+1)+(k.2.length+1)+1
 room A:=A.units+2 < cLine
 inj:=nh.inj
 keeps:=nh.keeps
 pyHash:=λ hr hk q=>De (by omega) hk q
 eqBool:=λ hr hx hy q=>KS hr hx hy q
 quiet:=λ hk q=>zh hk q
end
def M0(P:Program)(w:World)(a:Addr)(xs:List (PKy × Addr × Value))(h:Heap):Prop:=∃ o es ep,h.get? a=some o/\o.ExactDict/\o.data=.dict es ep/\es.toList=xs.map (entryOfKey (iI P w))/\(xs.map (·.1)).Nodup
def dPo(P:Program)(w:World)(a:Addr)(xs:List (PKy × Addr × Value)):HO:=.ext (M0 P w a xs)
def PKV(H:Hp)(k:PKy)(b:Addr):Prop:=∃ u v,H b=some (.tup [.ref u,.ref v])/\H u=some (.tup (k.1.map V.int))/\H v=some (.tup (k.2.map V.int))
def ng(P:Program)(w:World)(H:Hp)(d:Addr)(Z:List PKy):Prop:=∃ xs,H d=some (dPo P w d xs)/\(d == sysModules)=false/\xs.length<=Z.length/\(∀ x∈xs,PKV H x.1 x.2.1)/\∀ k,(atKey xs k).isSome=decide (k∈Z)
theorem PKV.ext{H H':Hp}{k:PKy}{b:Addr}(h:PKV H k b)(e:Ext H H'):PKV H' k b:=by
 obtain⟨u,v,h1,h2,h3⟩:=h;exact⟨u,v,e.at h1,e.at h2,e.at h3⟩
theorem PKV.upd{H:Hp}{k:PKy}{b d:Addr}{φ:Heap->Prop}{o:HO}(h:PKV H k b)(hd:H d=some (.ext φ)):PKV (upd H d o) k b:=by
 obtain⟨u,v,h1,h2,h3⟩:=h;exact⟨u,v,by rw [ag (λ z=>by rw [z,hd] at h1;cases h1)];exact h1,by rw [ag (λ z=>by rw [z,hd] at h2;cases h2)];exact h2,by rw [ag (λ z=>by rw [z,hd] at h3;cases h3)];exact h3⟩
theorem ng.ext{P:Program}{w:World}{H H':Hp}{d:Addr}{Z:List PKy}(h:ng P w H d Z)(e:Ext H H'):ng P w H' d Z:=by
 obtain⟨xs,h1,h2,h3,h4,h5⟩:=h;exact⟨xs,e.at h1,h2,h3,λ x hx=>(h4 x hx).ext e,h5⟩
theorem rM{P:Program}{w:World}:∀ {ks:List Int}{us:List Value},bq (ks.map V.int) us->ItemsAre (intKind P w) ks us
 | [],_,r=>by rw [map_nil] at r;cases r;exact .nil
 | k::ks,_,r=>by
  rw [OP] at r
  cases r with
  | cons h t=>
   obtain⟨tk,e⟩:=(show ∃ t,_=Value.int k t from h);subst e;exact .cons (intKind_is P w k tk) (rM t)
section
variable {P:Program}{w:World}{H:Hp}{h:Heap}{a:Addr}
theorem FV{ks:List Int}(ok:HOk P w H h)(e:H a=some (.tup (ks.map V.int))):IsTupleKey (intKind P w) h ks a:=by
 obtain⟨_,its,r,o,h1,h2,n,h3⟩:=(show cu P w H h a (.tup (ks.map V.int)) from ok a _ e);exact⟨o,its.toArray,n,h1,h2,h3,by simpa using rM r⟩
theorem B7{k:PKy}(ok:HOk P w H h)(e:PKV H k a):nh P w h k a:=by
 obtain⟨u,v,h1,h2,h3⟩:=e;obtain⟨_,its,r,o,g1,g2,n,g3⟩:=(show cu P w H h a (.tup [.ref u,.ref v]) from ok a _ h1)
 cases r with
 | cons r1 t1=>cases t1 with
  | cons r2 t2=>cases t2 with
   | nil=>
    cases (show _=Value.ref u from r1);cases (show _=Value.ref v from r2);exact⟨o,u,v,n,g1,g2,g3,FV ok h2,FV ok h3⟩
theorem GA{xs:List (PKy × Addr × Value)}(ok:HOk P w H h)(e:H a=some (dPo P w a xs))(hk:∀ x∈xs,PKV H x.1 x.2.1):h.DictOfH (iI P w) a xs:=by
 obtain⟨⟨o,es,ep,h1,h2,h3,h4,h5⟩,_⟩:=(show cu P w H h a (dPo P w a xs) from ok a _ e);exact⟨o,es,ep,h1,h2,h3,h4,λ x hx=>B7 ok (hk x hx),h5⟩
end
section
variable {X:Cx}{pins:List (Addr × Obj)}{σ:St}{H:Hp}{s:Shared}{d b:Addr}{k:PKy}{Z:List PKy}{A:Around}{E:Value->Shared->Prop}
theorem Na{Q:Value->Shared->Prop}(hu:A.units+64 < cLine)(I:Inv X pins σ H s)(g:ng X.prog X.w H d Z)(hk:PKV H k b)(h:∀ s',Inv X pins σ H s'->Q (.bool (decide (k∈Z))) s'):wpAny (model X.prog X.w) A (compareOp .In (.ref b) (.ref d)) Q E s:=by
 obtain⟨xs,h1,h2,h3,h4,h5⟩:=g;refine wpAny_in_heap (knd:=iI X.prog X.w) (show A.units+1+2 < cLine by omega) (B7 I.hok hk) h2 (GA I.hok h1 h4) ?_;rw [h5];exact h _ (I.tok _)
theorem p6{xs:List (PKy × Addr × Value)}{j:PKy}:(atKey xs j).isSome=true ↔ ∃ x∈xs,x.1=j:=by
 unfold atKey;rw [Option.isSome_map,List.find?_isSome];simp
theorem kO{xs:List (PKy × Addr × Value)}{v:Value}:∀ x∈storedH xs k b v,(∃ y∈xs,x.1=y.1/\x.2.1=y.2.1)\/(x.1=k/\x.2.1=b):=by
 intro x hx;unfold storedH at hx;split at hx
 ·obtain⟨y,hy,rfl⟩:=List.mem_map.mp hx;refine .inl ⟨y,hy,?_⟩;unfold putAt
  split<;>exact⟨rfl,rfl⟩
 ·rcases N2.mp hx with h|h
  ·exact .inl ⟨x,h,rfl,rfl⟩
  ·rw [NC.mp h];exact .inr ⟨rfl,rfl⟩
theorem yc{xs:List (PKy × Addr × Value)}{v:Value}(j:PKy):(atKey (storedH xs k b v) j).isSome=(decide (j=k) || (atKey xs j).isSome):=by
 apply Pc.mpr;rw [Bool.or_eq_true,Qd,p6,p6];constructor
 ·rintro ⟨x,hx,rfl⟩
  rcases kO x hx with ⟨y,hy,e,_⟩|⟨e,_⟩
  ·exact .inr ⟨y,hy,e.symm⟩
  ·exact .inl e
 ·intro h;unfold storedH;split
  ·rename_i hk;rw [p6] at hk
   have h':∃ x∈xs,x.1=j:=by
    rcases h with rfl|h
    ·exact hk
    ·exact h
   obtain⟨x,hx,rfl⟩:=h';refine⟨_,List.mem_map.mpr ⟨x,hx,rfl⟩,?_⟩;unfold putAt
   split<;>rfl
  ·rcases h with rfl|⟨x,hx,e⟩
   ·exact⟨_,N4 _ (NC.mpr rfl),rfl⟩
   ·exact⟨x,Oc _ hx,e⟩
theorem sE{xs:List (PKy × Addr × Value)}{v:Value}:(storedH xs k b v).length<=xs.length+1:=by
 unfold storedH;split
 ·rw [Nz];omega
 ·rw [NP];exact NF _
theorem KY{r:Value}{Q:Unit->Shared->Prop}(hu:A.units+64 < cLine)(I:Inv X pins σ H s)(g:ng X.prog X.w H d Z)(hk:PKV H k b)(hz:Z.length<=sizeLine)
  (h:∀ (o:HO) (s':Shared),ng X.prog X.w (upd H d o) d (k::Z)->Inv X pins σ (upd H d o) s'->Q () s'):wpAny (model X.prog X.w) A (setItem (.ref d) (.ref b) r) Q E s:=by
 obtain⟨xs,h1,h2,h3,h4,h5⟩:=g;refine wpAny_setItem_heap (knd:=iI X.prog X.w) (hsz:=by omega) (show A.units+1+2 < cLine by omega) (B7 I.hok hk) (GA I.hok h1 h4) λ h' dd hs=>?_;obtain⟨q,es,ep,hq,g2,g3,g4,_,g5⟩:=dd
 have hkeys:∀ x∈storedH xs k b r,PKV (upd H d (dPo X.prog X.w d (storedH xs k b r))) x.1 x.2.1:=λ x hx=>by
  rcases kO x hx with ⟨y,hy,e1,e2⟩|⟨e1,e2⟩
  ·rw [e1,e2];exact(h4 y hy).upd h1
  ·rw [e1,e2];exact hk.upd h1
 refine h (dPo X.prog X.w d (storedH xs k b r)) _ ⟨_,au,h2,?_,hkeys,λ j=>?_⟩ (p4 I (by rw [h1];exact True.intro) hs ⟨q,hq⟩ ?_)
 ·have:=sE (xs:=xs) (k:=k) (b:=b) (v:=r);rw [Ow];omega
 ·rw [yc,h5,←Bool.decide_or];exact decide_eq_decide.mpr NR.symm
 ·refine⟨⟨q,es,ep,hq,g2,g3,g4,g5⟩,⟨q,hq⟩,λ h1 h2 ⟨o,es,ep,a1,a2⟩ hk=>⟨o,es,ep,hk _ a1,a2⟩⟩
end
def Ma(P:Program)(w:World):R2:=λ y x H Q=>∃ d b k Z,x=.ref d/\y=.ref b/\ng P w H d Z/\PKV H k b/\Q (.bl (decide (k∈Z))) H
theorem CD{P:Program}{w:World}{H:Hp}{d b:Addr}{k:PKy}{Z:List PKy}{Q:VK}(e:ng P w H d Z)(hk:PKV H k b)(q:Q (.bl (decide (k∈Z))) H):Ma P w (.ref b) (.ref d) H Q:=⟨d,b,k,Z,rfl,rfl,e,hk,q⟩
def Mg(P:Program)(w:World)(H:Hp)(Q:VK):Prop:=∀ (p:Addr) (H':Hp),H p=none->Ext H H'->ng P w H' p []->Q (.ref p) H'
def Bz(P:Program)(w:World):TE:=λ _ H Q=>Mg P w H Q
theorem zJ(P:Program)(w:World)(σ:St)(H:Hp)(Q:VK):Bz P w σ H Q=Mg P w H Q:=rfl
def Kk(P:Program)(w:World)(nx:St->Hp->Prop)(σ:St)(x:V):VK:=λ y H=>∃ d b k Z,x=.ref d/\y=.ref b/\ng P w H d Z/\PKV H k b/\Z.length<=sizeLine/\∀ o,ng P w (upd H d o) d (k::Z)->nx σ (upd H d o)
def Kl(P:Program)(w:World)(ty:TE)(nx:St->Hp->Prop)(σ:St):VK:=λ x H=>ty σ H (Kk P w nx σ x)
theorem IC(P:Program)(w:World)(ty:TE)(nx:St->Hp->Prop)(σ:St)(x:V)(H:Hp):Kl P w ty nx σ x H=ty σ H (Kk P w nx σ x):=rfl
def Km(P:Program)(w:World)(td ty:TE)(nx:St->Hp->Prop)(σ:St):VK:=λ _ H=>td σ H (Kl P w ty nx σ)
theorem ID(P:Program)(w:World)(td ty:TE)(nx:St->Hp->Prop)(σ:St)(v:V)(H:Hp):Km P w td ty nx σ v H=td σ H (Kl P w ty nx σ):=rfl
def Gh(P:Program)(w:World)(td ty tv:TE):TS:=λ D σ H=>tv σ H (Km P w td ty D.nx σ)
theorem DM(P:Program)(w:World)(td ty tv:TE)(nx:St->Hp->Prop)(rt:VK)(bk ct:St->Hp->Prop)(σ:St)(H:Hp):Gh P w td ty tv ⟨nx,rt,bk,ct⟩ σ H=tv σ H (Km P w td ty nx σ):=rfl
theorem GR{P:Program}{w:World}{H:Hp}{d b:Addr}{k:PKy}{Z:List PKy}{nx:St->Hp->Prop}{σ:St}(e:ng P w H d Z)(hk:PKV H k b)(hz:Z.length<=sizeLine)(q:∀ o,ng P w (upd H d o) d (k::Z)->nx σ (upd H d o)):Kk P w nx σ (.ref d) (.ref b) H:=⟨d,b,k,Z,rfl,rfl,e,hk,hz,q⟩
section
variable {X:Cx}
theorem HB(hu:X.A.units+64 < cLine):OpR X (compareOp .In) (Ma X.prog X.w):=by
 intro pins s σ H x y v u Q I rx ry h;obtain⟨d,b,k,Z,rfl,rfl,g,hk,q⟩:=h;cases (show u=Value.ref d from ry);cases (show v=Value.ref b from rx);exact Na hu I g hk λ s3 I3=>⟨.bl (decide (k∈Z)),H,I3,rfl,q⟩
theorem wo{pos:Pos}:PE X (.Dict [] [] pos) (Bz X.prog X.w):=λ pins s σ H Q I h=>by
 have hn:=I.hok.fresh (NF s.heap.objs.size);refine wpAny_Dict_empty ⟨.ref s.heap.objs.size,_,I.laid (a:=s.heap.objs.size) (o:=dPo X.prog X.w s.heap.objs.size []) (t':=s.toks) (λ _ _ q=>Nx _ q) (NF _) ?_,rfl,h _ _ hn (Ext.new hn) ?_⟩
 ·exact⟨⟨_,#[],0,NG _ rfl,⟨rfl,rfl,rfl⟩,rfl,rfl,P0⟩,⟨_,NG _ rfl⟩,λ h1 h2 ⟨o,es,ep,a1,a2⟩ hk=>⟨o,es,ep,hk _ a1,a2⟩⟩
 ·exact⟨[],au,Pp.mpr (NM (NQ I.big)),NF _,λ x hx=>by (cases hx),λ k=>by rw [N9 NN];rfl⟩
theorem CY{td ty tv:TE}{o i value:Expr}{pos' pos:Pos}(hu:X.A.units+64 < cLine)(ho:PE X o td)(hi:PE X i ty)(hv:PE X value tv)(hs:swapsWith value (some (.Subscript o i pos')) pos.line X.env=pure false) :
  PS X (.Assign [.Subscript o i pos'] value pos) (Gh X.prog X.w td ty tv):=by
 intro pins s σ H D I h;refine wpAny_Assign_Subscript (thn (hv pins s σ H _ I h) λ r s1 ⟨v,H1,I1,rv,q1⟩=>thn (ho pins s1 σ H1 _ I1 q1) λ u s2 ⟨x,H2,I2,rx,q2⟩=>thn (hi pins s2 σ H2 _ I2 q2) λ iv s3 ⟨y,H3,I3,ry,d,b,k,Z,ex,ey,g,hk,hz,q3⟩=>?_) hs;subst ex ey;obtain rfl:u=Value.ref d:=rx;obtain rfl:iv=Value.ref b:=ry;exact KY hu I3 g hk hz λ o s4 kn I4=>⟨σ,_,I4,q3 o kn⟩
end
theorem Dh{X:Cx}{tg l:Expr}{tl:TE}{K:W.Frag}(hK:X.K=K)(hl:PE X l tl):PI X tg l (KJ K tl):=by subst hK;exact Bu hl
end L2
namespace PH
def eA(ns:List Int):Prop:=ns.length<=8/\∀ n∈ns,1<=n/\n<=1000000000
def ae:List Int->Int
 | []=>1
 | n::r=>n * ae r
def ao:List Int->Int->List Int
 | [],_=>[]
 | n::r,x=>x / ae r % n::ao r x
theorem bp:∀ ns ms:List Int,ae (ns++ms)=ae ns * ae ms
 | [],ms=>by simp [ae]
 | n::r,ms=>by simp only [Q3,ae,bp r ms,OU]
theorem gW(ns:List Int)(i:Nat)(z:Int)(h:ns[i]? = some z):ae (ns.take (i+1))=ae (ns.take i) * z:=by
 rw [OH,h,bp];simp [ae]
theorem dj:∀ ns:List Int,(∀ n∈ns,1<=n/\n<=1000000000)->1<=ae ns/\ae ns<=1000000000 ^ ns.length
 | [],_=>by simp [ae]
 | n::r,h=>by
  obtain⟨h1,h2⟩:=dj r λ m hm=>h m (NH _ hm);obtain⟨g1,g2⟩:=h n NK;refine⟨?_,?_⟩
  ·show 1<=n * ae r
   exact Int.le_trans (by omega) (Pk g1 h1 (by decide) (by omega):1 * 1<=n * ae r)
  ·show n * ae r<=1000000000 ^ (r.length+1)
   rw [RD,ON];exact Pk h2 g2 (by omega) (Int.le_trans (by omega) h2)
theorem Dc:∀ {k:Nat},k<=8->(1000000000:Int) ^ k<=1000000000 ^ 8
 | 0,_=>by decide
 | 1,_=>by decide
 | 2,_=>by decide
 | 3,_=>by decide
 | 4,_=>by decide
 | 5,_=>by decide
 | 6,_=>by decide
 | 7,_=>by decide
 | 8,_=>by decide
 | k+9,h=>by omega
theorem eA.prod{ns:List Int}(h:eA ns):1<=ae ns/\ae ns<=1000000000 ^ 8:=by
 obtain⟨a,b⟩:=dj ns h.2;exact⟨a,Int.le_trans b (Dc h.1)⟩
theorem eA.take{ns:List Int}(h:eA ns)(i:Nat):eA (ns.take i):=⟨by have:=h.1;simp;omega,λ n hn=>h.2 n (OK hn)⟩
theorem eA.drop{ns:List Int}(h:eA ns)(i:Nat):eA (ns.drop i):=⟨by have:=h.1;simp;omega,λ n hn=>h.2 n (PD hn)⟩
theorem oq(ns:List Int)(i:Nat)(z:Int)(hi:i < ns.length)(h:ns[ns.length - 1 - i]? = some z):ns.drop (ns.length - (i+1))=z::ns.drop (ns.length - i):=by
 have e:ns.length - (i+1)=ns.length - 1 - i:=by omega
 have e2:ns.length - i=ns.length - 1 - i+1:=by omega
 rw [e,e2];obtain⟨hl,hz⟩:=Ny.mp h;rw [←hz];exact List.drop_eq_getElem_cons hl
theorem sI(ns:List Int)(i:Nat)(z:Int)(hi:i < ns.length)(h:ns[ns.length - 1 - i]? = some z):ae (ns.drop (ns.length - (i+1)))=ae (ns.drop (ns.length - i)) * z:=by
 rw [oq ns i z hi h];exact ON _ _
theorem qe(ns:List Int)(x:Int)(i:Nat)(z:Int)(hi:i < ns.length)(h:ns[ns.length - 1 - i]? = some z):(ao (ns.drop (ns.length - (i+1))) x).reverse=(ao (ns.drop (ns.length - i)) x).reverse++[x / ae (ns.drop (ns.length - i)) % z]:=by
 rw [oq ns i z hi h];simp [ao]
theorem xl(ns:List Int)(x:Int)(i:Nat)(z:Int)(hi:i < ns.length)(h:ns[ns.length - 1 - i]? = some z)(hz:0<=ae (ns.drop (ns.length - i))):x / ae (ns.drop (ns.length - (i+1)))=x / ae (ns.drop (ns.length - i)) / z:=by
 rw [sI ns i z hi h];exact(P6 hz).symm
theorem bg:∀ (ns:List Int) (x:Int),(ao ns x).length=ns.length
 | [],_=>rfl
 | _::r,x=>by simp [ao,bg r x]
def InR:List Int->List Int->Prop
 | [],[]=>True
 | n::r,x::xs=>(0<=x/\x < n)/\InR r xs
 | _,_=>False
def d5:List Int->List Int->Int
 | _::r,x::xs=>x * ae r+d5 r xs
 | _,_=>0
theorem fj:∀ ns xs:List Int,(∀ n∈ns,1<=n/\n<=1000000000)->InR ns xs->0<=d5 ns xs/\d5 ns xs < ae ns
 | [],[],_,_=>by simp [d5,ae]
 | [],_::_,_,h=>h.elim
 | _::_,[],_,h=>h.elim
 | n::r,x::xs,hs,⟨⟨h0,h1⟩,h⟩=>by
  obtain⟨a,b⟩:=fj r xs (λ m hm=>hs m (NH _ hm)) h;have hp:=(dj r λ m hm=>hs m (NH _ hm)).1;refine⟨?_,?_⟩
  ·show 0<=x * ae r+d5 r xs
   have:=PM h0 (show 0<=ae r by omega);omega
  ·show x * ae r+d5 r xs < n * ae r
   have:=NV (show x+1<=n by omega) (show 0<=ae r by omega);rw [Pl,Rh] at this;omega
theorem kP:∀ ns xs:List Int,(∀ n∈ns,1<=n/\n<=1000000000)->InR ns xs->∀ c,ao ns (c * ae ns+d5 ns xs)=xs
 | [],[],_,_,_=>rfl
 | [],_::_,_,h,_=>h.elim
 | _::_,[],_,h,_=>h.elim
 | n::r,x::xs,hs,⟨⟨h0,h1⟩,h⟩,c=>by
  have hs':=λ m hm=>hs m (NH n hm);obtain⟨a,b⟩:=fj r xs hs' h;have hp:=(dj r hs').1
  have e:c * (n * ae r)+(x * ae r+d5 r xs)=(c * n+x) * ae r+d5 r xs:=by
   rw [Pl,OU];omega
  show (c * (n * ae r)+(x * ae r+d5 r xs)) / ae r % n::ao r (c * (n * ae r)+(x * ae r+d5 r xs))=x::xs
  rw [e,kP r xs hs' h]
  have e2:((c * n+x) * ae r+d5 r xs) / ae r=c * n+x:=by
   rw [Int.add_comm,Int.add_mul_ediv_right _ _ (by omega),Int.ediv_eq_zero_of_lt a b,OJ]
  have e3:(c * n+x) % n=x:=by
   rw [Int.add_comm,RP,PC h0 h1]
  rw [e2,e3]
theorem eQ(ns xs:List Int)(hs:∀ n∈ns,1<=n/\n<=1000000000)(h:InR ns xs):ao ns (d5 ns xs)=xs:=by
 have:=kP ns xs hs h 0
 rwa [Qn,OJ] at this
theorem InR.len:∀ {ns xs:List Int},InR ns xs->xs.length=ns.length
 | [],[],_=>rfl
 | [],_::_,h=>h.elim
 | _::_,[],h=>h.elim
 | _::r,_::xs,⟨_,h⟩=>by simp [InR.len h]
theorem InR.split:∀ (ns:List Int) (x:Int),(∀ n∈ns,1<=n/\n<=1000000000)->InR ns (ao ns x)
 | [],_,_=>trivial
 | n::r,x,hs=>⟨⟨OV _ (by have:=hs n NK;omega),OG _ (by have:=hs n NK;omega)⟩,InR.split r x λ m hm=>hs m (NH _ hm)⟩
theorem InR.zeros:∀ r:List Int,(∀ n∈r,1<=n/\n<=1000000000)->InR r (r.map λ _=>0)
 | [],_=>trivial
 | n::r,h=>⟨⟨Int.le_refl 0,(by have:=h n NK;show (0:Int) < n;omega)⟩,InR.zeros r λ m hm=>h m (NH _ hm)⟩
open PySem L2
def vi:V->Int
 | .int i=>i
 | _=>0
def fR(x:V)(b:Int):Bool:=match x with
 | .int i=>decide (0<=i) && decide (i < b)
 | _=>false
def pF(H:Hp)(x:V):Prop:=(isW H x).isSome=true/\∀ q xs,x=.ref q->H q=some (.tup xs)->∀ y∈xs,(isW H y).isSome=true
def nv(ns:List Int):Option HO->Bool
 | some (.tup xs)=>decide (xs.length=ns.length) && (xs.zip ns).all (λ p=>fR p.1 p.2)
 | _=>false
def kD(ns:List Int)(x:V)(H:Hp):Bool:=match x with
 | .ref q=>nv ns (H q)
 | _=>false
theorem EX{H H':Hp}(e:Ext H H'){x:V}{b:Bool}(h:isW H x=some b):isW H' x=some b:=by
 cases x with
 | ref p=>
  obtain⟨_,o,ho,_⟩:=lW h;rw [iJ,ho] at h;rw [iJ,e.at ho];exact h
 | _=>exact h
theorem ik{H:Hp}{q:Addr}{xs:List Int}(h:H q=some (.tup (xs.map V.int))):pF H (.ref q):=by
 refine⟨by rw [iJ,h];rfl,λ q' ys e hy y hm=>?_⟩;cases e;rw [h] at hy;cases hy;obtain⟨i,_,rfl⟩:=ND.mp hm;rfl
theorem BH:∀ {ns ys:List Int},InR ns ys->((ys.map V.int).zip ns).all (λ p=>fR p.1 p.2)=true
 | [],[],_=>rfl
 | [],_::_,h=>h.elim
 | _::_,[],h=>h.elim
 | n::ns,y::ys,⟨h,k⟩=>by
  simp only [OP,QA,Ro,BH k,Rq]
  show (decide (0<=y) && decide (y < n))=true
  simp [h.1,h.2]
theorem nS{ns ys:List Int}{q:Addr}{H:Hp}(h:H q=some (.tup (ys.map V.int)))(hy:InR ns ys):kD ns (.ref q) H=true:=by
 show nv ns (H q)=true
 rw [h]
 show (decide _ && _)=true
 rw [BH hy,Rq,Qd,Nz,hy.len]
theorem LX:∀ (xs:List V) (ns:List Int),xs.zip (ns.map V.int)=(xs.zip ns).map λ p=>(p.1,V.int p.2)
 | [],_=>rfl
 | _::_,[]=>rfl
 | x::xs,n::ns=>by simp [LX xs ns]
theorem jZ{α:Type}(l:List α):(l.filter λ _=>true)=l:=List.filter_eq_self.mpr λ _ _=>rfl
def aT(a:Int × Int):Int × Int:=(a.1,if a.1 > 1 then a.2 else 0)
def axL(axs:List (Int × Int)):List (List Int):=axs.map λ a=>[a.1,a.2]
def aV(axs:List (Int × Int)):Int:=(axs.map λ a=>min 0 ((a.1 - 1) * a.2)).sum
def aM(axs:List (Int × Int)):Int:=(axs.map λ a=>max 0 ((a.1 - 1) * a.2)).sum
def dt(axs:List (Int × Int)):Prop:=axs.length<=8/\∀ a∈axs,1<=a.1/\a.1<=1000000000
structure qZ(room first:Int)(axs:List (Int × Int)):Prop where
 ax:dt axs
 r1:1<=room
 r2:room<=1000000000000000000
 lo:0<=first+aV (axs.map aT)
 hi:first+aM (axs.map aT) < room
theorem dt.kept{axs:List (Int × Int)}(h:dt axs):dt (axs.map aT):=⟨by rw [Nz];exact h.1,λ a ha=>by
 obtain⟨b,hb,rfl⟩:=ND.mp ha;exact h.2 b hb⟩
theorem dt.sizes{axs:List (Int × Int)}(h:dt axs):eA (axs.map λ a=>a.1):=⟨by rw [Nz];exact h.1,λ n hn=>by
 obtain⟨b,hb,rfl⟩:=ND.mp hn;exact h.2 b hb⟩
def fb(room first:Int)(l:Addr):List (Str × V):=fC "axes" (.ref l) (fC "first" (.int first) (fC "room" (.int room) []))
theorem K4:¬ (("room":Str) = "axes"):=by decide +kernel
theorem K3:¬ (("room":Str) = "first"):=by decide +kernel
theorem K6:¬ (("first":Str) = "axes"):=by decide +kernel
theorem gR(room first:Int)(l:Addr):(fb room first l).lookup ("room":Str)=some (.int room):=by
 unfold fb;rw [bb,if_neg K4,bb,if_neg K3,bb,if_pos rfl]
theorem eP(room first:Int)(l:Addr):(fb room first l).lookup ("first":Str)=some (.int first):=by
 unfold fb;rw [bb,if_neg K6,bb,if_pos rfl]
theorem cE(room first:Int)(l:Addr):(fb room first l).lookup ("axes":Str)=some (.ref l):=by
 unfold fb;rw [bb,if_pos rfl]
theorem yL(room first:Int)(l:Addr){m:Str}(h1:¬ m = "axes")(h2:¬ m = "first")(h3:¬ m = "room"):(fb room first l).lookup m=none:=by
 unfold fb;rw [bb,if_neg h1,bb,if_neg h2,bb,if_neg h3];rfl
theorem ba:∀ ns:List Int,(∀ n∈ns,(1:Int)<=n)->1<=ae ns
 | [],_=>by simp [ae]
 | n::ns,h=>by
  have h1:=h n NK;have h2:=ba ns λ m hm=>h m (NH _ hm)
  show 1<=n * ae ns
  have:=Pk h1 h2 (by decide) (by omega);omega
theorem dN(a:Int × Int)(l:List (Int × Int)):aV (a::l)=min 0 ((a.1 - 1) * a.2)+aV l:=by unfold aV;simp
theorem dO(a:Int × Int)(l:List (Int × Int)):aM (a::l)=max 0 ((a.1 - 1) * a.2)+aM l:=by unfold aM;simp
def kz(xs ps:List Int):Int:=(List.zipWith (λ x p=>x * p) xs ps).sum
theorem gE(ns:List Int)(h:∀ n∈ns,(1:Int)<=n)(i:Nat):ae (ns.take i)<=ae ns:=by
 have e:ae ns=ae (ns.take i) * ae (ns.drop i):=by rw [←bp,Q0]
 have a:=ba (ns.take i) λ n hn=>h n (OK hn);have b:=ba (ns.drop i) λ n hn=>h n (PD hn);rw [e];have:=Ot b (show 0<=ae (ns.take i) by omega);omega
def bU(cs:List Int)(a:Int × Int):List Int:=cs.flatMap λ c=>(List.range a.1.toNat).map λ (n:Nat)=>c+(n:Int) * a.2
def af(first:Int)(axs:List (Int × Int)):List Int:=axs.foldl bU [first]
theorem ja(cs:List Int)(a:Int × Int):(bU cs a).length=cs.length * a.1.toNat:=by
 unfold bU
 induction cs with
 | nil=>simp
 | cons c r ih=>rw [Qi,NP,ih,Nz,Oj,Ow,Nat.add_mul];omega
theorem jG(first:Int)(axs:List (Int × Int))(a:Int × Int):af first (axs++[a])=bU (af first axs) a:=by
 unfold af;rw [foldl_append];rfl
theorem oi:∀ (axs:List (Int × Int)) (cs:List Int),(∀ a∈axs,(1:Int)<=a.1)->((axs.foldl bU cs).length:Int)=cs.length * ae (axs.map λ a=>a.1)
 | [],cs,_=>by simp [ae]
 | a::r,cs,h=>by
  have ha:=h a NK;rw [Qa,oi r (bU cs a) λ b hb=>h b (NH _ hb),ja,Qw,OC (by omega),OU];rfl
theorem aJ(first:Int)(axs:List (Int × Int))(h:∀ a∈axs,(1:Int)<=a.1):((af first axs).length:Int)=ae (axs.map λ a=>a.1):=by
 unfold af;rw [oi axs [first] h];simp
def aU(b:Int)(axs:List (Int × Int)):List (Int × Int):=axs.map λ a=>(a.1,a.2 * b)
theorem gU{b:Int}{axs:List (Int × Int)}(h:dt axs):dt (aU b axs):=⟨by unfold aU;rw [length_map];exact h.1,λ a ha=>by
 unfold aU at ha;obtain⟨c,hc,rfl⟩:=List.mem_map.mp ha;exact h.2 c hc⟩
theorem wb(b:Int)(axs:List (Int × Int)):(aU b axs).map (λ a=>a.1)=axs.map λ a=>a.1:=by unfold aU;rw [map_map];rfl
theorem nY:∀ (ms xs:List Int) (n x:Int),ms.length=xs.length->d5 (ms++[n]) (xs++[x])=d5 ms xs * n+x
 | [],[],n,x,_=>by show x * ae []+d5 [] []=0 * n+x;simp [ae,d5]
 | [],_::_,_,_,h=>by cases h
 | _::_,[],_,_,h=>by cases h
 | m::ms,y::xs,n,x,h=>by
  have ih:=nY ms xs n x (by simpa using h)
  show y * ae (ms++[n])+d5 (ms++[n]) (xs++[x])=(y * ae ms+d5 ms xs) * n+x
  rw [ih,bp,show ae [n]=n by simp [ae],Pl,OU];omega
def dQ(ns:List Int):List (List Int):=(List.range (ae ns).toNat).map λ i=>ao ns ((i:Nat):Int)
theorem jx:∀ (p:List Int) (n x:Int),0 < n->ao (p++[n]) x=ao p (x / n)++[x % n]
 | [],n,x,hn=>by simp [ao,ae]
 | m::p,n,x,hn=>by
  have ih:=jx p n x hn
  show x / ae (p++[n]) % m::ao (p++[n]) x=x / n / ae p % m::(ao p (x / n)++[x % n])
  rw [ih,bp,show ae [n]=n by simp [ae],ON,P6 (by omega)]
theorem nQ(b:Nat):∀ a:Nat,List.range (a * b)=(List.range a).flatMap λ j=>(List.range b).map λ k=>j * b+k
 | 0=>by simp
 | a+1=>by
  rw [Nat.succ_mul,List.range_add,nQ b a,List.range_succ,PU];simp
theorem sG(p:List Int)(n:Int)(hp:0<=ae p)(hn:0 < n):dQ (p++[n])=(dQ p).flatMap λ row=>(List.range n.toNat).map λ k=>row++[((k:Nat):Int)]:=by
 unfold dQ
 have e:(ae (p++[n])).toNat=(ae p).toNat * n.toNat:=by
  rw [bp,show ae [n]=n by simp [ae]];obtain⟨a,ha⟩:=NU hp;obtain⟨b,hb⟩:=NU (show 0<=n by omega);rw [ha,hb];rfl
 rw [e,nQ,RH,RI];congr 1;funext j;rw [OA];apply Qv;intro k hk;have hk':k < n.toNat:=by simpa using hk
 show ao (p++[n]) ((j * n.toNat+k:Nat):Int)=ao p (j:Nat)++[((k:Nat):Int)]
 rw [jx p n _ hn]
 have c:((j * n.toNat+k:Nat):Int)=(k:Int)+(j:Int) * n:=by
  push_cast
  rw [show ((n.toNat:Nat):Int)=n by omega];omega
 rw [c,Int.add_mul_ediv_right _ _ (by omega),Int.ediv_eq_zero_of_lt (by omega) (by omega),OJ,RP,PC (by omega) (by omega)]
theorem gu(ns:List Int):(dQ ns).length=(ae ns).toNat:=by simp [dQ]
theorem jL(ns:List Int)(h:∀ n∈ns,1<=n/\n<=1000000000)(i:Nat):ae (ns.take i)<=ae ns:=by
 have e:ae ns=ae (ns.take i) * ae (ns.drop i):=by rw [←bp,Q0]
 have a:=(dj (ns.take i) λ n hn=>h n (OK hn)).1;have b:=(dj (ns.drop i) λ n hn=>h n (PD hn)).1;rw [e];have:=Ot b (show 0<=ae (ns.take i) by omega);omega
theorem nF(a:Int × Int)(h:1<=a.1):∀ (cs:List Int) (m:Nat),(bU cs a)[m]? = (cs[m / a.1.toNat]?).map λ c=>c+((m % a.1.toNat:Nat):Int) * a.2
 | [],m=>by simp [bU]
 | c::cs,m=>by
  have hs:0 < a.1.toNat:=by omega
  have e:bU (c::cs) a=((List.range a.1.toNat).map λ (n:Nat)=>c+(n:Int) * a.2)++bU cs a:=by unfold bU;rw [List.flatMap_cons]
  rw [e]
  by_cases hm:m < a.1.toNat
  ·rw [Oq (by rw [Nz,Oj];exact hm),NL,List.getElem?_range hm,Nat.div_eq_of_lt hm,Nat.mod_eq_of_lt hm];rfl
  ·rw [Oh (by rw [Nz,Oj];omega),Nz,Oj,nF a h cs (m - a.1.toNat)]
   have e1:m / a.1.toNat=(m - a.1.toNat) / a.1.toNat+1:=by
    have:=Nat.div_eq_sub_div hs (show a.1.toNat<=m by omega);exact this
   have e2:m % a.1.toNat=(m - a.1.toNat) % a.1.toNat:=Nat.mod_eq_sub_mod (by omega);rw [e1,e2,List.getElem?_cons_succ]
theorem om:∀ (axs:List (Int × Int)) (cs:List Int) (k:Nat),(∀ a∈axs,(1:Int)<=a.1)->(axs.foldl bU cs)[k]? = (cs[((k:Int) / ae (axs.map λ a=>a.1)).toNat]?).map λ c=>c+kz (ao (axs.map λ a=>a.1) (k:Int)) (axs.map λ a=>a.2)
 | [],cs,k,_=>by
  show cs[k]? = (cs[((k:Int) / 1).toNat]?).map λ c=>c+0
  rw [Int.ediv_one,NJ];simp
 | a::r,cs,k,h=>by
  have ha:=h a NK;have hr:=λ b hb=>h b (NH a hb);have hp:1<=ae (r.map λ a=>a.1):=ba _ λ n hn=>by obtain⟨b,hb,rfl⟩:=ND.mp hn;exact hr b hb
  rw [Qa,om r (bU cs a) k hr,nF a ha];generalize hP:ae (r.map λ a=>a.1)=P at hp;have hnn:0<=(k:Int) / P:=Int.ediv_nonneg (by omega) (by omega)
  have e1:((k:Int) / P).toNat / a.1.toNat=((k:Int) / ae ((a::r).map λ a=>a.1)).toNat:=by
   show _=((k:Int) / (a.1 * ae (r.map λ a=>a.1))).toNat
   rw [hP,ON a.1 P,←P6 (by omega)];generalize (k:Int) / P=m at hnn;have hd:m / a.1=((m.toNat / a.1.toNat:Nat):Int):=by rw [Int.natCast_ediv,OC hnn,OC (by omega)]
   rw [hd,NJ]
  have e2:((((k:Int) / P).toNat % a.1.toNat:Nat):Int)=(k:Int) / P % a.1:=by rw [Int.natCast_emod,OC hnn,OC (by omega)]
  rw [e1,e2,Option.map_map];congr 1;funext c
  show c+(k:Int) / P % a.1 * a.2+kz (ao (r.map λ a=>a.1) (k:Int)) (r.map λ a=>a.2)=c+kz ((k:Int) / ae (r.map λ a=>a.1) % a.1::ao (r.map λ a=>a.1) (k:Int)) (a.2::r.map λ a=>a.2)
  unfold kz;rw [List.zipWith_cons_cons,sum_cons,hP];omega
theorem lE{first:Int}{axs:List (Int × Int)}{k:Nat}{c:Int}(h:∀ a∈axs,(1:Int)<=a.1)(hk:(af first axs)[k]? = some c):c=first+kz (ao (axs.map λ a=>a.1) (k:Int)) (axs.map λ a=>a.2):=by
 unfold af at hk;rw [om axs [first] k h] at hk;obtain⟨c0,h1,h2⟩:=Option.map_eq_some_iff.mp hk;have:c0∈[first]:=mem_of_getElem? h1;rw [List.mem_singleton.mp this] at h2;exact h2.symm
theorem fq:∀ (ns:List Int) (x:Int),(∀ n∈ns,(1:Int)<=n)->d5 ns (ao ns x)=x % ae ns
 | [],x,_=>by show 0=x % 1;rw [Int.emod_one]
 | n::r,x,h=>by
  have ih:=fq r x λ m hm=>h m (NH _ hm);have hp:=ba r λ m hm=>h m (NH _ hm)
  show x / ae r % n * ae r+d5 r (ao r x)=x % (n * ae r)
  rw [ih];generalize ae r=P at hp;have a:=Q1 x (n * P);have b:=Q1 x P;have c:=Q1 (x / P) n;have d:x / P / n=x / (n * P):=by rw [P6 (by omega),ON P n]
  rw [d] at c;have e1:n * P * (x / (n * P))=P * (n * (x / (n * P))):=by rw [ON n P,OU]
  have e2:P * (x / P)=P * (x / P % n)+P * (n * (x / (n * P))):=by rw [←Int.mul_add,c]
  have e3:x / P % n * P=P * (x / P % n):=ON _ _;omega
theorem nM{ns:List Int}{i j:Int}(h:∀ n∈ns,(1:Int)<=n)(i0:0<=i)(i1:i < ae ns)(j0:0<=j)(j1:j < ae ns)(e:ao ns i=ao ns j):i=j:=by
 have a:=fq ns i h;have b:=fq ns j h;rw [PC i0 i1] at a;rw [PC j0 j1] at b;rw [←a,←b,e]
theorem InR.set:∀ {ms pl:List Int}{a:Nat}{v:Int},InR ms pl->0<=v->v < ms.getD a 0->InR ms (pl.set a v)
 | [],[],a,v,h,_,h1=>by simpa using h
 | [],_::_,_,_,h,_,_=>h.elim
 | _::_,[],_,_,h,_,_=>h.elim
 | m::ms,x::pl,0,v,h,h0,h1=>⟨⟨h0,h1⟩,h.2⟩
 | m::ms,x::pl,a+1,v,h,h0,h1=>⟨h.1,InR.set h.2 h0 (by simpa using h1)⟩
def jY(ms:List Int):Int:=(ms.map λ s=>s - 1).sum
def er:List Int->List Int->Int
 | s::ms,p::ps=>(s - 1) * (p.natAbs:Int)+er ms ps
 | _,_=>0
theorem Fs{s p:Int}(hs:1<=s):max 0 ((s - 1) * p) - min 0 ((s - 1) * p)=(s - 1) * (p.natAbs:Int)/\0<=(s - 1) * (p.natAbs:Int):=by
 rcases Int.le_total 0 p with h|h
 ·have:=PM (show 0<=s - 1 by omega) h;rw [show (p.natAbs:Int)=p by omega];omega
 ·have:=PM (show 0<=s - 1 by omega) (show 0<=-p by omega);rw [Int.mul_neg] at this;rw [show (p.natAbs:Int)=-p by omega,Int.mul_neg];omega
theorem me:∀ (ms ps:List Int),(∀ m∈ms,(1:Int)<=m)->ps.length=ms.length->aM (ms.zip ps) - aV (ms.zip ps)=er ms ps/\aV (ms.zip ps)<=0/\0<=aM (ms.zip ps)/\0<=er ms ps
 | [],[],_,_=>by decide
 | [],_::_,_,h=>by simp at h
 | _::_,[],_,h=>by simp at h
 | s::ms,p::ps,h,hl=>by
  obtain⟨i1,i2,i3,i4⟩:=me ms ps (λ m hm=>h m (NH _ hm)) (by simpa using hl);obtain⟨a1,a2⟩:=Fs (p:=p) (h s NK);rw [QA,dN,dO]
  show _=(s - 1) * (p.natAbs:Int)+er ms ps/\_/\_/\0<=(s - 1) * (p.natAbs:Int)+er ms ps
  generalize (s - 1) * (p.natAbs:Int)=y at *;generalize (s - 1) * p=x at *;omega
theorem u6{ms:List Int}(h:∀ m∈ms,(1:Int)<=m):0<=jY ms:=by
 unfold jY
 induction ms with
 | nil=>decide
 | cons s r ih=>
  have:=ih λ m hm=>h m (NH _ hm);have:=h s NK;rw [OP,sum_cons];omega
theorem jc:∀ (ms ps:List Int) (B:Int),(∀ m∈ms,(1:Int)<=m)->ps.length=ms.length->(∀ p∈ps,(p.natAbs:Int)<=B)->0<=B->er ms ps<=jY ms * B
 | [],[],B,_,_,_,_=>by show (0:Int)<=0 * B;omega
 | [],_::_,_,_,h,_,_=>by simp at h
 | _::_,[],_,_,h,_,_=>by simp at h
 | s::ms,p::ps,B,h,hl,hb,h0=>by
  have ih:=jc ms ps B (λ m hm=>h m (mem_cons_of_mem _ hm)) (by simpa using hl) (λ q hq=>hb q (mem_cons_of_mem _ hq)) h0;have hs:=h s mem_cons_self;have hp:=hb p mem_cons_self;have m1:=Int.mul_le_mul_of_nonneg_left hp (show 0<=s - 1 by omega);have e:jY (s::ms)=(s - 1)+jY ms:=by unfold jY;rw [map_cons,sum_cons]
  show (s - 1) * (p.natAbs:Int)+er ms ps<=_
  rw [e,Pl];omega
theorem nO(s:Int)(ms:List Int):jY (s::ms)=(s - 1)+jY ms:=by unfold jY;rw [map_cons,sum_cons]
theorem vZ{ms:List Int}(h:∀ m∈ms,1<=m/\m<=3)(hp:ae ms<=60):jY ms<=7:=by
 have key:∀ l:List Int,(∀ m∈l,1<=m/\m<=3)->(3:Int) ^ (jY l).toNat<=ae l * ae l/\0<=jY l/\1<=ae l:=by
  intro l
  induction l with
  | nil=>intro _;decide
  | cons s r ih=>
   intro hl;obtain⟨i1,i2,i3⟩:=ih λ m hm=>hl m (NH _ hm);have hs:=hl s NK;rw [nO]
   show _<=s * ae r * (s * ae r)/\_/\1<=s * ae r
   have e:s * ae r * (s * ae r)=s * s * (ae r * ae r):=by
    rw [OU,OU,Int.mul_left_comm (ae r) s (ae r)]
   rw [e];generalize hP:ae r * ae r=P at *;generalize ae r=p at *;generalize jY r=t at *;obtain⟨n,rfl⟩:=NU i2
   rcases (show s=1\/s=2\/s=3 by omega) with rfl|rfl|rfl
   ·rw [show ((1:Int) - 1+(n:Int)).toNat=n by omega];rw [NJ] at i1;omega
   ·rw [show ((2:Int) - 1+(n:Int)).toNat=n+1 by omega,RD];rw [NJ] at i1;have:(0:Int)<=3 ^ n:=Int.pow_nonneg (by decide);omega
   ·rw [show ((3:Int) - 1+(n:Int)).toNat=n+1+1 by omega,RD,RD];rw [NJ] at i1;omega
 obtain⟨k1,k2,k3⟩:=key ms h;have hpp:=Pk hp hp (by omega) (by decide);obtain⟨n,hn⟩:=NU k2;rw [hn,NJ] at k1;rw [hn]
 rcases Nat.lt_or_ge n 8 with h8|h8
 ·omega
 ·have:(3:Int) ^ 8<=3 ^ n:=by
   obtain⟨d,rfl⟩:=Nat.exists_eq_add_of_le h8;rw [Int.pow_add]
   have:(1:Int)<=3 ^ d:=by
    have:(0:Int) < 3 ^ d:=Int.pow_pos (by decide);omega
   have:=Ot this (show (0:Int)<=3 ^ 8 by decide);omega
  have:(3:Int) ^ 8=6561:=by decide
  omega
theorem u7{k:Int}(hk:0<=k):∀ ms:List Int,(∀ m∈ms,1<=m/\m<=k+1)->jY ms<=k * ms.length
 | [],_=>by show (0:Int)<=k * 0;omega
 | s::r,h=>by
  have ih:=u7 hk r λ m hm=>h m (NH _ hm);have hs:=h s NK;rw [nO,Ow,show ((r.length+1:Nat):Int)=(r.length:Int)+1 by omega,Int.mul_add,QK];omega
def top(i:Nat):Stmt:=PySem.Challenge.pw_pacehall_k76_whole_none_of_all_orders.main.body.getD i (.Pass ⟨0,0,0,0⟩)
abbrev aR:Stmt:=d9 (top 7) 0
theorem sf:ak ["self", "number"] ["self", "number"] (aa aR):=⟨rfl,rfl,rfl,by decide +kernel,rfl,by decide +kernel,by decide +kernel⟩
abbrev bh:Stmt:=d9 (top 8) 0
theorem tY:ak ["self", "one", "other"] ["self", "one", "other"] (aa bh):=⟨rfl,rfl,rfl,by decide +kernel,rfl,by decide +kernel,by decide +kernel⟩
abbrev dA:Stmt:=top 10
theorem tR:ak ["thing"] ["thing"] (aa dA):=⟨rfl,rfl,rfl,by decide +kernel,rfl,by decide +kernel,by decide +kernel⟩
abbrev dB:Stmt:=top 13
theorem fJ:ak ["sizes", "count", "size"] ["sizes"] (aa dB):=⟨rfl,rfl,rfl,by decide +kernel,rfl,by decide +kernel,by decide +kernel⟩
abbrev aY:Stmt:=top 14
theorem hG:ak ["thing", "bound"] ["thing", "bound"] (aa aY):=⟨rfl,rfl,rfl,by decide +kernel,rfl,by decide +kernel,by decide +kernel⟩
abbrev cS:Stmt:=top 15
theorem tS:ak ["sizes", "thing"] ["sizes", "thing"] (aa cS):=⟨rfl,rfl,rfl,by decide +kernel,rfl,by decide +kernel,by decide +kernel⟩
abbrev bM:Stmt:=top 16
theorem cw:ak ["sizes", "number", "place", "left", "size"] ["sizes", "number"] (aa bM):=⟨rfl,rfl,rfl,by decide +kernel,rfl,by decide +kernel,by decide +kernel⟩
abbrev dz:Stmt:=top 17
theorem tQ:ak ["sizes", "number"] ["sizes", "number"] (aa dz):=⟨rfl,rfl,rfl,by decide +kernel,rfl,by decide +kernel,by decide +kernel⟩
abbrev cc:Stmt:=top 18
theorem m7:ak ["count"] ["count"] (aa cc):=⟨rfl,rfl,rfl,by decide +kernel,rfl,by decide +kernel,by decide +kernel⟩
abbrev eL:Stmt:=top 19
theorem rZ:ak ["sizes", "count"] ["sizes"] (aa eL):=⟨rfl,rfl,rfl,by decide +kernel,rfl,by decide +kernel,by decide +kernel⟩
abbrev cY:Stmt:=top 24
theorem qF:ak ["thing", "low", "high"] ["thing", "low", "high"] (aa cY):=⟨rfl,rfl,rfl,by decide +kernel,rfl,by decide +kernel,by decide +kernel⟩
abbrev eE:Stmt:=top 25
theorem ya:ak ["thing"] ["thing"] (aa eE):=⟨rfl,rfl,rfl,by decide +kernel,rfl,by decide +kernel,by decide +kernel⟩
abbrev eF:Stmt:=top 26
theorem yb:ak ["thing"] ["thing"] (aa eF):=⟨rfl,rfl,rfl,by decide +kernel,rfl,by decide +kernel,by decide +kernel⟩
abbrev cU:Stmt:=top 27
theorem tT:ak ["thing"] ["thing"] (aa cU):=⟨rfl,rfl,rfl,by decide +kernel,rfl,by decide +kernel,by decide +kernel⟩
abbrev cX:Stmt:=top 28
theorem qE:ak ["axis"] ["axis"] (aa cX):=⟨rfl,rfl,rfl,by decide +kernel,rfl,by decide +kernel,by decide +kernel⟩
abbrev bf:Stmt:=d9 (top 29) 0
theorem jS:ak ["self", "room", "first", "axes"] ["self", "room", "first", "axes"] (aa bf):=⟨rfl,rfl,rfl,by decide +kernel,rfl,by decide +kernel,by decide +kernel⟩
abbrev bZ:Stmt:=d9 (top 29) 1
theorem o9:ak ["self"] ["self"] (aa bZ):=⟨rfl,rfl,rfl,by decide +kernel,rfl,by decide +kernel,by decide +kernel⟩
abbrev b0:Stmt:=d9 (top 29) 2
theorem pd:ak ["self"] ["self"] (aa b0):=⟨rfl,rfl,rfl,by decide +kernel,rfl,by decide +kernel,by decide +kernel⟩
abbrev cJ:Stmt:=d9 (top 29) 3
theorem pf:ak ["self"] ["self"] (aa cJ):=⟨rfl,rfl,rfl,by decide +kernel,rfl,by decide +kernel,by decide +kernel⟩
abbrev df:Stmt:=d9 (top 29) 4
theorem Fy:ak ["self", "place"] ["self", "place"] (aa df):=⟨rfl,rfl,rfl,by decide +kernel,rfl,by decide +kernel,by decide +kernel⟩
abbrev cK:Stmt:=d9 (top 29) 6
theorem dk:ak ["self", "found", "size", "pace"] ["self"] (aa cK):=⟨rfl,rfl,rfl,by decide +kernel,rfl,by decide +kernel,by decide +kernel⟩
abbrev b8:Stmt:=d9 (top 29) 7
theorem pe:ak ["self"] ["self"] (aa b8):=⟨rfl,rfl,rfl,by decide +kernel,rfl,by decide +kernel,by decide +kernel⟩
abbrev bc:Stmt:=d9 (top 29) 8
theorem jR:ak ["self"] ["self"] (aa bc):=⟨rfl,rfl,rfl,by decide +kernel,rfl,by decide +kernel,by decide +kernel⟩
abbrev dH:Stmt:=top 30
theorem js:ak ["cells", "size", "pace", "found", "cell"] ["cells", "size", "pace"] (aa dH):=⟨rfl,rfl,rfl,by decide +kernel,rfl,by decide +kernel,by decide +kernel⟩
abbrev cZ:Stmt:=top 32
theorem eU:ak ["view", "seen", "number", "cell"] ["view"] (aa cZ):=⟨rfl,rfl,rfl,by decide +kernel,rfl,by decide +kernel,by decide +kernel⟩
abbrev bO:Stmt:=top 33
theorem ko:ak ["one", "other"] ["one", "other"] (aa bO):=⟨rfl,rfl,rfl,by decide +kernel,rfl,by decide +kernel,by decide +kernel⟩
abbrev aB:Stmt:=top 35
theorem fA:ak ["to", "source"] ["to", "source"] (aa aB):=⟨rfl,rfl,rfl,by decide +kernel,rfl,by decide +kernel,by decide +kernel⟩
abbrev bN:Stmt:=top 37
theorem fX:ak ["view", "found"] ["view"] (aa bN):=⟨rfl,rfl,rfl,by decide +kernel,rfl,by decide +kernel,by decide +kernel⟩
abbrev aC:Stmt:=top 38
theorem aQ:ak ["to", "source", "spots", "found", "place", "cell", "origin"] ["to", "source", "spots"] (aa aC):=⟨rfl,rfl,rfl,by decide +kernel,rfl,by decide +kernel,by decide +kernel⟩
abbrev cg:Stmt:=top 39
theorem cn:ak ["to", "source", "spots", "written", "found", "place", "cell"] ["to", "source"] (aa cg):=⟨rfl,rfl,rfl,by decide +kernel,rfl,by decide +kernel,by decide +kernel⟩
abbrev sj:Stmt:=top 41
theorem LO:ak ["pair", "axis"] ["pair", "axis"] (aa sj):=⟨rfl,rfl,rfl,by decide +kernel,rfl,by decide +kernel,by decide +kernel⟩
abbrev bu:Stmt:=top 42
theorem cx:ak ["pairs", "many", "axis", "gaps", "low", "high"] ["pairs", "many"] (aa bu):=⟨rfl,rfl,rfl,by decide +kernel,rfl,by decide +kernel,by decide +kernel⟩
abbrev aP:Stmt:=top 43
theorem bC:ak ["pairs", "many", "chosen", "axis", "above", "below", "pair"] ["pairs", "many"] (aa aP):=⟨rfl,rfl,rfl,by decide +kernel,rfl,by decide +kernel,by decide +kernel⟩
abbrev bo:Stmt:=top 44
theorem bF:ak ["to", "source", "left", "many", "order", "loop", "used"] ["to", "source"] (aa bo):=⟨rfl,rfl,rfl,by decide +kernel,rfl,by decide +kernel,by decide +kernel⟩
abbrev bB:Stmt:=top 45
theorem jQ:ak ["thing", "sizes", "known"] ["thing", "sizes", "known"] (aa bB):=⟨rfl,rfl,rfl,by decide +kernel,rfl,by decide +kernel,by decide +kernel⟩
abbrev cB:Stmt:=top 46
theorem jK:ak ["pairs", "axis", "gaps"] ["pairs", "axis"] (aa cB):=⟨rfl,rfl,rfl,by decide +kernel,rfl,by decide +kernel,by decide +kernel⟩
abbrev hZ:Stmt:=top 47
theorem uV:ak ["to", "source", "some", "known", "pair"] ["to", "source", "some"] (aa hZ):=⟨rfl,rfl,rfl,by decide +kernel,rfl,by decide +kernel,by decide +kernel⟩
abbrev dc:Stmt:=top 49
theorem eV:ak ["_law_script", "_law_k", "_law_many", "_law_number_here", "_law_cell"] ["_law_script", "_law_k", "_law_many"] (aa dc):=⟨rfl,rfl,rfl,by decide +kernel,rfl,by decide +kernel,by decide +kernel⟩
abbrev ck:Stmt:=top 51
theorem dw:ak ["_law_number_here", "_law_by", "_law_many", "_law_found", "_law_k"] ["_law_number_here", "_law_by", "_law_many"] (aa ck):=⟨rfl,rfl,rfl,by decide +kernel,rfl,by decide +kernel,by decide +kernel⟩
abbrev cG:Stmt:=top 52
theorem aO:ak ["_law_script", "_law_most_here", "_law_wide", "_law_many", "_law_menu", "_law_sizes_here", "_law_count", "_law_digit", "_law_size"] ["_law_script", "_law_most_here", "_law_wide"] (aa cG):=⟨rfl,rfl,rfl,by decide +kernel,rfl,by decide +kernel,by decide +kernel⟩
abbrev da:Stmt:=top 53
theorem bI:ak ["_law_script", "_law_sizes_here", "_law_unit", "_law_turn", "_law_signs", "_law_paces", "_law_left", "_law_axis"] ["_law_script", "_law_sizes_here"] (aa da):=⟨rfl,rfl,rfl,by decide +kernel,rfl,by decide +kernel,by decide +kernel⟩
abbrev bJ:Stmt:=top 54
theorem dv:ak ["_law_script", "_law_paces", "_law_way", "_law_k", "_law_axis"] ["_law_script", "_law_paces"] (aa bJ):=⟨rfl,rfl,rfl,by decide +kernel,rfl,by decide +kernel,by decide +kernel⟩
abbrev bX:Stmt:=top 55
theorem o8:ak ["_law_sizes_here", "_law_paces"] ["_law_sizes_here", "_law_paces"] (aa bX):=⟨rfl,rfl,rfl,by decide +kernel,rfl,by decide +kernel,by decide +kernel⟩
abbrev cD:Stmt:=top 56
theorem qG:ak ["_law_sizes_here", "_law_paces"] ["_law_sizes_here", "_law_paces"] (aa cD):=⟨rfl,rfl,rfl,by decide +kernel,rfl,by decide +kernel,by decide +kernel⟩
abbrev bY:Stmt:=top 57
theorem b9:ak ["_law_first", "_law_sizes_here", "_law_paces", "_law_found", "_law_size", "_law_pace", "_law_longer", "_law_cell"] ["_law_first", "_law_sizes_here", "_law_paces"] (aa bY):=⟨rfl,rfl,rfl,by decide +kernel,rfl,by decide +kernel,by decide +kernel⟩
abbrev dC:Stmt:=top 58
theorem bL:ak ["_law_script", "_law_sizes_here", "_law_paces", "_law_others_here", "_law_first", "_law_begin", "_law_last", "_law_room", "_law_one", "_law_other"] ["_law_script", "_law_sizes_here"] (aa dC):=⟨rfl,rfl,rfl,by decide +kernel,rfl,by decide +kernel,by decide +kernel⟩
abbrev cV:Stmt:=top 59
theorem g9:ak ["_law_script", "_law_view", "_law_by", "_law_more"] ["_law_script", "_law_view"] (aa cV):=⟨rfl,rfl,rfl,by decide +kernel,rfl,by decide +kernel,by decide +kernel⟩
abbrev cC:Stmt:=top 60
theorem bW:ak ["_law_sizes_here", "_law_order", "_law_found", "_law_axis", "_law_way", "_law_numbers", "_law_longer", "_law_place"] ["_law_sizes_here", "_law_order"] (aa cC):=⟨rfl,rfl,rfl,by decide +kernel,rfl,by decide +kernel,by decide +kernel⟩
abbrev cj:Stmt:=top 61
theorem cO:ak ["_law_sizes_here", "_law_place", "_law_number_here", "_law_size", "_law_k"] ["_law_sizes_here", "_law_place"] (aa cj):=⟨rfl,rfl,rfl,by decide +kernel,rfl,by decide +kernel,by decide +kernel⟩
abbrev cI:Stmt:=top 62
theorem cL:ak ["_law_sizes_here", "_law_order", "_law_writes", "_law_reads", "_law_held", "_law_due", "_law_n", "_law_place"] ["_law_sizes_here", "_law_order", "_law_writes", "_law_reads"] (aa cI):=⟨rfl,rfl,rfl,by decide +kernel,rfl,by decide +kernel,by decide +kernel⟩
abbrev aK:Stmt:=top 63
theorem ay:ak ["_law_axes", "_law_found", "_law_k", "_law_longer", "_law_order", "_law_left", "_law_axis"] ["_law_axes"] (aa aK):=⟨rfl,rfl,rfl,by decide +kernel,rfl,by decide +kernel,by decide +kernel⟩
abbrev cH:Stmt:=top 64
theorem iy:ak ["_law_one", "_law_other", "_law_can", "_law_told"] ["_law_one", "_law_other", "_law_can"] (aa cH):=⟨rfl,rfl,rfl,by decide +kernel,rfl,by decide +kernel,by decide +kernel⟩
abbrev lO:Stmt:=top 65
theorem lQ:ak ["_law_script", "_law_sizes_here", "_law_one", "_law_other", "_law_writes", "_law_reads", "_law_can", "_law_order"] ["_law_script"] (aa lO):=⟨rfl,rfl,rfl,by decide +kernel,rfl,by decide +kernel,by decide +kernel⟩
set_option genInjectivity false in
structure Adr where
 a_PaceError:Addr
 a_NoPlace:Addr
 a_NoView:Addr
 a_NoCount:Addr
 a_NoPair:Addr
 a_TooMany:Addr
 a_Twice:Addr
 a_View:Addr
 a_TooMany___init__:Addr
 d_TooMany___init__:FuncData
 a_Twice___init__:Addr
 d_Twice___init__:FuncData
 a_is_whole:Addr
 d_is_whole:FuncData
 a_count_of:Addr
 d_count_of:FuncData
 a_is_number_below:Addr
 d_is_number_below:FuncData
 a_is_place:Addr
 d_is_place:FuncData
 a_split_number:Addr
 d_split_number:FuncData
 a_place_at:Addr
 d_place_at:FuncData
 a_refuse_long:Addr
 d_refuse_long:FuncData
 a_places:Addr
 d_places:FuncData
 a_is_within:Addr
 d_is_within:FuncData
 a_is_size:Addr
 d_is_size:FuncData
 a_is_axis:Addr
 d_is_axis:FuncData
 a_are_axes:Addr
 d_are_axes:FuncData
 a_kept_axis:Addr
 d_kept_axis:FuncData
 a_View___init__:Addr
 d_View___init__:FuncData
 a_View_sizes:Addr
 d_View_sizes:FuncData
 a_View_paces:Addr
 d_View_paces:FuncData
 a_View_count:Addr
 d_View_count:FuncData
 a_View_cell:Addr
 d_View_cell:FuncData
 a_View_cells:Addr
 d_View_cells:FuncData
 a_View_least:Addr
 d_View_least:FuncData
 a_View_greatest:Addr
 d_View_greatest:FuncData
 a_widened:Addr
 d_widened:FuncData
 a_has_twice:Addr
 d_has_twice:FuncData
 a_refuse_rooms:Addr
 d_refuse_rooms:FuncData
 a_refuse_sizes_unlike:Addr
 d_refuse_sizes_unlike:FuncData
 a_refuse_twice:Addr
 d_refuse_twice:FuncData
 a_places_written_anew:Addr
 d_places_written_anew:FuncData
 a_bound_pairs:Addr
 d_bound_pairs:FuncData
 a_gap:Addr
 d_gap:FuncData
 a_helpful_loop:Addr
 d_helpful_loop:FuncData
 a_barring_pairs:Addr
 d_barring_pairs:FuncData
 a_loop_order:Addr
 d_loop_order:FuncData
 a_is_known_pair:Addr
 d_is_known_pair:FuncData
 a_bars_axis:Addr
 d_bars_axis:FuncData
 a_bars:Addr
 d_bars:FuncData
 a__law_draw:Addr
 d__law_draw:FuncData
 a__law_digits:Addr
 d__law_digits:FuncData
 a__law_sizes:Addr
 d__law_sizes:FuncData
 a__law_once:Addr
 d__law_once:FuncData
 a__law_others:Addr
 d__law_others:FuncData
 a__law_least:Addr
 d__law_least:FuncData
 a__law_most:Addr
 d__law_most:FuncData
 a__law_cells:Addr
 d__law_cells:FuncData
 a__law_two:Addr
 d__law_two:FuncData
 a__law_far:Addr
 d__law_far:FuncData
 a__law_walk:Addr
 d__law_walk:FuncData
 a__law_number:Addr
 d__law_number:FuncData
 a__law_keeps:Addr
 d__law_keeps:FuncData
 a__law_all_orders:Addr
 d__law_all_orders:FuncData
 a__law_right:Addr
 d__law_right:FuncData
 a_law:Addr
 d_law:FuncData
structure Tx(K:W.Frag)(mg:Str->Option Value)(t:Adr):Prop where
 m_PaceError:mg "PaceError"=some (.ref t.a_PaceError)
 m_NoPlace:mg "NoPlace"=some (.ref t.a_NoPlace)
 m_NoView:mg "NoView"=some (.ref t.a_NoView)
 m_NoCount:mg "NoCount"=some (.ref t.a_NoCount)
 m_NoPair:mg "NoPair"=some (.ref t.a_NoPair)
 m_TooMany:mg "TooMany"=some (.ref t.a_TooMany)
 m_Twice:mg "Twice"=some (.ref t.a_Twice)
 m_View:mg "View"=some (.ref t.a_View)
 m_MOST_TOLD:∃ tk,mg "MOST_TOLD"=some (.int 4096 tk)
 m_MOST_ROOM:∃ tk,mg "MOST_ROOM"=some (.int 1000000000000000000 tk)
 m_MOST_SIZE:∃ tk,mg "MOST_SIZE"=some (.int 1000000000 tk)
 m_MOST_AXES:∃ tk,mg "MOST_AXES"=some (.int 8 tk)
 oi_TooMany:MO K t.a_TooMany t.a_TooMany___init__
 tk_TooMany_number:W.takerIn K t.a_TooMany "number"=some none
 na_TooMany_number:dG K t.a_TooMany "number"
 bi_PaceError:LU K t.a_PaceError
 oi_Twice:MO K t.a_Twice t.a_Twice___init__
 tk_Twice_one:W.takerIn K t.a_Twice "one"=some none
 na_Twice_one:dG K t.a_Twice "one"
 tk_Twice_other:W.takerIn K t.a_Twice "other"=some none
 na_Twice_other:dG K t.a_Twice "other"
 cl_View:Cls K t.a_View
 na_View_axes:dG K t.a_View "axes"
 na_View_first:dG K t.a_View "first"
 na_View_room:dG K t.a_View "room"
 mk_View:Mk K t.a_View t.a_View___init__
 mt_View_sizes:ym K t.a_View "sizes" t.a_View_sizes
 mt_View_paces:ym K t.a_View "paces" t.a_View_paces
 mt_View_count:ym K t.a_View "count" t.a_View_count
 mt_View_cell:ym K t.a_View "cell" t.a_View_cell
 mt_View_cells:ym K t.a_View "cells" t.a_View_cells
 mt_View_least:ym K t.a_View "least" t.a_View_least
 mt_View_greatest:ym K t.a_View "greatest" t.a_View_greatest
 F_TooMany___init__:Fun K "__init__" "TooMany.__init__" aR t.a_TooMany___init__ t.d_TooMany___init__
 b_TooMany___init__:aD K t.d_TooMany___init__ ["self", "number"] []
 F_Twice___init__:Fun K "__init__" "Twice.__init__" bh t.a_Twice___init__ t.d_Twice___init__
 b_Twice___init__:aD K t.d_Twice___init__ ["self", "one", "other"] []
 F_is_whole:Fun K "is_whole" "is_whole" dA t.a_is_whole t.d_is_whole
 m_is_whole:mg "is_whole"=some (.ref t.a_is_whole)
 b_is_whole:aD K t.d_is_whole ["thing"] []
 F_count_of:Fun K "count_of" "count_of" dB t.a_count_of t.d_count_of
 m_count_of:mg "count_of"=some (.ref t.a_count_of)
 b_count_of:aD K t.d_count_of ["sizes"] []
 F_is_number_below:Fun K "is_number_below" "is_number_below" aY t.a_is_number_below t.d_is_number_below
 m_is_number_below:mg "is_number_below"=some (.ref t.a_is_number_below)
 b_is_number_below:aD K t.d_is_number_below ["thing", "bound"] []
 F_is_place:Fun K "is_place" "is_place" cS t.a_is_place t.d_is_place
 m_is_place:mg "is_place"=some (.ref t.a_is_place)
 b_is_place:aD K t.d_is_place ["sizes", "thing"] []
 F_split_number:Fun K "split_number" "split_number" bM t.a_split_number t.d_split_number
 m_split_number:mg "split_number"=some (.ref t.a_split_number)
 b_split_number:aD K t.d_split_number ["sizes", "number"] []
 F_place_at:Fun K "place_at" "place_at" dz t.a_place_at t.d_place_at
 m_place_at:mg "place_at"=some (.ref t.a_place_at)
 b_place_at:aD K t.d_place_at ["sizes", "number"] []
 F_refuse_long:Fun K "refuse_long" "refuse_long" cc t.a_refuse_long t.d_refuse_long
 m_refuse_long:mg "refuse_long"=some (.ref t.a_refuse_long)
 b_refuse_long:aD K t.d_refuse_long ["count"] []
 F_places:Fun K "places" "places" eL t.a_places t.d_places
 m_places:mg "places"=some (.ref t.a_places)
 b_places:aD K t.d_places ["sizes"] []
 F_is_within:Fun K "is_within" "is_within" cY t.a_is_within t.d_is_within
 m_is_within:mg "is_within"=some (.ref t.a_is_within)
 b_is_within:aD K t.d_is_within ["thing", "low", "high"] []
 F_is_size:Fun K "is_size" "is_size" eE t.a_is_size t.d_is_size
 m_is_size:mg "is_size"=some (.ref t.a_is_size)
 b_is_size:aD K t.d_is_size ["thing"] []
 F_is_axis:Fun K "is_axis" "is_axis" eF t.a_is_axis t.d_is_axis
 m_is_axis:mg "is_axis"=some (.ref t.a_is_axis)
 b_is_axis:aD K t.d_is_axis ["thing"] []
 F_are_axes:Fun K "are_axes" "are_axes" cU t.a_are_axes t.d_are_axes
 m_are_axes:mg "are_axes"=some (.ref t.a_are_axes)
 b_are_axes:aD K t.d_are_axes ["thing"] []
 F_kept_axis:Fun K "kept_axis" "kept_axis" cX t.a_kept_axis t.d_kept_axis
 m_kept_axis:mg "kept_axis"=some (.ref t.a_kept_axis)
 b_kept_axis:aD K t.d_kept_axis ["axis"] []
 F_View___init__:Fun K "__init__" "View.__init__" bf t.a_View___init__ t.d_View___init__
 b_View___init__:aD K t.d_View___init__ ["self", "room", "first", "axes"] []
 F_View_sizes:Fun K "sizes" "View.sizes" bZ t.a_View_sizes t.d_View_sizes
 b_View_sizes:aD K t.d_View_sizes ["self"] []
 F_View_paces:Fun K "paces" "View.paces" b0 t.a_View_paces t.d_View_paces
 b_View_paces:aD K t.d_View_paces ["self"] []
 F_View_count:Fun K "count" "View.count" cJ t.a_View_count t.d_View_count
 b_View_count:aD K t.d_View_count ["self"] []
 F_View_cell:Fun K "cell" "View.cell" df t.a_View_cell t.d_View_cell
 b_View_cell:aD K t.d_View_cell ["self", "place"] []
 F_View_cells:Fun K "cells" "View.cells" cK t.a_View_cells t.d_View_cells
 b_View_cells:aD K t.d_View_cells ["self"] []
 F_View_least:Fun K "least" "View.least" b8 t.a_View_least t.d_View_least
 b_View_least:aD K t.d_View_least ["self"] []
 F_View_greatest:Fun K "greatest" "View.greatest" bc t.a_View_greatest t.d_View_greatest
 b_View_greatest:aD K t.d_View_greatest ["self"] []
 F_widened:Fun K "widened" "widened" dH t.a_widened t.d_widened
 m_widened:mg "widened"=some (.ref t.a_widened)
 b_widened:aD K t.d_widened ["cells", "size", "pace"] []
 F_has_twice:Fun K "has_twice" "has_twice" cZ t.a_has_twice t.d_has_twice
 m_has_twice:mg "has_twice"=some (.ref t.a_has_twice)
 b_has_twice:aD K t.d_has_twice ["view"] []
 F_refuse_rooms:Fun K "refuse_rooms" "refuse_rooms" bO t.a_refuse_rooms t.d_refuse_rooms
 m_refuse_rooms:mg "refuse_rooms"=some (.ref t.a_refuse_rooms)
 b_refuse_rooms:aD K t.d_refuse_rooms ["one", "other"] []
 F_refuse_sizes_unlike:Fun K "refuse_sizes_unlike" "refuse_sizes_unlike" aB t.a_refuse_sizes_unlike t.d_refuse_sizes_unlike
 m_refuse_sizes_unlike:mg "refuse_sizes_unlike"=some (.ref t.a_refuse_sizes_unlike)
 b_refuse_sizes_unlike:aD K t.d_refuse_sizes_unlike ["to", "source"] []
 F_refuse_twice:Fun K "refuse_twice" "refuse_twice" bN t.a_refuse_twice t.d_refuse_twice
 m_refuse_twice:mg "refuse_twice"=some (.ref t.a_refuse_twice)
 b_refuse_twice:aD K t.d_refuse_twice ["view"] []
 F_places_written_anew:Fun K "places_written_anew" "places_written_anew" aC t.a_places_written_anew t.d_places_written_anew
 m_places_written_anew:mg "places_written_anew"=some (.ref t.a_places_written_anew)
 b_places_written_anew:aD K t.d_places_written_anew ["to", "source", "spots"] []
 F_bound_pairs:Fun K "bound_pairs" "bound_pairs" cg t.a_bound_pairs t.d_bound_pairs
 m_bound_pairs:mg "bound_pairs"=some (.ref t.a_bound_pairs)
 b_bound_pairs:aD K t.d_bound_pairs ["to", "source"] []
 F_gap:Fun K "gap" "gap" sj t.a_gap t.d_gap
 m_gap:mg "gap"=some (.ref t.a_gap)
 b_gap:aD K t.d_gap ["pair", "axis"] []
 F_helpful_loop:Fun K "helpful_loop" "helpful_loop" bu t.a_helpful_loop t.d_helpful_loop
 m_helpful_loop:mg "helpful_loop"=some (.ref t.a_helpful_loop)
 b_helpful_loop:aD K t.d_helpful_loop ["pairs", "many"] []
 F_barring_pairs:Fun K "barring_pairs" "barring_pairs" aP t.a_barring_pairs t.d_barring_pairs
 m_barring_pairs:mg "barring_pairs"=some (.ref t.a_barring_pairs)
 b_barring_pairs:aD K t.d_barring_pairs ["pairs", "many"] []
 F_loop_order:Fun K "loop_order" "loop_order" bo t.a_loop_order t.d_loop_order
 m_loop_order:mg "loop_order"=some (.ref t.a_loop_order)
 b_loop_order:aD K t.d_loop_order ["to", "source"] []
 F_is_known_pair:Fun K "is_known_pair" "is_known_pair" bB t.a_is_known_pair t.d_is_known_pair
 m_is_known_pair:mg "is_known_pair"=some (.ref t.a_is_known_pair)
 b_is_known_pair:aD K t.d_is_known_pair ["thing", "sizes", "known"] []
 F_bars_axis:Fun K "bars_axis" "bars_axis" cB t.a_bars_axis t.d_bars_axis
 m_bars_axis:mg "bars_axis"=some (.ref t.a_bars_axis)
 b_bars_axis:aD K t.d_bars_axis ["pairs", "axis"] []
 F_bars:Fun K "bars" "bars" hZ t.a_bars t.d_bars
 m_bars:mg "bars"=some (.ref t.a_bars)
 b_bars:aD K t.d_bars ["to", "source", "some"] []
 F__law_draw:Fun K "_law_draw" "_law_draw" dc t.a__law_draw t.d__law_draw
 m__law_draw:mg "_law_draw"=some (.ref t.a__law_draw)
 b__law_draw:aD K t.d__law_draw ["_law_script", "_law_k", "_law_many"] []
 F__law_digits:Fun K "_law_digits" "_law_digits" ck t.a__law_digits t.d__law_digits
 m__law_digits:mg "_law_digits"=some (.ref t.a__law_digits)
 b__law_digits:aD K t.d__law_digits ["_law_number_here", "_law_by", "_law_many"] []
 F__law_sizes:Fun K "_law_sizes" "_law_sizes" cG t.a__law_sizes t.d__law_sizes
 m__law_sizes:mg "_law_sizes"=some (.ref t.a__law_sizes)
 b__law_sizes:aD K t.d__law_sizes ["_law_script", "_law_most_here", "_law_wide"] []
 F__law_once:Fun K "_law_once" "_law_once" da t.a__law_once t.d__law_once
 m__law_once:mg "_law_once"=some (.ref t.a__law_once)
 b__law_once:aD K t.d__law_once ["_law_script", "_law_sizes_here"] []
 F__law_others:Fun K "_law_others" "_law_others" bJ t.a__law_others t.d__law_others
 m__law_others:mg "_law_others"=some (.ref t.a__law_others)
 b__law_others:aD K t.d__law_others ["_law_script", "_law_paces"] []
 F__law_least:Fun K "_law_least" "_law_least" bX t.a__law_least t.d__law_least
 m__law_least:mg "_law_least"=some (.ref t.a__law_least)
 b__law_least:aD K t.d__law_least ["_law_sizes_here", "_law_paces"] []
 F__law_most:Fun K "_law_most" "_law_most" cD t.a__law_most t.d__law_most
 m__law_most:mg "_law_most"=some (.ref t.a__law_most)
 b__law_most:aD K t.d__law_most ["_law_sizes_here", "_law_paces"] []
 F__law_cells:Fun K "_law_cells" "_law_cells" bY t.a__law_cells t.d__law_cells
 m__law_cells:mg "_law_cells"=some (.ref t.a__law_cells)
 b__law_cells:aD K t.d__law_cells ["_law_first", "_law_sizes_here", "_law_paces"] []
 F__law_two:Fun K "_law_two" "_law_two" dC t.a__law_two t.d__law_two
 m__law_two:mg "_law_two"=some (.ref t.a__law_two)
 b__law_two:aD K t.d__law_two ["_law_script", "_law_sizes_here"] []
 F__law_far:Fun K "_law_far" "_law_far" cV t.a__law_far t.d__law_far
 m__law_far:mg "_law_far"=some (.ref t.a__law_far)
 b__law_far:aD K t.d__law_far ["_law_script", "_law_view"] []
 F__law_walk:Fun K "_law_walk" "_law_walk" cC t.a__law_walk t.d__law_walk
 m__law_walk:mg "_law_walk"=some (.ref t.a__law_walk)
 b__law_walk:aD K t.d__law_walk ["_law_sizes_here", "_law_order"] []
 F__law_number:Fun K "_law_number" "_law_number" cj t.a__law_number t.d__law_number
 m__law_number:mg "_law_number"=some (.ref t.a__law_number)
 b__law_number:aD K t.d__law_number ["_law_sizes_here", "_law_place"] []
 F__law_keeps:Fun K "_law_keeps" "_law_keeps" cI t.a__law_keeps t.d__law_keeps
 m__law_keeps:mg "_law_keeps"=some (.ref t.a__law_keeps)
 b__law_keeps:aD K t.d__law_keeps ["_law_sizes_here", "_law_order", "_law_writes", "_law_reads"] []
 F__law_all_orders:Fun K "_law_all_orders" "_law_all_orders" aK t.a__law_all_orders t.d__law_all_orders
 m__law_all_orders:mg "_law_all_orders"=some (.ref t.a__law_all_orders)
 b__law_all_orders:aD K t.d__law_all_orders ["_law_axes"] []
 F__law_right:Fun K "_law_right" "_law_right" cH t.a__law_right t.d__law_right
 m__law_right:mg "_law_right"=some (.ref t.a__law_right)
 b__law_right:aD K t.d__law_right ["_law_one", "_law_other", "_law_can"] []
 F_law:Fun K "law" "law" lO t.a_law t.d_law
 m_law:mg "law"=some (.ref t.a_law)
 b_law:aD K t.d_law ["_law_script"] []
 z_ValueError:mg "ValueError"=none
 z_all:mg "all"=none
 z_bool:mg "bool"=none
 z_enumerate:mg "enumerate"=none
 z_int:mg "int"=none
 z_isinstance:mg "isinstance"=none
 z_len:mg "len"=none
 z_list:mg "list"=none
 z_max:mg "max"=none
 z_min:mg "min"=none
 z_range:mg "range"=none
 z_reversed:mg "reversed"=none
 z_sum:mg "sum"=none
 z_tuple:mg "tuple"=none
 z_zip:mg "zip"=none
local macro_rules | `(tactic| trivial) => `(tactic| first | exact Or.inl rfl | exact Or.inr rfl | exact Or.inr (Or.inl rfl) | exact Or.inr (Or.inr rfl) | assumption)
local macro_rules | `(tactic| simp! only [$xs,*]) => do
  let ys := xs.getElems.map λ x => (⟨x.raw⟩ : Lean.TSyntax `Lean.Parser.Tactic.simpLemma)
  let zs ← ("↓reduceIte ↓jl ↓Fe ↓Fd ↓Fc ↓Fb ↓E9 ↓E8 ↓E7 ↓E6 ↓E5 ↓E4 ↓BE ↓Lx ↓Lb ↓Nb ↓Lr ↓K8 ↓qt ↓qr ↓IF ↓HU ↓Jj ↓Ia ↓Lw ↓La ↓IP ↓Le ↓Ja ↓HV ↓zU ↓Ez ↓DJ ↓xi ↓xh ↓xg ↓xf ↓DL ↓LC ↓Lf ↓DG ↓HR ↓HS ↓Ey ↓DH ↓IM ↓uK ↓Jh ↓HZ ↓LA ↓II ↓Ij ↓IK ↓Lz ↓Lh ↓Ih ↓Ig ↓sU ↓qv ↓oU ↓qu ↓xb ↓xa ↓w6 ↓w5 ↓w4 ↓wX ↓wW ↓wV ↓wO ↓wN ↓wU ↓wR ↓wQ ↓wM ↓wL ↓wZ ↓wY ↓Je ↓LD ↓Lg ↓Jd ↓HY ↓Ji ↓wJ ↓IA ↓sT ↓Ek ↓Iw ↓DQ ↓zQ ↓zR ↓Jn ↓LB ↓Li ↓aI ↓HW ↓Ls ↓EG ↓xc ↓IQ ↓Jl ↓Lq ↓Gy ↓HF ↓DK ↓Eh ↓DE ↓Jo ↓sY ↓fG ↓gY ↓mZ ↓fW ↓zS ↓zT ↓IU ↓sV ↓mY ↓mW ↓mX ↓Es ↓Ir ↓Iu ↓Iv ↓K9 ↓wH ↓Em ↓DF ↓Lu ↓Lv ↓Ic ↓Ii ↓Ng ↓D0 ↓Eo ↓zH ↓IG ↓IH ↓BC ↓Ly ↓Lj ↓D8 ↓Iy ↓Iz ↓Jm ↓Ef ↓Ie ↓Jc ↓EE ↓Ik ↓Ec ↓Eb ↓Ee ↓Ed ↓Lm ↓Jk ↓bx ↓bG ↓d8 ↓DP ↓DO ↓Et ↓Eu ↓IT ↓Iq ↓Eg ↓Ei ↓Ej ↓DW ↓sW ↓zN ↓Ep ↓DY ↓Er ↓wK ↓DZ ↓Jb ↓D9 ↓zO ↓zP ↓IJ ↓Lc ↓DR ↓DT ↓Ew ↓Ex ↓wI ↓IV ↓IW ↓EH ↓Ld ↓I0 ↓DI ↓IX ↓IZ ↓DN ↓HQ ↓HP ↓HN ↓HM ↓HL ↓HK ↓HJ ↓HI ↓HH ↓HG ↓Ll ↓Nd ↓Nc ↓zL ↓DV ↓ED ↓Ea ↓IE ↓Io ↓En ↓DX ↓EA ↓EB ↓EC ↓zK ↓EI ↓zV ↓IB ↓Im ↓El ↓zI ↓IL ↓Lk ↓Il ↓Ip ↓Ln ↓Lo ↓Nf ↓Lp ↓EF ↓IS ↓zG ↓Jf ↓Jg ↓HX ↓DS ↓DU ↓zJ ↓IC ↓ID ↓DM jl dq aw iR yV yU zW yP tU au CH CJ CI GV CM GX CN CK CL yM Ay EY Ax Aw Nn oS LQ LP AM dD rP dP fw Fv JD Fu Option.isSome_some Option.isSome_none Option.map_some List.length_cons List.length_nil List.length_map List.map_cons List.map_nil and_true true_and and_self implies_true reduceCtorEq decide_true decide_false Bool.not_true Bool.not_false if_true if_false decide_eq_true_eq Bool.false_eq_true Bool.not_eq_true' decide_eq_false_iff_not Bool.and_true Bool.true_and Bool.and_self Bool.and_eq_true Int.reduceToNat Int.reducePow Int.reduceMul Int.reduceAdd Int.reduceSub Int.reduceNeg Int.reduceLT Int.reduceLE Int.reduceEq Int.reduceNe Int.reduceDiv Int.reduceMod Nat.reduceAdd Nat.reduceLeDiff Nat.reduceLT Nat.reduceMul Nat.reducePow gt_iff_lt ge_iff_le ne_eq false_implies true_implies eq_self String.reduceEq Int.cast_ofNat_Int not_true_eq_false not_false_eq_true false_and and_false List.cons_append List.nil_append List.append_nil Gz".splitOn " ").toArray.mapM λ s => if s.startsWith "↓" then `(Lean.Parser.Tactic.simpLemma| ↓ $(Lean.mkIdent (s.replace "↓" "").toName):ident) else `(Lean.Parser.Tactic.simpLemma| $(Lean.mkIdent s.toName):ident)
  `(tactic| simp (config := { failIfUnchanged := false, maxDischargeDepth := 30, maxSteps := 10000000 }) only [$zs,*, $ys,*, *])
local macro_rules | `(%[$xs,*|$k:num]) => do
  let a := xs.getElems
  let s (i : Nat) : String := a[i]!.raw.getId.toString
  let I (n : String) : Lean.TSyntax `term := ⟨(Lean.mkIdent n.toName).raw⟩
  match k.getNat with
  | 38 => `($(a[0]!) (P := $(I "P")) (w := $(I "w")) (base := $(I "base")) $(I "T"))
  | 0 => `(@pvN _ $(a[0]!) _ _ (by rfl) (by trivial) (by decide) (by decide))
  | 1 => if a.size = 1 then `(@FJ _ _ _ _ _ $(a[0]!) (@dh _) (by rfl)) else `(@FJ _ _ _ _ _ $(a[0]!) $(a[1]!) (by rfl))
  | 2 => `(@fi _ _ _ _)
  | 7 => `(by trivial)
  | 8 => `(by omega)
  | 3 => `(@Dq _ _ _ _ _ _ _ _ _ _ _ _ _ _ _ _ $(I ("G_" ++ s 0)) ($(I "hr.mono") (by decide)) (by rfl) $(I ("T.m_" ++ s 0)) $(I ("T.F_" ++ s 0 ++ ".kp")) $(I ("T.b_" ++ s 0)) .nil fe $(a[1]!) (by decide) (by rfl) (by rfl))
  | 4 => `(@gk _ _ $(a[0]!) _ _ _ _ ($(a[1]!)).nd rfl (Or.inl rfl) $(a[2]!) (by rfl) (by trivial))
  | 5 => `(@vf _ _ $(a[0]!) _ ($(a[1]!)).nd rfl (Or.inl rfl) (by trivial))
  | 6 => `(@iH _ _ _ _ _ _ _ $(Lean.Syntax.mkStrLit (s 0)) _ $(a[1]!) (by rfl) $(I ("T.z_" ++ s 0)) (by decide +kernel) $(a[2]!) (by decide) (by decide) (by rfl) (by rfl))
  | 9 => `(@gq _ _ _ _ _ $(a)*)
  | 10 => `(@lT _ _ _ $(a)*)
  | 11 => `(@fh _ _ _ _ _ _ _ _ $(a)*)
  | 12 => `(@uE _ _ _ _ $(a)*)
  | 13 => `(@vf _ _ $(a)*)
  | 14 => `(@zc _ _ _ _ _ _ _ _ $(a)*)
  | 15 => `(@wj _ _ _ _ _ $(a)*)
  | 16 => `(@B8 _ _ _ _ _ _ _ $(a)*)
  | 17 => `(@Dl _ _ _ _ $(a)*)
  | 18 => `(@Bu _ _ _ _ $(a)*)
  | 19 => `(@B6 _ _ _ _ _ _ _ _ $(a)*)
  | 20 => `(@Hm _ _ _ _ _ _ _ _ $(a)*)
  | 21 => `(@Dn _ _ _ _ _ _ _ _ _ _ _ $(a)*)
  | 22 => `(@Hq _ _ _ _ _ $(a)*)
  | 23 => `(@CZ _ _ _ _ $(a)*)
  | 24 => `(@Dr _ _ _ _ _ _ _ $(a)*)
  | 25 => `(@Dm _ _ _ _ _ $(a)*)
  | 26 => `(@wm _ _ _ _ _ _ _ _ _ _ _ _ _ _ _ _ _ $(a)*)
  | 27 => `(@Ht _ _ _ _ _ $(a)*)
  | 28 => `(@Dk _ _ _ _ _ $(a)*)
  | 29 => `(@zp _ _ _ _ _ _ _ _ _ _ $(a)*)
  | 30 => `(@Dd _ _ _ $(a)*)
  | 31 => `(@wg _ _ _ _ _ _ $(a)*)
  | 32 => `(@Dp _ _ _ _ _ _ _ _ $(a)*)
  | 33 => `(@KW _ _ _ _ _ _ _ _ _ _ _ _ $(a)*)
  | 34 => `(@KR _ _ _ _ _ _ _ $(a)*)
  | 35 => `(@Hn _ _ _ _ _ _ _ _ _ $(a)*)
  | 36 => `(@CW _ _ _ _ _ _ _ _ _ _ _ _ _ $(a)*)
  | 37 => `(@zq _ _ _ _ _ _ _ _ _ _ _ _ _ _ _ _ _ $(a)*)
  | _ => Lean.Macro.throwUnsupported
local macro_rules | `(∅) => `(by rfl)
local macro_rules | `(⋯) => `(by decide)
local macro_rules | `(nofun) => `(by decide +kernel)
local macro_rules | `(tactic| ac_rfl) => `(tactic| simp! only [and_true])
local macro_rules | `(tactic| exists $x:ident) => `(tactic| replace $x := λ (_ : Unit) => $x)
section
variable {P:Program}{w:World}{K:PySem.W.Frag}{mg:Str->Option Value}{base:Heap}{t:Adr}
def fM(ns:List Int)(k m:Int):Int:=(if k < (ns.length:Int) then ns.getD k.toNat 0 else (if 0 < (ns.length:Int) then ns.getD (k % (ns.length:Int)).toNat 0 % 999999937 * (48271+2 * k * k)+k * 69621 else k * k * 7919+104729) % 2147483647 * 16807 % 2147483629) % m
theorem vx{ns:List Int}{k z:Int}(h0:0<=k)(h1:k < (ns.length:Int))(hz:atI (ns.map V.int) k=some (.int z)):ns.getD k.toNat 0=z:=by
 obtain⟨n,rfl⟩:=NU h0;have hn:n < ns.length:=by omega
 have e:atI (ns.map V.int) (n:Int)=some (.int ns[n]):=ei (by rw [NL,Nw hn];rfl);rw [hz] at e;have e2:=NX e;simp only [V.int.injEq] at e2;rw [NJ,Ol,Nw hn,e2];rfl
theorem Fj{ns:List Int}{k m z:Int}(h0:0<=k)(h1:k < (ns.length:Int))(hz:atI (ns.map V.int) k=some (.int z)):fM ns k m=z % m:=by
 unfold fM;rw [if_pos h1,vx h0 h1 hz]
theorem Fi{ns:List Int}{k m z:Int}(h1:¬ k < (ns.length:Int))(h2:0 < (ns.length:Int))(hz:atI (ns.map V.int) (k % (ns.length:Int))=some (.int z)):fM ns k m=(z % 999999937 * (48271+2 * k * k)+k * 69621) % 2147483647 * 16807 % 2147483629 % m:=by
 unfold fM;rw [if_neg h1,if_pos h2,vx (Int.emod_nonneg _ %[0|8]) (Int.emod_lt_of_pos _ h2) hz]
theorem Fh{ns:List Int}{k m:Int}(h1:¬ k < (ns.length:Int))(h2:¬ 0 < (ns.length:Int)):fM ns k m=(k * k * 7919+104729) % 2147483647 * 16807 % 2147483629 % m:=by
 unfold fM;rw [if_neg h1,if_neg h2]
def pP(K:W.Frag)(a:Addr)(ns:List Int):Sp:=λ vs H Q E=>∃ (k:Int) (m:Int),vs=[.ref a,.int k,.int m]/\(SqL K H a (ns.map V.int)/\ns.length<=63/\(0<=k/\k < 1000)/\0 < m/\Q (.int (fM ns k m)) H)
theorem oB(K:W.Frag)(a:Addr)(ns:List Int)(k:Int)(m:Int)(H:Hp)(Q:VK)(E:XK):pP K a ns [.ref a,.int k,.int m] H Q E=(SqL K H a (ns.map V.int)/\ns.length<=63/\(0<=k/\k < 1000)/\0 < m/\Q (.int (fM ns k m)) H):=jU (f:=λ (k:Int) (m:Int)=>[.ref a,.int k,.int m]) (λ _ _ _ _ h=>by cases h;exact⟨rfl,rfl⟩) k m
theorem xx(K:W.Frag)(a:Addr)(ns:List Int){vs:List V}{H:Hp}{Q:VK}{E:XK}(h:pP K a ns vs H Q E):vs.length=3:=jV h λ _ _=>rfl
theorem gG(T:Tx K mg t)(a:Addr)(ns:List Int):cq P w K mg base CX0 1 t.a__law_draw t.d__law_draw ["_law_script", "_law_k", "_law_many"] (pP K a ns):=by
 refine T.F__law_draw.ok eV (λ vs H Q E h=>xx _ _ _ h) (λ c A o s H vs Q E hr h=>?_)
 ·obtain⟨k,m,rfl,hS,hl,⟨hk0,hk1⟩,hm,kk⟩:=h
  refine⟨_,(gq (B6 (pV Gn (pv 1) (iH (id := "len") dZ ∅ T.z_len nofun (FJ (pv 0) dh)) (aA _))
   (lT (uE (fh iU (B8 pY (pv 0) (pv 1) (λ _ _=>rfl)) (pv 2))))
   aE)
  (gq (gk (i:=3) eV.nd rfl (Or.inl rfl) (fh qU (fh ib (fh ib (pv 1) (pv 1)) fi) fi))
  (gq (B6 (pV Gp (iH (id := "len") dZ ∅ T.z_len nofun (FJ (pv 0) dh)) fi (aA _))
   (gq (gk (i:=4) eV.nd rfl (Or.inl rfl) (fh iU (B8 pY (pv 0) (fh iU (pv 1) (iH (id := "len") dZ ∅ T.z_len nofun (FJ (pv 0) dh))) (λ _ _=>rfl)) fi))
   (lT (gk (i:=3) eV.nd rfl (Or.inl rfl) (fh qU (fh ib (pv 4) (fh qU fi (fh ib (fh ib fi (pv 1)) (pv 1)))) (fh ib (pv 1) fi)))))
   aE)
  (lT (uE (fh iU (fh iU (fh ib (fh iU (pv 3) fi) fi) fi) (pv 2))))))),?_⟩
  refine⟨_,rfl,_,rfl,a,_,rfl,.inl hS,_,_,rfl,rfl,_,rfl,?_⟩;refine MF (λ h=>?_) (λ h=>?_)
  ·have h1:k < (ns.length:Int):=by simpa using h
   obtain⟨z,hz,_⟩:=mF ns k hk0 h1;exact⟨_,rfl,_,rfl,a,_,k,_,rfl,rfl,hS,hz,_,rfl,_,_,rfl,rfl,hm,by rw [Fj hk0 h1 hz] at kk;exact kk⟩
  ·have h1:¬ k < (ns.length:Int):=by simpa using h
   refine⟨_,rfl,_,rfl,_,_,rfl,rfl,.inl ⟨by omega,by omega⟩,_,_,rfl,rfl,.inr ⟨by decide,by decide⟩,_,_,rfl,rfl,?_⟩;refine⟨_,rfl,a,_,rfl,.inl hS,_,_,rfl,rfl,_,rfl,?_⟩;refine MF (λ h2=>?_) (λ h2=>?_)
   ·have h3:0 < (ns.length:Int):=by simpa using h2
    have h4:(0:Int) < ((ns.map V.int).length:Int):=by simpa using h3
    obtain⟨z,hz,_⟩:=mF ns (k % ((ns.map V.int).length:Int)) (OV _ %[0|8]) (by have:=OG k h4;simpa using this);refine⟨_,rfl,_,rfl,_,rfl,a,_,rfl,.inl hS,_,_,rfl,rfl,h4,a,_,_,_,rfl,rfl,hS,hz,_,_,rfl,rfl,(by first|decide|(show (0:Int) < _;decide)),?_⟩;refine⟨_,rfl,_,rfl,_,_,rfl,rfl,.inl ⟨by decide,by decide⟩,_,rfl,_,_,rfl,rfl,.inr ⟨by omega,by omega⟩,_,_,rfl,rfl,_,_,rfl,rfl,?_,?_⟩
    ·refine .inl ⟨?_,?_⟩
     ·have:=OV z (show (999999937:Int) ≠ 0 by decide);omega
     ·have:=OG z (show (0:Int) < 999999937 by decide);omega
    refine⟨_,rfl,_,_,rfl,rfl,.inr ⟨by decide,by decide⟩,_,_,rfl,rfl,?_⟩;exact⟨_,rfl,_,_,rfl,rfl,(by first|decide|(show (0:Int) < _;decide)),_,_,rfl,rfl,.inr ⟨by decide,by decide⟩,_,_,rfl,rfl,(by first|decide|(show (0:Int) < _;decide)),_,rfl,_,_,rfl,rfl,hm,by rw [Fi h1 h3 (show atI (ns.map V.int) (k % (ns.length:Int))=some (.int z) by rw [←hz,Nz])] at kk;exact kk⟩
   ·exact⟨_,rfl,_,_,rfl,rfl,(by first|decide|(show (0:Int) < _;decide)),_,_,rfl,rfl,.inr ⟨by decide,by decide⟩,_,_,rfl,rfl,(by first|decide|(show (0:Int) < _;decide)),_,rfl,_,_,rfl,rfl,hm,by rw [Fh h1 (show ¬ (0:Int) < (ns.length:Int) by simpa using h2)] at kk;exact kk⟩
def uv(K:W.Frag)(a:Addr)(ns:List Int):Sp:=λ vs H Q E=>∃ (k:Int) (m:Int),vs=[.ref a,.int k,.int m]/\(SqL K H a (ns.map V.int)/\ns.length<=63/\(0<=k/\k < 1000)/\0 < m/\∀ z:Int,0<=z->z < m->Q (.int z) H)
theorem cb(K:W.Frag)(a:Addr)(ns:List Int)(k:Int)(m:Int)(H:Hp)(Q:VK)(E:XK):uv K a ns [.ref a,.int k,.int m] H Q E=(SqL K H a (ns.map V.int)/\ns.length<=63/\(0<=k/\k < 1000)/\0 < m/\∀ z:Int,0<=z->z < m->Q (.int z) H):=jU (f:=λ (k:Int) (m:Int)=>[.ref a,.int k,.int m]) (λ _ _ _ _ h=>by cases h;exact⟨rfl,rfl⟩) k m
theorem J2(K:W.Frag)(a:Addr)(ns:List Int){vs:List V}{H:Hp}{Q:VK}{E:XK}(h:uv K a ns vs H Q E):vs.length=3:=jV h λ _ _=>rfl
theorem dY(T:Tx K mg t)(a:Addr)(ns:List Int):cq P w K mg base CX0 1 t.a__law_draw t.d__law_draw ["_law_script", "_law_k", "_law_many"] (uv K a ns):=(gG (P:=P) (w:=w) (base:=base) T a ns).imp λ vs H Q E h=>by
 obtain⟨k,m,e,hS,hl,hk,hm,kk⟩:=h;exact⟨k,m,e,hS,hl,hk,hm,kk _ (show 0<=fM ns k m from OV _ %[0|8]) (show fM ns k m < m from OG _ hm)⟩
def pG  : Sp:=λ vs H Q E=>∃ (x:V),vs=[x]/\(aF (isW H x) (kE4 H Q))
theorem cv  (x:V) (H:Hp) (Q:VK) (E:XK):pG  [x] H Q E=(aF (isW H x) (kE4 H Q)):=lJ (f:=λ (x:V)=>[x]) (λ _ _ h=>by cases h;exact rfl) x
theorem xm  {vs:List V}{H:Hp}{Q:VK}{E:XK}(h:pG  vs H Q E):vs.length=1:=lK h λ _=>rfl
theorem eR(T:Tx K mg t):cq P w K mg base CX0 1 t.a_is_whole t.d_is_whole ["thing"] pG:=by
 refine T.F_is_whole.ok tR (λ vs H Q E h=>xm h) (λ c A o s H vs Q E hr h=>?_)
 ·obtain⟨x,rfl,h⟩:=h;obtain⟨b,hb,k⟩:=aj h;clear h;rw [Gy] at k;refine⟨_,%[%[%[%[isinstance,dM,%[%[0|0],%[(@gd _ _ (.ty "int") (.type "int") _ ∅ T.z_int nofun rfl ⋯ ⋯)|1]|1]|6],%[(@vg _ _ _ _ %[isinstance,dM,%[%[0|0],%[(@gd _ _ (.ty "bool") (.type "bool") _ ∅ T.z_bool nofun rfl ⋯ ⋯)|1]|1]|6])|27]|24]|12]|10],?_⟩;rw [show aH ["thing"] [x]=[some (x)] from rfl]
  cases x with
  | int i=>cases hb;ac_rfl
  | bl i=>cases hb;ac_rfl
  | non=>cases hb;ac_rfl
  | str i=>cases hb;ac_rfl
  | ref p=>
   obtain⟨rfl,o,ho,ht⟩:=lW hb
   rcases ht with ht|ht|ht<;>ac_rfl
  | _=>cases hb
def kSz(F:List Int->Prop):List Int->Prop:=λ ns=>eA ns/\F ns
theorem pB(F:List Int->Prop)(ns:List Int):kSz F ns=(eA ns/\F ns):=rfl
def Ky(H:Hp)(Q:VK):List Int->Prop:=λ ns=>Q (.int (ae ns)) H
theorem qN(H:Hp)(Q:VK)(ns:List Int):Ky H Q ns=Q (.int (ae ns)) H:=rfl
def pQ  : Sp:=λ vs H Q E=>∃ (p:Addr),vs=[.ref p]/\(aF (aw H p) (eJ (kSz (Ky H Q))))
theorem ju  (p:Addr) (H:Hp) (Q:VK) (E:XK):pQ  [.ref p] H Q E=(aF (aw H p) (eJ (kSz (Ky H Q)))):=lJ (f:=λ (p:Addr)=>[.ref p]) (λ _ _ h=>by cases h;exact rfl) p
theorem xy  {vs:List V}{H:Hp}{Q:VK}{E:XK}(h:pQ  vs H Q E):vs.length=1:=lK h λ _=>rfl
theorem gf(T:Tx K mg t):cq P w K mg base CX0 1 t.a_count_of t.d_count_of ["sizes"] pQ:=by
 refine T.F_count_of.ok fJ (λ vs H Q E h=>xy h) (λ c A o s H vs Q E hr h=>?_)
 ·obtain⟨p,rfl,h⟩:=h;obtain⟨xs,hp,ns,rfl,hs,k⟩:=aj h;replace hp:=bD hp;rw [qN] at k;refine⟨_,%[%[1,fJ,%[0|2]|4],%[%[NW,rfl,%[%[0|0]|18],%[2,fJ|5],%[%[1,fJ,%[DA,%[1|0],%[2|0]|11]|4]|10],(by intros;rfl)|20],%[%[%[1|0]|12]|10]|9]|9],?_⟩;rw [show aH ["sizes", "count", "size"] [.ref p]=[some (.ref p),none,none] from rfl];ac_rfl;refine cR (xs:=ns.map V.int) (λ i σ H'=>∃ v:Option V,σ=[some (.ref p),some (.int (ae (ns.take i))),v]/\H'=H) ⟨_,rfl,rfl⟩ (λ i σ H' _ ⟨_,_,e⟩=>by subst e;exact hp) ?_ ?_
  ·rintro i x _ _ hi ⟨v,rfl,rfl⟩;rw [NL] at hi;obtain⟨z,hz,rfl⟩:=NI.mp hi;have e:=gW ns i z hz;have b1:=(hs.take i).prod;have b2:=hs.2 z (N6 hz)
   have c1:(ae (ns.take i)).natAbs < 2 ^ 256:=by
    generalize ae (ns.take i)=y at b1;have:(1000000000:Int) ^ 8 < 2 ^ 256:=by decide
    omega
   have c2:z.natAbs < 2 ^ 256:=by omega
   clear b1 b2;simp! only [↓aI,Ba];exact⟨_,rfl⟩
  ·rintro _ _ ⟨v,rfl,rfl⟩;rw [Nz,OE];ac_rfl
def mh  : Sp:=λ vs H Q E=>∃ (i:Int) (lo:Int) (hi:Int),vs=[.int i,.int lo,.int hi]/\(Q (.bl (decide (lo<=i) && decide (i<=hi))) H)
theorem lI  (i:Int) (lo:Int) (hi:Int) (H:Hp) (Q:VK) (E:XK):mh  [.int i,.int lo,.int hi] H Q E=(Q (.bl (decide (lo<=i) && decide (i<=hi))) H):=Bc (f:=λ (i:Int) (lo:Int) (hi:Int)=>[.int i,.int lo,.int hi]) (λ _ _ _ _ _ _ h=>by cases h;exact⟨rfl,rfl,rfl⟩) i lo hi
theorem sZ  {vs:List V}{H:Hp}{Q:VK}{E:XK}(h:mh  vs H Q E):vs.length=3:=Bd h λ _ _ _=>rfl
theorem ir(T:Tx K mg t):cq P w K mg base CX0 2 t.a_is_within t.d_is_within ["thing", "low", "high"] mh:=by
 have G_is_whole:=%[eR|38];refine T.F_is_within.ok qF (λ vs H Q E h=>sZ h) (λ c A o s H vs Q E hr h=>?_)
 ·obtain⟨i,lo,hi,rfl,k⟩:=h;refine⟨_,%[%[%[%[is_whole,%[%[0|0]|1]|3],%[(@nV _ _ _ _ _ _ _ _ _ _ _ _ tZ tZ %[1|0] %[0|0] %[2|0] ∅)|27]|24]|12]|10],?_⟩;rw [show aH ["thing", "low", "high"] [.int i,.int lo,.int hi]=[some (.int i),some (.int lo),some (.int hi)] from rfl]
  by_cases h0:lo<=i
  ·rw [NT h0,Rp] at k;simp! only [↓cv]
  ·rw [N9 h0,Rb] at k;simp! only [↓cv]
def ui  : Sp:=λ vs H Q E=>∃ (i:Int),vs=[.int i]/\(Q (.bl (decide (1<=i) && decide (i<=1000000000))) H)
theorem AW  (i:Int) (H:Hp) (Q:VK) (E:XK):ui  [.int i] H Q E=(Q (.bl (decide (1<=i) && decide (i<=1000000000))) H):=lJ (f:=λ (i:Int)=>[.int i]) (λ _ _ h=>by cases h;exact rfl) i
theorem Aa  {vs:List V}{H:Hp}{Q:VK}{E:XK}(h:ui  vs H Q E):vs.length=1:=lK h λ _=>rfl
theorem sO(T:Tx K mg t):cq P w K mg base CX0 3 t.a_is_size t.d_is_size ["thing"] ui:=by
 have G_is_within:=%[ir|38];refine T.F_is_size.ok ya (λ vs H Q E h=>Aa h) (λ c A o s H vs Q E hr h=>?_)
 ·obtain⟨i,rfl,k⟩:=h;refine⟨_,%[%[%[is_within,%[%[0|0],%[%[0|2],%[(@lV _ _ (.int 1000000000) _ _ ∅ T.m_MOST_SIZE.choose_spec ⟨_,rfl⟩ ⋯)|1]|1]|1]|3]|12]|10],?_⟩;rw [show aH ["thing"] [.int i]=[some (.int i)] from rfl];simp! only [↓lI]
def uy  : Sp:=λ vs H Q E=>∃ (p:Addr),vs=[.ref p]/\(∃ a:Int × Int,H p=some (.tup [.int a.1,.int a.2])/\1<=a.1/\a.1<=1000000000/\Q (.bl true) H)
theorem A5  (p:Addr) (H:Hp) (Q:VK) (E:XK):uy  [.ref p] H Q E=(∃ a:Int × Int,H p=some (.tup [.int a.1,.int a.2])/\1<=a.1/\a.1<=1000000000/\Q (.bl true) H):=lJ (f:=λ (p:Addr)=>[.ref p]) (λ _ _ h=>by cases h;exact rfl) p
theorem Ak  {vs:List V}{H:Hp}{Q:VK}{E:XK}(h:uy  vs H Q E):vs.length=1:=lK h λ _=>rfl
theorem sP(T:Tx K mg t):cq P w K mg base CX0 4 t.a_is_axis t.d_is_axis ["thing"] uy:=by
 have G_is_size:=%[sO|38];have G_is_whole:=%[eR|38];refine T.F_is_axis.ok yb (λ vs H Q E h=>Ak h) (λ c A o s H vs Q E hr h=>?_)
 ·obtain⟨p,rfl,a,hp,h1,h2,k⟩:=h;refine⟨_,%[%[%[%[isinstance,dM,%[%[0|0],%[(@gd _ _ (.ty "tuple") (.type "tuple") _ ∅ T.z_tuple nofun rfl ⋯ ⋯)|1]|1]|6],%[%[(dF hr.units),%[len,aG,%[%[0|0]|1]|6],%[0|2],(aA _)|32],%[%[is_size,%[%[fN,%[0|0],%[0|2],(λ _ _=>rfl)|16]|1]|3],%[%[is_whole,%[%[fN,%[0|0],%[0|2],(λ _ _=>rfl)|16]|1]|3]|27]|24]|24]|24]|12]|10],?_⟩;rw [show aH ["thing"] [.ref p]=[some (.ref p)] from rfl];simp! only [↓AW,↓cv]
def uq  : Sp:=λ vs H Q E=>∃ (p:Addr),vs=[.ref p]/\(∃ a:Int × Int,H p=some (.tup [.int a.1,.int a.2])/\∀ (r:Addr) (H':Hp),H r=none->Ext H H'->H' r=some (.tup [.int (aT a).1,.int (aT a).2])->Q (.ref r) H')
theorem A0  (p:Addr) (H:Hp) (Q:VK) (E:XK):uq  [.ref p] H Q E=(∃ a:Int × Int,H p=some (.tup [.int a.1,.int a.2])/\∀ (r:Addr) (H':Hp),H r=none->Ext H H'->H' r=some (.tup [.int (aT a).1,.int (aT a).2])->Q (.ref r) H'):=lJ (f:=λ (p:Addr)=>[.ref p]) (λ _ _ h=>by cases h;exact rfl) p
theorem Af  {vs:List V}{H:Hp}{Q:VK}{E:XK}(h:uq  vs H Q E):vs.length=1:=lK h λ _=>rfl
theorem oM(T:Tx K mg t):cq P w K mg base CX0 1 t.a_kept_axis t.d_kept_axis ["axis"] uq:=by
 refine T.F_kept_axis.ok qE (λ vs H Q E h=>Af h) (λ c A o s H vs Q E hr h=>?_)
 ·obtain⟨p,rfl,a,hp,k⟩:=h;refine⟨_,%[%[%[%[%[fN,%[0|0],%[0|2],(λ _ _=>rfl)|16],%[(@zr _ _ _ _ _ _ _ _ %[pA,%[fN,%[0|0],%[0|2],(λ _ _=>rfl)|16],%[0|2],(aA _)|14] %[fN,%[0|0],%[0|2],(λ _ _=>rfl)|16] %[0|2])|1]|1]|28]|12]|10],?_⟩;rw [show aH ["axis"] [.ref p]=[some (.ref p)] from rfl];have e1:(aT a).1=a.1:=rfl
  by_cases h1:1 < a.1
  ·have e2:(aT a).2=a.2:=N7 h1;rw [e1,e2] at k;ac_rfl;exact λ r H' h e h'=>k r H' h e h'
  ·have e2:(aT a).2=0:=NY h1;rw [e1,e2] at k;ac_rfl;exact λ r H' h e h'=>k r H' h e h'
def uz  : Sp:=λ vs H Q E=>∃ (p:Addr),vs=[.ref p]/\(∃ axs:List (Int × Int),bE H p (axL axs)/\dt axs/\∀ H',Ext H H'->Q (.bl true) H')
theorem A6  (p:Addr) (H:Hp) (Q:VK) (E:XK):uz  [.ref p] H Q E=(∃ axs:List (Int × Int),bE H p (axL axs)/\dt axs/\∀ H',Ext H H'->Q (.bl true) H'):=lJ (f:=λ (p:Addr)=>[.ref p]) (λ _ _ h=>by cases h;exact rfl) p
theorem Am  {vs:List V}{H:Hp}{Q:VK}{E:XK}(h:uz  vs H Q E):vs.length=1:=lK h λ _=>rfl
theorem qk(T:Tx K mg t):cq P w K mg base CX0 5 t.a_are_axes t.d_are_axes ["thing"] uz:=by
 have G_is_axis:=%[sP|38];refine T.F_are_axes.ok tT (λ vs H Q E h=>Am h) (λ c A o s H vs Q E hr h=>?_)
 ·obtain⟨p,rfl,axs,⟨ys,hp,al⟩,ha,k⟩:=h;refine⟨_,%[%[%[%[isinstance,dM,%[%[0|0],%[(@gd _ _ (.ty "list") (.type "list") _ ∅ T.z_list nofun rfl ⋯ ⋯)|1]|1]|6],%[%[tZ,%[len,aG,%[%[0|0]|1]|6],(@lV _ _ (.int 8) _ _ ∅ T.m_MOST_AXES.choose_spec ⟨_,rfl⟩ ⋯),(aA _)|32],%[%[all,(gA rfl),%[%[(["axis", "thing"]),(1),(aN (aa cU) ["thing"] rfl rfl nofun),rfl,%[%[0|0]|18],(λ C s₀ H₀ ex pn=>%[(0),_,(show List.Nodup (["axis", "thing"]:List Str) from by decide +kernel),rfl,(Or.inl rfl),%[0|7]|13]),(λ C s₀ H₀ ex pn=>(@br _)),(λ C s₀ H₀ ex pn=>%[is_axis,%[%[0|0]|1]|3]),(by intros;rfl)|21]|1]|6]|27]|24]|24]|12]|10],?_⟩;rw [show aH ["thing"] [.ref p]=[some (.ref p)] from rfl];have hl:ys.length=axs.length:=by rw [al.1];unfold axL;rw [length_map]
  have hl8:(axs.length:Int)<=8:=by have:=ha.1;omega
  ac_rfl;refine bP ys (λ _=>true) (λ _=>.bl true) (λ z x H'=>x=z/\H' p=some (.lst ys)) (qO hp).1 (qO hp).2 (aq %[0|8]) ?_ ?_
  ·intro D z x H' N1 N0 hz hD e ⟨hx,_⟩ k1 _;subst hx;obtain⟨i,hi,rfl⟩:=Pw hz;have hi':i < axs.length:=by rw [←hl];exact hi
   obtain⟨q,hq1,hq2⟩:=al.2 i [axs[i].1,axs[i].2] ys[i] (by unfold axL;rw [getElem?_map,getElem?_eq_getElem hi'];rfl) (getElem?_eq_getElem hi);have hb:=ha.2 _ (getElem_mem hi');have k1':=k1 rfl H' (Ext.refl _);have hq3:=e.at hq2;rw [hq1];clear k1 k hp al;simp! only [↓bG,↓bx];rw [A5];exact⟨axs[i],hq3,hb.1,hb.2,k1'⟩
  ·intro D H' hD e hD';have hD2:H' D=some (.lst ((ys.map λ _=>true).map V.bl)):=by rw [hD',jZ,OA];rfl
   have e2:((ys.map λ _=>true).all id)=true:=by rw [all_map];simp
   have k2:=k H' e;clear k hD';ac_rfl
theorem eS{zs:List (List Int)}{ys:List V}{H:Hp}(al:Al (dR H) zs ys){i:Nat}{y:V}(h:ys[i]? = some y):∃ z,zs[i]? = some z/\dR H z y:=by
 have hi:i < ys.length:=(Ny.mp h).1;have hz:zs[i]? = some (zs[i]'(by rw [←al.1];exact hi)):=Nw _;exact⟨_,hz,al.2 i _ y hz h⟩
def uR(x:V)(b:Int)(H:Hp)(Q:VK):Bool->Prop:=λ _=>Q (.bl (fR x b)) H
theorem md(x:V)(b:Int)(H:Hp)(Q:VK)(c:Bool):uR x b H Q c=Q (.bl (fR x b)) H:=rfl
def pT  : Sp:=λ vs H Q E=>∃ (x:V) (b:Int),vs=[x,.int b]/\(aF (isW H x) (uR x b H Q))
theorem oE  (x:V) (b:Int) (H:Hp) (Q:VK) (E:XK):pT  [x,.int b] H Q E=(aF (isW H x) (uR x b H Q)):=jU (f:=λ (x:V) (b:Int)=>[x,.int b]) (λ _ _ _ _ h=>by cases h;exact⟨rfl,rfl⟩) x b
theorem xC  {vs:List V}{H:Hp}{Q:VK}{E:XK}(h:pT  vs H Q E):vs.length=2:=jV h λ _ _=>rfl
theorem d4(T:Tx K mg t):cq P w K mg base CX0 2 t.a_is_number_below t.d_is_number_below ["thing", "bound"] pT:=by
 have G_is_whole:=%[eR|38];refine T.F_is_number_below.ok hG (λ vs H Q E h=>xC h) (λ c A o s H vs Q E hr h=>?_)
 ·obtain⟨x,b,rfl,h⟩:=h;obtain⟨c,hw,k⟩:=aj h;rw [md] at k;refine⟨_,%[%[%[%[is_whole,%[%[0|0]|1]|3],%[(@nV _ _ _ _ _ _ _ _ _ _ _ _ tZ sk %[0|2] %[0|0] %[1|0] ∅)|27]|24]|12]|10],?_⟩;rw [show aH ["thing", "bound"] [x,.int b]=[some (x),some (.int b)] from rfl]
  cases x with
  | int i=>
   cases hw;have k':Q (.bl (decide (0<=i) && decide (i < b))) H:=k;clear k h
   by_cases h0:0<=i
   ·rw [NT h0,Rp] at k';simp! only [↓cv]
   ·rw [N9 h0,Rb] at k';simp! only [↓cv]
  | bl i=>cases hw;have k':Q (.bl false) H:=k;clear k h;simp! only [↓cv]
  | non=>cases hw;have k':Q (.bl false) H:=k;clear k h;simp! only [↓cv]
  | str i=>cases hw;have k':Q (.bl false) H:=k;clear k h;simp! only [↓cv]
  | ref p=>
   obtain⟨rfl,o,ho,ht⟩:=lW hw;have k':Q (.bl false) H:=k;clear k h;simp! only [↓cv]
  | _=>cases hw
def kPl(x:V)(H:Hp)(Q:VK):List Int->Prop:=λ ns=>pF H x/\∀ H',Ext H H'->Q (.bl (kD ns x H)) H'
theorem FT(x:V)(H:Hp)(Q:VK)(ns:List Int):kPl x H Q ns=(pF H x/\∀ H',Ext H H'->Q (.bl (kD ns x H)) H'):=rfl
def jh  : Sp:=λ vs H Q E=>∃ (p:Addr) (x:V),vs=[.ref p,x]/\(aF (aw H p) (eJ (kSz (kPl x H Q))))
theorem jJ  (p:Addr) (x:V) (H:Hp) (Q:VK) (E:XK):jh  [.ref p,x] H Q E=(aF (aw H p) (eJ (kSz (kPl x H Q)))):=jU (f:=λ (p:Addr) (x:V)=>[.ref p,x]) (λ _ _ _ _ h=>by cases h;exact⟨rfl,rfl⟩) p x
theorem qy  {vs:List V}{H:Hp}{Q:VK}{E:XK}(h:jh  vs H Q E):vs.length=2:=jV h λ _ _=>rfl
theorem qj(T:Tx K mg t):cq P w K mg base CX0 3 t.a_is_place t.d_is_place ["sizes", "thing"] jh:=by
 have G_is_number_below:=%[d4|38];refine T.F_is_place.ok tS (λ vs H Q E h=>qy h) (λ c A o s H vs Q E hr h=>?_)
 ·obtain⟨p,x,rfl,h⟩:=h;obtain⟨xs0,hp,ns,rfl,hs,hk,k⟩:=aj h;replace hp:=bD hp;refine⟨_,%[%[(PW.pt %[(@ia _ _ _ _ (@eK _ _ _ %[isinstance,dM,%[%[1|0],%[(@gd _ _ (.ty "tuple") (.type "tuple") _ ∅ T.z_tuple nofun rfl ⋯ ⋯)|1]|1]|6] (by intros;rfl))),(@kC _ _ _ _ %[(kF hr.units),%[len,aG,%[%[1|0]|1]|6],%[len,aG,%[%[0|0]|1]|6],(aA _)|14])|34]),%[%[(@nu _ _ _ _)|12]|10],(@aE _)|19],%[%[%[all,(gA rfl),%[%[(["number", "size", "sizes", "thing"]),(2),(aN (aa cS) ["sizes", "thing"] rfl rfl nofun),rfl,%[∅,T.z_zip,%[%[1|0],%[%[0|0]|1]|1],∅,∅|35],(λ C s₀ H₀ ex pn=>(%[(2),rfl,%[%[(0),_,(show List.Nodup (["number", "size", "sizes", "thing"]:List Str) from by decide +kernel),rfl,(Or.inl rfl),%[0|7]|13],%[%[(1),_,(show List.Nodup (["number", "size", "sizes", "thing"]:List Str) from by decide +kernel),rfl,(Or.inl rfl),%[0|7]|13],(@bj _),∅|15],∅|15],∅,∅|22].mono λ _ _ _ _ h=>di h)),(λ C s₀ H₀ ex pn=>(@br _)),(λ C s₀ H₀ ex pn=>%[is_number_below,%[%[0|0],%[%[1|0]|1]|1]|3]),(by intros;rfl)|21]|1]|6]|12]|10]|9],?_⟩;rw [show aH ["sizes", "thing"] [.ref p,x]=[some (.ref p),some (x)] from rfl]
  cases x with
  | int i=>have k':Q (.bl false) H:=k H (Ext.refl _);clear k h;ac_rfl
  | bl i=>have k':Q (.bl false) H:=k H (Ext.refl _);clear k h;ac_rfl
  | non=>have k':Q (.bl false) H:=k H (Ext.refl _);clear k h;ac_rfl
  | str i=>have k':Q (.bl false) H:=k H (Ext.refl _);clear k h;ac_rfl
  | ref q=>
   obtain⟨b,hb⟩:=PX.mp hk.1;obtain⟨rfl,o,ho,ht⟩:=lW hb;have hpf:kD ns (.ref q) H=nv ns (some o):=by rw [←ho];rfl
   rw [hpf] at k;clear hpf h hb
   cases o with
   | tup xs=>
    by_cases hl:xs.length=ns.length
    ·have hpl:nv ns (some (.tup xs))=(xs.zip ns).all λ p=>fR p.1 p.2:=by show (decide _ && _)=_;rw [NT hl,Rp]
     rw [hpl] at k;clear hpl ht;ac_rfl;refine bP (xs.zip (ns.map V.int)) (λ _=>true) (λ z=>.bl (fR z.1 (vi z.2))) BN (kB (ka:=true) (kb:=false) ho hp).1 (kB (ka:=true) (kb:=false) ho hp).2 (of_eq_true (Gz _ (by have:=hs.1;rw [Pu,Nz];omega))) ?_ ?_
     ·intro D z y H' N1 N0 hz hD e ⟨r,hr',hr2⟩ k1 _;subst hr';obtain⟨x0,n0⟩:=z;have hm:=P8 hz;obtain⟨n,_,rfl⟩:=ND.mp hm.2;obtain⟨c,hc⟩:=PX.mp (hk.2 q xs rfl ho x0 hm.1);have hc':=EX e hc;have k1':=k1 rfl H' (Ext.refl _);rw [show vi (V.int n,()).1=n from rfl] at k1';clear k1 k hc hm hz;simp! only [↓d8,↓bx,↓oE,↓md]
     ·intro D H' hD e hD'
      have hD2:H' D=some (.lst (((xs.zip ns).map λ p=>fR p.1 p.2).map V.bl)):=by
       rw [hD',jZ,LX,OA,OA];rfl
      have k2:=k H' e;have e2:(((xs.zip ns).map λ p=>fR p.1 p.2).all id)=(xs.zip ns).all λ p=>fR p.1 p.2:=by rw [all_map];rfl
      clear k hD';ac_rfl
    ·have hpl:nv ns (some (.tup xs))=false:=by show (decide _ && _)=_;rw [N9 hl,Rb]
     rw [hpl] at k;have k':=k H (Ext.refl _);have hl':¬ ((xs.length:Int)=(ns.length:Int)):=by omega
     clear k hpl;ac_rfl
   | lst xs=>have k':Q (.bl false) H:=k H (Ext.refl _);clear k;ac_rfl
   | dK xs=>have k':Q (.bl false) H:=k H (Ext.refl _);clear k;ac_rfl
   | dT xs=>have k':Q (.bl false) H:=k H (Ext.refl _);clear k ht;have ht:tyO (.dT xs)=some "dict":=rfl;ac_rfl
   | frz ob u=>
    cases u with
    | lst ys=>have k':Q (.bl false) H:=k H (Ext.refl _);clear k ht;have ht:tyO (.frz ob (.lst ys))=some "list":=rfl;ac_rfl
    | _=>rcases ht with ht|ht|ht<;>cases ht
   | _=>rcases ht with ht|ht|ht<;>cases ht
  | _=>cases hk.1
def FK(x:Int)(H:Hp)(Q:VK):List Int->Prop:=λ ns=>∀ (r:Addr) (H':Hp),H r=none->Ext H H'->H' r=some (.tup ((ao ns x).map V.int))->Q (.ref r) H'
theorem qM(x:Int)(H:Hp)(Q:VK)(ns:List Int):FK x H Q ns=∀ (r:Addr) (H':Hp),H r=none->Ext H H'->H' r=some (.tup ((ao ns x).map V.int))->Q (.ref r) H':=rfl
def pJ  : Sp:=λ vs H Q E=>∃ (p:Addr) (x:Int),vs=[.ref p,.int x]/\(aF (aw H p) (eJ (kSz (FK x H Q))))
theorem oz  (p:Addr) (x:Int) (H:Hp) (Q:VK) (E:XK):pJ  [.ref p,.int x] H Q E=(aF (aw H p) (eJ (kSz (FK x H Q)))):=jU (f:=λ (p:Addr) (x:Int)=>[.ref p,.int x]) (λ _ _ _ _ h=>by cases h;exact⟨rfl,rfl⟩) p x
theorem xp  {vs:List V}{H:Hp}{Q:VK}{E:XK}(h:pJ  vs H Q E):vs.length=2:=jV h λ _ _=>rfl
theorem fz(T:Tx K mg t):cq P w K mg base CX0 1 t.a_split_number t.d_split_number ["sizes", "number"] pJ:=by
 refine T.F_split_number.ok cw (λ vs H Q E h=>xp h) (λ c A o s H vs Q E hr h=>?_)
 ·obtain⟨p,x,rfl,h⟩:=h;obtain⟨xs,hp,ns,rfl,hs,k⟩:=aj h;replace hp:=bD hp;rw [qM] at k;refine⟨_,%[%[2,cw,%[(@dh _)|17]|4],%[%[3,cw,%[1|0]|4],%[%[NW,rfl,(@Ho _ _ _ _ _ _ ∅ T.z_reversed %[%[0|0]|1] ∅),%[4,cw|5],%[%[%[Od,O6,O5,dJ,%[2|0],%[%[nz,%[3|0],%[4|0]|11]|1],∅,∅,∅,∅,∅|33],∅|23],%[%[3,cw,%[iX,%[3|0],%[4|0]|11]|4]|10]|9],(by intros;rfl)|20],%[%[(@Bw _ _ _ _ _ _ _ _ _ Od PySem.F.slot_list_reverse PySem.F.type_list_reverse kX %[2|0] ∅ ∅),∅|23],%[%[(@jk _ _ _ _ _ _ _ _ _ jH ∅ T.z_tuple nofun %[%[2|0]|1] ⋯ ⋯ ∅ ∅)|12]|10]|9]|9]|9]|9],?_⟩;rw [show aH ["sizes", "number", "place", "left", "size"] [.ref p,.int x]=[some (.ref p),some (.int x),none,none,none] from rfl];ac_rfl;intro r H1 hr1 e1 h1;have hrp:r ≠ p:=λ z=>by rw [z,hp] at hr1;cases hr1
  have hp1:=e1.at hp
  try ac_rfl
  refine Ff (xs:=ns.map V.int) (λ i σ H'=>∃ v:Option V,σ=[some (.ref p),some (.int x),some (.ref r),some (.int (x / ae (ns.drop (ns.length - i)))),v]/\Ext H H'/\H' r=some (.lst ((ao (ns.drop (ns.length - i)) x).reverse.map V.int))) ⟨none,by simp [ae],e1,by simpa [ao] using h1⟩ (λ i σ H' _ ⟨_,_,e,_⟩=>SqL.of (e.at hp)) ?_ ?_
  ·rintro i y _ H2 hi hx ⟨v,rfl,e2,h2⟩;rw [Nz] at hi hx;rw [NL] at hx;obtain⟨z,hz,rfl⟩:=NI.mp hx;have b1:=(hs.drop (ns.length - i)).prod;have b2:=hs.2 z (N6 hz);have e:=xl ns x i z hi hz %[0|8];have e':=qe ns x i z hi hz
   have hln:((ao (ns.drop (ns.length - i)) x).reverse).length < sizeLine:=by
    rw [Rf,bg];exact of_eq_true (LF _ (by have:=hs.1;simp;omega))
   have z0:0 < z:=by omega
   have z1:z < 1073741824:=by omega
   clear b1 b2;simp! only [↓aI];exact⟨_,rfl,e2.put hr1,by rw [Oy];rfl⟩
  ·rintro _ H2 ⟨v,rfl,e2,h2⟩;rw [Nz,Nat.sub_self,List.drop_zero] at h2;ac_rfl;intro q H3 hq e3 h3;exact k q H3 ((e2.put hr1).free hq) ((e2.put hr1).trans e3) (by rw [h3,←RF,List.reverse_reverse])
def jg  : Sp:=λ vs H Q E=>∃ (p:Addr) (i:Int),vs=[.ref p,.int i]/\(∃ ns:List Int,H p=some (.lst (ns.map V.int))/\eA ns/\0<=i/\i < ae ns/\FK i H Q ns)
theorem jI  (p:Addr) (i:Int) (H:Hp) (Q:VK) (E:XK):jg  [.ref p,.int i] H Q E=(∃ ns:List Int,H p=some (.lst (ns.map V.int))/\eA ns/\0<=i/\i < ae ns/\FK i H Q ns):=jU (f:=λ (p:Addr) (i:Int)=>[.ref p,.int i]) (λ _ _ _ _ h=>by cases h;exact⟨rfl,rfl⟩) p i
theorem qx  {vs:List V}{H:Hp}{Q:VK}{E:XK}(h:jg  vs H Q E):vs.length=2:=jV h λ _ _=>rfl
theorem qi(T:Tx K mg t):cq P w K mg base CX0 3 t.a_place_at t.d_place_at ["sizes", "number"] jg:=by
 have G_count_of:=%[gf|38];have G_is_number_below:=%[d4|38];have G_split_number:=%[fz|38];refine T.F_place_at.ok tQ (λ vs H Q E h=>qx h) (λ c A o s H vs Q E hr h=>?_)
 ·obtain⟨p,i,rfl,ns,hp,hs,i0,i1,k1⟩:=h
  have hbf:fR (.int i) (ae ns)=true:=by
   show (decide (0<=i) && decide (i < ae ns))=true
   rw [NT i0,NT i1];rfl
  refine⟨_,%[%[(@ia _ _ _ _ (@eK _ _ _ %[is_number_below,%[%[1|0],%[%[count_of,%[%[0|0]|1]|3]|1]|1]|3] (by intros;rfl))),%[(@eN _ _)|10],(@aE _)|19],%[%[%[split_number,%[%[0|0],%[%[1|0]|1]|1]|3]|12]|10]|9],?_⟩;rw [show aH ["sizes", "number"] [.ref p,.int i]=[some (.ref p),some (.int i)] from rfl];simp! only [↓ju,↓pB,↓qN,↓oE,↓md,↓oz]
def uo(cT:Addr):Sp:=λ vs H Q E=>∃ (n:Int),vs=[.int n]/\((n<=4096->Q .non H)/\¬ 4096 < n)
theorem rW(cT:Addr)(n:Int)(H:Hp)(Q:VK)(E:XK):uo cT [.int n] H Q E=((n<=4096->Q .non H)/\¬ 4096 < n):=lJ (f:=λ (n:Int)=>[.int n]) (λ _ _ h=>by cases h;exact rfl) n
theorem Ae(cT:Addr){vs:List V}{H:Hp}{Q:VK}{E:XK}(h:uo cT vs H Q E):vs.length=1:=lK h λ _=>rfl
theorem fU(T:Tx K mg t):cq P w K mg base CX0 3 t.a_refuse_long t.d_refuse_long ["count"] (uo t.a_TooMany):=by
 refine T.F_refuse_long.ok m7 (λ vs H Q E h=>Ae _ h) (λ c A o s H vs Q E hr h=>?_)
 ·obtain⟨n,rfl,k1,hn⟩:=h;refine⟨_,%[%[%[pA,%[0|0],(@lV _ _ (.int 4096) _ _ ∅ T.m_MOST_TOLD.choose_spec ⟨_,rfl⟩ ⋯),(aA _)|14],%[(@eN _ _)|10],(@aE _)|19]|10],?_⟩;rw [show aH ["count"] [.int n]=[some (.int n)] from rfl];have k1':=k1 %[0|8];clear k1;ac_rfl
theorem Ml(x:Int):min 0 x=if x < 0 then x else 0:=by split<;>omega
theorem Mm(x:Int):max 0 x=if 0 < x then x else 0:=by split<;>omega
structure ar(C:Addr)(H:Hp)(v:Addr)(room first:Int)(axs:List (Int × Int)):Prop where
 ob:∃ dx l,H v=some (.ins C dx (fb room first l))/\bE H l (axL axs)
theorem ar.ext{C:Addr}{H H':Hp}{v:Addr}{room first:Int}{axs:List (Int × Int)}(h:ar C H v room first axs)(e:Ext H H'):ar C H' v room first axs:=by
 obtain⟨dx,l,h1,h2⟩:=h.ob;exact⟨⟨dx,l,e.at h1,h2.ext e⟩⟩
theorem B9{m:Str}(h:m∈([("sizes":Str), "paces", "count", "cell", "cell_at", "cells", "least", "greatest"]:List Str)):¬ m = "axes" /\ ¬ m = "first" /\ ¬ m = "room":=by
 revert m
 decide +kernel
theorem vn(room first:Int)(l:Addr){m:Str}(h:m∈([("sizes":Str), "paces", "count", "cell", "cell_at", "cells", "least", "greatest"]:List Str)):(fb room first l).lookup m=none:=yL room first l (B9 h).1 (B9 h).2.1 (B9 h).2.2
theorem LR{H:Hp}{axs:List (Int × Int)}{ys:List V}(al:Al (dR H) (axL axs) ys){i:Nat}{y:V}(h:ys[i]? = some y):∃ a q,axs[i]? = some a/\y=.ref q/\H q=some (.tup [.int a.1,.int a.2]):=by
 obtain⟨z,hz,q,hq,hq2⟩:=eS al h;unfold axL at hz;rw [getElem?_map] at hz;obtain⟨a,ha,rfl⟩:=Option.map_eq_some_iff.mp hz;exact⟨a,q,ha,hq,hq2⟩
def lS(C:Addr):Sp:=λ vs H Q E=>∃ (v:Addr),vs=[.ref v]/\(∃ (room first:Int) (axs:List (Int × Int)),ar C H v room first axs/\dt axs/\∀ H',Ext H H'->Q (.int (first+aV axs)) H')
theorem x5(C:Addr)(v:Addr)(H:Hp)(Q:VK)(E:XK):lS C [.ref v] H Q E=(∃ (room first:Int) (axs:List (Int × Int)),ar C H v room first axs/\dt axs/\∀ H',Ext H H'->Q (.int (first+aV axs)) H'):=lJ (f:=λ (v:Addr)=>[.ref v]) (λ _ _ h=>by cases h;exact rfl) v
theorem xv(C:Addr){vs:List V}{H:Hp}{Q:VK}{E:XK}(h:lS C vs H Q E):vs.length=1:=lK h λ _=>rfl
theorem mR(T:Tx K mg t):cq P w K mg base CX0 1 t.a_View_least t.d_View_least ["self"] (lS t.a_View):=by
 refine T.F_View_least.ok pe (λ vs H Q E h=>xv _ h) (λ c A o s H vs Q E hr h=>?_)
 ·obtain⟨v,rfl,room,first,axs,vo,hax,k⟩:=h;obtain⟨dx,l,hv,ys,hl,al⟩:=vo.ob;have c1:=T.cl_View;have c2:=T.na_View_first;have c3:=T.na_View_axes
  have f1:=eP room first l
  have f2:=cE room first l
  refine⟨_,%[%[%[cp,%[%[0|0],rfl|25],%[sum,(gy rfl),%[%[(["size", "pace", "self"]),(2),(aN (aa b8) ["self"] rfl rfl nofun),rfl,%[%[%[0|0],rfl|25]|18],(λ C s₀ H₀ ex pn=>(%[(2),rfl,%[%[(0),_,(show List.Nodup (["size", "pace", "self"]:List Str) from by decide +kernel),rfl,(Or.inl rfl),%[0|7]|13],%[%[(1),_,(show List.Nodup (["size", "pace", "self"]:List Str) from by decide +kernel),rfl,(Or.inl rfl),%[0|7]|13],(@bj _),∅|15],∅|15],∅,∅|22].mono λ _ _ _ _ h=>di h)),(λ C s₀ H₀ ex pn=>(@br _)),(λ C s₀ H₀ ex pn=>%[min,(oy rfl),%[%[0|2],%[%[dU,%[fP,%[0|0],%[0|2]|11],%[1|0]|11]|1]|1]|6]),(by intros;rfl)|21]|1]|6]|11]|12]|10],?_⟩;rw [show aH ["self"] [.ref v]=[some (.ref v)] from rfl];ac_rfl;have wk:=fK (K:=K) (R:=axP) (λ _ _ _ _ h e=>h.ext e) hl (ic al);refine bP axs (λ _=>true) (λ a=>.int (min 0 ((a.1 - 1) * a.2))) axP wk.1 wk.2 (aq (by have:=hax.1;omega)) ?_ ?_
  ·intro D a x H' N1 N0 ha hD e ⟨q,hx,hq⟩ k1 _;subst hx;have hb:=hax.2 a ha;have k1':=k1 rfl H' (Ext.refl _);have hcm:lN (a.1 - 1) a.2:=.inl ⟨by omega,by omega⟩;rw [Ml] at k1';clear k1 k;simp! only [↓d8,↓bx]
  ·intro D H' hD e hD';have hD2:H' D=some (.lst ((axs.map λ a=>min 0 ((a.1 - 1) * a.2)).map V.int)):=by rw [hD',jZ,OA];rfl
   have k2:Q (.int (first+(axs.map λ a=>min 0 ((a.1 - 1) * a.2)).sum)) H':=k H' e;clear k hD';ac_rfl
def gT(C:Addr):Sp:=λ vs H Q E=>∃ (v:Addr),vs=[.ref v]/\(∃ (room first:Int) (axs:List (Int × Int)),ar C H v room first axs/\dt axs/\∀ H',Ext H H'->Q (.int (first+aM axs)) H')
theorem oZ(C:Addr)(v:Addr)(H:Hp)(Q:VK)(E:XK):gT C [.ref v] H Q E=(∃ (room first:Int) (axs:List (Int × Int)),ar C H v room first axs/\dt axs/\∀ H',Ext H H'->Q (.int (first+aM axs)) H'):=lJ (f:=λ (v:Addr)=>[.ref v]) (λ _ _ h=>by cases h;exact rfl) v
theorem oV(C:Addr){vs:List V}{H:Hp}{Q:VK}{E:XK}(h:gT C vs H Q E):vs.length=1:=lK h λ _=>rfl
theorem iD(T:Tx K mg t):cq P w K mg base CX0 1 t.a_View_greatest t.d_View_greatest ["self"] (gT t.a_View):=by
 refine T.F_View_greatest.ok jR (λ vs H Q E h=>oV _ h) (λ c A o s H vs Q E hr h=>?_)
 ·obtain⟨v,rfl,room,first,axs,vo,hax,k⟩:=h;obtain⟨dx,l,hv,ys,hl,al⟩:=vo.ob;have c1:=T.cl_View;have c2:=T.na_View_first;have c3:=T.na_View_axes
  have f1:=eP room first l
  have f2:=cE room first l
  refine⟨_,%[%[%[cp,%[%[0|0],rfl|25],%[sum,(gy rfl),%[%[(["size", "pace", "self"]),(2),(aN (aa bc) ["self"] rfl rfl nofun),rfl,%[%[%[0|0],rfl|25]|18],(λ C s₀ H₀ ex pn=>(%[(2),rfl,%[%[(0),_,(show List.Nodup (["size", "pace", "self"]:List Str) from by decide +kernel),rfl,(Or.inl rfl),%[0|7]|13],%[%[(1),_,(show List.Nodup (["size", "pace", "self"]:List Str) from by decide +kernel),rfl,(Or.inl rfl),%[0|7]|13],(@bj _),∅|15],∅|15],∅,∅|22].mono λ _ _ _ _ h=>di h)),(λ C s₀ H₀ ex pn=>(@br _)),(λ C s₀ H₀ ex pn=>%[max,(gz rfl),%[%[0|2],%[%[dU,%[fP,%[0|0],%[0|2]|11],%[1|0]|11]|1]|1]|6]),(by intros;rfl)|21]|1]|6]|11]|12]|10],?_⟩;rw [show aH ["self"] [.ref v]=[some (.ref v)] from rfl];ac_rfl;have wk:=fK (K:=K) (R:=axP) (λ _ _ _ _ h e=>h.ext e) hl (ic al);refine bP axs (λ _=>true) (λ a=>.int (max 0 ((a.1 - 1) * a.2))) axP wk.1 wk.2 (aq (by have:=hax.1;omega)) ?_ ?_
  ·intro D a x H' N1 N0 ha hD e ⟨q,hx,hq⟩ k1 _;subst hx;have hb:=hax.2 a ha;have k1':=k1 rfl H' (Ext.refl _);have hcm:lN (a.1 - 1) a.2:=.inl ⟨by omega,by omega⟩;rw [Mm] at k1';clear k1 k;simp! only [↓d8,↓bx]
  ·intro D H' hD e hD';have hD2:H' D=some (.lst ((axs.map λ a=>max 0 ((a.1 - 1) * a.2)).map V.int)):=by rw [hD',jZ,OA];rfl
   have k2:Q (.int (first+(axs.map λ a=>max 0 ((a.1 - 1) * a.2)).sum)) H':=k H' e;clear k hD';ac_rfl
def JO(H:Hp)(Q:VK)(f:Int × Int->Int)(axs:List (Int × Int)):Prop:=∀ (r:Addr) (H':Hp),H r=none->Ext H H'->H' r=some (.lst ((axs.map f).map V.int))->Q (.ref r) H'
def mi(C:Addr):Sp:=λ vs H Q E=>∃ (v:Addr),vs=[.ref v]/\(∃ (room first:Int) (axs:List (Int × Int)),ar C H v room first axs/\axs.length<=8/\JO H Q (λ a=>a.1) axs)
theorem cW(C:Addr)(v:Addr)(H:Hp)(Q:VK)(E:XK):mi C [.ref v] H Q E=(∃ (room first:Int) (axs:List (Int × Int)),ar C H v room first axs/\axs.length<=8/\JO H Q (λ a=>a.1) axs):=lJ (f:=λ (v:Addr)=>[.ref v]) (λ _ _ h=>by cases h;exact rfl) v
theorem tm(C:Addr){vs:List V}{H:Hp}{Q:VK}{E:XK}(h:mi C vs H Q E):vs.length=1:=lK h λ _=>rfl
theorem cN(T:Tx K mg t):cq P w K mg base CX0 1 t.a_View_sizes t.d_View_sizes ["self"] (mi t.a_View):=by
 refine T.F_View_sizes.ok o9 (λ vs H Q E h=>tm _ h) (λ c A o s H vs Q E hr h=>?_)
 ·obtain⟨v,rfl,room,first,axs,vo,hax,k⟩:=h;obtain⟨dx,l,hv,ys,hl,al⟩:=vo.ob;have c1:=T.cl_View;have c3:=T.na_View_axes
  have f2:=cE room first l
  refine⟨_,%[%[%[(["size", "pace", "self"]),(2),(aN (aa bZ) ["self"] rfl rfl nofun),rfl,%[%[%[0|0],rfl|25]|18],(λ C s₀ H₀ ex pn=>(%[(2),rfl,%[%[(0),_,(show List.Nodup (["size", "pace", "self"]:List Str) from by decide +kernel),rfl,(Or.inl rfl),%[0|7]|13],%[%[(1),_,(show List.Nodup (["size", "pace", "self"]:List Str) from by decide +kernel),rfl,(Or.inl rfl),%[0|7]|13],(@bj _),∅|15],∅|15],∅,∅|22].mono λ _ _ _ _ h=>di h)),(λ C s₀ H₀ ex pn=>(@br _)),(λ C s₀ H₀ ex pn=>%[0|0]),(by intros;rfl)|21]|12]|10],?_⟩;rw [show aH ["self"] [.ref v]=[some (.ref v)] from rfl];ac_rfl;have wk:=fK (K:=K) (R:=axP) (λ _ _ _ _ h e=>h.ext e) hl (ic al);refine bP axs (λ _=>true) (λ a=>.int a.1) axP wk.1 wk.2 (aq %[0|8]) ?_ ?_
  ·intro D a x H' N1 N0 ha hD e ⟨q,hx,hq⟩ k1 _;subst hx;have k1':=k1 rfl H' (Ext.refl _);clear k1 k;simp! only [↓d8,↓bx]
  ·intro D H' hD e hD';exact k D H' hD e (by rw [hD',jZ,OA];rfl)
def mj(C:Addr):Sp:=λ vs H Q E=>∃ (v:Addr),vs=[.ref v]/\(∃ (room first:Int) (axs:List (Int × Int)),ar C H v room first axs/\axs.length<=8/\JO H Q (λ a=>a.2) axs)
theorem FG(C:Addr)(v:Addr)(H:Hp)(Q:VK)(E:XK):mj C [.ref v] H Q E=(∃ (room first:Int) (axs:List (Int × Int)),ar C H v room first axs/\axs.length<=8/\JO H Q (λ a=>a.2) axs):=lJ (f:=λ (v:Addr)=>[.ref v]) (λ _ _ h=>by cases h;exact rfl) v
theorem tu(C:Addr){vs:List V}{H:Hp}{Q:VK}{E:XK}(h:mj C vs H Q E):vs.length=1:=lK h λ _=>rfl
theorem Bb(T:Tx K mg t):cq P w K mg base CX0 1 t.a_View_paces t.d_View_paces ["self"] (mj t.a_View):=by
 refine T.F_View_paces.ok pd (λ vs H Q E h=>tu _ h) (λ c A o s H vs Q E hr h=>?_)
 ·obtain⟨v,rfl,room,first,axs,vo,hax,k⟩:=h;obtain⟨dx,l,hv,ys,hl,al⟩:=vo.ob;have c1:=T.cl_View;have c3:=T.na_View_axes
  have f2:=cE room first l
  refine⟨_,%[%[%[(["size", "pace", "self"]),(2),(aN (aa b0) ["self"] rfl rfl nofun),rfl,%[%[%[0|0],rfl|25]|18],(λ C s₀ H₀ ex pn=>(%[(2),rfl,%[%[(0),_,(show List.Nodup (["size", "pace", "self"]:List Str) from by decide +kernel),rfl,(Or.inl rfl),%[0|7]|13],%[%[(1),_,(show List.Nodup (["size", "pace", "self"]:List Str) from by decide +kernel),rfl,(Or.inl rfl),%[0|7]|13],(@bj _),∅|15],∅|15],∅,∅|22].mono λ _ _ _ _ h=>di h)),(λ C s₀ H₀ ex pn=>(@br _)),(λ C s₀ H₀ ex pn=>%[1|0]),(by intros;rfl)|21]|12]|10],?_⟩;rw [show aH ["self"] [.ref v]=[some (.ref v)] from rfl];ac_rfl;have wk:=fK (K:=K) (R:=axP) (λ _ _ _ _ h e=>h.ext e) hl (ic al);refine bP axs (λ _=>true) (λ a=>.int a.2) axP wk.1 wk.2 (aq %[0|8]) ?_ ?_
  ·intro D a x H' N1 N0 ha hD e ⟨q,hx,hq⟩ k1 _;subst hx;have k1':=k1 rfl H' (Ext.refl _);clear k1 k;simp! only [↓d8,↓bx]
  ·intro D H' hD e hD';exact k D H' hD e (by rw [hD',jZ,OA];rfl)
def ml(C:Addr):Sp:=λ vs H Q E=>∃ (v:Addr),vs=[.ref v]/\(∃ (room first:Int) (axs:List (Int × Int)),ar C H v room first axs/\dt axs/\∀ H',Ext H H'->Q (.int (ae (axs.map λ a=>a.1))) H')
theorem tN(C:Addr)(v:Addr)(H:Hp)(Q:VK)(E:XK):ml C [.ref v] H Q E=(∃ (room first:Int) (axs:List (Int × Int)),ar C H v room first axs/\dt axs/\∀ H',Ext H H'->Q (.int (ae (axs.map λ a=>a.1))) H'):=lJ (f:=λ (v:Addr)=>[.ref v]) (λ _ _ h=>by cases h;exact rfl) v
theorem tw(C:Addr){vs:List V}{H:Hp}{Q:VK}{E:XK}(h:ml C vs H Q E):vs.length=1:=lK h λ _=>rfl
theorem mS(T:Tx K mg t):cq P w K mg base CX0 2 t.a_View_count t.d_View_count ["self"] (ml t.a_View):=by
 have G_View_sizes:=%[cN|38];have G_count_of:=%[gf|38];refine T.F_View_count.ok pf (λ vs H Q E h=>tw _ h) (λ c A o s H vs Q E hr h=>?_)
 ·obtain⟨v,rfl,room,first,axs,vo,hax,k⟩:=h;obtain⟨dx,l,hv,_⟩:=vo.ob
  have f3:=vn room first l (m := "sizes") nofun
  refine⟨_,%[%[%[count_of,%[%[%[0|0],T.cl_View,T.mt_View_sizes,G_View_sizes,(hr.mono ⋯),T.b_View_sizes,.nil,fe,∅|26]|1]|3]|12]|10],?_⟩;rw [show aH ["self"] [.ref v]=[some (.ref v)] from rfl];ac_rfl;rw [cW];refine⟨room,first,axs,vo,hax.1,λ r H' hr' e h'=>?_⟩;have k':=k H' e;have hsz:=hax.sizes;clear k;simp! only [↓ju,↓pB,↓qN]
def pH(C:Addr):Sp:=λ vs H Q E=>∃ (x:Addr) (room:Int) (first:Int) (l:Addr),vs=[.ref x,.int room,.int first,.ref l]/\(∃ (dx:Addr) (axs:List (Int × Int)),H x=some (.ins C dx [])/\bE H l (axL axs)/\qZ room first axs/\∀ (H':Hp) (D:Addr),(∀ H0,Ext H0 H->H0 x=none->Ext H0 H')->H D=none->H' x=some (.ins C dx (fb room first D))->bE H' D (axL (axs.map aT))->Q .non H')
theorem jt(C:Addr)(x:Addr)(room:Int)(first:Int)(l:Addr)(H:Hp)(Q:VK)(E:XK):pH C [.ref x,.int room,.int first,.ref l] H Q E=(∃ (dx:Addr) (axs:List (Int × Int)),H x=some (.ins C dx [])/\bE H l (axL axs)/\qZ room first axs/\∀ (H':Hp) (D:Addr),(∀ H0,Ext H0 H->H0 x=none->Ext H0 H')->H D=none->H' x=some (.ins C dx (fb room first D))->bE H' D (axL (axs.map aT))->Q .non H'):=L8 (f:=λ (x:Addr) (room:Int) (first:Int) (l:Addr)=>[.ref x,.int room,.int first,.ref l]) (λ _ _ _ _ _ _ _ _ h=>by cases h;exact⟨rfl,rfl,rfl,rfl⟩) x room first l
theorem xn(C:Addr){vs:List V}{H:Hp}{Q:VK}{E:XK}(h:pH C vs H Q E):vs.length=4:=L9 h λ _ _ _ _=>rfl
theorem eZ(T:Tx K mg t):cq P w K mg base CX0 6 t.a_View___init__ t.d_View___init__ ["self", "room", "first", "axes"] (pH t.a_View):=by
 have G_is_within:=%[ir|38];have G_is_whole:=%[eR|38];have G_are_axes:=%[qk|38];have G_kept_axis:=%[oM|38];have G_View_least:=%[mR|38];have G_View_greatest:=%[iD|38];refine T.F_View___init__.ok jS (λ vs H Q E h=>xn _ h) (λ c A o s H vs Q E hr h=>?_)
 ·obtain⟨x,room,first,l,rfl,dx,axs,hx,tl,vok,k⟩:=h;have c1:=T.cl_View;have c2:=T.na_View_first;have c3:=T.na_View_axes;have c4:=T.na_View_room;refine⟨_,%[%[(PW.pt %[(@ia _ _ _ _ (@eK _ _ _ %[is_within,%[%[1|0],%[%[0|2],%[(@lV _ _ (.int 1000000000000000000) _ _ ∅ T.m_MOST_ROOM.choose_spec ⟨_,rfl⟩ ⋯)|1]|1]|1]|3] (by intros;rfl))),%[(@ia _ _ _ _ (@eK _ _ _ %[is_whole,%[%[2|0]|1]|3] (by intros;rfl))),(@kC _ _ _ _ (@ia _ _ _ _ (@eK _ _ _ %[are_axes,%[%[3|0]|1]|3] (by intros;rfl))))|34]|34]),%[(@eN _ _)|10],(@aE _)|19],%[(@mx _ _ _ _ _ _ _ _ %[0|0] %[1|0] rfl),%[(@mx _ _ _ _ _ _ _ _ %[0|0] %[2|0] rfl),%[(@mx _ _ _ _ _ _ _ _ %[0|0] %[(["axis", "self", "room", "first", "axes"]),(1),(aN (aa bf) ["self", "room", "first", "axes"] rfl rfl nofun),rfl,%[%[3|0]|18],(λ C s₀ H₀ ex pn=>%[(0),_,(show List.Nodup (["axis", "self", "room", "first", "axes"]:List Str) from by decide +kernel),rfl,(Or.inl rfl),%[0|7]|13]),(λ C s₀ H₀ ex pn=>(@br _)),(λ C s₀ H₀ ex pn=>%[kept_axis,%[%[0|0]|1]|3]),(by intros;rfl)|21] rfl),%[%[(PW.pt %[%[sk,%[%[0|0],T.cl_View,T.mt_View_least,G_View_least,(hr.mono ⋯),T.b_View_least,.nil,fe,∅|26],%[0|2],(aA _)|14],(@kC _ _ _ _ %[Gq,%[%[0|0],T.cl_View,T.mt_View_greatest,G_View_greatest,(hr.mono ⋯),T.b_View_greatest,.nil,fe,∅|26],%[1|0],(aA _)|14])|34]),%[(@eN _ _)|10],(@aE _)|19]|10]|9]|9]|9]|9],?_⟩;rw [show aH ["self", "room", "first", "axes"] [.ref x,.int room,.int first,.ref l]=[some (.ref x),some (.int room),some (.int first),some (.ref l)] from rfl];have r1:=vok.r1;have r2:=vok.r2;simp! only [↓lI,↓cv];rw [A6];refine⟨axs,tl,vok.ax,λ H1 e1=>?_⟩;have hx1:=e1.at hx;have tl1:=tl.ext e1;clear hx tl;ac_rfl;refine⟨(show (1:Nat) < 1000 by decide),?_⟩;obtain⟨ys,hl1,al1⟩:=tl1;have hlx:l ≠ x:=λ z=>by rw [z,hx1] at hl1;cases hl1
  have hx2:(upd H1 x (HO.ins t.a_View dx (fC "first" (V.int first) (fC "room" (V.int room) [])))) x=some (HO.ins t.a_View dx (fC "first" (V.int first) (fC "room" (V.int room) []))):=au
  have hl2:(upd H1 x (HO.ins t.a_View dx (fC "first" (V.int first) (fC "room" (V.int room) [])))) l=some (.lst ys):=by rw [ag hlx];exact hl1
  have al2:Al (λ a y=>axP a y (upd H1 x (HO.ins t.a_View dx (fC "first" (V.int first) (fC "room" (V.int room) []))))) axs ys:=(ic al1).imp λ a y ⟨q,hy,hq⟩=>⟨q,hy,by rw [ag (λ z=>by rw [z,hx1] at hq;cases hq)];exact hq⟩;have b2:∀ H0,Ext H0 H->H0 x=none->Ext H0 (upd H1 x (HO.ins t.a_View dx (fC "first" (V.int first) (fC "room" (V.int room) [])))):=λ H0 q0 q1=>(q0.trans e1).put q1
  have b3:∀ b,b ≠ x->(upd H1 x (HO.ins t.a_View dx (fC "first" (V.int first) (fC "room" (V.int room) [])))) b=none->H b=none:=λ b hb q=>by rw [ag hb] at q;exact e1.free q
  generalize upd H1 x (HO.ins t.a_View dx (fC "first" (V.int first) (fC "room" (V.int room) [])))=H2 at hx2 hl2 al2 b2 b3;clear hl1 al1 hx1;ac_rfl;have wk:=fK (K:=K) (R:=axP) (λ _ _ _ _ h e=>h.ext e) hl2 al2;refine iM axs (λ _=>true) axP (λ D a y H'=>∃ q,y=.ref q/\q ≠ D/\H' q=some (.tup [.int (aT a).1,.int (aT a).2])) wk.1 wk.2 (λ D _ y H1 H2 ⟨q,h1,h2,h3⟩ e=>⟨q,h1,h2,e.at h3⟩) (λ D _ y H1 o ⟨q,h1,h2,h3⟩=>⟨q,h1,h2,by rw [ag h2];exact h3⟩) (aq (by have:=vok.ax.1;omega)) ?_ ?_
  ·intro D a y H' N1 N0 ha hD e ⟨ys0,hys0⟩ ⟨q,hy,hq⟩ k1 _;subst hy;have k1':=k1 rfl;clear k1 k;simp! only [↓bG,↓bx];rw [A0];exact⟨a,hq,λ r H'' hr' e' h'=>k1' _ H'' e' ⟨r,rfl,(λ z=>by rw [z,hys0] at hr';cases hr'),h'⟩⟩
  ·intro D zs H3 hD e3 hD3 al3;rw [jZ] at al3;have hx3:=e3.at hx2;have hDx:D ≠ x:=λ z=>by rw [z,hx2] at hD;cases hD
   clear wk;ac_rfl;refine⟨(show (2:Nat) < 1000 by decide),?_⟩
   have tt:bE (upd H3 x (HO.ins t.a_View dx (fb room first D))) D (axL (axs.map aT)):=by
    refine⟨zs,by rw [ag hDx];exact hD3,?_,λ i z y hz hy=>?_⟩
    ·rw [al3.1];unfold axL;rw [length_map,length_map]
    ·unfold axL at hz;rw [map_map,getElem?_map] at hz;obtain⟨a,ha,rfl⟩:=Option.map_eq_some_iff.mp hz;obtain⟨q,hq1,_,hq3⟩:=al3.2 i a y ha hy;exact⟨q,hq1,by rw [ag (λ z=>by rw [z,hx3] at hq3;cases hq3)];exact hq3⟩
   have b4:∀ H0,Ext H0 H->H0 x=none->Ext H0 (upd H3 x (HO.ins t.a_View dx (fb room first D))):=λ H0 q0 q1=>((b2 H0 q0 q1).trans e3).put q1;have hx4:(upd H3 x (HO.ins t.a_View dx (fb room first D))) x=some (HO.ins t.a_View dx (fb room first D)):=au
   have f1:=vn room first D (m := "least") nofun
   have f2:=vn room first D (m := "greatest") nofun
   refine⟨f1,?_⟩
   show lS t.a_View [V.ref x] (upd H3 x (HO.ins t.a_View dx (fb room first D))) _ _
   generalize upd H3 x (HO.ins t.a_View dx (fb room first D))=H4 at tt b4 hx4
   have vo:ar t.a_View H4 x room first (axs.map aT):=⟨dx,D,hx4,tt⟩
   rw [x5];refine⟨room,first,axs.map aT,vo,vok.ax.kept,λ H5 e5=>?_⟩
   have hlo:¬ first+aV (axs.map aT) < 0:=by have:=vok.lo;omega
   have hx5:=e5.at hx4;ac_rfl;rw [oZ];refine⟨room,first,axs.map aT,vo.ext e5,vok.ax.kept,λ H6 e6=>?_⟩
   have hhi:¬ room<=first+aM (axs.map aT):=by have:=vok.hi;omega
   have k':=k H6 D (λ H0 q0 q1=>((b4 H0 q0 q1).trans e5).trans e6) (b3 D hDx hD) (e6.at hx5) ((tt.ext e5).ext e6);clear k;ac_rfl
theorem kL(cs:List Int)(a:Int × Int)(i:Nat)(c:Int)(h:cs[i]? = some c):bU (cs.take (i+1)) a=bU (cs.take i) a++(List.range a.1.toNat).map λ (n:Nat)=>c+(n:Int) * a.2:=by
 unfold bU;rw [take_add_one,h,List.flatMap_append];simp
theorem Fw{α:Type}(xs:List α)(i:Nat):(xs.take i).length<=xs.length:=by rw [N8];omega
def jd  : Sp:=λ vs H Q E=>∃ (p:Addr) (z:Int) (pc:Int),vs=[.ref p,.int z,.int pc]/\(∃ cs:List Int,H p=some (.lst (cs.map V.int))/\1<=z/\cs.length * z.toNat<=4096/\z<=1000000000/\∀ (r:Addr) (H':Hp),H r=none->Ext H H'->H' r=some (.lst ((bU cs (z,pc)).map V.int))->Q (.ref r) H')
theorem qC  (p:Addr) (z:Int) (pc:Int) (H:Hp) (Q:VK) (E:XK):jd  [.ref p,.int z,.int pc] H Q E=(∃ cs:List Int,H p=some (.lst (cs.map V.int))/\1<=z/\cs.length * z.toNat<=4096/\z<=1000000000/\∀ (r:Addr) (H':Hp),H r=none->Ext H H'->H' r=some (.lst ((bU cs (z,pc)).map V.int))->Q (.ref r) H'):=Bc (f:=λ (p:Addr) (z:Int) (pc:Int)=>[.ref p,.int z,.int pc]) (λ _ _ _ _ _ _ h=>by cases h;exact⟨rfl,rfl,rfl⟩) p z pc
theorem qw  {vs:List V}{H:Hp}{Q:VK}{E:XK}(h:jd  vs H Q E):vs.length=3:=Bd h λ _ _ _=>rfl
theorem sN(T:Tx K mg t):cq P w K mg base CX0 1 t.a_widened t.d_widened ["cells", "size", "pace"] jd:=by
 refine T.F_widened.ok js (λ vs H Q E h=>qw h) (λ c A o s H vs Q E hr h=>?_)
 ·obtain⟨p,z,pc,rfl,cs,hp,hz,hln,hz2,k⟩:=h;refine⟨_,%[%[3,js,%[(@dh _)|17]|4],%[%[NW,rfl,%[%[0|0]|18],%[(4),_,js.nd,rfl,(Or.inr rfl),%[0|7]|13],%[%[%[Od,QH,QG,jm,%[3|0],%[%[(["number", "cells", "size", "pace", "found", "cell"]),(1),(aN (aa dH) ["cells", "size", "pace", "found", "cell"] rfl rfl nofun),rfl,%[∅,T.z_range,%[%[1|0]|1],∅|31],(λ C s₀ H₀ ex pn=>%[(0),_,(show List.Nodup (["number", "cells", "size", "pace", "found", "cell"]:List Str) from by decide +kernel),rfl,(Or.inl rfl),%[0|7]|13]),(λ C s₀ H₀ ex pn=>(@br _)),(λ C s₀ H₀ ex pn=>%[cp,%[5|0],%[dU,%[0|0],%[3|0]|11]|11]),(by intros;rfl)|21]|1],∅,∅,∅,∅,∅|33],∅|23]|10],(by intros;rfl)|20],%[%[%[3|0]|12]|10]|9]|9],?_⟩;rw [show aH ["cells", "size", "pace", "found", "cell"] [.ref p,.int z,.int pc]=[some (.ref p),some (.int z),some (.int pc),none,none] from rfl];ac_rfl;intro r H1 hr1 e1 h1;have hp1:=e1.at hp;ac_rfl;refine cR (xs:=cs.map V.int) (λ i σ H'=>∃ v4:Option V,σ=[some (.ref p),some (.int z),some (.int pc),some (.ref r),v4]/\Ext H H'/\H' r=some (.lst ((bU (cs.take i) (z,pc)).map V.int))) ⟨none,rfl,e1,h1⟩ (λ i σ H' _ ⟨_,_,e,_⟩=>e.at hp) ?_ ?_
  ·rintro i x _ H2 hi ⟨v4,rfl,e2,h2⟩;rw [NL] at hi;obtain⟨c,hc,rfl⟩:=NI.mp hi;have hil:i < cs.length:=(Ny.mp hc).1
   have hzn:z.toNat<=4096:=by
    have:=Qr z.toNat (show 1<=cs.length by omega);omega
   have hwl:(bU (cs.take i) (z,pc)).length+z.toNat<=4096:=by
    rw [ja,N8,show ((z,pc):Int × Int).1=z from rfl];have:(min i cs.length+1) * z.toNat<=cs.length * z.toNat:=Qr _ %[0|8];rw [Nat.add_mul,Nat.one_mul] at this;omega
   simp! only [↓aI];refine⟨by omega,by omega,?_⟩;refine bP (List.range z.toNat) (λ _=>true) (λ j=>.int (c+(j:Int) * pc)) (λ j x H'=>x=.int (0+(j:Nat))) eX.1 eX.2 (aq (by rw [Oj];omega)) ?_ ?_
   ·intro D j x H' N1 N0 hj hD e hx k1 _;subst hx;have hj':=Oi.mp hj;have k1':=k1 rfl H' (Ext.refl _);have hcm:lN (j:Int) pc:=.inl %[0|8];have e0:(0:Int)+(j:Int)=(j:Int):=OJ _;clear k1 k hj;simp! only [↓bG,↓bx]
   ·intro D H3 hD e3 hD3;have hD3':H3 D=some (.lst (((List.range z.toNat).map λ (j:Nat)=>c+(j:Int) * pc).map V.int)):=by rw [hD3,jZ,OA];rfl
    have h2_3:=e3.at h2;have hle:(bU (cs.take i) (z,pc)).length+(List.range z.toNat).length<=sizeLine:=aq (by rw [Oj];omega);clear hD3 hi;ac_rfl;refine⟨_,rfl,(e2.trans e3).put hr1,?_⟩;rw [kL cs (z,pc) i c hc,Oy]
  ·rintro _ H2 ⟨v4,rfl,e2,h2⟩;ac_rfl;rw [Nz,OE] at h2;exact k r H2 hr1 e2 h2
def pR(C cT:Addr):Sp:=λ vs H Q E=>∃ (v:Addr),vs=[.ref v]/\(∃ (room first:Int) (axs:List (Int × Int)),ar C H v room first axs/\dt axs/\(ae (axs.map λ a=>a.1)<=4096->∀ (r:Addr) (H':Hp),H r=none->Ext H H'->H' r=some (.lst ((af first axs).map V.int))->Q (.ref r) H')/\¬ 4096 < ae (axs.map λ a=>a.1))
theorem gC(C cT:Addr)(v:Addr)(H:Hp)(Q:VK)(E:XK):pR C cT [.ref v] H Q E=(∃ (room first:Int) (axs:List (Int × Int)),ar C H v room first axs/\dt axs/\(ae (axs.map λ a=>a.1)<=4096->∀ (r:Addr) (H':Hp),H r=none->Ext H H'->H' r=some (.lst ((af first axs).map V.int))->Q (.ref r) H')/\¬ 4096 < ae (axs.map λ a=>a.1)):=lJ (f:=λ (v:Addr)=>[.ref v]) (λ _ _ h=>by cases h;exact rfl) v
theorem xA(C cT:Addr){vs:List V}{H:Hp}{Q:VK}{E:XK}(h:pR C cT vs H Q E):vs.length=1:=lK h λ _=>rfl
theorem eW(T:Tx K mg t):cq P w K mg base CX0 4 t.a_View_cells t.d_View_cells ["self"] (pR t.a_View t.a_TooMany):=by
 have G_View_count:=%[mS|38];have G_refuse_long:=%[fU|38];have G_widened:=%[sN|38];refine T.F_View_cells.ok dk (λ vs H Q E h=>xA _ _ h) (λ c A o s H vs Q E hr h=>?_)
 ·obtain⟨v,rfl,room,first,axs,vo,hax,kQ,kE⟩:=h;obtain⟨dx,l,hv,ys,hl,al⟩:=vo.ob;have c1:=T.cl_View;have c2:=T.na_View_first;have c3:=T.na_View_axes
  have f1:=eP room first l
  have f2:=cE room first l
  have f3:=vn room first l (m := "count") nofun
  refine⟨_,%[%[%[refuse_long,%[%[%[0|0],T.cl_View,T.mt_View_count,G_View_count,(hr.mono ⋯),T.b_View_count,.nil,fe,∅|26]|1]|3],∅|23],%[%[1,dk,%[%[%[%[0|0],rfl|25]|1]|17]|4],%[%[NW,rfl,%[%[%[0|0],rfl|25]|18],(%[(2),rfl,%[%[2,dk|5],%[%[3,dk|5],(@bj _),∅|15],∅|15],∅,∅|22].mono λ _ _ _ _ h=>di h),%[%[1,dk,%[widened,%[%[1|0],%[%[2|0],%[%[3|0]|1]|1]|1]|3]|4]|10],(by intros;rfl)|20],%[%[%[1|0]|12]|10]|9]|9]|9],?_⟩;rw [show aH ["self", "found", "size", "pace"] [.ref v]=[some (.ref v),none,none,none] from rfl];clear G_View_count G_refuse_long G_widened;ac_rfl;rw [tN];refine⟨room,first,axs,vo,hax,λ H1 e1=>?_⟩;have hv1:=e1.at hv;have hl1:=e1.at hl;ac_rfl;rw [rW];refine⟨λ hc=>?_,kE⟩;have kQ':=kQ hc;clear kQ kE;ac_rfl;intro r H2 hr2 e2 h2;have hv2:=e2.at hv1;have hl2:=e2.at hl1;ac_rfl;have hpos:∀ a∈axs,(1:Int)<=a.1:=λ a ha=>(hax.2 a ha).1;refine cR (xs:=ys) (λ i σ H'=>∃ (r:Addr) (v2 v3:Option V),σ=[some (.ref v),some (.ref r),v2,v3]/\Ext H H'/\H r=none/\H' r=some (.lst ((af first (axs.take i)).map V.int))) ⟨r,none,none,rfl,e1.trans e2,e1.free hr2,h2⟩ (λ i σ H' _ ⟨_,_,_,_,e,_,_⟩=>e.at hl) ?_ ?_
  ·rintro i y _ H3 hi ⟨r3,v2,v3,rfl,e3,hr3,h3⟩;obtain⟨a,q,ha,rfl,hq⟩:=LR al hi;have hq3:=e3.at hq;have hm:=hax.2 a (N6 ha);simp! only [↓aI];rw [qC];refine⟨_,h3,hm.1,?_,hm.2,λ r4 H4 hr4 e4 h4=>?_⟩
   ·have hl4:=aJ first (axs.take i) λ b hb=>hpos b (OK hb)
    have hp:=gE (axs.map λ a=>a.1) (λ n hn=>by obtain⟨b,hb,rfl⟩:=ND.mp hn;exact hpos b hb) (i+1);rw [gW _ i a.1 (by rw [NL,ha];rfl),←Rk,←hl4] at hp;have hza:((a.1.toNat:Nat):Int)=a.1:=OC %[0|8]
    have:(((af first (axs.take i)).length * a.1.toNat:Nat):Int)<=4096:=by rw [Qw,hza];omega
    omega
   ·ac_rfl;refine⟨r4,_,_,rfl,e3.trans e4,e3.free hr4,?_⟩;rw [h4,OH,ha]
    show _=some (HO.lst (List.map V.int (af first (axs.take i++[a]))))
    rw [jG]
  ·rintro _ H3 ⟨r3,v2,v3,rfl,e3,hr3,h3⟩;have hyl:ys.length=axs.length:=by rw [al.1];unfold axL;rw [length_map]
   rw [hyl,OE] at h3;ac_rfl;exact kQ' r3 H3 hr3 e3 h3
def Cq(cT:Addr)(H:Hp)(Q:VK)(E:XK):List Int->Prop:=λ ns=>(ae ns<=4096->∀ D H',H D=none->Ext H H'->bE H' D (dQ ns)->Q (.ref D) H')/\¬ 4096 < ae ns
theorem Cw(cT:Addr)(H:Hp)(Q:VK)(E:XK)(ns:List Int):Cq cT H Q E ns=((ae ns<=4096->∀ D H',H D=none->Ext H H'->bE H' D (dQ ns)->Q (.ref D) H')/\¬ 4096 < ae ns):=rfl
def mq(cT:Addr):Sp:=λ vs H Q E=>∃ (p:Addr),vs=[.ref p]/\(aF (aw H p) (eJ (kSz (Cq cT H Q E))))
theorem tP(cT:Addr)(p:Addr)(H:Hp)(Q:VK)(E:XK):mq cT [.ref p] H Q E=(aF (aw H p) (eJ (kSz (Cq cT H Q E)))):=lJ (f:=λ (p:Addr)=>[.ref p]) (λ _ _ h=>by cases h;exact rfl) p
theorem tF(cT:Addr){vs:List V}{H:Hp}{Q:VK}{E:XK}(h:mq cT vs H Q E):vs.length=1:=lK h λ _=>rfl
theorem wx(T:Tx K mg t):cq P w K mg base CX0 4 t.a_places t.d_places ["sizes"] (mq t.a_TooMany):=by
 have G_count_of:=%[gf|38];have G_refuse_long:=%[fU|38];have G_split_number:=%[fz|38];refine T.F_places.ok rZ (λ vs H Q E h=>tF _ h) (λ c A o s H vs Q E hr h=>?_)
 ·obtain⟨p,rfl,h⟩:=h;obtain⟨xs,hp,ns,rfl,hs,k1,k2⟩:=aj h;replace hp:=bD hp;clear h;refine⟨_,%[%[1,rZ,%[count_of,%[%[0|0]|1]|3]|4],%[%[%[refuse_long,%[%[1|0]|1]|3],∅|23],%[%[%[(["number", "sizes", "count"]),(1),(aN (aa eL) ["sizes", "count"] rfl rfl nofun),rfl,%[∅,T.z_range,%[%[1|0]|1],∅|31],(λ C s₀ H₀ ex pn=>%[(0),_,(show List.Nodup (["number", "sizes", "count"]:List Str) from by decide +kernel),rfl,(Or.inl rfl),%[0|7]|13]),(λ C s₀ H₀ ex pn=>(@br _)),(λ C s₀ H₀ ex pn=>%[split_number,%[%[1|0],%[%[0|0]|1]|1]|3]),(by intros;rfl)|21]|12]|10]|9]|9],?_⟩;rw [show aH ["sizes", "count"] [.ref p]=[some (.ref p),none] from rfl];have hpos:=hs.prod.1;simp! only [↓ju,↓pB,↓qN];rw [rW];refine⟨λ hn=>?_,k2⟩;have k1':=k1 hn;clear k1 k2;have hr2:ae ns < 2 ^ 62:=by omega
  have hr1:-(2 ^ 62)<=ae ns:=by omega
  ac_rfl;refine⟨hr1,hr2,?_⟩;refine iM (List.range (ae ns).toNat) (λ _=>true) (λ j x H'=>x=.int (0+(j:Nat))) (λ D j y H'=>∃ q,y=.ref q/\q ≠ D/\H' q=some (.tup ((ao ns (j:Nat)).map V.int))) eX.1 eX.2 (λ D _ y H1 H2 ⟨q,h1,h2,h3⟩ e=>⟨q,h1,h2,e.at h3⟩) (λ D _ y H1 o ⟨q,h1,h2,h3⟩=>⟨q,h1,h2,by rw [ag h2];exact h3⟩) (aq (by rw [Oj];omega)) ?_ ?_
  ·intro D j x H' N1 N0 hz hD e ⟨ys0,hys0⟩ hx kk _;subst hx;have hp':=e.at hp;have kk':=kk rfl;clear kk;simp! only [↓bG,↓bx,↓oz,↓pB];rw [qM];intro r H2 hr2 e2 h2;rw [OJ] at h2;exact kk' _ H2 e2 ⟨r,rfl,(λ z=>by rw [z,hys0] at hr2;cases hr2),h2⟩
  ·intro D ys H' hD e hD' al;rw [jZ] at al;refine k1' D H' hD e ⟨ys,hD',?_,λ i z y hz hy=>?_⟩
   ·rw [al.1,Oj,gu]
   ·unfold dQ at hz;rw [getElem?_map] at hz;obtain⟨j,hj,rfl⟩:=Option.map_eq_some_iff.mp hz;obtain⟨q,h1,_,h3⟩:=al.2 i j y hj hy;exact⟨q,h1,h3⟩
def mr  : Sp:=λ vs H Q E=>∃ (n:Int) (b:Int) (m:Int),vs=[.int n,.int b,.int m]/\(1<=b/\b<=1000/\0<=m/\m<=8/\∀ (ds:List Int) (r:Addr) (H':Hp),H r=none->Ext H H'->H' r=some (.lst (ds.map V.int))->(ds.length:Int)=m->(∀ d∈ds,0<=d/\d < b)->Q (.ref r) H')
theorem gZ  (n:Int) (b:Int) (m:Int) (H:Hp) (Q:VK) (E:XK):mr  [.int n,.int b,.int m] H Q E=(1<=b/\b<=1000/\0<=m/\m<=8/\∀ (ds:List Int) (r:Addr) (H':Hp),H r=none->Ext H H'->H' r=some (.lst (ds.map V.int))->(ds.length:Int)=m->(∀ d∈ds,0<=d/\d < b)->Q (.ref r) H'):=Bc (f:=λ (n:Int) (b:Int) (m:Int)=>[.int n,.int b,.int m]) (λ _ _ _ _ _ _ h=>by cases h;exact⟨rfl,rfl,rfl⟩) n b m
theorem tG  {vs:List V}{H:Hp}{Q:VK}{E:XK}(h:mr  vs H Q E):vs.length=3:=Bd h λ _ _ _=>rfl
theorem dg(T:Tx K mg t):cq P w K mg base CX0 1 t.a__law_digits t.d__law_digits ["_law_number_here", "_law_by", "_law_many"] mr:=by
 refine T.F__law_digits.ok dw (λ vs H Q E h=>tG h) (λ c A o s H vs Q E hr h=>?_)
 ·obtain⟨n,b,m,rfl,hb,hb1,hm0,hm1,k⟩:=h;refine⟨_,%[%[3,dw,%[(@dh _)|17]|4],%[%[NW,rfl,%[∅,T.z_range,%[%[2|0]|1],∅|31],%[4,dw|5],%[%[%[Od,O6,O5,dJ,%[3|0],%[%[nz,%[0|0],%[1|0]|11]|1],∅,∅,∅,∅,∅|33],∅|23],%[%[0,dw,%[iX,%[0|0],%[1|0]|11]|4]|10]|9],(by intros;rfl)|20],%[%[%[3|0]|12]|10]|9]|9],?_⟩;rw [show aH ["_law_number_here", "_law_by", "_law_many", "_law_found", "_law_k"] [.int n,.int b,.int m]=[some (.int n),some (.int b),some (.int m),none,none] from rfl];have hb0:0 < b:=by omega
  ac_rfl;intro r H1 hr1 e1 h1;ac_rfl;refine⟨by omega,by omega,?_⟩;refine iZ (λ i σ H'=>∃ (x:Int) (ds:List Int) (v4:Option V),σ=[some (.int x),some (.int b),some (.int m),some (.ref r),v4]/\Ext H H'/\H' r=some (.lst (ds.map V.int))/\ds.length=i/\∀ d∈ds,0<=d/\d < b) ⟨n,[],none,rfl,e1,h1,rfl,λ _ h=>absurd h NN⟩ ?_ ?_
  ·rintro i _ H2 hi ⟨x,ds,v4,rfl,e2,h2,hdl,hdb⟩;have hi':i < m.toNat:=hi;have g1:=OV x (show b ≠ 0 by omega);have g2:=OG x hb0;have hln:ds.length < sizeLine:=fQ %[0|8];exists hdb;clear hi k;simp! only [↓aI];refine⟨fQ %[0|8],by omega,x / b,ds++[x % b],_,rfl,e2.put hr1,by rw [Oy];rfl,by simp [hdl],λ d hd=>?_⟩
   rcases N2.mp hd with h|h
   ·exact hdb () d h
   ·rw [NC.mp h];exact⟨g1,g2⟩
  ·rintro _ H2 ⟨x,ds,v4,rfl,e2,h2,hdl,hdb⟩;have k1:=k ds r H2 hr1 e2 h2 %[0|8] hdb;clear k hdb;ac_rfl
def d7(os:List (Int × Int))(n:Nat):Prop:=os.length=n/\(os.map λ o=>o.1).Perm ((List.range n).map λ (i:Nat)=>(i:Int))/\∀ o∈os,o.2=1\/o.2=-1
theorem lB:∀ (xs:List Int) (k:Nat),(xs.map V.int).eraseIdx k=(xs.eraseIdx k).map V.int
 | [],k=>by cases k<;>rfl
 | x::xs,0=>rfl
 | x::xs,k+1=>OM (V.int x::·) (lB xs k)
theorem lA:∀ {xs:List Int}{k:Nat}{x:Int},xs[k]? = some x->(x::xs.eraseIdx k).Perm xs
 | [],k,x,h=>by simp at h
 | y::xs,0,x,h=>by cases h;exact List.Perm.refl _
 | y::xs,k+1,x,h=>(List.Perm.swap y x _).trans ((lA (xs:=xs) (k:=k) (by simpa using h)).cons y)
theorem MX{H:Hp}{os:List (Int × Int)}{us:List V}(al:Al (λ z y=>axP z y H) os us):Al (dR H) (os.map λ o=>[o.1,o.2]) us:=by
 refine⟨by rw [al.1,Nz],λ i z y hz hy=>?_⟩;rw [NL] at hz;obtain⟨a,ha,rfl⟩:=NI.mp hz;exact al.2 i a y ha hy
theorem gP{vals:List Int}{c:Int}(h0:0<=c)(h1:c < vals.length):atI (vals.map V.int) c=some (.int (vals.getD c.toNat 0)):=by
 obtain⟨n,rfl⟩:=NU h0;have hn:n < vals.length:=by omega
 refine ei ?_;rw [NL,Nw hn];simp [List.getD,Nw hn]
theorem zE(xs:List Int)(j:Nat)(z:Int):(xs.map V.int).set j (.int z)=(xs.set j z).map V.int:=by
 rw [List.map_set]
theorem LL{n:Nat}{c:Int}(h0:0<=c)(h1:c < n):ixN n c=some c.toNat:=by
 unfold ixN;rw [if_pos h0,if_pos %[0|8]]
def eo(ms:List Int)(o:Int × Int)(y:Int):Int:=if o.2=1 then y else ms.getD o.1.toNat 0 - 1 - y
def gm(ms:List Int)(os:List (Int × Int))(ys:List Int):List Int:=(os.zip ys).foldl (λ pl p=>pl.set p.1.1.toNat (eo ms p.1 p.2)) (List.replicate ms.length 0)
theorem FE(ms:List Int)(ps:List ((Int × Int) × Int)):∀ pl:List Int,(ps.foldl (λ pl p=>pl.set p.1.1.toNat (eo ms p.1 p.2)) pl).length=pl.length:=by
 induction ps with
 | nil=>intro pl;rfl
 | cons p ps ih=>intro pl;rw [Qa,ih,QD]
theorem Fx{ms:List Int}{os:List (Int × Int)}{ys:List Int}{i:Nat}{o:Int × Int}{y:Int}(ho:os[i]? = some o)(hy:ys[i]? = some y):gm ms (os.take (i+1)) (ys.take (i+1))=(gm ms (os.take i) (ys.take i)).set o.1.toNat (eo ms o y):=by
 unfold gm
 have e1:(os.take (i+1)).zip (ys.take (i+1))=(os.take i).zip (ys.take i)++[(o,y)]:=by
  rw [OH,OH,ho,hy,List.zip_append (by
   have h1:=(Ny.mp ho).1;have h2:=(Ny.mp hy).1;rw [N8,N8];omega)]
  rfl
 rw [e1,Qu];rfl
theorem mw(n:Nat):(List.replicate n [V.int 0]).flatten=(List.replicate n (0:Int)).map V.int:=by
 induction n with
 | zero=>rfl
 | succ n ih=>rw [Pt,Qh,ih,Pt,OP];rfl
def szO(ms:List Int)(os:List (Int × Int)):List Int:=os.map λ o=>ms.getD o.1.toNat 0
theorem fk{ms:List Int}{c:Int}(h0:0<=c)(h1:c < (ms.length:Int)):ms.getD c.toNat 0∈ms:=by
 have hn:c.toNat < ms.length:=by omega
 rw [Ol,Nw hn];exact Pa hn
theorem G0{ms:List Int}{os:List (Int × Int)}(hs:eA ms)(hl:os.length=ms.length)(ho:∀ o∈os,(0<=o.1/\o.1 < (ms.length:Int))/\(o.2=1\/o.2=-1)):eA (szO ms os):=by
 refine⟨by unfold szO;rw [length_map,hl];exact hs.1,λ n hn=>?_⟩;obtain⟨o,h,rfl⟩:=List.mem_map.mp hn;exact hs.2 _ (fk (ho o h).1.1 (ho o h).1.2)
theorem wd{ns:List Int}{z:List Int}(h:z∈dQ ns):z.length=ns.length:=by
 unfold dQ at h;obtain⟨j,_,rfl⟩:=List.mem_map.mp h;rw [bg]
def gQ(n:Nat)(H:Hp)(q:Addr)(os:List (Int × Int)):Prop:=bE H q (os.map λ o=>[o.1,o.2])/\os.length=n/\∀ o∈os,(0<=o.1/\o.1 < (n:Int))/\(o.2=1\/o.2=-1)
def kr(ms:List Int)(o:Int × Int):List Int:=(List.range (ms.getD o.1.toNat 0).toNat).map λ (k:Nat)=>eo ms o (k:Int)
def aW(ms:List Int)(os:List (Int × Int)):List (List Int):=os.foldl (λ fs o=>fs.flatMap λ pl=>(kr ms o).map λ k=>pl.set o.1.toNat k) [List.replicate ms.length 0]
theorem fD(ms:List Int)(os:List (Int × Int))(o:Int × Int):aW ms (os++[o])=(aW ms os).flatMap λ pl=>(kr ms o).map λ k=>pl.set o.1.toNat k:=by
 unfold aW;rw [foldl_append];rfl
theorem qh(ms:List Int)(os:List (Int × Int))(o:Int × Int)(ys:List Int)(y:Int)(h:ys.length=os.length):gm ms (os++[o]) (ys++[y])=(gm ms os ys).set o.1.toNat (eo ms o y):=by
 unfold gm;rw [List.zip_append %[0|8],foldl_append];rfl
theorem iw{α β:Type}{f g:α->List β}:∀ {l:List α},(∀ x∈l,f x=g x)->l.flatMap f=l.flatMap g
 | [],_=>rfl
 | x::l,h=>by rw [Qi,Qi,h x NK,iw λ y hy=>h y (NH _ hy)]
theorem CC(ms:List Int)(hs:∀ n∈ms,1<=n/\n<=1000000000)(os:List (Int × Int))(ho:∀ o∈os,0<=o.1/\o.1 < (ms.length:Int)):(dQ (szO ms os)).map (λ ys=>gm ms os ys)=aW ms os:=by
 suffices h:∀ (n:Nat) (os:List (Int × Int)),os.length=n->(∀ o∈os,0<=o.1/\o.1 < (ms.length:Int))->(dQ (szO ms os)).map (λ ys=>gm ms os ys)=aW ms os from h _ os rfl ho
 intro n
 induction n with
 | zero=>
  intro os h _;have:os=[]:=List.length_eq_zero_iff.mp h;subst this;rfl
 | succ n ih=>
  intro os h ho;obtain⟨as,o,rfl⟩:∃ as o,os=as++[o]:=⟨os.dropLast,os.getLast (by intro e;rw [e] at h;simp at h),(Qt _).symm⟩;have hal:as.length=n:=by rw [NP,OQ] at h;omega
  have ih':=ih as hal λ o h=>ho o (Oc _ h);have hoo:=ho o (N4 _ (NC.mpr rfl));have hm:=hs _ (fk hoo.1 hoo.2)
  have hso:∀ n∈szO ms as,1<=n/\n<=1000000000:=λ n hn=>by
   obtain⟨o,h,rfl⟩:=ND.mp hn;have:=ho o (Oc _ h);exact hs _ (fk this.1 this.2)
  have e1:szO ms (as++[o])=szO ms as++[ms.getD o.1.toNat 0]:=by unfold szO;rw [map_append];rfl
  rw [e1,sG _ _ (by have:=dj _ hso;omega) %[0|8],fD,←ih',List.map_flatMap,List.flatMap_map];refine iw λ row hr=>?_;have hrl:=wd hr;rw [map_map];unfold kr;rw [map_map];refine List.map_congr_left λ k _=>?_
  show gm ms (as++[o]) (row++[(k:Int)])=_
  rw [qh _ _ _ _ _ (by rw [hrl];unfold szO;rw [length_map])];rfl
theorem yY(n:Nat):((List.range n).map λ (k:Nat)=>(k:Int)).reverse=(List.range n).map λ (k:Nat)=>(n:Int) - 1 - (k:Int):=by
 refine QR (by simp) λ i h1 h2=>?_;simp at h1 h2 ⊢;omega
theorem CA(ms:List Int)(o:Int × Int)(h:o.2=1)(h0:0<=ms.getD o.1.toNat 0):qH (ms.getD o.1.toNat 0)=(kr ms o).map V.int:=by
 unfold qH kr eo;rw [map_map,h];rfl
theorem Cz(ms:List Int)(o:Int × Int)(h:o.2=-1)(h0:0<=ms.getD o.1.toNat 0):(qH (ms.getD o.1.toNat 0)).reverse=(kr ms o).map V.int:=by
 have e1:qH (ms.getD o.1.toNat 0)=((List.range (ms.getD o.1.toNat 0).toNat).map λ (k:Nat)=>(k:Int)).map V.int:=by unfold qH;rw [map_map];rfl
 have e2:(kr ms o)=(List.range (ms.getD o.1.toNat 0).toNat).map λ (k:Nat)=>(((ms.getD o.1.toNat 0).toNat:Nat):Int) - 1 - (k:Int):=by
  unfold kr eo;rw [h,Int.toNat_of_nonneg h0];refine List.map_congr_left λ k _=>?_;rw [if_neg ⋯]
 rw [e1,←RF,yY,e2]
theorem vU{ms:List Int}:∀ {os:List (Int × Int)}{z:List Int},z∈aW ms os->z.length=ms.length:=by
 intro os;unfold aW
 suffices h:∀ (os:List (Int × Int)) (fs:List (List Int)),(∀ z∈fs,z.length=ms.length)->∀ z∈os.foldl (λ fs o=>fs.flatMap λ pl=>(kr ms o).map λ k=>pl.set o.1.toNat k) fs,z.length=ms.length from λ {z} hz=>h os _ (λ z hz=>by rw [NC.mp hz,O9]) z hz
 intro os
 induction os with
 | nil=>exact λ fs h=>h
 | cons o os ih=>
  intro fs h;refine ih _ λ z hz=>?_;obtain⟨pl,hp,hz⟩:=OX.mp hz;obtain⟨k,_,rfl⟩:=ND.mp hz;rw [QD];exact h pl hp
theorem CV(pl:List Int)(a:Nat)(k:Int)(h:a < pl.length):pl.take a++[k]++pl.drop (a+1)=pl.set a k:=by
 rw [List.set_eq_take_append_cons_drop,N7 h,Rx];rfl
theorem mV{a b:Int}(ha:0<=a)(hb:0<=b):a.toNat * b.toNat=(a * b).toNat:=by
 obtain⟨x,rfl⟩:=NU ha;obtain⟨y,rfl⟩:=NU hb;rfl
theorem yQ{ms:List Int}{os:List (Int × Int)}{i:Nat}{o:Int × Int}(hi:os[i]? = some o)(hs:∀ n∈szO ms os,1<=n/\n<=1000000000)(hc:ae (szO ms os)<=4096):(dQ (szO ms (os.take i))).length * (ms.getD o.1.toNat 0).toNat<=4096/\(dQ (szO ms (os.take i))).length<=4096/\ms.getD o.1.toNat 0<=4096:=by
 have e1:szO ms (os.take i)=(szO ms os).take i:=by unfold szO;rw [map_take]
 have hm:(szO ms os)[i]? = some (ms.getD o.1.toNat 0):=by unfold szO;rw [getElem?_map,hi];rfl
 have hn:=hs _ (N6 hm);have q1:=jL (szO ms os) hs (i+1);rw [OH,hm,Rl,bp,show ae [ms.getD o.1.toNat 0]=ms.getD o.1.toNat 0 by simp [ae]] at q1;have q2:=(dj ((szO ms os).take i) λ n hn=>hs n (OK hn)).1;rw [e1,gu];generalize ae ((szO ms os).take i)=a at *;generalize ms.getD o.1.toNat 0=b at *;have q3:=mV (a:=a) (b:=b) %[0|8] %[0|8];have q4:=Ot hn.1 (show (0:Int)<=a by omega);have q5:=NV q2 (show (0:Int)<=b by omega);omega
theorem nG{ms:List Int}{os:List (Int × Int)}(hs:∀ n∈ms,1<=n/\n<=1000000000)(ho:∀ o∈os,0<=o.1/\o.1 < (ms.length:Int)):(aW ms os).length=(dQ (szO ms os)).length:=by
 rw [←CC ms hs os ho,Nz]
theorem jr{α β:Type}(zs:List α)(f:α->List β)(j:Nat)(z:α)(h:zs[j]? = some z):(zs.take (j+1)).flatMap f=(zs.take j).flatMap f++f z:=by
 rw [Q9,h,PU];simp
theorem AK{α β:Type}(zs:List α)(f:α->List β)(n:Nat)(hf:∀ z∈zs,(f z).length=n):∀ j:Nat,((zs.take j).flatMap f).length<=zs.length * n:=by
 intro j
 have e:∀ l:List α,(∀ z∈l,(f z).length=n)->(l.flatMap f).length=l.length * n:=by
  intro l
  induction l with
  | nil=>simp
  | cons a r ih=>intro h;rw [Qi,NP,ih λ z hz=>h z (NH _ hz),h a NK,Ow,Nat.succ_mul,Nat.add_comm]
 rw [e _ λ z hz=>hf z (OK hz)];exact Qr n (by rw [N8];omega)
theorem qY{α:Type}{R:α->V->Prop}{zs ws:List α}{ys us:List V}(h:Al R zs ys)(h':Al R ws us):Al R (zs++ws) (ys++us):=by
 refine⟨by rw [NP,NP,h.1,h'.1],λ i z y hz hy=>?_⟩
 by_cases hi:i < zs.length
 ·rw [Oq hi] at hz;rw [Oq (by rw [h.1];exact hi)] at hy;exact h.2 i z y hz hy
 ·rw [Oh %[0|8]] at hz;rw [Oh (by rw [h.1];omega),h.1] at hy;exact h'.2 _ z y hz hy
theorem Ap{xs:List V}{n:Int}{H:Hp}{Q:VK}(h0:0<=n)(h1:n < xs.length)(q:iE (.tup (xs.take n.toNat)) H Q):JQ none (some n) H Q xs:=by
 obtain⟨k,rfl⟩:=NU h0;refine⟨λ e=>?_,?_⟩
 ·have:=e.2;rw [HT.sIx_nat] at this;omega
 ·rw [AS xs _ h0];exact q
theorem Aq{xs:List V}{n:Int}{H:Hp}{Q:VK}(h0:1<=n)(h1:n<=xs.length)(q:iE (.tup (xs.drop n.toNat)) H Q):JQ (some n) none H Q xs:=by
 obtain⟨k,rfl⟩:=NU (show 0<=n by omega);refine⟨λ e=>?_,?_⟩
 ·have:=e.1;rw [HT.sIx_nat] at this;omega
 ·rw [AR xs _ (show (0:Int)<=(k:Int) by omega)];exact q
def uh  : Sp:=λ vs H Q E=>∃ (p:Addr) (q:Addr),vs=[.ref p,.ref q]/\(∃ (ms:List Int) (os:List (Int × Int)),H p=some (.lst (ms.map V.int))/\eA ms/\gQ ms.length H q os/\ae (szO ms os)<=4096/\∀ (r:Addr) (H':Hp),Ext H H'->bE H' r (aW ms os)->Q (.ref r) H')
theorem AV  (p:Addr) (q:Addr) (H:Hp) (Q:VK) (E:XK):uh  [.ref p,.ref q] H Q E=(∃ (ms:List Int) (os:List (Int × Int)),H p=some (.lst (ms.map V.int))/\eA ms/\gQ ms.length H q os/\ae (szO ms os)<=4096/\∀ (r:Addr) (H':Hp),Ext H H'->bE H' r (aW ms os)->Q (.ref r) H'):=jU (f:=λ (p:Addr) (q:Addr)=>[.ref p,.ref q]) (λ _ _ _ _ h=>by cases h;exact⟨rfl,rfl⟩) p q
theorem zZ  {vs:List V}{H:Hp}{Q:VK}{E:XK}(h:uh  vs H Q E):vs.length=2:=jV h λ _ _=>rfl
theorem oP(T:Tx K mg t):cq P w K mg base CX0 1 t.a__law_walk t.d__law_walk ["_law_sizes_here", "_law_order"] uh:=by
 refine T.F__law_walk.ok bW (λ vs H Q E h=>zZ h) (λ c A o s H vs Q E hr h=>?_)
 ·obtain⟨p,q,rfl,ms,os,hp,hs,⟨⟨us,hu,al⟩,hol,hob⟩,hc,kk⟩:=h;refine⟨_,%[%[2,bW,%[%[(@jk _ _ _ _ _ _ _ _ _ jH ∅ T.z_tuple nofun %[%[vp,%[%[%[0|2]|1]|17],%[len,aG,%[%[0|0]|1]|6]|11]|1] ⋯ ⋯ ∅ ∅)|1]|17]|4],%[%[NW,rfl,%[%[1|0]|18],(%[(2),rfl,%[%[(3),_,bW.nd,rfl,(Or.inr rfl),%[0|7]|13],%[%[4,bW|5],(@bj _),∅|15],∅|15],∅,∅|22].mono λ _ _ _ _ h=>di h),%[%[5,bW,(@iq _ _ _ _ _ _ _ rfl ∅ T.z_list ∅ T.z_range %[%[fN,%[0|0],%[3|0],(λ _ _=>rfl)|16]|1] ∅ ∅ ∅)|4],%[%[%[(dF hr.units),%[4|0],(@px _ _ _ _ _ _ gc %[0|2]),(aA _)|14],%[%[(@Bw _ _ _ _ _ _ _ _ _ Od PySem.F.slot_list_reverse PySem.F.type_list_reverse kX %[5|0] ∅ ∅),∅|23]|10],(@aE _)|19],%[%[6,bW,%[(@dh _)|17]|4],%[%[NW,rfl,%[%[2|0]|18],%[(7),_,bW.nd,rfl,(Or.inr rfl),%[0|7]|13],%[%[%[Od,QH,QG,jm,%[6|0],%[%[(["_law_k", "_law_sizes_here", "_law_order", "_law_found", "_law_axis", "_law_way", "_law_numbers", "_law_longer", "_law_place"]),(1),(aN (aa cC) ["_law_sizes_here", "_law_order", "_law_found", "_law_axis", "_law_way", "_law_numbers", "_law_longer", "_law_place"] rfl rfl nofun),rfl,%[%[5|0]|18],(λ C s₀ H₀ ex pn=>%[(0),_,(show List.Nodup (["_law_k", "_law_sizes_here", "_law_order", "_law_found", "_law_axis", "_law_way", "_law_numbers", "_law_longer", "_law_place"]:List Str) from by decide +kernel),rfl,(Or.inl rfl),%[0|7]|13]),(λ C s₀ H₀ ex pn=>(@br _)),(λ C s₀ H₀ ex pn=>%[rE,%[rE,%[Gg,%[8|0],(@dm _),%[%[4|0]|30]|29],%[%[%[0|0]|1]|28]|11],%[Gg,%[8|0],%[%[cp,%[4|0],%[0|2]|11]|30],(@dm _)|29]|11]),(by intros;rfl)|21]|1],∅,∅,∅,∅,∅|33],∅|23]|10],(by intros;rfl)|20],%[%[2,bW,%[6|0]|4]|10]|9]|9]|9]|9],(by intros;rfl)|20],%[%[%[2|0]|12]|10]|9]|9],?_⟩;rw [show aH ["_law_sizes_here", "_law_order", "_law_found", "_law_axis", "_law_way", "_law_numbers", "_law_longer", "_law_place"] [.ref p,.ref q]=[some (.ref p),some (.ref q),none,none,none,none,none,none] from rfl];have h8:=hs.1;have hso:=G0 hs hol hob;have hob':∀ o∈os,0<=o.1/\o.1 < (ms.length:Int):=λ o ho=>(hob o ho).1;ac_rfl;intro z1 H1 hz1 e1 h1;have hp1:=e1.at hp;ac_rfl;refine⟨by omega,by omega,aq (by simp;omega),?_⟩;intro z2 H2 hz2 e2 h2;rw [NJ,mw] at h2;ac_rfl;intro z3 H3 hz3 e3 h3;ac_rfl;intro r H4 hr4 e4 h4;have e04:=e1.trans (e2.trans (e3.trans e4));have hu4:=e04.at hu;have hp4:=e04.at hp;have t4:bE H4 r (aW ms (os.take 0)):=⟨_,h4,Al.snoc (zs:=[]) (ys:=[]) Al.nil ⟨z3,rfl,e4.at h3⟩⟩;clear h1 h2 h3 h4 hp1;ac_rfl;refine cR (xs:=us) (λ i σ H'=>∃ (r:Addr) (v3 v4 v5 v6 v7:Option V),σ=[some (.ref p),some (.ref q),some (.ref r),v3,v4,v5,v6,v7]/\Ext H H'/\bE H' r (aW ms (os.take i))) ⟨r,_,_,_,_,_,rfl,e04,t4⟩ (λ i σ H' _ ⟨_,_,_,_,_,_,_,e,_⟩=>e.at hu) ?_ ?_
  ·rintro i x _ H5 hi ⟨r,v3,v4,v5,v6,v7,rfl,e5,⟨ys,hr5,al5⟩⟩;have hio:i < os.length:=by have h1:=(Ny.mp hi).1;have h2:=al.1;rw [Nz] at h2;omega
   obtain⟨w,rfl,hw⟩:=al.2 i [os[i].1,os[i].2] x (by rw [NL,Nw hio];rfl) hi;have hb:=hob os[i] (Pa hio);have hst:=yQ (Nw hio) hso.2 hc
   have hW:aW ms (os.take (i+1))=(aW ms (os.take i)).flatMap λ pl=>(kr ms os[i]).map λ k=>pl.set os[i].1.toNat k:=by
    rw [OH,Nw hio];exact fD _ _ _
   have hwl:=nG (os:=os.take i) hs.2 λ o ho=>hob' o (mem_of_mem_take ho);rw [←hwl] at hst;have hrow:∀ z∈aW ms (os.take i),z.length=ms.length:=λ z hz=>vU hz;have hn:=hs.2 _ (fk hb.1.1 hb.1.2);have hw1:=CA ms os[i];have hw2:=Cz ms os[i];have hwll:(kr ms os[i]).length=(ms.getD os[i].1.toNat 0).toNat:=by unfold kr;rw [length_map,length_range]
   have hw5:H5 w=some (.tup [.int os[i].1,.int os[i].2]):=e5.at hw;generalize os[i]=o at *;obtain⟨o1,o2⟩:=o;generalize aW ms (os.take i)=fs at *;have hat:=gP (vals:=ms) hb.1.1 hb.1.2;have hp5:=e5.at hp;dsimp only at *;generalize ms.getD o1.toNat 0=m at *;exists hrow;exists hW;exists hwl;exists hw1;exists hw2;exists hwll;clear hi hob hob' hw hu4 hp4 t4;simp! only [↓aI];rw [FU];refine⟨by omega,by omega,?_⟩;intro nl H6 hnl e6 h6;have hr6:=e6.at hr5;have hw6:=e6.at hw5;clear hp5 hw5;simp! only [-uK];refine BI (λ σ' H'=>σ'=[some (V.ref p),some (V.ref q),some (V.ref r),some (V.int o1),some (V.int o2),some (V.ref nl),v6,v7]/\Ext H5 H'/\H' nl=some (.lst ((kr ms (o1,o2)).map V.int))) (λ nx' hx=>?_) ?_
   ·rcases hb.2 with h|h
    ·have hx':=hx _ H6 ⟨rfl,e6,by rw [←hw1 () h %[0|8]];exact h6⟩;clear hx;subst h;ac_rfl
    ·have hx':=hx _ (upd H6 nl (.lst ((kr ms (o1,o2)).map V.int))) ⟨rfl,e6.put hnl,au⟩;rw [←hw2 () h %[0|8]] at hx';clear hx;subst h;ac_rfl
   rintro _ H7 ⟨rfl,e7,h7⟩;have hr7:=e7.at hr5;have e57:=e5.trans e7;have al7:=al5.imp λ _ _ z=>dR.ext z e7;generalize kr ms (o1,o2)=wl at *;clear hw1 hw2 h6 hr6 hr5 e6 hw6 al5 hat;ac_rfl;intro L H8 hL e8 h8';have hr8:=e8.at hr7;ac_rfl;refine cR (xs:=ys) (λ j σ H'=>∃ (v7:Option V) (zs':List V),σ=[some (.ref p),some (.ref q),some (.ref r),some (.int o1),some (.int o2),some (.ref nl),some (.ref L),v7]/\Ext H7 H'/\H' L=some (.lst zs')/\Al (dR H') ((fs.take j).flatMap λ pl=>wl.map λ k=>pl.set o1.toNat k) zs') ⟨_,[],rfl,e8,h8',by simpa using Al.nil⟩ (λ j σ H' _ ⟨_,_,_,e,_⟩=>e.at hr7) ?_ ?_
   ·rintro j y _ H9 hj ⟨v7,zs',rfl,e9,h9,al9⟩;obtain⟨z,hz,w9,rfl,hw9⟩:=eS (al7.imp λ _ _ z=>dR.ext z e9) hj;have hzl:=hrow () z (N6 hz);have hst9:=jr fs (λ pl=>wl.map λ k=>pl.set o1.toNat k) j z hz;have h7_9:=e9.at h7;clear hr8;simp! only [↓aI];have alw:Al (λ (k:Int) y=>y=.int k) wl (wl.map V.int):=⟨by rw [Nz],λ i a y ha hy=>by rw [NL,ha] at hy;exact(NX hy).symm⟩;refine iM wl (λ _=>true) (λ k x _=>x=.int k) (λ D k y H'=>∃ q,y=.ref q/\q ≠ D/\H' q=some (.tup ((z.set o1.toNat k).map V.int))) (fK (R:=λ k x _=>x=.int k) (λ _ _ _ _ h _=>h) h7_9 alw).1 (fK (R:=λ k x _=>x=.int k) (λ _ _ _ _ h _=>h) h7_9 alw).2 (λ D _ y H1 H2 ⟨q,h1,h2,h3⟩ e=>⟨q,h1,h2,e.at h3⟩) (λ D _ y H1 o ⟨q,h1,h2,h3⟩=>⟨q,h1,h2,by rw [ag h2];exact h3⟩) (aq (by rw [hwll ()];omega)) ?_ ?_
    ·intro D k y H' N1 N0 hk hD e ⟨ys0,hys0⟩ hx kc _;subst hx;have kc':=kc rfl;have hw':=e.at hw9;clear kc hk hw9 h9 h7_9 hj;simp! only [↓bG,↓bx];refine Ap hb.1.1 (by rw [Nz];omega) ?_;intro a1 G1 ha1 f1 g1;ac_rfl;intro a2 G2 ha2 f2 g2;have g1_2:=f2.at g1;ac_rfl;rw [Bh];refine⟨aq (by rw [N8,Nz];simp;omega),λ a3 G3 f3 g3=>?_⟩;have hw3:=(f1.trans (f2.trans f3)).at hw';clear g1 g1_2 g2;ac_rfl;refine Aq %[0|8] (by rw [Nz];omega) ?_;intro a4 G4 ha4 f4 g4;have g3_4:=f4.at g3;ac_rfl;rw [Bh];refine⟨aq (by simp;omega),λ a5 G5 f5 g5=>?_⟩;have f05:=f1.trans (f2.trans (f3.trans (f4.trans f5)));refine kc' _ G5 f05 ⟨a5,rfl,λ e=>?_,?_⟩
     ·rw [e,f05.at hys0] at g5;cases g5
     ·rw [g5,←CV z o1.toNat k %[0|8],show (o1+1).toNat=o1.toNat+1 by omega];simp
    ·intro D ws H10 hD e10 hD10 al10;rw [jZ] at al10;have hL10:=e10.at h9;have hDL:D ≠ L:=λ e=>by rw [e,h9] at hD;cases hD
     have al9':=al9.imp λ _ _ z=>dR.ext z e10;have hfl:=AK fs (λ pl=>wl.map λ k=>pl.set o1.toNat k) m.toNat (λ z _=>by rw [Nz];exact hwll ()) (j+1);rw [hst9,NP,Nz] at hfl;have hzz:zs'.length+ws.length<=sizeLine:=aq (by rw [al9.1,al10.1];omega);clear hst9 h9;ac_rfl;refine⟨_,_,rfl,?_,rfl,?_⟩
     ·exact(e9.trans e10).put hL
     ·refine qY (al9'.imp λ _ _ t=>t.upd hL10) ⟨by rw [Nz,al10.1],λ i a y ha hy=>?_⟩;rw [NL] at ha;obtain⟨k,hk,rfl⟩:=NI.mp ha;obtain⟨q',h1,_,h3⟩:=al10.2 i k y hk hy;exact⟨q',h1,by rw [ag (λ e=>by rw [e,hL10] at h3;cases h3)];exact h3⟩
   ·rintro _ H9 ⟨v7,zs',rfl,e9,h9,al9⟩;rw [al7.1,OE] at al9;ac_rfl;exact⟨L,_,_,_,_,_,rfl,e57.trans e9,zs',h9,by rw [hW ()];exact al9⟩
  ·rintro _ H5 ⟨r,v3,v4,v5,v6,v7,rfl,e5,tt⟩;rw [al.1,Nz,OE] at tt;ac_rfl;exact kk r H5 e5 tt
theorem JG{xs:List V}{i:Int}{k:V->Prop}(P:V->Prop)(h0:0<=i)(h1:i < xs.length)(ha:∀ v∈xs,P v)(hk:∀ v,P v->k v):aF (atI xs i) k:=vm h0 h1 λ v hv=>hk v (ha v hv)
def SzK(ms:List Int):Prop:=(ms.length<=3/\(∀ m∈ms,1<=m/\m<=6)/\ae ms<=60)\/(ms.length<=8/\(∀ m∈ms,1<=m/\m<=3)/\ae ms<=54)
def SzI(ms:List Int)(i:Nat):Prop:=ms.length=i/\ae ms<=36/\∀ m∈ms,1<=m/\m<=6
def BZ(K:W.Frag)(a:Addr)(ns:List Int):Sp:=λ vs H Q E=>∃ (p:Addr),vs=[.ref p,.int 36,.bl false]/\(p=a/\SqL K H a (ns.map V.int)/\ns.length<=63/\∀ (ms:List Int) (r:Addr) (H':Hp),Ext H H'->H' r=some (.lst (ms.map V.int))->SzK ms->ms.length<=3->Q (.ref r) H')
theorem Fo(K:W.Frag)(a:Addr)(ns:List Int)(p:Addr)(H:Hp)(Q:VK)(E:XK):BZ K a ns [.ref p,.int 36,.bl false] H Q E=(p=a/\SqL K H a (ns.map V.int)/\ns.length<=63/\∀ (ms:List Int) (r:Addr) (H':Hp),Ext H H'->H' r=some (.lst (ms.map V.int))->SzK ms->ms.length<=3->Q (.ref r) H'):=lJ (f:=λ (p:Addr)=>[.ref p,.int 36,.bl false]) (λ _ _ h=>by cases h;exact rfl) p
theorem ER(K:W.Frag)(a:Addr)(ns:List Int){vs:List V}{H:Hp}{Q:VK}{E:XK}(h:BZ K a ns vs H Q E):vs.length=3:=lK h λ _=>rfl
theorem mM(T:Tx K mg t)(a:Addr)(ns:List Int):cq P w K mg base CX0 2 t.a__law_sizes t.d__law_sizes ["_law_script", "_law_most_here", "_law_wide"] (BZ K a ns):=by
 have G__law_draw:=%[dY|38] a ns;have G__law_digits:=%[dg|38];refine T.F__law_sizes.ok aO (λ vs H Q E h=>ER _ _ _ h) (λ c A o s H vs Q E hr h=>?_)
 ·obtain⟨_,rfl,rfl,hS,hl,kk⟩:=h;rename_i a;refine⟨_,%[%[3,aO,%[fN,%[%[%[0|2],%[%[0|2],%[%[0|2],%[%[0|2],%[%[0|2],%[%[0|2],%[%[0|2],%[%[0|2]|1]|1]|1]|1]|1]|1]|1]|1]|17],%[_law_draw,%[%[0|0],%[%[0|2],%[%[0|2]|1]|1]|1]|3],(λ _ _=>rfl)|16]|4],%[%[4,aO,%[%[%[0|2],%[%[0|2],%[%[0|2],%[%[0|2],%[%[0|2],%[%[0|2],%[%[0|2],%[%[0|2]|1]|1]|1]|1]|1]|1]|1]|1]|17]|4],%[%[(PW.pt (@uD _ _ _ _ _ _ _ (@eK _ _ _ %[2|0] (by intros;rfl)) (@pU _ _ _ _ %[(dF hr.units),%[_law_draw,%[%[0|0],%[%[0|2],%[%[0|2]|1]|1]|1]|3],%[0|2],(aA _)|14]))),%[%[3,aO,%[cp,%[0|2],%[_law_draw,%[%[0|0],%[%[0|2],%[%[0|2]|1]|1]|1]|3]|11]|4],%[%[4,aO,%[%[%[0|2],%[%[0|2],%[%[0|2],%[%[0|2],%[%[0|2],%[%[0|2],%[%[0|2],%[%[0|2]|1]|1]|1]|1]|1]|1]|1]|1]|17]|4]|10]|9],(@aE _)|19],%[%[5,aO,%[(@dh _)|17]|4],%[%[6,aO,%[0|2]|4],%[%[NW,rfl,%[%[_law_digits,%[%[_law_draw,%[%[0|0],%[%[0|2],%[%[0|2]|1]|1]|1]|3],%[%[0|2],%[%[3|0]|1]|1]|1]|3]|18],%[7,aO|5],%[%[8,aO,%[fN,%[4|0],%[7|0],(λ _ _=>rfl)|16]|4],%[%[%[pA,%[dU,%[6|0],%[8|0]|11],%[1|0],(aA _)|14],%[%[8,aO,%[0|2]|4]|10],(@aE _)|19],%[%[6,aO,%[dU,%[6|0],%[8|0]|11]|4],%[%[%[Od,O6,O5,dJ,%[5|0],%[%[8|0]|1],∅,∅,∅,∅,∅|33],∅|23]|10]|9]|9]|9],(by intros;rfl)|20],%[%[%[5|0]|12]|10]|9]|9]|9]|9]|9]|9],?_⟩;rw [show aH ["_law_script", "_law_most_here", "_law_wide", "_law_many", "_law_menu", "_law_sizes_here", "_law_count", "_law_digit", "_law_size"] [.ref a,.int 36,.bl false]=[some (.ref a),some (.int 36),some (.bl false),none,none,none,none,none,none] from rfl];clear G__law_draw G__law_digits;exists kk;ac_rfl;intro q1 H1 hq1 e1 h1;have hS1:=e1.2 K a _ hS;clear hq1;ac_rfl;rw [cb];refine⟨hS1,hl,⟨by decide,by decide⟩,by decide,λ d d0 d1=>?_⟩;ac_rfl;refine gv (λ j=>0<=j/\j<=3) d0 d1 (λ v hv=>?_) λ mn hmn=>?_
  ·simp only [NR,NN,Ob] at hv
   rcases hv with rfl|rfl|rfl|rfl|rfl|rfl|rfl|rfl<;>exact⟨_,rfl,by decide⟩
  clear h1;ac_rfl;intro q2 H2 hq2 e2 h2;have hS2:=e2.2 K a _ hS1;clear hq2;have hmu:(mn<=3/\∀ m∈([2,3,4,2,5,1,3,6]:List Int),1<=m/\m<=6):=⟨hmn.2,by decide⟩;obtain⟨mn0,mn3⟩:=hmn;obtain⟨mu,hmue⟩:∃ mu:List Int,mu=[2,3,4,2,5,1,3,6]:=⟨_,rfl⟩;have h2':H2 q2=some (.lst (mu.map V.int)):=by rw [hmue];exact h2
  have hml:mu.length=8:=by rw [hmue];rfl
  rw [←hmue] at hmu;have mn8:mn<=8:=by omega
  clear h2 hmue;ac_rfl;intro r H4 hr4 e4 h4;have hS4:=e4.2 K a _ hS2;have h3_4:=e4.at h2';clear h2';ac_rfl;rw [cb];refine⟨hS4,hl,⟨by decide,by decide⟩,by decide,λ c c0 c1=>?_⟩;ac_rfl;rw [gZ];refine⟨by decide,by decide,mn0,mn8,λ ds dr H5 hd5 e5 h5 hdl hdb=>?_⟩;have h4_5:=e5.at h4;have h3_5:=e5.at h3_4;have nqr:q2 ≠ r:=λ z=>by rw [z,h4_5] at h3_5;have:=OM List.length (HO.lst.inj (NX h3_5));rw [Nz,hml] at this;simp at this
  have ndr:dr ≠ r:=λ z=>by rw [z,h4] at hd5;cases hd5
  have e05:=e1.trans (e2.trans (e4.trans e5));have hr0:H r=none:=(e1.trans e2).free hr4;exists hdl;exists hml;exists hmu;exists hdb;clear h4 h3_4 hd5 e1 e2 e4 e5 hS1 hS2 hS4;ac_rfl;refine cR (xs:=ds.map V.int) (λ i σ H'=>∃ (ms:List Int) (v7 v8:Option V),σ=[some (.ref a),some (.int 36),some (.bl false),some (.int mn),some (.ref q2),some (.ref r),some (.int (ae ms)),v7,v8]/\Ext H H'/\H' q2=some (.lst (mu.map V.int))/\H' dr=some (.lst (ds.map V.int))/\H' r=some (.lst (ms.map V.int))/\SzI ms i) ⟨[],none,none,rfl,e05,h3_5,h5,h4_5,⟨rfl,by decide,λ _ h=>absurd h NN⟩⟩ (λ i σ H' _ ⟨_,_,_,_,_,_,h,_⟩=>h) ?_ ?_
  ·rintro i y _ H6 hi ⟨ms,v7,v8,rfl,e6,q6,d6,h6,⟨hmsl,hms60,hm6⟩⟩;rw [NL] at hi;obtain⟨g,hg,rfl⟩:=NI.mp hi;obtain⟨g0,g8⟩:=hdb () g (N6 hg);have hil:i < ds.length:=(Ny.mp hg).1;have hat:=gP (vals:=mu) g0 (by rw [hml ()];omega)
   have hin:mu.getD g.toNat 0∈mu:=by
    have:g.toNat < mu.length:=by rw [hml ()];omega
    rw [List.getD,Nw this];exact Pa this
   have hx6:1<=mu.getD g.toNat 0/\mu.getD g.toNat 0<=6:=(hmu ()).2 _ hin;generalize mu.getD g.toNat 0=z at hat hx6;have p1:=ba ms λ m hm=>(hm6 m hm).1;have cm:lN (ae ms) z:=.inr ⟨by omega,by omega⟩;have hll:ms.length < sizeLine:=fQ (by have:=hdl ();omega);have hpa:∀ s:Int,ae (ms++[s])=ae ms * s:=λ s=>by rw [bp];show _ * (s * 1)=_;rw [QK]
   have fin:∀ s:Int,1<=s->s<=6->ae ms * s<=36->SzI (ms++[s]) (i+1):=by
    intro s s1 s6 hs;refine⟨by rw [NP,hmsl];rfl,by rw [hpa];exact hs,λ m hm=>?_⟩
    rcases N2.mp hm with h|h
    ·exact hm6 m h
    ·rw [NC.mp h];exact⟨s1,s6⟩
   exists fin;exists hpa;exists hx6;exists hm6;exists hmsl;clear hi hg hr4 h5 h4_5 h3_5 e05 hS p1 hil g0 g8 c0 c1 mn0 mn8 d0 d1 hin
   by_cases hbig:36 < ae ms * z
   ·have cm1:lN (ae ms) 1:=.inr ⟨by decide,by decide⟩;have f1:=λ (_:Unit)=>fin () 1 ⋯ ⋯ (by rw [QK];exact hms60);clear fin;simp! only [↓aI];refine⟨ms++[1],_,_,by rw [hpa ()],e6.put hr0,by rw [ag nqr];exact q6,by rw [ag ndr];exact d6,by rw [Oy];rfl,f1 ()⟩
   ·have hle:ae ms * z<=36:=by omega
    have f1:=λ (_:Unit)=>fin () z (hx6 ()).1 (hx6 ()).2 hle;clear fin;simp! only [↓aI];refine⟨ms++[z],_,_,by rw [hpa ()],e6.put hr0,by rw [ag nqr];exact q6,by rw [ag ndr];exact d6,by rw [Oy];rfl,f1 ()⟩
  ·rintro _ H6 ⟨ms,v7,v8,rfl,e6,q6,d6,h6,⟨hmsl,hms60,hm6⟩⟩;rw [Nz] at hmsl;have hl3:ms.length<=3:=by have:=hdl ();have:=(hmu ()).1;omega
   have hsz:SzK ms:=.inl ⟨hl3,hm6,by omega⟩;have k':=kk () ms r H6 e6 h6 hsz hl3;clear kk hsz;ac_rfl
theorem kS{l1 l2:List Int}(h:l1.Perm l2):ae l1=ae l2:=by
 induction h with
 | nil=>rfl
 | cons x _ ih=>show x * _=x * _;rw [ih]
 | swap x y l=>show y * (x * ae l)=x * (y * ae l);rw [←OU,←OU,ON y x]
 | trans _ _ i1 i2=>exact i1.trans i2
def gL(ms:List Int)(v:Int):Int:=ms.getD v.toNat 0
theorem rp(ms:List Int):((List.range ms.length).map λ (i:Nat)=>(i:Int)).map (gL ms)=ms:=by
 rw [OA];apply Rw;intro i;rw [NL]
 by_cases hi:i < ms.length
 ·rw [List.getElem?_range hi,Nw hi]
  show some (ms.getD ((i:Int)).toNat 0)=_
  rw [NJ,List.getD,Nw hi];rfl
 ·rw [O1 (by rw [Oj];omega),O1 %[0|8]];rfl
theorem mf:∀ (ms ps:List Int) (x:Nat) (p:Int),ps.length=ms.length->x < ms.length->ps.getD x 0=0->er ms (ps.set x p)=er ms ps+(ms.getD x 0 - 1) * (p.natAbs:Int)
 | [],_,_,_,_,h,_=>by simp at h
 | _::_,[],_,_,h,_,_=>by simp at h
 | m::ms,q::ps,0,p,hl,hx,h0=>by
  have h0':q=0:=h0;subst h0'
  show (m - 1) * (p.natAbs:Int)+er ms ps=(m - 1) * ((0:Int).natAbs:Int)+er ms ps+(m - 1) * (p.natAbs:Int)
  rw [show (((0:Int).natAbs:Nat):Int)=0 from rfl,Int.mul_zero];omega
 | m::ms,q::ps,x+1,p,hl,hx,h0=>by
  have ih:=mf ms ps x p (by simpa using hl) (by simpa using hx) (by simpa using h0)
  show (m - 1) * (q.natAbs:Int)+er ms (ps.set x p)=(m - 1) * (q.natAbs:Int)+er ms ps+(ms.getD x 0 - 1) * (p.natAbs:Int)
  rw [ih];omega
theorem jb:∀ ms:List Int,er ms (List.replicate ms.length 0)=0
 | []=>rfl
 | m::ms=>by
  show (m - 1) * (((0:Int).natAbs:Nat):Int)+er ms (List.replicate ms.length 0)=0
  rw [jb ms,show (((0:Int).natAbs:Nat):Int)=0 from rfl,Int.mul_zero];rfl
structure gj(ms ls ps:List Int)(u B:Int):Prop where
 len:ps.length=ms.length
 sub:∀ x∈ls,0<=x/\x < (ms.length:Int)
 nd:ls.Nodup
 lle:ls.length<=ms.length
 zer:∀ x∈ls,ps.getD x.toNat 0=0
 u1:1<=u
 c:∃ c:Int,1<=c/\ae (ls.map (gL ms)) * c=ae ms
 ub:u * ae (ls.map (gL ms))<=(2+((ms.length:Int) - ls.length)) * ae ms
 sp:er ms ps<=u
 pb:∀ p∈ps,(p.natAbs:Int)<=B
theorem gj.one{ms ls ps:List Int}{u B:Int}(h:gj ms ls ps u B)(h1:∀ m∈ms,(1:Int)<=m):∀ m∈ls.map (gL ms),(1:Int)<=m:=λ m hm=>by
 obtain⟨x,hx,rfl⟩:=ND.mp hm;have:=h.sub x hx;exact h1 _ (fk this.1 this.2)
theorem gj.ule{ms ls ps:List Int}{u B:Int}(h:gj ms ls ps u B)(h1:∀ m∈ms,(1:Int)<=m):u<=(2+((ms.length:Int) - ls.length)) * ae ms:=by
 have q1:=ba _ (h.one h1);have:=Ot q1 (show 0<=u by have:=h.u1;omega);have:=h.ub;omega
theorem gj.step{ms ls es ps:List Int}{u B x b p:Int}(h:gj ms ls ps u B)(h1:∀ m∈ms,(1:Int)<=m)(hp:(x::es).Perm ls)(hb0:0<=b)(hb1:b<=1)(hpu:(p.natAbs:Int)=u)(hB:((ms.length:Int)+1) * ae ms<=B):gj ms es (ps.set x.toNat p) (u * gL ms x+b) B:=by
 have hxm:x∈ls:=hp.mem_iff.mp NK;have hx:=h.sub x hxm;have hnd:(x::es).Nodup:=hp.nodup_iff.mpr h.nd;have hll:es.length+1=ls.length:=by rw [←hp.length_eq];rfl
 have hsub:∀ y∈es,y∈ls:=λ y hy=>hp.mem_iff.mp (NH _ hy)
 have hq:ae (ls.map (gL ms))=gL ms x * ae (es.map (gL ms)):=by
  rw [←kS (hp.map (gL ms))];rfl
 have s1:1<=gL ms x:=h1 _ (fk hx.1 hx.2)
 have q1:1<=ae (es.map (gL ms)):=ba _ λ m hm=>by
  obtain⟨y,hy,rfl⟩:=ND.mp hm;have:=h.sub y (hsub y hy);exact h1 _ (fk this.1 this.2)
 obtain⟨c,c1,hc⟩:=h.c;have u1:=h.u1
 have us:u<=u * gL ms x:=by
  have:=Ot s1 (show 0<=u by omega);omega
 have hle:=h.lle;have hP:=ba ms h1;refine⟨by rw [QD];exact h.len,λ y hy=>h.sub y (hsub y hy),(O8.mp hnd).2,by omega,λ y hy=>?_,by omega,⟨c * gL ms x,?_,?_⟩,?_,?_,λ q hq=>?_⟩
 ·have hyx:y ≠ x:=λ e=>(O8.mp hnd).1 (e ▸ hy);have hy0:=h.sub y (hsub y hy);have:=h.zer y (hsub y hy);rw [List.getD,Q7 %[0|8]];exact this
 ·have:=Pk c1 s1 ⋯ %[0|8];omega
 ·rw [←hc,hq,ON c,ON (gL ms x) (ae _),OU]
 ·have e1:(u * gL ms x+b) * ae (es.map (gL ms))=u * ae (ls.map (gL ms))+b * ae (es.map (gL ms)):=by rw [hq,Pl,OU]
  have hQ:ae (es.map (gL ms))<=ae ms:=by
   have w1:=NV s1 (show 0<=ae (es.map (gL ms)) by omega);have w2:=Ot c1 (show 0<=gL ms x * ae (es.map (gL ms)) by omega);rw [hq] at hc;omega
  have hbQ:=NV hb1 (show 0<=ae (es.map (gL ms)) by omega);have hub:=h.ub
  have e2:(2+((ms.length:Int) - (es.length:Int))) * ae ms=(2+((ms.length:Int) - (ls.length:Int))) * ae ms+ae ms:=by
   rw [show 2+((ms.length:Int) - (es.length:Int))=2+((ms.length:Int) - (ls.length:Int))+1 by omega,Pl (2+((ms.length:Int) - (ls.length:Int))) 1,Rh]
  rw [e1,e2];omega
 ·have hz:=h.zer x hxm;rw [mf ms ps x.toNat p h.len %[0|8] hz,hpu];have hsp:=h.sp
  have e:(ms.getD x.toNat 0 - 1) * u=u * gL ms x - u:=by
   show (gL ms x - 1) * u=_
   rw [Int.sub_mul,Rh,ON]
  rw [e];omega
 ·rcases List.mem_or_eq_of_mem_set hq with hq|rfl
  ·exact h.pb q hq
  ·rw [hpu];have hule:=h.ule h1;have:(2+((ms.length:Int) - (ls.length:Int))) * ae ms<=((ms.length:Int)+1) * ae ms:=NV %[0|8] %[0|8];omega
theorem gj.init{ms:List Int}{u B:Int}(h1:∀ m∈ms,(1:Int)<=m)(u1:1<=u)(u2:u<=2)(hB:0<=B):gj ms ((List.range ms.length).map λ (i:Nat)=>(i:Int)) (List.replicate ms.length 0) u B:=by
 have hP:=ba ms h1;refine⟨O9,λ x hx=>?_,?_,by rw [Nz,Oj];exact NF _,λ x hx=>?_,u1,⟨1,by decide,by rw [rp,QK]⟩,?_,by rw [jb];omega,λ p hp=>?_⟩
 ·obtain⟨i,hi,rfl⟩:=ND.mp hx;have:=Oi.mp hi;omega
 ·refine List.Pairwise.map _ (λ a b hab=>?_) QQ;omega
 ·rw [List.getD,P5]
  split<;>rfl
 ·rw [rp,Nz,Oj];have:=NV u2 (show 0<=ae ms by omega);rw [show 2+((ms.length:Int) - (ms.length:Int))=2 by omega];exact this
 ·rw [List.eq_of_mem_replicate hp];exact hB
def PcK(ms ps:List Int):Prop:=ps.length=ms.length/\∃ S B:Int,er ms ps<=S/\(∀ p∈ps,(p.natAbs:Int)<=B)/\6<=B/\0<=S/\S+jY ms * (B+2)<=3960
theorem SzK.pos{ms:List Int}(h:SzK ms):(∀ m∈ms,1<=m/\m<=6)/\ms.length<=8/\ae ms<=60:=by
 rcases h with h|h
 ·exact⟨h.2.1,by omega,h.2.2⟩
 ·exact⟨λ m hm=>by have:=h.2.1 m hm;omega,h.1,by omega⟩
theorem SzK.bounds{ms:List Int}(h:SzK ms):∃ B:Int,((ms.length:Int)+1) * ae ms<=B/\6<=B/\(2+(ms.length:Int)) * ae ms+jY ms * (B+2)<=3960/\0<=jY ms/\jY ms<=15:=by
 have h1:∀ m∈ms,(1:Int)<=m:=λ m hm=>(h.pos.1 m hm).1;have hP:=ba ms h1;have nn:=u6 h1
 rcases h with ⟨h3,h6,hp⟩|⟨h8,h3,hp⟩
 ·have t:=u7 (k:=5) ⋯ ms h6;have hl:(ms.length:Int)<=3:=by omega
  have m1:=Pk (show (ms.length:Int)+1<=4 by omega) hp %[0|8] ⋯;have m2:=Pk (show 2+(ms.length:Int)<=5 by omega) hp %[0|8] ⋯;exact⟨240,by omega,by decide,by omega,nn,by omega⟩
 ·have t:=vZ h3 %[0|8];have hl:(ms.length:Int)<=8:=by omega
  have m1:=Pk (show (ms.length:Int)+1<=9 by omega) hp %[0|8] ⋯;have m2:=Pk (show 2+(ms.length:Int)<=10 by omega) hp %[0|8] ⋯;exact⟨486,by omega,by decide,by omega,nn,by omega⟩
theorem gj.done{ms ps:List Int}{u B:Int}(h:gj ms [] ps u B)(h1:∀ m∈ms,(1:Int)<=m)(hB:6<=B)(hb:(2+(ms.length:Int)) * ae ms+jY ms * (B+2)<=3960):PcK ms ps:=by
 have hu:=h.ule h1;have hP:=ba ms h1;rw [show 2+((ms.length:Int) - (([]:List Int).length:Int))=2+(ms.length:Int) by simp] at hu;have:=PM (show 0<=2+(ms.length:Int) by omega) (show 0<=ae ms by omega);exact⟨h.len,(2+(ms.length:Int)) * ae ms,B,by have:=h.sp;omega,h.pb,hB,this,hb⟩
def BD:List Int->List Int->Prop
 | [],[]=>True
 | s::ms,d::ds=>(d.natAbs:Int)<=s - 1/\BD ms ds
 | _,_=>False
theorem BD.len:∀ {ms d:List Int},BD ms d->d.length=ms.length
 | [],[],_=>rfl
 | [],_::_,h=>h.elim
 | _::_,[],h=>h.elim
 | _::ms,_::d,h=>OM (· + 1) (BD.len h.2)
theorem dW(x p:Int)(xs ps:List Int):kz (x::xs) (p::ps)=x * p+kz xs ps:=by
 unfold kz;rw [List.zipWith_cons_cons,sum_cons]
theorem rR:∀ {ms d ps:List Int},BD ms d->ps.length=ms.length->((kz d ps).natAbs:Int)<=er ms ps
 | [],[],[],_,_=>by decide
 | [],[],_::_,_,h=>by simp at h
 | [],_::_,_,h,_=>h.elim
 | _::_,[],_,h,_=>h.elim
 | _::_,_::_,[],_,h=>by simp at h
 | s::ms,x::d,p::ps,h,hl=>by
  have ih:=rR h.2 (ps:=ps) (by simpa using hl);rw [dW]
  show _<=(s - 1) * (p.natAbs:Int)+er ms ps
  have h1:((x * p).natAbs:Int)<=(s - 1) * (p.natAbs:Int):=by
   rw [Int.natAbs_mul,Qw];exact NV h.1 %[0|8]
  omega
theorem vB:∀ {d ps:List Int}{a:Nat}{p:Int},d.length=ps.length->a < ps.length->ps.getD a 0=0->kz d (ps.set a p)=kz d ps+d.getD a 0 * p
 | [],[],_,_,_,h,_=>by simp at h
 | [],_::_,_,_,h,_,_=>by simp at h
 | _::_,[],_,_,h,_,_=>by simp at h
 | x::d,q::ps,0,p,hl,ha,h0=>by
  have h0':q=0:=h0;subst h0';rw [List.set_cons_zero,dW,dW,Int.mul_zero]
  show x * p+kz d ps=0+kz d ps+x * p
  omega
 | x::d,q::ps,a+1,p,hl,ha,h0=>by
  have ih:=vB (d:=d) (ps:=ps) (a:=a) (p:=p) (by simpa using hl) (by simpa using ha) (by simpa using h0);rw [List.set_cons_succ,dW,dW,ih]
  show x * q+(kz d ps+d.getD a 0 * p)=x * q+kz d ps+d.getD a 0 * p
  omega
structure j8(ms ls ps:List Int)(u:Int):Prop where
 sps:er ms ps < u
 ij:∀ d,BD ms d->kz d ps=0->∀ a:Nat,a < ms.length->¬ (a:Int)∈ls->d.getD a 0=0
theorem j8.init{ms:List Int}{u:Int}(u1:1<=u):j8 ms ((List.range ms.length).map λ (i:Nat)=>(i:Int)) (List.replicate ms.length 0) u:=
 ⟨by rw [jb];omega,λ d _ _ a ha hn=>absurd (ND.mpr ⟨a,Oi.mpr ha,rfl⟩) hn⟩
theorem j8.step{ms ls es ps:List Int}{u B x b p:Int}(h:gj ms ls ps u B)(hJ:j8 ms ls ps u)(h1:∀ m∈ms,(1:Int)<=m)(hp:(x::es).Perm ls)(hb0:0<=b)(hpu:(p.natAbs:Int)=u):j8 ms es (ps.set x.toNat p) (u * gL ms x+b):=by
 have hxm:x∈ls:=hp.mem_iff.mp NK;have hx:=h.sub x hxm;have hz:=h.zer x hxm;have hl:=h.len;have hs:=hJ.sps;have hu:=h.u1;refine⟨?_,λ d hd h0 a ha hn=>?_⟩
 ·rw [mf ms ps x.toNat p hl %[0|8] hz,hpu]
  have e:(ms.getD x.toNat 0 - 1) * u=u * gL ms x - u:=by
   show (gL ms x - 1) * u=_
   rw [Int.sub_mul,Rh,ON]
  rw [e];omega
 ·rw [vB (by rw [hd.len,hl]) %[0|8] hz] at h0;have hb:=rR hd hl
  have hdx:d.getD x.toNat 0=0:=by
   apply QE;intro hne
   have:u<=((d.getD x.toNat 0 * p).natAbs:Int):=by
    rw [Int.natAbs_mul,Qw,hpu];have:=NV (show (1:Int)<=((d.getD x.toNat 0).natAbs:Int) by omega) (show 0<=u by omega);omega
   omega
  by_cases hax:(a:Int)=x
  ·rw [←hax,NJ] at hdx;exact hdx
  ·rw [hdx,Qn] at h0;refine hJ.ij d hd %[0|8] a ha λ hm=>?_
   rcases NR.mp (hp.mem_iff.mpr hm) with e|e
   ·exact hax e
   ·exact hn e
def uf(ms ps:List Int):Prop:=∀ d,BD ms d->kz d ps=0->∀ a:Nat,a < ms.length->d.getD a 0=0
theorem j8.done{ms ps:List Int}{u:Int}(h:j8 ms [] ps u):uf ms ps:=λ d hd h0 a ha=>h.ij d hd h0 a ha (λ z=>by cases z)
theorem vA:∀ {x y ps:List Int},x.length=ps.length->y.length=ps.length->kz (List.zipWith (λ a b=>a - b) x y) ps=kz x ps - kz y ps
 | [],[],[],_,_=>rfl
 | _::_,_,[],h,_=>by simp at h
 | _,_::_,[],_,h=>by simp at h
 | [],_,_::_,h,_=>by simp at h
 | _,[],_::_,_,h=>by simp at h
 | a::x,b::y,p::ps,hx,hy=>by
  have ih:=vA (x:=x) (y:=y) (ps:=ps) (by simpa using hx) (by simpa using hy);rw [QT,dW,dW,dW,ih,Int.sub_mul];omega
theorem BD.sub:∀ {ms x y:List Int},InR ms x->InR ms y->BD ms (List.zipWith (λ a b=>a - b) x y)
 | [],[],[],_,_=>trivial
 | [],_::_,_,h,_=>h.elim
 | [],_,_::_,_,h=>h.elim
 | _::_,[],_,h,_=>h.elim
 | _::_,_,[],_,h=>h.elim
 | m::ms,a::x,b::y,hx,hy=>⟨by have:=hx.1;have:=hy.1;show ((a - b).natAbs:Int)<=m - 1;omega,BD.sub hx.2 hy.2⟩
theorem Cv{ms ps:List Int}(hl:ps.length=ms.length):(ms.zip ps).map (λ a=>a.2)=ps:=by
 rw [show (λ a:Int × Int=>a.2)=Prod.snd from rfl,List.map_snd_zip %[0|8]]
theorem rf{ms ps:List Int}(hl:ps.length=ms.length):(ms.zip ps).map (λ a=>a.1)=ms:=by
 rw [show (λ a:Int × Int=>a.1)=Prod.fst from rfl,RG %[0|8]]
theorem uf.nodup{ms ps:List Int}(h:uf ms ps)(hs:∀ n∈ms,1<=n/\n<=1000000000)(hl:ps.length=ms.length)(f:Int):(af f (ms.zip ps)).Nodup:=by
 have one:∀ a∈ms.zip ps,(1:Int)<=a.1:=λ a ha=>(hs a.1 (of_mem_zip (show (a.1,a.2)∈ms.zip ps from ha)).1).1;have hlen:=aJ f (ms.zip ps) one;rw [rf hl] at hlen;unfold List.Nodup;rw [List.pairwise_iff_getElem];intro i j hi hj hij e;have a:=lE one (getElem?_eq_getElem hi);have b:=lE one (getElem?_eq_getElem hj);rw [rf hl,Cv hl] at a b;rw [a,b] at e;have zi:InR ms (ao ms (i:Int)):=InR.split ms i hs;have zj:InR ms (ao ms (j:Int)):=InR.split ms j hs;have hd:=vA (x:=ao ms (i:Int)) (y:=ao ms (j:Int)) (ps:=ps) (by rw [bg,hl]) (by rw [bg,hl]);have hall:=h _ (BD.sub zi zj) %[0|8]
 have heq:ao ms (i:Int)=ao ms (j:Int):=by
  refine QR (by rw [bg,bg]) λ n h1 h2=>?_;have hn:n < ms.length:=by rw [bg] at h1;exact h1
  have:=hall n hn;rw [Ol,List.getElem?_zipWith,Nw h1,Nw h2] at this;have:(ao ms (i:Int))[n] - (ao ms (j:Int))[n]=0:=this;omega
 have:=nM (λ n hn=>(hs n hn).1) %[0|8] %[0|8] %[0|8] %[0|8] heq;omega
def uk(K:W.Frag)(a:Addr)(ns:List Int):Sp:=λ vs H Q E=>∃ (p:Addr) (l:Addr),vs=[.ref p,.ref l]/\(p=a/\SqL K H a (ns.map V.int)/\ns.length<=63/\∃ ms:List Int,H l=some (.lst (ms.map V.int))/\SzK ms/\∀ (ps:List Int) (r:Addr) (H':Hp),Ext H H'->H' r=some (.lst (ps.map V.int))->PcK ms ps->uf ms ps->Q (.ref r) H')
theorem AY(K:W.Frag)(a:Addr)(ns:List Int)(p:Addr)(l:Addr)(H:Hp)(Q:VK)(E:XK):uk K a ns [.ref p,.ref l] H Q E=(p=a/\SqL K H a (ns.map V.int)/\ns.length<=63/\∃ ms:List Int,H l=some (.lst (ms.map V.int))/\SzK ms/\∀ (ps:List Int) (r:Addr) (H':Hp),Ext H H'->H' r=some (.lst (ps.map V.int))->PcK ms ps->uf ms ps->Q (.ref r) H'):=jU (f:=λ (p:Addr) (l:Addr)=>[.ref p,.ref l]) (λ _ _ _ _ h=>by cases h;exact⟨rfl,rfl⟩) p l
theorem Ac(K:W.Frag)(a:Addr)(ns:List Int){vs:List V}{H:Hp}{Q:VK}{E:XK}(h:uk K a ns vs H Q E):vs.length=2:=jV h λ _ _=>rfl
theorem oQ(T:Tx K mg t)(a:Addr)(ns:List Int):cq P w K mg base CX0 2 t.a__law_once t.d__law_once ["_law_script", "_law_sizes_here"] (uk K a ns):=by
 have G__law_draw:=%[dY|38] a ns;have G__law_digits:=%[dg|38];refine T.F__law_once.ok bI (λ vs H Q E h=>Ac _ _ _ h) (λ c A o s H vs Q E hr h=>?_)
 ·obtain⟨_,l,rfl,rfl,hS,hl,ms,hm,hsz,kk⟩:=h;rename_i a;refine⟨_,%[%[2,bI,%[cp,%[0|2],%[_law_draw,%[%[0|0],%[%[0|2],%[%[0|2]|1]|1]|1]|3]|11]|4],%[%[3,bI,%[_law_draw,%[%[0|0],%[%[0|2],%[%[0|2]|1]|1]|1]|3]|4],%[%[4,bI,%[_law_digits,%[%[_law_draw,%[%[0|0],%[%[0|2],%[%[0|2]|1]|1]|1]|3],%[%[0|2],%[%[len,aG,%[%[1|0]|1]|6]|1]|1]|1]|3]|4],%[%[5,bI,%[vp,%[%[%[0|2]|1]|17],%[len,aG,%[%[1|0]|1]|6]|11]|4],%[%[6,bI,(@iq _ _ _ _ _ _ _ rfl ∅ T.z_list ∅ T.z_range %[%[len,aG,%[%[1|0]|1]|6]|1] ∅ ∅ ∅)|4],%[(@rB _ _ _ _ _ _ NW %[(kF hr.units),%[6|0],%[(@dh _)|17],(aA _)|14] %[%[7,bI,%[Od,PySem.F.slot_list_pop,PySem.F.type_list_pop,wD,%[6|0],%[%[nz,%[3|0],%[len,aG,%[%[6|0]|1]|6]|11]|1],∅,∅,∅,∅,∅|33]|4],%[%[3,bI,%[iX,%[3|0],%[cp,%[len,aG,%[%[6|0]|1]|6],%[0|2]|11]|11]|4],%[(@Bs _ _ _ _ _ _ %[dU,%[2|0],%[fN,%[%[%[0|2],%[(@px _ _ _ _ _ _ gc %[0|2]),%[%[0|2],%[(@px _ _ _ _ _ _ gc %[0|2])|1]|1]|1]|1]|17],%[fN,%[4|0],%[7|0],(λ _ _=>rfl)|16],(λ _ _=>rfl)|16]|11] (@Hr _ _ _ _ _ _ _ %[5|0] %[7|0] yT (by intros;rfl)) ∅ ∅ ∅),%[%[2,bI,%[cp,%[dU,%[2|0],%[fN,%[1|0],%[7|0],(λ _ _=>rfl)|16]|11],%[iX,%[fN,%[4|0],%[7|0],(λ _ _=>rfl)|16],%[0|2]|11]|11]|4]|10]|9]|9]|9]),%[%[%[5|0]|12]|10]|9]|9]|9]|9]|9]|9],?_⟩;rw [show aH ["_law_script", "_law_sizes_here", "_law_unit", "_law_turn", "_law_signs", "_law_paces", "_law_left", "_law_axis"] [.ref a,.ref l]=[some (.ref a),some (.ref l),none,none,none,none,none,none] from rfl];clear G__law_draw G__law_digits;have h8:=hsz.pos.2.1;have one:∀ m∈ms,(1:Int)<=m:=λ m hm=>(hsz.pos.1 m hm).1;have m6:∀ m∈ms,m<=6:=λ m hm=>(hsz.pos.1 m hm).2;have p60:=hsz.pos.2.2;obtain⟨B,hB1,hB6,hBb,_,_⟩:=hsz.bounds;exists kk;exists one;exists m6;exists hB1;exists hBb;have n8:(ms.length:Int)<=8:=by omega
  ac_rfl;rw [cb];refine⟨hS,hl,⟨by decide,by decide⟩,by decide,λ u0 u00 u01=>?_⟩;ac_rfl;rw [cb];refine⟨hS,hl,⟨by decide,by decide⟩,by decide,λ tn t0 t1=>?_⟩;ac_rfl;rw [cb];refine⟨hS,hl,⟨by decide,by decide⟩,by decide,λ c c0 c1=>?_⟩;ac_rfl;rw [gZ];refine⟨by decide,by decide,by omega,n8,λ ds d H1 hd1 e1 h1 hdl hdb=>?_⟩;have hm1:=e1.at hm;have hle:((List.replicate ms.length [V.int 0]).flatten).length<=sizeLine:=by rw [mw,Nz,O9];exact aq %[0|8]
  ac_rfl;intro z1 H2 hz1 e2 h2;have hm2:=e2.at hm1;clear hz1;ac_rfl;refine⟨by omega,by omega,aq (by simp;omega),?_⟩;intro r H3 hr3 e3 h3;rw [Int.toNat_natCast,mw] at h3;have hm3:=e3.at hm2;clear hm1 hm2 h2;ac_rfl;rw [FU];refine⟨by omega,by omega,?_⟩;intro lf H4 hlf e4 h4;have hrng:qH (ms.length:Int)=((List.range ms.length).map λ (i:Nat)=>(i:Int)).map V.int:=by unfold qH;rw [map_map,Int.toNat_natCast];rfl
  rw [hrng] at h4;have h3_4:=e4.at h3;have e04:=e1.trans (e2.trans (e3.trans e4));have hm4:=e04.at hm;have h1_4:=(e2.trans (e3.trans e4)).at h1;have hlf0:H lf=none:=(e1.trans (e2.trans e3)).free hlf;have hr0:H r=none:=(e1.trans e2).free hr3;have hlr:lf ≠ r:=λ z=>by rw [z,h3] at hlf;cases hlf
  have nl:l ≠ lf:=λ z=>by rw [←z,hm3] at hlf;cases hlf
  have nlr:l ≠ r:=λ z=>by rw [←z,(e1.trans e2).at hm] at hr3;cases hr3
  have ndf:d ≠ lf:=λ z=>by rw [←z,(e2.trans e3).at h1] at hlf;cases hlf
  have ndr:d ≠ r:=λ z=>by rw [←z,e2.at h1] at hr3;cases hr3
  have inj0:=j8.init (ms:=ms) (show 1<=1+u0 by omega);have ini:=gj.init (ms:=ms) (B:=B) (one ()) (show 1<=1+u0 by omega) %[0|8] %[0|8];exists hdl;exists hdb;clear h1 h3 hm3 hd1 hrng e1 e2 e3 e4 hlf hr3 hsz p60 c0 c1 t1 u00 u01;ac_rfl;refine u3 (by repeat' first|exact Gw|exact mo_nI0|exact mo_nI|apply rJ|apply mo_unN|exact uJ|exact Mj|exact mo_rI0|exact mo_rI|exact mo_rIsN|exact rH|exact BA|exact mo_qIx|exact BB|exact mo_qLen|apply pW|apply mo_tB|apply mo_not|apply mo_and|apply mo_or|apply Gx|apply mo_un|apply mo_cons|apply vt|apply mo_cb) (λ m σ H'=>∃ (ls ps:List Int) (u tn:Int) (v7:Option V),σ=[some (.ref a),some (.ref l),some (.int u),some (.int tn),some (.ref d),some (.ref r),some (.ref lf),v7]/\m=ls.length/\Ext H H'/\H' l=some (.lst (ms.map V.int))/\H' lf=some (.lst (ls.map V.int))/\H' r=some (.lst (ps.map V.int))/\H' d=some (.lst (ds.map V.int))/\0<=tn/\gj ms ls ps u B/\j8 ms ls ps u) _ ⟨_,_,_,tn,none,rfl,rfl,e04,hm4,h4,h3_4,h1_4,t0,ini,inj0⟩ ?_;rintro m _ H5 ⟨ls,ps,u,tn,v7,rfl,rfl,e5,hm5,hl5,hr5,hd5,tn0,hI,hJ⟩;clear h4 h3_4 h1_4 hm4 e04 ini inj0
  cases ls with
  | nil=>
   have fin:=hI.done (one ()) hB6 (hBb ());have finJ:=hJ.done;exists fin;exists finJ;clear hI hJ;ac_rfl;intro q H6 hq e6 h6;have hl6:=e6.at hl5;have k1:=kk () ps r H6 (e5.trans e6) (e6.at hr5) (fin ()) (finJ ());clear hl5 kk fin finJ hq;ac_rfl
  | cons l0 ls=>
   have hlen:=hI.lle;rw [Ow] at hlen;have hule:=hI.ule (one ());have hu1:=hI.u1;have hsub:=hI.sub;exists hI;exists hJ;exists hule;exists hsub;ac_rfl;intro q H6 hq e6 h6;have hl6:=e6.at hl5;clear hl5 hq;have i0:=OV tn (show ((ls.length+1:Nat):Int) ≠ 0 by omega);have i1:=OG tn (show (0:Int) < ((ls.length+1:Nat):Int) by omega);ac_rfl;generalize hix:(tn % ((ls.length+1:Nat):Int))=ix at i0 i1 ⊢;refine⟨by omega,by omega,?_⟩;obtain⟨x,hx⟩:∃ x,(l0::ls)[ix.toNat]? = some x:=⟨_,Nw (by rw [Ow];omega)⟩
   have hx':(V.int l0::List.map V.int ls)[ix.toNat]? = some (.int x):=by
    show ((l0::ls).map V.int)[ix.toNat]? = _
    rw [NL,hx];rfl
   have hxm:0<=x/\x < (ms.length:Int):=hsub () x (N6 hx)
   have her:(V.int l0::List.map V.int ls).eraseIdx ix.toNat=((l0::ls).eraseIdx ix.toNat).map V.int:=by
    rw [show (V.int l0::List.map V.int ls)=(l0::ls).map V.int from rfl,lB]
   have hle':((l0::ls).eraseIdx ix.toNat).length=ls.length:=by rw [List.length_eraseIdx_of_lt (by rw [Ow];omega)];rfl
   rw [hx',jl,zM,her];have hpe:=lA hx;generalize (l0::ls).eraseIdx ix.toNat=es at hle' hpe ⊢;have hl7:(upd H6 lf (.lst (es.map V.int))) lf=some (.lst (es.map V.int)):=au;have hr7:(upd H6 lf (.lst (es.map V.int))) r=some (.lst (ps.map V.int)):=by rw [ag (NM hlr)];exact e6.at hr5
   have hd7:(upd H6 lf (.lst (es.map V.int))) d=some (.lst (ds.map V.int)):=by rw [ag ndf];exact e6.at hd5
   have hm7:(upd H6 lf (.lst (es.map V.int))) l=some (.lst (ms.map V.int)):=by rw [ag nl];exact e6.at hm5
   have e7:Ext H (upd H6 lf (.lst (es.map V.int))):=(e5.trans e6).put hlf0;generalize upd H6 lf (.lst (es.map V.int))=H7 at hl7 hr7 hd7 hm7 e7 ⊢;obtain⟨z,hz,hzm⟩:=mF ds x hxm.1 (by have:=hdl ();omega);have hzb:=hdb () z hzm;have hat:=gP (vals:=ms) hxm.1 hxm.2;have hin:=fk (ms:=ms) hxm.1 hxm.2;have hs1:=one () _ hin;have hs6:=m6 () _ hin;have hpl:ps.length=ms.length:=(hI ()).len;have hixp:ixN ps.length x=some x.toNat:=LL hxm.1 (by rw [hpl];exact hxm.2)
   replace hule:u<=3960:=by
    have hP:=ba ms (one ());have hb:=hBb ();have:=hule ();rw [Ow] at this;have m1:(2+((ms.length:Int) - ((ls.length+1:Nat):Int))) * ae ms<=(2+(ms.length:Int)) * ae ms:=NV %[0|8] %[0|8];have nn:=PM (u6 (one ())) (show 0<=B+2 by omega);omega
   have cmz:lN u (ms.getD x.toNat 0):=.inr ⟨by omega,by omega⟩;have stp:=λ (b p:Int) hb0 hb1 hpu=>(hI ()).step (b:=b) (p:=p) (one ()) hpe hb0 hb1 hpu (hB1 ());have stj:=λ (b p:Int) hb0 hpu=>j8.step (b:=b) (p:=p) (hI ()) (hJ ()) (one ()) hpe hb0 hpu;exists stj;exists stp;exists hzb;exists hs1;exists hs6;exists hpl;clear hl6 hr5 hd5 hm5 h6 hx' her hx hix hI hJ hsub hpe hin i0 i1 e5 e6;ac_rfl;refine⟨%[0|8],?_⟩;intro w2 H8 hw2 e8 h8;have hd8:=e8.at hd7;clear hw2;ac_rfl;refine gv (λ j=>j=1\/j=-1) (hzb ()).1 (show z < 4 from (hzb ()).2) (λ v hv=>?_) λ j hj=>?_
   ·simp only [NR,NN,Ob] at hv
    rcases hv with rfl|rfl|rfl|rfl
    ·exact⟨_,rfl,.inl rfl⟩
    ·exact⟨_,rfl,.inr rfl⟩
    ·exact⟨_,rfl,.inl rfl⟩
    ·exact⟨_,rfl,.inr rfl⟩
   have hja:((u * j).natAbs:Int)=u:=by
    rcases hj with rfl|rfl
    ·rw [QK];omega
    ·omega
   have cmj:lN u j:=.inl ⟨by omega,by omega⟩;have hr8:=e8.at hr7;have hz2:0<=z / 2/\z / 2<=1:=by have:=hzb ();omega
   have fin:=λ (_:Unit)=>stp () (z / 2) (u * j) hz2.1 hz2.2 hja;have finJ:=λ (_:Unit)=>stj () (z / 2) (u * j) hz2.1 hja;clear h8 stp stj hj hja;ac_rfl;rw [zE];have hm9:upd H8 r (.lst ((ps.set x.toNat (u * j)).map V.int)) l=some (.lst (ms.map V.int)):=by rw [ag nlr];exact e8.at hm7
   have hl9:upd H8 r (.lst ((ps.set x.toNat (u * j)).map V.int)) lf=some (.lst (es.map V.int)):=by rw [ag hlr];exact e8.at hl7
   have hd9:upd H8 r (.lst ((ps.set x.toNat (u * j)).map V.int)) d=some (.lst (ds.map V.int)):=by rw [ag ndr];exact hd8
   have hr9:upd H8 r (.lst ((ps.set x.toNat (u * j)).map V.int)) r=some (.lst ((ps.set x.toNat (u * j)).map V.int)):=au;have e9:Ext H (upd H8 r (.lst ((ps.set x.toNat (u * j)).map V.int))):=(e7.trans e8).put hr0;generalize upd H8 r (.lst ((ps.set x.toNat (u * j)).map V.int))=H9 at hm9 hl9 hd9 hr9 e9 ⊢;clear hr8 hd8 hr7 hd7 hm7 hl7 e8;ac_rfl;exact⟨es.length,by omega,es,ps.set x.toNat (u * j),_,_,_,rfl,rfl,e9,rfl,rfl,Int.ediv_nonneg tn0 %[0|8],fin (),finJ ()⟩
def OtK(ms ps qs:List Int):Prop:=qs.length=ms.length/\∀ B:Int,6<=B->(∀ p∈ps,(p.natAbs:Int)<=B)->∀ q∈qs,(q.natAbs:Int)<=B+2
theorem rS(xs:List V)(z:Int)(h:0<=z):kA xs (some z) none=xs.drop z.toNat:=by
 unfold kA;obtain⟨n,rfl⟩:=Int.eq_ofNat_of_zero_le h;rw [HT.sIx_none,HT.sIx_nat]
 show _=xs.drop n
 rcases RB n xs.length with q|q
 ·rw [QY q];exact Pd (by rw [Pr];omega)
 ·rw [QO q,Qc (NF _),Qc q,List.take_nil]
theorem uU(xs:List V)(z:Int)(h:0<=z):kA xs none (some z)=xs.take z.toNat:=by
 unfold kA;obtain⟨n,rfl⟩:=Int.eq_ofNat_of_zero_le h;rw [HT.sIx_none,HT.sIx_nat,List.drop_zero,Nat.sub_zero]
 show xs.take (min n xs.length)=xs.take n
 rcases RB n xs.length with q|q
 ·rw [QY q]
 ·rw [QO q,OE,Pd q]
theorem fZ{l b:Addr}{xs ys:List V}{H:Hp}{Q:VK}(h:H l=some (.lst xs))(h':H b=some (.lst ys))(hl:xs.length+ys.length<=sizeLine)(q:iE (.lst (xs++ys)) H Q):FN JN (.ref l) Q (.ref b) H:=by
 rw [BE,BC,aw,h]
 show aF (aw H b) (JR xs H Q)
 rw [aw,h'];exact⟨hl,q⟩
theorem OtK.refl{ms ps:List Int}(h:ps.length=ms.length):OtK ms ps ps:=⟨h,λ B _ hb q hq=>by have:=hb q hq;omega⟩
theorem OtK.put{ms ps:List Int}{x:Nat}{z:Int}(h:ps.length=ms.length)(hx:x < ps.length)(hz:∀ B:Int,6<=B->(∀ p∈ps,(p.natAbs:Int)<=B)->(z.natAbs:Int)<=B+2):OtK ms ps (ps.take x++[z]++ps.drop (x+1)):=by
 refine⟨by rw [NP,NP,N8,Pr,OQ];omega,λ B h6 hb q hq=>?_⟩
 rcases N2.mp hq with hq|hq
 ·rcases N2.mp hq with hq|hq
  ·have:=hb q (OK hq);omega
  ·rw [NC.mp hq];exact hz B h6 hb
 ·have:=hb q (PD hq);omega
theorem OtK.turn{ms ps:List Int}{x:Nat}(h:ps.length=ms.length)(hx:x < ps.length):OtK ms ps (ps.drop x++ps.take x):=by
 refine⟨by rw [NP,N8,Pr];omega,λ B h6 hb q hq=>?_⟩
 rcases N2.mp hq with hq|hq
 ·have:=hb q (PD hq);omega
 ·have:=hb q (OK hq);omega
theorem OtK.small{ms ps qs:List Int}(h:qs.length=ms.length)(hq:∀ q∈qs,-6<=q/\q<=6):OtK ms ps qs:=⟨h,λ B h6 _ q hm=>by have:=hq q hm;omega⟩
def uj(K:W.Frag)(a:Addr)(ns:List Int):Sp:=λ vs H Q E=>∃ (p:Addr) (l:Addr),vs=[.ref p,.ref l]/\(p=a/\SqL K H a (ns.map V.int)/\ns.length<=63/\∃ ms ps:List Int,H l=some (.lst (ps.map V.int))/\ps.length=ms.length/\ps.length<=8/\∀ (qs:List Int) (r:Addr) (H':Hp),Ext H H'->H' r=some (.lst (qs.map V.int))->OtK ms ps qs->Q (.ref r) H')
theorem AX(K:W.Frag)(a:Addr)(ns:List Int)(p:Addr)(l:Addr)(H:Hp)(Q:VK)(E:XK):uj K a ns [.ref p,.ref l] H Q E=(p=a/\SqL K H a (ns.map V.int)/\ns.length<=63/\∃ ms ps:List Int,H l=some (.lst (ps.map V.int))/\ps.length=ms.length/\ps.length<=8/\∀ (qs:List Int) (r:Addr) (H':Hp),Ext H H'->H' r=some (.lst (qs.map V.int))->OtK ms ps qs->Q (.ref r) H'):=jU (f:=λ (p:Addr) (l:Addr)=>[.ref p,.ref l]) (λ _ _ _ _ h=>by cases h;exact⟨rfl,rfl⟩) p l
theorem Ab(K:W.Frag)(a:Addr)(ns:List Int){vs:List V}{H:Hp}{Q:VK}{E:XK}(h:uj K a ns vs H Q E):vs.length=2:=jV h λ _ _=>rfl
theorem kl(T:Tx K mg t)(a:Addr)(ns:List Int):cq P w K mg base CX0 2 t.a__law_others t.d__law_others ["_law_script", "_law_paces"] (uj K a ns):=by
 have G__law_draw:=%[dY|38] a ns;have G__law_digits:=%[dg|38];refine T.F__law_others.ok dv (λ vs H Q E h=>Ab _ _ _ h) (λ c A o s H vs Q E hr h=>?_)
 ·obtain⟨_,l,rfl,rfl,hS,hl,ms,ps,hp,hpl,hp8,kk⟩:=h;rename_i a;refine⟨_,%[%[2,dv,%[_law_draw,%[%[0|0],%[%[0|2],%[%[0|2]|1]|1]|1]|3]|4],%[%[3,dv,%[_law_draw,%[%[0|0],%[%[0|2],%[%[0|2]|1]|1]|1]|3]|4],%[%[(PW.pt %[%[sk,%[2|0],%[0|2],(aA _)|14],(@kC _ _ _ _ %[(dF hr.units),%[1|0],%[(@dh _)|17],(aA _)|14])|34]),%[%[(@jk _ _ _ _ _ _ _ _ _ tM ∅ T.z_list nofun %[%[1|0]|1] ⋯ ⋯ ∅ ∅)|12]|10],(@aE _)|19],%[%[4,dv,%[nz,%[3|0],%[len,aG,%[%[1|0]|1]|6]|11]|4],%[%[%[(dF hr.units),%[2|0],%[0|2],(aA _)|14],%[%[%[dn,%[dn,%[yg,%[1|0],(@dm _),%[%[4|0]|30]|29],%[%[%[fP,%[0|2],%[fN,%[1|0],%[4|0],(λ _ _=>rfl)|16]|11]|1]|17]|11],%[yg,%[1|0],%[%[cp,%[4|0],%[0|2]|11]|30],(@dm _)|29]|11]|12]|10],(@aE _)|19],%[%[%[(dF hr.units),%[2|0],%[0|2],(aA _)|14],%[%[%[dn,%[yg,%[1|0],%[%[4|0]|30],(@dm _)|29],%[yg,%[1|0],(@dm _),%[%[4|0]|30]|29]|11]|12]|10],(@aE _)|19],%[%[%[(dF hr.units),%[2|0],%[0|2],(aA _)|14],%[%[%[(["_law_digit", "_law_script", "_law_paces", "_law_way", "_law_k", "_law_axis"]),(1),(aN (aa bJ) ["_law_script", "_law_paces", "_law_way", "_law_k", "_law_axis"] rfl rfl nofun),rfl,%[%[_law_digits,%[%[_law_draw,%[%[0|0],%[%[0|2],%[%[0|2]|1]|1]|1]|3],%[%[0|2],%[%[len,aG,%[%[1|0]|1]|6]|1]|1]|1]|3]|18],(λ C s₀ H₀ ex pn=>%[(0),_,(show List.Nodup (["_law_digit", "_law_script", "_law_paces", "_law_way", "_law_k", "_law_axis"]:List Str) from by decide +kernel),rfl,(Or.inl rfl),%[0|7]|13]),(λ C s₀ H₀ ex pn=>(@br _)),(λ C s₀ H₀ ex pn=>%[fP,%[0|0],%[0|2]|11]),(by intros;rfl)|21]|12]|10],(@aE _)|19],%[%[%[(dF hr.units),%[2|0],%[0|2],(aA _)|14],%[%[%[dn,%[dn,%[yg,%[1|0],(@dm _),%[%[4|0]|30]|29],%[%[%[0|2]|1]|17]|11],%[yg,%[1|0],%[%[cp,%[4|0],%[0|2]|11]|30],(@dm _)|29]|11]|12]|10],(@aE _)|19],%[%[%[dn,%[dn,%[yg,%[1|0],(@dm _),%[%[4|0]|30]|29],%[%[%[cp,%[fN,%[1|0],%[4|0],(λ _ _=>rfl)|16],%[fN,%[%[%[0|2],%[(@px _ _ _ _ _ _ gc %[0|2]),%[%[0|2]|1]|1]|1]|17],%[nz,%[iX,%[3|0],%[0|2]|11],%[0|2]|11],(λ _ _=>rfl)|16]|11]|1]|17]|11],%[yg,%[1|0],%[%[cp,%[4|0],%[0|2]|11]|30],(@dm _)|29]|11]|12]|10]|9]|9]|9]|9]|9]|9]|9]|9],?_⟩;rw [show aH ["_law_script", "_law_paces", "_law_way", "_law_k", "_law_axis"] [.ref a,.ref l]=[some (.ref a),some (.ref l),none,none,none] from rfl];clear G__law_draw G__law_digits;exists kk;exists hpl;ac_rfl;rw [cb];refine⟨hS,hl,⟨by decide,by decide⟩,by decide,λ wy w0 w1=>?_⟩;ac_rfl;rw [cb];refine⟨hS,hl,⟨by decide,by decide⟩,by decide,λ k k0 k1=>?_⟩
  by_cases hw3:wy < 3
  ·ac_rfl;intro r1 H1 hr1 e1 h1;exact kk () ps r1 H1 e1 h1 (OtK.refl (hpl ()))
  ·cases hps:ps with
   | nil=>
    have hp':H l=some (.lst []):=by rw [hp,hps];rfl
    clear hp;ac_rfl;intro r1 H1 hr1 e1 h1;have hp1:=e1.at hp';clear hr1 hp';ac_rfl;intro r2 H2 hr2 e2 h2;exact kk () ps r2 H2 (e1.trans e2) (by rw [h2,hps];rfl) (OtK.refl (hpl ()))
   | cons y0 ys=>
   have hpos:0 < (ps.length:Int):=by rw [hps,Ow];omega
   have hne:¬ ps=[]:=λ z=>by rw [hps] at z;cases z
   have hp':H l=some (.lst (.int y0::ys.map V.int)):=by rw [hp,hps];rfl
   have hlen:ps.length=ys.length+1:=by rw [hps];rfl
   have x0:=OV k (show (ps.length:Int) ≠ 0 by omega);have x1:=OG k hpos;obtain⟨x,hx⟩:∃ x,k % ((ys.length+1:Nat):Int)=x:=⟨_,rfl⟩;rw [hlen,hx] at x0 x1;clear hp;ac_rfl;intro r1 H1 hr1 e1 h1;have hp1:=e1.at hp';have hS1:=e1.2 K a _ hS;clear hr1 hp';have hcons:V.int y0::ys.map V.int=ps.map V.int:=by rw [hps];rfl
   have hxl:x.toNat < ps.length:=by omega
   have hat:atI (V.int y0::ys.map V.int) x=some (.int (ps.getD x.toNat 0)):=by rw [hcons];exact gP x0 (by rw [hlen];exact x1)
   have hpin:ps.getD x.toNat 0∈ps:=by
    rw [List.getD,Nw hxl];exact Pa hxl
   have hpos':(0:Int) < ((ys.length+1:Nat):Int):=by omega
   have ct:=uU (.int y0::ys.map V.int) x x0;have cf:=rS (.int y0::ys.map V.int) x x0;have cf1:=rS (.int y0::ys.map V.int) (x+1) %[0|8];rw [show (x+1).toNat=x.toNat+1 by omega] at cf1;have hys:ys.length+1<=8:=by omega
   exists hcons;exists hlen;clear hps hpos hne hS hp8
   by_cases h3:wy=3
   ·ac_rfl;intro r2 H2 hr2 e2 h2;have hp2:=e2.at hp1;have hS2:=e2.2 K a _ hS1;clear hr2;ac_rfl;intro q2 G2 hq2 g2 k2;have h_2:=g2.at h2;have hp_2:=g2.at hp2;clear hq2 h2 hp2;refine fZ h_2 k2 (aq (by rw [N8,OQ,Ow,Nz];omega)) ?_;intro q3 G3 hq3 g3 k3;have hp_3:=g3.at hp_2;clear hq3 h_2 k2 hp_2;ac_rfl;intro q4 G4 hq4 g4 k4;have k3_4:=g4.at k3;clear hq4 k3 hp_3;refine fZ k3_4 k4 (aq (by rw [NP,N8,Pr,OQ,Ow,Nz];omega)) ?_;intro q5 G5 hq5 g5 k5;have fin:=kk () (ps.take x.toNat++[0 - ps.getD x.toNat 0]++ps.drop (x.toNat+1)) q5 G5 (e1.trans (e2.trans (g2.trans (g3.trans (g4.trans g5))))) (by rw [k5,hcons (),Oy,Oy,Rk,Rm];rfl) (OtK.put (hpl ()) hxl λ B h6 hb=>by have:=hb _ hpin;omega);clear kk k3_4 k4 k5;ac_rfl
   by_cases h4:wy=4
   ·ac_rfl;intro r2 H2 hr2 e2 h2;have hp2:=e2.at hp1;clear hr2;ac_rfl;intro r3 H3 hr3 e3 h3';have h2_3:=e3.at h2;clear hr3 h2 hp2;refine fZ h2_3 h3' (aq (by rw [N8,Pr,Ow,Nz];omega)) ?_;intro r4 H4 hr4 e4 h4';have fin:=kk () (ps.drop x.toNat++ps.take x.toNat) r4 H4 (e1.trans (e2.trans (e3.trans e4))) (by rw [h4',hcons (),Oy,Rk,Rm]) (OtK.turn (hpl ()) hxl);clear kk h2_3 h3' h4';ac_rfl
   by_cases h5:wy=5
   ·ac_rfl;rw [cb];refine⟨hS1,hl,⟨by decide,by decide⟩,by decide,λ c c0 c1=>?_⟩;ac_rfl;rw [gZ];refine⟨by decide,by decide,by omega,by omega,λ ds d H2 hd2 e2 h2 hdl hdb=>?_⟩;have hd8:ds.length<=9:=by omega
    exists hdl;exists hdb;clear hd2;ac_rfl;refine bP (ds.map V.int) (λ _=>true) (λ z=>.int (vi z - 6)) (λ z x H'=>x=z/\H' d=some (.lst (ds.map V.int))) (qO h2).1 (qO h2).2 (aq (by rw [Nz];omega)) ?_ ?_
    ·intro D z y H' N1 N0 hz hD e ⟨hy,_⟩ kx _;subst hy;obtain⟨i,_,rfl⟩:=ND.mp hz;have k1':N1 (.int (i - 6)) H':=kx rfl H' (Ext.refl _);clear kx kk hz;simp! only [↓bG,↓bx]
    ·intro D H3 hD e3 h3';rw [jZ,OA] at h3'
     have fin:=kk () (ds.map λ i=>i - 6) D H3 (e1.trans (e2.trans e3)) (by rw [h3',OA];rfl) (OtK.small (by rw [Nz,←hpl ()];have:=hdl ();have:=hlen ();omega) λ q hq=>by
      obtain⟨i,hi,rfl⟩:=ND.mp hq;have:=hdb () i hi;omega)
     clear kk h3';ac_rfl
   by_cases h6:wy=6
   ·ac_rfl;intro r2 H2 hr2 e2 h2;have hp2:=e2.at hp1;have hS2:=e2.2 K a _ hS1;clear hr2;ac_rfl;intro q2 G2 hq2 g2 k2;have h_2:=g2.at h2;have hp_2:=g2.at hp2;clear hq2 h2 hp2;refine fZ h_2 k2 (aq (by rw [N8,OQ,Ow,Nz];omega)) ?_;intro q3 G3 hq3 g3 k3;have hp_3:=g3.at hp_2;clear hq3 h_2 k2 hp_2;ac_rfl;intro q4 G4 hq4 g4 k4;have k3_4:=g4.at k3;clear hq4 k3 hp_3;refine fZ k3_4 k4 (aq (by rw [NP,N8,Pr,OQ,Ow,Nz];omega)) ?_;intro q5 G5 hq5 g5 k5;have fin:=kk () (ps.take x.toNat++[0]++ps.drop (x.toNat+1)) q5 G5 (e1.trans (e2.trans (g2.trans (g3.trans (g4.trans g5))))) (by rw [k5,hcons (),Oy,Oy,Rk,Rm];rfl) (OtK.put (hpl ()) hxl λ B h6 hb=>by show (0:Int)<=B+2;omega);clear kk k3_4 k4 k5;ac_rfl
   ·have m0:=OV (k / 8) (show (3:Int) ≠ 0 by decide);have m1:=OG (k / 8) (show (0:Int) < 3 by decide);ac_rfl;intro r2 H2 hr2 e2 h2;have hp2:=e2.at hp1;have hS2:=e2.2 K a _ hS1;clear hr2;ac_rfl;intro q1 G1 hq1 g1 k1;clear hq1;ac_rfl;refine gv (λ j=>-1<=j/\j<=2) m0 m1 (λ v hv=>?_) λ j hj=>?_
    ·simp only [NR,NN,Ob] at hv
     rcases hv with rfl|rfl|rfl<;>exact⟨_,rfl,by decide⟩
    clear k1;ac_rfl;intro q2 G2 hq2 g2 k2;have h_2:=(g1.trans g2).at h2;have hp_2:=(g1.trans g2).at hp2;clear hq2 h2 hp2;refine fZ h_2 k2 (aq (by rw [N8,OQ,Ow,Nz];omega)) ?_;intro q3 G3 hq3 g3 k3;have hp_3:=g3.at hp_2;clear hq3 h_2 k2 hp_2;ac_rfl;intro q4 G4 hq4 g4 k4;have k3_4:=g4.at k3;clear hq4 k3 hp_3;refine fZ k3_4 k4 (aq (by rw [NP,N8,Pr,OQ,Ow,Nz];omega)) ?_;intro q5 G5 hq5 g5 k5;have fin:=kk () (ps.take x.toNat++[ps.getD x.toNat 0+j]++ps.drop (x.toNat+1)) q5 G5 (e1.trans (e2.trans (g1.trans (g2.trans (g3.trans (g4.trans g5)))))) (by rw [k5,hcons (),Oy,Oy,Rk,Rm];rfl) (OtK.put (hpl ()) hxl λ B h6 hb=>by have:=hb _ hpin;omega);clear kk k3_4 k4 k5;ac_rfl
def BX  : Sp:=λ vs H Q E=>∃ (l:Addr) (r:Addr),vs=[.ref l,.ref r]/\(∃ ms ps:List Int,H l=some (.lst (ms.map V.int))/\H r=some (.lst (ps.map V.int))/\(∀ m∈ms,1<=m/\m<=6)/\ms.length<=8/\ps.length=ms.length/\∀ H',Ext H H'->Q (.int (aV (ms.zip ps))) H')
theorem p5  (l:Addr) (r:Addr) (H:Hp) (Q:VK) (E:XK):BX  [.ref l,.ref r] H Q E=(∃ ms ps:List Int,H l=some (.lst (ms.map V.int))/\H r=some (.lst (ps.map V.int))/\(∀ m∈ms,1<=m/\m<=6)/\ms.length<=8/\ps.length=ms.length/\∀ H',Ext H H'->Q (.int (aV (ms.zip ps))) H'):=jU (f:=λ (l:Addr) (r:Addr)=>[.ref l,.ref r]) (λ _ _ _ _ h=>by cases h;exact⟨rfl,rfl⟩) l r
theorem EM  {vs:List V}{H:Hp}{Q:VK}{E:XK}(h:BX  vs H Q E):vs.length=2:=jV h λ _ _=>rfl
theorem mO(T:Tx K mg t):cq P w K mg base CX0 1 t.a__law_least t.d__law_least ["_law_sizes_here", "_law_paces"] BX:=by
 refine T.F__law_least.ok o8 (λ vs H Q E h=>EM h) (λ c A o s H vs Q E hr h=>?_)
 ·obtain⟨l,r,rfl,ms,ps,hm,hp,h6,h8,hpl,k⟩:=h;refine⟨_,%[%[%[sum,(gy rfl),%[%[(["_law_size", "_law_pace", "_law_sizes_here", "_law_paces"]),(2),(aN (aa bX) ["_law_sizes_here", "_law_paces"] rfl rfl nofun),rfl,%[∅,T.z_zip,%[%[0|0],%[%[1|0]|1]|1],∅,∅|35],(λ C s₀ H₀ ex pn=>(%[(2),rfl,%[%[(0),_,(show List.Nodup (["_law_size", "_law_pace", "_law_sizes_here", "_law_paces"]:List Str) from by decide +kernel),rfl,(Or.inl rfl),%[0|7]|13],%[%[(1),_,(show List.Nodup (["_law_size", "_law_pace", "_law_sizes_here", "_law_paces"]:List Str) from by decide +kernel),rfl,(Or.inl rfl),%[0|7]|13],(@bj _),∅|15],∅|15],∅,∅|22].mono λ _ _ _ _ h=>di h)),(λ C s₀ H₀ ex pn=>(@br _)),(λ C s₀ H₀ ex pn=>%[min,(oy rfl),%[%[0|2],%[%[dU,%[1|0],%[fP,%[0|0],%[0|2]|11]|11]|1]|1]|6]),(by intros;rfl)|21]|1]|6]|12]|10],?_⟩;rw [show aH ["_law_sizes_here", "_law_paces"] [.ref l,.ref r]=[some (.ref l),some (.ref r)] from rfl];exists h6;ac_rfl;refine bP ((ms.map V.int).zip (ps.map V.int)) (λ _=>true) (λ z=>.int (min 0 ((vi z.1 - 1) * vi z.2))) BN (kB (ka:=false) (kb:=false) hm hp).1 (kB (ka:=false) (kb:=false) hm hp).2 (aq (by rw [Pu,Nz,Nz];omega)) ?_ ?_
  ·intro D z y H' N1 N0 hz hD e ⟨u,hu,hu2⟩ k1 _;subst hu;obtain⟨x0,n0⟩:=z;have hmz:=P8 hz;obtain⟨a,ha,rfl⟩:=ND.mp hmz.1;obtain⟨b,hb2,rfl⟩:=ND.mp hmz.2;have k1':N1 (.int (min 0 ((a - 1) * b))) H':=k1 rfl H' (Ext.refl _);have ca:=h6 () a ha;have hcm:lN b (a - 1):=.inr ⟨by omega,by omega⟩;rw [Ml,ON] at k1';clear k1 hmz hz k;simp! only [↓d8,↓bx]
  ·intro D H' hD e hD'
   have hD2:H' D=some (.lst (((ms.zip ps).map λ a=>min 0 ((a.1 - 1) * a.2)).map V.int)):=by
    rw [hD',jZ,List.zip_map,OA,OA];rfl
   have hsum:((ms.zip ps).map λ a=>min 0 ((a.1 - 1) * a.2)).sum=aV (ms.zip ps):=rfl;have k2:=k H' e;clear k hD';ac_rfl
def BW  : Sp:=λ vs H Q E=>∃ (l:Addr) (r:Addr),vs=[.ref l,.ref r]/\(∃ ms ps:List Int,H l=some (.lst (ms.map V.int))/\H r=some (.lst (ps.map V.int))/\(∀ m∈ms,1<=m/\m<=6)/\ms.length<=8/\ps.length=ms.length/\∀ H',Ext H H'->Q (.int (aM (ms.zip ps))) H')
theorem vI  (l:Addr) (r:Addr) (H:Hp) (Q:VK) (E:XK):BW  [.ref l,.ref r] H Q E=(∃ ms ps:List Int,H l=some (.lst (ms.map V.int))/\H r=some (.lst (ps.map V.int))/\(∀ m∈ms,1<=m/\m<=6)/\ms.length<=8/\ps.length=ms.length/\∀ H',Ext H H'->Q (.int (aM (ms.zip ps))) H'):=jU (f:=λ (l:Addr) (r:Addr)=>[.ref l,.ref r]) (λ _ _ _ _ h=>by cases h;exact⟨rfl,rfl⟩) l r
theorem EL  {vs:List V}{H:Hp}{Q:VK}{E:XK}(h:BW  vs H Q E):vs.length=2:=jV h λ _ _=>rfl
theorem oR(T:Tx K mg t):cq P w K mg base CX0 1 t.a__law_most t.d__law_most ["_law_sizes_here", "_law_paces"] BW:=by
 refine T.F__law_most.ok qG (λ vs H Q E h=>EL h) (λ c A o s H vs Q E hr h=>?_)
 ·obtain⟨l,r,rfl,ms,ps,hm,hp,h6,h8,hpl,k⟩:=h;refine⟨_,%[%[%[sum,(gy rfl),%[%[(["_law_size", "_law_pace", "_law_sizes_here", "_law_paces"]),(2),(aN (aa cD) ["_law_sizes_here", "_law_paces"] rfl rfl nofun),rfl,%[∅,T.z_zip,%[%[0|0],%[%[1|0]|1]|1],∅,∅|35],(λ C s₀ H₀ ex pn=>(%[(2),rfl,%[%[(0),_,(show List.Nodup (["_law_size", "_law_pace", "_law_sizes_here", "_law_paces"]:List Str) from by decide +kernel),rfl,(Or.inl rfl),%[0|7]|13],%[%[(1),_,(show List.Nodup (["_law_size", "_law_pace", "_law_sizes_here", "_law_paces"]:List Str) from by decide +kernel),rfl,(Or.inl rfl),%[0|7]|13],(@bj _),∅|15],∅|15],∅,∅|22].mono λ _ _ _ _ h=>di h)),(λ C s₀ H₀ ex pn=>(@br _)),(λ C s₀ H₀ ex pn=>%[max,(gz rfl),%[%[0|2],%[%[dU,%[1|0],%[fP,%[0|0],%[0|2]|11]|11]|1]|1]|6]),(by intros;rfl)|21]|1]|6]|12]|10],?_⟩;rw [show aH ["_law_sizes_here", "_law_paces"] [.ref l,.ref r]=[some (.ref l),some (.ref r)] from rfl];exists h6;ac_rfl;refine bP ((ms.map V.int).zip (ps.map V.int)) (λ _=>true) (λ z=>.int (max 0 ((vi z.1 - 1) * vi z.2))) BN (kB (ka:=false) (kb:=false) hm hp).1 (kB (ka:=false) (kb:=false) hm hp).2 (aq (by rw [Pu,Nz,Nz];omega)) ?_ ?_
  ·intro D z y H' N1 N0 hz hD e ⟨u,hu,hu2⟩ k1 _;subst hu;obtain⟨x0,n0⟩:=z;have hmz:=P8 hz;obtain⟨a,ha,rfl⟩:=ND.mp hmz.1;obtain⟨b,hb2,rfl⟩:=ND.mp hmz.2;have k1':N1 (.int (max 0 ((a - 1) * b))) H':=k1 rfl H' (Ext.refl _);have ca:=h6 () a ha;have hcm:lN b (a - 1):=.inr ⟨by omega,by omega⟩;rw [Mm,ON] at k1';clear k1 hmz hz k;simp! only [↓d8,↓bx]
  ·intro D H' hD e hD'
   have hD2:H' D=some (.lst (((ms.zip ps).map λ a=>max 0 ((a.1 - 1) * a.2)).map V.int)):=by
    rw [hD',jZ,List.zip_map,OA,OA];rfl
   have hsum:((ms.zip ps).map λ a=>max 0 ((a.1 - 1) * a.2)).sum=aM (ms.zip ps):=rfl;have k2:=k H' e;clear k hD';ac_rfl
def B0  : Sp:=λ vs H Q E=>∃ (f:Int) (l:Addr) (q:Addr),vs=[.int f,.ref l,.ref q]/\(∃ ms ps:List Int,H l=some (.lst (ms.map V.int))/\H q=some (.lst (ps.map V.int))/\(∀ m∈ms,1<=m/\m<=6)/\ms.length<=8/\ps.length=ms.length/\ae ms<=60/\∀ (r:Addr) (H':Hp),Ext H H'->H' r=some (.lst ((af f (ms.zip ps)).map V.int))->Q (.ref r) H')
theorem vJ  (f:Int) (l:Addr) (q:Addr) (H:Hp) (Q:VK) (E:XK):B0  [.int f,.ref l,.ref q] H Q E=(∃ ms ps:List Int,H l=some (.lst (ms.map V.int))/\H q=some (.lst (ps.map V.int))/\(∀ m∈ms,1<=m/\m<=6)/\ms.length<=8/\ps.length=ms.length/\ae ms<=60/\∀ (r:Addr) (H':Hp),Ext H H'->H' r=some (.lst ((af f (ms.zip ps)).map V.int))->Q (.ref r) H'):=Bc (f:=λ (f:Int) (l:Addr) (q:Addr)=>[.int f,.ref l,.ref q]) (λ _ _ _ _ _ _ h=>by cases h;exact⟨rfl,rfl,rfl⟩) f l q
theorem ES  {vs:List V}{H:Hp}{Q:VK}{E:XK}(h:B0  vs H Q E):vs.length=3:=Bd h λ _ _ _=>rfl
theorem mQ(T:Tx K mg t):cq P w K mg base CX0 1 t.a__law_cells t.d__law_cells ["_law_first", "_law_sizes_here", "_law_paces"] B0:=by
 refine T.F__law_cells.ok b9 (λ vs H Q E h=>ES h) (λ c A o s H vs Q E hr h=>?_)
 ·obtain⟨first,l,q,rfl,ms,ps,hm,hp,h6,h8,hpl,hpr,k⟩:=h;refine⟨_,%[%[3,b9,%[%[%[0|0]|1]|17]|4],%[%[NW,rfl,%[∅,T.z_zip,%[%[1|0],%[%[2|0]|1]|1],∅,∅|35],(%[(2),rfl,%[%[4,b9|5],%[%[(5),_,b9.nd,rfl,(Or.inr rfl),%[0|7]|13],(@bj _),∅|15],∅|15],∅,∅|22].mono λ _ _ _ _ h=>di h),%[%[6,b9,%[(@dh _)|17]|4],%[%[NW,rfl,%[%[3|0]|18],%[(7),_,b9.nd,rfl,(Or.inr rfl),%[0|7]|13],%[%[%[Od,QH,QG,jm,%[6|0],%[%[(["_law_k", "_law_first", "_law_sizes_here", "_law_paces", "_law_found", "_law_size", "_law_pace", "_law_longer", "_law_cell"]),(1),(aN (aa bY) ["_law_first", "_law_sizes_here", "_law_paces", "_law_found", "_law_size", "_law_pace", "_law_longer", "_law_cell"] rfl rfl nofun),rfl,%[∅,T.z_range,%[%[4|0]|1],∅|31],(λ C s₀ H₀ ex pn=>%[(0),_,(show List.Nodup (["_law_k", "_law_first", "_law_sizes_here", "_law_paces", "_law_found", "_law_size", "_law_pace", "_law_longer", "_law_cell"]:List Str) from by decide +kernel),rfl,(Or.inl rfl),%[0|7]|13]),(λ C s₀ H₀ ex pn=>(@br _)),(λ C s₀ H₀ ex pn=>%[cp,%[8|0],%[dU,%[6|0],%[0|0]|11]|11]),(by intros;rfl)|21]|1],∅,∅,∅,∅,∅|33],∅|23]|10],(by intros;rfl)|20],%[%[3,b9,%[6|0]|4]|10]|9]|9],(by intros;rfl)|20],%[%[%[3|0]|12]|10]|9]|9],?_⟩;rw [show aH ["_law_first", "_law_sizes_here", "_law_paces", "_law_found", "_law_size", "_law_pace", "_law_longer", "_law_cell"] [.int first,.ref l,.ref q]=[some (.int first),some (.ref l),some (.ref q),none,none,none,none,none] from rfl]
  have hfst:(ms.zip ps).map (λ a=>a.1)=ms:=by
   rw [show (λ a:Int × Int=>a.1)=Prod.fst from rfl,RG %[0|8]]
  have hpos:∀ a∈ms.zip ps,(1:Int)<=a.1:=λ a ha=>(h6 a.1 (P8 (show (a.1,a.2)∈ms.zip ps from ha)).1).1;exists hpos;exists hfst;exists h6;exists k;ac_rfl;intro r H1 hr1 e1 h1;have hm1:=e1.at hm;have hp1:=e1.at hp;ac_rfl;refine pZ (ka:=false) (kb:=false) (xs:=ms.map V.int) (ys:=ps.map V.int) (λ i σ H'=>∃ (r:Addr) (v4 v5 v6 v7:Option V),σ=[some (.int first),some (.ref l),some (.ref q),some (.ref r),v4,v5,v6,v7]/\Ext H H'/\H' r=some (.lst ((af first ((ms.zip ps).take i)).map V.int))) ⟨r,none,none,none,none,rfl,e1,h1⟩ (λ i σ H' ⟨_,_,_,_,_,_,e,_⟩=>⟨e.at hm,e.at hp⟩) ?_ ?_
  ·rintro i x y w' _ H2 H3 hx hy ⟨r,v4,v5,v6,v7,rfl,e2,h2⟩ hw e3 h3;rw [NL] at hx hy;obtain⟨a,ha,rfl⟩:=NI.mp hx;obtain⟨b,hb,rfl⟩:=NI.mp hy;have hab:(ms.zip ps)[i]? = some (a,b):=by rw [Pj];exact⟨ha,hb⟩
   have ham:=h6 () a (N6 ha)
   have hlen:(af first ((ms.zip ps).take i)).length * a.toNat<=60:=by
    have hl4:=aJ first ((ms.zip ps).take i) λ b hb=>hpos () b (OK hb)
    have hpp:=gE ms (λ n hn=>(h6 () n hn).1) (i+1);rw [gW _ i a ha] at hpp;rw [Rk,hfst ()] at hl4;rw [←hl4] at hpp;have hza:((a.toNat:Nat):Int)=a:=OC %[0|8]
    have:(((af first ((ms.zip ps).take i)).length * a.toNat:Nat):Int)<=60:=by rw [Qw,hza];omega
    omega
   have hsn:af first ((ms.zip ps).take (i+1))=bU (af first ((ms.zip ps).take i)) (a,b):=by
    rw [OH,hab]
    show af first ((ms.zip ps).take i++[(a,b)])=_
    rw [jG]
   rw [hsn];have h2_3:=e3.at h2;have e03:=e2.trans e3
   generalize af first ((ms.zip ps).take i)=cs at hlen h2_3 h2
   exists hlen;clear hsn hx hy ha hb hab hw h2 e2 e3 h1 hr1 hm1 hp1 e1;simp! only [↓aI];intro g H4 hg4 e4 h4;have h2_4:=e4.at h2_3;have hg0:H g=none:=e03.free hg4;ac_rfl;refine cR (xs:=cs.map V.int) (λ j σ H'=>∃ v7:Option V,σ=[some (.int first),some (.ref l),some (.ref q),some (.ref r),some (.int a),some (.int b),some (.ref g),v7]/\Ext H H'/\Ext H3 H'/\H' g=some (.lst ((bU (cs.take j) (a,b)).map V.int))) ⟨_,rfl,e03.trans e4,e4,h4⟩ (λ j σ H' _ ⟨_,_,_,e,_⟩=>e.at h2_3) ?_ ?_
   ·rintro j x _ H5 hj ⟨v7',rfl,e5,e35,h5⟩;rw [NL] at hj;obtain⟨c,hc,rfl⟩:=NI.mp hj;have hjl:j < cs.length:=(Ny.mp hc).1
    have hwl:(bU (cs.take j) (a,b)).length+a.toNat<=60:=by
     rw [ja,N8]
     show min j cs.length * a.toNat+a.toNat<=60
     have:(min j cs.length+1) * a.toNat<=cs.length * a.toNat:=Qr _ %[0|8];rw [Nat.add_mul,Nat.one_mul] at this;have:=hlen ();omega
    rw [kL cs (a,b) j c hc];generalize bU (cs.take j) (a,b)=ws at h5 hwl;clear hj hc h2_4 h4 e4 k;simp! only [↓aI];refine⟨by omega,by omega,?_⟩;refine bP (List.range a.toNat) (λ _=>true) (λ m=>.int (c+(m:Int) * b)) (λ j x H'=>x=.int (0+(j:Nat))) eX.1 eX.2 (aq (by rw [Oj];omega)) ?_ ?_
    ·intro D m x H' N1 N0 hm' hD e hx k1 _;subst hx;have hmr:=Oi.mp hm'
     have k1':N1 (.int (c+b * (0+(m:Int)))) H':=by
      rw [OJ,ON b];exact k1 rfl H' (Ext.refl _)
     have hcm:lN b (0+(m:Int)):=.inr ⟨by omega,by omega⟩;clear k1 hm';simp! only [↓bG,↓bx]
    ·intro D H6 hD e6 h6';rw [jZ] at h6';have h5_6:=e6.at h5;have hll:ws.length+(List.range a.toNat).length<=sizeLine:=aq (by rw [Oj];omega);clear h5;ac_rfl;refine⟨_,rfl,(e5.trans e6).put hg0,(e35.trans e6).put hg4,?_⟩;rw [Oy,OA];rfl
   ·rintro _ H5 ⟨v7',rfl,e5,e35,h5⟩;rw [Nz,OE] at h5;ac_rfl;exact⟨g,_,_,_,_,rfl,e5,h5⟩
  ·rintro _ H3 ⟨r3,v4,v5,v6,v7,rfl,e3,h3⟩;have hmn:min (ms.map V.int).length (ps.map V.int).length=(ms.zip ps).length:=by rw [Nz,Nz,Pu]
   rw [hmn,OE] at h3;ac_rfl;exact k () r3 H3 e3 h3
theorem vT(cs:List Int)(a:Int × Int)(h:1<=a.1):bU cs (aT a)=bU cs a:=by
 unfold bU
 show (cs.flatMap λ c=>(List.range a.1.toNat).map λ (n:Nat)=>c+(n:Int) * (if a.1 > 1 then a.2 else 0))=_
 by_cases h1:a.1 > 1
 ·rw [N7 h1]
 ·rw [NY h1];have e:a.1.toNat=1:=by omega
  rw [e];refine OM (λ f=>cs.flatMap f) (funext λ c=>?_);simp
theorem oh:∀ (axs:List (Int × Int)) (cs:List Int),(∀ a∈axs,(1:Int)<=a.1)->(axs.map aT).foldl bU cs=axs.foldl bU cs
 | [],cs,_=>rfl
 | a::r,cs,h=>by
  rw [OP,Qa,Qa,vT cs a (h a NK),oh r _ λ b hb=>h b (NH _ hb)]
theorem lD(f:Int)(axs:List (Int × Int))(h:∀ a∈axs,(1:Int)<=a.1):af f (axs.map aT)=af f axs:=oh axs [f] h
theorem ll(axs:List (Int × Int)):(axs.map aT).map (λ a=>a.1)=axs.map λ a=>a.1:=by rw [OA];rfl
theorem n9{axs:List (Int × Int)}(h:dt axs):dt (axs.map aT):=⟨by rw [Nz];exact h.1,λ a ha=>by
 obtain⟨b,hb,rfl⟩:=ND.mp ha;exact h.2 b hb⟩
theorem fm:∀ l:List (Int × Int),(∀ a∈l,(1:Int)<=a.1)->aV (l.map aT)=aV l/\aM (l.map aT)=aM l
 | [],_=>⟨rfl,rfl⟩
 | a::r,h=>by
  obtain⟨i1,i2⟩:=fm r λ b hb=>h b (NH _ hb);have ha:=h a NK
  have e:((aT a).1 - 1) * (aT a).2=(a.1 - 1) * a.2:=by
   show (a.1 - 1) * (if a.1 > 1 then a.2 else 0)=_
   split
   ·rfl
   ·have:a.1=1:=by omega
    rw [this];simp
  rw [OP,dN,dO,dN,dO,e,i1,i2];exact⟨rfl,rfl⟩
theorem yF(ms ws:List Int):(ms.map V.int).zip (ws.map V.int)=(ms.zip ws).map λ z=>(V.int z.1,V.int z.2):=by
 rw [List.zip_map];rfl
theorem BM{H:Hp}{ms ws:List Int}{ts:List V}(al:Al (λ z y=>BN z y H) ((ms.map V.int).zip (ws.map V.int)) ts):Al (dR H) (axL (ms.zip ws)) ts:=by
 rw [yF] at al;refine⟨by rw [al.1];unfold axL;rw [length_map,length_map],λ i z y hz hy=>?_⟩;unfold axL at hz;rw [getElem?_map] at hz;obtain⟨x,hx,rfl⟩:=Option.map_eq_some_iff.mp hz;obtain⟨p,hp,hq⟩:=al.2 i (V.int x.1,V.int x.2) y (by rw [getElem?_map,hx];rfl) hy;exact⟨p,hp,hq⟩
theorem J0{ms ps:List Int}(h:SzK ms)(hl:ps.length=ms.length)(hp:∀ p∈ps,-3<=p/\p<=3):PcK ms ps:=by
 obtain⟨_,_,_,_,t0,t15⟩:=h.bounds;have one:∀ m∈ms,(1:Int)<=m:=λ m hm=>(h.pos.1 m hm).1;have hs:=jc ms ps 3 one hl (λ p hq=>by have:=hp p hq;omega) ⋯;exact⟨hl,jY ms * 3,6,hs,λ p hq=>by have:=hp p hq;omega,by decide,by omega,by omega⟩
structure Bf(ms:List Int)(room f:Int)(ps:List Int):Prop where
 len:ps.length=ms.length
 lo:0<=f+aV (ms.zip ps)
 hi:f+aM (ms.zip ps) < room
theorem ma{ms ps:List Int}(h:SzK ms)(hl:ps.length=ms.length):dt (ms.zip ps):=⟨by rw [Pu];have:=h.pos.2.1;omega,λ a ha=>by
 have:=h.pos.1 a.1 (P8 (show (a.1,a.2)∈ms.zip ps from ha)).1;omega⟩
theorem uX{ms ps:List Int}(hl:ps.length=ms.length):(ms.zip ps).map (λ a=>a.1)=ms:=by
 rw [show (λ a:Int × Int=>a.1)=Prod.fst from rfl,RG %[0|8]]
theorem Bf.view{ms ps:List Int}{room f:Int}(h:Bf ms room f ps)(hs:SzK ms)(r1:1<=room)(r2:room<=4096):qZ room f (ms.zip ps):=by
 have hax:=ma hs h.len;obtain⟨g1,g2⟩:=fm (ms.zip ps) λ a ha=>(hax.2 a ha).1;have:=h.lo;have:=h.hi;exact⟨hax,r1,by omega,by rw [g1];omega,by rw [g2];omega⟩
theorem vV{ms ps qs:List Int}(hs:SzK ms)(hp:PcK ms ps)(hq:OtK ms ps qs):∃ S1 S2:Int,aM (ms.zip ps) - aV (ms.zip ps)<=S1/\aM (ms.zip qs) - aV (ms.zip qs)<=S2/\S1+S2<=3960/\aV (ms.zip ps)<=0/\0<=aM (ms.zip ps)/\aV (ms.zip qs)<=0/\0<=aM (ms.zip qs):=by
 have one:∀ m∈ms,(1:Int)<=m:=λ m hm=>(hs.pos.1 m hm).1;obtain⟨hl,S,B,h1,h2,h3,h4,h5⟩:=hp;obtain⟨a1,a2,a3,_⟩:=me ms ps one hl;obtain⟨b1,b2,b3,_⟩:=me ms qs one hq.1;have hb:=jc ms qs (B+2) one hq.1 (hq.2 B h3 h2) %[0|8];exact⟨S,jY ms * (B+2),by omega,by omega,h5,a2,a3,b2,b3⟩
def BV(K:W.Frag)(a:Addr)(ns:List Int)(C:Addr):Sp:=λ vs H Q E=>∃ (p:Addr) (l:Addr),vs=[.ref p,.ref l]/\(p=a/\SqL K H a (ns.map V.int)/\ns.length<=63/\∃ ms:List Int,H l=some (.lst (ms.map V.int))/\SzK ms/\∀ (room f1 f2:Int) (ps qs:List Int) (x1 x2 c1 c2 r:Addr) (H':Hp),Ext H H'->H' r=some (.tup [.ref x1,.ref x2,.ref c1,.ref c2])->ar C H' x1 room f1 ((ms.zip ps).map aT)->ar C H' x2 room f2 ((ms.zip qs).map aT)->H' c1=some (.lst ((af f1 (ms.zip ps)).map V.int))->H' c2=some (.lst ((af f2 (ms.zip qs)).map V.int))->Bf ms room f1 ps->Bf ms room f2 qs->1<=room->room<=4096->(af f1 (ms.zip ps)).Nodup->Q (.ref r) H')
theorem Fm(K:W.Frag)(a:Addr)(ns:List Int)(C:Addr)(p:Addr)(l:Addr)(H:Hp)(Q:VK)(E:XK):BV K a ns C [.ref p,.ref l] H Q E=(p=a/\SqL K H a (ns.map V.int)/\ns.length<=63/\∃ ms:List Int,H l=some (.lst (ms.map V.int))/\SzK ms/\∀ (room f1 f2:Int) (ps qs:List Int) (x1 x2 c1 c2 r:Addr) (H':Hp),Ext H H'->H' r=some (.tup [.ref x1,.ref x2,.ref c1,.ref c2])->ar C H' x1 room f1 ((ms.zip ps).map aT)->ar C H' x2 room f2 ((ms.zip qs).map aT)->H' c1=some (.lst ((af f1 (ms.zip ps)).map V.int))->H' c2=some (.lst ((af f2 (ms.zip qs)).map V.int))->Bf ms room f1 ps->Bf ms room f2 qs->1<=room->room<=4096->(af f1 (ms.zip ps)).Nodup->Q (.ref r) H'):=jU (f:=λ (p:Addr) (l:Addr)=>[.ref p,.ref l]) (λ _ _ _ _ h=>by cases h;exact⟨rfl,rfl⟩) p l
theorem EK(K:W.Frag)(a:Addr)(ns:List Int)(C:Addr){vs:List V}{H:Hp}{Q:VK}{E:XK}(h:BV K a ns C vs H Q E):vs.length=2:=jV h λ _ _=>rfl
theorem ql(T:Tx K mg t)(a:Addr)(ns:List Int):cq P w K mg base CX0 8 t.a__law_two t.d__law_two ["_law_script", "_law_sizes_here"] (BV K a ns t.a_View):=by
 have G__law_draw:=%[dY|38] a ns;have G__law_digits:=%[dg|38];have G__law_once:=%[oQ|38] a ns;have G__law_others:=%[kl|38] a ns;have G__law_least:=%[mO|38];have G__law_most:=%[oR|38];have G__law_cells:=%[mQ|38];have G_View___init__:=%[eZ|38];refine T.F__law_two.ok bL (λ vs H Q E h=>EK _ _ _ _ h) (λ c A o s H vs Q E hr h=>?_)
 ·obtain⟨_,l,rfl,rfl,hS,hl,ms,hm,hsz,kk⟩:=h;rename_i a;refine⟨_,%[%[2,bL,%[_law_once,%[%[0|0],%[%[1|0]|1]|1]|3]|4],%[%[3,bL,%[_law_others,%[%[0|0],%[%[2|0]|1]|1]|3]|4],%[%[4,bL,%[fP,%[_law_draw,%[%[0|0],%[%[0|2],%[%[0|2]|1]|1]|1]|3],%[_law_least,%[%[1|0],%[%[2|0]|1]|1]|3]|11]|4],%[%[5,bL,%[fP,%[_law_draw,%[%[0|0],%[%[0|2],%[%[0|2]|1]|1]|1]|3],%[_law_least,%[%[1|0],%[%[3|0]|1]|1]|3]|11]|4],%[%[%[(dF hr.units),%[_law_draw,%[%[0|0],%[%[0|2],%[%[0|2]|1]|1]|1]|3],%[0|2],(aA _)|14],%[%[5,bL,%[max,(gz rfl),%[%[cp,%[4|0],%[fN,%[%[%[0|2],%[%[0|2],%[(@px _ _ _ _ _ _ gc %[0|2])|1]|1]|1]|17],%[_law_draw,%[%[0|0],%[%[0|2],%[%[0|2]|1]|1]|1]|3],(λ _ _=>rfl)|16]|11],%[%[fP,%[0|2],%[_law_least,%[%[1|0],%[%[3|0]|1]|1]|3]|11]|1]|1]|6]|4]|10],(@aE _)|19],%[%[6,bL,%[max,(gz rfl),%[%[cp,%[4|0],%[_law_most,%[%[1|0],%[%[2|0]|1]|1]|3]|11],%[%[cp,%[5|0],%[_law_most,%[%[1|0],%[%[3|0]|1]|1]|3]|11]|1]|1]|6]|4],%[%[7,bL,%[cp,%[cp,%[6|0],%[0|2]|11],%[_law_draw,%[%[0|0],%[%[0|2],%[%[0|2]|1]|1]|1]|3]|11]|4],%[%[8,bL,%[T.mk_View,G_View___init__,(hr.mono ⋯),∅,T.m_View,T.b_View___init__,.nil,fe,%[%[7|0],%[%[4|0],%[(@kU _ _ _ _ _ _ _ _ rfl ∅ T.z_list ∅ T.z_zip %[%[1|0],%[%[2|0]|1]|1] ∅ ∅ ∅ ∅)|1]|1]|1],⋯,∅,∅|37]|4],%[%[9,bL,%[T.mk_View,G_View___init__,(hr.mono ⋯),∅,T.m_View,T.b_View___init__,.nil,fe,%[%[7|0],%[%[5|0],%[(@kU _ _ _ _ _ _ _ _ rfl ∅ T.z_list ∅ T.z_zip %[%[1|0],%[%[3|0]|1]|1] ∅ ∅ ∅ ∅)|1]|1]|1],⋯,∅,∅|37]|4],%[%[%[%[%[8|0],%[%[9|0],%[%[_law_cells,%[%[4|0],%[%[1|0],%[%[2|0]|1]|1]|1]|3],%[%[_law_cells,%[%[5|0],%[%[1|0],%[%[3|0]|1]|1]|1]|3]|1]|1]|1]|1]|28]|12]|10]|9]|9]|9]|9]|9]|9]|9]|9]|9],?_⟩;rw [show aH ["_law_script", "_law_sizes_here", "_law_paces", "_law_others_here", "_law_first", "_law_begin", "_law_last", "_law_room", "_law_one", "_law_other"] [.ref a,.ref l]=[some (.ref a),some (.ref l),none,none,none,none,none,none,none,none] from rfl];clear G__law_draw G__law_digits G__law_once G__law_others G__law_least G__law_most G__law_cells G_View___init__;have h8:=hsz.pos.2.1;have p60:=hsz.pos.2.2;have m6:=λ (_:Unit)=>hsz.pos.1;exists kk;ac_rfl;rw [AY];refine⟨rfl,hS,hl,ms,hm,hsz,λ ps r1 H2 e2 h2 hpc hij=>?_⟩;exists hij;have hS2:=e2.2 K a _ hS;have hm2:=e2.at hm;have hpl:=hpc.1;ac_rfl;rw [AX];refine⟨rfl,hS2,hl,ms,ps,h2,hpl,by omega,λ qs r3 H3 e3 h3 hot=>?_⟩;have hS3:=e3.2 K a _ hS2;have hm3:=e3.at hm2;have h2_3:=e3.at h2;have hql:=hot.1;obtain⟨S1,S2,b1,b2,b3,b4,b5,b6,b7⟩:=vV hsz hpc hot;exists hpc;exists hot;exists hpl;exists hql;exists hsz;have e03:=e2.trans e3;clear h2 hm2 hS2 e2 e3 hS hm;ac_rfl;rw [cb];refine⟨hS3,hl,⟨by decide,by decide⟩,by decide,λ d1 d10 d11=>?_⟩;ac_rfl;rw [p5];refine⟨ms,ps,hm3,h2_3,m6 (),h8,hpl (),λ H4 e4=>?_⟩;have hS4:=e4.2 K a _ hS3;ac_rfl;rw [cb];refine⟨hS4,hl,⟨by decide,by decide⟩,by decide,λ d2 d20 d21=>?_⟩;ac_rfl;rw [p5];refine⟨ms,qs,e4.at hm3,e4.at h3,m6 (),h8,hql (),λ H5 e5=>?_⟩;have hS5:=e5.2 K a _ hS4;have e35:=e4.trans e5;obtain⟨f1,hf1⟩:∃ f,d1 - aV (ms.zip ps)=f:=⟨_,rfl⟩;obtain⟨g2,hg2⟩:∃ f,d2 - aV (ms.zip qs)=f:=⟨_,rfl⟩;clear hS3 hS4;simp! only [-uK];refine BI (λ σ' H'=>∃ f2:Int,σ'=[some (.ref a),some (.ref l),some (.ref r1),some (.ref r3),some (.int f1),some (.int f2),none,none,none,none]/\Ext H5 H'/\0<=f2+aV (ms.zip qs)/\f2+aM (ms.zip qs)<=13+S1+S2) (λ nx' hn=>?_) ?_
  ·exists hn;ac_rfl;rw [cb];refine⟨hS5,hl,⟨by decide,by decide⟩,by decide,λ g g0 g1=>?_⟩
   by_cases hg:g=0
   ·ac_rfl;intro q6 H6 hq6 e6 h6;have hS6:=e6.2 K a _ hS5;clear hq6;ac_rfl;rw [cb];refine⟨hS6,hl,⟨by decide,by decide⟩,by decide,λ x x0 x1=>?_⟩;ac_rfl;refine gv (λ j=>-1<=j/\j<=1) x0 x1 (λ v hv=>?_) λ j hj=>?_
    ·simp only [NR,NN,Ob] at hv
     rcases hv with rfl|rfl|rfl<;>exact⟨_,rfl,by decide⟩
    clear h6;ac_rfl;rw [p5];refine⟨ms,qs,(e35.trans e6).at hm3,(e35.trans e6).at h3,m6 (),h8,hql (),λ H7 e7=>?_⟩;have hn':=hn () [some (.ref a),some (.ref l),some (.ref r1),some (.ref r3),some (.int f1),some (.int (if f1+j < 0 - aV (ms.zip qs) then 0 - aV (ms.zip qs) else f1+j)),none,none,none,none] H7 ⟨_,rfl,e6.trans e7,by split<;>omega,by split<;>omega⟩;clear hn;ac_rfl
   ·have hn':=hn () [some (.ref a),some (.ref l),some (.ref r1),some (.ref r3),some (.int f1),some (.int g2),none,none,none,none] H5 ⟨g2,rfl,Ext.refl _,by omega,by omega⟩;clear hn;ac_rfl
  rintro _ H6 ⟨f2,rfl,e6,lo2,hi2⟩;have e36:=e35.trans e6;have hm6:=e36.at hm3;have h2_6:=e36.at h2_3;have h3_6:=e36.at h3;have hS6:=e6.2 K a _ hS5;have lo1:0<=f1+aV (ms.zip ps):=by omega
  have hi1:f1+aM (ms.zip ps)<=12+S1:=by omega
  clear hS5 e4 e5 e6 e35 hm3 h2_3 h3 hf1 hg2;ac_rfl;rw [vI];refine⟨ms,ps,hm6,h2_6,m6 (),h8,hpl (),λ H7 e7=>?_⟩;ac_rfl;rw [vI];refine⟨ms,qs,e7.at hm6,e7.at h3_6,m6 (),h8,hql (),λ H8 e8=>?_⟩;have e68:=e7.trans e8;have hS8:=e68.2 K a _ hS6;have hm8:=e68.at hm6;have h2_8:=e68.at h2_6;have h3_8:=e68.at h3_6;obtain⟨la,hla⟩:∃ la,(if f1+aM (ms.zip ps) < f2+aM (ms.zip qs) then f2+aM (ms.zip qs) else f1+aM (ms.zip ps))=la:=⟨_,rfl⟩
  have la1:f1+aM (ms.zip ps)<=la/\f2+aM (ms.zip qs)<=la/\la<=13+S1+S2:=by
   rw [←hla]
   split<;>omega
  clear hm6 h2_6 h3_6 hS6 e7;ac_rfl;rw [cb];refine⟨hS8,hl,⟨by decide,by decide⟩,by decide,λ d3 d30 d31=>?_⟩;obtain⟨room,hroom⟩:∃ r,la+1+d3=r:=⟨_,rfl⟩;have rm1:1<=room:=by omega
  have rm2:room<=4096:=by omega
  have o1:Bf ms room f1 ps:=⟨hpl (),lo1,by omega⟩;have o2:Bf ms room f2 qs:=⟨hql (),lo2,by omega⟩;have v1:=o1.view (hsz ()) rm1 rm2;have v2:=o2.view (hsz ()) rm1 rm2;exists o1;exists o2;clear hla la1 lo1 hi1 lo2 hi2 b1 b2 b3 b4 b5 b6 b7 d10 d11 d20 d21;ac_rfl;rw [FR];intro D1 ts1 H9 hD1 e9 h9 al9;have t9:=BM al9;have hm9:=e9.at hm8;have h3_9:=e9.at h3_8;clear al9 hD1;ac_rfl;intro x1 dx1 G1 hx1 hdx1 hne1 g1 k1 k1';rw [jt];refine⟨dx1,ms.zip ps,k1,bE.ext ⟨ts1,h9,t9⟩ g1,v1,λ G2 D2 g2' hD2 hx2 tt2=>?_⟩;have eg:=g2' H9 g1 hx1;have vo1:ar t.a_View G2 x1 room f1 ((ms.zip ps).map aT):=⟨dx1,D2,hx2,tt2⟩;have e82:=e9.trans eg;have hm10:=eg.at hm9;have h3_10:=eg.at h3_9;clear h9 t9 hm9 h3_9 k1 k1' hx1 hdx1 hne1 g1 g2' hD2 hx2 tt2 eg;ac_rfl;rw [FR];intro D3 ts3 G3 hD3 g3 k3 al3;have t3:=BM al3;clear al3 hD3;ac_rfl;intro x2 dx2 G4 hx2 hdx2 hne2 g4 k4 k4';rw [jt];refine⟨dx2,ms.zip qs,k4,bE.ext ⟨ts3,k3,t3⟩ g4,v2,λ G5 D5 g5' hD5 hx5 tt5=>?_⟩;have eg2:=g3.trans (g5' G3 g4 hx2);have vo2:ar t.a_View G5 x2 room f2 ((ms.zip qs).map aT):=⟨dx2,D5,hx5,tt5⟩;have e85:=e82.trans eg2;replace vo1:=vo1.ext eg2;clear k3 t3 k4 k4' hx2 hdx2 hne2 g4 g5' hD5 hx5 tt5 hm10 h3_10;ac_rfl;rw [vJ];refine⟨ms,ps,e85.at hm8,e85.at h2_8,m6 (),h8,hpl (),p60,λ c1 G6 g6 k6=>?_⟩;ac_rfl;rw [vJ];refine⟨ms,qs,(e85.trans g6).at hm8,(e85.trans g6).at h3_8,m6 (),h8,hql (),p60,λ c2 G7 g7 k7=>?_⟩;ac_rfl;intro r G8 hr8 g8 k8;exact kk () room f1 f2 ps qs x1 x2 c1 c2 r G8 (e03.trans (e36.trans (e68.trans (e85.trans (g6.trans (g7.trans g8)))))) k8 (vo1.ext (g6.trans (g7.trans g8))) (vo2.ext (g6.trans (g7.trans g8))) ((g7.trans g8).at k6) (g8.at k7) (o1 ()) (o2 ()) rm1 rm2 ((hij ()).nodup (λ n hn=>by have:=m6 () n hn;omega) (hpl ()) f1)
theorem zx{ws:List Int}{i j:Nat}{c:Int}(h:ws.Nodup)(hij:i < j)(h1:ws[i]? = some c)(h2:ws[j]? = some c):False:=by
 obtain⟨a,ha⟩:=Ny.mp h1;obtain⟨b,hb⟩:=Ny.mp h2;have:=(QF h).mp (ha.trans hb.symm);omega
def pI(C:Addr):Sp:=λ vs H Q E=>∃ (v:Addr),vs=[.ref v]/\(∃ (room first:Int) (axs:List (Int × Int)),ar C H v room first axs/\dt axs/\ae (axs.map λ a=>a.1)<=4096/\((af first axs).Nodup->∀ H',Ext H H'->Q .non H')/\(∀ (i j:Nat) (c:Int) (r p q:Addr) (H':Hp),i < j->(af first axs)[i]? = some c->(af first axs)[j]? = some c->Ext H H'->H' r=some (.tup [.ref p,.ref q])->H' p=some (.tup ((ao (axs.map λ a=>a.1) (i:Int)).map V.int))->H' q=some (.tup ((ao (axs.map λ a=>a.1) (j:Int)).map V.int))->Q (.ref r) H'))
theorem xW(C:Addr)(v:Addr)(H:Hp)(Q:VK)(E:XK):pI C [.ref v] H Q E=(∃ (room first:Int) (axs:List (Int × Int)),ar C H v room first axs/\dt axs/\ae (axs.map λ a=>a.1)<=4096/\((af first axs).Nodup->∀ H',Ext H H'->Q .non H')/\(∀ (i j:Nat) (c:Int) (r p q:Addr) (H':Hp),i < j->(af first axs)[i]? = some c->(af first axs)[j]? = some c->Ext H H'->H' r=some (.tup [.ref p,.ref q])->H' p=some (.tup ((ao (axs.map λ a=>a.1) (i:Int)).map V.int))->H' q=some (.tup ((ao (axs.map λ a=>a.1) (j:Int)).map V.int))->Q (.ref r) H')):=lJ (f:=λ (v:Addr)=>[.ref v]) (λ _ _ h=>by cases h;exact rfl) v
theorem xo(C:Addr){vs:List V}{H:Hp}{Q:VK}{E:XK}(h:pI C vs H Q E):vs.length=1:=lK h λ _=>rfl
theorem oN(T:Tx K mg t):cq P w K mg base CX0 5 t.a_has_twice t.d_has_twice ["view"] (pI t.a_View):=by
 have G_View_cells:=%[eW|38];have G_View_sizes:=%[cN|38];have G_place_at:=%[qi|38];refine T.F_has_twice.ok eU (λ vs H Q E h=>xo _ h) (λ c A o s H vs Q E hr h=>?_)
 ·obtain⟨v,rfl,room,first,axs,vo,hax,hc,kN,kT⟩:=h;exists kN;exists kT;obtain⟨dx,l,hv,_⟩:=vo.ob;have vo_hv:=hv;have c1:=T.cl_View
  have f3:=vn room first l (m := "cells") nofun
  have f4:=vn room first l (m := "sizes") nofun
  refine⟨_,%[%[1,eU,(@iG _ _)|4],%[%[NW,rfl,(@Di _ _ _ _ _ _ _ _ ∅ T.z_enumerate %[%[%[0|0],T.cl_View,T.mt_View_cells,G_View_cells,(hr.mono ⋯),T.b_View_cells,.nil,fe,∅|26]|1] ∅),(%[(2),rfl,%[%[2,eU|5],%[%[3,eU|5],(@bj _),∅|15],∅|15],∅,∅|22].mono λ _ _ _ _ h=>di h),%[%[%[(Bx (fO hr.units)),%[3|0],%[1|0],(by with_unfolding_all rfl)|14],%[%[%[%[%[place_at,%[%[%[0|0],T.cl_View,T.mt_View_sizes,G_View_sizes,(hr.mono ⋯),T.b_View_sizes,.nil,fe,∅|26],%[(@vh _ _ _ _ _ _ (fO hr.units) %[1|0] %[3|0] (λ _ _=>rfl))|1]|1]|3],%[%[place_at,%[%[%[0|0],T.cl_View,T.mt_View_sizes,G_View_sizes,(hr.mono ⋯),T.b_View_sizes,.nil,fe,∅|26],%[%[2|0]|1]|1]|3]|1]|1]|28]|12]|10],(@aE _)|19],%[(@lU _ _ _ _ _ _ _ _ _ (fO hr.units) %[1|0] %[3|0] %[2|0] rfl)|10]|9],(by intros;rfl)|20],%[%[(@qT _ _ _)|12]|10]|9]|9],?_⟩;rw [show aH ["view", "seen", "number", "cell"] [.ref v]=[some (.ref v),none,none,none] from rfl];clear G_View_cells G_View_sizes G_place_at;ac_rfl;intro d H1 hd1 e1 h1;have hv1:=e1.at hv;ac_rfl;rw [gC];refine⟨room,first,axs,vo.ext e1,hax,λ _ r2 H2 hr2 e2 h2=>?_,by omega⟩
  have hcl:((af first axs).length:Int)=ae (axs.map λ a=>a.1):=aJ first axs λ b hb=>(hax.2 b hb).1
  generalize af first axs=cs at h2 kN kT hcl
  have h1_2:=e2.at h1;have hv2:=e2.at hv1;ac_rfl;have hsz:=hax.sizes;have hc4:cs.length<=4096:=by omega
  have e02:=e1.trans e2;clear h1 hv1 hv;refine AJ (λ i σ H'=>∃ (kvs:List (Key × V)) (v2 v3:Option V),σ=[some (.ref v),some (.ref d),v2,v3]/\Ext H H'/\H' r2=some (.lst (cs.map V.int))/\H' d=some (.dK kvs)/\kvs.length<=i/\(cs.take i).Nodup/\(∀ c,fB kvs (.inl c)=none->c ∉ cs.take i)/\∀ c x,fB kvs (.inl c)=some x->∃ k:Nat,k < i/\x=.int (k:Int)/\cs[k]? = some c) ⟨[],none,none,rfl,e02,h2,h1_2,NF _,P0,λ c _=>NN,λ c x h=>by cases h⟩ (λ i σ H' ⟨_,_,_,_,_,h,_⟩=>h) ?_ ?_
  ·rintro i u p _ H3 H4 hi ⟨kvs,v2,v3,rfl,e3,h3,hd3,hkl,hnd,hB,hC⟩ hp3 e4 h4;rw [NL] at hi;obtain⟨c,hci,rfl⟩:=NI.mp hi;have hil:i < cs.length:=(Ny.mp hci).1;have hd4:=e4.at hd3;have h3_4:=e4.at h3;have eH4:=e3.trans e4;have hv4:=eH4.at vo_hv;clear hi;simp! only [↓aI];refine Bj (k:=.inl c) hd4 ?_
   cases hvv:fB kvs (.inl c) with
   | some x=>
    obtain⟨k,hki,rfl,hck⟩:=hC c x hvv;have hkl':k < cs.length:=by omega
    clear kN hB hC hnd;ac_rfl;rw [cW];refine⟨room,first,axs,vo.ext eH4,hax.1,λ r5 H5 hr5 e5 h5=>?_⟩;have hd5:=e5.at hd4;have hv5:=e5.at hv4;clear hd4 hv4;ac_rfl;refine Bk (k:=.inl c) hd5 hvv ?_;ac_rfl;rw [jI];refine⟨_,h5,hsz,by omega,by omega,?_⟩;rw [qM];intro r6 H6 hr6 e6 h6;have hv6:=e6.at hv5;clear hv5;ac_rfl;rw [cW];refine⟨room,first,axs,vo.ext (eH4.trans (e5.trans e6)),hax.1,λ r7 H7 hr7 e7 h7=>?_⟩;ac_rfl;rw [jI];refine⟨_,h7,hsz,by omega,by omega,?_⟩;rw [qM];intro r8 H8 hr8 e8 h8;ac_rfl;intro r9 H9 hr9 e9 h9;exact kT () k i c r9 r6 r8 H9 hki hck hci (eH4.trans (e5.trans (e6.trans (e7.trans (e8.trans e9))))) h9 ((e7.trans (e8.trans e9)).at h6) (e9.at h8)
   | none=>
    have hlt:kvs.length < sizeLine:=fQ %[0|8];have hnr:r2 ≠ d:=λ z=>by rw [z,hd4] at h3_4;cases h3_4
    clear kN kT;ac_rfl;refine qP (k:=.inl c) hd4 hlt ?_;refine⟨_,_,_,rfl,eH4.put hd1,by rw [ag hnr];exact h3_4,au,?_,?_,λ c' hc' hm=>?_,λ c' x hc'=>?_⟩
    ·rw [rA _ hvv,NP];simp;omega
    ·rw [OH,hci];exact Pb.mpr ⟨hnd,by simp,λ a ha b hb=>by rw [Rl,NC] at hb;subst hb;exact λ e=>hB _ hvv (e ▸ ha)⟩
    ·rw [iF] at hc';split at hc'
     ·cases hc'
     ·rename_i hne;rw [OH,hci] at hm
      rcases N2.mp hm with hm|hm
      ·exact hB c' hc' hm
      ·rw [Rl,NC] at hm;exact hne (by rw [hm])
    ·rw [iF] at hc';split at hc'
     ·rename_i he;cases hc';cases he;exact⟨i,OW _,rfl,hci⟩
     ·obtain⟨k,k1,k2,k3⟩:=hC c' x hc';exact⟨k,by omega,k2,k3⟩
  ·rintro _ H3 ⟨kvs,v2,v3,rfl,e3,h3,hd3,hkl,hnd,hB,hC⟩;rw [Nz,OE] at hnd;have k':=kN () hnd H3 e3;clear kN kT;ac_rfl
def pK(C:Addr):Sp:=λ vs H Q E=>∃ (u:Addr) (v:Addr),vs=[.ref u,.ref v]/\(∃ (room f1 f2:Int) (A B:List (Int × Int)),ar C H u room f1 A/\ar C H v room f2 B/\Q .non H)
theorem xX(C:Addr)(u:Addr)(v:Addr)(H:Hp)(Q:VK)(E:XK):pK C [.ref u,.ref v] H Q E=(∃ (room f1 f2:Int) (A B:List (Int × Int)),ar C H u room f1 A/\ar C H v room f2 B/\Q .non H):=jU (f:=λ (u:Addr) (v:Addr)=>[.ref u,.ref v]) (λ _ _ _ _ h=>by cases h;exact⟨rfl,rfl⟩) u v
theorem xq(C:Addr){vs:List V}{H:Hp}{Q:VK}{E:XK}(h:pK C vs H Q E):vs.length=2:=jV h λ _ _=>rfl
theorem jN(T:Tx K mg t):cq P w K mg base CX0 1 t.a_refuse_rooms t.d_refuse_rooms ["one", "other"] (pK t.a_View):=by
 refine T.F_refuse_rooms.ok ko (λ vs H Q E h=>xq _ h) (λ c A o s H vs Q E hr h=>?_)
 ·obtain⟨u,v,rfl,room,f1,f2,A,B,vu,vv,k⟩:=h;obtain⟨dx,D,hu,_⟩:=vu.ob;obtain⟨dy,D2,hv,_⟩:=vv.ob;have c1:=T.cl_View;have c4:=T.na_View_room;have g1:=gR room f1 D;have g2:=gR room f2 D2;refine⟨_,%[%[%[(kF hr.units),%[%[0|0],rfl|25],%[%[1|0],rfl|25],(aA _)|14],%[(@eN _ _)|10],(@aE _)|19]|10],?_⟩;rw [show aH ["one", "other"] [.ref u,.ref v]=[some (.ref u),some (.ref v)] from rfl];ac_rfl
def mm(C:Addr):Sp:=λ vs H Q E=>∃ (u:Addr) (v:Addr),vs=[.ref u,.ref v]/\(∃ (r1 r2 f1 f2:Int) (A B:List (Int × Int)),ar C H u r1 f1 A/\ar C H v r2 f2 B/\A.length<=8/\(A.map λ a=>a.1)=(B.map λ a=>a.1)/\∀ H',Ext H H'->Q .non H')
theorem tO(C:Addr)(u:Addr)(v:Addr)(H:Hp)(Q:VK)(E:XK):mm C [.ref u,.ref v] H Q E=(∃ (r1 r2 f1 f2:Int) (A B:List (Int × Int)),ar C H u r1 f1 A/\ar C H v r2 f2 B/\A.length<=8/\(A.map λ a=>a.1)=(B.map λ a=>a.1)/\∀ H',Ext H H'->Q .non H'):=jU (f:=λ (u:Addr) (v:Addr)=>[.ref u,.ref v]) (λ _ _ _ _ h=>by cases h;exact⟨rfl,rfl⟩) u v
theorem tE(C:Addr){vs:List V}{H:Hp}{Q:VK}{E:XK}(h:mm C vs H Q E):vs.length=2:=jV h λ _ _=>rfl
theorem ff(T:Tx K mg t):cq P w K mg base CX0 2 t.a_refuse_sizes_unlike t.d_refuse_sizes_unlike ["to", "source"] (mm t.a_View):=by
 have G_View_sizes:=%[cN|38];refine T.F_refuse_sizes_unlike.ok fA (λ vs H Q E h=>tE _ h) (λ c A o s H vs Q E hr h=>?_)
 ·obtain⟨u,v,rfl,r1,r2,f1,f2,A,B,vu,vv,h8,hs,k⟩:=h;obtain⟨dx,D,hu,_⟩:=vu.ob;obtain⟨dy,D2,hv,_⟩:=vv.ob;have c1:=T.cl_View;have g1:=vn r1 f1 D (m := "sizes") nofun;have g2:=vn r2 f2 D2 (m := "sizes") nofun;refine⟨_,%[%[%[(kF hr.units),%[%[0|0],T.cl_View,T.mt_View_sizes,G_View_sizes,(hr.mono ⋯),T.b_View_sizes,.nil,fe,∅|26],%[%[1|0],T.cl_View,T.mt_View_sizes,G_View_sizes,(hr.mono ⋯),T.b_View_sizes,.nil,fe,∅|26],(aA _)|14],%[(@eN _ _)|10],(@aE _)|19]|10],?_⟩;rw [show aH ["to", "source"] [.ref u,.ref v]=[some (.ref u),some (.ref v)] from rfl];clear G_View_sizes;have hl:B.length<=8:=by have:=OM List.length hs;rw [Nz,Nz] at this;omega
  exists k;exists hs;ac_rfl;rw [cW];refine⟨r1,f1,A,vu,h8,λ q1 H1 hq1 e1 h1=>?_⟩;have hv1:=e1.at hv;clear hq1;ac_rfl;rw [cW];refine⟨r2,f2,B,vv.ext e1,hl,λ q2 H2 hq2 e2 h2=>?_⟩;have h1_2:=e2.at h1;rw [←hs ()] at h2;have k':=k () H2 (e1.trans e2);clear k hq2 h1;ac_rfl
def pM(C:Addr):Sp:=λ vs H Q E=>∃ (v:Addr),vs=[.ref v]/\(∃ (room first:Int) (axs:List (Int × Int)),ar C H v room first axs/\dt axs/\ae (axs.map λ a=>a.1)<=4096/\(af first axs).Nodup/\∀ H',Ext H H'->Q .non H')
theorem xY(C:Addr)(v:Addr)(H:Hp)(Q:VK)(E:XK):pM C [.ref v] H Q E=(∃ (room first:Int) (axs:List (Int × Int)),ar C H v room first axs/\dt axs/\ae (axs.map λ a=>a.1)<=4096/\(af first axs).Nodup/\∀ H',Ext H H'->Q .non H'):=lJ (f:=λ (v:Addr)=>[.ref v]) (λ _ _ h=>by cases h;exact rfl) v
theorem xt(C:Addr){vs:List V}{H:Hp}{Q:VK}{E:XK}(h:pM C vs H Q E):vs.length=1:=lK h λ _=>rfl
theorem jM(T:Tx K mg t):cq P w K mg base CX0 6 t.a_refuse_twice t.d_refuse_twice ["view"] (pM t.a_View):=by
 have G_has_twice:=%[oN|38];refine T.F_refuse_twice.ok fX (λ vs H Q E h=>xt _ h) (λ c A o s H vs Q E hr h=>?_)
 ·obtain⟨v,rfl,room,first,axs,vo,hax,hc,hnd,kN⟩:=h;refine⟨_,%[%[1,fX,%[has_twice,%[%[0|0]|1]|3]|4],%[%[%[rD,%[1|0],(@qT _ _ _),(aA _)|14],%[(@eN _ _)|10],(@aE _)|19]|10]|9],?_⟩;rw [show aH ["view", "found"] [.ref v]=[some (.ref v),none] from rfl];clear G_has_twice;exists kN;ac_rfl;rw [xW];refine⟨room,first,axs,vo,hax,hc,λ _ H1 e1=>?_,λ i j c r p q H1 hij hi hj e1 hr1 hp1 hq1=>(zx hnd hij hi hj).elim⟩;have k':=kN () H1 e1;clear kN hnd;ac_rfl
theorem y9{κ:Type}[DecidableEq κ](kvs:List (κ × V))(k:κ)(v:V):(ku kvs k v).length<=kvs.length+1:=by
 unfold ku;split
 ·rw [Nz];omega
 ·rw [NP];simp
structure qI(ws rs:List Int)(ys:List V)(i:Nat)(kvs:List (Key × V)):Prop where
 len:kvs.length<=i
 get:∀ c x,fB kvs (.inl c)=some x->∃ n,n < i/\ws[n]? = some c/\rs[n]? ≠ some c/\ys[n]? = some x
 has:∀ n c,n < i->ws[n]? = some c->rs[n]? ≠ some c->fB kvs (.inl c) ≠ none
theorem qI.nil{ws rs:List Int}{ys:List V}:qI ws rs ys 0 []:=⟨NF _,(λ c x h=>by cases h),λ n c h=>absurd h (RM _)⟩
theorem qI.skip{ws rs:List Int}{ys:List V}{i:Nat}{kvs:List (Key × V)}{c:Int}(h:qI ws rs ys i kvs)(hw:ws[i]? = some c)(hr:rs[i]? = some c):qI ws rs ys (i+1) kvs:=by
 refine⟨by have:=h.len;omega,λ c x hc=>?_,λ n c' hn h1 h2=>?_⟩
 ·obtain⟨n,a,b⟩:=h.get c x hc;exact⟨n,by omega,b⟩
 ·by_cases hni:n=i
  ·subst hni;rw [hw] at h1;cases h1;exact absurd hr h2
  ·exact h.has n c' %[0|8] h1 h2
theorem qI.put{ws rs:List Int}{ys:List V}{i:Nat}{kvs:List (Key × V)}{c d:Int}{u:V}(h:qI ws rs ys i kvs)(hw:ws[i]? = some c)(hr:rs[i]? = some d)(hcd:¬ c=d)(hu:ys[i]? = some u):qI ws rs ys (i+1) (ku kvs (.inl c) u):=by
 refine⟨by have:=h.len;have:=y9 kvs (.inl c) u;omega,λ c' x hc=>?_,λ n c' hn h1 h2=>?_⟩
 ·rw [iF] at hc;split at hc
  ·rename_i he;cases hc;cases he;exact⟨i,OW _,hw,λ e=>hcd (by rw [hr] at e;exact(NX e).symm),hu⟩
  ·obtain⟨n,a,b⟩:=h.get c' x hc;exact⟨n,by omega,b⟩
 ·rw [iF];split
  ·exact Rc _
  ·rename_i hne
   by_cases hni:n=i
   ·subst hni;rw [hw] at h1;cases h1;exact absurd rfl hne
   ·exact h.has n c' %[0|8] h1 h2
def uA(C:Addr):Sp:=λ vs H Q E=>∃ (u:Addr) (v:Addr) (l:Addr),vs=[.ref u,.ref v,.ref l]/\(∃ (room f1 f2:Int) (A B:List (Int × Int)) (ys:List V),ar C H u room f1 A/\ar C H v room f2 B/\dt A/\dt B/\(A.map λ a=>a.1)=(B.map λ a=>a.1)/\ae (A.map λ a=>a.1)<=4096/\H l=some (.lst ys)/\(ys.length:Int)=ae (A.map λ a=>a.1)/\∀ (d:Addr) (kvs:List (Key × V)) (H':Hp),Ext H H'->H d=none->H' d=some (.dK kvs)->qI (af f1 A) (af f2 B) ys ys.length kvs->Q (.ref d) H')
theorem A7(C:Addr)(u:Addr)(v:Addr)(l:Addr)(H:Hp)(Q:VK)(E:XK):uA C [.ref u,.ref v,.ref l] H Q E=(∃ (room f1 f2:Int) (A B:List (Int × Int)) (ys:List V),ar C H u room f1 A/\ar C H v room f2 B/\dt A/\dt B/\(A.map λ a=>a.1)=(B.map λ a=>a.1)/\ae (A.map λ a=>a.1)<=4096/\H l=some (.lst ys)/\(ys.length:Int)=ae (A.map λ a=>a.1)/\∀ (d:Addr) (kvs:List (Key × V)) (H':Hp),Ext H H'->H d=none->H' d=some (.dK kvs)->qI (af f1 A) (af f2 B) ys ys.length kvs->Q (.ref d) H'):=Bc (f:=λ (u:Addr) (v:Addr) (l:Addr)=>[.ref u,.ref v,.ref l]) (λ _ _ _ _ _ _ h=>by cases h;exact⟨rfl,rfl,rfl⟩) u v l
theorem An(C:Addr){vs:List V}{H:Hp}{Q:VK}{E:XK}(h:uA C vs H Q E):vs.length=3:=Bd h λ _ _ _=>rfl
theorem fg(T:Tx K mg t):cq P w K mg base CX0 5 t.a_places_written_anew t.d_places_written_anew ["to", "source", "spots"] (uA t.a_View):=by
 have G_View_cells:=%[eW|38];refine T.F_places_written_anew.ok aQ (λ vs H Q E h=>An _ h) (λ c A o s H vs Q E hr h=>?_)
 ·obtain⟨u,v,l,rfl,room,f1,f2,A,B,ys,vu,vv,hA,hB,hs,hc,hl,hyl,k⟩:=h;obtain⟨dx,D,hu,_⟩:=vu.ob;obtain⟨dy,D2,hv,_⟩:=vv.ob;have c1:=T.cl_View;have g1:=vn room f1 D (m := "cells") nofun;have g2:=vn room f2 D2 (m := "cells") nofun;refine⟨_,%[%[3,aQ,(@iG _ _)|4],%[%[NW,rfl,(@Dg _ _ _ _ _ _ _ _ _ _ ∅ T.z_zip %[%[2|0],%[%[%[0|0],T.cl_View,T.mt_View_cells,G_View_cells,(hr.mono ⋯),T.b_View_cells,.nil,fe,∅|26],%[%[%[1|0],T.cl_View,T.mt_View_cells,G_View_cells,(hr.mono ⋯),T.b_View_cells,.nil,fe,∅|26]|1]|1]|1] ∅ ∅),(%[(3),rfl,%[%[4,aQ|5],%[%[5,aQ|5],%[%[6,aQ|5],(@bj _),∅|15],∅|15],∅|15],∅,∅|22].mono λ _ _ _ _ h=>di h),%[%[%[(kF hr.units),%[5|0],%[6|0],(aA _)|14],%[(@lU _ _ _ _ _ _ _ _ _ (fO hr.units) %[3|0] %[5|0] %[4|0] rfl)|10],(@aE _)|19]|10],(by intros;rfl)|20],%[%[%[3|0]|12]|10]|9]|9],?_⟩;rw [show aH ["to", "source", "spots", "found", "place", "cell", "origin"] [.ref u,.ref v,.ref l]=[some (.ref u),some (.ref v),some (.ref l),none,none,none,none] from rfl];clear G_View_cells;exists k;have l1:=aJ f1 A λ b hb=>(hA.2 b hb).1;have l2:=aJ f2 B λ b hb=>(hB.2 b hb).1;rw [←hs] at l2;ac_rfl;intro d H1 hd e1 h1;have hu1:=e1.at hu;have hl1:=e1.at hl;ac_rfl;rw [gC];refine⟨room,f1,A,vu.ext e1,hA,λ _ r2 H2 hr2 e2 h2=>?_,by omega⟩;have hv2:=(e1.trans e2).at hv;have hl2:=e2.at hl1;have h1_2:=e2.at h1;clear hr2 hu1 hl1 h1;ac_rfl;rw [gC];refine⟨room,f2,B,vv.ext (e1.trans e2),hB,λ _ r3 H3 hr3 e3 h3=>?_,by rw [←hs];omega⟩;have h2_3:=e3.at h2;have hl3:=e3.at hl2;have h1_3:=e3.at h1_2;have e03:=e1.trans (e2.trans e3);generalize af f1 A=ws at *;generalize af f2 B=rs at *;clear hr3 hv2 hl2 h1_2 h2 hu hv;ac_rfl;refine AH (xs:=ys) (ys:=ws.map V.int) (us:=rs.map V.int) (λ i σ H'=>∃ (kvs:List (Key × V)) (v4 v5 v6:Option V),σ=[some (.ref u),some (.ref v),some (.ref l),some (.ref d),v4,v5,v6]/\Ext H H'/\H' l=some (.lst ys)/\H' r2=some (.lst (ws.map V.int))/\H' r3=some (.lst (rs.map V.int))/\H' d=some (.dK kvs)/\qI ws rs ys i kvs) ⟨[],none,none,none,rfl,e03,hl3,h2_3,h3,h1_3,qI.nil⟩ (λ i σ H' ⟨_,_,_,_,_,_,a,b,c,_⟩=>⟨a,b,c⟩) ?_ ?_
  ·rintro i x y z p _ H4 H5 hx hy hz ⟨kvs,v4,v5,v6,rfl,e4,hl4,h2_4,h3_4,hd4,hwr⟩ hp e5 h5;rw [NL] at hy hz;obtain⟨wc,hw,rfl⟩:=NI.mp hy;obtain⟨rc,hr',rfl⟩:=NI.mp hz;have hi:i < ys.length:=(Ny.mp hx).1;have hl5:=e5.at hl4;have h2_5:=e5.at h2_4;have h3_5:=e5.at h3_4;have hd5:=e5.at hd4;have hlt:kvs.length < sizeLine:=fQ (by have:=hwr.len;omega);have e05:=e4.trans e5
   by_cases hne:wc=rc
   ·subst hne;have hn:=hwr.skip hw hr';exists hn;clear hwr hx hy hz hw hr' hl4 h2_4 h3_4 hd4 k hp;simp! only [↓aI];exact⟨kvs,_,_,_,rfl,e05,rfl,hn ()⟩
   ·have hn:=hwr.put hw hr' hne hx;exists hn;have n1:l ≠ d:=λ z=>by rw [z,hd5] at hl5;cases hl5
    have n2:r2 ≠ d:=λ z=>by rw [z,hd5] at h2_5;cases h2_5
    have n3:r3 ≠ d:=λ z=>by rw [z,hd5] at h3_5;cases h3_5
    clear hwr hx hy hz hw hr' hl4 h2_4 h3_4 hd4 k hp;simp! only [↓aI];refine qP (k:=.inl wc) hd5 hlt ?_;exact⟨_,_,_,_,rfl,e05.put hd,by rw [ag n1];exact hl5,by rw [ag n2];exact h2_5,by rw [ag n3];exact h3_5,au,hn ()⟩
  ·rintro _ H4 ⟨kvs,v4,v5,v6,rfl,e4,hl4,h2_4,h3_4,hd4,hwr⟩;have hmn:min ys.length (min (ws.map V.int).length (rs.map V.int).length)=ys.length:=by rw [Nz,Nz];omega
   rw [hmn] at hwr;have k':=k () d kvs H4 e4 hd hd4 hwr;clear k hwr hmn;ac_rfl
def dE(ws rs:List Int)(j:Nat):List (Nat × Nat):=match rs[j]? with
 | some c=>(match ws.findIdx? (λ x=>decide (x=c)) with
  | some i=>if rs[i]? = some c then [] else [(i,j)]
  | none=>[])
 | none=>[]
def aL(ws rs:List Int)(n:Nat):List (Nat × Nat):=(List.range n).flatMap (dE ws rs)
theorem jB(ws rs:List Int)(n:Nat):aL ws rs (n+1)=aL ws rs n++dE ws rs n:=by
 unfold aL;rw [List.range_succ,List.flatMap_append,List.flatMap_singleton]
theorem vz{ws:List Int}{c:Int}{n:Nat}(hnd:ws.Nodup)(h:ws[n]? = some c):ws.findIdx? (λ x=>decide (x=c))=some n:=by
 obtain⟨hn,he⟩:=Ny.mp h;rw [Ph];refine⟨hn,NT he,λ j hj=>?_⟩;intro hjc;have e2:=Oz hjc;exact absurd ((QF hnd).mp (e2.trans he.symm)) %[0|8]
theorem qI.pair{ws rs:List Int}{ys:List V}{kvs:List (Key × V)}{c:Int}{j n:Nat}(h:qI ws rs ys n kvs)(hnd:ws.Nodup)(hl:ws.length<=n)(hj:rs[j]? = some c) :
  (fB kvs (.inl c)=none->dE ws rs j=[])/\∀ x,fB kvs (.inl c)=some x->∃ i,dE ws rs j=[(i,j)]/\ys[i]? = some x:=by
 refine⟨λ hv=>?_,λ x hv=>?_⟩
 ·unfold dE;rw [hj]
  show (match ws.findIdx? (λ x=>decide (x=c)) with|some i=>if rs[i]? = some c then [] else [(i,j)]|none=>[])=[]
  cases hf:ws.findIdx? (λ x=>decide (x=c)) with
  | none=>rfl
  | some i=>
   rw [Ph] at hf;obtain⟨hi,he,_⟩:=hf;have he':=Oz he
   by_cases hr:rs[i]? = some c
   ·show (if rs[i]? = some c then [] else [(i,j)])=[]
    rw [N7 hr]
   ·exact absurd hv (h.has i c %[0|8] (by rw [Nw hi,he']) hr)
 ·obtain⟨i,hi,hw,hr,hx⟩:=h.get c x hv;refine⟨i,?_,hx⟩;unfold dE;rw [hj]
  show (match ws.findIdx? (λ x=>decide (x=c)) with|some i=>if rs[i]? = some c then [] else [(i,j)]|none=>[])=_
  rw [vz hnd hw]
  show (if rs[i]? = some c then [] else [(i,j)])=_
  rw [NY hr]
def gi(H:Hp)(ys:List V)(ij:Nat × Nat)(y:V):Prop:=∃ q u v,y=.ref q/\H q=some (.tup [u,v])/\ys[ij.1]? = some u/\ys[ij.2]? = some v
theorem gi.ext{H H':Hp}{ys:List V}{ij:Nat × Nat}{y:V}(h:gi H ys ij y)(e:Ext H H'):gi H' ys ij y:=by
 obtain⟨q,u,v,h1,h2,h3⟩:=h;exact⟨q,u,v,h1,e.at h2,h3⟩
theorem gi.upd{H:Hp}{ys:List V}{ij:Nat × Nat}{y:V}{r:Addr}{zs:List V}{o:HO}(h:gi H ys ij y)(hr:H r=some (.lst zs)):gi (upd H r o) ys ij y:=by
 obtain⟨q,u,v,h1,h2,h3⟩:=h;exact⟨q,u,v,h1,by rw [ag (λ z=>by rw [z,hr] at h2;cases h2)];exact h2,h3⟩
theorem i9{α:Type}{R:α->V->Prop}{zs:List α}{z:α}{ys:List V}{y:V}(h:Al R zs ys)(r:R z y):Al R (zs++[z]) (ys++[y]):=by
 refine⟨by rw [NP,NP,h.1];rfl,λ i a b ha hb=>?_⟩
 by_cases hi:i < zs.length
 ·rw [Oq hi] at ha;rw [Oq (by rw [h.1];exact hi)] at hb;exact h.2 i a b ha hb
 ·rw [Oh %[0|8]] at ha;rw [Oh (by rw [h.1];omega),h.1] at hb
  have h0:i - zs.length=0:=by
   have:=(Ny.mp ha).1;simp at this;omega
  rw [h0] at ha hb;cases ha;cases hb;exact r
def pS(C:Addr):Sp:=λ vs H Q E=>∃ (u:Addr) (v:Addr),vs=[.ref u,.ref v]/\(∃ (room f1 f2:Int) (A B:List (Int × Int)),ar C H u room f1 A/\ar C H v room f2 B/\dt A/\dt B/\(A.map λ a=>a.1)=(B.map λ a=>a.1)/\ae (A.map λ a=>a.1)<=4096/\(af f1 A).Nodup/\∀ (l r:Addr) (ys zs:List V) (H':Hp),Ext H H'->H r=none->H' l=some (.lst ys)->Al (dR H') (dQ (A.map λ a=>a.1)) ys->H' r=some (.lst zs)->Al (gi H' ys) (aL (af f1 A) (af f2 B) (af f2 B).length) zs->Q (.ref r) H')
theorem oC(C:Addr)(u:Addr)(v:Addr)(H:Hp)(Q:VK)(E:XK):pS C [.ref u,.ref v] H Q E=(∃ (room f1 f2:Int) (A B:List (Int × Int)),ar C H u room f1 A/\ar C H v room f2 B/\dt A/\dt B/\(A.map λ a=>a.1)=(B.map λ a=>a.1)/\ae (A.map λ a=>a.1)<=4096/\(af f1 A).Nodup/\∀ (l r:Addr) (ys zs:List V) (H':Hp),Ext H H'->H r=none->H' l=some (.lst ys)->Al (dR H') (dQ (A.map λ a=>a.1)) ys->H' r=some (.lst zs)->Al (gi H' ys) (aL (af f1 A) (af f2 B) (af f2 B).length) zs->Q (.ref r) H'):=jU (f:=λ (u:Addr) (v:Addr)=>[.ref u,.ref v]) (λ _ _ _ _ h=>by cases h;exact⟨rfl,rfl⟩) u v
theorem xB(C:Addr){vs:List V}{H:Hp}{Q:VK}{E:XK}(h:pS C vs H Q E):vs.length=2:=jV h λ _ _=>rfl
theorem fV(T:Tx K mg t):cq P w K mg base CX0 7 t.a_bound_pairs t.d_bound_pairs ["to", "source"] (pS t.a_View):=by
 have G_refuse_rooms:=%[jN|38];have G_refuse_sizes_unlike:=%[ff|38];have G_refuse_twice:=%[jM|38];have G_places:=%[wx|38];have G_View_sizes:=%[cN|38];have G_View_cells:=%[eW|38];have G_places_written_anew:=%[fg|38];refine T.F_bound_pairs.ok cn (λ vs H Q E h=>xB _ h) (λ c A o s H vs Q E hr h=>?_)
 ·obtain⟨u,v,rfl,room,f1,f2,A,B,vu,vv,hA,hB,hs,hc,hnd,kN⟩:=h;obtain⟨dx,D,hu,_⟩:=vu.ob;obtain⟨dy,D2,hv,_⟩:=vv.ob;have c1:=T.cl_View;have g1:=vn room f1 D (m := "sizes") nofun;have g2:=vn room f2 D2 (m := "cells") nofun;refine⟨_,%[%[%[refuse_rooms,%[%[0|0],%[%[1|0]|1]|1]|3],∅|23],%[%[%[refuse_sizes_unlike,%[%[0|0],%[%[1|0]|1]|1]|3],∅|23],%[%[%[refuse_twice,%[%[0|0]|1]|3],∅|23],%[%[2,cn,%[places,%[%[%[0|0],T.cl_View,T.mt_View_sizes,G_View_sizes,(hr.mono ⋯),T.b_View_sizes,.nil,fe,∅|26]|1]|3]|4],%[%[3,cn,%[places_written_anew,%[%[0|0],%[%[1|0],%[%[2|0]|1]|1]|1]|3]|4],%[%[4,cn,%[(@dh _)|17]|4],%[%[NW,rfl,%[∅,T.z_zip,%[%[2|0],%[%[%[1|0],T.cl_View,T.mt_View_cells,G_View_cells,(hr.mono ⋯),T.b_View_cells,.nil,fe,∅|26]|1]|1],∅,∅|35],(%[(2),rfl,%[%[5,cn|5],%[%[6,cn|5],(@bj _),∅|15],∅|15],∅,∅|22].mono λ _ _ _ _ h=>di h),%[%[%[(Bx (fO hr.units)),%[6|0],%[3|0],(by with_unfolding_all rfl)|14],%[%[%[Od,O6,O5,dJ,%[4|0],%[%[%[(@vh _ _ _ _ _ _ (fO hr.units) %[3|0] %[6|0] (λ _ _=>rfl)),%[%[5|0]|1]|1]|28]|1],∅,∅,∅,∅,∅|33],∅|23]|10],(@aE _)|19]|10],(by intros;rfl)|20],%[%[%[4|0]|12]|10]|9]|9]|9]|9]|9]|9]|9],?_⟩;rw [show aH ["to", "source", "spots", "written", "found", "place", "cell"] [.ref u,.ref v]=[some (.ref u),some (.ref v),none,none,none,none,none] from rfl];clear G_refuse_rooms G_refuse_sizes_unlike G_refuse_twice G_places G_View_sizes G_View_cells G_places_written_anew;exists hs;exists kN;exists hnd;ac_rfl;rw [xX];refine⟨room,f1,f2,A,B,vu,vv,?_⟩;ac_rfl;rw [tO];refine⟨room,room,f1,f2,A,B,vu,vv,hA.1,hs (),λ H1 e1=>?_⟩;have vu1:=vu.ext e1;have vv1:=vv.ext e1;ac_rfl;rw [xY];refine⟨room,f1,A,vu1,hA,hc,hnd (),λ H2 e2=>?_⟩;have kN':=kN ();have e02:=e1.trans e2;have hu2:=e02.at hu;have vu2:=vu.ext e02;have vv2:=vv.ext e02;exists kN';clear kN vu1 vv1;ac_rfl;rw [cW];refine⟨room,f1,A,vu2,hA.1,λ r3 H3 hr3 e3 h3=>?_⟩;have hsz:eA (A.map λ a=>a.1):=hA.sizes;have e03:=e02.trans e3;have vu3:=vu.ext e03;have vv3:=vv.ext e03;clear hr3 hu2 vu2 vv2;simp! only [↓tP,↓pB,↓Cw];refine⟨λ r4 H4 hr4 e4 t4=>?_,by omega⟩;obtain⟨ys,h4,al4⟩:=t4;have e04:=e03.trans e4;have vu4:=vu.ext e04;have vv4:=vv.ext e04;have p1:1<=ae (A.map λ a=>a.1):=ba _ λ m hm=>(hsz.2 m hm).1;have hyl:(ys.length:Int)=ae (A.map λ a=>a.1):=by rw [al4.1,gu];omega
  clear hr4 vu3 vv3 h3;ac_rfl;rw [A7];refine⟨room,f1,f2,A,B,ys,vu4,vv4,hA,hB,hs (),hc,h4,hyl,λ d kvs H5 e5 hd5 h5 hwr=>?_⟩;have e05:=e04.trans e5;have h4_5:=e5.at h4;have al5:=al4.imp λ _ _ t=>dR.ext t e5;have hv5:=e05.at hv;have vv5:=vv.ext e05;have l1:=aJ f1 A λ b hb=>(hA.2 b hb).1;have l2:=aJ f2 B λ b hb=>(hB.2 b hb).1;rw [←hs ()] at l2;clear vu4 vv4 h4 al4;ac_rfl;intro r6 H6 hr6 e6 h6;have hv6:=e6.at hv5;have h4_6:=e6.at h4_5;have h5_6:=e6.at h5;have f6:H r6=none:=e05.free hr6;have n4:r4 ≠ r6:=λ z=>by rw [z,hr6] at h4_5;cases h4_5
  have nd:d ≠ r6:=λ z=>by rw [z,hr6] at h5;cases h5
  clear hv5 h4_5 h5;ac_rfl;rw [gC];refine⟨room,f2,B,vv5.ext e6,hB,λ _ r7 H7 hr7 e7 h7=>?_,by rw [←hs ()];omega⟩;have n7:r7 ≠ r6:=λ z=>by rw [z,h6] at hr7;cases hr7
  have h4_7:=e7.at h4_6;have h5_7:=e7.at h5_6;have h6_7:=e7.at h6;have e07:=e05.trans (e6.trans e7);have e57:=e6.trans e7;have al7:=al5.imp λ _ _ t=>dR.ext t e57;generalize af f1 A=ws at *;generalize af f2 B=rs at *;have hpr:=λ (_:Unit)=>λ {j:Nat} {c:Int} (hj:rs[j]? = some c)=>hwr.pair (hnd ()) %[0|8] hj;clear hr7 hv6 h4_6 h5_6 h6 al5 hr6;ac_rfl;refine pZ (ka:=false) (kb:=false) (xs:=ys) (ys:=rs.map V.int) (λ i σ H'=>∃ (zs:List V) (v5 v6:Option V),σ=[some (.ref u),some (.ref v),some (.ref r4),some (.ref d),some (.ref r6),v5,v6]/\Ext H H'/\H' r4=some (.lst ys)/\H' r7=some (.lst (rs.map V.int))/\H' d=some (.dK kvs)/\H' r6=some (.lst zs)/\Al (dR H') (dQ (A.map λ a=>a.1)) ys/\zs.length<=i/\Al (gi H' ys) (aL ws rs i) zs) ⟨[],none,none,rfl,e07,h4_7,h7,h5_7,h6_7,al7,NF _,Al.nil⟩ (λ i σ H' ⟨_,_,_,_,_,a,b,_⟩=>⟨a,b⟩) ?_ ?_
  ·rintro i x y p _ H8 H9 hx hy ⟨zs,v5,v6,rfl,e8,h4_8,h7_8,h5_8,h6_8,al8,hzl,alp⟩ hp e9 h9;rw [NL] at hy;obtain⟨c,hcr,rfl⟩:=NI.mp hy;have hi:i < ys.length:=(Ny.mp hx).1;have e09:=e8.trans e9;have h4_9:=e9.at h4_8;have h7_9:=e9.at h7_8;have h5_9:=e9.at h5_8;have h6_9:=e9.at h6_8;have al9:=al8.imp λ _ _ t=>dR.ext t e9;have alp9:=alp.imp λ _ _ t=>gi.ext t e9;obtain⟨hno,hyes⟩:=hpr () hcr;have hsc:=jB ws rs i;have hlt:zs.length < sizeLine:=fQ %[0|8];exists hsc;exists al9;exists alp9;exists hno;exists hyes;exists hx;clear hy hcr h4_8 h7_8 h5_8 h6_8 al8 alp hp al7;simp! only [↓aI];refine Bj (k:=.inl c) h5_9 ?_
   cases hvv:fB kvs (.inl c) with
   | none=>
    have hn:=hno () hvv;have fin:Al (gi H9 ys) (aL ws rs (i+1)) zs:=by rw [hsc (),hn,QV];exact alp9 ()
    exists fin;clear hno hyes hn hvv;ac_rfl;exact⟨zs,_,_,rfl,e09,rfl,al9 (),by omega,fin ()⟩
   | some x0=>
    obtain⟨i0,hpa,hy0⟩:=hyes () x0 hvv;exists hpa;exists hy0;have hvv':=hvv;exists hvv;clear hno hyes hvv';ac_rfl;refine Bk (k:=.inl c) h5_9 (hvv ()) ?_;ac_rfl;intro q10 H10 hq10 e10 h10;have h6_10:=e10.at h6_9;have h4_10:=e10.at h4_9;have h7_10:=e10.at h7_9;have h5_10:=e10.at h5_9;clear hq10 h6_9 h4_9 h7_9 h5_9;ac_rfl;refine⟨_,_,_,rfl,(e09.trans e10).put f6,by rw [ag n4];exact h4_10,by rw [ag n7];exact h7_10,by rw [ag nd];exact h5_10,rfl,?_,?_,?_⟩
    ·exact(al9 ()).imp λ _ _ t=>(dR.ext t e10).upd h6_10
    ·rw [NP];show _+1<=_;omega
    ·rw [hsc (),hpa ()];exact i9 ((alp9 ()).imp λ _ _ t=>(gi.ext t e10).upd h6_10) (gi.upd ⟨q10,x0,x,rfl,h10,hy0 (),hx ()⟩ h6_10)
  ·rintro _ H8 ⟨zs,v5,v6,rfl,e8,h4_8,h7_8,h5_8,h6_8,al8,hzl,alp⟩;have hmn:min ys.length (rs.map V.int).length=rs.length:=by rw [Nz];omega
   rw [hmn] at alp;have k':=kN' () r4 r6 ys zs H8 e8 f6 h4_8 al8 h6_8 alp;clear kN' alp al8 hmn hpr hwr;ac_rfl
theorem rn{b:Int}(hb:0<=b):∀ axs:List (Int × Int),aV (aU b axs)=aV axs * b/\aM (aU b axs)=aM axs * b
 | []=>⟨(Qn b).symm,(Qn b).symm⟩
 | a::r=>by
  obtain⟨i1,i2⟩:=rn hb r;have e:aU b (a::r)=(a.1,a.2 * b)::aU b r:=rfl;rw [e,dN,dO,dN,dO,i1,i2,Pl,Pl]
  show min 0 ((a.1 - 1) * (a.2 * b))+_=_/\max 0 ((a.1 - 1) * (a.2 * b))+_=_
  rw [←OU];generalize (a.1 - 1) * a.2=x
  rcases Int.le_total 0 x with hx|hx
  ·have:=PM hx hb;have m1:min 0 x=0:=by omega
   have m2:max 0 x=x:=by omega
   rw [m1,m2,Qn];omega
  ·have:x * b<=0:=Int.mul_nonpos_of_nonpos_of_nonneg hx hb;have m1:min 0 x=x:=by omega
   have m2:max 0 x=0:=by omega
   rw [m1,m2,Qn];omega
theorem AL{room f times:Int}{axs:List (Int × Int)}(h0:0<=f+aV axs)(h1:f+aM axs < room)(ht:1<=times):0<=f * times+aV (aU times axs)/\f * times+aM (aU times axs) < room * times:=by
 obtain⟨e1,e2⟩:=rn (show 0<=times by omega) axs;rw [e1,e2,←Pl,←Pl];refine⟨PM h0 %[0|8],?_⟩;have:=NV (show f+aM axs+1<=room by omega) (show 0<=times by omega);rw [Pl _ 1,Rh] at this;omega
theorem jE(b m:Int):∀ (axs:List (Int × Int)) (cs:List Int),(aU b axs).foldl bU (cs.map λ c=>c * b+m)=(axs.foldl bU cs).map λ c=>c * b+m
 | [],cs=>rfl
 | a::r,cs=>by
  have e:bU (cs.map λ c=>c * b+m) (a.1,a.2 * b)=(bU cs a).map λ c=>c * b+m:=by
   unfold bU;rw [List.flatMap_map,List.map_flatMap];congr 1;funext c;rw [map_map];congr 1;funext n
   show c * b+m+(n:Int) * (a.2 * b)=(c+(n:Int) * a.2) * b+m
   rw [Pl,OU];omega
  have e2:aU b (a::r)=(a.1,a.2 * b)::aU b r:=rfl;rw [e2,Qa,Qa,e,jE b m r]
theorem oW(b m f:Int)(axs:List (Int × Int)):af (f * b+m) (aU b axs)=(af f axs).map λ c=>c * b+m:=jE b m axs [f]
theorem jy(b:Int)(axs:List (Int × Int)):(aU b (axs.map aT)).map aT=aU b (axs.map aT):=by
 unfold aU;rw [map_map,map_map,map_map];refine List.map_congr_left λ a _=>?_
 show aT ((aT a).1,(aT a).2 * b)=((aT a).1,(aT a).2 * b)
 unfold aT
 show (a.1,if a.1 > 1 then (if a.1 > 1 then a.2 else 0) * b else 0)=_
 split
 ·rfl
 ·rw [Qn]
def hV(ns:List Int):Int:=1+fM ns 15 100000000000000
def ph(ns:List Int):Int:=fM ns 16 1000000000
theorem uS(ns:List Int):1<=hV ns/\hV ns<=100000000000000:=by
 have h0:0<=fM ns 15 100000000000000:=Int.emod_nonneg _ ⋯;have h1:fM ns 15 100000000000000 < 100000000000000:=Int.emod_lt_of_pos _ ⋯;unfold hV;omega
theorem Jx(ns:List Int):0<=ph ns/\ph ns < 1000000000:=⟨OV _ ⋯,OG _ ⋯⟩
theorem Jw{room f b m:Int}{axs:List (Int × Int)}(hx:dt axs)(r1:1<=room)(r2:room<=4096)(h0:0<=f+aV axs)(h1:f+aM axs < room)(hb:1<=b/\b<=100000000000000)(hm:0<=m/\m < 1000000000):qZ (room * b+m) (f * b+m) (aU b axs):=by
 have hax:dt (aU b axs):=gU hx;obtain⟨g1,g2⟩:=fm (aU b axs) λ a ha=>(hax.2 a ha).1;obtain⟨s1,s2⟩:=AL h0 h1 hb.1;have k1:room * b<=4096 * b:=NV r2 %[0|8];have k2:1 * b<=room * b:=NV r1 %[0|8];exact⟨hax,by omega,by omega,by rw [g1];omega,by rw [g2];omega⟩
def ur(K:W.Frag)(a:Addr)(ns:List Int)(C:Addr):Sp:=λ vs H Q E=>∃ (p:Addr) (v:Addr),vs=[.ref p,.ref v]/\(p=a/\SqL K H a (ns.map V.int)/\ns.length<=63/\∃ (room f:Int) (A:List (Int × Int)),ar C H v room f A/\dt A/\1<=room/\room<=4096/\0<=f+aV A/\f+aM A < room/\∀ (x:Addr) (H':Hp),Ext H H'->ar C H' x (room * hV ns+ph ns) (f * hV ns+ph ns) ((aU (hV ns) A).map aT)->Q (.ref x) H')
theorem rX(K:W.Frag)(a:Addr)(ns:List Int)(C:Addr)(p:Addr)(v:Addr)(H:Hp)(Q:VK)(E:XK):ur K a ns C [.ref p,.ref v] H Q E=(p=a/\SqL K H a (ns.map V.int)/\ns.length<=63/\∃ (room f:Int) (A:List (Int × Int)),ar C H v room f A/\dt A/\1<=room/\room<=4096/\0<=f+aV A/\f+aM A < room/\∀ (x:Addr) (H':Hp),Ext H H'->ar C H' x (room * hV ns+ph ns) (f * hV ns+ph ns) ((aU (hV ns) A).map aT)->Q (.ref x) H'):=jU (f:=λ (p:Addr) (v:Addr)=>[.ref p,.ref v]) (λ _ _ _ _ h=>by cases h;exact⟨rfl,rfl⟩) p v
theorem Ag(K:W.Frag)(a:Addr)(ns:List Int)(C:Addr){vs:List V}{H:Hp}{Q:VK}{E:XK}(h:ur K a ns C vs H Q E):vs.length=2:=jV h λ _ _=>rfl
theorem qm(T:Tx K mg t)(a:Addr)(ns:List Int):cq P w K mg base CX0 8 t.a__law_far t.d__law_far ["_law_script", "_law_view"] (ur K a ns t.a_View):=by
 have G__law_draw:=%[gG|38] a ns;have G_View___init__:=%[eZ|38];refine T.F__law_far.ok g9 (λ vs H Q E h=>Ag _ _ _ _ h) (λ c A o s H vs Q E hr h=>?_)
 ·obtain⟨_,v,rfl,rfl,hS,hl,room,f,axs,vu,hx,r1,r2,h0,h1,kk⟩:=h;rename_i a;obtain⟨dx,D,hu,tt⟩:=vu.ob;refine⟨_,%[(@gk _ _ (2) _ _ _ _ g9.nd rfl (Or.inr rfl) %[cp,%[0|2],%[_law_draw,%[%[0|0],%[%[0|2],%[%[By,%[0|2],%[0|2]|11]|1]|1]|1]|3]|11] ∅ %[0|7]),%[%[3,g9,%[_law_draw,%[%[0|0],%[%[0|2],%[%[By,%[0|2],%[0|2]|11]|1]|1]|1]|3]|4],%[%[%[T.mk_View,G_View___init__,(hr.mono ⋯),∅,T.m_View,T.b_View___init__,.nil,fe,%[%[cp,%[dU,%[%[1|0],rfl|25],%[2|0]|11],%[3|0]|11],%[%[cp,%[dU,%[%[1|0],rfl|25],%[2|0]|11],%[3|0]|11],%[%[(["_law_size", "_law_pace", "_law_script", "_law_view", "_law_by", "_law_more"]),(2),(aN (aa cV) ["_law_script", "_law_view", "_law_by", "_law_more"] rfl rfl nofun),rfl,%[%[%[1|0],rfl|25]|18],(λ C s₀ H₀ ex pn=>(%[(2),rfl,%[%[(0),_,(show List.Nodup (["_law_size", "_law_pace", "_law_script", "_law_view", "_law_by", "_law_more"]:List Str) from by decide +kernel),rfl,(Or.inl rfl),%[0|7]|13],%[%[(1),_,(show List.Nodup (["_law_size", "_law_pace", "_law_script", "_law_view", "_law_by", "_law_more"]:List Str) from by decide +kernel),rfl,(Or.inl rfl),%[0|7]|13],(@bj _),∅|15],∅|15],∅,∅|22].mono λ _ _ _ _ h=>di h)),(λ C s₀ H₀ ex pn=>(@br _)),(λ C s₀ H₀ ex pn=>%[%[%[0|0],%[%[dU,%[1|0],%[4|0]|11]|1]|1]|28]),(by intros;rfl)|21]|1]|1]|1],⋯,∅,∅|37]|12]|10]|9]|9],?_⟩;rw [show aH ["_law_script", "_law_view", "_law_by", "_law_more"] [.ref a,.ref v]=[some (.ref a),some (.ref v),none,none] from rfl];clear G__law_draw G_View___init__;obtain⟨ys,hD,al⟩:=tt;have hok:=Jw hx r1 r2 h0 h1 (uS ns) (Jx ns);have hB:=uS ns;exists kk;have c1:=T.cl_View;have c2:=T.na_View_first;have c3:=T.na_View_axes;have c4:=T.na_View_room;have g1:=gR room f D;have g2:=eP room f D;have g3:=cE room f D;ac_rfl;rw [oB];refine⟨hS,hl,⟨by decide,by decide⟩,by decide,?_⟩;have eB:1+fM ns 15 100000000000000=hV ns:=rfl;have eM:fM ns 16 1000000000=ph ns:=rfl;ac_rfl;rw [oB];refine⟨hS,hl,⟨by decide,by decide⟩,by decide,?_⟩;rw [eM];generalize hV ns=b at *;generalize ph ns=m at *;have hcm1:lN room b:=.inr %[0|8];have hcm2:lN f b:=.inr %[0|8];clear eB eM hS;ac_rfl;have wk:=fK (K:=K) (R:=axP) (λ _ _ _ _ h e=>h.ext e) hD (ic al);have h8:=hx.1;refine ft axs (λ _=>true) axP (λ D a y H'=>∃ q,y=.ref q/\H' q=some (.tup [.int a.1,.int (a.2 * b)])) wk.1 wk.2 (λ D _ y H1 H2 ⟨q,h1,h3⟩ e=>⟨q,h1,e.at h3⟩) (λ D _ y H1 xs o ⟨q,h1,h3⟩ hD=>⟨q,h1,by rw [ag (λ z=>by rw [z,hD] at h3;cases h3)];exact h3⟩) (aq %[0|8]) ?_ ?_
  ·intro D' x y H' N1 N0 ha hD e _ ⟨q,hy,hq⟩ k1 _;subst hy;have k1':=k1 rfl;have hcm:lN x.2 b:=.inr %[0|8];clear k1 kk;simp! only [↓d8,↓bx];intro t1 H6 ht1 e6 h6;exact k1' _ H6 e6 ⟨t1,rfl,h6⟩
  intro D2 zs H2 hD2' e2 hD2 al2;rw [jZ] at al2
  have tt2:bE H2 D2 (axL (aU b axs)):=by
   refine⟨zs,hD2,by rw [al2.1];unfold axL aU;rw [length_map,length_map],λ i z y hz hy=>?_⟩;unfold axL aU at hz;rw [map_map,getElem?_map] at hz;obtain⟨x,hx,rfl⟩:=Option.map_eq_some_iff.mp hz;obtain⟨q,hq1,hq3⟩:=al2.2 i x y hx hy;exact⟨q,hq1,hq3⟩
  clear wk al2 hD2;ac_rfl;intro x1 dx1 G1 hx1 hdx1 hne1 ge1 k1 k1';rw [jt];refine⟨dx1,aU b axs,k1,tt2.ext ge1,hok,λ G2 D3 g2' hD3 hx2 tt3=>?_⟩;have eg:=g2' H2 ge1 hx1;have kq:=kk () x1 G2 (e2.trans eg) ⟨dx1,D3,hx2,tt3⟩;clear kk tt3 hok al;ac_rfl
theorem u4{ms:List Int}(hs:∀ n∈ms,1<=n/\n<=1000000000):∀ (os:List (Int × Int)) (fs:List (List Int)),(∀ o∈os,(0<=o.1/\o.1 < (ms.length:Int))/\(o.2=1\/o.2=-1))->(∀ pl∈fs,InR ms pl)->∀ z∈os.foldl (λ fs o=>fs.flatMap λ pl=>(kr ms o).map λ k=>pl.set o.1.toNat k) fs,InR ms z
 | [],fs,_,hf,z,hz=>hf z hz
 | o::os,fs,ho,hf,z,hz=>by
  refine u4 hs os _ (λ o' ho'=>ho o' (mem_cons_of_mem _ ho')) (λ pl hpl=>?_) z hz;obtain⟨p0,hp0,hpl⟩:=List.mem_flatMap.mp hpl;obtain⟨k,hk,rfl⟩:=List.mem_map.mp hpl;unfold kr at hk;obtain⟨j,hj,rfl⟩:=List.mem_map.mp hk;have hjr:=List.mem_range.mp hj;refine(hf p0 hp0).set ?_ ?_
  ·unfold eo
   split<;>omega
  ·unfold eo
   split<;>omega
theorem yK{ms:List Int}{os:List (Int × Int)}(hs:∀ n∈ms,1<=n/\n<=1000000000)(ho:∀ o∈os,(0<=o.1/\o.1 < (ms.length:Int))/\(o.2=1\/o.2=-1)):∀ z∈aW ms os,InR ms z:=by
 refine u4 hs os _ ho λ pl hpl=>?_;rw [NC.mp hpl];have:=InR.zeros ms hs
 rwa [List.map_const'] at this
def um  : Sp:=λ vs H Q E=>∃ (p:Addr) (q:Addr),vs=[.ref p,.ref q]/\(∃ ms z:List Int,H p=some (.lst (ms.map V.int))/\H q=some (.tup (z.map V.int))/\(∀ m∈ms,1<=m/\m<=6)/\InR ms z/\ae ms<=60/\∀ H',Ext H H'->Q (.int (d5 ms z)) H')
theorem AZ  (p:Addr) (q:Addr) (H:Hp) (Q:VK) (E:XK):um  [.ref p,.ref q] H Q E=(∃ ms z:List Int,H p=some (.lst (ms.map V.int))/\H q=some (.tup (z.map V.int))/\(∀ m∈ms,1<=m/\m<=6)/\InR ms z/\ae ms<=60/\∀ H',Ext H H'->Q (.int (d5 ms z)) H'):=jU (f:=λ (p:Addr) (q:Addr)=>[.ref p,.ref q]) (λ _ _ _ _ h=>by cases h;exact⟨rfl,rfl⟩) p q
theorem Ad  {vs:List V}{H:Hp}{Q:VK}{E:XK}(h:um  vs H Q E):vs.length=2:=jV h λ _ _=>rfl
theorem km(T:Tx K mg t):cq P w K mg base CX0 1 t.a__law_number t.d__law_number ["_law_sizes_here", "_law_place"] um:=by
 refine T.F__law_number.ok cO (λ vs H Q E h=>Ad h) (λ c A o s H vs Q E hr h=>?_)
 ·obtain⟨p,q,rfl,ms,z,hp,hq,h6,hz,hpr,k⟩:=h;refine⟨_,%[%[2,cO,%[0|2]|4],%[%[NW,rfl,%[∅,T.z_zip,%[%[0|0],%[%[1|0]|1]|1],∅,∅|35],(%[(2),rfl,%[%[3,cO|5],%[%[4,cO|5],(@bj _),∅|15],∅|15],∅,∅|22].mono λ _ _ _ _ h=>di h),%[%[2,cO,%[cp,%[dU,%[2|0],%[3|0]|11],%[4|0]|11]|4]|10],(by intros;rfl)|20],%[%[%[2|0]|12]|10]|9]|9],?_⟩;rw [show aH ["_law_sizes_here", "_law_place", "_law_number_here", "_law_size", "_law_k"] [.ref p,.ref q]=[some (.ref p),some (.ref q),none,none,none] from rfl];have hzl:=hz.len;exists k;ac_rfl;refine pZ (ka:=false) (kb:=true) (xs:=ms.map V.int) (ys:=z.map V.int) (λ i σ H'=>∃ v3 v4:Option V,σ=[some (.ref p),some (.ref q),some (.int (d5 (ms.take i) (z.take i))),v3,v4]/\Ext H H') ⟨none,none,rfl,Ext.refl _⟩ (λ i σ H' ⟨_,_,_,e⟩=>⟨e.at hp,e.at hq⟩) ?_ ?_
  ·rintro i x y w' _ H2 H3 hx hy ⟨v3,v4,rfl,e2⟩ hw e3 h3;rw [NL] at hx hy;obtain⟨a,ha,rfl⟩:=NI.mp hx;obtain⟨b,hb,rfl⟩:=NI.mp hy;have ham:=h6 a (N6 ha)
   have hn:d5 (ms.take (i+1)) (z.take (i+1))=d5 (ms.take i) (z.take i) * a+b:=by
    rw [OH,OH,ha,hb];exact nY _ _ a b (by rw [N8,N8];omega)
   have cm:lN (d5 (ms.take i) (z.take i)) a:=.inr ⟨by omega,by omega⟩;generalize d5 (ms.take i) (z.take i)=n at hn cm;exists hn;clear hx hy ha hb hw k h6;simp! only [↓aI];exact⟨_,_,by rw [hn ()],e2.trans e3⟩
  ·rintro _ H3 ⟨v3,v4,rfl,e3⟩;have hmn:min (ms.map V.int).length (z.map V.int).length=ms.length:=by rw [Nz,Nz];omega
   rw [hmn,OE,←hzl,OE];have k':=k () H3 e3;clear k;ac_rfl
theorem sH(ms:List Int):(List.range ms.length).map (λ i=>ms.getD i 0)=ms:=by
 refine QR (by rw [Nz,Oj]) λ i h1 h2=>?_;rw [List.getElem_map,List.getElem_range,Ol,Nw h2];rfl
theorem yR{ms:List Int}{os:List (Int × Int)}(h:(os.map λ o=>o.1).Perm ((List.range ms.length).map λ (i:Nat)=>(i:Int))):ae (szO ms os)=ae ms:=by
 have e1:szO ms os=(os.map λ o=>o.1).map λ i=>ms.getD i.toNat 0:=by unfold szO;rw [map_map];rfl
 rw [e1,kS (h.map _),OA];have e2:((λ i:Int=>ms.getD i.toNat 0) ∘ λ (i:Nat)=>(i:Int))=λ i=>ms.getD i 0:=rfl;rw [e2,sH]
theorem wt{H:Hp}{r:Addr}{os:List (Int × Int)}{n:Nat}(h:d7 os n)(t:bE H r (os.map λ o=>[o.1,o.2])):gQ n H r os:=by
 refine⟨t,h.1,λ o ho=>⟨?_,h.2.2 o ho⟩⟩;have:=h.2.1.mem_iff.mp (ND.mpr ⟨o,ho,rfl⟩);obtain⟨i,hi,e⟩:=ND.mp this;have:=Oi.mp hi;omega
theorem JF{os:List (Int × Int)}{n:Nat}(h:d7 os n):(os.map λ o=>o.1).Nodup:=by
 refine h.2.1.nodup_iff.mpr ?_;exact PB.mpr (List.Pairwise.imp (λ h e=>h (Int.ofNat.inj e)) QQ)
theorem gQ.ext{n:Nat}{H H':Hp}{q:Addr}{os:List (Int × Int)}(h:gQ n H q os)(e:Ext H H'):gQ n H' q os:=⟨h.1.ext e,h.2⟩
def bQ(x y:List Int)(a:Nat):Int:=x.getD a 0 - y.getD a 0
def crB:List (Int × Int)->List Int->List Int->Bool
 | [],_,_=>false
 | o::os,x,y=>if bQ x y o.1.toNat=0 then crB os x y else decide (0 < bQ x y o.1.toNat * o.2)
theorem dX{o:Int × Int}{os:List (Int × Int)}{x y:List Int}(h:bQ x y o.1.toNat=0):crB (o::os) x y=crB os x y:=N7 h
theorem du{o:Int × Int}{os:List (Int × Int)}{x y:List Int}(h:¬ bQ x y o.1.toNat=0):crB (o::os) x y=decide (0 < bQ x y o.1.toNat * o.2):=NY h
theorem mB(x y:List Int)(a:Nat):bQ y x a=-bQ x y a:=by unfold bQ;omega
theorem rT:∀ {os:List (Int × Int)}{x y:List Int},crB os x y=true->crB os y x=false
 | [],_,_,h=>by cases h
 | o::os,x,y,h=>by
  by_cases hg:bQ x y o.1.toNat=0
  ·rw [dX hg] at h;rw [dX (by rw [mB];omega)];exact rT h
  ·rw [du hg] at h;rw [du (by rw [mB];omega),mB,Int.neg_mul];have:=Oz h;exact N9 %[0|8]
theorem vF:∀ (os:List (Int × Int)) (x:List Int),crB os x x=false
 | [],_=>rfl
 | o::os,x=>by rw [dX (by unfold bQ;omega)];exact vF os x
theorem lZ:∀ {os qs:List (Int × Int)}{x y:List Int},crB os x y=true->crB (os++qs) x y=true
 | [],_,_,_,h=>by cases h
 | o::os,qs,x,y,h=>by
  rw [Q3]
  by_cases hg:bQ x y o.1.toNat=0
  ·rw [dX hg] at h ⊢;exact lZ h
  ·rw [du hg] at h ⊢;exact h
theorem iL:∀ {os qs:List (Int × Int)}{x y:List Int},(∀ o∈os,bQ x y o.1.toNat=0)->crB (os++qs) x y=crB qs x y
 | [],_,_,_,_=>rfl
 | o::os,qs,x,y,h=>by
  rw [Q3,dX (h o NK)];exact iL λ o ho=>h o (NH _ ho)
theorem ou:∀ {os:List (Int × Int)}{x y x' y':List Int},(∀ o∈os,bQ x y o.1.toNat=bQ x' y' o.1.toNat)->crB os x y=crB os x' y'
 | [],_,_,_,_,_=>rfl
 | o::os,x,y,x',y',h=>by
  have h0:=h o NK;have ih:=ou (os:=os) λ o ho=>h o (NH _ ho)
  by_cases hg:bQ x y o.1.toNat=0
  ·rw [dX hg,dX (by rw [←h0];exact hg),ih]
  ·rw [du hg,du (by rw [←h0];exact hg),h0]
theorem gr(l:List Int)(a b:Nat)(v:Int):(l.set a v).getD b 0=if a=b/\a < l.length then v else l.getD b 0:=by
 rw [Ol,Ol,List.getElem?_set]
 by_cases h:a=b
 ·subst h
  by_cases hl:a < l.length
  ·rw [N7 rfl,N7 hl,N7 ⟨rfl,hl⟩];rfl
  ·rw [N7 rfl,NY hl,NY (λ z=>hl z.2),O1 %[0|8]]
 ·rw [NY h,NY (λ z=>h z.1)]
def pj(n:Nat)(os:List (Int × Int)):Prop:=(∀ o∈os,(0<=o.1/\o.1 < (n:Int))/\(o.2=1\/o.2=-1))/\(os.map λ o=>o.1).Nodup
theorem pj.init{n:Nat}{os:List (Int × Int)}{o:Int × Int}(h:pj n (os++[o])):pj n os/\(∀ p∈os,¬ p.1.toNat=o.1.toNat)/\((0<=o.1/\o.1 < (n:Int))/\(o.2=1\/o.2=-1)):=by
 obtain⟨h1,h2⟩:=h;rw [Oy] at h2;have h3:=Pb.mp h2;refine⟨⟨λ p hp=>h1 p (Oc _ hp),h3.1⟩,λ p hp e=>?_,h1 o (N4 _ (NC.mpr rfl))⟩;have a:=(h1 p (Oc _ hp)).1;have b:=(h1 o (N4 _ (NC.mpr rfl))).1;exact h3.2.2 p.1 (ND.mpr ⟨p,hp,rfl⟩) o.1 (ND.mpr ⟨o,NC.mpr rfl,rfl⟩) %[0|8]
theorem gp{α:Type}{p:List α->Prop}(h0:p [])(h1:∀ l a,p l->p (l++[a])):∀ l,p l:=by
 intro l
 suffices h:∀ n (l:List α),l.length=n->p l from h _ l rfl
 intro n
 induction n with
 | zero=>intro l hl;rw [List.length_eq_zero_iff.mp hl];exact h0
 | succ n ih=>
  intro l hl;have hne:l ≠ []:=λ e=>by rw [e] at hl;simp at hl
  rw [←Qt hne];exact h1 _ _ (ih _ (by rw [List.length_dropLast,hl];rfl))
theorem vy(x y:List Int)(a b:Nat)(u v:Int)(h:¬ a=b):bQ (x.set a u) (y.set a v) b=bQ x y b:=by
 unfold bQ;rw [gr,gr,if_neg (λ z=>h z.1),if_neg (λ z=>h z.1)]
theorem jv(ms:List Int):∀ os:List (Int × Int),pj ms.length os->(aW ms os).Pairwise (λ x y=>crB os y x=true)/\∀ z∈aW ms os,z.length=ms.length:=by
 refine gp ?_ ?_
 ·intro _;refine⟨P4 _ _,λ z hz=>?_⟩;have hz':z∈[List.replicate ms.length (0:Int)]:=hz;rw [NC.mp hz',O9]
 ·intro os o ih ho;obtain⟨ho1,hne,⟨ho2,ho3⟩⟩:=ho.init;obtain⟨ip,il⟩:=ih ho1;rw [fD];refine⟨List.pairwise_flatMap.mpr ⟨λ pl hpl=>?_,?_⟩,λ z hz=>?_⟩
  ·rw [List.pairwise_map];unfold kr;rw [List.pairwise_map];refine List.pairwise_lt_range.imp λ {i j} hij=>?_;have hal:o.1.toNat < pl.length:=by rw [il pl hpl];omega
   rw [iL λ p hp=>by rw [vy _ _ _ _ _ _ λ e=>hne p hp e.symm];unfold bQ;omega]
   have hg:bQ (pl.set o.1.toNat (eo ms o (j:Int))) (pl.set o.1.toNat (eo ms o (i:Int))) o.1.toNat=eo ms o (j:Int) - eo ms o (i:Int):=by
    unfold bQ;rw [gr,gr,if_pos ⟨rfl,hal⟩,if_pos ⟨rfl,hal⟩]
   unfold eo at hg
   rcases ho3 with e|e
   ·rw [if_pos e,if_pos e] at hg;rw [du (by unfold eo;rw [if_pos e,if_pos e,hg];omega)];unfold eo;rw [if_pos e,if_pos e,hg,e];exact decide_eq_true %[0|8]
   ·have e':¬ o.2=1:=by omega
    rw [if_neg e',if_neg e'] at hg;rw [du (by unfold eo;rw [if_neg e',if_neg e',hg];omega)];unfold eo;rw [if_neg e',if_neg e',hg,e];exact decide_eq_true %[0|8]
  ·refine ip.imp λ {x y} hxy=>?_;intro a ha b hb;obtain⟨u,_,rfl⟩:=ND.mp ha;obtain⟨v,_,rfl⟩:=ND.mp hb;refine lZ ?_;rw [ou (x':=y) (y':=x) λ p hp=>vy _ _ _ _ _ _ λ e=>hne p hp e.symm];exact hxy
  ·obtain⟨pl,hpl,hz⟩:=OX.mp hz;obtain⟨k,_,rfl⟩:=ND.mp hz;rw [QD,il pl hpl]
def yh(n:Nat)(z:List Int)(os:List (Int × Int)):List Int:=os.foldl (λ pl o=>pl.set o.1.toNat (z.getD o.1.toNat 0)) (List.replicate n 0)
theorem nP(n:Nat)(z:List Int)(os:List (Int × Int))(o:Int × Int):yh n z (os++[o])=(yh n z os).set o.1.toNat (z.getD o.1.toNat 0):=by
 unfold yh;rw [foldl_append];rfl
theorem InR.getD:∀ {ms z:List Int}{a:Nat},InR ms z->a < ms.length->0<=z.getD a 0/\z.getD a 0 < ms.getD a 0
 | [],_,_,_,h=>by simp at h
 | _::_,[],_,h,_=>h.elim
 | m::ms,x::z,0,h,_=>h.1
 | m::ms,x::z,a+1,h,hl=>by
  have:=InR.getD (a:=a) h.2 (by simpa using hl)
  simpa using this
theorem CB{ms:List Int}{o:Int × Int}{x:Int}(h0:0<=x)(h1:x < ms.getD o.1.toNat 0):x∈kr ms o:=by
 unfold kr
 by_cases e:o.2=1
 ·refine List.mem_map.mpr ⟨x.toNat,List.mem_range.mpr %[0|8],?_⟩;unfold eo;rw [if_pos e];omega
 ·refine List.mem_map.mpr ⟨(ms.getD o.1.toNat 0 - 1 - x).toNat,List.mem_range.mpr %[0|8],?_⟩;unfold eo;rw [if_neg e];omega
theorem yJ{ms z:List Int}(hz:InR ms z):∀ os:List (Int × Int),(∀ o∈os,0<=o.1/\o.1 < (ms.length:Int))->yh ms.length z os∈aW ms os:=by
 refine gp ?_ ?_
 ·intro _;exact NC.mpr rfl
 ·intro os o ih ho;have ho':=ho o (N4 _ (NC.mpr rfl));have:=hz.getD (a:=o.1.toNat) %[0|8];rw [fD,nP];exact OX.mpr ⟨_,ih λ p hp=>ho p (Oc _ hp),ND.mpr ⟨_,CB this.1 this.2,rfl⟩⟩
theorem yZ(n:Nat)(z:List Int)(b:Nat)(hb:b < n):∀ os:List (Int × Int),(yh n z os).length=n/\((∃ o∈os,o.1.toNat=b)->(yh n z os).getD b 0=z.getD b 0):=by
 refine gp ?_ ?_
 ·exact⟨by unfold yh;rw [List.foldl_nil,length_replicate],λ ⟨o,ho,_⟩=>by cases ho⟩
 ·intro os o ⟨il,ih⟩;rw [nP];refine⟨by rw [QD,il],λ ⟨p,hp,e⟩=>?_⟩;rw [gr]
  by_cases hob:o.1.toNat=b
  ·rw [N7 ⟨hob,by rw [il];omega⟩,hob]
  ·rw [NY λ z=>hob z.1]
   rcases N2.mp hp with h|h
   ·exact ih ⟨p,h,e⟩
   ·rw [NC.mp h] at e;exact absurd e hob
theorem rg{ms z:List Int}{os:List (Int × Int)}(hz:InR ms z)(ho:d7 os ms.length):z∈aW ms os:=by
 have hb:∀ o∈os,0<=o.1/\o.1 < (ms.length:Int):=λ o h=>by
  have:=ho.2.1.mem_iff.mp (ND.mpr ⟨o,h,rfl⟩);obtain⟨i,hi,e⟩:=ND.mp this;have:=Oi.mp hi;omega
 have e:yh ms.length z os=z:=by
  refine Rw λ b=>?_
  by_cases hbl:b < ms.length
  ·obtain⟨l,g⟩:=yZ ms.length z b hbl os
   have hcov:∃ o∈os,o.1.toNat=b:=by
    have:=ho.2.1.mem_iff.mpr (ND.mpr ⟨b,Oi.mpr hbl,rfl⟩);obtain⟨o,h,e⟩:=ND.mp this;exact⟨o,h,by omega⟩
   have:=g hcov;rw [Ol,Ol,Nw %[0|8],Nw (by rw [hz.len];omega)] at this;rw [Nw %[0|8],Nw (by rw [hz.len];omega)];exact OM some this
  ·have hzl:=hz.len
   have hrl:(yh ms.length z os).length=ms.length:=by
    have:∀ (os:List (Int × Int)) (pl:List Int),(os.foldl (λ pl o=>pl.set o.1.toNat (z.getD o.1.toNat 0)) pl).length=pl.length:=by
     intro os
     induction os with
     | nil=>intro pl;rfl
     | cons o os ih=>intro pl;rw [Qa,ih,QD]
    unfold yh;rw [this,length_replicate]
   rw [O1 %[0|8],O1 %[0|8]]
 rw [←e];exact yJ hz os hb
theorem d7.toP{os:List (Int × Int)}{n:Nat}(h:d7 os n):pj n os:=by
 refine⟨λ o ho=>⟨?_,h.2.2 o ho⟩,?_⟩
 ·have:=h.2.1.mem_iff.mp (ND.mpr ⟨o,ho,rfl⟩);obtain⟨i,hi,e⟩:=ND.mp this;have:=Oi.mp hi;omega
 ·refine h.2.1.nodup_iff.mpr ?_;unfold List.Nodup;rw [List.pairwise_map];exact List.nodup_range.imp λ h e=>h %[0|8]
def hU{α:Type}(W R:α->Int)(L:List α):List (Int × Int):=L.foldl (λ kv n=>kv++[(W n,(bR kv (R n)).getD (R n))]) []
theorem jj{α:Type}(W R:α->Int)(L:List α)(n:α):hU W R (L++[n])=hU W R L++[(W n,(bR (hU W R L) (R n)).getD (R n))]:=by
 unfold hU;rw [foldl_append];rfl
theorem eD{α:Type}(W R:α->Int):∀ L:List α,(hU W R L).map (λ p=>p.1)=L.map W:=by
 refine gp rfl ?_;intro L n ih;rw [jj,Oy,Oy,ih];rfl
theorem lj{kv:List (Int × Int)}{c:Int}(h:∀ p∈kv,¬ p.1=c):bR kv c=none:=by
 unfold bR;rw [List.find?_eq_none.mpr λ p hp=>by simpa using h p hp];rfl
theorem lh{kv:List (Int × Int)}{c v:Int}(h:bR kv c=some v):(c,v)∈kv:=by
 unfold bR at h;obtain⟨p,hp,e⟩:=Option.map_eq_some_iff.mp h;have h1:=List.mem_of_find?_eq_some hp;have h2:=List.find?_some hp;have h3:p.1=c:=of_decide_eq_true h2;have:p=(c,v):=by rw [←h3,←e]
 rw [←this];exact h1
theorem xk{kv:List (Int × Int)}{c:Int}(h:∃ p∈kv,p.1=c):∃ v,bR kv c=some v:=by
 unfold bR
 cases hf:kv.find? λ p=>decide (p.1=c) with
 | none=>
  obtain⟨p,hp,e⟩:=h;have:=List.find?_eq_none.mp hf p hp;exact absurd (NT e) this
 | some p=>exact⟨p.2,rfl⟩
theorem CT{α:Type}(W R:α->Int):∀ L:List α,(∀ x∈L,∀ y∈L,W x=W y->x=y)->L.Nodup->((∀ p∈hU W R L,∃ z∈L,p=(W z,R z)) ↔ L.Pairwise λ m n=>W m=R n->R m=W m):=by
 refine gp ?_ ?_
 ·intro _ _;exact⟨λ _=>.nil,λ _ p hp=>by cases hp⟩
 ·intro L n ih hinj hnd;have hnL:n ∉ L:=λ h=>(Pb.mp hnd).2.2 n h n (NC.mpr rfl) rfl;have ih':=ih (λ x hx y hy=>hinj x (Oc _ hx) y (Oc _ hy)) (Pb.mp hnd).1;have hmn:n∈L++[n]:=N4 _ (NC.mpr rfl)
  have key:∀ p∈hU W R L,∃ z∈L,p.1=W z:=λ p hp=>by
   have:p.1∈L.map W:=by rw [←eD W R L];exact ND.mpr ⟨p,hp,rfl⟩
   obtain⟨z,hz,e⟩:=ND.mp this;exact⟨z,hz,e.symm⟩
  have has:∀ z∈L,∃ p∈hU W R L,p.1=W z:=λ z hz=>by
   have:W z∈(hU W R L).map λ p=>p.1:=by rw [eD W R L];exact ND.mpr ⟨z,hz,rfl⟩
   obtain⟨p,hp,e⟩:=ND.mp this;exact⟨p,hp,e⟩
  rw [jj,List.pairwise_append,←ih'];constructor
  ·intro h
   have hL:∀ p∈hU W R L,∃ z∈L,p=(W z,R z):=λ p hp=>by
    obtain⟨z,hz,e⟩:=h p (Oc _ hp);obtain⟨z0,hz0,e0⟩:=key p hp;have:z=z0:=hinj z hz z0 (Oc _ hz0) (by rw [←e0,e]);exact⟨z,by rw [this];exact hz0,e⟩
   refine⟨hL,P4 _ _,λ m hm n' hn' hw=>?_⟩;rw [NC.mp hn'] at hw;obtain⟨z,hz,e⟩:=h _ (N4 _ (NC.mpr rfl));have hzn:n=z:=hinj n hmn z hz (OM Prod.fst e)
   have e2:(bR (hU W R L) (R n)).getD (R n)=R n:=by
    have:=OM Prod.snd e;rw [←hzn] at this;exact this
   obtain⟨v,hv⟩:=xk (c:=R n) (by obtain⟨p,hp,e⟩:=has m hm;exact⟨p,hp,by rw [e,hw]⟩);rw [hv] at e2;have e3:v=R n:=e2;obtain⟨z',hz',e'⟩:=hL _ (lh hv);have hzm:z'=m:=hinj z' (Oc _ hz') m (Oc _ hm) (by rw [hw];exact(OM Prod.fst e').symm);have:v=R z':=OM Prod.snd e';rw [hzm] at this;omega
  ·rintro ⟨hL,_,hx⟩ p hp
   rcases N2.mp hp with hp|hp
   ·obtain⟨z,hz,e⟩:=hL p hp;exact⟨z,Oc _ hz,e⟩
   ·refine⟨n,hmn,?_⟩;rw [NC.mp hp]
    have:(bR (hU W R L) (R n)).getD (R n)=R n:=by
     cases hv:bR (hU W R L) (R n) with
     | none=>rfl
     | some v=>
      obtain⟨m,hm,e'⟩:=hL _ (lh hv);have h1:R n=W m:=OM Prod.fst e';have h2:v=R m:=OM Prod.snd e';have h3:=hx m hm n (NC.mpr rfl) h1.symm
      show v=R n
      omega
    rw [this]
theorem Br{α:Type}{r:α->α->Prop}:∀ {l:List α}{a b:α},l.Pairwise r->a∈l->b∈l->¬ a=b->r a b\/r b a
 | [],_,_,_,h,_,_=>by cases h
 | x::l,a,b,hp,ha,hb,hne=>by
  obtain⟨h1,h2⟩:=List.pairwise_cons.mp hp
  rcases NR.mp ha with e|ha'
  ·rcases NR.mp hb with e'|hb'
   ·exact absurd (e.trans e'.symm) hne
   ·exact .inl (by rw [e];exact h1 b hb')
  ·rcases NR.mp hb with e'|hb'
   ·exact .inr (by rw [e'];exact h1 a ha')
   ·exact Br h2 ha' hb' hne
theorem gw{ws rs:List Int}{n i j:Nat}(hnd:ws.Nodup):(i,j)∈aL ws rs n ↔ j < n/\∃ c,rs[j]? = some c/\ws[i]? = some c/\¬ rs[i]? = some c:=by
 unfold aL;rw [List.mem_flatMap];constructor
 ·rintro ⟨j',hj',h⟩;unfold dE at h
  cases hc:rs[j']? with
  | none=>rw [hc] at h;cases h
  | some c=>
   rw [hc] at h;have h':(i,j)∈(match ws.findIdx? (λ x=>decide (x=c)) with|some i=>if rs[i]? = some c then [] else [(i,j')]|none=>[]):=h
   cases hf:ws.findIdx? (λ x=>decide (x=c)) with
   | none=>rw [hf] at h';cases h'
   | some i'=>
    rw [hf] at h';have h2:(i,j)∈(if rs[i']? = some c then [] else [(i',j')]):=h';rw [Ph] at hf;split at h2
    ·cases h2
    ·rename_i hr;have:=NC.mp h2;cases this;obtain⟨hi,he,_⟩:=hf;exact⟨Oi.mp hj',c,hc,by rw [Nw hi,Oz he],hr⟩
 ·rintro ⟨hj,c,hc,hw,hr⟩;refine⟨j,List.mem_range.mpr hj,?_⟩;unfold dE;rw [hc]
  show (i,j)∈(match ws.findIdx? (λ x=>decide (x=c)) with|some i=>if rs[i]? = some c then [] else [(i,j)]|none=>[])
  rw [vz hnd hw]
  show (i,j)∈(if rs[i]? = some c then [] else [(i,j)])
  rw [NY hr];exact NC.mpr rfl
def az(ms ws:List Int)(z:List Int):Int:=ws.getD (d5 ms z).toNat 0
def eu(ms ws rs:List Int)(os:List (Int × Int)):Bool:=(aL ws rs rs.length).all λ p=>crB os (ao ms (p.1:Int)) (ao ms (p.2:Int))
theorem bK{ms ws z:List Int}(hs:∀ n∈ms,1<=n/\n<=1000000000)(hw:(ws.length:Int)=ae ms)(hz:InR ms z):ws[(d5 ms z).toNat]? = some (az ms ws z):=by
 have:=fj ms z hs hz;unfold az;rw [getD_eq_getElem?_getD,getElem?_eq_getElem %[0|8]];rfl
theorem ow{ms ws:List Int}(hs:∀ n∈ms,1<=n/\n<=1000000000)(hw:(ws.length:Int)=ae ms)(hnd:ws.Nodup){x y:List Int}(hx:InR ms x)(hy:InR ms y)(e:az ms ws x=az ms ws y):x=y:=by
 have a:=bK hs hw hx;have b:=bK hs hw hy;rw [←e] at b;obtain⟨a1,a2⟩:=Ny.mp a;obtain⟨b1,b2⟩:=Ny.mp b;have:=(QF hnd).mp (a2.trans b2.symm);have n1:=(fj ms x hs hx).1;have n2:=(fj ms y hs hy).1;have:d5 ms x=d5 ms y:=by omega
 rw [←eQ ms x hs hx,this,eQ ms y hs hy]
theorem kM{ms:List Int}{os:List (Int × Int)}(h:pj ms.length os):(aW ms os).Nodup:=by
 refine(jv ms os h).1.imp λ {x y} hxy e=>?_;rw [e,vF] at hxy;cases hxy
theorem As{ms ws rs:List Int}{os:List (Int × Int)}(hs:∀ n∈ms,1<=n/\n<=1000000000)(hw:(ws.length:Int)=ae ms)(hr:(rs.length:Int)=ae ms)(hnd:ws.Nodup)(ho:d7 os ms.length)(hin:∀ z∈aW ms os,InR ms z):((∀ p∈hU (az ms ws) (az ms rs) (aW ms os),∃ z∈aW ms os,p=(az ms ws z,az ms rs z)) ↔ eu ms ws rs os=true):=by
 have hP:=ho.toP;have hso:=(jv ms os hP).1;rw [CT _ _ _ (λ x hx y hy e=>ow hs hw hnd (hin x hx) (hin y hy) e) (kM hP)];unfold eu;rw [all_eq_true];constructor
 ·intro hpw p hp;obtain⟨i,j⟩:=p;obtain⟨hj,c,hcj,hci,hri⟩:=(gw hnd).mp hp;have hil:i < ws.length:=(Ny.mp hci).1;have zi:InR ms (ao ms (i:Int)):=InR.split ms i hs;have zj:InR ms (ao ms (j:Int)):=InR.split ms j hs;have ni:d5 ms (ao ms (i:Int))=(i:Int):=by rw [fq ms i λ n hn=>(hs n hn).1];exact PC %[0|8] %[0|8]
  have nj:d5 ms (ao ms (j:Int))=(j:Int):=by rw [fq ms j λ n hn=>(hs n hn).1];exact PC %[0|8] %[0|8]
  have wi:az ms ws (ao ms (i:Int))=c:=by
   have:=bK hs hw zi;rw [ni,NJ,hci] at this;exact(NX this).symm
  have rj:az ms rs (ao ms (j:Int))=c:=by
   have:=bK hs hr zj;rw [nj,NJ,hcj] at this;exact(NX this).symm
  have ri:¬ az ms rs (ao ms (i:Int))=c:=λ e=>by
   have:=bK hs hr zi;rw [ni,NJ,e] at this;exact hri this
  rcases Br (hso.and hpw) (rg zi ho) (rg zj ho) (λ e=>ri (by rw [e,rj])) with h|h
  ·exact absurd ((h.2 (by rw [wi,rj])).trans wi) ri
  ·exact h.1
 ·intro hall;refine hso.imp_of_mem λ {m n} hm hn hmn e=>?_;have zm:=hin m hm;have zn:=hin n hn
  by_cases hre:az ms rs m=az ms ws m
  ·exact hre
  ·have nm:=fj ms m hs zm;have nn:=fj ms n hs zn;have hp:((d5 ms m).toNat,(d5 ms n).toNat)∈aL ws rs rs.length:=(gw hnd).mpr ⟨by omega,az ms ws m,by rw [e];exact bK hs hr zn,bK hs hw zm,λ z=>by rw [bK hs hr zm] at z;exact hre (NX z)⟩;have h1:=hall _ hp;have h2:crB os (ao ms (((d5 ms m).toNat:Nat):Int)) (ao ms (((d5 ms n).toNat:Nat):Int))=true:=h1;rw [OC nm.1,OC nn.1,eQ ms m hs zm,eQ ms n hs zn] at h2;rw [rT h2] at hmn;cases hmn
abbrev PP:=List Int × List Int
def JY(d:Int)(ns:List Int)(M:Int):Prop:=(ns=[]/\M=d)\/(M∈ns/\∀ a∈ns,M<=a)
def yB(d:Int)(ns:List Int)(M:Int):Prop:=(ns=[]/\M=d)\/(M∈ns/\∀ a∈ns,a<=M)
def lP(Z:List PP)(a:Nat):List Int:=Z.map λ z=>bQ z.1 z.2 a
def yC(Z:List PP)(a:Nat)(w:Int):Prop:=(w=1\/w=-1)/\(∀ z∈Z,0<=bQ z.1 z.2 a * w)/\∃ z∈Z,¬ bQ z.1 z.2 a=0
def pD(Z:List PP)(a:Nat):Prop:=(∀ z∈Z,bQ z.1 z.2 a=0)\/((∃ z∈Z,bQ z.1 z.2 a < 0)/\∃ z∈Z,0 < bQ z.1 z.2 a)
theorem eO{Z:List PP}{a:Nat}{z:PP}(h:z∈Z):bQ z.1 z.2 a∈lP Z a:=ND.mpr ⟨z,h,rfl⟩
theorem AD{Z:List PP}{a:Nat}{lo hi:Int}(hl:JY 0 (lP Z a) lo)(hh:yB 0 (lP Z a) hi)(h1:0<=lo)(h2:0 < hi):yC Z a 1:=by
 refine⟨.inl rfl,λ z hz=>?_,?_⟩
 ·rcases hl with ⟨e,_⟩|⟨_,h⟩
  ·have:=eO (a:=a) hz;rw [e] at this;cases this
  ·have:=h _ (eO (a:=a) hz);omega
 ·rcases hh with ⟨_,e⟩|⟨h,_⟩
  ·omega
  ·obtain⟨z,hz,e⟩:=ND.mp h;exact⟨z,hz,by omega⟩
theorem AE{Z:List PP}{a:Nat}{lo hi:Int}(hl:JY 0 (lP Z a) lo)(hh:yB 0 (lP Z a) hi)(h1:hi<=0)(h2:lo < 0):yC Z a (-1):=by
 refine⟨.inr rfl,λ z hz=>?_,?_⟩
 ·rcases hh with ⟨e,_⟩|⟨_,h⟩
  ·have:=eO (a:=a) hz;rw [e] at this;cases this
  ·have:=h _ (eO (a:=a) hz);omega
 ·rcases hl with ⟨_,e⟩|⟨h,_⟩
  ·omega
  ·obtain⟨z,hz,e⟩:=ND.mp h;exact⟨z,hz,by omega⟩
theorem E1{Z:List PP}{a:Nat}{lo hi:Int}(hl:JY 0 (lP Z a) lo)(hh:yB 0 (lP Z a) hi)(h1:¬ (0<=lo/\0 < hi))(h2:¬ (hi<=0/\lo < 0)):pD Z a:=by
 rcases hl with ⟨e,_⟩|⟨m1,l1⟩
 ·left;intro z hz;have:=eO (a:=a) hz;rw [e] at this;cases this
 ·rcases hh with ⟨e,_⟩|⟨m2,l2⟩
  ·rw [e] at m1;cases m1
  ·by_cases h:lo < 0
   ·right;obtain⟨z,hz,e⟩:=ND.mp m1;obtain⟨z',hz',e'⟩:=ND.mp m2;exact⟨⟨z,hz,by omega⟩,z',hz',by omega⟩
   ·left;intro z hz;have:=l1 _ (eO (a:=a) hz);have:=l2 _ (eO (a:=a) hz);omega
structure LoI(n:Nat)(P L:List PP)(os:List (Int × Int)):Prop where
 ord:pj n os
 sub:∀ z∈L,z∈P
 zer:∀ z∈L,∀ o∈os,bQ z.1 z.2 o.1.toNat=0
 crr:∀ z∈P,z∈L\/crB os z.1 z.2=true
theorem LoI.init(n:Nat)(P:List PP):LoI n P P []:=⟨⟨(λ o h=>by cases h),P0⟩,λ _ h=>h,(λ _ _ o h=>by cases h),λ _ h=>.inl h⟩
theorem LoI.step{n:Nat}{P L:List PP}{os:List (Int × Int)}{a:Nat}{w:Int}(h:LoI n P L os)(hh:yC L a w)(ha:a < n):LoI n P (L.filter λ z=>decide (bQ z.1 z.2 a=0)) (os++[((a:Int),w)])/\(L.filter λ z=>decide (bQ z.1 z.2 a=0)).length < L.length:=by
 obtain⟨hw,h0,z1,hz1,hg1⟩:=hh;have hnew:∀ o∈os,¬ o.1=(a:Int):=λ o ho e=>hg1 (by have:=h.zer z1 hz1 o ho;rw [e,NJ] at this;exact this);refine⟨⟨⟨λ o ho=>?_,?_⟩,λ z hz=>h.sub z (Ov.mp hz).1,λ z hz o ho=>?_,λ z hz=>?_⟩,?_⟩
 ·rcases N2.mp ho with ho|ho
  ·exact h.ord.1 o ho
  ·rw [NC.mp ho];exact⟨⟨by show (0:Int)<=(a:Int);omega,by show (a:Int) < (n:Int);omega⟩,hw⟩
 ·rw [Oy];refine Pb.mpr ⟨h.ord.2,P4 _ _,λ x hx y hy e=>?_⟩;obtain⟨o,ho,e1⟩:=ND.mp hx;have hy':y=(a:Int):=NC.mp hy;exact hnew o ho (by rw [e1,e,hy'])
 ·obtain⟨hz,hg⟩:=Ov.mp hz
  rcases N2.mp ho with ho|ho
  ·exact h.zer z hz o ho
  ·rw [NC.mp ho]
   show bQ z.1 z.2 ((a:Int)).toNat=0
   rw [NJ];exact Oz hg
 ·rcases h.crr z hz with hL|hc
  ·by_cases hg:bQ z.1 z.2 a=0
   ·exact .inl (Ov.mpr ⟨hL,NT hg⟩)
   ·right;rw [iL (h.zer z hL),du (by show ¬ bQ z.1 z.2 ((a:Int)).toNat=0;rw [NJ];exact hg)]
    show decide (0 < bQ z.1 z.2 ((a:Int)).toNat * w)=true
    rw [NJ];refine NT ?_;have:=h0 z hL
    rcases hw with rfl|rfl<;>omega
  ·exact .inr (lZ hc)
 ·refine Nat.lt_of_le_of_ne (Qm _ _) λ e=>?_;have:=List.length_filter_eq_length_iff.mp e z1 hz1;exact hg1 (Oz this)
theorem gF{α:Type}[DecidableEq α]:∀ {l1 l2:List α},l1.Nodup->l2.Nodup->(∀ a,a∈l1 ↔ a∈l2)->l1.Perm l2
 | [],l2,_,_,h=>by
  cases l2 with
  | nil=>exact .nil
  | cons b r=>exact absurd ((h b).mpr NK) (by simp)
 | a::l,l2,h1,h2,h=>by
  obtain⟨n1,n2⟩:=O8.mp h1;have ha:a∈l2:=(h a).mp NK;refine(List.Perm.cons a (gF n2 (h2.erase a) λ b=>?_)).trans (List.perm_cons_erase ha).symm;rw [h2.mem_erase_iff];constructor
  ·intro hb;exact⟨λ e=>n1 (e ▸ hb),(h b).mp (NH _ hb)⟩
  ·rintro ⟨hne,hb⟩
   rcases NR.mp ((h b).mpr hb) with e|e
   ·exact absurd e hne
   ·exact e
def gN(n:Nat)(os:List (Int × Int)):List (Int × Int):=(((List.range n).map λ (i:Nat)=>(i:Int)).filter λ a=>decide (¬ a∈os.map λ o=>o.1)).map λ a=>(a,1)
theorem lu(n:Nat):((List.range n).map λ (i:Nat)=>(i:Int)).Nodup:=by
 unfold List.Nodup;rw [List.pairwise_map];exact List.nodup_range.imp λ h e=>h %[0|8]
theorem pj.full{n:Nat}{os:List (Int × Int)}(h:pj n os):d7 (os++gN n os) n:=by
 have hp:((os++gN n os).map λ o=>o.1).Perm ((List.range n).map λ (i:Nat)=>(i:Int)):=by
  refine gF ?_ (lu n) λ a=>?_
  ·rw [Oy];refine Pb.mpr ⟨h.2,?_,λ x hx y hy e=>?_⟩
   ·unfold gN;rw [map_map];have:((λ o:Int × Int=>o.1) ∘ λ a:Int=>(a,(1:Int)))=id:=rfl;rw [this,List.map_id];exact(lu n).filter _
   ·obtain⟨o,ho,rfl⟩:=List.mem_map.mp hy;unfold gN at ho;obtain⟨a,ha,rfl⟩:=List.mem_map.mp ho;have:=of_decide_eq_true (List.mem_filter.mp ha).2;exact this (by have e':x=a:=e;rw [←e'];exact hx)
  ·constructor
   ·intro ha;obtain⟨o,ho,rfl⟩:=ND.mp ha
    rcases N2.mp ho with ho|ho
    ·have:=(h.1 o ho).1;exact ND.mpr ⟨o.1.toNat,Oi.mpr %[0|8],by omega⟩
    ·unfold gN at ho;obtain⟨b,hb,rfl⟩:=List.mem_map.mp ho;exact(List.mem_filter.mp hb).1
   ·intro ha
    by_cases hm:a∈os.map λ o=>o.1
    ·obtain⟨o,ho,e⟩:=ND.mp hm;exact ND.mpr ⟨o,Oc _ ho,e⟩
    ·refine List.mem_map.mpr ⟨(a,1),mem_append_right _ ?_,rfl⟩;unfold gN;exact List.mem_map.mpr ⟨a,List.mem_filter.mpr ⟨ha,decide_eq_true hm⟩,rfl⟩
 refine⟨?_,hp,λ o ho=>?_⟩
 ·have:=hp.length_eq;rw [Nz,Nz,Oj] at this;exact this
 ·rcases N2.mp ho with ho|ho
  ·exact(h.1 o ho).2
  ·unfold gN at ho;obtain⟨a,_,rfl⟩:=List.mem_map.mp ho;exact .inl rfl
theorem d7.rev{os:List (Int × Int)}{n:Nat}(h:d7 os n):d7 os.reverse n:=by
 refine⟨by rw [Rf];exact h.1,?_,λ o ho=>h.2.2 o (List.mem_reverse.mp ho)⟩;rw [RF];exact(List.reverse_perm _).trans h.2.1
theorem d7.neg{os:List (Int × Int)}{n:Nat}(h:d7 os n):d7 (os.map λ o=>(o.1,0 - o.2)) n:=by
 refine⟨by rw [Nz];exact h.1,?_,λ o ho=>?_⟩
 ·rw [OA];exact h.2.1
 ·obtain⟨p,hp,rfl⟩:=ND.mp ho;have:=h.2.2 p hp
  show 0 - p.2=1\/0 - p.2=-1
  omega
theorem rK:∀ {ws rs:List Int}{i:Nat}{c v:Int},ws.Nodup->ws[i]? = some c->rs[i]? = some v->bR (ws.zip rs) c=some v
 | [],_,_,_,_,_,h,_=>by simp at h
 | _::_,[],_,_,_,_,_,h=>by simp at h
 | w::ws,r::rs,0,c,v,hn,h1,h2=>by
  cases h1;cases h2;rw [QA];exact jn rfl
 | w::ws,r::rs,i+1,c,v,hn,h1,h2=>by
  have h1':ws[i]? = some c:=by simpa using h1
  obtain⟨n1,n2⟩:=O8.mp hn;rw [QA,jo (λ e=>n1 (by have e':w=c:=e;rw [e'];exact N6 h1'))];exact rK n2 h1' (by simpa using h2)
theorem AO{ms ws rs:List Int}{os:List (Int × Int)}(hs:∀ n∈ms,1<=n/\n<=1000000000)(hw:(ws.length:Int)=ae ms)(hr:(rs.length:Int)=ae ms)(hnd:ws.Nodup)(ho:d7 os ms.length)(hin:∀ z∈aW ms os,InR ms z)(hl:(aW ms os).length=ws.length):FQ (hU (az ms ws) (az ms rs) (aW ms os)) (ws.zip rs)=eu ms ws rs os:=by
 have hk:=As hs hw hr hnd ho hin
 have e1:(hU (az ms ws) (az ms rs) (aW ms os)).length=(ws.zip rs).length:=by
  have:=OM List.length (eD (az ms ws) (az ms rs) (aW ms os));rw [Nz,Nz] at this;rw [this,hl,Pu];omega
 have lk:∀ z∈aW ms os,bR (ws.zip rs) (az ms ws z)=some (az ms rs z):=λ z hz=>rK hnd (bK hs hw (hin z hz)) (bK hs hr (hin z hz))
 have e2:((hU (az ms ws) (az ms rs) (aW ms os)).all λ p=>bR (ws.zip rs) p.1 == some p.2)=true ↔ ∀ p∈hU (az ms ws) (az ms rs) (aW ms os),∃ z∈aW ms os,p=(az ms ws z,az ms rs z):=by
  rw [Pg];constructor
  ·intro h p hp;have hm:p.1∈(aW ms os).map (az ms ws):=by rw [←eD (az ms ws) (az ms rs)];exact ND.mpr ⟨p,hp,rfl⟩
   obtain⟨z,hz,e⟩:=ND.mp hm;have h2:=eq_of_beq (h p hp);rw [←e,lk z hz] at h2;refine⟨z,hz,?_⟩;rw [e,NX h2]
  ·intro h p hp;obtain⟨z,hz,rfl⟩:=h p hp;rw [lk z hz];exact QN _
 unfold FQ;rw [e1,beq_self_eq_true,Bool.true_and];apply Bool.eq_iff_iff.mpr;rw [e2,hk]
theorem FF{ms ws:List Int}{os:List (Int × Int)}(hnd:ws.Nodup):eu ms ws ws os=true:=by
 unfold eu;rw [all_eq_true];intro p hp;obtain⟨i,j⟩:=p;obtain⟨_,c,_,h1,h2⟩:=(gw hnd).mp hp;exact absurd h1 h2
theorem vP{ws rs:List Int}{i:Nat}{c:Int}(hn:ws.Nodup)(hc:ws[i]? = some c):bR ((ws.zip rs).take i) c=none:=by
 refine lj λ p hp e=>?_;obtain⟨j,hj⟩:=List.mem_iff_getElem?.mp hp;rw [Rn] at hj;split at hj
 ·rename_i hji;have h1:=(Pj.mp hj).1;rw [e] at h1;obtain⟨a1,a2⟩:=Ny.mp h1;obtain⟨b1,b2⟩:=Ny.mp hc;have:=(QF hn).mp (a2.trans b2.symm);omega
 ·cases hj
theorem v9{α:Type}{W R:α->Int}{L:List α}{i:Nat}{z:α}(hinj:∀ x∈L,∀ y∈L,W x=W y->x=y)(hn:L.Nodup)(hz:L[i]? = some z):bR (hU W R (L.take i)) (W z)=none:=by
 refine lj λ p hp e=>?_;have hm:p.1∈(L.take i).map W:=by rw [←eD W R];exact ND.mpr ⟨p,hp,rfl⟩
 obtain⟨x,hx,ex⟩:=ND.mp hm;obtain⟨j,hj⟩:=List.mem_iff_getElem?.mp hx;rw [Rn] at hj;split at hj
 ·rename_i hji;have hxz:x=z:=hinj x (N6 hj) z (N6 hz) (by rw [ex,e]);subst hxz;obtain⟨a1,a2⟩:=Ny.mp hj;obtain⟨b1,b2⟩:=Ny.mp hz;have:=(QF hn).mp (a2.trans b2.symm);omega
 ·cases hj
theorem lY{H:Hp}{f:V->Option PyData}{p:Addr}{z:List Int}(h:H p=some (.tup (z.map V.int))):eI H (eI H f) (.ref p)=some (.tuple (z.map PyData.int)):=by
 rw [fG,h]
 show yj (eI H f) (.tup (z.map V.int))=_
 rw [fF,fw];rfl
theorem iK(a b:List Int):PyData.eqv (.tuple (a.map PyData.int)) (.tuple (b.map PyData.int))=decide (a=b):=by rw [eG,dP]
def PrV(H:Hp)(z:List Int × List Int)(y:V):Prop:=∃ q u v,y=.ref q/\H q=some (.tup [.ref u,.ref v])/\H u=some (.tup (z.1.map V.int))/\H v=some (.tup (z.2.map V.int))
theorem PrV.ext{H H':Hp}{z:List Int × List Int}{y:V}(h:PrV H z y)(e:Ext H H'):PrV H' z y:=by
 obtain⟨q,u,v,h1,h2,h3,h4⟩:=h;exact⟨q,u,v,h1,e.at h2,e.at h3,e.at h4⟩
theorem PrV.upd{H:Hp}{z:List Int × List Int}{y:V}{r:Addr}{zs:List V}{o:HO}(h:PrV H z y)(hr:H r=some (.lst zs)):PrV (upd H r o) z y:=by
 obtain⟨q,u,v,h1,h2,h3,h4⟩:=h;exact⟨q,u,v,h1,by rw [ag (λ z=>by rw [z,hr] at h2;cases h2)];exact h2,by rw [ag (λ z=>by rw [z,hr] at h3;cases h3)];exact h3,by rw [ag (λ z=>by rw [z,hr] at h4;cases h4)];exact h4⟩
def prD(z:List Int × List Int):PyData:=.tuple [.tuple (z.1.map PyData.int),.tuple (z.2.map PyData.int)]
theorem vc{H:Hp}{f:V->Option PyData}:∀ {zs:List (List Int × List Int)}{ys:List V},Al (PrV H) zs ys->bA (ys.map (eI H (eI H (eI H f))))=some (zs.map prD)
 | [],ys,h=>by rw [OB h.1];rfl
 | z::zs,[],h=>by have:=h.1;simp at this
 | z::zs,y::ys,h=>by
  obtain⟨q,u,v,rfl,hq,hu,hv⟩:=h.2 0 z y rfl rfl;have ih:=vc (H:=H) (f:=f) (zs:=zs) (ys:=ys) ⟨by have:=h.1;simpa using this,λ i z y a b=>h.2 (i+1) z y (by simpa using a) (by simpa using b)⟩
  have e1:eI H (eI H (eI H f)) (.ref q)=some (prD z):=by
   rw [fG,hq]
   show yj (eI H (eI H f)) (.tup [.ref u,.ref v])=_
   rw [fF]
   show (bA [eI H (eI H f) (.ref u),eI H (eI H f) (.ref v)]).map PyData.tuple=_
   rw [lY hu,lY hv];rfl
  rw [OP,e1,fW,ih];rfl
theorem C8:∀ zs:List (List Int × List Int),PyData.eqvAll (zs.map prD) (zs.map prD)=true
 | []=>by rw [map_nil,dD]
 | z::zs=>by
  have e:PyData.eqv (prD z) (prD z)=true:=by
   unfold prD;rw [eG,bV,bV,dD,iK,iK];simp
  rw [OP,bV,e,C8 zs];rfl
theorem sL{g:Int->Int}(hg:∀ x y,g x=g y->x=y)(ws rs:List Int)(j:Nat):dE (ws.map g) (rs.map g) j=dE ws rs j:=by
 unfold dE;rw [getElem?_map]
 cases hj:rs[j]? with
 | none=>rfl
 | some c=>
  show (match (ws.map g).findIdx? (λ x=>decide (x=g c)) with|some i=>if (rs.map g)[i]? = some (g c) then [] else [(i,j)]|none=>[])=(match ws.findIdx? (λ x=>decide (x=c)) with|some i=>if rs[i]? = some c then [] else [(i,j)]|none=>[])
  have e:(ws.map g).findIdx? (λ x=>decide (x=g c))=ws.findIdx? (λ x=>decide (x=c)):=by
   rw [List.findIdx?_map];congr 1;funext x
   show decide (g x=g c)=decide (x=c)
   exact decide_eq_decide.mpr ⟨hg x c,λ h=>by rw [h]⟩
  rw [e]
  cases ws.findIdx? (λ x=>decide (x=c)) with
  | none=>rfl
  | some i=>
   show (if (rs.map g)[i]? = some (g c) then [] else [(i,j)])=(if rs[i]? = some c then [] else [(i,j)])
   rw [NL]
   cases hi:rs[i]? with
   | none=>rfl
   | some d=>
    show (if some (g d)=some (g c) then [] else [(i,j)])=(if some d=some c then [] else [(i,j)])
    by_cases hdc:d=c
    ·rw [hdc,N7 rfl,N7 rfl]
    ·rw [NY (λ h=>hdc (hg d c (NX h))),NY (λ h=>hdc (NX h))]
theorem kW{g:Int->Int}(hg:∀ x y,g x=g y->x=y)(ws rs:List Int)(n:Nat):aL (ws.map g) (rs.map g) n=aL ws rs n:=by
 unfold aL;refine congrArg (λ f=>(List.range n).flatMap f) (funext λ j=>sL hg ws rs j)
theorem wA{g:Int->Int}(hg:∀ x y,g x=g y->x=y)(ws:List Int):(ws.map g).Nodup ↔ ws.Nodup:=by
 unfold List.Nodup;rw [List.pairwise_map];exact⟨λ h=>h.imp λ h e=>h (by rw [e]),λ h=>h.imp λ h e=>h (hg _ _ e)⟩
def jW(ms:List Int)(z:Nat × Nat):List Int × List Int:=(ao ms (z.1:Int),ao ms (z.2:Int))
theorem uC{H:Hp}{ms:List Int}{ys:List V}{i:Nat}{y:V}(al:Al (dR H) (dQ ms) ys)(h:ys[i]? = some y):∃ q,y=.ref q/\H q=some (.tup ((ao ms (i:Int)).map V.int)):=by
 obtain⟨z,hz,q,hq,hq2⟩:=eS al h;unfold dQ at hz;rw [getElem?_map] at hz;obtain⟨k,hk,rfl⟩:=Option.map_eq_some_iff.mp hz
 have:k=i:=by
  have hi:=(Ny.mp hk).1;rw [Nw hi] at hk;have:=NX hk;rw [List.getElem_range] at this;exact this.symm
 subst this;exact⟨q,hq,hq2⟩
theorem vk{H:Hp}{ms:List Int}{ys zs:List V}{L:List (Nat × Nat)}(al:Al (dR H) (dQ ms) ys)(alp:Al (gi H ys) L zs):Al (PrV H) (L.map (jW ms)) zs:=by
 refine⟨by rw [alp.1,Nz],λ k z y hz hy=>?_⟩;rw [NL] at hz;obtain⟨ij,hk,rfl⟩:=NI.mp hz;obtain⟨q,u,v,rfl,hq,hu,hv⟩:=alp.2 k ij y hk hy;obtain⟨a,rfl,ha⟩:=uC al hu;obtain⟨b,rfl,hb⟩:=uC al hv;exact⟨q,a,b,rfl,hq,ha,hb⟩
theorem J1{ms:List Int}(h:ms.length<=8)(L:List (Nat × Nat)):∀ z∈L.map (jW ms),z.1.length<=8/\z.2.length<=8:=λ z hz=>by
 obtain⟨ij,_,rfl⟩:=ND.mp hz
 show (ao ms _).length<=8/\(ao ms _).length<=8
 rw [bg,bg];exact⟨h,h⟩
theorem wq{ws rs:List Int}{j:Nat}:∀ z∈dE ws rs j,z.1 < ws.length/\z.2 < rs.length:=λ z hz=>by
 unfold dE at hz
 cases hj:rs[j]? with
 | none=>rw [hj] at hz;cases hz
 | some c=>
  rw [hj] at hz;have hz':z∈(match ws.findIdx? (λ x=>decide (x=c)) with|some i=>if rs[i]? = some c then [] else [(i,j)]|none=>[]):=hz
  cases hf:ws.findIdx? (λ x=>decide (x=c)) with
  | none=>rw [hf] at hz';cases hz'
  | some i=>
   rw [hf] at hz';have hz2:z∈(if rs[i]? = some c then [] else [(i,j)]):=hz';rw [Ph] at hf;split at hz2
   ·cases hz2
   ·rw [NC.mp hz2];exact⟨hf.1,(Ny.mp hj).1⟩
theorem JE{ws rs:List Int}{n:Nat}:∀ z∈aL ws rs n,z.1 < ws.length/\z.2 < rs.length:=λ z hz=>by
 unfold aL at hz;obtain⟨j,_,h⟩:=List.mem_flatMap.mp hz;exact wq z h
def JZ(g:Int->Int):Prop:=∀ x y,g x=g y->x=y
theorem MV:JZ id:=λ _ _ h=>h
theorem EZ{b m:Int}(h:1<=b):JZ (λ c=>c * b+m):=λ x y e=>by
 have e':x * b+m=y * b+m:=e;exact Int.eq_of_mul_eq_mul_right (show b ≠ 0 by omega) %[0|8]
theorem MY{α β:Type}{f:α->β}{R:β->V->Prop}{zs:List α}{ys:List V}(h:Al (λ z y=>R (f z) y) zs ys):Al R (zs.map f) ys:=by
 refine⟨by rw [h.1,Nz],λ i z y hz hy=>?_⟩;rw [NL] at hz;obtain⟨a,ha,rfl⟩:=NI.mp hz;exact h.2 i a y ha hy
theorem MS{H:Hp}{ms:List Int}{ys:List V}{i:Nat}(al:Al (dR H) (dQ ms) ys)(h:i < ys.length):∃ q,atI ys (i:Int)=some (.ref q)/\H q=some (.tup ((ao ms (i:Int)).map V.int)):=by
 obtain⟨q,hq,hq2⟩:=uC al (Nw h);exact⟨q,ei (by rw [Nw h,hq]),hq2⟩
theorem PrV.len{ms:List Int}{L:List (Nat × Nat)}:∀ z∈L.map (jW ms),z.1.length=ms.length/\z.2.length=ms.length:=λ z hz=>by
 obtain⟨ij,_,rfl⟩:=ND.mp hz
 show (ao ms _).length=_/\(ao ms _).length=_
 rw [bg,bg];exact⟨rfl,rfl⟩
theorem JH{g:Int->Int}(hg:JZ g)(ms ws rs:List Int)(os:List (Int × Int)):eu ms (ws.map g) (rs.map g) os=eu ms ws rs os:=by
 unfold eu;rw [length_map,kW hg]
theorem lp(ms ws rs:List Int)(os:List (Int × Int)):(((aL ws rs rs.length).map (jW ms)).all λ z=>crB os z.1 z.2)=eu ms ws rs os:=by
 rw [all_map];rfl
theorem sM(ws rs:List Int)(j:Nat):(dE ws rs j).length<=1:=by
 unfold dE
 repeat' split
 all_goals simp
theorem gX(ws rs:List Int):∀ n,(aL ws rs n).length<=n
 | 0=>NF _
 | n+1=>by
  rw [jB,NP];have:=gX ws rs n;have:=sM ws rs n;omega
def B1  : Sp:=λ vs H Q E=>∃ (p:Addr) (a:Int),vs=[.ref p,.int a]/\(∃ z:List Int × List Int,PrV H z (.ref p)/\0<=a/\a < (z.1.length:Int)/\z.2.length=z.1.length/\Q (.int (bQ z.1 z.2 a.toNat)) H)
theorem i8  (p:Addr) (a:Int) (H:Hp) (Q:VK) (E:XK):B1  [.ref p,.int a] H Q E=(∃ z:List Int × List Int,PrV H z (.ref p)/\0<=a/\a < (z.1.length:Int)/\z.2.length=z.1.length/\Q (.int (bQ z.1 z.2 a.toNat)) H):=jU (f:=λ (p:Addr) (a:Int)=>[.ref p,.int a]) (λ _ _ _ _ h=>by cases h;exact⟨rfl,rfl⟩) p a
theorem ET  {vs:List V}{H:Hp}{Q:VK}{E:XK}(h:B1  vs H Q E):vs.length=2:=jV h λ _ _=>rfl
theorem qV(T:Tx K mg t):cq P w K mg base CX0 1 t.a_gap t.d_gap ["pair", "axis"] B1:=by
 refine T.F_gap.ok LO (λ vs H Q E h=>ET h) (λ c A o s H vs Q E hr h=>?_)
 ·obtain⟨p,a,rfl,z,⟨_,u,v,hpe,hq,hu,hv⟩,a0,a1,hl,k⟩:=h;cases hpe;refine⟨_,%[%[%[fP,%[fN,%[fN,%[0|0],%[0|2],(λ _ _=>rfl)|16],%[1|0],(λ _ _=>rfl)|16],%[fN,%[fN,%[0|0],%[0|2],(λ _ _=>rfl)|16],%[1|0],(λ _ _=>rfl)|16]|11]|12]|10],?_⟩;rw [show aH ["pair", "axis"] [.ref p,.int a]=[some (.ref p),some (.int a)] from rfl];have h1:=gP (vals:=z.1) a0 a1;have h2:=gP (vals:=z.2) a0 (by rw [hl];exact a1);unfold bQ at k;ac_rfl
theorem xH{d:Int}{H:Hp}{Q:VK}{ns:List Int}(h:∀ M,JY d ns M->Q (.int M) H):uM d H Q ns:=⟨λ e=>h d (.inl ⟨e,rfl⟩),λ M hM hle=>h M (.inr ⟨hM,hle⟩)⟩
theorem xI{d:Int}{H:Hp}{Q:VK}{ns:List Int}(h:∀ M,yB d ns M->Q (.int M) H):uO d H Q ns:=⟨λ e=>h d (.inl ⟨e,rfl⟩),λ M hM hle=>h M (.inr ⟨hM,hle⟩)⟩
def pq(n:Nat)(Z:List PP):Prop:=∀ z∈Z,z.1.length=n/\z.2.length=n
def kJ(n:Nat)(Z:List PP):Prop:=∀ a:Nat,a < n->pD Z a
def lR(n:Nat)(L:List PP)(H:Hp)(x:V):Prop:=(x=.non/\kJ n L)\/∃ (a:Nat) (w:Int) (q:Addr),x=.ref q/\H q=some (.tup [.int (a:Int),.int w])/\a < n/\yC L a w
def uu  : Sp:=λ vs H Q E=>∃ (l:Addr) (n:Int),vs=[.ref l,.int n]/\(∃ (Z:List PP) (zs:List V) (m:Nat),n=(m:Int)/\m<=8/\H l=some (.lst zs)/\Al (PrV H) Z zs/\Z.length<=60/\pq m Z/\∀ (x:V) (H':Hp),Ext H H'->lR m Z H' x->Q x H')
theorem rY  (l:Addr) (n:Int) (H:Hp) (Q:VK) (E:XK):uu  [.ref l,.int n] H Q E=(∃ (Z:List PP) (zs:List V) (m:Nat),n=(m:Int)/\m<=8/\H l=some (.lst zs)/\Al (PrV H) Z zs/\Z.length<=60/\pq m Z/\∀ (x:V) (H':Hp),Ext H H'->lR m Z H' x->Q x H'):=jU (f:=λ (l:Addr) (n:Int)=>[.ref l,.int n]) (λ _ _ _ _ h=>by cases h;exact⟨rfl,rfl⟩) l n
theorem Ah  {vs:List V}{H:Hp}{Q:VK}{E:XK}(h:uu  vs H Q E):vs.length=2:=jV h λ _ _=>rfl
theorem jO(T:Tx K mg t):cq P w K mg base CX0 2 t.a_helpful_loop t.d_helpful_loop ["pairs", "many"] uu:=by
 have G_gap:=%[qV|38];refine T.F_helpful_loop.ok cx (λ vs H Q E h=>Ah h) (λ c A o s H vs Q E hr h=>?_)
 ·obtain⟨l,_,rfl,Z,zs,m,rfl,m8,hl,al,h60,hln,kk⟩:=h;refine⟨_,%[%[NW,rfl,%[∅,T.z_range,%[%[1|0]|1],∅|31],%[(2),_,cx.nd,rfl,(Or.inr rfl),%[0|7]|13],%[%[(["pair", "pairs", "many", "axis", "gaps", "low", "high"]),(1),(3),_,cx.nd,rfl,(Or.inl rfl),(aN (aa bu) ["pairs", "many", "axis", "gaps", "low", "high"] rfl rfl nofun),rfl,%[%[0|0]|18],(λ C s₀ H₀ ex pn=>%[(0),_,(show List.Nodup (["pair", "pairs", "many", "axis", "gaps", "low", "high"]:List Str) from by decide +kernel),rfl,(Or.inl rfl),%[0|7]|13]),(λ C s₀ H₀ ex pn=>(@br _)),(λ C s₀ H₀ ex pn=>%[gap,%[%[0|0],%[%[3|0]|1]|1]|3]),∅,(by intros;rfl),%[0|7]|36],%[%[4,cx,(@nW _ ("min") _ _ _ _ _ _ _ _ _ _ (tJ rfl) ∅ T.z_min nofun %[%[3|0]|1] (@ve _ _ _ _ _ _ _ %[0|2] (@Bt _)) ⋯ ⋯ ∅ ∅ ∅ ∅ ∅)|4],%[%[5,cx,(@nW _ ("max") _ _ _ _ _ _ _ _ _ _ (tK rfl) ∅ T.z_max nofun %[%[3|0]|1] (@ve _ _ _ _ _ _ _ %[0|2] (@Bt _)) ⋯ ⋯ ∅ ∅ ∅ ∅ ∅)|4],%[%[(PW.pt (@uD _ _ _ _ _ _ _ %[Gq,%[4|0],%[0|2],(aA _)|14] (@pU _ _ _ _ %[pA,%[5|0],%[0|2],(aA _)|14]))),%[%[%[%[%[2|0],%[%[0|2]|1]|1]|28]|12]|10],(@aE _)|19],%[%[(PW.pt (@uD _ _ _ _ _ _ _ %[tZ,%[5|0],%[0|2],(aA _)|14] (@pU _ _ _ _ %[sk,%[4|0],%[0|2],(aA _)|14]))),%[%[%[%[%[2|0],%[(@px _ _ _ _ _ _ gc %[0|2])|1]|1]|28]|12]|10],(@aE _)|19]|10]|9]|9]|9]|9],(by intros;rfl)|20],%[%[(@qT _ _ _)|12]|10]|9],?_⟩;rw [show aH ["pairs", "many", "axis", "gaps", "low", "high"] [.ref l,.int (m:Int)]=[some (.ref l),some (.int (m:Int)),none,none,none,none] from rfl];clear G_gap;exists kk;exists hln;ac_rfl;refine⟨by omega,by omega,?_⟩;refine iZ (λ i σ H'=>∃ v2 v3 v4 v5:Option V,σ=[some (.ref l),some (.int (m:Int)),v2,v3,v4,v5]/\Ext H H'/\kJ i Z) ⟨none,none,none,none,rfl,Ext.refl _,λ a h=>absurd h (RM _)⟩ ?_ ?_
  ·rintro i _ H1 hi ⟨v2,v3,v4,v5,rfl,e1,hno⟩;have him:i < m:=by have:i < ((m:Int)).toNat:=hi;omega
   have hl1:=e1.at hl;have al1:=al.imp λ _ _ t=>PrV.ext t e1;have wk:=fK (K:=K) (R:=λ z x H'=>PrV H' z x) (λ _ _ _ _ h e=>PrV.ext h e) hl1 al1;exists hno;clear hi al1;simp! only [↓aI];refine bP Z (λ _=>true) (λ z=>.int (bQ z.1 z.2 i)) (λ z x H'=>PrV H' z x) wk.1 wk.2 (aq %[0|8]) ?_ ?_
   ·intro D z y H' N1 N0 hz hD e hy k1 _;have hy':=hy;obtain⟨y',_,_,rfl,_⟩:=hy';have k1':=k1 rfl H' (Ext.refl _);have hzl:=hln () z hz;clear k1 kk wk hz;simp! only [↓bG,↓bx];rw [i8];refine⟨z,hy,by omega,by omega,by omega,?_⟩;rw [OJ,NJ];exact k1'
   ·intro D H2 hD e2 h2;rw [jZ] at h2;have h2':H2 D=some (.lst ((lP Z i).map V.int)):=by rw [h2];unfold lP;rw [map_map];rfl
    clear h2 wk hD hl1;ac_rfl;refine xH λ lo hlo=>?_;ac_rfl;refine xI λ hi' hhi=>?_;have e02:=e1.trans e2
    by_cases ha:0<=lo/\0 < hi'
    ·have hh:=AD hlo hhi ha.1 ha.2;obtain⟨ha1,ha2⟩:=ha;exists hh;clear hlo hhi h2';ac_rfl;intro r H3 hr3 e3 h3;rw [OJ] at h3;exact kk () (.ref r) H3 (e02.trans e3) (.inr ⟨i,_,r,rfl,h3,him,hh ()⟩)
    ·by_cases hb:hi'<=0/\lo < 0
     ·have hh:=AE hlo hhi hb.1 hb.2;obtain⟨hb1,hb2⟩:=hb;have hb3:¬ 0<=lo:=by omega
      exists hh;clear hlo hhi h2' ha;ac_rfl;intro r H3 hr3 e3 h3;rw [OJ] at h3;exact kk () (.ref r) H3 (e02.trans e3) (.inr ⟨i,_,r,rfl,h3,him,hh ()⟩)
     ·have hbw:=E1 hlo hhi ha hb
      have hn':kJ (i+1) Z:=λ a h=>by
       by_cases e:a=i
       ·rw [e];exact hbw
       ·exact hno () a %[0|8]
      exists hn';clear hlo hhi kk h2' hbw
      by_cases q1:0<=lo
      ·have q2:¬ 0 < hi':=λ h=>ha ⟨q1,h⟩;have q3:¬ lo < 0:=by omega
       have q4:hi'<=0:=by omega
       clear ha hb;ac_rfl;exact⟨_,_,_,_,rfl,e02,hn' ()⟩
      ·have q3:lo < 0:=by omega
       have q4:¬ hi'<=0:=λ h=>hb ⟨h,q3⟩;clear ha hb;ac_rfl;exact⟨_,_,_,_,rfl,e02,hn' ()⟩
  ·rintro _ H1 ⟨v2,v3,v4,v5,rfl,e1,hno⟩;rw [NJ] at hno;have k':=kk () .non H1 e1 (.inl ⟨rfl,hno⟩);clear kk hno;ac_rfl
theorem vd(a b:PP):PyData.eqv (prD a) (prD b)=decide (a=b):=by
 unfold prD;rw [eG,bV,bV,dD,iK,iK,Bool.and_true];obtain⟨a1,a2⟩:=a;obtain⟨b1,b2⟩:=b
 by_cases h1:a1=b1
 ·by_cases h2:a2=b2
  ·simp [h1,h2]
  ·simp [h1,h2]
 ·simp [h1]
theorem C9(Y:List PP)(z:PP):((Y.map prD).any λ y=>PyData.eqv y (prD z))=decide (z∈Y):=by
 rw [List.any_map];apply Pc.mpr;rw [RJ,Qd];constructor
 ·rintro ⟨y,hy,e⟩;have e':PyData.eqv (prD y) (prD z)=true:=e;rw [vd] at e';rw [←Oz e'];exact hy
 ·intro h;exact⟨z,h,by show PyData.eqv (prD z) (prD z)=true;rw [vd];exact NT rfl⟩
theorem JA{H:Hp}{f:V->Option PyData}{z:PP}{y:V}(h:PrV H z y):eI H (eI H (eI H f)) y=some (prD z):=by
 obtain⟨q,u,v,rfl,hq,hu,hv⟩:=h;rw [fG,hq]
 show yj (eI H (eI H f)) (.tup [.ref u,.ref v])=_
 rw [fF]
 show (bA [eI H (eI H f) (.ref u),eI H (eI H f) (.ref v)]).map PyData.tuple=_
 rw [lY hu,lY hv];rfl
theorem rN(a:Int)(xs:List Int):inV (.int a) (xs.map V.int)=decide (a∈xs):=by
 unfold inV;rw [List.any_map];apply Bool.eq_iff_iff.mpr;rw [List.any_eq_true,decide_eq_true_eq];constructor
 ·rintro ⟨y,hy,e⟩;have e':eqV (.int y) (.int a)=true:=e;have:y=a:=by simpa [eqV] using e'
  rw [←this];exact hy
 ·intro h;exact⟨a,h,by show eqV (.int a) (.int a)=true;simp [eqV]⟩
def iT(Z Y:List PP)(m:Nat):Prop:=(∀ y∈Y,y∈Z)/\∀ a:Nat,a < m->((∃ z∈Z,0 < bQ z.1 z.2 a)->∃ y∈Y,0 < bQ y.1 y.2 a)/\((∃ z∈Z,bQ z.1 z.2 a < 0)->∃ y∈Y,bQ y.1 y.2 a < 0)
def upB(a:Nat)(z:PP):Bool:=decide (0 < bQ z.1 z.2 a)
def sv(a:Nat)(z:PP):Bool:=decide (bQ z.1 z.2 a < 0)
theorem rl{α:Type}{p:α->Bool}{l:List α}{z:α}(hz:z∈l)(h:p z=true):∃ x,x∈(l.filter p).take 1/\p x=true:=by
 have hm:z∈l.filter p:=Ov.mpr ⟨hz,h⟩
 cases hf:l.filter p with
 | nil=>rw [hf] at hm;cases hm
 | cons x r=>
  have hx:x∈l.filter p:=by rw [hf];exact NK
  exact⟨x,by simp,(Ov.mp hx).2⟩
theorem iT.step{Z Y Y':List PP}{i:Nat}(h:iT Z Y i)(h1:∀ y∈Y,y∈Y')(h2:∀ x∈(Z.filter (upB i)).take 1++(Z.filter (sv i)).take 1,x∈Y')(h3:∀ y∈Y',y∈Z):iT Z Y' (i+1):=by
 refine⟨h3,λ a ha=>?_⟩
 by_cases e:a=i
 ·subst e;refine⟨λ ⟨z,hz,hg⟩=>?_,λ ⟨z,hz,hg⟩=>?_⟩
  ·obtain⟨x,hx,hp⟩:=rl (p:=upB a) hz (NT hg);exact⟨x,h2 x (Oc _ hx),Oz hp⟩
  ·obtain⟨x,hx,hp⟩:=rl (p:=sv a) hz (NT hg);exact⟨x,h2 x (N4 _ hx),Oz hp⟩
 ·obtain⟨p1,p2⟩:=h.2 a %[0|8];refine⟨λ hz=>?_,λ hz=>?_⟩
  ·obtain⟨y,hy,hg⟩:=p1 hz;exact⟨y,h1 y hy,hg⟩
  ·obtain⟨y,hy,hg⟩:=p2 hz;exact⟨y,h1 y hy,hg⟩
theorem vN{α:Type}{R:α->V->Prop}{zs:List α}{ys:List V}(h:Al R zs ys)(n:Nat):Al R (zs.take n) (ys.take n):=by
 refine⟨by rw [N8,N8,h.1],λ i z y hz hy=>?_⟩;rw [Rn] at hz hy;split at hz
 ·rename_i hi;rw [N7 hi] at hy;exact h.2 i z y hz hy
 ·cases hz
def ji  : Sp:=λ vs H Q E=>∃ (l:Addr) (n:Int),vs=[.ref l,.int n]/\(∃ (Z:List PP) (zs:List V) (m:Nat),n=(m:Int)/\m<=8/\H l=some (.lst zs)/\Al (PrV H) Z zs/\Z.length<=60/\pq m Z/\∀ (Y:List PP) (r:Addr) (ys:List V) (H':Hp),Ext H H'->H r=none->H' r=some (.lst ys)->Al (PrV H') Y ys->iT Z Y m->Y.length<=2 * m->Q (.ref r) H')
theorem qD  (l:Addr) (n:Int) (H:Hp) (Q:VK) (E:XK):ji  [.ref l,.int n] H Q E=(∃ (Z:List PP) (zs:List V) (m:Nat),n=(m:Int)/\m<=8/\H l=some (.lst zs)/\Al (PrV H) Z zs/\Z.length<=60/\pq m Z/\∀ (Y:List PP) (r:Addr) (ys:List V) (H':Hp),Ext H H'->H r=none->H' r=some (.lst ys)->Al (PrV H') Y ys->iT Z Y m->Y.length<=2 * m->Q (.ref r) H'):=jU (f:=λ (l:Addr) (n:Int)=>[.ref l,.int n]) (λ _ _ _ _ h=>by cases h;exact⟨rfl,rfl⟩) l n
theorem qz  {vs:List V}{H:Hp}{Q:VK}{E:XK}(h:ji  vs H Q E):vs.length=2:=jV h λ _ _=>rfl
theorem iC(T:Tx K mg t):cq P w K mg base CX0 2 t.a_barring_pairs t.d_barring_pairs ["pairs", "many"] ji:=by
 have G_gap:=%[qV|38];refine T.F_barring_pairs.ok bC (λ vs H Q E h=>qz h) (λ c A o s H vs Q E hr h=>?_)
 ·obtain⟨l,_,rfl,Z,zs,m,rfl,m8,hl,al,h60,hln,kk⟩:=h;refine⟨_,%[%[2,bC,%[(@dh _)|17]|4],%[%[NW,rfl,%[∅,T.z_range,%[%[1|0]|1],∅|31],%[(3),_,bC.nd,rfl,(Or.inr rfl),%[0|7]|13],%[%[(["pair", "pairs", "many", "chosen", "axis", "above", "below", "!pair"]),(1),(4),_,bC.nd,rfl,(Or.inl rfl),(aN (aa aP) ["pairs", "many", "chosen", "axis", "above", "below", "pair"] rfl rfl nofun),rfl,%[%[0|0]|18],(λ C s₀ H₀ ex pn=>%[(0),_,(show List.Nodup (["pair", "pairs", "many", "chosen", "axis", "above", "below", "!pair"]:List Str) from by decide +kernel),rfl,(Or.inl rfl),%[0|7]|13]),(λ C s₀ H₀ ex pn=>(@iW _ _ _ %[pA,%[gap,%[%[0|0],%[%[4|0]|1]|1]|3],%[0|2],(aA _)|14])),(λ C s₀ H₀ ex pn=>%[0|0]),∅,(by intros;rfl),%[0|7]|36],%[%[(["pair", "pairs", "many", "chosen", "axis", "above", "below", "!pair"]),(1),(5),_,bC.nd,rfl,(Or.inl rfl),(aN (aa aP) ["pairs", "many", "chosen", "axis", "above", "below", "pair"] rfl rfl nofun),rfl,%[%[0|0]|18],(λ C s₀ H₀ ex pn=>%[(0),_,(show List.Nodup (["pair", "pairs", "many", "chosen", "axis", "above", "below", "!pair"]:List Str) from by decide +kernel),rfl,(Or.inl rfl),%[0|7]|13]),(λ C s₀ H₀ ex pn=>(@iW _ _ _ %[sk,%[gap,%[%[0|0],%[%[4|0]|1]|1]|3],%[0|2],(aA _)|14])),(λ C s₀ H₀ ex pn=>%[0|0]),∅,(by intros;rfl),%[0|7]|36],%[%[NW,rfl,%[%[dn,%[yg,%[4|0],(@dm _),%[%[0|2]|30]|29],%[yg,%[5|0],(@dm _),%[%[0|2]|30]|29]|11]|18],%[6,bC|5],%[%[%[(wu hr.units),%[6|0],%[2|0],(by with_unfolding_all rfl)|14],%[%[%[Od,O6,O5,dJ,%[2|0],%[%[6|0]|1],∅,∅,∅,∅,∅|33],∅|23]|10],(@aE _)|19]|10],(by intros;rfl)|20]|10]|9]|9],(by intros;rfl)|20],%[%[%[2|0]|12]|10]|9]|9],?_⟩;rw [show aH ["pairs", "many", "chosen", "axis", "above", "below", "pair"] [.ref l,.int (m:Int)]=[some (.ref l),some (.int (m:Int)),none,none,none,none,none] from rfl];clear G_gap;exists kk;exists hln;ac_rfl;intro r H1 hr1 e1 h1;ac_rfl;refine⟨by omega,by omega,?_⟩;refine iZ (λ i σ H'=>∃ (Y:List PP) (ys:List V) (v3 v4 v5 v6:Option V),σ=[some (.ref l),some (.int (m:Int)),some (.ref r),v3,v4,v5,v6]/\Ext H H'/\H' r=some (.lst ys)/\Al (PrV H') Y ys/\Y.length<=2 * i/\iT Z Y i) ⟨[],[],none,none,none,none,rfl,e1,h1,Al.nil,NF _,(λ y h=>by cases h),λ a h=>absurd h (RM _)⟩ ?_ ?_
  ·rintro i _ H2 hi ⟨Y,ys,v3,v4,v5,v6,rfl,e2,h2,alY,hYl,hbar⟩;have him:i < m:=by have:i < ((m:Int)).toNat:=hi;omega
   have hl2:=e2.at hl;have al2:=al.imp λ _ _ t=>PrV.ext t e2;have wk:=fK (K:=K) (R:=λ z x H'=>PrV H' z x) (λ _ _ _ _ h e=>PrV.ext h e) hl2 al2;exists hbar;exists alY;clear hi;simp! only [↓aI];refine ft Z (upB i) (λ z x H'=>PrV H' z x) (λ D z y H'=>PrV H' z y) wk.1 wk.2 (λ D _ y H1 H2 h e=>h.ext e) (λ D _ y H1 xs o h hD=>h.upd hD) (aq %[0|8]) ?_ ?_
   ·intro D z y H' N1 N0 hz hD e _ hy k1 k0;have hy':=hy;obtain⟨y',_,_,rfl,_⟩:=hy';have k1':=λ h=>k1 h (.ref y') H' (Ext.refl _) hy;have k0':=λ h=>k0 h H' (Ext.refl _);have hzl:=hln () z hz;unfold upB at k1' k0';exists k1';exists k0';clear k1 k0 kk wk hz;simp! only [↓bG,↓bx];rw [i8];refine⟨z,hy,by omega,by omega,by omega,?_⟩;rw [Int.zero_add,Int.toNat_natCast];generalize bQ z.1 z.2 i=g at k1' k0'
    by_cases hg:0 < g
    ·have k2:=k1' () (NT hg);clear k1' k0';ac_rfl
    ·have k2:=k0' () (N9 hg);clear k1' k0';ac_rfl
   intro D1 as1 H3 hD1 e3 h3 al3;have hl3:=e3.at hl2;have al3':=al2.imp λ _ _ t=>PrV.ext t e3;have wk3:=fK (K:=K) (R:=λ z x H'=>PrV H' z x) (λ _ _ _ _ h e=>PrV.ext h e) hl3 al3';clear wk hD1 hl2;ac_rfl;refine ft Z (sv i) (λ z x H'=>PrV H' z x) (λ D z y H'=>PrV H' z y) wk3.1 wk3.2 (λ D _ y H1 H2 h e=>h.ext e) (λ D _ y H1 xs o h hD=>h.upd hD) (aq %[0|8]) ?_ ?_
   ·intro D z y H' N1 N0 hz hD e _ hy k1 k0;have hy':=hy;obtain⟨y',_,_,rfl,_⟩:=hy';have k1':=λ h=>k1 h (.ref y') H' (Ext.refl _) hy;have k0':=λ h=>k0 h H' (Ext.refl _);have hzl:=hln () z hz;unfold sv at k1' k0';exists k1';exists k0';clear k1 k0 kk wk3 hz;simp! only [↓bG,↓bx];rw [i8];refine⟨z,hy,by omega,by omega,by omega,?_⟩;rw [Int.zero_add,Int.toNat_natCast];generalize bQ z.1 z.2 i=g at k1' k0'
    by_cases hg:g < 0
    ·have k2:=k1' () (NT hg);clear k1' k0';ac_rfl
    ·have k2:=k0' () (N9 hg);clear k1' k0';ac_rfl
   intro D2 bs1 H4 hD2 e4 h4 al4;have h3_4:=e4.at h3;have e24:=e3.trans e4;have al34:=al3.imp λ _ _ t=>PrV.ext t e4;have aX:=qY (vN al34 1) (vN al4 1);have hstep:=λ (_:Unit)=>λ {Y':List PP}=>(hbar ()).step (Y':=Y');exists aX;clear wk3 hD2 hl3 al3 al4 al34 al3' h3;have ct1:kA as1 none (some 1)=as1.take 1:=uU as1 1 ⋯;have ct2:kA bs1 none (some 1)=bs1.take 1:=uU bs1 1 ⋯;ac_rfl;intro t1 H5 ht1 e5 h5;have h4_5:=e5.at h4;clear ht1 h4 h3_4 ct1;ac_rfl;intro t2 H6 ht2 e6 h6;have h5_6:=e6.at h5;have hcat:(as1.take 1).length+(bs1.take 1).length<=sizeLine:=aq (by rw [N8,N8];omega);clear ht2 h4_5 h5 ct2;ac_rfl;intro t3 H7 ht3 e7 h7;have e47:=e5.trans (e6.trans e7);have e27:=e24.trans e47;have aX7:=(aX ()).imp λ _ _ t=>PrV.ext t e47;have hxl:(as1.take 1++bs1.take 1).length<=2:=by rw [NP,N8,N8];omega
   have nt:t3 ≠ r:=λ z=>by rw [z,(e24.trans (e5.trans e6)).at h2] at ht3;cases ht3
   have h2_7:=e27.at h2;have alY7:=(alY ()).imp λ _ _ t=>PrV.ext t e27
   have hXZ:∀ x∈(Z.filter (upB i)).take 1++(Z.filter (sv i)).take 1,x∈Z:=λ x hx=>by
    rcases N2.mp hx with hx|hx
    ·exact(Ov.mp (OK hx)).1
    ·exact(Ov.mp (OK hx)).1
   have hYZ:=(hbar ()).1;have e07:=e2.trans e27;generalize (Z.filter (upB i)).take 1++(Z.filter (sv i)).take 1=XX at aX7 hXZ hstep;generalize as1.take 1++bs1.take 1=xs at h7 aX7 hxl;exists hXZ;exists hYZ;clear ht3 h6 h5_6 hcat aX e5 e6 e7 e47 e24 e27 alY hbar;ac_rfl;refine cR (xs:=xs) (λ j σ H'=>∃ (Y':List PP) (ys':List V) (v6:Option V),σ=[some (.ref l),some (.int (m:Int)),some (.ref r),some (.int (0+(i:Int))),some (.ref D1),some (.ref D2),v6]/\Ext H H'/\H' t3=some (.lst xs)/\H' r=some (.lst ys')/\Al (PrV H') Y' ys'/\Y'.length<=2 * i+j/\(∀ y∈Y,y∈Y')/\(∀ x∈XX.take j,x∈Y')/\(∀ y∈Y',y∈Z)/\Al (PrV H') XX xs) ⟨Y,ys,_,rfl,e07,h7,h2_7,alY7,hYl,λ _ h=>h,(λ x h=>by cases h),hYZ (),aX7⟩ (λ j σ H' _ ⟨_,_,_,_,_,h,_⟩=>h) ?_ ?_
   ·rintro j y _ H8 hj ⟨Y',ys',v6',rfl,e8,ht8,hr8,alY8,hYl8,hyy,hxx,hyz,aX8⟩;have hjx:j < XX.length:=by have:=(Ny.mp hj).1;rw [aX8.1] at this;exact this
    obtain⟨z,hz⟩:∃ z,XX[j]? = some z:=⟨_,Nw hjx⟩;have pz:=aX8.2 j z y hz hj;have hzZ:=hXZ () z (N6 hz);have hjl:j < 2:=by have:=aX8.1;omega
    have dp:gM H8 6 y=some (prD z):=JA (f:=eI H8 (eI H8 (eI H8 noD))) pz;have d0:bA (ys'.map (gM H8 5))=some (Y'.map prD):=vc (f:=eI H8 (eI H8 noD)) alY8
    have dl:gM H8 6 (.ref r)=some (.list (Y'.map prD)):=by
     rw [kZ,hr8]
     show yj (gM H8 5) (.lst ys')=_
     rw [gY,d0];rfl
    have hys8:ys'.length<=20:=by rw [alY8.1];omega
    have htk:XX.take (j+1)=XX.take j++[z]:=by rw [OH,hz];rfl
    exists dp;exists dl;exists htk;exists alY8;exists aX8;exists hyy;exists hxx;exists hyz;exists pz;clear d0 hj hz hXZ hYZ hstep kk;simp! only [↓aI];refine⟨_,_,dp (),dl (),?_⟩;rw [N7 rfl,C9]
    by_cases hm:z∈Y'
    ·have fin:(∀ x∈XX.take (j+1),x∈Y'):=λ x hx=>by
      rw [htk ()] at hx
      rcases N2.mp hx with hx|hx
      ·exact hxx () x hx
      ·rw [NC.mp hx];exact hm
     rw [NT hm];exists fin;clear hm;ac_rfl;exact⟨Y',ys',_,rfl,e8,rfl,alY8 (),by omega,hyy (),fin (),hyz (),aX8 ()⟩
    ·rw [N9 hm]
     have fin:(∀ x∈XX.take (j+1),x∈Y'++[z]):=λ x hx=>by
      rw [htk ()] at hx
      rcases N2.mp hx with hx|hx
      ·exact Oc _ (hxx () x hx)
      ·exact N4 _ hx
     have hl8:ys'.length < sizeLine:=fQ %[0|8];exists fin;clear hm;ac_rfl
     exact⟨Y'++[z],ys'++[y],_,rfl,e8.put hr1,by rw [ag nt];exact ht8,rfl,i9 ((alY8 ()).imp λ _ _ t=>PrV.upd t hr8) (PrV.upd (pz ()) hr8),by rw [NP,OQ];omega,λ y hy=>Oc _ (hyy () y hy),fin (),λ y hy=>by
      rcases N2.mp hy with hy|hy
      ·exact hyz () y hy
      ·rw [NC.mp hy];exact hzZ,(aX8 ()).imp λ _ _ t=>PrV.upd t hr8⟩
   ·rintro _ H8 ⟨Y',ys',v6',rfl,e8,ht8,hr8,alY8,hYl8,hyy,hxx,hyz,aX8⟩;rw [aX8.1,OE] at hxx;have hfin:=hstep () hyy hxx hyz;have hYl9:Y'.length<=2 * (i+1):=by omega
    exists hfin;exists alY8;clear hstep hyy hxx hyz aX8 hXZ hYZ alY7 aX7 h7 h2_7;ac_rfl;exact⟨Y',ys',_,_,_,_,rfl,e8,rfl,alY8 (),hYl9,hfin ()⟩
  ·rintro _ H2 ⟨Y,ys,v3,v4,v5,v6,rfl,e2,h2,alY,hYl,hbar⟩;rw [NJ] at hbar hYl;have k':=kk () Y r ys H2 e2 hr1 h2 alY hbar hYl;clear kk hbar alY;ac_rfl
theorem pj.len{n:Nat}{os:List (Int × Int)}(h:pj n os):os.length<=n:=by
 have:=h.full.1;rw [NP] at this;omega
theorem LoI.done{n:Nat}{P:List PP}{os:List (Int × Int)}(h:LoI n P [] os):∀ z∈P,crB (os++gN n os) z.1 z.2=true:=λ z hz=>by
 rcases h.crr z hz with h|h
 ·cases h
 ·exact lZ h
theorem pq.filter{n:Nat}{Z:List PP}{p:PP->Bool}(h:pq n Z):pq n (Z.filter p):=λ z hz=>h z (Ov.mp hz).1
theorem lR.ext{n:Nat}{L:List PP}{H H':Hp}{x:V}(h:lR n L H x)(e:Ext H H'):lR n L H' x:=by
 rcases h with h|⟨a,w,q,h1,h2,h3⟩
 ·exact .inl h
 ·exact .inr ⟨a,w,q,h1,e.at h2,h3⟩
theorem lR.upd{n:Nat}{L:List PP}{H:Hp}{x:V}{r:Addr}{zs:List V}{o:HO}(h:lR n L H x)(hr:H r=some (.lst zs)):lR n L (upd H r o) x:=by
 rcases h with h|⟨a,w,q,h1,h2,h3⟩
 ·exact .inl h
 ·exact .inr ⟨a,w,q,h1,by rw [ag (λ z=>by rw [z,hr] at h2;cases h2)];exact h2,h3⟩
def GP(P:List PP)(n:Nat)(H:Hp)(x:Addr):Prop:=(∃ (os:List (Int × Int)) (r:Addr),H x=some (.tup [.str "loops",.ref r])/\bE H r (os.map λ o=>[o.1,o.2])/\d7 os n/\∀ z∈P,crB os z.1 z.2=true)\/∃ (L Y:List PP) (r:Addr) (ys:List V),H x=some (.tup [.str "none",.ref r])/\H r=some (.lst ys)/\Al (PrV H) Y ys/\iT L Y n/\kJ n L/\¬ L=[]/\Y.length<=2 * n/\∀ z∈L,z∈P
def pN(C:Addr):Sp:=λ vs H Q E=>∃ (u:Addr) (v:Addr),vs=[.ref u,.ref v]/\(∃ (room f1 f2:Int) (A B:List (Int × Int)) (ms:List Int),ar C H u room f1 A/\ar C H v room f2 B/\dt A/\dt B/\(A.map λ a=>a.1)=ms/\(B.map λ a=>a.1)=ms/\ae ms<=60/\(af f1 A).Nodup/\∀ (x:Addr) (H':Hp),Ext H H'->GP ((aL (af f1 A) (af f2 B) (af f2 B).length).map (jW ms)) ms.length H' x->Q (.ref x) H')
theorem xZ(C:Addr)(u:Addr)(v:Addr)(H:Hp)(Q:VK)(E:XK):pN C [.ref u,.ref v] H Q E=(∃ (room f1 f2:Int) (A B:List (Int × Int)) (ms:List Int),ar C H u room f1 A/\ar C H v room f2 B/\dt A/\dt B/\(A.map λ a=>a.1)=ms/\(B.map λ a=>a.1)=ms/\ae ms<=60/\(af f1 A).Nodup/\∀ (x:Addr) (H':Hp),Ext H H'->GP ((aL (af f1 A) (af f2 B) (af f2 B).length).map (jW ms)) ms.length H' x->Q (.ref x) H'):=jU (f:=λ (u:Addr) (v:Addr)=>[.ref u,.ref v]) (λ _ _ _ _ h=>by cases h;exact⟨rfl,rfl⟩) u v
theorem xu(C:Addr){vs:List V}{H:Hp}{Q:VK}{E:XK}(h:pN C vs H Q E):vs.length=2:=jV h λ _ _=>rfl
theorem mL(T:Tx K mg t):cq P w K mg base CX0 8 t.a_loop_order t.d_loop_order ["to", "source"] (pN t.a_View):=by
 have G_bound_pairs:=%[fV|38];have G_helpful_loop:=%[jO|38];have G_gap:=%[qV|38];have G_barring_pairs:=%[iC|38];refine T.F_loop_order.ok bF (λ vs H Q E h=>xu _ h) (λ c A o s H vs Q E hr h=>?_)
 ·obtain⟨u,v,rfl,room,f1,f2,A,B,ms,vu,vv,hA,hB,m1,m2,h60,hnd,kk⟩:=h;obtain⟨dx,D,hu,tD⟩:=vu.ob;obtain⟨ax,hD,alA⟩:=tD;have hax:ax.length=ms.length:=by rw [alA.1,←m1];unfold axL;rw [length_map,length_map]
  have c1:=T.cl_View;have c3:=T.na_View_axes;have g3:=cE room f1 D;refine⟨_,%[%[2,bF,%[bound_pairs,%[%[0|0],%[%[1|0]|1]|1]|3]|4],%[%[3,bF,%[len,aG,%[%[%[0|0],rfl|25]|1]|6]|4],%[%[4,bF,%[(@dh _)|17]|4],%[(@gk _ _ (5) _ _ _ _ bF.nd rfl (Or.inr rfl) %[helpful_loop,%[%[2|0],%[%[3|0]|1]|1]|3] ∅ %[0|7]),%[(@rB _ _ _ _ _ _ NW %[rD,%[5|0],(@qT _ _ _),(aA _)|14] %[%[%[Od,O6,O5,dJ,%[4|0],%[%[5|0]|1],∅,∅,∅,∅,∅|33],∅|23],%[%[(["pair", "to", "source", "left", "many", "order", "loop", "used"]),(1),(2),_,bF.nd,rfl,(Or.inl rfl),(aN (aa bo) ["to", "source", "left", "many", "order", "loop", "used"] rfl rfl nofun),rfl,%[%[2|0]|18],(λ C s₀ H₀ ex pn=>%[(0),_,(show List.Nodup (["pair", "to", "source", "left", "many", "order", "loop", "used"]:List Str) from by decide +kernel),rfl,(Or.inl rfl),%[0|7]|13]),(λ C s₀ H₀ ex pn=>(@iW _ _ _ %[(dF hr.units),%[gap,%[%[0|0],%[%[fN,%[6|0],%[0|2],(λ _ _=>rfl)|16]|1]|1]|3],%[0|2],(aA _)|14])),(λ C s₀ H₀ ex pn=>%[0|0]),∅,(by intros;rfl),%[0|7]|36],%[(@gk _ _ (5) _ _ _ _ bF.nd rfl (Or.inr rfl) %[helpful_loop,%[%[2|0],%[%[3|0]|1]|1]|3] ∅ %[0|7])|10]|9]|9]),%[%[%[pA,%[len,aG,%[%[2|0]|1]|6],%[0|2],(aA _)|14],%[%[%[%[(@qS _ _ _ _),%[%[barring_pairs,%[%[2|0],%[%[3|0]|1]|1]|3]|1]|1]|28]|12]|10],(@aE _)|19],%[(@gk _ _ (6) _ _ _ _ bF.nd rfl (Or.inr rfl) %[(["axis", "way", "to", "source", "left", "many", "order", "loop", "used"]),(2),(aN (aa bo) ["to", "source", "left", "many", "order", "loop", "used"] rfl rfl nofun),rfl,%[%[4|0]|18],(λ C s₀ H₀ ex pn=>(%[(2),rfl,%[%[(0),_,(show List.Nodup (["axis", "way", "to", "source", "left", "many", "order", "loop", "used"]:List Str) from by decide +kernel),rfl,(Or.inl rfl),%[0|7]|13],%[%[(1),_,(show List.Nodup (["axis", "way", "to", "source", "left", "many", "order", "loop", "used"]:List Str) from by decide +kernel),rfl,(Or.inl rfl),%[0|7]|13],(@bj _),∅|15],∅|15],∅,∅|22].mono λ _ _ _ _ h=>di h)),(λ C s₀ H₀ ex pn=>(@br _)),(λ C s₀ H₀ ex pn=>%[0|0]),(by intros;rfl)|21] ∅ %[0|7]),%[%[%[%[(@qS _ _ _ _),%[%[dn,%[4|0],%[(["axis", "to", "source", "left", "many", "order", "loop", "used"]),(1),(aN (aa bo) ["to", "source", "left", "many", "order", "loop", "used"] rfl rfl nofun),rfl,%[∅,T.z_range,%[%[3|0]|1],∅|31],(λ C s₀ H₀ ex pn=>%[(0),_,(show List.Nodup (["axis", "to", "source", "left", "many", "order", "loop", "used"]:List Str) from by decide +kernel),rfl,(Or.inl rfl),%[0|7]|13]),(λ C s₀ H₀ ex pn=>(@iW _ _ _ %[nX,%[0|0],%[7|0],(by with_unfolding_all rfl)|14])),(λ C s₀ H₀ ex pn=>%[%[%[0|0],%[%[0|2]|1]|1]|28]),(by intros;rfl)|21]|11]|1]|1]|28]|12]|10]|9]|9]|9]|9]|9]|9]|9],?_⟩;rw [show aH ["to", "source", "left", "many", "order", "loop", "used"] [.ref u,.ref v]=[some (.ref u),some (.ref v),none,none,none,none,none] from rfl];clear G_bound_pairs G_helpful_loop G_gap G_barring_pairs alA;have h8:ms.length<=8:=by rw [←m1,Nz];exact hA.1
  have n2:=aJ f2 B λ b hb=>(hB.2 b hb).1;rw [m2] at n2;exists m1;exists m2;exists hnd;exists kk;ac_rfl;rw [oC];refine⟨room,f1,f2,A,B,vu,vv,hA,hB,by rw [m1 (),m2 ()],by rw [m1 ()];omega,hnd (),λ l r ys zs H1 e1 hr1 hl1 al1 hz1 alp1=>?_⟩;rw [m1 ()] at al1;have pr1:=vk al1 alp1;have hpl:=gX (af f1 A) (af f2 B) (af f2 B).length;have hln:pq ms.length ((aL (af f1 A) (af f2 B) (af f2 B).length).map (jW ms)):=PrV.len;have hZl:((aL (af f1 A) (af f2 B) (af f2 B).length).map (jW ms)).length<=60:=by rw [Nz];omega
  generalize (aL (af f1 A) (af f2 B) (af f2 B).length).map (jW ms)=Z at pr1 hln hZl kk;have hu1:=e1.at hu;have hD1:=e1.at hD;have hax':(ax.length:Int)=(ms.length:Int):=by omega
  exists hln;exists pr1;clear hl1 al1 alp1 hpl hr1;ac_rfl;intro od H2 hod e2 h2;have e02:=e1.trans e2;have hod0:H od=none:=e1.free hod;have nro:r ≠ od:=λ z=>by rw [z,hod] at hz1;cases hz1
  have hz2:=e2.at hz1;have pr2:=λ (_:Unit)=>(pr1 ()).imp λ _ _ t=>PrV.ext t e2;clear hz1 pr1 hu1 hD1 hod e1 e2;ac_rfl;rw [rY];refine⟨Z,zs,ms.length,rfl,h8,hz2,pr2 (),hZl,hln (),λ x H3 e3 nx=>?_⟩;have e03:=e02.trans e3;have hz3:=e3.at hz2;have h2_3:=e3.at h2;have pr3:=(pr2 ()).imp λ _ _ t=>PrV.ext t e3;have ini:=LoI.init ms.length Z;clear hz2 pr2 h2 e02 e3;ac_rfl;refine u3 (by repeat' first|exact Gw|exact mo_nI0|exact mo_nI|apply rJ|apply mo_unN|exact uJ|exact Mj|exact mo_rI0|exact mo_rI|exact mo_rIsN|exact rH|exact BA|exact mo_qIx|exact BB|exact mo_qLen|apply pW|apply mo_tB|apply mo_not|apply mo_and|apply mo_or|apply Gx|apply mo_un|apply mo_cons|apply vt|apply mo_cb) (λ m σ H'=>∃ (L:List PP) (os:List (Int × Int)) (lf:Addr) (zs us:List V) (x:V),σ=[some (.ref u),some (.ref v),some (.ref lf),some (.int (ms.length:Int)),some (.ref od),some x,none]/\m=L.length/\Ext H H'/\H' lf=some (.lst zs)/\Al (PrV H') L zs/\L.length<=60/\H' od=some (.lst us)/\Al (dR H') (os.map λ o=>[o.1,o.2]) us/\LoI ms.length Z L os/\lf ≠ od/\lR ms.length L H' x) _ ⟨Z,[],_,zs,[],x,rfl,rfl,e03,hz3,pr3,hZl,h2_3,⟨rfl,λ i z y h=>by cases h⟩,ini,nro,nx⟩ ?_;rintro m _ H4 ⟨L,os,lf,zs4,us,x4,rfl,rfl,e4,hlf,alL,hL60,ho4,alO,hI,nlf,hN⟩;clear hz3 pr3 h2_3 ini nx e03;have hol:us.length<=8:=by have:=hI.ord.len;rw [alO.1,Nz];omega
  rcases hN with ⟨rfl,hno⟩|⟨a,w',q,rfl,hq,han,hh⟩
  ·have hus:us.length=os.length:=by rw [alO.1,Nz]
   exists hI;exists hno;exists alL;exists alO;have hzl:zs4.length=L.length:=(alL ()).1
   by_cases hLe:L=[]
   ·subst hLe;have hz0:zs4=[]:=OB hzl;subst hz0;have hcr:=λ (_:Unit)=>(hI ()).done;have hok:=λ (_:Unit)=>(hI ()).ord.full;have hob:=λ (_:Unit)=>(hI ()).ord.1;have wk:=fK (K:=K) (R:=axP) (λ _ _ _ _ h e=>h.ext e) ho4 (ic (alO ()));clear hI hno hzl;ac_rfl;refine bP os (λ _=>true) (λ o=>.int o.1) (λ z x H'=>axP z x H') wk.1 wk.2 (aq %[0|8]) ?_ ?_
    ·intro D z y H' N1 N0 hz hD e ⟨qq,hy,hqq⟩ k1 _;subst hy;have k1':N1 (.int z.1) H':=k1 rfl H' (Ext.refl _);clear k1 kk wk hz;simp! only [↓d8,↓bx]
    ·intro D5 H5 hD5 e5 h5;rw [jZ] at h5;have h5':H5 D5=some (.lst ((os.map λ o=>o.1).map V.int)):=by rw [h5,OA];rfl
     have ho5:=e5.at ho4;have alO5:=(alO ()).imp λ _ _ t=>dR.ext t e5;exists alO5;clear h5 wk hD5 ho4 alO;ac_rfl;refine⟨by omega,by omega,?_⟩;rw [NJ];refine ft (List.range ms.length) (λ j=>decide (¬ (j:Int)∈os.map λ o=>o.1)) (λ j x H'=>x=.int (0+(j:Nat))) (λ D j y H'=>∃ q,y=.ref q/\H' q=some (.tup [.int (j:Int),.int 1])) eX.1 eX.2 (λ D _ y H1 H2 ⟨q,h1,h3⟩ e=>⟨q,h1,e.at h3⟩) (λ D _ y H1 xs o ⟨q,h1,h3⟩ hD=>⟨q,h1,by rw [ag (λ z=>by rw [z,hD] at h3;cases h3)];exact h3⟩) (aq (by rw [Oj];omega)) ?_ ?_
     ·intro D j y H' N1 N0 hj hD e _ hy k1 k0;subst hy;have h5j:=e.at h5';have hin:=rN (j:Int) (os.map λ o=>o.1);have fl1:fL (.int (j:Int))=true:=rfl;have fl2:(((os.map λ o=>o.1).map V.int).all fL)=true:=by rw [all_map];exact Pg.mpr λ _ _=>rfl
      have k1':=k1;have k0':=k0
      by_cases hm:(j:Int)∈os.map λ o=>o.1
      ·rw [NT hm] at hin;have k2:=k0 (N9 (λ z=>z hm)) H' (Ext.refl _);clear k1 k0 k1' k0' kk hj hm h5';generalize (os.map λ o=>o.1).map V.int=xs at h5j hin fl2;rw [OJ];simp! only [↓bG,↓bx]
      ·rw [N9 hm] at hin;have k2:=k1 (NT hm);clear k1 k0 k1' k0' kk hj hm h5';generalize (os.map λ o=>o.1).map V.int=xs at h5j hin fl2;rw [OJ];simp! only [↓bG,↓bx];intro t1 H9 ht1 e9 h9;exact k2 _ H9 e9 ⟨t1,rfl,h9⟩
     intro D7 zs7 H7 hD7 e7 h7 al7
     have hrl:gN ms.length os=((List.range ms.length).filter λ (j:Nat)=>decide (¬ (j:Int)∈os.map λ o=>o.1)).map λ (j:Nat)=>((j:Int),(1:Int)):=by
      unfold gN;rw [List.filter_map,map_map];rfl
     have al7':Al (dR H7) ((gN ms.length os).map λ o=>[o.1,o.2]) zs7:=by
      rw [hrl];refine⟨by rw [al7.1,Nz,Nz],λ i z y hz hy=>?_⟩;rw [OA,NL] at hz;obtain⟨j,hj,rfl⟩:=NI.mp hz;obtain⟨q,hq1,hq3⟩:=al7.2 i j y hj hy;exact⟨q,hq1,hq3⟩
     have ho7:=e7.at ho5
     have hzl7:us.length+zs7.length<=5000:=by
      have:zs7.length<=ms.length:=by rw [al7.1];have:=Qm (λ j:Nat=>decide (¬ (j:Int)∈os.map λ o=>o.1)) (List.range ms.length);rw [Oj] at this;exact this
      omega
     exists al7';clear hrl al7 hD7 h5' ho5;ac_rfl;refine⟨aq %[0|8],?_⟩;intro r8 H8 hr8 e8 h8';have e58:=e7.trans e8;have al8:=λ (_:Unit)=>qY ((alO5 ()).imp λ _ _ t=>dR.ext t e58) ((al7' ()).imp λ _ _ t=>dR.ext t e8);clear hr8 hzl7 ho7 h7;ac_rfl;intro x9 H9 hx9 e9 h9;exact kk () x9 H9 (e4.trans (e5.trans (e58.trans e9))) (.inl ⟨os++gN ms.length os,r8,h9,⟨_,e9.at h8',by rw [Oy];exact(al8 ()).imp λ _ _ t=>dR.ext t e9⟩,hok (),hcr ()⟩)
   ·have hlpos:(0:Int) < (zs4.length:Int):=by
     have:L.length ≠ 0:=λ e=>hLe (OB e);omega
    have hlpos2:(0:Int) < (L.length:Int):=by rw [←hzl];exact hlpos
    clear hzl;ac_rfl;rw [qD];refine⟨L,zs4,ms.length,rfl,h8,hlf,alL (),hL60,λ z hz=>hln () z ((hI ()).sub z hz),λ Y r5 ys5 H5 e5 hr5 h5 al5 hbar hYl5=>?_⟩;exists al5;exists hbar;clear hr5;ac_rfl;intro x6 H6 hx6 e6 h6;exact kk () x6 H6 (e4.trans (e5.trans e6)) (.inr ⟨L,Y,r5,ys5,h6,e6.at h5,(al5 ()).imp λ _ _ t=>PrV.ext t e6,hbar (),hno (),hLe,hYl5,(hI ()).sub⟩)
  ·obtain⟨hI',hlt⟩:=hI.step hh han;have nql:q ≠ od:=λ z=>by rw [z,ho4] at hq;cases hq
   have hus8:us.length < sizeLine:=fQ %[0|8];have hq5:(upd H4 od (.lst (us++[.ref q]))) q=some (.tup [.int (a:Int),.int w']):=by rw [ag nql];exact hq
   have hlf5:(upd H4 od (.lst (us++[.ref q]))) lf=some (.lst zs4):=by rw [ag nlf];exact hlf
   have ho5:(upd H4 od (.lst (us++[.ref q]))) od=some (.lst (us++[.ref q])):=au;have al5:=alL.imp λ _ _ t=>PrV.upd (o:=.lst (us++[.ref q])) t ho4
   have alO5:Al (dR (upd H4 od (.lst (us++[.ref q])))) ((os++[((a:Int),w')]).map λ o=>[o.1,o.2]) (us++[.ref q]):=by
    rw [Oy];exact i9 (alO.imp λ _ _ t=>dR.upd t ho4) (dR.upd ⟨q,rfl,hq⟩ ho4)
   have e5:Ext H (upd H4 od (.lst (us++[.ref q]))):=e4.put hod0;have hsub:=λ (_:Unit)=>hI.sub;exists hI';clear hI hh alL alO;ac_rfl;generalize upd H4 od (.lst (us++[.ref q]))=H5 at hq5 hlf5 ho5 al5 alO5 e5 ⊢;have wk:=fK (K:=K) (R:=λ z x H'=>PrV H' z x) (λ _ _ _ _ h e=>PrV.ext h e) hlf5 al5;exists alO5;clear hq hlf ho4 al5 e4;ac_rfl;refine ft L (λ z=>decide (bQ z.1 z.2 a=0)) (λ z x H'=>PrV H' z x) (λ D z y H'=>PrV H' z y) wk.1 wk.2 (λ D _ y H1 H2 h e=>h.ext e) (λ D _ y H1 xs o h hD=>h.upd hD) (aq %[0|8]) ?_ ?_
   ·intro D z y H' N1 N0 hz hD e _ hy k1 k0;have hy':=hy;obtain⟨y',_,_,rfl,_⟩:=hy';have k1':=λ h=>k1 h (.ref y') H' (Ext.refl _) hy;have k0':=λ h=>k0 h H' (Ext.refl _);have hzl:=hln () z (hsub () z hz);have hq':=e.at hq5;exists k1';exists k0';clear k1 k0 wk hz;simp! only [↓bG,↓bx];rw [i8];refine⟨z,hy,by omega,by omega,by omega,?_⟩;rw [NJ];generalize bQ z.1 z.2 a=g at k1' k0'
    by_cases hg:g=0
    ·have k2:=k1' () (NT hg);clear k1' k0';ac_rfl
    ·have k2:=k0' () (N9 hg);clear k1' k0';ac_rfl
   intro D6 zs6 H6 hD6 e6 h6 al6;have ho6:=e6.at ho5;have nD:D6 ≠ od:=λ z=>by rw [z,ho5] at hD6;cases hD6
   have alO6:=λ (_:Unit)=>(alO5 ()).imp λ _ _ t=>dR.ext t e6;have e06:=e5.trans e6;have hfl:(L.filter λ z=>decide (bQ z.1 z.2 a=0)).length<=60:=by omega
   have hln6:=λ (_:Unit)=>(show pq ms.length (L.filter λ z=>decide (bQ z.1 z.2 a=0)) from λ z hz=>hln () z (hsub () z (Ov.mp hz).1));exists al6;clear wk hD6 hlf5 ho5 alO5 hsub hq5 e5;ac_rfl;rw [rY];refine⟨_,zs6,ms.length,rfl,h8,h6,al6 (),hfl,hln6 (),λ x7 H7 e7 nx7=>?_⟩;have q1:=λ (_:Unit)=>e7.at h6;have q2:=λ (_:Unit)=>(al6 ()).imp λ _ _ t=>PrV.ext t e7;have q3:=λ (_:Unit)=>e7.at ho6;have q4:=λ (_:Unit)=>(alO6 ()).imp λ _ _ t=>dR.ext t e7;have e07:=e06.trans e7;exists nx7;clear alO6 al6 hln6 hln h6 ho6 e7 e06 e6;ac_rfl;exact⟨_,hlt,_,_,D6,zs6,_,x7,rfl,rfl,e07,q1 (),q2 (),hfl,q3 (),q4 (),hI' (),nD,nx7 ()⟩
def pO  : Sp:=λ vs H Q E=>∃ (p:Addr) (q:Addr) (w1:Addr) (w2:Addr),vs=[.ref p,.ref q,.ref w1,.ref w2]/\(∃ (ms:List Int) (os:List (Int × Int)) (ws rs:List Int),H p=some (.lst (ms.map V.int))/\bE H q (os.map λ o=>[o.1,o.2])/\d7 os ms.length/\H w1=some (.lst (ws.map V.int))/\H w2=some (.lst (rs.map V.int))/\SzK ms/\(ws.length:Int)=ae ms/\(rs.length:Int)=ae ms/\ws.Nodup/\∀ H',Ext H H'->Q (.bl (eu ms ws rs os)) H')
theorem x8  (p:Addr) (q:Addr) (w1:Addr) (w2:Addr) (H:Hp) (Q:VK) (E:XK):pO  [.ref p,.ref q,.ref w1,.ref w2] H Q E=(∃ (ms:List Int) (os:List (Int × Int)) (ws rs:List Int),H p=some (.lst (ms.map V.int))/\bE H q (os.map λ o=>[o.1,o.2])/\d7 os ms.length/\H w1=some (.lst (ws.map V.int))/\H w2=some (.lst (rs.map V.int))/\SzK ms/\(ws.length:Int)=ae ms/\(rs.length:Int)=ae ms/\ws.Nodup/\∀ H',Ext H H'->Q (.bl (eu ms ws rs os)) H'):=L8 (f:=λ (p:Addr) (q:Addr) (w1:Addr) (w2:Addr)=>[.ref p,.ref q,.ref w1,.ref w2]) (λ _ _ _ _ _ _ _ _ h=>by cases h;exact⟨rfl,rfl,rfl,rfl⟩) p q w1 w2
theorem xw  {vs:List V}{H:Hp}{Q:VK}{E:XK}(h:pO  vs H Q E):vs.length=4:=L9 h λ _ _ _ _=>rfl
theorem mP(T:Tx K mg t):cq P w K mg base CX0 2 t.a__law_keeps t.d__law_keeps ["_law_sizes_here", "_law_order", "_law_writes", "_law_reads"] pO:=by
 have G__law_walk:=%[oP|38];have G__law_number:=%[km|38];refine T.F__law_keeps.ok cL (λ vs H Q E h=>xw h) (λ c A o s H vs Q E hr h=>?_)
 ·obtain⟨p,q,w1,w2,rfl,ms,os,ws,rs,hp,tq,hok,hw1,hw2,hsz,lw,lr,hnd,k⟩:=h;refine⟨_,%[%[4,cL,(@iG _ _)|4],%[%[5,cL,(@iG _ _)|4],%[%[NW,rfl,%[∅,T.z_range,%[%[len,aG,%[%[2|0]|1]|6]|1],∅|31],%[6,cL|5],%[(@lU _ _ _ _ _ _ _ _ _ (fO hr.units) %[5|0] %[fN,%[2|0],%[6|0],(λ _ _=>rfl)|16] %[fN,%[3|0],%[6|0],(λ _ _=>rfl)|16] rfl)|10],(by intros;rfl)|20],%[%[NW,rfl,%[%[_law_walk,%[%[0|0],%[%[1|0]|1]|1]|3]|18],%[7,cL|5],%[%[6,cL,%[_law_number,%[%[0|0],%[%[7|0]|1]|1]|3]|4],%[(@lU _ _ _ _ _ _ _ _ _ (fO hr.units) %[4|0] %[fN,%[2|0],%[6|0],(λ _ _=>rfl)|16] (@zv _ _ _ _ _ _ _ _ _ (fO hr.units) %[4|0] %[fN,%[3|0],%[6|0],(λ _ _=>rfl)|16] %[fN,%[3|0],%[6|0],(λ _ _=>rfl)|16] ⟨by rfl,by rfl,by rfl,by rfl⟩) rfl)|10]|9],(by intros;rfl)|20],%[%[%[(Dv (fO hr.units)),%[4|0],%[5|0],(aA _)|32]|12]|10]|9]|9]|9]|9],?_⟩;rw [show aH ["_law_sizes_here", "_law_order", "_law_writes", "_law_reads", "_law_held", "_law_due", "_law_n", "_law_place"] [.ref p,.ref q,.ref w1,.ref w2]=[some (.ref p),some (.ref q),some (.ref w1),some (.ref w2),none,none,none,none] from rfl];clear G__law_walk G__law_number;have h8:=hsz.pos.2.1;have p60:=hsz.pos.2.2;have h6:=hsz.pos.1;have hs:∀ n∈ms,1<=n/\n<=1000000000:=λ n hn=>by have:=h6 n hn;omega
  have lo:=wt hok tq;have hwi:=yK hs lo.2.2;have hpo:=yR hok.2.1;have p1:=ba ms λ m hm=>(hs m hm).1
  have hwl:(aW ms os).length=ws.length:=by
   rw [nG hs λ o ho=>(lo.2.2 o ho).1,gu,hpo];omega
  have hfin:=AO hs lw lr hnd hok hwi hwl;have hcw:∀ z∈aW ms os,ws[(d5 ms z).toNat]? = some (az ms ws z)/\rs[(d5 ms z).toNat]? = some (az ms rs z)/\0<=d5 ms z:=λ z hz=>⟨bK hs lw (hwi z hz),bK hs lr (hwi z hz),(fj ms z hs (hwi z hz)).1⟩;have hinj:∀ x∈aW ms os,∀ y∈aW ms os,az ms ws x=az ms ws y->x=y:=λ x hx y hy e=>ow hs lw hnd (hwi x hx) (hwi y hy) e;have hwn:=kM hok.toP (ms:=ms);exists k;exists hfin;exists hcw;exists hinj;exists hwn;exists hwi;exists h6;exists hs;exists hnd;exists hwl;exists hpo;clear hok hsz;ac_rfl;intro d1 H1 hd1 e1 h1;ac_rfl;intro d2 H2 hd2 e2 h2;have e02:=e1.trans e2;have h1_2:=e2.at h1;have hd2':H d2=none:=e1.free hd2;have hw1_2:=e02.at hw1;have n12:d1 ≠ d2:=λ e=>by rw [e,hd2] at h1;cases h1
  clear h1 e1 e2 hd2;ac_rfl;refine⟨by omega,by omega,?_⟩;refine iZ (λ i σ H'=>∃ v6:Option V,σ=[some (.ref p),some (.ref q),some (.ref w1),some (.ref w2),some (.ref d1),some (.ref d2),v6,none]/\Ext H H'/\H' d1=some (.dK (jT []))/\H' d2=some (.dK (jT ((ws.zip rs).take i)))) ⟨none,rfl,e02,h1_2,h2⟩ ?_ ?_
  ·rintro i _ H3 hi ⟨v6,rfl,e3,hd3,h3⟩;have hil:i < ws.length:=by have:i < (ae ms).toNat:=hi;omega
   obtain⟨c,hc⟩:∃ c,ws[i]? = some c:=⟨_,Nw hil⟩;obtain⟨v,hv⟩:∃ c,rs[i]? = some c:=⟨_,Nw %[0|8]⟩;have a1:atI (ws.map V.int) (0+(i:Int))=some (V.int c):=by rw [OJ];exact ei (by rw [NL,hc];rfl)
   have a2:atI (rs.map V.int) (0+(i:Int))=some (V.int v):=by rw [OJ];exact ei (by rw [NL,hv];rfl)
   have hw1_3:=e3.at hw1;have hw2_3:=e3.at hw2;have hno:bR ((ws.zip rs).take i) c=none:=vP (hnd ()) hc
   have htk:(ws.zip rs).take (i+1)=(ws.zip rs).take i++[(c,v)]:=by
    rw [OH,show (ws.zip rs)[i]? = some (c,v) from Pj.mpr ⟨hc,hv⟩];rfl
   have hlt:(jT ((ws.zip rs).take i)).length < sizeLine:=fQ (by unfold jT;rw [length_map,length_take,length_zip];omega);exists hno;exists htk;clear hi hc hv k h2 h1_2 hw1_2;simp! only [↓aI];refine qP (k:=.inl c) h3 hlt ?_;rw [vb v (hno ()),←htk ()];exact⟨_,rfl,e3.put hd2',by rw [ag n12];exact hd3,au⟩
  ·rintro _ H3 ⟨v6,rfl,e3,hd3,h3⟩;have hwl2:(ae ms).toNat=ws.length:=by omega
   rw [hwl2,Pd (by rw [Pu];omega)] at h3;clear h2 h1_2 hw1_2 hwl2;ac_rfl;rw [AV];refine⟨ms,os,e3.at hp,⟨h8,hs ()⟩,lo.ext e3,by rw [hpo ()];omega,λ wk H4 e4 t4=>?_⟩;obtain⟨us,hu,al⟩:=t4;have e04:=e3.trans e4;have hd4:=e4.at hd3;have h4:=e4.at h3;clear e3 e4 h3 hd3;ac_rfl;refine cR (xs:=us) (λ i σ H'=>∃ v6 v7:Option V,σ=[some (.ref p),some (.ref q),some (.ref w1),some (.ref w2),some (.ref d1),some (.ref d2),v6,v7]/\Ext H H'/\(∀ b o,b ≠ d1->H4 b=some o->H' b=some o)/\H' d1=some (.dK (jT (hU (az ms ws) (az ms rs) ((aW ms os).take i))))) ⟨_,none,rfl,e04,λ _ _ _ h=>h,hd4⟩ (λ i σ H' _ ⟨_,_,_,_,kp,_⟩=>kp wk _ (λ e=>by rw [e,hd4] at hu;cases hu) hu) ?_ ?_
   ·rintro i y _ H5 hi ⟨v6,v7,rfl,e5,kp,h5⟩;obtain⟨z,hzi,w',rfl,hwz⟩:=eS al hi;have hzm:=N6 hzi;obtain⟨c1,c2,n0⟩:=hcw () z hzm;have nw':w' ≠ d1:=λ e=>by rw [e,hd4] at hwz;cases hwz
    have hw5:H5 w'=some (.tup (z.map V.int)):=kp w' _ nw' hwz;have hp5:=e5.at hp;have hw1_5:=e5.at hw1;have hw2_5:=e5.at hw2
    have a1:atI (ws.map V.int) (d5 ms z)=some (.int (az ms ws z)):=by
     obtain⟨n,hn⟩:=NU n0;rw [hn] at c1 ⊢;exact ei (by rw [NL];rw [NJ] at c1;rw [c1];rfl)
    have a2:atI (rs.map V.int) (d5 ms z)=some (.int (az ms rs z)):=by
     obtain⟨n,hn⟩:=NU n0;rw [hn] at c2 ⊢;exact ei (by rw [NL];rw [NJ] at c2;rw [c2];rfl)
    have hzin:=hwi () z hzm
    have hss:hU (az ms ws) (az ms rs) ((aW ms os).take (i+1))=hU (az ms ws) (az ms rs) ((aW ms os).take i)++[(az ms ws z,(bR (hU (az ms ws) (az ms rs) ((aW ms os).take i)) (az ms rs z)).getD (az ms rs z))]:=by
     rw [OH,hzi];exact jj _ _ _ _
    have hno:bR (hU (az ms ws) (az ms rs) ((aW ms os).take i)) (az ms ws z)=none:=v9 (hinj ()) (hwn ()) hzi
    have hsl:(hU (az ms ws) (az ms rs) ((aW ms os).take i)).length<=60:=by
     have:=OM List.length (eD (az ms ws) (az ms rs) ((aW ms os).take i));rw [Nz,Nz,N8] at this;have:=hwl ();omega
    generalize hU (az ms ws) (az ms rs) ((aW ms os).take i)=kv at h5 hss hno hsl;have hlt:(jT kv).length < sizeLine:=fQ (by unfold jT;rw [length_map];omega);exists hno;exists hss;clear hi hzi hzm c1 c2 hwz hu hwn hcw hinj hwi k hfin;simp! only [↓aI];rw [AZ];refine⟨ms,z,hp5,hw5,h6 (),hzin,p60,λ H6 e6=>?_⟩;have g1:=e6.at hw1_5;have g2:=e6.at hw2_5;have g3:=e6.at h5;clear hp5 hw5 hw1_5 hw2_5 h5;ac_rfl;refine CF g3 ?_;ac_rfl;refine GS (k:=.inl (az ms rs z)) g3 ?_;rw [pE]
    have hgd:((bR kv (az ms rs z)).map V.int).getD (V.int (az ms rs z))=V.int ((bR kv (az ms rs z)).getD (az ms rs z)):=by
     cases bR kv (az ms rs z)<;>rfl
    rw [hgd];generalize (bR kv (az ms rs z)).getD (az ms rs z)=vv at hss;clear hgd;ac_rfl;refine qP (k:=.inl (az ms ws z)) g3 hlt ?_;rw [vb vv (hno ()),←hss ()];exact⟨_,_,rfl,(e5.trans e6).put hd1,λ b o hb ho=>by rw [ag hb];exact e6.at (kp b o hb ho),au⟩
   ·rintro _ H5 ⟨v6,v7,rfl,e5,kp,h5⟩;have hul:us.length=(aW ms os).length:=al.1;rw [hul,OE] at h5;have hd2_5:=kp d2 _ (NM n12) h4;have k':=k () H5 e5;rw [←hfin ()] at k';clear k hfin kp hul al;ac_rfl;refine CG h5 hd2_5 ?_;ac_rfl
def gO(n:Nat)(os:List (Int × Int)):List Nat:=(List.range n).filter λ (j:Nat)=>decide (¬ (j:Int)∈os.map λ o=>o.1)
def fY(os:List (Int × Int))(a:Nat):List (List (Int × Int)):=[os++[((a:Int),1)],os++[((a:Int),-1)]]
def iP(n:Nat):Nat->List (List (Int × Int))
 | 0=>[[]]
 | k+1=>(iP n k).flatMap λ os=>(gO n os).flatMap (fY os)
theorem pj.snoc{n a:Nat}{os:List (Int × Int)}{w:Int}(h:pj n os)(ha:a < n)(hf:¬ (a:Int)∈os.map λ o=>o.1)(hw:w=1\/w=-1):pj n (os++[((a:Int),w)]):=by
 refine⟨λ o ho=>?_,?_⟩
 ·rcases N2.mp ho with ho|ho
  ·exact h.1 o ho
  ·rw [NC.mp ho];exact⟨⟨by show (0:Int)<=(a:Int);omega,by show (a:Int) < (n:Int);omega⟩,hw⟩
 ·rw [Oy];refine Pb.mpr ⟨h.2,P4 _ _,λ x hx y hy e=>?_⟩;have hy':y=(a:Int):=NC.mp hy;exact hf (by rw [←hy',←e];exact hx)
theorem mG(n:Nat):∀ (k:Nat) (os:List (Int × Int)),os∈iP n k ↔ os.length=k/\pj n os
 | 0,os=>by
  constructor
  ·intro h;rw [NC.mp h];exact⟨rfl,(λ o h=>by cases h),P0⟩
  ·rintro ⟨h,_⟩;rw [OB h];exact NC.mpr rfl
 | k+1,os=>by
  have ih:=mG n k;constructor
  ·intro h;obtain⟨qs,hq,h⟩:=List.mem_flatMap.mp h;obtain⟨a,ha,h⟩:=List.mem_flatMap.mp h;obtain⟨hr,hf⟩:=List.mem_filter.mp ha;obtain⟨hl,hp⟩:=(ih qs).mp hq;have hs:=λ {w:Int} (hw:w=1\/w=-1)=>hp.snoc (List.mem_range.mp hr) (of_decide_eq_true hf) hw;unfold fY at h;simp only [mem_cons,not_mem_nil,or_false] at h
   rcases h with rfl|rfl
   ·exact⟨by rw [NP,hl];rfl,hs (.inl rfl)⟩
   ·exact⟨by rw [NP,hl];rfl,hs (.inr rfl)⟩
  ·rintro ⟨hl,hp⟩;have hne:os ≠ []:=λ e=>by rw [e] at hl;simp at hl
   obtain⟨qs,o,rfl⟩:∃ qs o,os=qs++[o]:=⟨os.dropLast,os.getLast hne,(Qt hne).symm⟩;obtain⟨h1,h2,h3,h4⟩:=hp.init;have hq:qs∈iP n k:=(ih qs).mpr ⟨by rw [NP] at hl;simpa using hl,h1⟩;refine OX.mpr ⟨qs,hq,OX.mpr ⟨o.1.toNat,Ov.mpr ⟨Oi.mpr %[0|8],NT λ hm=>?_⟩,?_⟩⟩
   ·obtain⟨p,hp',e⟩:=ND.mp hm;exact h2 p hp' %[0|8]
   ·have e1:((o.1.toNat:Nat):Int)=o.1:=Int.toNat_of_nonneg h3.1;unfold fY;rw [e1];obtain⟨o1,o2⟩:=o
    rcases h4 with h|h
    ·have h':o2=1:=h;rw [h'];exact NK
    ·have h':o2=-1:=h;rw [h'];exact NH _ NK
theorem p8{n:Nat}{os:List (Int × Int)}:os∈iP n n ↔ d7 os n:=by
 rw [mG];constructor
 ·rintro ⟨hl,hp⟩;have hf:=hp.full;have:=hf.1;rw [NP,hl] at this;have he:gN n os=[]:=OB %[0|8];rw [he,QV] at hf;exact hf
 ·intro h;exact⟨h.1,h.toP⟩
theorem mH{n k:Nat}(hn:n<=3)(hk:k<=n):(iP n k).length<=48:=by
 have key:∀ n∈[0,1,2,3],∀ k∈[0,1,2,3],k<=n->(iP n k).length<=48:=by decide +kernel
 exact key n (by simp;omega) k (by simp;omega) hk
theorem iu{α β:Type}(zs:List α)(f:α->List β)(j:Nat):((zs.take j).flatMap f).length<=(zs.flatMap f).length:=by
 conv=>rhs;rw [←Q0 j zs,PU,NP]
 omega
theorem oo{L:List PP}:∀ {os:List (Int × Int)}{z:PP},z∈L->crB os z.1 z.2=true->∃ pre o post,os=pre++o::post/\(∀ y∈L,∀ p∈pre,bQ y.1 y.2 p.1.toNat=0)/\∃ y∈L,¬ bQ y.1 y.2 o.1.toNat=0
 | [],z,_,h=>by cases h
 | o::os,z,hz,h=>by
  by_cases he:∃ y∈L,¬ bQ y.1 y.2 o.1.toNat=0
  ·exact⟨[],o,os,rfl,(λ y _ p hp=>by cases hp),he⟩
  ·have h0:∀ y∈L,bQ y.1 y.2 o.1.toNat=0:=λ y hy=>QE λ hne=>he ⟨y,hy,hne⟩;rw [dX (h0 z hz)] at h;obtain⟨pre,o',post,e,h1,h2⟩:=oo hz h
   exact⟨o::pre,o',post,by rw [e];rfl,λ y hy p hp=>by
    rcases NR.mp hp with e|hp
    ·rw [e];exact h0 y hy
    ·exact h1 y hy p hp,h2⟩
theorem zy{n:Nat}{L:List PP}{os:List (Int × Int)}(hno:kJ n L)(hne:¬ L=[])(hok:d7 os n)(h:∀ z∈L,crB os z.1 z.2=true):False:=by
 obtain⟨z,hz⟩:∃ z,z∈L:=by
  cases L with
  | nil=>exact absurd rfl hne
  | cons a r=>exact⟨a,NK⟩
 obtain⟨pre,o,post,e,h1,y,hy,hg⟩:=oo hz (h z hz);have hP:=hok.toP.1 o (by rw [e];exact N4 _ NK)
 have key:∀ x∈L,¬ bQ x.1 x.2 o.1.toNat=0->0 < bQ x.1 x.2 o.1.toNat * o.2:=λ x hx hgx=>by
  have:=h x hx;rw [e,iL (h1 x hx),du hgx] at this;exact Oz this
 rcases hno o.1.toNat (by have:=hP.1;omega) with h0|⟨⟨a,ha,ga⟩,b,hb,gb⟩
 ·exact hg (h0 y hy)
 ·have ka:=key a ha %[0|8];have kb:=key b hb %[0|8]
  rcases hP.2 with hw|hw<;>rw [hw] at ka kb<;>omega
theorem iT.both{L Y:List PP}{n:Nat}(h:iT L Y n)(hno:kJ n L):∀ a:Nat,a < n->pD Y a:=λ a ha=>by
 obtain⟨h1,h2⟩:=h.2 a ha
 rcases hno a ha with h0|⟨hn,hp⟩
 ·exact .inl λ y hy=>h0 y (h.1 y hy)
 ·exact .inr ⟨h2 hn,h1 hp⟩
theorem iT.some{L Y:List PP}{n:Nat}(h:iT L Y n)(hl:pq n L)(hne:¬ L=[])(hd:∀ z∈L,¬ z.1=z.2):¬ Y=[]:=λ e=>by
 obtain⟨z,hz⟩:∃ z,z∈L:=by
  cases L with
  | nil=>exact absurd rfl hne
  | cons a r=>exact⟨a,NK⟩
 refine hd z hz (QR (by rw [(hl z hz).1,(hl z hz).2]) λ a ha hb=>?_);have han:a < n:=by rw [←(hl z hz).1];exact ha
 have hg:bQ z.1 z.2 a=z.1[a] - z.2[a]:=by
  unfold bQ;rw [getD_eq_getElem?_getD,getD_eq_getElem?_getD,getElem?_eq_getElem ha,getElem?_eq_getElem hb];rfl
 obtain⟨h1,h2⟩:=h.2 a han;apply QE;intro hneq
 rcases Int.lt_trichotomy (bQ z.1 z.2 a) 0 with hlt|heq|hgt
 ·obtain⟨y,hy,_⟩:=h2 ⟨z,hz,hlt⟩;rw [e] at hy;cases hy
 ·omega
 ·obtain⟨y,hy,_⟩:=h1 ⟨z,hz,hgt⟩;rw [e] at hy;cases hy
theorem rC{ms ws rs:List Int}(hs:∀ n∈ms,1<=n/\n<=1000000000)(hw:(ws.length:Int)=ae ms)(hr:(rs.length:Int)=ae ms)(hnd:ws.Nodup):∀ z∈(aL ws rs rs.length).map (jW ms),¬ z.1=z.2/\InR ms z.1/\InR ms z.2:=λ z hz=>by
 obtain⟨⟨i,j⟩,hp,rfl⟩:=ND.mp hz;obtain⟨hj,c,hcj,hci,hri⟩:=(gw hnd).mp hp;have hil:i < ws.length:=(Ny.mp hci).1;refine⟨λ e=>?_,InR.split ms i hs,InR.split ms j hs⟩;have e':ao ms (i:Int)=ao ms (j:Int):=e;have:=nM (λ n hn=>(hs n hn).1) %[0|8] %[0|8] %[0|8] %[0|8] e';have hij:i=j:=by omega
 rw [hij] at hri;exact hri hcj
def BY(P:Program)(w:World):Sp:=λ vs H Q E=>∃ (b:Addr) (p:Addr) (d:Addr),vs=[.ref b,.ref p,.ref d]/\(∃ (k:PKy) (ms:List Int) (Z:List PKy),PKV H k b/\H p=some (.lst (ms.map V.int))/\eA ms/\InR ms k.1/\InR ms k.2/\ng P w H d Z/\∀ H',Ext H H'->Q (.bl (decide (k∈Z))) H')
theorem Fn(P:Program)(w:World)(b:Addr)(p:Addr)(d:Addr)(H:Hp)(Q:VK)(E:XK):BY P w [.ref b,.ref p,.ref d] H Q E=(∃ (k:PKy) (ms:List Int) (Z:List PKy),PKV H k b/\H p=some (.lst (ms.map V.int))/\eA ms/\InR ms k.1/\InR ms k.2/\ng P w H d Z/\∀ H',Ext H H'->Q (.bl (decide (k∈Z))) H'):=Bc (f:=λ (b:Addr) (p:Addr) (d:Addr)=>[.ref b,.ref p,.ref d]) (λ _ _ _ _ _ _ h=>by cases h;exact⟨rfl,rfl,rfl⟩) b p d
theorem EO(P:Program)(w:World){vs:List V}{H:Hp}{Q:VK}{E:XK}(h:BY P w vs H Q E):vs.length=3:=Bd h λ _ _ _=>rfl
theorem iB(T:Tx K mg t):cq P w K mg base CX0 4 t.a_is_known_pair t.d_is_known_pair ["thing", "sizes", "known"] (BY P w):=by
 have G_is_place:=%[qj|38];refine T.F_is_known_pair.ok jQ (λ vs H Q E h=>EO _ _ h) (λ c A o s H vs Q E hr h=>?_)
 ·obtain⟨b,p,d,rfl,k,ms,Z,hk,hp,hsz,i1,i2,kn,kk⟩:=h;have hk':=hk;obtain⟨u,v,hb,hu,hv⟩:=hk';refine⟨_,%[%[(PW.pt %[(@ia _ _ _ _ (@eK _ _ _ %[isinstance,dM,%[%[0|0],%[(@gd _ _ (.ty "tuple") (.type "tuple") _ ∅ T.z_tuple nofun rfl ⋯ ⋯)|1]|1]|6] (by intros;rfl))),(@kC _ _ _ _ %[(kF hr.units),%[len,aG,%[%[0|0]|1]|6],%[0|2],(aA _)|14])|34]),%[%[(@nu _ _ _ _)|12]|10],(@aE _)|19],%[%[%[%[is_place,%[%[1|0],%[%[fN,%[0|0],%[0|2],(λ _ _=>rfl)|16]|1]|1]|3],%[%[is_place,%[%[1|0],%[%[fN,%[0|0],%[0|2],(λ _ _=>rfl)|16]|1]|1]|3],%[%[(HB hr.units),%[0|0],%[2|0],(by with_unfolding_all rfl)|32]|27]|24]|24]|12]|10]|9],?_⟩;rw [show aH ["thing", "sizes", "known"] [.ref b,.ref p,.ref d]=[some (.ref b),some (.ref p),some (.ref d)] from rfl];clear G_is_place;exists kk;exists kn;exists hk;have t1:=ik hu;have p1:kD ms (.ref u) H=true:=nS hu i1;simp! only [↓jJ,↓pB,↓FT];intro H1 e1;have hb1:=e1.at hb;have hp1:=e1.at hp;have hv1:=e1.at hv;have t2:=ik hv1;have p2:kD ms (.ref v) H1=true:=nS hv1 i2;clear t1 p1 hb hp hu hv;simp! only [↓jJ,↓pB,↓FT];intro H2 e2;have e02:=e1.trans e2;have kn2:=(kn ()).ext e02;have hk2:=(hk ()).ext e02;have k':=kk () H2 e02;clear t2 p2 kk kn hk hb1 hp1 hv1;ac_rfl;exact CD kn2 hk2 k'
theorem MJ{Y:List PP}{a:Nat}{M:Int}(h:M∈Y.map λ z=>bQ z.1 z.2 a)(h0:∀ z∈Y,bQ z.1 z.2 a=0):M=0:=by
 obtain⟨z,hz,e⟩:=ND.mp h;rw [←e];exact h0 z hz
def ux  : Sp:=λ vs H Q E=>∃ (l:Addr) (a:Int),vs=[.ref l,.int a]/\(∃ (Y:List PP) (ys:List V) (n:Nat),H l=some (.lst ys)/\Al (PrV H) Y ys/\Y.length<=60/\¬ Y=[]/\pq n Y/\0<=a/\a < (n:Int)/\n<=8/\pD Y a.toNat/\∀ H',Ext H H'->Q (.bl true) H')
theorem A4  (l:Addr) (a:Int) (H:Hp) (Q:VK) (E:XK):ux  [.ref l,.int a] H Q E=(∃ (Y:List PP) (ys:List V) (n:Nat),H l=some (.lst ys)/\Al (PrV H) Y ys/\Y.length<=60/\¬ Y=[]/\pq n Y/\0<=a/\a < (n:Int)/\n<=8/\pD Y a.toNat/\∀ H',Ext H H'->Q (.bl true) H'):=jU (f:=λ (l:Addr) (a:Int)=>[.ref l,.int a]) (λ _ _ _ _ h=>by cases h;exact⟨rfl,rfl⟩) l a
theorem Aj  {vs:List V}{H:Hp}{Q:VK}{E:XK}(h:ux  vs H Q E):vs.length=2:=jV h λ _ _=>rfl
theorem oO(T:Tx K mg t):cq P w K mg base CX0 2 t.a_bars_axis t.d_bars_axis ["pairs", "axis"] ux:=by
 have G_gap:=%[qV|38];refine T.F_bars_axis.ok jK (λ vs H Q E h=>Aj h) (λ c A o s H vs Q E hr h=>?_)
 ·obtain⟨l,a,rfl,Y,ys,n,hl,al,h60,hne,hln,a0,a1,n8,hbw,kk⟩:=h;refine⟨_,%[%[(["pair", "pairs", "axis", "gaps"]),(1),(2),_,jK.nd,rfl,(Or.inl rfl),(aN (aa cB) ["pairs", "axis", "gaps"] rfl rfl nofun),rfl,%[%[0|0]|18],(λ C s₀ H₀ ex pn=>%[(0),_,(show List.Nodup (["pair", "pairs", "axis", "gaps"]:List Str) from by decide +kernel),rfl,(Or.inl rfl),%[0|7]|13]),(λ C s₀ H₀ ex pn=>(@br _)),(λ C s₀ H₀ ex pn=>%[gap,%[%[0|0],%[%[2|0]|1]|1]|3]),∅,(by intros;rfl),%[0|7]|36],%[%[(@Bv _ _ _ _ _ _ _ %[%[sk,%[min,(lG rfl),%[%[2|0]|1]|6],%[0|2],(aA _)|32],%[%[pA,%[max,(lH rfl),%[%[2|0]|1]|6],%[0|2],(aA _)|32]|27]|24] %[%[%[(dF hr.units),%[min,(lG rfl),%[%[2|0]|1]|6],%[0|2],(aA _)|32],%[%[(dF hr.units),%[max,(lH rfl),%[%[2|0]|1]|6],%[0|2],(aA _)|32]|27]|24]|27])|12]|10]|9],?_⟩;rw [show aH ["pairs", "axis", "gaps"] [.ref l,.int a]=[some (.ref l),some (.int a),none] from rfl];clear G_gap;have wk:=fK (K:=K) (R:=λ z x H'=>PrV H' z x) (λ _ _ _ _ h e=>PrV.ext h e) hl al;have hpos:0 < Y.length:=List.length_pos_iff.mpr hne;exists kk;exists hln;exists hbw;clear hne;ac_rfl;refine bP Y (λ _=>true) (λ z=>.int (bQ z.1 z.2 a.toNat)) (λ z x H'=>PrV H' z x) wk.1 wk.2 (aq %[0|8]) ?_ ?_
  ·intro D z y H' N1 N0 hz hD e hy k1 _;have hy':=hy;obtain⟨y',_,_,rfl,_⟩:=hy';have k1':N1 (.int (bQ z.1 z.2 a.toNat)) H':=k1 rfl H' (Ext.refl _);have hzl:=hln () z hz;clear k1 kk wk hz;simp! only [↓bG,↓bx];rw [i8];exact⟨z,hy,a0,by omega,by omega,k1'⟩
  intro D H1 hD e1 h1;rw [jZ] at h1;have h1':H1 D=some (.lst ((Y.map λ z=>bQ z.1 z.2 a.toNat).map V.int)):=by rw [h1,OA];rfl
  have k':=kk () H1 e1;have hz0:=λ (_:Unit) (M:Int) (h:M∈Y.map λ z=>bQ z.1 z.2 a.toNat)=>MJ (M:=M) h;have hgl:0 < (Y.map λ z=>bQ z.1 z.2 a.toNat).length:=by rw [Nz];exact hpos
  have hbw':(∀ z∈Y,bQ z.1 z.2 a.toNat=0)\/((∃ g∈Y.map λ z=>bQ z.1 z.2 a.toNat,g < 0)/\∃ g∈Y.map λ z=>bQ z.1 z.2 a.toNat,0 < g):=by
   rcases hbw () with h|⟨⟨z,hz,hg⟩,y,hy,hg'⟩
   ·exact .inl h
   ·exact .inr ⟨⟨_,ND.mpr ⟨z,hz,rfl⟩,hg⟩,_,ND.mpr ⟨y,hy,rfl⟩,hg'⟩
  have hall:(∀ g∈Y.map λ z=>bQ z.1 z.2 a.toNat,g=0)\/((∃ g∈Y.map λ z=>bQ z.1 z.2 a.toNat,g < 0)/\∃ g∈Y.map λ z=>bQ z.1 z.2 a.toNat,0 < g):=by
   rcases hbw' with h|h
   ·exact .inl λ g hg=>MJ hg h
   ·exact .inr h
  generalize (Y.map λ z=>bQ z.1 z.2 a.toNat)=gs at h1' hgl hall;exists hall;clear wk h1 hD kk hz0 hbw' hbw;ac_rfl;rw [uY];refine⟨hgl,λ M hM hle=>?_⟩
  rcases hall () with h0|⟨⟨g,hg,hg0⟩,g',hg',hg0'⟩
  ·have hM0:=h0 M hM;subst hM0;exists h0;clear hM hle hall;ac_rfl;rw [uY];refine⟨hgl,λ M hM _=>?_⟩;have hM0:=h0 () M hM;subst hM0;clear hM;ac_rfl;rw [uZ];refine⟨hgl,λ M hM _=>?_⟩;have hM0:=h0 () M hM;subst hM0;clear hM;ac_rfl
  ·have hMn:M < 0:=by have:=hle g hg;omega
   clear hM hle hall;ac_rfl;rw [uZ];refine⟨hgl,λ N hN hge=>?_⟩;have hNp:0 < N:=by have:=hge g' hg';omega
   clear hN hge;ac_rfl
theorem PrV.pk{H:Hp}{z:PP}{q:Addr}(h:PrV H z (.ref q)):PKV H z q:=by
 obtain⟨q',u,v,e,h1,h2,h3⟩:=h;cases e;exact⟨u,v,h1,h2,h3⟩
theorem zd{H:Hp}{z:PP}{y:V}{d:Addr}{φ:Heap->Prop}{o:HO}(h:PrV H z y)(hd:H d=some (.ext φ)):PrV (upd H d o) z y:=by
 obtain⟨q,u,v,rfl,h1,h2,h3⟩:=h;obtain⟨u',v',g1,g2,g3⟩:=PKV.upd (o:=o) (k:=z) (b:=q) ⟨u,v,h1,h2,h3⟩ hd;exact⟨q,u',v',rfl,g1,g2,g3⟩
theorem GB{H:Hp}{d:Addr}{Z:List PKy}(h:ng P w H d Z):∃ φ,H d=some (.ext φ):=by
 obtain⟨xs,h1,_⟩:=h;exact⟨_,h1⟩
def uw(C:Addr):Sp:=λ vs H Q E=>∃ (u:Addr) (v:Addr) (r:Addr),vs=[.ref u,.ref v,.ref r]/\(∃ (room f1 f2:Int) (A B:List (Int × Int)) (ms:List Int) (Y:List PP) (ys:List V),ar C H u room f1 A/\ar C H v room f2 B/\dt A/\dt B/\(A.map λ a=>a.1)=ms/\(B.map λ a=>a.1)=ms/\ae ms<=60/\(af f1 A).Nodup/\H r=some (.lst ys)/\Al (PrV H) Y ys/\Y.length<=60/\¬ Y=[]/\(∀ y∈Y,y∈(aL (af f1 A) (af f2 B) (af f2 B).length).map (jW ms))/\(∀ a:Nat,a < ms.length->pD Y a)/\∀ H',Ext H H'->Q (.bl true) H')
theorem A3(C:Addr)(u:Addr)(v:Addr)(r:Addr)(H:Hp)(Q:VK)(E:XK):uw C [.ref u,.ref v,.ref r] H Q E=(∃ (room f1 f2:Int) (A B:List (Int × Int)) (ms:List Int) (Y:List PP) (ys:List V),ar C H u room f1 A/\ar C H v room f2 B/\dt A/\dt B/\(A.map λ a=>a.1)=ms/\(B.map λ a=>a.1)=ms/\ae ms<=60/\(af f1 A).Nodup/\H r=some (.lst ys)/\Al (PrV H) Y ys/\Y.length<=60/\¬ Y=[]/\(∀ y∈Y,y∈(aL (af f1 A) (af f2 B) (af f2 B).length).map (jW ms))/\(∀ a:Nat,a < ms.length->pD Y a)/\∀ H',Ext H H'->Q (.bl true) H'):=Bc (f:=λ (u:Addr) (v:Addr) (r:Addr)=>[.ref u,.ref v,.ref r]) (λ _ _ _ _ _ _ h=>by cases h;exact⟨rfl,rfl,rfl⟩) u v r
theorem Ai(C:Addr){vs:List V}{H:Hp}{Q:VK}{E:XK}(h:uw C vs H Q E):vs.length=3:=Bd h λ _ _ _=>rfl
theorem DB(T:Tx K mg t):cq P w K mg base CX0 8 t.a_bars t.d_bars ["to", "source", "some"] (uw t.a_View):=by
 have G_bound_pairs:=%[fV|38];have G_is_known_pair:=%[iB|38];have G_View_sizes:=%[cN|38];have G_bars_axis:=%[oO|38];refine T.F_bars.ok uV (λ vs H Q E h=>Ai _ h) (λ c A o s H vs Q E hr h=>?_)
 ·obtain⟨u,v,r,rfl,room,f1,f2,A,B,ms,Y,ys,vu,vv,hA,hB,m1,m2,h60,hnd,hr0,alY,hY60,hYne,hYP,hYB,kk⟩:=h;obtain⟨dx,D,hu,tD⟩:=vu.ob;obtain⟨ax,hD,alA⟩:=tD;have hax:(ax.length:Int)=(ms.length:Int):=by rw [alA.1,←m1];unfold axL;rw [length_map,length_map]
  have c1:=T.cl_View;have c3:=T.na_View_axes;have g3:=cE room f1 D;have f4:=vn room f1 D (m := "sizes") nofun;refine⟨_,%[(@gk _ _ (3) _ _ _ _ uV.nd rfl (Or.inr rfl) (@wo _ _) ∅ %[0|7]),%[%[NW,rfl,%[%[bound_pairs,%[%[0|0],%[%[1|0]|1]|1]|3]|18],%[4,uV|5],%[(@CY _ _ _ _ _ _ _ _ _ hr.units %[3|0] %[4|0] (@nu _ _ _ _) rfl)|10],(by intros;rfl)|20],%[%[(PW.pt %[(@ia _ _ _ _ (@eK _ _ _ %[isinstance,dM,%[%[2|0],%[(@gd _ _ (.ty "list") (.type "list") _ ∅ T.z_list nofun rfl ⋯ ⋯)|1]|1]|6] (by intros;rfl))),(@kC _ _ _ _ %[(dF hr.units),%[len,aG,%[%[2|0]|1]|6],%[0|2],(aA _)|14])|34]),%[%[(@nu _ _ _ _)|12]|10],(@aE _)|19],%[%[(@ia _ _ _ _ (@eK _ _ _ %[all,(gA rfl),%[%[(["thing", "to", "source", "some", "known", "pair"]),(1),(aN (aa hZ) ["to", "source", "some", "known", "pair"] rfl rfl nofun),rfl,%[%[2|0]|18],(λ C s₀ H₀ ex pn=>%[(0),_,(show List.Nodup (["thing", "to", "source", "some", "known", "pair"]:List Str) from by decide +kernel),rfl,(Or.inl rfl),%[0|7]|13]),(λ C s₀ H₀ ex pn=>(@br _)),(λ C s₀ H₀ ex pn=>%[is_known_pair,%[%[0|0],%[%[%[1|0],T.cl_View,T.mt_View_sizes,G_View_sizes,(hr.mono ⋯),T.b_View_sizes,.nil,fe,∅|26],%[%[4|0]|1]|1]|1]|3]),(by intros;rfl)|21]|1]|6] (by intros;rfl))),%[%[(@nu _ _ _ _)|12]|10],(@aE _)|19],%[%[%[all,(gA rfl),%[%[(["axis", "to", "source", "some", "known", "pair"]),(1),(aN (aa hZ) ["to", "source", "some", "known", "pair"] rfl rfl nofun),rfl,%[∅,T.z_range,%[%[len,aG,%[%[%[0|0],rfl|25]|1]|6]|1],∅|31],(λ C s₀ H₀ ex pn=>%[(0),_,(show List.Nodup (["axis", "to", "source", "some", "known", "pair"]:List Str) from by decide +kernel),rfl,(Or.inl rfl),%[0|7]|13]),(λ C s₀ H₀ ex pn=>(@br _)),(λ C s₀ H₀ ex pn=>%[bars_axis,%[%[3|0],%[%[0|0]|1]|1]|3]),(by intros;rfl)|21]|1]|6]|12]|10]|9]|9]|9]|9],?_⟩;rw [show aH ["to", "source", "some", "known", "pair"] [.ref u,.ref v,.ref r]=[some (.ref u),some (.ref v),some (.ref r),none,none] from rfl];clear G_bound_pairs G_is_known_pair G_View_sizes G_bars_axis alA;have h8:ms.length<=8:=by rw [←m1,Nz];exact hA.1
  have n1:=aJ f1 A λ b hb=>(hA.2 b hb).1;have n2:=aJ f2 B λ b hb=>(hB.2 b hb).1;have hszs:=hA.sizes;rw [m1] at n1 hszs;rw [m2] at n2;have hs:∀ n∈ms,1<=n/\n<=1000000000:=λ n hn=>hszs.2 n hn;have hne:=λ (_:Unit)=>rC hs n1 n2 hnd
  have hYl:(ys.length:Int) ≠ 0:=by
   rw [alY.1];intro e;exact hYne (OB %[0|8])
  have hyl:ys.length=Y.length:=alY.1;exists m1;exists m2;exists hnd;exists kk;exists hYP;exists hYB;exists alY;exists hs;exists hyl;ac_rfl;intro d H1 hd1 e1 kn1;replace kn1:Unit->ng P w H1 d []:=λ (_:Unit)=>kn1;ac_rfl;rw [oC];refine⟨room,f1,f2,A,B,vu.ext e1,vv.ext e1,hA,hB,by rw [m1 (),m2 ()],by rw [m1 ()];omega,hnd (),λ l r2 ys2 zs H2 e2 hr2 hl2 al2 hz2 alp2=>?_⟩;rw [m1 ()] at al2;have pr2:=vk al2 alp2;have hpl:=gX (af f1 A) (af f2 B) (af f2 B).length;have hln:pq ms.length ((aL (af f1 A) (af f2 B) (af f2 B).length).map (jW ms)):=PrV.len;have hZl:((aL (af f1 A) (af f2 B) (af f2 B).length).map (jW ms)).length<=60:=by rw [Nz];omega
  generalize (aL (af f1 A) (af f2 B) (af f2 B).length).map (jW ms)=Z at pr2 hln hZl hYP hne;have kn2:=(kn1 ()).ext e2;have e02:=e1.trans e2
  have nrd:r2 ≠ d:=λ z=>by
   obtain⟨φ,hφ⟩:=GB kn2;rw [z,hφ] at hz2;cases hz2
  exists hln;replace hne:=λ (_:Unit)=>hne ();clear hl2 al2 alp2 hpl hr2 kn1 e1 e2;ac_rfl;refine cR (xs:=zs) (λ i σ H'=>∃ (Z':List PKy) (v4:Option V),σ=[some (.ref u),some (.ref v),some (.ref r),some (.ref d),v4]/\Ext H H'/\H' r2=some (.lst zs)/\Al (PrV H') Z zs/\ng P w H' d Z'/\Z'.length=i/\∀ z∈Z.take i,z∈Z') ⟨[],none,rfl,e02,hz2,pr2,kn2,rfl,(λ z h=>by cases h)⟩ (λ i σ H' _ ⟨_,_,_,_,h,_⟩=>h) ?_ ?_
  ·rintro i y _ H3 hi ⟨Z',v4,rfl,e3,hz3,pr3,kn3,hZ'l,hsub⟩;have hil:i < Z.length:=by have:=(Ny.mp hi).1;rw [pr3.1] at this;exact this
   obtain⟨z,hz⟩:∃ z,Z[i]? = some z:=⟨_,Nw hil⟩;have pz:=pr3.2 i z y hz hi;have htk:Z.take (i+1)=Z.take i++[z]:=by rw [OH,hz];rfl
   obtain⟨φ,hφ⟩:=GB kn3;have pz':=pz;obtain⟨q,_,_,rfl,_⟩:=pz';have pk3:=pz.pk
   have fin:∀ x∈Z.take (i+1),x∈z::Z':=λ x hx=>by
    rw [htk] at hx
    rcases N2.mp hx with hx|hx
    ·exact NH _ (hsub x hx)
    ·rw [NC.mp hx];exact NK
   exists fin;exists pr3;exists kn3;clear hi hz pz htk hsub kk hYP hYB hne;simp! only [↓aI];refine GR (kn3 ()) pk3 (by rw [sizeLine_eq];omega) λ o kn4=>?_;exact⟨z::Z',_,rfl,e3.put hd1,by rw [ag nrd];exact hz3,(pr3 ()).imp λ _ _ t=>zd t hφ,kn4,by rw [Ow,hZ'l],fin ()⟩
  ·rintro _ H3 ⟨Z',v4,rfl,e3,hz3,pr3,kn3,hZ'l,hsub⟩;rw [pr3.1,OE] at hsub;have hr3:=e3.at hr0;have hu3:=e3.at hu;have hD3:=e3.at hD;have vu3:=vu.ext e3;have al3:=(alY ()).imp λ _ _ t=>PrV.ext t e3;have wk:=fK (K:=K) (R:=λ z x H'=>PrV H' z x) (λ _ _ _ _ h e=>PrV.ext h e) hr3 al3;exists hsub;exists kn3;exists al3;clear hz3 pr3 hz2 pr2 kn2 e02 alY;ac_rfl;refine bP Y (λ _=>true) (λ _=>.bl true) (λ z x H'=>PrV H' z x) wk.1 wk.2 (aq %[0|8]) ?_ ?_
   ·intro D' z y H' N1 N0 hz hD' e hy k1 _;have hy':=hy;obtain⟨y',_,_,rfl,_⟩:=hy';have k1':=k1 rfl;have hzZ:=hYP () z hz;have hin:=hne () z hzZ;have hzZ':=hsub () z hzZ;have hu':=e.at hu3;have vu':=vu3.ext e;have kn':=λ (_:Unit)=>(kn3 ()).ext e;clear k1 kk wk hz;exists hin;exists hzZ';exists hy;simp! only [↓bG,↓bx];rw [cW];refine⟨room,f1,A,vu',hA.1,λ r5 H5 hr5 e5 h5=>?_⟩;rw [m1 ()] at h5;clear hr5;ac_rfl;rw [Fn];refine⟨z,ms,Z',((hy ()).ext e5).pk,h5,hszs,(hin ()).2.1,(hin ()).2.2,(kn' ()).ext e5,λ H6 e6=>?_⟩;rw [NT (hzZ' ())];exact k1' H6 (e5.trans e6)
   intro D4 H4 hD4 e4 h4;rw [jZ] at h4;have h4':H4 D4=some (.lst ((Y.map λ _=>true).map V.bl)):=by rw [h4,OA];rfl
   have ha4:((Y.map λ _=>true).all id)=true:=by rw [all_map];exact Pg.mpr λ _ _=>rfl
   have hu4:=e4.at hu3;have hD4':=e4.at hD3;have hr4:=e4.at hr3;have al4:=λ (_:Unit)=>(al3 ()).imp λ _ _ t=>PrV.ext t e4;have e04:=e3.trans e4;generalize (Y.map λ _=>true)=bs at h4' ha4;clear wk h4 hD4 hu3 hD3 hr3 al3 kn3;ac_rfl;refine⟨by omega,by omega,?_⟩;rw [NJ];refine bP (List.range ms.length) (λ _=>true) (λ _=>.bl true) (λ j x H'=>x=.int (0+(j:Nat))) eX.1 eX.2 (aq (by rw [Oj];omega)) ?_ ?_
   ·intro D' j y H' N1 N0 hj hD' e hy k1 _;subst hy;have hjr:=Oi.mp hj;have k1':=k1 rfl;have hb:=hYB () j hjr;have hr':=e.at hr4;have al':=λ (_:Unit)=>(al4 ()).imp λ _ _ t=>PrV.ext t e;have hlY:pq ms.length Y:=λ z hz=>hln () z (hYP () z hz);exists hb;exists hlY;clear k1 kk hj;simp! only [↓bG,↓bx];rw [A4];refine⟨Y,ys,ms.length,hr',al' (),hY60,hYne,hlY (),by omega,by omega,h8,by rw [OJ,NJ];exact hb (),λ H6 e6=>k1' H6 e6⟩
   intro D5 H5 hD5 e5 h5;rw [jZ] at h5;have h5':H5 D5=some (.lst (((List.range ms.length).map λ _=>true).map V.bl)):=by rw [h5,OA];rfl
   have ha5:(((List.range ms.length).map λ _=>true).all id)=true:=by rw [all_map];exact Pg.mpr λ _ _=>rfl
   have k':=kk () H5 (e04.trans e5);generalize ((List.range ms.length).map λ _=>true)=bs' at h5' ha5;clear h5 hD5 kk;ac_rfl
def nr(H:Hp)(os:List (Int × Int))(y:V):Prop:=∃ q,y=.ref q/\bE H q (os.map λ o=>[o.1,o.2])
theorem nr.ext{H H':Hp}{os:List (Int × Int)}{y:V}(h:nr H os y)(e:Ext H H'):nr H' os y:=by
 obtain⟨q,h1,h2⟩:=h;exact⟨q,h1,h2.ext e⟩
theorem p9{H H':Hp}{Z:List (List (Int × Int))}{ys:List V}(h:Al (nr H) Z ys)(e:Ext H H'):Al (nr H') Z ys:=h.imp λ _ _ t=>nr.ext t e
theorem JI(os:List (Int × Int))(a:Nat):(fY os a).length=2:=rfl
def uB  : Sp:=λ vs H Q E=>∃ (n:Int),vs=[.int n]/\(∃ m:Nat,n=(m:Int)/\m<=3/\∀ (r:Addr) (ys:List V) (H':Hp),Ext H H'->H' r=some (.lst ys)->Al (nr H') (iP m m) ys->Q (.ref r) H')
theorem A8  (n:Int) (H:Hp) (Q:VK) (E:XK):uB  [.int n] H Q E=(∃ m:Nat,n=(m:Int)/\m<=3/\∀ (r:Addr) (ys:List V) (H':Hp),Ext H H'->H' r=some (.lst ys)->Al (nr H') (iP m m) ys->Q (.ref r) H'):=lJ (f:=λ (n:Int)=>[.int n]) (λ _ _ h=>by cases h;exact rfl) n
theorem Ao  {vs:List V}{H:Hp}{Q:VK}{E:XK}(h:uB  vs H Q E):vs.length=1:=lK h λ _=>rfl
theorem gJ(T:Tx K mg t):cq P w K mg base CX0 1 t.a__law_all_orders t.d__law_all_orders ["_law_axes"] uB:=by
 refine T.F__law_all_orders.ok ay (λ vs H Q E h=>Ao h) (λ c A o s H vs Q E hr h=>?_)
 ·obtain⟨_,rfl,m,rfl,m3,kk⟩:=h;refine⟨_,%[%[1,ay,%[%[%[(@dh _)|17]|1]|17]|4],%[%[NW,rfl,%[∅,T.z_range,%[%[0|0]|1],∅|31],%[2,ay|5],%[%[3,ay,%[(@dh _)|17]|4],%[%[NW,rfl,%[%[1|0]|18],%[(4),_,ay.nd,rfl,(Or.inr rfl),%[0|7]|13],%[%[(["_law_axis", "_law_axes", "_law_found", "_law_k", "_law_longer", "_law_order", "_law_left", "!_law_axis"]),(1),(5),_,ay.nd,rfl,(Or.inl rfl),(aN (aa aK) ["_law_axes", "_law_found", "_law_k", "_law_longer", "_law_order", "_law_left", "_law_axis"] rfl rfl nofun),rfl,%[∅,T.z_range,%[%[0|0]|1],∅|31],(λ C s₀ H₀ ex pn=>%[(0),_,(show List.Nodup (["_law_axis", "_law_axes", "_law_found", "_law_k", "_law_longer", "_law_order", "_law_left", "!_law_axis"]:List Str) from by decide +kernel),rfl,(Or.inl rfl),%[0|7]|13]),(λ C s₀ H₀ ex pn=>(@iW _ _ _ %[nX,%[0|0],%[(["_law_row", "_law_axis", "_law_axes", "_law_found", "_law_k", "_law_longer", "_law_order", "_law_left", "!_law_axis"]),(1),(aN _ ["_law_axis", "_law_axes", "_law_found", "_law_k", "_law_longer", "_law_order", "_law_left", "!_law_axis"] rfl rfl (by kernel_rfl)),rfl,(@Dh _ _ _ _ (K) rfl %[5|0]),(λ C s₀ H₀ ex pn=>%[(0),_,(show List.Nodup (["_law_row", "_law_axis", "_law_axes", "_law_found", "_law_k", "_law_longer", "_law_order", "_law_left", "!_law_axis"]:List Str) from by decide +kernel),rfl,(Or.inl rfl),%[0|7]|13]),(λ C s₀ H₀ ex pn=>(@br _)),(λ C s₀ H₀ ex pn=>%[fN,%[0|0],%[0|2],(λ _ _=>rfl)|16]),(by intros;rfl)|21],(by with_unfolding_all rfl)|14])),(λ C s₀ H₀ ex pn=>%[0|0]),∅,(by intros;rfl),%[0|7]|36],%[%[NW,rfl,%[%[5|0]|18],%[6,ay|5],%[%[3,ay,%[dn,%[3|0],%[%[%[dn,%[4|0],%[%[%[%[%[6|0],%[%[0|2]|1]|1]|28]|1]|17]|11],%[%[dn,%[4|0],%[%[%[%[%[6|0],%[(@px _ _ _ _ _ _ gc %[0|2])|1]|1]|28]|1]|17]|11]|1]|1]|17]|11]|4]|10],(by intros;rfl)|20]|10]|9],(by intros;rfl)|20],%[%[1,ay,%[3|0]|4]|10]|9]|9],(by intros;rfl)|20],%[%[%[1|0]|12]|10]|9]|9],?_⟩;rw [show aH ["_law_axes", "_law_found", "_law_k", "_law_longer", "_law_order", "_law_left", "_law_axis"] [.int (m:Int)]=[some (.int (m:Int)),none,none,none,none,none,none] from rfl];exists kk;ac_rfl;intro r0 H0 hr0 e0 h0;ac_rfl;intro f0 H1 hf0 e1 h1;have h0_1:=e1.at h0;have e01:=e0.trans e1
  have ini:Al (nr H1) (iP m 0) [.ref r0]:=⟨rfl,λ i z y hz hy=>by
   cases i with
   | zero=>
    cases hz;cases hy;exact⟨r0,rfl,[],h0_1,rfl,λ i z y h=>by cases h⟩
   | succ i=>simp at hy⟩
  clear hr0 hf0 h0 e0 e1;ac_rfl;refine⟨by omega,by omega,?_⟩;refine iZ (λ i σ H'=>∃ (fr:Addr) (ys:List V) (v2 v3 v4 v5 v6:Option V),σ=[some (.int (m:Int)),some (.ref fr),v2,v3,v4,v5,v6]/\Ext H H'/\H' fr=some (.lst ys)/\Al (nr H') (iP m i) ys) ⟨f0,_,none,none,none,none,none,rfl,e01,h1,ini⟩ ?_ ?_
  ·rintro i _ H2 hi ⟨fr,ys,v2,v3,v4,v5,v6,rfl,e2,h2,al2⟩;have him:i < m:=by have:i < ((m:Int)).toNat:=hi;omega
   have hl1:=mH m3 (PY him);have hl2:=mH m3 (show i+1<=m from him);exists al2;clear hi ini h0_1 h1 e01;simp! only [↓aI];intro l0 H3 hl0 e3 h3;have e03:=e2.trans e3;have h2_3:=e3.at h2;have al3:=p9 (al2 ()) e3;clear hl0 h2;ac_rfl;refine cR (xs:=ys) (λ j σ H'=>∃ (lg:Addr) (us:List V) (v4 v5 v6:Option V),σ=[some (.int (m:Int)),some (.ref fr),some (.int (0+(i:Int))),some (.ref lg),v4,v5,v6]/\Ext H H'/\Ext H3 H'/\H' lg=some (.lst us)/\Al (nr H') (((iP m i).take j).flatMap λ os=>(gO m os).flatMap (fY os)) us) ⟨l0,[],_,_,_,rfl,e03,Ext.refl _,h3,⟨rfl,λ i z y h=>by cases h⟩⟩ (λ j σ H' _ ⟨_,_,_,_,_,_,_,e,_⟩=>e.at h2_3) ?_ ?_
   ·rintro j y _ H4 hj ⟨lg,us,v4,v5,v6,rfl,e4,e34,h4,al4⟩;have hjl:j < (iP m i).length:=by have:=(Ny.mp hj).1;rw [al3.1] at this;exact this
    obtain⟨os,hos⟩:∃ z,(iP m i)[j]? = some z:=⟨_,Nw hjl⟩;obtain⟨q,rfl,qs,hq3,alq3⟩:=al3.2 j os y hos hj;have hq4:=e34.at hq3;have alq4:=alq3.imp λ _ _ t=>dR.ext t e34;have hosl:os.length=i:=((mG m i os).mp (N6 hos)).1;have hqsl:qs.length=i:=by rw [alq4.1,Nz,hosl]
    have hstp:=jr (iP m i) (λ os=>(gO m os).flatMap (fY os)) j os hos;have hle:=iu (iP m i) (λ os=>(gO m os).flatMap (fY os)) (j+1)
    have hle2:(((iP m i).take j).flatMap λ os=>(gO m os).flatMap (fY os)).length+((gO m os).flatMap (fY os)).length<=48:=by
     rw [←NP,←hstp];exact OI hle hl2
    generalize (((iP m i).take j).flatMap λ os=>(gO m os).flatMap (fY os))=B at al4 hle2 hstp;exists al4;exists alq4;exists hstp;exists hosl;clear hj hos alq3 hq3 hle al2 al3 kk;simp! only [↓aI];refine⟨by omega,by omega,?_⟩;rw [NJ];refine bP (List.range m) (λ j=>decide (¬ (j:Int)∈os.map λ o=>o.1)) (λ j=>.int (j:Nat)) (λ j x H'=>x=.int (0+(j:Nat))) eX.1 eX.2 (aq (by rw [Oj];omega)) ?_ ?_
    ·intro D a y H' N1 N0 ha hD e hy k1 k0;subst hy;have hq':=e.at hq4;have alq':=(alq4 ()).imp λ _ _ t=>dR.ext t e;have wk:=fK (K:=K) (R:=axP) (λ _ _ _ _ h e=>h.ext e) hq' (ic alq');clear ha;rw [OJ];simp! only [↓bG,↓bx];refine bP os (λ _=>true) (λ o=>.int o.1) (λ z x H'=>axP z x H') wk.1 wk.2 (aq (by have:=hosl ();omega)) ?_ ?_
     ·intro D2 z y H'' N1' N0' hz hD2 e' ⟨qq,hy,hqq⟩ k1' _;subst hy;have k2:N1' (.int z.1) H'':=k1' rfl H'' (Ext.refl _);clear k1' k1 k0 wk hz;simp! only [↓bG,↓bx]
     ·intro D2 H'' hD2 e' h2';rw [jZ] at h2';have h5j:H'' D2=some (.lst ((os.map λ o=>o.1).map V.int)):=by rw [h2',OA];rfl
      have hin:=rN (a:Int) (os.map λ o=>o.1);have fl1:fL (.int (a:Int))=true:=rfl;have fl2:(((os.map λ o=>o.1).map V.int).all fL)=true:=by rw [all_map];exact Pg.mpr λ _ _=>rfl
      by_cases hm:(a:Int)∈os.map λ o=>o.1
      ·rw [NT hm] at hin;have k2:=k0 (N9 (λ z=>z hm)) H'' e';clear k1 k0 hm h2' wk;generalize (os.map λ o=>o.1).map V.int=xs at h5j hin fl2;ac_rfl
      ·rw [N9 hm] at hin;have k2:=k1 (NT hm) H'' e';clear k1 k0 hm h2' wk;generalize (os.map λ o=>o.1).map V.int=xs at h5j hin fl2;ac_rfl
    intro D5 H5 hD5 e5 h5;have h5':H5 D5=some (.lst ((gO m os).map λ (j:Nat)=>V.int (j:Int))):=h5;have e05:=e4.trans e5;have e35:=e34.trans e5;have h4_5:=e5.at h4;have hq5:=e5.at hq4;have al5:=p9 (al4 ()) e5;have alq5:=λ (_:Unit)=>(alq4 ()).imp λ _ _ t=>dR.ext t e5;clear h5 hD5 h4 hq4 al4 alq4 e4 e34;ac_rfl;refine cR (xs:=(gO m os).map λ (j:Nat)=>V.int (j:Int)) (λ p σ H'=>∃ (lg:Addr) (us:List V) (v6:Option V),σ=[some (.int (m:Int)),some (.ref fr),some (.int (0+(i:Int))),some (.ref lg),some (.ref q),some (.ref D5),v6]/\Ext H H'/\Ext H3 H'/\Ext H5 H'/\H' lg=some (.lst us)/\Al (nr H') (B++((gO m os).take p).flatMap (fY os)) us) ⟨lg,us,_,rfl,e05,e35,Ext.refl _,h4_5,by simpa using al5⟩ (λ p σ H' _ ⟨_,_,_,_,_,_,e,_⟩=>e.at h5') ?_ ?_
    ·rintro p y _ H6 hp ⟨lg6,us6,v6',rfl,e6,e36,e56,h6,al6⟩;rw [NL] at hp;obtain⟨a,ha,rfl⟩:=NI.mp hp;have hstp2:=jr (gO m os) (fY os) p a ha;have hle3:=iu (gO m os) (fY os) p;have husl:us6.length<=48:=by rw [al6.1,NP];omega
     have hq6:=e56.at hq5;have alq6:=λ (_:Unit)=>(alq5 ()).imp λ _ _ t=>dR.ext t e56;exists al6;exists hstp2;clear hp ha hle3 al5 alq5 hstp h5' hq5 h4_5;simp! only [↓aI];have hc1:i+1<=sizeLine:=aq %[0|8];have hc2:us6.length+2<=sizeLine:=aq %[0|8];intro t1 Ha ht1 ea ka;have hqa:=ea.at hq6;have e6a:=ea;clear ht1 hq6 ea;ac_rfl;intro l1 Hb hl1' eb kb;have hqb:=eb.at hqa;have kab:=eb.at ka;have e6b:=e6a.trans eb;clear hl1' hqa ka eb e6a;ac_rfl;intro o1 Hc ho1 ec kc;have hqc:=ec.at hqb;have kac:=ec.at kab;have e6c:=e6b.trans ec;clear ho1 hqb kab ec e6b kb;ac_rfl;intro t2 Hd ht2 ed kd;have hqd:=ed.at hqc;have kad:=ed.at kac;have kcd:=ed.at kc;have e6d:=e6c.trans ed;clear ht2 hqc kac kc ed e6c;ac_rfl;intro l2 He hl2' ee ke;have hqe:=ee.at hqd;have kae:=ee.at kad;have kce:=ee.at kcd;have kde:=ee.at kd;have e6e:=e6d.trans ee;clear hl2' hqd kad kcd kd ee e6d;ac_rfl;intro o2 Hf ho2 ef kf;have kaf:=ef.at kae;have kcf:=ef.at kce;have kdf:=ef.at kde;have e6f:=e6e.trans ef;have h6f:=e6f.at h6;clear ho2 hqe kae kce kde ef e6e ke h6;ac_rfl;intro l3 Hg hl3 eg kg;have kag:=eg.at kaf;have kcg:=eg.at kcf;have kdg:=eg.at kdf;have kfg:=eg.at kf;have e6g:=e6f.trans eg;have h6g:=eg.at h6f;clear hl3 kaf kcf kdf kf eg e6f h6f;ac_rfl;intro lg7 Hh hlg eh kh;have e6h:=e6g.trans eh;have o1A:nr Hh (os++[((a:Int),1)]) (.ref o1):=⟨o1,rfl,_,eh.at kcg,by rw [Oy];exact i9 ((alq6 ()).imp λ _ _ t=>dR.ext t e6h) ⟨t1,rfl,eh.at kag⟩⟩;have o2A:nr Hh (os++[((a:Int),-1)]) (.ref o2):=⟨o2,rfl,_,eh.at kfg,by rw [Oy];exact i9 ((alq6 ()).imp λ _ _ t=>dR.ext t e6h) ⟨t2,rfl,eh.at kdg⟩⟩
     have alH:Al (nr Hh) (B++((gO m os).take (p+1)).flatMap (fY os)) (us6++[.ref o1,.ref o2]):=by
      rw [hstp2 (),←Rx]
      have al2:Al (nr Hh) (fY os a) [.ref o1,.ref o2]:=⟨rfl,λ i z y hz hy=>by
       match i with
       | 0=>cases hz;cases hy;exact o1A
       | 1=>cases hz;cases hy;exact o2A
       | i+2=>simp at hy⟩
      exact qY (p9 (al6 ()) e6h) al2
     clear hlg kag kcg kdg kfg h6g hc1 hc2 al6 alq6 hstp2 o1A o2A;ac_rfl;exact⟨lg7,_,_,rfl,e6.trans e6h,e36.trans e6h,e56.trans e6h,kh,alH⟩
    ·rintro _ H6 ⟨lg6,us6,v6',rfl,e6,e36,e56,h6,al6⟩;rw [Nz,OE,←hstp ()] at al6;exists al6;clear hstp al5 alq5 h5' h4_5 hq5;ac_rfl;exact⟨lg6,us6,_,_,_,rfl,e6,e36,h6,al6 ()⟩
   ·rintro _ H4 ⟨lg,us,v4,v5,v6,rfl,e4,e34,h4,al4⟩;rw [al3.1,OE] at al4;have al5:Al (nr H4) (iP m (i+1)) us:=al4;exists al5;clear al4 al3 al2;ac_rfl;exact⟨lg,us,_,_,_,_,_,rfl,e4,h4,al5 ()⟩
  ·rintro _ H2 ⟨fr,ys,v2,v3,v4,v5,v6,rfl,e2,h2,al2⟩;rw [NJ] at al2;have k':=kk () fr ys H2 e2 h2 al2;clear kk al2;ac_rfl
def FD(n:Nat)(P:List PP)(b:Bool):Prop:=b=true ↔ ∃ os,d7 os n/\∀ z∈P,crB os z.1 z.2=true
def pL(C:Addr):Sp:=λ vs H Q E=>∃ (u:Addr) (v:Addr) (b:Bool),vs=[.ref u,.ref v,.bl b]/\(∃ (room f1 f2:Int) (A B:List (Int × Int)) (ms:List Int),ar C H u room f1 A/\ar C H v room f2 B/\dt A/\dt B/\(A.map λ a=>a.1)=ms/\(B.map λ a=>a.1)=ms/\ae ms<=60/\(af f1 A).Nodup/\FD ms.length ((aL (af f1 A) (af f2 B) (af f2 B).length).map (jW ms)) b/\∀ H',Ext H H'->Q (.bl true) H')
theorem oA(C:Addr)(u:Addr)(v:Addr)(b:Bool)(H:Hp)(Q:VK)(E:XK):pL C [.ref u,.ref v,.bl b] H Q E=(∃ (room f1 f2:Int) (A B:List (Int × Int)) (ms:List Int),ar C H u room f1 A/\ar C H v room f2 B/\dt A/\dt B/\(A.map λ a=>a.1)=ms/\(B.map λ a=>a.1)=ms/\ae ms<=60/\(af f1 A).Nodup/\FD ms.length ((aL (af f1 A) (af f2 B) (af f2 B).length).map (jW ms)) b/\∀ H',Ext H H'->Q (.bl true) H'):=Bc (f:=λ (u:Addr) (v:Addr) (b:Bool)=>[.ref u,.ref v,.bl b]) (λ _ _ _ _ _ _ h=>by cases h;exact⟨rfl,rfl,rfl⟩) u v b
theorem xr(C:Addr){vs:List V}{H:Hp}{Q:VK}{E:XK}(h:pL C vs H Q E):vs.length=3:=Bd h λ _ _ _=>rfl
theorem mN(T:Tx K mg t):cq P w K mg base CX0 9 t.a__law_right t.d__law_right ["_law_one", "_law_other", "_law_can"] (pL t.a_View):=by
 have G_loop_order:=%[mL|38];have G_bars:=%[DB|38];refine T.F__law_right.ok iy (λ vs H Q E h=>xr _ h) (λ c A o s H vs Q E hr h=>?_)
 ·obtain⟨u,v,b,rfl,room,f1,f2,A,B,ms,vu,vv,hA,hB,m1,m2,h60,hnd,hcan,kk⟩:=h;refine⟨_,%[%[3,iy,%[loop_order,%[%[0|0],%[%[1|0]|1]|1]|3]|4],%[%[%[(dF hr.units),%[fN,%[3|0],%[0|2],(λ _ _=>rfl)|16],(@qS _ _ _ _),(aA _)|14],%[%[%[(@vg _ _ _ _ %[2|0]),%[%[Du,%[bars,%[%[0|0],%[%[1|0],%[%[fN,%[3|0],%[0|2],(λ _ _=>rfl)|16]|1]|1]|1]|3],(@nu _ _ _ _),(aA _)|32]|27]|24]|12]|10],(@aE _)|19],%[%[%[%[(dF hr.units),%[fN,%[3|0],%[0|2],(λ _ _=>rfl)|16],(@qS _ _ _ _),(aA _)|32],%[%[2|0]|27]|24]|12]|10]|9]|9],?_⟩;rw [show aH ["_law_one", "_law_other", "_law_can", "_law_told"] [.ref u,.ref v,.bl b]=[some (.ref u),some (.ref v),some (.bl b),none] from rfl];clear G_loop_order G_bars;have n1:=aJ f1 A λ b hb=>(hA.2 b hb).1;have n2:=aJ f2 B λ b hb=>(hB.2 b hb).1;have hszs:=hA.sizes;have h8:ms.length<=8:=by rw [←m1,Nz];exact hA.1
  rw [m1] at n1 hszs;rw [m2] at n2;have hne:=rC (λ n hn=>hszs.2 n hn) n1 n2 hnd;have hln:pq ms.length ((aL (af f1 A) (af f2 B) (af f2 B).length).map (jW ms)):=PrV.len;exists kk;exists hnd;exists hcan;exists hne;exists hln;exists m1;exists m2;ac_rfl;rw [xZ];refine⟨room,f1,f2,A,B,ms,vu,vv,hA,hB,m1 (),m2 (),h60,hnd (),λ x H1 e1 told=>?_⟩
  rcases told with ⟨os,r,hx,_,hok,hcr⟩|⟨L,Y,r,ys,hx,hr1,alY,hbar,hno,hLe,hYl,hsub⟩
  ·have hb:b=true:=(hcan ()).mpr ⟨os,hok,hcr⟩;subst hb;have k':=kk () H1 e1;clear kk hcan hcr hok;ac_rfl
  ·have hb:b=false:=by
    cases b with
    | false=>rfl
    | true=>
     obtain⟨os,hok,hcr⟩:=(hcan ()).mp rfl;exact(zy hno hLe hok λ z hz=>hcr z (hsub z hz)).elim
   subst hb;have hYs:=hbar.some (λ z hz=>hln () z (hsub z hz)) hLe λ z hz=>(hne () z (hsub z hz)).1;have hYb:=hbar.both hno;have hYP:∀ y∈Y,y∈(aL (af f1 A) (af f2 B) (af f2 B).length).map (jW ms):=λ y hy=>hsub y (hbar.1 y hy);exists hYs;exists hYb;exists hYP;exists alY;clear hbar hno hLe hsub hcan;ac_rfl;rw [A3];refine⟨room,f1,f2,A,B,ms,Y,ys,vu.ext e1,vv.ext e1,hA,hB,m1 (),m2 (),h60,hnd (),hr1,alY (),by omega,hYs (),hYP (),hYb (),λ H2 e2=>?_⟩;have k':=kk () H2 (e1.trans e2);clear kk;ac_rfl;exact k'
theorem xG{ms ws rs:List Int}{n:Nat}:FD n ((aL ws rs rs.length).map (jW ms)) ((iP n n).any λ os=>eu ms ws rs os):=by
 unfold FD;rw [List.any_eq_true];constructor
 ·rintro ⟨os,h1,h2⟩;refine⟨os,p8.mp h1,?_⟩;rw [←lp,Pg] at h2;exact h2
 ·rintro ⟨os,h1,h2⟩;refine⟨os,p8.mpr h1,?_⟩;rw [←lp,Pg];exact h2
def si(K:W.Frag):Sp:=λ vs H Q E=>∃ (a:Addr),vs=[.ref a]/\(∃ ns:List Int,SqL K H a (ns.map V.int)/\ns.length<=63/\∀ H',Q (.bl true) H')
theorem LW(K:W.Frag)(a:Addr)(H:Hp)(Q:VK)(E:XK):si K [.ref a] H Q E=(∃ ns:List Int,SqL K H a (ns.map V.int)/\ns.length<=63/\∀ H',Q (.bl true) H'):=lJ (f:=λ (a:Addr)=>[.ref a]) (λ _ _ h=>by cases h;exact rfl) a
theorem EN(K:W.Frag){vs:List V}{H:Hp}{Q:VK}{E:XK}(h:si K vs H Q E):vs.length=1:=lK h λ _=>rfl
theorem HE(T:Tx K mg t):cq P w K mg base CX0 10 t.a_law t.d_law ["_law_script"] (si K):=by
 refine T.F_law.ok lQ (λ vs H Q E h=>EN _ h) (λ c A o s H vs Q E hr h=>?_)
 ·obtain⟨a,rfl,ns,hS,hl,kk⟩:=h;have G__law_sizes:=%[mM|38] a ns;have G__law_two:=%[ql|38] a ns;have G__law_far:=%[qm|38] a ns;have G__law_all_orders:=%[gJ|38];have G__law_keeps:=%[mP|38];have G__law_right:=%[mN|38];refine⟨_,%[%[1,lQ,%[_law_sizes,%[%[0|0],%[%[0|2],%[(@nu _ _ _ _)|1]|1]|1]|3]|4],%[(@Bs _ _ _ _ _ _ %[_law_two,%[%[0|0],%[%[1|0]|1]|1]|3] (%[(4),rfl,%[%[2,lQ|5],%[%[3,lQ|5],%[%[4,lQ|5],%[%[5,lQ|5],(@bj _),∅|15],∅|15],∅|15],∅|15],∅,∅|22].mono λ _ _ _ _ h=>di h) ∅ ∅ ∅),%[%[6,lQ,(@nu _ _ _ _)|4],%[%[NW,rfl,%[%[_law_all_orders,%[%[len,aG,%[%[1|0]|1]|6]|1]|3]|18],%[7,lQ|5],%[%[6,lQ,(@Bv _ _ _ _ _ _ _ %[6|0] %[%[_law_keeps,%[%[1|0],%[%[7|0],%[%[4|0],%[%[5|0]|1]|1]|1]|1]|3]|27])|4]|10],(by intros;rfl)|20],%[%[%[%[_law_right,%[%[2|0],%[%[3|0],%[%[6|0]|1]|1]|1]|3],%[%[_law_right,%[%[_law_far,%[%[0|0],%[%[2|0]|1]|1]|3],%[%[_law_far,%[%[0|0],%[%[3|0]|1]|1]|3],%[%[6|0]|1]|1]|1]|3]|27]|24]|12]|10]|9]|9]|9]|9],?_⟩;rw [show aH ["_law_script", "_law_sizes_here", "_law_one", "_law_other", "_law_writes", "_law_reads", "_law_can", "_law_order"] [.ref a]=[some (.ref a),none,none,none,none,none,none,none] from rfl];clear G__law_sizes G__law_two G__law_far G__law_all_orders G__law_keeps G__law_right;exists kk;ac_rfl;rw [Fo];refine⟨rfl,hS,hl,λ ms pl H1 e1 h1 hsz hm3=>?_⟩;have hS1:=e1.2 K a _ hS;ac_rfl;rw [Fm];refine⟨rfl,hS1,hl,ms,h1,hsz,λ room f1 f2 ps qs x1 x2 w1 w2 r2 H2 e2 h2 v1 v2 hw1 hw2 o1 o2 rm1 rm2 hnd=>?_⟩;have hS2:=e2.2 K a _ hS1;have h1_2:=e2.at h1;have h8:=hsz.pos.2.1;have p60:=hsz.pos.2.2;have mz1:=uX o1.len;have mz2:=uX o2.len;have ax1:=ma hsz o1.len;have ax2:=ma hsz o2.len;have ck1:=lD f1 (ms.zip ps) λ a ha=>(ax1.2 a ha).1;have ck2:=lD f2 (ms.zip qs) λ a ha=>(ax2.2 a ha).1;have cl1:=aJ f1 (ms.zip ps) λ a ha=>(ax1.2 a ha).1;have cl2:=aJ f2 (ms.zip qs) λ a ha=>(ax2.2 a ha).1;rw [mz1] at cl1;rw [mz2] at cl2;have kx1:=n9 ax1;have kx2:=n9 ax2;have ks1:((ms.zip ps).map aT).map (λ a=>a.1)=ms:=by rw [ll];exact mz1
  have ks2:((ms.zip qs).map aT).map (λ a=>a.1)=ms:=by rw [ll];exact mz2
  obtain⟨sl1,sg1⟩:=fm (ms.zip ps) λ a ha=>(ax1.2 a ha).1;obtain⟨sl2,sg2⟩:=fm (ms.zip qs) λ a ha=>(ax2.2 a ha).1;have lo1:=o1.lo;have hi1:=o1.hi;have lo2:=o2.lo;have hi2:=o2.hi;rw [←sl1] at lo1;rw [←sg1] at hi1;rw [←sl2] at lo2;rw [←sg2] at hi2;have sk1:=λ (_:Unit)=>jy (hV ns) (ms.zip ps);have sk2:=λ (_:Unit)=>jy (hV ns) (ms.zip qs);have hB:=(uS ns).1;generalize af f1 (ms.zip ps)=ws at *;generalize af f2 (ms.zip qs)=rs at *;generalize (ms.zip ps).map aT=A1 at *;generalize (ms.zip qs).map aT=A2 at *;have gB:∀ (f:Int) (A:List (Int × Int)) (cs:List Int),af f A=cs->af (f * hV ns+ph ns) (aU (hV ns) A)=cs.map λ c=>c * hV ns+ph ns:=λ f A cs h=>by rw [oW,h]
  have gS:∀ (A:List (Int × Int)),A.map (λ a=>a.1)=ms->(aU (hV ns) A).map (λ a=>a.1)=ms:=λ A h=>by rw [wb];exact h
  have hin:JZ λ c=>c * hV ns+ph ns:=EZ hB;have c1c:=λ (_:Unit)=>gB f1 A1 ws ck1;have c2c:=λ (_:Unit)=>gB f2 A2 rs ck2;have nd1:=λ (_:Unit)=>(show (af f1 A1).Nodup by rw [ck1];exact hnd);have nd2:=λ (_:Unit)=>(show (af (f1 * hV ns+ph ns) (aU (hV ns) A1)).Nodup by rw [c1c ()];exact(wA hin ws).mpr hnd);have can0:=xG (ms:=ms) (ws:=ws) (rs:=rs) (n:=ms.length);have can1:=λ (_:Unit)=>(show FD ms.length ((aL (af f1 A1) (af f2 A2) (af f2 A2).length).map (jW ms)) ((iP ms.length ms.length).any λ os=>eu ms ws rs os) by rw [ck1,ck2];exact can0);have can2:=λ (_:Unit)=>(show FD ms.length ((aL (af (f1 * hV ns+ph ns) (aU (hV ns) A1)) (af (f2 * hV ns+ph ns) (aU (hV ns) A2)) (af (f2 * hV ns+ph ns) (aU (hV ns) A2)).length).map (jW ms)) ((iP ms.length ms.length).any λ os=>eu ms ws rs os) by rw [c1c (),c2c (),kW hin,Nz];exact can0);have oks:=λ (_:Unit)=>(λ os (h:os∈iP ms.length ms.length)=>(p8.mp h:d7 os ms.length));have hal:=mH hm3 (NF _);exists gS;exists hnd;exists ks1;exists ks2;exists hsz;clear mz1 mz2 ax1 ax2 sl1 sl2 sg1 sg2 o1 o2 hS1 hS e1 h1 gB can0 c1c c2c ck1 ck2 hin;replace can1:=λ (_:Unit)=>can1 ();ac_rfl;rw [A8];refine⟨ms.length,rfl,hm3,λ r3 ys3 H3 e3 h3 al3=>?_⟩;have hS3:=e3.2 K a _ hS2;have h1_3:=e3.at h1_2;have v1_3:=v1.ext e3;have v2_3:=v2.ext e3;have hw1_3:=e3.at hw1;have hw2_3:=e3.at hw2;generalize iP ms.length ms.length=OS at can1 can2 oks hal al3;exists al3;clear e3 hS2 h1_2 v1 v2 hw1 hw2 h2;ac_rfl;refine cR (xs:=ys3) (λ i σ H'=>∃ v7:Option V,σ=[some (.ref a),some (.ref pl),some (.ref x1),some (.ref x2),some (.ref w1),some (.ref w2),some (.bl ((OS.take i).any λ os=>eu ms ws rs os)),v7]/\Ext H3 H') ⟨none,rfl,Ext.refl _⟩ (λ i σ H' _ ⟨_,_,e⟩=>e.at h3) ?_ ?_
  ·rintro i y _ H4 hi ⟨v7,rfl,e4⟩;have hil:i < OS.length:=by have:=(Ny.mp hi).1;rw [(al3 ()).1] at this;exact this
   obtain⟨os,hos⟩:∃ z,OS[i]? = some z:=⟨_,Nw hil⟩;obtain⟨q,rfl,tq⟩:=(al3 ()).2 i os y hos hi;have ok:=oks () os (N6 hos)
   have htk:((OS.take (i+1)).any λ os=>eu ms ws rs os)=(((OS.take i).any λ os=>eu ms ws rs os) || eu ms ws rs os):=by
    rw [OH,hos,List.any_append];simp
   have tq4:=tq.ext e4;exists ok;exists htk;clear hi hos kk can1 can2 tq;obtain⟨b,hb⟩:∃ b,((OS.take i).any λ os=>eu ms ws rs os)=b:=⟨_,rfl⟩;rw [hb] at htk ⊢;clear hb
   cases b with
   | true=>
    simp! only [↓aI];exact⟨_,by rw [htk ()];rfl,e4⟩
   | false=>
    simp! only [↓aI];rw [x8];refine⟨ms,os,ws,rs,e4.at h1_3,tq4,ok (),e4.at hw1_3,e4.at hw2_3,hsz (),cl1,cl2,hnd (),λ H5 e5=>?_⟩;ac_rfl;exact⟨_,by rw [htk (),Bool.false_or],e4.trans e5⟩
  ·rintro _ H4 ⟨v7,rfl,e4⟩;rw [(al3 ()).1,OE];have hS4:=e4.2 K a _ hS3;have v1_4:=v1_3.ext e4;have v2_4:=v2_3.ext e4;generalize (OS.any λ os=>eu ms ws rs os)=b at can1 can2 ⊢;clear al3 oks h3 hS3 v1_3 v2_3 hw1_3 hw2_3 h1_3 hsz;ac_rfl;rw [oA];refine⟨room,f1,f2,A1,A2,ms,v1_4,v2_4,kx1,kx2,ks1 (),ks2 (),p60,nd1 (),can1 (),λ H5 e5=>?_⟩;have hS5:=e5.2 K a _ hS4;have v1_5:=v1_4.ext e5;have v2_5:=v2_4.ext e5;clear hS4 v1_4 v2_4;ac_rfl;rw [rX];refine⟨rfl,hS5,hl,room,f1,A1,v1_5,kx1,rm1,rm2,lo1,hi1,λ y1 H6 e6 u1=>?_⟩;rw [sk1 ()] at u1;ac_rfl;rw [rX];refine⟨rfl,e6.2 K a _ hS5,hl,room,f2,A2,v2_5.ext e6,kx2,rm1,rm2,lo2,hi2,λ y2 H7 e7 u2=>?_⟩;rw [sk2 ()] at u2;ac_rfl;rw [oA];refine⟨_,_,_,_,_,ms,u1.ext e7,u2,gU kx1,gU kx2,gS () _ (ks1 ()),gS () _ (ks2 ()),p60,nd2 (),can2 (),λ H8 e8=>?_⟩;have k':=kk () H8;clear kk;ac_rfl
end
theorem MW{l:W.OpenLaw}{w:World}{K:W.Frag}{h:Heap}{mg:Str->Option Value}{fa:Addr}(X:K.In h)(G:h.Ns mainGlobals mg)(hfa:mg "law"=some (.ref fa))
  {C0:Addr} (y0:W.nsIn K mainGlobals "PaceError"=some (some (.ref C0)))
  {C1:Addr} (y1:W.nsIn K mainGlobals "NoPlace"=some (some (.ref C1)))
  {C2:Addr} (y2:W.nsIn K mainGlobals "NoView"=some (some (.ref C2)))
  {C3:Addr} (y3:W.nsIn K mainGlobals "NoCount"=some (some (.ref C3)))
  {C4:Addr} (y4:W.nsIn K mainGlobals "NoPair"=some (some (.ref C4)))
  {C5:Addr} (y5:W.nsIn K mainGlobals "TooMany"=some (some (.ref C5)))
  {C6:Addr} (y6:W.nsIn K mainGlobals "Twice"=some (some (.ref C6)))
  {C7:Addr} (y7:W.nsIn K mainGlobals "View"=some (some (.ref C7)))
  {f0:Addr} {od0 an0:Option Addr} {sl0:Array (Option Value)} {oc0 kV0 dc0 pm0 cd0 ct0:Value}
  (l0:K.lookup f0=some ⟨oc0,od0,.func (W.fnOf "__init__" "TooMany.__init__" (ai aR) (ah aR) (aa aR) .none kV0 dc0 pm0 an0 cd0 ct0),sl0⟩)
  (c0:W.codeIn K cd0 "TooMany.__init__"=true) (k0:W.keepIn K (.ref f0)=true)
  {f1:Addr} {od1 an1:Option Addr} {sl1:Array (Option Value)} {oc1 kV1 dc1 pm1 cd1 ct1:Value}
  (l1:K.lookup f1=some ⟨oc1,od1,.func (W.fnOf "__init__" "Twice.__init__" (ai bh) (ah bh) (aa bh) .none kV1 dc1 pm1 an1 cd1 ct1),sl1⟩)
  (c1:W.codeIn K cd1 "Twice.__init__"=true) (k1:W.keepIn K (.ref f1)=true)
  {f2:Addr} {od2 an2:Option Addr} {sl2:Array (Option Value)} {oc2 kV2 dc2 pm2 cd2 ct2:Value}
  (a2:W.nsIn K mainGlobals "is_whole"=some (some (.ref f2))) (l2:K.lookup f2=some ⟨oc2,od2,.func (W.fnOf "is_whole" "is_whole" (ai dA) (ah dA) (aa dA) .none kV2 dc2 pm2 an2 cd2 ct2),sl2⟩)
  (c2:W.codeIn K cd2 "is_whole"=true) (k2:W.keepIn K (.ref f2)=true)
  {f3:Addr} {od3 an3:Option Addr} {sl3:Array (Option Value)} {oc3 kV3 dc3 pm3 cd3 ct3:Value}
  (a3:W.nsIn K mainGlobals "count_of"=some (some (.ref f3))) (l3:K.lookup f3=some ⟨oc3,od3,.func (W.fnOf "count_of" "count_of" (ai dB) (ah dB) (aa dB) .none kV3 dc3 pm3 an3 cd3 ct3),sl3⟩)
  (c3:W.codeIn K cd3 "count_of"=true) (k3:W.keepIn K (.ref f3)=true)
  {f4:Addr} {od4 an4:Option Addr} {sl4:Array (Option Value)} {oc4 kV4 dc4 pm4 cd4 ct4:Value}
  (a4:W.nsIn K mainGlobals "is_number_below"=some (some (.ref f4))) (l4:K.lookup f4=some ⟨oc4,od4,.func (W.fnOf "is_number_below" "is_number_below" (ai aY) (ah aY) (aa aY) .none kV4 dc4 pm4 an4 cd4 ct4),sl4⟩)
  (c4:W.codeIn K cd4 "is_number_below"=true) (k4:W.keepIn K (.ref f4)=true)
  {f5:Addr} {od5 an5:Option Addr} {sl5:Array (Option Value)} {oc5 kV5 dc5 pm5 cd5 ct5:Value}
  (a5:W.nsIn K mainGlobals "is_place"=some (some (.ref f5))) (l5:K.lookup f5=some ⟨oc5,od5,.func (W.fnOf "is_place" "is_place" (ai cS) (ah cS) (aa cS) .none kV5 dc5 pm5 an5 cd5 ct5),sl5⟩)
  (c5:W.codeIn K cd5 "is_place"=true) (k5:W.keepIn K (.ref f5)=true)
  {f6:Addr} {od6 an6:Option Addr} {sl6:Array (Option Value)} {oc6 kV6 dc6 pm6 cd6 ct6:Value}
  (a6:W.nsIn K mainGlobals "split_number"=some (some (.ref f6))) (l6:K.lookup f6=some ⟨oc6,od6,.func (W.fnOf "split_number" "split_number" (ai bM) (ah bM) (aa bM) .none kV6 dc6 pm6 an6 cd6 ct6),sl6⟩)
  (c6:W.codeIn K cd6 "split_number"=true) (k6:W.keepIn K (.ref f6)=true)
  {f7:Addr} {od7 an7:Option Addr} {sl7:Array (Option Value)} {oc7 kV7 dc7 pm7 cd7 ct7:Value}
  (a7:W.nsIn K mainGlobals "place_at"=some (some (.ref f7))) (l7:K.lookup f7=some ⟨oc7,od7,.func (W.fnOf "place_at" "place_at" (ai dz) (ah dz) (aa dz) .none kV7 dc7 pm7 an7 cd7 ct7),sl7⟩)
  (c7:W.codeIn K cd7 "place_at"=true) (k7:W.keepIn K (.ref f7)=true)
  {f8:Addr} {od8 an8:Option Addr} {sl8:Array (Option Value)} {oc8 kV8 dc8 pm8 cd8 ct8:Value}
  (a8:W.nsIn K mainGlobals "refuse_long"=some (some (.ref f8))) (l8:K.lookup f8=some ⟨oc8,od8,.func (W.fnOf "refuse_long" "refuse_long" (ai cc) (ah cc) (aa cc) .none kV8 dc8 pm8 an8 cd8 ct8),sl8⟩)
  (c8:W.codeIn K cd8 "refuse_long"=true) (k8:W.keepIn K (.ref f8)=true)
  {f9:Addr} {od9 an9:Option Addr} {sl9:Array (Option Value)} {oc9 kV9 dc9 pm9 cd9 ct9:Value}
  (a9:W.nsIn K mainGlobals "places"=some (some (.ref f9))) (l9:K.lookup f9=some ⟨oc9,od9,.func (W.fnOf "places" "places" (ai eL) (ah eL) (aa eL) .none kV9 dc9 pm9 an9 cd9 ct9),sl9⟩)
  (c9:W.codeIn K cd9 "places"=true) (k9:W.keepIn K (.ref f9)=true)
  {f10:Addr} {od10 an10:Option Addr} {sl10:Array (Option Value)} {oc10 kV10 dc10 pm10 cd10 ct10:Value}
  (a10:W.nsIn K mainGlobals "is_within"=some (some (.ref f10))) (l10:K.lookup f10=some ⟨oc10,od10,.func (W.fnOf "is_within" "is_within" (ai cY) (ah cY) (aa cY) .none kV10 dc10 pm10 an10 cd10 ct10),sl10⟩)
  (c10:W.codeIn K cd10 "is_within"=true) (k10:W.keepIn K (.ref f10)=true)
  {f11:Addr} {od11 an11:Option Addr} {sl11:Array (Option Value)} {oc11 kV11 dc11 pm11 cd11 ct11:Value}
  (a11:W.nsIn K mainGlobals "is_size"=some (some (.ref f11))) (l11:K.lookup f11=some ⟨oc11,od11,.func (W.fnOf "is_size" "is_size" (ai eE) (ah eE) (aa eE) .none kV11 dc11 pm11 an11 cd11 ct11),sl11⟩)
  (c11:W.codeIn K cd11 "is_size"=true) (k11:W.keepIn K (.ref f11)=true)
  {f12:Addr} {od12 an12:Option Addr} {sl12:Array (Option Value)} {oc12 kV12 dc12 pm12 cd12 ct12:Value}
  (a12:W.nsIn K mainGlobals "is_axis"=some (some (.ref f12))) (l12:K.lookup f12=some ⟨oc12,od12,.func (W.fnOf "is_axis" "is_axis" (ai eF) (ah eF) (aa eF) .none kV12 dc12 pm12 an12 cd12 ct12),sl12⟩)
  (c12:W.codeIn K cd12 "is_axis"=true) (k12:W.keepIn K (.ref f12)=true)
  {f13:Addr} {od13 an13:Option Addr} {sl13:Array (Option Value)} {oc13 kV13 dc13 pm13 cd13 ct13:Value}
  (a13:W.nsIn K mainGlobals "are_axes"=some (some (.ref f13))) (l13:K.lookup f13=some ⟨oc13,od13,.func (W.fnOf "are_axes" "are_axes" (ai cU) (ah cU) (aa cU) .none kV13 dc13 pm13 an13 cd13 ct13),sl13⟩)
  (c13:W.codeIn K cd13 "are_axes"=true) (k13:W.keepIn K (.ref f13)=true)
  {f14:Addr} {od14 an14:Option Addr} {sl14:Array (Option Value)} {oc14 kV14 dc14 pm14 cd14 ct14:Value}
  (a14:W.nsIn K mainGlobals "kept_axis"=some (some (.ref f14))) (l14:K.lookup f14=some ⟨oc14,od14,.func (W.fnOf "kept_axis" "kept_axis" (ai cX) (ah cX) (aa cX) .none kV14 dc14 pm14 an14 cd14 ct14),sl14⟩)
  (c14:W.codeIn K cd14 "kept_axis"=true) (k14:W.keepIn K (.ref f14)=true)
  {f15:Addr} {od15 an15:Option Addr} {sl15:Array (Option Value)} {oc15 kV15 dc15 pm15 cd15 ct15:Value}
  (l15:K.lookup f15=some ⟨oc15,od15,.func (W.fnOf "__init__" "View.__init__" (ai bf) (ah bf) (aa bf) .none kV15 dc15 pm15 an15 cd15 ct15),sl15⟩)
  (c15:W.codeIn K cd15 "View.__init__"=true) (k15:W.keepIn K (.ref f15)=true)
  {f16:Addr} {od16 an16:Option Addr} {sl16:Array (Option Value)} {oc16 kV16 dc16 pm16 cd16 ct16:Value}
  (l16:K.lookup f16=some ⟨oc16,od16,.func (W.fnOf "sizes" "View.sizes" (ai bZ) (ah bZ) (aa bZ) .none kV16 dc16 pm16 an16 cd16 ct16),sl16⟩)
  (c16:W.codeIn K cd16 "View.sizes"=true) (k16:W.keepIn K (.ref f16)=true)
  {f17:Addr} {od17 an17:Option Addr} {sl17:Array (Option Value)} {oc17 kV17 dc17 pm17 cd17 ct17:Value}
  (l17:K.lookup f17=some ⟨oc17,od17,.func (W.fnOf "paces" "View.paces" (ai b0) (ah b0) (aa b0) .none kV17 dc17 pm17 an17 cd17 ct17),sl17⟩)
  (c17:W.codeIn K cd17 "View.paces"=true) (k17:W.keepIn K (.ref f17)=true)
  {f18:Addr} {od18 an18:Option Addr} {sl18:Array (Option Value)} {oc18 kV18 dc18 pm18 cd18 ct18:Value}
  (l18:K.lookup f18=some ⟨oc18,od18,.func (W.fnOf "count" "View.count" (ai cJ) (ah cJ) (aa cJ) .none kV18 dc18 pm18 an18 cd18 ct18),sl18⟩)
  (c18:W.codeIn K cd18 "View.count"=true) (k18:W.keepIn K (.ref f18)=true)
  {f19:Addr} {od19 an19:Option Addr} {sl19:Array (Option Value)} {oc19 kV19 dc19 pm19 cd19 ct19:Value}
  (l19:K.lookup f19=some ⟨oc19,od19,.func (W.fnOf "cell" "View.cell" (ai df) (ah df) (aa df) .none kV19 dc19 pm19 an19 cd19 ct19),sl19⟩)
  (c19:W.codeIn K cd19 "View.cell"=true) (k19:W.keepIn K (.ref f19)=true)
  {f20:Addr} {od20 an20:Option Addr} {sl20:Array (Option Value)} {oc20 kV20 dc20 pm20 cd20 ct20:Value}
  (l20:K.lookup f20=some ⟨oc20,od20,.func (W.fnOf "cells" "View.cells" (ai cK) (ah cK) (aa cK) .none kV20 dc20 pm20 an20 cd20 ct20),sl20⟩)
  (c20:W.codeIn K cd20 "View.cells"=true) (k20:W.keepIn K (.ref f20)=true)
  {f21:Addr} {od21 an21:Option Addr} {sl21:Array (Option Value)} {oc21 kV21 dc21 pm21 cd21 ct21:Value}
  (l21:K.lookup f21=some ⟨oc21,od21,.func (W.fnOf "least" "View.least" (ai b8) (ah b8) (aa b8) .none kV21 dc21 pm21 an21 cd21 ct21),sl21⟩)
  (c21:W.codeIn K cd21 "View.least"=true) (k21:W.keepIn K (.ref f21)=true)
  {f22:Addr} {od22 an22:Option Addr} {sl22:Array (Option Value)} {oc22 kV22 dc22 pm22 cd22 ct22:Value}
  (l22:K.lookup f22=some ⟨oc22,od22,.func (W.fnOf "greatest" "View.greatest" (ai bc) (ah bc) (aa bc) .none kV22 dc22 pm22 an22 cd22 ct22),sl22⟩)
  (c22:W.codeIn K cd22 "View.greatest"=true) (k22:W.keepIn K (.ref f22)=true)
  {f23:Addr} {od23 an23:Option Addr} {sl23:Array (Option Value)} {oc23 kV23 dc23 pm23 cd23 ct23:Value}
  (a23:W.nsIn K mainGlobals "widened"=some (some (.ref f23))) (l23:K.lookup f23=some ⟨oc23,od23,.func (W.fnOf "widened" "widened" (ai dH) (ah dH) (aa dH) .none kV23 dc23 pm23 an23 cd23 ct23),sl23⟩)
  (c23:W.codeIn K cd23 "widened"=true) (k23:W.keepIn K (.ref f23)=true)
  {f24:Addr} {od24 an24:Option Addr} {sl24:Array (Option Value)} {oc24 kV24 dc24 pm24 cd24 ct24:Value}
  (a24:W.nsIn K mainGlobals "has_twice"=some (some (.ref f24))) (l24:K.lookup f24=some ⟨oc24,od24,.func (W.fnOf "has_twice" "has_twice" (ai cZ) (ah cZ) (aa cZ) .none kV24 dc24 pm24 an24 cd24 ct24),sl24⟩)
  (c24:W.codeIn K cd24 "has_twice"=true) (k24:W.keepIn K (.ref f24)=true)
  {f25:Addr} {od25 an25:Option Addr} {sl25:Array (Option Value)} {oc25 kV25 dc25 pm25 cd25 ct25:Value}
  (a25:W.nsIn K mainGlobals "refuse_rooms"=some (some (.ref f25))) (l25:K.lookup f25=some ⟨oc25,od25,.func (W.fnOf "refuse_rooms" "refuse_rooms" (ai bO) (ah bO) (aa bO) .none kV25 dc25 pm25 an25 cd25 ct25),sl25⟩)
  (c25:W.codeIn K cd25 "refuse_rooms"=true) (k25:W.keepIn K (.ref f25)=true)
  {f26:Addr} {od26 an26:Option Addr} {sl26:Array (Option Value)} {oc26 kV26 dc26 pm26 cd26 ct26:Value}
  (a26:W.nsIn K mainGlobals "refuse_sizes_unlike"=some (some (.ref f26))) (l26:K.lookup f26=some ⟨oc26,od26,.func (W.fnOf "refuse_sizes_unlike" "refuse_sizes_unlike" (ai aB) (ah aB) (aa aB) .none kV26 dc26 pm26 an26 cd26 ct26),sl26⟩)
  (c26:W.codeIn K cd26 "refuse_sizes_unlike"=true) (k26:W.keepIn K (.ref f26)=true)
  {f27:Addr} {od27 an27:Option Addr} {sl27:Array (Option Value)} {oc27 kV27 dc27 pm27 cd27 ct27:Value}
  (a27:W.nsIn K mainGlobals "refuse_twice"=some (some (.ref f27))) (l27:K.lookup f27=some ⟨oc27,od27,.func (W.fnOf "refuse_twice" "refuse_twice" (ai bN) (ah bN) (aa bN) .none kV27 dc27 pm27 an27 cd27 ct27),sl27⟩)
  (c27:W.codeIn K cd27 "refuse_twice"=true) (k27:W.keepIn K (.ref f27)=true)
  {f28:Addr} {od28 an28:Option Addr} {sl28:Array (Option Value)} {oc28 kV28 dc28 pm28 cd28 ct28:Value}
  (a28:W.nsIn K mainGlobals "places_written_anew"=some (some (.ref f28))) (l28:K.lookup f28=some ⟨oc28,od28,.func (W.fnOf "places_written_anew" "places_written_anew" (ai aC) (ah aC) (aa aC) .none kV28 dc28 pm28 an28 cd28 ct28),sl28⟩)
  (c28:W.codeIn K cd28 "places_written_anew"=true) (k28:W.keepIn K (.ref f28)=true)
  {f29:Addr} {od29 an29:Option Addr} {sl29:Array (Option Value)} {oc29 kV29 dc29 pm29 cd29 ct29:Value}
  (a29:W.nsIn K mainGlobals "bound_pairs"=some (some (.ref f29))) (l29:K.lookup f29=some ⟨oc29,od29,.func (W.fnOf "bound_pairs" "bound_pairs" (ai cg) (ah cg) (aa cg) .none kV29 dc29 pm29 an29 cd29 ct29),sl29⟩)
  (c29:W.codeIn K cd29 "bound_pairs"=true) (k29:W.keepIn K (.ref f29)=true)
  {f30:Addr} {od30 an30:Option Addr} {sl30:Array (Option Value)} {oc30 kV30 dc30 pm30 cd30 ct30:Value}
  (a30:W.nsIn K mainGlobals "gap"=some (some (.ref f30))) (l30:K.lookup f30=some ⟨oc30,od30,.func (W.fnOf "gap" "gap" (ai sj) (ah sj) (aa sj) .none kV30 dc30 pm30 an30 cd30 ct30),sl30⟩)
  (c30:W.codeIn K cd30 "gap"=true) (k30:W.keepIn K (.ref f30)=true)
  {f31:Addr} {od31 an31:Option Addr} {sl31:Array (Option Value)} {oc31 kV31 dc31 pm31 cd31 ct31:Value}
  (a31:W.nsIn K mainGlobals "helpful_loop"=some (some (.ref f31))) (l31:K.lookup f31=some ⟨oc31,od31,.func (W.fnOf "helpful_loop" "helpful_loop" (ai bu) (ah bu) (aa bu) .none kV31 dc31 pm31 an31 cd31 ct31),sl31⟩)
  (c31:W.codeIn K cd31 "helpful_loop"=true) (k31:W.keepIn K (.ref f31)=true)
  {f32:Addr} {od32 an32:Option Addr} {sl32:Array (Option Value)} {oc32 kV32 dc32 pm32 cd32 ct32:Value}
  (a32:W.nsIn K mainGlobals "barring_pairs"=some (some (.ref f32))) (l32:K.lookup f32=some ⟨oc32,od32,.func (W.fnOf "barring_pairs" "barring_pairs" (ai aP) (ah aP) (aa aP) .none kV32 dc32 pm32 an32 cd32 ct32),sl32⟩)
  (c32:W.codeIn K cd32 "barring_pairs"=true) (k32:W.keepIn K (.ref f32)=true)
  {f33:Addr} {od33 an33:Option Addr} {sl33:Array (Option Value)} {oc33 kV33 dc33 pm33 cd33 ct33:Value}
  (a33:W.nsIn K mainGlobals "loop_order"=some (some (.ref f33))) (l33:K.lookup f33=some ⟨oc33,od33,.func (W.fnOf "loop_order" "loop_order" (ai bo) (ah bo) (aa bo) .none kV33 dc33 pm33 an33 cd33 ct33),sl33⟩)
  (c33:W.codeIn K cd33 "loop_order"=true) (k33:W.keepIn K (.ref f33)=true)
  {f34:Addr} {od34 an34:Option Addr} {sl34:Array (Option Value)} {oc34 kV34 dc34 pm34 cd34 ct34:Value}
  (a34:W.nsIn K mainGlobals "is_known_pair"=some (some (.ref f34))) (l34:K.lookup f34=some ⟨oc34,od34,.func (W.fnOf "is_known_pair" "is_known_pair" (ai bB) (ah bB) (aa bB) .none kV34 dc34 pm34 an34 cd34 ct34),sl34⟩)
  (c34:W.codeIn K cd34 "is_known_pair"=true) (k34:W.keepIn K (.ref f34)=true)
  {f35:Addr} {od35 an35:Option Addr} {sl35:Array (Option Value)} {oc35 kV35 dc35 pm35 cd35 ct35:Value}
  (a35:W.nsIn K mainGlobals "bars_axis"=some (some (.ref f35))) (l35:K.lookup f35=some ⟨oc35,od35,.func (W.fnOf "bars_axis" "bars_axis" (ai cB) (ah cB) (aa cB) .none kV35 dc35 pm35 an35 cd35 ct35),sl35⟩)
  (c35:W.codeIn K cd35 "bars_axis"=true) (k35:W.keepIn K (.ref f35)=true)
  {f36:Addr} {od36 an36:Option Addr} {sl36:Array (Option Value)} {oc36 kV36 dc36 pm36 cd36 ct36:Value}
  (a36:W.nsIn K mainGlobals "bars"=some (some (.ref f36))) (l36:K.lookup f36=some ⟨oc36,od36,.func (W.fnOf "bars" "bars" (ai hZ) (ah hZ) (aa hZ) .none kV36 dc36 pm36 an36 cd36 ct36),sl36⟩)
  (c36:W.codeIn K cd36 "bars"=true) (k36:W.keepIn K (.ref f36)=true)
  {f37:Addr} {od37 an37:Option Addr} {sl37:Array (Option Value)} {oc37 kV37 dc37 pm37 cd37 ct37:Value}
  (a37:W.nsIn K mainGlobals "_law_draw"=some (some (.ref f37))) (l37:K.lookup f37=some ⟨oc37,od37,.func (W.fnOf "_law_draw" "_law_draw" (ai dc) (ah dc) (aa dc) .none kV37 dc37 pm37 an37 cd37 ct37),sl37⟩)
  (c37:W.codeIn K cd37 "_law_draw"=true) (k37:W.keepIn K (.ref f37)=true)
  {f38:Addr} {od38 an38:Option Addr} {sl38:Array (Option Value)} {oc38 kV38 dc38 pm38 cd38 ct38:Value}
  (a38:W.nsIn K mainGlobals "_law_digits"=some (some (.ref f38))) (l38:K.lookup f38=some ⟨oc38,od38,.func (W.fnOf "_law_digits" "_law_digits" (ai ck) (ah ck) (aa ck) .none kV38 dc38 pm38 an38 cd38 ct38),sl38⟩)
  (c38:W.codeIn K cd38 "_law_digits"=true) (k38:W.keepIn K (.ref f38)=true)
  {f39:Addr} {od39 an39:Option Addr} {sl39:Array (Option Value)} {oc39 kV39 dc39 pm39 cd39 ct39:Value}
  (a39:W.nsIn K mainGlobals "_law_sizes"=some (some (.ref f39))) (l39:K.lookup f39=some ⟨oc39,od39,.func (W.fnOf "_law_sizes" "_law_sizes" (ai cG) (ah cG) (aa cG) .none kV39 dc39 pm39 an39 cd39 ct39),sl39⟩)
  (c39:W.codeIn K cd39 "_law_sizes"=true) (k39:W.keepIn K (.ref f39)=true)
  {f40:Addr} {od40 an40:Option Addr} {sl40:Array (Option Value)} {oc40 kV40 dc40 pm40 cd40 ct40:Value}
  (a40:W.nsIn K mainGlobals "_law_once"=some (some (.ref f40))) (l40:K.lookup f40=some ⟨oc40,od40,.func (W.fnOf "_law_once" "_law_once" (ai da) (ah da) (aa da) .none kV40 dc40 pm40 an40 cd40 ct40),sl40⟩)
  (c40:W.codeIn K cd40 "_law_once"=true) (k40:W.keepIn K (.ref f40)=true)
  {f41:Addr} {od41 an41:Option Addr} {sl41:Array (Option Value)} {oc41 kV41 dc41 pm41 cd41 ct41:Value}
  (a41:W.nsIn K mainGlobals "_law_others"=some (some (.ref f41))) (l41:K.lookup f41=some ⟨oc41,od41,.func (W.fnOf "_law_others" "_law_others" (ai bJ) (ah bJ) (aa bJ) .none kV41 dc41 pm41 an41 cd41 ct41),sl41⟩)
  (c41:W.codeIn K cd41 "_law_others"=true) (k41:W.keepIn K (.ref f41)=true)
  {f42:Addr} {od42 an42:Option Addr} {sl42:Array (Option Value)} {oc42 kV42 dc42 pm42 cd42 ct42:Value}
  (a42:W.nsIn K mainGlobals "_law_least"=some (some (.ref f42))) (l42:K.lookup f42=some ⟨oc42,od42,.func (W.fnOf "_law_least" "_law_least" (ai bX) (ah bX) (aa bX) .none kV42 dc42 pm42 an42 cd42 ct42),sl42⟩)
  (c42:W.codeIn K cd42 "_law_least"=true) (k42:W.keepIn K (.ref f42)=true)
  {f43:Addr} {od43 an43:Option Addr} {sl43:Array (Option Value)} {oc43 kV43 dc43 pm43 cd43 ct43:Value}
  (a43:W.nsIn K mainGlobals "_law_most"=some (some (.ref f43))) (l43:K.lookup f43=some ⟨oc43,od43,.func (W.fnOf "_law_most" "_law_most" (ai cD) (ah cD) (aa cD) .none kV43 dc43 pm43 an43 cd43 ct43),sl43⟩)
  (c43:W.codeIn K cd43 "_law_most"=true) (k43:W.keepIn K (.ref f43)=true)
  {f44:Addr} {od44 an44:Option Addr} {sl44:Array (Option Value)} {oc44 kV44 dc44 pm44 cd44 ct44:Value}
  (a44:W.nsIn K mainGlobals "_law_cells"=some (some (.ref f44))) (l44:K.lookup f44=some ⟨oc44,od44,.func (W.fnOf "_law_cells" "_law_cells" (ai bY) (ah bY) (aa bY) .none kV44 dc44 pm44 an44 cd44 ct44),sl44⟩)
  (c44:W.codeIn K cd44 "_law_cells"=true) (k44:W.keepIn K (.ref f44)=true)
  {f45:Addr} {od45 an45:Option Addr} {sl45:Array (Option Value)} {oc45 kV45 dc45 pm45 cd45 ct45:Value}
  (a45:W.nsIn K mainGlobals "_law_two"=some (some (.ref f45))) (l45:K.lookup f45=some ⟨oc45,od45,.func (W.fnOf "_law_two" "_law_two" (ai dC) (ah dC) (aa dC) .none kV45 dc45 pm45 an45 cd45 ct45),sl45⟩)
  (c45:W.codeIn K cd45 "_law_two"=true) (k45:W.keepIn K (.ref f45)=true)
  {f46:Addr} {od46 an46:Option Addr} {sl46:Array (Option Value)} {oc46 kV46 dc46 pm46 cd46 ct46:Value}
  (a46:W.nsIn K mainGlobals "_law_far"=some (some (.ref f46))) (l46:K.lookup f46=some ⟨oc46,od46,.func (W.fnOf "_law_far" "_law_far" (ai cV) (ah cV) (aa cV) .none kV46 dc46 pm46 an46 cd46 ct46),sl46⟩)
  (c46:W.codeIn K cd46 "_law_far"=true) (k46:W.keepIn K (.ref f46)=true)
  {f47:Addr} {od47 an47:Option Addr} {sl47:Array (Option Value)} {oc47 kV47 dc47 pm47 cd47 ct47:Value}
  (a47:W.nsIn K mainGlobals "_law_walk"=some (some (.ref f47))) (l47:K.lookup f47=some ⟨oc47,od47,.func (W.fnOf "_law_walk" "_law_walk" (ai cC) (ah cC) (aa cC) .none kV47 dc47 pm47 an47 cd47 ct47),sl47⟩)
  (c47:W.codeIn K cd47 "_law_walk"=true) (k47:W.keepIn K (.ref f47)=true)
  {f48:Addr} {od48 an48:Option Addr} {sl48:Array (Option Value)} {oc48 kV48 dc48 pm48 cd48 ct48:Value}
  (a48:W.nsIn K mainGlobals "_law_number"=some (some (.ref f48))) (l48:K.lookup f48=some ⟨oc48,od48,.func (W.fnOf "_law_number" "_law_number" (ai cj) (ah cj) (aa cj) .none kV48 dc48 pm48 an48 cd48 ct48),sl48⟩)
  (c48:W.codeIn K cd48 "_law_number"=true) (k48:W.keepIn K (.ref f48)=true)
  {f49:Addr} {od49 an49:Option Addr} {sl49:Array (Option Value)} {oc49 kV49 dc49 pm49 cd49 ct49:Value}
  (a49:W.nsIn K mainGlobals "_law_keeps"=some (some (.ref f49))) (l49:K.lookup f49=some ⟨oc49,od49,.func (W.fnOf "_law_keeps" "_law_keeps" (ai cI) (ah cI) (aa cI) .none kV49 dc49 pm49 an49 cd49 ct49),sl49⟩)
  (c49:W.codeIn K cd49 "_law_keeps"=true) (k49:W.keepIn K (.ref f49)=true)
  {f50:Addr} {od50 an50:Option Addr} {sl50:Array (Option Value)} {oc50 kV50 dc50 pm50 cd50 ct50:Value}
  (a50:W.nsIn K mainGlobals "_law_all_orders"=some (some (.ref f50))) (l50:K.lookup f50=some ⟨oc50,od50,.func (W.fnOf "_law_all_orders" "_law_all_orders" (ai aK) (ah aK) (aa aK) .none kV50 dc50 pm50 an50 cd50 ct50),sl50⟩)
  (c50:W.codeIn K cd50 "_law_all_orders"=true) (k50:W.keepIn K (.ref f50)=true)
  {f51:Addr} {od51 an51:Option Addr} {sl51:Array (Option Value)} {oc51 kV51 dc51 pm51 cd51 ct51:Value}
  (a51:W.nsIn K mainGlobals "_law_right"=some (some (.ref f51))) (l51:K.lookup f51=some ⟨oc51,od51,.func (W.fnOf "_law_right" "_law_right" (ai cH) (ah cH) (aa cH) .none kV51 dc51 pm51 an51 cd51 ct51),sl51⟩)
  (c51:W.codeIn K cd51 "_law_right"=true) (k51:W.keepIn K (.ref f51)=true)
  {f52:Addr} {od52 an52:Option Addr} {sl52:Array (Option Value)} {oc52 kV52 dc52 pm52 cd52 ct52:Value}
  (a52:W.nsIn K mainGlobals "law"=some (some (.ref f52))) (l52:K.lookup f52=some ⟨oc52,od52,.func (W.fnOf "law" "law" (ai lO) (ah lO) (aa lO) .none kV52 dc52 pm52 an52 cd52 ct52),sl52⟩)
  (c52:W.codeIn K cd52 "law"=true) (k52:W.keepIn K (.ref f52)=true)
  (fi_TooMany:W.findIn K (.ref C5) "__init__"=some (some (.ref f0)))
  (xe_TooMany:uT K C5 f0 [.type "ValueError",.type "Exception",.type "BaseException",.type "object"] "ValueError.__new__"=true)
  (xf_TooMany:W.typeIn K (.ref f0)=some (.type "function"))
  (xo_TooMany:p3 K C5=true)
  (xs_TooMany:W.findIn K (.ref C5) "__setattr__"=some (some (.builtin "object.__setattr__")))
  (xh_TooMany:W.hasDictIn K C5=true)
  (nt_TooMany_number:W.takerIn K C5 "number"=some none)
  (nf_TooMany_number:W.findIn K (.ref C5) "number"=some none)
  (bs_PaceError:W.specialIn K (.ref C0) "__getattribute__"=some (some (.builtin "type.__getattribute__")))
  (br_PaceError:W.readsIn K C0 (.type "type")=true)
  (bf_PaceError:W.findCls K (.ref C0) (.type "type") "__init__"=some (.val (.builtin "ValueError.__init__")))
  (fi_Twice:W.findIn K (.ref C6) "__init__"=some (some (.ref f1)))
  (xe_Twice:uT K C6 f1 [.type "ValueError",.type "Exception",.type "BaseException",.type "object"] "ValueError.__new__"=true)
  (xf_Twice:W.typeIn K (.ref f1)=some (.type "function"))
  (xo_Twice:p3 K C6=true)
  (xs_Twice:W.findIn K (.ref C6) "__setattr__"=some (some (.builtin "object.__setattr__")))
  (xh_Twice:W.hasDictIn K C6=true)
  (nt_Twice_one:W.takerIn K C6 "one"=some none)
  (nf_Twice_one:W.findIn K (.ref C6) "one"=some none)
  (nt_Twice_other:W.takerIn K C6 "other"=some none)
  (nf_Twice_other:W.findIn K (.ref C6) "other"=some none)
  (pg_View:W.plainGet K C7 Str.empty=true)
  (hd_View:W.hasDictIn K C7=true)
  (po_View:W.plainOver K C7=true)
  (sa_View:W.findIn K (.ref C7) "__setattr__"=some (some (.builtin "object.__setattr__")))
  (nf_View_axes:W.findIn K (.ref C7) "axes"=some none)
  (nf_View_first:W.findIn K (.ref C7) "first"=some none)
  (nf_View_room:W.findIn K (.ref C7) "room"=some none)
  (fi_View___init__:W.findIn K (.ref C7) "__init__"=some (some (.ref f15)))
  (fn_View___init__:W.isFn K (.ref f15)=true)
  (mm_View:W.makesIn K C7=true)
  (ck_View:W.keepIn K (.ref C7)=true)
  (fi_View_sizes:W.findIn K (.ref C7) "sizes"=some (some (.ref f16)))
  (fn_View_sizes:W.isFn K (.ref f16)=true)
  (fi_View_paces:W.findIn K (.ref C7) "paces"=some (some (.ref f17)))
  (fn_View_paces:W.isFn K (.ref f17)=true)
  (fi_View_count:W.findIn K (.ref C7) "count"=some (some (.ref f18)))
  (fn_View_count:W.isFn K (.ref f18)=true)
  (fi_View_cell:W.findIn K (.ref C7) "cell"=some (some (.ref f19)))
  (fn_View_cell:W.isFn K (.ref f19)=true)
  (fi_View_cells:W.findIn K (.ref C7) "cells"=some (some (.ref f20)))
  (fn_View_cells:W.isFn K (.ref f20)=true)
  (fi_View_least:W.findIn K (.ref C7) "least"=some (some (.ref f21)))
  (fn_View_least:W.isFn K (.ref f21)=true)
  (fi_View_greatest:W.findIn K (.ref C7) "greatest"=some (some (.ref f22)))
  (fn_View_greatest:W.isFn K (.ref f22)=true)
  {tk0:Tok} (w0:W.nsIn K mainGlobals "MOST_TOLD"=some (some (.int 4096 tk0)))
  {tk1:Tok} (w1:W.nsIn K mainGlobals "MOST_ROOM"=some (some (.int 1000000000000000000 tk1)))
  {tk2:Tok} (w2:W.nsIn K mainGlobals "MOST_SIZE"=some (some (.int 1000000000 tk2)))
  {tk3:Tok} (w3:W.nsIn K mainGlobals "MOST_AXES"=some (some (.int 8 tk3)))
  (z0:W.nsIn K mainGlobals "ValueError"=some none)
  (z1:W.nsIn K mainGlobals "all"=some none)
  (z2:W.nsIn K mainGlobals "bool"=some none)
  (z3:W.nsIn K mainGlobals "enumerate"=some none)
  (z4:W.nsIn K mainGlobals "int"=some none)
  (z5:W.nsIn K mainGlobals "isinstance"=some none)
  (z6:W.nsIn K mainGlobals "len"=some none)
  (z7:W.nsIn K mainGlobals "list"=some none)
  (z8:W.nsIn K mainGlobals "max"=some none)
  (z9:W.nsIn K mainGlobals "min"=some none)
  (z10:W.nsIn K mainGlobals "range"=some none)
  (z11:W.nsIn K mainGlobals "reversed"=some none)
  (z12:W.nsIn K mainGlobals "sum"=some none)
  (z13:W.nsIn K mainGlobals "tuple"=some none)
  (z14:W.nsIn K mainGlobals "zip"=some none)
  : ∃ fd:FuncData,(∀ (s:Shared) (v:Value),BindsTo s fd ⟨[v],[]⟩ [("_law_script",v)])/\∀ base:Heap,K.In base->base.Ns mainGlobals mg->cq l.prog w K mg base CX0 10 fa fd ["_law_script"] (si K):=by
 have e:=hfa.symm.trans (Og X G a52);cases e;have F0:=av (st:=aR) l0 c0 k0;have F1:=av (st:=bh) l1 c1 k1;have F2:=av (st:=dA) l2 c2 k2;have F3:=av (st:=dB) l3 c3 k3;have F4:=av (st:=aY) l4 c4 k4;have F5:=av (st:=cS) l5 c5 k5;have F6:=av (st:=bM) l6 c6 k6;have F7:=av (st:=dz) l7 c7 k7;have F8:=av (st:=cc) l8 c8 k8;have F9:=av (st:=eL) l9 c9 k9;have F10:=av (st:=cY) l10 c10 k10;have F11:=av (st:=eE) l11 c11 k11;have F12:=av (st:=eF) l12 c12 k12;have F13:=av (st:=cU) l13 c13 k13;have F14:=av (st:=cX) l14 c14 k14;have F15:=av (st:=bf) l15 c15 k15;have F16:=av (st:=bZ) l16 c16 k16;have F17:=av (st:=b0) l17 c17 k17;have F18:=av (st:=cJ) l18 c18 k18;have F19:=av (st:=df) l19 c19 k19;have F20:=av (st:=cK) l20 c20 k20;have F21:=av (st:=b8) l21 c21 k21;have F22:=av (st:=bc) l22 c22 k22;have F23:=av (st:=dH) l23 c23 k23;have F24:=av (st:=cZ) l24 c24 k24;have F25:=av (st:=bO) l25 c25 k25;have F26:=av (st:=aB) l26 c26 k26;have F27:=av (st:=bN) l27 c27 k27;have F28:=av (st:=aC) l28 c28 k28;have F29:=av (st:=cg) l29 c29 k29;have F30:=av (st:=sj) l30 c30 k30;have F31:=av (st:=bu) l31 c31 k31;have F32:=av (st:=aP) l32 c32 k32;have F33:=av (st:=bo) l33 c33 k33;have F34:=av (st:=bB) l34 c34 k34;have F35:=av (st:=cB) l35 c35 k35;have F36:=av (st:=hZ) l36 c36 k36;have F37:=av (st:=dc) l37 c37 k37;have F38:=av (st:=ck) l38 c38 k38;have F39:=av (st:=cG) l39 c39 k39;have F40:=av (st:=da) l40 c40 k40;have F41:=av (st:=bJ) l41 c41 k41;have F42:=av (st:=bX) l42 c42 k42;have F43:=av (st:=cD) l43 c43 k43;have F44:=av (st:=bY) l44 c44 k44;have F45:=av (st:=dC) l45 c45 k45;have F46:=av (st:=cV) l46 c46 k46;have F47:=av (st:=cC) l47 c47 k47;have F48:=av (st:=cj) l48 c48 k48;have F49:=av (st:=cI) l49 c49 k49;have F50:=av (st:=aK) l50 c50 k50;have F51:=av (st:=cH) l51 c51 k51;have F52:=av (st:=lO) l52 c52 k52;have T:Tx K mg ⟨C0,C1,C2,C3,C4,C5,C6,C7,f0,_,f1,_,f2,_,f3,_,f4,_,f5,_,f6,_,f7,_,f8,_,f9,_,f10,_,f11,_,f12,_,f13,_,f14,_,f15,_,f16,_,f17,_,f18,_,f19,_,f20,_,f21,_,f22,_,f23,_,f24,_,f25,_,f26,_,f27,_,f28,_,f29,_,f30,_,f31,_,f32,_,f33,_,f34,_,f35,_,f36,_,f37,_,f38,_,f39,_,f40,_,f41,_,f42,_,f43,_,f44,_,f45,_,f46,_,f47,_,f48,_,f49,_,f50,_,f51,_,fa,_⟩:=⟨Og X G y0,Og X G y1,Og X G y2,Og X G y3,Og X G y4,Og X G y5,Og X G y6,Og X G y7,⟨_,Og X G w0⟩,⟨_,Og X G w1⟩,⟨_,Og X G w2⟩,⟨_,Og X G w3⟩,⟨xe_TooMany,xf_TooMany,⟨xo_TooMany,xs_TooMany,xh_TooMany⟩⟩,nt_TooMany_number,nf_TooMany_number,⟨bs_PaceError,br_PaceError,bf_PaceError⟩,⟨xe_Twice,xf_Twice,⟨xo_Twice,xs_Twice,xh_Twice⟩⟩,nt_Twice_one,nf_Twice_one,nt_Twice_other,nf_Twice_other,⟨pg_View,hd_View,po_View,sa_View⟩,nf_View_axes,nf_View_first,nf_View_room,⟨mm_View,fi_View___init__,fn_View___init__,ck_View⟩,⟨fi_View_sizes,fn_View_sizes,k16⟩,⟨fi_View_paces,fn_View_paces,k17⟩,⟨fi_View_count,fn_View_count,k18⟩,⟨fi_View_cell,fn_View_cell,k19⟩,⟨fi_View_cells,fn_View_cells,k20⟩,⟨fi_View_least,fn_View_least,k21⟩,⟨fi_View_greatest,fn_View_greatest,k22⟩,F0,F0.binds (ps:=["self", "number"]) (λ _ _ _ _ _ _=>iO (λ _ _=>rfl)),F1,F1.binds (ps:=["self", "one", "other"]) (λ _ _ _ _ _ _=>tX (λ _ _ _=>rfl)),F2,Og X G a2,F2.binds (ps:=["thing"]) (λ _ _ _ _ _ _=>lL (λ _=>rfl)),F3,Og X G a3,F3.binds (ps:=["sizes"]) (λ _ _ _ _ _ _=>lL (λ _=>rfl)),F4,Og X G a4,F4.binds (ps:=["thing", "bound"]) (λ _ _ _ _ _ _=>iO (λ _ _=>rfl)),F5,Og X G a5,F5.binds (ps:=["sizes", "thing"]) (λ _ _ _ _ _ _=>iO (λ _ _=>rfl)),F6,Og X G a6,F6.binds (ps:=["sizes", "number"]) (λ _ _ _ _ _ _=>iO (λ _ _=>rfl)),F7,Og X G a7,F7.binds (ps:=["sizes", "number"]) (λ _ _ _ _ _ _=>iO (λ _ _=>rfl)),F8,Og X G a8,F8.binds (ps:=["count"]) (λ _ _ _ _ _ _=>lL (λ _=>rfl)),F9,Og X G a9,F9.binds (ps:=["sizes"]) (λ _ _ _ _ _ _=>lL (λ _=>rfl)),F10,Og X G a10,F10.binds (ps:=["thing", "low", "high"]) (λ _ _ _ _ _ _=>tX (λ _ _ _=>rfl)),F11,Og X G a11,F11.binds (ps:=["thing"]) (λ _ _ _ _ _ _=>lL (λ _=>rfl)),F12,Og X G a12,F12.binds (ps:=["thing"]) (λ _ _ _ _ _ _=>lL (λ _=>rfl)),F13,Og X G a13,F13.binds (ps:=["thing"]) (λ _ _ _ _ _ _=>lL (λ _=>rfl)),F14,Og X G a14,F14.binds (ps:=["axis"]) (λ _ _ _ _ _ _=>lL (λ _=>rfl)),F15,F15.binds (ps:=["self", "room", "first", "axes"]) (λ _ _ _ _ _ _=>Mn (λ _ _ _ _=>rfl)),F16,F16.binds (ps:=["self"]) (λ _ _ _ _ _ _=>lL (λ _=>rfl)),F17,F17.binds (ps:=["self"]) (λ _ _ _ _ _ _=>lL (λ _=>rfl)),F18,F18.binds (ps:=["self"]) (λ _ _ _ _ _ _=>lL (λ _=>rfl)),F19,F19.binds (ps:=["self", "place"]) (λ _ _ _ _ _ _=>iO (λ _ _=>rfl)),F20,F20.binds (ps:=["self"]) (λ _ _ _ _ _ _=>lL (λ _=>rfl)),F21,F21.binds (ps:=["self"]) (λ _ _ _ _ _ _=>lL (λ _=>rfl)),F22,F22.binds (ps:=["self"]) (λ _ _ _ _ _ _=>lL (λ _=>rfl)),F23,Og X G a23,F23.binds (ps:=["cells", "size", "pace"]) (λ _ _ _ _ _ _=>tX (λ _ _ _=>rfl)),F24,Og X G a24,F24.binds (ps:=["view"]) (λ _ _ _ _ _ _=>lL (λ _=>rfl)),F25,Og X G a25,F25.binds (ps:=["one", "other"]) (λ _ _ _ _ _ _=>iO (λ _ _=>rfl)),F26,Og X G a26,F26.binds (ps:=["to", "source"]) (λ _ _ _ _ _ _=>iO (λ _ _=>rfl)),F27,Og X G a27,F27.binds (ps:=["view"]) (λ _ _ _ _ _ _=>lL (λ _=>rfl)),F28,Og X G a28,F28.binds (ps:=["to", "source", "spots"]) (λ _ _ _ _ _ _=>tX (λ _ _ _=>rfl)),F29,Og X G a29,F29.binds (ps:=["to", "source"]) (λ _ _ _ _ _ _=>iO (λ _ _=>rfl)),F30,Og X G a30,F30.binds (ps:=["pair", "axis"]) (λ _ _ _ _ _ _=>iO (λ _ _=>rfl)),F31,Og X G a31,F31.binds (ps:=["pairs", "many"]) (λ _ _ _ _ _ _=>iO (λ _ _=>rfl)),F32,Og X G a32,F32.binds (ps:=["pairs", "many"]) (λ _ _ _ _ _ _=>iO (λ _ _=>rfl)),F33,Og X G a33,F33.binds (ps:=["to", "source"]) (λ _ _ _ _ _ _=>iO (λ _ _=>rfl)),F34,Og X G a34,F34.binds (ps:=["thing", "sizes", "known"]) (λ _ _ _ _ _ _=>tX (λ _ _ _=>rfl)),F35,Og X G a35,F35.binds (ps:=["pairs", "axis"]) (λ _ _ _ _ _ _=>iO (λ _ _=>rfl)),F36,Og X G a36,F36.binds (ps:=["to", "source", "some"]) (λ _ _ _ _ _ _=>tX (λ _ _ _=>rfl)),F37,Og X G a37,F37.binds (ps:=["_law_script", "_law_k", "_law_many"]) (λ _ _ _ _ _ _=>tX (λ _ _ _=>rfl)),F38,Og X G a38,F38.binds (ps:=["_law_number_here", "_law_by", "_law_many"]) (λ _ _ _ _ _ _=>tX (λ _ _ _=>rfl)),F39,Og X G a39,F39.binds (ps:=["_law_script", "_law_most_here", "_law_wide"]) (λ _ _ _ _ _ _=>tX (λ _ _ _=>rfl)),F40,Og X G a40,F40.binds (ps:=["_law_script", "_law_sizes_here"]) (λ _ _ _ _ _ _=>iO (λ _ _=>rfl)),F41,Og X G a41,F41.binds (ps:=["_law_script", "_law_paces"]) (λ _ _ _ _ _ _=>iO (λ _ _=>rfl)),F42,Og X G a42,F42.binds (ps:=["_law_sizes_here", "_law_paces"]) (λ _ _ _ _ _ _=>iO (λ _ _=>rfl)),F43,Og X G a43,F43.binds (ps:=["_law_sizes_here", "_law_paces"]) (λ _ _ _ _ _ _=>iO (λ _ _=>rfl)),F44,Og X G a44,F44.binds (ps:=["_law_first", "_law_sizes_here", "_law_paces"]) (λ _ _ _ _ _ _=>tX (λ _ _ _=>rfl)),F45,Og X G a45,F45.binds (ps:=["_law_script", "_law_sizes_here"]) (λ _ _ _ _ _ _=>iO (λ _ _=>rfl)),F46,Og X G a46,F46.binds (ps:=["_law_script", "_law_view"]) (λ _ _ _ _ _ _=>iO (λ _ _=>rfl)),F47,Og X G a47,F47.binds (ps:=["_law_sizes_here", "_law_order"]) (λ _ _ _ _ _ _=>iO (λ _ _=>rfl)),F48,Og X G a48,F48.binds (ps:=["_law_sizes_here", "_law_place"]) (λ _ _ _ _ _ _=>iO (λ _ _=>rfl)),F49,Og X G a49,F49.binds (ps:=["_law_sizes_here", "_law_order", "_law_writes", "_law_reads"]) (λ _ _ _ _ _ _=>Mn (λ _ _ _ _=>rfl)),F50,Og X G a50,F50.binds (ps:=["_law_axes"]) (λ _ _ _ _ _ _=>lL (λ _=>rfl)),F51,Og X G a51,F51.binds (ps:=["_law_one", "_law_other", "_law_can"]) (λ _ _ _ _ _ _=>tX (λ _ _ _=>rfl)),F52,Og X G a52,F52.binds (ps:=["_law_script"]) (λ _ _ _ _ _ _=>lL (λ _=>rfl)),OT X G z0,OT X G z1,OT X G z2,OT X G z3,OT X G z4,OT X G z5,OT X G z6,OT X G z7,OT X G z8,OT X G z9,OT X G z10,OT X G z11,OT X G z12,OT X G z13,OT X G z14⟩;exact⟨W.fnOf "law" "law" (ai lO) (ah lO) (aa lO) .none kV52 dc52 pm52 an52 cd52 ct52,λ s v=>.of_eq rfl,λ base _ _=>HE T⟩
theorem Nu{l:W.OpenLaw}{q:Program}{loose:List Str}{XP:(Str->Option Value)->Heap->Prop}{YP:World->Heap->Prop}{d:DefRec}{K:Params->W.Frag}(hn:l.most=some 63)(hdf:d.params.defaults=[])
  (hY:∀ (w:World) (h:Heap),YP w h->(K w.params).In h)
  (F:∀ (w:World) (mg:Str->Option Value) (fa:Addr) (h:Heap),(K w.params).In h->h.Ns mainGlobals mg->mg d.name=some (.ref fa) →
   ∃ fd:FuncData,(∀ (s:Shared) (u:Value),BindsTo s fd ⟨[u],[]⟩ [("_law_script",u)])/\∀ base:Heap,(K w.params).In base->base.Ns mainGlobals mg->cq l.prog w (K w.params) mg base CX0 10 fa fd ["_law_script"] (si (K w.params))) :
  W.WalkO q loose XP YP l.row.toRowW d [] (λ f vs=>PySem.call f vs):=
 L2.LV (n:=63) (k:=10) (x := "_law_script") (CX:=λ _=>CX0) (sp:=λ w=>si (K w.params)) hn ⋯ hdf ⟨rfl,by decide,by decide⟩ hY F (λ _ _ a ns hl _ hS=>⟨a,rfl,ns,hS,hl,λ _=>rfl⟩) λ _ _ _ _ _ z=>z
end PH
namespace PySem.W.Fast
def tw594870235614759480:=0
def tw8512835309545046664:=0
def tw15421213220667884825:=0
def tw10335709450878951550:=0
def tw6859068024586373581:=0
def tw657379356024468199:=0
def tw1419115708217460843:=0
def tw4768659956725356095:=0
def tw8809265754843837387:=0
def tw13483654932144329252:=0
def tw4288813773389327085:=0
def tw17015170906956189978:=0
def tw18237404882341620026:=0
def tw8982942783175024019:=0
def tw16164883617287562920:=0
def tw6562330461806263971:=0
def tw11202481571984338773:=0
def tw17658398014988731495:=0
def tw16081843199068598318:=0
def tw14959879459874619800:=0
def tw17946525351415270249:=0
def tw8277977112543506005:=0
def tw1008735784250069348:=0
def tw16770774787045507022:=0
def tw12756691936078803660:=0
def tw12878222762323614917:=0
def tw17240740125932488683:=0
def tw11175284582691269209:=0
def tw3930215775929165741:=0
def tw5862383699934270120:=0
def tw1074698119619480780:=0
def tw2427132233035445853:=0
def tw18410626939231432168:=0
def tw18062589897914209506:=0
def tw7958811242386842911:=0
def tw1498184526810813716:=0
def tw10631933708874536234:=0
def tw13971883135513266028:=0
def tw11778423119604903636:=0
def tw4682778404155812556:=0
def tw14288947034589752258:=0
def tw3566102402107706255:=0
def tw17736106022925099514:=0
def tw2570666496552128592:=0
def tw10752635438910820750:=0
def tw15800070119498470146:=0
def tw18173232463182225544:=0
def tw14433694169047608598:=0
def tw5366188292895739782:=0
def tw18121772504957279100:=0
def tw4492775260355793080:=0
def tw16686833153179243645:=0
def tw11809199611032015797:=0
def tw17398388537760840572:=0
def tw4648748346549390390:=0
def tw8878671509394870777:=0
def tw13287285582392832762:=0
def tw5474848285327992745:=0
def tw16357063483648833336:=0
def tw12470593309135894215:=0
def tw10381070806556307985:=0
def tw8933210851384555075:=0
def tw120907684451236913:=0
def tw8104763496937497402:=0
def tw9288720735400849969:=0
def tw6320941719633035151:=0
def tw13333743196870386474:=0
def tw14722931779176193471:=0
def tw17002765157221112965:=0
def tw14969985221425772067:=0
def tw977679942339678855:=0
def tw6404883908622358189:=0
def tw5876510751505494652:=0
def tw13371169501826568405:=0
def tw12356447115808704832:=0
def tw5973985551173237382:=0
def tw16200265172654988687:=0
def tw5776084169487969116:=0
def tw15732821775429268140:=0
def tw9583814441826683411:=0
def tw13307768894285999213:=0
def tw3131778695861420631:=0
def tw15447024132777285265:=0
def tw3169260574364142502:=0
def tw17152090569875021998:=0
def tw6467302634129414063:=0
def tw9786925924120469275:=0
def tw10802191431266725918:=0
def tw5596164128826723262:=0
def tw140708804581964419:=0
def tw14211686849760594444:=0
def tw12068158081598946276:=0
def tw9370177672141771325:=0
def tw14295392689755262621:=0
def tw7053695296040577254:=0
def tw9651894782858049564:=0
def tw8597068605962978077:=0
def tw12220132363544392517:=0
def tw13674509455292369969:=0
def tw15044411899199087858:=0
def tw9488186392775771934:=0
def tw6985135673424217240:=0
def tw6053786979331648797:=0
def tw14971780647565488546:=0
def tw2022096067095837633:=0
def tw1018390861344989115:=0
def tw2191183739663392172:=0
def tw2498098246347059004:=0
def tw3984165555220532980:=0
def tw6389890908807286027:=0
def tw15238985578183228852:=0
def tw1119995117921045754:=0
def tw6855963226073205709:=0
def tw10657123846951843951:=0
def tw2235929031771733868:=0
def tw15555761950564163754:=0
def tw4697519193276690556:=0
def tw4484645054385428971:=0
def tw3097185828332166247:=0
def tw3487334403846428215:=0
def tw5691589192940885790:=0
def tw12008173822641945503:=0
def tw9431238034022276787:=0
def tw12846557427271724304:=0
def tw4085948017324823217:=0
def tw11501959558277359687:=0
def tw16657297267805169015:=0
def tw1110202243980884545:=0
def tw11099019151550292226:=0
def tw1967078792495870868:=0
def tw2662416847936497672:=0
def tw5908724541999672515:=0
def tw7532775811290363607:=0
def tw10627033550523772207:=0
def tw14903642351451761368:=0
def tw324298144687205416:=0
def tw659020629913532625:=0
def tw12919723502231485246:=0
def tw8968917492611190712:=0
def tw12417885396355906384:=0
def tw10873222552740263741:=0
def tw4283225117397469910:=0
def tw11117046091012875483:=0
def tw16433680104947323670:=0
def tw306522027239527859:=0
def tw8577571341133430100:=0
def tw17820392488414469602:=0
def tw5681628004442278909:=0
def tw16257741590533304306:=0
def tw11272899944551283569:=0
def tw12017618463872338998:=0
def tw13063736017270084973:=0
def tw16402060965370746715:=0
def tw11670679814731890548:=0
def tw10586291772876670808:=0
def tw10522638435774444225:=0
def tw8090993793900255600:=0
def tw1581227887034958875:=0
def tw8447554243059617661:=0
def tw1920518790592651128:=0
def tw14677093186824649914:=0
def tw17817405011656224917:=0
def tw14637598387378386427:=0
def tw14494201170325877043:=0
def tw10365408997350252955:=0
def tw13028956752981005109:=0
def tw2285273755886016901:=0
def tw4679947489019476227:=0
def tw4198881896189916038:=0
def tw10657576954026376798:=0
def tw4211289730423532448:=0
def tw2967558675800414275:=0
def tw363806737771577821:=0
def tw14404962080352961270:=0
def tw951060730230030538:=0
def tw5509466061620797:=0
def tw17701628384625136348:=0
def tw12489084986252359676:=0
def tw13078345747524984956:=0
def tw11480271581729296938:=0
def tw14982336988245751902:=0
def tw1433390862469973149:=0
def tw517241547441011258:=0
def tw12680429349222304491:=0
def tw16207526646443644421:=0
def tw7924394861252406442:=0
def tw4941052614521580326:=0
def tw6341479414457235264:=0
def tw3640839179266575665:=0
def tw9455337788614049881:=0
def tw10513779399747958716:=0
def tw5654531992473232153:=0
def tw5337172654570681885:=0
def tw8802935568513523759:=0
def tw12137691851286232181:=0
def tw18209289553228785163:=0
def tw9571850924384032236:=0
def tw17090213905637348121:=0
def tw16553629504116761320:=0
def tw13210573894865452835:=0
def tw9305933223610628709:=0
def tw17073678305854586133:=0
def tw12769672340127231697:=0
def tw18136395085176911507:=0
def tw9717816382577190147:=0
def tw15048010741066215804:=0
def tw592136334594344111:=0
def tw16654975763451681115:=0
def tw5299014992066767290:=0
def tw6788066480971598958:=0
def tw6712217779014262896:=0
def tw838130409483414989:=0
def tw1563881842360995578:=0
def tw13200664654103463670:=0
def tw5772422396046743970:=0
def tw14391920619128340138:=0
def tw3503657910963920070:=0
def tw10234013034375502308:=0
def tw16567726345416641417:=0
def tw12568303374624961050:=0
def tw5580476078662655121:=0
def tw7136136792047104667:=0
def tw12117271291218313265:=0
def tw13770249402515967614:=0
def tw12423473149645870436:=0
def tw6856633734692686025:=0
def tw10456411420856196662:=0
def tw11501893022894851757:=0
def tw6711590293469807901:=0
def tw8686870020168684535:=0
def tw3120581922333561670:=0
def tw10556875877423811504:=0
def tw1239033375677349850:=0
def tw477882213636345555:=0
def tw13073667828024965666:=0
def tw862671450826135080:=0
def tw14332153086213190256:=0
def tw11697480913271733504:=0
def tw11991327565619428196:=0
def tw18290184590067970120:=0
def tw5729974719534867407:=0
def tw13339342857023498246:=0
def tw14014805524424703008:=0
def tw5556512810264252131:=0
def tw2674191784104722647:=0
def tw7274472869901477442:=0
def tw6029636842398283727:=0
def tw17247247863813056069:=0
def tw691987313768600309:=0
def tw18056366013547578095:=0
def tw1907817961500710827:=0
def tw6091381245410849066:=0
def tw6092338172486944709:=0
def tw3944297677527124596:=0
def tw7131257539066015684:=0
def tw16162448344422645611:=0
end PySem.W.Fast
open PySem PySem.W PyProof.Rows
theorem PySem.Challenge.cw_pacehall_k76_whole_none_of_all_orders_holds : PySem.Challenge.rw_pacehall_k76_whole_none_of_all_orders.Holds := by
 w_on;o_law;k_head;(case hw=>w_witness2)
 k_fill
 refine PH.Nu (l:=PySem.Challenge.rw_pacehall_k76_whole_none_of_all_orders) rfl rfl (λ w h Y=>PySem.W.kIn_of Y) ?F
 case F=>
  intro w mg fa h KX G hmg
  refine' PH.MW KX G hmg ?y0 ?y1 ?y2 ?y3 ?y4 ?y5 ?y6 ?y7 ?l0 ?c0 ?k0 ?l1 ?c1 ?k1 ?a2 ?l2 ?c2 ?k2 ?a3 ?l3 ?c3 ?k3 ?a4 ?l4 ?c4 ?k4 ?a5 ?l5 ?c5 ?k5 ?a6 ?l6 ?c6 ?k6 ?a7 ?l7 ?c7 ?k7 ?a8 ?l8 ?c8 ?k8 ?a9 ?l9 ?c9 ?k9 ?a10 ?l10 ?c10 ?k10 ?a11 ?l11 ?c11 ?k11 ?a12 ?l12 ?c12 ?k12 ?a13 ?l13 ?c13 ?k13 ?a14 ?l14 ?c14 ?k14 ?l15 ?c15 ?k15 ?l16 ?c16 ?k16 ?l17 ?c17 ?k17 ?l18 ?c18 ?k18 ?l19 ?c19 ?k19 ?l20 ?c20 ?k20 ?l21 ?c21 ?k21 ?l22 ?c22 ?k22 ?a23 ?l23 ?c23 ?k23 ?a24 ?l24 ?c24 ?k24 ?a25 ?l25 ?c25 ?k25 ?a26 ?l26 ?c26 ?k26 ?a27 ?l27 ?c27 ?k27 ?a28 ?l28 ?c28 ?k28 ?a29 ?l29 ?c29 ?k29 ?a30 ?l30 ?c30 ?k30 ?a31 ?l31 ?c31 ?k31 ?a32 ?l32 ?c32 ?k32 ?a33 ?l33 ?c33 ?k33 ?a34 ?l34 ?c34 ?k34 ?a35 ?l35 ?c35 ?k35 ?a36 ?l36 ?c36 ?k36 ?a37 ?l37 ?c37 ?k37 ?a38 ?l38 ?c38 ?k38 ?a39 ?l39 ?c39 ?k39 ?a40 ?l40 ?c40 ?k40 ?a41 ?l41 ?c41 ?k41 ?a42 ?l42 ?c42 ?k42 ?a43 ?l43 ?c43 ?k43 ?a44 ?l44 ?c44 ?k44 ?a45 ?l45 ?c45 ?k45 ?a46 ?l46 ?c46 ?k46 ?a47 ?l47 ?c47 ?k47 ?a48 ?l48 ?c48 ?k48 ?a49 ?l49 ?c49 ?k49 ?a50 ?l50 ?c50 ?k50 ?a51 ?l51 ?c51 ?k51 ?a52 ?l52 ?c52 ?k52 ?fi_TooMany ?xe_TooMany ?xf_TooMany ?xo_TooMany ?xs_TooMany ?xh_TooMany ?nt_TooMany_number ?nf_TooMany_number ?bs_PaceError ?br_PaceError ?bf_PaceError ?fi_Twice ?xe_Twice ?xf_Twice ?xo_Twice ?xs_Twice ?xh_Twice ?nt_Twice_one ?nf_Twice_one ?nt_Twice_other ?nf_Twice_other ?pg_View ?hd_View ?po_View ?sa_View ?nf_View_axes ?nf_View_first ?nf_View_room ?fi_View___init__ ?fn_View___init__ ?mm_View ?ck_View ?fi_View_sizes ?fn_View_sizes ?fi_View_paces ?fn_View_paces ?fi_View_count ?fn_View_count ?fi_View_cell ?fn_View_cell ?fi_View_cells ?fn_View_cells ?fi_View_least ?fn_View_least ?fi_View_greatest ?fn_View_greatest ?w0 ?w1 ?w2 ?w3 ?z0 ?z1 ?z2 ?z3 ?z4 ?z5 ?z6 ?z7 ?z8 ?z9 ?z10 ?z11 ?z12 ?z13 ?z14
  (case y0|y1|y2|y3|y4|y5|y6|y7|fi_TooMany|fi_Twice|fi_View___init__|fi_View_sizes=>first|k_is|k_exc|kts_exm|decide|rfl|decide +kernel|kernel_rfl)
  (case fi_View_paces|fi_View_count|fi_View_cell|fi_View_cells|fi_View_least|fi_View_greatest|l0|c0|k0|l1|c1|k1=>first|k_is|k_exc|kts_exm|decide|rfl|decide +kernel|kernel_rfl)
  (case a2|l2|c2|k2|a3|l3|c3|k3|a4|l4|c4|k4=>first|k_is|k_exc|kts_exm|decide|rfl|decide +kernel|kernel_rfl)
  (case a5|l5|c5|k5|a6|l6|c6|k6|a7|l7|c7|k7=>first|k_is|k_exc|kts_exm|decide|rfl|decide +kernel|kernel_rfl)
  (case a8|l8|c8|k8|a9|l9|c9|k9|a10|l10|c10|k10=>first|k_is|k_exc|kts_exm|decide|rfl|decide +kernel|kernel_rfl)
  (case a11|l11|c11|k11|a12|l12|c12|k12|a13|l13|c13|k13=>first|k_is|k_exc|kts_exm|decide|rfl|decide +kernel|kernel_rfl)
  (case a14|l14|c14|k14|l15|c15|k15|l16|c16|k16|l17|c17=>first|k_is|k_exc|kts_exm|decide|rfl|decide +kernel|kernel_rfl)
  (case k17|l18|c18|k18|l19|c19|k19|l20|c20|k20|l21|c21=>first|k_is|k_exc|kts_exm|decide|rfl|decide +kernel|kernel_rfl)
  (case k21|l22|c22|k22|a23|l23|c23|k23|a24|l24|c24|k24=>first|k_is|k_exc|kts_exm|decide|rfl|decide +kernel|kernel_rfl)
  (case a25|l25|c25|k25|a26|l26|c26|k26|a27|l27|c27|k27=>first|k_is|k_exc|kts_exm|decide|rfl|decide +kernel|kernel_rfl)
  (case a28|l28|c28|k28|a29|l29|c29|k29|a30|l30|c30|k30=>first|k_is|k_exc|kts_exm|decide|rfl|decide +kernel|kernel_rfl)
  (case a31|l31|c31|k31|a32|l32|c32|k32|a33|l33|c33|k33=>first|k_is|k_exc|kts_exm|decide|rfl|decide +kernel|kernel_rfl)
  (case a34|l34|c34|k34|a35|l35|c35|k35|a36|l36|c36|k36=>first|k_is|k_exc|kts_exm|decide|rfl|decide +kernel|kernel_rfl)
  (case a37|l37|c37|k37|a38|l38|c38|k38|a39|l39|c39|k39=>first|k_is|k_exc|kts_exm|decide|rfl|decide +kernel|kernel_rfl)
  (case a40|l40|c40|k40|a41|l41|c41|k41|a42|l42|c42|k42=>first|k_is|k_exc|kts_exm|decide|rfl|decide +kernel|kernel_rfl)
  (case a43|l43|c43|k43|a44|l44|c44|k44|a45|l45|c45|k45=>first|k_is|k_exc|kts_exm|decide|rfl|decide +kernel|kernel_rfl)
  (case a46|l46|c46|k46|a47|l47|c47|k47|a48|l48|c48|k48=>first|k_is|k_exc|kts_exm|decide|rfl|decide +kernel|kernel_rfl)
  (case a49|l49|c49|k49|a50|l50|c50|k50|a51|l51|c51|k51=>first|k_is|k_exc|kts_exm|decide|rfl|decide +kernel|kernel_rfl)
  (case a52|l52|c52|k52|xe_TooMany|xf_TooMany|xo_TooMany|xs_TooMany|xh_TooMany|nt_TooMany_number|nf_TooMany_number|bs_PaceError=>first|k_is|k_exc|kts_exm|decide|rfl|decide +kernel|kernel_rfl)
  (case br_PaceError|bf_PaceError|xe_Twice|xf_Twice|xo_Twice|xs_Twice|xh_Twice|nt_Twice_one|nf_Twice_one|nt_Twice_other|nf_Twice_other|pg_View=>first|k_is|k_exc|kts_exm|decide|rfl|decide +kernel|kernel_rfl)
  (case hd_View|po_View|sa_View|nf_View_axes|nf_View_first|nf_View_room|fn_View___init__|mm_View|ck_View|fn_View_sizes|fn_View_paces|fn_View_count=>first|k_is|k_exc|kts_exm|decide|rfl|decide +kernel|kernel_rfl)
  (case fn_View_cell|fn_View_cells|fn_View_least|fn_View_greatest|w0|w1|w2|w3|z0|z1|z2|z3=>first|k_is|k_exc|kts_exm|decide|rfl|decide +kernel|kernel_rfl)
  (case z4|z5|z6|z7|z8|z9|z10|z11|z12|z13|z14=>first|k_is|k_exc|kts_exm|decide|rfl|decide +kernel|kernel_rfl)
#print axioms PySem.Challenge.cw_pacehall_k76_whole_none_of_all_orders_holds