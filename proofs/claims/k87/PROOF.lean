import PyProof.Rows.All
import Wide.All
import OpenK.AllK
import Wide.FinOn
import Lean
import PyProof.EqAt
import PyProof.EqKinds
import PyProof.TupleCall
import PySem.Challenge.RW_pacehall_k87_whole_halls_back
set_option Elab.async false
set_option linter.all false
set_option maxRecDepth 100000
set_option maxHeartbeats 0
open List (mem_cons_self mem_cons_of_mem mem_append_right length_cons map_cons length_map append_nil of_mem_zip length_take getElem?_append_right getElem?_append_left getElem?_map mem_of_getElem? length_append size_toArray map_nil length_set any_cons replicate_succ foldl_cons length_reverse find?_cons getElem_mem getElem?_eq_getElem forIn_cons lookup_cons mem_cons not_mem_nil take_length all_eq_true getElem_of_mem nodup_cons nodup_nil getElem?_eq_none length_zip getElem?_reverse length_range any_eq_true take_add_one map_append map_map getD_eq_getElem?_getD map_reverse)
namespace QL
def My:=@PySem.wpAny_bind
def RD:=@PySem.Heap.get?_push_of_some
def RE:=@List.getElem?_eq_getElem
def RF:=@PySem.Heap.lt_size
def RG:=@List.getElem?_eq_some_iff
def RH:=@List.length_map
def RI:=@PySem.wpAny_pure
def RJ:=@Nat.le_refl
def RK:=@PySem.Heap.get?_push_size
def RL:=@Option.map_eq_some_iff
def RM:=@Bool.false_ne_true
def RN:=@List.getElem?_map
def RO:=@Ne.symm
def RP:=@List.mem_singleton
def RQ:=@if_neg
def RS:=@List.not_mem_nil
def RT:=@Nat.ne_of_lt
def RU:=@List.mem_cons_of_mem
def RV:=@Nat.lt_of_lt_of_le
def RW:=@List.mem_map
def RX:=@if_pos
def RY:=@List.size_toArray
def RZ:=@List.mem_cons
def R0:=@PySem.F.plainAttrs_list
def R3:=@List.length_append
def R4:=@PySem.W.mg_of
def R5:=@List.mem_cons_self
def R6:=@decide_eq_false
def R7:=@decide_eq_true
def R8:=@PySem.Heap.get?_update_self
def R9:=@PySem.PassesOwn.never
def Sa:=@List.mem_of_getElem?
def Sb:=@or_false
def Sd:=@PySem.Heap.get?_update_other
def Se:=@PySem.wpAny_field
def Sf:=@List.length_reverse
def Sg:=@PyProof.Rows.callWith_type1
def Sh:=@PySem.F.type_list_append
def Si:=@PySem.F.slot_list_append
def Sj:=@Nat.le_trans
def Sk:=@Int.toNat_natCast
def Sl:=@PySem.W.mg_none_of
def Sm:=@List.map_cons
def So:=@Nat.ne_of_gt
def Sq:=@List.getElem?_eq_none
def Sr:=@List.length_range
def Ss:=@Option.some.inj
def Su:=@PyProof.Rows.slot_tuple_getitem
def Sv:=@List.map_map
def Sw:=@List.getElem?_append_right
def Sx:=@List.getD_eq_getElem?_getD
def Sy:=@Array.getElem?_eq_some_iff
def Sz:=@PySem.Heap.size_push
def SA:=@PySem.wpAny_callSpecial?_slot
def SD:=@List.mem_append
def SE:=@Nat.lt_irrefl
def SF:=@Nat.zero_le
def SG:=@List.mem_append_right
def SH:=@List.mem_range
def SI:=@Int.emod_nonneg
def SJ:=@Int.emod_lt_of_pos
def SK:=@PySem.wpAny_seqItems
def SN:=@List.getElem?_append_left
def SO:=@List.take_length
def SQ:=@PySem.wpAny_truthy_bool
def SR:=@Nat.le_add_right
def SS:=@PySem.wpAny_Call_Name_kw
def SU:=@PySem.wpAny_holding
def SV:=@PySem.wpAny_newObj_type
def SW:=@List.length_take
def SX:=@Nat.le_succ
def SY:=@List.nodup_cons
def S0:=@PySem.wpAny_call_entry
def S1:=@List.take_add_one
def S2:=@PySem.wpAny_setField_rec
def S3:=@PySem.Obj.isFreed_of_fields
def S4:=@List.length_cons
def S5:=@List.length_eq_zero_iff
def S6:=@Int.eq_ofNat_of_zero_le
def S7:=@List.map_append
def S8:=@PySem.F.slot_zip_next
def S9:=@Bool.and_eq_true
def Ta:=@List.take_of_length_le
def Tb:=@List.getElem?_reverse
def Tc:=@List.replicate_succ
def Td:=@List.length_replicate
def Te:=@Int.mul_comm
def Tf:=@congrArg
def Tg:=@PySem.Obj.data_mapFields
def Th:=@List.lookup_cons
def Ti:=@PySem.wpAny_updateSeq
def Tj:=@PySem.wpAny_passesOwn
def Tn:=@PySem.F.plain_extend_loop
def To:=@Array.getElem?_eq_getElem
def Tp:=@Nat.lt_succ_self
def Tq:=@beq_eq_false_iff_ne
def Tr:=@PySem.mem_of_lookup
def Ts:=@List.getElem?_range
def Tt:=@Array.length_toList
def Tu:=@Option.isSome_iff_exists
def Tv:=@List.mem_of_mem_eraseIdx
def Tw:=@PySem.F.slot_tuple_iterator_next
def Tz:=@PySem.Heap.get?_none_of_le
def TB:=@List.getElem_of_mem
def TC:=@Option.map_some
def TF:=@List.getElem?_replicate
def TH:=@List.eraseIdx_cons_succ
def TJ:=@Bool.false_eq_true
def TK:=@Bool.eq_iff_iff
def TL:=@List.map_reverse
def TM:=@List.length_zip
def TN:=@PySem.Heap.SameBut.update
def TQ:=@PySem.codeAny_mono
def TR:=@List.zipWith_cons_cons
def TU:=@List.getElem?_set_self
def TV:=@not_false_eq_true
def TX:=@List.ext_getElem?
def TY:=@Int.mul_le_mul
def TZ:=@PySem.W.kia_one
def T1:=@PySem.F.type_list_pop
def T3:=@PySem.F.slot_list_pop
def T4:=@Nat.le_of_lt
def T5:=@List.eq_nil_of_length_eq_zero
def T6:=@not_or
def T7:=@List.getElem_mem
def T8:=@List.mem_of_mem_take
def T9:=@List.mem_append_left
def Ua:=@PySem.wpAny_pyIter_list
def Ub:=@List.dropLast_concat_getLast
def Uc:=@PySem.wpAny_setField
def Ud:=@List.filterMap_cons
def Ue:=@Int.toNat_of_nonneg
def Ug:=@if_false
def Uh:=@Nat.lt_trans
def Ui:=@Nat.le_of_eq
def Uj:=@Int.zero_add
def Uk:=@List.foldl_cons
def Ul:=@PySem.Paired.length
def Um:=@List.getElem?_zip_eq_some
def Uo:=@Bool.false_and
def Up:=@PySem.wpAny_mono
def Uq:=@List.any_eq_true
def Ur:=@List.all_eq_true
def Us:=@PySem.wpAny_execs_nil
def Ut:=@beq_iff_eq
def Uu:=@PySem.F.args_tuple_add_2
def Uv:=@List.flatten_cons
def Uw:=@Sum.inr.inj
def Ux:=@PySem.F.entry_tuple_add
def Uy:=@PySem.wpAny_typeOf
def Uz:=@PySem.tupleKind_room_in1
def UA:=@decide_eq_decide
def UB:=@List.mem_reverse
def UC:=@PySem.F.slot_tuple_add
def UD:=@List.drop_of_length_le
def UE:=@List.nodup_nil
def UG:=@List.find?_cons
def UH:=@List.append_nil
def UI:=@PySem.call_meets
def UJ:=@Nat.succ.inj
def UK:=@List.mem_filter
def UL:=@List.length_filter_le
def UM:=@List.eraseIdx_sublist
def UN:=@List.cons.injEq
def UO:=@PySem.F.args_zip_next_1
def UP:=@List.any_cons
def UQ:=@Nat.mul_le_mul_right
def UR:=@List.getElem?_set_ne
def US:=@List.forIn_nil
def UT:=@PySem.Heap.size_update
def UU:=@PySem.F.entry_zip_next
def UW:=@PySem.wpAny_specialOf
def UX:=@List.of_mem_zip
def UY:=@List.length_set
def UZ:=@List.forIn_cons
def U0:=@PySem.W.methodCall_KW
def U1:=@PySem.wpAny_rule
def U2:=@PySem.wpAny_updateSeq_pair
def U3:=@if_true
def U4:=@Option.isSome_map
def U5:=@List.reverse_cons
def U6:=@List.foldl_append
def U7:=@List.eraseIdxIfInBounds_toArray
def U8:=@List.any_eq_false
def U9:=@Array.getElem?_setIfInBounds_ne
def Va:=@List.map_nil
def Vb:=@PySem.wpAny_comprehension_free
def Vc:=@Int.mul_le_mul_of_nonneg_right
def Vd:=@PySem.wpAny_letGo
def Ve:=@beq_self_eq_true
def Vf:=@Nat.le_of_not_lt
def Vg:=@List.sum_reverse
def Vh:=@List.length_tail
def Vi:=@List.length_drop
def Vj:=@PySem.wpAny_onRaise
def Vk:=@PySem.wpAny_attempt
def Vl:=@PySem.W.callWith_K0
def Vm:=@List.sum_append
def Vn:=@List.range_succ
def Vo:=@List.length_nil
def Vp:=@Int.natCast_mul
def Vq:=@PySem.Calls.spliced_cons
end QL
open QL
namespace L2
open PySem PySem.Spec PyProof.Rows
abbrev Key:=Sum Int Str
def sL:Key->Value->Bool
 | .inl k,v=>Value.isInt k v
 | .inr x,v=>Value.isStrOf x v
def Rl(w:World):Key->Int
 | .inl k=>hashInt k
 | .inr x=>hashStr w x
def bb:∀ {k:Key}{v:Value},sL k v=true->(∃ i t,k=Sum.inl i/\v=Value.int i t)\/(∃ x t,k=Sum.inr x/\v=Value.str x t)
 | .inl i,v,h=>by
  obtain⟨t,e⟩:=Value.isInt_shape (k:=i) (v:=v) h;exact .inl ⟨i,t,rfl,e⟩
 | .inr x,v,h=>by
  obtain⟨t,e⟩:=Value.isStrOf_shape (x:=x) (v:=v) h;exact .inr ⟨x,t,rfl,e⟩
def BV(i:Int)(t:Tok):sL (.inl i) (.int i t)=true:=by simp [sL,Value.isInt]
def BU(x:Str)(t:Tok):sL (.inr x) (.str x t)=true:=by simp [sL,Value.isStrOf]
def Nm(a b:Int):decide ((Sum.inl a:Key)=Sum.inl b)=(a == b):=by
 by_cases e:a=b
 ·subst e;simp
 ·have h:¬ (Sum.inl a:Key)=Sum.inl b:=λ q=>e (Sum.inl.inj q);rw [R6 h];exact(Tq.mpr e).symm
def Nj(a b:Str):decide ((Sum.inr a:Key)=Sum.inr b)=decide (a=b):=by
 by_cases e:a=b
 ·subst e;simp
 ·have h:¬ (Sum.inr a:Key)=Sum.inr b:=λ q=>e (Uw q);rw [R6 h,R6 e]
def Nl(a:Int)(b:Str):decide ((Sum.inl a:Key)=Sum.inr b)=false:=R6 (λ q=>nomatch q)
def Nk(a:Str)(b:Int):decide ((Sum.inr a:Key)=Sum.inl b)=false:=R6 (λ q=>nomatch q)
def aY(prog:Program)(w:World):PySem.KeyKind prog w Key where
 is:=sL
 hash:=Rl w
 inj:=λ v a b ha hb=>by
  rcases bb ha with ⟨i,t,rfl,rfl⟩|⟨x,t,rfl,rfl⟩
  ·rcases bb hb with ⟨j,u,rfl,e⟩|⟨y,u,rfl,e⟩
   ·injection e with e1 _;rw [e1]
   ·exact nomatch e
  ·rcases bb hb with ⟨j,u,rfl,e⟩|⟨y,u,rfl,e⟩
   ·exact nomatch e
   ·injection e with e1 _;rw [e1]
 byValue:=λ k v h=>by
  rcases bb h with ⟨i,t,rfl,rfl⟩|⟨x,t,rfl,rfl⟩<;>rfl
 pyHash:=λ hv h=>by
  rcases bb hv with ⟨i,t,rfl,rfl⟩|⟨x,t,rfl,rfl⟩
  ·exact wpAny_pyHash_int h
  ·exact wpAny_pyHash_str h
 eqBool:=λ hu hv h=>by
  rcases bb hu with ⟨i,t,rfl,rfl⟩|⟨x,t,rfl,rfl⟩
  ·rcases bb hv with ⟨j,u,rfl,rfl⟩|⟨y,u,rfl,rfl⟩
   ·rw [Nm] at h;exact wpAny_eqBool_int h
   ·rw [Nl] at h;exact SeqAt.EqAt.int_str i t y u _ _ _ _ h
  ·rcases bb hv with ⟨j,u,rfl,rfl⟩|⟨y,u,rfl,rfl⟩
   ·rw [Nk] at h;exact SeqAt.EqAt.str_int x t j u _ _ _ _ h
   ·rw [Nj] at h;exact wpAny_eqBool_str h
 «strs»:=λ k x t v h=>by
  rcases bb h with ⟨i,u,rfl,e⟩|⟨y,u,rfl,e⟩
  ·exact nomatch e
  ·injection e with e1 _
   subst e1
   cases v<;>rfl
def uz(prog:Program)(w:World)(i:Int)(t:Tok):(aY prog w).is (.inl i) (.int i t)=true:=BV i t
def uy(prog:Program)(w:World)(x:Str)(t:Tok):(aY prog w).is (.inr x) (.str x t)=true:=BU x t
inductive V where
 | non|bl (b:Bool)|int (i:Int)|str (x:Str)|byt (b:Array UInt8)|flt (b:UInt64)|ref (a:Addr)|ty (n:String)
 deriving DecidableEq
def bD:V->Value->Prop
 | .non,u=>u=Value.none
 | .bl b,u=>u=Value.bool b
 | .int i,u=>∃ t,u=Value.int i t
 | .str x,u=>∃ t,u=Value.str x t
 | .byt b,u=>∃ t,u=Value.bytes b t
 | .flt b,u=>∃ t,u=Value.float b t
 | .ref a,u=>u=Value.ref a
 | .ty n,u=>u=Value.type n
abbrev aW:List V->List Value->Prop:=Paired bD
def aW.length{xs:List V}{us:List Value}(r:aW xs us):xs.length=us.length:=Ul r
def aW.get:∀ {xs:List V}{us:List Value}{i:Nat}{x:V},aW xs us->xs[i]? = some x->∃ u,us[i]? = some u/\bD x u
 | _,_,_,_,.nil,e=>by simp at e
 | _,_,0,_,.cons r _,e=>by simp at e;subst e;exact⟨_,rfl,r⟩
 | _,_,i+1,x,.cons _ t,e=>by
  obtain⟨u,h1,h2⟩:=aW.get (i:=i) (x:=x) t (by simpa using e);exact⟨u,by simpa using h1,h2⟩
def aW.set{x:V}{u:Value}(r:bD x u):∀ {xs:List V}{us:List Value}(i:Nat),aW xs us->aW (xs.set i x) (us.set i u)
 | _,_,_,.nil=>.nil
 | _,_,0,.cons _ t=>.cons r t
 | _,_,i+1,.cons q t=>.cons q (aW.set r i t)
def aW.append:∀ {xs ys:List V}{us ws:List Value},aW xs us->aW ys ws->aW (xs++ys) (us++ws)
 | _,_,_,_,.nil,s=>s
 | _,_,_,_,.cons r t,s=>.cons r (aW.append t s)
def aW.take:∀ {xs:List V}{us:List Value}(n:Nat),aW xs us->aW (xs.take n) (us.take n)
 | _,_,0,_=>.nil
 | _,_,_+1,.nil=>.nil
 | _,_,n+1,.cons r t=>.cons r (aW.take n t)
def aW.drop:∀ {xs:List V}{us:List Value}(n:Nat),aW xs us->aW (xs.drop n) (us.drop n)
 | _,_,0,r=>r
 | _,_,_+1,.nil=>.nil
 | _,_,n+1,.cons _ t=>aW.drop n t
def pT:Option V->Option Value->Prop
 | some v,some u=>bD v u
 | none,none=>True
 | _,_=>False
def KV{κ:Type}:List (κ × V)->List (κ × Value)->Prop:=Paired λ (p:κ × V) (q:κ × Value)=>p.1=q.1/\bD p.2 q.2
def kV:Key->V
 | .inl i=>.int i
 | .inr x=>.str x
inductive HO where
 | lst (xs:List V)
 | tup (xs:List V)
 | dK (kvs:List (Key × V))|dT (kvs:List (List Key × V))
 | set (S:Int->Bool) (n:Nat)
 | ins (C dx:Addr) (fs:List (Str × V))
 | own (x:Addr)
 | xd (fs:List (Str × V))
 | met (f x:Addr)
 | rng (lo hi:Int)
 | frz (o:Obj) (u:HO)
 | tbl (ps:Array Value)
 | ext (φ:Heap->Prop)
abbrev Hp:=Addr->Option HO
def upd(H:Hp)(a:Addr)(o:HO):Hp:=λ b=>if b=a then some o else H b
def ai{H:Hp}{a:Addr}{o:HO}:upd H a o a=some o:=by unfold upd;rw [if_pos rfl]
def ah{H:Hp}{a b:Addr}{o:HO}(h:b ≠ a):upd H a o b=H b:=by unfold upd;rw [if_neg h]
def GP{H:Hp}{a:Addr}{o u:HO}:upd (upd H a o) a u=upd H a u:=by
 funext b;unfold upd;split<;>rfl
def O5{H:Hp}{a b:Addr}{o u:HO}(h:H a=some o)(h':H b=some u)(d:o ≠ u):a ≠ b:=by
 intro e;subst e;rw [h] at h';exact d (Ss h')
def b7{H:Hp}{a b:Addr}{o:HO}(h:H a=some o)(h':H b=none):a ≠ b:=by
 intro e;subst e;rw [h] at h';cases h'
section
variable (P:Program)(w:World)
def bw(H:Hp)(h:Heap)(a:Addr):HO->Prop
 | .lst xs=>xs.length<=sizeLine/\∃ (its:List Value) (n:Nat),aW xs its/\h.get? a=some { cls:=.type "list",data:=.seq its.toArray n }
 | .tup xs=>xs.length<=sizeLine/\∃ its:List Value,aW xs its/\IsTup h a its.toArray
 | .dK kvs=>kvs.length<=sizeLine/\(a == sysModules)=false/\∃ vs,KV kvs vs/\h.DictOf (aY P w) a vs
 | .dT kvs=>kvs.length<=sizeLine/\(a == sysModules)=false/\∃ xs:List (List Key × Addr × Value),
   Paired (λ (p:List Key × V) (q:List Key × Addr × Value)=>p.1=q.1/\H q.2.1=some (.tup (p.1.map kV))/\bD p.2 q.2.2) kvs xs /\
   ∃ o es ep,h.get? a=some o/\o.ExactDict/\o.data=.dict es ep/\es.toList=xs.map (entryOfKey (tupleKind (aY P w)))/\(xs.map (·.1)).Nodup
 | .set S n=>h.SetOf (intKind P w) a S n
 | .ins C dx fs=>H dx=some (.own a)/\fs.length<=1000/\dx ≠ a/\h.get? a=some (W.instObj C dx) /\
   ∃ mA,h.Ns1 dx mA/\(∀ f,pT (fs.lookup f) (mA f))/\PySem.Within mA (fs.map (·.1))
 | .own _=>∃ o,h.get? a=some o
 | .xd fs=>∃ mA,h.Ns1 a mA/\∀ f,pT (fs.lookup f) (mA f)
 | .rng lo hi=>∃ t u v,h.get? a=some { cls:=.type "range",data:=.fields #[.int lo t,.int hi u,.int 1 v] }
 | .frz o u=>h.get? a=some o/\bw H h a u
 | .tbl ps=>h.get? a=some { cls:=.none,data:=.fields ps }
 | .met f x=>h.get? a=some (W.methodObj (.ref f) (.ref x))
 | .ext φ=>φ h/\(∃ o,h.get? a=some o)/\∀ h1 h2:Heap,φ h1->(∀ o,h1.get? a=some o->h2.get? a=some o)->φ h2
def HOk(H:Hp)(h:Heap):Prop:=∀ a o,H a=some o->bw P w H h a o
end
section
variable {P:Program}{w:World}{H H':Hp}{h h':Heap}{a:Addr}{o:HO}
def bw.lt(x:bw P w H h a o):a < h.objs.size:=by
 cases o with
 | lst xs=>obtain⟨_,_,_,_,e⟩:=x;exact RF e
 | tup xs=>obtain⟨_,_,_,p⟩:=x;exact p.lt
 | dK kvs=>obtain⟨_,_,_,_,o,_,_,e,_⟩:=x;exact RF e
 | dT kvs=>obtain⟨_,_,_,_,o,_,_,e,_⟩:=x;exact RF e
 | set S n=>obtain⟨o,_,_,_,e,_⟩:=x;exact RF e
 | ins C dx fs=>obtain⟨_,_,_,e,_⟩:=x;exact RF e
 | own y=>obtain⟨_,e⟩:=x;exact RF e
 | xd fs=>obtain⟨_,⟨_,_,_,e,_⟩,_⟩:=x;exact RF e
 | rng lo hi=>obtain⟨_,_,_,e⟩:=x;exact RF e
 | frz ob u=>obtain⟨e,_⟩:=x;exact RF e
 | tbl ps=>exact RF (show h.get? a=some _ from x)
 | met f y=>exact RF (show h.get? a=some _ from x)
 | ext φ=>obtain⟨_,⟨_,e⟩,_⟩:=x;exact RF e
def Paired.mapP{α β:Type}{F G:α->β->Prop}:∀ {l₁:List α}{l₂:List β},Paired F l₁ l₂->(∀ a b,F a b->G a b)->Paired G l₁ l₂
 | _,_,.nil,_=>.nil
 | _,_,.cons r t,f=>.cons (f _ _ r) (Paired.mapP t f)
def bw.stay(x:bw P w H h a o)(k:∀ b u,(b=a\/H b=some (.own a))->h.get? b=some u->h'.get? b=some u)
  (ho:∀ b,H b=some (.own a)->H' b=some (.own a)) (ht:∀ b xs,H b=some (.tup xs)->H' b=some (.tup xs)):bw P w H' h' a o:=by
 induction o with
 | lst xs=>obtain⟨z,its,n,r,e⟩:=x;exact⟨z,its,n,r,k _ _ (.inl rfl) e⟩
 | tup xs=>obtain⟨z,its,r,ob,e,c⟩:=x;exact⟨z,its,r,ob,k _ _ (.inl rfl) e,c⟩
 | dK kvs=>obtain⟨z,y,vs,r,ob,es,ep,e,c⟩:=x;exact⟨z,y,vs,r,ob,es,ep,k _ _ (.inl rfl) e,c⟩
 | dT kvs=>
  obtain⟨z,y,xs,r,ob,es,ep,e,c⟩:=x;exact⟨z,y,xs,Paired.mapP r λ p q z=>⟨z.1,ht _ _ z.2.1,z.2.2⟩,ob,es,ep,k _ _ (.inl rfl) e,c⟩
 | set S n=>obtain⟨ob,es,ep,t,e,c⟩:=x;exact⟨ob,es,ep,t,k _ _ (.inl rfl) e,c⟩
 | ins C dx fs=>
  obtain⟨d,z,ne,e,mA,⟨od,es,ep,e2,c⟩,r⟩:=x;exact⟨ho _ d,z,ne,k _ _ (.inl rfl) e,mA,⟨od,es,ep,k _ _ (.inr d) e2,c⟩,r⟩
 | own y=>obtain⟨ob,e⟩:=x;exact⟨ob,k _ _ (.inl rfl) e⟩
 | xd fs=>obtain⟨mA,⟨od,es,ep,e,c⟩,r⟩:=x;exact⟨mA,⟨od,es,ep,k _ _ (.inl rfl) e,c⟩,r⟩
 | rng lo hi=>obtain⟨t,u,v,e⟩:=x;exact⟨t,u,v,k _ _ (.inl rfl) e⟩
 | frz ob u ih=>obtain⟨e,q⟩:=x;exact⟨k _ _ (.inl rfl) e,ih q⟩
 | tbl ps=>
  have e:h.get? a=some { cls:=.none,data:=.fields ps }:=x
  show h'.get? a=some { cls:=.none,data:=.fields ps }
  exact k a _ (.inl rfl) e
 | met f y=>
  have e:h.get? a=some (W.methodObj (.ref f) (.ref y)):=x
  show h'.get? a=some (W.methodObj (.ref f) (.ref y))
  exact k a _ (.inl rfl) e
 | ext φ=>obtain⟨p,⟨o,e⟩,st⟩:=x;exact⟨st _ _ p λ o q=>k _ _ (.inl rfl) q,⟨o,k _ _ (.inl rfl) e⟩,st⟩
def HOk.lt(x:HOk P w H h)(e:H a=some o):a < h.objs.size:=(x a o e).lt
def HOk.fresh(x:HOk P w H h)(e:h.objs.size<=a):H a=none:=by
 cases q:H a with
 | none=>rfl
 | some u=>exact absurd (RV (x.lt q) e) (SE _)
def HOk.kept(x:HOk P w H h)(k:∀ b u,h.get? b=some u->h'.get? b=some u):HOk P w H h':=λ a o e=>
 (x a o e).stay (λ b u _ q=>k b u q) (λ _ q=>q) λ _ _ q=>q
def HOk.laid(x:HOk P w H h)(k:∀ b u,h.get? b=some u->h'.get? b=some u)(hp:h.objs.size<=a)(new:bw P w (upd H a o) h' a o):HOk P w (upd H a o) h':=λ b u e=>by
 have hn:=x.fresh hp
 by_cases hb:b=a
 ·subst hb;rw [ai] at e;cases e;exact new
 ·rw [ah hb] at e;exact(x b u e).stay (λ c v _ q=>k c v q) (λ c q=>by rw [ah (b7 q hn)];exact q) λ c xs q=>by rw [ah (b7 q hn)];exact q
end
def Rd(H:Hp)(a:Addr)(u:HO):Prop:=H a=some u\/∃ o,H a=some (.frz o u)
def Rd.ok{P:Program}{w:World}{H:Hp}{h:Heap}{a:Addr}{u:HO}(r:Rd H a u)(x:HOk P w H h):bw P w H h a u:=by
 rcases r with r|⟨o,r⟩
 ·exact x a u r
 ·obtain⟨_,q⟩:=x a _ r;exact q
def Mut:Option HO->Prop
 | some (.lst _)=>True
 | some (.dK _)=>True
 | some (.dT _)=>True
 | some (.set _ _)=>True
 | some (.ins _ _ _)=>True
 | some (.ext _)=>True
 | _=>False
section
variable {P:Program}{w:World}{H:Hp}{h h':Heap}{x e:Addr}{o':HO}
def HOk.write(ok:HOk P w H h)(mu:Mut (H x))(he:e=x\/H e=some (.own x))(k:∀ b u,b ≠ e->h.get? b=some u->h'.get? b=some u)(a3:∃ u,h'.get? e=some u)
  (new:bw P w (upd H x o') h' x o'):HOk P w (upd H x o') h':=λ b u q=>by
 have aa:∀ c y,H c=some (.own y)->c ≠ x:=λ c y r z=>by subst z;rw [r] at mu;exact mu
 have aS:∀ c xs,H c=some (.tup xs)->c ≠ x:=λ c xs r z=>by subst z;rw [r] at mu;exact mu
 by_cases hb:b=x
 ·subst hb;rw [ai] at q;cases q;exact new
 ·rw [ah hb] at q
  by_cases hbe:b=e
  ·have q':H b=some (.own x):=by
    rcases he with z|z
    ·exact absurd (hbe.trans z) hb
    ·rw [hbe];exact z
   rw [q] at q';cases q';obtain⟨v,hv⟩:=a3;exact⟨v,by rw [hbe];exact hv⟩
  ·refine(ok b u q).stay (λ c v hc r=>k c v ?_ r) (λ c r=>by rw [ah (aa c b r)];exact r) λ c xs r=>by rw [ah (aS c xs r)];exact r
   rcases hc with rfl|hc
   ·exact hbe
   ·rintro rfl
    rcases he with z|z
    ·exact aa c b hc z
    ·rw [hc] at z;cases z;exact hb rfl
end
structure Un(fs ex:List Addr)(H H':Hp)(h h':Heap):Prop where
 keep:∀ b o,h.get? b=some o->H b=none->b ∉ fs->b ∉ ex->h'.get? b=some o
 slot:∀ b o,h.get? b=some o->H b=none->b∈fs->b ∉ ex->∃ sl,h'.get? b=some { o with slots:=sl }
 free:∀ b o,h.get? b=some o->H b=none->b ∉ ex->H' b=none
 there:∀ b o,h.get? b=some o->b ∉ ex->∃ o',h'.get? b=some o'
 tups:∀ b xs,H b=some (.tup xs)->H' b=some (.tup xs)
 frzs:∀ b o u,H b=some (.frz o u)->H' b=some (.frz o u)
 tbls:∀ b ps,H b=some (.tbl ps)->∃ more,H' b=some (.tbl (ps++more))
section
variable {fs fs' ex ex':List Addr}{H H1 H2:Hp}{h h1 h2 h':Heap}{a x e:Addr}{o:HO}
def Un.any(u:Un fs ex H H1 h h1){b:Addr}{ob:Obj}(q:h.get? b=some ob)(n:H b=none)(hx:b ∉ ex):∃ sl,h1.get? b=some { ob with slots:=sl }:=by
 by_cases hb:b∈fs
 ·exact u.slot b ob q n hb hx
 ·exact⟨ob.slots,u.keep b ob q n hb hx⟩
def Un.trans(a:Un fs ex H H1 h h1)(b:Un fs ex H1 H2 h1 h2):Un fs ex H H2 h h2 where
 keep:=λ c ob q n hc hx=>b.keep c ob (a.keep c ob q n hc hx) (a.free c ob q n hx) hc hx
 slot:=λ c ob q n hc hx=>by
  obtain⟨sl,e1⟩:=a.slot c ob q n hc hx;obtain⟨aa,e2⟩:=b.slot c _ e1 (a.free c ob q n hx) hc hx;exact⟨aa,e2⟩
 free:=λ c ob q n hx=>by
  obtain⟨o',e1⟩:=a.there c ob q hx;exact b.free c o' e1 (a.free c ob q n hx) hx
 there:=λ c ob q hx=>by
  obtain⟨o',e1⟩:=a.there c ob q hx;exact b.there c o' e1 hx
 tups:=λ c xs q=>b.tups c xs (a.tups c xs q)
 frzs:=λ c ob xs q=>b.frzs c ob xs (a.frzs c ob xs q)
 tbls:=λ c ps q=>by
  obtain⟨m1,e1⟩:=a.tbls c ps q;obtain⟨m2,e2⟩:=b.tbls c _ e1;exact⟨m1++m2,by rw [e2,Array.append_assoc]⟩
def Un.kept(k:∀ b u,h.get? b=some u->h'.get? b=some u):Un fs ex H H h h':=
 ⟨λ b ob q _ _ _=>k b ob q,λ b ob q _ _ _=>⟨ob.slots,k b ob q⟩,λ _ _ _ n _=>n,λ b ob q _=>⟨ob,k b ob q⟩,λ _ _ q=>q,λ _ _ _ q=>q,λ _ ps q=>⟨#[],by rw [q];simp⟩⟩
def Un.refl:Un fs ex H H h h:=Un.kept λ _ _ q=>q
def Un.laid(k:∀ b u,h.get? b=some u->h'.get? b=some u)(hp:h.objs.size<=a)(hn:H a=none):Un fs ex H (upd H a o) h h' where
 keep:=λ b u q _ _ _=>k b u q
 slot:=λ b u q _ _ _=>⟨u.slots,k b u q⟩
 free:=λ b u q n _=>by rw [ah (RT (RV (RF q) hp))];exact n
 there:=λ b u q _=>⟨u,k b u q⟩
 tups:=λ b xs q=>by rw [ah (b7 q hn)];exact q
 frzs:=λ b u xs q=>by rw [ah (b7 q hn)];exact q
 tbls:=λ b ps q=>⟨#[],by rw [ah (b7 q hn),q];simp⟩
def Un.write(mu:Mut (H x))(he:e=x\/H e=some (.own x))(k:∀ b u,b ≠ e->h.get? b=some u->h'.get? b=some u)(aa:∃ u,h'.get? e=some u):Un fs ex H (upd H x o) h h':=by
 have hx:∀ b,H b=none->b ≠ x:=λ b n z=>by subst z;rw [n] at mu;exact mu
 have hb:∀ b,H b=none->b ≠ e:=λ b n z=>by
  subst z
  rcases he with r|r
  ·exact hx b n r
  ·rw [n] at r;cases r
 have hm:∀ b u,H b=some u->¬ Mut (some u)->b ≠ x:=λ b u q nm z=>by subst z;rw [q] at mu;exact nm mu
 refine⟨λ b u q n _ _=>k b u (hb b n) q,λ b u q n _ _=>⟨u.slots,k b u (hb b n) q⟩,λ b u q n _=>by rw [ah (hx b n)];exact n,λ b u q _=>?_,
  λ b xs q=>by rw [ah (hm b _ q λ z=>z)];exact q,λ b u xs q=>by rw [ah (hm b _ q λ z=>z)];exact q,λ b ps q=>⟨#[],by rw [ah (hm b _ q λ z=>z),q];simp⟩⟩
 by_cases hbe:b=e
 ·subst hbe;exact aa
 ·exact⟨u,k b u hbe q⟩
end
def trk(h:Heap)(H:Hp):List Addr:=(List.range h.objs.size).filter λ a=>(H a).isSome
def CG(h:Heap)(H:Hp):Heap:=W.hideAll h (trk h H)
def BZ(h:Heap)(H:Hp):(CG h H).objs.size=h.objs.size:=W.hideAll_size _ _
def EW{h:Heap}{H:Hp}{b:Addr}{o:Obj}(e:h.get? b=some o)(n:H b=none):(CG h H).get? b=some o:=
 W.hideAll_get _ e λ hm=>by
  have q:(H b).isSome=true:=(UK.mp hm).2;rw [n] at q;simp at q
def HB{h:Heap}{H:Hp}{b:Addr}{o:Obj}(e:(CG h H).get? b=some o):h.get? b=some o/\H b=none:=by
 have e':h.get? b=some o:=W.of_hideAll (trk h H) e;refine⟨e',?_⟩
 cases q:H b with
 | none=>rfl
 | some x=>
  have hm:b∈trk h H:=UK.mpr ⟨SH.mpr (RF e'),by simp [q]⟩;have z:(CG h H).get? b=none:=W.hideAll_none (trk h H) hm;rw [z] at e;cases e
def JK(g h:Heap)(L:Addr):List (Addr × Obj):=(List.range h.objs.size).filterMap λ a=>if a=L\/(g.get? a).isSome=true then none else (h.get? a).map λ o=>(a,o)
def km(g h:Heap)(L d:Addr):List (Addr × Obj):=(JK g h L).filter λ p=>decide (p.1 ≠ d)
structure Mod(K:W.Frag)(mg:Str->Option Value)(base:Heap):Prop where
 kin:K.In base
 glob:base.Ns mainGlobals mg
 blt:∃ mb,base.Ns builtinsNs mb/\∀ x:Str,x ≠ "__name__" → mb x=bootBuiltins x
 nolimit:base.NoLimit
structure Cx where
 prog:Program
 w:World
 K:W.Frag
 mg:Str->Option Value
 base:Heap
 A:Around
 N:List Str
 s₀:Shared
 H₀:Hp
 env:Env
 outer:List Env
 stack:List Env
 ex:List Addr
 fn:Str->Bool
 calm:Bool
 pn:List (Addr × Obj)
 xe:Value->Shared->Prop
def frs(l:List Env):List Addr:=l.filterMap (·.frame)
abbrev Cx.fs(X:Cx):List Addr:=frs X.outer
def Vis(sc:Scope)(x:Str):Prop:=sc.names.lookup x=some .local\/sc.names.lookup x=some .cell\/sc.names.lookup x=some .free
def Loc(sc:Scope)(x:Str):Prop:=sc.names.lookup x=some .local\/sc.names.lookup x=some .cell
def Ru(env:Env)(h:Heap)(m:Str->Option Value)(x:Str)(u:Value):Prop:=
 (env.kindOf x=some .local/\m x=some u)\/((env.kindOf x=some .cell\/env.kindOf x=some .free)/\∃ c,env.cells.lookup x=some c/\h.IsCell c (some u))
structure Cx.Ok(X:Cx):Prop where
 mod:Mod X.K X.mg X.base
 kind:X.env.scope.kind=.function
 glob:X.env.globals=mainGlobals
 blt:X.env.builtins=builtinsNs
 above:X.s₀.heap.objs.size<=X.env.locals
 inj:∀ x y c,X.env.cells.lookup x=some c->X.env.cells.lookup y=some c->x=y
 has:∀ x,(X.env.kindOf x=some .cell\/X.env.kindOf x=some .free)->∃ c,X.env.cells.lookup x=some c
 cab:∀ x c,X.fn x=true->X.env.cells.lookup x=some c->X.s₀.heap.objs.size<=c
 hd:X.calm=true->X.A.handled=none
 frames:X.A.frames=some X.stack
 stk:X.stack=X.outer\/(X.stack=X.env::X.outer/\X.env.frame=some X.env.locals)
 exf:∀ b∈X.ex,b ≠ X.env.locals/\∀ x c,X.env.cells.lookup x=some c->c ≠ b
 bs:∀ b o,X.base.get? b=some o->X.s₀.heap.get? b=some o/\X.H₀ b=none
 bsz:X.base.objs.size<=X.s₀.heap.objs.size
 noex:∀ b o,X.base.get? b=some o->b ∉ X.ex
 exfs:∀ b∈X.ex,b ∉ X.fs
 funs:X.s₀.heap.FunFrames X.base X.outer
 frf:∀ b∈X.fs,X.H₀ b=none
structure Inv(X:Cx)(pins:List (Addr × Obj))(σ:List (Option V))(H:Hp)(s:Shared):Prop where
 ok:X.Ok
 os:s.os=X.s₀.os
 bare:AllBare s.gens
 base:Un X.fs X.ex X.H₀ H X.s₀.heap s.heap
 loc:∃ m,s.heap.Ns X.env.locals m/\∀ (i:Nat) (x:Str) (v:V),X.N[i]? = some x->σ[i]? = some (some v)->Vis X.env.scope x->∃ u,bD v u/\Ru X.env s.heap m x u
 cell:∀ x c,X.env.cells.lookup x=some c->∃ v,s.heap.IsCell c v
 free:H X.env.locals=none
 freeC:∀ x c,X.env.cells.lookup x=some c->H c=none
 pin:∀ p∈X.pn++pins,s.heap.get? p.1=some p.2/\H p.1=none/\p.1 ≠ X.env.locals/\p.1 ∉ X.fs/\∀ v,p.2.data ≠ .cell v
 hok:HOk X.prog X.w H s.heap
 len:σ.length=X.N.length
section
variable {X:Cx}{pins:List (Addr × Obj)}{σ:List (Option V)}{H H':Hp}{s:Shared}{h':Heap}
def Cx.Ok.nofr(ok:X.Ok){b:Addr}{o:Obj}(e:X.base.get? b=some o):b ∉ X.fs:=λ hb=>by
 have:=(ok.funs.mem hb).1;rw [e] at this;cases this
def Inv.bs(I:Inv X pins σ H s):∀ b o,X.base.get? b=some o->s.heap.get? b=some o/\H b=none:=λ b o e=>
 ⟨I.base.keep b o (I.ok.bs b o e).1 (I.ok.bs b o e).2 (I.ok.nofr e) (I.ok.noex b o e),I.base.free b o (I.ok.bs b o e).1 (I.ok.bs b o e).2 (I.ok.noex b o e)⟩
def Inv.bk(I:Inv X pins σ H s):∀ b o,X.base.get? b=some o->s.heap.get? b=some o:=λ b o e=>(I.bs b o e).1
def Inv.mod(I:Inv X pins σ H s):Mod X.K X.mg X.base:=I.ok.mod
def Inv.kIn(I:Inv X pins σ H s):X.K.In s.heap:=I.ok.mod.kin.keeps I.bk
def Inv.lt(I:Inv X pins σ H s):X.env.locals < s.heap.objs.size:=let ⟨_,hn,_⟩:=I.loc;hn.lt
def Inv.sz(I:Inv X pins σ H s):X.s₀.heap.objs.size<=s.heap.objs.size:=Sj I.ok.above (T4 I.lt)
def Inv.nofs(I:Inv X pins σ H s){a:Addr}(h:s.heap.objs.size<=a):a ∉ X.fs:=λ hb=>by
 obtain⟨_,o,ho,_⟩:=I.ok.funs.mem hb;exact absurd (RV (RF ho) (Sj I.sz h)) (SE _)
def Inv.cne(I:Inv X pins σ H s):∀ x c,X.env.cells.lookup x=some c->c ≠ X.env.locals:=λ x c e z=>by
 obtain⟨v,o,ho,hd⟩:=I.cell x c e;obtain⟨m,⟨o',es,ep,aa,aS,_⟩,_⟩:=I.loc;rw [z,aa] at ho;cases ho;rw [aS] at hd;cases hd
def Inv.funs(I:Inv X pins σ H s):s.heap.FunFrames X.base X.outer:=by
 have all:∀ (l:List Env),(∀ b∈frs l,b∈X.fs)->X.s₀.heap.FunFrames X.base l->s.heap.FunFrames X.base l:=by
  intro l
  induction l with
  | nil=>intro _ _;trivial
  | cons env r ih=>
   intro hs hl;obtain⟨hk,⟨L,o,hf,hn,ho,hd⟩,hr⟩:=hl;have hL:L∈X.fs:=hs L (by unfold frs;rw [List.filterMap_cons,hf];exact mem_cons_self);obtain⟨sl,e⟩:=I.base.slot L o ho (I.ok.frf L hL) hL λ z=>I.ok.exfs L z hL;exact⟨hk,⟨L,_,hf,hn,e,hd⟩,ih (λ b hb=>hs b (by unfold frs;rw [List.filterMap_cons,hf];exact mem_cons_of_mem _ hb)) hr⟩
 exact all X.outer (λ _ hb=>hb) I.ok.funs
def Inv.stack(I:Inv X pins σ H s):s.heap.FunFrames X.base X.stack:=by
 rcases I.ok.stk with e|⟨e,hf⟩
 ·rw [e];exact I.funs
 ·rw [e];obtain⟨m,hn,_⟩:=I.loc;refine .cons (by rw [I.ok.kind];decide) hf hn ?_ I.funs;exact Tz (Sj I.ok.bsz I.ok.above)
def Inv.stkSub(I:Inv X pins σ H s):∀ b∈frs X.stack,b∈X.env.locals::X.fs:=λ b hb=>by
 rcases I.ok.stk with e|⟨e,hf⟩
 ·rw [e] at hb;exact RU _ hb
 ·rw [e] at hb;unfold frs at hb;rw [List.filterMap_cons,hf] at hb;exact hb
def Inv.stkFree(I:Inv X pins σ H s):∀ b∈frs X.stack,H b=none:=λ b hb=>by
 rcases RZ.mp (I.stkSub b hb) with e|hb
 ·rw [e];exact I.free
 ·obtain⟨_,o,ho,_⟩:=I.ok.funs.mem hb;exact I.base.free b o ho (I.ok.frf b hb) λ z=>I.ok.exfs b z hb
def Inv.step{g':Array GenState}{t':Nat}{d':Drawn}{ch:List Addr}(I:Inv X pins σ H s)
  (aa:∀ b∈ch,(b∈X.ex\/X.s₀.heap.objs.size<=b)/\b ≠ X.env.locals/\(∀ x c,X.env.cells.lookup x=some c->c ≠ b)/\∀ p∈X.pn++pins,p.1 ≠ b)
  (keep:∀ b o,b ≠ X.env.locals->b ∉ X.fs->b ∉ ch->s.heap.get? b=some o->H b=none->h'.get? b=some o)
  (slot:∀ b o,b ≠ X.env.locals->b∈X.fs->b ∉ ch->s.heap.get? b=some o->H b=none->∃ sl,h'.get? b=some { o with slots:=sl }) (free:∀ b o,b ∉ ch->s.heap.get? b=some o->H b=none->H' b=none)
  (there:∀ b o,b ∉ ch->s.heap.get? b=some o->∃ o',h'.get? b=some o')
  (tups:∀ b xs,H b=some (.tup xs)->H' b=some (.tup xs)) (frzs:∀ b o u,H b=some (.frz o u)->H' b=some (.frz o u)) (tbls:∀ b ps,H b=some (.tbl ps)->∃ more,H' b=some (.tbl (ps++more)))
  (ns:∀ m,s.heap.Ns X.env.locals m->h'.Ns X.env.locals m) (hok:HOk X.prog X.w H' h') (hg:AllBare g') :
  Inv X pins σ H' { s with heap:=h',gens:=g',drawn:=d',toks:=t' }:=by
 have a4:∀ b o,X.s₀.heap.get? b=some o->b ≠ X.env.locals:=λ b o e=>RT (RV (RF e) I.ok.above)
 have a3:∀ b o,X.s₀.heap.get? b=some o->b ∉ X.ex->b ∉ ch:=λ b o e hx hb=>by
  rcases (aa b hb).1 with z|z
  ·exact hx z
  ·exact absurd (RV (RF e) z) (SE _)
 have cellK:∀ x c,X.env.cells.lookup x=some c->∀ v,s.heap.IsCell c v->h'.IsCell c v:=λ x c e v ⟨o,ho,hd⟩=>by
  have aS:c ∉ ch:=λ z=>(aa c z).2.2.1 x c e rfl
  by_cases hc:c∈X.fs
  ·obtain⟨sl,q⟩:=slot c o (I.cne x c e) hc aS ho (I.freeC x c e);exact⟨_,q,hd⟩
  ·exact⟨o,keep c o (I.cne x c e) hc aS ho (I.freeC x c e),hd⟩
 refine⟨I.ok,I.os,hg,⟨λ b o e n hb hx=>?_,λ b o e n hb hx=>?_,λ b o e n hx=>?_,λ b o e hx=>?_,λ b xs e=>tups b xs (I.base.tups b xs e),λ b o xs e=>frzs b o xs (I.base.frzs b o xs e),λ b ps e=>?_⟩,?_,λ x c e=>?_,?_,λ x c e=>?_,λ p hp=>?_,hok,I.len⟩
 ·exact keep b o (a4 b o e) hb (a3 b o e hx) (I.base.keep b o e n hb hx) (I.base.free b o e n hx)
 ·obtain⟨sl,e1⟩:=I.base.slot b o e n hb hx;obtain⟨a5,e2⟩:=slot b _ (a4 b o e) hb (a3 b o e hx) e1 (I.base.free b o e n hx);exact⟨a5,e2⟩
 ·obtain⟨o',e1⟩:=I.base.there b o e hx;exact free b o' (a3 b o e hx) e1 (I.base.free b o e n hx)
 ·obtain⟨o',e1⟩:=I.base.there b o e hx;exact there b o' (a3 b o e hx) e1
 ·obtain⟨m1,e1⟩:=I.base.tbls b ps e;obtain⟨m2,e2⟩:=tbls b _ e1;exact⟨m1++m2,by rw [e2,Array.append_assoc]⟩
 ·obtain⟨m,hn,hl⟩:=I.loc;refine⟨m,ns m hn,λ i x v e1 e2 e3=>?_⟩;obtain⟨u,r,l⟩:=hl i x v e1 e2 e3;refine⟨u,r,?_⟩
  rcases l with l|⟨k,c,e,z⟩
  ·exact .inl l
  ·exact .inr ⟨k,c,e,cellK x c e _ z⟩
 ·obtain⟨v,z⟩:=I.cell x c e;exact⟨v,cellK x c e v z⟩
 ·obtain⟨m,⟨o,_,_,ho,_⟩,_⟩:=I.loc;exact free _ o (λ z=>(aa _ z).2.1 rfl) ho I.free
 ·obtain⟨v,o,ho,hd⟩:=I.cell x c e;exact free c o (λ z=>(aa c z).2.2.1 x c e rfl) ho (I.freeC x c e)
 ·obtain⟨e,n,ne,nf,d⟩:=I.pin p hp;have aS:p.1 ∉ ch:=λ z=>(aa p.1 z).2.2.2 p hp rfl;exact⟨keep p.1 p.2 ne nf aS e n,free p.1 p.2 aS e n,ne,nf,d⟩
def Inv.un{t':Nat}(I:Inv X pins σ H s)(u:Un X.fs [] H H' s.heap h')(hok:HOk X.prog X.w H' h'):Inv X pins σ H' { s with heap:=h',toks:=t' }:=by
 obtain⟨m,⟨o,es,ep,ho,r⟩,_⟩:=id I.loc;obtain⟨sl,hL⟩:=u.any ho I.free (by simp)
 exact I.step (g':=s.gens) (d':=s.drawn) (ch:=[]) (λ _ z=>nomatch z) (λ b o _ hb _ e n=>u.keep b o e n hb (by simp)) (λ b o _ hb _ e n=>u.slot b o e n hb (by simp)) (λ b o _ e n=>u.free b o e n (by simp)) (λ b o _ e=>u.there b o e (by simp)) u.tups u.frzs u.tbls (λ m' hm=>by
  obtain⟨o',aS,a3,aa,r'⟩:=hm;rw [ho] at aa;cases aa;exact⟨_,aS,a3,hL,r'⟩) hok I.bare
def Inv.call{g':Array GenState}{t':Nat}{d':Drawn}{ch:List Addr}(I:Inv X pins σ H s)(u:Un (frs X.stack) ch H H' s.heap h')(hok:HOk X.prog X.w H' h')(hg:AllBare g')
  (aa:∀ b∈ch,(b∈X.ex\/X.s₀.heap.objs.size<=b)/\b ≠ X.env.locals/\(∀ x c,X.env.cells.lookup x=some c->c ≠ b)/\∀ p∈X.pn++pins,p.1 ≠ b) :
  Inv X pins σ H' { s with heap:=h',gens:=g',drawn:=d',toks:=t' }:=by
 obtain⟨m,⟨o,es,ep,ho,r⟩,_⟩:=id I.loc;obtain⟨sl,hL⟩:=u.any ho I.free λ z=>(aa _ z).2.1 rfl
 exact I.step (ch:=ch) aa (λ b o hL hb hc e n=>u.keep b o e n (λ z=>(RZ.mp (I.stkSub b z)).elim hL hb) hc) (λ b o _ _ hc e n=>u.any e n hc) (λ b o hc e n=>u.free b o e n hc) (λ b o hc e=>u.there b o e hc) u.tups u.frzs u.tbls (λ m' hm=>by
  obtain⟨o',a3,a4,aS,r'⟩:=hm;rw [ho] at aS;cases aS;exact⟨_,a3,a4,hL,r'⟩) hok hg
def Inv.turned{t':Nat}{it:Addr}(I:Inv X pins σ H s)(k:∀ b o,b ≠ it->s.heap.get? b=some o->h'.get? b=some o)(hn:H it=none)(hL:it ≠ X.env.locals)
  (h1:it∈X.ex\/X.s₀.heap.objs.size<=it) (h2:∀ x c,X.env.cells.lookup x=some c->c ≠ it) (h3:∀ p∈X.pn++pins,p.1 ≠ it):Inv X pins σ H { s with heap:=h',toks:=t' }:=by
 have aa:∀ b u,H b=some u->b ≠ it:=λ b u e z=>by rw [z,hn] at e;cases e
 refine I.step (g':=s.gens) (d':=s.drawn) (ch:=[it]) (λ b hb=>?_) (λ b o _ _ hc e _=>k b o (λ z=>hc (by simp [z])) e) (λ b o _ _ hc e _=>⟨o.slots,k b o (λ z=>hc (by simp [z])) e⟩) (λ _ _ _ _ n=>n)
  (λ b o hc e=>⟨o,k b o (λ z=>hc (by simp [z])) e⟩) (λ _ _ e=>e) (λ _ _ _ e=>e) (λ b ps e=>⟨#[],by rw [e];simp⟩) (λ m hm=>?_) (λ b u e=>?_) I.bare
 ·have e:b=it:=by simpa using hb
  subst e;exact⟨h1,hL,h2,h3⟩
 ·obtain⟨o,es,ep,ho,r⟩:=hm;exact⟨o,es,ep,k _ o (RO hL) ho,r⟩
 ·refine(I.hok b u e).stay (λ c v hc q=>k c v ?_ q) (λ _ q=>q) λ _ _ q=>q
  rcases hc with z|z
  ·rw [z];exact aa b u e
  ·exact aa c _ z
def Inv.tok(I:Inv X pins σ H s)(t:Nat):Inv X pins σ H { s with toks:=t }:=I.un (h':=s.heap) (t':=t) Un.refl I.hok
def Inv.kept{t':Nat}(I:Inv X pins σ H s)(k:∀ b u,s.heap.get? b=some u->h'.get? b=some u):Inv X pins σ H { s with heap:=h',toks:=t' }:=I.un (Un.kept k) (I.hok.kept k)
def Inv.laid{a:Addr}{o:HO}{t':Nat}(I:Inv X pins σ H s)(k:∀ b u,s.heap.get? b=some u->h'.get? b=some u)(hp:s.heap.objs.size<=a)(new:bw X.prog X.w (upd H a o) h' a o) :
  Inv X pins σ (upd H a o) { s with heap:=h',toks:=t' }:=I.un (Un.laid k hp (I.hok.fresh hp)) (I.hok.laid k hp new)
def Inv.write{x e:Addr}{o:HO}{t':Nat}(I:Inv X pins σ H s)(mu:Mut (H x))(he:e=x\/H e=some (.own x))(k:∀ b u,b ≠ e->s.heap.get? b=some u->h'.get? b=some u)(aa:∃ u,h'.get? e=some u)
  (new:bw X.prog X.w (upd H x o) h' x o):Inv X pins σ (upd H x o) { s with heap:=h',toks:=t' }:=I.un (Un.write mu he k aa) (I.hok.write mu he k aa new)
def Inv.weak{σ':List (Option V)}(I:Inv X pins σ H s)(hl:σ'.length=σ.length)(w:∀ (i:Nat) v,σ'[i]? = some (some v)->σ[i]? = some (some v)):Inv X pins σ' H s:=
 ⟨I.ok,I.os,I.bare,I.base,let ⟨m,hn,hl'⟩:=I.loc;⟨m,hn,λ i x v e1 e2 e3=>hl' i x v e1 (w i v e2) e3⟩,I.cell,I.free,I.freeC,I.pin,I.hok,hl.trans I.len⟩
def Inv.pins_of{aa:List (Addr × Obj)}(I:Inv X pins σ H s)(h:∀ p∈aa,s.heap.get? p.1=some p.2/\H p.1=none/\p.1 ≠ X.env.locals/\p.1 ∉ X.fs/\∀ v,p.2.data ≠ .cell v):Inv X aa σ H s:=
 ⟨I.ok,I.os,I.bare,I.base,I.loc,I.cell,I.free,I.freeC,λ p hp=>(SD.mp hp).elim (λ z=>I.pin p (T9 _ z)) (h p),I.hok,I.len⟩
def vF{N:List Str}(hN:N.Nodup){i j:Nat}{x:Str}(a:N[i]? = some x)(b:N[j]? = some x):i=j:=by
 obtain⟨h1,e1⟩:=RG.mp a;obtain⟨h2,e2⟩:=RG.mp b;exact(List.getElem_inj hN).mp (e1.trans e2.symm)
def qj{M:Model}{A:Around}{E:Value->Shared->Prop}{i:Nat}{x:Str}{v:V}{u:Value}{Q:Unit->Shared->Prop}(I:Inv X pins σ H s)(hN:X.N.Nodup)(hi:X.N[i]? = some x)(hx:Loc X.env.scope x)(r:bD v u)
  (h:∀ s',Inv X pins (σ.set i (some v)) H s'->(∃ a,Heap.SameBut a s.heap s'.heap/\(a=X.env.locals\/X.env.cells.lookup x=some a))->Q () s') (hf:X.fn x=true\/X.env.scope.names.lookup x=some .local:=by first|exact .inl rfl|exact .inr rfl|assumption):wpAny M A (storeName X.env x u) Q E s:=by
 obtain⟨m,hn,hl⟩:=id I.loc;have a3:(X.env.scope.kind == .class || (X.env.scope.kind == .module && X.env.locals != X.env.globals))=false:=by rw [I.ok.kind];rfl
 have a4:i < σ.length:=by rw [I.len];exact(RG.mp hi).1
 have cne:=I.cne
 have tracked:∀ {a:Addr} {h':Heap},(∃ o,s.heap.get? a=some o/\H a=none)->Heap.SameBut a s.heap h'->HOk X.prog X.w H h':=λ {a h'} ha hs b ob e=>by
  obtain⟨_,_,aa⟩:=ha;refine(I.hok b ob e).stay (λ c w' hc q=>(hs.2 c ?_).trans q) (λ _ q=>q) λ _ _ q=>q;rintro rfl
  rcases hc with rfl|hc
  ·rw [aa] at e;cases e
  ·rw [aa] at hc;cases hc
 rcases hx with hk|hk
 ·refine wpAny_storeName_local hk hn (λ h' a8 hs=>?_) a3;obtain⟨oL,_,_,a9,_⟩:=id hn;refine h _ ⟨I.ok,I.os,I.bare,⟨λ b o e n hb hx=>?_,λ b o e n hb hx=>?_,I.base.free,λ b o e hx=>?_,I.base.tups,I.base.frzs,I.base.tbls⟩,⟨_,a8,λ j y v' e1 e2 e3=>?_⟩,λ y c e=>?_,I.free,I.freeC,λ p hp=>?_,tracked ⟨oL,a9,I.free⟩ hs,by simpa using I.len⟩ ⟨_,hs,.inl rfl⟩
  ·exact(hs.2 b (RT (RV (RF e) I.ok.above))).trans (I.base.keep b o e n hb hx)
  ·obtain⟨sl,e1⟩:=I.base.slot b o e n hb hx;exact⟨sl,(hs.2 b (RT (RV (RF e) I.ok.above))).trans e1⟩
  ·obtain⟨o',e1⟩:=I.base.there b o e hx;exact⟨o',(hs.2 b (RT (RV (RF e) I.ok.above))).trans e1⟩
  ·by_cases hj:j=i
   ·subst hj;rw [hi] at e1;cases e1;rw [TU a4] at e2;cases e2;exact⟨u,r,.inl ⟨hk,by simp⟩⟩
   ·rw [UR (RO hj)] at e2;obtain⟨u',r',q⟩:=hl j y v' e1 e2 e3;refine⟨u',r',?_⟩
    rcases q with ⟨k,e⟩|⟨k,c,e,z⟩
    ·refine .inl ⟨k,?_⟩;have:y ≠ x:=λ e=>hj (vF hN e1 (e ▸ hi));simp [this,e]
    ·exact .inr ⟨k,c,e,z.sameBut hs (cne y c e)⟩
  ·obtain⟨w',z⟩:=I.cell y c e;exact⟨w',z.sameBut hs (cne y c e)⟩
  ·obtain⟨e,n,ne,nf,d⟩:=I.pin p hp;exact⟨(hs.2 p.1 ne).trans e,n,ne,nf,d⟩
 ·have aS:X.fn x=true:=by
   rcases hf with z|z
   ·exact z
   ·rw [z] at hk;cases hk
  obtain⟨c,hc⟩:=I.ok.has x (.inl hk);obtain⟨w',z⟩:=I.cell x c hc;refine wpAny_storeName_cell I.ok.kind hk hc z (λ h' a5 hs=>?_);obtain⟨oc,a6,a7⟩:=id z;refine h { s with heap:=h' } ⟨I.ok,I.os,I.bare,⟨λ b o e n hb hx=>?_,λ b o e n hb hx=>?_,I.base.free,λ b o e hx=>?_,I.base.tups,I.base.frzs,I.base.tbls⟩,⟨m,hn.sameBut hs (RO (cne x c hc)),λ j y v' e1 e2 e3=>?_⟩,λ y c' e=>?_,I.free,I.freeC,λ p hp=>?_,tracked ⟨oc,a6,I.freeC x c hc⟩ hs,by simpa using I.len⟩ ⟨c,hs,.inr hc⟩
  ·exact(hs.2 b (RT (RV (RF e) (I.ok.cab x c aS hc)))).trans (I.base.keep b o e n hb hx)
  ·obtain⟨sl,e1⟩:=I.base.slot b o e n hb hx;exact⟨sl,(hs.2 b (RT (RV (RF e) (I.ok.cab x c aS hc)))).trans e1⟩
  ·obtain⟨o',e1⟩:=I.base.there b o e hx;exact⟨o',(hs.2 b (RT (RV (RF e) (I.ok.cab x c aS hc)))).trans e1⟩
  ·by_cases hj:j=i
   ·subst hj;rw [hi] at e1;cases e1;rw [TU a4] at e2;cases e2;exact⟨u,r,.inr ⟨.inl hk,c,hc,a5⟩⟩
   ·rw [UR (RO hj)] at e2;obtain⟨u',r',q⟩:=hl j y v' e1 e2 e3;refine⟨u',r',?_⟩
    rcases q with q|⟨k,c',e,z'⟩
    ·exact .inl q
    ·refine .inr ⟨k,c',e,z'.sameBut hs ?_⟩;rintro rfl;exact hj (vF hN e1 (I.ok.inj _ _ _ e hc ▸ hi))
  ·by_cases hcc:c'=c
   ·subst hcc;exact⟨_,a5⟩
   ·obtain⟨w2,z2⟩:=I.cell y c' e;exact⟨w2,z2.sameBut hs hcc⟩
  ·obtain⟨e,n,ne,nf,d⟩:=I.pin p hp;refine⟨(hs.2 p.1 ?_).trans e,n,ne,nf,d⟩;intro q;rw [q,a6] at e;have q':oc=p.2:=Ss e;exact d w' (by rw [←q'];exact a7)
def vg{M:Model}{A:Around}{E:Value->Shared->Prop}{i:Nat}{x:Str}{v:V}{u:Value}{Q:Unit->Shared->Prop}(I:Inv X pins σ H s)(hN:X.N.Nodup)(hi:X.N[i]? = some x)(hx:Loc X.env.scope x)(r:bD v u)
  (h:∀ s',Inv X pins (σ.set i (some v)) H s'->Q () s') (hf:X.fn x=true\/X.env.scope.names.lookup x=some .local:=by first|exact .inl rfl|exact .inr rfl|assumption):wpAny M A (storeName X.env x u) Q E s:=
 qj I hN hi hx r (λ s' I' _=>h s' I') hf
def Inv.call'{s':Shared}{ch:List Addr}(I:Inv X pins σ H s)(ho:s'.os=s.os)(u:Un (frs X.stack) ch H H' s.heap s'.heap)(hok:HOk X.prog X.w H' s'.heap)(hg:AllBare s'.gens)
  (aa:∀ b∈ch,(b∈X.ex\/X.s₀.heap.objs.size<=b)/\b ≠ X.env.locals/\(∀ x c,X.env.cells.lookup x=some c->c ≠ b)/\∀ p∈X.pn++pins,p.1 ≠ b):Inv X pins σ H' s':=by
 obtain⟨h',g',d',t',o'⟩:=s';have e:o'=s.os:=ho;subst e;exact I.call (g':=g') (t':=t') (d':=d') u hok hg aa
end
abbrev XK:=Value->Option Addr->Hp->Prop
abbrev St:=List (Option V)
abbrev VK:=V->Hp->Prop
abbrev TE:=St->Hp->VK->Prop
abbrev TT:=St->Hp->(Bool->Hp->Prop)->Prop
abbrev TA:=St->Hp->(List V->Hp->Prop)->Prop
structure kI where
 nx:St->Hp->Prop
 rt:VK
 bk:St->Hp->Prop:=λ _ _=>False
 ct:St->Hp->Prop:=λ _ _=>False
abbrev TS:=kI->St->Hp->Prop
def EP(X:Cx)(pins:List (Addr × Obj))(σ:St)(Q:VK)(u:Value)(s':Shared):Prop:=∃ v H',Inv X pins σ H' s'/\bD v u/\Q v H'
def TP(X:Cx)(pins:List (Addr × Obj))(σ:St)(Q:Bool->Hp->Prop)(b:Bool)(s':Shared):Prop:=∃ H',Inv X pins σ H' s'/\Q b H'
def AP(X:Cx)(pins:List (Addr × Obj))(σ:St)(Q:List V->Hp->Prop)(us:List Value)(s':Shared):Prop:=∃ vs H',Inv X pins σ H' s'/\aW vs us/\Q vs H'
def SP(X:Cx)(pins:List (Addr × Obj))(D:kI)(f:Flow)(s':Shared):Prop:=
 match f with
 | .next=>∃ σ' H',Inv X pins σ' H' s'/\D.nx σ' H'
 | .brk=>∃ σ' H',Inv X pins σ' H' s'/\D.bk σ' H'
 | .cont=>∃ σ' H',Inv X pins σ' H' s'/\D.ct σ' H'
 | .ret u=>∃ v σ' H',Inv X pins σ' H' s'/\bD v u/\D.rt v H'
def PE(X:Cx)(e:Expr)(t:TE):Prop:=
 ∀ (pins:List (Addr × Obj)) (s:Shared) (σ:St) (H:Hp) (Q:VK),Inv X pins σ H s->t σ H Q->wpAny (model X.prog X.w) X.A (eval e X.env) (EP X pins σ Q) X.xe s
def PT(X:Cx)(e:Expr)(t:TT):Prop:=
 ∀ (pins:List (Addr × Obj)) (s:Shared) (σ:St) (H:Hp) (Q:Bool->Hp->Prop),Inv X pins σ H s->t σ H Q->wpAny (model X.prog X.w) X.A (isTrue e X.env (eval e X.env)) (TP X pins σ Q) X.xe s
def PW(X:Cx)(e:Expr)(t:TT):Prop:=
 ∀ (whole:Sem Value) (pins:List (Addr × Obj)) (s:Shared) (σ:St) (H:Hp) (Q:Bool->Hp->Prop),Inv X pins σ H s->t σ H Q->wpAny (model X.prog X.w) X.A (isTrue e X.env whole) (TP X pins σ Q) X.xe s
def PW.pt{X:Cx}{e:Expr}{t:TT}(h:PW X e t):PT X e t:=h _
def PA(X:Cx)(es:List Expr)(t:TA):Prop:=
 ∀ (pos:Pos) (pins:List (Addr × Obj)) (s:Shared) (σ:St) (H:Hp) (Q:List V->Hp->Prop),Inv X pins σ H s->t σ H Q->wpAny (model X.prog X.w) X.A (spliced (backTo pos (starEach es X.env))) (AP X pins σ Q) X.xe s
def PS(X:Cx)(st:Stmt)(t:TS):Prop:=
 ∀ (pins:List (Addr × Obj)) (s:Shared) (σ:St) (H:Hp) (D:kI),Inv X pins σ H s->t D σ H->wpAny (model X.prog X.w) X.A (exec st X.env) (SP X pins D) X.xe s
def PSs(X:Cx)(st:List Stmt)(t:TS):Prop:=
 ∀ (pins:List (Addr × Obj)) (s:Shared) (σ:St) (H:Hp) (D:kI),Inv X pins σ H s->t D σ H->wpAny (model X.prog X.w) X.A (execs st X.env) (SP X pins D) X.xe s
def thn{α:Type}{t:Sem α}{Q Q':α->Shared->Prop}{M:Model}{A:Around}{E:Value->Shared->Prop}{s:Shared}(h:wpAny M A t Q E s)(hQ:∀ a s,Q a s->Q' a s):wpAny M A t Q' E s:=Up h hQ λ _ _ x=>x
section
variable {X:Cx}
def NB(i:Nat):TE:=λ σ H Q=>∃ v,σ[i]? = some (some v)/\Q v H
def tC(v:V):TE:=λ _ H Q=>Q v H
def Ll{i:Nat}{x:Str}{pos:Pos}(hN:X.N[i]? = some x)(hv:Vis X.env.scope x)(hd:(x == ("__debug__":Str))=false:=by decide)(aS:(x == ("__classdict__":Str))=false:=by decide):PE X (.Name x pos) (NB i):=by
 intro pins s σ H Q I h;obtain⟨v,e,h⟩:=h;obtain⟨m,hn,hl⟩:=I.loc;obtain⟨u,r,l⟩:=hl i x v hN e hv;have fin:EP X pins σ Q u s:=⟨v,H,I,r,h⟩
 rcases l with ⟨hk,hm⟩|⟨hk,c,hc,aa⟩
 ·exact wpAny_Name (wpAny_loadName_local I.ok.kind hk hn hm fin) hd
 ·rcases hk with hk|hk
  ·exact wpAny_Name (wpAny_loadName_cell I.ok.kind hk hc aa fin) hd
  ·exact wpAny_Name (wpAny_loadName_free I.ok.kind hk hc aa fin aS) hd
def fM{i j pos}:PE X (.Constant (.int i) j pos) (tC (.int i)):=λ _ _ _ H _ I h=>wpAny_Constant_int ⟨.int i,H,I.tok _,⟨_,rfl⟩,h⟩
def ku{b j pos}:PE X (.Constant (.bool b) j pos) (tC (.bl b)):=λ _ _ _ H _ I h=>Constant_bool ⟨.bl b,H,I,rfl,h⟩
def p9{j pos}:PE X (.Constant .none j pos) (tC .non):=λ _ _ _ H _ I h=>Constant_none ⟨.non,H,I,rfl,h⟩
def br{x j pos}:PE X (.Constant (.str x) j pos) (tC (.str x)):=λ _ _ _ H _ I h=>Calls.Constant_str ⟨.str x,H,I.tok _,⟨_,rfl⟩,h⟩
def Gl(X:Cx)(x:Str):Prop:=X.env.kindOf x=some .globalImplicit
def gP{E:Value->Shared->Prop}{pins:List (Addr × Obj)}{s:Shared}{σ:St}{H:Hp}{x:Str}{u:Value}{pos:Pos}{Q:Value->Shared->Prop}(I:Inv X pins σ H s)(hg:Gl X x)(hm:X.mg x=some u)(h:Q u s)
  (hd:(x == ("__debug__":Str))=false:=by decide):wpAny (model X.prog X.w) X.A (eval (.Name x pos) X.env) Q E s:=
 Calls.Name_function_global I.ok.kind hg (Calls.loadGlobal_global (by rw [I.ok.glob];exact I.mod.glob.keeps I.bk) hm h) hd
def fB{E:Value->Shared->Prop}{pins:List (Addr × Obj)}{s:Shared}{σ:St}{H:Hp}{x:Str}{u:Value}{pos:Pos}{Q:Value->Shared->Prop}(I:Inv X pins σ H s)(hg:Gl X x)(hm:X.mg x=none)(hv:bootBuiltins x=some u)(h:Q u s)
  (hn:x ≠ "__name__":=by decide) (hd:(x == ("__debug__":Str))=false:=by decide):wpAny (model X.prog X.w) X.A (eval (.Name x pos) X.env) Q E s:=by
 obtain⟨mb,h1,h2⟩:=I.mod.blt;exact Calls.Name_function_global I.ok.kind hg (Calls.loadGlobal_builtin (by rw [I.ok.glob];exact I.mod.glob.keeps I.bk) hm (by rw [I.ok.blt];exact h1.keeps I.bk) ((h2 x hn).trans hv) h) hd
def gO{x:Str}{v:V}{u:Value}{pos:Pos}(hg:Gl X x)(hm:X.mg x=some u)(r:bD v u)(hd:(x == ("__debug__":Str))=false:=by decide):PE X (.Name x pos) (tC v):=
 λ _ _ _ H _ I h=>gP I hg hm ⟨v,H,I,r,h⟩ hd
def jj{x:Str}{v:V}{u:Value}{pos:Pos}(hg:Gl X x)(hm:X.mg x=none)(hv:bootBuiltins x=some u)(r:bD v u)(hn:x ≠ "__name__":=by decide)(hd:(x == ("__debug__":Str))=false:=by decide):PE X (.Name x pos) (tC v):=
 λ _ _ _ H _ I h=>fB I hg hm hv ⟨v,H,I,r,h⟩ hn hd
variable {a b:Expr}{ta tb:TE}{pos:Pos}
def tB(t:TE):TT:=λ σ H Q=>t σ H λ x H1=>∃ c,x=.bl c/\Q c H1
def Lc{e:Expr}{t:TE}(h:PE X e t)(he:∀ whole,isTrue e X.env whole=(do let v ←whole;standAt e.pos;holding [v] (truthy v)):=by intro _;rfl):PT X e (tB t):=by
 intro pins s σ H Q I hw;refine isTrue_plain (thn (h pins s σ H _ I hw) λ v s1 ⟨x,H1,I1,r1,q1⟩=>?_) (he _);obtain⟨d,rfl,q⟩:=q1;cases r1;exact SQ ⟨H1,I1,q⟩
variable {tA tB':TT}{km:List Expr}
def Qn(t u:TT):TT:=λ σ H Q=>t σ H λ c H1=>if c=true then u σ H1 Q else Q false H1
def tOr(t u:TT):TT:=λ σ H Q=>t σ H λ c H1=>if c=true then Q true H1 else u σ H1 Q
def Qj(t:TT):TT:=λ σ H Q=>t σ H λ c H1=>Q (!c) H1
def nZ(ha:PT X a tA):PW X (.BoolOp .And [a] pos) tA:=by
 intro wh pins s σ H Q I h;refine isTrue_and (thn (ha pins s σ H Q I h) λ c s1 e=>?_)
 cases c with
 | true=>exact isTrue_and_nil e
 | false=>exact e
def gD(ha:PT X a tA):PW X (.BoolOp .Or [a] pos) tA:=by
 intro wh pins s σ H Q I h;refine isTrue_or (thn (ha pins s σ H Q I h) λ c s1 e=>?_)
 cases c with
 | false=>exact isTrue_or_nil e
 | true=>exact e
def u4(ha:PT X a tA)(hb:PW X (.BoolOp .And (b::km) pos) tB'):PW X (.BoolOp .And (a::b::km) pos) (Qn tA tB'):=by
 intro wh pins s σ H Q I h;refine isTrue_and (thn (ha pins s σ H _ I h) λ c s1 ⟨H1,I1,q1⟩=>?_)
 cases c with
 | true=>exact hb wh pins s1 σ H1 Q I1 q1
 | false=>exact⟨H1,I1,q1⟩
def OU(ha:PT X a tA)(hb:PW X (.BoolOp .Or (b::km) pos) tB'):PW X (.BoolOp .Or (a::b::km) pos) (tOr tA tB'):=by
 intro wh pins s σ H Q I h;refine isTrue_or (thn (ha pins s σ H _ I h) λ c s1 ⟨H1,I1,q1⟩=>?_)
 cases c with
 | true=>exact⟨H1,I1,q1⟩
 | false=>exact hb wh pins s1 σ H1 Q I1 q1
def Ld(ha:PT X a tA):PT X (.UnaryOp .Not a pos) (Qj tA):=by
 intro pins s σ H Q I h;exact isTrue_not (ha pins s σ H (λ c H1=>Q (!c) H1) I h)
def Kf(ta tb:TE):TE:=λ σ H Q=>ta σ H λ x H1=>∃ c,x=.bl c/\if c=true then tb σ H1 Q else Q (.bl false) H1
def Kc(ta:TE):TE:=λ σ H Q=>ta σ H λ x H1=>∃ c,x=.bl c/\Q (.bl (!c)) H1
def jS{op}{t:TE}(h:PE X a t):PE X (.BoolOp op [a] pos) t:=λ pins s σ H Q I hw=>BoolOp_one (h pins s σ H Q I hw)
def Ln(ha:PE X a ta)(hb:PE X (.BoolOp .And (b::km) pos) tb):PE X (.BoolOp .And (a::b::km) pos) (Kf ta tb):=by
 intro pins s σ H Q I h;refine BoolOp_and (thn (ha pins s σ H _ I h) λ v s1 ⟨x,H1,I1,r1,q1⟩=>?_);obtain⟨c,rfl,q1⟩:=q1;cases r1;refine SQ ?_
 cases c with
 | true=>exact hb pins s1 σ H1 Q I1 q1
 | false=>exact⟨.bl false,H1,I1,rfl,q1⟩
def Lm(ha:PE X a ta):PE X (.UnaryOp .Not a pos) (Kc ta):=by
 intro pins s σ H Q I h;refine UnaryOp_ (thn (ha pins s σ H _ I h) λ v s1 ⟨x,H1,I1,r1,q1⟩=>?_);obtain⟨c,rfl,q1⟩:=q1;cases r1;exact not_of (SQ ⟨.bl (!c),H1,I1,rfl,q1⟩)
def tIf(t:TT)(ta tb:TE):TE:=λ σ H Q=>t σ H λ c H1=>if c=true then ta σ H1 Q else tb σ H1 Q
def kO{c:Expr}(hc:PT X c tA)(ha:PE X a ta)(hb:PE X b tb):PE X (.IfExp c a b pos) (tIf tA ta tb):=by
 intro pins s σ H Q I h;refine wpAny_IfExp (thn (hc pins s σ H _ I h) λ d s1 ⟨H1,I1,q1⟩=>?_)
 cases d with
 | true=>exact ha pins s1 σ H1 Q I1 q1
 | false=>exact hb pins s1 σ H1 Q I1 q1
end
def SqL(K:W.Frag)(H:Hp)(a:Addr)(xs:List V):Prop:=
 Rd H a (.lst xs) \/
  ∃ (o:Obj) (its:Array Value) (n:Nat),K.lookup a=some o/\o.cls=.type "list" /\ o.dict=none/\o.data=.seq its n/\its.size<=sizeLine/\aW xs its.toList
def SqT(K:W.Frag)(H:Hp)(a:Addr)(xs:List V):Prop:=
 Rd H a (.tup xs) \/
  ∃ (o:Obj) (its:Array Value) (n:Nat),K.lookup a=some o/\o.cls=.type "tuple" /\ o.data=.seq its n/\its.size<=sizeLine/\aW xs its.toList
def Rq:Value->Option V
 | .none=>some .non
 | .bool b=>some (.bl b)
 | .int i _=>some (.int i)
 | .str x _=>some (.str x)
 | .bytes b _=>some (.byt b)
 | .float b _=>some (.flt b)
 | .ref a=>some (.ref a)
 | .type n=>some (.ty n)
 | _=>none
def bD.abs{x:V}{u:Value}(r:bD x u):Rq u=some x:=by
 cases x with
 | non=>cases r;rfl
 | bl _=>cases r;rfl
 | int _=>obtain⟨t,rfl⟩:=r;rfl
 | str _=>obtain⟨t,rfl⟩:=r;rfl
 | byt _=>obtain⟨t,rfl⟩:=r;rfl
 | flt _=>obtain⟨t,rfl⟩:=r;rfl
 | ref _=>cases r;rfl
 | ty _=>cases r;rfl
def bD.inj{x y:V}{u:Value}(r:bD x u)(q:bD y u):x=y:=Ss (r.abs.symm.trans q.abs)
def aW.inj:∀ {xs ys:List V}{us:List Value},aW xs us->aW ys us->xs=ys
 | _,_,_,.nil,.nil=>rfl
 | _,_,_,.cons r t,.cons r' t'=>by rw [r.inj r',aW.inj t t']
section
variable {X:Cx}{pins:List (Addr × Obj)}{σ:St}{H:Hp}{s:Shared}{a:Addr}{xs ys:List V}
def SqL.of{K:W.Frag}(h:H a=some (.lst xs)):SqL K H a xs:=.inl (.inl h)
def SqT.of{K:W.Frag}(h:H a=some (.tup xs)):SqT K H a xs:=.inl (.inl h)
def Inv.list(I:Inv X pins σ H s)(h:SqL X.K H a xs):∃ its:List Value,aW xs its/\PlainL s.heap a its.toArray/\xs.length<=sizeLine:=by
 rcases h with h|⟨o,its,n,hk,hc,hd,hs,hz,r⟩
 ·obtain⟨z,its,n,r,e⟩:=h.ok I.hok;exact⟨its,r,⟨_,n,e,rfl,rfl,rfl⟩,z⟩
 ·refine⟨its.toList,r,⟨o,n,I.kIn a o hk,hc,hd,by simpa using hs⟩,?_⟩;have e:=r.length;simp only [Tt] at e;omega
def Inv.tuple(I:Inv X pins σ H s)(h:SqT X.K H a xs):∃ its:List Value,aW xs its/\IsTup s.heap a its.toArray/\xs.length<=sizeLine:=by
 rcases h with h|⟨o,its,n,hk,hc,hs,hz,r⟩
 ·obtain⟨z,its,r,p⟩:=h.ok I.hok;exact⟨its,r,p,z⟩
 ·refine⟨its.toList,r,⟨o,I.kIn a o hk,hc,n,by simpa using hs⟩,?_⟩;have e:=r.length;simp only [Tt] at e;omega
def Inv.list_inj(I:Inv X pins σ H s)(h:SqL X.K H a xs)(h':SqL X.K H a ys):xs=ys:=by
 obtain⟨its,r,⟨o,n,e,_,_,d⟩,_⟩:=I.list h;obtain⟨its',r',⟨o',n',e',_,_,d'⟩,_⟩:=I.list h';rw [e] at e';cases e';rw [d] at d'
 injection d' with d1 _
 have:its=its':=by simpa using Tf Array.toList d1
 subst this;exact r.inj r'
def Inv.tuple_inj(I:Inv X pins σ H s)(h:SqT X.K H a xs)(h':SqT X.K H a ys):xs=ys:=by
 obtain⟨its,r,⟨o,e,_,n,d⟩,_⟩:=I.tuple h;obtain⟨its',r',⟨o',e',_,n',d'⟩,_⟩:=I.tuple h';rw [e] at e';cases e';rw [d] at d'
 injection d' with d1 _
 have:its=its':=by simpa using Tf Array.toList d1
 subst this;exact r.inj r'
end
abbrev Cx.wish(X:Cx)(E:Value->Shared->Prop):Cx:={ X with xe:=E }
abbrev Cx.nox(X:Cx):Cx:=X.wish λ _ _=>False
def Cx.Ok.wish{X:Cx}(ok:X.Ok)(E:Value->Shared->Prop):(X.wish E).Ok:=
 ⟨ok.mod,ok.kind,ok.glob,ok.blt,ok.above,ok.inj,ok.has,ok.cab,ok.hd,ok.frames,ok.stk,ok.exf,ok.bs,ok.bsz,ok.noex,ok.exfs,ok.funs,ok.frf⟩
def Cx.Ok.unwish{X:Cx}{E:Value->Shared->Prop}(ok:(X.wish E).Ok):X.Ok:=
 ⟨ok.mod,ok.kind,ok.glob,ok.blt,ok.above,ok.inj,ok.has,ok.cab,ok.hd,ok.frames,ok.stk,ok.exf,ok.bs,ok.bsz,ok.noex,ok.exfs,ok.funs,ok.frf⟩
section
variable {X:Cx}{pins:List (Addr × Obj)}{σ:St}{H:Hp}{s:Shared}{E:Value->Shared->Prop}
def Inv.wish(I:Inv X pins σ H s)(E:Value->Shared->Prop):Inv (X.wish E) pins σ H s:=⟨I.ok.wish E,I.os,I.bare,I.base,I.loc,I.cell,I.free,I.freeC,I.pin,I.hok,I.len⟩
def Inv.unwish(I:Inv (X.wish E) pins σ H s):Inv X pins σ H s:=⟨I.ok.unwish,I.os,I.bare,I.base,I.loc,I.cell,I.free,I.freeC,I.pin,I.hok,I.len⟩
def SP.unwish{D:kI}{f:Flow}{s':Shared}(h:SP (X.wish E) pins D f s'):SP X pins D f s':=by
 cases f with
 | next=>obtain⟨σ',H',I,q⟩:=h;exact⟨σ',H',I.unwish,q⟩
 | brk=>obtain⟨σ',H',I,q⟩:=h;exact⟨σ',H',I.unwish,q⟩
 | cont=>obtain⟨σ',H',I,q⟩:=h;exact⟨σ',H',I.unwish,q⟩
 | ret u=>obtain⟨v,σ',H',I,r,q⟩:=h;exact⟨v,σ',H',I.unwish,r,q⟩
def PSs.nox{st:List Stmt}{t:TS}(h:PSs X.nox st t):PSs X st t:=λ pins s σ H D I hw=>
 Up (h pins s σ H D (I.wish _) hw) (λ _ _ q=>q.unwish) λ _ _ z=>False.elim z
end
section
variable {X:Cx}{st:Stmt}{km:List Stmt}{t u:TS}{e:Expr}{te:TE}{pos:Pos}
def FU:TS:=λ D σ H=>D.nx σ H
def Qg(t u:TS):TS:=λ D σ H=>t { D with nx:=u D } σ H
def aA:PSs X [] FU:=λ _ _ σ H _ I h=>Us ⟨σ,H,I,h⟩
def iG(h1:PS X st t)(h2:PSs X km u):PSs X (st::km) (Qg t u):=by
 intro pins s σ H D I h;refine wpAny_execs_cons (thn (h1 pins s σ H { D with nx:=u D } I h) λ f s1 q=>?_)
 cases f with
 | next=>
  obtain⟨σ',H',I',q⟩:=q;exact h2 pins s1 σ' H' D I' q
 | ret v=>exact q
 | brk=>exact q
 | cont=>exact q
def n9(h1:PS X st t):PSs X [st] t:=by
 intro pins s σ H D I h;refine wpAny_execs_cons (thn (h1 pins s σ H D I h) λ f s1 q=>?_)
 cases f with
 | next=>exact Us q
 | ret v=>exact q
 | brk=>exact q
 | cont=>exact q
def Ha:PS X (.Pass pos) FU:=λ _ _ σ H _ I h=>wpAny_Pass ⟨σ,H,I,h⟩
def Inv.quiet{pins:List (Addr × Obj)}{σ:St}{H:Hp}{s:Shared}(I:Inv X pins σ H s):interactive X.env=false:=by simp [interactive,I.ok.kind]
def Kd(te:TE):TS:=λ D σ H=>te σ H λ _ H1=>D.nx σ H1
def Hb(he:PE X e te)(hs:swapsWith e none pos.line X.env=pure false:=by rfl):PS X (.Expr e pos) (Kd te):=by
 intro pins s σ H D I h;exact wpAny_Expr_any (thn (he pins s σ H _ I h) λ v s1 ⟨x,H1,I1,r1,q1⟩=>⟨σ,H1,I1,q1⟩) I.quiet hs
def Qi(te:TE):TS:=λ D σ H=>te σ H D.rt
def yO(he:PE X e te):PS X (.Return (some e) pos) (Qi te):=by
 intro pins s σ H D I h;exact wpAny_Return_some (thn (he pins s σ H _ I h) λ v s1 ⟨x,H1,I1,r1,q1⟩=>⟨x,σ,H1,I1,r1,q1⟩)
def Ka:TS:=λ D _ H=>D.rt .non H
def G9:PS X (.Return none pos) Ka:=λ _ _ σ H _ I h=>wpAny_Return_none ⟨.non,σ,H,I,rfl,h⟩
def NX(c:TT)(t u:TS):TS:=λ D σ H=>c σ H λ b H1=>if b=true then t D σ H1 else u D σ H1
def Gg{c:Expr}{a b:List Stmt}{tc:TT}(hc:PT X c tc)(ha:PSs X a t)(hb:PSs X b u):PS X (.If c a b pos) (NX tc t u):=by
 intro pins s σ H D I h;refine wpAny_If (thn (hc pins s σ H _ I h) λ d s1 ⟨H1,I1,q1⟩=>?_)
 cases d with
 | true=>exact ha pins s1 σ H1 D I1 q1
 | false=>exact hb pins s1 σ H1 D I1 q1
def K7:TS:=λ _ _ _=>False
def bV:PS X st K7:=λ _ _ _ _ _ _ h=>h.elim
end
abbrev TG:=V->St->Hp->(St->Hp->Prop)->Prop
abbrev TGs:=List V->St->Hp->(St->Hp->Prop)->Prop
def PG(X:Cx)(target:Expr)(t:TG):Prop:=
 ∀ (pins:List (Addr × Obj)) (s:Shared) (σ:St) (H:Hp) (v:V) (u:Value) (Q:St->Hp->Prop),Inv X pins σ H s->bD v u->t v σ H Q →
  wpAny (model X.prog X.w) X.A (assign target X.env u) (λ _ s'=>∃ σ' H',Inv X pins σ' H' s'/\Q σ' H') X.xe s
def PGs(X:Cx)(ts:List Expr)(t:TGs):Prop:=
 ∀ (pins:List (Addr × Obj)) (s:Shared) (σ:St) (H:Hp) (vs:List V) (us:List Value) (Q:St->Hp->Prop),Inv X pins σ H s->aW vs us->t vs σ H Q →
  wpAny (model X.prog X.w) X.A (assignInOrder ((assignEach ts X.env).map (·.2)) us) (λ _ s'=>∃ σ' H',Inv X pins σ' H' s'/\Q σ' H') X.xe s
abbrev Fn:=V->V->V->Hp->(Hp->Prop)->Prop
def QT(X:Cx)(t:Fn):Prop:=
 ∀ (pins:List (Addr × Obj)) (s:Shared) (σ:St) (H:Hp) (o i v:V) (ov iv u:Value) (Q:Hp->Prop),Inv X pins σ H s->bD o ov->bD i iv->bD v u->t o i v H Q →
  wpAny (model X.prog X.w) X.A (setItem ov iv u) (λ _ s'=>∃ H',Inv X pins σ H' s'/\Q H') X.xe s
section
variable {X:Cx}{pos:Pos}
def gM(i:Nat):TG:=λ v σ H Q=>Q (σ.set i (some v)) H
def zo{i:Nat}{x:Str}(hN:X.N.Nodup)(hi:X.N[i]? = some x)(hx:Loc X.env.scope x)(hf:X.fn x=true\/X.env.scope.names.lookup x=some .local:=by first|exact .inl rfl|exact .inr rfl|assumption):PG X (.Name x pos) (gM i):=by
 intro pins s σ H v u Q I r h;exact wpAny_assign_Name (vg I hN hi hx r (λ s' I'=>⟨_,H,I',h⟩) hf)
def QS:TGs:=λ vs σ H Q=>vs=[]/\Q σ H
def KO(t:TG)(u:TGs):TGs:=λ vs σ H Q=>∃ v r,vs=v::r/\t v σ H λ σ' H'=>u r σ' H' Q
def Hi:PGs X [] QS:=by
 intro pins s σ H vs us Q I r h;obtain⟨e,h⟩:=h;subst e;cases r;exact assignInOrder_nil ⟨σ,H,I,h⟩
def DO{e:Expr}{es:List Expr}{t:TG}{u:TGs}(h1:PG X e t)(h2:PGs X es u)
  (hs:(assignEach (e::es) X.env).map (·.2)=assign e X.env::(assignEach es X.env).map (·.2):=by rfl):PGs X (e::es) (KO t u):=by
 intro pins s σ H vs us Q I r h;obtain⟨v,vr,e1,h⟩:=h;subst e1
 cases r with
 | cons r rr=>
  rw [hs];refine assignInOrder_cons (thn (h1 pins s σ H _ _ _ I r h) λ _ s1 ⟨σ1,H1,I1,q1⟩=>?_);exact h2 pins s1 σ1 H1 _ _ Q I1 rr q1
def QQ(K:W.Frag)(n:Nat)(t:TGs):TG:=λ v σ H Q=>∃ a xs,v=.ref a/\SqT K H a xs/\xs.length=n/\t xs σ H Q
def Lk{es:List Expr}{k:Nat}{t:TGs}{n:Nat}(hc:X.calm=true)(h:PGs X es t)
  (hn:(assignEach es X.env).length=n:=by rfl) (aa:(assignEach es X.env).findIdx? (·.1)=none:=by rfl):PG X (.Tuple es k pos) (QQ X.K n t):=by
 intro pins s σ H v u Q I r hw;obtain⟨a,xs,e1,hq,hl,hw⟩:=hw;subst e1;cases r;obtain⟨its,rv,ht,hz⟩:=I.tuple hq;refine assign_Tuple_tuple (I.ok.hd hc) ht (by simp [hn,←hl,rv.length]) aa λ h' hx=>?_;have I1:Inv X pins σ H { s with heap:=h' }:=I.kept (t':=s.toks) λ b o e=>hx b o (RT (RF e)) e;exact h pins _ σ H xs _ Q I1 (by simpa using rv) hw
def QR(to ti:TE)(t:Fn):TG:=λ v σ H Q=>to σ H λ o H1=>ti σ H1 λ i H2=>t o i v H2 λ H3=>Q σ H3
def u5{o i:Expr}{to ti:TE}{t:Fn}(ho:PE X o to)(hi:PE X i ti)(hs:QT X t)
  (ha:∀ v,assign (.Subscript o i pos) X.env v=(do
   let ov ←holding [v] (eval o X.env)
   let iv ←holding [v,ov] (eval i X.env)
   standAt pos
   holding [v,ov,iv] (setItem ov iv v)
   release [v,ov,iv] []):=by intro _;rfl):PG X (.Subscript o i pos) (QR to ti t):=by
 intro pins s σ H v u Q I r h;rw [ha];refine My (SU (thn (ho pins s σ H _ I h) λ ov s1 ⟨x,H1,I1,r1,q1⟩=>?_));refine My (SU (thn (hi pins s1 σ H1 _ I1 q1) λ iv s2 ⟨y,H2,I2,r2,q2⟩=>?_));refine My (wpAny_standAt (My (SU (thn (hs pins s2 σ H2 x y v ov iv u _ I2 r1 r2 r q2) λ _ s3 ⟨H3,I3,q3⟩=>?_))));exact wpAny_release ⟨σ,H3,I3,q3⟩
def NY(te:TE)(g:TG):TS:=λ D σ H=>te σ H λ x H1=>g x σ H1 D.nx
def Lg{tg e:Expr}{te:TE}{g:TG}(he:PE X e te)(hg:PG X tg g)(hs:swapsWithSole [tg] e pos.line X.env=pure false:=by rfl)(hw:swappedStores [tg] e X.env=pure none:=by rfl)
  (h1:(assignEach [tg] X.env).map (·.2)=[assign tg X.env]:=by rfl):PS X (.Assign [tg] e pos) (NY te g):=by
 intro pins s σ H D I h;refine wpAny_Assign_stores (thn (he pins s σ H _ I h) λ v s1 ⟨x,H1,I1,r1,q1⟩=>?_) hs hw;rw [h1];exact thn (hg pins s1 σ H1 x v _ I1 r1 q1) λ _ s2 q=>q
def jR{i:Nat}{x:Str}{e:Expr}{te:TE}{pos':Pos}(hN:X.N.Nodup)(hi:X.N[i]? = some x)(hx:Loc X.env.scope x)(he:PE X e te)(hs:swapsWith e (some (.Name x pos')) pos.line X.env=pure false:=by rfl)(hf:X.fn x=true\/X.env.scope.names.lookup x=some .local:=by first|exact .inl rfl|exact .inr rfl|assumption) :
  PS X (.Assign [.Name x pos'] e pos) (NY te (gM i)):=by
 intro pins s σ H D I h;refine wpAny_Assign_Name (thn (he pins s σ H _ I h) λ v s1 ⟨y,H1,I1,r1,q1⟩=>?_) hs;exact vg I1 hN hi hx r1 (λ s2 I2=>⟨_,H1,I2,q1⟩) hf
end
section
variable {X:Cx}{pos:Pos}
def yu(c:TT)(tb:TS):TS:=λ D σ H=>∃ W:Nat->St->Hp->Prop,(∃ m,W m σ H)/\∀ m σ H,W m σ H →
 c σ H λ b H1=>if b=true then ∃ N:St->Hp->Prop,(∀ σ' H',N σ' H'->∃ m',m' < m/\W m' σ' H')/\tb { D with nx:=N,ct:=N,bk:=D.nx } σ H1 else D.nx σ H1
def DI{c:Expr}{body:List Stmt}{tc:TT}{tb:TS}(hp:PassesOwn (model X.prog X.w) X.A X.env X.xe)(hc:PT X c tc)(hb:PSs X body tb):PS X (.While c body [] pos) (yu tc tb):=by
 intro pins s σ H D I h;obtain⟨W,⟨m0,w0⟩,turn⟩:=h;refine wpAny_While (codeAny_whileLoop (λ n s'=>∃ σ' H',Inv X pins σ' H' s'/\W n σ' H') ?_ m0 ⟨σ,H,I,w0⟩);rintro n s1 ⟨σ1,H1,I1,w1⟩;refine Tj hp (thn (hc pins s1 σ1 H1 _ I1 (turn n σ1 H1 w1)) λ b s2 ⟨H2,I2,q2⟩=>?_)
 cases b with
 | true=>
  obtain⟨N,hN,q2⟩:=q2;rw [RX rfl];refine Tj hp (thn (hb pins s2 σ1 H2 _ I2 q2) λ f s3 q3=>?_)
  cases f with
  | next=>
   obtain⟨σ3,H3,I3,n3⟩:=q3;obtain⟨m',hm,w3⟩:=hN σ3 H3 n3;exact⟨m',hm,σ3,H3,I3,w3⟩
  | cont=>
   obtain⟨σ3,H3,I3,n3⟩:=q3;obtain⟨m',hm,w3⟩:=hN σ3 H3 n3;exact⟨m',hm,σ3,H3,I3,w3⟩
  | brk=>exact q3
  | ret v=>exact q3
 | false=>
  rw [RQ RM];exact Us ⟨σ1,H2,I2,q2⟩
end
structure It where
 go:Nat->Hp->Prop
 yld:Nat->Hp->V->Hp->Prop
 stop:Nat->Hp->Prop
def sF(X:Cx)(pins:List (Addr × Obj))(H:Hp)(b:Addr):Prop:=
 H b=none/\b ≠ X.env.locals/\b ∉ X.fs/\(b∈X.ex\/X.s₀.heap.objs.size<=b)/\(∀ x c,X.env.cells.lookup x=some c->c ≠ b)/\∀ p∈X.pn++pins,p.1 ≠ b
def Inv.fpOk{X:Cx}{pins:List (Addr × Obj)}{σ:St}{H H':Hp}{s:Shared}{b:Addr}(I:Inv X pins σ H s)(hb:s.heap.objs.size<=b)(hn:H' b=none):sF X pins H' b:=by
 refine⟨hn,So (RV I.lt hb),I.nofs hb,.inr (Sj I.sz hb),λ x c e z=>?_,λ p hp z=>?_⟩
 ·obtain⟨v,q⟩:=I.cell x c e;exact absurd (RV q.lt (by rw [z];exact hb)) (SE _)
 ·exact absurd (RV (RF (I.pin p hp).1) (by rw [z];exact hb)) (SE _)
structure Turn(P:Program)(w:World)(K:W.Frag)(tg:Expr)(J:It)(fp:List Addr)(it:Addr)(tn:Nat->Heap->Prop):Prop where
 mem:it∈fp
 obj:∀ i h,tn i h->∀ b∈fp,∃ o,h.get? b=some o/\∀ v,o.data ≠ .cell v
 keep:∀ i h h',tn i h->(∀ b∈fp,∀ o,h.get? b=some o->h'.get? b=some o)->tn i h'
 item:∀ (X:Cx),X.prog=P->X.w=w->X.K=K->X.calm=true->∀ (i:Nat) (pins:List (Addr × Obj)) (s:Shared) (σ:St) (H:Hp) (E:Value->Shared->Prop),Inv X pins σ H s->(∀ b∈fp,sF X pins H b)->tn i s.heap->J.go i H →
  wpAny (model P w) X.A (pyNext (.ref it)) (λ r s1=>∃ u,r=some u /\
   wpAny (model P w) X.A (letOwnedTupleGo tg (.ref it) u) (λ _ s2=>∃ x H',Inv X pins σ H' s2/\bD x u/\J.yld i H x H'/\tn (i+1) s2.heap/\∀ b∈fp,H' b=none) E s1) E s
 done:∀ (X:Cx),X.prog=P->X.w=w->X.K=K->X.calm=true->∀ (i:Nat) (pins:List (Addr × Obj)) (s:Shared) (σ:St) (H:Hp) (E:Value->Shared->Prop),Inv X pins σ H s->(∀ b∈fp,sF X pins H b)->tn i s.heap->J.stop i H →
  wpAny (model P w) X.A (pyNext (.ref it)) (λ r s1=>r=none/\Inv X pins σ H s1) E s
 self:∀ (A:Around) (i:Nat) (s:Shared) (Q:Value->Shared->Prop) (E:Value->Shared->Prop),tn i s.heap->Q (.ref it) s->wpAny (model P w) A (pyIter (.ref it)) Q E s
abbrev TI:=St->Hp->(It->Hp->Prop)->Prop
def PIE(X:Cx)(pins:List (Addr × Obj))(σ:St)(tg:Expr)(R:It->Hp->Prop)(aa:Value)(s2:Shared):Prop:=
 ∃ (it:Addr) (fp:List Addr) (tn:Nat->Heap->Prop) (J:It) (H':Hp),aa=.ref it/\Inv X pins σ H' s2/\Turn X.prog X.w X.K tg J fp it tn/\tn 0 s2.heap/\(∀ b∈fp,sF X pins H' b)/\R J H'
def PI(X:Cx)(tg iter:Expr)(wi:TI):Prop:=
 ∀ (pins:List (Addr × Obj)) (s:Shared) (σ:St) (H:Hp) (R:It->Hp->Prop),Inv X pins σ H s->wi σ H R →
  wpAny (model X.prog X.w) X.A (eval iter X.env) (λ v s1=>wpAny (model X.prog X.w) X.A (pyIter v) (PIE X pins σ tg R) X.xe s1) X.xe s
def wJ{M:Model}{A:Around}{E:Value->Shared->Prop}{s:Shared}{tg:Expr}{it:Addr}{u:Value}{o:Obj}{n:String}{vs:Array Value}{Q:Unit->Shared->Prop}(ho:s.heap.get? it=some o)(hc:o.cls=.type n)(hd:o.data=.fields vs)
    (hn:["enumerate", "zip", "dict_itemiterator", "dict_reverseitemiterator", "odict_iterator", "itertools.zip_longest", "itertools.pairwise"].contains n=false) (hQ:Q () s):wpAny M A (letOwnedTupleGo tg (.ref it) u) Q E s:=by
  unfold letOwnedTupleGo
  cases tg<;>first
    | exact RI hQ
    | (cases u<;>first
        | exact RI hQ
        | (refine My (wpAny_load ho ?_)
           rw [hc,hd]
           show wpAny M A (if (["enumerate", "zip", "dict_itemiterator", "dict_reverseitemiterator", "odict_iterator", "itertools.zip_longest", "itertools.pairwise"].contains n && vs[0]? == some (rawInt _))=true then _ else _) Q E s
           rw [RQ (by intro h;rw [hn,Uo] at h;cases h)];exact RI hQ))
def Itl(K:W.Frag)(a:Addr):It:=
 ⟨λ i H=>∃ xs x,SqL K H a xs/\xs[i]? = some x,λ i H x H'=>H'=H/\∀ xs,SqL K H a xs->xs[i]? = some x,λ i H=>∃ xs,SqL K H a xs/\xs.length<=i⟩
def Itt(K:W.Frag)(a:Addr):It:=
 ⟨λ i H=>∃ xs x,SqT K H a xs/\xs[i]? = some x,λ i H x H'=>H'=H/\∀ xs,SqT K H a xs->xs[i]? = some x,λ i H=>∃ xs,SqT K H a xs/\xs.length<=i⟩
def Itr(lo:Int)(n:Nat):It:=⟨λ i _=>i < n,λ i H x H'=>H'=H/\x=.int (lo+i),λ i _=>n<=i⟩
def Ap{P:Program}{w:World}{K:W.Frag}{tg:Expr}(a it:Addr):Turn P w K tg (Itl K a) [it] it (λ i h=>h.IsListIter it a i) where
 mem:=by simp
 obj:=λ i h st b hb=>by
  have e:b=it:=by simpa using hb
  subst e;obtain⟨o,e,c,d⟩:=st;exact⟨o,e,λ v z=>by rw [d] at z;cases z⟩
 keep:=λ i h h' st k=>st.at λ o e=>k it (by simp) o e
 item:=by
  intro X hP hw hK hc i pins s σ H E I hf st hg;subst hP hw hK;obtain⟨xs,x,hq,hx⟩:=hg;obtain⟨its,rv,p,hz⟩:=I.list hq;obtain⟨u,hu,ru⟩:=rv.get hx;obtain⟨f0,f1,f2,f3,f4,f5⟩:=hf it (by simp);refine wpAny_pyNext_list_item st p.isList (x:=u) (by simpa using hu) λ h' aa sb=>?_;have I1:Inv X pins σ H { s with heap:=h' }:=I.turned (t':=s.toks) (λ b o hb e=>(sb.2 b hb).trans e) f0 f1 f3 f4 f5;obtain⟨o,e,c,d⟩:=id aa;exact⟨u,rfl,wJ (s:={ s with heap:=h' }) e c d (by decide) ⟨x,H,I1,ru,⟨rfl,λ ys hy=>by rw [I.list_inj hy hq];exact hx⟩,aa,λ b hb=>(hf b hb).1⟩⟩
 done:=by
  intro X hP hw hK hc i pins s σ H E I hf st hg;subst hP hw hK;obtain⟨xs,hq,hx⟩:=hg;obtain⟨its,rv,p,hz⟩:=I.list hq;obtain⟨f0,f1,f2,f3,f4,f5⟩:=hf it (by simp);have hl:=rv.length;exact wpAny_pyNext_list_end (I.ok.hd hc) st p.isList (by simp;omega) λ h' eb=>⟨rfl,I.turned (t':=s.toks) (λ b o hb e=>eb b o hb e) f0 f1 f3 f4 f5⟩
 self:=λ _ _ _ _ _ st h=>wpAny_pyIter_listiter st h
def wL{P:Program}{w:World}{K:W.Frag}{tg:Expr}(a it:Addr):Turn P w K tg (Itt K a) [it] it (λ i h=>h.IsTupleIter it a i) where
 mem:=by simp
 obj:=λ i h st b hb=>by
  have e:b=it:=by simpa using hb
  subst e;obtain⟨o,e,c,d⟩:=st;exact⟨o,e,λ v z=>by rw [d] at z;cases z⟩
 keep:=λ i h h' st k=>st.at λ o e=>k it (by simp) o e
 item:=by
  intro X hP hw hK hc i pins s σ H E I hf st hg;subst hP hw hK;obtain⟨xs,x,hq,hx⟩:=hg;obtain⟨its,rv,p,hz⟩:=I.tuple hq;obtain⟨u,hu,ru⟩:=rv.get hx;obtain⟨f0,f1,f2,f3,f4,f5⟩:=hf it (by simp);refine wpAny_pyNext_tuple_item st (show s.heap.IsTuple a its.toArray from p) (x:=u) (by simpa using hu) λ h' aa sb=>?_;have I1:Inv X pins σ H { s with heap:=h' }:=I.turned (t':=s.toks) (λ b o hb e=>(sb.2 b hb).trans e) f0 f1 f3 f4 f5;obtain⟨o,e,c,d⟩:=id aa;exact⟨u,rfl,wJ (s:={ s with heap:=h' }) e c d (by decide) ⟨x,H,I1,ru,⟨rfl,λ ys hy=>by rw [I.tuple_inj hy hq];exact hx⟩,aa,λ b hb=>(hf b hb).1⟩⟩
 done:=by
  intro X hP hw hK hc i pins s σ H E I hf st hg;subst hP hw hK;obtain⟨xs,hq,hx⟩:=hg;obtain⟨its,rv,p,hz⟩:=I.tuple hq;obtain⟨f0,f1,f2,f3,f4,f5⟩:=hf it (by simp);have hl:=rv.length;exact wpAny_pyNext_tuple_end (I.ok.hd hc) st (show s.heap.IsTuple a its.toArray from p) (by simp;omega) λ h' eb=>⟨rfl,I.turned (t':=s.toks) (λ b o hb e=>eb b o hb e) f0 f1 f3 f4 f5⟩
 self:=λ _ _ _ _ _ st h=>wpAny_pyIter_tupleiter st h
def wM{P:Program}{w:World}{K:PySem.W.Frag}{tg:Expr}(it:Addr)(lo:Int)(n:Nat):Turn P w K tg (Itr lo n) [it] it (λ i h=>IsRangeIter h it (lo+(i:Nat) * 1) ((n:Int) - (i:Nat)) 1) where
 mem:=by simp
 obj:=λ i h st b hb=>by
  have e:b=it:=by simpa using hb
  subst e
  exact⟨_,st,λ v z=>by
   have z':Data.fields _=Data.cell v:=z;cases z'⟩
 keep:=λ i h h' st k=>k it (by simp) _ st
 item:=by
  intro X hP hw hK hc i pins s σ H E I hf st hg;subst hP hw hK;obtain⟨f0,f1,f2,f3,f4,f5⟩:=hf it (by simp);have W:=Walks.range (prog:=X.prog) (w:=X.w) (I.ok.hd hc) it lo 1 n;refine W.item i s _ _ hg st λ v h' tk hv aa kk=>?_;obtain⟨t,rfl⟩:=hv;have I1:Inv X pins σ H { s with heap:=h',toks:=tk }:=I.turned (λ b o hb e=>kk b o (by simpa using hb) e) f0 f1 f3 f4 f5;refine⟨_,rfl,wJ (s:={ s with heap:=h',toks:=tk }) (n := "range_iterator") aa rfl rfl (by decide) ⟨.int (lo+i),H,I1,⟨t,?_⟩,⟨rfl,rfl⟩,aa,λ b hb=>(hf b hb).1⟩⟩;rw [Int.mul_one]
 done:=by
  intro X hP hw hK hc i pins s σ H E I hf st hg;subst hP hw hK;obtain⟨f0,f1,f2,f3,f4,f5⟩:=hf it (by simp);exact wpAny_pyNext_range_end (I.ok.hd hc) st (by have:n<=i:=hg;omega) λ h' eb=>⟨rfl,I.turned (t':=s.toks) (λ b o hb e=>eb b o hb e) f0 f1 f3 f4 f5⟩
 self:=λ _ _ _ _ _ st h=>wpAny_pyIter_rangeiter st h
section
variable {X:Cx}{tg:Expr}
def DE{pins:List (Addr × Obj)}{σ:St}{H:Hp}{s:Shared}{R:It->Hp->Prop}{E:Value->Shared->Prop}{lo hi:Int}{t u v:Tok}{tk:Nat}(I:Inv X pins σ H s)(h1:-(2 ^ 62)<=lo)(h2:lo < 2 ^ 62)(h3:-(2 ^ 62)<=hi)(h4:hi < 2 ^ 62)
  (q:R (Itr lo (hi - lo).toNat) H):wpAny (model X.prog X.w) X.A (pyIter (.ref s.heap.objs.size)) (PIE X pins σ tg R) E { s with heap:=s.heap.push { cls:=.type "range",data:=.fields #[.int lo t,.int hi u,.int 1 v] },toks:=tk }:=by
 refine wpAny_pyIter_range (IsRange.new ..) (small_one h1 h2 h3 h4) ?_;have I1:Inv X pins σ H { s with heap:=s.heap.push { cls:=.type "range",data:=.fields #[.int lo t,.int hi u,.int 1 v] },toks:=tk }:=I.kept λ b o e=>RD _ e
 refine⟨(s.heap.push { cls:=.type "range",data:=.fields #[.int lo t,.int hi u,.int 1 v] }).objs.size,[(s.heap.push { cls:=.type "range",data:=.fields #[.int lo t,.int hi u,.int 1 v] }).objs.size],_,_,H,rfl,
  I1.kept (t':=tk) λ b o e=>RD _ e,wM _ lo (hi - lo).toNat,?_,λ b hb=>?_,q⟩
 ·have e1:lo+((0:Nat):Int) * 1=lo:=by simp
  have e2:(((hi - lo).toNat:Nat):Int) - ((0:Nat):Int)=Builtin.Range.rangeSize lo hi 1:=by rw [rangeSize_one];split<;>omega
  show IsRangeIter _ _ (lo+((0:Nat):Int) * 1) ((((hi - lo).toNat:Nat):Int) - ((0:Nat):Int)) 1
  rw [e1,e2];exact RK _ rfl
 ·have e:b=(s.heap.push { cls:=.type "range",data:=.fields #[.int lo t,.int hi u,.int 1 v] }).objs.size:=by simpa using hb
  subst e;exact I1.fpOk (RJ _) (I1.hok.fresh (RJ _))
def KJ(ta:TA):TI:=λ σ H R=>ta σ H λ vs H1=>∃ j:Int,vs=[.int j]/\-(2 ^ 62)<=j/\j < 2 ^ 62/\R (Itr 0 j.toNat) H1
def Ax{a:Expr}{ta:TA}{p pos:Pos}(hg:Gl X "range")(hm:X.mg "range"=none)(ha:PA X [a] ta)(hs:starEach [a] X.env=[(false,eval a X.env)]:=by rfl):PI X tg (.Call (.Name "range" p) [a] [] pos) (KJ ta):=by
 intro pins s σ H R I h;refine Call_ (fB I hg hm boot_range (Sg (thn (ha pos pins s σ H _ I h) λ us s1 ⟨vs,H1,I1,r1,q1⟩=>?_) hs rfl));obtain⟨j,e,q1,q2,q⟩:=q1;subst e
 cases r1 with
 | cons r rr=>
  cases rr;obtain⟨t,rfl⟩:=r;exact call_range_1 (DE I1 (by omega) (by omega) q1 q2 (by simpa using q))
def Qk(wi:TI)(g:TG)(tb:TS):TS:=λ D σ H=>wi σ H λ J H1=>∃ W:Nat->Nat->St->Hp->Prop,(∃ m,W 0 m σ H1)/\∀ i m σ H,W i m σ H →
 (J.stop i H/\D.nx σ H)\/(J.go i H/\∃ N:St->Hp->Prop,(∀ σ' H',N σ' H'->∃ m',m' < m/\W (i+1) m' σ' H')/\∀ x H',J.yld i H x H'->g x σ H' λ σ2 H2=>tb { D with nx:=N,ct:=N,bk:=D.nx } σ2 H2)
def p8(fp:List Addr)(h:Heap):List (Addr × Obj):=fp.filterMap λ b=>(h.get? b).map λ o=>(b,o)
def gw{fp:List Addr}{h:Heap}{b:Addr}{o:Obj}(hb:b∈fp)(e:h.get? b=some o):(b,o)∈p8 fp h:=List.mem_filterMap.mpr ⟨b,hb,by rw [e];rfl⟩
def AF{fp:List Addr}{h:Heap}{p:Addr × Obj}(hp:p∈p8 fp h):p.1∈fp/\h.get? p.1=some p.2:=by
 obtain⟨b,hb,e⟩:=List.mem_filterMap.mp hp
 cases q:h.get? b with
 | none=>rw [q] at e;cases e
 | some o=>
  rw [q] at e;have e':(b,o)=p:=Ss e;subst e';exact⟨hb,q⟩
def Inv.pinned{pins:List (Addr × Obj)}{σ:St}{H:Hp}{s:Shared}{fp:List Addr}(I:Inv X pins σ H s)(hf:∀ b∈fp,sF X pins H b)(ho:∀ b∈fp,∃ o,s.heap.get? b=some o/\∀ v,o.data ≠ .cell v):Inv X (pins++p8 fp s.heap) σ H s:=
 I.pins_of λ p hp=>(SD.mp hp).elim (λ z=>I.pin p (SG _ z)) λ z=>by
  obtain⟨hb,e⟩:=AF z;obtain⟨f0,f1,f2,_⟩:=hf p.1 hb;obtain⟨o,e',d⟩:=ho p.1 hb;rw [e] at e';cases e';exact⟨e,f0,f1,f2,d⟩
def Inv.unpinned{pins pl:List (Addr × Obj)}{σ:St}{H:Hp}{s:Shared}(I:Inv X (pins++pl) σ H s):Inv X pins σ H s:=I.pins_of λ p hp=>I.pin p (SG _ (T9 _ hp))
def Lf{iter:Expr}{body:List Stmt}{wi:TI}{g:TG}{tb:TS}{pos:Pos}(hp:PassesOwn (model X.prog X.w) X.A X.env X.xe)(hc:X.calm=true)(hi:PI X tg iter wi)(hg:PG X tg g)(hb:PSs X body tb)
  (hs:∀ x,foldedSetIterable iter X.env x=pure x:=by intro _;rfl):PS X (.For tg iter body [] pos) (Qk wi g tb):=by
 intro pins s σ H D I h;refine wpAny_For (thn (hi pins s σ H _ I h) λ v s1 h1=>thn h1 λ a8 s2 h2=>?_) hs;obtain⟨it,fp,tn,J,H2,e,I2,T,a5,f2,W,⟨m0,w0⟩,turn⟩:=h2;subst e;have aa:∀ {H':Hp},(∀ b∈fp,H' b=none)->∀ b∈fp,sF X pins H' b:=λ hn b hb=>⟨hn b hb,(f2 b hb).2⟩;refine codeAny_forLoop_any (λ n s'=>∃ i σ' H',Inv X pins σ' H' s'/\tn i s'.heap/\(∀ b∈fp,H' b=none)/\W i n σ' H') ?_ m0 ⟨0,σ,H2,I2,a5,λ b hb=>(f2 b hb).1,w0⟩;rintro n s3 ⟨i,σ3,H3,I3,a3,a4,w3⟩
 rcases turn i n σ3 H3 w3 with ⟨stop,qn⟩|⟨go,N,hN,step⟩
 ·refine Tj hp (thn (T.done X rfl rfl rfl hc i pins s3 σ3 H3 X.xe I3 (aa a4) a3 stop) λ r s4 ⟨hr,I4⟩=>?_);subst hr;exact Us ⟨σ3,H3,I4,qn⟩
 ·refine Tj hp (thn (T.item X rfl rfl rfl hc i pins s3 σ3 H3 X.xe I3 (aa a4) a3 go) λ r s4 ⟨u,hr,h4⟩=>?_);subst hr;refine Tj hp (thn h4 λ _ s5 ⟨x,H5,I5,r5,y5,aS,a6⟩=>?_);have a7:=I5.pinned (aa a6) (T.obj _ _ aS);refine Tj hp (thn (hg _ s5 σ3 H5 x u _ a7 r5 (step x H5 y5)) λ _ s6 ⟨σ6,H6,I6,q6⟩=>?_);refine Tj hp (thn (hb _ s6 σ6 H6 _ I6 q6) λ f s7 q7=>?_)
  have again:∀ {σ7:St} {H7:Hp},Inv X (pins++p8 fp s5.heap) σ7 H7 s7->N σ7 H7->∃ m,m < n/\∃ i σ' H',Inv X pins σ' H' s7/\tn i s7.heap/\(∀ b∈fp,H' b=none)/\W i m σ' H':=λ {σ7 H7} I7 n7=>by
   obtain⟨m',hm,w7⟩:=hN σ7 H7 n7;refine⟨m',hm,i+1,σ7,H7,I7.unpinned,T.keep _ _ _ aS λ b hb o e=>(I7.pin (b,o) (SG _ (SG _ (gw hb e)))).1,λ b hb=>?_,w7⟩;obtain⟨o,e,d⟩:=T.obj _ _ aS b hb;exact(I7.pin (b,o) (SG _ (SG _ (gw hb e)))).2.1
  cases f with
  | next=>obtain⟨σ7,H7,I7,n7⟩:=q7;exact again I7 n7
  | cont=>obtain⟨σ7,H7,I7,n7⟩:=q7;exact again I7 n7
  | brk=>obtain⟨σ7,H7,I7,q7⟩:=q7;exact⟨σ7,H7,I7.unpinned,q7⟩
  | ret v=>obtain⟨x7,σ7,H7,I7,r7,q7⟩:=q7;exact⟨x7,σ7,H7,I7.unpinned,r7,q7⟩
end
def E2{K:PySem.W.Frag}{a:Addr}{xs:List V}{g:TG}{tb:TS}{D:kI}{σ:St}{H:Hp}(Pv:Nat->St->Hp->Prop)(h0:Pv 0 σ H)(hl:∀ i σ H,i<=xs.length->Pv i σ H->SqL K H a xs)
  (hs:∀ i x σ H,xs[i]? = some x->Pv i σ H->g x σ H λ σ2 H2=>tb { D with nx:=Pv (i+1),ct:=Pv (i+1),bk:=D.nx } σ2 H2) (hd:∀ σ H,Pv xs.length σ H->D.nx σ H) :
  ∃ W:Nat->Nat->St->Hp->Prop,(∃ m,W 0 m σ H)/\∀ i m σ H,W i m σ H →
   ((Itl K a).stop i H/\D.nx σ H)\/((Itl K a).go i H/\∃ N:St->Hp->Prop,(∀ σ' H',N σ' H'->∃ m',m' < m/\W (i+1) m' σ' H')/\∀ x H',(Itl K a).yld i H x H'->g x σ H' λ σ2 H2=>tb { D with nx:=N,ct:=N,bk:=D.nx } σ2 H2):=by
 refine⟨λ i m σ H=>m=xs.length - i/\i<=xs.length/\Pv i σ H,⟨xs.length,by simp,SF _,h0⟩,?_⟩;rintro i m σ H ⟨rfl,hi,p⟩;have q:=hl i σ H hi p
 by_cases hlt:i < xs.length
 ·refine .inr ⟨⟨xs,xs[i],q,by simp [hlt]⟩,Pv (i+1),λ σ' H' p'=>⟨xs.length - (i+1),by omega,rfl,hlt,p'⟩,λ x H' y=>?_⟩;obtain⟨e,y⟩:=y;subst e;exact hs i x σ _ (y xs q) p
 ·have e:i=xs.length:=by omega
  subst e;exact .inl ⟨⟨xs,q,RJ _⟩,hd σ H p⟩
def B3{lo:Int}{n:Nat}{g:TG}{tb:TS}{D:kI}{σ:St}{H:Hp}(Pv:Nat->St->Hp->Prop)(h0:Pv 0 σ H)
  (hs:∀ i σ H,i < n->Pv i σ H->g (.int (lo+i)) σ H λ σ2 H2=>tb { D with nx:=Pv (i+1),ct:=Pv (i+1),bk:=D.nx } σ2 H2) (hd:∀ σ H,Pv n σ H->D.nx σ H) :
  ∃ W:Nat->Nat->St->Hp->Prop,(∃ m,W 0 m σ H)/\∀ i m σ H,W i m σ H →
   ((Itr lo n).stop i H/\D.nx σ H)\/((Itr lo n).go i H/\∃ N:St->Hp->Prop,(∀ σ' H',N σ' H'->∃ m',m' < m/\W (i+1) m' σ' H')/\∀ x H',(Itr lo n).yld i H x H'->g x σ H' λ σ2 H2=>tb { D with nx:=N,ct:=N,bk:=D.nx } σ2 H2):=by
 refine⟨λ i m σ H=>m=n - i/\i<=n/\Pv i σ H,⟨n,by simp,SF _,h0⟩,?_⟩;rintro i m σ H ⟨rfl,hi,p⟩
 by_cases hlt:i < n
 ·refine .inr ⟨hlt,Pv (i+1),λ σ' H' p'=>⟨n - (i+1),by omega,rfl,hlt,p'⟩,λ x H' y=>?_⟩;obtain⟨e,y⟩:=y;subst e y;exact hs i σ _ hlt p
 ·have e:i=n:=by omega
  subst e;exact .inl ⟨RJ _,hd σ H p⟩
abbrev R2:=V->V->Hp->VK->Prop
def OpR(X:Cx)(f:Value->Value->Sem Value)(r:R2):Prop:=
 ∀ (pins:List (Addr × Obj)) (s:Shared) (σ:St) (H:Hp) (x y:V) (v u:Value) (Q:VK),Inv X pins σ H s->bD x v->bD y u->r x y H Q →
  wpAny (model X.prog X.w) X.A (f v u) (EP X pins σ Q) X.xe s
def UnR(X:Cx)(f:Value->Sem Value)(r:V->Hp->VK->Prop):Prop:=
 ∀ (pins:List (Addr × Obj)) (s:Shared) (σ:St) (H:Hp) (x:V) (v:Value) (Q:VK),Inv X pins σ H s->bD x v->r x H Q →
  wpAny (model X.prog X.w) X.A (f v) (EP X pins σ Q) X.xe s
def bI(X:Cx)(f:Value)(r:List V->Hp->VK->Prop):Prop:=
 ∀ (pins:List (Addr × Obj)) (s:Shared) (σ:St) (H:Hp) (xs:List V) (us:List Value) (Q:VK),Inv X pins σ H s->aW xs us->r xs H Q →
  wpAny (model X.prog X.w) X.A (call f us) (EP X pins σ Q) X.xe s
def tOp(r:R2)(ta tb:TE):TE:=λ σ H Q=>ta σ H λ x H1=>tb σ H1 λ y H2=>r x y H2 Q
def tUn(r:V->Hp->VK->Prop)(ta:TE):TE:=λ σ H Q=>ta σ H λ x H1=>r x H1 Q
def rI(C:Int->Int->Prop)(g:Int->Int->V):R2:=λ x y H Q=>∃ i j,x=.int i/\y=.int j/\C i j/\Q (g i j) H
def rI0(g:Int->Int->V):R2:=λ x y H Q=>∃ i j,x=.int i/\y=.int j/\Q (g i j) H
def rU(g:Int->V):V->Hp->VK->Prop:=λ x H Q=>∃ i,x=.int i/\Q (g i) H
section
variable {X:Cx}{a b c:Expr}{ta tb tc:TE}{pos:Pos}
def OJ(ha:PE X a ta)(hb:PE X b tb){pins:List (Addr × Obj)}{s:Shared}{σ:St}{H:Hp}{R:V->V->Hp->Prop}(I:Inv X pins σ H s)
  (h:ta σ H λ x H1=>tb σ H1 λ y H2=>R x y H2) {Q:Value->Shared->Prop} {f:Value->Value->Sem Value}
  (hf:∀ v u s2 x y H2,Inv X pins σ H2 s2->bD x v->bD y u->R x y H2->wpAny (model X.prog X.w) X.A (f v u) Q X.xe s2) :
  wpAny (model X.prog X.w) X.A (eval a X.env) (λ v s₁=>wpAny (model X.prog X.w) X.A (eval b X.env) (λ u s₂=>wpAny (model X.prog X.w) X.A (f v u) Q X.xe s₂) X.xe s₁) X.xe s:=by
 refine thn (ha pins s σ H _ I h) λ v s1 ⟨x,H1,I1,r1,q1⟩=>?_;refine thn (hb pins s1 σ H1 _ I1 q1) λ u s2 ⟨y,H2,I2,r2,q2⟩=>?_;exact hf v u s2 x y H2 I2 r1 r2 q2
def fL{op:Operator}{r:R2}(ho:OpR X (binaryOp op) r)(ha:PE X a ta)(hb:PE X b tb):PE X (.BinOp a op b pos) (tOp r ta tb):=by
 intro pins s σ H Q I h;exact wpAny_BinOp (OJ ha hb I h λ v u s2 x y H2 I2 rx ry q=>ho pins s2 σ H2 x y v u Q I2 rx ry q)
def OV{op:UnaryOp}{r:V->Hp->VK->Prop}(ho:UnR X (unaryOp op) r)(ha:PE X a ta):PE X (.UnaryOp op a pos) (tUn r ta):=by
 intro pins s σ H Q I h;exact UnaryOp_ (thn (ha pins s σ H _ I h) λ v s1 ⟨x,H1,I1,r1,q1⟩=>ho pins s1 σ H1 x v Q I1 r1 q1)
def opI{f:Value->Value->Sem Value}{C:Int->Int->Prop}{g:Int->Int->Int}
  (rule:∀ (i j:Int) (t u:Tok) (s:Shared) (Q:Value->Shared->Prop) (E:Value->Shared->Prop),C i j->Q (.int (g i j) s.toks) { s with toks:=s.toks+1 }->wpAny (model X.prog X.w) X.A (f (.int i t) (.int j u)) Q E s) :
  OpR X f (rI C λ i j=>.int (g i j)):=by
 intro pins s σ H x y v u Q I rx ry h;obtain⟨i,j,rfl,rfl,hc,q⟩:=h;obtain⟨t,rfl⟩:=rx;obtain⟨t',rfl⟩:=ry;exact rule i j t t' s _ _ hc ⟨.int (g i j),H,I.tok _,⟨_,rfl⟩,q⟩
def Qt{f:Value->Value->Sem Value}{g:Int->Int->Int}
  (rule:∀ (i j:Int) (t u:Tok) (s:Shared) (Q:Value->Shared->Prop) (E:Value->Shared->Prop),Q (.int (g i j) s.toks) { s with toks:=s.toks+1 }->wpAny (model X.prog X.w) X.A (f (.int i t) (.int j u)) Q E s) :
  OpR X f (rI0 λ i j=>.int (g i j)):=by
 intro pins s σ H x y v u Q I rx ry h;obtain⟨i,j,rfl,rfl,q⟩:=h;obtain⟨t,rfl⟩:=rx;obtain⟨t',rfl⟩:=ry;exact rule i j t t' s _ _ ⟨.int (g i j),H,I.tok _,⟨_,rfl⟩,q⟩
def NG{f:Value->Value->Sem Value}{g:Int->Int->Bool}
  (rule:∀ (i j:Int) (t u:Tok) (s:Shared) (Q:Value->Shared->Prop) (E:Value->Shared->Prop),Q (.bool (g i j)) s->wpAny (model X.prog X.w) X.A (f (.int i t) (.int j u)) Q E s) :
  OpR X f (rI0 λ i j=>.bl (g i j)):=by
 intro pins s σ H x y v u Q I rx ry h;obtain⟨i,j,rfl,rfl,q⟩:=h;obtain⟨t,rfl⟩:=rx;obtain⟨t',rfl⟩:=ry;exact rule i j t t' s _ _ ⟨.bl (g i j),H,I,rfl,q⟩
def OP(i j:Int):Prop:=0 < j/\j < 1073741824
def OO(i j:Int):Prop:=0<=j/\j<=1000000/\i.natAbs < 2 ^ 64
def ye(i j:Int):Prop:=(-(2 ^ 64) < i/\i < 2 ^ 64)\/(-(2 ^ 64) < j/\j < 2 ^ 64)
def ye.ok{i j:Int}(h:ye i j):IntMulOk i j:=by
 rcases h with ⟨h1,h2⟩|⟨h1,h2⟩
 ·exact .of_left (intBits_le_64 h1 h2)
 ·exact .of_right (intBits_le_64 h1 h2)
def u7:OpR X (binaryOp .Add) (rI0 λ i j=>.int (i+j)):=Qt λ _ _ _ _ _ _ _ q=>add_int q
def Lo:OpR X (binaryOp .Sub) (rI0 λ i j=>.int (i - j)):=Qt λ _ _ _ _ _ _ _ q=>sub_int q
def jT:OpR X (binaryOp .Mult) (rI ye λ i j=>.int (i * j)):=opI λ _ _ _ _ _ _ _ hc q=>mul_int q hc.ok
def Hx:OpR X (binaryOp .FloorDiv) (rI OP λ i j=>.int (i / j)):=opI λ i j _ _ _ _ _ hc q=>by
 have h1:(0:Int) < j:=hc.1;have h2:j < 1073741824:=hc.2;exact floordiv_int (by omega) (by rw [Int.fdiv_eq_ediv_of_nonneg i (by omega)];exact q) (.inl (PyProof.noPylong_small (by omega)))
def k9:OpR X (binaryOp .Mod) (rI (λ _ j=>0 < j) λ i j=>.int (i % j)):=opI λ i j _ _ _ _ _ hc q=>by
 have h1:(0:Int) < j:=hc;exact mod_int' (by omega) (by rw [Int.fmod_eq_emod_of_nonneg i (by omega)];exact q)
def Lq:OpR X (binaryOp .Pow) (rI OO λ i j=>.int (i ^ j.toNat)):=opI λ _ _ _ _ _ _ _ hc q=>pow_int_small hc.1 hc.2.1 hc.2.2 q
def unI{f:Value->Sem Value}{g:Int->Int}
  (rule:∀ (i:Int) (t:Tok) (s:Shared) (Q:Value->Shared->Prop) (E:Value->Shared->Prop),Q (.int (g i) s.toks) { s with toks:=s.toks+1 }->wpAny (model X.prog X.w) X.A (f (.int i t)) Q E s) :
  UnR X f (rU λ i=>.int (g i)):=by
 intro pins s σ H x v Q I rx h;obtain⟨i,rfl,q⟩:=h;obtain⟨t,rfl⟩:=rx;exact rule i t s _ _ ⟨.int (g i),H,I.tok _,⟨_,rfl⟩,q⟩
def K3:UnR X (unaryOp .USub) (rU λ i=>.int (-i)):=unI λ _ _ _ _ _ q=>neg_int q
end
def NF:V->V->Bool
 | .non,.non=>true | .non,.int _=>true | .int _,.non=>true | .non,.bl _=>true | .bl _,.non=>true | .non,.str _=>true | .str _,.non=>true
 | .int _,.int _=>true | .bl _,.bl _=>true | .str _,.str _=>true | .byt _,.byt _=>true
 | .int _,.str _=>true | .str _,.int _=>true | .bl _,.str _=>true | .str _,.bl _=>true
 | _,_=>false
def rEq:R2:=λ x y H Q=>NF x y=true/\Q (.bl (decide (x=y))) H
def rNe:R2:=λ x y H Q=>NF x y=true/\Q (.bl (!decide (x=y))) H
def zK{i j:Int}:decide (V.int i=V.int j)=(i == j):=by
 rw [TK];simp
def FP{i j:Bool}:decide (V.bl i=V.bl j)=(i == j):=by
 rw [TK];simp
def zJ{i j:Str}:decide (V.str i=V.str j)=(i == j):=by
 rw [TK];simp
def zL{i j:Array UInt8}:decide (V.byt i=V.byt j)=(i.toList == j.toList):=by
 rw [TK];cases i;cases j;simp
section
variable {X:Cx}{a b c:Expr}{ta tb tc:TE}{pos:Pos}
def aV{pins:List (Addr × Obj)}{σ:St}{H:Hp}{s:Shared}{Q:VK}{k k':Bool}(I:Inv X pins σ H s)(q:Q (.bl k) H)(e:k=k'):EP X pins σ Q (.bool k') s:=by
 subst e;exact⟨.bl k,H,I,rfl,q⟩
def O0:OpR X (compareOp .Eq) rEq:=by
 intro pins s σ H x y v u Q I rx ry h;obtain⟨hs,q⟩:=h
 cases x with
 | non=>
  cases rx
  cases y with
  | non=>cases ry;exact PySem.EqNone.eq_none_none (aV I q (by simp))
  | bl j=>cases ry;exact PySem.EqNone.eq_none_bool (aV I q (by simp))
  | int j=>obtain⟨t',rfl⟩:=ry;exact PySem.EqNone.eq_none_int (aV I q (by simp))
  | str j=>obtain⟨t',rfl⟩:=ry;exact PySem.EqNone.eq_none_str (aV I q (by simp))
  | _=>exact absurd (show false=true from hs) RM
 | bl i=>
  cases rx
  cases y with
  | non=>cases ry;exact PySem.EqNone.eq_bool_none (aV I q (by simp))
  | bl j=>cases ry;exact eq_bool (aV I q FP)
  | str j=>obtain⟨t',rfl⟩:=ry;exact PySem.EqMixed.eq_bool_str (aV I q (by simp))
  | _=>exact absurd (show false=true from hs) RM
 | int i=>
  obtain⟨t,rfl⟩:=rx
  cases y with
  | non=>cases ry;exact PySem.EqNone.eq_int_none (aV I q (by simp))
  | int j=>obtain⟨t',rfl⟩:=ry;exact eq_int (aV I q zK)
  | str j=>obtain⟨t',rfl⟩:=ry;exact PySem.EqMixed.eq_int_str (aV I q (by simp))
  | _=>exact absurd (show false=true from hs) RM
 | str i=>
  obtain⟨t,rfl⟩:=rx
  cases y with
  | non=>cases ry;exact PySem.EqNone.eq_str_none (aV I q (by simp))
  | bl j=>cases ry;exact PySem.EqMixed.eq_str_bool (aV I q (by simp))
  | int j=>obtain⟨t',rfl⟩:=ry;exact PySem.EqMixed.eq_str_int (aV I q (by simp))
  | str j=>obtain⟨t',rfl⟩:=ry;exact eq_str (aV I q zJ)
  | _=>exact absurd (show false=true from hs) RM
 | byt i=>
  obtain⟨t,rfl⟩:=rx
  cases y with
  | byt j=>obtain⟨t',rfl⟩:=ry;exact W.eq_bytes (aV I q zL)
  | _=>exact absurd (show false=true from hs) RM
 | _=>cases y<;>exact absurd (show false=true from hs) RM
def OX:OpR X (compareOp .NotEq) rNe:=by
 intro pins s σ H x y v u Q I rx ry h;obtain⟨hs,q⟩:=h
 cases x with
 | non=>
  cases rx
  cases y with
  | non=>cases ry;exact PySem.EqNone.ne_none_none (aV I q (by simp))
  | bl j=>cases ry;exact PySem.EqNone.ne_none_bool (aV I q (by simp))
  | int j=>obtain⟨t',rfl⟩:=ry;exact PySem.EqNone.ne_none_int (aV I q (by simp))
  | str j=>obtain⟨t',rfl⟩:=ry;exact PySem.EqNone.ne_none_str (aV I q (by simp))
  | _=>exact absurd (show false=true from hs) RM
 | bl i=>
  cases rx
  cases y with
  | non=>cases ry;exact PySem.EqNone.ne_bool_none (aV I q (by simp))
  | bl j=>cases ry;exact ne_bool (aV I q (Tf not FP))
  | str j=>obtain⟨t',rfl⟩:=ry;exact PySem.EqMixed.ne_bool_str (aV I q (by simp))
  | _=>exact absurd (show false=true from hs) RM
 | int i=>
  obtain⟨t,rfl⟩:=rx
  cases y with
  | non=>cases ry;exact PySem.EqNone.ne_int_none (aV I q (by simp))
  | int j=>obtain⟨t',rfl⟩:=ry;exact ne_int (aV I q (Tf not zK))
  | str j=>obtain⟨t',rfl⟩:=ry;exact PySem.EqMixed.ne_int_str (aV I q (by simp))
  | _=>exact absurd (show false=true from hs) RM
 | str i=>
  obtain⟨t,rfl⟩:=rx
  cases y with
  | non=>cases ry;exact PySem.EqNone.ne_str_none (aV I q (by simp))
  | bl j=>cases ry;exact PySem.EqMixed.ne_str_bool (aV I q (by simp))
  | int j=>obtain⟨t',rfl⟩:=ry;exact PySem.EqMixed.ne_str_int (aV I q (by simp))
  | str j=>obtain⟨t',rfl⟩:=ry;exact ne_str (aV I q (Tf not zJ))
  | _=>exact absurd (show false=true from hs) RM
 | byt i=>
  obtain⟨t,rfl⟩:=rx
  cases y with
  | byt j=>obtain⟨t',rfl⟩:=ry;exact W.ne_bytes (aV I q (Tf not zL))
  | _=>exact absurd (show false=true from hs) RM
 | _=>cases y<;>exact absurd (show false=true from hs) RM
def Kn:OpR X (compareOp .Lt) (rI0 λ i j=>.bl (decide (i < j))):=NG λ _ _ _ _ _ _ _ q=>lt_int q
def OY:OpR X (compareOp .LtE) (rI0 λ i j=>.bl (decide (i<=j))):=NG λ _ _ _ _ _ _ _ q=>le_int q
def Ko:OpR X (compareOp .Gt) (rI0 λ i j=>.bl (decide (j < i))):=NG λ _ _ _ _ _ _ _ q=>gt_int q
def OZ:OpR X (compareOp .GtE) (rI0 λ i j=>.bl (decide (j<=i))):=NG λ _ _ _ _ _ _ _ q=>ge_int q
def AD:OpR X (compareOp .In) (λ x y H Q=>∃ i j,x=.str i/\y=.str j/\Q (.bl (!(Builtin.Str.occurrences j i 0 j.length 1).isEmpty)) H):=by
 intro pins s σ H x y v u Q I rx ry h;obtain⟨i,j,rfl,rfl,q⟩:=h;obtain⟨t,rfl⟩:=rx;obtain⟨t',rfl⟩:=ry;exact in_str (aV I q rfl)
def Lu:OpR X (compareOp .Is) (λ x y H Q=>y=.non/\Q (.bl (decide (x=.non))) H):=by
 intro pins s σ H x y v u Q I rx ry h;obtain⟨rfl,q⟩:=h;cases ry;refine is_none_gen (aV I q ?_)
 cases x<;>first
  | (cases rx;rfl)
  | (obtain⟨t,rfl⟩:=rx;rfl)
def OpR.or{f:Value->Value->Sem Value}{r r':R2}(h:OpR X f r)(h':OpR X f r'):OpR X f (λ x y H Q=>r x y H Q\/r' x y H Q):=by
 intro pins s σ H x y v u Q I rx ry q
 rcases q with q|q
 ·exact h pins s σ H x y v u Q I rx ry q
 ·exact h' pins s σ H x y v u Q I rx ry q
def az(b:Expr){op:CmpOp}(h:op ≠ .In:=by decide)(h2:op ≠ .NotIn:=by decide):behindInMarks op b=false:=by
 have e1:(op == CmpOp.In)=false:=by cases op<;>first|rfl|exact absurd rfl h
 have e2:(op == CmpOp.NotIn)=false:=by cases op<;>first|rfl|exact absurd rfl h2
 cases b<;>simp [behindInMarks,e1,e2]
def Hq{op:CmpOp}{r:R2}(ho:OpR X (compareOp op) r)(ha:PE X a ta)(hb:PE X b tb)(hm:behindInMarks op b=false):PE X (.Compare a [op] [b] pos) (tOp r ta tb):=by
 intro pins s σ H Q I h;exact wpAny_Compare1 (OJ ha hb I h λ v u s2 x y H2 I2 rx ry q=>ho pins s2 σ H2 x y v u Q I2 rx ry q) hm
def CJ(t:TE):TT:=λ σ H Q=>t σ H λ x H'=>∃ k,x=.bl k/\Q k H'
def tW{op:CmpOp}{r:R2}(ho:OpR X (compareOp op) r)(ha:PE X a ta)(hb:PE X b tb)(hm:behindInMarks op b=false):PT X (.Compare a [op] [b] pos) (CJ (tOp r ta tb)):=by
 intro pins s σ H Q I h
 refine wpAny_isTrue_Compare1 (thn (ha pins s σ H _ I h) λ v s1 ⟨x,H1,I1,r1,q1⟩=>thn (hb pins s1 σ H1 _ I1 q1) λ u s2 ⟨y,H2,I2,r2,q2⟩=>
  thn (ho pins s2 σ H2 x y v u _ I2 r1 r2 q2) λ c s3 ⟨z,H3,I3,r3,k,e,q3⟩=>?_) hm
 subst e;cases r3;exact SQ ⟨H3,I3,q3⟩
def yv(r r':R2)(ta tb tc:TE):TE:=λ σ H Q=>ta σ H λ x H1=>tb σ H1 λ y H2=>r x y H2 λ z H3=>∃ k,z=.bl k /\
 (if k=true then tc σ H3 λ w' H4=>r' y w' H4 Q else Q (.bl false) H3)
def DT{op aa:CmpOp}{r r':R2}(ho:OpR X (compareOp op) r)(aS:OpR X (compareOp aa) r')(ha:PE X a ta)(hb:PE X b tb)(hc:PE X c tc)
  (hm:lastMarks [op,aa] [b,c]=false:=by with_unfolding_all rfl):PE X (.Compare a [op,aa] [b,c] pos) (yv r r' ta tb tc):=by
 intro pins s σ H Q I h
 refine Compare_chain (thn (ha pins s σ H _ I h) λ v s1 ⟨x,H1,I1,r1,q1⟩=>chain_link (thn (hb pins s1 σ H1 _ I1 q1) λ u s2 ⟨y,H2,I2,r2,q2⟩=>
  thn (ho pins s2 σ H2 x y v u _ I2 r1 r2 q2) λ d s3 ⟨z,H3,I3,r3,k,e,q3⟩=>?_)) hm
 subst e;cases r3;refine SQ ?_
 cases k with
 | false=>exact ite_ff ⟨.bl false,H3,I3,rfl,q3⟩
 | true=>exact ite_tt (chain_last (thn (hc pins s3 σ H3 _ I3 q3) λ w' s4 ⟨z',H4,I4,r4,q4⟩=>aS pins s4 σ H4 y z' u w' Q I4 r2 r4 q4))
def DH{op aa:CmpOp}{r r':R2}(ho:OpR X (compareOp op) r)(aS:OpR X (compareOp aa) r')(ha:PE X a ta)(hb:PE X b tb)(hc:PE X c tc)
  (hm:lastMarks [op,aa] [b,c]=false:=by with_unfolding_all rfl):PT X (.Compare a [op,aa] [b,c] pos) (CJ (yv r r' ta tb tc)):=by
 intro pins s σ H Q I h
 refine isTrue_chain (thn (ha pins s σ H _ I h) λ v s1 ⟨x,H1,I1,r1,q1⟩=>test_link (thn (hb pins s1 σ H1 _ I1 q1) λ u s2 ⟨y,H2,I2,r2,q2⟩=>
  thn (ho pins s2 σ H2 x y v u _ I2 r1 r2 q2) λ d s3 ⟨z,H3,I3,r3,k,e,q3⟩=>?_)) hm
 subst e;cases r3;refine SQ ?_
 cases k with
 | false=>
  obtain⟨k',e',q'⟩:=q3;cases e';exact ite_ff ⟨H3,I3,q'⟩
 | true=>
  refine ite_tt (test_last (thn (hc pins s3 σ H3 _ I3 q3) λ w' s4 ⟨z',H4,I4,r4,q4⟩=>thn (aS pins s4 σ H4 y z' u w' _ I4 r2 r4 q4) λ d' s5 ⟨z2,H5,I5,r5,k2,e2,q5⟩=>?_));subst e2;cases r5;exact SQ ⟨H5,I5,q5⟩
def m6:(sizeLine:Nat) < 2 ^ 63:=by rw [sizeLine_eq];decide
def pU{x:V}{us:List Value}(r:aW [x] us):∃ u,us=[u]/\bD x u:=by
 cases r with
 | cons r1 r2=>cases r2;exact⟨_,rfl,r1⟩
def bN{x y:V}{us:List Value}(r:aW [x,y] us):∃ u w',us=[u,w']/\bD x u/\bD y w':=by
 cases r with
 | cons r1 r2=>
  cases r2 with
  | cons r3 r4=>cases r4;exact⟨_,_,rfl,r1,r3⟩
def Fe:bI X (.builtin "abs") (λ xs H Q=>∃ i,xs=[.int i]/\Q (.int (if i < 0 then -i else i)) H):=by
 intro pins s σ H xs us Q I r h;obtain⟨i,rfl,q⟩:=h;obtain⟨u,rfl,t,rfl⟩:=pU r;exact call_abs_int λ u tk=>⟨.int (if i < 0 then -i else i),H,I.tok _,⟨_,rfl⟩,q⟩
def Cd(hc:X.calm=true):bI X (.builtin "max") (λ xs H Q=>∃ i j,xs=[.int i,.int j]/\Q (.int (if j > i then j else i)) H):=by
 intro pins s σ H xs us Q I r h;obtain⟨i,j,rfl,q⟩:=h;obtain⟨u,w',rfl,⟨t,rfl⟩,⟨t',rfl⟩⟩:=bN r;refine max_two_ints (I.ok.hd hc) λ h' tk k=>⟨_,H,I.kept k,?_,q⟩
 by_cases hj:j > i
 ·rw [RX hj,RX hj];exact⟨_,rfl⟩
 ·rw [RQ hj,RQ hj];exact⟨_,rfl⟩
def Cc(hc:X.calm=true):bI X (.builtin "min") (λ xs H Q=>∃ i j,xs=[.int i,.int j]/\Q (.int (if j < i then j else i)) H):=by
 intro pins s σ H xs us Q I r h;obtain⟨i,j,rfl,q⟩:=h;obtain⟨u,w',rfl,⟨t,rfl⟩,⟨t',rfl⟩⟩:=bN r;refine min_two_ints (I.ok.hd hc) λ h' tk k=>⟨_,H,I.kept k,?_,q⟩
 by_cases hj:j < i
 ·rw [RX hj,RX hj];exact⟨_,rfl⟩
 ·rw [RQ hj,RQ hj];exact⟨_,rfl⟩
def Ce:bI X (.type "int") (λ xs H Q=>(∃ i,xs=[.int i]/\Q (.int i) H)\/∃ k,xs=[.bl k]/\Q (.int (if k then 1 else 0)) H):=by
 intro pins s σ H xs us Q I r h
 rcases h with ⟨i,rfl,q⟩|⟨k,rfl,q⟩
 ·obtain⟨u,rfl,t,rfl⟩:=pU r;exact call_int_int ⟨.int i,H,I,⟨_,rfl⟩,q⟩
 ·obtain⟨u,rfl,r1⟩:=pU r;cases r1;exact call_int_bool ⟨.int (if k then 1 else 0),H,I.tok _,⟨_,rfl⟩,q⟩
end
structure FT(h:Heap)(x dx C:Addr)(mA:Str->Option Value):Prop where
 obj:h.get? x=some (W.instObj C dx)
 ns:h.Ns1 dx mA
 ne:dx ≠ x
def Bo{h:Heap}{dx:Addr}{mA:Str->Option Value}(n:h.Ns1 dx mA):∃ od,h.get? dx=some od/\∀ name,W.lookIn name od=some (mA name):=by
 obtain⟨o,es,ep,ho,hd,hk,_,hm⟩:=n;refine⟨o,ho,λ name=>?_⟩;have e:=hm name;unfold nsFind findBy at e;rw [←Array.find?_toList] at e;unfold W.lookIn;rw [hd];dsimp only;split
 ·rename_i y q;rw [q] at e;exact Tf some e
 ·rename_i q;rw [q] at e
  have a:es.toList.any (·.refKey)=false:=by
   rw [U8];intro y hy;obtain⟨z,t,aa⟩:=hk y (Array.mem_toList_iff.mp hy);simp [DictEntry.refKey,aa]
  have a':¬ es.toList.any (·.refKey)=true:=by rw [a];exact RM
  rw [RQ a'];exact Tf some e
def FT.look{h:Heap}{x dx C:Addr}{mA:Str->Option Value}(I:FT h x dx C mA):∃ od,W.InstAt h x (W.instObj C dx) C (some od)/\∀ name,W.lookIn name od=some (mA name):=
 let ⟨od,ho,hl⟩:=Bo I.ns
 ⟨od,⟨I.obj,rfl,rfl,ho⟩,hl⟩
section
variable {prog:Program}{w:World}{A:Around}{E:Value->Shared->Prop}{s:Shared}{K:PySem.W.Frag}{x dx C f:Addr}{mA:Str->Option Value}{name:Str}{v:Value}
def Jm{expr:Bool}{Q:Value->Shared->Prop}(X:K.In s.heap)(I:FT s.heap x dx C mA)(hg:W.plainGet K C name=true)(hh:W.hasDictIn K C=true)
  (ha:W.findIn K (.ref C) name=some none) (hv:mA name=some v) (aa:W.handedIn v=true) (h:Q v { s with toks:=s.toks+1 }) :
  wpAny (model prog w) A (getAttr (.ref x) name expr) Q E s:=by
 obtain⟨od,J,hl⟩:=I.look;exact W.get_value X J (W.plainGet_of hg).1 (W.findObj_own hh ha rfl (by rw [hl,hv])) aa h
def EY{pl:Sem Bool}{Q:Value × List Value->Shared->Prop}(X:K.In s.heap)(I:FT s.heap x dx C mA)(hg:W.plainGet K C name=true)
  (hf:W.findIn K (.ref C) name=some (some (.ref f))) (ht:W.isFn K (.ref f)=true) (hv:mA name=none) (h:Q (.ref f,[.ref x]) s) :
  wpAny (model prog w) A (getMethod (.ref x) name pl) Q E s:=by
 obtain⟨od,J,hl⟩:=I.look;exact W.method_fn X J (W.plainGet_of hg).1 (W.plainGet_of hg).2 hf (Ut.mp ht) (by show (W.lookIn name od).map (·.isSome)=some false;rw [hl,hv];rfl) h
def G0{ns:List Str}{Q:Unit->Shared->Prop}(X:K.In s.heap)(I:FT s.heap x dx C mA)
  (hs:W.findIn K (.ref C) "__setattr__"=some (some (.builtin "object.__setattr__"))) (hp:W.plainOver K C=true) (ht:W.takerIn K C name=some none) (hh:W.hasDictIn K C=true)
  (hw:PySem.Within mA ns) (hsz:ns.length<=sizeLine)
  (h:∀ h',FT h' x dx C (λ y=>if y=name then some v else mA y)->Heap.SameBut dx s.heap h'->Q () { s with heap:=h',toks:=s.toks+2 }) :
  wpAny (model prog w) A (setAttr (.ref x) name v) Q E s:=by
 obtain⟨od,J,hl⟩:=I.look;refine W.set_plain X J hs (W.osa_open (s:={ s with toks:=s.toks+1 }) (r:=none) X J hp ht λ b=>?_);obtain⟨cd,hc,a3⟩:=W.any_some hh;have hx:s.heap.get? x=some ⟨.ref C,some dx,.plain,#[]⟩:=I.obj;refine My (RI (My (My (wpAny_loadPart hx (My (W.Looks.here (s:={ s with toks:=s.toks+1 }) (W.looks_clsIn X hc) ?_))))));rw [a3];refine RI (a:=some dx) (My (RI (My ?_)));refine wpAny_nsSet1 (s:={ s with toks:=s.toks+1 }) I.ns λ h' aa aS=>?_;obtain⟨oD,a7,a8,a4,a5,a6⟩:=aa.count (PySem.Within.cons name v hw);refine My (wpAny_lookBehind a4 (by rw [a5];exact pastItsLine_dict (Sj a6 (by rw [S4];omega))) ?_);exact RI (h _ ⟨(aS.2 _ (RO I.ne)).trans I.obj,aa,I.ne⟩ aS)
def D9{R:Result->Shared->Prop}{vs:List Value}{kw:List (Str × Value)}(X:K.In s.heap)(hm:W.makesIn K C=true)
  (hi:W.findIn K (.ref C) "__init__"=some (some (.ref f))) (hf:W.typeIn K (.ref f)=some (.type "function"))
  (h:codeAny (model prog w) (A.under (.builtin "type.__call__" ⟨.ref C::vs,kw⟩)) (.call (.ref f) ⟨.ref (s.heap.objs.size+1)::vs,kw⟩) (W.InitBack (s.heap.objs.size+1) R)
   { s with heap:=(s.heap.push W.emptyDict).push (W.instObj C s.heap.objs.size) }) :
  codeAny (model prog w) A (.call (.ref C) ⟨vs,kw⟩) R s:=by
 obtain⟨hh,g,d,t,os⟩:=s;exact W.make_core (W.makes_of X hm) (W.looks_findIn X hi) (λ self=>W.bind_fn X self hf) (.inl rfl) h
def AK{R:Result->Shared->Prop}(X:K.In s.heap)(hm:W.makesIn K C=true)
  (hi:W.findIn K (.ref C) "__init__"=some (some (.builtin "object.__init__")))
  (hb:∀ self,W.Looks (model prog w) s.heap (bindSpecial (.builtin "object.__init__") self) (.builtin "object.__init__",[self]))
  (h:codeAny (model prog w) (A.under (.builtin "type.__call__" ⟨[.ref C],[]⟩)) (.call (.builtin "object.__init__") ⟨[.ref (s.heap.objs.size+1)],[]⟩) (W.InitBack (s.heap.objs.size+1) R)
   { s with heap:=(s.heap.push W.emptyDict).push (W.instObj C s.heap.objs.size) }) :
  codeAny (model prog w) A (.call (.ref C) ⟨[],[]⟩) R s:=by
 obtain⟨hh,g,d,t,os⟩:=s;exact W.make_core (W.makes_of X hm) (W.looks_findIn X hi) hb (.inr ⟨rfl,rfl⟩) h
end
def bT(f:Str)(v:V):List (Str × V)->List (Str × V)
 | []=>[(f,v)]
 | (g,x)::r=>if g=f then (g,v)::r else (g,x)::bT f v r
def aj(f g:Str)(v:V):∀ fs:List (Str × V),(bT f v fs).lookup g=if g=f then some v else fs.lookup g
 | []=>by
  show List.lookup g [(f,v)]=_
  by_cases h:g=f
  ·have hb:(g == f)=true:=Ut.mpr h;simp only [List.lookup,hb,RX h]
  ·have hb:(g == f)=false:=Tq.mpr h;simp only [List.lookup,hb,RQ h]
 | (k,x)::r=>by
  have ih:=aj f g v r;rw [show bT f v ((k,x)::r)=(if k=f then (k,v)::r else (k,x)::bT f v r) from rfl]
  by_cases hk:k=f
  ·rw [RX hk]
   by_cases h:g=k
   ·have hb:(g == k)=true:=Ut.mpr h;simp only [List.lookup,hb,RX (h.trans hk)]
   ·have hb:(g == k)=false:=Tq.mpr h;simp only [List.lookup,hb,RQ (λ e:g=f=>h (e.trans hk.symm))]
  ·rw [RQ hk]
   by_cases h:g=k
   ·have hb:(g == k)=true:=Ut.mpr h;simp only [List.lookup,hb,RQ (λ e:g=f=>hk (h.symm.trans e))]
   ·have hb:(g == k)=false:=Tq.mpr h;simp only [List.lookup,hb];exact ih
def lQ(f:Str)(v:V):∀ fs:List (Str × V),f∈(bT f v fs).map (·.1)/\∀ g,g∈fs.map (·.1)->g∈(bT f v fs).map (·.1)
 | []=>⟨by simp [bT],λ g h=>by simp at h⟩
 | (k,x)::r=>by
  obtain⟨i1,i2⟩:=lQ f v r;rw [show bT f v ((k,x)::r)=(if k=f then (k,v)::r else (k,x)::bT f v r) from rfl]
  by_cases hk:k=f
  ·rw [RX hk];subst hk;exact⟨by simp,λ g h=>by simpa using h⟩
  ·rw [RQ hk];refine⟨?_,λ g h=>?_⟩
   ·rw [Sm];exact RU _ i1
   ·rw [Sm] at h ⊢
    rcases RZ.mp h with e|e
    ·exact RZ.mpr (.inl e)
    ·exact RU _ (i2 g e)
def me(f:Str)(v:V):∀ fs:List (Str × V),(bT f v fs).length<=fs.length+1
 | []=>by simp [bT]
 | (k,x)::r=>by
  have ih:=me f v r;rw [show bT f v ((k,x)::r)=(if k=f then (k,v)::r else (k,x)::bT f v r) from rfl]
  by_cases hk:k=f
  ·rw [RX hk,S4,S4];omega
  ·rw [RQ hk,S4,S4];omega
def pT.some_of{v:V}{o:Option Value}(r:pT (some v) o):∃ u,o=some u/\bD v u:=by
 cases o with
 | none=>exact(show False from r).elim
 | some u=>exact⟨u,rfl,r⟩
def pT.none_of{o:Option Value}(r:pT none o):o=none:=by
 cases o with
 | none=>rfl
 | some u=>exact(show False from r).elim
def B0{v:V}{u:Value}(r:bD v u):W.handedIn u=true:=by
 cases v with
 | non=>cases (show u=Value.none from r);rfl
 | bl b=>cases (show u=Value.bool b from r);rfl
 | int i=>obtain⟨t,e⟩:=(show ∃ t,u=Value.int i t from r);cases e;rfl
 | str x=>obtain⟨t,e⟩:=(show ∃ t,u=Value.str x t from r);cases e;rfl
 | byt b=>obtain⟨t,e⟩:=(show ∃ t,u=Value.bytes b t from r);cases e;rfl
 | flt b=>obtain⟨t,e⟩:=(show ∃ t,u=Value.float b t from r);cases e;rfl
 | ref a=>cases (show u=Value.ref a from r);rfl
 | ty n=>cases (show u=Value.type n from r);rfl
section
variable {P:Program}{w:World}{H H':Hp}{h h':Heap}{a C dx:Addr}{fs fs':List (Str × V)}
def oi(hok:HOk P w H h)(e:H a=some (.ins C dx fs)):∃ mA,FT h a dx C mA/\(∀ f,pT (fs.lookup f) (mA f))/\PySem.Within mA (fs.map (·.1))/\fs.length<=1000/\H dx=some (.own a):=by
 obtain⟨d,z,ne,ob,mA,n,r,q⟩:=(show bw P w H h a (.ins C dx fs) from hok a _ e);exact⟨mA,⟨ob,n,ne⟩,r,q,z,d⟩
end
structure Cls(K:W.Frag)(C:Addr):Prop where
 pg:W.plainGet K C Str.empty=true
 hd:W.hasDictIn K C=true
 po:W.plainOver K C=true
 sa:W.findIn K (.ref C) "__setattr__"=some (some (.builtin "object.__setattr__"))
def Cls.get{K:W.Frag}{C:Addr}(c:Cls K C)(f:Str):W.plainGet K C f=true:=c.pg
def bg(K:W.Frag)(C:Addr)(f:Str):Prop:=W.findIn K (.ref C) f=some none
def bg.taker{K:W.Frag}{C:Addr}{f:Str}(n:bg K C f):W.takerIn K C f=some none:=by
 unfold W.takerIn;rw [show W.findIn K (.ref C) f=some none from n];rfl
structure cR(K:W.Frag)(C:Addr)(m:Str)(f:Addr):Prop where
 at_:W.findIn K (.ref C) m=some (some (.ref f))
 fn:W.isFn K (.ref f)=true
 kp:W.keepIn K (.ref f)=true
section
variable {X:Cx}{pins:List (Addr × Obj)}{σ:St}{H:Hp}{s:Shared}{a C dx:Addr}{fs:List (Str × V)}{f:Str}{v:V}{A:Around}{E:Value->Shared->Prop}
def xG{b:Bool}{Q:Value->Shared->Prop}(I:Inv X pins σ H s)(e:H a=some (.ins C dx fs))(c:Cls X.K C)(n:bg X.K C f)(l:fs.lookup f=some v)
  (h:∀ u s',Inv X pins σ H s'->bD v u->Q u s'):wpAny (model X.prog X.w) A (getAttr (.ref a) f b) Q E s:=by
 obtain⟨mA,O,r,_,_,_⟩:=oi I.hok e;obtain⟨u,hu,ru⟩:=pT.some_of (v:=v) (o:=mA f) (by rw [←l];exact r f);exact Jm I.kIn O (c.get f) c.hd n hu (B0 ru) (h u _ (I.tok _) ru)
def gy{m:Str}{g:Addr}{pl:Sem Bool}{Q:Value × List Value->Shared->Prop}(I:Inv X pins σ H s)(e:H a=some (.ins C dx fs))(c:Cls X.K C)(k:cR X.K C m g)(l:fs.lookup m=none)
  (h:Q (.ref g,[.ref a]) s):wpAny (model X.prog X.w) A (getMethod (.ref a) m pl) Q E s:=by
 obtain⟨mA,O,r,_,_,_⟩:=oi I.hok e;have hn:mA m=none:=pT.none_of (by rw [←l];exact r m);exact EY I.kIn O (c.get m) k.at_ k.fn hn h
def wN{y:V}{u:Value}{Q:Unit->Shared->Prop}(I:Inv X pins σ H s)(e:H a=some (.ins C dx fs))(c:Cls X.K C)(n:bg X.K C f)(hl:fs.length < 1000)(ry:bD y u)
  (h:∀ s',Inv X pins σ (upd H a (.ins C dx (bT f y fs))) s'->Q () s'):wpAny (model X.prog X.w) A (setAttr (.ref a) f u) Q E s:=by
 obtain⟨mA,O,r,wi,_,ho⟩:=oi I.hok e;have hz:(fs.map (·.1)).length<=sizeLine:=by rw [RH,sizeLine_eq];omega
 refine G0 I.kIn O c.sa c.po n.taker c.hd wi hz λ h' O' sb=>h _ ?_;have hd:∃ o,h'.get? dx=some o:=let ⟨o,_,_,e',_⟩:=O'.ns;⟨o,e'⟩;refine I.write (x:=a) (e:=dx) (by rw [e];exact True.intro) (.inr ho) (λ b q hb z=>(sb.2 b hb).trans z) hd ?_;refine⟨by rw [ah O.ne];exact ho,?_,O.ne,O'.obj,_,O'.ns,λ g=>?_,λ g hg=>?_⟩
 ·have:=me f y fs;omega
 ·show pT ((bT f y fs).lookup g) (if g=f then some u else mA g)
  rw [aj]
  by_cases q:g=f
  ·rw [RX q,RX q];exact ry
  ·rw [RQ q,RQ q];exact r g
 ·by_cases q:g=f
  ·rw [q];exact(lQ f y fs).1
  ·refine(lQ f y fs).2 g (wi g λ z=>hg ?_)
   show (if g=f then some u else mA g)=none
   rw [RQ q];exact z
def Inv.made(I:Inv X pins σ H s):Inv X pins σ (upd (upd H s.heap.objs.size (.own (s.heap.objs.size+1))) (s.heap.objs.size+1) (.ins C s.heap.objs.size []))
  { s with heap:=(s.heap.push W.emptyDict).push (W.instObj C s.heap.objs.size) }:=by
 have e1:(s.heap.push W.emptyDict).get? s.heap.objs.size=some W.emptyDict:=RK s.heap rfl
 have e2:((s.heap.push W.emptyDict).push (W.instObj C s.heap.objs.size)).get? (s.heap.objs.size+1)=some (W.instObj C s.heap.objs.size):=by
  have:=RK (s.heap.push W.emptyDict) (o:=W.instObj C s.heap.objs.size) rfl
  rwa [Sz] at this
 have e3:(s.heap.push W.emptyDict).Ns s.heap.objs.size (λ _=>none):=⟨W.emptyDict,#[],_,e1,rfl,(λ e he=>absurd he (by simp)),λ _=>rfl⟩;have I1:=I.laid (a:=s.heap.objs.size) (o:=.own (s.heap.objs.size+1)) (h':=s.heap.push W.emptyDict) (t':=s.toks) (λ b u q=>RD _ q) (RJ _) ⟨_,e1⟩;refine I1.laid (a:=s.heap.objs.size+1) (o:=.ins C s.heap.objs.size []) (t':=s.toks) (λ b u q=>RD _ q) (Ui (Sz _ _)) ?_;have ne:s.heap.objs.size ≠ s.heap.objs.size+1:=RT (Tp _);refine⟨by rw [ah ne,ai],SF _,ne,e2,λ _=>none,(Heap.Ns1.of_empty e3).at λ o q=>RD _ q,λ _=>True.intro,λ y hy=>absurd rfl hy⟩
def JJ{prog:Program}{w:World}{env:Env}{e:Expr}{f:Str}{pos:Pos}{s:Shared}{Q:Value->Shared->Prop}(hb:attributeBase e f env (eval e env)=eval e env)
  (h:wpAny (model prog w) A (eval e env) (λ o s₁=>wpAny (model prog w) A (getAttr o f true) Q E s₁) E s):wpAny (model prog w) A (eval (.Attribute e f pos) env) Q E s:=
 Attribute_any_ h (by rw [arm_eval_Attribute,hb])
end
section
variable {X:Cx}{o e value:Expr}{f:Str}{pos pos' tpos:Pos}{ta tv:TE}
end
section
variable {X:Cx}{pins:List (Addr × Obj)}{σ:St}{H:Hp}{s:Shared}{A:Around}{E:Value->Shared->Prop}{Q:Value->Shared->Prop}{c:Value}{b:Bool}
inductive uY (K:PySem.W.Frag) (H:Hp):V->Value->Prop where
 | non:uY K H .non (.type "NoneType")
 | bl (x:Bool):uY K H (.bl x) (.type "bool")
 | int (i:Int):uY K H (.int i) (.type "int")
 | str (x:Str):uY K H (.str x) (.type "str")
 | flt (x:UInt64):uY K H (.flt x) (.type "float")
 | lst {a:Addr} {xs:List V} (e:H a=some (.lst xs)):uY K H (.ref a) (.type "list")
 | frz {a:Addr} {o:Obj} {xs:List V} (e:H a=some (.frz o (.lst xs))):uY K H (.ref a) (.type "list")
 | tup {a:Addr} {xs:List V} (e:H a=some (.tup xs)):uY K H (.ref a) (.type "tuple")
 | dK {a:Addr} {kvs:List (Key × V)} (e:H a=some (.dK kvs)):uY K H (.ref a) (.type "dict")
 | dT {a:Addr} {kvs:List (List Key × V)} (e:H a=some (.dT kvs)):uY K H (.ref a) (.type "dict")
 | ins {a C dx:Addr} {fs:List (Str × V)} (e:H a=some (.ins C dx fs)) (cl:Cls K C) (ha:PySem.W.findIn K (.ref C) "__class__"=some (some (.builtin "object.__class__")))
   (hn:PySem.W.specialIn K (.builtin "object.__class__") "__get__"=some (some (.builtin "getset_descriptor.__get__"))) (htk:PySem.W.takesIn K (.builtin "object.__class__")=some true)
   (hm:PySem.W.mroIn K C (.type "object")=some true):uY K H (.ref a) (.ref C)
def BW{x:V}{u t:Value}(I:Inv X pins σ H s)(rx:bD x u)(ty:uY X.K H x t)(e:W.kitOne X.K t c=some b)(h:∀ tk,Q (.bool b) { s with toks:=tk }) :
  wpAny (model X.prog X.w) A (call (.builtin "isinstance") [u,c]) Q E s:=by
 cases ty with
 | non=>cases (show u=Value.none from rx);exact TZ W.kitx_none I.kIn True.intro e (λ z=>nomatch z) h
 | bl y=>cases (show u=Value.bool y from rx);exact TZ W.kitx_bool I.kIn True.intro e (λ z=>nomatch z) h
 | int i=>obtain⟨t,q⟩:=(show ∃ t,u=Value.int i t from rx);cases q;exact TZ W.kitx_int I.kIn True.intro e (λ z=>nomatch z) h
 | str y=>obtain⟨t,q⟩:=(show ∃ t,u=Value.str y t from rx);cases q;exact TZ W.kitx_str I.kIn True.intro e (λ z=>nomatch z) h
 | flt y=>obtain⟨t,q⟩:=(show ∃ t,u=Value.float y t from rx);cases q;exact TZ W.kitx_float I.kIn True.intro e (λ z=>nomatch z) h
 | @lst a xs ea=>
  cases (show u=Value.ref a from rx);obtain⟨_,_,n,_,h1⟩:=(show bw X.prog X.w H s.heap a (.lst xs) from I.hok a _ ea);exact TZ W.kitx_list I.kIn ⟨_,h1,rfl⟩ e (λ z=>nomatch z) h
 | @frz a ob xs ea=>
  cases (show u=Value.ref a from rx);obtain⟨_,_,_,n,_,h1⟩:=(show bw X.prog X.w H s.heap a (.frz ob (.lst xs)) from I.hok a _ ea);exact TZ W.kitx_list I.kIn ⟨_,h1,rfl⟩ e (λ z=>nomatch z) h
 | @tup a xs ea=>
  cases (show u=Value.ref a from rx);obtain⟨_,_,_,p⟩:=(show bw X.prog X.w H s.heap a (.tup xs) from I.hok a _ ea);obtain⟨o,h1,h2,_⟩:=p;exact TZ W.kitx_tuple I.kIn ⟨o,h1,h2⟩ e (λ z=>nomatch z) h
 | @dK a kvs ea=>
  cases (show u=Value.ref a from rx);obtain⟨_,_,vs,_,p⟩:=(show bw X.prog X.w H s.heap a (.dK kvs) from I.hok a _ ea);obtain⟨o,es,ep,h1,h2,_⟩:=p;exact TZ W.kitx_dict I.kIn ⟨o,h1,h2.1⟩ e (λ z=>nomatch z) h
 | @dT a kvs ea=>
  cases (show u=Value.ref a from rx);obtain⟨_,_,xs,_,o,es,ep,h1,h2,_⟩:=(show bw X.prog X.w H s.heap a (.dT kvs) from I.hok a _ ea);exact TZ W.kitx_dict I.kIn ⟨o,h1,h2.1⟩ e (λ z=>nomatch z) h
 | @ins a C dx fs ea cl ha hn htk hm=>
  cases (show u=Value.ref a from rx);obtain⟨mA,O,_⟩:=oi I.hok ea;obtain⟨od,J,_⟩:=O.look;exact TZ (W.kitx_own (cl.get _) cl.hd ha hn htk hm) I.kIn J e (λ z=>nomatch z) h
end
structure iA(k:Nat)(A:Around):Prop where
 hd:A.handled=none
 dp:A.depth+3 * k+5 < recursionLimit
 un:A.units+16 * k+200 < cLine
def iA.mono{j k:Nat}{A:Around}(r:iA k A)(h:j<=k):iA j A:=⟨r.hd,by have:=r.dp;omega,by have:=r.un;omega⟩
def iA.deeper{k:Nat}{A:Around}(r:iA (k+1) A)(env:Env):iA k (A.deeper env):=
 ⟨r.hd,by have:=r.dp;show A.depth+1+3 * k+5 < _;omega,by have:=r.un;show A.units+3+16 * k+200 < _;omega⟩
def xa{A:Around}{C:Addr}{us:List Value}{kw:List (Str × Value)}:(A.under (.builtin "type.__call__" ⟨.ref C::us,kw⟩)).depth=A.depth+1:=by
 first|rfl|simp [Around.under,Code.weight,Code.isCreation,Code.isGuard,Code.isCaller,Code.frames,Code.isFrame,guardIds]
def w9{A:Around}{C:Addr}{us:List Value}{kw:List (Str × Value)}:(A.under (.builtin "type.__call__" ⟨.ref C::us,kw⟩)).units=A.units+1:=by
 first|rfl|simp [Around.under,Code.cUnits,Code.frames,Code.isFrame]
def iA.make{k:Nat}{A:Around}(r:iA (k+1) A)(C:Addr)(us:List Value)(kw:List (Str × Value)):iA k (A.under (.builtin "type.__call__" ⟨.ref C::us,kw⟩)):=
 ⟨r.hd,by have:=r.dp;rw [xa];omega,by have:=r.un;rw [w9];omega⟩
def iA.depth{k:Nat}{A:Around}(r:iA k A):A.depth < recursionLimit:=by have:=r.dp;omega
def iA.units{k:Nat}{A:Around}(r:iA k A):A.units+64 < cLine:=by have:=r.un;omega
def JQ:TA:=λ _ H Q=>Q [] H
def CK(ta:TE)(tr:TA):TA:=λ σ H Q=>ta σ H λ x H1=>tr σ H1 λ xs H2=>Q (x::xs) H2
section
variable {X:Cx}{e:Expr}{es:List Expr}{te:TE}{t:TA}{pos:Pos}
def b9:PA X [] JQ:=λ _ _ _ _ H Q I h=>Calls.spliced_nil ⟨[],H,I,.nil,h⟩
def Hs(ha:PE X e te)(hr:PA X es t)(hs:starEach (e::es) X.env=(false,eval e X.env)::starEach es X.env:=by rfl):PA X (e::es) (CK te t):=by
 intro pos pins s σ H Q I h;rw [hs]
 show wpAny _ _ (spliced ((false,eval e X.env)::backTo pos (starEach es X.env))) _ _ s
 refine Vq (thn (ha pins s σ H _ I h) λ u s1 ⟨x,H1,I1,r1,q1⟩=>?_);exact thn (hr pos pins s1 σ H1 _ I1 q1) λ us s2 ⟨xs,H2,I2,r2,q2⟩=>⟨x::xs,H2,I2,.cons r1 r2,q2⟩
end
abbrev Sp:=List V->Hp->VK->XK->Prop
abbrev CXT:=List Env->Hp->Shared->XK->Value->Shared->Prop
structure Fo(P:Program)(w:World)(K:W.Frag)(mg:Str->Option Value)(base:Heap)(A:Around)(outer:List Env)(s:Shared)(H:Hp):Prop where
 frames:A.frames=some outer
 mod:Mod K mg base
 bs:∀ b o,base.get? b=some o->s.heap.get? b=some o/\H b=none
 bsz:base.objs.size<=s.heap.objs.size
 funs:s.heap.FunFrames base outer
 frf:∀ b∈frs outer,H b=none
 hok:HOk P w H s.heap
 bare:AllBare s.gens
def CE(outer:List Env)(P:Program)(w:World)(H:Hp)(s:Shared)(Q:VK)(u:Value)(s':Shared):Prop:=
 ∃ v H',s'.os=s.os/\AllBare s'.gens/\Un (frs outer) [] H H' s.heap s'.heap/\HOk P w H' s'.heap/\bD v u/\Q v H'
def CR(CX:CXT)(outer:List Env)(P:Program)(w:World)(H:Hp)(s:Shared)(Q:VK)(E:XK)(r:Result)(s':Shared):Prop:=
 match r with
 | .ok (.ret u)=>CE outer P w H s Q u s'
 | .ok _=>False
 | .error e=>CX outer H s E e s'
structure aH(P:Program)(w:World)(K:W.Frag)(mg:Str->Option Value)(base:Heap)(CX:CXT)(k:Nat)(f:Addr)(fd:FuncData)(ps:List Str)(sp:Sp):Prop where
 len:∀ vs H Q E,sp vs H Q E->vs.length=ps.length
 run:∀ (A:Around) (outer:List Env) (s:Shared) (H:Hp) (args:Args) (us:List Value) (vs:List V) (Q:VK) (E:XK),iA k A->Fo P w K mg base A outer s H->BindsTo s fd args (ps.zip us)->aW vs us->sp vs H Q E →
  codeAny (model P w) A (.call (.ref f) args) (CR CX outer P w H s Q E) s
def aH.imp{P:Program}{w:World}{K:W.Frag}{mg:Str->Option Value}{base:Heap}{CX:CXT}{k:Nat}{f:Addr}{fd:FuncData}{ps:List Str}{sp aa:Sp}(F:aH P w K mg base CX k f fd ps sp)
  (h:∀ vs H Q E,aa vs H Q E->sp vs H Q E):aH P w K mg base CX k f fd ps aa:=
 ⟨λ vs H Q E q=>F.len vs H Q E (h _ _ _ _ q),λ A outer s H args us vs Q E hr he hb hv hs=>F.run A outer s H args us vs Q E hr he hb hv (h _ _ _ _ hs)⟩
def Fo.make{P:Program}{w:World}{K:W.Frag}{mg:Str->Option Value}{base:Heap}{A:Around}{outer:List Env}{s:Shared}{H:Hp}(e:Fo P w K mg base A outer s H)(C:Addr)(us:List Value)(kw:List (Str × Value)) :
  Fo P w K mg base (A.under (.builtin "type.__call__" ⟨.ref C::us,kw⟩)) outer s H:=⟨by first|exact e.frames|(simpa [Around.under,Code.envs,Code.isFrame,pushEnvs] using e.frames),e.mod,e.bs,e.bsz,e.funs,e.frf,e.hok,e.bare⟩
section
variable {X:Cx}{pins:List (Addr × Obj)}{σ:St}{H:Hp}{s s':Shared}
def Inv.env0(I:Inv X pins σ H s):Fo X.prog X.w X.K X.mg X.base X.A X.stack s H:=
 ⟨I.ok.frames,I.ok.mod,I.bs,Sj I.ok.bsz I.sz,I.stack,I.stkFree,I.hok,I.bare⟩
def Inv.after{Q:VK}{u:Value}(I:Inv X pins σ H s)(h:CE X.stack X.prog X.w H s Q u s'):EP X pins σ Q u s':=by
 obtain⟨v,H',os,bare,un,hok,r,q⟩:=h;obtain⟨hh,g,d,t,aa⟩:=s';obtain rfl:aa=s.os:=os;exact⟨v,H',I.call (h':=hh) (g':=g) (d':=d) (t':=t) (ch:=[]) un hok bare (λ b z=>absurd z (by simp)),r,q⟩
end
def FW(sp:Sp)(dvs:List V)(E:XK)(t:TA):TE:=λ σ H Q=>t σ H λ vs H1=>sp (vs++dvs) H1 Q E
def ak(K:W.Frag)(fd:FuncData)(ps:List Str)(ds:List Value):Prop:=
 ∀ (s:Shared) (us:List Value),K.In s.heap->(us++ds).length=ps.length->BindsTo s fd ⟨us,[]⟩ (ps.zip (us++ds))
def ak.all{K:W.Frag}{fd:FuncData}{ps:List Str}(h:∀ us:List Value,us.length=ps.length->bindArgs fd ⟨us,[]⟩=pure (ps.zip us)):ak K fd ps []:=λ s us _ hl=>by
 rw [UH] at hl ⊢;exact .of_eq (h us hl)
def iE(CX:CXT)(X:Cx)(E:XK):Prop:=∀ (pins:List (Addr × Obj)) (σ:St) (H:Hp) (s:Shared) (e:Value) (s':Shared),Inv X pins σ H s->CX X.stack H s E e s'->X.xe e s'
section
variable {X:Cx}{CX:CXT}{k:Nat}{f C:Addr}{fd:FuncData}{ps:List Str}{sp:Sp}{dvs:List V}{ds:List Value}{E:XK}{x m:Str}{p pos apos:Pos}{e o:Expr}{es:List Expr}{ta:TE}{t:TA}
def p5{pins:List (Addr × Obj)}{σ:St}{H:Hp}{s:Shared}{Q:VK}{us:List Value}{vs:List V}(F:aH X.prog X.w X.K X.mg X.base CX k f fd ps sp)(hr:iA k X.A)(hb:ak X.K fd ps ds)(hd:aW dvs ds)(hx:iE CX X E)
  (I:Inv X pins σ H s) (r:aW vs us) (h:sp (vs++dvs) H Q E):wpAny (model X.prog X.w) X.A (call (.ref f) us) (EP X pins σ Q) X.xe s:=by
 have r2:aW (vs++dvs) (us++ds):=r.append hd;have hl:(us++ds).length=ps.length:=by rw [←r2.length];exact F.len _ _ _ _ h
 refine wpAny_call (TQ (F.run X.A X.stack s H ⟨us,[]⟩ (us++ds) (vs++dvs) Q E hr I.env0 (hb s us I.kIn hl) r2 h) λ r s' hq=>?_)
 cases r with
 | error e=>exact hx pins σ H s e s' I hq
 | ok fl=>
  cases fl with
  | ret u=>exact I.after hq
  | next=>exact False.elim hq
  | brk=>exact False.elim hq
  | cont=>exact False.elim hq
def zu(F:aH X.prog X.w X.K X.mg X.base CX k f fd ps sp)(hr:iA k X.A)(hg:Gl X x)(hm:X.mg x=some (.ref f))(hk:W.keepIn X.K (.ref f)=true)(hb:ak X.K fd ps ds)(hd:aW dvs ds)(hx:iE CX X E)
  (ha:PA X (e::es) t) (aa:(x == ("__debug__":Str))=false:=by decide) (he:starEach (e::es) X.env=(false,eval e X.env)::starEach es X.env:=by rfl) (aS:(backTo pos (starEach es X.env)).any (·.1)=false:=by rfl) :
  PE X (.Call (.Name x p) (e::es) [] pos) (FW sp dvs E t):=by
 intro pins s σ H Q I h;refine SS (gP I hg hm ?_ aa);refine W.callWith_K (h₀:=X.base) I.ok.mod.kin hk (thn (ha pos pins s σ H _ I h) λ us s1 ⟨vs,H1,I1,r,q⟩=>⟨I1.kIn,?_⟩) he aS;exact p5 F hr hb hd hx I1 r q
def DU(F:aH X.prog X.w X.K X.mg X.base CX k f fd ps sp)(hr:iA k X.A)(hg:Gl X x)(hm:X.mg x=some (.ref f))(hk:W.keepIn X.K (.ref f)=true)(hb:ak X.K fd ps ds)(hd:aW dvs ds)(hx:iE CX X E)
  (aa:(x == ("__debug__":Str))=false:=by decide):PE X (.Call (.Name x p) [] [] pos) (FW sp dvs E JQ):=by
 intro pins s σ H Q I h;refine SS (gP I hg hm ?_ aa);exact Vl I.kIn hk (p5 (us:=[]) F hr hb hd hx I .nil h)
structure Mk(K:W.Frag)(C f:Addr):Prop where
 makes:W.makesIn K C=true
 init:W.findIn K (.ref C) "__init__"=some (some (.ref f))
 fn:W.isFn K (.ref f)=true
 kp:W.keepIn K (.ref C)=true
def DB{pins:List (Addr × Obj)}{σ:St}{H:Hp}{s:Shared}{Q:VK}{us:List Value}{vs:List V}(M:Mk X.K C f)(F:aH X.prog X.w X.K X.mg X.base CX k f fd ps sp)(hr:iA (k+1) X.A)(hb:ak X.K fd ps ds)(hd:aW dvs ds)
  (hx:iE CX X E) (I:Inv X pins σ H s) (r:aW vs us)
  (h:∀ x dx,H x=none->H dx=none->dx ≠ x->sp (.ref x::(vs++dvs)) (upd (upd H dx (.own x)) x (.ins C dx [])) (λ v H2=>v=.non/\Q (.ref x) H2) E) :
  wpAny (model X.prog X.w) X.A (call (.ref C) us) (EP X pins σ Q) X.xe s:=by
 have hq:=h (s.heap.objs.size+1) s.heap.objs.size (I.hok.fresh (SX _)) (I.hok.fresh (RJ _)) (RT (Tp _));have I2:=Inv.made (C:=C) I;have r2:aW (V.ref (s.heap.objs.size+1)::(vs++dvs)) (Value.ref (s.heap.objs.size+1)::(us++ds)):=.cons rfl (r.append hd)
 have hl:(Value.ref (s.heap.objs.size+1)::us++ds).length=ps.length:=by
  have e:=r2.length;rw [F.len _ _ _ _ hq] at e;exact e.symm
 refine wpAny_call (D9 (f:=f) I.kIn M.makes M.init (Ut.mp M.fn) (TQ (F.run _ X.stack _ _ ⟨Value.ref (s.heap.objs.size+1)::us,[]⟩ (Value.ref (s.heap.objs.size+1)::(us++ds)) _ _ E (hr.make C us [])
  (I2.env0.make C us []) (hb _ (Value.ref (s.heap.objs.size+1)::us) I2.kIn hl) r2 hq) λ r s' aa=>?_))
 cases r with
 | error e=>exact hx pins σ _ _ e s' I2 aa
 | ok fl=>
  cases fl with
  | ret u=>
   obtain⟨v,H',I3,rv,ev,q3⟩:=I2.after aa;subst ev;exact⟨rv,⟨V.ref (s.heap.objs.size+1),H',I3,rfl,q3⟩⟩
  | next=>exact False.elim aa
  | brk=>exact False.elim aa
  | cont=>exact False.elim aa
end
section
variable {X:Cx}{CX:CXT}{k:Nat}{f C:Addr}{fd:FuncData}{ps ks:List Str}{sp:Sp}{E:XK}{x m:Str}{p pos apos kpos:Pos}{e o:Expr}{es:List Expr}{kws:List Keyword}{te ta:TE}{t tk:TA}{nm:Option Str}
variable {g:List Value->List Value->List Value}{gV:List V->List V->List V}
end
structure ag(N P:List Str)(sc:Scope):Prop where
 kind:sc.kind=.function
 co:sc.isCoroutine=false
 gen:sc.isGenerator=false
 nd:N.Nodup
 pre:N.take P.length=P
 par:∀ x∈P,sc.names.lookup x=some .local\/sc.names.lookup x=some .cell
 nofree:∀ y∈sc.names,y.2 ≠ .free
def qJ{kindOf:Str->Option NameKind}{x:Str}:∀ {binds:List (Str × Value)}{m:Str->Option Value},(∀ v,(x,v) ∉ binds)->bindL kindOf binds m x=m x
 | [],_,_=>rfl
 | (n,v)::r,m,h=>by
  unfold bindL;rw [qJ λ w hw=>h w (mem_cons_of_mem _ hw)];split
  ·have:x ≠ n:=by rintro rfl;exact h v R5
   simp [this]
  ·rfl
def qL{kindOf:Str->Option NameKind}{x:Str}:∀ {binds:List (Str × Value)}{m:Str->Option Value},(∀ v,(x,v) ∉ binds)->bindC kindOf binds m x=m x
 | [],_,_=>rfl
 | (n,v)::r,m,h=>by
  unfold bindC;rw [qL λ w hw=>h w (mem_cons_of_mem _ hw)];split
  ·rfl
  ·have:x ≠ n:=by rintro rfl;exact h v R5
   simp [this]
def qK{kindOf:Str->Option NameKind}{x:Str}{v:Value}:∀ {P:List Str}{vs:List Value}{i:Nat}{m:Str->Option Value},P.Nodup->P[i]? = some x->vs[i]? = some v->kindOf x=some .local →
  bindL kindOf (P.zip vs) m x=some v
 | [],_,_,_,_,h,_,_=>by simp at h
 | _::_,[],_,_,_,_,h,_=>by simp at h
 | p::P,w::vs,0,m,nd,h1,h2,hk=>by
  simp at h1 h2;subst h1;subst h2
  show bindL kindOf ((p,w)::P.zip vs) m p=_
  unfold bindL;rw [qJ λ v hv=>(nodup_cons.mp nd).1 (of_mem_zip hv).1,if_pos hk];simp
 | p::P,w::vs,i+1,m,nd,h1,h2,hk=>by
  show bindL kindOf ((p,w)::P.zip vs) m x=_
  unfold bindL;exact qK (i:=i) (nodup_cons.mp nd).2 (by simpa using h1) (by simpa using h2) hk
def qM{kindOf:Str->Option NameKind}{x:Str}{v:Value}:∀ {P:List Str}{vs:List Value}{i:Nat}{m:Str->Option Value},P.Nodup->P[i]? = some x->vs[i]? = some v->kindOf x ≠ some .local →
  bindC kindOf (P.zip vs) m x=some v
 | [],_,_,_,_,h,_,_=>by simp at h
 | _::_,[],_,_,_,_,h,_=>by simp at h
 | p::P,w::vs,0,m,nd,h1,h2,hk=>by
  simp at h1 h2;subst h1;subst h2
  show bindC kindOf ((p,w)::P.zip vs) m p=_
  unfold bindC;rw [qL λ v hv=>(nodup_cons.mp nd).1 (of_mem_zip hv).1,if_neg hk];simp
 | p::P,w::vs,i+1,m,nd,h1,h2,hk=>by
  show bindC kindOf ((p,w)::P.zip vs) m x=_
  unfold bindC;exact qM (i:=i) (nodup_cons.mp nd).2 (by simpa using h1) (by simpa using h2) hk
def au(N:List Str)(vs:List V):St:=vs.map some++List.replicate (N.length - vs.length) none
def CH(CX:CXT)(P:Program)(w:World)(K:W.Frag)(mg:Str->Option Value)(base:Heap)(N:List Str)(qual:Str)(scope:Scope)(f:Addr)(cd:Value)(A:Around)(outer:List Env)(s:Shared)(H:Hp)(E:XK):Cx where
 prog:=P
 w:=w
 K:=K
 mg:=mg
 base:=base
 A:=A.deeper (envOfC qual scope s.heap.objs.size f cd)
 N:=N
 s₀:=s
 H₀:=H
 env:=envOfC qual scope s.heap.objs.size f cd
 outer:=outer
 stack:=envOfC qual scope s.heap.objs.size f cd::outer
 ex:=[]
 calm:=true
 fn:=λ _=>true
 pn:=[]
 xe:=λ e s'=>wpAny (model P w) (A.deeper (envOfC qual scope s.heap.objs.size f cd)) (leaving (envOfC qual scope s.heap.objs.size f cd) e) (λ _ aa=>CX outer H s E e aa) (λ e' aa=>CX outer H s E e' aa) s'
def vO{sc:Scope}{n:Nat}{x:Str}(h:sc.names.lookup x=some .cell):∃ c,(cellsFrom n sc.names []).lookup x=some c:=by
 have q:=W.cellsFrom_some sc.names n [] (.inl h);exact Tu.mp q
def BX{CX:CXT}{P:Program}{w:World}{K:W.Frag}{mg:Str->Option Value}{base:Heap}{N ps:List Str}{qual:Str}{scope:Scope}{f:Addr}{cd:Value}{A:Around}{outer:List Env}{s s1:Shared}{H:Hp}{E:XK}{us:List Value}{vs:List V}
  (S:ag N ps scope) (hd:A.handled=none) (e0:Fo P w K mg base A outer s H) (hl:vs.length=ps.length) (r:aW vs us)
  (x:InCallC s s.heap.objs.size (bindL (envOfC qual scope s.heap.objs.size f cd).kindOf (ps.zip us) λ _=>none) (cellsFrom (s.heap.objs.size+1) scope.names []) (bindC (envOfC qual scope s.heap.objs.size f cd).kindOf (ps.zip us) λ _=>none) s1) :
  Inv (CH CX P w K mg base N qual scope f cd A outer s H E) [] (au N vs) H s1:=by
 have a3:ps.length<=N.length:=by have:=Tf List.length S.pre;rw [SW] at this;omega
 obtain⟨h1,tk,rfl,hk⟩:=x.done;have aa:∀ b:Addr,b ∉ (CH CX P w K mg base N qual scope f cd A outer s H E).ex:=λ b z=>absurd (show b∈([]:List Addr) from z) (by simp)
 refine⟨⟨e0.mod,S.kind,rfl,rfl,RJ _,λ y z c h1 h2=>?_,λ y hy=>?_,λ y c _ h=>?_,λ _=>hd,Around.frames_deeper e0.frames,.inr ⟨rfl,rfl⟩,λ b z=>absurd z (aa b),e0.bs,e0.bsz,λ b _ _=>aa b,λ b z=>absurd z (aa b),e0.funs,e0.frf⟩,
  rfl,e0.bare,Un.kept hk,⟨_,x.toInCall.ns,λ i y v h1 h2 h3=>?_⟩,λ y c h=>⟨_,x.cell y c h⟩,e0.hok.fresh (RJ _),λ y c h=>?_,λ p hp=>absurd (show p∈([]:List (Addr × Obj)) from hp) (by simp),e0.hok.kept hk,?_⟩
 ·exact name_of_addr x.apart (Tr h1) (Tr h2)
 ·have hy:scope.names.lookup y=some .cell\/scope.names.lookup y=some .free:=hy
  rcases hy with hy|hy
  ·exact vO hy
  ·exact absurd rfl (S.nofree _ (Tr hy))
 ·exact T4 (x.above y c (Tr h))
 ·have hi:i < vs.length:=by
   unfold au at h2
   by_cases hi:i < vs.length
   ·exact hi
   ·rw [Sw (by simpa using hi)] at h2;rw [TF] at h2
    split at h2<;>cases h2
  have ha:vs[i]? = some v:=by
   unfold au at h2;rw [getElem?_append_left (by simpa using hi),getElem?_map] at h2
   cases e:vs[i]? with
   | none=>rw [e] at h2;cases h2
   | some a=>rw [e] at h2;cases h2;rfl
  obtain⟨u,hu,rv⟩:=r.get ha
  have hp:ps[i]? = some y:=by
   rw [←S.pre,List.getElem?_take_of_lt (by omega)];exact h1
  have aS:ps.Nodup:=by rw [←S.pre];exact S.nd.sublist (List.take_sublist _ _)
  refine⟨u,rv,?_⟩
  rcases S.par y (Sa hp) with k|k
  ·exact .inl ⟨k,qK aS hp hu k⟩
  ·obtain⟨c,e⟩:=vO (n:=s.heap.objs.size+1) k;refine .inr ⟨.inl k,c,e,?_⟩;have q:=x.cell y c e;rw [qM aS hp hu (by show scope.names.lookup y ≠ _;rw [k];decide)] at q;exact q
 ·exact e0.hok.fresh (T4 (x.above y c (Tr h)))
 ·unfold au
  show _=N.length
  rw [R3,RH,Td];omega
def KP{CX:CXT}{P:Program}{w:World}{K:W.Frag}{mg:Str->Option Value}{base:Heap}{k:Nat}{f:Addr}{name qual:Str}{params:Arguments}{body:List Stmt}{scope:Scope}{dV kV doc pm cdv ct oc:Value}{an od:Option Addr}
  {osl:Array (Option Value)} {N ps:List Str} {sp:Sp} (lk:K.lookup f=some ⟨oc,od,.func (W.fnOf name qual params body scope dV kV doc pm an cdv ct),osl⟩) (a4:W.codeIn K cdv qual=true) (S:ag N ps scope)
  (len:∀ vs H Q E,sp vs H Q E->vs.length=ps.length)
  (aa:∀ (A:Around) (outer:List Env) (s:Shared) (H:Hp) (vs:List V) (Q:VK) (E:XK),iA k (A.deeper (envOfC qual scope s.heap.objs.size f cdv))->sp vs H Q E →
   ∃ t,PSs (CH CX P w K mg base N qual scope f cdv A outer s H E) body t/\t { nx:=λ _ H'=>Q .non H',rt:=Q } (au N vs) H) :
  aH P w K mg base CX (k+1) f (W.fnOf name qual params body scope dV kV doc pm an cdv ct) ps sp:=by
 refine⟨len,λ A outer s H args us vs Q E hr e0 hb r a3=>?_⟩;have hl:=len _ _ _ _ a3;have KX:K.In s.heap:=e0.mod.kin.keeps λ b o e=>(e0.bs b o e).1;have lim:s.heap.NoLimit:=e0.mod.nolimit.keeps λ b o e=>(e0.bs b o e).1
 have aS:∀ y∈ps.zip us,scope.names.lookup y.1=some .local\/(scope.names.lookup y.1=some .cell/\((cellsFrom (s.heap.objs.size+1) scope.names []).lookup y.1).isSome=true):=λ ⟨n,v⟩ hy=>by
  rcases S.par n (UX hy).1 with q|q
  ·exact .inl q
  ·exact .inr ⟨q,W.cellsFrom_some _ _ _ (.inl q)⟩
 refine codeAny_call_function hr.depth (KX _ _ lk) rfl S.co S.gen rfl (W.codeRec_of KX a4) (hb _ _ _ _ ?_);refine wpAny_newFunctionEnv_cells S.kind aS λ env he s1 x=>?_;subst he;refine⟨lim.keeps x.toInCall.keep,codeAny_func ?_⟩;obtain⟨t,ht,hq⟩:=aa A outer s H vs Q E (hr.deeper _) a3;have I:Inv (CH CX P w K mg base N qual scope f cdv A outer s H E) [] (au N vs) H s1:=BX S hr.hd e0 hl r x;refine Up (ht [] s1 (au N vs) H _ I hq) (λ fl s' hs=>?_) λ e s' hs=>hs
 have fin:∀ {σ':St} {H':Hp} {v:V} {u:Value},Inv (CH CX P w K mg base N qual scope f cdv A outer s H E) [] σ' H' s'->bD v u->Q v H'->CE outer P w H s Q u s':=
  λ {σ' H' v u} J rv q=>⟨v,H',J.os,J.bare,J.base,J.hok,rv,q⟩
 cases fl with
 | ret u=>
  obtain⟨v,σ',H',J,rv,q⟩:=hs;exact fin J rv q
 | next=>
  obtain⟨σ',H',J,q⟩:=hs;exact fin (v:=V.non) (u:=Value.none) J rfl q
 | brk=>
  obtain⟨_,_,_,q⟩:=hs;exact False.elim q
 | cont=>
  obtain⟨_,_,_,q⟩:=hs;exact False.elim q
section
variable {X:Cx}{x:Str}{p pos:Pos}{e:Expr}{es:List Expr}{t:TA}{id T:String}{r:List V->Hp->VK->Prop}
def tCB(r:List V->Hp->VK->Prop)(t:TA):TE:=λ σ H Q=>t σ H λ vs H1=>r vs H1 Q
def kP(hc:bI X (.builtin id) r)(hg:Gl X x)(hm:X.mg x=none)(hv:bootBuiltins x=some (.builtin id))(ha:PA X (e::es) t)(hn:x ≠ "__name__":=by decide)(aa:(x == ("__debug__":Str))=false:=by decide)
  (he:starEach (e::es) X.env=(false,eval e X.env)::starEach es X.env:=by rfl) (aS:(backTo pos (starEach es X.env)).any (·.1)=false:=by rfl):PE X (.Call (.Name x p) (e::es) [] pos) (tCB r t):=by
 intro pins s σ H Q I h;refine SS (fB I hg hm hv ?_ hn aa);exact PyProof.Rows.callWith_builtin1 (thn (ha pos pins s σ H _ I h) λ us s1 ⟨vs,H1,I1,r1,q1⟩=>hc pins s1 σ H1 vs us Q I1 r1 q1) he aS
def AA(hc:bI X (.type T) r)(hg:Gl X x)(hm:X.mg x=none)(hv:bootBuiltins x=some (.type T))(ha:PA X (e::es) t)(hn:x ≠ "__name__":=by decide)(aa:(x == ("__debug__":Str))=false:=by decide)
  (he:starEach (e::es) X.env=(false,eval e X.env)::starEach es X.env:=by rfl) (aS:(backTo pos (starEach es X.env)).any (·.1)=false:=by rfl):PE X (.Call (.Name x p) (e::es) [] pos) (tCB r t):=by
 intro pins s σ H Q I h;refine SS (fB I hg hm hv ?_ hn aa);exact Sg (thn (ha pos pins s σ H _ I h) λ us s1 ⟨vs,H1,I1,r1,q1⟩=>hc pins s1 σ H1 vs us Q I1 r1 q1) he aS
end
end L2
namespace HT
open PySem PyProof.Rows
section
open PySem.SeqAt
open PySem.AutoSeq1 (wpAny_loadPart')
open PySem.MeetsSeq PySem.MeetsSeq2 PySem.MeetsSeq3
end
section
variable {prog:Program}{w:World}{A:Around}{E:Value->Shared->Prop}{s:Shared}
def cat_tup{t b:Addr}{vs ws:List Value}{Q:Value->Shared->Prop}(ht:IsTup s.heap t vs.toArray)(hb:IsTup s.heap b ws.toArray)(hv:vs ≠ [])
  (h1:ws=[]->Q (.ref t) s) (h2:ws ≠ []->Q (.ref s.heap.objs.size) { s with heap:=s.heap.push { cls:=.type "tuple",data:=.seq (vs++ws).toArray } })
  (hsz:vs.length+ws.length<=sizeLine):wpAny (model prog w) A (binaryOp .Add (.ref t) (.ref b)) Q E s:=by
 obtain⟨⟨cls,dd,data,sl⟩,ho,hc,n,hd⟩:=id ht;obtain⟨⟨a5,aS,data2,a3⟩,aa,a4,n2,hd2⟩:=id hb;simp only at hc hd a4 hd2;subst hc hd a4 hd2;have e:vs.toArray++ws.toArray=(vs++ws).toArray:=by simp
 by_cases hw:ws=[]
 ·exact concat_meets ⟨_,ho,rfl⟩ ⟨_,aa,rfl⟩ noFill_tuple_add seq_tuple_add UC Ux (Uu _ _)
   (tuple_addW1 t b vs.toArray ws.toArray n n2 dd aS sl a3 (by simpa using hv) (by simp [hw])) ⟨ho,aa,h1 hw⟩
 ·refine concat_meets ⟨_,ho,rfl⟩ ⟨_,aa,rfl⟩ noFill_tuple_add seq_tuple_add UC Ux (Uu _ _)
   (tuple_addW2 t b vs.toArray ws.toArray n n2 dd aS sl a3 (by simpa using hv) (by simpa using hw) (by rw [RY,RY];exact hsz)) ⟨ho,aa,?_⟩
  rw [e];exact h2 hw
def sIx(n d:Nat):Option Int->Nat
 | none=>d
 | some v=>if v < 0 then (v+(n:Int)).toNat else min v.toNat n
def sIx_none(n d:Nat):sIx n d none=d:=rfl
def sIx_nat(n d k:Nat):sIx n d (some (k:Int))=min k n:=by
 show (if (k:Int) < 0 then ((k:Int)+(n:Int)).toNat else min (k:Int).toNat n)=min k n
 rw [RQ (by omega),Sk]
def La(n d:Nat)(hd:d<=n)(o:Option Int):sIx n d o<=n:=by
 cases o with
 | none=>exact hd
 | some v=>
  show (if v < 0 then (v+(n:Int)).toNat else min v.toNat n)<=n
  by_cases hv:v < 0
  ·rw [RX hv];omega
  ·rw [RQ hv];exact Nat.min_le_right _ _
def zN(v:Int)(n d:Nat):(if v < 0 then max (v+(n:Int)) 0 else min v (n:Int))=((sIx n d (some v):Nat):Int):=by
 show (if v < 0 then max (v+(n:Int)) 0 else min v (n:Int))=(((if v < 0 then (v+(n:Int)).toNat else min v.toNat n):Nat):Int)
 by_cases hv:v < 0
 ·simp only [RX hv];omega
 ·simp only [RQ hv];omega
def x5(lo hi:Option Int)(n:Nat):Builtin.Slice.sliceAdjust lo hi 1 (n:Int)=(((sIx n 0 lo:Nat):Int),((sIx n n hi:Nat):Int)):=by
 have h1:¬ ((1:Int) < 0):=by omega
 unfold Builtin.Slice.sliceAdjust;simp only [h1,if_false];refine Prod.ext ?_ ?_
 ·cases lo with
  | none=>rfl
  | some v=>exact zN v n 0
 ·cases hi with
  | none=>rfl
  | some v=>exact zN v n n
def wR(i j:Nat):Builtin.Slice.slicePlaces (i:Int) (j:Int) 1=j - i:=by
 unfold Builtin.Slice.slicePlaces;have h1:(1:Int) > 0:=by omega
 simp only [h1,U3,Int.ediv_one]
 split<;>omega
def ni{v:Value}{o:Option Int}{Q:Option Int->Shared->Prop}(p:IsPart v o)(h:Q o s):wpAny (model prog w) A (Builtin.Slice.slicePartIndex v) Q E s:=by
 cases p with
 | none=>exact slicePart_none h
 | int i t=>exact slicePart_int h
def fD{sl:Addr}{vl vu:Value}{lo hi:Option Int}{n:Nat}{Q:Int × Int × Nat->Shared->Prop}(hs:s.heap.IsSliceOf sl vl vu .none)(pl:IsPart vl lo)(pu:IsPart vu hi)
  (h:Q (((sIx n 0 lo:Nat):Int),1,sIx n n hi - sIx n 0 lo) s):wpAny (model prog w) A (Builtin.Slice.sliceApplied (.ref sl) (pure (n:Int))) Q E s:=by
 obtain⟨os,aa,a3,aS⟩:=id hs;unfold Builtin.Slice.sliceApplied Builtin.Slice.sliceFields;refine wpAny_bind (wpAny_bind (wpAny_field aa aS (x:=vl) rfl (wpAny_bind (wpAny_field aa aS (x:=vu) rfl (wpAny_bind (wpAny_field aa aS (x:=.none) rfl (wpAny_pure ?_)))))));refine wpAny_bind (slicePart_none ?_)
 show wpAny _ _ (if ((1:Int) == 0)=true then _ else _) _ _ s
 rw [RQ (by decide)];refine My (ni pl (My (ni pu (My (RI ?_)))))
 show wpAny _ _ (match Builtin.Slice.sliceAdjust lo hi 1 (n:Int) with|(lo,hi)=>pure (lo,(1:Int),Builtin.Slice.slicePlaces lo hi 1)) _ _ s
 rw [x5 lo hi n]
 show wpAny _ _ (pure (((sIx n 0 lo:Nat):Int),(1:Int),Builtin.Slice.slicePlaces ((sIx n 0 lo:Nat):Int) ((sIx n n hi:Nat):Int) 1)) _ _ s
 rw [wR];exact RI h
def DM(xs:Array Value)(i k:Nat):((List.range k).filterMap λ (m:Nat)=>xs[((i:Int)+(m:Int) * 1).toNat]?).toArray=((xs.toList.drop i).take k).toArray:=by
 have e:(λ (m:Nat)=>xs[((i:Int)+(m:Int) * 1).toNat]?)=λ m=>xs[i+m]?:=by
  funext m;have:((i:Int)+(m:Int) * 1).toNat=i+m:=by omega
  rw [this]
 rw [e];have:=pick_run xs i k;rw [List.filterMap_map] at this;have e2:((λ x=>xs[x]?) ∘ λ x=>i+x)=λ m=>xs[i+m]?:=rfl;rw [e2] at this;rw [this]
def getItem_tuple_cut{t sl:Addr}{items:Array Value}{vl vu:Value}{lo hi:Option Int}{Q:Value->Shared->Prop}(ht:IsTup s.heap t items)(hs:s.heap.IsSliceOf sl vl vu .none)(pl:IsPart vl lo)(pu:IsPart vu hi)
  (hw:¬ (sIx items.size 0 lo=0/\sIx items.size items.size hi=items.size))
  (h:Q (.ref s.heap.objs.size) { s with heap:=s.heap.push { cls:=.type "tuple",data:=.seq ((items.toList.drop (sIx items.size 0 lo)).take (sIx items.size items.size hi - sIx items.size 0 lo)).toArray } })
  (hsz:items.size<=sizeLine):wpAny (model prog w) A (getItem (.ref t) (.ref sl)) Q E s:=by
 have aa:sizeOk (.seq ((items.toList.drop (sIx items.size 0 lo)).take (sIx items.size items.size hi - sIx items.size 0 lo)).toArray):=by
  show ((items.toList.drop (sIx items.size 0 lo)).take (sIx items.size items.size hi - sIx items.size 0 lo)).toArray.size<=sizeLine
  rw [RY,SW,Vi,Tt];omega
 have hj:sIx items.size items.size hi<=items.size:=La _ _ (Nat.le_refl _) hi;obtain⟨os,aS,a3,a6⟩:=id hs;have a4:s.TypeIs (.ref sl) "slice":=⟨os,aS,a3⟩;unfold getItem
 try with_reducible refine SU ?_
 first|refine My (RI ?_)|skip
 refine My (wpAny_sequenceKey ht.typeIs (by decide) ?_)
 refine My (SA (name:=Str.ofString "__getitem__") ht.typeIs Su
  (S0 Su ht.typeIs entry_tuple_getitem ?_ (args_tuple_getitem _ _)))
 show wpAny _ _ (Builtin.Tuple.tupleItemsOf (.ref t) >>= _) _ _ s
 refine My (tupleItemsOf_ ht ?_);refine My (Uy a4 ?_);rw [RX (by decide)];refine My (fD hs pl pu ?_)
 have a5:¬ ((((sIx items.size 0 lo:Nat):Int) == 0 && (1:Int) == 1 && (sIx items.size items.size hi - sIx items.size 0 lo) == items.size)=true):=by
  intro q;rw [S9,S9] at q;have q1:((sIx items.size 0 lo:Nat):Int)=0:=eq_of_beq q.1.1;have q2:sIx items.size items.size hi - sIx items.size 0 lo=items.size:=eq_of_beq q.2;exact hw ⟨by omega,by omega⟩
 show wpAny _ _ (if (((sIx items.size 0 lo:Nat):Int) == 0 && (1:Int) == 1 && (sIx items.size items.size hi - sIx items.size 0 lo) == items.size)=true then _ else _) _ _ s
 rw [RQ a5,DM]
 first
  | exact My (m:=Builtin.Tuple.tupleExact _) (SV (RI ⟨_,rfl,RI h⟩) aa)
  | exact My (m:=Builtin.Tuple.tupleExact _) (SV (My (RI (RI ⟨_,rfl,RI h⟩))) aa)
  | exact My (My (m:=Builtin.Tuple.tupleExact _) (SV (RI (RI ⟨_,rfl,RI h⟩)) aa))
  | exact My (My (m:=Builtin.Tuple.tupleExact _) (SV (RI ⟨_,rfl,RI h⟩) aa))
end
end HT
namespace L2
open PySem PySem.Spec PyProof.Rows
abbrev TO:=St->Hp->(Option Int->Hp->Prop)->Prop
def PO(X:Cx)(e:Option Expr)(t:TO):Prop:=
 ∀ (pins:List (Addr × Obj)) (s:Shared) (σ:St) (H:Hp) (Q:Option Int->Hp->Prop),Inv X pins σ H s->t σ H Q →
  wpAny (model X.prog X.w) X.A (evalPart e X.env) (λ u s'=>∃ o H',Inv X pins σ H' s'/\IsPart u o/\Q o H') X.xe s
def zb:TO:=λ _ H Q=>Q none H
def Kb(t:TE):TO:=λ σ H Q=>t σ H λ x H1=>∃ i,x=.int i/\Q (some i) H1
def xF{ns:List Int}:∀ {us:List Value},aW (ns.map V.int) us->IntsAre us ns:=by
 induction ns with
 | nil=>intro us r;rw [Va] at r;cases r;exact .nil
 | cons n ns ih=>
  intro us r;rw [Sm] at r
  cases r with
  | cons r1 r2=>
   obtain⟨t,e⟩:=r1;subst e;exact .cons n t (ih r2)
section
variable {X:Cx}{e:Expr}{te:TE}{lo hi:Option Expr}{tl th:TO}{pos p2:Pos}
def lx:PO X none zb:=by
 intro pins s σ H Q I h;rw [evalPart_none];exact RI ⟨none,H,I,.none,h⟩
def gN(h:PE X e te):PO X (some e) (Kb te):=by
 intro pins s σ H Q I hw;rw [evalPart_some];refine thn (h pins s σ H _ I hw) λ u s1 ⟨x,H1,I1,r1,q1⟩=>?_;obtain⟨i,rfl,q⟩:=q1;obtain⟨t,rfl⟩:=r1;exact⟨some i,H1,I1,.int i t,q⟩
def SlR(X:Cx)(r:V->Option Int->Option Int->Hp->VK->Prop):Prop:=
 ∀ (pins:List (Addr × Obj)) (s:Shared) (σ:St) (H:Hp) (x:V) (v vl vu:Value) (lo hi:Option Int) (sl:Addr) (Q:VK),Inv X pins σ H s->bD x v->s.heap.IsSliceOf sl vl vu .none->IsPart vl lo->IsPart vu hi->r x lo hi H Q →
  ∃ T id,typeLookup (.type T) "__getitem__"=pure (some (.builtin id))/\s.TypeIs v T/\wpAny (model X.prog X.w) X.A (getItem v (.ref sl)) (EP X pins σ Q) X.xe s
def tSl(r:V->Option Int->Option Int->Hp->VK->Prop)(te:TE)(tl th:TO):TE:=λ σ H Q=>te σ H λ x H1=>tl σ H1 λ l H2=>th σ H2 λ u H3=>r x l u H3 Q
def DP{r:V->Option Int->Option Int->Hp->VK->Prop}(hr:SlR X r)(he:PE X e te)(hl:PO X lo tl)(hu:PO X hi th):PE X (.Subscript e (.Slice lo hi none p2) pos) (tSl r te tl th):=by
 intro pins s σ H Q I h;refine Subscript_ (thn (he pins s σ H _ I h) λ v s1 ⟨x,H1,I1,r1,q1⟩=>?_);refine wpAny_Slice (thn (hl pins s1 σ H1 _ I1 q1) λ vl s2 ⟨l,H2,I2,pl,q2⟩=>thn (hu pins s2 σ H2 _ I2 q2) λ vu s3 ⟨u,H3,I3,pu,q3⟩=>?_);rw [evalPart_none];refine RI ?_;have I4:Inv X pins σ H3 { s3 with heap:=s3.heap.push { cls:=.type "slice",data:=.fields #[vl,vu,.none] } }:=I3.kept (t':=s3.toks) λ b ob q=>RD _ q;obtain⟨T,id,hT,ht,hg⟩:=hr pins { s3 with heap:=s3.heap.push { cls:=.type "slice",data:=.fields #[vl,vu,.none] } } σ H3 x v vl vu l u s3.heap.objs.size Q I4 r1 (Heap.IsSliceOf.new ..) pl pu q3
 show wpAny (model X.prog X.w) X.A (subscriptTail e (.Slice lo hi none p2) v (.ref s3.heap.objs.size)) (EP X pins σ Q) X.xe { s3 with heap:=s3.heap.push { cls:=.type "slice",data:=.fields #[vl,vu,.none] } }
 exact tail_any (ops:=[.ref s3.heap.objs.size,v]) ht hT hg (by with_unfolding_all rfl)
def mO(xs:List V)(lo hi:Option Int):List V:=(xs.drop (HT.sIx xs.length 0 lo)).take (HT.sIx xs.length xs.length hi - HT.sIx xs.length 0 lo)
def mi(xs:List V)(lo hi:Option Int):(mO xs lo hi).length<=xs.length:=by
 unfold mO;rw [length_take,List.length_drop];omega
def Q3(K:W.Frag):V->Option Int->Option Int->Hp->VK->Prop:=λ x lo hi H Q=>∃ a xs,x=.ref a/\SqT K H a xs /\
 ¬ (HT.sIx xs.length 0 lo=0/\HT.sIx xs.length xs.length hi=xs.length)/\∀ p,H p=none->Q (.ref p) (upd H p (.tup (mO xs lo hi)))
def K9:SlR X (Q3 X.K):=by
 intro pins s σ H x v vl vu lo hi sl Q I rx hs pl pu h;obtain⟨a,xs,rfl,hx,hw,q⟩:=h;cases rx;obtain⟨its,r,ht,hz⟩:=I.tuple hx;have hlen:its.toArray.size=xs.length:=by rw [RY];exact r.length.symm
 refine⟨"tuple",_,Su.lookup,ht.typeIs,?_⟩;refine HT.getItem_tuple_cut ht hs pl pu (by rw [hlen];exact hw) ?_ (by rw [hlen];exact hz);rw [hlen];refine⟨.ref s.heap.objs.size,_,I.laid (t':=s.toks) (o:=.tup (mO xs lo hi)) (λ b ob q=>RD _ q) (RJ _) ?_,rfl,q _ (I.hok.fresh (RJ _))⟩;exact⟨Sj (mi xs lo hi) hz,_,(r.drop (HT.sIx xs.length 0 lo)).take (HT.sIx xs.length xs.length hi - HT.sIx xs.length 0 lo),IsTup.new _ _⟩
def OT(K:W.Frag):R2:=λ x y H Q=>∃ a b xs ys,x=.ref a/\y=.ref b/\SqT K H a xs/\SqT K H b ys/\xs ≠ []/\xs.length+ys.length<=sizeLine /\
 (ys=[]->Q (.ref a) H)/\(ys ≠ []->∀ p,H p=none->Q (.ref p) (upd H p (.tup (xs++ys))))
def aW.nil_iff{xs:List V}{us:List Value}(r:aW xs us):us=[] ↔ xs=[]:=by
 cases r with
 | nil=>simp
 | cons _ _=>simp
def Hy:OpR X (binaryOp .Add) (OT X.K):=by
 intro pins s σ H x y v u Q I rx ry h;obtain⟨a,b,xs,ys,rfl,rfl,ha,hb,hx,hz,q1,q2⟩:=h;cases rx;cases ry;obtain⟨its,r1,p1,_⟩:=I.tuple ha;obtain⟨aa,r2,p2,_⟩:=I.tuple hb;refine HT.cat_tup p1 p2 (λ z=>hx (r1.nil_iff.mp z)) (λ z=>⟨.ref a,H,I,rfl,q1 (r2.nil_iff.mp z)⟩) (λ z=>?_) (by rw [←r1.length,←r2.length];exact hz);refine⟨.ref s.heap.objs.size,_,I.laid (t':=s.toks) (o:=.tup (xs++ys)) (λ b ob q=>RD _ q) (RJ _) ?_,rfl,q2 (λ w=>z (r2.nil_iff.mpr w)) _ (I.hok.fresh (RJ _))⟩;exact⟨by rw [R3];exact hz,_,r1.append r2,IsTup.new _ _⟩
end
def ixN(n:Nat)(i:Int):Option Nat:=if 0<=i then (if i < n then some i.toNat else none) else if -(n:Int)<=i then some (i+n).toNat else none
def atI{α:Type}(xs:List α)(i:Int):Option α:=(ixN xs.length i).bind λ j=>xs[j]?
def zE{n:Nat}{i:Int}{j:Nat}(h:ixN n i=some j):seqIndex? i n=some j/\j < n/\-(n:Int)<=i/\i < n:=by
 unfold ixN at h
 by_cases h0:0<=i
 ·rw [RX h0] at h
  by_cases h1:i < n
  ·rw [RX h1] at h;have e:i.toNat=j:=Ss h;exact⟨by rw [seqIndex_of h0 h1,e],by omega,by omega,h1⟩
  ·rw [RQ h1] at h;cases h
 ·rw [RQ h0] at h
  by_cases h1:-(n:Int)<=i
  ·rw [RX h1] at h;have e:(i+n).toNat=j:=Ss h;exact⟨by rw [seqIndex_neg (by omega) h1,e],by omega,h1,by omega⟩
  ·rw [RQ h1] at h;cases h
def zX{α:Type}{xs:List α}{i:Int}{v:α}(h:atI xs i=some v):∃ j,seqIndex? i xs.length=some j/\xs[j]? = some v/\j < xs.length/\-(xs.length:Int)<=i/\i < xs.length:=by
 unfold atI at h
 cases e:ixN xs.length i with
 | none=>rw [e] at h;cases h
 | some j=>
  rw [e] at h;obtain⟨h1,h2,h3,h4⟩:=zE e;exact⟨j,h1,h,h2,h3,h4⟩
def cM{α:Type}{xs:List α}{j:Nat}{v:α}(h:xs[j]? = some v):atI xs (j:Int)=some v:=by
 have hj:j < xs.length:=(RG.mp h).1
 have e:ixN xs.length (j:Int)=some j:=by
  unfold ixN;rw [if_pos (by omega),if_pos (by omega)];simp
 unfold atI;rw [e];exact h
def iK{α:Type}(xs:List α)(v:α):atI (xs++[v]) (-1)=some v:=by
 have hl:(xs++[v]).length=xs.length+1:=by simp
 have e:ixN (xs++[v]).length (-1)=some xs.length:=by
  unfold ixN;rw [hl,if_neg (by decide),if_pos (by omega)];congr 1;omega
 unfold atI;rw [e]
 show (xs++[v])[xs.length]? = some v
 simp
def JL(b:Expr):Prop:=∀ o i,subscripted b false o i=operate [o,i] (getItem o i)
def IxR(X:Cx)(r:R2):Prop:=
 ∀ (value slice:Expr) (pins:List (Addr × Obj)) (s:Shared) (σ:St) (H:Hp) (x y:V) (v u:Value) (Q:VK),Inv X pins σ H s->bD x v->bD y u->r x y H Q →
  subscripted slice false v u=operate [v,u] (getItem v u)->wpAny (model X.prog X.w) X.A (subscriptTail value slice v u) (EP X pins σ Q) X.xe s
def MtR(X:Cx)(id:String)(r:V->List V->Hp->VK->Prop):Prop:=
 ∀ (pins:List (Addr × Obj)) (s:Shared) (σ:St) (H:Hp) (x:V) (xs:List V) (v:Value) (us:List Value) (Q:VK),Inv X pins σ H s->bD x v->aW xs us->r x xs H Q →
  wpAny (model X.prog X.w) X.A (call (.builtin id) (v::us)) (EP X pins σ Q) X.xe s
section
variable {X:Cx}{a b:Expr}{ta tb:TE}{pos:Pos}
def IxR.or{r r':R2}(h:IxR X r)(h':IxR X r'):IxR X (λ x y H Q=>r x y H Q\/r' x y H Q):=by
 intro value slice pins s σ H x y v u Q I rx ry q hs
 rcases q with q|q
 ·exact h value slice pins s σ H x y v u Q I rx ry q hs
 ·exact h' value slice pins s σ H x y v u Q I rx ry q hs
def Gh{r:R2}(hr:IxR X r)(ha:PE X a ta)(hb:PE X b tb)(hs:JL b):PE X (.Subscript a b pos) (tOp r ta tb):=by
 intro pins s σ H Q I h;exact Subscript_ (OJ ha hb I h λ v u s2 x y H2 I2 rx ry q=>hr a b pins s2 σ H2 x y v u Q I2 rx ry q (hs _ _))
def Q9(K:W.Frag):R2:=λ x y H Q=>∃ p xs i v,x=.ref p/\y=.int i/\SqL K H p xs/\atI xs i=some v/\Q v H
def Q8(K:W.Frag):R2:=λ x y H Q=>∃ p xs i v,x=.ref p/\y=.int i/\SqT K H p xs/\atI xs i=some v/\Q v H
def t7:IxR X (Q9 X.K):=by
 intro value slice pins s σ H x y v u Q I rx ry h hs;obtain⟨p,xs,i,z,rfl,rfl,hq,he,q⟩:=h;cases rx;obtain⟨t,rfl⟩:=ry;obtain⟨its,r,pl,hz⟩:=I.list hq;obtain⟨j,h1,h2,h3,h4,h5⟩:=zX he;obtain⟨w,ew,rw'⟩:=r.get h2;have hl:=r.length;have hn:=m6;have fin:EP X pins σ Q w s:=⟨z,H,I,rw',q⟩
 by_cases h0:0<=i
 ·have hj:i.toNat=j:=by
   rw [seqIndex_of h0 h5] at h1;exact Ss h1
  exact item_listR pl.isList h0 (by omega) (by rw [hj];simpa using ew) fin hs
 ·have hj:(i+(its.toArray.size:Int)).toNat=j:=by
   rw [seqIndex_neg (by omega) h4] at h1;rw [RY,←hl];exact Ss h1
  exact subscriptTail_builtinR (x:=w) pl.isList.typeIs slot_list_getitem.lookup
   (wpAny_getItem_list_neg (Q:=λ r s'=>r=w/\EP X pins σ Q r s') pl.isList (by omega) (by rw [RY]<;>omega) (by omega) (by rw [hj];simpa using ew) ⟨rfl,fin⟩) hs
def Np:IxR X (Q8 X.K):=by
 intro value slice pins s σ H x y v u Q I rx ry h hs;obtain⟨p,xs,i,z,rfl,rfl,hq,he,q⟩:=h;cases rx;obtain⟨t,rfl⟩:=ry;obtain⟨its,r,pl,hz⟩:=I.tuple hq;obtain⟨j,h1,h2,h3,h4,h5⟩:=zX he;obtain⟨w,ew,rw'⟩:=r.get h2;have hl:=r.length;have hn:=m6;have fin:EP X pins σ Q w s:=⟨z,H,I,rw',q⟩
 exact subscriptTail_builtinR (x:=w) pl.typeIs slot_tuple_getitem.lookup
  (getItem_tuple (j:=j) (Q:=λ r s'=>r=w/\EP X pins σ Q r s') pl (by omega) (by omega) (by rw [RY,←hl];exact h1) (by simpa using ew) ⟨rfl,fin⟩) hs
def w6(its:List Value)(n j:Nat)(u:Value):Obj.mapSeq (·.setIfInBounds j u) { cls:=.type "list",data:=.seq its.toArray n }={ cls:=.type "list",data:=.seq (its.set j u).toArray n }:=by
 simp [Obj.mapSeq]
def Inv.lst{pins:List (Addr × Obj)}{σ:St}{H:Hp}{s:Shared}{p:Addr}{xs:List V}(I:Inv X pins σ H s)(h:H p=some (.lst xs)) :
  ∃ (its:List Value) (n:Nat),aW xs its/\s.heap.get? p=some { cls:=.type "list",data:=.seq its.toArray n }/\xs.length<=sizeLine:=by
 obtain⟨z,its,n,r,e⟩:=I.hok p _ h;exact⟨its,n,r,e,z⟩
def Inv.lstUpd{pins:List (Addr × Obj)}{σ:St}{H:Hp}{s:Shared}{p:Addr}{xs ys:List V}{its its':List Value}{n n':Nat}{f:Obj->Obj}(I:Inv X pins σ H s)(h:H p=some (.lst xs))
  (ho:s.heap.get? p=some { cls:=.type "list",data:=.seq its.toArray n }) (hf:f { cls:=.type "list",data:=.seq its.toArray n }={ cls:=.type "list",data:=.seq its'.toArray n' }) (r:aW ys its') (hz:ys.length<=sizeLine) (t:Nat) :
  Inv X pins σ (upd H p (.lst ys)) { s with heap:=s.heap.update p f,toks:=t }:=by
 have e:(s.heap.update p f).get? p=some { cls:=.type "list",data:=.seq its'.toArray n' }:=by
  rw [R8 f ho (by rw [hf]<;>rfl),hf]
 refine I.write (x:=p) (e:=p) (by rw [h];trivial) (.inl rfl) (λ b u hb q=>(Sd _ _ (RO hb)).trans q) ⟨_,e⟩ ?_;exact⟨hz,its',n',r,e⟩
def Kj:V->V->V->Hp->(Hp->Prop)->Prop:=λ o i v H Q=>∃ p xs k j,o=.ref p/\i=.int k/\H p=some (.lst xs)/\ixN xs.length k=some j/\Q (upd H p (.lst (xs.set j v)))
def kM:QT X Kj:=by
 intro pins s σ H o i v ov iv u Q I ro ri rv h;obtain⟨p,xs,k,j,rfl,rfl,hp,hj,q⟩:=h;cases ro;obtain⟨t,rfl⟩:=ri;obtain⟨its,n,r,ho,hz⟩:=I.lst hp;obtain⟨h1,h2,h3,h4⟩:=zE hj;have hl:=r.length;have hn:=m6
 have I':Inv X pins σ (upd H p (.lst (xs.set j v))) { s with heap:=s.heap.update p (Obj.mapSeq (·.setIfInBounds j u)) }:=
  I.lstUpd hp ho (w6 its n j u) (r.set rv j) (by rw [UY];exact hz) s.toks
 by_cases h0:0<=k
 ·have hk:k.toNat=j:=by
   rw [seqIndex_of h0 h4] at h1;exact Ss h1
  exact W.ki_setAt ho h0 (by omega) (by rw [RY,←hl];exact h4) (by rw [hk];exact⟨_,I',q⟩)
 ·have hk:(k+(its.toArray.size:Int)).toNat=j:=by
   rw [seqIndex_neg (by omega) h3] at h1;rw [RY,←hl];exact Ss h1
  exact W.ki_setBack ho (by omega) (by rw [RY,←hl];exact h3) (by omega) (by rw [hk];exact⟨_,I',q⟩)
def rD(lo hi:Option Int)(n:Nat):(sliceBounds lo hi none n).1=((HT.sIx n 0 lo:Nat):Int)/\(sliceBounds lo hi none n).2.1=((HT.sIx n n hi:Nat):Int)/\(sliceBounds lo hi none n).2.2=1:=by
 refine⟨?_,?_,rfl⟩
 ·cases lo with
  | none=>simp [sliceBounds,HT.sIx]
  | some i=>
   simp only [sliceBounds,HT.sIx,Option.getD_none,show (1:Int) > 0 by decide,U3]
   by_cases h:i < 0
   ·simp only [h,U3]<;>omega
   ·simp only [h,Ug]<;>omega
 ·cases hi with
  | none=>simp [sliceBounds,HT.sIx]
  | some i=>
   simp only [sliceBounds,HT.sIx,Option.getD_none,show (1:Int) > 0 by decide,U3]
   by_cases h:i < 0
   ·simp only [h,U3]<;>omega
   ·simp only [h,Ug]<;>omega
def oX(its:List Value)(lo hi:Option Int):slicePick its.toArray lo hi none=((its.drop (HT.sIx its.length 0 lo)).take (HT.sIx its.length its.length hi - HT.sIx its.length 0 lo)).toArray:=by
 obtain⟨h1,h2,h3⟩:=rD lo hi its.toArray.size;unfold slicePick;rw [h1,h2,h3]
 simp only [sliceRange_one,pick_run,RY]<;>rfl
def Q4(K:W.Frag):V->Option Int->Option Int->Hp->VK->Prop:=λ x lo hi H Q=>∃ a xs,x=.ref a/\SqL K H a xs/\∀ p,H p=none->Q (.ref p) (upd H p (.lst (mO xs lo hi)))
def zc:SlR X (Q4 X.K):=by
 intro pins s σ H x v vl vu lo hi sl Q I rx hs pl pu h;obtain⟨a,xs,rfl,hx,q⟩:=h;cases rx;obtain⟨its,r,ht,hz⟩:=I.list hx;have hlen:=r.length;refine⟨"list",_,slot_list_getitem.lookup,ht.isList.typeIs,?_⟩;refine wpAny_getItem_list_slice ht.isList hs pl pu .none (by simp) ?_ (by rw [RY]<;>omega);rw [oX,←hlen];refine⟨.ref s.heap.objs.size,_,I.laid (t':=s.toks) (o:=.lst (mO xs lo hi)) (λ b ob q=>RD _ q) (RJ _) ?_,rfl,q _ (I.hok.fresh (RJ _))⟩;exact⟨Sj (mi xs lo hi) hz,_,0,(r.drop (HT.sIx xs.length 0 lo)).take (HT.sIx xs.length xs.length hi - HT.sIx xs.length 0 lo),RK _ rfl⟩
def gC:V->Bool
 | .non=>true
 | .bl _=>true
 | .int _=>true
 | .str _=>true
 | _=>false
def eqV:V->V->Bool
 | .non,.non=>true
 | .bl a,.bl b=>a == b
 | .bl a,.int b=>(if a then 1 else 0) == b
 | .int a,.bl b=>a == (if b then 1 else 0)
 | .int a,.int b=>a == b
 | .str a,.str b=>a == b
 | _,_=>false
def Nu{A:Around}{s:Shared}{y x:V}{u v:Value}(ry:bD y u)(rx:bD x v)(fy:gC y=true)(fx:gC x=true):SeqAt.EqAt A s u v (eqV y x):=by
 cases y with
 | non=>
  cases ry
  cases x with
  | non=>cases rx;exact SeqAt.EqAt.same _
  | bl b=>cases rx;exact SeqAt.EqAt.none_bool b
  | int b=>obtain⟨t,rfl⟩:=rx;exact SeqAt.EqAt.none_int b t
  | str b=>obtain⟨t,rfl⟩:=rx;exact SeqAt.EqAt.none_str b t
  | _=>exact absurd (show false=true from fx) RM
 | bl a=>
  cases ry
  cases x with
  | non=>cases rx;exact SeqAt.EqAt.bool_none a
  | bl b=>cases rx;exact SeqAt.EqAt.bool_bool a b
  | int b=>obtain⟨t,rfl⟩:=rx;exact SeqAt.EqAt.bool_int a b t
  | str b=>obtain⟨t,rfl⟩:=rx;exact SeqAt.EqAt.bool_str a b t
  | _=>exact absurd (show false=true from fx) RM
 | int a=>
  obtain⟨t',rfl⟩:=ry
  cases x with
  | non=>cases rx;exact SeqAt.EqAt.int_none a t'
  | bl b=>cases rx;exact SeqAt.EqAt.int_bool a t' b
  | int b=>obtain⟨t,rfl⟩:=rx;exact SeqAt.EqAt.int_int a t' b t
  | str b=>obtain⟨t,rfl⟩:=rx;exact SeqAt.EqAt.int_str a t' b t
  | _=>exact absurd (show false=true from fx) RM
 | str a=>
  obtain⟨t',rfl⟩:=ry
  cases x with
  | non=>cases rx;exact SeqAt.EqAt.str_none a t'
  | bl b=>cases rx;exact SeqAt.EqAt.str_bool a t' b
  | int b=>obtain⟨t,rfl⟩:=rx;exact SeqAt.EqAt.str_int a t' b t
  | str b=>obtain⟨t,rfl⟩:=rx;exact SeqAt.EqAt.str_str a t' b t
  | _=>exact absurd (show false=true from fx) RM
 | _=>exact absurd (show false=true from fy) RM
def eqU(x:V)(u:Value):Bool:=match u with
 | .none=>eqV .non x
 | .bool b=>eqV (.bl b) x
 | .int i _=>eqV (.int i) x
 | .str z _=>eqV (.str z) x
 | _=>false
def FL{x y:V}{u:Value}(r:bD y u)(f:gC y=true):eqU x u=eqV y x:=by
 cases y with
 | non=>cases r;rfl
 | bl b=>cases r;rfl
 | int i=>obtain⟨t,rfl⟩:=r;rfl
 | str z=>obtain⟨t,rfl⟩:=r;rfl
 | _=>exact absurd (show false=true from f) RM
def lD{x:V}:∀ {xs:List V}{us:List Value},aW xs us->xs.all gC=true->us.any (eqU x)=xs.any λ y=>eqV y x
 | _,_,.nil,_=>rfl
 | y::xs,u::us,.cons r t,f=>by
  rw [List.all_cons,S9] at f;rw [UP,UP,FL r f.1,lD t f.2]
def iH{A:Around}{s:Shared}{x:V}{v:Value}(rx:bD x v)(fx:gC x=true):∀ {xs:List V}{us:List Value},aW xs us->xs.all gC=true->∀ u∈us,SeqAt.EqAt A s u v (eqU x u)
 | _,_,.nil,_=>λ u hu=>by cases hu
 | y::xs,u::us,.cons r t,f=>λ u' hu=>by
  rw [List.all_cons,S9] at f
  rcases RZ.mp hu with rfl|hu
  ·rw [FL r f.1];exact Nu r rx f.1 fx
  ·exact iH rx fx t f.2 u' hu
def inV(x:V)(xs:List V):Bool:=xs.any λ y=>eqV y x
def rIn(K:W.Frag)(neg:Bool):R2:=λ x y H Q=>∃ p xs,y=.ref p/\(SqL K H p xs\/SqT K H p xs)/\gC x=true/\xs.all gC=true/\Q (.bl (if neg then !inV x xs else inV x xs)) H
def AE:OpR X (compareOp .In) (rIn X.K false):=by
 intro pins s σ H x y v u Q I rx ry h;obtain⟨p,xs,rfl,hq,fx,fs,q⟩:=h;cases ry
 rcases hq with hq|hq
 ·obtain⟨its,r,pl,hz⟩:=I.list hq;refine SeqAt.in_listAt (eqU x) pl.isList (λ w hw=>iH rx fx r fs w (by simpa using hw)) ⟨.bl _,H,I,rfl,?_⟩;rw [show its.toArray.any (eqU x)=its.any (eqU x) by simp,lD r fs];exact q
 ·obtain⟨its,r,pl,hz⟩:=I.tuple hq;refine SeqAt.in_tupleAt (eqU x) pl (λ w hw=>iH rx fx r fs w (by simpa using hw)) ⟨.bl _,H,I,rfl,?_⟩;rw [show its.toArray.any (eqU x)=its.any (eqU x) by simp,lD r fs];exact q
def rE:OpR X (compareOp .NotIn) (rIn X.K true):=by
 intro pins s σ H x y v u Q I rx ry h;obtain⟨p,xs,rfl,hq,fx,fs,q⟩:=h;cases ry
 rcases hq with hq|hq
 ·obtain⟨its,r,pl,hz⟩:=I.list hq;refine SeqAt.notIn_listAt (eqU x) pl.isList (λ w hw=>iH rx fx r fs w (by simpa using hw)) ⟨.bl _,H,I,rfl,?_⟩;rw [show its.toArray.any (eqU x)=its.any (eqU x) by simp,lD r fs];exact q
 ·obtain⟨its,r,pl,hz⟩:=I.tuple hq;refine SeqAt.notIn_tupleAt (eqU x) pl (λ w hw=>iH rx fx r fs w (by simpa using hw)) ⟨.bl _,H,I,rfl,?_⟩;rw [show its.toArray.any (eqU x)=its.any (eqU x) by simp,lD r fs];exact q
def dW:bI X (.builtin "len") (λ xs H Q=>∃ p ys,xs=[.ref p]/\(SqL X.K H p ys\/SqT X.K H p ys)/\Q (.int ys.length) H):=by
 intro pins s σ H xs us Q I r h;obtain⟨p,ys,rfl,hq,q⟩:=h;obtain⟨u,rfl,rx⟩:=pU r;cases rx;have hn:=m6
 rcases hq with hq|hq
 ·obtain⟨its,r',pl,hz⟩:=I.list hq;have hlen:=r'.length;exact Calls.call_len_list pl.isList (by simp only [RY]<;>omega) ⟨.int ys.length,H,I.tok _,⟨s.toks+1,by rw [RY,hlen]⟩,q⟩
 ·obtain⟨its,r',pl,hz⟩:=I.tuple hq;have hlen:=r'.length;exact len_tuple pl (by simp only [RY]<;>omega) ⟨.int ys.length,H,I.tok _,⟨s.toks+1,by rw [RY,hlen]⟩,q⟩
def r0:bI X (.builtin "len") (λ xs H Q=>∃ z,xs=[.str z]/\z.length<=sizeLine/\Q (.int z.length) H):=by
 intro pins s σ H xs us Q I r h;obtain⟨z,rfl,hz,q⟩:=h;obtain⟨u,rfl,t,rfl⟩:=pU r;have hn:=m6;exact len_str (by omega) ⟨.int z.length,H,I.tok _,⟨_,rfl⟩,q⟩
def bI.or{f:Value}{r r':List V->Hp->VK->Prop}(h:bI X f r)(h':bI X f r'):bI X f (λ xs H Q=>r xs H Q\/r' xs H Q):=by
 intro pins s σ H xs us Q I rs q
 rcases q with q|q
 ·exact h pins s σ H xs us Q I rs q
 ·exact h' pins s σ H xs us Q I rs q
def rZ:bI X (.type "list") (λ xs H Q=>∃ p ys,xs=[.ref p]/\(SqL X.K H p ys\/SqT X.K H p ys)/\∀ l,H l=none->Q (.ref l) (upd H l (.lst ys))):=by
 intro pins s σ H xs us Q I r h;obtain⟨p,ys,rfl,hq,q⟩:=h;obtain⟨u,rfl,rx⟩:=pU r;cases rx
 have fin:∀ (its:List Value),aW ys its->ys.length<=sizeLine->∀ (h':Heap) (c':Nat),(∀ b o',s.heap.get? b=some o'->h'.get? b=some o') →
   h'.get? s.heap.objs.size=some { cls:=.type "list",dict:=none,data:=.seq its.toArray c',slots:=#[] }->EP X pins σ Q (.ref s.heap.objs.size) { s with heap:=h' }:=λ its r' hz h' c' kp e=>
  ⟨.ref s.heap.objs.size,_,I.laid (t':=s.toks) kp (RJ _) (show bw X.prog X.w _ h' _ (.lst ys) from ⟨hz,its,c',r',e⟩),rfl,q _ (I.hok.fresh (RJ _))⟩
 rcases hq with hq|hq
 ·obtain⟨its,r',pl,hz⟩:=I.list hq;have hlen:=r'.length;obtain⟨o,ho,hc,n,hd⟩:=pl.isList;exact call_list_seq p (.inl rfl) ho hc hd (λ h' c' kp e=>fin its r' hz h' c' kp e) (by simp only [RY]<;>omega)
 ·obtain⟨its,r',pl,hz⟩:=I.tuple hq;have hlen:=r'.length;obtain⟨o,ho,hc,n,hd⟩:=pl;exact call_list_seq p (.inr rfl) ho hc hd (λ h' c' kp e=>fin its r' hz h' c' kp e) (by simp only [RY]<;>omega)
def pF:bI X (.type "tuple") (λ xs H Q=>∃ p ys,xs=[.ref p]/\((SqL X.K H p ys/\∀ l,H l=none->Q (.ref l) (upd H l (.tup ys)))\/(SqT X.K H p ys/\Q (.ref p) H))):=by
 intro pins s σ H xs us Q I r h;obtain⟨p,ys,rfl,h⟩:=h;obtain⟨u,rfl,rx⟩:=pU r;cases rx
 rcases h with ⟨hq,q⟩|⟨hq,q⟩
 ·obtain⟨its,r',pl,hz⟩:=I.list hq;have hlen:=r'.length;refine call_tuple_list pl.isList (λ h' kp=>?_) (by simp only [RY]<;>omega);have I1:Inv X pins σ H { s with heap:=h' }:=I.kept (t':=s.toks) kp
  have I2:Inv X pins σ (upd H h'.objs.size (.tup ys)) { s with heap:=h'.push { cls:=.type "tuple",data:=.seq its.toArray } }:=
   I1.laid (t':=s.toks) (λ b o e=>RD _ e) (RJ _) (show bw X.prog X.w _ _ _ (.tup ys) from ⟨hz,its,r',IsTup.new _ _⟩)
  exact⟨.ref h'.objs.size,_,I2,rfl,q _ (I1.hok.fresh (RJ _))⟩
 ·obtain⟨its,r',pl,hz⟩:=I.tuple hq;exact call_tuple_same pl ⟨.ref p,H,I,rfl,q⟩
def tyV(K:W.Frag)(T:String)(x:V)(H:Hp):Prop:=match x with
 | .str _=>T = "str"
 | .int _=>T = "int"
 | .ref p=>(T = "list" /\ ∃ xs,SqL K H p xs)\/(T = "tuple" /\ ∃ o,K.lookup p=some o/\o.cls=.type "tuple" /\ o.dict=none) \/
   (T = "dict" /\ ((∃ kvs,H p=some (.dK kvs))\/∃ kvs,H p=some (.dT kvs)))\/(T = "set" /\ ∃ S n,H p=some (.set S n))
 | _=>False
def Fv{pins:List (Addr × Obj)}{σ:St}{H:Hp}{s:Shared}{T:String}{x:V}{v:Value}(I:Inv X pins σ H s)(r:bD x v)(ty:tyV X.K T x H) :
  s.TypeIs v T/\∀ a,v=.ref a->∃ ob,s.heap.get? a=some ob/\ob.dict=none:=by
 cases x with
 | str z=>
  obtain⟨t,rfl⟩:=r;cases (show T = "str" from ty);exact⟨typeIs_str s z t,λ _ e=>nomatch e⟩
 | int i=>
  obtain⟨t,rfl⟩:=r;cases (show T = "int" from ty);exact⟨typeIs_int s i t,λ _ e=>nomatch e⟩
 | ref p=>
  cases r
  rcases ty with ⟨rfl,xs,hq⟩|⟨rfl,o,hk,hc,hd⟩|⟨rfl,hk⟩|⟨rfl,S,n,hk⟩
  ·obtain⟨its,_,pl,_⟩:=I.list hq;refine⟨pl.isList.typeIs,λ a e=>?_⟩;cases e;obtain⟨o,n,e,c,hd,_⟩:=pl;exact⟨o,e,hd⟩
  ·refine⟨⟨o,I.kIn p o hk,hc⟩,λ a e=>?_⟩;cases e;exact⟨o,I.kIn _ o hk,hd⟩
  ·have z:∃ o,s.heap.get? p=some o/\o.ExactDict:=by
    rcases hk with ⟨kvs,hk⟩|⟨kvs,hk⟩
    ·obtain⟨_,_,_,_,o,_,_,e,ex,_⟩:=I.hok p _ hk;exact⟨o,e,ex⟩
    ·obtain⟨_,_,_,_,o,_,_,e,ex,_⟩:=I.hok p _ hk;exact⟨o,e,ex⟩
   obtain⟨o,e,ex⟩:=z;refine⟨⟨o,e,ex.1⟩,λ a e2=>?_⟩;cases e2;exact⟨o,e,ex.2.1⟩
  ·obtain⟨o,_,_,_,e,ex,_⟩:=I.hok p _ hk;refine⟨⟨o,e,ex.1⟩,λ a e2=>?_⟩;cases e2;exact⟨o,e,ex.2.1⟩
 | _=>exact False.elim ty
def Qm(K:W.Frag)(T:String)(r:V->List V->Hp->VK->Prop)(to:TE):TE:=λ σ H Q=>to σ H λ x H1=>tyV K T x H1/\r x [] H1 Q
def tBM(K:W.Frag)(T:String)(r:V->List V->Hp->VK->Prop)(to:TE)(t:TA):TE:=λ σ H Q=>to σ H λ x H1=>tyV K T x H1/\t σ H1 λ xs H2=>r x xs H2 Q
variable {o e:Expr}{es:List Expr}{to:TE}{t:TA}{name:Str}{apos cpos:Pos}{T id:String}{r:V->List V->Hp->VK->Prop}
def u6(pa:PlainAttrs T)(slot:Slot T name id)(a3:typeOf (.builtin id)=pure (.type "method_descriptor"))(hm:MtR X id r)(ho:PE X o to)
  (aa:attributeBase o name X.env (eval o X.env)=eval o X.env:=by rfl) (aS:(apos.endLine == cpos.line)=true:=by rfl):PE X (.Call (.Attribute o name apos) [] [] cpos) (Qm X.K T r to):=by
 intro pins s σ H Q I h;refine wpAny_Call_method0_late aa aS (thn (ho pins s σ H _ I h) λ v s1 ⟨x,H1,I1,r1,ty,q1⟩=>?_);obtain⟨h1,h2⟩:=Fv I1 r1 ty;exact⟨T,id,pa,slot,a3,h1,h2,Calls.callWith_builtin rfl (PySem.evalArgs_none (hm pins s1 σ H1 x [] v [] Q I1 r1 .nil q1))⟩
def OW(pa:PlainAttrs T)(slot:Slot T name id)(a5:typeOf (.builtin id)=pure (.type "method_descriptor"))(hm:MtR X id r)(ho:PE X o to)(ha:PA X (e::es) t)
  (aS:attributeBase o name X.env (eval o X.env)=eval o X.env:=by rfl)
  (a4:((backTo cpos (starEach (e::es) X.env)).all (λ x=>!x.1) && (backToKw cpos (keywordEach [] X.env)).all (λ x=>x.1.isSome)
   && decide ((e::es).length+([]:List Keyword).length+(if ([]:List Keyword).isEmpty then 0 else 1) < 30))=true:=by rfl)
  (a3:(apos.endLine == cpos.line)=true:=by rfl) (hs:starEach (e::es) X.env=(false,eval e X.env)::starEach es X.env:=by rfl) (aa:(backTo cpos (starEach es X.env)).any (·.1)=false:=by rfl) :
  PE X (.Call (.Attribute o name apos) (e::es) [] cpos) (tBM X.K T r to t):=by
 intro pins s σ H Q I h;refine wpAny_Call_method_late aS a4 a3 rfl (thn (ho pins s σ H _ I h) λ v s1 ⟨x,H1,I1,r1,ty,q1⟩=>?_);obtain⟨h1,h2⟩:=Fv I1 r1 ty;refine⟨T,id,pa,slot,a5,h1,h2,?_⟩;have hA:=ha cpos pins s1 σ H1 _ I1 q1;rw [hs] at hA ⊢;refine Calls.callWith_builtin (by show (false || (backTo cpos (starEach es X.env)).any (·.1))=false;rw [aa]<;>rfl) (Calls.evalArgs_plain ?_);exact thn hA λ us s2 ⟨vs,H2,I2,r2,q2⟩=>hm pins s2 σ H2 x vs v us Q I2 r1 r2 q2
end
def MtM(X:Cx)(id:String)(r:V->List V->Hp->VK->Prop):Prop:=
 ∀ (pins:List (Addr × Obj)) (s:Shared) (σ:St) (H:Hp) (x:V) (xs:List V) (v:Value) (us:List Value) (Q:VK),Inv X pins σ H s->bD x v->aW xs us->r x xs H Q →
  wpAny (model X.prog X.w) X.A (call (.builtin id) (v::us)) (EP X pins σ Q) X.xe s
def aW.one:∀ {x:V}{us:List Value},aW [x] us->∃ u,us=[u]/\bD x u
 | _,_,.cons r .nil=>⟨_,rfl,r⟩
def aW.zero:∀ {us:List Value},aW [] us->us=[]
 | _,.nil=>rfl
def aW.dropLast{xs:List V}{us:List Value}(h:aW xs us):aW xs.dropLast us.dropLast:=by
 induction h with
 | nil=>exact .nil
 | cons r t ih=>
  cases t with
  | nil=>exact .nil
  | cons q t'=>exact .cons r ih
def aW.eraseIdx:∀ {xs:List V}{us:List Value}(i:Nat),aW xs us->aW (xs.eraseIdx i) (us.eraseIdx i)
 | _,_,_,.nil=>.nil
 | _,_,0,.cons _ t=>t
 | _,_,i+1,.cons r t=>.cons r (aW.eraseIdx i t)
def aW.reverse{xs:List V}{us:List Value}(h:aW xs us):aW xs.reverse us.reverse:=by
 induction h with
 | nil=>exact .nil
 | cons r t ih=>rw [U5,U5];exact aW.append ih (.cons r .nil)
def aW.rep{xs:List V}{us:List Value}(h:aW xs us):∀ k:Nat,aW (List.replicate k xs).flatten (List.replicate k us).flatten
 | 0=>.nil
 | k+1=>by
  rw [Tc,Tc,Uv,Uv];exact aW.append h (aW.rep h k)
def xJ{α:Type}(l:List α):l.eraseIdx (l.length - 1)=l.dropLast:=by
 induction l with
 | nil=>rfl
 | cons a r ih=>
  cases r with
  | nil=>rfl
  | cons b r=>
   have e:(a::b::r).length - 1=((b::r).length - 1)+1:=by
    have h1:(a::b::r).length=r.length+2:=rfl;have h2:(b::r).length=r.length+1:=rfl;omega
   rw [e,TH,ih]
   all_goals rfl
def qt{α:Type}:∀ (l:List α) (i:Nat),(l.eraseIdx i).length<=l.length
 | [],_=>RJ _
 | _::_,0=>SX _
 | _::r,i+1=>Nat.succ_le_succ (qt r i)
def qv(its:List Value):∀ (k:Nat) (acc:List Value),
  List.foldl (λ x1 x2=>x1++x2) acc.toArray (List.replicate k its.toArray)=(acc++(List.replicate k its).flatten).toArray
 | 0,acc=>by simp
 | k+1,acc=>by
  have e:acc.toArray++its.toArray=(acc++its).toArray:=by simp
  have e2:(acc++its)++(List.replicate k its).flatten=acc++(List.replicate (k+1) its).flatten:=by
   rw [Tc,Uv,List.append_assoc]
  rw [←e2,←qv its k (acc++its),←e,Tc,Uk]
section
variable {X:Cx}{pins:List (Addr × Obj)}{σ:St}{H:Hp}{s:Shared}{l b:Addr}{xs ys zs:List V}
def Inv.lset{its its':List Value}{n:Nat}{f:Array Value->Array Value}{t':Nat}(I:Inv X pins σ H s)(hH:H l=some (.lst xs))
  (e:s.heap.get? l=some { cls:=.type "list",data:=.seq its.toArray n }) (hf:f its.toArray=its'.toArray) (hv:aW ys its') (hz:ys.length<=sizeLine) :
  Inv X pins σ (upd H l (.lst ys)) { s with heap:=s.heap.update l (Obj.mapSeq f),toks:=t' }:=by
 have q:=PySem.IsL.update e f;rw [hf] at q;refine I.write (x:=l) (e:=l) (by rw [hH];exact trivial) (.inl rfl) (λ b' u hb hu=>(Sd s.heap (Obj.mapSeq f) (RO hb)).trans hu) ⟨_,q⟩ ?_;exact⟨hz,its',_,hv,q⟩
def Inv.lnew{its:List Value}{t':Nat}(I:Inv X pins σ H s)(hv:aW ys its)(hz:ys.length<=sizeLine) :
  Inv X pins σ (upd H s.heap.objs.size (.lst ys)) { s with heap:=s.heap.push { cls:=.type "list",data:=.seq its.toArray },toks:=t' }:=
 I.laid (λ _ _ q=>RD _ q) (RJ _) ⟨hz,its,0,hv,RK _ rfl⟩
def Inv.fresh(I:Inv X pins σ H s):H s.heap.objs.size=none:=I.hok.fresh (RJ _)
def Inv.lstM(I:Inv X pins σ H s)(hH:H l=some (.lst xs)):xs.length<=sizeLine/\∃ (its:List Value) (n:Nat),aW xs its/\xs.length=its.length/\s.heap.get? l=some { cls:=.type "list",data:=.seq its.toArray n }:=by
 obtain⟨z,its,n,r,e⟩:=I.hok l _ hH;exact⟨z,its,n,r,r.length,e⟩
def vE{n:Nat}(h:n<=sizeLine):Builtin.List.listTooLong n=false:=by
 unfold Builtin.List.listTooLong;exact decide_eq_false (by omega)
end
section
variable {X:Cx}
def zi:V->List V->Hp->VK->Prop:=λ x vs H Q=>∃ l xs y,x=.ref l/\vs=[y]/\H l=some (.lst xs)/\xs.length < sizeLine/\Q .non (upd H l (.lst (xs++[y])))
def bF:MtM X "list.append" zi:=by
 intro pins s σ H x vs v us Q I rx rv h;obtain⟨l,xs,y,rfl,rfl,hH,hz,q⟩:=h;cases rx;obtain⟨u,rfl,ru⟩:=rv.one;obtain⟨z,its,n,r,hl,e⟩:=I.lstM hH;refine UI F.slot_list_append ⟨_,e,rfl⟩ F.entry_list_append (F.args_list_append_2 _ _) (PySem.list_append l its.toArray n u (by rw [RY];omega)) ⟨e,?_⟩;refine⟨.non,_,I.lset (its':=its++[u]) hH e (by simp) (r.append (.cons ru .nil)) ?_,rfl,q⟩;rw [R3,List.length_singleton];omega
def zh:V->List V->Hp->VK->Prop:=λ x vs H Q=>∃ l b xs zs,x=.ref l/\vs=[.ref b]/\H l=some (.lst xs)/\H b=some (.lst zs)/\xs.length+zs.length<=sizeLine/\Q .non (upd H l (.lst (xs++zs)))
def AJ:MtM X "list.extend" zh:=by
 intro pins s σ H x vs v us Q I rx rv h;obtain⟨l,b,xs,zs,rfl,rfl,hH,hB,hz,q⟩:=h;cases rx;obtain⟨u,rfl,ru⟩:=rv.one;cases ru;obtain⟨z,its,n,r,hl,e⟩:=I.lstM hH;obtain⟨z2,aa,n2,r2,a3,e2⟩:=I.lstM hB;have hsz:its.toArray.size+aa.toArray.size<=sizeLine:=by rw [RY,RY];omega
 have aS:¬ (!its.toArray.isEmpty && Builtin.List.listTooLong (its.toArray.size+aa.toArray.size))=true:=by
  rw [vE hsz,Bool.and_false];exact RM
 refine UI F.slot_list_extend ⟨_,e,rfl⟩ F.entry_list_extend (F.args_list_extend_2 _ _)
  (AutoSeq1.list_extend_list_list_0 l its.toArray n b aa.toArray n2 aS (by rw [RY];omega) (by omega)) ⟨e,e2,?_⟩
 refine⟨.non,_,I.lset (its':=its++aa) hH e (by simp) (r.append r2) ?_,rfl,q⟩;rw [R3];omega
def Q6:V->List V->Hp->VK->Prop:=λ x vs H Q=>∃ l xs y,x=.ref l/\vs=[]/\H l=some (.lst xs)/\xs[xs.length - 1]? = some y/\Q y (upd H l (.lst xs.dropLast))
def LB:MtM X "list.pop" Q6:=by
 intro pins s σ H x vs v us Q I rx rv h;obtain⟨l,xs,y,rfl,rfl,hH,hy,q⟩:=h;cases rx;have aa:=rv.zero;subst aa;obtain⟨z,its,n,r,hl,e⟩:=I.lstM hH;obtain⟨u,hu,ru⟩:=r.get hy
 have aS:its.toArray[its.toArray.size - 1]? = some u:=by
  show its.toArray[its.length - 1]? = some u
  rw [←Array.getElem?_toList,←hl];exact hu
 refine UI F.slot_list_pop ⟨_,e,rfl⟩ F.entry_list_pop (F.args_list_pop_1 _) (MeetsSeq.list_pop_last l its.toArray n u aS (by rw [RY];omega)) ⟨e,?_⟩;refine⟨y,_,I.lset (its':=its.dropLast) hH e ?_ r.dropLast ?_,ru,q⟩
 ·show its.toArray.eraseIdxIfInBounds (its.toArray.size - 1)=its.dropLast.toArray
  rw [RY,U7,xJ]
 ·rw [List.length_dropLast];omega
def Lb:V->List V->Hp->VK->Prop:=λ x vs H Q=>∃ l xs i k y,x=.ref l/\vs=[.int i]/\H l=some (.lst xs)/\-(2 ^ 63)<=i/\i < 2 ^ 63/\seqIndex? i xs.length=some k/\xs[k]? = some y/\Q y (upd H l (.lst (xs.eraseIdx k)))
def D7:MtM X "list.pop" Lb:=by
 intro pins s σ H x vs v us Q I rx rv h;obtain⟨l,xs,i,k,y,rfl,rfl,hH,h1,h2,hk,hy,q⟩:=h;cases rx;obtain⟨u,rfl,ru⟩:=rv.one;obtain⟨t,rfl⟩:=ru;obtain⟨z,its,n,r,hl,e⟩:=I.lstM hH;obtain⟨w,hw,rw'⟩:=r.get hy
 refine UI F.slot_list_pop ⟨_,e,rfl⟩ F.entry_list_pop (F.args_list_pop_2 _ _)
  (MeetsSeq.list_pop_at l its.toArray n i t k w (fitsIndex_both h1 h2) (by rw [RY,←hl];exact hk) (by rw [←Array.getElem?_toList];exact hw) (by rw [RY];omega)) ⟨e,?_⟩
 refine⟨y,_,I.lset (its':=its.eraseIdx k) hH e ?_ (r.eraseIdx k) ?_,rw',q⟩
 ·show its.toArray.eraseIdxIfInBounds k=(its.eraseIdx k).toArray
  rw [U7]
 ·have:=qt xs k;omega
def vy:V->List V->Hp->VK->Prop:=λ x vs H Q=>∃ l xs,x=.ref l/\vs=[]/\H l=some (.lst xs)/\Q .non (upd H l (.lst xs.reverse))
def wZ:MtM X "list.reverse" vy:=by
 intro pins s σ H x vs v us Q I rx rv h;obtain⟨l,xs,rfl,rfl,hH,q⟩:=h;cases rx;have aa:=rv.zero;subst aa;obtain⟨z,its,n,r,hl,e⟩:=I.lstM hH;refine UI F.slot_list_reverse ⟨_,e,rfl⟩ F.entry_list_reverse (F.args_list_reverse_1 _) (AutoSeq1.list_reverse_list_0 l its.toArray n (by rw [RY];omega)) ⟨e,?_⟩;refine⟨.non,_,I.lset (its':=its.reverse) hH e (by simp) r.reverse ?_,rfl,q⟩;rw [Sf];omega
def Qp:R2:=λ x y H Q=>∃ l b xs zs,x=.ref l/\y=.ref b/\H l=some (.lst xs)/\H b=some (.lst zs)/\xs.length+zs.length<=sizeLine/\∀ p,H p=none->Q (.ref p) (upd H p (.lst (xs++zs)))
def Lw:OpR X (binaryOp .Add) Qp:=by
 intro pins s σ H x y v u Q I rx ry h;obtain⟨l,b,xs,zs,rfl,rfl,hH,hB,hz,q⟩:=h;cases rx;cases ry;obtain⟨z,its,n,r,hl,e⟩:=I.lstM hH;obtain⟨z2,aa,n2,r2,aS,e2⟩:=I.lstM hB;refine PySem.P.add_list e e2 ?_ (by rw [RY,RY];omega);have ea:its.toArray++aa.toArray=(its++aa).toArray:=by simp
 rw [ea];exact⟨.ref _,_,I.lnew (t':=s.toks) (r.append r2) (by rw [R3];omega),rfl,q _ I.fresh⟩
def Q5:R2:=λ x y H Q=>∃ l k xs,x=.ref l/\y=.int k/\H l=some (.lst xs)/\-(2 ^ 63)<=k/\k < 2 ^ 63/\xs.length * k.toNat<=sizeLine /\
 ∀ p,H p=none->Q (.ref p) (upd H p (.lst (List.replicate k.toNat xs).flatten))
def IW{α:Type}(xs:List α)(k:Nat):(List.replicate k xs).flatten.length=k * xs.length:=by
 induction k with
 | zero=>simp
 | succ k ih=>rw [Tc,Uv,R3,ih,Nat.succ_mul,Nat.add_comm]
def Lp:OpR X (binaryOp .Mult) Q5:=by
 intro pins s σ H x y v u Q I rx ry h;obtain⟨l,k,xs,rfl,rfl,hH,h1,h2,hz,q⟩:=h;cases rx;obtain⟨t,rfl⟩:=ry;obtain⟨z,its,n,r,hl,e⟩:=I.lstM hH;have hlen:its.toArray.size * k.toNat<=sizeLine:=by rw [RY,←hl];exact hz
 have aS:¬ its.toArray.size * k.toNat > (2 ^ 63 - 1) / 8:=by
  have:(sizeLine:Nat)<=(2 ^ 63 - 1) / 8:=by decide
  omega
 have a3:¬ (!Builtin.List.listFitsIndex k)=true:=by
  rw [fitsIndex_both h1 h2];exact RM
 have aa:¬ Builtin.List.listTooLong (its.toArray.size * k.toNat)=true:=by
  rw [vE hlen];exact RM
 have a4:List.foldl (λ x1 x2=>x1++x2) #[] (List.replicate (if its.toArray.isEmpty=true then 0 else k.toNat) its.toArray)=(List.replicate k.toNat its).flatten.toArray:=by
  have f0:∀ m:Nat,List.foldl (λ x1 x2=>x1++x2) #[] (List.replicate m its.toArray)=(List.replicate m its).flatten.toArray:=λ m=>by
   have:=qv its m [];rw [List.nil_append] at this;exact this
  rw [f0]
  cases its with
  | nil=>simp
  | cons a r'=>rw [RQ (by simp)]
 refine wpAny_binaryOp_repeat_ref (T := "list") (U := "int") (by decide) ⟨_,e,rfl⟩ (λ s'=>typeIs_int s' k t) noFill_list_mul F.fills_int_mul F.slot_int_rmul repeat_list F.slot_int_index.lookup
  (UI F.slot_int_rmul (typeIs_int s k t) F.entry_int_rmul (F.args_int_rmul_2 _ _) (int___rmul___int_list k t l its.toArray n)
   ⟨e,rfl,⟨_,e,rfl⟩,UI F.slot_list_mul ⟨_,e,rfl⟩ F.entry_list_mul (F.args_list_mul_2 _ _) (AutoListH.list___mul___list_int_3 l its.toArray n k t a3 aS aa) ⟨e,?_⟩⟩)
 rw [a4];exact⟨.ref _,_,I.lnew (t':=s.toks) (r.rep k.toNat) (by rw [IW,Nat.mul_comm];exact hz),rfl,q _ I.fresh⟩
end
section
variable {prog:Program}{w:World}{A:Around}{E:Value->Shared->Prop}{s:Shared}
end
section
variable {X:Cx}
end
end L2
namespace Att
open PySem PySem.W PySem.Calls PyProof.Rows
def mw{P:Params}{h:Heap}:∀ (ns:List Int) (vs:List Value),WellAll P h vs (ns.map WData.int)->IntsAre vs ns:=by
 intro ns
 induction ns with
 | nil=>
  intro vs w;rw [Va] at w;cases w;exact .nil
 | cons n ns ih=>
  intro vs w;rw [Sm] at w
  cases w with
  | cons a b=>
   cases a;exact .cons _ _ (ih _ b)
def As{l:OpenLaw}{n:Nat}(hn:l.most=some n){P:Params}{h:Heap}{args:List WData}{vals:List Value}
  (aa:l.row.toRowW.claim.pre args=true) (aS:WellAll P h vals args) :
  ∃ a vs ns,vals=[Value.ref a]/\args=[WData.list (ns.map WData.int)]/\h.get? a=some { cls:=.type "list",data:=.seq vs.toArray }/\IntsAre vs ns/\ns.length<=n:=by
 have a3:WShape.hasAll [] args [.list .int]=true:=(pre_splitW aa).1;have hc:l.pre.holds [] { args:=args }=true:=(pre_splitW aa).2;obtain⟨d,r,rfl,h1,h2⟩:=hasAllW_cons a3;obtain rfl:=hasAllW_nil h2;obtain⟨xs,rfl,h3⟩:=hasW_list h1;obtain⟨ns,rfl⟩:=items_int h3
 have hlen:ns.length<=n:=by
  unfold OpenLaw.pre at hc
  have h4:(WTm.not (.lt (.lit (.int (n:Int))) (.len (.arg 0)))).holds [] { args:=[.list (ns.map .int)] }=true:=by
   have h4:=(holds_andW hc).1;rw [hn] at h4;exact h4
  have h5:=condW_of h4 (w_not (w_lt w_lit (w_len_list (w_arg rfl))));rw [RH] at h5;refine Vf λ q=>?_;have q':(n:Int) < ((ns.length:Nat):Int):=by omega
  first
   | (rw [R7 q'] at h5;exact absurd h5 (by decide))
   | (simp at h5;omega)
 cases aS with
 | cons w1 w2=>
  cases w2
  cases w1 with
  | list ho hall=>exact⟨_,_,ns,rfl,rfl,ho,mw ns _ hall,hlen⟩
def Av(l:OpenLaw)(args:List WData):l.row.toRowW.claim.post args (.bool true) args=true:=
 postW_of (r:=l.row.toRowW) (X:=(true == true))
  (show WShape.has [] (.bool true) .bool=true by first|rfl|decide|simp [WShape.has,WShape.arms,WShape.armsAll])
  (show (WTm.eq .res (.lit (.bool true))).value [] { args:=args,res:=some (.bool true),after:=args }=some (.bool (true == true)) from w_eq_bool (w_res rfl) w_lit) rfl
def attach_call{l:OpenLaw}{n:Nat}{q:Program}{loose:List Str}{XP:(Str->Option Value)->Heap->Prop}{YP:World->Heap->Prop}{d:DefRec}
  (hn:l.most=some n) (a3:d.params.defaults=[])
  (call:∀ (w:World) (s₀ s₁:Shared) (mg mb:Str->Option Value) (fa:Addr) (o:Obj) (pm cd doc:Value) (a:Addr) (vs:List Value) (ns:List Int),
   Ground q loose [] XP w s₀ mg mb s₁.heap->YP w s₁.heap →
   s₁.heap.get? fa=some o->o.data=.func (docDef d.name d.params d.body d.scope pm cd doc)->s₁.heap.CodeRec cd d.name->mg d.name=some (.ref fa) →
   s₁.heap.get? a=some { cls:=.type "list",data:=.seq vs.toArray }->IntsAre vs ns->ns.length<=n->s₁.gens=#[] →
   codeAny (model l.prog w) callerA (.call (.ref fa) ⟨[.ref a],[]⟩) (λ r s'=>r=.ok (.ret (.bool true))/\OldK s₁.heap s'.heap/\s'.os=s₁.os/\AllBare s'.gens) s₁) :
  WalkO q loose XP YP l.row.toRowW d [] (λ f vs=>PySem.call f vs):=by
 intro w s₀ s₁ mg mb G Y fa o pm cd doc dV kV ho hd a4 hD a5 hg args vals as aa a7 a8 a6 a9;obtain rfl:dV=.none:=Dflts.none hD a3;obtain rfl:kV=.none:=Dflts.noKw hD;obtain⟨a,vs,ns,rfl,rfl,aS,hints,hlen⟩:=As hn aa a6;refine enter_call (TQ (call w s₀ s₁ mg mb fa o pm cd doc a vs ns G Y ho (fd_plain hd) a4 a5 aS hints hlen hg) λ r s' hq=>?_);obtain⟨rfl,h2,h3,h4⟩:=hq;exact⟨.inl ⟨.bool true,.bool true,[],rfl,λ _=>rfl,.bool true,Av l _,λ _=>⟨List.Pairwise.nil,λ _ hm=>(nomatch hm)⟩⟩,h2,h3,h4⟩
section
variable {prog:Program}{w:World}{A:Around}{E:Value->Shared->Prop}{s:Shared}{K:Frag}
def QX(h:Heap)(L d:Addr):List (Addr × Obj):=(List.range h.objs.size).filterMap λ a=>if a=L\/a=d then none else (h.get? a).map λ o=>(a,o)
end
end Att
namespace L2
open PySem PySem.Spec PyProof.Rows
def qg:∀ {vs:List Value}{ns:List Int},IntsAre vs ns->aW (ns.map V.int) vs
 | _,_,.nil=>.nil
 | _,_,.cons n t h=>.cons ⟨t,rfl⟩ (qg h)
def OM(H:Hp):Prop:=∀ b,H b=none\/∃ o xs,H b=some (.frz o (.lst xs))
def Eu{P:Program}{w:World}{K:W.Frag}{mg mb:Str->Option Value}{CX:CXT}{k:Nat}{fa a:Addr}{fd:FuncData}{x:Str}{sp:Sp}{s₁:Shared}{vs:List Value}{ns:List Int}
  (KX:K.In s₁.heap) (a4:s₁.heap.Ns mainGlobals mg) (hb:s₁.heap.Ns builtinsNs mb) (a9:∀ x:Str,x ≠ "__name__" → mb x=bootBuiltins x) (a5:s₁.heap.NoLimit) (hg:s₁.gens=#[])
  (ha:s₁.heap.get? a=some { cls:=.type "list",data:=.seq vs.toArray }) (hi:IntsAre vs ns) (hl:ns.length<=sizeLine) (hr:iA k callerA)
  (F:∀ base:Heap,K.In base->base.Ns mainGlobals mg->aH P w K mg base CX k fa fd [x] sp) (a3:∀ (s:Shared) (u:Value),BindsTo s fd ⟨[u],[]⟩ [(x,u)])
  (ba:∀ H:Hp,OM H->SqL K H a (ns.map V.int)->sp [.ref a] H (λ v _=>v=.bl true) λ _ _ _=>False)
  (bp:∀ H e s',CX [] H s₁ (λ _ _ _=>False) e s'->False) :
  codeAny (model P w) callerA (.call (.ref fa) ⟨[.ref a],[]⟩) (λ r s'=>r=.ok (.ret (.bool true))/\OldK s₁.heap s'.heap/\s'.os=s₁.os/\AllBare s'.gens) s₁:=by
 have rv:=qg hi;have a6:=hi.length
 have core:∀ H:Hp,OM H->SqL K H a (ns.map V.int)->HOk P w H s₁.heap->(∀ b,H b ≠ none->b=a)->(H a ≠ none->K.lookup a=none) →
   codeAny (model P w) callerA (.call (.ref fa) ⟨[.ref a],[]⟩) (λ r s'=>r=.ok (.ret (.bool true))/\OldK s₁.heap s'.heap/\s'.os=s₁.os/\AllBare s'.gens) s₁:=by
  intro H hO hS hok hA hK;have aa:∀ {b:Addr} {o:Obj},s₁.heap.get? b=some o->H b=none->(CG s₁.heap H).get? b=some o:=λ e n=>EW e n
  have bS:∀ {b:Addr} {o:Obj} {es:Array DictEntry} {ep:Nat},s₁.heap.get? b=some o->o.data=.dict es ep->H b=none:=λ {b o es ep} e d=>by
   cases q:H b with
   | none=>rfl
   | some u=>
    have e':b=a:=hA b (by rw [q];simp);subst e';rw [ha] at e;cases e;have d':Data.seq vs.toArray _=Data.dict es ep:=d;cases d'
  have aS:∀ {b:Addr} {m:Str->Option Value},s₁.heap.Ns b m->(CG s₁.heap H).Ns b m:=λ {b m} ⟨o,es,ep,e,d,r⟩=>⟨o,es,ep,aa e (bS e d),d,r⟩
  have a7:K.In (CG s₁.heap H):=λ b o e=>aa (KX b o e) (by
   cases q:H b with
   | none=>rfl
   | some u=>
    have e':b=a:=hA b (by rw [q];simp);subst e';rw [hK (by rw [q];simp)] at e;cases e)
  have hM:Mod K mg (CG s₁.heap H):=⟨a7,aS a4,⟨mb,aS hb,a9⟩,let ⟨mc,h1,h2⟩:=a5;⟨mc,aS h1,h2⟩⟩;have e0:Fo P w K mg (CG s₁.heap H) callerA [] s₁ H:=⟨rfl,hM,λ b o e=>HB e,Ui (BZ _ _),trivial,λ b hb=>absurd (show b∈([]:List Addr) from hb) (by simp),hok,.of_eq hg⟩;refine TQ ((F _ a7 (aS a4)).run callerA [] s₁ H ⟨[.ref a],[]⟩ [.ref a] [.ref a] _ _ hr e0 (a3 s₁ (.ref a)) (.cons rfl .nil) (ba H hO hS)) λ r s' h=>?_
  cases r with
  | error e=>exact(bp H e s' h).elim
  | ok fl=>
   cases fl with
   | next=>exact False.elim h
   | brk=>exact False.elim h
   | cont=>exact False.elim h
   | ret u=>
    obtain⟨v,H',os,bare,un,a8,r',q⟩:=h;have q':v=.bl true:=q;subst q';obtain rfl:u=Value.bool true:=r';refine⟨rfl,OldK.of_keep λ b o e=>?_,os,bare⟩
    cases q:H b with
    | none=>exact un.keep b o e q (by intro z;exact absurd (show b∈([]:List Addr) from z) (by simp)) (by simp)
    | some u=>
     rcases hO b with z|⟨ob,xs,z⟩
     ·rw [q] at z;cases z
     ·have z2:=un.frzs b ob _ z;obtain⟨e1,_⟩:=hok b _ z;obtain⟨e2,_⟩:=a8 b _ z2;rw [e] at e1;cases e1;exact e2
 cases hk:K.lookup a with
 | some o=>
  have e:=KX a o hk;rw [ha] at e;cases e;refine core (λ _=>none) (λ _=>.inl rfl) (.inr ⟨_,vs.toArray,_,hk,rfl,rfl,rfl,by rw [RY,a6];exact hl,by simpa using rv⟩) (λ b u z=>by have z':(none:Option HO)=some u:=z;cases z') (λ b z=>absurd rfl z) λ z=>absurd rfl z
 | none=>
  refine core (λ b=>if b=a then some (.frz { cls:=.type "list",data:=.seq vs.toArray } (.lst (ns.map V.int))) else none) (λ b=>?_) (.inl (.inr ⟨{ cls:=.type "list",data:=.seq vs.toArray },RX rfl⟩)) (λ b u z=>?_) (λ b z=>?_) λ _=>hk
  ·by_cases hb:b=a
   ·exact .inr ⟨_,_,RX hb⟩
   ·exact .inl (RQ hb)
  ·by_cases hb:b=a
   ·have z':=(RX hb).symm.trans z;cases z';subst hb;exact⟨ha,by rw [RH];exact hl,vs,_,rv,ha⟩
   ·have z':=(RQ hb).symm.trans z;cases z'
  ·by_cases hb:b=a
   ·exact hb
   ·exact absurd (RQ hb) z
abbrev KOf{K:PySem.W.Frag}{h:Heap}(_:K.In h):PySem.W.Frag:=K
def Qa{l:W.OpenLaw}{n k:Nat}{q:Program}{loose:List Str}{XP:(Str->Option Value)->Heap->Prop}{YP:World->Heap->Prop}{d:DefRec}{K:Params->W.Frag}{CX:World->CXT}{sp:World->Sp}{x:Str}
  (hn:l.most=some n) (aS:n<=sizeLine) (a3:d.params.defaults=[]) (hr:iA k callerA)
  (hY:∀ (w:World) (h:Heap),YP w h->(K w.params).In h)
  (F:∀ (w:World) (mg:Str->Option Value) (fa:Addr) (h:Heap),(K w.params).In h->h.Ns mainGlobals mg->mg d.name=some (.ref fa) →
   ∃ fd:FuncData,(∀ (s:Shared) (u:Value),BindsTo s fd ⟨[u],[]⟩ [(x,u)]) /\
    ∀ base:Heap,(K w.params).In base->base.Ns mainGlobals mg->aH l.prog w (K w.params) mg base (CX w) k fa fd [x] (sp w))
  (a4:∀ (w:World) (H:Hp) (a:Addr) (ns:List Int),ns.length<=n->OM H->SqL (K w.params) H a (ns.map V.int)->sp w [.ref a] H (λ v _=>v=.bl true) λ _ _ _=>False)
  (a5:∀ (w:World) (H:Hp) (s:Shared) (e:Value) (s':Shared),CX w [] H s (λ _ _ _=>False) e s'->False) :
  W.WalkO q loose XP YP l.row.toRowW d [] (λ f vs=>PySem.call f vs):=by
 refine Att.attach_call hn a3 λ w s₀ s₁ mg mb fa o pm cd doc a vs ns G Y ho hd a7 a6 aa hints hlen hg=>?_;have KX:=hY w _ Y;obtain⟨fd,hb,hF⟩:=F w mg fa _ KX G.T.g a6;exact Eu KX G.T.g G.T.b G.T.builtins G.T.nolimit hg aa hints (Sj hlen aS) hr hF hb (λ H hO hS=>a4 w H a ns hlen hO hS) λ H e s'=>a5 w H s₁ e s'
def ao(s:Stmt)(j:Nat):Stmt:=match s with
 | .ClassDef _ _ _ body _ _ _ _ _ _ _=>body.getD j (.Pass ⟨0,0,0,0⟩)
 | _=>.Pass ⟨0,0,0,0⟩
def eo(s:Stmt):Arguments:=match s with
 | .FunctionDef _ a _ _ _ _ _ _ _ _=>a
 | _=>{ posonlyargs:=[],args:=[],vararg:=none,kwonlyargs:=[],kw_defaults:=[],kwarg:=none,defaults:=[] }
def cL(s:Stmt):List Stmt:=match s with
 | .FunctionDef _ _ b _ _ _ _ _ _ _=>b
 | _=>[]
def ae(s:Stmt):Scope:=match s with
 | .FunctionDef _ _ _ _ _ _ sc _ _ _=>sc
 | _=>{ kind:=.function,names:=[],isGenerator:=false,isCoroutine:=false }
abbrev CX0:CXT:=λ _ _ _ _ _ _=>False
abbrev E0:XK:=λ _ _ _=>False
def ay{X:Cx}:iE CX0 X E0:=λ _ _ _ _ _ _ _ h=>h.elim
structure Fun(K:W.Frag)(x qual:Str)(st:Stmt)(f:Addr)(fd:FuncData):Prop where
 ex:∃ (oc:Value) (od:Option Addr) (kV doc pm:Value) (an:Option Addr) (cdv ct:Value) (osl:Array (Option Value)),
  fd=W.fnOf x qual (eo st) (cL st) (ae st) .none kV doc pm an cdv ct/\K.lookup f=some ⟨oc,od,.func fd,osl⟩/\W.codeIn K cdv qual=true
 kp:W.keepIn K (.ref f)=true
section
variable {P:Program}{w:World}{K:PySem.W.Frag}{mg:Str->Option Value}{base:Heap}
def Fun.ok{x qual:Str}{st:Stmt}{f:Addr}{fd:FuncData}{N ps:List Str}{k:Nat}{sp:Sp}(F:Fun K x qual st f fd)(S:ag N ps (ae st))(len:∀ vs H Q E,sp vs H Q E->vs.length=ps.length)
  (aa:∀ (cdv:Value) (A:Around) (outer:List Env) (s:Shared) (H:Hp) (vs:List V) (Q:VK) (E:XK),iA k (A.deeper (envOfC qual (ae st) s.heap.objs.size f cdv))->sp vs H Q E →
   ∃ t,PSs (CH CX0 P w K mg base N qual (ae st) f cdv A outer s H E).nox (cL st) t/\t { nx:=λ _ H'=>Q .non H',rt:=Q } (au N vs) H):aH P w K mg base CX0 (k+1) f fd ps sp:=by
 obtain⟨oc,od,kV,doc,pm,an,cdv,ct,osl,rfl,lk,aS⟩:=F.ex;refine KP lk aS S len λ A outer s H vs Q E hr a3=>?_;obtain⟨t,h,q⟩:=aa cdv A outer s H vs Q E hr a3;exact⟨t,h.nox,q⟩
def Fun.binds{x qual:Str}{st:Stmt}{f:Addr}{fd:FuncData}{ps:List Str}(F:Fun K x qual st f fd)
  (h:∀ (kV doc pm:Value) (an:Option Addr) (cdv ct:Value) (us:List Value),us.length=ps.length->bindArgs (W.fnOf x qual (eo st) (cL st) (ae st) .none kV doc pm an cdv ct) ⟨us,[]⟩=pure (ps.zip us)):ak K fd ps []:=by
 obtain⟨oc,od,kV,doc,pm,an,cdv,ct,osl,rfl,lk,aa⟩:=F.ex;exact .all (h kV doc pm an cdv ct)
def Nq{x qual:Str}{st:Stmt}{f:Addr}{oc:Value}{od an:Option Addr}{osl:Array (Option Value)}{kV doc pm cdv ct:Value}(l:K.lookup f=some ⟨oc,od,.func (W.fnOf x qual (eo st) (cL st) (ae st) .none kV doc pm an cdv ct),osl⟩)
  (c:W.codeIn K cdv qual=true) (k:W.keepIn K (.ref f)=true):Fun K x qual st f (W.fnOf x qual (eo st) (cL st) (ae st) .none kV doc pm an cdv ct):=⟨⟨oc,od,kV,doc,pm,an,cdv,ct,osl,rfl,l,c⟩,k⟩
end
def qk{n:Nat}(h:n<=1000):n < sizeLine:=Nat.lt_of_le_of_lt h (by decide)
section
variable {X:Cx}
def pv(i:Nat){x:Str}{pos:Pos}(hN:X.N[i]? = some x:=by rfl)(hv:Vis X.env.scope x:=by first|exact Or.inl rfl|exact Or.inr (Or.inl rfl)|exact Or.inr (Or.inr rfl))(hd:(x == ("__debug__":Str))=false:=by decide)
  (aa:(x == ("__classdict__":Str))=false:=by decide):PE X (.Name x pos) (NB i):=Ll hN hv hd aa
end
def QL{c A B:Prop}[Decidable c](h1:c->A)(h2:¬ c->B):if c then A else B:=by
 by_cases h:c
 ·rw [RX h];exact h1 h
 ·rw [RQ h];exact h2 h
def kY(H H':Hp):Prop:=∀ b o,H b=some o->H' b=some o
def kY.refl(H:Hp):kY H H:=λ _ _ h=>h
def kY.trans{H H1 H2:Hp}(a:kY H H1)(b:kY H1 H2):kY H H2:=λ c o h=>b c o (a c o h)
def kY.free{H H':Hp}(e:kY H H'){l:Addr}(h:H' l=Option.none):H l=Option.none:=by
 cases q:H l with
 | none=>rfl
 | some o=>
  rw [e l o q] at h;cases h
def kY.seq{K:W.Frag}{H H':Hp}{a:Addr}{xs:List V}(e:kY H H')(h:SqL K H a xs):SqL K H' a xs:=by
 rcases h with (h|⟨o,h⟩)|h
 ·exact .inl (.inl (e _ _ h))
 ·exact .inl (.inr ⟨o,e _ _ h⟩)
 ·exact .inr h
section
variable {κ:Type}[DecidableEq κ]
def eF(kvs:List (κ × V))(k:κ):Option V:=(kvs.find? λ kv=>decide (kv.1=k)).map (·.2)
def pS(kvs:List (κ × V))(k:κ)(v:V):List (κ × V):=
 if (kvs.any λ kv=>decide (kv.1=k))=true then kvs.map (λ kv=>if kv.1=k then (kv.1,v) else kv) else kvs++[(k,v)]
def pW(kvs:List (κ × V))(k:κ):List (κ × V):=kvs.filter λ kv=>decide (kv.1 ≠ k)
def bU{p:κ × V}{r:List (κ × V)}{k:κ}(e:p.1=k):eF (p::r) k=some p.2:=by simp [eF,UG,e]
def bJ{p:κ × V}{r:List (κ × V)}{k:κ}(e:¬ p.1=k):eF (p::r) k=eF r k:=by simp [eF,UG,e]
def kK(k:κ):∀ kvs:List (κ × V),(kvs.any λ kv=>decide (kv.1=k))=(eF kvs k).isSome
 | []=>rfl
 | p::r=>by
  rw [UP]
  by_cases e:p.1=k
  ·simp only [bU e,R7 e,Bool.true_or,Option.isSome_some]
  ·rw [bJ e,R6 e,Bool.false_or];exact kK k r
def vf(k j:κ)(y:V):∀ kvs:List (κ × V),eF (kvs.map λ kv=>if kv.1=k then (kv.1,y) else kv) j=(eF kvs j).map λ x=>if j=k then y else x
 | []=>rfl
 | p::r=>by
  have ih:=vf k j y r;rw [Sm]
  by_cases h:p.1=k
  ·rw [RX h]
   by_cases e:p.1=j
   ·rw [bU (p:=(p.1,y)) e,bU e,TC,RX (e.symm.trans h)]
   ·rw [bJ (p:=(p.1,y)) e,bJ e,ih]
  ·rw [RQ h]
   by_cases e:p.1=j
   ·rw [bU (p:=p) e,bU e,TC,RQ (λ z=>h (e.trans z))]
   ·rw [bJ (p:=p) e,bJ e,ih]
def qh(k j:κ)(y:V):∀ kvs:List (κ × V),eF kvs k=none->eF (kvs++[(k,y)]) j=if j=k then some y else eF kvs j
 | [],_=>by
  by_cases e:k=j
  ·rw [RX e.symm];exact bU (p:=(k,y)) e
  ·rw [RQ (λ z=>e z.symm)];exact bJ (p:=(k,y)) e
 | p::r,hn=>by
  rw [List.cons_append];have hk:¬ p.1=k:=λ z=>by rw [bU z] at hn;cases hn
  rw [bJ hk] at hn;have ih:=qh k j y r hn
  by_cases e:p.1=j
  ·rw [bU e,bU e,RQ (λ z=>hk (e.trans z))]
  ·rw [bJ e,bJ e,ih]
def Dk(kvs:List (κ × V))(k j:κ)(y:V):eF (pS kvs k y) j=if j=k then some y else eF kvs j:=by
 unfold pS
 by_cases a:(kvs.any λ kv=>decide (kv.1=k))=true
 ·rw [RX a,vf];rw [kK] at a
  by_cases e:j=k
  ·obtain⟨x,hx⟩:=Tu.mp a;rw [RX e,e,hx,TC,RX rfl]
  ·rw [RQ e]
   cases eF kvs j with
   | none=>rfl
   | some x=>rw [TC,RQ e]
 ·rw [RQ a];refine qh k j y kvs ?_;rw [kK] at a
  cases q:eF kvs k with
  | none=>rfl
  | some x=>rw [q] at a;exact(a rfl).elim
def ia(kvs:List (κ × V))(k:κ)(v:V):(pS kvs k v).length<=kvs.length+1:=by
 unfold pS;split
 ·rw [RH];omega
 ·rw [R3,S4,Vo];omega
def pT.isSome_eq{o:Option V}{u:Option Value}(r:pT o u):o.isSome=u.isSome:=by
 cases o with
 | none=>cases u with
  | none=>rfl
  | some _=>exact(show False from r).elim
 | some _=>cases u with
  | none=>exact(show False from r).elim
  | some _=>rfl
def KV.val{kvs:List (κ × V)}{vs:List (κ × Value)}(r:KV kvs vs)(k:κ):pT (eF kvs k) (valueAt vs k):=by
 unfold KV at r
 induction r with
 | nil=>exact True.intro
 | @cons p q ps qs h t ih=>
  obtain⟨h1,h2⟩:=h
  by_cases e:p.1=k
  ·have e':q.1=k:=h1.symm.trans e;have b:valueAt (q::qs) k=some q.2:=by simp [valueAt,UG,e']
   rw [bU e,b];exact h2
  ·have e':¬ q.1=k:=λ z=>e (h1.trans z);have b:valueAt (q::qs) k=valueAt qs k:=by simp [valueAt,UG,e']
   rw [bJ e,b];exact ih
def KV.any{kvs:List (κ × V)}{vs:List (κ × Value)}(r:KV kvs vs)(k:κ):(kvs.any λ kv=>decide (kv.1=k))=vs.any λ kv=>decide (kv.1=k):=by
 unfold KV at r
 induction r with
 | nil=>rfl
 | cons h t ih=>rw [UP,UP,ih,h.1]
def KV.repl{kvs:List (κ × V)}{vs:List (κ × Value)}(r:KV kvs vs)(k:κ){y:V}{u:Value}(ry:bD y u) :
  KV (kvs.map λ kv=>if kv.1=k then (kv.1,y) else kv) (vs.map λ kv=>if kv.1=k then (kv.1,u) else kv):=by
 unfold KV at r ⊢
 induction r with
 | nil=>exact .nil
 | @cons p q ps qs h t ih=>
  rw [Sm,Sm];refine .cons ?_ ih;obtain⟨h1,h2⟩:=h
  by_cases e:p.1=k
  ·rw [RX e,RX (h1.symm.trans e)];exact⟨h1,ry⟩
  ·rw [RQ e,RQ (λ z=>e (h1.trans z))];exact⟨h1,h2⟩
def KV.put{kvs:List (κ × V)}{vs:List (κ × Value)}(r:KV kvs vs)(k:κ){y:V}{u:Value}(ry:bD y u):KV (pS kvs k y) (stored vs k u):=by
 unfold pS stored;rw [r.any k]
 by_cases e:(vs.any λ kv=>decide (kv.1=k))=true
 ·rw [RX e,RX e];exact r.repl k ry
 ·rw [RQ e,RQ e];exact Paired.snoc r ⟨rfl,ry⟩
def KV.drop{kvs:List (κ × V)}{vs:List (κ × Value)}(r:KV kvs vs)(k:κ):KV (pW kvs k) (without vs k):=by
 unfold KV at r ⊢;unfold pW without
 induction r with
 | nil=>exact .nil
 | @cons p q ps qs h t ih=>
  obtain⟨h1,h2⟩:=h;rw [List.filter_cons,List.filter_cons]
  by_cases e:p.1=k
  ·have a:¬ decide (p.1 ≠ k)=true:=by simp [e]
   have b:¬ decide (q.1 ≠ k)=true:=by simp [h1.symm.trans e]
   rw [RQ a,RQ b];exact ih
  ·have e':¬ q.1=k:=λ z=>e (h1.trans z);have a:decide (p.1 ≠ k)=true:=by simp [e]
   have b:decide (q.1 ≠ k)=true:=by simp [e']
   rw [RX a,RX b];exact .cons ⟨h1,h2⟩ ih
def KV.length{kvs:List (κ × V)}{vs:List (κ × Value)}(r:KV kvs vs):kvs.length=vs.length:=Ul r
def E9(kvs:List (κ × V))(k:κ):(pW kvs k).length<=kvs.length:=UL _ _
end
def wF{P:Program}{w:World}{k:Key}{u:Value}(r:bD (kV k) u):(aY P w).is k u=true:=by
 cases k with
 | inl i=>obtain⟨t,e⟩:=(show ∃ t,u=Value.int i t from r);subst e;exact uz P w i t
 | inr x=>obtain⟨t,e⟩:=(show ∃ t,u=Value.str x t from r);subst e;exact uy P w x t
def qu{P:Program}{w:World}:∀ {ks:List Key}{us:List Value},aW (ks.map kV) us->ItemsAre (aY P w) ks us
 | [],_,r=>by rw [Va] at r;cases r;exact .nil
 | k::ks,_,r=>by
  rw [Sm] at r
  cases r with
  | cons h t=>exact .cons (wF h) (qu t)
abbrev KT(H:Hp):List (List Key × V)->List (List Key × Addr × Value)->Prop:=Paired λ p q=>p.1=q.1/\H q.2.1=some (.tup (p.1.map kV))/\bD p.2 q.2.2
def KT.val{H:Hp}{kvs:List (List Key × V)}{xs:List (List Key × Addr × Value)}(r:KT H kvs xs)(k:List Key):pT (eF kvs k) ((atKey xs k).map (·.2)):=by
 induction r with
 | nil=>exact True.intro
 | @cons p q ps qs h t ih=>
  obtain⟨h1,_,h2⟩:=h
  by_cases e:p.1=k
  ·have e':q.1=k:=h1.symm.trans e;have b:atKey (q::qs) k=some q.2:=by simp [atKey,UG,e']
   rw [bU e,b];exact h2
  ·have e':¬ q.1=k:=λ z=>e (h1.trans z);have b:atKey (q::qs) k=atKey qs k:=by simp [atKey,UG,e']
   rw [bJ e,b];exact ih
def KT.repl{H:Hp}{kvs:List (List Key × V)}{xs:List (List Key × Addr × Value)}(r:KT H kvs xs)(k:List Key){y:V}{u:Value}(ry:bD y u) :
  KT H (kvs.map λ kv=>if kv.1=k then (kv.1,y) else kv) (xs.map (putAt k u)):=by
 induction r with
 | nil=>exact .nil
 | @cons p q ps qs h t ih=>
  rw [map_cons,map_cons];refine .cons ?_ ih;obtain⟨h1,h2,h3⟩:=h;unfold putAt
  by_cases e:p.1=k
  ·rw [RX e,RX (h1.symm.trans e)];exact⟨h1,h2,ry⟩
  ·rw [RQ e,RQ (λ z=>e (h1.trans z))];exact⟨h1,h2,h3⟩
def KT.put{H:Hp}{kvs:List (List Key × V)}{xs:List (List Key × Addr × Value)}(r:KT H kvs xs)(k:List Key){b:Addr}{y:V}{u:Value}(hb:H b=some (.tup (k.map kV)))(ry:bD y u) :
  KT H (pS kvs k y) (storedH xs k b u):=by
 have e:(kvs.any λ kv=>decide (kv.1=k))=(atKey xs k).isSome:=by
  rw [kK,(r.val k).isSome_eq,U4]
 unfold pS storedH;rw [e]
 by_cases q:(atKey xs k).isSome=true
 ·rw [RX q,RX q];exact r.repl k ry
 ·rw [RQ q,RQ q];exact Paired.snoc r ⟨rfl,hb,ry⟩
def KT.keeps{H H':Hp}{kvs:List (List Key × V)}{xs:List (List Key × Addr × Value)}(r:KT H kvs xs)(ht:∀ b ys,H b=some (.tup ys)->H' b=some (.tup ys)):KT H' kvs xs:=
 Paired.mapP r λ _ _ z=>⟨z.1,ht _ _ z.2.1,z.2.2⟩
section
variable {P:Program}{w:World}{H:Hp}{h:Heap}{a:Addr}
def Ki{u:HO}(ok:HOk P w H h)(e:Rd H a u):bw P w H h a u:=e.ok ok
def yn{kvs:List (Key × V)}(ok:HOk P w H h)(e:Rd H a (.dK kvs)):kvs.length<=sizeLine/\(a == sysModules)=false/\∃ vs,KV kvs vs/\h.DictOf (aY P w) a vs:=
 show bw P w H h a (.dK kvs) from Ki ok e
def KQ{kvs:List (Key × V)}(ok:HOk P w H h)(e:H a=some (.dK kvs)):kvs.length<=sizeLine/\(a == sysModules)=false/\∃ vs,KV kvs vs/\h.DictOf (aY P w) a vs:=yn ok (.inl e)
def qc{ks:List Key}(ok:HOk P w H h)(e:H a=some (.tup (ks.map kV))):(tupleKind (aY P w)).is h ks a:=by
 obtain⟨_,its,r,o,h1,h2,n,h3⟩:=(show bw P w H h a (.tup (ks.map kV)) from ok a _ e);exact⟨o,its.toArray,n,h1,h2,h3,by simpa using qu r⟩
def ym{kvs:List (List Key × V)}(ok:HOk P w H h)(e:Rd H a (.dT kvs)):kvs.length<=sizeLine/\(a == sysModules)=false /\
  ∃ xs,KT H kvs xs/\h.DictOfH (tupleKind (aY P w)) a xs:=by
 obtain⟨z,y,xs,r,o,es,ep,h1,h2,h3,h4,h5⟩:=(show bw P w H h a (.dT kvs) from Ki ok e);refine⟨z,y,xs,r,o,es,ep,h1,h2,h3,h4,λ x hx=>?_,h5⟩
 have all:∀ {l:List (List Key × V)} {m:List (List Key × Addr × Value)},KT H l m->∀ x∈m,(tupleKind (aY P w)).is h x.1 x.2.1:=by
  intro l m q
  induction q with
  | nil=>intro x hx;exact nomatch hx
  | @cons p q ps qs hq t ih=>
   intro x hx
   rcases RZ.mp hx with e|hx
   ·subst e;exact qc ok (by rw [←hq.1];exact hq.2.1)
   ·exact ih x hx
 exact all r x hx
def PX{kvs:List (List Key × V)}(ok:HOk P w H h)(e:H a=some (.dT kvs)):kvs.length<=sizeLine/\(a == sysModules)=false /\
  ∃ xs,KT H kvs xs/\h.DictOfH (tupleKind (aY P w)) a xs:=ym ok (.inl e)
end
def yc(H:Hp)(a:Addr)(y:V)(r:Option V):Prop:=
 (∃ kvs k,Rd H a (.dK kvs)/\y=kV k/\r=eF kvs k)\/∃ kvs k b,Rd H a (.dT kvs)/\y=.ref b/\H b=some (.tup (k.map kV))/\r=eF kvs k
def JZ(H:Hp)(a:Addr)(y v:V)(H':Hp):Prop:=
 (∃ kvs k,H a=some (.dK kvs)/\y=kV k/\kvs.length < sizeLine/\H'=upd H a (.dK (pS kvs k v))) \/
 ∃ kvs k b,H a=some (.dT kvs)/\y=.ref b/\H b=some (.tup (k.map kV))/\kvs.length < sizeLine/\H'=upd H a (.dT (pS kvs k v))
def yc.k{H:Hp}{a:Addr}{kvs:List (Key × V)}{k:Key}(e:H a=some (.dK kvs)):yc H a (kV k) (eF kvs k):=.inl ⟨kvs,k,.inl e,rfl,rfl⟩
def JZ.k{H:Hp}{a:Addr}{kvs:List (Key × V)}{k:Key}{v:V}(e:H a=some (.dK kvs))(hl:kvs.length < sizeLine):JZ H a (kV k) v (upd H a (.dK (pS kvs k v))):=.inl ⟨kvs,k,e,rfl,hl,rfl⟩
section
variable {X:Cx}{pins:List (Addr × Obj)}{σ:St}{H:Hp}{s:Shared}{a:Addr}{y v:V}{u r:Value}{o:Option V}{A:Around}{E:Value->Shared->Prop}
def Inv.big(I:Inv X pins σ H s):sysModules < s.heap.objs.size:=by
 have h:mainGlobals < s.heap.objs.size:=(I.mod.glob.keeps I.bk).lt;exact Uh (by decide) h
def B6{Q:Value->Shared->Prop}(hu:A.units+1 < cLine)(I:Inv X pins σ H s)(g:yc H a y (some v))(ry:bD y u)(h:∀ w' s',Inv X pins σ H s'->bD v w'->Q w' s') :
  wpAny (model X.prog X.w) A (getItem (.ref a) u) Q E s:=by
 rcases g with ⟨kvs,k,e,ey,l⟩|⟨kvs,k,b,e,ey,eb,l⟩
 ·subst ey;obtain⟨z,hd,vs,rel,dd⟩:=yn I.hok e;obtain⟨w',hw,rw'⟩:=pT.some_of (v:=v) (o:=valueAt vs k) (by rw [l];exact rel.val k);exact wpAny_getItem_of (wF ry) dd.mapOf hw (h w' _ (I.tok _) rw')
 ·subst ey;cases (show u=Value.ref b from ry);obtain⟨z,hd,xs,rel,dd⟩:=ym I.hok e;obtain⟨w',hw,rw'⟩:=pT.some_of (v:=v) (o:=(atKey xs k).map (·.2)) (by rw [l];exact rel.val k);obtain⟨p,hp,aa⟩:=RL.mp hw;refine wpAny_getItem_heap (Uz hu) (qc I.hok eb) dd hp ?_;rw [aa];exact h w' _ (I.tok _) rw'
def Ro{Q:Value->Shared->Prop}(hu:A.units+1 < cLine)(I:Inv X pins σ H s)(g:yc H a y o)(ry:bD y u)(h:∀ s',Inv X pins σ H s'->Q (.bool o.isSome) s') :
  wpAny (model X.prog X.w) A (compareOp .In u (.ref a)) Q E s:=by
 rcases g with ⟨kvs,k,e,ey,l⟩|⟨kvs,k,b,e,ey,eb,l⟩
 ·subst ey;obtain⟨z,hd,vs,rel,dd⟩:=yn I.hok e;refine wpAny_in_of (wF ry) hd dd.mapOf ?_;rw [←(rel.val k).isSome_eq,←l];exact h _ (I.tok _)
 ·subst ey;cases (show u=Value.ref b from ry);obtain⟨z,hd,xs,rel,dd⟩:=ym I.hok e;refine wpAny_in_heap (Uz hu) (qc I.hok eb) hd dd ?_;have q:=(rel.val k).isSome_eq;rw [U4] at q;rw [←q,←l];exact h _ (I.tok _)
def JD{Q:Value->Shared->Prop}(hu:A.units+1 < cLine)(I:Inv X pins σ H s)(g:yc H a y o)(ry:bD y u)(h:∀ s',Inv X pins σ H s'->Q (.bool (!o.isSome)) s') :
  wpAny (model X.prog X.w) A (compareOp .NotIn u (.ref a)) Q E s:=by
 rcases g with ⟨kvs,k,e,ey,l⟩|⟨kvs,k,b,e,ey,eb,l⟩
 ·subst ey;obtain⟨z,hd,vs,rel,dd⟩:=yn I.hok e;refine wpAny_notIn_of (wF ry) hd dd.mapOf ?_;rw [←(rel.val k).isSome_eq,←l];exact h _ (I.tok _)
 ·subst ey;cases (show u=Value.ref b from ry);obtain⟨z,hd,xs,rel,dd⟩:=ym I.hok e;refine wpAny_notIn_heap (Uz hu) (qc I.hok eb) hd dd ?_;have q:=(rel.val k).isSome_eq;rw [U4] at q;rw [←q,←l];exact h _ (I.tok _)
def ub{h':Heap}{t':Nat}{ob:HO}(I:Inv X pins σ H s)(mu:Mut (H a))(hs:Heap.SameBut a s.heap h')(he:∃ q,h'.get? a=some q)(new:bw X.prog X.w (upd H a ob) h' a ob) :
  Inv X pins σ (upd H a ob) { s with heap:=h',toks:=t' }:=
 I.write (x:=a) (e:=a) mu (.inl rfl) (λ b q hb z=>(hs.2 b hb).trans z) he new
def FO{P:Program}{w:World}{H':Hp}{h':Heap}{kvs:List (Key × V)}{vs:List (Key × Value)}(z:kvs.length<=sizeLine)(hd:(a == sysModules)=false)(rel:KV kvs vs)(dd:h'.DictOf (aY P w) a vs) :
  bw P w H' h' a (.dK kvs):=⟨z,hd,vs,rel,dd⟩
def B5{H':Hp}{Q:Unit->Shared->Prop}(hu:A.units+1 < cLine)(I:Inv X pins σ H s)(g:JZ H a y v H')(ry:bD y u)(rv:bD v r)(h:∀ s',Inv X pins σ H' s'->Q () s') :
  wpAny (model X.prog X.w) A (setItem (.ref a) u r) Q E s:=by
 rcases g with ⟨kvs,k,e,ey,l,eH⟩|⟨kvs,k,b,e,ey,eb,l,eH⟩
 ·subst ey eH;obtain⟨z,hd,vs,rel,dd⟩:=KQ I.hok e;have hz:vs.length<=sizeLine:=by rw [←rel.length];exact z
  have hl:(pS kvs k v).length<=sizeLine:=by have:=ia kvs k v;omega
  refine wpAny_setItem_pairs (hsz:=hz) (wF ry) dd λ h' aa hs=>h _ ?_;have he:∃ q,h'.get? a=some q:=let ⟨q,_,_,hq,_⟩:=aa;⟨q,hq⟩;exact ub I (by rw [e];exact True.intro) hs he (FO hl hd (rel.put k rv) aa)
 ·subst ey eH;cases (show u=Value.ref b from ry);obtain⟨z,hd,xs,rel,dd⟩:=PX I.hok e;have hz:xs.length<=sizeLine:=by rw [←Ul rel];exact z
  have hl:(pS kvs k v).length<=sizeLine:=by have:=ia kvs k v;omega
  refine wpAny_setItem_heap (hsz:=hz) (Uz hu) (qc I.hok eb) dd λ h' aa hs=>h _ ?_;obtain⟨q,es,ep,hq,h2,h3,h4,_,h5⟩:=aa;refine ub I (by rw [e];exact True.intro) hs ⟨q,hq⟩ ⟨hl,hd,_,(rel.put k eb rv).keeps λ c ys ec=>?_,q,es,ep,hq,h2,h3,h4,h5⟩;rw [ah (O5 ec e (λ z=>nomatch z))];exact ec
end
section
variable {X:Cx}{pins:List (Addr × Obj)}{σ:St}{H:Hp}{s:Shared}{a:Addr}{kvs:List (Key × V)}{k:Key}{u:Value}{A:Around}{E:Value->Shared->Prop}
def PY{v:V}{more:List Value}{Q:Value->Shared->Prop}(I:Inv X pins σ H s)(e:H a=some (.dK kvs))(ry:bD (kV k) u)(l:eF kvs k=some v)(hm:more=[]\/∃ x,more=[x])
  (h:∀ w' s',Inv X pins σ (upd H a (.dK (pW kvs k))) s'->bD v w'->Q w' s'):wpAny (model X.prog X.w) A (call (.builtin "dict.pop") (.ref a::u::more)) Q E s:=by
 obtain⟨z,hd,vs,rel,dd⟩:=KQ I.hok e;obtain⟨w',hw,rw'⟩:=pT.some_of (v:=v) (o:=valueAt vs k) (by rw [←l];exact rel.val k)
 have hp:(keyPart u).isSome=true:=by
  cases k with
  | inl i=>obtain⟨t,q⟩:=(show ∃ t,u=Value.int i t from ry);subst q;rfl
  | inr x=>obtain⟨t,q⟩:=(show ∃ t,u=Value.str x t from ry);subst q;rfl
 have ha:argsOk "dict.pop" ⟨.ref a::u::more,[]⟩:=by
  rcases hm with q|⟨x,q⟩
  ·subst q;exact PySem.F.args_dict_pop_2 _ _
  ·subst q;exact PySem.F.args_dict_pop_3 _ _ _
 refine call_meetsIn PySem.F.slot_dict_pop dd.typeIs PySem.F.entry_dict_pop ha (meets_dict_pop_there (aY X.prog X.w) a (wF ry) more hm hp)
  ⟨vs,w',dd,by rw [←rel.length];exact z,hw,λ h' aa hs=>h w' _ ?_ rw'⟩
 have he:∃ q,h'.get? a=some q:=let ⟨q,_,_,hq,_⟩:=aa;⟨q,hq⟩;exact ub I (by rw [e];exact True.intro) hs he (FO (Sj (E9 kvs k) z) hd (rel.drop k) aa)
end
def QU(i:Expr):Prop:=∀ ov iv,subscripted i false ov iv=operate [ov,iv] (getItem ov iv)
def GX{prog:Program}{w:World}{A:Around}{E:Value->Shared->Prop}{s:Shared}{env:Env}{value slice:Expr}{pos:Pos}{T id:String}{Q:Value->Shared->Prop}
  (hl:typeLookup (.type T) "__getitem__"=pure (some (.builtin id))) (hs:QU slice)
  (h:wpAny (model prog w) A (eval value env) (λ o s₁=>wpAny (model prog w) A (eval slice env) (λ i s₂=>s₂.TypeIs o T/\wpAny (model prog w) A (getItem o i) Q E s₂) E s₁) E s) :
  wpAny (model prog w) A (eval (.Subscript value slice pos) env) Q E s:=by
 refine Subscript_ (wpAny_mono h (λ o s₁ h₁=>wpAny_mono h₁ (λ i s₂ h₂=>?_) λ _ _ x=>x) λ _ _ x=>x);obtain⟨hT,h₂⟩:=h₂;unfold subscriptTail;refine wpAny_bind ?_;rw [getitemInPython_of_ne hT.not_modules];refine wpAny_bind (wpAny_specialOf hT hl ?_)
 have fin:wpAny (model prog w) A (subscripted slice false o i) (λ r s₃=>wpAny (model prog w) A (letTemporaryGo value o r >>= λ _=>pure r) Q E s₃) E s₂:=by
  rw [hs o i];exact wpAny_operating (Up h₂ (λ r s₃ h₃=>My (wpAny_letTemporaryGo (RI h₃))) λ _ _ x=>x)
 first
  | exact RI (My fin)
  | exact My (RI (My fin))
  | exact My fin
def uI{X:Cx}{pins:List (Addr × Obj)}{σ:St}{H:Hp}{s:Shared}{a:Addr}{y:V}{o:Option V}(I:Inv X pins σ H s)(g:yc H a y o):s.TypeIs (.ref a) "dict":=by
 rcases g with ⟨kvs,k,e,_,_⟩|⟨kvs,k,b,e,_,_,_⟩
 ·obtain⟨_,_,vs,_,dd⟩:=yn I.hok e;exact dd.typeIs
 ·obtain⟨_,_,xs,_,dd⟩:=ym I.hok e;exact dd.typeIs
def Ke(td ty:TE):TE:=λ σ H Q=>td σ H λ x H1=>ty σ H1 λ y H2=>∃ a v,x=.ref a/\yc H2 a y (some v)/\Q v H2
def Kh(td ty tv:TE):TS:=λ D σ H=>tv σ H λ v H1=>td σ H1 λ x H2=>ty σ H2 λ y H3=>∃ a H4,x=.ref a/\JZ H3 a y v H4/\D.nx σ H4
section
variable {X:Cx}{o i e value:Expr}{pos pos' tpos:Pos}{td ty tv:TE}
def zq(hu:X.A.units+1 < cLine)(ho:PE X o td)(hi:PE X i ty)(hs:QU i):PE X (.Subscript o i pos) (Ke td ty):=by
 intro pins s σ H Q I h;refine GX PySem.F.slot_dict_getitem.lookup hs (thn (ho pins s σ H _ I h) λ u s1 ⟨x,H1,I1,rx,q1⟩=>thn (hi pins s1 σ H1 _ I1 q1) λ iv s2 ⟨y,H2,I2,ry,a,v,ex,g,q2⟩=>?_);subst ex;obtain rfl:u=Value.ref a:=rx;exact⟨uI I2 g,B6 hu I2 g ry λ w' s3 I3 rw'=>⟨v,H2,I3,rw',q2⟩⟩
def zk(hu:X.A.units+1 < cLine)(ho:PE X o td)(hi:PE X i ty)(hv:PE X value tv)(hs:swapsWith value (some (.Subscript o i pos')) pos.line X.env=pure false) :
  PS X (.Assign [.Subscript o i pos'] value pos) (Kh td ty tv):=by
 intro pins s σ H D I h;refine wpAny_Assign_Subscript (thn (hv pins s σ H _ I h) λ r s1 ⟨v,H1,I1,rv,q1⟩=>thn (ho pins s1 σ H1 _ I1 q1) λ u s2 ⟨x,H2,I2,rx,q2⟩=>thn (hi pins s2 σ H2 _ I2 q2) λ iv s3 ⟨y,H3,I3,ry,a,H4,ex,g,q3⟩=>?_) hs;subst ex;obtain rfl:u=Value.ref a:=rx;exact B5 hu I3 g ry rv λ s4 I4=>⟨σ,H4,I4,q3⟩
end
def Fc{P:Program}{w:World}{H:Hp}(h:Heap)(hb:sysModules < h.objs.size):bw P w H (h.push { cls:=.type "dict",data:=.dict #[] }) h.objs.size (.dK []):=
 ⟨SF _,Tq.mpr (RO (RT hb)),[],.nil,Heap.DictOf.new h⟩
def K8:TE:=λ _ H Q=>∀ p,H p=none->Q (.ref p) (upd H p (.dK []))
section
variable {X:Cx}{pos:Pos}
def DS:PE X (.Dict [] [] pos) K8:=λ pins s σ H Q I h=>
 wpAny_Dict_empty ⟨.ref s.heap.objs.size,_,I.laid (a:=s.heap.objs.size) (o:=.dK []) (t':=s.toks) (λ _ _ q=>RD _ q) (RJ _) (Fc s.heap I.big),rfl,h _ (I.hok.fresh (RJ _))⟩
end
structure M1(X:Cx)(o:Expr)(m:Str)(apos:Pos)(e:Expr)(cpos:Pos):Prop where
 base:attributeBase o m X.env (eval o X.env)=eval o X.env
 few:((backTo cpos (starEach [e] X.env)).all (λ x=>!x.1) && (backToKw cpos (keywordEach [] X.env)).all (λ x=>x.1.isSome)
  && decide (([e]:List Expr).length+([]:List Keyword).length+(if ([]:List Keyword).isEmpty then 0 else 1) < 30))=true
 line:(apos.endLine == cpos.line)=true
 trees:backTo cpos (starEach [e] X.env)=[(false,eval e X.env)]
structure M2(X:Cx)(o:Expr)(m:Str)(apos:Pos)(e f:Expr)(cpos:Pos):Prop where
 base:attributeBase o m X.env (eval o X.env)=eval o X.env
 few:((backTo cpos (starEach [e,f] X.env)).all (λ x=>!x.1) && (backToKw cpos (keywordEach [] X.env)).all (λ x=>x.1.isSome)
  && decide (([e,f]:List Expr).length+([]:List Keyword).length+(if ([]:List Keyword).isEmpty then 0 else 1) < 30))=true
 line:(apos.endLine == cpos.line)=true
 trees:backTo cpos (starEach [e,f] X.env)=[(false,eval e X.env),(false,eval f X.env)]
section
variable {X:Cx}{pins:List (Addr × Obj)}{σ:St}{H:Hp}{s:Shared}{a:Addr}{y d:V}{u r:Value}{o:Option V}{A:Around}{E:Value->Shared->Prop}
end
section
variable {X:Cx}{o e f:Expr}{apos cpos:Pos}{td ty tx:TE}
end
section
variable {X:Cx}{pins:List (Addr × Obj)}{σ:St}{H:Hp}{s:Shared}{a:Addr}{kvs:List (Key × V)}{A:Around}{E:Value->Shared->Prop}
end
section
variable {X:Cx}{pins:List (Addr × Obj)}{σ:St}{H:Hp}{s:Shared}{a:Addr}{y:V}{u:Value}{A:Around}{E:Value->Shared->Prop}
end
section
variable {κ:Type}[DecidableEq κ]
end
section
variable {X:Cx}
def yq(i j:Int):Prop:=i.natAbs < 2 ^ 256/\j.natAbs < 2 ^ 256
def zV{i:Int}(h:i.natAbs < 2 ^ 256):Builtin.Int.intBits i<=2 ^ 20:=Sj (intBits_le h) (by decide)
def Hw:OpR X (binaryOp .Mult) (rI yq λ i j=>.int (i * j)):=opI λ _ _ _ _ _ _ _ hc q=>mul_int q (IntMulOk.of_bits (zV hc.1) (zV hc.2))
def KY(_ j:Int):Prop:=j ≠ 0/\j.natAbs < 2 ^ 256
def Nh{j:Int}(h:j ≠ 0)(hj:j.natAbs < 2 ^ 256):j.natAbs.log2 < 9000:=by
 have h0:j.natAbs ≠ 0:=by omega
 have h1:=(Nat.log2_lt h0).mpr hj;omega
def DW:OpR X (binaryOp .FloorDiv) (rI KY λ i j=>.int (i.fdiv j)):=opI λ _ _ _ _ _ _ _ hc q=>floordiv_int hc.1 q (.inl (PyProof.noPylong_of_log2 (Nh hc.1 hc.2)))
def Fd:bI X (.builtin "isinstance") (λ xs H Q=>∃ x n ty b,xs=[x,.ty n]/\uY X.K H x ty/\W.kitOne X.K ty (.type n)=some b/\Q (.bl b) H):=by
 intro pins s σ H xs us Q I r h;obtain⟨x,n,ty,b,rfl,aa,hk,q⟩:=h;obtain⟨u,w',rfl,rx,rc⟩:=bN r;cases (show w'=Value.type n from rc);exact BW I rx aa hk (λ tk=>⟨.bl b,H,I.tok _,rfl,q⟩)
def BS(K:W.Frag)(A B:String)(r:Bool)
  (h:(if (Value.type A == Value.type B)=true then some true else if W.kitMeta B=true then (fastBuiltinMro A).map (·.contains (.type B)) else none)=some r):W.kitOne K (.type A) (.type B)=some r:=h
mutual
inductive nX (K:PySem.W.Frag) (H:Hp):V->PyData->Prop
 | non:nX K H .non .none
 | bl (b:Bool):nX K H (.bl b) (.bool b)
 | int (i:Int):nX K H (.int i) (.int i)
 | str (x:Str):nX K H (.str x) (.str x)
 | lst {a:Addr} {xs:List V} {ds:List PyData} (h:SqL K H a xs) (r:k4 K H xs ds):nX K H (.ref a) (.list ds)
 | tup {a:Addr} {xs:List V} {ds:List PyData} (h:SqT K H a xs) (r:k4 K H xs ds):nX K H (.ref a) (.tuple ds)
inductive k4 (K:PySem.W.Frag) (H:Hp):List V->List PyData->Prop
 | nil:k4 K H [] []
 | cons {x:V} {d:PyData} {xs:List V} {ds:List PyData} (h:nX K H x d) (t:k4 K H xs ds):k4 K H (x::xs) (d::ds)
end
mutual
def nX.reads{pins:List (Addr × Obj)}{σ:St}{H:Hp}{s:Shared}(I:Inv X pins σ H s):∀ {x:V}{d:PyData}{u:Value},nX X.K H x d->bD x u->∃ as,Reads s.heap u d as
 | _,_,_,.non,r=>by cases (show _=Value.none from r);exact⟨_,.none⟩
 | _,_,_,.bl b,r=>by cases (show _=Value.bool b from r);exact⟨_,.bool b⟩
 | _,_,_,.int i,r=>by obtain⟨t,rfl⟩:=r;exact⟨_,.int i t⟩
 | _,_,_,.str x,r=>by obtain⟨t,rfl⟩:=r;exact⟨_,.str x t⟩
 | _,_,_,@nX.lst _ _ a xs ds h q,r=>by
  cases (show _=Value.ref a from r);obtain⟨its,hv,hp,_⟩:=I.list h;obtain⟨o,n,e,c,_,d⟩:=hp;obtain⟨as,z⟩:=k4.reads I q hv;exact⟨_,.list e c d (by simpa using z)⟩
 | _,_,_,@nX.tup _ _ a xs ds h q,r=>by
  cases (show _=Value.ref a from r);obtain⟨its,hv,hp,_⟩:=I.tuple h;obtain⟨o,e,c,n,d⟩:=hp;obtain⟨as,z⟩:=k4.reads I q hv;exact⟨_,.tuple e c d (by simpa using z)⟩
def k4.reads{pins:List (Addr × Obj)}{σ:St}{H:Hp}{s:Shared}(I:Inv X pins σ H s):∀ {xs:List V}{ds:List PyData}{us:List Value},k4 X.K H xs ds->aW xs us->∃ as,ReadsAll s.heap us ds as
 | _,_,_,.nil,.nil=>⟨_,.nil⟩
 | _,_,_,.cons h t,.cons r q=>by
  obtain⟨as,z⟩:=nX.reads I h r;obtain⟨bs,y⟩:=k4.reads I t q;exact⟨_,.cons z y⟩
end
def Ra(K:W.Frag):R2:=λ x y H Q=>∃ d e,nX K H x d/\nX K H y e/\SeqAt.shaped d=true/\SeqAt.shaped e=true/\Q (.bl (PyData.eqv d e)) H
def Q7(K:W.Frag):R2:=λ x y H Q=>∃ d e,nX K H x d/\nX K H y e/\SeqAt.shaped d=true/\SeqAt.shaped e=true/\Q (.bl (!PyData.eqv d e)) H
def Lv(hu:X.A.units+64 < cLine):OpR X (compareOp .Eq) (Ra X.K):=by
 intro pins s σ H x y v u Q I rx ry h;obtain⟨d,e,hd,he,sd,se,q⟩:=h;obtain⟨as,z⟩:=hd.reads I rx;obtain⟨bs,z'⟩:=he.reads I ry;exact SeqAt.compareEq_shaped z z' sd se hu ⟨.bl _,H,I,rfl,q⟩
def Lr(hu:X.A.units+64 < cLine):OpR X (compareOp .NotEq) (Q7 X.K):=by
 intro pins s σ H x y v u Q I rx ry h;obtain⟨d,e,hd,he,sd,se,q⟩:=h;obtain⟨as,z⟩:=hd.reads I rx;obtain⟨bs,z'⟩:=he.reads I ry;exact SeqAt.compareNe_shaped z z' sd se hu ⟨.bl _,H,I,rfl,q⟩
end
def DA{H:Hp}{p:Addr}{o:HO}(h:H p=none):kY H (upd H p o):=λ b u e=>by
 rw [ah (b7 e h)];exact e
def FQ{α:Type}(xs:List α)(i:Int)(h0:0<=i)(h1:i < xs.length):∃ v,atI xs i=some v/\v∈xs:=by
 have hl:i.toNat < xs.length:=by omega
 refine⟨xs[i.toNat],?_,T7 hl⟩;have e:((i.toNat:Nat):Int)=i:=by omega
 have:=cM (xs:=xs) (j:=i.toNat) (v:=xs[i.toNat]) (RE hl);rw [e] at this;exact this
def vW(ns:List Int)(i:Int)(h0:0<=i)(h1:i < ns.length):∃ z,atI (ns.map V.int) i=some (.int z)/\z∈ns:=by
 obtain⟨v,e,m⟩:=FQ (ns.map V.int) i h0 (by simpa using h1);obtain⟨z,hz,rfl⟩:=RW.mp m;exact⟨z,e,hz⟩
def pP(cells:List (Str × Addr)):List (Str × NameKind)->List (Str × Addr)->List (Str × Addr)
 | [],acc=>acc
 | (n,k)::r,acc=>if (k == .free)=true then pP cells r ((n,(cells.lookup n).getD 0)::acc) else pP cells r acc
def ib{env:Env}:∀ (names:List (Str × NameKind)) (acc:List (Str × Addr)),(∀ y∈names,y.2=.free->∃ c,env.cells.lookup y.1=some c) →
  (forIn names acc (λ (x:Str × NameKind) (cs:List (Str × Addr))=>match x with
   | (name,kind)=>if (kind == .free)=true then (do let a ←cellOf env name;pure (ForInStep.yield ((name,a)::cs))) else (do pure PUnit.unit;pure (ForInStep.yield cs))):Sem (List (Str × Addr)))=pure (pP env.cells names acc)
 | [],acc,_=>rfl
 | (n,k)::r,acc,h=>by
  rw [UZ];have hr:∀ y∈r,y.2=.free->∃ c,env.cells.lookup y.1=some c:=λ y hy=>h y (RU _ hy)
  by_cases hk:(k == .free)=true
  ·obtain⟨c,hc⟩:=h (n,k) mem_cons_self (by simpa using hk);have aa:env.cells.lookup n=some c:=hc;simp only [hk,if_true,pP,aa,Option.getD_some];have e:cellOf env n=pure c:=by unfold cellOf;rw [aa]
   rw [e];exact ib r _ hr
  ·simp only [hk,Ug,pP];exact ib r acc hr
def i8{scope:Scope}{env:Env}(h:∀ y∈scope.names,y.2=.free->∃ c,env.cells.lookup y.1=some c):closureFor scope env=pure (pP env.cells scope.names []):=by
 unfold closureFor;have:=ib (env:=env) scope.names [] h
 first
  | exact(Tf (λ m=>m >>= λ cs=>pure cs) this).trans (pure_bind _ _)
  | (simp only [] at this ⊢;rw [this];rfl)
def oP{cells:List (Str × Addr)}{x:Str}{c:Addr}:∀ {names:List (Str × NameKind)}{acc:List (Str × Addr)},(∀ y∈names,y.2=.free->∃ c,cells.lookup y.1=some c)->(pP cells names acc).lookup x=some c->acc.lookup x=some c\/cells.lookup x=some c
 | [],acc,_,h=>.inl h
 | (n,k)::r,acc,hf,h=>by
  have hr:∀ y∈r,y.2=.free->∃ c,cells.lookup y.1=some c:=λ y hy=>hf y (mem_cons_of_mem _ hy);unfold pP at h
  by_cases hk:(k == .free)=true
  ·rw [RX hk] at h
   rcases oP hr h with q|q
   ·rw [Th] at q
    cases hx:x == n with
    | true=>
     rw [hx] at q;obtain⟨d,hd⟩:=hf (n,k) R5 (by simpa using hk);have e:x=n:=by simpa using hx
     subst e;have aa:cells.lookup x=some d:=hd;rw [aa] at q ⊢;exact .inr (by simpa using q)
    | false=>rw [hx] at q;exact .inl q
   ·exact .inr q
  ·rw [RQ hk] at h;exact oP hr h
def oQ{cells:List (Str × Addr)}{x:Str}:∀ {names:List (Str × NameKind)}{acc:List (Str × Addr)},(∀ y∈names,y.2=.free->∃ c,cells.lookup y.1=some c)->(∃ c,acc.lookup x=some c)->∃ c,(pP cells names acc).lookup x=some c
 | [],acc,_,h=>h
 | (n,k)::r,acc,hf,h=>by
  have hr:∀ y∈r,y.2=.free->∃ c,cells.lookup y.1=some c:=λ y hy=>hf y (mem_cons_of_mem _ hy);unfold pP
  by_cases hk:(k == .free)=true
  ·rw [RX hk];refine oQ hr ?_;rw [Th]
   cases hx:x == n with
   | true=>exact⟨_,rfl⟩
   | false=>exact h
  ·rw [RQ hk];exact oQ hr h
def kU{cells:List (Str × Addr)}{x:Str}:∀ {names:List (Str × NameKind)}{acc:List (Str × Addr)},(∀ y∈names,y.2=.free->∃ c,cells.lookup y.1=some c)->names.lookup x=some .free->∃ c,(pP cells names acc).lookup x=some c
 | [],acc,_,h=>by simp at h
 | (n,k)::r,acc,hf,h=>by
  have hr:∀ y∈r,y.2=.free->∃ c,cells.lookup y.1=some c:=λ y hy=>hf y (mem_cons_of_mem _ hy);rw [lookup_cons] at h;unfold pP
  cases hx:x == n with
  | true=>
   rw [hx] at h;have hk:k=.free:=by simpa using h
   subst hk;rw [RX (show (NameKind.free == NameKind.free)=true from rfl)];refine oQ hr ⟨(cells.lookup n).getD 0,?_⟩;rw [Th,hx]
  | false=>
   rw [hx] at h
   by_cases hk:(k == .free)=true
   ·rw [RX hk];exact kU hr h
   ·rw [RQ hk];exact kU hr h
def gx{x:Str}{k:NameKind}:∀ {names:List (Str × NameKind)},names.lookup x=some k->(x,k)∈names
 | [],h=>by simp at h
 | (n,j)::r,h=>by
  rw [Th] at h
  cases hx:x == n with
  | true=>
   rw [hx] at h;have e:x=n:=by simpa using hx
   have e2:j=k:=by simpa using h
   subst e;subst e2;exact R5
  | false=>rw [hx] at h;exact RU _ (gx h)
def eE{env:Env}{x:Str}:∀ {names:List (Str × NameKind)},
  (names.map λ (n,k)=>if (k == NameKind.free && env.scope.kind == .function && env.kindOf n == some .cell) then (n,NameKind.cell) else (n,k)).lookup x
   = (names.lookup x).map λ k=>if (k == NameKind.free && env.scope.kind == .function && env.kindOf x == some .cell) then NameKind.cell else k
 | []=>rfl
 | (n,k)::r=>by
  have ih:=@eE env x r
  show List.lookup x ((if (k == NameKind.free && env.scope.kind == .function && env.kindOf n == some .cell)=true then (n,NameKind.cell) else (n,k))::_)=_
  cases hx:x == n with
  | true=>
   have e:x=n:=by simpa using hx
   subst e
   by_cases hc:(k == NameKind.free && env.scope.kind == .function && env.kindOf x == some .cell)=true
   ·rw [RX hc];simp only [Th,Ve,TC];rw [RX hc]
   ·rw [RQ hc];simp only [Th,Ve,TC];rw [RQ hc]
  | false=>
   by_cases hc:(k == NameKind.free && env.scope.kind == .function && env.kindOf n == some .cell)=true
   ·rw [RX hc];simp only [Th,hx];exact ih
   ·rw [RQ hc];simp only [Th,hx];exact ih
abbrev cCx(X:Cx)(scope:Scope)(N':List Str)(C:Addr)(s₀:Shared)(H₀:Hp)(ex:List Addr)(pn:List (Addr × Obj)):Cx:=
 { X with N:=N',s₀:=s₀,H₀:=H₀,env:=compEnvC scope (pP X.env.cells scope.names []) C X.env,outer:=X.stack,stack:=X.stack,ex:=ex,fn:=λ _=>false,pn:=pn,xe:=λ _ _=>False }
def PTs(Y:Cx)(ifs:List Expr)(t:TT):Prop:=
 ∀ (pins:List (Addr × Obj)) (s:Shared) (σ:St) (H:Hp) (Q:Bool->Hp->Prop),Inv Y pins σ H s->t σ H Q →
  wpAny (model Y.prog Y.w) Y.A (forIn ifs true λ c r=>if r=true then do let ok ←isTrue c Y.env (eval c Y.env);pure (ForInStep.yield ok) else pure (ForInStep.yield r)) (TP Y pins σ Q) Y.xe s
def Qe:TT:=λ _ H Q=>Q true H
def aN{Y:Cx}:PTs Y [] Qe:=λ _ _ _ H _ I h=>RI ⟨H,I,h⟩
def tU{Y:Cx}{c:Expr}{t:TT}(h:PT Y c t):PTs Y [c] t:=λ pins s σ H Q I hw=>PySem.wpAny_tests_one (h pins s σ H Q I hw)
def HOk.but{P:Program}{w:World}{H:Hp}{h h':Heap}{C:Addr}(ok:HOk P w H h)(hn:H C=none)(hs:Heap.SameBut C h h'):HOk P w H h':=λ b ob e=>by
 refine(ok b ob e).stay (λ c w' hc q=>(hs.2 c ?_).trans q) (λ _ q=>q) λ _ _ q=>q;rintro rfl
 rcases hc with rfl|hc
 ·rw [hn] at e;cases e
 ·rw [hn] at hc;cases hc
def Un.but{fs ex:List Addr}{H H':Hp}{h h1 h2:Heap}{C:Addr}(u:Un fs ex H H' h h1)(hs:Heap.SameBut C h1 h2)(hC:∀ b o,h.get? b=some o->b ≠ C):Un fs ex H H' h h2 where
 keep:=λ b o e n hb hx=>(hs.2 b (hC b o e)).trans (u.keep b o e n hb hx)
 slot:=λ b o e n hb hx=>by
  obtain⟨sl,q⟩:=u.slot b o e n hb hx;exact⟨sl,(hs.2 b (hC b o e)).trans q⟩
 free:=u.free
 there:=λ b o e hx=>by
  obtain⟨o',q⟩:=u.there b o e hx;exact⟨o',(hs.2 b (hC b o e)).trans q⟩
 tups:=u.tups
 frzs:=u.frzs
 tbls:=u.tbls
section
variable {X:Cx}
def FV(k:Nat)(wi:TI)(g:TG)(tt:TT)(te:TE):TE:=λ σ H Q=>wi σ H λ J H1=>∀ D,H1 D=none->∃ W:Nat->Nat->List V->Hp->Prop,(∃ m,W 0 m [] (upd H1 D (.lst [])))/\∀ i m ys H,W i m ys H →
 (J.stop i H/\Q (.ref D) H)\/(J.go i H/\∃ N:List V->Hp->Prop,(∀ ys' H',N ys' H'->∃ m',m' < m/\W (i+1) m' ys' H') /\
  ∀ x H',J.yld i H x H'->g x (List.replicate k none++σ) H' λ σ2 H2=>(∃ vs:St,vs.length=k/\σ2=vs++σ)/\tt σ2 H2 λ b H3=>if b=true then te σ2 H3 λ y H4=>H4 D=some (.lst ys)/\ys.length < sizeLine/\N (ys++[y]) (upd H4 D (.lst (ys++[y]))) else N ys H3)
def B7{Y:Cx}{tg elt iter:Expr}{ifs:List Expr}{scope:Scope}{pos:Pos}{it D:Addr}{g:TG}{tt:TT}{te:TE}{J:It}{fp:List Addr}{tn:Nat->Heap->Prop}{k:Nat}{σ:St}{Q:VK}
  (hc:Y.calm=true) (hx:Y.xe=λ _ _=>False) (hg:PG Y tg g) (ht:PTs Y ifs tt) (he:PE Y elt te) (T:Turn Y.prog Y.w Y.K tg J fp it tn) (hf:∀ H:Hp,(∀ b∈fp,H b=none)->∀ b∈fp,sF Y [] H b)
  (W:Nat->Nat->List V->Hp->Prop)
  (turn:∀ i m ys H,W i m ys H->(J.stop i H/\Q (.ref D) H)\/(J.go i H/\∃ N:List V->Hp->Prop,(∀ ys' H',N ys' H'->∃ m',m' < m/\W (i+1) m' ys' H') /\
   ∀ x H',J.yld i H x H'->g x (List.replicate k none++σ) H' λ σ2 H2=>(∃ vs:St,vs.length=k/\σ2=vs++σ)/\tt σ2 H2 λ b H3=>if b=true then te σ2 H3 λ y H4=>H4 D=some (.lst ys)/\ys.length < sizeLine/\N (ys++[y]) (upd H4 D (.lst (ys++[y]))) else N ys H3))
  (n:Nat) (s:Shared) (h:∃ i ys H,Inv Y [] (List.replicate k none++σ) H s/\tn i s.heap/\(∀ b∈fp,H b=none)/\W i n ys H) :
  codeAny (model Y.prog Y.w) Y.A (.compLoop (.ListComp elt [⟨tg,iter,ifs,0⟩] scope pos) 0 (.ref it) (.ref D) Y.env) (λ r s'=>r=.ok .next/\∃ H',Inv Y [] (List.replicate k none++σ) H' s'/\Q (.ref D) H') s:=by
 refine codeAny_loop rfl (λ n s=>∃ i ys H,Inv Y [] (List.replicate k none++σ) H s/\tn i s.heap/\(∀ b∈fp,H b=none)/\W i n ys H) ?_ n h;rintro n s3 ⟨i,ys,H3,I3,aS,a3,w3⟩
 show wpAny _ Y.A ((compTurn (.ListComp elt [⟨tg,iter,ifs,0⟩] scope pos) 0 (.ref it) (.ref D) Y.env).onRaise (λ x=>do noteFrame x Y.env;theTreesLotGoes x)) _ _ s3
 refine PySem.wpAny_noted ?_;rw [PySem.compTurn_list]
 have no:∀ {α:Type} {m:Sem α} {P:α->Shared->Prop} {E:Value->Shared->Prop} {s:Shared},wpAny (model Y.prog Y.w) Y.A m P Y.xe s->wpAny (model Y.prog Y.w) Y.A m P E s:=λ {α m P E s} h=>
  Up h (λ _ _ q=>q) λ _ _ q=>by rw [hx] at q;exact q.elim
 refine My (wpAny_standAt (My ?_))
 rcases turn i n ys H3 w3 with ⟨stop,qn⟩|⟨go,N,hN,step⟩
 ·refine thn (T.done Y rfl rfl rfl hc i [] s3 (List.replicate k none++σ) H3 _ I3 (hf H3 a3) aS stop) λ r s4 ⟨hr,I4⟩=>?_;subst hr;exact RI ⟨rfl,H3,I4,qn⟩
 ·refine thn (T.item Y rfl rfl rfl hc i [] s3 (List.replicate k none++σ) H3 _ I3 (hf H3 a3) aS go) λ r s4 ⟨u,hr,h4⟩=>?_;subst hr;refine My (thn h4 λ _ s5 ⟨x,H5,I5,r5,y5,aa,a5⟩=>?_);have a6:=I5.pinned (hf H5 a5) (T.obj _ _ aa);refine My (no (thn (hg _ s5 (List.replicate k none++σ) H5 x u _ a6 r5 (step x H5 y5)) λ _ s6 ⟨σ6,H6,I6,⟨vs,a4,e6⟩,q6⟩=>?_));subst e6
  have forget:∀ {pins:List (Addr × Obj)} {H:Hp} {s:Shared},Inv Y pins (vs++σ) H s->Inv Y pins (List.replicate k none++σ) H s:=λ {pins H s} I=>I.weak (by simp [a4]) λ i v e=>by
   by_cases hi:i < k
   ·rw [SN (by simpa using hi)] at e;simp [TF,hi] at e
   ·rw [Sw (by simpa using Vf hi)] at e;rw [Sw (by omega)]
    simpa [a4] using e
  refine My (no (thn (ht _ s6 (vs++σ) H6 _ I6 q6) λ b s7 ⟨H7,I7,q7⟩=>?_))
  have again:∀ {H8:Hp} {s8:Shared} {ys':List V},Inv Y ([]++p8 fp s5.heap) (vs++σ) H8 s8->N ys' H8->∃ m,m < n/\∃ i ys H,Inv Y [] (List.replicate k none++σ) H s8/\tn i s8.heap/\(∀ b∈fp,H b=none)/\W i m ys H:=λ {H8 s8 ys'} I8 n8=>by
   obtain⟨m',hm,w8⟩:=hN ys' H8 n8;refine⟨m',hm,i+1,ys',H8,forget I8.unpinned,T.keep _ _ _ aa λ b hb o e=>(I8.pin (b,o) (SG _ (SG _ (gw hb e)))).1,λ b hb=>?_,w8⟩;obtain⟨o,e,d⟩:=T.obj _ _ aa b hb;exact(I8.pin (b,o) (SG _ (SG _ (gw hb e)))).2.1
  cases b with
  | false=>
   rw [RQ RM] at q7;exact RI ⟨rfl,again I7 q7⟩
  | true=>
   rw [RX rfl] at q7;refine My (My (no (thn (he _ s7 (vs++σ) H7 _ I7 q7) λ y s8 ⟨y',H8,I8,ry,q8,l8,n8⟩=>?_)));exact My (no (thn (bF _ s8 (vs++σ) H8 (.ref D) [y'] (.ref D) [y] (λ _ H'=>N (ys++[y']) H') I8 rfl (.cons ry .nil) ⟨D,ys,y',rfl,rfl,q8,l8,n8⟩) λ _ s9 ⟨_,H9,I9,_,q9⟩=>RI (RI ⟨rfl,again I9 q9⟩)))
structure lq(X:Cx)(scope:Scope)(N':List Str)(k:Nat):Prop where
 cell:∀ y∈scope.names,y.2 ≠ .cell
 kind:scope.kind=.function
 names:∀ y∈scope.names,y.2=.local->scope.names.lookup y.1=some .local
 free:∀ y∈scope.names,y.2=.free->X.env.scope.names.lookup y.1=some .cell
 len:N'.length=k+X.N.length
 sub:∀ i x,N'[k+i]? = some x->scope.names.lookup x=some .free->X.N[i]? = some x
 loc:∀ i x,N'[k+i]? = some x->scope.names.lookup x ≠ some .local
def lq.cells{scope:Scope}{N':List Str}{k:Nat}{pins:List (Addr × Obj)}{σ:St}{H:Hp}{s:Shared}(c:lq X scope N' k)(I:Inv X pins σ H s):∀ y∈scope.names,y.2=.free->∃ a,X.env.cells.lookup y.1=some a:=λ y hy e=>
 I.ok.has y.1 (.inl (c.free y hy e))
def EV{scope:Scope}{N':List Str}{k:Nat}{pins:List (Addr × Obj)}{σ:St}{H:Hp}{s s₄:Shared}{fp:List Addr}{m:Str->Option Value}(c:lq X scope N' k)(hc:X.calm=true)(I:Inv X pins σ H s)
  (hf:∀ b∈fp,sF X pins H b) (a6:∀ b∈fp,b < s.heap.objs.size) (hb:∀ b∈fp,X.base.get? b=none) (a7:s₄.heap.Ns s.heap.objs.size m) (hk:∀ b o,s.heap.get? b=some o->s₄.heap.get? b=some o) (ho:s₄.os=s.os) (hg:s₄.gens=s.gens) :
  Inv (cCx X scope N' s.heap.objs.size s H fp (X.pn++pins)) [] (List.replicate k none++σ) H s₄:=by
 have a4:=c.cells I
 have sub:∀ x a,(pP X.env.cells scope.names []).lookup x=some a->X.env.cells.lookup x=some a:=λ x a e=>by
  rcases oP a4 e with q|q
  ·simp at q
  ·exact q
 have kinds:∀ x,(compEnvC scope (pP X.env.cells scope.names []) s.heap.objs.size X.env).kindOf x=some .cell\/(compEnvC scope (pP X.env.cells scope.names []) s.heap.objs.size X.env).kindOf x=some .free->scope.names.lookup x=some .free:=λ x hx=>by
  have e:(compEnvC scope (pP X.env.cells scope.names []) s.heap.objs.size X.env).kindOf x=(scope.names.lookup x).map λ k=>if (k == NameKind.free && X.env.scope.kind == .function && X.env.kindOf x == some .cell) then NameKind.cell else k:=eE
  rw [e] at hx
  cases q:scope.names.lookup x with
  | none=>rw [q] at hx;simp at hx
  | some j=>
   rw [q] at hx;have hj:j ≠ .cell:=c.cell (x,j) (gx q)
   cases j<;>simp_all
 have fresh:∀ b,s.heap.objs.size<=b->s.heap.get? b=none:=λ b hb=>Tz hb;have ne:∀ b o,s.heap.get? b=some o->b ≠ s.heap.objs.size:=λ b o e=>RT (RF e)
 have a8:∀ x a,X.env.cells.lookup x=some a->a < s.heap.objs.size:=λ x a e=>by
  obtain⟨v,o,h1,_⟩:=I.cell x a e;exact RF h1
 refine⟨⟨I.ok.mod,c.kind,I.ok.glob,I.ok.blt,RJ _,λ x y a e1 e2=>I.ok.inj x y a (sub x a e1) (sub y a e2),λ x hx=>kU a4 (kinds x hx),(λ _ _ z=>nomatch z),I.ok.hd,I.ok.frames,.inl rfl,λ b a3=>⟨RT (a6 b a3),λ x a e=>(hf b a3).2.2.2.2.1 x a (sub x a e)⟩,
   I.bs,Sj I.ok.bsz I.sz,(λ b o e a3=>by rw [hb b a3] at e;cases e),λ b a3 hz=>?_,I.stack,I.stkFree⟩,ho,by rw [hg];exact I.bare,Un.kept hk,⟨m,a7,λ i x v e1 e2 e3=>?_⟩,λ x a e=>?_,I.hok.fresh (RJ _),λ x a e=>I.freeC x a (sub x a e),λ p hp=>?_,I.hok.kept hk,?_⟩
 ·rcases RZ.mp (I.stkSub b hz) with z|z
  ·exact(hf b a3).2.1 z
  ·exact(hf b a3).2.2.1 z
 ·have hi:k<=i:=by
   refine Vf λ hi=>?_;rw [SN (by simpa using hi)] at e2;simp [TF,hi] at e2
  obtain⟨j,rfl⟩:∃ j,i=k+j:=⟨i - k,by omega⟩;rw [Sw (by simp)] at e2;have a9:σ[j]? = some (some v):=by simpa using e2
  have e:(relabel scope X.env).names.lookup x=(scope.names.lookup x).map λ k=>if (k == NameKind.free && X.env.scope.kind == .function && X.env.kindOf x == some .cell) then NameKind.cell else k:=eE
  have aa:scope.names.lookup x=some .free:=by
   cases q:scope.names.lookup x with
   | none=>
    rcases e3 with z|z|z
    all_goals (have z':(relabel scope X.env).names.lookup x=some _:=z;rw [e,q] at z';simp at z')
   | some j'=>
    have h1:j' ≠ .cell:=c.cell (x,j') (gx q);have h2:j' ≠ .local:=λ z=>c.loc j x e1 (by rw [q,z])
    rcases e3 with z|z|z
    all_goals (have z':(relabel scope X.env).names.lookup x=some _:=z;rw [e,q] at z';cases j'<;>simp_all)
  have hX:=c.sub j x e1 aa;have aS:=c.free (x,.free) (gx aa) rfl;obtain⟨m0,bS,ba⟩:=I.loc;obtain⟨u,r,l⟩:=ba j x v hX a9 (.inr (.inl aS));refine⟨u,r,?_⟩
  rcases l with ⟨z,_⟩|⟨_,a,ea,hz⟩
  ·have z':X.env.scope.names.lookup x=some .local:=z;rw [aS] at z';cases z'
  ·obtain⟨a',a5⟩:=kU (acc:=[]) a4 aa;have e4:=sub x a' a5;rw [ea] at e4;cases e4;refine .inr ⟨.inl ?_,a,a5,?_⟩
   ·show (relabel scope X.env).names.lookup x=some .cell
    rw [e,aa];have k1:(X.env.scope.kind == .function)=true:=by rw [I.ok.kind];rfl
    have k2:(X.env.kindOf x == some .cell)=true:=by
     have:X.env.kindOf x=some .cell:=aS;rw [this];rfl
    simp [k1,k2]
   ·obtain⟨o,h1,h2⟩:=hz;exact⟨o,hk _ _ h1,h2⟩
 ·obtain⟨v,o,h1,h2⟩:=I.cell x a (sub x a e);exact⟨v,o,hk _ _ h1,h2⟩
 ·have bp:p∈X.pn++pins:=by simpa using hp
  obtain⟨e,n,nl,nf,d⟩:=I.pin p bp;refine⟨hk _ _ e,n,ne _ _ e,λ z=>?_,d⟩
  rcases RZ.mp (I.stkSub _ z) with z|z
  ·exact nl z
  ·exact nf z
 ·show (List.replicate k none++σ).length=N'.length
  rw [c.len,R3,Td,I.len]
def nF{elt iter tg:Expr}{ifs:List Expr}{scope:Scope}{pos:Pos}{g:TG}{tt:TT}{te:TE}{N':List Str}{k:Nat}{it:Addr}{J:It}{fp:List Addr}{tn:Nat->Heap->Prop}{pins:List (Addr × Obj)}{σ:St}{H:Hp}{s:Shared}{Q:VK}{RR:Value->Addr->Result->Shared->Prop}{E:Value->Shared->Prop}
  (c:lq X scope N' k) (hc:X.calm=true) (I:Inv X pins σ H s) (T:Turn X.prog X.w X.K tg J fp it tn) (st:tn 0 s.heap) (hf:∀ b∈fp,sF X pins H b)
  (hg:∀ C s₀ H₀ ex pn,PG (cCx X scope N' C s₀ H₀ ex pn) tg g) (ht:∀ C s₀ H₀ ex pn,PTs (cCx X scope N' C s₀ H₀ ex pn) ifs tt) (he:∀ C s₀ H₀ ex pn,PE (cCx X scope N' C s₀ H₀ ex pn) elt te)
  (h:∀ D,H D=none->∃ W:Nat->Nat->List V->Hp->Prop,(∃ m,W 0 m [] (upd H D (.lst [])))/\∀ i m ys H,W i m ys H →
   (J.stop i H/\Q (.ref D) H)\/(J.go i H/\∃ N:List V->Hp->Prop,(∀ ys' H',N ys' H'->∃ m',m' < m/\W (i+1) m' ys' H') /\
    ∀ x H',J.yld i H x H'->g x (List.replicate k none++σ) H' λ σ2 H2=>(∃ vs:St,vs.length=k/\σ2=vs++σ)/\tt σ2 H2 λ b H3=>if b=true then te σ2 H3 λ y H4=>H4 D=some (.lst ys)/\ys.length < sizeLine/\N (ys++[y]) (upd H4 D (.lst (ys++[y]))) else N ys H3))
  (fin:∀ D C s' H' m,s'.heap.Ns C m->C ≠ X.env.locals->(∀ x a,X.env.cells.lookup x=some a->a ≠ C)->(H' C=none/\X.s₀.heap.objs.size<=C/\∀ p∈X.pn++pins,p.1 ≠ C)->(∀ h',Heap.SameBut C s'.heap h'->Inv X pins σ H' { s' with heap:=h' })->Q (.ref D) H'->RR (.ref D) C (.ok .next) s') :
  wpAny (model X.prog X.w) X.A (newList []) (λ acc s₃=>wpAny (model X.prog X.w) X.A (newFunctionEnv scope X.env.globals (pP X.env.cells scope.names []) [] X.env.qual none .none (some X.env)) (λ a3 s₄=>
   codeAny (model X.prog X.w) X.A (.compStart (.ListComp elt [⟨tg,iter,ifs,0⟩] scope pos) 0 (.ref it) acc { a3 with scope:=relabel scope X.env }) (RR acc a3.locals) s₄) E s₃) E s:=by
 refine wpAny_newObj_type (wpAny_newFunctionEnv c.cell (by intro y hy;simp at hy) (λ h₁ aa aS=>?_) c.kind);dsimp only at aa aS ⊢;have I3:Inv X pins σ (upd H s.heap.objs.size (.lst [])) { s with heap:=s.heap.push { cls:=.type "list",data:=.seq ([]:List Value).toArray },toks:=s.toks }:=I.lnew (ys:=[]) (its:=[]) .nil (Nat.zero_le _);generalize hH2:s.heap.push { cls:=.type "list",dict:=none,data:=.seq ([]:List Value).toArray }=hp at aa aS I3 ⊢;have a5:∀ b o,s.heap.get? b=some o->hp.get? b=some o:=λ b o e=>by rw [←hH2];exact Heap.get?_push_of_some _ e
 have a6:H s.heap.objs.size=none:=I.hok.fresh (RJ _);have kp:∀ b o,hp.get? b=some o->h₁.get? b=some o:=λ b o e=>aS.extBut b o (RT (RF e)) (RD _ e)
 have stk:∀ b∈fp,s.heap.get? b ≠ none:=λ b hb z=>by
  obtain⟨o,e,_⟩:=T.obj _ _ st b hb;rw [z] at e;cases e
 have flt:∀ b∈fp,b < s.heap.objs.size:=λ b hb=>by
  obtain⟨o,e,_⟩:=T.obj _ _ st b hb;exact RF e
 have ba:∀ b∈fp,b ≠ s.heap.objs.size:=λ b hb=>RT (flt b hb)
 have a7:∀ b∈fp,sF X pins (upd H s.heap.objs.size (.lst [])) b:=λ b hb=>by
  obtain⟨a1,a2⟩:=hf b hb;exact⟨by rw [ah (ba b hb)];exact a1,a2⟩
 have bp:∀ b∈fp,X.base.get? b=none:=λ b hb=>by
  cases e:X.base.get? b with
  | none=>rfl
  | some o=>
   rcases (hf b hb).2.2.2.1 with z|z
   ·exact absurd z (I.ok.noex b o e)
   ·have:=RF (I.ok.bs b o e).1;exact absurd (RV this z) (SE _)
 have hsz:s.heap.objs.size < hp.objs.size:=by rw [←hH2,Sz];exact Tp _
 have IY:=EV (s₄:={ s with heap:=h₁,toks:=s.toks+([]:List (Str × Value)).length }) (fp:=fp) c hc I3 a7 (λ b hb=>Uh (flt b hb) hsz) bp aa kp rfl rfl;obtain⟨W,⟨m0,w0⟩,turn⟩:=h s.heap.objs.size a6
 have run:=B7 (Y:=cCx X scope N' hp.objs.size { s with heap:=hp,toks:=s.toks } (upd H s.heap.objs.size (.lst [])) fp (X.pn++pins)) (tg:=tg) (elt:=elt) (iter:=iter) (ifs:=ifs) (scope:=scope) (pos:=pos) (it:=it) (D:=s.heap.objs.size) (k:=k) (σ:=σ) (Q:=Q)
  hc rfl (hg _ _ _ _ _) (ht _ _ _ _ _) (he _ _ _ _ _) T (λ H' hn b hb=>⟨hn b hb,RT (Uh (flt b hb) hsz),λ z=>(IY.ok.exfs b hb) z,.inl hb,λ x a e=>(IY.ok.exf b hb).2 x a e,λ p hp=>by
   have a4:p∈X.pn++pins:=by simpa using hp
   exact(hf b hb).2.2.2.2.2 p a4⟩) W turn m0
 have a8:tn 0 h₁:=T.keep _ _ _ st λ b hb o e=>kp b o (a5 b o e);have go:=run { s with heap:=h₁,toks:=s.toks+([]:List (Str × Value)).length } ⟨0,[],_,IY,a8,λ b hb=>(a7 b hb).1,w0⟩
 have out:∀ r s',(r=Except.ok Flow.next/\∃ H',Inv (cCx X scope N' hp.objs.size { s with heap:=hp,toks:=s.toks } (upd H s.heap.objs.size (.lst [])) fp (X.pn++pins)) [] (List.replicate k none++σ) H' s'/\Q (.ref s.heap.objs.size) H')->RR (.ref s.heap.objs.size) hp.objs.size r s':=by
  rintro r s' ⟨rfl,H',J',q⟩;obtain⟨m,hn,_⟩:=J'.loc;have hC:hp.objs.size ≠ X.env.locals:=So (RV I.lt (T4 hsz));refine fin _ _ s' H' m hn hC (λ x a e=>?_) ⟨J'.free,Sj I.sz (T4 hsz),λ p a4=>RT (Uh (RF (I.pin p a4).1) hsz)⟩ (λ h' a9=>?_) q
  ·obtain⟨v,o,h1,_⟩:=I.cell x a e;exact RT (Uh (RF h1) hsz)
  ·refine I.call' (ch:=fp) ?_ ?_ ?_ J'.bare λ b hb=>⟨(hf b hb).2.2.2.1,(hf b hb).2.1,(hf b hb).2.2.2.2.1,(hf b hb).2.2.2.2.2⟩
   ·exact J'.os
   ·have u1:Un (frs X.stack) fp H (upd H s.heap.objs.size (.lst [])) s.heap hp:=Un.laid a5 (RJ _) a6;exact(u1.trans J'.base).but a9 λ b o e=>RT (Uh (RF e) hsz)
   ·exact J'.hok.but J'.free a9
 exact codeAny_compStart_list (TQ go out) (T.self _ 0 _ _ _ a8 (TQ go out))
def Ho{elt iter tg:Expr}{ifs:List Expr}{scope:Scope}{pos:Pos}{wi:TI}{g:TG}{tt:TT}{te:TE}{N':List Str}{k:Nat}
  (c:lq X scope N' k) (hc:X.calm=true) (hi:PI X tg iter wi)
  (hg:∀ C s₀ H₀ ex pn,PG (cCx X scope N' C s₀ H₀ ex pn) tg g) (ht:∀ C s₀ H₀ ex pn,PTs (cCx X scope N' C s₀ H₀ ex pn) ifs tt) (he:∀ C s₀ H₀ ex pn,PE (cCx X scope N' C s₀ H₀ ex pn) elt te)
  (hs:∀ x,foldedSetIterable iter X.env x=pure x:=by intro _;rfl):PE X (.ListComp elt [⟨tg,iter,ifs,0⟩] scope pos) (FV k wi g tt te):=by
 intro pins s σ H Q I h;rw [PySem.eval_ListComp];refine Vb (use:=none) rfl hs (i8 (c.cells I)) c.kind c.names (thn (hi pins s σ H _ I h) λ v s1 h1=>thn h1 λ a3 s2 h2=>?_);obtain⟨it,fp,tn,J,H2,rfl,I2,T,aa,f2,hW⟩:=h2;refine nF (RR:=λ acc C=>PySem.compPost (model X.prog X.w) X.A X.xe none (EP X pins σ Q) acc C) c hc I2 T aa f2 hg ht he hW ?_;intro D C s' H' m hn _ _ _ hI q;exact⟨m,hn,λ h' aS=>⟨.ref D,H',hI h' aS,rfl,q⟩⟩
def J9(i:Nat)(te:TE):TS:=λ D σ H=>te σ H λ x H1=>D.nx (σ.set i (some x)) H1
def zj{elt iter tg:Expr}{ifs:List Expr}{scope:Scope}{pos aa py:Pos}{wi:TI}{g:TG}{tt:TT}{te:TE}{N':List Str}{k i:Nat}{y:Str}
  (hN:X.N.Nodup) (a5:X.N[i]? = some y) (hy:Loc X.env.scope y)
  (c:lq X scope N' k) (hc:X.calm=true) (hi:PI X tg iter wi)
  (hg:∀ C s₀ H₀ ex pn,PG (cCx X scope N' C s₀ H₀ ex pn) tg g) (ht:∀ C s₀ H₀ ex pn,PTs (cCx X scope N' C s₀ H₀ ex pn) ifs tt) (he:∀ C s₀ H₀ ex pn,PE (cCx X scope N' C s₀ H₀ ex pn) elt te)
  (a6:swapsWith (.ListComp elt [⟨tg,iter,ifs,0⟩] scope pos) (some (.Name y py)) aa.line X.env=pure true:=by rfl)
  (hs:∀ x,foldedSetIterable iter X.env x=pure x:=by intro _;rfl) (hf:X.fn y=true\/X.env.scope.names.lookup y=some .local:=by first|exact .inl rfl|exact .inr rfl|assumption) :
  PS X (.Assign [.Name y py] (.ListComp elt [⟨tg,iter,ifs,0⟩] scope pos) aa) (J9 i (FV k wi g tt te)):=by
 intro pins s σ H D I h;rw [PySem.exec_Assign_Name_used _ _ _ _ a6];refine My (wpAny_standAt (My ?_))
 show wpAny _ X.A (do let _ ←comprehension (.ListComp elt [⟨tg,iter,ifs,0⟩] scope pos) scope X.env _ (newList []) false (eval iter X.env) (some (assign (.Name y py) X.env))) _ _ s
 refine My (thn (Vb (use:=some (assign (.Name y py) X.env)) (Q:=λ _ s'=>SP X pins D .next s') rfl hs (i8 (c.cells I)) c.kind c.names (thn (hi pins s σ H _ I h) λ v s1 h1=>thn h1 λ bS s2 h2=>?_)) λ _ s' hq=>RI (RI hq));obtain⟨it,fp,tn,J,H2,rfl,I2,T,a7,f2,hW⟩:=h2;refine nF (Q:=λ x H1=>D.nx (σ.set i (some x)) H1) (RR:=λ acc C=>PySem.compPost (model X.prog X.w) X.A X.xe (some (assign (.Name y py) X.env)) (λ _ s'=>SP X pins D .next s') acc C) c hc I2 T a7 f2 hg ht he hW ?_;intro D' C s' H' m hn a3 a4 aS hI q
 show wpAny _ X.A (assign (.Name y py) X.env (.ref D')) _ _ s'
 have I':Inv X pins σ H' s':=hI s'.heap (Heap.SameBut.refl _ _);refine wpAny_assign_Name (qj I' hN a5 hy (show bD (.ref D') (.ref D') from rfl) (λ a8 a9 ⟨a,sb,ha⟩=>?_) hf)
 have ba:C ≠ a:=by
  rcases ha with rfl|ha
  ·exact a3
  ·exact λ z=>a4 _ _ ha z.symm
 refine⟨m,hn.sameBut sb ba,λ h' bp=>⟨_,H',?_,q⟩⟩;exact a9.turned (t':=a8.toks) (λ b o hb e=>(bp.2 b hb).trans e) aS.1 a3 (.inr aS.2.1) a4 aS.2.2
end
def pZ(h:Heap)(e:Addr)(cls:Value)(d:Option Addr)(T:Addr):Prop:=
 ∃ oe vs oT ts,h.get? e=some oe/\oe.cls=cls/\oe.dict=d/\oe.data=.fields vs/\vs[1]? = some (.ref T)/\T ≠ e/\h.get? T=some oT/\oT.data=.fields ts/\ts[3]? = some .none/\vs[2]? = some .none
def CX1(P:Program)(w:World):CXT:=λ outer H s E ev s'=>∃ e T cls d H',ev=.ref e/\s'.os=s.os/\AllBare s'.gens/\Un (frs outer) [] H H' s.heap s'.heap/\HOk P w H' s'.heap /\
 s.heap.get? e=none/\s.heap.get? T=none/\H' e=none/\H' T=none/\pZ s'.heap e cls d T/\(∀ dx,d=some dx->∃ fs,H' dx=some (.xd fs))/\E cls d H'
def B4(f:Array Value->Array Value)(o:Obj):(Obj.mapFields f o).dict=o.dict:=by
 unfold Obj.mapFields;split<;>rfl
structure yo(fs:List Addr)(e:Addr)(no:Addr->Prop)(h h':Heap):Prop where
 keep:∀ b o,b ≠ e->¬ no b->b ∉ fs->h.get? b=some o->h'.get? b=some o
 slot:∀ b o,b ≠ e->¬ no b->b∈fs->h.get? b=some o->∃ sl,h'.get? b=some { o with slots:=sl }
 size:h.objs.size<=h'.objs.size
section
variable {M:Model}{A:Around}{E:Value->Shared->Prop}{s:Shared}
def FN{base:Heap}{env:Env}{outer:List Env}{L e:Addr}{oe:Obj}{vs:Array Value}{head:Value}{aa:Bool}{Q:Unit->Shared->Prop}
  (a4:A.frames=some (env::outer)) (hl:s.heap.FunFrames base (env::outer)) (hf:env.frame=some L) (he:s.heap.get? e=some oe) (hd:oe.data=.fields vs) (hsz:1 < vs.size) (a5:vs[2]? = some .none)
  (hQ:∀ h',yo (frs (env::outer)) e (λ _=>False) s.heap h'->(∃ T aS a3 oT ts,s.heap.get? T=none/\h'.get? e=some aS/\aS.cls=oe.cls/\aS.dict=oe.dict/\aS.data=.fields a3/\a3[1]? = some (.ref T)/\T ≠ e/\h'.get? T=some oT/\oT.data=.fields ts/\ts[3]? = some (rawInt L)/\a3[2]? = some .none)->Q () { s with heap:=h' }) :
  wpAny M A (do let a ←frameOf env;let pl ←entryPlaceOf L aa;let b ←EntryCells.newEntry head a .none (rawInt L) .none pl;setField (.ref e) 1 b) Q E s:=by
 have a6:e ∉ frs (env::outer):=λ z=>by
  obtain⟨_,o,q1,q2⟩:=hl.mem z;rw [he] at q1;cases q1;exact q2 vs hd
 refine wpAny_bind (wpAny_frameOf_fun a4 hl hf λ g1 sg=>?_);refine wpAny_bind (wpAny_entryPlaceOf λ pl a7=>?_);unfold EntryCells.newEntry newFields;refine wpAny_bind (wpAny_newObj_type ?_ (a7.sizeOk5 _ _ _ _ _));have e1:g1.get? e=some oe:=(sg.2.1 e a6).trans he;generalize hnew:({ cls:=.type "traceback",dict:=none,data:=.fields ([head,.ref L,.none,rawInt L,.none]++(if pl.isEmpty then List.replicate 6 Value.none else pl)).toArray }:Obj)=oN;have dN:oN.data=.fields ([head,.ref L,.none,rawInt L,.none]++(if pl.isEmpty then List.replicate 6 Value.none else pl)).toArray:=by rw [←hnew]
 have e2:(g1.push oN).get? e=some oe:=RD _ e1;refine Uc e2 hd hsz (hQ _ ?_ ?_)
 ·have other:∀ b o,b ≠ e->g1.get? b=some o->((g1.push oN).update e (Obj.mapFields (·.setIfInBounds 1 (Value.ref g1.objs.size)))).get? b=some o:=λ b o hb q=>by
   rw [Sd _ _ (RO hb)];exact RD _ q
  refine⟨λ b o hb _ a8 q=>other b o hb ((sg.2.1 b a8).trans q),λ b o hb _ _ q=>?_,?_⟩
  ·obtain⟨sl,q'⟩:=sg.2.2 b o q;exact⟨sl,other b _ hb q'⟩
  ·have z1:g1.objs.size=s.heap.objs.size:=sg.1;have z2:=((TN (g1.push oN) e (Obj.mapFields (·.setIfInBounds 1 (Value.ref g1.objs.size))))).1;rw [z2,Sz];omega
 ·have ne:g1.objs.size ≠ e:=So (RF e1);have d3:=Tg hd (·.setIfInBounds 1 (Value.ref g1.objs.size));refine⟨g1.objs.size,_,_,oN,_,?_,R8 _ e2 (S3 d3),Obj.cls_mapFields _ _,B4 _ _,d3,by simp [hsz],ne,?_,dN,by simp,by rw [U9 (by decide)];exact a5⟩
  ·have z1:g1.objs.size=s.heap.objs.size:=sg.1;rw [z1];exact Tz (RJ _)
  ·rw [Sd _ _ (RO ne)];exact RK _ (S3 dN)
def zH{e T:Addr}{oe oT:Obj}{vs ts:Array Value}{Q:Unit->Shared->Prop}(he:s.heap.get? e=some oe)(hd:oe.data=.fields vs)(h1:vs[1]? = some (.ref T))(hT:s.heap.get? T=some oT)(aa:oT.data=.fields ts)(h3:3 < ts.size)(ne:T ≠ e)(aS:vs[2]? = some .none)
  (hQ:∀ h',(∀ b,b ≠ T->h'.get? b=s.heap.get? b)->h'.objs.size=s.heap.objs.size->pZ h' e oe.cls oe.dict T->Q () { s with heap:=h' }):wpAny M A (setFlight (.ref e) none) Q E s:=by
 unfold setFlight;refine wpAny_bind (wpAny_field he hd h1 ?_);rw [if_pos (show (Value.ref T != Value.none)=true from by simp)];have sb:=Heap.SameBut.update s.heap T (Obj.mapFields (·.setIfInBounds 3 ((none:Option Addr).elim Value.none λ f=>rawInt f)));refine wpAny_setField hT aa h3 (hQ _ sb.2 sb.1 ?_);have d3:=Obj.data_mapFields aa (·.setIfInBounds 3 ((none:Option Addr).elim Value.none λ f=>rawInt f));exact⟨oe,vs,_,_,(sb.2 e (Ne.symm ne)).trans he,rfl,rfl,hd,h1,ne,Heap.get?_update_self _ hT (Obj.isFreed_of_fields d3),d3,by simp [h3],aS⟩
def D4{base:Heap}{env:Env}{outer:List Env}{L e:Addr}{oe:Obj}{vs:Array Value}{Q:Unit->Shared->Prop}
  (aS:A.frames=some (env::outer)) (hl:s.heap.FunFrames base (env::outer)) (hf:env.frame=some L) (he:s.heap.get? e=some oe) (hd:oe.data=.fields vs) (h1:vs[1]? = some .none) (a3:vs[2]? = some .none)
  (hQ:∀ h' T,yo (frs (env::outer)) e (λ _=>False) s.heap h'->s.heap.get? T=none->pZ h' e oe.cls oe.dict T->Q () { s with heap:=h' }) :
  wpAny M A (noteFrame (.ref e) env) (λ _ s2=>wpAny M A (setFlight (.ref e) none) Q E s2) E s:=by
 unfold noteFrame;simp only [hf];refine wpAny_bind (wpAny_field he hd h1 ?_);rw [if_neg (by decide)];refine FN aS hl hf he hd (Array.getElem?_eq_some_iff.mp h1).1 a3 λ g ng hx=>?_;obtain⟨T,a5,a6,oT,ts,nT,q1,q2,a4,q3,q4,ne,q5,q6,q7,q8⟩:=hx;refine zH (s:={ s with heap:=g }) q1 q3 q4 q5 q6 (Array.getElem?_eq_some_iff.mp q7).1 ne q8 λ g' sb sz ex=>?_;rw [q2,a4] at ex;have lt:∀ b o,s.heap.get? b=some o->b ≠ T:=λ b o q z=>by rw [z,nT] at q;cases q
 exact hQ g' T ⟨λ b o hb hn aa q=>(sb b (lt b o q)).trans (ng.keep b o hb hn aa q),λ b o hb hn aa q=>by
  obtain⟨sl,q'⟩:=ng.slot b o hb hn aa q;exact⟨sl,(sb b (lt b o q)).trans q'⟩,Sj ng.size (Ui sz.symm)⟩ nT ex
def AG{base:Heap}{env:Env}{outer:List Env}{L e T:Addr}{cls:Value}{dd:Option Addr}{Q:Unit->Shared->Prop}
  (a6:A.frames=some (env::outer)) (hl:s.heap.FunFrames base (env::outer)) (hf:env.frame=some L) (hx:pZ s.heap e cls dd T) (bp:e ∉ frs (env::outer)) (bS:T ∉ frs (env::outer)) (hb:base.get? T=none)
  (hQ:∀ h' T',yo (frs (env::outer)) e (λ b=>b=T) s.heap h'->s.heap.get? T'=none->pZ h' e cls dd T'->Q () { s with heap:=h' }) :
  wpAny M A (noteFrame (.ref e) env) (λ _ s2=>wpAny M A (setFlight (.ref e) none) Q E s2) E s:=by
 obtain⟨oe,vs,oT,ts,he,rfl,rfl,hd,h1,ne,hT,aS,h3,a7⟩:=hx;unfold noteFrame;simp only [hf];refine wpAny_bind (wpAny_field he hd h1 ?_);rw [if_pos (show (Value.ref T != Value.none)=true from by simp)];refine wpAny_bind (wpAny_field hT aS h3 ?_);rw [if_neg (show ¬ ((Value.none == rawInt L)=true) from by simp [rawInt])];have aa:=Heap.SameBut.update s.heap T (Obj.mapFields (·.setIfInBounds 3 Value.none));refine wpAny_bind (wpAny_setField hT aS (Array.getElem?_eq_some_iff.mp h3).1 ?_);generalize hg0:s.heap.update T (Obj.mapFields (·.setIfInBounds 3 Value.none))=g0 at aa;have fl:g0.FunFrames base (env::outer):=hl.of_keeps λ b o q a8=>⟨o,(aa.2 b (λ z=>by rw [z,hT] at q;cases q;exact a8 ts aS)).trans q,rfl⟩;have a9:g0.get? e=some oe:=(aa.2 e (Ne.symm ne)).trans he;refine FN (s:={ s with heap:=g0 }) a6 fl hf a9 hd (Array.getElem?_eq_some_iff.mp h1).1 a7 λ g ng hx=>?_;obtain⟨T',b1,b2,b3,b4,nT,q1,q2,ba,q3,q4,ne',q5,q6,q7,q8⟩:=hx;refine zH (s:={ s with heap:=g }) q1 q3 q4 q5 q6 (Array.getElem?_eq_some_iff.mp q7).1 ne' q8 λ g' sb sz ex=>?_;rw [q2,ba] at ex
 have tT:T ≠ T':=λ z=>by
  subst z;have:=R8 (Obj.mapFields (·.setIfInBounds 3 Value.none)) hT (S3 (Tg aS _));rw [hg0] at this;have a4:g0.get? T=none:=nT;rw [this] at a4;cases a4
 have a5:s.heap.get? T'=none:=(aa.2 T' (RO tT)).symm.trans nT;have lt:∀ b o,s.heap.get? b=some o->b ≠ T':=λ b o q z=>by rw [z,a5] at q;cases q
 exact hQ g' T' ⟨λ b o hb hn a3 q=>(sb b (lt b o q)).trans (ng.keep b o hb (λ z=>z) a3 ((aa.2 b hn).trans q)),λ b o hb hn a3 q=>by
  obtain⟨sl,q'⟩:=ng.slot b o hb (λ z=>z) a3 ((aa.2 b hn).trans q);exact⟨sl,(sb b (lt b o q)).trans q'⟩,Sj (Ui aa.1.symm) (Sj ng.size (Ui sz.symm))⟩ a5 ex
end
def HOk.noted{P:Program}{w:World}{H:Hp}{h h':Heap}{fs:List Addr}{e:Addr}{no:Addr->Prop}(ok:HOk P w H h)(n:yo fs e no h h')(he:H e=none)(hn:∀ b,no b->H b=none)(hf:∀ b∈fs,H b=none):HOk P w H h':=λ b ob q=>by
 refine(ok b ob q).stay (λ c v hc r=>n.keep c v ?_ ?_ ?_ r) (λ _ z=>z) λ _ _ z=>z
 all_goals
  rcases hc with z|z
  all_goals intro k
 ·rw [←z,k,he] at q;cases q
 ·rw [k,he] at z;cases z
 ·rw [←z,hn _ k] at q;cases q
 ·rw [hn _ k] at z;cases z
 ·rw [←z,hf _ k] at q;cases q
 ·rw [hf _ k] at z;cases z
def Un.noted{fs fs':List Addr}{H H':Hp}{h h1 h2:Heap}{e:Addr}{no:Addr->Prop}(u:Un fs [] H H' h h1)(n:yo fs' e no h1 h2)(he:h.get? e=none)(hn:∀ b,no b->h.get? b=none)(hs:∀ b∈fs',b∈fs\/h.get? b=none):Un fs [] H H' h h2:=by
 have ne:∀ b o,h.get? b=some o->b ≠ e/\¬ no b:=λ b o q=>⟨λ z=>(by rw [z,he] at q;cases q),λ z=>(by rw [hn b z] at q;cases q)⟩
 have nf:∀ b o,h.get? b=some o->b ∉ fs->b ∉ fs':=λ b o q hb z=>by
  rcases hs b z with k|k
  ·exact hb k
  ·rw [k] at q;cases q
 refine⟨λ b o q a hb hx=>n.keep b o (ne b o q).1 (ne b o q).2 (nf b o q hb) (u.keep b o q a hb hx),λ b o q a hb hx=>?_,u.free,λ b o q hx=>?_,u.tups,u.frzs,u.tbls⟩
 ·obtain⟨sl,r⟩:=u.slot b o q a hb hx
  by_cases hb':b∈fs'
  ·obtain⟨aa,r'⟩:=n.slot b _ (ne b o q).1 (ne b o q).2 hb' r;exact⟨aa,r'⟩
  ·exact⟨sl,n.keep b _ (ne b o q).1 (ne b o q).2 hb' r⟩
 ·obtain⟨o',r⟩:=u.there b o q hx
  by_cases hb':b∈fs'
  ·obtain⟨aa,r'⟩:=n.slot b _ (ne b o q).1 (ne b o q).2 hb' r;exact⟨_,r'⟩
  ·exact⟨_,n.keep b _ (ne b o q).1 (ne b o q).2 hb' r⟩
def yZ(CX:CXT)(X:Cx)(E:XK)(σ:St):Prop:=∀ (pins:List (Addr × Obj)) (H:Hp) (s:Shared) (e:Value) (s':Shared),Inv X pins σ H s->CX X.stack H s E e s'->X.xe e s'
def vX(X:Cx)(E:XK)(σ:St):Prop:=∀ (pins:List (Addr × Obj)) (H:Hp) (s:Shared) (h':Heap) (e:Addr) (C:Addr) (us:List Value),Inv X pins σ H s->Heap.MadeExcOf s.heap h' e (.ref C) us->E (.ref C) none H->X.xe (.ref e) { s with heap:=h' }
def bw.there{P:Program}{w:World}{H:Hp}{h:Heap}{a:Addr}{o:HO}(x:bw P w H h a o):∃ ob,h.get? a=some ob:=by
 cases o with
 | lst xs=>obtain⟨_,_,_,_,e⟩:=x;exact⟨_,e⟩
 | tup xs=>obtain⟨_,_,_,ob,e,_⟩:=x;exact⟨ob,e⟩
 | dK kvs=>obtain⟨_,_,_,_,ob,_,_,e,_⟩:=x;exact⟨ob,e⟩
 | dT kvs=>obtain⟨_,_,_,_,ob,_,_,e,_⟩:=x;exact⟨ob,e⟩
 | set S n=>obtain⟨ob,_,_,_,e,_⟩:=x;exact⟨ob,e⟩
 | ins C dx fs=>obtain⟨_,_,_,e,_⟩:=x;exact⟨_,e⟩
 | own y=>exact x
 | xd fs=>obtain⟨_,⟨ob,_,_,e,_⟩,_⟩:=x;exact⟨ob,e⟩
 | rng lo hi=>obtain⟨_,_,_,e⟩:=x;exact⟨_,e⟩
 | frz ob u=>exact⟨_,x.1⟩
 | tbl ps=>exact⟨_,x⟩
 | met f y=>exact⟨_,x⟩
 | ext φ=>exact x.2.1
def HOk.gone{P:Program}{w:World}{H:Hp}{h:Heap}{a:Addr}(ok:HOk P w H h)(e:h.get? a=none):H a=none:=by
 cases q:H a with
 | none=>rfl
 | some o=>
  obtain⟨ob,z⟩:=(ok a o q).there;rw [e] at z;cases z
def Un.gone{fs:List Addr}{H H':Hp}{h h1:Heap}{a:Addr}(u:Un fs [] H H' h h1)(e:h1.get? a=none):h.get? a=none:=by
 cases q:h.get? a with
 | none=>rfl
 | some o=>
  obtain⟨o',z⟩:=u.there a o q (by simp);rw [e] at z;cases z
def wO{P:Program}{w:World}{K:W.Frag}{mg:Str->Option Value}{base:Heap}{N:List Str}{qual:Str}{scope:Scope}{f:Addr}{cd:Value}{A:Around}{outer:List Env}{s₀:Shared}{H₀:Hp}{E:XK}{σ:St} :
  vX (CH (CX1 P w) P w K mg base N qual scope f cd A outer s₀ H₀ E) E σ:=by
 intro pins H s h' e C us I hm hE;obtain⟨t,he,_,_⟩:=hm.there
 show wpAny (model P w) (A.deeper (envOfC qual scope s₀.heap.objs.size f cd)) (leaving (envOfC qual scope s₀.heap.objs.size f cd) (.ref e)) _ _ _
 unfold leaving;have un:Un (frs outer) [] H₀ H s₀.heap s.heap:=I.base;have fl:h'.FunFrames base (envOfC qual scope s₀.heap.objs.size f cd::outer):=I.stack.of_keeps λ b o q _=>⟨o,hm.keeps b o q,rfl⟩;refine wpAny_bind (D4 (s:={ s with heap:=h' }) (base:=base) (outer:=outer) I.ok.frames fl rfl he rfl rfl rfl λ g T ng nT ex=>?_)
 have aa:s.heap.get? T=none:=by
  cases q:s.heap.get? T with
  | none=>rfl
  | some o=>
   have z:=hm.keeps T o q;have aS:h'.get? T=none:=nT;rw [aS] at z;cases z
 have u2:Un (frs outer) [] H₀ H s₀.heap h':=un.trans (Un.kept hm.keeps);refine⟨e,T,.ref C,none,H,rfl,I.os,I.bare,u2.noted ng (un.gone hm.new) (λ _ z=>z.elim) (λ b hb=>?_),(I.hok.kept hm.keeps).noted ng (I.hok.gone hm.new) (λ _ z=>z.elim) I.stkFree,un.gone hm.new,un.gone aa,I.hok.gone hm.new,I.hok.gone aa,ex,(λ _ z=>nomatch z),hE⟩
 rcases RZ.mp (I.stkSub b hb) with z|z
 ·exact .inr (by rw [z];exact Tz (RJ _))
 ·exact .inl z
section
variable {X:Cx}
set_option genInjectivity false in
structure Rv where
 nm:Str
 q:Str
 N:Addr
 bs:List Value
 bm:List Value
 hdct:Bool
 sn:List Str
 sub:List Value
 ab:Bool
 col:Option Bool
 dd:Option Addr
 k0:Option Value
 k1:Option Value
 k2:Option Value
 k3:Option Value
 k5:Option Value
def yQ(K:W.Frag)(C:Addr)(z:Option Value)(bmB:List Value)(newId:String):Bool:=match K.lookup C with
 | some ⟨.type "type",_,.cls dat,slt⟩=>(match dat.mro,slt.toList with
  | .ref C'::up,[_,_,_,_,some (.builtin n),_]=>C' == C && n == newId && !dat.hasDel && W.tailIn K bmB up && W.nsOkIn K dat.ns && W.nsIn K dat.ns "__init__" == some z
  | _,_=>false)
 | _=>false
def Nv{K:W.Frag}{C:Addr}{z:Option Value}(q0:yQ K C z [.type "ValueError",.type "Exception",.type "BaseException",.type "object"] "ValueError.__new__"=true) :
  ∃ c:Rv,K.lookup C=some (excClassObj c.nm c.q C c.N c.bs c.bm c.hdct c.sn c.sub c.ab c.col c.dd c.k0 c.k1 c.k2 c.k3 c.k5 "ValueError.__new__")/\W.tailIn K [.type "ValueError",.type "Exception",.type "BaseException",.type "object"] c.bm=true/\W.nsOkIn K c.N=true/\W.nsIn K c.N "__init__"=some z:=by
 unfold yQ at q0;split at q0
 ·rename_i a8 a4 aa a3;split at q0
  ·rename_i b1 a9 g0 g1 g2 g3 nw g5 em ba
   simp only [S9,Ut,Bool.not_eq_true'] at q0<;>skip
   obtain⟨⟨⟨⟨⟨rfl,rfl⟩,aS⟩,tok⟩,a5⟩,a6⟩:=q0;obtain⟨c1,c2,c3,c4,c5,c6,c7,c8,c9,bp,b2⟩:=a4;dsimp only at em aS a5 a6;subst em aS;obtain⟨a7⟩:=aa;have bS:a7=[g0,g1,g2,g3,some (.builtin "ValueError.__new__"),g5]:=ba;subst bS;exact⟨⟨c1,c5,c4,c2,a9,c6,c7,c8,c9,bp,a8,g0,g1,g2,g3,g5⟩,a3,tok,a5,a6⟩
  ·cases q0
 ·cases q0
structure Rr(K:W.Frag)(C:Addr):Prop where
 ex:W.excIn K C [.type "ValueError",.type "Exception",.type "BaseException",.type "object"] "ValueError.__new__"=true
def Fw(C:Addr)(E:St->XK)(t:TA):TS:=λ _ σ H=>t σ H λ vs H1=>vs.length<=sizeLine/\E σ (.ref C) none H1
def DJ{C:Addr}{x:Str}{e₀:Expr}{km:List Expr}{np cpos pos:Pos}{t:TA}{E:St->XK}(hc:X.calm=true)(hg:Gl X x)(a4:X.mg x=some (.ref C))(O:Rr X.K C)(hx:∀ σ,vX X (E σ) σ)(ha:PA X (e₀::km) t)
  (he:starEach (e₀::km) X.env=(false,eval e₀ X.env)::starEach km X.env:=by rfl) (aa:(backTo cpos (starEach km X.env)).any (·.1)=false:=by rfl) (a5:(x == ("__debug__":Str))=false:=by decide) :
  PS X (.Raise (some (.Call (.Name x np) (e₀::km) [] cpos)) none pos) (Fw C E t):=by
 intro pins s σ H D I h;obtain⟨c,aS,tok,a3,a6⟩:=Nv (z:=none) O.ex;have a7:X.base.Ns c.N (X.base.nsMap c.N):=.of_isNs (W.isNs_of_in I.mod.kin a3)
 refine PySem.wpAny_Raise_call_subU (C:=C) (nm:=c.nm) (q:=c.q) (N:=c.N) (bs:=c.bs) (bm:=c.bm) (hdct:=c.hdct) (sn:=c.sn) (sub:=c.sub) (ab:=c.ab) (col:=c.col) (dd:=c.dd) (k0:=c.k0) (k1:=c.k1) (k2:=c.k2) (k3:=c.k3) (k5:=c.k5)
  PySem.F.excBase_ValueError (by decide +kernel) PySem.F.excBase_ValueError (mN:=X.base.nsMap c.N) ((W.tail_of_in I.kIn tok).hasType (by decide +kernel)) (I.ok.hd hc) (by rw [he];exact(Bool.false_or _).trans aa) (W.nsMap_none_of_in I.mod.kin a3 a6) (gP I hg a4 ⟨rfl,?_⟩ a5)
 have hh:=ha cpos pins s σ H _ I h;rw [he] at hh ⊢;exact Calls.evalArgs_plain (thn hh λ us s2 ⟨vs,H2,I2,r,hl,hE⟩=>⟨rfl,by rw [←r.length];exact hl,I2.kIn _ _ aS,a7.keeps I2.bk,W.tail_of_in I2.kIn tok,λ h' e hm=>hx σ pins H2 s2 h' e C us I2 hm hE⟩)
abbrev Cx.mark(X:Cx)(e:Addr):Cx:={ X with A:=X.A.mark (some (.ref e)),calm:=false,xe:=λ _ _=>False }
def Inv.mark{pins:List (Addr × Obj)}{σ:St}{H:Hp}{s:Shared}(I:Inv X pins σ H s)(e:Addr):Inv (X.mark e) pins σ H s:=
 ⟨⟨I.ok.mod,I.ok.kind,I.ok.glob,I.ok.blt,I.ok.above,I.ok.inj,I.ok.has,I.ok.cab,(λ z=>by cases z),I.ok.frames,I.ok.stk,I.ok.exf,I.ok.bs,I.ok.bsz,I.ok.noex,I.ok.exfs,I.ok.funs,I.ok.frf⟩,I.os,I.bare,I.base,I.loc,I.cell,I.free,I.freeC,I.pin,I.hok,I.len⟩
def Inv.unmark{pins:List (Addr × Obj)}{σ:St}{H:Hp}{s:Shared}{e:Addr}(ok:X.Ok)(I:Inv (X.mark e) pins σ H s):Inv X pins σ H s:=
 ⟨ok,I.os,I.bare,I.base,I.loc,I.cell,I.free,I.freeC,I.pin,I.hok,I.len⟩
end
structure J6(K:W.Frag)(x qual:Str)(st:Stmt)(f:Addr)(fd:FuncData):Prop where
 ex:∃ (oc:Value) (od:Option Addr) (dV kV doc pm:Value) (an:Option Addr) (cdv ct:Value) (osl:Array (Option Value)),
  fd=W.fnOf x qual (eo st) (cL st) (ae st) dV kV doc pm an cdv ct/\K.lookup f=some ⟨oc,od,.func fd,osl⟩/\W.codeIn K cdv qual=true
 kp:W.keepIn K (.ref f)=true
section
variable {P:Program}{w:World}{K:PySem.W.Frag}{mg:Str->Option Value}{base:Heap}
def J6.ok{CX:CXT}{x qual:Str}{st:Stmt}{f:Addr}{fd:FuncData}{N ps:List Str}{k:Nat}{sp:Sp}(F:J6 K x qual st f fd)(S:ag N ps (ae st))(len:∀ vs H Q E,sp vs H Q E->vs.length=ps.length)
  (aa:∀ (cdv:Value) (A:Around) (outer:List Env) (s:Shared) (H:Hp) (vs:List V) (Q:VK) (E:XK),iA k (A.deeper (envOfC qual (ae st) s.heap.objs.size f cdv))->sp vs H Q E →
   ∃ t,PSs (CH CX P w K mg base N qual (ae st) f cdv A outer s H E) (cL st) t/\t { nx:=λ _ H'=>Q .non H',rt:=Q } (au N vs) H):aH P w K mg base CX (k+1) f fd ps sp:=by
 obtain⟨oc,od,dV,kV,doc,pm,an,cdv,ct,osl,rfl,lk,aS⟩:=F.ex;exact KP lk aS S len λ A outer s H vs Q E hr a3=>aa cdv A outer s H vs Q E hr a3
def Jy{x qual:Str}{st:Stmt}{f:Addr}{oc:Value}{od an:Option Addr}{osl:Array (Option Value)}{dV kV doc pm cdv ct:Value}(l:K.lookup f=some ⟨oc,od,.func (W.fnOf x qual (eo st) (cL st) (ae st) dV kV doc pm an cdv ct),osl⟩)
  (c:W.codeIn K cdv qual=true) (k:W.keepIn K (.ref f)=true):J6 K x qual st f (W.fnOf x qual (eo st) (cL st) (ae st) dV kV doc pm an cdv ct):=⟨⟨oc,od,dV,kV,doc,pm,an,cdv,ct,osl,rfl,l,c⟩,k⟩
end
open PySem.W
section
variable {prog:Program}{w:World}{A:Around}{E:Value->Shared->Prop}{s:Shared}{K:PySem.W.Frag}{x C:Addr}{ox:Obj}{od:Option Obj}{name:Str}
end
structure pY(X:Cx)(pins:List (Addr × Obj))(e:Addr):Prop where
 s0:X.s₀.heap.get? e=none
 loc:e ≠ X.env.locals
 cel:∀ x c,X.env.cells.lookup x=some c->c ≠ e
 fs:e ∉ X.fs
 pin:∀ p∈X.pn++pins,p.1 ≠ e
section
variable {X:Cx}
def pY.of{pins:List (Addr × Obj)}{σ:St}{H:Hp}{s:Shared}{e:Addr}(I:Inv X pins σ H s)(hx:X.ex=[])(h:s.heap.get? e=none):pY X pins e where
 s0:=by
  cases q:X.s₀.heap.get? e with
  | none=>rfl
  | some o=>
   obtain⟨o',z⟩:=I.base.there e o q (by rw [hx];simp);rw [h] at z;cases z
 loc:=λ z=>by
  obtain⟨m,⟨o,_,_,q,_⟩,_⟩:=I.loc;rw [←z,h] at q;cases q
 cel:=λ x c q z=>by
  obtain⟨v,o,r,_⟩:=I.cell x c q;rw [z,h] at r;cases r
 fs:=λ z=>by
  obtain⟨_,o,q,_⟩:=I.funs.mem z;rw [h] at q;cases q
 pin:=λ p hp z=>by
  have q:=(I.pin p hp).1;rw [z,h] at q;cases q
def PHs(X:Cx)(hs:List ExceptHandler)(th:Value->Option Addr->TS):Prop:=
 ∀ (pins:List (Addr × Obj)) (s:Shared) (σ:St) (H:Hp) (D:kI) (e T:Addr) (cls:Value) (d:Option Addr),Inv X pins σ H s->pY X pins e->H e=none->pZ s.heap e cls d T->th cls d D σ H->wpAny (model X.prog X.w) X.A (handleBy (.ref e) X.env hs) (SP X pins D) X.xe s
def JA{M:Model}{A:Around}{E:Value->Shared->Prop}{s:Shared}{e T:Addr}{cls:Value}{d:Option Addr}{Q:Unit->Shared->Prop}(x:pZ s.heap e cls d T)(hQ:∀ h',(∀ b o,s.heap.get? b=some o->h'.get? b=some o)->Q () { s with heap:=h' }) :
  wpAny M A (setFlight (.ref e) none) Q E s:=by
 obtain⟨oe,vs,oT,ts,he,rfl,rfl,hd,h1,ne,hT,aa,h3,a3⟩:=x;unfold setFlight;refine wpAny_bind (wpAny_field he hd h1 ?_);rw [if_pos (show (Value.ref T != Value.none)=true from by simp)];refine wpAny_setField hT aa (Array.getElem?_eq_some_iff.mp h3).1 (hQ _ λ b o q=>?_)
 by_cases hb:b=T
 ·subst hb;rw [hT] at q;cases q
  have same:Obj.mapFields (·.setIfInBounds 3 ((none:Option Addr).elim Value.none λ f=>rawInt f)) oT=oT:=by
   obtain⟨c,d,dat,sl⟩:=oT;cases aa
   have e3:ts.setIfInBounds 3 ((none:Option Addr).elim Value.none λ f=>rawInt f)=ts:=by
    apply Array.ext_getElem?;intro i
    by_cases hi:i=3
    ·subst hi;obtain⟨aS,hv⟩:=Sy.mp h3;simp [Array.getElem?_setIfInBounds,aS,hv]
    ·rw [U9 (RO hi)]
   show (⟨c,d,.fields (ts.setIfInBounds 3 ((none:Option Addr).elim Value.none λ f=>rawInt f)),sl⟩:Obj)=_
   rw [e3]
  have:=R8 (Obj.mapFields (·.setIfInBounds 3 ((none:Option Addr).elim Value.none λ f=>rawInt f))) hT (S3 (Tg aa _));rw [same] at this;exact this
 ·rw [Sd _ _ (RO hb)];exact q
def Ql(K:W.Frag)(C:Value)(tb:TS)(tr:Value->Option Addr->TS):Value->Option Addr->TS:=λ cls d D σ H=>∃ b,W.exmOne K cls C=some b/\if b=true then tb D σ H else tr cls d D σ H
def OS:Value->Option Addr->TS:=λ _ _ _ _ _=>False
def Hh:PHs X [] OS:=λ _ _ _ _ _ _ _ _ _ _ _ _ _ h=>h.elim
def SP.unmark{pins:List (Addr × Obj)}{D:kI}{f:Flow}{s2:Shared}{e:Addr}(ok:X.Ok)(q:SP (X.mark e) pins D f s2):SP X pins D f s2:=by
 cases f with
 | next=>obtain⟨σ',H',J,q⟩:=q;exact⟨σ',H',J.unmark ok,q⟩
 | brk=>obtain⟨σ',H',J,q⟩:=q;exact⟨σ',H',J.unmark ok,q⟩
 | cont=>obtain⟨σ',H',J,q⟩:=q;exact⟨σ',H',J.unmark ok,q⟩
 | ret u=>obtain⟨v,σ',H',J,r,q⟩:=q;exact⟨v,σ',H',J.unmark ok,r,q⟩
def Nt{M:Model}{h:Heap}{e T:Addr}{cls:Value}{d:Option Addr}(ex:pZ h e cls d T):W.Looks M h (typeOf (.ref e)) cls:=by
 obtain⟨oe,vs,oT,ts,he,rfl,_⟩:=ex;exact(W.Looks.ld he).andThen .now
def DN{x:Str}{np pos:Pos}{b₀:Stmt}{body:List Stmt}{km:List ExceptHandler}{C:Value}{tb:TS}{tr:Value->Option Addr->TS}(hg:Gl X x)(hm:X.mg x=some C\/(X.mg x=none/\bootBuiltins x=some C/\x ≠ "__name__"))(hb:∀ e,PSs (X.mark e) (b₀::body) tb)(hr:PHs X km tr)
  (aa:(x == ("__debug__":Str))=false:=by decide):PHs X (.ExceptHandler (some (.Name x np)) none (b₀::body) pos::km) (Ql X.K C tb tr):=by
 intro pins s σ H D e T cls d I N hn ex h;obtain⟨b,hx,h⟩:=h;have Im:=I.mark e
 have ld:∀ {Q:Value->Shared->Prop} {E:Value->Shared->Prop},Q C s->wpAny (model X.prog X.w) (X.A.mark (some (.ref e))) (eval (.Name x np) X.env) Q E s:=λ {Q E} q=>by
  rcases hm with z|⟨z1,z2,z3⟩
  ·exact gP (X:=X.mark e) Im hg z q aa
  ·exact fB (X:=X.mark e) Im hg z1 z2 q z3 aa
 refine PySem.wpAny_handleBy_cons (PySem.codeAny_handlers_test (ld ((W.exm_one I.kIn (Nt ex) hx).here ?_))) (by intro q;cases q)
 cases b with
 | false=>
  rw [RQ RM] at h;exact hr pins s σ H D e T cls d I N hn ex h
 | true=>
  rw [RX rfl] at h;refine PySem.codeAny_handlers_suite (JA ex λ h' kp=>?_);have I':Inv (X.mark e) pins σ H { s with heap:=h' }:=Im.kept (t':=s.toks) kp;exact Up (hb e pins _ σ H D I' h) (λ f s2 q=>SP.unmark I.ok q) λ _ _ z=>z.elim
def Qf(tb:(St->XK)->TS)(th:Value->Option Addr->TS):TS:=λ D σ H=>tb (λ σ' cls d H'=>th cls d D σ' H') D σ H
abbrev Cx.tried(X:Cx)(E:Value->Shared->Prop)(pn:List (Addr × Obj)):Cx:={ X with xe:=E,pn:=pn }
def Le{body:List Stmt}{h₀:ExceptHandler}{hs:List ExceptHandler}{pos:Pos}{tb:(St->XK)->TS}{th:Value->Option Addr->TS}(aa:X.stack=X.env::X.outer/\X.env.frame=some X.env.locals/\X.ex=[])
  (hb:∀ (EX:St->XK) (E:Value->Shared->Prop) (pn:List (Addr × Obj)),(∀ σ,yZ (CX1 X.prog X.w) (X.tried E pn) (EX σ) σ)->PSs (X.tried E pn) body (tb EX)) (hh:PHs X (h₀::hs) th) :
  PS X (.Try body (h₀::hs) [] [] pos) (Qf tb th):=by
 intro pins s σ H D I h;refine PySem.wpAny_Try_except ?_;have a4:∀ E pn,(X.tried E pn).Ok:=λ E pn=>⟨I.ok.mod,I.ok.kind,I.ok.glob,I.ok.blt,I.ok.above,I.ok.inj,I.ok.has,I.ok.cab,I.ok.hd,I.ok.frames,I.ok.stk,I.ok.exf,I.ok.bs,I.ok.bsz,I.ok.noex,I.ok.exfs,I.ok.funs,I.ok.frf⟩
 have back:∀ {E:Value->Shared->Prop} {aS:List (Addr × Obj)} {σ':St} {H':Hp} {s':Shared},Inv (X.tried E (X.pn++pins)) aS σ' H' s'->Inv X pins σ' H' s':=λ {E aS σ' H' s'} J=>
  ⟨I.ok,J.os,J.bare,J.base,J.loc,J.cell,J.free,J.freeC,λ p hp=>J.pin p (T9 _ hp),J.hok,J.len⟩
 have I0:∀ E,Inv (X.tried E (X.pn++pins)) [] σ H s:=λ E=>⟨a4 E _,I.os,I.bare,I.base,I.loc,I.cell,I.free,I.freeC,λ p hp=>I.pin p (by simpa using hp),I.hok,I.len⟩;refine thn (hb (λ σ' cls d H'=>th cls d D σ' H') _ (X.pn++pins) ?_ [] s σ H D (I0 _) h) λ f s1 q=>?_
 ·intro σ1 a5 H1 s1 ev s2 I1 hc;obtain⟨e,T,cls,dd,H',rfl,os,bare,a3,hok,ne,nT,He,HT,ex,a7,hE⟩:=hc;have I2:=I1.call' (ch:=[]) os a3 hok bare (λ b z=>absurd z (by simp))
  have nf:∀ b,s1.heap.get? b=none->b ∉ frs (X.env::X.outer):=λ b hb z=>by
   have st:=I1.stack;have a6:s1.heap.FunFrames X.base (X.env::X.outer):=by rw [←aa.1];exact st
   obtain⟨_,o,q,_⟩:=a6.mem z;rw [hb] at q;cases q
  have nb:X.base.get? T=none:=by
   cases q:X.base.get? T with
   | none=>rfl
   | some o=>
    have:=I1.bk T o q;rw [nT] at this;cases this
  have fl:s2.heap.FunFrames X.base (X.env::X.outer):=by rw [←aa.1];exact I2.stack
  have fr:X.A.frames=some (X.env::X.outer):=by rw [←aa.1];exact I.ok.frames
  refine AG (base:=X.base) (outer:=X.outer) fr fl aa.2.1 ex (nf e ne) (nf T nT) nb λ g T' ng a8 ex'=>?_;have fs:∀ b∈frs (X.env::X.outer),b∈frs X.stack:=λ b hb=>by rw [aa.1];exact hb
  have I3:=I1.call' (s':={ s2 with heap:=g }) (ch:=[]) os (a3.noted ng ne (λ b z=>by rw [z];exact nT) λ b hb=>.inl (fs b hb)) (hok.noted ng He (λ b z=>by rw [z];exact HT) λ b hb=>I2.stkFree b (fs b hb)) bare (λ b z=>absurd z (by simp));exact hh pins _ σ1 H' D e T' cls dd (back I3) (pY.of (back I1) aa.2.2 ne) He ex' hE
 ·cases f with
  | next=>obtain⟨σ',H',J,q⟩:=q;exact Us ⟨σ',H',back J,q⟩
  | brk=>obtain⟨σ',H',J,q⟩:=q;exact⟨σ',H',back J,q⟩
  | cont=>obtain⟨σ',H',J,q⟩:=q;exact⟨σ',H',back J,q⟩
  | ret u=>obtain⟨v,σ',H',J,r,q⟩:=q;exact⟨v,σ',H',back J,r,q⟩
end
def ve(K:Frag)(C fI:Addr)(bmB:List Value)(newId:String):Bool:=yQ K C (some (.ref fI)) bmB newId
section
variable {prog:Program}{w:World}{A:Around}{R:Result->Shared->Prop}{h:Heap}{g:Array GenState}{d:Drawn}{t:Nat}{os:OsState}{K:Frag}
variable {nm q:Str}{C N fI:Addr}{bs bm bmB:List Value}{hdct:Bool}{sn:List Str}{sub:List Value}{ab:Bool}{col:Option Bool}{dd:Option Addr}{k0 k1 k2 k3 k5:Option Value}{B Bn newId nid initId inN:String}{bmN:List Value}
end
def vL:List Value->List Value
 | .ref _::r=>vL r
 | l=>l
def Hz(l:List Value):Bool:=vL l == [.type "ValueError",.type "Exception",.type "BaseException",.type "object"]
def om(K:Frag)(C:Addr):Bool:=(clsIn K C).any λ cd=>Hz cd.mro && cd.mro.contains (.type "object")
structure Nz(K:Frag)(C:Addr):Prop where
 ov:om K C=true
 sa:findIn K (.ref C) "__setattr__"=some (some (.builtin "object.__setattr__"))
 hd:hasDictIn K C=true
section
variable {prog:Program}{w:World}{A:Around}{E:Value->Shared->Prop}{K:Frag}{x C:Addr}{s:Shared}{name:Str}{v:Value}
end
section
variable {prog:Program}{w:World}{A:Around}{E:Value->Shared->Prop}{s:Shared}{K:PySem.W.Frag}{x C dx:Addr}{ox:Obj}{od:Option Obj}{name:Str}{mA:Str->Option Value}{u:Value}
end
section
variable {prog:Program}{w:World}{A:Around}{E:Value->Shared->Prop}{h:Heap}{g:Array GenState}{d:Drawn}{t:Nat}{os:OsState}{e a0:Addr}{dct:Option Addr}
variable {nm q:Str}{C N:Addr}{bs bm bmB:List Value}{hdct:Bool}{sn:List Str}{sub:List Value}{ab:Bool}{col:Option Bool}{dd:Option Addr}{k0 k1 k2 k3 k5:Option Value}{B newId nid initId:String}
end
structure OL(K:W.Frag)(C fI:Addr):Prop where
 ex:ve K C fI [.type "ValueError",.type "Exception",.type "BaseException",.type "object"] "ValueError.__new__"=true
 fn:typeIn K (.ref fI)=some (.type "function")
 st:Nz K C
section
variable {X:Cx}{pins:List (Addr × Obj)}{σ:St}{H:Hp}{s:Shared}
def Inv.adopt{a:Addr}{o:HO}(I:Inv X pins σ H s)(N:pY X pins a)(hn:H a=none)(new:bw X.prog X.w (upd H a o) s.heap a o):Inv X pins σ (upd H a o) s:=by
 have ne:∀ {b:Addr} {u:HO},H b=some u->b ≠ a:=λ q z=>by rw [z,hn] at q;cases q
 refine⟨I.ok,I.os,I.bare,⟨I.base.keep,I.base.slot,λ b u q n hx=>?_,I.base.there,λ b xs q=>?_,λ b u v q=>?_,λ b ps q=>?_⟩,I.loc,I.cell,?_,λ x c q=>?_,λ p hp=>?_,λ b u q=>?_,I.len⟩
 ·rw [ah (λ z=>by rw [z,N.s0] at q;cases q)];exact I.base.free b u q n hx
 ·have z:=I.base.tups b xs q;rw [ah (ne z)];exact z
 ·have z:=I.base.frzs b u v q;rw [ah (ne z)];exact z
 ·obtain⟨m,z⟩:=I.base.tbls b ps q;exact⟨m,by rw [ah (ne z)];exact z⟩
 ·rw [ah (RO N.loc)];exact I.free
 ·rw [ah (N.cel x c q)];exact I.freeC x c q
 ·obtain⟨a1,b1,c1,d1,f1⟩:=I.pin p hp;exact⟨a1,by rw [ah (N.pin p hp)];exact b1,c1,d1,f1⟩
 ·by_cases hb:b=a
  ·subst hb;rw [ai] at q;cases q;exact new
  ·rw [ah hb] at q;exact(I.hok b u q).stay (λ _ _ _ r=>r) (λ c r=>by rw [ah (ne r)];exact r) λ c xs r=>by rw [ah (ne r)];exact r
def Inv.newAt{a:Addr}(I:Inv X pins σ H s)(ha:s.heap.objs.size<=a):pY X pins a where
 s0:=Tz (Sj I.sz ha)
 loc:=So (RV I.lt ha)
 cel:=λ x c e z=>by
  obtain⟨v,o,q,_⟩:=I.cell x c e;exact absurd (RV (RF q) (by rw [z];exact ha)) (SE _)
 fs:=I.nofs ha
 pin:=λ p hp z=>absurd (RV (RF (I.pin p hp).1) (by rw [z];exact ha)) (SE _)
structure P9(K:W.Frag)(B:Addr):Prop where
 sp:specialIn K (.ref B) "__getattribute__"=some (some (.builtin "type.__getattribute__"))
 rd:readsIn K B (.type "type")=true
 fc:findCls K (.ref B) (.type "type") "__init__"=some (.val (.builtin "ValueError.__init__"))
end
section
variable {X:Cx}{e o value:Expr}{ta tv:TE}{f:Str}{pos pos':Pos}
end
def del(H:Hp)(e:Addr):Hp:=λ b=>if b=e then none else H b
section
variable {X:Cx}
end
def Jx{a:Option V}{v:V}{σ:St}{H:Hp}{Q:St->Hp->Prop}:gM 0 v (a::σ) H Q=Q (some v::σ) H:=rfl
def Jw{a0:Option V}{a:Option V}{v:V}{σ:St}{H:Hp}{Q:St->Hp->Prop}:gM 1 v (a0::a::σ) H Q=Q (a0::some v::σ) H:=rfl
def Jv{a0 a1:Option V}{a:Option V}{v:V}{σ:St}{H:Hp}{Q:St->Hp->Prop}:gM 2 v (a0::a1::a::σ) H Q=Q (a0::a1::some v::σ) H:=rfl
def Ju{a0 a1 a2:Option V}{a:Option V}{v:V}{σ:St}{H:Hp}{Q:St->Hp->Prop}:gM 3 v (a0::a1::a2::a::σ) H Q=Q (a0::a1::a2::some v::σ) H:=rfl
def Jt{a0 a1 a2 a3:Option V}{a:Option V}{v:V}{σ:St}{H:Hp}{Q:St->Hp->Prop}:gM 4 v (a0::a1::a2::a3::a::σ) H Q=Q (a0::a1::a2::a3::some v::σ) H:=rfl
def Js{a0 a1 a2 a3 a4:Option V}{a:Option V}{v:V}{σ:St}{H:Hp}{Q:St->Hp->Prop}:gM 5 v (a0::a1::a2::a3::a4::a::σ) H Q=Q (a0::a1::a2::a3::a4::some v::σ) H:=rfl
def Jr{a0 a1 a2 a3 a4 a5:Option V}{a:Option V}{v:V}{σ:St}{H:Hp}{Q:St->Hp->Prop}:gM 6 v (a0::a1::a2::a3::a4::a5::a::σ) H Q=Q (a0::a1::a2::a3::a4::a5::some v::σ) H:=rfl
def Jq{a0 a1 a2 a3 a4 a5 a6:Option V}{a:Option V}{v:V}{σ:St}{H:Hp}{Q:St->Hp->Prop}:gM 7 v (a0::a1::a2::a3::a4::a5::a6::a::σ) H Q=Q (a0::a1::a2::a3::a4::a5::a6::some v::σ) H:=rfl
def Jp{a0 a1 a2 a3 a4 a5 a6 a7:Option V}{a:Option V}{v:V}{σ:St}{H:Hp}{Q:St->Hp->Prop}:gM 8 v (a0::a1::a2::a3::a4::a5::a6::a7::a::σ) H Q=Q (a0::a1::a2::a3::a4::a5::a6::a7::some v::σ) H:=rfl
def Jo{a0 a1 a2 a3 a4 a5 a6 a7 a8:Option V}{a:Option V}{v:V}{σ:St}{H:Hp}{Q:St->Hp->Prop}:gM 9 v (a0::a1::a2::a3::a4::a5::a6::a7::a8::a::σ) H Q=Q (a0::a1::a2::a3::a4::a5::a6::a7::a8::some v::σ) H:=rfl
def aJ{α:Type}:Option α->(α->Prop)->Prop
 | some x,k=>k x
 | none,_=>False
def lO{α:Type}(x:α)(k:α->Prop):aJ (some x) k=k x:=rfl
def aq{α:Type}{o:Option α}{k:α->Prop}(h:aJ o k):∃ x,o=some x/\k x:=by
 cases o with
 | none=>exact h.elim
 | some x=>exact⟨x,rfl,h⟩
def ND:HO->Option (List V)
 | .lst xs=>some xs
 | .tup xs=>some xs
 | .frz _ (.lst xs)=>some xs
 | _=>none
def Og:HO->Option (List V)
 | .lst xs=>some xs
 | _=>none
def NW:HO->Option (List V)
 | .tup xs=>some xs
 | _=>none
def cK(H:Hp)(p:Addr):Option (List V):=(H p).bind ND
def aF(H:Hp)(p:Addr):Option (List V):=(H p).bind Og
def iB(H:Hp)(p:Addr):Option (List V):=(H p).bind NW
def Dz(xs:List V):ND (.lst xs)=some xs:=rfl
def Dy(xs:List V):ND (.tup xs)=some xs:=rfl
def Et(xs:List V):Og (.lst xs)=some xs:=rfl
def Dt(xs:List V):NW (.tup xs)=some xs:=rfl
def x4{α β:Type}(x:α)(f:α->Option β):(some x).bind f=f x:=rfl
abbrev Ext(H H':Hp):Prop:=(∀ a,(H a).isSome=true->H' a=H a)/\∀ (K:PySem.W.Frag) a xs,SqL K H a xs->SqL K H' a xs
def Oo(r:R2)(x:V)(Q:VK):VK:=λ y H=>r x y H Q
def MB(r:R2)(x y:V)(H:Hp)(Q:VK):(Oo r x Q y H)=(r x y H Q):=rfl
def kOp(r:R2)(tb:TE)(σ:St)(Q:VK):VK:=λ x H=>tb σ H (Oo r x Q)
def PB(r:R2)(tb:TE)(σ:St)(Q:VK)(x:V)(H:Hp):(kOp r tb σ Q x H)=(tb σ H (Oo r x Q)):=rfl
def Pe(r:R2)(ta tb:TE)(σ:St)(H:Hp)(Q:VK):(tOp r ta tb σ H Q)=(ta σ H (kOp r tb σ Q)):=rfl
def Rg(v:V)(σ:St)(H:Hp)(Q:VK):(tC v σ H Q)=(Q v H):=rfl
def kUn(r:V->Hp->VK->Prop)(Q:VK):VK:=λ x H=>r x H Q
def Pu(r:V->Hp->VK->Prop)(Q:VK)(x:V)(H:Hp):(kUn r Q x H)=(r x H Q):=rfl
def Pb(r:V->Hp->VK->Prop)(ta:TE)(σ:St)(H:Hp)(Q:VK):(tUn r ta σ H Q)=(ta σ H (kUn r Q)):=rfl
def Qo:R2:=λ x y H Q=>y=.non/\Q (.bl (decide (x=.non))) H
def xc(H:Hp)(Q:VK):Qo (.non) .non H Q=Q (.bl true) H:=propext ⟨λ h=>h.2,λ h=>⟨rfl,h⟩⟩
def Ky(Q:Bool->Hp->Prop):VK:=λ x H=>∃ k,x=.bl k/\Q k H
def QB(Q:Bool->Hp->Prop):Bool->Hp->Prop:=λ c H=>Q (!c) H
def MF(Q:Bool->Hp->Prop)(c:Bool)(H:Hp):(QB Q c H)=(Q (!c) H):=rfl
def LX(t:TT)(σ:St)(H:Hp)(Q:Bool->Hp->Prop):(Qj t σ H Q)=(t σ H (QB Q)):=rfl
def QK(u:TT)(σ:St)(Q:Bool->Hp->Prop):Bool->Hp->Prop:=λ c H=>if c=true then u σ H Q else Q false H
def M9(u:TT)(σ:St)(Q:Bool->Hp->Prop)(c:Bool)(H:Hp):(QK u σ Q c H)=(if c=true then u σ H Q else Q false H):=rfl
def L8(t u:TT)(σ:St)(H:Hp)(Q:Bool->Hp->Prop):(Qn t u σ H Q)=(t σ H (QK u σ Q)):=rfl
def kOr(u:TT)(σ:St)(Q:Bool->Hp->Prop):Bool->Hp->Prop:=λ c H=>if c=true then Q true H else u σ H Q
def Pz(u:TT)(σ:St)(Q:Bool->Hp->Prop)(c:Bool)(H:Hp):(kOr u σ Q c H)=(if c=true then Q true H else u σ H Q):=rfl
def Pd(t u:TT)(σ:St)(H:Hp)(Q:Bool->Hp->Prop):(tOr t u σ H Q)=(t σ H (kOr u σ Q)):=rfl
def PV(tb:TE)(σ:St)(Q:VK):VK:=λ x H=>∃ c,x=.bl c/\if c=true then tb σ H Q else Q (.bl false) H
def PN(Q:VK):VK:=λ x H=>∃ c,x=.bl c/\Q (.bl (!c)) H
def QC(ta tb:TE)(σ:St)(Q:VK):Bool->Hp->Prop:=λ c H=>if c=true then ta σ H Q else tb σ H Q
def MN(ta tb:TE)(σ:St)(Q:VK)(c:Bool)(H:Hp):(QC ta tb σ Q c H)=(if c=true then ta σ H Q else tb σ H Q):=rfl
def Ph(t:TT)(ta tb:TE)(σ:St)(H:Hp)(Q:VK):(tIf t ta tb σ H Q)=(t σ H (QC ta tb σ Q)):=rfl
def NT(r':R2)(y:V)(Q:VK):VK:=λ w H=>r' y w H Q
def MZ(r':R2)(y w:V)(Q:VK)(H:Hp):(NT r' y Q w H)=(r' y w H Q):=rfl
def OE(r':R2)(tc:TE)(σ:St)(y:V)(Q:VK):VK:=λ z H=>∃ k,z=.bl k/\(if k=true then tc σ H (NT r' y Q) else Q (.bl false) H)
def QG(r r':R2)(tc:TE)(σ:St)(x:V)(Q:VK):VK:=λ y H=>r x y H (OE r' tc σ y Q)
def Rn(r r':R2)(tb tc:TE)(σ:St)(Q:VK):VK:=λ x H=>tb σ H (QG r r' tc σ x Q)
def LY(σ:St)(H:Hp)(Q:List V->Hp->Prop):(JQ σ H Q)=(Q [] H):=rfl
def yX(x:V)(Q:List V->Hp->Prop):List V->Hp->Prop:=λ xs H=>Q (x::xs) H
def Er(x:V)(Q:List V->Hp->Prop)(xs:List V)(H:Hp):(yX x Q xs H)=(Q (x::xs) H):=rfl
def KI(tr:TA)(σ:St)(Q:List V->Hp->Prop):VK:=λ x H=>tr σ H (yX x Q)
def II(tr:TA)(σ:St)(Q:List V->Hp->Prop)(x:V)(H:Hp):(KI tr σ Q x H)=(tr σ H (yX x Q)):=rfl
def HL(ta:TE)(tr:TA)(σ:St)(H:Hp)(Q:List V->Hp->Prop):(CK ta tr σ H Q)=(ta σ H (KI tr σ Q)):=rfl
def sN(sp:Sp)(dvs:List V)(E:XK)(Q:VK):List V->Hp->Prop:=λ vs H=>sp (vs++dvs) H Q E
def Bm(sp:Sp)(dvs:List V)(E:XK)(Q:VK)(H:Hp):sN sp dvs E Q [] H=sp (dvs) H Q E:=rfl
def Bl(v0:V)(sp:Sp)(dvs:List V)(E:XK)(Q:VK)(H:Hp):sN sp dvs E Q [v0] H=sp (v0::dvs) H Q E:=rfl
def Bk(v0 v1:V)(sp:Sp)(dvs:List V)(E:XK)(Q:VK)(H:Hp):sN sp dvs E Q [v0,v1] H=sp (v0::v1::dvs) H Q E:=rfl
def Bj(v0 v1 v2:V)(sp:Sp)(dvs:List V)(E:XK)(Q:VK)(H:Hp):sN sp dvs E Q [v0,v1,v2] H=sp (v0::v1::v2::dvs) H Q E:=rfl
def Bi(v0 v1 v2 v3:V)(sp:Sp)(dvs:List V)(E:XK)(Q:VK)(H:Hp):sN sp dvs E Q [v0,v1,v2,v3] H=sp (v0::v1::v2::v3::dvs) H Q E:=rfl
def Bh(v0 v1 v2 v3 v4:V)(sp:Sp)(dvs:List V)(E:XK)(Q:VK)(H:Hp):sN sp dvs E Q [v0,v1,v2,v3,v4] H=sp (v0::v1::v2::v3::v4::dvs) H Q E:=rfl
def HN(sp:Sp)(dvs:List V)(E:XK)(t:TA)(σ:St)(H:Hp)(Q:VK):(FW sp dvs E t σ H Q)=(t σ H (sN sp dvs E Q)):=rfl
def kCB(r:List V->Hp->VK->Prop)(Q:VK):List V->Hp->Prop:=λ vs H=>r vs H Q
def PK(r:List V->Hp->VK->Prop)(Q:VK)(vs:List V)(H:Hp):(kCB r Q vs H)=(r vs H Q):=rfl
def Pj(r:List V->Hp->VK->Prop)(t:TA)(σ:St)(H:Hp)(Q:VK):(tCB r t σ H Q)=(t σ H (kCB r Q)):=rfl
def HI(nx:St->Hp->Prop)(rt:VK)(bk ct:St->Hp->Prop)(σ:St)(H:Hp):(FU ⟨nx,rt,bk,ct⟩ σ H)=(nx σ H):=rfl
def LU(t u:TS)(nx:St->Hp->Prop)(rt:VK)(bk ct:St->Hp->Prop)(σ:St)(H:Hp):(Qg t u ⟨nx,rt,bk,ct⟩ σ H)=(t ⟨u ⟨nx,rt,bk,ct⟩,rt,bk,ct⟩ σ H):=rfl
def LW(te:TE)(nx:St->Hp->Prop)(rt:VK)(bk ct:St->Hp->Prop)(σ:St)(H:Hp):(Qi te ⟨nx,rt,bk,ct⟩ σ H)=(te σ H rt):=rfl
def HG(nx:St->Hp->Prop)(rt:VK)(bk ct:St->Hp->Prop)(σ:St)(H:Hp):(Ka ⟨nx,rt,bk,ct⟩ σ H)=(rt .non H):=rfl
def KH(nx:St->Hp->Prop)(σ:St):VK:=λ x H=>nx σ H
def IH(nx:St->Hp->Prop)(σ:St)(x:V)(H:Hp):(KH nx σ x H)=(nx σ H):=rfl
def HJ(te:TE)(nx:St->Hp->Prop)(rt:VK)(bk ct:St->Hp->Prop)(σ:St)(H:Hp):(Kd te ⟨nx,rt,bk,ct⟩ σ H)=(te σ H (KH nx σ)):=rfl
def Ox(t u:TS)(D:kI)(σ:St):Bool->Hp->Prop:=λ b H=>if b=true then t D σ H else u D σ H
def MM(t u:TS)(D:kI)(σ:St)(b:Bool)(H:Hp):(Ox t u D σ b H)=(if b=true then t D σ H else u D σ H):=rfl
def lj(c:TT)(t u:TS)(D:kI)(σ:St)(H:Hp):(NX c t u D σ H)=(c σ H (Ox t u D σ)):=rfl
def QI(g:TG)(σ:St)(nx:St->Hp->Prop):VK:=λ x H=>g x σ H nx
def M7(g:TG)(σ:St)(nx:St->Hp->Prop)(x:V)(H:Hp):(QI g σ nx x H)=(g x σ H nx):=rfl
def L7(te:TE)(g:TG)(nx:St->Hp->Prop)(rt:VK)(bk ct:St->Hp->Prop)(σ:St)(H:Hp):(NY te g ⟨nx,rt,bk,ct⟩ σ H)=(te σ H (QI g σ nx)):=rfl
def kGs(u:TGs)(r:List V)(Q:St->Hp->Prop):St->Hp->Prop:=λ σ' H'=>u r σ' H' Q
def PF(u:TGs)(r:List V)(Q:St->Hp->Prop)(σ:St)(H:Hp):(kGs u r Q σ H)=(u r σ H Q):=rfl
section
variable {X:Cx}
def OpR.mono{f:Value->Value->Sem Value}{r r':R2}(h:OpR X f r)(m:∀ x y H Q,r' x y H Q->r x y H Q):OpR X f r':=λ pins s σ H x y v u Q I rx ry hq=>h pins s σ H x y v u Q I rx ry (m _ _ _ _ hq)
def bI.mono{f:Value}{r r':List V->Hp->VK->Prop}(h:bI X f r)(m:∀ xs H Q,r' xs H Q->r xs H Q):bI X f r':=λ pins s σ H xs us Q I rx hq=>h pins s σ H xs us Q I rx (m _ _ _ hq)
def IxR.mono{r r':R2}(h:IxR X r)(m:∀ x y H Q,r' x y H Q->r x y H Q):IxR X r':=λ a b pins s σ H x y v u Q I rx ry hq=>h a b pins s σ H x y v u Q I rx ry (m _ _ _ _ hq)
def SlR.mono{r r':V->Option Int->Option Int->Hp->VK->Prop}(h:SlR X r)(m:∀ x lo hi H Q,r' x lo hi H Q->r x lo hi H Q):SlR X r':=λ pins s σ H x v vl vu lo hi sl Q I rx a b c hq=>h pins s σ H x v vl vu lo hi sl Q I rx a b c (m _ _ _ _ _ hq)
def PG.mono{tg:Expr}{g g':TG}(h:PG X tg g)(m:∀ v σ H Q,g' v σ H Q->g v σ H Q):PG X tg g':=λ pins s σ H v u Q I r hq=>h pins s σ H v u Q I r (m _ _ _ _ hq)
def iP{K:W.Frag}{H:Hp}{p:Addr}{ys:List V}(h:cK H p=some ys):SqL K H p ys\/SqT K H p ys:=by
 unfold cK at h
 cases e:H p with
 | none=>rw [e] at h;cases h
 | some o=>
  rw [e] at h;have h':ND o=some ys:=h
  cases o with
  | lst xs=>cases h';exact .inl (SqL.of e)
  | tup xs=>cases h';exact .inr (SqT.of e)
  | frz ob u=>
   cases u with
   | lst xs=>cases h';exact .inl (.inl (.inr ⟨ob,e⟩))
   | _=>cases h'
  | _=>cases h'
def bO{H:Hp}{p:Addr}{ys:List V}(h:aF H p=some ys):H p=some (.lst ys):=by
 unfold aF at h
 cases e:H p with
 | none=>rw [e] at h;cases h
 | some o=>
  rw [e] at h;have h':Og o=some ys:=h
  cases o with
  | lst xs=>cases h';rfl
  | _=>cases h'
def uZ{H:Hp}{p:Addr}{ys:List V}(h:iB H p=some ys):H p=some (.tup ys):=by
 unfold iB at h
 cases e:H p with
 | none=>rw [e] at h;cases h
 | some o=>
  rw [e] at h;have h':NW o=some ys:=h
  cases o with
  | tup xs=>cases h';rfl
  | _=>cases h'
def Ou(H:Hp)(Q:VK):List V->Prop:=λ ys=>Q (.int ys.length) H
def MI(H:Hp)(Q:VK)(ys:List V):Ou H Q ys=Q (.int ys.length) H:=rfl
def JS(xs:List V)(H:Hp)(Q:VK):Prop:=match xs with
 | [.ref p]=>aJ (cK H p) (Ou H Q)
 | [.str z]=>z.length<=sizeLine/\Q (.int z.length) H
 | _=>False
def Mf(p:Addr)(H:Hp)(Q:VK):JS [.ref p] H Q=aJ (cK H p) (Ou H Q):=rfl
def HU(z:Str)(H:Hp)(Q:VK):JS [.str z] H Q=(z.length<=sizeLine/\Q (.int z.length) H):=rfl
def aB:bI X (.builtin "len") JS:=by
 refine(dW.or r0).mono λ xs H Q h=>?_;unfold JS at h;split at h
 ·rename_i p;obtain⟨ys,e,q⟩:=aq h;exact .inl ⟨p,ys,rfl,iP e,q⟩
 ·rename_i z;exact .inr ⟨z,rfl,h.1,h.2⟩
 ·exact h.elim
def Ov(H:Hp)(Q:VK):V->Prop:=λ v=>Q v H
def MK(H:Hp)(Q:VK)(v:V):Ov H Q v=Q v H:=rfl
def kIx(i:Int)(H:Hp)(Q:VK):List V->Prop:=λ ys=>aJ (atI ys i) (Ov H Q)
def PD(i:Int)(H:Hp)(Q:VK)(ys:List V):kIx i H Q ys=aJ (atI ys i) (Ov H Q):=rfl
def qIx:R2:=λ x y H Q=>match x,y with
 | .ref p,.int i=>aJ (cK H p) (kIx i H Q)
 | _,_=>False
def Pl(p:Addr)(i:Int)(H:Hp)(Q:VK):qIx (.ref p) (.int i) H Q=aJ (cK H p) (kIx i H Q):=rfl
def eS:IxR X qIx:=by
 refine(t7.or Np).mono λ x y H Q h=>?_;unfold qIx at h;split at h
 ·rename_i p i;obtain⟨ys,e,q⟩:=aq h;obtain⟨v,e2,q2⟩:=aq q
  rcases iP (K:=X.K) e with z|z
  ·exact .inl ⟨p,ys,i,v,rfl,rfl,z,e2,q2⟩
  ·exact .inr ⟨p,ys,i,v,rfl,rfl,z,e2,q2⟩
 ·exact h.elim
def P4{α:Type}(a:α)(xs:List α):atI (a::xs) 0=some a:=cM (j:=0) rfl
def P2{α:Type}(a b:α)(xs:List α):atI (a::b::xs) 1=some b:=cM (j:=1) rfl
def P1{α:Type}(a b c:α)(xs:List α):atI (a::b::c::xs) 2=some c:=cM (j:=2) rfl
def PQ(H:Hp)(Q:VK):List V->Prop:=λ ys=>∀ l,H l=none->Q (.ref l) (upd H l (.lst ys))
def Kl(xs:List V)(H:Hp)(Q:VK):Prop:=match xs with
 | [.ref p]=>aJ (cK H p) (PQ H Q)
 | _=>False
def xO:bI X (.type "list") Kl:=by
 refine rZ.mono λ xs H Q h=>?_;unfold Kl at h;split at h
 ·rename_i p;obtain⟨ys,e,q⟩:=aq h;exact⟨p,ys,rfl,iP e,q⟩
 ·exact h.elim
def Gs(p:Addr)(H:Hp)(Q:VK):HO->Prop:=λ o=>match o with
 | .lst ys=>∀ l,H l=none->Q (.ref l) (upd H l (.tup ys))
 | .tup _=>Q (.ref p) H
 | _=>False
def Fy(xs:List V)(H:Hp)(Q:VK):Prop:=match xs with
 | [.ref p]=>aJ (H p) (Gs p H Q)
 | _=>False
def uJ:bI X (.type "tuple") Fy:=by
 refine pF.mono λ xs H Q h=>?_;unfold Fy at h;split at h
 ·rename_i p;obtain⟨o,e,q⟩:=aq h;unfold Gs at q;split at q
  ·rename_i ys;exact⟨p,ys,rfl,.inl ⟨SqL.of e,q⟩⟩
  ·rename_i ys;exact⟨p,ys,rfl,.inr ⟨SqT.of e,q⟩⟩
  ·exact q.elim
 ·exact h.elim
def Ob(xs:List V)(H:Hp)(Q:VK):Prop:=match xs with
 | [.int i]=>Q (.int (if i < 0 then -i else i)) H
 | _=>False
def Mi(i:Int)(H:Hp)(Q:VK):Ob [.int i] H Q=Q (.int (if i < 0 then -i else i)) H:=rfl
def Cb:bI X (.builtin "abs") Ob:=by
 refine Fe.mono λ xs H Q h=>?_;unfold Ob at h;split at h
 ·rename_i i;exact⟨i,rfl,h⟩
 ·exact h.elim
def N7(xs:List V)(H:Hp)(Q:VK):Prop:=match xs with
 | [.int i,.int j]=>Q (.int (if i < j then j else i)) H
 | _=>False
def Md(i j:Int)(H:Hp)(Q:VK):N7 [.int i,.int j] H Q=Q (.int (if i < j then j else i)) H:=rfl
def iR(hc:X.calm=true):bI X (.builtin "max") N7:=by
 refine(Cd hc).mono λ xs H Q h=>?_;unfold N7 at h;split at h
 ·rename_i i j;exact⟨i,j,rfl,h⟩
 ·exact h.elim
def N6(xs:List V)(H:Hp)(Q:VK):Prop:=match xs with
 | [.int i,.int j]=>Q (.int (if j < i then j else i)) H
 | _=>False
def Mc(i j:Int)(H:Hp)(Q:VK):N6 [.int i,.int j] H Q=Q (.int (if j < i then j else i)) H:=rfl
def qB(hc:X.calm=true):bI X (.builtin "min") N6:=by
 refine(Cc hc).mono λ xs H Q h=>?_;unfold N6 at h;split at h
 ·rename_i i j;exact⟨i,j,rfl,h⟩
 ·exact h.elim
def tyO:HO->Option String
 | .lst _=>some "list"
 | .tup _=>some "tuple"
 | .frz _ (.lst _)=>some "list"
 | .dK _=>some "dict"
 | .dT _=>some "dict"
 | _=>none
def GR(xs:List V):tyO (.lst xs)=some "list":=rfl
def GQ(xs:List V):tyO (.tup xs)=some "tuple":=rfl
def K4(xs:List (Key × V)):tyO (.dK xs)=some "dict":=rfl
def tyN(H:Hp):V->Option String
 | .non=>some "NoneType"
 | .bl _=>some "bool"
 | .int _=>some "int"
 | .str _=>some "str"
 | .ref p=>(H p).bind tyO
 | _=>none
def GV(H:Hp):tyN H .non=some "NoneType":=rfl
def K6(H:Hp)(b:Bool):tyN H (.bl b)=some "bool":=rfl
def GW(H:Hp)(i:Int):tyN H (.int i)=some "int":=rfl
def GS(H:Hp)(x:Str):tyN H (.str x)=some "str":=rfl
def GU(H:Hp)(p:Addr):tyN H (.ref p)=(H p).bind tyO:=rfl
def K5{K:W.Frag}{H:Hp}{x:V}{t:String}(h:tyN H x=some t):uY K H x (.type t):=by
 cases x with
 | non=>cases h;exact .non
 | bl b=>cases h;exact .bl b
 | int i=>cases h;exact .int i
 | str x=>cases h;exact .str x
 | ref p=>
  have h':(H p).bind tyO=some t:=h
  cases e:H p with
  | none=>rw [e] at h';cases h'
  | some o=>
   rw [e] at h';have h2:tyO o=some t:=h'
   cases o with
   | lst xs=>cases h2;exact .lst e
   | tup xs=>cases h2;exact .tup e
   | dK xs=>cases h2;exact .dK e
   | dT xs=>cases h2;exact .dT e
   | frz ob u=>
    cases u with
    | lst xs=>cases h2;exact .frz e
    | _=>cases h2
   | _=>cases h2
 | _=>cases h
def qd:List String:=["NoneType", "bool", "int", "str", "list", "tuple", "dict"]
def QM(t n:String):Bool:=t == n || (t == "bool" && n == "int")
def EO(K:W.Frag):∀ t∈qd,∀ n∈qd,W.kitOne K (.type t) (.type n)=some (QM t n):=by
 intro t ht n hn;unfold qd at ht hn;simp only [mem_cons,not_mem_nil,or_false] at ht hn
 rcases ht with rfl|rfl|rfl|rfl|rfl|rfl|rfl<;>rcases hn with rfl|rfl|rfl|rfl|rfl|rfl|rfl<;>exact BS K _ _ _ (by decide +kernel)
def kH(n:String)(H:Hp)(Q:VK):String->Prop:=λ t=>t∈qd/\Q (.bl (QM t n)) H
def x8(xs:List V)(H:Hp)(Q:VK):Prop:=match xs with
 | [x,.ty n]=>n∈qd/\aJ (tyN H x) (kH n H Q)
 | _=>False
def eM:bI X (.builtin "isinstance") x8:=by
 refine Fd.mono λ xs H Q h=>?_;unfold x8 at h;split at h
 ·rename_i x n;obtain⟨hn,h⟩:=h;obtain⟨t,e,ht,q⟩:=aq h;exact⟨x,n,_,_,rfl,K5 e,EO _ t ht n hn,q⟩
 ·exact h.elim
def xg(x:V)(H:Hp)(Q:VK):x8 [x,.ty "int"] H Q=aJ (tyN H x) (kH "int" H Q):=by
 unfold x8;exact propext ⟨λ h=>h.2,λ h=>⟨by decide,h⟩⟩
def uB(x:V)(H:Hp)(Q:VK):x8 [x,.ty "bool"] H Q=aJ (tyN H x) (kH "bool" H Q):=by
 unfold x8;exact propext ⟨λ h=>h.2,λ h=>⟨by decide,h⟩⟩
def rT(x:V)(H:Hp)(Q:VK):x8 [x,.ty "tuple"] H Q=aJ (tyN H x) (kH "tuple" H Q):=by
 unfold x8;exact propext ⟨λ h=>h.2,λ h=>⟨by decide,h⟩⟩
def uA(x:V)(H:Hp)(Q:VK):x8 [x,.ty "list"] H Q=aJ (tyN H x) (kH "list" H Q):=by
 unfold x8;exact propext ⟨λ h=>h.2,λ h=>⟨by decide,h⟩⟩
def xf(x:V)(H:Hp)(Q:VK):x8 [x,.ty "str"] H Q=aJ (tyN H x) (kH "str" H Q):=by
 unfold x8;exact propext ⟨λ h=>h.2,λ h=>⟨by decide,h⟩⟩
def Be(H:Hp)(Q:VK):kH "int" H Q "NoneType"=Q (.bl false) H:=propext ⟨λ h=>h.2,λ h=>⟨by decide,h⟩⟩
def Bd(H:Hp)(Q:VK):kH "tuple" H Q "NoneType"=Q (.bl false) H:=propext ⟨λ h=>h.2,λ h=>⟨by decide,h⟩⟩
def Bc(H:Hp)(Q:VK):kH "bool" H Q "bool"=Q (.bl true) H:=propext ⟨λ h=>h.2,λ h=>⟨by decide,h⟩⟩
def Bb(H:Hp)(Q:VK):kH "int" H Q "bool"=Q (.bl true) H:=propext ⟨λ h=>h.2,λ h=>⟨by decide,h⟩⟩
def Ba(H:Hp)(Q:VK):kH "tuple" H Q "bool"=Q (.bl false) H:=propext ⟨λ h=>h.2,λ h=>⟨by decide,h⟩⟩
def A7(H:Hp)(Q:VK):kH "bool" H Q "int"=Q (.bl false) H:=propext ⟨λ h=>h.2,λ h=>⟨by decide,h⟩⟩
def A6(H:Hp)(Q:VK):kH "int" H Q "int"=Q (.bl true) H:=propext ⟨λ h=>h.2,λ h=>⟨by decide,h⟩⟩
def A5(H:Hp)(Q:VK):kH "tuple" H Q "int"=Q (.bl false) H:=propext ⟨λ h=>h.2,λ h=>⟨by decide,h⟩⟩
def AZ(H:Hp)(Q:VK):kH "int" H Q "str"=Q (.bl false) H:=propext ⟨λ h=>h.2,λ h=>⟨by decide,h⟩⟩
def AY(H:Hp)(Q:VK):kH "str" H Q "str"=Q (.bl true) H:=propext ⟨λ h=>h.2,λ h=>⟨by decide,h⟩⟩
def AW(H:Hp)(Q:VK):kH "tuple" H Q "str"=Q (.bl false) H:=propext ⟨λ h=>h.2,λ h=>⟨by decide,h⟩⟩
def A4(H:Hp)(Q:VK):kH "int" H Q "list"=Q (.bl false) H:=propext ⟨λ h=>h.2,λ h=>⟨by decide,h⟩⟩
def A3(H:Hp)(Q:VK):kH "list" H Q "list"=Q (.bl true) H:=propext ⟨λ h=>h.2,λ h=>⟨by decide,h⟩⟩
def A0(H:Hp)(Q:VK):kH "tuple" H Q "list"=Q (.bl false) H:=propext ⟨λ h=>h.2,λ h=>⟨by decide,h⟩⟩
def AV(H:Hp)(Q:VK):kH "int" H Q "tuple"=Q (.bl false) H:=propext ⟨λ h=>h.2,λ h=>⟨by decide,h⟩⟩
def AU(H:Hp)(Q:VK):kH "tuple" H Q "tuple"=Q (.bl true) H:=propext ⟨λ h=>h.2,λ h=>⟨by decide,h⟩⟩
def A9(H:Hp)(Q:VK):kH "int" H Q "dict"=Q (.bl false) H:=propext ⟨λ h=>h.2,λ h=>⟨by decide,h⟩⟩
def A8(H:Hp)(Q:VK):kH "tuple" H Q "dict"=Q (.bl false) H:=propext ⟨λ h=>h.2,λ h=>⟨by decide,h⟩⟩
def OH(r:V->List V->Hp->VK->Prop)(x:V)(Q:VK):List V->Hp->Prop:=λ xs H=>r x xs H Q
def M6(r:V->List V->Hp->VK->Prop)(x:V)(Q:VK)(xs:List V)(H:Hp):OH r x Q xs H=r x xs H Q:=rfl
def kBM(K:W.Frag)(T:String)(r:V->List V->Hp->VK->Prop)(t:TA)(σ:St)(Q:VK):VK:=λ x H=>tyV K T x H/\t σ H (OH r x Q)
def PL(K:W.Frag)(T:String)(r:V->List V->Hp->VK->Prop)(t:TA)(σ:St)(Q:VK)(x:V)(H:Hp):kBM K T r t σ Q x H=(tyV K T x H/\t σ H (OH r x Q)):=rfl
def Pk(K:W.Frag)(T:String)(r:V->List V->Hp->VK->Prop)(to:TE)(t:TA)(σ:St)(H:Hp)(Q:VK):tBM K T r to t σ H Q=to σ H (kBM K T r t σ Q):=rfl
def QH(K:W.Frag)(T:String)(r:V->List V->Hp->VK->Prop)(Q:VK):VK:=λ x H=>tyV K T x H/\r x [] H Q
def M5(K:W.Frag)(T:String)(r:V->List V->Hp->VK->Prop)(Q:VK)(x:V)(H:Hp):QH K T r Q x H=(tyV K T x H/\r x [] H Q):=rfl
def L5(K:W.Frag)(T:String)(r:V->List V->Hp->VK->Prop)(to:TE)(σ:St)(H:Hp)(Q:VK):Qm K T r to σ H Q=to σ H (QH K T r Q):=rfl
def Dp(K:W.Frag)(p:Addr)(H:Hp)(h:(aF H p).isSome=true):tyV K "list" (.ref p) H=True:=by
 cases e:aF H p with
 | none=>rw [e] at h;cases h
 | some ys=>exact eq_true (.inl ⟨rfl,ys,SqL.of (bO e)⟩)
def QJ(l:Addr)(y:V)(H:Hp)(Q:VK):List V->Prop:=λ xs=>xs.length < sizeLine/\Q .non (upd H l (.lst (xs++[y])))
def M8(l:Addr)(y:V)(H:Hp)(Q:VK)(xs:List V):QJ l y H Q xs=(xs.length < sizeLine/\Q .non (upd H l (.lst (xs++[y])))):=rfl
def AN(l:Addr)(y:V)(H:Hp)(Q:VK):zi (.ref l) [y] H Q=aJ (aF H l) (QJ l y H Q):=by
 refine propext ⟨λ h=>?_,λ h=>?_⟩
 ·obtain⟨_,xs,_,e1,e2,e3,a,b⟩:=h;cases e1;cases e2;have e:aF H l=some xs:=by unfold aF;rw [e3];rfl
  rw [e];exact⟨a,b⟩
 ·obtain⟨xs,e,a,b⟩:=aq h;exact⟨l,xs,y,rfl,rfl,bO e,a,b⟩
def QA(l:Addr)(H:Hp)(Q:VK):List V->Prop:=λ xs=>Q .non (upd H l (.lst xs.reverse))
def Mx(l:Addr)(H:Hp)(Q:VK)(xs:List V):QA l H Q xs=Q .non (upd H l (.lst xs.reverse)):=rfl
def xb(l:Addr)(H:Hp)(Q:VK):vy (.ref l) [] H Q=aJ (aF H l) (QA l H Q):=by
 refine propext ⟨λ h=>?_,λ h=>?_⟩
 ·obtain⟨_,xs,e1,_,e3,b⟩:=h;cases e1;have e:aF H l=some xs:=by unfold aF;rw [e3];rfl
  rw [e];exact b
 ·obtain⟨xs,e,b⟩:=aq h;exact⟨l,xs,rfl,rfl,bO e,b⟩
def PR(xs:List V)(H:Hp)(Q:VK):List V->Prop:=λ ys=>xs.length+ys.length<=sizeLine/\∀ p,H p=none->Q (.ref p) (upd H p (.lst (xs++ys)))
def PU(b:Addr)(H:Hp)(Q:VK):List V->Prop:=λ xs=>aJ (aF H b) (PR xs H Q)
def L9(l b:Addr)(H:Hp)(Q:VK):Qp (.ref l) (.ref b) H Q=aJ (aF H l) (PU b H Q):=by
 refine propext ⟨λ h=>?_,λ h=>?_⟩
 ·obtain⟨l',b',xs,zs,e1,e2,e3,e4,hz,hq⟩:=h;cases e1;cases e2;have e:aF H l=some xs:=by unfold aF;rw [e3];rfl
  have e':aF H b=some zs:=by unfold aF;rw [e4];rfl
  rw [e]
  show aJ (aF H b) _
  rw [e'];exact⟨hz,hq⟩
 ·obtain⟨xs,e,q⟩:=aq h;obtain⟨zs,e',a,q⟩:=aq q;exact⟨l,b,xs,zs,rfl,rfl,bO e,bO e',a,q⟩
def Gx(p:Addr)(xs:List V)(v:V)(H:Hp)(Q:Hp->Prop):Nat->Prop:=λ j=>Q (upd H p (.lst (xs.set j v)))
def Iu(p:Addr)(xs:List V)(v:V)(H:Hp)(Q:Hp->Prop)(j:Nat):Gx p xs v H Q j=Q (upd H p (.lst (xs.set j v))):=rfl
def Qz(p:Addr)(i:Int)(v:V)(H:Hp)(Q:Hp->Prop):List V->Prop:=λ xs=>aJ (ixN xs.length i) (Gx p xs v H Q)
def Mt(p:Addr)(i:Int)(v:V)(H:Hp)(Q:Hp->Prop)(xs:List V):Qz p i v H Q xs=aJ (ixN xs.length i) (Gx p xs v H Q):=rfl
def HS(p:Addr)(i:Int)(v:V)(H:Hp)(Q:Hp->Prop):Kj (.ref p) (.int i) v H Q=aJ (aF H p) (Qz p i v H Q):=by
 refine propext ⟨λ h=>?_,λ h=>?_⟩
 ·obtain⟨_,xs,_,j,e1,e2,e3,e4,b⟩:=h;cases e1;cases e2;have e:aF H p=some xs:=by unfold aF;rw [e3];rfl
  rw [e]
  show aJ (ixN xs.length i) _
  rw [e4];exact b
 ·obtain⟨xs,e,q⟩:=aq h;obtain⟨j,e4,q⟩:=aq q;exact⟨p,xs,i,j,rfl,rfl,bO e,e4,q⟩
def yW(t:Fn)(o v:V)(σ:St)(Q:St->Hp->Prop):VK:=λ i H=>t o i v H λ H3=>Q σ H3
def Em(t:Fn)(o v:V)(σ:St)(Q:St->Hp->Prop)(i:V)(H:Hp):yW t o v σ Q i H=t o i v H (Q σ):=rfl
def FJ(ti:TE)(t:Fn)(v:V)(σ:St)(Q:St->Hp->Prop):VK:=λ o H=>ti σ H (yW t o v σ Q)
def En(ti:TE)(t:Fn)(v:V)(σ:St)(Q:St->Hp->Prop)(o:V)(H:Hp):FJ ti t v σ Q o H=ti σ H (yW t o v σ Q):=rfl
def Nf(to ti:TE)(t:Fn)(v:V)(σ:St)(H:Hp)(Q:St->Hp->Prop):QR to ti t v σ H Q=to σ H (FJ ti t v σ Q):=rfl
def kGT(n:Nat)(t:TGs)(σ:St)(H:Hp)(Q:St->Hp->Prop):List V->Prop:=λ xs=>xs.length=n/\t xs σ H Q
def PJ(n:Nat)(t:TGs)(σ:St)(H:Hp)(Q:St->Hp->Prop)(xs:List V):kGT n t σ H Q xs=(xs.length=n/\t xs σ H Q):=rfl
def qGT(n:Nat)(t:TGs):TG:=λ v σ H Q=>match v with
 | .ref a=>aJ (iB H a) (kGT n t σ H Q)
 | _=>False
def Pm(n:Nat)(t:TGs)(a:Addr)(σ:St)(H:Hp)(Q:St->Hp->Prop):qGT n t (.ref a) σ H Q=aJ (iB H a) (kGT n t σ H Q):=rfl
def bP{K:W.Frag}{n:Nat}{t:TGs}{v:V}{σ:St}{H:Hp}{Q:St->Hp->Prop}(h:qGT n t v σ H Q):QQ K n t v σ H Q:=by
 unfold qGT at h;split at h
 ·rename_i a;obtain⟨xs,e,hl,q⟩:=aq h;exact⟨a,xs,rfl,SqT.of (uZ e),hl,q⟩
 ·exact h.elim
def yR:OpR X (compareOp .Is) Qo:=Lu
def wI(tb:TS)(D:kI):St->Hp->Prop:=λ σ H=>tb D σ H
def bh(tb:TS)(D:kI)(σ:St)(H:Hp):wI tb D σ H=tb D σ H:=rfl
def JU(g:TG)(tb:TS)(D:kI)(σ:St)(J:It)(H1:Hp):Prop:=∃ W:Nat->Nat->St->Hp->Prop,(∃ m,W 0 m σ H1)/\∀ i m σ H,W i m σ H →
 (J.stop i H/\D.nx σ H)\/(J.go i H/\∃ N:St->Hp->Prop,(∀ σ' H',N σ' H'->∃ m',m' < m/\W (i+1) m' σ' H')/\∀ x H',J.yld i H x H'->g x σ H' λ σ2 H2=>tb { D with nx:=N,ct:=N,bk:=D.nx } σ2 H2)
def LZ(wi:TI)(g:TG)(tb:TS)(D:kI)(σ:St)(H:Hp):Qk wi g tb D σ H=wi σ H (JU g tb D σ):=rfl
def kR1(R:It->Hp->Prop):List V->Hp->Prop:=λ vs H=>∃ j:Int,vs=[.int j]/\-(2 ^ 62)<=j/\j < 2 ^ 62/\R (Itr 0 j.toNat) H
def Pw(R:It->Hp->Prop)(j:Int)(H:Hp):kR1 R [.int j] H=(-(2 ^ 62)<=j/\j < 2 ^ 62/\R (Itr 0 j.toNat) H):=propext ⟨λ ⟨_,e,q⟩=>by cases e;exact q,λ q=>⟨j,rfl,q⟩⟩
def IS(ta:TA)(σ:St)(H:Hp)(R:It->Hp->Prop):KJ ta σ H R=ta σ H (kR1 R):=rfl
def CP(K:W.Frag)(a:Addr)(H:Hp)(R:It->Hp->Prop):HO->Prop:=λ o=>match o with
 | .lst _=>R (Itl K a) H
 | .frz _ (.lst _)=>R (Itl K a) H
 | .tup _=>R (Itt K a) H
 | _=>False
def Bg(K:W.Frag)(a:Addr)(H:Hp)(R:It->Hp->Prop)(xs:List V):CP K a H R (.lst xs)=R (Itl K a) H:=rfl
def NO(K:W.Frag)(R:It->Hp->Prop):VK:=λ x H=>match x with
 | .ref a=>aJ (H a) (CP K a H R)
 | _=>False
def MO(K:W.Frag)(R:It->Hp->Prop)(a:Addr)(H:Hp):NO K R (.ref a) H=aJ (H a) (CP K a H R):=rfl
def OI(K:W.Frag)(tl:TE):TI:=λ σ H R=>tl σ H (NO K R)
def Nc(K:W.Frag)(tl:TE)(σ:St)(H:Hp)(R:It->Hp->Prop):OI K tl σ H R=tl σ H (NO K R):=rfl
def FC{tg l:Expr}{tl:TE}(hl:PE X l tl):PI X tg l (OI X.K tl):=by
 intro pins s σ H R I h;refine thn (hl pins s σ H _ I h) λ v s1 ⟨x,H1,I1,r1,q1⟩=>?_;unfold NO at q1;split at q1
 ·rename_i a;cases r1;obtain⟨o,e,q⟩:=aq q1
  have fp:∀ b∈[s1.heap.objs.size],sF X pins H1 b:=λ b hb=>by
   have e:b=s1.heap.objs.size:=by simpa using hb
   subst e;exact I1.fpOk (RJ _) (I1.hok.fresh (RJ _))
  have lst:∀ xs,SqL X.K H1 a xs->R (Itl X.K a) H1->wpAny (model X.prog X.w) X.A (pyIter (.ref a)) (PIE X pins σ tg R) X.xe s1:=λ xs hq q=>by
   obtain⟨its,rv,p,hz⟩:=I1.list hq;refine Ua p.isList ?_;exact⟨s1.heap.objs.size,[s1.heap.objs.size],_,_,H1,rfl,I1.kept (t':=s1.toks) λ b o e=>RD _ e,Ap a _,⟨_,RK _ rfl,rfl,rfl⟩,fp,q⟩
  unfold CP at q;split at q
  ·exact lst _ (SqL.of e) q
  ·exact lst _ (.inl (.inr ⟨_,e⟩)) q
  ·obtain⟨its,rv,p,hz⟩:=I1.tuple (SqT.of e);refine wpAny_pyIter_tuple (show s1.heap.IsTuple a its.toArray from p) ?_;exact⟨s1.heap.objs.size,[s1.heap.objs.size],_,_,H1,rfl,I1.kept (t':=s1.toks) λ b o e=>RD _ e,wL a _,⟨_,RK _ rfl,rfl,rfl⟩,fp,q⟩
  ·exact q.elim
 ·exact q1.elim
def lA{lo:Int}{n:Nat}{g:TG}{tb:TS}{nx:St->Hp->Prop}{rt:VK}{bk ct:St->Hp->Prop}{σ:St}{H:Hp}(Pv:Nat->St->Hp->Prop)(h0:Pv 0 σ H)
  (hs:∀ i σ H,i < n->Pv i σ H->g (.int (lo+i)) σ H (wI tb ⟨Pv (i+1),rt,nx,Pv (i+1)⟩)) (hd:∀ σ H,Pv n σ H->nx σ H):JU g tb ⟨nx,rt,bk,ct⟩ σ (Itr lo n) H:=B3 Pv h0 hs hd
def fP{K:W.Frag}{a:Addr}{xs:List V}{g:TG}{tb:TS}{nx:St->Hp->Prop}{rt:VK}{bk ct:St->Hp->Prop}{σ:St}{H:Hp}(Pv:Nat->St->Hp->Prop)(h0:Pv 0 σ H)(hl:∀ i σ H,i<=xs.length->Pv i σ H->H a=some (.lst xs))
  (hs:∀ i x σ H,xs[i]? = some x->Pv i σ H->g x σ H (wI tb ⟨Pv (i+1),rt,nx,Pv (i+1)⟩)) (hd:∀ σ H,Pv xs.length σ H->nx σ H):JU g tb ⟨nx,rt,bk,ct⟩ σ (Itl K a) H:=E2 (xs:=xs) Pv h0 (λ i σ H hi p=>SqL.of (hl i σ H hi p)) hs hd
def kWh(tb:TS)(nx:St->Hp->Prop)(rt:VK)(Pv:Nat->St->Hp->Prop)(m:Nat)(σ:St):Bool->Hp->Prop:=λ b H=>if b=true then tb ⟨λ σ' H'=>∃ m',m' < m/\Pv m' σ' H',rt,nx,λ σ' H'=>∃ m',m' < m/\Pv m' σ' H'⟩ σ H else nx σ H
def Pt(tb:TS)(nx:St->Hp->Prop)(rt:VK)(Pv:Nat->St->Hp->Prop)(m:Nat)(σ:St)(b:Bool)(H:Hp):kWh tb nx rt Pv m σ b H=(if b=true then tb ⟨λ σ' H'=>∃ m',m' < m/\Pv m' σ' H',rt,nx,λ σ' H'=>∃ m',m' < m/\Pv m' σ' H'⟩ σ H else nx σ H):=rfl
def GK{c:TT}{tb:TS}{nx:St->Hp->Prop}{rt:VK}{bk ct:St->Hp->Prop}{σ:St}{H:Hp}(Pv:Nat->St->Hp->Prop)(m0:Nat)(h0:Pv m0 σ H)
  (mono:∀ σ H Q Q',(∀ b H1,Q b H1->Q' b H1)->c σ H Q->c σ H Q')
  (hs:∀ m σ H,Pv m σ H->c σ H (kWh tb nx rt Pv m σ)):yu c tb ⟨nx,rt,bk,ct⟩ σ H:=by
 refine⟨Pv,⟨m0,h0⟩,λ m σ H p=>mono σ H _ _ (λ b H1 q=>?_) (hs m σ H p)⟩;unfold kWh at q
 cases b with
 | true=>exact⟨_,λ σ' H' z=>z,q⟩
 | false=>exact q
end
def Qw(th:Value->Option Addr->TS)(D:kI):St->XK:=λ σ cls d H=>th cls d D σ H
def Mp(th:Value->Option Addr->TS)(D:kI)(σ:St)(cls:Value)(d:Option Addr)(H:Hp):Qw th D σ cls d H=th cls d D σ H:=rfl
def LS(tb:(St->XK)->TS)(th:Value->Option Addr->TS)(D:kI)(σ:St)(H:Hp):Qf tb th D σ H=tb (Qw th D) D σ H:=rfl
def FI(C:Addr)(E:XK):List V->Hp->Prop:=λ vs H=>vs.length<=sizeLine/\E (.ref C) none H
def Eh(C:Addr)(E:XK)(vs:List V)(H:Hp):FI C E vs H=(vs.length<=sizeLine/\E (.ref C) none H):=rfl
def Ea(C:Addr)(E:St->XK)(t:TA)(D:kI)(σ:St)(H:Hp):Fw C E t D σ H=t σ H (FI C (E σ)):=rfl
def QD(tb:TS)(tr:Value->Option Addr->TS)(cls:Value)(d:Option Addr)(D:kI)(σ:St)(H:Hp):Bool->Prop:=λ b=>if b=true then tb D σ H else tr cls d D σ H
def MQ(tb:TS)(tr:Value->Option Addr->TS)(cls:Value)(d:Option Addr)(D:kI)(σ:St)(H:Hp)(b:Bool):QD tb tr cls d D σ H b=(if b=true then tb D σ H else tr cls d D σ H):=rfl
def L1(K:W.Frag)(C:Value)(tb:TS)(tr:Value->Option Addr->TS)(cls:Value)(d:Option Addr)(D:kI)(σ:St)(H:Hp):Ql K C tb tr cls d D σ H=aJ (W.exmOne K cls C) (QD tb tr cls d D σ H):=by
 refine propext ⟨λ ⟨b,e,h⟩=>?_,λ h=>?_⟩
 ·rw [e];exact h
 ·obtain⟨b,e,h⟩:=aq h;exact⟨b,e,h⟩
def kE4(H:Hp)(Q:VK):Bool->Prop:=λ b=>Q (.bl b) H
def Kw(H:Hp)(Q:VK)(b:Bool):kE4 H Q b=Q (.bl b) H:=rfl
def kC3(D:Addr)(ys:List V)(N:List V->Hp->Prop):VK:=λ y H=>H D=some (.lst ys)/\ys.length < sizeLine/\N (ys++[y]) (upd H D (.lst (ys++[y])))
def kC2(te:TE)(σ2:St)(D:Addr)(ys:List V)(N:List V->Hp->Prop):Bool->Hp->Prop:=λ b H=>if b=true then te σ2 H (kC3 D ys N) else N ys H
def kC1(k:Nat)(tt:TT)(te:TE)(σ:St)(D:Addr)(ys:List V)(N:List V->Hp->Prop):St->Hp->Prop:=λ σ2 H=>(∃ vs:St,vs.length=k/\σ2=vs++σ)/\tt σ2 H (kC2 te σ2 D ys N)
def LH(σ:St)(H:Hp)(Q:Bool->Hp->Prop):Qe σ H Q=Q true H:=rfl
def CT(k:Nat)(g:TG)(tt:TT)(te:TE)(σ:St)(Q:VK):It->Hp->Prop:=λ J H1=>∀ D,H1 D=none->∃ W:Nat->Nat->List V->Hp->Prop,(∃ m,W 0 m [] (upd H1 D (.lst [])))/\∀ i m ys H,W i m ys H →
 (J.stop i H/\Q (.ref D) H)\/(J.go i H/\∃ N:List V->Hp->Prop,(∀ ys' H',N ys' H'->∃ m',m' < m/\W (i+1) m' ys' H') /\
  ∀ x H',J.yld i H x H'->g x (List.replicate k none++σ) H' (kC1 k tt te σ D ys N))
def HM(k:Nat)(wi:TI)(g:TG)(tt:TT)(te:TE)(σ:St)(H:Hp)(Q:VK):FV k wi g tt te σ H Q=wi σ H (CT k g tt te σ Q):=rfl
def Kz(i:Nat)(σ:St)(nx:St->Hp->Prop):VK:=λ x H=>gM i x σ H nx
def Ip(i:Nat)(σ:St)(nx:St->Hp->Prop)(x:V)(H:Hp):Kz i σ nx x H=gM i x σ H nx:=rfl
def HF(i:Nat)(te:TE)(nx:St->Hp->Prop)(rt:VK)(bk ct:St->Hp->Prop)(σ:St)(H:Hp):J9 i te ⟨nx,rt,bk,ct⟩ σ H=te σ H (Kz i σ nx):=rfl
section
variable {k:Nat}{g:TG}{tt:TT}{te:TE}{σ:St}{Q:VK}{H:Hp}{K:PySem.W.Frag}
end
def aU{α:Type}:List (Option α)->Option (List α)
 | []=>some []
 | o::r=>o.bind λ x=>(aU r).map λ xs=>x::xs
def CC(f:V->Option PyData):HO->Option PyData
 | .lst xs=>(aU (xs.map f)).map .list
 | .tup xs=>(aU (xs.map f)).map .tuple
 | _=>none
def bY(H:Hp)(f:V->Option PyData):V->Option PyData
 | .non=>some .none
 | .bl b=>some (.bool b)
 | .int i=>some (.int i)
 | .str z=>if PyData.strOk z=true then some (.str z) else none
 | .ref p=>(H p).bind (CC f)
 | _=>none
def mM(H:Hp):Nat->V->Option PyData
 | 0,_=>none
 | n+1,x=>bY H (mM H n) x
def noD:V->Option PyData:=λ _=>none
def Ng(H:Hp)(x:V):mM H 6 x=bY H (bY H (bY H (bY H (bY H (bY H noD))))) x:=rfl
def xm(H:Hp)(n:Nat)(z:Str):mM H (n+1) (.str z)=if PyData.strOk z=true then some (.str z) else none:=rfl
def xn(H:Hp)(n:Nat)(p:Addr):mM H (n+1) (.ref p)=(H p).bind (CC (mM H n)):=rfl
def xo(H:Hp)(f:V->Option PyData)(i:Int):bY H f (.int i)=some (.int i):=rfl
def nB(H:Hp)(f:V->Option PyData)(p:Addr):bY H f (.ref p)=(H p).bind (CC f):=rfl
def nA(f:V->Option PyData)(xs:List V):CC f (.lst xs)=(aU (xs.map f)).map .list:=rfl
def nz(f:V->Option PyData)(xs:List V):CC f (.tup xs)=(aU (xs.map f)).map .tuple:=rfl
def pD{α:Type}:aU ([]:List (Option α))=some []:=rfl
def gJ{α:Type}(x:α)(r:List (Option α)):aU (some x::r)=(aU r).map λ xs=>x::xs:=rfl
def gg(H:Hp)(f:V->Option PyData):∀ ns:List Int,aU ((ns.map V.int).map (bY H f))=some (ns.map PyData.int)
 | []=>rfl
 | i::r=>by
  show (aU ((r.map V.int).map (bY H f))).map _=_
  rw [gg H f r];rfl
def oM{K:W.Frag}{H:Hp}{n:Nat}(ih:∀ x d,mM H n x=some d->nX K H x d/\d.canLay0=true/\d.depth<=n):∀ (xs:List V) (ds:List PyData),aU (xs.map (mM H n))=some ds->k4 K H xs ds/\PyData.canLayAll0 ds=true/\PyData.depthAll ds<=n
 | [],ds,h=>by cases h;exact⟨.nil,rfl,SF _⟩
 | x::xs,ds,h=>by
  have h':(mM H n x).bind (λ d=>(aU (xs.map (mM H n))).map λ ds=>d::ds)=some ds:=h
  cases e:mM H n x with
  | none=>rw [e] at h';cases h'
  | some d=>
   rw [e] at h';have h2:(aU (xs.map (mM H n))).map (λ ds=>d::ds)=some ds:=h'
   cases e2:aU (xs.map (mM H n)) with
   | none=>rw [e2] at h2;cases h2
   | some es=>
    rw [e2] at h2;cases h2;obtain⟨a,b,c⟩:=ih x d e;obtain⟨a',b',c'⟩:=oM ih xs es e2;exact⟨.cons a a',by simp [PyData.canLayAll0,b,b'],by simp only [PyData.depthAll];omega⟩
def ua{K:W.Frag}{H:Hp}:∀ (n:Nat) (x:V) (d:PyData),mM H n x=some d->nX K H x d/\d.canLay0=true/\d.depth<=n
 | 0,x,d,h=>by cases h
 | n+1,x,d,h=>by
  cases x with
  | non=>cases h;exact⟨.non,rfl,SF _⟩
  | bl b=>cases h;exact⟨.bl b,rfl,SF _⟩
  | int i=>cases h;exact⟨.int i,rfl,SF _⟩
  | str z=>
   rw [xm] at h;split at h
   ·rename_i hz;cases h;exact⟨.str z,by simpa [PyData.canLay0] using hz,SF _⟩
   ·cases h
  | ref p=>
   rw [xn] at h
   cases e:H p with
   | none=>rw [e] at h;cases h
   | some o=>
    rw [e] at h;have h':CC (mM H n) o=some d:=h
    cases o with
    | lst xs=>
     rw [nA] at h'
     cases e2:aU (xs.map (mM H n)) with
     | none=>rw [e2] at h';cases h'
     | some ds=>
      rw [e2] at h';cases h';obtain⟨a,b,c⟩:=oM (K:=K) (ua n) xs ds e2;exact⟨.lst (SqL.of e) a,by simpa [PyData.canLay0] using b,by simp only [PyData.depth];omega⟩
    | tup xs=>
     rw [nz] at h'
     cases e2:aU (xs.map (mM H n)) with
     | none=>rw [e2] at h';cases h'
     | some ds=>
      rw [e2] at h';cases h';obtain⟨a,b,c⟩:=oM (K:=K) (ua n) xs ds e2;exact⟨.tup (SqT.of e) a,by simpa [PyData.canLay0] using b,by simp only [PyData.depth];omega⟩
    | _=>cases h'
  | _=>cases h
def ff{K:W.Frag}{H:Hp}{n:Nat}{x:V}{d:PyData}(hn:n<=64)(h:mM H n x=some d):nX K H x d/\SeqAt.shaped d=true:=by
 obtain⟨a,b,c⟩:=ua (K:=K) n x d h;refine⟨a,?_⟩;unfold SeqAt.shaped;rw [b,decide_eq_true (show d.depth<=64 by omega)];rfl
def NP(neg:Bool)(H:Hp)(Q:VK)(d:PyData):PyData->Prop:=λ e=>Q (.bl (if neg=true then !PyData.eqv d e else PyData.eqv d e)) H
def Eo(H:Hp)(Q:VK)(d e:PyData):NP true H Q d e=Q (.bl (!PyData.eqv d e)) H:=rfl
def Ep(H:Hp)(Q:VK)(d e:PyData):NP false H Q d e=Q (.bl (PyData.eqv d e)) H:=rfl
def Oz(neg:Bool)(y:V)(H:Hp)(Q:VK):PyData->Prop:=λ d=>aJ (mM H 6 y) (NP neg H Q d)
def MS(neg:Bool)(y:V)(H:Hp)(Q:VK)(d:PyData):Oz neg y H Q d=aJ (mM H 6 y) (NP neg H Q d):=rfl
def qEq(neg:Bool):R2:=λ x y H Q=>if NF x y=true then Q (.bl (if neg=true then !decide (x=y) else decide (x=y))) H else aJ (mM H 6 x) (Oz neg y H Q)
def xh(neg:Bool)(p:Addr)(x:V)(H:Hp)(Q:VK):qEq neg x (.ref p) H Q=aJ (mM H 6 x) (Oz neg (.ref p) H Q):=by
 show (if NF x (.ref p)=true then _ else _)=_
 rw [RQ (by cases x<;>exact RM)]
def pC(i:Int)(j:Int)(H:Hp)(Q:VK):qEq false (V.int i) (V.int j) H Q=Q (.bl (decide (i=j))) H:=by
 have e:decide (((V.int i):V)=(V.int j))=decide (i=j):=by simp
 show Q (.bl (if false=true then !decide ((V.int i)=(V.int j)) else decide ((V.int i)=(V.int j)))) H=_
 rw [e];rfl
def pA(i:Int)(j:Int)(H:Hp)(Q:VK):qEq true (V.int i) (V.int j) H Q=Q (.bl (!decide (i=j))) H:=by
 have e:decide (((V.int i):V)=(V.int j))=decide (i=j):=by simp
 show Q (.bl (if true=true then !decide ((V.int i)=(V.int j)) else decide ((V.int i)=(V.int j)))) H=_
 rw [e];rfl
def pB(i:Str)(j:Str)(H:Hp)(Q:VK):qEq false (V.str i) (V.str j) H Q=Q (.bl (decide (i=j))) H:=by
 have e:decide (((V.str i):V)=(V.str j))=decide (i=j):=by simp
 show Q (.bl (if false=true then !decide ((V.str i)=(V.str j)) else decide ((V.str i)=(V.str j)))) H=_
 rw [e];rfl
section
variable {X:Cx}
def bz(hu:X.A.units+64 < cLine):OpR X (compareOp .Eq) (qEq false):=by
 refine(O0.or (Lv hu)).mono λ x y H Q h=>?_;unfold qEq at h;split at h
 ·rename_i hs;exact .inl ⟨hs,h⟩
 obtain⟨d,e1,h⟩:=aq h;obtain⟨e,e2,h⟩:=aq h;obtain⟨a,b⟩:=ff (K:=X.K) (by decide) e1;obtain⟨a',b'⟩:=ff (K:=X.K) (by decide) e2;exact .inr ⟨d,e,a,a',b,b',h⟩
def dG(hu:X.A.units+64 < cLine):OpR X (compareOp .NotEq) (qEq true):=by
 refine(OX.or (Lr hu)).mono λ x y H Q h=>?_;unfold qEq at h;split at h
 ·rename_i hs;exact .inl ⟨hs,h⟩
 obtain⟨d,e1,h⟩:=aq h;obtain⟨e,e2,h⟩:=aq h;obtain⟨a,b⟩:=ff (K:=X.K) (by decide) e1;obtain⟨a',b'⟩:=ff (K:=X.K) (by decide) e2;exact .inr ⟨d,e,a,a',b,b',h⟩
end
def zI(i j:Int):PyData.eqv (.int i) (.int j)=decide (i=j):=Bool.beq_eq_decide_eq i j
def E3(xs ys:List PyData):PyData.eqv (.list xs) (.list ys)=PyData.eqvAll xs ys:=by simp only [PyData.eqv]
def nE:PyData.eqvAll [] []=true:=by simp only [PyData.eqvAll]
def mf(x y:PyData)(xs ys:List PyData):PyData.eqvAll (x::xs) (y::ys)=(PyData.eqv x y && PyData.eqvAll xs ys):=by simp only [PyData.eqvAll]
def E6(x:PyData)(xs:List PyData):PyData.eqvAll (x::xs) []=false:=by simp only [PyData.eqvAll]
def E4(x:PyData)(xs:List PyData):PyData.eqvAll [] (x::xs)=false:=by simp only [PyData.eqvAll]
def di:∀ ns ms:List Int,PyData.eqvAll (ns.map PyData.int) (ms.map PyData.int)=decide (ns=ms)
 | [],[]=>by rw [Va,nE];rfl
 | [],_::_=>by rw [Va,Sm,E4];rfl
 | _::_,[]=>by rw [Va,Sm,E6];rfl
 | i::r,j::t=>by
  rw [Sm,Sm,mf,zI,di r t]
  by_cases h:i=j<;>by_cases h2:r=t<;>simp [h,h2]
def JN(i j:Int):OP i j=(0 < j/\j < 1073741824):=rfl
def NA(i j:Int)(h:-18446744073709551616 < i)(h':i < 18446744073709551616):ye i j=True:=eq_true (.inl ⟨by omega,by omega⟩)
def JM(j:Int):OO 10 j=(0<=j/\j<=1000000):=propext ⟨λ h=>⟨h.1,h.2.1⟩,λ h=>⟨h.1,h.2,by decide⟩⟩
def Kx(n:Nat)(h:n<=1000):(n<=sizeLine)=True:=eq_true (T4 (qk h))
def PM(n:Nat)(h:n<=1000):(n < sizeLine)=True:=eq_true (qk h)
def Ext.of{H H':Hp}(h:∀ a,(H a).isSome=true->H' a=H a):Ext H H':=⟨h,λ K a xs q=>by
 have s:kY H H':=λ b o e=>(h b (by rw [e];rfl)).trans e;exact s.seq q⟩
def Ext.same{H H':Hp}(h:Ext H H'):kY H H':=λ b o e=>(h.1 b (by rw [e];rfl)).trans e
def kY.ext{H H':Hp}(h:kY H H'):Ext H H':=Ext.of λ a q=>by
 cases e:H a with
 | none=>rw [e] at q;cases q
 | some o=>exact h a o e
def Ext.refl(H:Hp):Ext H H:=(kY.refl H).ext
def Ext.trans{H H1 H2:Hp}(a:Ext H H1)(b:Ext H1 H2):Ext H H2:=(a.same.trans b.same).ext
def Ext.new{H:Hp}{p:Addr}{o:HO}(h:H p=none):Ext H (upd H p o):=(DA h).ext
def Ext.put{H H1:Hp}{p:Addr}{o:HO}(a:Ext H H1)(h:H p=none):Ext H (upd H1 p o):=kY.ext λ b u e=>by
 rw [ah (b7 e h)];exact a.same b u e
def Ext.free{H H1:Hp}{p:Addr}(a:Ext H H1)(h:H1 p=none):H p=none:=a.same.free h
def Ext.at{H H1:Hp}{p:Addr}{o:HO}(a:Ext H H1)(h:H p=some o):H1 p=some o:=a.same _ _ h
def Ht{xs:List V}{i:Int}{k:V->Prop}(h0:0<=i)(h1:i < xs.length)(h:∀ v∈xs,k v):aJ (atI xs i) k:=by
 obtain⟨v,e,m⟩:=FQ xs i h0 h1;rw [e];exact h v m
def Rp(CX:CXT)(P:Program)(w:World)(K:W.Frag)(mg:Str->Option Value)(base:Heap)(N:List Str)(qual:Str)(scope:Scope)(f:Addr)(cd:Value)(A:Around)(outer:List Env)(s:Shared)(H:Hp)(E:XK):(CH CX P w K mg base N qual scope f cd A outer s H E).K=K:=rfl
def i7:∀ {a b:List Char},a.map Char.toNat=b.map Char.toNat->a=b
 | [],[],_=>rfl
 | [],_::_,h=>by cases h
 | _::_,[],h=>by cases h
 | x::r,y::q,h=>by
  simp only [Sm,UN] at h
  have e:x=y:=by
   have z:x.val.toNat=y.val.toNat:=h.1;exact Char.ext (UInt32.toNat_inj.mp z)
  rw [e,i7 h.2]
def rR(a b:String):(Str.ofString a=Str.ofString b)=(a=b):=by
 refine propext ⟨λ h=>?_,λ h=>by rw [h]⟩;rw [Str.ofString_eq_toList,Str.ofString_eq_toList] at h;have e:(a.toList.map Char.toNat).toArray=(b.toList.map Char.toNat).toArray:=Tf Str.cps h;have e2:=i7 (Tf Array.toList e);exact String.ext e2
def isW(H:Hp):V->Option Bool
 | .int _=>some true
 | .bl _=>some false
 | .non=>some false
 | .str _=>some false
 | .ref p=>((H p).bind tyO).map λ _=>false
 | _=>none
def EU(H:Hp)(i:Int):isW H (.int i)=some true:=rfl
def Jl(H:Hp)(i:Bool):isW H (.bl i)=some false:=rfl
def ET(H:Hp):isW H .non=some false:=rfl
def ES(H:Hp)(i:Str):isW H (.str i)=some false:=rfl
def kT(H:Hp)(p:Addr):isW H (.ref p)=((H p).bind tyO).map λ _=>false:=rfl
def oh{H:Hp}{p:Addr}{b:Bool}(h:isW H (.ref p)=some b):b=false/\∃ o,H p=some o/\(tyO o=some "list" \/ tyO o=some "tuple" \/ tyO o=some "dict"):=by
 rw [kT] at h
 cases e:H p with
 | none=>rw [e] at h;cases h
 | some o=>
  rw [e] at h;have h':(tyO o).map (λ _=>false)=some b:=h
  cases e2:tyO o with
  | none=>rw [e2] at h';cases h'
  | some t=>
   rw [e2] at h';cases h';refine⟨rfl,o,rfl,?_⟩
   cases o with
   | lst xs=>exact .inl rfl
   | tup xs=>exact .inr (.inl rfl)
   | dK xs=>exact .inr (.inr rfl)
   | dT xs=>exact .inr (.inr rfl)
   | frz ob u=>cases u with
    | lst xs=>exact .inl rfl
    | _=>cases e2
   | _=>cases e2
def ME(t:TE):Prop:=∀ σ H (Q Q':VK),(∀ v H,Q v H->Q' v H)->t σ H Q->t σ H Q'
def MT(t:TT):Prop:=∀ σ H (Q Q':Bool->Hp->Prop),(∀ b H,Q b H->Q' b H)->t σ H Q->t σ H Q'
def MA(t:TA):Prop:=∀ σ H (Q Q':List V->Hp->Prop),(∀ b H,Q b H->Q' b H)->t σ H Q->t σ H Q'
def MR(r:R2):Prop:=∀ x y H (Q Q':VK),(∀ v H,Q v H->Q' v H)->r x y H Q->r x y H Q'
def MC(r:List V->Hp->VK->Prop):Prop:=∀ x H (Q Q':VK),(∀ v H,Q v H->Q' v H)->r x H Q->r x H Q'
def eJ{α:Type}{o:Option α}{k k':α->Prop}(m:∀ x,k x->k' x)(h:aJ o k):aJ o k':=by
 obtain⟨x,e,q⟩:=aq h;rw [e];exact m x q
def FG{i:Nat}:ME (NB i):=λ σ H Q Q' m ⟨v,e,q⟩=>⟨v,e,m _ _ q⟩
def Rb{v:V}:ME (tC v):=λ σ H Q Q' m q=>m _ _ q
def O9{r:R2}{a b:TE}(hr:MR r)(ha:ME a)(hb:ME b):ME (tOp r a b):=λ σ H Q Q' m q=>ha σ H _ _ (λ _ _ q=>hb σ _ _ _ (λ _ _ q=>hr _ _ _ _ _ m q) q) q
def FH{g:Int->Int->V}:MR (rI0 g):=λ x y H Q Q' m ⟨i,j,e,e',q⟩=>⟨i,j,e,e',m _ _ q⟩
def LC:MA JQ:=λ σ H Q Q' m q=>m _ _ q
def HE{a:TE}{r:TA}(ha:ME a)(hr:MA r):MA (CK a r):=λ σ H Q Q' m q=>ha σ H _ _ (λ _ _ q=>hr σ _ _ _ (λ _ _ q=>m _ _ q) q) q
def Pa{r:List V->Hp->VK->Prop}{t:TA}(hr:MC r)(ht:MA t):ME (tCB r t):=λ σ H Q Q' m q=>ht σ H _ _ (λ _ _ q=>hr _ _ _ _ m q) q
def HD:MC JS:=λ x H Q Q' m q=>by
 unfold JS at q ⊢;split at q
 ·exact eJ (λ _ q=>m _ _ q) q
 ·exact⟨q.1,m _ _ q.2⟩
 ·exact q.elim
def zA{t:TE}(h:ME t):MT (CJ t):=λ σ H Q Q' m q=>h σ H _ _ (λ _ _ ⟨k,e,q⟩=>⟨k,e,m _ _ q⟩) q
def GJ{c:TT}{tb:TS}{nx:St->Hp->Prop}{rt:VK}{bk ct:St->Hp->Prop}{σ:St}{H:Hp}(mono:MT c)(Pv:Nat->St->Hp->Prop)(m0:Nat)(h0:Pv m0 σ H)
  (hs:∀ m σ H,Pv m σ H->c σ H (kWh tb nx rt Pv m σ)):yu c tb ⟨nx,rt,bk,ct⟩ σ H:=GK Pv m0 h0 (λ σ H Q Q'=>mono σ H Q Q') hs
def vG:∀ {ns ms:List Int},ns.map V.int=ms.map V.int->ns=ms
 | [],[],_=>rfl
 | [],_::_,h=>by cases h
 | _::_,[],h=>by cases h
 | i::r,j::t,h=>by
  simp only [Sm,UN,V.int.injEq] at h;rw [h.1,vG h.2]
def mR(F:List Int->Prop):List V->Prop:=λ xs=>∃ ns,xs=ns.map V.int/\F ns
def zB(F:List Int->Prop)(ns:List Int):mR F (ns.map V.int)=F ns:=propext ⟨λ ⟨ms,e,h⟩=>by rw [vG e];exact h,λ h=>⟨ns,rfl,h⟩⟩
def Bf(F:List Int->Prop)(a:Int):mR F [.int a]=F [a]:=zB F [a]
def vY(i j:Int)(h:i.natAbs < 2 ^ 256)(h':j.natAbs < 2 ^ 256):yq i j=True:=eq_true ⟨h,h'⟩
def NV(xs:List V)(z:Int)(h:0<=z):mO xs none (some z)=xs.take z.toNat:=by
 unfold mO;rw [HT.sIx_none,List.drop_zero,Nat.sub_zero];obtain⟨n,rfl⟩:=Int.eq_ofNat_of_zero_le h;rw [HT.sIx_nat]
 show _=xs.take n
 rcases Nat.le_total n xs.length with q|q
 ·rw [Nat.min_eq_left q]
 ·rw [Nat.min_eq_right q,Ta (RJ _),Ta q]
def Rm(lo hi:Option Int)(H:Hp)(Q:VK):List V->Prop:=λ xs=>∀ p,H p=none->Q (.ref p) (upd H p (.lst (mO xs lo hi)))
def Qr:V->Option Int->Option Int->Hp->VK->Prop:=λ x lo hi H Q=>match x with
 | .ref a=>aJ (aF H a) (Rm lo hi H Q)
 | _=>False
def Q2{X:Cx}:SlR X Qr:=zc.mono λ x lo hi H Q h=>by
 unfold Qr at h;split at h
 ·rename_i a;obtain⟨xs,e,q⟩:=aq h;exact⟨a,xs,rfl,SqL.of (bO e),q⟩
 ·exact h.elim
def Oh(r:V->Option Int->Option Int->Hp->VK->Prop)(x:V)(l:Option Int)(Q:VK):Option Int->Hp->Prop:=λ u H=>r x l u H Q
def Mq(r:V->Option Int->Option Int->Hp->VK->Prop)(x:V)(l:Option Int)(Q:VK)(u:Option Int)(H:Hp):Oh r x l Q u H=r x l u H Q:=rfl
def Oi(r:V->Option Int->Option Int->Hp->VK->Prop)(th:TO)(σ:St)(x:V)(Q:VK):Option Int->Hp->Prop:=λ l H=>th σ H (Oh r x l Q)
def Mr(r:V->Option Int->Option Int->Hp->VK->Prop)(th:TO)(σ:St)(x:V)(Q:VK)(l:Option Int)(H:Hp):Oi r th σ x Q l H=th σ H (Oh r x l Q):=rfl
def Qy(r:V->Option Int->Option Int->Hp->VK->Prop)(tl th:TO)(σ:St)(Q:VK):VK:=λ x H=>tl σ H (Oi r th σ x Q)
def Ms(r:V->Option Int->Option Int->Hp->VK->Prop)(tl th:TO)(σ:St)(Q:VK)(x:V)(H:Hp):Qy r tl th σ Q x H=tl σ H (Oi r th σ x Q):=rfl
def Pc(r:V->Option Int->Option Int->Hp->VK->Prop)(te:TE)(tl th:TO)(σ:St)(H:Hp)(Q:VK):tSl r te tl th σ H Q=te σ H (Qy r tl th σ Q):=rfl
def AL(σ:St)(H:Hp)(Q:Option Int->Hp->Prop):zb σ H Q=Q none H:=rfl
def KC(Q:Option Int->Hp->Prop):VK:=λ x H=>∃ i,x=.int i/\Q (some i) H
def Iy(Q:Option Int->Hp->Prop)(i:Int)(H:Hp):KC Q (.int i) H=Q (some i) H:=propext ⟨λ ⟨_,e,q⟩=>by cases e;exact q,λ q=>⟨i,rfl,q⟩⟩
def HH(t:TE)(σ:St)(H:Hp)(Q:Option Int->Hp->Prop):Kb t σ H Q=t σ H (KC Q):=rfl
def jd(o:HO)(H:Hp)(Q:VK):Prop:=∀ (p:Addr) (H':Hp),H p=none->Ext H H'->H' p=some o->Q (.ref p) H'
def jd.to{o:HO}{H:Hp}{Q:VK}(h:jd o H Q):∀ p,H p=none->Q (.ref p) (upd H p o):=λ p hp=>h p _ hp (Ext.new hp) ai
def kQT(Q:VK):List V->Hp->Prop:=λ xs H=>xs.length<=sizeLine/\jd (.tup xs) H Q
def Px(Q:VK)(xs:List V)(H:Hp):kQT Q xs H=(xs.length<=sizeLine/\jd (.tup xs) H Q):=rfl
def kQL(Q:VK):List V->Hp->Prop:=λ xs H=>xs.length<=sizeLine/\jd (.lst xs) H Q
def Py(Q:VK)(xs:List V)(H:Hp):kQL Q xs H=(xs.length<=sizeLine/\jd (.lst xs) H Q):=rfl
def Qq(t:TA):TE:=λ σ H Q=>t σ H (kQT Q)
def Ma(t:TA)(σ:St)(H:Hp)(Q:VK):Qq t σ H Q=t σ H (kQT Q):=rfl
def Qs(t:TA):TE:=λ σ H Q=>t σ H (kQL Q)
def Me(t:TA)(σ:St)(H:Hp)(Q:VK):Qs t σ H Q=t σ H (kQL Q):=rfl
section
variable {X:Cx}{es:List Expr}{t:TA}{pos:Pos}
def Hk{x1}(h:PA X es t):PE X (.Tuple es x1 pos) (Qq t):=by
 intro pins s σ H Q I hq;refine wpAny_Tuple_spliced (thn (h pos pins s σ H _ I hq) λ us s1 ⟨xs,H1,I1,r,z,q⟩=>⟨by rw [←r.length];exact z,?_⟩);have hf:H1 s1.heap.objs.size=none:=I1.hok.fresh (RJ _);refine⟨.ref s1.heap.objs.size,upd H1 s1.heap.objs.size (.tup xs),I1.laid (t':=s1.toks) (λ b u e=>RD _ e) (RJ _) ?_,rfl,q.to _ hf⟩;exact⟨z,us,r,⟨_,RK _ rfl,rfl,_,rfl⟩⟩
def Hl(h:PA X es t):PE X (.List es pos) (Qs t):=by
 intro pins s σ H Q I hq;refine wpAny_List_spliced (thn (h pos pins s σ H _ I hq) λ us s1 ⟨xs,H1,I1,r,z,q⟩=>⟨by rw [←r.length];exact z,?_⟩);have hf:H1 s1.heap.objs.size=none:=I1.hok.fresh (RJ _);refine⟨.ref s1.heap.objs.size,upd H1 s1.heap.objs.size (.lst xs),I1.laid (t':=s1.toks) (λ b u e=>RD _ e) (RJ _) ?_,rfl,q.to _ hf⟩;exact⟨z,us,0,r,RK _ rfl⟩
end
def kN(f:List V->HO)(H:Hp)(Q:VK):List V->Prop:=λ ys=>jd (f ys) H Q
def Rj(f:List V->HO)(H:Hp)(Q:VK)(ys:List V):kN f H Q ys=jd (f ys) H Q:=rfl
def Gn(xs:List V)(H:Hp)(Q:VK):Prop:=match xs with
 | [.ref p]=>aJ (cK H p) (kN .lst H Q)
 | _=>False
def Ic(p:Addr)(H:Hp)(Q:VK):Gn [.ref p] H Q=aJ (cK H p) (kN .lst H Q):=rfl
def bB{X:Cx}:bI X (.type "list") Gn:=xO.mono λ xs H Q h=>by
 unfold Gn at h;split at h
 ·exact eJ (λ _ q=>q.to) h
 ·exact h.elim
def kNT(p:Addr)(H:Hp)(Q:VK):HO->Prop:=λ o=>match o with
 | .lst ys=>jd (.tup ys) H Q
 | .tup _=>Q (.ref p) H
 | _=>False
def IA(p:Addr)(H:Hp)(Q:VK)(ys:List V):kNT p H Q (.lst ys)=jd (.tup ys) H Q:=rfl
def yT(xs:List V)(H:Hp)(Q:VK):Prop:=match xs with
 | [.ref p]=>aJ (H p) (kNT p H Q)
 | _=>False
def Ec(p:Addr)(H:Hp)(Q:VK):yT [.ref p] H Q=aJ (H p) (kNT p H Q):=rfl
def ic{X:Cx}:bI X (.type "tuple") yT:=uJ.mono λ xs H Q h=>by
 unfold yT at h;split at h
 ·refine eJ (λ o q=>?_) h;unfold kNT at q;unfold Gs;split at q
  ·exact q.to
  ·exact q
  ·exact q.elim
 ·exact h.elim
def Oq(xs:List V)(H:Hp)(Q:VK):List V->Prop:=λ ys=>xs.length+ys.length<=sizeLine/\jd (.lst (xs++ys)) H Q
def MG(xs:List V)(H:Hp)(Q:VK)(ys:List V):Oq xs H Q ys=(xs.length+ys.length<=sizeLine/\jd (.lst (xs++ys)) H Q):=rfl
def Ot(b:Addr)(H:Hp)(Q:VK):List V->Prop:=λ xs=>aJ (aF H b) (Oq xs H Q)
def MH(b:Addr)(H:Hp)(Q:VK)(xs:List V):Ot b H Q xs=aJ (aF H b) (Oq xs H Q):=rfl
def Of:R2:=λ x y H Q=>match x,y with
 | .ref l,.ref b=>aJ (aF H l) (Ot b H Q)
 | _,_=>False
def Mo(l b:Addr)(H:Hp)(Q:VK):Of (.ref l) (.ref b) H Q=aJ (aF H l) (Ot b H Q):=rfl
def tX{X:Cx}:OpR X (binaryOp .Add) Of:=Lw.mono λ x y H Q h=>by
 unfold Of at h;split at h
 ·rw [L9];exact eJ (λ _ q=>eJ (λ _ q=>⟨q.1,q.2.to⟩) q) h
 ·exact h.elim
def kNS(lo hi:Option Int)(H:Hp)(Q:VK):List V->Prop:=λ xs=>jd (.lst (mO xs lo hi)) H Q
def PC(lo hi:Option Int)(H:Hp)(Q:VK)(xs:List V):kNS lo hi H Q xs=jd (.lst (mO xs lo hi)) H Q:=rfl
def nSl:V->Option Int->Option Int->Hp->VK->Prop:=λ x lo hi H Q=>match x with
 | .ref a=>aJ (aF H a) (kNS lo hi H Q)
 | _=>False
def Pn(a:Addr)(lo hi:Option Int)(H:Hp)(Q:VK):nSl (.ref a) lo hi H Q=aJ (aF H a) (kNS lo hi H Q):=rfl
def N3{X:Cx}:SlR X nSl:=Q2.mono λ x lo hi H Q h=>by
 unfold nSl at h;split at h
 ·exact eJ (λ _ q=>q.to) h
 ·exact h.elim
def PE.mono{X:Cx}{e:Expr}{t t':TE}(h:PE X e t)(m:∀ σ H Q,t' σ H Q->t σ H Q):PE X e t':=λ pins s σ H Q I q=>h pins s σ H Q I (m _ _ _ q)
def Kv:TE:=λ _ H Q=>jd (.dK []) H Q
def Ie(σ:St)(H:Hp)(Q:VK):Kv σ H Q=jd (.dK []) H Q:=rfl
def vC{X:Cx}{pos:Pos}:PE X (.Dict [] [] pos) Kv:=DS.mono λ _ _ _ h=>h.to
section
variable {prog:Program}{w:World}{A:Around}{E:Value->Shared->Prop}{s:Shared}
end
section
variable {X:Cx}{pos:Pos}
end
def Itv(K:W.Frag)(a:Addr)(xs:List V):It:=
 ⟨λ i H=>SqL K H a xs/\i < xs.length,λ i H x H'=>H'=H/\xs[xs.length - 1 - i]? = some x,λ i _=>i=xs.length⟩
def Ds{P:Program}{w:World}{K:W.Frag}{tg:Expr}(a it:Addr)(xs:List V):Turn P w K tg (Itv K a xs) [it] it (λ i h=>i<=xs.length/\h.IsRevIter it a ((xs.length:Int) - 1 - (i:Int))) where
 mem:=by simp
 obj:=λ i h st b hb=>by
  have e:b=it:=by simpa using hb
  subst e;obtain⟨_,o,e,c,d⟩:=st;exact⟨o,e,λ v z=>by rw [d] at z;cases z⟩
 keep:=λ i h h' st k=>⟨st.1,st.2.at λ o e=>k it (by simp) o e⟩
 item:=by
  intro X hP hw hK hc i pins s σ H E I hf st hg;subst hP hw hK;obtain⟨hq,a3⟩:=hg;obtain⟨its,rv,p,hz⟩:=I.list hq;have hx:xs[xs.length - 1 - i]? = some (xs[xs.length - 1 - i]'(by omega)):=RE (by omega);obtain⟨u,hu,ru⟩:=rv.get hx;obtain⟨f0,f1,f2,f3,f4,f5⟩:=hf it (by simp);have aa:=st.2;rw [show ((xs.length:Int) - 1 - (i:Int))=((xs.length - 1 - i:Nat):Int) by omega] at aa;refine wpAny_pyNext_rev_item aa p.isList (x:=u) (by simpa using hu) λ h' aS sb=>?_;have I1:Inv X pins σ H { s with heap:=h' }:=I.turned (t':=s.toks) (λ b o hb e=>(sb.2 b hb).trans e) f0 f1 f3 f4 f5;obtain⟨o,e,c,d⟩:=id aS;rw [show (((xs.length - 1 - i:Nat):Int) - 1)=(xs.length:Int) - 1 - ((i+1:Nat):Int) by omega] at aS;exact⟨u,rfl,wJ (s:={ s with heap:=h' }) e c d (by decide) ⟨_,H,I1,ru,⟨rfl,hx⟩,⟨a3,aS⟩,λ b hb=>(hf b hb).1⟩⟩
 done:=by
  intro X hP hw hK hc i pins s σ H E I hf st hg;subst hP hw hK;have e:i=xs.length:=hg;subst e;obtain⟨f0,f1,f2,f3,f4,f5⟩:=hf it (by simp);have aa:=st.2;rw [show ((xs.length:Int) - 1 - (xs.length:Int))=-1 by omega] at aa;exact wpAny_pyNext_rev_end (I.ok.hd hc) aa λ h' eb=>⟨rfl,I.turned (t':=s.toks) (λ b o hb e=>eb b o hb e) f0 f1 f3 f4 f5⟩
 self:=λ _ _ _ _ _ st h=>wpAny_pyIter_revIter st.2 h
def Oj(K:W.Frag)(a:Addr)(H:Hp)(R:It->Hp->Prop):List V->Prop:=λ xs=>R (Itv K a xs) H
def Mu(K:W.Frag)(a:Addr)(H:Hp)(R:It->Hp->Prop)(xs:List V):Oj K a H R xs=R (Itv K a xs) H:=rfl
def NK(K:W.Frag)(R:It->Hp->Prop):List V->Hp->Prop:=λ vs H=>match vs with
 | [.ref a]=>aJ (aF H a) (Oj K a H R)
 | _=>False
def Mv(K:W.Frag)(R:It->Hp->Prop)(a:Addr)(H:Hp):NK K R [.ref a] H=aJ (aF H a) (Oj K a H R):=rfl
def QP(K:W.Frag)(ta:TA):TI:=λ σ H R=>ta σ H (NK K R)
def Nd(K:W.Frag)(ta:TA)(σ:St)(H:Hp)(R:It->Hp->Prop):QP K ta σ H R=ta σ H (NK K R):=rfl
section
variable {X:Cx}{tg:Expr}
def Lj{a:Expr}{ta:TA}{p pos:Pos}(hg:Gl X "reversed")(hm:X.mg "reversed"=none)(ha:PA X [a] ta)(hs:starEach [a] X.env=[(false,eval a X.env)]:=by rfl):PI X tg (.Call (.Name "reversed" p) [a] [] pos) (QP X.K ta):=by
 intro pins s σ H R I h;refine Call_ (fB I hg hm (show bootBuiltins "reversed"=some (.type "reversed") by decide +kernel) (PyProof.Rows.callWith_type1 (thn (ha pos pins s σ H _ I h) λ us s1 ⟨vs,H1,I1,r1,q1⟩=>?_) hs rfl));unfold NK at q1;split at q1
 ·rename_i b;obtain⟨xs,e,q⟩:=aq q1
  cases r1 with
  | cons r rr=>
   cases rr;cases r;obtain⟨its,rv,pl,hz⟩:=I1.list (SqL.of (bO e));refine call_reversed_list pl.isList ?_;have hsz:(its.toArray.size:Int)=(xs.length:Int):=by rw [←rv.length.symm];simp
   have I2:Inv X pins σ H1 { s1 with heap:=s1.heap.push (revObj b ((its.toArray.size:Int) - 1)) }:=I1.kept (t':=s1.toks) λ b o e=>RD _ e;have hit:(s1.heap.push (revObj b ((its.toArray.size:Int) - 1))).IsRevIter s1.heap.objs.size b ((xs.length:Int) - 1 - ((0:Nat):Int)):=⟨_,RK _ rfl,rfl,by rw [hsz];simp [revObj]⟩;refine wpAny_pyIter_revIter hit ⟨s1.heap.objs.size,[s1.heap.objs.size],_,_,H1,rfl,I2,Ds b _ xs,⟨SF _,hit⟩,λ c hb=>?_,q⟩;have e:c=s1.heap.objs.size:=by simpa using hb
   subst e;exact I1.fpOk (RJ _) (I1.hok.fresh (RJ _))
 ·exact q1.elim
end
def Jz{K:W.Frag}{a:Addr}{xs:List V}{g:TG}{tb:TS}{nx:St->Hp->Prop}{rt:VK}{bk ct:St->Hp->Prop}{σ:St}{H:Hp}(Pv:Nat->St->Hp->Prop)(h0:Pv 0 σ H)(hl:∀ i σ H,i<=xs.length->Pv i σ H->SqL K H a xs)
  (hs:∀ i x σ H,i < xs.length->xs[xs.length - 1 - i]? = some x->Pv i σ H->g x σ H (wI tb ⟨Pv (i+1),rt,nx,Pv (i+1)⟩)) (hd:∀ σ H,Pv xs.length σ H->nx σ H):JU g tb ⟨nx,rt,bk,ct⟩ σ (Itv K a xs) H:=by
 refine⟨λ i m σ H=>m=xs.length - i/\i<=xs.length/\Pv i σ H,⟨xs.length,by simp,SF _,h0⟩,?_⟩;rintro i m σ H ⟨rfl,hi,p⟩;have q:=hl i σ H hi p
 by_cases hlt:i < xs.length
 ·refine .inr ⟨⟨q,hlt⟩,Pv (i+1),λ σ' H' p'=>⟨xs.length - (i+1),by omega,rfl,hlt,p'⟩,λ x H' y=>?_⟩;obtain⟨e,y⟩:=y;subst e;exact hs i x σ _ hlt y p
 ·have e:i=xs.length:=by omega
  subst e;exact .inl ⟨rfl,hd σ H p⟩
def ma:∀ (n:Nat) (ns:List Int) (val:Nat->Int),(∀ i,val i=ns.getD i 0)->n<=ns.length->preSum val n=(ns.take n).sum
 | 0,ns,val,h,hl=>by simp [preSum]
 | n+1,ns,val,h,hl=>by
  have ih:=ma n ns val h (by omega)
  have e:ns.take (n+1)=ns.take n++[ns.getD n 0]:=by
   rw [List.take_succ,RE (by omega)];simp [List.getD,RE (show n < ns.length by omega)]
  rw [preSum,ih,e,Vm,h];simp
def Gv(H:Hp)(Q:VK):List Int->Prop:=λ ns=>Q (.int ns.sum) H
def Il(H:Hp)(Q:VK)(ns:List Int):Gv H Q ns=Q (.int ns.sum) H:=rfl
def N5:List V->Hp->VK->Prop:=λ vs H Q=>match vs with
 | [.ref p]=>aJ (aF H p) (mR (Gv H Q))
 | _=>False
def Mb(p:Addr)(H:Hp)(Q:VK):N5 [.ref p] H Q=aJ (aF H p) (mR (Gv H Q)):=rfl
def J4(F:List Bool->Prop):List V->Prop:=λ xs=>∃ bs,xs=bs.map V.bl/\F bs
def zU:∀ {ns ms:List Bool},ns.map V.bl=ms.map V.bl->ns=ms
 | [],[],_=>rfl
 | [],_::_,h=>by cases h
 | _::_,[],h=>by cases h
 | i::r,j::t,h=>by
  simp only [Sm,UN,V.bl.injEq] at h;rw [h.1,zU h.2]
def M4(F:List Bool->Prop)(bs:List Bool):J4 F (bs.map V.bl)=F bs:=propext ⟨λ ⟨ms,e,h⟩=>by rw [zU e];exact h,λ h=>⟨bs,rfl,h⟩⟩
def GD(H:Hp)(Q:VK):List Bool->Prop:=λ bs=>Q (.bl (bs.all id)) H
def IQ(H:Hp)(Q:VK)(bs:List Bool):GD H Q bs=Q (.bl (bs.all id)) H:=rfl
def Oa:List V->Hp->VK->Prop:=λ vs H Q=>match vs with
 | [.ref p]=>aJ (aF H p) (J4 (GD H Q))
 | _=>False
def Mh(p:Addr)(H:Hp)(Q:VK):Oa [.ref p] H Q=aJ (aF H p) (J4 (GD H Q)):=rfl
section
variable {X:Cx}
def lT(hc:X.calm=true):bI X (.builtin "sum") N5:=by
 intro pins s σ H vs us Q I r h;unfold N5 at h;split at h
 ·rename_i p;obtain⟨xs,e,ns,rfl,q⟩:=aq h
  cases r with
  | cons r rr=>
   cases rr;cases r;obtain⟨its,rv,pl,hz⟩:=I.list (SqL.of (bO e));have aa:p < s.heap.objs.size:=by obtain⟨_,e,_⟩:=pl.isList;exact RF e
   have hlen:its.length=ns.length:=by have:=rv.length;simpa using this.symm
   refine call_sum_walkAnyS (Ua pl.isList ⟨s.heap.objs.size,_,_,_,_,_,_,λ i=>ns.getD i 0,rfl,(Walks.list (show X.A.in1.handled=none from I.ok.hd hc) _ p (RT aa) its.toArray).toS,⟨⟨_,RK _ rfl,rfl,rfl⟩,pl.isList.push _⟩,λ b hb=>?_,λ i v hP=>?_,λ s' t' hm=>?_⟩)
   ·rw [Sz]
    rcases RZ.mp hb with rfl|hb
    ·exact Tp _
    ·rw [RP.mp hb];exact Nat.lt_succ_of_lt aa
   ·have hv:its[i]? = some v:=by simpa using hP
    have hi:i < ns.length:=by rw [←hlen];exact(RG.mp hv).1
    obtain⟨u,hu,ru⟩:=rv.get (i:=i) (x:=.int (ns.getD i 0)) (by rw [RN,RE hi];simp [List.getD,RE hi]);rw [hv] at hu;cases hu;exact ru
   ·obtain⟨hp,g,d,tk,os⟩:=s'
    have kp:∀ b o,s.heap.get? b=some o->hp.get? b=some o:=λ b o e=>hm.heap b o (λ aS=>by
     have:b=s.heap.objs.size:=by simpa using aS
     subst this;exact absurd (RF e) (SE _)) (RD _ e)
    have e1:g=s.gens:=hm.gens;have e2:d=s.drawn:=hm.drawn;have e3:os=s.os:=hm.os;subst e1 e2 e3;refine⟨.int ns.sum,H,I.kept (t':=tk) kp,?_,q⟩;have es:=ma its.toArray.size ns (λ i=>ns.getD i 0) (λ _=>rfl) (by simp [hlen]);rw [show its.toArray.size=ns.length by simp [hlen],SO] at es;rw [show its.toArray.size=ns.length by simp [hlen],es];exact⟨t',rfl⟩
 ·exact h.elim
def CB(bs:List Bool):(List.range bs.length).all (λ i=>bs.getD i false)=bs.all id:=by
 rw [TK,Ur,Ur];refine⟨λ h x hx=>?_,λ h i hi=>?_⟩
 ·obtain⟨i,hi,e⟩:=TB hx;have:=h i (SH.mpr hi)
  simpa [List.getD,RE hi,e] using this
 ·have aa:=SH.mp hi;have:=h (bs[i]) (T7 aa)
  simpa [List.getD,RE aa] using this
def iS(hc:X.calm=true):bI X (.builtin "all") Oa:=by
 intro pins s σ H vs us Q I r h;unfold Oa at h;split at h
 ·rename_i p;obtain⟨xs,e,bs,rfl,q⟩:=aq h
  cases r with
  | cons r rr=>
   cases rr;cases r;obtain⟨its,rv,pl,hz⟩:=I.list (SqL.of (bO e));have aS:p < s.heap.objs.size:=by obtain⟨_,e,_⟩:=pl.isList;exact RF e
   have hlen:its.length=bs.length:=by have:=rv.length;simpa using this.symm
   refine call_all_walk (Ua pl.isList ⟨s.heap.objs.size,_,_,_,_,_,λ i=>bs.getD i false,rfl,Walks.list (show X.A.in1.handled=none from I.ok.hd hc) _ p (RT aS) its.toArray,⟨⟨_,RK _ rfl,rfl,rfl⟩,pl.isList.push _⟩,λ i v s' Q' E' hP hQ=>?_,λ h' tk hk=>?_⟩)
   ·have hv:its[i]? = some v:=by simpa using hP
    have hi:i < bs.length:=by rw [←hlen];exact(RG.mp hv).1
    obtain⟨u,hu,ru⟩:=rv.get (i:=i) (x:=.bl (bs.getD i false)) (by rw [RN,RE hi];simp [List.getD,RE hi]);rw [hv] at hu;cases hu;have e2:v=.bool (bs.getD i false):=ru;subst e2;exact SQ hQ
   ·have kp:∀ b o,s.heap.get? b=some o->h'.get? b=some o:=λ b o e=>hk b o (λ aa=>by
     have:b=s.heap.objs.size:=by simpa using aa
     subst this;exact absurd (RF e) (SE _)) (RD _ e)
    refine⟨.bl (bs.all id),H,I.kept (t':=tk) kp,?_,q⟩;rw [show its.toArray.size=bs.length by simp [hlen],CB];exact rfl
 ·exact h.elim
end
structure Src(prog:Program)(w:World)(it:Addr)(fr:List Addr)(st:Nat->Heap->Prop)(val:Nat->Option Value):Prop where
 mem:it∈fr
 there:∀ k h,st k h->∀ b∈fr,∃ o,h.get? b=some o
 keep:∀ k h h',st k h->(∀ b∈fr,∀ o,h.get? b=some o->h'.get? b=some o)->st k h'
 item:∀ (A:Around) k s v (Q:Value->Shared->Prop) (E:Value->Shared->Prop),st k s.heap->val k=some v->(∀ h',st (k+1) h'->Heap.SameBut it s.heap h'->Q v { s with heap:=h' })->wpAny (model prog w) A (Builtin.SmallTypes.nextOf (.ref it)) Q E s
 fin:∀ (A:Around) k s (Q:Value->Shared->Prop) (E:Value->Shared->Prop),A.handled=none->st k s.heap->val k=none->(∀ h' e,Heap.ExtBut it s.heap h'->(∃ o,h'.get? e=some o/\o.cls=.type "StopIteration")->E (.ref e) { s with heap:=h' })->wpAny (model prog w) A (Builtin.SmallTypes.nextOf (.ref it)) Q E s
def Du{prog:Program}{w:World}(it l:Addr)(aa:l ≠ it)(xs:Array Value):Src prog w it [it,l] (λ k h=>h.IsListIter it l k/\h.IsList l xs) (λ k=>xs[k]?) where
 mem:=R5
 there:=λ k h st b hb=>by
  rcases RZ.mp hb with e|hb
  ·obtain⟨o,q,_⟩:=st.1;exact⟨o,by rw [e];exact q⟩
  ·obtain⟨o,q,_⟩:=st.2;exact⟨o,by rw [RP.mp hb];exact q⟩
 keep:=λ k h h' st q=>⟨st.1.at λ o e=>q it (by simp) o e,st.2.at λ o e=>q l (by simp) o e⟩
 item:=λ A k s v Q E st hv hQ=>wpAny_nextOf_list_item st.1 st.2 hv λ h' a b=>hQ h' ⟨a,st.2.extBut b.extBut aa⟩ b
 fin:=λ A k s Q E hh st hv hE=>wpAny_nextOf_list_end hh st.1 st.2 hv hE
section
variable {prog:Program}{w:World}{A:Around}{E:Value->Shared->Prop}{s:Shared}
def pz{j t:Addr}{k:Nat}{xs:Array Value}{v:Value}{Q:Value->Shared->Prop}(hj:s.heap.IsTupleIter j t k)(ht:s.heap.IsTuple t xs)(hv:xs[k]? = some v)
  (hQ:∀ g,g.IsTupleIter j t (k+1)->Heap.SameBut j s.heap g->Q v { s with heap:=g }):wpAny (model prog w) A (Builtin.SmallTypes.nextOf (.ref j)) Q E s:=by
 obtain⟨oj,h0,h1,h2⟩:=id hj;obtain⟨ot,g0,_,n,g1⟩:=ht;unfold Builtin.SmallTypes.nextOf;refine wpAny_bind (wpAny_callSpecial?_slot (name:=Str.ofString "__next__") hj.typeIs F.slot_tuple_iterator_next (wpAny_call_entry F.slot_tuple_iterator_next hj.typeIs F.entry_tuple_iterator_next ?_ (F.args_tuple_iterator_next_1 _)));refine wpAny_bind (m:=field (.ref j) 0) (wpAny_field h0 h2 (x:=.ref t) rfl ?_)
 show wpAny _ _ (if (Value.ref t == Value.none)=true then _ else _) _ _ _
 rw [RQ (show ¬ ((.ref t:Value) == .none)=true from RM)];refine My (m:=field (.ref j) 1) (Se h0 h2 (x:=.int k 0) rfl ?_);refine My (m:=seqItems? (.ref t)) (SK g0 g1 ?_);simp only [Sk,hv];refine My (Uc h0 h2 (by simp) (RI ⟨v,rfl,RI (hQ _ ⟨_,R8 _ h0 (S3 (Tg h2 _)),(Obj.cls_mapFields ..).trans h1,?_⟩ (TN ..))⟩));rw [Tg h2];simp [rawInt]
def rS{j t:Addr}{k:Nat}{xs:Array Value}{Q:Value->Shared->Prop}(hh:A.handled=none)(hj:s.heap.IsTupleIter j t k)(ht:s.heap.IsTuple t xs)(hv:xs[k]? = none)
  (hE:∀ g e,Heap.ExtBut j s.heap g->(∃ o,g.get? e=some o/\o.cls=.type "StopIteration")->E (.ref e) { s with heap:=g }):wpAny (model prog w) A (Builtin.SmallTypes.nextOf (.ref j)) Q E s:=by
 obtain⟨oj,h0,h1,h2⟩:=id hj;obtain⟨ot,g0,_,n,g1⟩:=ht;unfold Builtin.SmallTypes.nextOf;refine wpAny_bind (wpAny_callSpecial?_slot (name:=Str.ofString "__next__") hj.typeIs F.slot_tuple_iterator_next (wpAny_call_entry F.slot_tuple_iterator_next hj.typeIs F.entry_tuple_iterator_next ?_ (F.args_tuple_iterator_next_1 _)));refine wpAny_bind (m:=field (.ref j) 0) (wpAny_field h0 h2 (x:=.ref t) rfl ?_)
 show wpAny _ _ (if (Value.ref t == Value.none)=true then _ else _) _ _ _
 rw [RQ (show ¬ ((.ref t:Value) == .none)=true from RM)];refine My (m:=field (.ref j) 1) (Se h0 h2 (x:=.int k 0) rfl ?_);refine My (m:=seqItems? (.ref t)) (SK g0 g1 ?_);simp only [Sk,hv];refine My (U1 (My (Uc h0 h2 (by simp) (My (m:=newExc (.type "StopIteration") []) ?_))));simp only [newExc,newTuple];refine My (SV (My (m:=firstArgMember _ _) (wpAny_of_eq (a:=Value.none) (by first|rfl|(simp only [firstArgMember];rfl)) (SV ?_ (by size_fits)))) (by size_fits));simp only [raiseNew]
 refine My (wpAny_handled ?_);first|rw [show A.in1.handled=none from hh]|rw [hh]
 exact My (RI (wpAny_throw (hE _ _ (((TN ..).extBut.push _).push _) ⟨_,RK _ rfl,rfl⟩)))
def GZ(it l:Addr)(aa:l ≠ it)(xs:Array Value):Src prog w it [it,l] (λ k h=>h.IsTupleIter it l k/\h.IsTuple l xs) (λ k=>xs[k]?) where
 mem:=R5
 there:=λ k h st b hb=>by
  rcases RZ.mp hb with e|hb
  ·obtain⟨o,q,_⟩:=st.1;exact⟨o,by rw [e];exact q⟩
  ·obtain⟨o,q,_⟩:=st.2;exact⟨o,by rw [RP.mp hb];exact q⟩
 keep:=λ k h h' st q=>⟨st.1.at λ o e=>q it (by simp) o e,st.2.at λ o e=>q l (by simp) o e⟩
 item:=λ A k s v Q E st hv hQ=>pz st.1 st.2 hv λ h' a b=>hQ h' ⟨a,st.2.extBut b.extBut aa⟩ b
 fin:=λ A k s Q E hh st hv hE=>rS hh st.1 st.2 hv hE
structure fC(z TI TO i j:Addr)(f g:List Addr):Prop where
 ti:TI ≠ z/\TI ≠ TO/\TI ≠ i/\TI ≠ j
 zt:z ≠ TO
 zf:z ∉ f
 zg:z ∉ g
 tf:TO ∉ f
 tg:TO ∉ g
 ig:i ∉ g
 jf:j ∉ f
variable {z TI TO i j:Addr}{f g:List Addr}{ti tj:Nat->Heap->Prop}{vi vj:Nat->Option Value}{k m:Nat}{x y a b:Value}
def dH{p q:Addr}{l:List Addr}(hp:p∈l)(hq:q ∉ l):p ≠ q:=λ e=>hq (e ▸ hp)
def Src.but{prog:Program}{w:World}{it:Addr}{fr:List Addr}{st:Nat->Heap->Prop}{val:Nat->Option Value}(S:Src prog w it fr st val){k:Nat}{c:Addr}{h h':Heap}(q:st k h)(e:Heap.ExtBut c h h')(hc:c ∉ fr):st k h':=
 S.keep k h h' q λ b hb o ho=>e b o (dH hb hc) ho
def Aj(S:Src prog w i f ti vi)(T:Src prog w j g tj vj)(D:fC z TI TO i j f g){Q:Value->Shared->Prop}
  (hz:IsZip s.heap z TI TO .none) (aS:IsPair s.heap TI (.ref i) (.ref j)) (a3:IsPair s.heap TO a b) (hi:ti k s.heap) (hj:tj m s.heap) (hx:vi k=some x) (hy:vj m=some y)
  (hQ:∀ h',IsZip h' z TI TO (rawInt s.heap.objs.size)->IsPair h' TO x y->ti (k+1) h'->tj (m+1) h'->IsPair h' s.heap.objs.size x y->h'.objs.size=s.heap.objs.size+1->(∀ c o,c ∉ [z,TO,i,j]->s.heap.get? c=some o->h'.get? c=some o)->Q (.ref s.heap.objs.size) { s with heap:=h' }) :
  wpAny (model prog w) A (Builtin.«zip.__next__» ⟨[.ref z],[]⟩) (λ fin s'=>∃ v,fin=.done (.ret v)/\Q v s') E s:=by
 have iz:i ≠ z:=dH S.mem D.zf;have jz:j ≠ z:=dH T.mem D.zg;have a4:i ≠ TO:=dH S.mem D.tf;have a5:j ≠ TO:=dH T.mem D.tg;have ij:i ≠ j:=dH S.mem D.jf;refine wpAny_bind (m:=field (.ref z) 2) (wpAny_field hz rfl (x:=.bool false) rfl ?_);refine wpAny_bind (m:=field (.ref z) 3) (wpAny_field hz rfl (x:=.ref TI) rfl (wpAny_bind (wpAny_seqItems aS rfl ?_)));refine wpAny_bind (m:=Builtin.SmallTypes.ownedTupleIsFree (.ref z)) ?_;unfold Builtin.SmallTypes.ownedTupleIsFree;refine wpAny_bind (wpAny_field hz rfl (x:=.none) rfl (wpAny_pure ?_));simp only [if_true];refine wpAny_bind (wpAny_rule (wpAny_bind (wpAny_field hz rfl (x:=.ref TO) rfl (wpAny_bind (wpAny_setField_rec hz (by simp) λ q1 z1 s1=>?_)))));replace z1:IsZip q1 z TI TO .ellipsis:=z1;refine wpAny_bind ?_;simp only [List.zipIdx_cons,List.zipIdx_nil,forIn_cons,List.forIn_nil];refine wpAny_bind (wpAny_bind (wpAny_onRaise (wpAny_bind (m:=Builtin.SmallTypes.nextOf (.ref i)) (S.item _ k _ x _ _ (S.but hi s1.extBut D.zf) hx λ q2 i2 s2=>wpAny_pure ?_))));have o2:IsPair q2 TO a b:=s2.extBut _ _ a4.symm (s1.extBut _ _ D.zt.symm a3);refine wpAny_bind (wpAny_seqItems o2 rfl (wpAny_bind (wpAny_updateSeq_pair o2 λ q3 o3 s3=>wpAny_bind (wpAny_letGo (wpAny_pure ?_)))));replace o3:IsPair q3 TO x b:=o3;have j3:tj m q3:=T.but (T.but (T.but hj s1.extBut D.zg) s2.extBut D.ig) s3.extBut D.tg;refine wpAny_bind (wpAny_bind (wpAny_onRaise (wpAny_bind (m:=Builtin.SmallTypes.nextOf (.ref j)) (T.item _ m _ y _ _ j3 hy λ q4 j4 s4=>wpAny_pure ?_))));have o4:IsPair q4 TO x b:=s4.extBut _ _ a5.symm o3;refine wpAny_bind (wpAny_seqItems o4 rfl (wpAny_bind (wpAny_updateSeq_pair o4 λ q5 o5 s5=>wpAny_bind (wpAny_letGo (wpAny_pure (wpAny_pure ?_))))));replace o5:IsPair q5 TO x y:=o5;refine wpAny_bind (wpAny_seqItems o5 rfl (wpAny_bind (wpAny_newTuple ?_)));have sz:q5.objs.size=s.heap.objs.size:=by rw [s5.1,s4.1,s3.1,s2.1,s1.1]
 have z5:IsZip q5 z TI TO .ellipsis:=s5.extBut _ _ D.zt (s4.extBut _ _ jz.symm (s3.extBut _ _ D.zt (s2.extBut _ _ iz.symm z1)))
 have k5:∀ c o,c ∉ [z,TO,i,j]->s.heap.get? c=some o->q5.get? c=some o:=λ c o hc e=>by
  simp only [RZ,RS,Sb,T6] at hc;exact s5.extBut _ _ hc.2.1 (s4.extBut _ _ hc.2.2.2 (s3.extBut _ _ hc.2.1 (s2.extBut _ _ hc.2.2.1 (s1.extBut _ _ hc.1 e))))
 have i5:ti (k+1) q5:=S.but (S.but (S.but i2 s3.extBut D.tf) s4.extBut D.jf) s5.extBut D.tf;have j5:tj (m+1) q5:=T.but j4 s5.extBut D.tg;have aa:z < q5.objs.size:=Heap.lt_size z5;refine wpAny_bind (m:=Builtin.SmallTypes.ownedTupleHandOut (.ref z) (.ref q5.objs.size)) ?_;unfold Builtin.SmallTypes.ownedTupleHandOut;have z6:IsZip (q5.push { cls:=.type "tuple",data:=.seq #[x,y] }) z TI TO .ellipsis:=Heap.get?_push_of_some _ z5;refine wpAny_bind (wpAny_setField_rec z6 (by simp) λ q7 z7 s7=>?_);replace z7:IsZip q7 z TI TO (rawInt q5.objs.size):=z7;refine wpAny_setField_rec z7 (by simp) λ q8 z8 s8=>?_;replace z8:IsZip q8 z TI TO (rawInt q5.objs.size):=z8;have up:∀ c o,c ≠ z->q5.get? c=some o->q8.get? c=some o:=λ c o hc e=>s8.extBut _ _ hc (s7.extBut _ _ hc (Heap.get?_push_of_some _ e));have t8:IsPair q8 q5.objs.size x y:=s8.extBut _ _ (Nat.ne_of_gt aa) (s7.extBut _ _ (Nat.ne_of_gt aa) (Heap.get?_push_size _ rfl));have n8:q8.objs.size=q5.objs.size+1:=by rw [s8.1,s7.1,Heap.size_push]
 rw [sz] at z8 t8 n8;refine RI ⟨_,rfl,?_⟩
 show Q (.ref q5.objs.size) _
 rw [sz];exact hQ q8 z8 (up _ _ D.zt.symm o5) (S.keep _ _ _ i5 λ c hc o e=>up c o (dH hc D.zf) e) (T.keep _ _ _ j5 λ c hc o e=>up c o (dH hc D.zg) e) t8 n8 λ c o hc e=>up c o (λ q=>hc (by simp [q])) (k5 c o hc e)
def Di(hh:A.handled=none)(S:Src prog w i f ti vi)(T:Src prog w j g tj vj)(D:fC z TI TO i j f g){Q:Fin->Shared->Prop}
  (hz:IsZip s.heap z TI TO .none) (aS:IsPair s.heap TI (.ref i) (.ref j)) (a3:IsPair s.heap TO a b) (hi:ti k s.heap) (hj:tj m s.heap) (a4:vi k=none\/vj m=none)
  (hE:∀ h' e,(∀ c o,c ∉ [z,TO,i,j]->s.heap.get? c=some o->h'.get? c=some o)->(∃ o,h'.get? e=some o/\o.cls=.type "StopIteration")->E (.ref e) { s with heap:=h' }) :
  wpAny (model prog w) A (Builtin.«zip.__next__» ⟨[.ref z],[]⟩) Q E s:=by
 have iz:i ≠ z:=dH S.mem D.zf;have jz:j ≠ z:=dH T.mem D.zg;have a5:i ≠ TO:=dH S.mem D.tf;have a6:j ≠ TO:=dH T.mem D.tg;refine wpAny_bind (m:=field (.ref z) 2) (wpAny_field hz rfl (x:=.bool false) rfl ?_);refine wpAny_bind (m:=field (.ref z) 3) (wpAny_field hz rfl (x:=.ref TI) rfl (wpAny_bind (wpAny_seqItems aS rfl ?_)));refine wpAny_bind (m:=Builtin.SmallTypes.ownedTupleIsFree (.ref z)) ?_;unfold Builtin.SmallTypes.ownedTupleIsFree;refine wpAny_bind (wpAny_field hz rfl (x:=.none) rfl (wpAny_pure ?_));simp only [if_true];refine wpAny_bind (wpAny_rule (wpAny_bind (wpAny_field hz rfl (x:=.ref TO) rfl (wpAny_bind (wpAny_setField_rec hz (by simp) λ q1 z1 s1=>?_)))));replace z1:IsZip q1 z TI TO .ellipsis:=z1;refine wpAny_bind ?_;simp only [List.zipIdx_cons,List.zipIdx_nil,forIn_cons,List.forIn_nil];refine wpAny_bind (wpAny_bind (wpAny_onRaise (wpAny_bind (m:=Builtin.SmallTypes.nextOf (.ref i)) ?_)))
 cases hx:vi k with
 | none=>
  refine S.fin _ k _ _ _ hh (S.but hi s1.extBut D.zf) hx λ q2 e s2 ⟨oe,he,aa⟩=>?_;have z2:IsZip q2 z TI TO .ellipsis:=s2 _ _ iz.symm z1;have ez:e ≠ z:=λ q=>by subst q;rw [z2] at he;cases he;simp at aa
  refine S2 z2 (by simp) λ q3 _ s3=>hE q3 e (λ c o hc q=>?_) ⟨oe,s3.extBut _ _ ez he,aa⟩;simp only [RZ,RS,Sb,T6] at hc;exact s3.extBut _ _ hc.1 (s2 _ _ hc.2.2.1 (s1.extBut _ _ hc.1 q))
 | some x=>
  have hy:vj m=none:=a4.resolve_left (by rw [hx];exact Option.some_ne_none x);refine S.item _ k _ x _ _ (S.but hi s1.extBut D.zf) hx λ q2 i2 s2=>RI ?_;have o2:IsPair q2 TO a b:=s2.extBut _ _ a5.symm (s1.extBut _ _ D.zt.symm a3);refine My (SK o2 rfl (My (U2 o2 λ q3 o3 s3=>My (Vd (RI ?_)))));have j3:tj m q3:=T.but (T.but (T.but hj s1.extBut D.zg) s2.extBut D.ig) s3.extBut D.tg;refine My (My (Vj (My (m:=Builtin.SmallTypes.nextOf (.ref j)) (T.fin _ m _ _ _ hh j3 hy λ q4 e s4 ⟨oe,he,aa⟩=>?_))));have z4:IsZip q4 z TI TO .ellipsis:=s4 _ _ jz.symm (s3.extBut _ _ D.zt (s2.extBut _ _ iz.symm z1));have ez:e ≠ z:=λ q=>by subst q;rw [z4] at he;cases he;simp at aa
  refine S2 z4 (by simp) λ q5 _ s5=>hE q5 e (λ c o hc q=>?_) ⟨oe,s5.extBut _ _ ez he,aa⟩;simp only [RZ,RS,Sb,T6] at hc;exact s5.extBut _ _ hc.1 (s4 _ _ hc.2.2.2 (s3.extBut _ _ hc.2.1 (s2.extBut _ _ hc.2.2.1 (s1.extBut _ _ hc.1 q))))
def gG(S:Src prog w i f ti vi)(T:Src prog w j g tj vj)(D:fC z TI TO i j f g){Q:Option Value->Shared->Prop}
  (hz:IsZip s.heap z TI TO .none) (aa:IsPair s.heap TI (.ref i) (.ref j)) (aS:IsPair s.heap TO a b) (hi:ti k s.heap) (hj:tj m s.heap) (hx:vi k=some x) (hy:vj m=some y)
  (hQ:∀ h',IsZip h' z TI TO (rawInt s.heap.objs.size)->IsPair h' TO x y->ti (k+1) h'->tj (m+1) h'->IsPair h' s.heap.objs.size x y->h'.objs.size=s.heap.objs.size+1->(∀ c o,c ∉ [z,TO,i,j]->s.heap.get? c=some o->h'.get? c=some o)->Q (some (.ref s.heap.objs.size)) { s with heap:=h' }) :
  wpAny (model prog w) A (pyNext (.ref z)) Q E s:=by
 have ty:s.TypeIs (.ref z) "zip":=⟨_,hz,rfl⟩;unfold pyNext;exact wpAny_bind (wpAny_attempt (wpAny_callSpecial?_slot (name:=Str.ofString "__next__") ty F.slot_zip_next (wpAny_call_entry F.slot_zip_next ty F.entry_zip_next (Aj S T D hz aa aS hi hj hx hy λ h' c1 c2 c3 c4 c5 c6 c7=>wpAny_pure (hQ h' c1 c2 c3 c4 c5 c6 c7)) (F.args_zip_next_1 _))))
def iW(hh:A.handled=none)(S:Src prog w i f ti vi)(T:Src prog w j g tj vj)(D:fC z TI TO i j f g){Q:Option Value->Shared->Prop}
  (hz:IsZip s.heap z TI TO .none) (aa:IsPair s.heap TI (.ref i) (.ref j)) (aS:IsPair s.heap TO a b) (hi:ti k s.heap) (hj:tj m s.heap) (a3:vi k=none\/vj m=none)
  (hQ:∀ h',(∀ c o,c ∉ [z,TO,i,j]->s.heap.get? c=some o->h'.get? c=some o)->Q none { s with heap:=h' }):wpAny (model prog w) A (pyNext (.ref z)) Q E s:=by
 have ty:s.TypeIs (.ref z) "zip":=⟨_,hz,rfl⟩;unfold pyNext;refine wpAny_bind (wpAny_attempt (wpAny_callSpecial?_slot (name:=Str.ofString "__next__") ty F.slot_zip_next (wpAny_call_entry F.slot_zip_next ty F.entry_zip_next (Di (show A.in1.handled=none from hh) S T D hz aa aS hi hj a3 λ h' e kp he=>?_) (F.args_zip_next_1 _))));obtain⟨o,ho,hc⟩:=he;exact wpAny_bind (wpAny_isInstance (T := "StopIteration") (b:=true) ⟨o,ho,hc⟩ isSubtype_stop (wpAny_pure (hQ _ kp)))
end
def SeqAt(h:Heap)(k:Bool)(l:Addr)(xs:Array Value):Prop:=match k with
 | true=>h.IsTuple l xs
 | false=>h.IsList l xs
def cS(h:Heap)(k:Bool)(it l:Addr)(n:Nat):Prop:=match k with
 | true=>h.IsTupleIter it l n
 | false=>h.IsListIter it l n
def CY(k:Bool)(l:Addr):Obj:=match k with
 | true=>{ cls:=.type "tuple_iterator",data:=.fields #[.ref l,.int 0 0] }
 | false=>{ cls:=.type "list_iterator",data:=.fields #[.ref l,.int 0 0] }
def SeqAt.at{h h':Heap}{k:Bool}{l:Addr}{xs:Array Value}(q:SeqAt h k l xs)(e:∀ o,h.get? l=some o->h'.get? l=some o):SeqAt h' k l xs:=by
 cases k
 ·exact Heap.IsList.at q e
 ·exact Heap.IsTuple.at q e
def SeqAt.obj{h:Heap}{k:Bool}{l:Addr}{xs:Array Value}(q:SeqAt h k l xs):∃ o n,h.get? l=some o/\o.data=.seq xs n:=by
 cases k
 ·obtain⟨o,e,_,n,d⟩:=(show h.IsList l xs from q);exact⟨o,n,e,d⟩
 ·obtain⟨o,e,_,n,d⟩:=(show h.IsTuple l xs from q);exact⟨o,n,e,d⟩
def cS.at{h h':Heap}{k:Bool}{it l:Addr}{n:Nat}(q:cS h k it l n)(e:∀ o,h.get? it=some o->h'.get? it=some o):cS h' k it l n:=by
 cases k
 ·exact Heap.IsListIter.at q e
 ·exact Heap.IsTupleIter.at q e
def cS.obj{h:Heap}{k:Bool}{it l:Addr}{n:Nat}(q:cS h k it l n):∃ o fs,h.get? it=some o/\o.data=.fields fs:=by
 cases k
 ·obtain⟨o,e,_,d⟩:=(show h.IsListIter it l n from q);exact⟨o,_,e,d⟩
 ·obtain⟨o,e,_,d⟩:=(show h.IsTupleIter it l n from q);exact⟨o,_,e,d⟩
def jQ{prog:Program}{w:World}(k:Bool)(it l:Addr)(aa:l ≠ it)(xs:Array Value):Src prog w it [it,l] (λ n h=>cS h k it l n/\SeqAt h k l xs) (λ n=>xs[n]?):=by
 cases k
 ·exact Du it l aa xs
 ·exact GZ it l aa xs
section
variable {prog:Program}{w:World}{A:Around}{E:Value->Shared->Prop}{s:Shared}
def zF{k:Bool}{l:Addr}{xs:Array Value}{Q:Value->Shared->Prop}(h:SeqAt s.heap k l xs)(hQ:Q (.ref s.heap.objs.size) { s with heap:=s.heap.push (CY k l) }):wpAny (model prog w) A (pyIter (.ref l)) Q E s:=by
 cases k
 ·exact Ua h hQ
 ·exact wpAny_pyIter_tuple h hQ
abbrev zq1(ka:Bool)(a:Addr)(h:Heap):Heap:=h.push (CY ka a)
abbrev zq2(ka kb:Bool)(a b:Addr)(h:Heap):Heap:=(zq1 ka a h).push (CY kb b)
abbrev zq3(ka kb:Bool)(a b:Addr)(h:Heap):Heap:=(zq2 ka kb a b h).push { cls:=.type "tuple",data:=.seq #[.ref h.objs.size,.ref (zq1 ka a h).objs.size] }
abbrev zq4(ka kb:Bool)(a b:Addr)(h:Heap):Heap:=(zq3 ka kb a b h).push { cls:=.type "tuple",data:=.seq #[.none,.none] }
abbrev zq5(ka kb:Bool)(a b:Addr)(h:Heap):Heap:=(zq4 ka kb a b h).push { cls:=.type "zip",data:=.fields #[.none,.bool false,.bool false,.ref (zq2 ka kb a b h).objs.size,.ref (zq3 ka kb a b h).objs.size] }
def Ah(ka kb:Bool)(a b:Addr)(xs ys:Array Value):Meets (Builtin.«zip.__new__» ⟨[.type "zip",.ref a,.ref b],[]⟩) (λ _ R s=>SeqAt s.heap ka a xs/\SeqAt s.heap kb b ys/\R (.ok (.ret (.ref (zq4 ka kb a b s.heap).objs.size))) { s with heap:=zq5 ka kb a b s.heap }):=
 .of_wp λ prog w A R s h=>by
  obtain⟨hp,g,d,tk,os⟩:=s;obtain⟨h1,h2,h⟩:=h;have aa:=sub_zip;have q1:SeqAt (Shared.heap ⟨hp,g,d,tk,os⟩) ka a xs:=h1;have q2:SeqAt (Shared.heap ⟨hp.push (CY ka a),g,d,tk,os⟩) kb b ys:=h2.at λ o e=>RD _ e
  wp_walk using zF q1,zF q2
  exact⟨_,rfl,h⟩
def zO{ka kb:Bool}{a b:Addr}{xs ys:Array Value}{Q:Value->Shared->Prop}(h1:SeqAt s.heap ka a xs)(h2:SeqAt s.heap kb b ys)
  (h:∀ h' n,n=s.heap.objs.size->IsZip h' (n+4) (n+2) (n+3) .none->IsPair h' (n+2) (.ref n) (.ref (n+1))->IsPair h' (n+3) .none .none->cS h' ka n a 0->cS h' kb (n+1) b 0->h'.objs.size=n+5->(∀ c o,s.heap.get? c=some o->h'.get? c=some o)->Q (.ref (n+4)) { s with heap:=h' }) :
  wpAny (model prog w) A (call (.type "zip") [.ref a,.ref b]) Q E s:=by
 refine callType_new F.called_zip (by decide) (F.typeCall_zip_2 _ _) (F.newCall_zip_2 _ _) (λ ob=>F.args_object_init_3 ob _ _) F.entry_zip_new (Ah ka kb a b xs ys) ⟨h1,h2,?_⟩;have n1:(zq1 ka a s.heap).objs.size=s.heap.objs.size+1:=Sz ..;have n2:(zq2 ka kb a b s.heap).objs.size=s.heap.objs.size+2:=by rw [Sz,n1]
 have n3:(zq3 ka kb a b s.heap).objs.size=s.heap.objs.size+3:=by rw [Sz,n2]
 have n4:(zq4 ka kb a b s.heap).objs.size=s.heap.objs.size+4:=by rw [Sz,n3]
 have n5:(zq5 ka kb a b s.heap).objs.size=s.heap.objs.size+5:=by rw [Sz,n4]
 have f1:cS (zq1 ka a s.heap) ka s.heap.objs.size a 0:=by
  cases ka<;>exact⟨_,RK _ rfl,rfl,rfl⟩
 have f2:cS (zq2 ka kb a b s.heap) kb (zq1 ka a s.heap).objs.size b 0:=by
  cases kb<;>exact⟨_,RK _ rfl,rfl,rfl⟩
 have u2:∀ c o,(zq2 ka kb a b s.heap).get? c=some o->(zq5 ka kb a b s.heap).get? c=some o:=λ c o e=>RD _ (RD _ (RD _ e));have g5:(zq5 ka kb a b s.heap).get? (zq4 ka kb a b s.heap).objs.size=some _:=RK _ rfl;have g4:(zq5 ka kb a b s.heap).get? (zq3 ka kb a b s.heap).objs.size=some _:=RD _ (RK _ rfl);have g3:(zq5 ka kb a b s.heap).get? (zq2 ka kb a b s.heap).objs.size=some _:=RD _ (RD _ (RK _ rfl));have e1:cS (zq5 ka kb a b s.heap) ka s.heap.objs.size a 0:=f1.at λ o e=>u2 _ o (RD _ e);have e2:cS (zq5 ka kb a b s.heap) kb (zq1 ka a s.heap).objs.size b 0:=f2.at λ o e=>u2 _ o e
 show _/\_
 rw [n2,n3,n4] at g5;rw [n1,n2] at g3;rw [n3] at g4;rw [n1] at e2;rw [n4];exact⟨⟨_,g5,rfl⟩,h _ _ rfl g5 g3 g4 e1 e2 n5 λ c o e=>u2 c o (RD _ (RD _ e))⟩
end
section
variable {X:Cx}{pins:List (Addr × Obj)}{σ:List (Option V)}{H:Hp}{s:Shared}{h':Heap}
def Inv.turnNew{t':Nat}{ch:List Addr}{n:Addr}{o:HO}(I:Inv X pins σ H s)(aa:∀ b∈ch,sF X pins H b)(k:∀ b ob,b ∉ ch->s.heap.get? b=some ob->h'.get? b=some ob)(hn:s.heap.objs.size<=n)(new:bw X.prog X.w (upd H n o) h' n o) :
  Inv X pins σ (upd H n o) { s with heap:=h',toks:=t' }:=by
 have fn:=I.hok.fresh hn;have up:∀ {b u},H b=some u->upd H n o b=some u:=λ {b u} e=>by rw [ah (b7 e fn)];exact e
 have aS:∀ {b u},H b=some u->b ∉ ch:=λ {b u} e z=>by rw [(aa b z).1] at e;cases e
 refine I.step (g':=s.gens) (d':=s.drawn) (ch:=ch) (λ b hb=>⟨(aa b hb).2.2.2.1,(aa b hb).2.1,(aa b hb).2.2.2.2.1,(aa b hb).2.2.2.2.2⟩) (λ b ob _ _ hc e _=>k b ob hc e) (λ b ob _ _ hc e _=>⟨ob.slots,k b ob hc e⟩)
  (λ b ob _ e q=>?_) (λ b ob hc e=>⟨ob,k b ob hc e⟩) (λ _ _ e=>up e) (λ _ _ _ e=>up e) (λ b ps e=>⟨#[],by rw [up e];simp⟩) (λ m hm=>?_) (λ b u e=>?_) I.bare
 ·rw [ah (RT (RV (RF e) hn))];exact q
 ·obtain⟨ol,es,ep,ho,r⟩:=hm;exact⟨ol,es,ep,k _ ol (λ z=>(aa _ z).2.1 rfl) ho,r⟩
 ·by_cases hb:b=n
  ·subst hb;rw [ai] at e;cases e;exact new
  ·rw [ah hb] at e;refine(I.hok b u e).stay (λ c v hc q=>k c v ?_ q) (λ c q=>up q) λ c xs q=>up q
   rcases hc with rfl|hc
   ·exact aS e
   ·exact aS hc
def Inv.turnL{t':Nat}{ch:List Addr}(I:Inv X pins σ H s)(aa:∀ b∈ch,sF X pins H b)(k:∀ b ob,b ∉ ch->s.heap.get? b=some ob->h'.get? b=some ob):Inv X pins σ H { s with heap:=h',toks:=t' }:=by
 have aS:∀ {b u},H b=some u->b ∉ ch:=λ {b u} e z=>by rw [(aa b z).1] at e;cases e
 refine I.step (g':=s.gens) (d':=s.drawn) (ch:=ch) (λ b hb=>⟨(aa b hb).2.2.2.1,(aa b hb).2.1,(aa b hb).2.2.2.2.1,(aa b hb).2.2.2.2.2⟩) (λ b ob _ _ hc e _=>k b ob hc e) (λ b ob _ _ hc e _=>⟨ob.slots,k b ob hc e⟩)
  (λ _ _ _ _ q=>q) (λ b ob hc e=>⟨ob,k b ob hc e⟩) (λ _ _ e=>e) (λ _ _ _ e=>e) (λ b ps e=>⟨#[],by rw [e];simp⟩) (λ m hm=>?_) (λ b u e=>?_) I.bare
 ·obtain⟨ol,es,ep,ho,r⟩:=hm;exact⟨ol,es,ep,k _ ol (λ z=>(aa _ z).2.1 rfl) ho,r⟩
 ·refine(I.hok b u e).stay (λ c v hc q=>k c v ?_ q) (λ _ q=>q) λ _ _ q=>q
  rcases hc with rfl|hc
  ·exact aS e
  ·exact aS hc
end
def SqK(k:Bool)(H:Hp)(a:Addr)(xs:List V):Prop:=match k with
 | true=>H a=some (.tup xs)
 | false=>H a=some (.lst xs)
def SqK.ne{k:Bool}{H:Hp}{a b:Addr}{xs:List V}(h:SqK k H a xs)(e:H b=none):a ≠ b:=λ z=>by
 subst z;cases k
 ·rw [show H a=some (.lst xs) from h] at e;cases e
 ·rw [show H a=some (.tup xs) from h] at e;cases e
def Inv.sq{X:Cx}{pins:List (Addr × Obj)}{σ:St}{H:Hp}{s:Shared}{k:Bool}{a:Addr}{xs:List V}(I:Inv X pins σ H s)(h:SqK k H a xs):∃ its:List Value,aW xs its/\SeqAt s.heap k a its.toArray:=by
 cases k
 ·obtain⟨its,r,p,_⟩:=I.list (SqL.of h);exact⟨its,r,p.isList⟩
 ·obtain⟨its,r,p,_⟩:=I.tuple (SqT.of h);exact⟨its,r,p⟩
def Itz(ka kb:Bool)(a b:Addr)(xs ys:List V):It:=
 ⟨λ i H=>SqK ka H a xs/\SqK kb H b ys/\i < xs.length/\i < ys.length,λ i H x H'=>∃ p u v,H p=none/\x=.ref p/\xs[i]? = some u/\ys[i]? = some v/\H'=upd H p (.tup [u,v]),λ i H=>SqK ka H a xs/\SqK kb H b ys/\(xs.length<=i\/ys.length<=i)⟩
def Tnz(ka kb:Bool)(a b z TI TO p q:Addr)(i:Nat)(h:Heap):Prop:=IsZip h z TI TO .none/\IsPair h TI (.ref p) (.ref q)/\(∃ u v,IsPair h TO u v)/\cS h ka p a i/\cS h kb q b i
def Dq{P:Program}{w:World}{K:W.Frag}{elts:List Expr}{x1}{tp:Pos}(ka kb:Bool)(a b z TI TO p q:Addr)(xs ys:List V)(nd:[z,TI,TO,p,q].Nodup):Turn P w K (.Tuple elts x1 tp) (Itz ka kb a b xs ys) [z,TI,TO,p,q] z (Tnz ka kb a b z TI TO p q) where
 mem:=R5
 obj:=λ i h st c hc=>by
  obtain⟨e1,e2,⟨u,v,e3⟩,e4,e5⟩:=st;simp only [RZ,RS,Sb] at hc
  rcases hc with rfl|rfl|rfl|rfl|rfl
  ·exact⟨_,e1,λ v z=>by cases z⟩
  ·exact⟨_,e2,λ v z=>by cases z⟩
  ·exact⟨_,e3,λ v z=>by cases z⟩
  ·obtain⟨o,fs,e,d⟩:=e4.obj;exact⟨o,e,λ v z=>by rw [d] at z;cases z⟩
  ·obtain⟨o,fs,e,d⟩:=e5.obj;exact⟨o,e,λ v z=>by rw [d] at z;cases z⟩
 keep:=λ i h h' st k=>by
  obtain⟨e1,e2,⟨u,v,e3⟩,e4,e5⟩:=st;exact⟨k z (by simp) _ e1,k TI (by simp) _ e2,⟨u,v,k TO (by simp) _ e3⟩,e4.at λ o e=>k p (by simp) o e,e5.at λ o e=>k q (by simp) o e⟩
 item:=by
  intro X hP hw hK hc i pins s σ H E I hf st hg;subst hP hw hK;obtain⟨e1,e2,⟨u0,v0,e3⟩,e4,e5⟩:=st;obtain⟨ha,hb,l1,l2⟩:=hg;obtain⟨as,ra,sa⟩:=I.sq ha;obtain⟨bs,rb,sb⟩:=I.sq hb;have hx:xs[i]? = some xs[i]:=RE l1;have hy:ys[i]? = some ys[i]:=RE l2;obtain⟨u,hu,ru⟩:=ra.get hx;obtain⟨v,hv,rv⟩:=rb.get hy;have free:∀ c∈[z,TI,TO,p,q],H c=none:=λ c h=>(hf c h).1;have aa:∀ c∈[z,TI,TO,p,q],a ≠ c:=λ c h=>ha.ne (free c h);have aS:∀ c∈[z,TI,TO,p,q],b ≠ c:=λ c h=>hb.ne (free c h);simp only [SY,RZ,RS,Sb,T6,TV,and_true,UE] at nd;obtain⟨⟨z1,z2,z3,z4⟩,⟨t1,t2,t3⟩,⟨w1,w2⟩,y1⟩:=nd;have S:=jQ (prog:=X.prog) (w:=X.w) ka p a (aa p (by simp)) as.toArray;have T:=jQ (prog:=X.prog) (w:=X.w) kb q b (aS q (by simp)) bs.toArray;have D:fC z TI TO p q [p,a] [q,b]:=⟨⟨RO z1,t1,t2,t3⟩,z2,by simp [z3,RO (aa z (by simp))],by simp [z4,RO (aS z (by simp))],by simp [w1,RO (aa TO (by simp))],by simp [w2,RO (aS TO (by simp))],by simp [y1,RO (aS p (by simp))],by simp [RO y1,RO (aa q (by simp))]⟩;refine gG S T D e1 e2 e3 ⟨e4,sa⟩ ⟨e5,sb⟩ (x:=u) (y:=v) (by simpa using hu) (by simpa using hv) λ h1 c1 c2 c3 c4 c5 c6 c7=>?_;refine⟨_,rfl,wpAny_letOwnedTupleGo_zip (s:={ s with heap:=h1 }) c1 λ h2 d1 d2=>?_⟩;have lt:z < s.heap.objs.size:=RF e1;have kp:∀ c o,c ∉ [z,TO,p,q]->s.heap.get? c=some o->h2.get? c=some o:=λ c o hc e=>d2.extBut _ _ (λ q=>hc (by simp [q])) (c7 c o hc e);have hn:h2.get? s.heap.objs.size=some { cls:=.type "tuple",data:=.seq #[u,v] }:=d2.extBut _ _ (So lt) c5;have I2:Inv X pins σ (upd H s.heap.objs.size (.tup [xs[i],ys[i]])) { s with heap:=h2 }:=I.turnNew (t':=s.toks) (ch:=[z,TO,p,q]) (λ c hc=>hf c (by simp only [RZ,RS,Sb] at hc ⊢;rcases hc with h|h|h|h<;>simp [h])) kp (RJ _) ⟨(show 2<=sizeLine by decide),[u,v],.cons ru (.cons rv .nil),⟨_,hn,rfl,_,rfl⟩⟩;have fr:H s.heap.objs.size=none:=I.hok.fresh (RJ _);refine⟨.ref s.heap.objs.size,_,I2,rfl,⟨_,_,_,fr,rfl,hx,hy,rfl⟩,⟨d1,d2.extBut _ _ (RO z1) (c7 TI _ (by simp [RO z1,t1,t2,t3]) e2),⟨u,v,d2.extBut _ _ (RO z2) c2⟩,c3.1.at λ o e=>d2.extBut _ _ (RO z3) e,c4.1.at λ o e=>d2.extBut _ _ (RO z4) e⟩,λ c hc=>?_⟩
  obtain⟨o,ho,_⟩:∃ o,s.heap.get? c=some o/\True:=by
   simp only [RZ,RS,Sb] at hc
   rcases hc with rfl|rfl|rfl|rfl|rfl
   ·exact⟨_,e1,trivial⟩
   ·exact⟨_,e2,trivial⟩
   ·exact⟨_,e3,trivial⟩
   ·obtain⟨o,_,e,_⟩:=e4.obj;exact⟨o,e,trivial⟩
   ·obtain⟨o,_,e,_⟩:=e5.obj;exact⟨o,e,trivial⟩
  rw [ah (RT (RF ho))];exact free c hc
 done:=by
  intro X hP hw hK hc i pins s σ H E I hf st hg;subst hP hw hK;obtain⟨e1,e2,⟨u0,v0,e3⟩,e4,e5⟩:=st;obtain⟨ha,hb,l⟩:=hg;obtain⟨as,ra,sa⟩:=I.sq ha;obtain⟨bs,rb,sb⟩:=I.sq hb;have free:∀ c∈[z,TI,TO,p,q],H c=none:=λ c h=>(hf c h).1;have aa:∀ c∈[z,TI,TO,p,q],a ≠ c:=λ c h=>ha.ne (free c h);have aS:∀ c∈[z,TI,TO,p,q],b ≠ c:=λ c h=>hb.ne (free c h);simp only [SY,RZ,RS,Sb,T6,TV,and_true,UE] at nd;obtain⟨⟨z1,z2,z3,z4⟩,⟨t1,t2,t3⟩,⟨w1,w2⟩,y1⟩:=nd;have S:=jQ (prog:=X.prog) (w:=X.w) ka p a (aa p (by simp)) as.toArray;have T:=jQ (prog:=X.prog) (w:=X.w) kb q b (aS q (by simp)) bs.toArray;have D:fC z TI TO p q [p,a] [q,b]:=⟨⟨RO z1,t1,t2,t3⟩,z2,by simp [z3,RO (aa z (by simp))],by simp [z4,RO (aS z (by simp))],by simp [w1,RO (aa TO (by simp))],by simp [w2,RO (aS TO (by simp))],by simp [y1,RO (aS p (by simp))],by simp [RO y1,RO (aa q (by simp))]⟩;have la:=ra.length;have lb:=rb.length;refine iW (I.ok.hd hc) S T D e1 e2 e3 ⟨e4,sa⟩ ⟨e5,sb⟩ (l.imp (λ h=>by simp;omega) λ h=>by simp;omega) λ h1 kp=>⟨rfl,I.turnL (t':=s.toks) (ch:=[z,TO,p,q]) (λ c hc=>hf c (by simp only [RZ,RS,Sb] at hc ⊢;rcases hc with h|h|h|h<;>simp [h])) kp⟩
 self:=λ _ _ _ _ _ st h=>wpAny_pyIter_zip st.1 h
def kZ2(ka:Bool)(a b:Addr)(xs:List V)(H:Hp)(R:It->Hp->Prop):HO->Prop:=λ o=>match o with
 | .lst ys=>R (Itz ka false a b xs ys) H
 | .tup ys=>R (Itz ka true a b xs ys) H
 | _=>False
def Ii(ka:Bool)(a b:Addr)(xs ys:List V)(H:Hp)(R:It->Hp->Prop):kZ2 ka a b xs H R (.lst ys)=R (Itz ka false a b xs ys) H:=rfl
def kZ1(a b:Addr)(H:Hp)(R:It->Hp->Prop):HO->Prop:=λ o=>match o with
 | .lst xs=>aJ (H b) (kZ2 false a b xs H R)
 | .tup xs=>aJ (H b) (kZ2 true a b xs H R)
 | _=>False
def Ik(a b:Addr)(xs:List V)(H:Hp)(R:It->Hp->Prop):kZ1 a b H R (.lst xs)=aJ (H b) (kZ2 false a b xs H R):=rfl
def Ij(a b:Addr)(xs:List V)(H:Hp)(R:It->Hp->Prop):kZ1 a b H R (.tup xs)=aJ (H b) (kZ2 true a b xs H R):=rfl
def kZ0(R:It->Hp->Prop):List V->Hp->Prop:=λ vs H=>match vs with
 | [.ref a,.ref b]=>aJ (H a) (kZ1 a b H R)
 | _=>False
def Pr(R:It->Hp->Prop)(a b:Addr)(H:Hp):kZ0 R [.ref a,.ref b] H=aJ (H a) (kZ1 a b H R):=rfl
def QN(ta:TA):TI:=λ σ H R=>ta σ H (kZ0 R)
def Na(ta:TA)(σ:St)(H:Hp)(R:It->Hp->Prop):QN ta σ H R=ta σ H (kZ0 R):=rfl
def Nn{R:It->Hp->Prop}{vs:List V}{H:Hp}(h:kZ0 R vs H):∃ a b ka kb xs ys,vs=[.ref a,.ref b]/\SqK ka H a xs/\SqK kb H b ys/\R (Itz ka kb a b xs ys) H:=by
 unfold kZ0 at h;split at h
 ·rename_i a b;obtain⟨o,e,h⟩:=aq h;unfold kZ1 at h;split at h
  ·rename_i xs;obtain⟨o',e',h⟩:=aq h;unfold kZ2 at h;split at h
   ·exact⟨a,b,false,false,xs,_,rfl,e,e',h⟩
   ·exact⟨a,b,false,true,xs,_,rfl,e,e',h⟩
   ·exact h.elim
  ·rename_i xs;obtain⟨o',e',h⟩:=aq h;unfold kZ2 at h;split at h
   ·exact⟨a,b,true,false,xs,_,rfl,e,e',h⟩
   ·exact⟨a,b,true,true,xs,_,rfl,e,e',h⟩
   ·exact h.elim
  ·exact h.elim
 ·exact h.elim
section
variable {X:Cx}
def Lh{a b:Expr}{elts:List Expr}{x1}{tp:Pos}{ta:TA}{p pos:Pos}(hg:Gl X "zip")(hm:X.mg "zip"=none)(ha:PA X [a,b] ta)(hs:starEach [a,b] X.env=[(false,eval a X.env),(false,eval b X.env)]:=by rfl)(aa:starEach [b] X.env=[(false,eval b X.env)]:=by rfl) :
  PI X (.Tuple elts x1 tp) (.Call (.Name "zip" p) [a,b] [] pos) (QN ta):=by
 intro pins s σ H R I h;refine Call_ (fB I hg hm (show bootBuiltins "zip"=some (.type "zip") by decide +kernel) (Sg (thn (ha pos pins s σ H _ I h) λ us s1 ⟨vs,H1,I1,r1,q1⟩=>?_) (by rw [hs,aa]) (by rw [aa];rfl)));obtain⟨a,b,ka,kb,xs,ys,rfl,sa,sb,q⟩:=Nn q1
 cases r1 with
 | cons r rr=>
  cases rr with
  | cons r' rr=>
   cases rr;cases r;cases r';obtain⟨as,ra,aS⟩:=I1.sq sa;obtain⟨bs,rb,a3⟩:=I1.sq sb;refine zO aS a3 λ h' n hn e1 e2 e3 e4 e5 e6 e7=>?_;have I2:Inv X pins σ H1 { s1 with heap:=h' }:=I1.kept (t':=s1.toks) e7;refine wpAny_pyIter_zip (s:={ s1 with heap:=h' }) e1 ⟨n+4,[n+4,n+2,n+3,n,n+1],_,_,H1,rfl,I2,Dq ka kb a b (n+4) (n+2) (n+3) n (n+1) xs ys (by simp),⟨e1,e2,⟨_,_,e3⟩,e4,e5⟩,λ c hc=>?_,q⟩
   have hle:s1.heap.objs.size<=c:=by
    rw [←hn];simp only [RZ,RS,Sb] at hc
    rcases hc with rfl|rfl|rfl|rfl|rfl
    ·exact SR ..
    ·exact SR ..
    ·exact SR ..
    ·exact RJ _
    ·exact SR ..
   exact I1.fpOk hle (I1.hok.fresh hle)
end
def NS(te:TE)(σ2:St)(N1:VK)(N0:Hp->Prop):Bool->Hp->Prop:=λ b H=>if b=true then te σ2 H N1 else N0 H
def aM(te:TE)(σ2:St)(N1:VK)(N0:Hp->Prop)(b:Bool)(H:Hp):NS te σ2 N1 N0 b H=(if b=true then te σ2 H N1 else N0 H):=rfl
def kCm(k:Nat)(tt:TT)(te:TE)(σ:St)(N1:VK)(N0:Hp->Prop):St->Hp->Prop:=λ σ2 H=>(∃ vs:St,vs.length=k/\σ2=vs++σ)/\tt σ2 H (NS te σ2 N1 N0)
def aO(tt:TT)(te:TE)(σ:St)(N1:VK)(N0:Hp->Prop)(a:Option V)(H:Hp):kCm 1 tt te σ N1 N0 (a::σ) H=tt (a::σ) H (NS te (a::σ) N1 N0):=propext ⟨λ h=>h.2,λ h=>⟨⟨[a],rfl,rfl⟩,h⟩⟩
def ek(tt:TT)(te:TE)(σ:St)(N1:VK)(N0:Hp->Prop)(a b:Option V)(H:Hp):kCm 2 tt te σ N1 N0 (a::b::σ) H=tt (a::b::σ) H (NS te (a::b::σ) N1 N0):=propext ⟨λ h=>h.2,λ h=>⟨⟨[a,b],rfl,rfl⟩,h⟩⟩
def HR(σ:St):List.replicate 1 (none:Option V)++σ=none::σ:=rfl
def HQ(σ:St):List.replicate 2 (none:Option V)++σ=none::none::σ:=rfl
def Al{α:Type}(R:α->V->Prop)(zs:List α)(ys:List V):Prop:=ys.length=zs.length/\∀ (i:Nat) z y,zs[i]? = some z->ys[i]? = some y->R z y
def Al.nil{α:Type}{R:α->V->Prop}:Al R [] []:=⟨rfl,λ i z y h=>by simp at h⟩
def Al.snoc{α:Type}{R:α->V->Prop}{zs:List α}{ys:List V}{z:α}{y:V}(h:Al R zs ys)(r:R z y):Al R (zs++[z]) (ys++[y]):=by
 refine⟨by simp [h.1],λ i z' y' h1 h2=>?_⟩
 by_cases hi:i < zs.length
 ·rw [SN hi] at h1;rw [SN (by rw [h.1];exact hi)] at h2;exact h.2 i z' y' h1 h2
 ·rw [Sw (by omega)] at h1;rw [Sw (by rw [h.1];omega),h.1] at h2
  by_cases h0:i - zs.length=0
  ·rw [h0] at h1 h2;simp at h1 h2;subst h1;subst h2;exact r
  ·rw [Sq (by simp;omega)] at h1;cases h1
def Al.imp{α:Type}{R S:α->V->Prop}{zs:List α}{ys:List V}(h:Al R zs ys)(f:∀ z y,R z y->S z y):Al S zs ys:=⟨h.1,λ i z y a b=>f z y (h.2 i z y a b)⟩
def Al.map{α:Type}{f:α->V}{zs:List α}{ys:List V}(h:Al (λ z y=>y=f z) zs ys):ys=zs.map f:=by
 apply TX;intro i;rw [RN]
 by_cases hi:i < zs.length
 ·have e1:zs[i]? = some zs[i]:=RE hi;have e2:ys[i]? = some (ys[i]'(by rw [h.1];exact hi)):=RE _;rw [e1,e2,h.2 i _ _ e1 e2];rfl
 ·have:=h.1;rw [Sq (show ys.length<=i by omega),Sq (show zs.length<=i by omega)];rfl
section
variable {k:Nat}{g:TG}{tt:TT}{te:TE}{σ:St}{Q:VK}{H:Hp}{K:PySem.W.Frag}
def oO{α:Type}{J:It}(zs:List α)(c:α->Bool)(P:α->V->Hp->Prop)(R:Addr->α->V->Hp->Prop)
  (a4:∀ i z H',zs[i]? = some z->Ext H H'->J.go i H'/\∀ x H'',J.yld i H' x H''->Ext H' H''/\P z x H'')
  (a5:∀ H',Ext H H'->J.stop zs.length H')
  (aS:∀ D z y H1 H2,R D z y H1->Ext H1 H2->R D z y H2) (a3:∀ D z y H1 o,R D z y H1->R D z y (upd H1 D o))
  (hl:zs.length<=sizeLine)
  (hs:∀ D z x H' N1 N0,z∈zs->H D=none->Ext H H'->(∃ ys,H' D=some (.lst ys))->P z x H'->(c z=true->∀ y H'',Ext H' H''->R D z y H''->N1 y H'')->(c z=false->∀ H'',Ext H' H''->N0 H'')->g x (List.replicate k none++σ) H' (kCm k tt te σ N1 N0))
  (hd:∀ D ys H',H D=none->Ext H H'->H' D=some (.lst ys)->Al (λ z y=>R D z y H') (zs.filter c) ys->Q (.ref D) H'):CT k g tt te σ Q J H:=by
 intro D hD;refine⟨λ i m ys H'=>m=zs.length - i/\i<=zs.length/\Ext H H'/\H' D=some (.lst ys)/\Al (λ z y=>R D z y H') ((zs.take i).filter c) ys,⟨zs.length,by simp,SF _,Ext.new hD,ai,by simpa using Al.nil⟩,?_⟩;rintro i m ys H' ⟨rfl,hi,e,aa,al⟩
 by_cases hlt:i < zs.length
 ·have hz:zs[i]? = some zs[i]:=RE hlt;obtain⟨go,y⟩:=a4 i zs[i] H' hz e;have tk:zs.take (i+1)=zs.take i++[zs[i]]:=by rw [List.take_succ,hz];rfl
  have ln:ys.length < sizeLine:=by
   have h1:=al.1;have h2:=UL c (zs.take i);simp only [SW] at h2;omega
  refine .inr ⟨go,λ ys' H2=>Ext H H2/\H2 D=some (.lst ys')/\Al (λ z y=>R D z y H2) ((zs.take (i+1)).filter c) ys',λ ys' H2 p=>⟨zs.length - (i+1),by omega,rfl,hlt,p⟩,λ x H2 z=>?_⟩;obtain⟨e2,p2⟩:=y x H2 z;refine hs D zs[i] x H2 (kC3 D ys _) _ (T7 hlt) hD (e.trans e2) ⟨ys,e2.at aa⟩ p2 (λ hc y H3 e3 r3=>?_) λ hc H3 e3=>?_
  ·refine⟨e3.at (e2.at aa),ln,(e.trans (e2.trans e3)).put hD,ai,?_⟩;rw [tk,List.filter_append,show [zs[i]].filter c=[zs[i]] by simp [hc]];exact Al.snoc (al.imp λ z y r=>a3 _ _ _ _ _ (aS _ _ _ _ _ r (e2.trans e3))) (a3 _ _ _ _ _ r3)
  ·refine⟨e.trans (e2.trans e3),(e2.trans e3).at aa,?_⟩;rw [tk,List.filter_append,show [zs[i]].filter c=[] by simp [hc],UH];exact al.imp λ z y r=>aS _ _ _ _ _ r (e2.trans e3)
 ·have e':i=zs.length:=by omega
  subst e';rw [SO] at al;exact .inl ⟨a5 H' e,hd D ys H' hD e aa al⟩
def aL{α:Type}{J:It}(zs:List α)(c:α->Bool)(f:α->V)(P:α->V->Hp->Prop)
  (aa:∀ i z H',zs[i]? = some z->Ext H H'->J.go i H'/\∀ x H'',J.yld i H' x H''->Ext H' H''/\P z x H'')
  (aS:∀ H',Ext H H'->J.stop zs.length H') (hl:zs.length<=sizeLine)
  (hs:∀ D z x H' N1 N0,z∈zs->H D=none->Ext H H'->P z x H'->(c z=true->∀ H'',Ext H' H''->N1 (f z) H'')->(c z=false->∀ H'',Ext H' H''->N0 H'')->g x (List.replicate k none++σ) H' (kCm k tt te σ N1 N0))
  (hd:∀ D H',H D=none->Ext H H'->H' D=some (.lst ((zs.filter c).map f))->Q (.ref D) H'):CT k g tt te σ Q J H:=
 oO zs c P (λ _ z y _=>y=f z) aa aS (λ _ _ _ _ _ r _=>r) (λ _ _ _ _ _ r=>r) hl (λ D z x H' N1 N0 hz hD e _ p k1 k0=>hs D z x H' N1 N0 hz hD e p (λ hc H'' e'=>k1 hc _ H'' e' rfl) k0) λ D ys H' hD e a3 al=>hd D H' hD e (by rw [←al.map];exact a3)
def jO{lo:Int}{n:Nat}:(∀ i z H',(List.range n)[i]? = some z->Ext H H'->(Itr lo n).go i H'/\∀ x H'',(Itr lo n).yld i H' x H''->Ext H' H''/\x=.int (lo+(z:Nat)))/\∀ H',Ext H H'->(Itr lo n).stop (List.range n).length H':=by
 refine⟨λ i z H' hz _=>?_,λ H' _=>by simp [Itr]⟩;obtain⟨h1,h2⟩:=RG.mp hz;have e:i=z:=by simpa using h2
 subst e;exact⟨(show i < n by simpa using h1),λ x H'' y=>⟨by rw [y.1];exact Ext.refl _,y.2⟩⟩
def dF{a:Addr}{xs:List V}(h:H a=some (.lst xs)):(∀ i z H',xs[i]? = some z->Ext H H'->(Itl K a).go i H'/\∀ x H'',(Itl K a).yld i H' x H''->Ext H' H''/\(x=z/\H'' a=some (.lst xs)))/\∀ H',Ext H H'->(Itl K a).stop xs.length H':=
 ⟨λ i z H' hz e=>⟨⟨xs,z,SqL.of (e.at h),hz⟩,λ x H'' y=>⟨by rw [y.1];exact Ext.refl _,Ss ((y.2 xs (SqL.of (e.at h))).symm.trans hz),by rw [y.1];exact e.at h⟩⟩,λ H' e=>⟨xs,SqL.of (e.at h),RJ _⟩⟩
def SqK.ext{kk:Bool}{H H':Hp}{a:Addr}{xs:List V}(h:SqK kk H a xs)(e:Ext H H'):SqK kk H' a xs:=by
 cases kk
 ·exact e.at (show H a=some (.lst xs) from h)
 ·exact e.at (show H a=some (.tup xs) from h)
def JP(z:V × V)(x:V)(H:Hp):Prop:=∃ p,x=.ref p/\H p=some (.tup [z.1,z.2])
def p0{ka kb:Bool}{a b:Addr}{xs ys:List V}(ha:SqK ka H a xs)(hb:SqK kb H b ys):(∀ i z H',(xs.zip ys)[i]? = some z->Ext H H'->(Itz ka kb a b xs ys).go i H'/\∀ x H'',(Itz ka kb a b xs ys).yld i H' x H''->Ext H' H''/\JP z x H'')/\∀ H',Ext H H'->(Itz ka kb a b xs ys).stop (xs.zip ys).length H':=by
 refine⟨λ i z H' hz e=>?_,λ H' e=>⟨ha.ext e,hb.ext e,?_⟩⟩
 ·obtain⟨h1,h2⟩:=RG.mp hz;rw [TM] at h1;refine⟨⟨ha.ext e,hb.ext e,by omega,by omega⟩,λ x H'' y=>?_⟩;obtain⟨p,u,v,hp,rfl,hu,hv,rfl⟩:=y;refine⟨Ext.new hp,p,rfl,?_⟩;rw [ai];rw [RE (by omega)] at hu hv;cases hu;cases hv;rw [←h2,List.getElem_zip]
 ·rw [TM];omega
def t9{tb:TS}{nx:St->Hp->Prop}{rt:VK}{bk ct:St->Hp->Prop}{ka kb:Bool}{a b:Addr}{xs ys:List V}(Pv:Nat->St->Hp->Prop)(h0:Pv 0 σ H)(hl:∀ i σ H,Pv i σ H->SqK ka H a xs/\SqK kb H b ys)
  (hs:∀ i u v p σ H H',xs[i]? = some u->ys[i]? = some v->Pv i σ H->H p=none->Ext H H'->H' p=some (.tup [u,v])->g (.ref p) σ H' (wI tb ⟨Pv (i+1),rt,nx,Pv (i+1)⟩)) (hd:∀ σ H,Pv (min xs.length ys.length) σ H->nx σ H):JU g tb ⟨nx,rt,bk,ct⟩ σ (Itz ka kb a b xs ys) H:=by
 refine⟨λ i m σ H=>m=min xs.length ys.length - i/\i<=min xs.length ys.length/\Pv i σ H,⟨min xs.length ys.length,by simp,SF _,h0⟩,?_⟩;rintro i m σ H ⟨rfl,hi,p⟩;obtain⟨qa,qb⟩:=hl i σ H p
 by_cases hlt:i < min xs.length ys.length
 ·refine .inr ⟨⟨qa,qb,by omega,by omega⟩,Pv (i+1),λ σ' H' p'=>⟨min xs.length ys.length - (i+1),by omega,rfl,hlt,p'⟩,λ x H' y=>?_⟩;obtain⟨r,u,v,hr,rfl,hu,hv,rfl⟩:=y;exact hs i u v r σ H _ hu hv p hr (Ext.new hr) ai
 ·have e:i=min xs.length ys.length:=by omega
  subst e;exact .inl ⟨⟨qa,qb,by omega⟩,hd σ H p⟩
end
def KR(sc:Scope)(N:List Str)(scope:Scope)(N':List Str)(k:Nat):Bool:=
 scope.names.all (λ y=>!(y.2 == .cell)) && (scope.kind == .function) && scope.names.all (λ y=>!(y.2 == .local) || scope.names.lookup y.1 == some .local) && scope.names.all (λ y=>!(y.2 == .free) || sc.names.lookup y.1 == some .cell) && decide (N'.length=k+N.length) &&
  ((N'.drop k).zip N).all (λ p=>(!(scope.names.lookup p.1 == some .free) || decide (p.1=p.2)) && !(scope.names.lookup p.1 == some .local))
def aI{X:Cx}{scope:Scope}{N':List Str}{k:Nat}(sc:Scope)(N:List Str)(h1:X.env.scope=sc)(h2:X.N=N)(h:KR sc N scope N' k=true):lq X scope N' k:=by
 unfold KR at h;simp only [Bool.and_eq_true,decide_eq_true_eq] at h;obtain⟨⟨⟨⟨⟨a1,a2⟩,a3⟩,a4⟩,a5⟩,a6⟩:=h;rw [all_eq_true] at a1 a3 a4 a6
 have pr:∀ i x,N'[k+i]? = some x->∃ y,N[i]? = some y/\(x,y)∈(N'.drop k).zip N:=λ i x hx=>by
  have h0:=(RG.mp hx).1;have hi:i < N.length:=by omega
  have e1:(N'.drop k)[i]? = some x:=by rw [List.getElem?_drop];exact hx
  have e2:N[i]? = some N[i]:=RE hi;refine⟨_,e2,Sa (i:=i) ?_⟩;rw [Um];exact⟨e1,e2⟩
 refine⟨λ y hy e=>?_,by simpa using a2,λ y hy e=>?_,λ y hy e=>?_,by rw [h2];exact a5,λ i x hx hf=>?_,λ i x hx hf=>?_⟩
 ·have:=a1 y hy;rw [e] at this;simp at this
 ·have:=a3 y hy;rw [e] at this;simpa using this
 ·have:=a4 y hy;rw [e] at this;rw [h1];simpa using this
 ·obtain⟨y,hy,hm⟩:=pr i x hx;have:=a6 _ hm;simp only [hf] at this;rw [h2,hy];simp at this;rw [this]
 ·obtain⟨y,hy,hm⟩:=pr i x hx;have:=a6 _ hm;simp [hf] at this
def GA(H:Hp)(Q:VK):V->Prop:=λ v=>Q v H
def ID(H:Hp)(Q:VK)(v:V):GA H Q v=Q v H:=rfl
def CQ(K:W.Frag)(f:Str)(H:Hp)(Q:VK):HO->Prop:=λ o=>match o with
 | .ins C dx fs=>Cls K C/\bg K C f/\aJ (fs.lookup f) (GA H Q)
 | _=>False
def IE(K:W.Frag)(f:Str)(H:Hp)(Q:VK)(C dx:Addr)(fs:List (Str × V)):CQ K f H Q (.ins C dx fs)=(Cls K C/\bg K C f/\aJ (fs.lookup f) (GA H Q)):=rfl
def J3(K:W.Frag)(f:Str)(Q:VK):VK:=λ x H=>match x with
 | .ref a=>aJ (H a) (CQ K f H Q)
 | _=>False
def MP(K:W.Frag)(f:Str)(Q:VK)(a:Addr)(H:Hp):J3 K f Q (.ref a) H=aJ (H a) (CQ K f H Q):=rfl
def Oe(K:W.Frag)(ta:TE)(f:Str):TE:=λ σ H Q=>ta σ H (J3 K f Q)
def Mn(K:W.Frag)(ta:TE)(f:Str)(σ:St)(H:Hp)(Q:VK):Oe K ta f σ H Q=ta σ H (J3 K f Q):=rfl
def Ji{K:W.Frag}{f:Str}{Q:VK}{x:V}{H:Hp}(h:J3 K f Q x H):∃ a C dx fs v,x=.ref a/\H a=some (.ins C dx fs)/\Cls K C/\bg K C f/\fs.lookup f=some v/\Q v H:=by
 unfold J3 at h;split at h
 ·obtain⟨o,e,h⟩:=aq h;unfold CQ at h;split at h
  ·obtain⟨c,n,h⟩:=h;obtain⟨v,l,q⟩:=aq h;exact⟨_,_,_,_,v,rfl,e,c,n,l,q⟩
  ·exact h.elim
 ·exact h.elim
section
variable {X:Cx}{e o value:Expr}{ta tv:TE}{f:Str}{pos pos':Pos}
def zp(he:PE X e ta)(hb:attributeBase e f X.env (eval e X.env)=eval e X.env):PE X (.Attribute e f pos) (Oe X.K ta f):=by
 intro pins s σ H Q I h;refine JJ hb (thn (he pins s σ H _ I h) λ u s1 ⟨x,H1,I1,rx,q1⟩=>?_);obtain⟨a,C,dx,fs,v,ex,ea,c,n,l,q⟩:=Ji q1;subst ex;obtain rfl:u=Value.ref a:=rx;exact xG I1 ea c n l λ u' s2 I2 ru=>⟨v,H1,I2,ru,q⟩
def CN(K:W.Frag)(f:Str)(y:V)(a:Addr)(σ:St)(nx:St->Hp->Prop)(H:Hp):HO->Prop:=λ o=>match o with
 | .ins C dx fs=>Cls K C/\bg K C f/\fs.length < 1000/\nx σ (upd H a (.ins C dx (bT f y fs)))
 | _=>False
def Io(K:W.Frag)(f:Str)(y:V)(a:Addr)(σ:St)(nx:St->Hp->Prop)(H:Hp)(C dx:Addr)(fs:List (Str × V)):CN K f y a σ nx H (.ins C dx fs)=(Cls K C/\bg K C f/\fs.length < 1000/\nx σ (upd H a (.ins C dx (bT f y fs)))):=rfl
def CO(K:W.Frag)(f:Str)(y:V)(σ:St)(nx:St->Hp->Prop):VK:=λ x H=>match x with
 | .ref a=>aJ (H a) (CN K f y a σ nx H)
 | _=>False
def Iq(K:W.Frag)(f:Str)(y:V)(σ:St)(nx:St->Hp->Prop)(a:Addr)(H:Hp):CO K f y σ nx (.ref a) H=aJ (H a) (CN K f y a σ nx H):=rfl
def Gw(K:W.Frag)(f:Str)(ta:TE)(σ:St)(nx:St->Hp->Prop):VK:=λ y H=>ta σ H (CO K f y σ nx)
def Ir(K:W.Frag)(f:Str)(ta:TE)(σ:St)(nx:St->Hp->Prop)(y:V)(H:Hp):Gw K f ta σ nx y H=ta σ H (CO K f y σ nx):=rfl
def Ks(K:W.Frag)(ta tv:TE)(f:Str):TS:=λ D σ H=>tv σ H (Gw K f ta σ D.nx)
def HX(K:W.Frag)(ta tv:TE)(f:Str)(nx:St->Hp->Prop)(rt:VK)(bk ct:St->Hp->Prop)(σ:St)(H:Hp):Ks K ta tv f ⟨nx,rt,bk,ct⟩ σ H=tv σ H (Gw K f ta σ nx):=rfl
def DK(ha:PE X o ta)(hv:PE X value tv)(hs:swapsWith value (some (.Attribute o f pos')) pos.line X.env=pure false):PS X (.Assign [.Attribute o f pos'] value pos) (Ks X.K ta tv f):=by
 intro pins s σ H D I h;refine plainObj_wpAny_Assign_Attribute (thn (hv pins s σ H _ I h) λ u s1 ⟨y,H1,I1,ry,q⟩=>thn (ha pins s1 σ H1 _ I1 q) λ ov s2 ⟨x,H2,I2,rx,q1⟩=>?_) hs;unfold CO at q1;split at q1
 ·rename_i a;obtain rfl:ov=Value.ref a:=rx;obtain⟨ob,ea,q1⟩:=aq q1;unfold CN at q1;split at q1
  ·obtain⟨c,n,l,q2⟩:=q1;exact wN I2 ea c n l ry λ s3 I3=>⟨σ,_,I3,q2⟩
  ·exact q1.elim
 ·exact q1.elim
end
def m8(sp:Sp)(dvs:List V)(E:XK)(a:Addr)(Q:VK):List V->Hp->Prop:=λ vs H=>sp (.ref a::(vs++dvs)) H Q E
def xl(sp:Sp)(dvs:List V)(E:XK)(a:Addr)(Q:VK)(H:Hp):m8 sp dvs E a Q [] H=sp (.ref a::dvs) H Q E:=rfl
def xk(sp:Sp)(dvs:List V)(E:XK)(a:Addr)(Q:VK)(x:V)(H:Hp):m8 sp dvs E a Q [x] H=sp (.ref a::x::dvs) H Q E:=rfl
def xj(sp:Sp)(dvs:List V)(E:XK)(a:Addr)(Q:VK)(x y:V)(H:Hp):m8 sp dvs E a Q [x,y] H=sp (.ref a::x::y::dvs) H Q E:=rfl
def xi(sp:Sp)(dvs:List V)(E:XK)(a:Addr)(Q:VK)(x y z:V)(H:Hp):m8 sp dvs E a Q [x,y,z] H=sp (.ref a::x::y::z::dvs) H Q E:=rfl
def va(C:Addr)(m:Str)(sp:Sp)(dvs:List V)(E:XK)(t:TA)(σ:St)(Q:VK)(a:Addr)(H:Hp):HO->Prop:=λ o=>match o with
 | .ins C' dx fs=>C'=C/\fs.lookup m=none/\t σ H (m8 sp dvs E a Q)
 | _=>False
def Ej(C:Addr)(m:Str)(sp:Sp)(dvs:List V)(E:XK)(t:TA)(σ:St)(Q:VK)(a:Addr)(H:Hp)(dx:Addr)(fs:List (Str × V)):va C m sp dvs E t σ Q a H (.ins C dx fs)=(fs.lookup m=none/\t σ H (m8 sp dvs E a Q)):=propext ⟨λ h=>h.2,λ h=>⟨rfl,h⟩⟩
def wG(C:Addr)(m:Str)(sp:Sp)(dvs:List V)(E:XK)(t:TA)(σ:St)(Q:VK):VK:=λ x H=>match x with
 | .ref a=>aJ (H a) (va C m sp dvs E t σ Q a H)
 | _=>False
def IB(C:Addr)(m:Str)(sp:Sp)(dvs:List V)(E:XK)(t:TA)(σ:St)(Q:VK)(a:Addr)(H:Hp):wG C m sp dvs E t σ Q (.ref a) H=aJ (H a) (va C m sp dvs E t σ Q a H):=rfl
def CM(C:Addr)(m:Str)(sp:Sp)(dvs:List V)(E:XK)(ta:TE)(t:TA):TE:=λ σ H Q=>ta σ H (wG C m sp dvs E t σ Q)
def Ia(C:Addr)(m:Str)(sp:Sp)(dvs:List V)(E:XK)(ta:TE)(t:TA)(σ:St)(H:Hp)(Q:VK):CM C m sp dvs E ta t σ H Q=ta σ H (wG C m sp dvs E t σ Q):=rfl
def oJ{C:Addr}{m:Str}{sp:Sp}{dvs:List V}{E:XK}{t:TA}{σ:St}{Q:VK}{x:V}{H:Hp}(h:wG C m sp dvs E t σ Q x H):∃ a dx fs,x=.ref a/\H a=some (.ins C dx fs)/\fs.lookup m=none/\t σ H λ vs H2=>sp (x::(vs++dvs)) H2 Q E:=by
 unfold wG at h;split at h
 ·obtain⟨o,e,h⟩:=aq h;unfold va at h;split at h
  ·obtain⟨rfl,l,h⟩:=h;exact⟨_,_,_,rfl,e,l,h⟩
  ·exact h.elim
 ·exact h.elim
section
variable {X:Cx}{CX:CXT}{k:Nat}{f C:Addr}{fd:FuncData}{ps:List Str}{sp:Sp}{dvs:List V}{ds:List Value}{E:XK}{x m:Str}{p pos apos:Pos}{e o:Expr}{es:List Expr}{ta:TE}{t:TA}
def DQ{pl:Sem Bool}(he:PE X o ta)(c:Cls X.K C)(hm:cR X.K C m f)(F:aH X.prog X.w X.K X.mg X.base CX k f fd ps sp)(hr:iA k X.A)(hb:ak X.K fd ps ds)(hd:aW dvs ds)(hx:iE CX X E)(ha:PA X (e::es) t)
  (aa:starEach (e::es) X.env=(false,eval e X.env)::starEach es X.env:=by rfl) (aS:(backTo pos (starEach es X.env)).any (·.1)=false:=by rfl)
  (ht:eval (.Call (.Attribute o m apos) (e::es) [] pos) X.env=(do
   let ov ←eval o X.env
   standAt apos.atName
   let (f,first) ←holding [ov] (getMethod ov m pl)
   callWith pos f first (backTo pos (starEach (e::es) X.env)) (backToKw pos (keywordEach [] X.env))):=by rfl) :
  PE X (.Call (.Attribute o m apos) (e::es) [] pos) (CM C m sp dvs E ta t):=by
 intro pins s σ H Q I h;refine U0 (pl:=pl) (thn (he pins s σ H _ I h) λ u s1 ⟨x,H1,I1,rx,q0⟩=>?_) ht;obtain⟨a,dx,fs,ex,ea,l,q⟩:=oJ q0;subst ex;obtain rfl:u=Value.ref a:=rx;refine gy I1 ea c hm l ?_;refine W.callWith_K (first:=[.ref a]) (h₀:=X.base) I.ok.mod.kin hm.kp (thn (ha pos pins s1 σ H1 _ I1 q) λ us s2 ⟨vs,H2,I2,r,q2⟩=>⟨I2.kIn,?_⟩) aa aS;exact p5 (us:=.ref a::us) (vs:=.ref a::vs) F hr hb hd hx I2 (.cons rfl r) q2
def Az{pl:Sem Bool}(he:PE X o ta)(c:Cls X.K C)(hm:cR X.K C m f)(F:aH X.prog X.w X.K X.mg X.base CX k f fd ps sp)(hr:iA k X.A)(hb:ak X.K fd ps ds)(hd:aW dvs ds)(hx:iE CX X E)
  (ht:eval (.Call (.Attribute o m apos) [] [] pos) X.env=(do
   let ov ←eval o X.env
   standAt apos.atName
   let (f,first) ←holding [ov] (getMethod ov m pl)
   callWith pos f first (backTo pos (starEach [] X.env)) (backToKw pos (keywordEach [] X.env))):=by rfl) :
  PE X (.Call (.Attribute o m apos) [] [] pos) (CM C m sp dvs E ta JQ):=by
 intro pins s σ H Q I h;refine U0 (pl:=pl) (thn (he pins s σ H _ I h) λ u s1 ⟨x,H1,I1,rx,q0⟩=>?_) ht;obtain⟨a,dx,fs,ex,ea,l,q⟩:=oJ q0;subst ex;obtain rfl:u=Value.ref a:=rx;refine gy I1 ea c hm l ?_;exact Vl (first:=[.ref a]) I1.kIn hm.kp (p5 (us:=[.ref a]) (vs:=[.ref a]) F hr hb hd hx I1 (.cons rfl .nil) q)
end
def yj(x:Addr)(Q:VK):VK:=λ v H=>v=.non/\Q (.ref x) H
def IC(x:Addr)(Q:VK)(H:Hp):yj x Q .non H=Q (.ref x) H:=propext ⟨λ h=>h.2,λ h=>⟨rfl,h⟩⟩
def sM(C:Addr)(sp:Sp)(dvs:List V)(E:XK)(Q:VK):List V->Hp->Prop:=λ vs H=>∀ (x dx:Addr) (H':Hp),H x=none->H dx=none->dx ≠ x->Ext H H'->H' x=some (.ins C dx [])->H' dx=some (.own x)->sp (.ref x::(vs++dvs)) H' (yj x Q) E
def AS(C:Addr)(sp:Sp)(dvs:List V)(E:XK)(Q:VK)(a:V)(H:Hp):sM C sp dvs E Q [a] H=∀ (x dx:Addr) (H':Hp),H x=none->H dx=none->dx ≠ x->Ext H H'->H' x=some (.ins C dx [])->H' dx=some (.own x)->sp (.ref x::a::dvs) H' (yj x Q) E:=rfl
def AR(C:Addr)(sp:Sp)(dvs:List V)(E:XK)(Q:VK)(a b:V)(H:Hp):sM C sp dvs E Q [a,b] H=∀ (x dx:Addr) (H':Hp),H x=none->H dx=none->dx ≠ x->Ext H H'->H' x=some (.ins C dx [])->H' dx=some (.own x)->sp (.ref x::a::b::dvs) H' (yj x Q) E:=rfl
def AQ(C:Addr)(sp:Sp)(dvs:List V)(E:XK)(Q:VK)(a b c:V)(H:Hp):sM C sp dvs E Q [a,b,c] H=∀ (x dx:Addr) (H':Hp),H x=none->H dx=none->dx ≠ x->Ext H H'->H' x=some (.ins C dx [])->H' dx=some (.own x)->sp (.ref x::a::b::c::dvs) H' (yj x Q) E:=rfl
def Kt(C:Addr)(sp:Sp)(dvs:List V)(E:XK)(t:TA):TE:=λ σ H Q=>t σ H (sM C sp dvs E Q)
def Ib(C:Addr)(sp:Sp)(dvs:List V)(E:XK)(t:TA)(σ:St)(H:Hp)(Q:VK):Kt C sp dvs E t σ H Q=t σ H (sM C sp dvs E Q):=rfl
section
variable {X:Cx}{CX:CXT}{k:Nat}{f C:Addr}{fd:FuncData}{ps:List Str}{sp:Sp}{dvs:List V}{ds:List Value}{E:XK}{x m:Str}{p pos apos:Pos}{e o:Expr}{es:List Expr}{ta:TE}{t:TA}
def sM.to{Q:VK}{vs:List V}{H:Hp}(h:sM C sp dvs E Q vs H):∀ x dx,H x=none->H dx=none->dx ≠ x->sp (.ref x::(vs++dvs)) (upd (upd H dx (.own x)) x (.ins C dx [])) (λ v H2=>v=.non/\Q (.ref x) H2) E:=λ x dx hx hd ne=>
 h x dx _ hx hd ne ((Ext.new hd).put hx) ai (by rw [ah ne,ai])
def DR(M:Mk X.K C f)(F:aH X.prog X.w X.K X.mg X.base CX k f fd ps sp)(hr:iA (k+1) X.A)(hg:Gl X x)(hm:X.mg x=some (.ref C))(hb:ak X.K fd ps ds)(hd:aW dvs ds)(hx:iE CX X E)
  (ha:PA X (e::es) t) (aa:(x == ("__debug__":Str))=false:=by decide) (he:starEach (e::es) X.env=(false,eval e X.env)::starEach es X.env:=by rfl) (aS:(backTo pos (starEach es X.env)).any (·.1)=false:=by rfl) :
  PE X (.Call (.Name x p) (e::es) [] pos) (Kt C sp dvs E t):=by
 intro pins s σ H Q I h;refine SS (gP I hg hm ?_ aa);refine W.callWith_K (h₀:=X.base) I.ok.mod.kin M.kp (thn (ha pos pins s σ H _ I h) λ us s1 ⟨vs,H1,I1,r,q⟩=>⟨I1.kIn,?_⟩) he aS;exact DB M F hr hb hd hx I1 r q.to
end
def zv:Expr->Bool
 | .Starred ..=>false
 | _=>true
def GY{e:Expr}{es:List Expr}{env:Env}(h:zv e=true):starEach (e::es) env=(false,eval e env)::starEach es env:=by
 cases e<;>first|rfl|cases h
def J0{X:Cx}{e:Expr}{es:List Expr}{te:TE}{t:TA}(ha:PE X e te)(hr:PA X es t)(hn:zv e=true:=by rfl):PA X (e::es) (CK te t):=Hs ha hr (GY hn)
def jc(H:Hp)(z:List Int)(y:V):Prop:=∃ q,y=.ref q/\H q=some (.tup (z.map V.int))
def jc.ext{H H':Hp}{z:List Int}{y:V}(h:jc H z y)(e:Ext H H'):jc H' z y:=by
 obtain⟨q,rfl,hq⟩:=h;exact⟨q,rfl,e.at hq⟩
def jc.upd{H:Hp}{z:List Int}{y:V}{p:Addr}{xs:List V}{o:HO}(h:jc H z y)(hp:H p=some (.lst xs)):jc (upd H p o) z y:=by
 obtain⟨q,rfl,hq⟩:=h;exact⟨q,rfl,by rw [ah (λ z=>by rw [z,hp] at hq;cases hq)];exact hq⟩
def bf(H:Hp)(p:Addr)(zs:List (List Int)):Prop:=∃ ys,H p=some (.lst ys)/\Al (jc H) zs ys
def bf.ext{H H':Hp}{p:Addr}{zs:List (List Int)}(h:bf H p zs)(e:Ext H H'):bf H' p zs:=by
 obtain⟨ys,hp,al⟩:=h;exact⟨ys,e.at hp,al.imp λ _ _ r=>r.ext e⟩
def kL{H:Hp}{f:V->Option PyData}:∀ {zs:List (List Int)}{ys:List V},Al (jc H) zs ys->aU (ys.map (bY H (bY H f)))=some (zs.map λ z=>PyData.tuple (z.map PyData.int))
 | [],ys,h=>by rw [T5 h.1];rfl
 | z::zs,[],h=>by have:=h.1;simp at this
 | z::zs,y::ys,h=>by
  obtain⟨q,rfl,hq⟩:=h.2 0 z y rfl rfl;have ih:=kL (H:=H) (f:=f) (zs:=zs) (ys:=ys) ⟨by have:=h.1;simpa using this,λ i z y a b=>h.2 (i+1) z y (by simpa using a) (by simpa using b)⟩
  have e1:bY H (bY H f) (.ref q)=some (.tuple (z.map PyData.int)):=by
   rw [nB,hq]
   show CC (bY H f) (.tup (z.map V.int))=_
   rw [nz,gg];rfl
  rw [Sm,e1,gJ,ih];rfl
def aC{n:Nat}(h:n<=5000):n<=sizeLine:=Sj h (by decide)
def fN{n:Nat}(h:n < 5000):n < sizeLine:=RV h (by decide)
def OF(xs:List V)(H:Hp)(Q:VK):List V->Prop:=λ ys=>xs.length+ys.length<=sizeLine/\∀ (p:Addr) (H':Hp),Ext H H'->H' p=some (.tup (xs++ys))->Q (.ref p) H'
def Fs(xs:List V)(H:Hp)(Q:VK)(ys:List V):OF xs H Q ys=(xs.length+ys.length<=sizeLine/\∀ (p:Addr) (H':Hp),Ext H H'->H' p=some (.tup (xs++ys))->Q (.ref p) H'):=rfl
def OG(b:Addr)(H:Hp)(Q:VK):List V->Prop:=λ xs=>aJ (iB H b) (OF xs H Q)
def M3(b:Addr)(H:Hp)(Q:VK)(xs:List V):OG b H Q xs=aJ (iB H b) (OF xs H Q):=rfl
def Gp:R2:=λ x y H Q=>match x,y with
 | .ref l,.ref b=>aJ (iB H l) (OG b H Q)
 | _,_=>False
def Ig(l b:Addr)(H:Hp)(Q:VK):Gp (.ref l) (.ref b) H Q=aJ (iB H l) (OG b H Q):=rfl
def vD{X:Cx}:OpR X (binaryOp .Add) Gp:=by
 intro pins s σ H x y v u Q I rx ry h;unfold Gp at h;split at h
 ·rename_i l b;obtain⟨xs,e1,h⟩:=aq h;obtain⟨ys,e2,hz,k⟩:=aq h;have g1:=uZ e1;have g2:=uZ e2
  by_cases hx:xs=[]
  ·subst hx;cases rx;cases ry;obtain⟨its,r1,p1,_⟩:=I.tuple (SqT.of g1);obtain⟨aa,r2,p2,_⟩:=I.tuple (SqT.of g2);obtain⟨⟨cls,dd,data,sl⟩,ho,hc,n,hd⟩:=id p1;obtain⟨⟨a6,a4,data2,a5⟩,aS,a3,n2,hd2⟩:=id p2;simp only at hc hd a3 hd2;subst hc hd a3 hd2;cases r1
   exact concat_meets ⟨_,ho,rfl⟩ ⟨_,aS,rfl⟩ noFill_tuple_add seq_tuple_add UC Ux (Uu _ _)
    (tuple_addW0 l b #[] aa.toArray n n2 dd a4 sl a5 (by simp)) ⟨ho,aS,show EP X pins σ Q (.ref b) s from ⟨.ref b,H,I,rfl,k b H (Ext.refl _) (by rw [List.nil_append];exact g2)⟩⟩
  ·refine Hy pins s σ H (.ref l) (.ref b) v u Q I rx ry ⟨l,b,xs,ys,rfl,rfl,SqT.of g1,SqT.of g2,hx,hz,λ hy=>?_,λ hy p hp=>k p _ (Ext.new hp) ai⟩;subst hy;exact k l H (Ext.refl _) (by rw [UH];exact g1)
 ·exact h.elim
def kr{K:W.Frag}{H:Hp}{α:Type}{R:α->V->Hp->Prop}(hR:∀ z y H H',R z y H->Ext H H'->R z y H'){l:Addr}{ys:List V}{zs:List α}(h:H l=some (.lst ys))(al:Al (λ z y=>R z y H) zs ys) :
  (∀ i z H',zs[i]? = some z->Ext H H'->(Itl K l).go i H'/\∀ x H'',(Itl K l).yld i H' x H''->Ext H' H''/\R z x H'')/\∀ H',Ext H H'->(Itl K l).stop zs.length H':=by
 refine⟨λ i z H' hz e=>?_,λ H' e=>⟨ys,SqL.of (e.at h),by rw [al.1];exact RJ _⟩⟩;have hi:i < ys.length:=by rw [al.1];exact(RG.mp hz).1
 have hy:ys[i]? = some ys[i]:=RE hi;refine⟨⟨ys,ys[i],SqL.of (e.at h),hy⟩,λ x H'' y=>?_⟩;have hx:x=ys[i]:=Ss ((y.2 ys (SqL.of (e.at h))).symm.trans hy);refine⟨by rw [y.1];exact Ext.refl _,?_⟩;rw [hx,y.1];exact hR _ _ _ _ (al.2 i z _ hz hy) e
def axP(a:Int × Int)(x:V)(H:Hp):Prop:=∃ q,x=.ref q/\H q=some (.tup [.int a.1,.int a.2])
def axP.ext{a:Int × Int}{x:V}{H H':Hp}(h:axP a x H)(e:Ext H H'):axP a x H':=by
 obtain⟨q,rfl,hq⟩:=h;exact⟨q,rfl,e.at hq⟩
def m9{H:Hp}{axs:List (Int × Int)}{ys:List V}(al:Al (jc H) (axs.map λ a=>[a.1,a.2]) ys):Al (λ a y=>axP a y H) axs ys:=by
 refine⟨by rw [al.1,RH],λ i a y ha hy=>?_⟩;obtain⟨q,hq,h⟩:=al.2 i [a.1,a.2] y (by rw [RN,ha];rfl) hy;exact⟨q,hq,h⟩
abbrev gF(h:Heap)(z TI TO:Addr)(f0:Value)(f:Bool):Prop:=
 h.get? z=some { cls:=.type "zip",dict:=none,data:=.fields #[f0,.bool f,.bool false,.ref TI,.ref TO],slots:=#[] }
section
variable {prog:Program}{w:World}{A:Around}{E:Value->Shared->Prop}{s:Shared}
def Fm{a:Addr}{o:Obj}{Q:Option Obj->Shared->Prop}(ho:s.heap.get? a=some o)(h:Q (some o) s):wpAny (model prog w) A (loadIfAlive a) Q E s:=by
 have h':Q (s.heap.get? a) s:=by rw [ho];exact h
 exact λ _ _ _=>h'
variable {z TI TO i j:Addr}{f g:List Addr}{ti tj:Nat->Heap->Prop}{vi vj:Nat->Option Value}{k m:Nat}{x y:Value}{t:Addr}{fl:Bool}{ot:Obj}
def qe{Q:Bool->Shared->Prop}(hz:gF s.heap z TI TO (rawInt t) fl)(ht:s.heap.get? t=some ot)
  (hQ:∀ h',gF h' z TI TO (rawInt t) true->Heap.SameBut z s.heap h'->Q false { s with heap:=h' }):wpAny (model prog w) A (Builtin.SmallTypes.ownedTupleIsFree (.ref z)) Q E s:=by
 unfold Builtin.SmallTypes.ownedTupleIsFree;refine wpAny_bind (wpAny_field hz rfl (x:=rawInt t) rfl ?_)
 show wpAny _ _ (loadIfAlive ((t:Int).toNat) >>= _) _ _ _
 rw [Sk];refine My (Fm ht ?_);simp only [Option.isNone_some,TJ,Ug];refine My (Se hz rfl (x:=.bool fl) rfl ?_)
 cases fl with
 | true=>
  rw [RQ (show ¬ ((Value.bool true != Value.bool true)=true) from RM)];exact RI (hQ s.heap hz (Heap.SameBut.refl _ _))
 | false=>
  rw [RX (show (Value.bool false != Value.bool true)=true from rfl)];exact My (S2 hz (by simp) λ h3 z3 s3=>RI (hQ h3 z3 s3))
def Ai(S:Src prog w i f ti vi)(T:Src prog w j g tj vj)(D:fC z TI TO i j f g){Q:Value->Shared->Prop}
  (hz:gF s.heap z TI TO (rawInt t) fl) (ht:s.heap.get? t=some ot) (aa:IsPair s.heap TI (.ref i) (.ref j)) (hi:ti k s.heap) (hj:tj m s.heap) (hx:vi k=some x) (hy:vj m=some y)
  (hQ:∀ h',gF h' z TI TO (rawInt t) true->ti (k+1) h'->tj (m+1) h'->IsPair h' s.heap.objs.size x y->h'.objs.size=s.heap.objs.size+1->(∀ c o,c ∉ [z,i,j]->s.heap.get? c=some o->h'.get? c=some o)->Q (.ref s.heap.objs.size) { s with heap:=h' }) :
  wpAny (model prog w) A (Builtin.«zip.__next__» ⟨[.ref z],[]⟩) (λ fin s'=>∃ v,fin=.done (.ret v)/\Q v s') E s:=by
 have iz:i ≠ z:=dH S.mem D.zf;have jz:j ≠ z:=dH T.mem D.zg;refine My (m:=field (.ref z) 2) (Se hz rfl (x:=.bool false) rfl ?_);refine My (m:=field (.ref z) 3) (Se hz rfl (x:=.ref TI) rfl (My (SK aa rfl ?_)));refine My (m:=Builtin.SmallTypes.ownedTupleIsFree (.ref z)) (qe hz ht λ q1 z1 s1=>?_);simp only [TJ,Ug];refine My ?_;simp only [List.forIn_toArray,UZ,US];refine My (My (SU (My (m:=Builtin.SmallTypes.nextOf (.ref i)) (S.item _ k _ x _ _ (S.but hi s1.extBut D.zf) hx λ q2 i2 s2=>RI ?_))));have j2:tj m q2:=T.but (T.but hj s1.extBut D.zg) s2.extBut D.ig;refine RI ?_;refine My (My (SU (My (m:=Builtin.SmallTypes.nextOf (.ref j)) (T.item _ m _ y _ _ j2 hy λ q3 j3 s3=>RI ?_))));refine RI (RI ?_);refine My (wpAny_newTuple (hsz:=(show 2<=sizeLine by decide)) ?_);have sz:q3.objs.size=s.heap.objs.size:=by rw [s3.1,s2.1,s1.1]
 have z3:gF q3 z TI TO (rawInt t) true:=s3.extBut _ _ jz.symm (s2.extBut _ _ iz.symm z1);have i3:ti (k+1) q3:=S.but i2 s3.extBut D.jf;refine RI ⟨_,rfl,?_⟩
 show Q (.ref q3.objs.size) _
 have n3:IsPair (q3.push { cls:=.type "tuple",data:=.seq #[x,y] }) q3.objs.size x y:=RK _ rfl;have n4:(q3.push { cls:=.type "tuple",data:=.seq #[x,y] }).objs.size=q3.objs.size+1:=Sz ..;rw [sz] at n3 n4;rw [sz];refine hQ _ (RD _ z3) (S.keep _ _ _ i3 λ c hc o e=>RD _ e) (T.keep _ _ _ j3 λ c hc o e=>RD _ e) n3 n4 λ c o hc e=>?_;simp only [RZ,RS,Sb,T6] at hc;exact RD _ (s3.extBut _ _ hc.2.2 (s2.extBut _ _ hc.2.1 (s1.extBut _ _ hc.1 e)))
def Dh(hh:A.handled=none)(S:Src prog w i f ti vi)(T:Src prog w j g tj vj)(D:fC z TI TO i j f g){Q:Fin->Shared->Prop}
  (hz:gF s.heap z TI TO (rawInt t) fl) (ht:s.heap.get? t=some ot) (aa:IsPair s.heap TI (.ref i) (.ref j)) (hi:ti k s.heap) (hj:tj m s.heap) (aS:vi k=none\/vj m=none)
  (hE:∀ h' e,(∀ c o,c ∉ [z,i,j]->s.heap.get? c=some o->h'.get? c=some o)->(∃ o,h'.get? e=some o/\o.cls=.type "StopIteration")->E (.ref e) { s with heap:=h' }) :
  wpAny (model prog w) A (Builtin.«zip.__next__» ⟨[.ref z],[]⟩) Q E s:=by
 refine My (m:=field (.ref z) 2) (Se hz rfl (x:=.bool false) rfl ?_);refine My (m:=field (.ref z) 3) (Se hz rfl (x:=.ref TI) rfl (My (SK aa rfl ?_)));refine My (m:=Builtin.SmallTypes.ownedTupleIsFree (.ref z)) (qe hz ht λ q1 z1 s1=>?_);simp only [TJ,Ug];refine My ?_;simp only [List.forIn_toArray,UZ,US];refine My (My (SU (My (m:=Builtin.SmallTypes.nextOf (.ref i)) ?_)))
 cases hx:vi k with
 | none=>
  refine S.fin _ k _ _ _ hh (S.but hi s1.extBut D.zf) hx λ q2 e s2 he=>hE q2 e (λ c o hc q=>?_) he;simp only [RZ,RS,Sb,T6] at hc;exact s2 _ _ hc.2.1 (s1.extBut _ _ hc.1 q)
 | some x=>
  have hy:vj m=none:=aS.resolve_left (by rw [hx];exact Option.some_ne_none x);refine S.item _ k _ x _ _ (S.but hi s1.extBut D.zf) hx λ q2 i2 s2=>RI (RI ?_);have j2:tj m q2:=T.but (T.but hj s1.extBut D.zg) s2.extBut D.ig;refine My (My (SU (My (m:=Builtin.SmallTypes.nextOf (.ref j)) (T.fin _ m _ _ _ hh j2 hy λ q3 e s3 he=>hE q3 e (λ c o hc q=>?_) he))));simp only [RZ,RS,Sb,T6] at hc;exact s3 _ _ hc.2.2 (s2.extBut _ _ hc.2.1 (s1.extBut _ _ hc.1 q))
def mS(S:Src prog w i f ti vi)(T:Src prog w j g tj vj)(D:fC z TI TO i j f g){Q:Option Value->Shared->Prop}
  (hz:gF s.heap z TI TO (rawInt t) fl) (ht:s.heap.get? t=some ot) (aa:IsPair s.heap TI (.ref i) (.ref j)) (hi:ti k s.heap) (hj:tj m s.heap) (hx:vi k=some x) (hy:vj m=some y)
  (hQ:∀ h',gF h' z TI TO (rawInt t) true->ti (k+1) h'->tj (m+1) h'->IsPair h' s.heap.objs.size x y->h'.objs.size=s.heap.objs.size+1->(∀ c o,c ∉ [z,i,j]->s.heap.get? c=some o->h'.get? c=some o)->Q (some (.ref s.heap.objs.size)) { s with heap:=h' }) :
  wpAny (model prog w) A (pyNext (.ref z)) Q E s:=by
 have ty:s.TypeIs (.ref z) "zip":=⟨_,hz,rfl⟩;unfold pyNext;exact wpAny_bind (wpAny_attempt (wpAny_callSpecial?_slot (name:=Str.ofString "__next__") ty F.slot_zip_next (wpAny_call_entry F.slot_zip_next ty F.entry_zip_next (Ai S T D hz ht aa hi hj hx hy λ h' c1 c2 c3 c4 c5 c6=>wpAny_pure (hQ h' c1 c2 c3 c4 c5 c6)) (F.args_zip_next_1 _))))
def oU(hh:A.handled=none)(S:Src prog w i f ti vi)(T:Src prog w j g tj vj)(D:fC z TI TO i j f g){Q:Option Value->Shared->Prop}
  (hz:gF s.heap z TI TO (rawInt t) fl) (ht:s.heap.get? t=some ot) (aa:IsPair s.heap TI (.ref i) (.ref j)) (hi:ti k s.heap) (hj:tj m s.heap) (aS:vi k=none\/vj m=none)
  (hQ:∀ h',(∀ c o,c ∉ [z,i,j]->s.heap.get? c=some o->h'.get? c=some o)->Q none { s with heap:=h' }):wpAny (model prog w) A (pyNext (.ref z)) Q E s:=by
 have ty:s.TypeIs (.ref z) "zip":=⟨_,hz,rfl⟩;unfold pyNext;refine wpAny_bind (wpAny_attempt (wpAny_callSpecial?_slot (name:=Str.ofString "__next__") ty F.slot_zip_next (wpAny_call_entry F.slot_zip_next ty F.entry_zip_next (Dh (show A.in1.handled=none from hh) S T D hz ht aa hi hj aS λ h' e kp he=>?_) (F.args_zip_next_1 _))));obtain⟨o,ho,hc⟩:=he;exact wpAny_bind (wpAny_isInstance (T := "StopIteration") (b:=true) ⟨o,ho,hc⟩ isSubtype_stop (wpAny_pure (hQ _ kp)))
def Zst(ka kb:Bool)(a b z TI TO p q:Addr)(as bs:Array Value)(n:Nat)(h:Heap):Prop:=
 (IsZip h z TI TO .none\/∃ (t:Addr) (fl:Bool) (ot:Obj),gF h z TI TO (rawInt t) fl/\h.get? t=some ot/\t ∉ [z,TI,TO,p,q])/\IsPair h TI (.ref p) (.ref q)/\(∃ u v,IsPair h TO u v)/\(cS h ka p a n/\SeqAt h ka a as)/\(cS h kb q b n/\SeqAt h kb b bs)
def Zst.keep{ka kb:Bool}{a b z TI TO p q:Addr}{as bs:Array Value}{n:Nat}{h h':Heap}(st:Zst ka kb a b z TI TO p q as bs n h)(k:∀ c o,h.get? c=some o->h'.get? c=some o):Zst ka kb a b z TI TO p q as bs n h':=by
 obtain⟨e0,e1,⟨u,v,e2⟩,⟨e3,e4⟩,e5,e6⟩:=st;refine⟨e0.imp (λ e=>k _ _ e) (λ ⟨t,fl,ot,x1,x2,x3⟩=>⟨t,fl,ot,k _ _ x1,k _ _ x2,x3⟩),k _ _ e1,⟨u,v,k _ _ e2⟩,⟨e3.at λ o e=>k _ o e,e4.at λ o e=>k _ o e⟩,e5.at λ o e=>k _ o e,e6.at λ o e=>k _ o e⟩
variable {ka kb:Bool}{a b p q:Addr}{as bs:Array Value}{n:Nat}
def De(nd:[z,TI,TO,p,q].Nodup)(na:a ∉ [z,TI,TO,p,q])(nb:b ∉ [z,TI,TO,p,q]){Q:Option Value->Shared->Prop}(st:Zst ka kb a b z TI TO p q as bs n s.heap)(hx:as[n]? = some x)(hy:bs[n]? = some y)
  (hQ:∀ h',Zst ka kb a b z TI TO p q as bs (n+1) h'->IsPair h' s.heap.objs.size x y->h'.objs.size=s.heap.objs.size+1->(∀ c o,c ∉ [z,TI,TO,p,q]->s.heap.get? c=some o->h'.get? c=some o)->Q (some (.ref s.heap.objs.size)) { s with heap:=h' }) :
  wpAny (model prog w) A (pyNext (.ref z)) Q E s:=by
 obtain⟨e0,e1,⟨u,v,e2⟩,e3,e4⟩:=st;simp only [SY,RZ,RS,Sb,T6,TV,and_true,UE] at nd na nb;obtain⟨⟨z1,z2,z3,z4⟩,⟨t1,t2,t3⟩,⟨w1,w2⟩,y1⟩:=nd;obtain⟨a1,a2,a3,a4,a5⟩:=na;obtain⟨b1,b2,b3,b4,b5⟩:=nb;have S:=jQ (prog:=prog) (w:=w) ka p a a4 as;have T:=jQ (prog:=prog) (w:=w) kb q b b5 bs;have D:fC z TI TO p q [p,a] [q,b]:=⟨⟨RO z1,t1,t2,t3⟩,z2,by simp [z3,RO a1],by simp [z4,RO b1],by simp [w1,RO a3],by simp [w2,RO b3],by simp [y1,RO b4],by simp [RO y1,RO a5]⟩
 have zl:z < s.heap.objs.size/\TI < s.heap.objs.size/\TO < s.heap.objs.size/\p < s.heap.objs.size/\q < s.heap.objs.size:=by
  refine⟨?_,RF e1,RF e2,?_,?_⟩
  ·rcases e0 with e|⟨_,_,_,e,_⟩<;>exact RF e
  ·obtain⟨o,_,e,_⟩:=e3.1.obj;exact RF e
  ·obtain⟨o,_,e,_⟩:=e4.1.obj;exact RF e
 have nw:s.heap.objs.size ∉ [z,TI,TO,p,q]:=by
  simp only [RZ,RS,Sb,T6];exact⟨So zl.1,So zl.2.1,So zl.2.2.1,So zl.2.2.2.1,So zl.2.2.2.2⟩
 rcases e0 with e0|⟨t,fl,ot,e0,et,nt⟩
 ·refine gG S T D e0 e1 e2 e3 e4 hx hy λ h1 c1 c2 c3 c4 c5 c6 c7=>hQ h1 ⟨.inr ⟨_,false,_,c1,c5,nw⟩,c7 TI _ (by simp [RO z1,t1,t2,t3]) e1,⟨_,_,c2⟩,c3,c4⟩ c5 c6 λ c o hc e=>c7 c o (λ z=>hc ?_) e;simp only [RZ,RS,Sb] at z ⊢
  rcases z with h|h|h|h<;>simp [h]
 ·refine mS S T D e0 et e1 e3 e4 hx hy λ h1 c1 c3 c4 c5 c6 c7=>hQ h1 ⟨.inr ⟨_,true,_,c1,c7 t _ (λ z=>nt ?_) et,nt⟩,c7 TI _ (by simp [RO z1,t2,t3]) e1,⟨_,_,c7 TO _ (by simp [RO z2,w1,w2]) e2⟩,c3,c4⟩ c5 c6 λ c o hc e=>c7 c o (λ z=>hc ?_) e
  all_goals
   simp only [RZ,RS,Sb] at z ⊢
   rcases z with h|h|h<;>simp [h]
def GH(hh:A.handled=none)(nd:[z,TI,TO,p,q].Nodup)(na:a ∉ [z,TI,TO,p,q])(nb:b ∉ [z,TI,TO,p,q]){Q:Option Value->Shared->Prop}(st:Zst ka kb a b z TI TO p q as bs n s.heap)(aa:as[n]? = none\/bs[n]? = none)
  (hQ:∀ h',(∀ c o,c ∉ [z,TI,TO,p,q]->s.heap.get? c=some o->h'.get? c=some o)->Q none { s with heap:=h' }) :
  wpAny (model prog w) A (pyNext (.ref z)) Q E s:=by
 obtain⟨e0,e1,⟨u,v,e2⟩,e3,e4⟩:=st;simp only [SY,RZ,RS,Sb,T6,TV,and_true,UE] at nd na nb;obtain⟨⟨z1,z2,z3,z4⟩,⟨t1,t2,t3⟩,⟨w1,w2⟩,y1⟩:=nd;obtain⟨a1,a2,a3,a4,a5⟩:=na;obtain⟨b1,b2,b3,b4,b5⟩:=nb;have S:=jQ (prog:=prog) (w:=w) ka p a a4 as;have T:=jQ (prog:=prog) (w:=w) kb q b b5 bs;have D:fC z TI TO p q [p,a] [q,b]:=⟨⟨RO z1,t1,t2,t3⟩,z2,by simp [z3,RO a1],by simp [z4,RO b1],by simp [w1,RO a3],by simp [w2,RO b3],by simp [y1,RO b4],by simp [RO y1,RO a5]⟩
 rcases e0 with e0|⟨t,fl,ot,e0,et,nt⟩
 ·refine iW hh S T D e0 e1 e2 e3 e4 aa λ h1 kp=>hQ h1 λ c o hc e=>kp c o (λ z=>hc ?_) e;simp only [RZ,RS,Sb] at z ⊢
  rcases z with h|h|h|h<;>simp [h]
 ·refine oU hh S T D e0 et e1 e3 e4 aa λ h1 kp=>hQ h1 λ c o hc e=>kp c o (λ z=>hc ?_) e;simp only [RZ,RS,Sb] at z ⊢
  rcases z with h|h|h<;>simp [h]
structure Got(h:Heap)(lo:Nat)(as bs:Array Value)(ts:List Addr):Prop where
 nd:ts.Nodup
 lo:∀ t∈ts,lo<=t
 get:∀ (m:Nat) t,ts[m]? = some t->∃ x y,as[m]? = some x/\bs[m]? = some y/\IsPair h t x y
def Got.lt{h:Heap}{lo:Nat}{as bs:Array Value}{ts:List Addr}(G:Got h lo as bs ts):∀ t∈ts,t < h.objs.size:=λ t ht=>by
 obtain⟨m,hm,rfl⟩:=TB ht;obtain⟨x,y,_,_,e⟩:=G.get m _ (RE hm);exact RF e
def Df{R:Result->Shared->Prop}(hh:A.handled=none)(nd:[z,TI,TO,p,q].Nodup)(na:a ∉ [z,TI,TO,p,q])(nb:b ∉ [z,TI,TO,p,q])(S lo:Addr)(hS:S ∉ [z,TI,TO,p,q])(aS:a ≠ S)(bS:b ≠ S)(a9:∀ c∈[z,TI,TO,p,q],lo<=c)(ba:lo<=S)(hsz:min as.size bs.size<=sizeLine) :
  ∀ (k n:Nat) (s:Shared) (ts:List Addr) (c:Nat),min as.size bs.size - n=k->n<=min as.size bs.size->Zst ka kb a b z TI TO p q as bs n s.heap->s.heap.get? S=some { cls:=.type "list",dict:=none,data:=.seq (ts.map Value.ref).toArray c,slots:=#[] }->ts.length=n->Got s.heap lo as bs ts->S ∉ ts->(∀ t∈ts,t ∉ [z,TI,TO,p,q])->lo<=s.heap.objs.size →
  (∀ h' a3 c',h'.get? S=some { cls:=.type "list",dict:=none,data:=.seq (a3.map Value.ref).toArray c',slots:=#[] }->a3.length=min as.size bs.size->Got h' lo as bs a3->S ∉ a3->(∀ d o,d < lo->s.heap.get? d=some o->h'.get? d=some o)->R (.ok (.ret .none)) { s with heap:=h' }) →
  codeAny (model prog w) A (.builtin "list.extend.loop" ⟨[.ref S,.ref z,.none],[]⟩) R s:=by
 intro k
 induction k with
 | zero=>
  intro n s ts c hk hn st hL hl G a4 a5 a7 hR;refine codeAny_builtin PySem.F.entry_extend_loop ?_;rw [Around.under_plainId Tn _]
  show wpAny _ A.in1 (pyNext (.ref z) >>= _) _ _ s
  refine My (GH (show A.in1.handled=none from hh) nd na nb st ?_ λ h' kp=>?_)
  ·by_cases h1:as.size<=n
   ·exact .inl (Array.getElem?_eq_none h1)
   ·exact .inr (Array.getElem?_eq_none (by omega))
  ·exact RI (hR h' ts c (kp _ _ hS hL) (by omega) ⟨G.nd,G.lo,λ m t ht=>by
    obtain⟨x,y,e1,e2,e3⟩:=G.get m t ht;exact⟨x,y,e1,e2,kp _ _ (a5 t (Sa ht)) e3⟩⟩ a4 λ d o hd e=>kp d o (λ z=>absurd (a9 d z) (Nat.not_le.mpr hd)) e)
 | succ k ih=>
  intro n s ts c hk hn st hL hl G a4 a5 a7 hR;have h1:n < as.size:=by omega
  have h2:n < bs.size:=by omega
  refine codeAny_builtin PySem.F.entry_extend_loop ?_;rw [Around.under_plainId Tn _]
  show wpAny _ A.in1 (pyNext (.ref z) >>= _) _ _ s
  refine My (De nd na nb st (To h1) (To h2) λ h' bp pr sz kp=>?_);have a8:=kp _ _ hS hL
  show wpAny _ A.in1 (updateSeq S (·.push (.ref s.heap.objs.size)) >>= _) _ _ _
  refine My ?_;have Sn:S ≠ s.heap.objs.size:=RT (RF hL);have aa:∀ d o,d ≠ S->h'.get? d=some o->(h'.update S (Obj.mapSeq (·.push (.ref s.heap.objs.size)))).get? d=some o:=λ d o hd e=>(Sd _ _ (RO hd)).trans e
  have G':Got (h'.update S (Obj.mapSeq (·.push (.ref s.heap.objs.size)))) lo as bs (ts++[s.heap.objs.size]):=by
   refine⟨?_,λ t ht=>?_,λ m t ht=>?_⟩
   ·rw [List.nodup_append];refine⟨G.nd,by simp,λ x hx y hy=>?_⟩;rw [RP.mp hy];exact RT (G.lt x hx)
   ·rcases SD.mp ht with ht|ht
    ·exact G.lo t ht
    ·rw [RP.mp ht];exact a7
   ·by_cases hm:m < ts.length
    ·rw [SN hm] at ht;obtain⟨x,y,e1,e2,e3⟩:=G.get m t ht;have a6:=Sa ht;exact⟨x,y,e1,e2,aa _ _ (λ z=>a4 (z ▸ a6)) (kp _ _ (a5 t a6) e3)⟩
    ·rw [Sw (by omega)] at ht
     have h0:m - ts.length=0:=by
      rcases Nat.eq_zero_or_pos (m - ts.length) with h|h
      ·exact h
      ·rw [Sq (by simp;omega)] at ht;cases ht
     rw [h0] at ht;simp at ht;subst ht;have b1:m=n:=by omega
     subst b1;exact⟨_,_,To h1,To h2,aa _ _ (RO Sn) pr⟩
  have nw:s.heap.objs.size ∉ [z,TI,TO,p,q]:=by
   obtain⟨e0,e1,⟨u,v,e2⟩,e3,e4⟩:=st;simp only [RZ,RS,Sb,T6];refine⟨?_,So (RF e1),So (RF e2),?_,?_⟩
   ·rcases e0 with e|⟨_,_,_,e,_⟩<;>exact So (RF e)
   ·obtain⟨o,_,e,_⟩:=e3.1.obj;exact So (RF e)
   ·obtain⟨o,_,e,_⟩:=e4.1.obj;exact So (RF e)
  have stK:Zst ka kb a b z TI TO p q as bs (n+1) (h'.update S (Obj.mapSeq (·.push (.ref s.heap.objs.size)))):=by
   obtain⟨e0,e1,⟨u,v,e2⟩,⟨e3,e4⟩,e5,e6⟩:=bp;simp only [RZ,RS,Sb,T6] at hS;obtain⟨n1,n2,n3,n4,n5⟩:=hS;refine⟨e0.imp (λ e=>aa _ _ (RO n1) e) (λ ⟨t,fl,ot,x1,x2,x3⟩=>?_),aa _ _ (RO n2) e1,⟨u,v,aa _ _ (RO n3) e2⟩,⟨e3.at λ o e=>aa _ o (RO n4) e,e4.at λ o e=>aa _ o aS e⟩,e5.at λ o e=>aa _ o (RO n5) e,e6.at λ o e=>aa _ o bS e⟩
   by_cases htS:t=S
   ·subst htS;exact⟨t,fl,_,aa _ _ (RO n1) x1,R8 _ a8 rfl,x3⟩
   ·exact⟨t,fl,ot,aa _ _ (RO n1) x1,aa _ _ htS x2,x3⟩
  have b2:(h'.update S (Obj.mapSeq (·.push (Value.ref s.heap.objs.size)))).get? S=some { cls:=.type "list",dict:=none,data:=.seq ((ts++[s.heap.objs.size]).map Value.ref).toArray (c+1),slots:=#[] }:=by
   rw [R8 (Obj.mapSeq (·.push (Value.ref s.heap.objs.size))) a8 rfl];simp [Obj.mapSeq]
  refine Ti a8 rfl (RI ⟨plainId_quiet Tn _,ih (n+1) _ (ts++[s.heap.objs.size]) _ (by omega) (by omega) stK b2 (by simp [hl]) G' ?_ ?_ ?_ λ h3 b3 c3 r1 r2 r3 r4 r5=>hR h3 b3 c3 r1 r2 r3 r4 λ d o hd e=>r5 d o hd ?_⟩) ?_ ?_
  ·intro hm
   rcases SD.mp hm with hm|hm
   ·exact a4 hm
   ·exact Sn (RP.mp hm)
  ·intro t ht
   rcases SD.mp ht with ht|ht
   ·exact a5 t ht
   ·rw [RP.mp ht];exact nw
  ·show lo<=(h'.update S _).objs.size
   rw [UT,sz];exact Sj a7 (SX _)
  ·exact aa _ _ (RT (RV hd ba)) (kp d o (λ z=>absurd (a9 d z) (Nat.not_le.mpr hd)) e)
  ·simp;omega
  ·simp;omega
def wK:typeLookup (.type "zip") "__len__"=pure none:=by rw [typeLookup_type,builtinLookup_eq_fast];kernel_rfl
def uf:typeLookup (.type "zip") "__length_hint__"=pure none:=by rw [typeLookup_type,builtinLookup_eq_fast];kernel_rfl
def Zst.ty(st:Zst ka kb a b z TI TO p q as bs n s.heap):s.TypeIs (.ref z) "zip":=by
 rcases st.1 with e|⟨_,_,_,e,_⟩
 ·exact⟨_,e,rfl⟩
 ·exact⟨_,e,rfl⟩
def Zst.but{h h':Heap}{S:Addr}(st:Zst ka kb a b z TI TO p q as bs 0 h)(e0:IsZip h z TI TO .none)(hS:S ∉ [z,TI,TO,p,q])(aS:a ≠ S)(bS:b ≠ S)(k:∀ c o,c ≠ S->h.get? c=some o->h'.get? c=some o):Zst ka kb a b z TI TO p q as bs 0 h':=by
 obtain⟨_,e1,⟨u,v,e2⟩,⟨e3,e4⟩,e5,e6⟩:=st;simp only [RZ,RS,Sb,T6] at hS;obtain⟨n1,n2,n3,n4,n5⟩:=hS;exact⟨.inl (k _ _ (RO n1) e0),k _ _ (RO n2) e1,⟨u,v,k _ _ (RO n3) e2⟩,⟨e3.at λ o e=>k _ o (RO n4) e,e4.at λ o e=>k _ o aS e⟩,e5.at λ o e=>k _ o (RO n5) e,e6.at λ o e=>k _ o bS e⟩
def pG{Q:Value->Shared->Prop}(hh:A.handled=none)(nd:[z,TI,TO,p,q].Nodup)(na:a ∉ [z,TI,TO,p,q])(nb:b ∉ [z,TI,TO,p,q])(lo:Addr)(a6:∀ c∈[z,TI,TO,p,q],lo<=c)(hsz:min as.size bs.size<=sizeLine)
  (e0:IsZip s.heap z TI TO .none) (st:Zst ka kb a b z TI TO p q as bs 0 s.heap)
  (hQ:∀ h' aa c',h'.get? s.heap.objs.size=some { cls:=.type "list",dict:=none,data:=.seq (aa.map Value.ref).toArray c',slots:=#[] }->aa.length=min as.size bs.size->Got h' lo as bs aa->s.heap.objs.size ∉ aa->(∀ d o,d < lo->s.heap.get? d=some o->h'.get? d=some o)->Q (.ref s.heap.objs.size) { s with heap:=h' }) :
  wpAny (model prog w) A (call (.type "list") [.ref z]) Q E s:=by
 have zl:∀ c∈[z,TI,TO,p,q],c < s.heap.objs.size:=by
  obtain⟨_,e1,⟨u,v,e2⟩,⟨e3,e4⟩,e5,e6⟩:=st;intro c hc;simp only [RZ,RS,Sb] at hc
  rcases hc with rfl|rfl|rfl|rfl|rfl
  ·exact RF e0
  ·exact RF e1
  ·exact RF e2
  ·obtain⟨o,_,e,_⟩:=e3.obj;exact RF e
  ·obtain⟨o,_,e,_⟩:=e5.obj;exact RF e
 have aS:s.heap.objs.size ∉ [z,TI,TO,p,q]:=λ hm=>SE _ (zl _ hm);have bp:s.heap.objs.size ≠ z:=λ e=>aS (by simp [e]);have al:a < s.heap.objs.size:=by obtain⟨o,_,e,_⟩:=st.2.2.2.1.2.obj;exact RF e
 have bl:b < s.heap.objs.size:=by obtain⟨o,_,e,_⟩:=st.2.2.2.2.2.obj;exact RF e
 have a7:lo<=s.heap.objs.size:=T4 (Nat.lt_of_le_of_lt (a6 z (by simp)) (zl z (by simp)))
 refine callType_codes (Q₁:=λ obj s₁=>obj=.ref s.heap.objs.size/\s₁={ s with heap:=s.heap.push { cls:=.type "list",data:=.seq #[] } }) PySem.F.called_list (PySem.F.typeCall_list_1 _) PySem.F.entry_list_init
  (code_list_new _ ⟨rfl,rfl⟩) λ obj s₁ h₁=>?_
 obtain⟨rfl,rfl⟩:=h₁;have hS:(s.heap.push { cls:=.type "list",data:=.seq #[] }).get? s.heap.objs.size=some { cls:=.type "list",data:=.seq #[] }:=RK _ rfl;refine⟨⟨_,hS,rfl⟩,PySem.F.args_list_init_2 _ _,?_⟩
 show wpAny _ A.in1.in1 (do let old ←Builtin.List.listItems (.ref s.heap.objs.size);Builtin.List.listUpdate (.ref s.heap.objs.size) (λ _=>#[]);letGo old.toList.reverse;Builtin.List.listExtendWith (.ref s.heap.objs.size) (.ref z) .none) _ _ _
 refine wpAny_bind ?_;unfold Builtin.List.listItems;refine wpAny_bind (wpAny_seqItems hS rfl (wpAny_pure ?_))
 show wpAny _ A.in1.in1 (updateSeq s.heap.objs.size (λ _=>#[]) >>= λ _=>letGo (#[]:Array Value).toList.reverse >>= λ _=>Builtin.List.listExtendWith (.ref s.heap.objs.size) (.ref z) .none) _ _ _
 refine My (Ti hS rfl ?_);have a3:=R8 (Obj.mapSeq (λ _=>(#[]:Array Value))) hS rfl;refine My (Vd ?_);have k1:∀ c o,s.heap.get? c=some o->((s.heap.push { cls:=.type "list",data:=.seq #[] }).update s.heap.objs.size (Obj.mapSeq (λ _=>(#[]:Array Value)))).get? c=some o:=λ c o e=>(Sd _ _ (So (RF e))).trans (RD _ e);have a4:=st.keep k1;have e1:=k1 _ _ e0;have a8:((s.heap.push { cls:=.type "list",data:=.seq #[] }).update s.heap.objs.size (Obj.mapSeq (λ _=>(#[]:Array Value)))).objs.size=s.heap.objs.size+1:=by rw [UT,Sz]
 generalize (s.heap.push { cls:=.type "list",data:=.seq #[] }).update s.heap.objs.size (Obj.mapSeq (λ _=>(#[]:Array Value)))=hp at a3 k1 a4 e1 a8;unfold Builtin.List.listExtendWith;have a5:Shared.TypeIs { s with heap:=hp } (.ref z) "zip":=Zst.ty (s:={ s with heap:=hp }) a4;refine wpAny_bind (wpAny_typeOf a5 ?_);have h1:Builtin.List.listSameRef (.ref s.heap.objs.size) (.ref z)=false:=by simp [Builtin.List.listSameRef,bp]
 have h2:(Value.type "zip" == Value.type "list")=false:=by decide
 have h3:(Value.type "zip" == Value.type "tuple")=false:=by decide
 simp only [h1,h2,h3,Bool.or_false,Bool.false_eq_true,if_false];refine wpAny_bind (wpAny_pyIter_zip e1 ?_);refine wpAny_bind (wpAny_holding ?_);unfold Builtin.List.listLengthHint;refine wpAny_bind (wpAny_specialOf a5 wK ?_)
 show wpAny _ A.in1.in1 (specialOf (Value.ref z) (Str.ofString "__length_hint__") >>= _) _ _ _
 refine My (UW a5 uf ?_);refine RI ?_
 show wpAny _ A.in1.in1 (rule "list.extend.makes-room" >>= λ _=>Builtin.List.listTouch (.ref s.heap.objs.size) >>= λ _=>
  again (.builtin "list.extend.loop" ⟨[.ref s.heap.objs.size,.ref z,.none],[]⟩)) _ _ _
 refine My (U1 ?_);refine My ?_
 show wpAny _ A.in1.in1 (updateSeq s.heap.objs.size (·.push .none) >>= λ _=>updateSeq s.heap.objs.size (·.pop)) _ _ _
 refine My (Ti a3 rfl ?_);have a9:=R8 (Obj.mapSeq (·.push Value.none)) a3 rfl;refine Ti (hz:=by seq_fits) a9 rfl ?_;have bS:=R8 (Obj.mapSeq (·.pop)) a9 rfl
 have ba:∀ c o,c ≠ s.heap.objs.size->hp.get? c=some o->((hp.update s.heap.objs.size (Obj.mapSeq (·.push Value.none))).update s.heap.objs.size (Obj.mapSeq (·.pop))).get? c=some o:=
  λ c o hc e=>(Sd _ _ (RO hc)).trans ((Sd _ _ (RO hc)).trans e)
 have b1:=a4.but e1 aS (RT al) (RT bl) ba;refine RI ⟨plainId_quiet Tn _,Df (A:=A.in1) hh nd na nb s.heap.objs.size lo aS (RT al) (RT bl) a6 a7 hsz _ 0 _ [] _ rfl (SF _) b1 (by exact bS) rfl ⟨UE,λ t h=>absurd h RS,λ m t h=>by simp at h⟩ (by simp) (λ t h=>absurd h RS) ?_ λ h' aa c' r1 r2 r3 r4 r5=>?_⟩
 ·show lo<=((hp.update _ _).update _ _).objs.size
  rw [UT,UT,a8];exact Sj a7 (SX _)
 ·refine⟨rfl,hQ h' aa c' r1 r2 r3 r4 λ d o hd e=>r5 d o hd (ba d o (RT (RF e)) (k1 d o e))⟩
end
section
variable {X:Cx}{pins:List (Addr × Obj)}{σ:St}{s:Shared}
def Inv.adoptAll:∀ (ts:List Addr) (zs:List (V × V)){H:Hp},Inv X pins σ H s->ts.length=zs.length->ts.Nodup->(∀ t∈ts,pY X pins t/\H t=none)->(∀ (m:Nat) t z,ts[m]? = some t->zs[m]? = some z->∃ u v,bD z.1 u/\bD z.2 v/\IsPair s.heap t u v) →
  ∃ H',Inv X pins σ H' s/\Ext H H'/\(∀ c,c ∉ ts->H' c=H c)/\∀ (m:Nat) t z,ts[m]? = some t->zs[m]? = some z->H' t=some (.tup [z.1,z.2])
 | [],zs,H,I,_,_,_,_=>⟨H,I,Ext.refl _,λ _ _=>rfl,λ m t z h=>by simp at h⟩
 | t::ts,[],H,I,hl,_,_,_=>by simp at hl
 | t::ts,z::zs,H,I,hl,nd,hn,hp=>by
  rw [SY] at nd;obtain⟨N,ht⟩:=hn t R5;obtain⟨u,v,ru,rv,pr⟩:=hp 0 t z rfl rfl;have I1:=I.adopt (o:=.tup [z.1,z.2]) N ht ⟨(show 2<=sizeLine by decide),[u,v],.cons ru (.cons rv .nil),⟨_,pr,rfl,_,rfl⟩⟩;have up:∀ c∈ts,c ≠ t:=λ c hc e=>nd.1 (e ▸ hc);obtain⟨H',I',e',q',g'⟩:=Inv.adoptAll ts zs I1 (by simpa using hl) nd.2 (λ c hc=>⟨(hn c (RU _ hc)).1,by rw [ah (up c hc)];exact(hn c (RU _ hc)).2⟩) λ m t' z' h1 h2=>hp (m+1) t' z' (by simpa using h1) (by simpa using h2);refine⟨H',I',(Ext.new ht).trans e',λ c hc=>?_,λ m t' z' h1 h2=>?_⟩
  ·rw [q' c (λ h=>hc (RU _ h)),ah (λ h=>hc (by rw [h];exact R5))]
  ·cases m with
   | zero=>
    simp at h1 h2;subst h1;subst h2;rw [q' t nd.1,ai]
   | succ m=>exact g' m t' z' (by simpa using h1) (by simpa using h2)
end
def lzK(xs ys:List V)(H:Hp)(Q:VK):Prop:=∀ (D:Addr) (ts:List V) (H':Hp),H D=none->Ext H H'->H' D=some (.lst ts)->Al (λ z y=>JP z y H') (xs.zip ys) ts->Q (.ref D) H'
def OQ(xs ys:List V)(H:Hp)(Q:VK):lzK xs ys H Q=∀ (D:Addr) (ts:List V) (H':Hp),H D=none->Ext H H'->H' D=some (.lst ts)->Al (λ z y=>JP z y H') (xs.zip ys) ts->Q (.ref D) H':=rfl
def JT(xs:List V)(H:Hp)(Q:VK):HO->Prop:=λ o=>match o with
 | .lst ys=>lzK xs ys H Q
 | .tup ys=>lzK xs ys H Q
 | _=>False
def Ek(xs ys:List V)(H:Hp)(Q:VK):JT xs H Q (.lst ys)=lzK xs ys H Q:=rfl
def NN(b:Addr)(H:Hp)(Q:VK):HO->Prop:=λ o=>match o with
 | .lst xs=>aJ (H b) (JT xs H Q)
 | .tup xs=>aJ (H b) (JT xs H Q)
 | _=>False
def El(b:Addr)(xs:List V)(H:Hp)(Q:VK):NN b H Q (.lst xs)=aJ (H b) (JT xs H Q):=rfl
def J2(Q:VK):List V->Hp->Prop:=λ vs H=>match vs with
 | [.ref a,.ref b]=>aJ (H a) (NN b H Q)
 | _=>False
def MJ(Q:VK)(a b:Addr)(H:Hp):J2 Q [.ref a,.ref b] H=aJ (H a) (NN b H Q):=rfl
def tLZ(ta:TA):TE:=λ σ H Q=>ta σ H (J2 Q)
def Pf(ta:TA)(σ:St)(H:Hp)(Q:VK):tLZ ta σ H Q=ta σ H (J2 Q):=rfl
def Jh{Q:VK}{vs:List V}{H:Hp}(h:J2 Q vs H):∃ a b ka kb xs ys,vs=[.ref a,.ref b]/\SqK ka H a xs/\SqK kb H b ys/\lzK xs ys H Q:=by
 unfold J2 at h;split at h
 ·rename_i a b;obtain⟨o,e,h⟩:=aq h;unfold NN at h;split at h
  ·rename_i xs;obtain⟨o',e',h⟩:=aq h;unfold JT at h;split at h
   ·exact⟨a,b,false,false,xs,_,rfl,e,e',h⟩
   ·exact⟨a,b,false,true,xs,_,rfl,e,e',h⟩
   ·exact h.elim
  ·rename_i xs;obtain⟨o',e',h⟩:=aq h;unfold JT at h;split at h
   ·exact⟨a,b,true,false,xs,_,rfl,e,e',h⟩
   ·exact⟨a,b,true,true,xs,_,rfl,e,e',h⟩
   ·exact h.elim
  ·exact h.elim
 ·exact h.elim
def Inv.sqLe{X:Cx}{pins:List (Addr × Obj)}{σ:St}{H:Hp}{s:Shared}{k:Bool}{a:Addr}{xs:List V}(I:Inv X pins σ H s)(h:SqK k H a xs):xs.length<=sizeLine:=by
 cases k
 ·obtain⟨_,_,_,h⟩:=I.list (SqL.of h);exact h
 ·obtain⟨_,_,_,h⟩:=I.tuple (SqT.of h);exact h
section
variable {X:Cx}
def qf:∀ ts:List Addr,aW (ts.map V.ref) (ts.map Value.ref)
 | []=>.nil
 | _::ts=>.cons rfl (qf ts)
def wW{a b:Expr}{ta:TA}{p p2 pos aa:Pos}(hc:X.calm=true)(hg:Gl X "list")(hm:X.mg "list"=none)(ba:Gl X "zip")(bp:X.mg "zip"=none)(ha:PA X [a,b] ta)(hs:starEach [a,b] X.env=[(false,eval a X.env),(false,eval b X.env)]:=by rfl)(a4:starEach [b] X.env=[(false,eval b X.env)]:=by rfl)(a5:starEach [Expr.Call (.Name "zip" p2) [a,b] [] aa] X.env=[(false,eval (Expr.Call (.Name "zip" p2) [a,b] [] aa) X.env)]:=by rfl)(a6:starEach ([]:List Expr) X.env=[]:=by rfl) :
  PE X (.Call (.Name "list" p) [.Call (.Name "zip" p2) [a,b] [] aa] [] pos) (tLZ ta):=by
 intro pins s σ H Q I h;refine SS (fB I hg hm (show bootBuiltins "list"=some (.type "list") by decide +kernel) ?_);refine Sg ?_ (by rw [a5,a6]) (by rw [a6];rfl);rw [a5]
 show wpAny _ _ (spliced ((false,eval _ X.env)::[])) _ _ s
 refine Vq ?_;refine Call_ (fB I ba bp (show bootBuiltins "zip"=some (.type "zip") by decide +kernel) (Sg (thn (ha aa pins s σ H _ I h) λ us s1 ⟨vs,H1,I1,r1,q1⟩=>?_) (by rw [hs,a4]) (by rw [a4];rfl)));obtain⟨a,b,ka,kb,xs,ys,rfl,sa,sb,q⟩:=Jh q1
 cases r1 with
 | cons r rr=>
  cases rr with
  | cons r' rr=>
   cases rr;cases r;cases r';obtain⟨as,ra,aS⟩:=I1.sq sa;obtain⟨bs,rb,a3⟩:=I1.sq sb;have la:=ra.length;have lb:=rb.length;have lz:=I1.sqLe sa;have b1:=I1.sqLe sb;refine zO aS a3 λ h' n hn e1 e2 e3 e4 e5 e6 e7=>?_;refine Calls.spliced_nil ?_
   have nn:∀ c∈[n+4,n+2,n+3,n,n+1],n<=c:=λ c hc=>by
    simp only [RZ,RS,Sb] at hc
    rcases hc with rfl|rfl|rfl|rfl|rfl<;>omega
   have al:a < n:=by rw [hn];obtain⟨o,_,e,_⟩:=aS.obj;exact RF e
   have bl:b < n:=by rw [hn];obtain⟨o,_,e,_⟩:=a3.obj;exact RF e
   refine pG (s:={ s1 with heap:=h' }) (I1.ok.hd hc) (by simp) (λ z=>absurd (nn a z) (Nat.not_le.mpr al)) (λ z=>absurd (nn b z) (Nat.not_le.mpr bl)) n nn (by simp;omega) e1 ⟨.inl e1,e2,⟨_,_,e3⟩,⟨e4,aS.at λ o e=>e7 _ o e⟩,e5,a3.at λ o e=>e7 _ o e⟩ λ h2 ts c r1 r2 G r4 r5=>?_;have bS:h2.get? (n+5)=some { cls:=.type "list",dict:=none,data:=.seq (ts.map Value.ref).toArray c,slots:=#[] }:=by rw [←e6];exact r1
   have I2:Inv X pins σ H1 { s1 with heap:=h2 }:=I1.kept (t':=s1.toks) λ c o e=>r5 c o (by rw [hn];exact RF e) (e7 c o e);have a7:ts.length=(xs.zip ys).length:=by rw [r2,TM];simp;omega
   have fr:∀ t,n<=t->pY X pins t/\H1 t=none:=λ t ht=>⟨I1.newAt (by rw [←hn];exact ht),I1.hok.fresh (by rw [←hn];exact ht)⟩
   obtain⟨H2,I3,x2,q2,g2⟩:=I2.adoptAll ts (xs.zip ys) a7 G.nd (λ t ht=>fr t (G.lo t ht)) λ m t z h1 h2=>by
    obtain⟨u,v,g1,g2,g3⟩:=G.get m t h1;rw [Um] at h2;obtain⟨u',hu,ru⟩:=ra.get h2.1;obtain⟨v',hv,rv⟩:=rb.get h2.2;have a8:as.toArray[m]? = some u':=by simpa using hu
    have a9:bs.toArray[m]? = some v':=by simpa using hv
    rw [g1] at a8;rw [g2] at a9;cases a8;cases a9;exact⟨u,v,ru,rv,g3⟩
   have hD:H2 (n+5)=none:=by
    rw [q2 _ (by rw [←e6];exact r4)];exact(fr (n+5) (SR ..)).2
   have I4:=I3.adopt (o:=.lst (ts.map V.ref)) (fr (n+5) (SR ..)).1 hD ⟨by rw [RH,r2];simp;omega,ts.map Value.ref,c,qf ts,bS⟩;refine⟨.ref (n+5),_,I4,by rw [←e6];rfl,q (n+5) (ts.map V.ref) _ (fr (n+5) (SR ..)).2 (x2.trans (Ext.new hD)) ai ⟨by rw [RH,a7],λ m z y hz hy=>?_⟩⟩;rw [RN] at hy;obtain⟨t,ht,rfl⟩:=RL.mp hy;exact⟨t,rfl,by rw [ah (λ e=>r4 (by rw [e6,←e];exact Sa ht))];exact g2 m t z ht hz⟩
end
def N8(xs:List V)(H:Hp)(Q:VK):Prop:=match xs with
 | [.int i]=>Q (.int i) H
 | [.bl k]=>Q (.int (if k=true then 1 else 0)) H
 | _=>False
def Eb(k:Bool)(H:Hp)(Q:VK):N8 [.bl k] H Q=Q (.int (if k=true then 1 else 0)) H:=rfl
def B9{X:Cx}:bI X (.type "int") N8:=Ce.mono λ xs H Q h=>by
 unfold N8 at h;split at h
 ·exact .inl ⟨_,rfl,h⟩
 ·exact .inr ⟨_,rfl,h⟩
 ·exact h.elim
section
variable {X:Cx}
end
def GB(l:Addr)(xs:List V)(H:Hp)(Q:VK):List V->Prop:=λ zs=>xs.length+zs.length<=sizeLine/\Q .non (upd H l (.lst (xs++zs)))
def IF(l:Addr)(xs:List V)(H:Hp)(Q:VK)(zs:List V):GB l xs H Q zs=(xs.length+zs.length<=sizeLine/\Q .non (upd H l (.lst (xs++zs)))):=rfl
def KG(l b:Addr)(H:Hp)(Q:VK):List V->Prop:=λ xs=>aJ (aF H b) (GB l xs H Q)
def IG(l b:Addr)(H:Hp)(Q:VK)(xs:List V):KG l b H Q xs=aJ (aF H b) (GB l xs H Q):=rfl
def AM(l b:Addr)(H:Hp)(Q:VK):zh (.ref l) [.ref b] H Q=aJ (aF H l) (KG l b H Q):=by
 refine propext ⟨λ h=>?_,λ h=>?_⟩
 ·obtain⟨l',b',xs,zs,e1,e2,h1,h2,h3,q⟩:=h;cases e1;cases e2;unfold aF;rw [h1]
  show aJ (aF H b) _
  unfold aF;rw [h2];exact⟨h3,q⟩
 ·obtain⟨xs,e,h⟩:=aq h;obtain⟨zs,e2,h3,q⟩:=aq h;exact⟨l,b,xs,zs,rfl,rfl,bO e,bO e2,h3,q⟩
section
variable {X:Cx}{a b c d:Expr}{ta tb tc td:TE}{pos:Pos}
end
section
variable {k:Nat}{g:TG}{tt:TT}{te:TE}{σ:St}{Q:VK}{H:Hp}{K:PySem.W.Frag}
end
def Ite(l:Addr)(xs:List V):It:=
 ⟨λ i H=>H l=some (.lst xs)/\i < xs.length,λ i H x H'=>∃ p u,H p=none/\x=.ref p/\xs[i]? = some u/\H'=upd H p (.tup [.int (i:Int),u]),λ i H=>H l=some (.lst xs)/\i=xs.length⟩
def Tne(l e it:Addr)(i:Nat)(h:Heap):Prop:=(∃ old,IsEnum h e it (i:Int) old)/\h.IsListIter it l i
def Aq{P:Program}{w:World}{K:PySem.W.Frag}{elts:List Expr}{x1}{tp:Pos}(l e it:Addr)(xs:List V)(ne:e ≠ it):Turn P w K (.Tuple elts x1 tp) (Ite l xs) [e,it] e (Tne l e it) where
 mem:=R5
 obj:=λ i h st c hc=>by
  obtain⟨⟨old,e1⟩,e2⟩:=st;simp only [RZ,RS,Sb] at hc
  rcases hc with rfl|rfl
  ·exact⟨_,e1,λ v z=>by cases z⟩
  ·obtain⟨o,e,_,d⟩:=e2;exact⟨o,e,λ v z=>by rw [d] at z;cases z⟩
 keep:=λ i h h' st k=>by
  obtain⟨⟨old,e1⟩,e2⟩:=st;exact⟨⟨old,k e (by simp) _ e1⟩,e2.at λ o q=>k it (by simp) o q⟩
 item:=by
  intro X hP hw hK hc i pins s σ H E I hf st hg;subst hP hw hK;obtain⟨ha,l1⟩:=hg;obtain⟨as,ra,pl,_⟩:=I.list (SqL.of ha);have hx:xs[i]? = some xs[i]:=RE l1;obtain⟨u,hu,ru⟩:=ra.get hx;have free:∀ c∈[e,it],H c=none:=λ c h=>(hf c h).1;have aS:l ≠ e:=λ z=>by have:=free e (by simp);rw [←z,ha] at this;cases this
  have a3:l ≠ it:=λ z=>by have:=free it (by simp);rw [←z,ha] at this;cases this
  have W:=WalksT.enumerate (prog:=X.prog) (w:=X.w) (I.ok.hd hc) e it l ne aS a3 as.toArray;have la:=ra.length;obtain⟨e1,e2⟩:=st;obtain⟨old,a5⟩:=e1;refine W.item i s _ E (by simp;omega) ⟨⟨old,a5⟩,e2,pl.isList⟩ λ T vals h1 tk hp hle hT aa kp=>⟨_,rfl,?_⟩;refine W.go elts x1 tp i T ⟨h1,s.gens,s.drawn,tk,s.os⟩ _ E aa λ h2 a6 a7=>?_;have nT:=W.apart i T h1 aa;obtain⟨a4,x,a8,rfl⟩:=hp
  have a9:x=u:=by
   have:as[i]? = some x:=by simpa using a8
   rw [hu] at this;exact(Ss this).symm
  subst a9;have ba:h2.IsTuple T #[.int (i:Int) a4,x]:=hT.at λ o q=>a7 T o nT q;have I2:Inv X pins σ (upd H T (.tup [.int (i:Int),xs[i]])) { s with heap:=h2,toks:=tk }:=I.turnNew (t':=tk) (ch:=[e,it]) (λ c hc=>hf c hc) (λ c o hc q=>a7 c o hc (kp c o hc q)) hle ⟨(show 2<=sizeLine by decide),[.int (i:Int) a4,x],.cons ⟨a4,rfl⟩ (.cons ru .nil),ba⟩;have fr:H T=none:=I.hok.fresh hle;refine⟨.ref T,_,I2,rfl,⟨_,_,fr,rfl,hx,rfl⟩,⟨a6.1,a6.2.1⟩,λ c hc=>?_⟩
  have bp:c < s.heap.objs.size:=by
   simp only [RZ,RS,Sb] at hc
   rcases hc with rfl|rfl
   ·exact RF a5
   ·obtain⟨o,q,_⟩:=e2;exact RF q
  rw [ah (RT (RV bp hle))];exact free c hc
 done:=by
  intro X hP hw hK hc i pins s σ H E I hf st hg;subst hP hw hK;obtain⟨ha,rfl⟩:=hg;obtain⟨as,ra,pl,_⟩:=I.list (SqL.of ha);have free:∀ c∈[e,it],H c=none:=λ c h=>(hf c h).1;have aS:l ≠ e:=λ z=>by have:=free e (by simp);rw [←z,ha] at this;cases this
  have a3:l ≠ it:=λ z=>by have:=free it (by simp);rw [←z,ha] at this;cases this
  have W:=WalksT.enumerate (prog:=X.prog) (w:=X.w) (I.ok.hd hc) e it l ne aS a3 as.toArray;have la:=ra.length;have hsz:as.toArray.size=xs.length:=by simp [la]
  obtain⟨e1,e2⟩:=st;refine W.done s _ E (by rw [hsz];exact⟨e1,e2,pl.isList⟩) λ h' tk kp=>⟨rfl,I.turnL (t':=tk) (ch:=[e,it]) (λ c hc=>hf c hc) kp⟩
 self:=λ A i s Q E st h=>by
  obtain⟨⟨old,e1⟩,e2⟩:=st;exact wpAny_pyIter_enum e1 h
def OA(l:Addr)(H:Hp)(R:It->Hp->Prop):List V->Prop:=λ xs=>R (Ite l xs) H
def MU(l:Addr)(H:Hp)(R:It->Hp->Prop)(xs:List V):OA l H R xs=R (Ite l xs) H:=rfl
def NQ(R:It->Hp->Prop):List V->Hp->Prop:=λ vs H=>match vs with
 | [.ref l]=>aJ (aF H l) (OA l H R)
 | _=>False
def MV(R:It->Hp->Prop)(l:Addr)(H:Hp):NQ R [.ref l] H=aJ (aF H l) (OA l H R):=rfl
def KL(ta:TA):TI:=λ σ H R=>ta σ H (NQ R)
def IT(ta:TA)(σ:St)(H:Hp)(R:It->Hp->Prop):KL ta σ H R=ta σ H (NQ R):=rfl
section
variable {X:Cx}
def zm{a:Expr}{elts:List Expr}{x1}{tp:Pos}{ta:TA}{p pos:Pos}(hg:Gl X "enumerate")(hm:X.mg "enumerate"=none)(ha:PA X [a] ta)(he:starEach [a] X.env=[(false,eval a X.env)]:=by rfl) :
  PI X (.Tuple elts x1 tp) (.Call (.Name "enumerate" p) [a] [] pos) (KL ta):=by
 intro pins s σ H R I h;refine Call_ (fB I hg hm (show bootBuiltins "enumerate"=some (.type "enumerate") by decide +kernel) (PyProof.Rows.callWith_type1 (thn (ha pos pins s σ H _ I h) λ us s1 ⟨vs,H1,I1,r1,q1⟩=>?_) (by rw [he];rfl) (by rfl)));unfold NQ at q1;split at q1
 ·rename_i l;obtain⟨xs,e,q⟩:=aq q1;replace e:=bO e
  cases r1 with
  | cons r rr=>
   cases rr;cases r;obtain⟨as,ra,pl,_⟩:=I1.list (SqL.of e);refine call_enumerate_list pl.isList λ h' e1 e2 e3 e4=>?_;have I2:Inv X pins σ H1 { s1 with heap:=h' }:=I1.kept (t':=s1.toks) e4;refine wpAny_pyIter_enum (s:={ s1 with heap:=h' }) e1 ⟨s1.heap.objs.size+1,[s1.heap.objs.size+1,s1.heap.objs.size],_,_,H1,rfl,I2,Aq l (s1.heap.objs.size+1) s1.heap.objs.size xs (by simp),⟨⟨_,e1⟩,e2⟩,λ c hc=>?_,q⟩
   have hle:s1.heap.objs.size<=c:=by
    simp only [RZ,RS,Sb] at hc
    rcases hc with rfl|rfl
    ·exact SR ..
    ·exact RJ _
   exact I1.fpOk hle (I1.hok.fresh hle)
 ·exact q1.elim
end
section
variable {g:TG}{σ:St}{Q:VK}{H:Hp}{K:PySem.W.Frag}
def vK{tb:TS}{nx:St->Hp->Prop}{rt:VK}{bk ct:St->Hp->Prop}{l:Addr}{xs:List V}(Pv:Nat->St->Hp->Prop)(h0:Pv 0 σ H)(hl:∀ i σ H,Pv i σ H->H l=some (.lst xs))
  (hs:∀ i u p σ H H',xs[i]? = some u->Pv i σ H->H p=none->Ext H H'->H' p=some (.tup [.int (i:Int),u])->g (.ref p) σ H' (wI tb ⟨Pv (i+1),rt,nx,Pv (i+1)⟩)) (hd:∀ σ H,Pv xs.length σ H->nx σ H):JU g tb ⟨nx,rt,bk,ct⟩ σ (Ite l xs) H:=by
 refine⟨λ i m σ H=>m=xs.length - i/\i<=xs.length/\Pv i σ H,⟨xs.length,by simp,SF _,h0⟩,?_⟩;rintro i m σ H ⟨rfl,hi,p⟩;have qa:=hl i σ H p
 by_cases hlt:i < xs.length
 ·refine .inr ⟨⟨qa,hlt⟩,Pv (i+1),λ σ' H' p'=>⟨xs.length - (i+1),by omega,rfl,hlt,p'⟩,λ x H' y=>?_⟩;obtain⟨r,u,hr,rfl,hu,rfl⟩:=y;exact hs i u r σ H _ hu p hr (Ext.new hr) ai
 ·have e:i=xs.length:=by omega
  subst e;exact .inl ⟨⟨qa,rfl⟩,hd σ H p⟩
end
def FE(C:Addr)(m:Str)(sp:Sp)(dvs:List V)(E:St->XK)(ta:TE)(t:TA):TE:=λ σ H Q=>CM C m sp dvs (E σ) ta t σ H Q
def Ee(C:Addr)(m:Str)(sp:Sp)(dvs:List V)(E:St->XK)(ta:TE)(t:TA)(σ:St)(H:Hp)(Q:VK):FE C m sp dvs E ta t σ H Q=ta σ H (wG C m sp dvs (E σ) t σ Q):=rfl
section
variable {X:Cx}{CX:CXT}{k:Nat}{f C:Addr}{fd:FuncData}{ps:List Str}{sp:Sp}{dvs:List V}{ds:List Value}{E:St->XK}{x m:Str}{p pos apos:Pos}{e o:Expr}{es:List Expr}{ta:TE}{t:TA}
def G2{pins:List (Addr × Obj)}{σ:St}{H:Hp}{s:Shared}{us:List Value}{vs:List V}{Q:VK}(F:aH X.prog X.w X.K X.mg X.base CX k f fd ps sp)(hr:iA k X.A)(hb:ak X.K fd ps ds)(hd:aW dvs ds)(hx:∀ σ,yZ CX X (E σ) σ)(I:Inv X pins σ H s)(r:aW vs us)(q:sp (vs++dvs) H Q (E σ)) :
  wpAny (model X.prog X.w) X.A (call (.ref f) us) (EP X pins σ Q) X.xe s:=by
 have r2:aW (vs++dvs) (us++ds):=r.append hd;have hl:(us++ds).length=ps.length:=by rw [←r2.length];exact F.len _ _ _ _ q
 refine wpAny_call (TQ (F.run X.A X.stack s H ⟨us,[]⟩ (us++ds) (vs++dvs) Q (E σ) hr I.env0 (hb s us I.kIn hl) r2 q) λ rr s' hq=>?_)
 cases rr with
 | error ev=>exact hx σ pins H s ev s' I hq
 | ok fl=>
  cases fl with
  | ret u=>exact I.after hq
  | next=>exact False.elim hq
  | brk=>exact False.elim hq
  | cont=>exact False.elim hq
def wU{pl:Sem Bool}(he:PE X o ta)(c:Cls X.K C)(hm:cR X.K C m f)(F:aH X.prog X.w X.K X.mg X.base CX k f fd ps sp)(hr:iA k X.A)(hb:ak X.K fd ps ds)(hd:aW dvs ds)(hx:∀ σ,yZ CX X (E σ) σ)
  (ht:eval (.Call (.Attribute o m apos) [] [] pos) X.env=(do
   let ov ←eval o X.env
   standAt apos.atName
   let (f,first) ←holding [ov] (getMethod ov m pl)
   callWith pos f first (backTo pos (starEach [] X.env)) (backToKw pos (keywordEach [] X.env))):=by rfl) :
  PE X (.Call (.Attribute o m apos) [] [] pos) (FE C m sp dvs E ta JQ):=by
 intro pins s σ H Q I h;refine U0 (pl:=pl) (thn (he pins s σ H _ I h) λ u s1 ⟨x,H1,I1,rx,q0⟩=>?_) ht;obtain⟨a,dx,fs,ex,ea,l,q⟩:=oJ q0;subst ex;obtain rfl:u=Value.ref a:=rx;refine gy I1 ea c hm l ?_;exact Vl (first:=[.ref a]) I1.kIn hm.kp (G2 (us:=[.ref a]) (vs:=[.ref a]) F hr hb hd hx I1 (.cons rfl .nil) q)
end
def eh{α β:Type}(f:α->Option β)(g:α->β):∀ xs:List α,(∀ x∈xs,f x=some (g x))->xs.filterMap f=xs.map g
 | [],_=>rfl
 | x::r,h=>by
  rw [Ud,h x R5]
  show g x::_=_
  rw [eh f g r λ y hy=>h y (RU _ hy)];rfl
def oW(its:List Value):slicePick its.toArray none none (some (-1))=its.reverse.toArray:=by
 unfold slicePick sliceBounds sliceRange;simp only [Option.getD_some,size_toArray,show ¬ ((-1:Int) > 0) by decide,if_false]
 have e:(List.range (if (its.length:Int) - 1 > -1 then ((its.length:Int) - 1 - -1 - -1 - 1) / - -1 else 0).toNat)=List.range its.length:=by
  congr 1
  by_cases h:(its.length:Int) - 1 > -1
  ·rw [RX h,show (- -1:Int)=1 from rfl,Int.ediv_one];omega
  ·rw [RQ h];omega
 rw [e];congr 1;rw [List.filterMap_map];apply TX;intro i
 by_cases hi:i < its.length
 ·rw [eh _ (λ k=>(its.reverse[k]?).getD .none) (List.range its.length) (λ k hk=>?_)]
  ·rw [RN,Ts hi]
   show some ((its.reverse[i]?).getD .none)=_
   rw [RE (by simpa using hi)];rfl
  ·have aa:=SH.mp hk
   show its.toArray[((its.length:Int) - 1 + -1 * (k:Int)).toNat]? = _
   have hn:((its.length:Int) - 1 + -1 * (k:Int)).toNat=its.length - 1 - k:=by omega
   rw [hn,List.getElem?_toArray,Tb aa,RE (by omega)];rfl
 ·rw [Sq (show its.reverse.length<=i by rw [Sf];omega)];refine Sq (Sj (List.length_filterMap_le _ _) ?_);rw [Sr];omega
def Gy(H:Hp)(Q:VK):List V->Prop:=λ xs=>jd (.lst xs.reverse) H Q
def Iv(H:Hp)(Q:VK)(xs:List V):Gy H Q xs=jd (.lst xs.reverse) H Q:=rfl
def NM(Q:VK):VK:=λ x H=>match x with
 | .ref p=>aJ (aF H p) (Gy H Q)
 | _=>False
def Mw(Q:VK)(p:Addr)(H:Hp):NM Q (.ref p) H=aJ (aF H p) (Gy H Q):=rfl
def Qh(te:TE):TE:=λ σ H Q=>te σ H (NM Q)
def LV(te:TE)(σ:St)(H:Hp)(Q:VK):Qh te σ H Q=te σ H (NM Q):=rfl
section
variable {X:Cx}{e st:Expr}{te tst:TE}{pos p2:Pos}
def yP(he:PE X e te)(hs:PE X st tst)(h1:∀ (σ:St) (H:Hp) (Q:VK),Q (.int (-1)) H->tst σ H Q):PE X (.Subscript e (.Slice none none (some st) p2) pos) (Qh te):=by
 intro pins s σ H Q I h;refine Subscript_ (thn (he pins s σ H _ I h) λ v s1 ⟨x,H1,I1,r1,q1⟩=>?_);unfold NM at q1;split at q1
 ·rename_i p;obtain⟨xs,ex,q⟩:=aq q1;replace ex:=bO ex;cases r1;refine wpAny_Slice ?_;rw [evalPart_none];refine RI ?_;refine RI ?_;rw [evalPart_some];refine thn (hs pins s1 σ H1 (λ y H'=>y=.int (-1)/\H'=H1) I1 (h1 σ H1 _ ⟨rfl,rfl⟩)) λ u s2 ⟨y,H2,I2,r2,e2,e3⟩=>?_;subst e2 e3;obtain⟨tk,rfl⟩:=r2;have I4:Inv X pins σ H2 { s2 with heap:=s2.heap.push { cls:=.type "slice",data:=.fields #[.none,.none,.int (-1) tk] } }:=I2.kept (t':=s2.toks) λ b ob q=>RD _ q
  show wpAny (model X.prog X.w) X.A (subscriptTail e (.Slice none none (some st) p2) (.ref p) (.ref s2.heap.objs.size)) (EP X pins σ Q) X.xe { s2 with heap:=s2.heap.push { cls:=.type "slice",data:=.fields #[.none,.none,.int (-1) tk] } }
  obtain⟨its,r,ht,hz⟩:=I4.list (SqL.of ex);refine tail_any (ops:=[.ref p,.ref s2.heap.objs.size]) ht.isList.typeIs slot_list_getitem.lookup ?_ (by with_unfolding_all rfl);have hlen:=r.length;refine wpAny_getItem_list_slice (st:=some (-1)) ht.isList (Heap.IsSliceOf.new ..) .none .none (.int (-1) tk) (by simp) ?_ (by rw [RY]<;>omega);rw [oW];have fr:=I4.hok.fresh (RJ (Heap.objs (s2.heap.push { cls:=.type "slice",data:=.fields #[.none,.none,.int (-1) tk] })).size);refine⟨.ref (s2.heap.push { cls:=.type "slice",data:=.fields #[.none,.none,.int (-1) tk] }).objs.size,_,I4.laid (t':=s2.toks) (o:=.lst xs.reverse) (λ b ob q=>RD _ q) (RJ _) ?_,rfl,q _ _ fr (Ext.new fr) ai⟩;exact⟨by rw [Sf];exact hz,its.reverse,0,r.reverse,RK _ rfl⟩
 ·exact q1.elim
end
def ya(n:Int):List V:=(List.range n.toNat).map λ (i:Nat)=>V.int (i:Int)
def kLR(Q:VK):List V->Hp->Prop:=λ vs H=>match vs with
 | [.int n]=>0<=n/\n<=4096/\jd (.lst (ya n)) H Q
 | _=>False
def J7(Q:VK)(n:Int)(H:Hp):kLR Q [.int n] H=(0<=n/\n<=4096/\jd (.lst (ya n)) H Q):=rfl
def tLR(ta:TA):TE:=λ σ H Q=>ta σ H (kLR Q)
def Pg(ta:TA)(σ:St)(H:Hp)(Q:VK):tLR ta σ H Q=ta σ H (kLR Q):=rfl
def uh{n:Int}(h0:n<=4096)(h1:-5000<=n):Builtin.Range.small 0 n 1=true/\Builtin.Range.rangeSize 0 n 1=((n.toNat:Nat):Int):=by
 have e:Builtin.Range.rangeSize 0 n 1=((n.toNat:Nat):Int):=by
  unfold Builtin.Range.rangeSize;rw [if_pos (by decide)];split
  ·rw [Int.ediv_one];omega
  ·omega
 refine⟨?_,e⟩;unfold Builtin.Range.small;rw [e,if_pos (by decide)];unfold Builtin.Range.rangeFitsLong;simp;omega
def gQ:∀ {xs:List V}{us:List Value},us.length=xs.length->(∀ (i:Nat) (x:V) (u:Value),xs[i]? = some x->us[i]? = some u->bD x u)->aW xs us
 | [],[],_,_=>.nil
 | [],_::_,h,_=>by cases h
 | _::_,[],h,_=>by cases h
 | x::xs,u::us,h,k=>.cons (k 0 x u rfl rfl) (gQ (by simpa using h) λ i y w a b=>k (i+1) y w (by simpa using a) (by simpa using b))
section
variable {X:Cx}
def jX{a:Expr}{ta:TA}{p p2 pos aa:Pos}(hc:X.calm=true)(hg:Gl X "list")(hm:X.mg "list"=none)(a5:Gl X "range")(a6:X.mg "range"=none)(ha:PA X [a] ta)(hs:starEach [a] X.env=[(false,eval a X.env)]:=by rfl)(aS:starEach [Expr.Call (.Name "range" p2) [a] [] aa] X.env=[(false,eval (Expr.Call (.Name "range" p2) [a] [] aa) X.env)]:=by rfl)(a3:starEach ([]:List Expr) X.env=[]:=by rfl) :
  PE X (.Call (.Name "list" p) [.Call (.Name "range" p2) [a] [] aa] [] pos) (tLR ta):=by
 intro pins s σ H Q I h;refine SS (fB I hg hm (show bootBuiltins "list"=some (.type "list") by decide +kernel) ?_);refine Sg ?_ (by rw [aS,a3]) (by rw [a3];rfl);rw [aS]
 show wpAny _ _ (spliced ((false,eval _ X.env)::[])) _ _ s
 refine Calls.spliced_cons ?_;refine Call_ (fB I a5 a6 boot_range (PyProof.Rows.callWith_type1 (thn (ha aa pins s σ H _ I h) λ us s1 ⟨vs,H1,I1,r1,q1⟩=>?_) hs rfl));unfold kLR at q1;split at q1
 ·rename_i n;obtain⟨a9,hn,q⟩:=q1
  cases r1 with
  | cons r rr=>
   cases rr;obtain⟨t,rfl⟩:=r;refine call_range_1 ?_;refine Calls.spliced_nil ?_;obtain⟨k1,k2⟩:=uh hn (by omega);have I2:Inv X pins σ H1 { s1 with heap:=s1.heap.push { cls:=.type "range",data:=.fields #[.int 0 s1.toks,.int n t,.int 1 (s1.toks+1)] },toks:=s1.toks+1+1 }:=I1.kept (t':=s1.toks+1+1) λ b ob e=>RD _ e;refine call_list_range (s:={ s1 with heap:=s1.heap.push { cls:=.type "range",data:=.fields #[.int 0 s1.toks,.int n t,.int 1 (s1.toks+1)] },toks:=s1.toks+1+1 }) (n:=n.toNat) (I1.ok.hd hc) (RK _ rfl) k1 k2 (by omega) λ h' tk acc c kp a4 hit=>?_;have fr:=I2.hok.fresh (RJ _)
   have hv:aW (ya n) acc.toList:=by
    refine gQ (by unfold ya;rw [length_map,length_range,Array.length_toList,hit.1]) λ i x u hx hu=>?_;unfold ya at hx;rw [getElem?_map] at hx;obtain⟨j,hj,rfl⟩:=Option.map_eq_some_iff.mp hx;obtain⟨ba,a7⟩:=List.getElem?_eq_some_iff.mp hj;have ej:i=j:=by simpa using a7
    subst ej;obtain⟨a8,e⟩:=hit.2 i u (by simpa using hu);exact⟨a8,by rw [e];congr 1;omega⟩
   refine⟨.ref (s1.heap.push { cls:=.type "range",data:=.fields #[.int 0 s1.toks,.int n t,.int 1 (s1.toks+1)] }).objs.size,_,I2.laid (t':=tk) (o:=.lst (ya n)) kp (RJ _) ⟨?_,acc.toList,c,hv,?_⟩,rfl,q _ _ fr (Ext.new fr) ai⟩
   ·unfold ya;rw [length_map,length_range];exact aC (by omega)
   ·exact a4
 ·exact q1.elim
end
def k7{n:Nat}(h:n+64 < cLine):n+1 < cLine:=by omega
def NR(Q:VK)(x:V):VK:=λ y H=>∃ a v,x=.ref a/\yc H a y (some v)/\Q v H
def QF(ty:TE)(σ:St)(Q:VK):VK:=λ x H=>ty σ H (NR Q x)
def MY(ty:TE)(σ:St)(Q:VK)(x:V)(H:Hp):QF ty σ Q x H=ty σ H (NR Q x):=rfl
def HK(td ty:TE)(σ:St)(H:Hp)(Q:VK):Ke td ty σ H Q=td σ H (QF ty σ Q):=rfl
def K1{H:Hp}{a:Addr}{kvs:List (Key × V)}{k:Key}{v:V}{Q:VK}(e:H a=some (.dK kvs))(h:eF kvs k=some v)(q:Q v H):NR Q (.ref a) (kV k) H:=⟨a,v,rfl,h ▸ yc.k e,q⟩
def N4(neg:Bool):R2:=λ y x H Q=>∃ a o,x=.ref a/\yc H a y o/\Q (.bl (if neg=true then !o.isSome else o.isSome)) H
def yt{neg:Bool}{H:Hp}{a:Addr}{kvs:List (Key × V)}{k:Key}{Q:VK}(e:H a=some (.dK kvs))(q:Q (.bl (if neg=true then !(eF kvs k).isSome else (eF kvs k).isSome)) H):N4 neg (kV k) (.ref a) H Q:=⟨a,_,rfl,yc.k e,q⟩
section
variable {X:Cx}
def FD(hu:X.A.units+1 < cLine):OpR X (compareOp .In) (N4 false):=by
 intro pins s σ H x y v u Q I rx ry h;obtain⟨a,o,rfl,g,q⟩:=h;obtain rfl:u=Value.ref a:=ry;exact Ro hu I g rx λ s3 I3=>⟨.bl o.isSome,H,I3,rfl,q⟩
def AB(hu:X.A.units+1 < cLine):OpR X (compareOp .NotIn) (N4 true):=by
 intro pins s σ H x y v u Q I rx ry h;obtain⟨a,o,rfl,g,q⟩:=h;obtain rfl:u=Value.ref a:=ry;exact JD hu I g rx λ s3 I3=>⟨.bl (!o.isSome),H,I3,rfl,q⟩
end
def OB(nx:St->Hp->Prop)(σ:St)(v x:V):VK:=λ y H=>∃ a H4,x=.ref a/\JZ H a y v H4/\nx σ H4
def OC(ty:TE)(nx:St->Hp->Prop)(σ:St)(v:V):VK:=λ x H=>ty σ H (OB nx σ v x)
def MW(ty:TE)(nx:St->Hp->Prop)(σ:St)(v x:V)(H:Hp):OC ty nx σ v x H=ty σ H (OB nx σ v x):=rfl
def QE(td ty:TE)(nx:St->Hp->Prop)(σ:St):VK:=λ v H=>td σ H (OC ty nx σ v)
def MX(td ty:TE)(nx:St->Hp->Prop)(σ:St)(v:V)(H:Hp):QE td ty nx σ v H=td σ H (OC ty nx σ v):=rfl
def HP(td ty tv:TE)(nx:St->Hp->Prop)(rt:VK)(bk ct:St->Hp->Prop)(σ:St)(H:Hp):Kh td ty tv ⟨nx,rt,bk,ct⟩ σ H=tv σ H (QE td ty nx σ):=rfl
def Fu{H:Hp}{a:Addr}{kvs:List (Key × V)}{k:Key}{v:V}{nx:St->Hp->Prop}{σ:St}(e:H a=some (.dK kvs))(hl:kvs.length < sizeLine)(q:nx σ (upd H a (.dK (pS kvs k v)))):OB nx σ v (.ref a) (kV k) H:=⟨a,_,rfl,JZ.k e hl,q⟩
def jV:∀ {us:List Value}{ns:List Int},IntsAre us ns->aW (ns.map V.int) us
 | _,_,.nil=>.nil
 | _,_,.cons n t r=>.cons ⟨t,rfl⟩ (jV r)
section
variable {X:Cx}
end
def Qd{α β:Type}(R1:α->V->Hp->Prop)(R2:β->V->Hp->Prop)(z:α × β)(x:V)(H:Hp):Prop:=∃ p q1 q2,x=.ref p/\H p=some (.tup [q1,q2])/\R1 z.1 q1 H/\R2 z.2 q2 H
def GI{H:Hp}{α β:Type}{R1:α->V->Hp->Prop}{R2:β->V->Hp->Prop}(h1:∀ z y H H',R1 z y H->Ext H H'->R1 z y H')(h2:∀ z y H H',R2 z y H->Ext H H'->R2 z y H'){a b:Addr}{xs ys:List V}{zs:List α}{ws:List β}(ha:H a=some (.lst xs))(hb:H b=some (.lst ys))(al:Al (λ z y=>R1 z y H) zs xs)(bl:Al (λ z y=>R2 z y H) ws ys) :
  (∀ i z H',(zs.zip ws)[i]? = some z->Ext H H'->(Itz false false a b xs ys).go i H'/\∀ x H'',(Itz false false a b xs ys).yld i H' x H''->Ext H' H''/\Qd R1 R2 z x H'')/\∀ H',Ext H H'->(Itz false false a b xs ys).stop (zs.zip ws).length H':=by
 have wk:=p0 (ka:=false) (kb:=false) ha hb;refine⟨λ i z H' hz e=>?_,λ H' e=>?_⟩
 ·obtain⟨i1,i2⟩:=RG.mp hz;rw [TM] at i1;have hx:xs[i]? = some (xs[i]'(by rw [al.1];omega)):=RE _;have hy:ys[i]? = some (ys[i]'(by rw [bl.1];omega)):=RE _;have g1:=al.2 i zs[i] _ (RE _) hx;have g2:=bl.2 i ws[i] _ (RE _) hy;generalize (xs[i]'(by rw [al.1];omega))=x0 at hx g1;generalize (ys[i]'(by rw [bl.1];omega))=y0 at hy g2
  have aa:(xs.zip ys)[i]? = some (x0,y0):=by
   rw [Um];exact⟨hx,hy⟩
  obtain⟨go,yd⟩:=wk.1 i _ H' aa e;refine⟨go,λ x H'' y=>?_⟩;obtain⟨e2,p,hp,aS⟩:=yd x H'' y;have ez:z=(zs[i],ws[i]):=by rw [←i2,List.getElem_zip]
  subst ez;exact⟨e2,p,x0,y0,hp,aS,h1 _ _ _ _ g1 (e.trans e2),h2 _ _ _ _ g2 (e.trans e2)⟩
 ·have:=wk.2 H' e
  rwa [show (zs.zip ws).length=(xs.zip ys).length by rw [TM,TM,al.1,bl.1]]
def tV(i:Nat):TE:=λ σ H Q=>match σ[i]? with
 | some (some v)=>Q v H
 | _=>False
def J8(i:Nat):NB i=tV i:=by
 funext σ H Q;refine propext ⟨λ ⟨v,e,q⟩=>?_,λ h=>?_⟩
 ·unfold tV;rw [e];exact q
 ·unfold tV at h;split at h
  ·rename_i v e;exact⟨v,e,h⟩
  ·exact h.elim
def LR{v:V}{σ:St}{H:Hp}{Q:VK}:tV 0 (some v::σ) H Q=Q v H:=rfl
def LQ{a0:Option V}{v:V}{σ:St}{H:Hp}{Q:VK}:tV 1 (a0::some v::σ) H Q=Q v H:=rfl
def LP{a0 a1:Option V}{v:V}{σ:St}{H:Hp}{Q:VK}:tV 2 (a0::a1::some v::σ) H Q=Q v H:=rfl
def LO{a0 a1 a2:Option V}{v:V}{σ:St}{H:Hp}{Q:VK}:tV 3 (a0::a1::a2::some v::σ) H Q=Q v H:=rfl
def LN{a0 a1 a2 a3:Option V}{v:V}{σ:St}{H:Hp}{Q:VK}:tV 4 (a0::a1::a2::a3::some v::σ) H Q=Q v H:=rfl
def LM{a0 a1 a2 a3 a4:Option V}{v:V}{σ:St}{H:Hp}{Q:VK}:tV 5 (a0::a1::a2::a3::a4::some v::σ) H Q=Q v H:=rfl
def LL{a0 a1 a2 a3 a4 a5:Option V}{v:V}{σ:St}{H:Hp}{Q:VK}:tV 6 (a0::a1::a2::a3::a4::a5::some v::σ) H Q=Q v H:=rfl
def LK{a0 a1 a2 a3 a4 a5 a6:Option V}{v:V}{σ:St}{H:Hp}{Q:VK}:tV 7 (a0::a1::a2::a3::a4::a5::a6::some v::σ) H Q=Q v H:=rfl
def LJ{a0 a1 a2 a3 a4 a5 a6 a7:Option V}{v:V}{σ:St}{H:Hp}{Q:VK}:tV 8 (a0::a1::a2::a3::a4::a5::a6::a7::some v::σ) H Q=Q v H:=rfl
def LI{a0 a1 a2 a3 a4 a5 a6 a7 a8:Option V}{v:V}{σ:St}{H:Hp}{Q:VK}:tV 9 (a0::a1::a2::a3::a4::a5::a6::a7::a8::some v::σ) H Q=Q v H:=rfl
def nI0(g:Int->Int->V):R2:=λ x y H Q=>match x,y with
 | .int i,.int j=>Q (g i j) H
 | _,_=>False
def Pq(g:Int->Int->V)(i j:Int)(H:Hp)(Q:VK):nI0 g (.int i) (.int j) H Q=Q (g i j) H:=rfl
def lh(g:Int->Int->V):rI0 g=nI0 g:=by
 funext x y H Q;refine propext ⟨λ ⟨i,j,e,e',q⟩=>by subst e e';exact q,λ h=>?_⟩;unfold nI0 at h;split at h
 ·exact⟨_,_,rfl,rfl,h⟩
 ·exact h.elim
def nI(C:Int->Int->Prop)(g:Int->Int->V):R2:=λ x y H Q=>match x,y with
 | .int i,.int j=>C i j/\Q (g i j) H
 | _,_=>False
def Ri(C:Int->Int->Prop)(g:Int->Int->V)(i j:Int)(H:Hp)(Q:VK):nI C g (.int i) (.int j) H Q=(C i j/\Q (g i j) H):=rfl
def wD(C:Int->Int->Prop)(g:Int->Int->V):rI C g=nI C g:=by
 funext x y H Q;refine propext ⟨λ ⟨i,j,e,e',q⟩=>by subst e e';exact q,λ h=>?_⟩;unfold nI at h;split at h
 ·exact⟨_,_,rfl,rfl,h⟩
 ·exact h.elim
def nU(g:Int->V):V->Hp->VK->Prop:=λ x H Q=>match x with
 | .int i=>Q (g i) H
 | _=>False
def Rh(g:Int->V)(i:Int)(H:Hp)(Q:VK):nU g (.int i) H Q=Q (g i) H:=rfl
def O7(g:Int->V):rU g=nU g:=by
 funext x H Q;refine propext ⟨λ ⟨i,e,q⟩=>by subst e;exact q,λ h=>?_⟩;unfold nU at h;split at h
 ·exact⟨_,rfl,h⟩
 ·exact h.elim
def m7(Q:Bool->Hp->Prop):VK:=λ x H=>match x with
 | .bl k=>Q k H
 | _=>False
def Eg(Q:Bool->Hp->Prop)(k:Bool)(H:Hp):m7 Q (.bl k) H=Q k H:=rfl
def ER(Q:Bool->Hp->Prop):Ky Q=m7 Q:=by
 funext x H;refine propext ⟨λ ⟨k,e,q⟩=>by subst e;exact q,λ h=>?_⟩;unfold m7 at h;split at h
 ·exact⟨_,rfl,h⟩
 ·exact h.elim
def sJ(t:TE):TT:=λ σ H Q=>t σ H (m7 Q)
def HW(t:TE)(σ:St)(H:Hp)(Q:Bool->Hp->Prop):sJ t σ H Q=t σ H (m7 Q):=rfl
def kR(t:TE):CJ t=sJ t:=by
 funext σ H Q
 show t σ H (Ky Q)=t σ H (m7 Q)
 rw [ER]
def AH(t:TE):tB t=sJ t:=kR t
def yk(tb:TE)(σ:St)(Q:VK):VK:=λ x H=>match x with
 | .bl c=>if c=true then tb σ H Q else Q (.bl false) H
 | _=>False
def IP(tb:TE)(σ:St)(Q:VK)(c:Bool)(H:Hp):yk tb σ Q (.bl c) H=(if c=true then tb σ H Q else Q (.bl false) H):=rfl
def Gq(ta tb:TE):TE:=λ σ H Q=>ta σ H (yk tb σ Q)
def Ih(ta tb:TE)(σ:St)(H:Hp)(Q:VK):Gq ta tb σ H Q=ta σ H (yk tb σ Q):=rfl
def D6(ta tb:TE):Kf ta tb=Gq ta tb:=by
 funext σ H Q
 show ta σ H (PV tb σ Q)=ta σ H (yk tb σ Q)
 congr 1;funext x H;refine propext ⟨λ ⟨k,e,q⟩=>by subst e;exact q,λ h=>?_⟩;unfold yk at h;split at h
 ·exact⟨_,rfl,h⟩
 ·exact h.elim
def yi(Q:VK):VK:=λ x H=>match x with
 | .bl c=>Q (.bl (!c)) H
 | _=>False
def Iz(Q:VK)(c:Bool)(H:Hp):yi Q (.bl c) H=Q (.bl (!c)) H:=rfl
def Gk(ta:TE):TE:=λ σ H Q=>ta σ H (yi Q)
def HY(ta:TE)(σ:St)(H:Hp)(Q:VK):Gk ta σ H Q=ta σ H (yi Q):=rfl
def D5(ta:TE):Kc ta=Gk ta:=by
 funext σ H Q
 show ta σ H (PN Q)=ta σ H (yi Q)
 congr 1;funext x H;refine propext ⟨λ ⟨k,e,q⟩=>by subst e;exact q,λ h=>?_⟩;unfold yi at h;split at h
 ·exact⟨_,rfl,h⟩
 ·exact h.elim
def wH(r':R2)(tc:TE)(σ:St)(y:V)(Q:VK):VK:=λ z H=>match z with
 | .bl k=>if k=true then tc σ H (NT r' y Q) else Q (.bl false) H
 | _=>False
def IJ(r':R2)(tc:TE)(σ:St)(y:V)(Q:VK)(k:Bool)(H:Hp):wH r' tc σ y Q (.bl k) H=(if k=true then tc σ H (NT r' y Q) else Q (.bl false) H):=rfl
def Jj(r':R2)(tc:TE)(σ:St)(y:V)(Q:VK):OE r' tc σ y Q=wH r' tc σ y Q:=by
 funext z H;refine propext ⟨λ ⟨k,e,q⟩=>by subst e;exact q,λ h=>?_⟩;unfold wH at h;split at h
 ·exact⟨_,rfl,h⟩
 ·exact h.elim
def CU(r r':R2)(tc:TE)(σ:St)(x:V)(Q:VK):VK:=λ y H=>r x y H (wH r' tc σ y Q)
def IK(r r':R2)(tc:TE)(σ:St)(x y:V)(Q:VK)(H:Hp):CU r r' tc σ x Q y H=r x y H (wH r' tc σ y Q):=rfl
def CW(r r':R2)(tb tc:TE)(σ:St)(Q:VK):VK:=λ x H=>tb σ H (CU r r' tc σ x Q)
def IL(r r':R2)(tb tc:TE)(σ:St)(Q:VK)(x:V)(H:Hp):CW r r' tb tc σ Q x H=tb σ H (CU r r' tc σ x Q):=rfl
def u9(r r':R2)(ta tb tc:TE):TE:=λ σ H Q=>ta σ H (CW r r' tb tc σ Q)
def Ef(r r':R2)(ta tb tc:TE)(σ:St)(H:Hp)(Q:VK):u9 r r' ta tb tc σ H Q=ta σ H (CW r r' tb tc σ Q):=rfl
def qr(r r':R2)(ta tb tc:TE):yv r r' ta tb tc=u9 r r' ta tb tc:=by
 funext σ H Q
 show ta σ H (Rn r r' tb tc σ Q)=ta σ H (CW r r' tb tc σ Q)
 congr 1;funext x H1
 show tb σ H1 (QG r r' tc σ x Q)=tb σ H1 (CU r r' tc σ x Q)
 congr 1;funext y H2
 show r x y H2 (OE r' tc σ y Q)=r x y H2 (wH r' tc σ y Q)
 rw [Jj]
def CZ:TGs:=λ vs σ H Q=>match vs with
 | []=>Q σ H
 | _=>False
def IV(σ:St)(H:Hp)(Q:St->Hp->Prop):CZ [] σ H Q=Q σ H:=rfl
def Jn:QS=CZ:=by
 funext vs σ H Q;refine propext ⟨λ ⟨e,q⟩=>by subst e;exact q,λ h=>?_⟩;unfold CZ at h;split at h
 ·exact⟨rfl,h⟩
 ·exact h.elim
def vd(t:TG)(u:TGs):TGs:=λ vs σ H Q=>match vs with
 | v::r=>t v σ H (kGs u r Q)
 | _=>False
def Es(t:TG)(u:TGs)(v:V)(r:List V)(σ:St)(H:Hp)(Q:St->Hp->Prop):vd t u (v::r) σ H Q=t v σ H (kGs u r Q):=rfl
def EZ(t:TG)(u:TGs):KO t u=vd t u:=by
 funext vs σ H Q;refine propext ⟨λ ⟨v,r,e,q⟩=>by subst e;exact q,λ h=>?_⟩;unfold vd at h;split at h
 ·exact⟨_,_,rfl,h⟩
 ·exact h.elim
def jM{α0:Type}{f:α0->List V}{B:α0->Prop}(inj:∀ a a',f a=f a'->a=a')(a:α0):(∃ a',f a=f a'/\B a')=B a:=propext ⟨λ ⟨a',e,q⟩=>by obtain rfl:=inj _ _ e;exact q,λ q=>⟨a,rfl,q⟩⟩
def jN{α0:Type}{f:α0->List V}{B:α0->Prop}{vs:List V}{n:Nat}(h:∃ a,vs=f a/\B a)(l:∀ a,(f a).length=n):vs.length=n:=by
 obtain⟨_,rfl,_⟩:=h;exact l _
def iu{α0 α1:Type}{f:α0->α1->List V}{B:α0->α1->Prop}(inj:∀ a b a' b',f a b=f a' b'->a=a'/\b=b')(a:α0)(b:α1):(∃ a' b',f a b=f a' b'/\B a' b')=B a b:=propext ⟨λ ⟨a',b',e,q⟩=>by obtain⟨rfl,rfl⟩:=inj _ _ _ _ e;exact q,λ q=>⟨a,b,rfl,q⟩⟩
def iw{α0 α1:Type}{f:α0->α1->List V}{B:α0->α1->Prop}{vs:List V}{n:Nat}(h:∃ a b,vs=f a b/\B a b)(l:∀ a b,(f a b).length=n):vs.length=n:=by
 obtain⟨_,_,rfl,_⟩:=h;exact l _ _
def pR{α0 α1 α2:Type}{f:α0->α1->α2->List V}{B:α0->α1->α2->Prop}(inj:∀ a b c a' b' c',f a b c=f a' b' c'->a=a'/\b=b'/\c=c')(a:α0)(b:α1)(c:α2):(∃ a' b' c',f a b c=f a' b' c'/\B a' b' c')=B a b c:=propext ⟨λ ⟨a',b',c',e,q⟩=>by obtain⟨rfl,rfl,rfl⟩:=inj _ _ _ _ _ _ e;exact q,λ q=>⟨a,b,c,rfl,q⟩⟩
def pO{α0 α1 α2:Type}{f:α0->α1->α2->List V}{B:α0->α1->α2->Prop}{vs:List V}{n:Nat}(h:∃ a b c,vs=f a b c/\B a b c)(l:∀ a b c,(f a b c).length=n):vs.length=n:=by
 obtain⟨_,_,_,rfl,_⟩:=h;exact l _ _ _
def NZ{α0 α1 α2 α3:Type}{f:α0->α1->α2->α3->List V}{B:α0->α1->α2->α3->Prop}(inj:∀ a b c d a' b' c' d',f a b c d=f a' b' c' d'->a=a'/\b=b'/\c=c'/\d=d')(a:α0)(b:α1)(c:α2)(d:α3):(∃ a' b' c' d',f a b c d=f a' b' c' d'/\B a' b' c' d')=B a b c d:=propext ⟨λ ⟨a',b',c',d',e,q⟩=>by obtain⟨rfl,rfl,rfl,rfl⟩:=inj _ _ _ _ _ _ _ _ e;exact q,λ q=>⟨a,b,c,d,rfl,q⟩⟩
def N2{α0 α1 α2 α3:Type}{f:α0->α1->α2->α3->List V}{B:α0->α1->α2->α3->Prop}{vs:List V}{n:Nat}(h:∃ a b c d,vs=f a b c d/\B a b c d)(l:∀ a b c d,(f a b c d).length=n):vs.length=n:=by
 obtain⟨_,_,_,_,rfl,_⟩:=h;exact l _ _ _ _
def Q0{α0 α1 α2 α3 α4:Type}{f:α0->α1->α2->α3->α4->List V}{B:α0->α1->α2->α3->α4->Prop}(inj:∀ a b c d i a' b' c' d' i',f a b c d i=f a' b' c' d' i'->a=a'/\b=b'/\c=c'/\d=d'/\i=i')(a:α0)(b:α1)(c:α2)(d:α3)(i:α4):(∃ a' b' c' d' i',f a b c d i=f a' b' c' d' i'/\B a' b' c' d' i')=B a b c d i:=propext ⟨λ ⟨a',b',c',d',i',e,q⟩=>by obtain⟨rfl,rfl,rfl,rfl,rfl⟩:=inj _ _ _ _ _ _ _ _ _ _ e;exact q,λ q=>⟨a,b,c,d,i,rfl,q⟩⟩
def Q1{α0 α1 α2 α3 α4:Type}{f:α0->α1->α2->α3->α4->List V}{B:α0->α1->α2->α3->α4->Prop}{vs:List V}{n:Nat}(h:∃ a b c d i,vs=f a b c d i/\B a b c d i)(l:∀ a b c d i,(f a b c d i).length=n):vs.length=n:=by
 obtain⟨_,_,_,_,_,rfl,_⟩:=h;exact l _ _ _ _ _
def Qv{P:List Value->Prop}(h:P []):∀ us:List Value,us.length=0->P us:=λ us e=>by
 cases us with
 | nil=>exact h
 | cons a r=>cases e
def iy{P:List Value->Prop}(h:∀ a,P [a]):∀ us:List Value,us.length=1->P us:=λ us e=>by
 cases us with
 | nil=>cases e
 | cons x r=>exact Qv (P:=λ r=>P (x::r)) (h x) r (UJ e)
def eR{P:List Value->Prop}(h:∀ a b,P [a,b]):∀ us:List Value,us.length=2->P us:=λ us e=>by
 cases us with
 | nil=>cases e
 | cons x r=>exact iy (P:=λ r=>P (x::r)) (h x) r (UJ e)
def mI{P:List Value->Prop}(h:∀ a b c,P [a,b,c]):∀ us:List Value,us.length=3->P us:=λ us e=>by
 cases us with
 | nil=>cases e
 | cons x r=>exact eR (P:=λ r=>P (x::r)) (h x) r (UJ e)
def NJ{P:List Value->Prop}(h:∀ a b c d,P [a,b,c,d]):∀ us:List Value,us.length=4->P us:=λ us e=>by
 cases us with
 | nil=>cases e
 | cons x r=>exact mI (P:=λ r=>P (x::r)) (h x) r (UJ e)
def Rk{P:List Value->Prop}(h:∀ a b c d i,P [a,b,c,d,i]):∀ us:List Value,us.length=5->P us:=λ us e=>by
 cases us with
 | nil=>cases e
 | cons x r=>exact NJ (P:=λ r=>P (x::r)) (h x) r (UJ e)
section
variable {X:Cx}
def pvN(i:Nat){x:Str}{pos:Pos}(hN:X.N[i]? = some x:=by rfl)(hv:Vis X.env.scope x:=by first|exact Or.inl rfl|exact Or.inr (Or.inl rfl)|exact Or.inr (Or.inr rfl))(hd:(x == ("__debug__":Str))=false:=by decide)
  (aa:(x == ("__classdict__":Str))=false:=by decide):PE X (.Name x pos) (tV i):=by rw [←J8];exact pv i hN hv hd aa
def bM:OpR X (binaryOp .Add) (nI0 λ i j=>.int (i+j)):=by rw [←lh];exact u7
def fA:OpR X (binaryOp .Sub) (nI0 λ i j=>.int (i - j)):=by rw [←lh];exact Lo
def Gi:OpR X (compareOp .Lt) (nI0 λ i j=>.bl (decide (i < j))):=by rw [←lh];exact Kn
def sI:OpR X (compareOp .LtE) (nI0 λ i j=>.bl (decide (i<=j))):=by rw [←lh];exact OY
def wC:OpR X (compareOp .Gt) (nI0 λ i j=>.bl (decide (j < i))):=by rw [←lh];exact Ko
def Kq:OpR X (compareOp .GtE) (nI0 λ i j=>.bl (decide (j<=i))):=by rw [←lh];exact OZ
def gE:OpR X (binaryOp .Mult) (nI ye λ i j=>.int (i * j)):=by rw [←wD];exact jT
def oa:OpR X (binaryOp .Mult) (nI yq λ i j=>.int (i * j)):=by rw [←wD];exact Hw
def cc:OpR X (binaryOp .FloorDiv) (nI OP λ i j=>.int (i / j)):=by rw [←wD];exact Hx
def oI:OpR X (binaryOp .FloorDiv) (nI KY λ i j=>.int (i.fdiv j)):=by rw [←wD];exact DW
def bE:OpR X (binaryOp .Mod) (nI (λ _ j=>0 < j) λ i j=>.int (i % j)):=by rw [←wD];exact k9
def jU:OpR X (binaryOp .Pow) (nI OO λ i j=>.int (i ^ j.toNat)):=by rw [←wD];exact Lq
def ei:UnR X (unaryOp .USub) (nU λ i=>.int (-i)):=by rw [←O7];exact K3
variable {a b c d e:Expr}{ta tb tc td t:TE}{pos:Pos}
def DG{op:CmpOp}{r:R2}(ho:OpR X (compareOp op) r)(ha:PE X a ta)(hb:PE X b tb)(hm:behindInMarks op b=false):PT X (.Compare a [op] [b] pos) (sJ (tOp r ta tb)):=by rw [←kR];exact tW ho ha hb hm
def G5(h:PE X e t)(he:∀ whole,isTrue e X.env whole=(do let v ←whole;standAt e.pos;holding [v] (truthy v)):=by intro _;rfl):PT X e (sJ t):=by rw [←AH];exact Lc h he
def qo{op aa:CmpOp}{r r':R2}(ho:OpR X (compareOp op) r)(aS:OpR X (compareOp aa) r')(ha:PE X a ta)(hb:PE X b tb)(hc:PE X c tc)
  (hm:lastMarks [op,aa] [b,c]=false:=by with_unfolding_all rfl):PE X (.Compare a [op,aa] [b,c] pos) (u9 r r' ta tb tc):=by rw [←qr];exact DT ho aS ha hb hc hm
def Au{op aa:CmpOp}{r r':R2}(ho:OpR X (compareOp op) r)(aS:OpR X (compareOp aa) r')(ha:PE X a ta)(hb:PE X b tb)(hc:PE X c tc)
  (hm:lastMarks [op,aa] [b,c]=false:=by with_unfolding_all rfl):PT X (.Compare a [op,aa] [b,c] pos) (sJ (u9 r r' ta tb tc)):=by rw [←kR,←qr];exact DH ho aS ha hb hc hm
variable {km:List Expr}
def Hr(ha:PE X a ta)(hb:PE X (.BoolOp .And (b::km) pos) tb):PE X (.BoolOp .And (a::b::km) pos) (Gq ta tb):=by rw [←D6];exact Ln ha hb
def Hm(ha:PE X a ta):PE X (.UnaryOp .Not a pos) (Gk ta):=by rw [←D5];exact Lm ha
def aK:PGs X [] CZ:=by rw [←Jn];exact Hi
def Ay{e:Expr}{es:List Expr}{t:TG}{u:TGs}(h1:PG X e t)(h2:PGs X es u)
  (hs:(assignEach (e::es) X.env).map (·.2)=assign e X.env::(assignEach es X.env).map (·.2):=by rfl):PGs X (e::es) (vd t u):=by rw [←EZ];exact DO h1 h2 hs
end
def vB{X:Cx}{e:Expr}{f:Str}{pos:Pos}{ta:TE}{K:W.Frag}(hK:X.K=K)(he:PE X e ta)(hb:attributeBase e f X.env (eval e X.env)=eval e X.env):PE X (.Attribute e f pos) (Oe K ta f):=by subst hK;exact zp he hb
def O8{i:Nat}:ME (tV i):=by rw [←J8];exact FG
def LD{g:Int->Int->V}:MR (nI0 g):=by rw [←lh];exact FH
def D8{t:TE}(h:ME t):MT (sJ t):=by rw [←kR];exact zA h
def Ol(k:Int)(H:Hp)(Q:VK):List V->Prop:=λ xs=>0<=k/\k<=4096/\xs.length * k.toNat<=sizeLine/\jd (.lst (List.replicate k.toNat xs).flatten) H Q
def Mz(k:Int)(H:Hp)(Q:VK)(xs:List V):Ol k H Q xs=(0<=k/\k<=4096/\xs.length * k.toNat<=sizeLine/\jd (.lst (List.replicate k.toNat xs).flatten) H Q):=rfl
def Oc:R2:=λ x y H Q=>match x,y with
 | .ref l,.int k=>aJ (aF H l) (Ol k H Q)
 | _,_=>False
def Mj(l:Addr)(k:Int)(H:Hp)(Q:VK):Oc (.ref l) (.int k) H Q=aJ (aF H l) (Ol k H Q):=rfl
def Hv{X:Cx}:OpR X (binaryOp .Mult) Oc:=Lp.mono λ x y H Q h=>by
 unfold Oc at h;split at h
 ·rename_i l k;obtain⟨xs,e,h0,h1,h2,q⟩:=aq h;exact⟨l,k,xs,rfl,rfl,bO e,by omega,by omega,h2,q.to⟩
 ·exact h.elim
def yV(l:Addr)(i:Int)(xs:List V)(H:Hp)(Q:VK):V->Prop:=λ y=>Q y (upd H l (.lst (xs.eraseIdx i.toNat)))
def Ei(l:Addr)(i:Int)(xs:List V)(H:Hp)(Q:VK)(y:V):yV l i xs H Q y=Q y (upd H l (.lst (xs.eraseIdx i.toNat))):=rfl
def Gz(l:Addr)(i:Int)(H:Hp)(Q:VK):List V->Prop:=λ xs=>0<=i/\i < xs.length/\xs.length<=4096/\aJ (xs[i.toNat]?) (yV l i xs H Q)
def Iw(l:Addr)(i:Int)(H:Hp)(Q:VK)(xs:List V):Gz l i H Q xs=(0<=i/\i < xs.length/\xs.length<=4096/\aJ (xs[i.toNat]?) (yV l i xs H Q)):=rfl
def yU:V->List V->Hp->VK->Prop:=λ x vs H Q=>match x,vs with
 | .ref l,[.int i]=>aJ (aF H l) (Gz l i H Q)
 | _,_=>False
def Ed(l:Addr)(i:Int)(H:Hp)(Q:VK):yU (.ref l) [.int i] H Q=aJ (aF H l) (Gz l i H Q):=rfl
def AI{X:Cx}:MtM X "list.pop" yU:=λ pins s σ H x vs v us Q I rx rv h=>D7 pins s σ H x vs v us Q I rx rv (by
 unfold yU at h;split at h
 ·rename_i l i;obtain⟨xs,e,h0,h1,h2,q⟩:=aq h;obtain⟨y,hy,q⟩:=aq q;exact⟨l,xs,i,i.toNat,y,rfl,rfl,bO e,by omega,by omega,seqIndex_of h0 h1,hy,q⟩
 ·exact h.elim)
def Ow(neg:Bool)(x:V)(H:Hp)(Q:VK):List V->Prop:=λ xs=>gC x=true/\xs.all gC=true/\Q (.bl (if neg=true then !inV x xs else inV x xs)) H
def ML(neg:Bool)(x:V)(H:Hp)(Q:VK)(xs:List V):Ow neg x H Q xs=(gC x=true/\xs.all gC=true/\Q (.bl (if neg=true then !inV x xs else inV x xs)) H):=rfl
def nIn(neg:Bool):R2:=λ x y H Q=>match y with
 | .ref p=>aJ (cK H p) (Ow neg x H Q)
 | _=>False
def Po(neg:Bool)(x:V)(p:Addr)(H:Hp)(Q:VK):nIn neg x (.ref p) H Q=aJ (cK H p) (Ow neg x H Q):=rfl
def Fx{K:W.Frag}{neg:Bool}{x y:V}{H:Hp}{Q:VK}(h:nIn neg x y H Q):rIn K neg x y H Q:=by
 unfold nIn at h;split at h
 ·rename_i p;obtain⟨xs,e,h1,h2,q⟩:=aq h;exact⟨p,xs,rfl,iP e,h1,h2,q⟩
 ·exact h.elim
def Ls{X:Cx}:OpR X (compareOp .In) (nIn false):=AE.mono λ x y H Q h=>Fx h
def qq{X:Cx}:OpR X (compareOp .NotIn) (nIn true):=rE.mono λ x y H Q h=>Fx h
def vN(xs:List V)(z:Int)(h:0<=z):mO xs (some z) none=xs.drop z.toNat:=by
 unfold mO;obtain⟨n,rfl⟩:=Int.eq_ofNat_of_zero_le h;rw [HT.sIx_none,HT.sIx_nat]
 show _=xs.drop n
 rcases Nat.le_total n xs.length with q|q
 ·rw [Nat.min_eq_left q];exact Ta (by rw [Vi];omega)
 ·rw [Nat.min_eq_right q,UD (RJ _),UD q,List.take_nil]
section
variable {X:Cx}
end
section
variable {prog:Program}{w:World}{A:Around}{E:Value->Shared->Prop}{s:Shared}
end
section
variable {X:Cx}
end
def t6:∀ {kvs:List (Key × V)}{xs:List (Key × Value)},KV kvs xs->∀ {i:Nat}{p:Key × V},kvs[i]? = some p->∃ q,xs[i]? = some q/\p.1=q.1/\bD p.2 q.2
 | _,_,.nil,i,q,h=>by simp at h
 | _::_,q::_,.cons h t,0,p,hq=>by cases hq;exact⟨q,rfl,h⟩
 | _::_,_::_,.cons h t,i+1,p,hq=>t6 t (i:=i) (by simpa using hq)
def Itd(a:Addr)(ob:Obj)(kvs:List (Key × V)):It:=
 ⟨λ i H=>H a=some (.frz ob (.dK kvs))/\i < kvs.length,λ i H x H'=>H'=H/\∃ p,kvs[i]? = some p/\x=kV p.1,λ i H=>H a=some (.frz ob (.dK kvs))/\kvs.length<=i⟩
def vt:∀ {k:Key}{u:Value},sL k u=true->bD (kV k) u
 | .inl i,u,h=>by
  rcases bb h with ⟨j,t,e1,e2⟩|⟨j,t,e1,e2⟩
  ·cases e1;exact⟨t,e2⟩
  ·cases e1
 | .inr x,u,h=>by
  rcases bb h with ⟨j,t,e1,e2⟩|⟨j,t,e1,e2⟩
  ·cases e1
  ·cases e1;exact⟨t,e2⟩
def QW(P:Program)(w:World)(ob:Obj)(vs:List (Key × Value))(ep:Nat):Prop:=∀ (h:Heap) (a:Addr),h.get? a=some ob->h.DictAt (aY P w) a vs ep
def Ar{P:Program}{w:World}{K:W.Frag}{tg:Expr}(a it:Addr)(ob:Obj)(kvs:List (Key × V))(vs:List (Key × Value))(ep:Nat)(kx:KV kvs vs)(dx:QW P w ob vs ep):Turn P w K tg (Itd a ob kvs) [it] it (λ i h=>h.IsKeyIter it a i vs.length ep) where
 mem:=by simp
 obj:=λ i h st b hb=>by
  have e:b=it:=by simpa using hb
  subst e;obtain⟨o,e,c,d⟩:=st;exact⟨o,e,λ v z=>by rw [d] at z;cases z⟩
 keep:=λ i h h' st k=>st.at λ o e=>k it (by simp) o e
 item:=by
  intro X hP hw hK hc i pins s σ H E I hf st hg;subst hP hw hK;obtain⟨ha,hi⟩:=hg;have aa:=(show bw X.prog X.w H s.heap a (.frz ob (.dK kvs)) from I.hok a _ ha).1;have hlen:kvs.length=vs.length:=Ul kx;obtain⟨q,hq,hk,hr⟩:=t6 kx (RE hi);obtain⟨f0,f1,f2,f3,f4,f5⟩:=hf it (by simp);refine wpAny_pyNext_dict_item st (dx _ a aa) hq λ key h' aS a3 a4=>?_;have I1:Inv X pins σ H { s with heap:=h' }:=I.turned (t':=s.toks) (λ b o hb e=>a4.extBut b o hb e) f0 f1 f3 f4 f5;obtain⟨o,e,c,d⟩:=id a3;refine⟨key,rfl,wJ (s:={ s with heap:=h' }) e c d (by decide) ⟨kV kvs[i].1,H,I1,?_,⟨rfl,kvs[i],RE hi,rfl⟩,a3,λ b hb=>(hf b hb).1⟩⟩;rw [hk];exact vt aS
 done:=by
  intro X hP hw hK hc i pins s σ H E I hf st hg;subst hP hw hK;obtain⟨ha,hi⟩:=hg;have aa:=(show bw X.prog X.w H s.heap a (.frz ob (.dK kvs)) from I.hok a _ ha).1;have hlen:kvs.length=vs.length:=Ul kx;obtain⟨f0,f1,f2,f3,f4,f5⟩:=hf it (by simp);exact wpAny_pyNext_dict_end (I.ok.hd hc) st (dx _ a aa) (by simp;omega) λ h' eb=>⟨rfl,I.turned (t':=s.toks) (λ b o hb e=>eb b o hb e) f0 f1 f3 f4 f5⟩
 self:=λ _ _ _ _ _ st h=>wpAny_pyIter_keyiter st h
def Oy(R:It->Hp->Prop):VK:=λ x H1=>∃ a kvs,x=.ref a/\H1 a=some (.dK kvs)/\∀ ob,R (Itd a ob kvs) (upd H1 a (.frz ob (.dK kvs)))
def KN(tl:TE):TI:=λ σ H R=>tl σ H (Oy R)
def IU(tl:TE)(σ:St)(H:Hp)(R:It->Hp->Prop):KN tl σ H R=tl σ H (Oy R):=rfl
def Hg{X:Cx}{tg l:Expr}{tl:TE}(hl:PE X l tl):PI X tg l (KN tl):=by
 intro pins s σ H R I h;refine thn (hl pins s σ H _ I h) λ v s1 ⟨x,H1,I1,r1,q1⟩=>?_;obtain⟨a,kvs,e,ha,q⟩:=q1;subst e;cases r1;have hO:bw X.prog X.w H1 s1.heap a (.dK kvs):=I1.hok a _ ha;obtain⟨z0,lo,vs,kx,dd⟩:=id hO;obtain⟨ep,aa⟩:=dd.dictAt;obtain⟨ob,es,ho,km⟩:=id aa;have dx:QW X.prog X.w ob vs ep:=λ h b hb=>⟨ob,es,hb,km⟩;have aS:bw X.prog X.w (upd H1 a (.frz ob (.dK kvs))) s1.heap a (.frz ob (.dK kvs)):=⟨ho,⟨z0,lo,vs,kx,dd⟩⟩;have I2:=I1.write (t':=s1.toks) (x:=a) (e:=a) (o:=.frz ob (.dK kvs)) (h':=s1.heap) (by rw [ha];trivial) (.inl rfl) (λ b u _ e=>e) ⟨ob,ho⟩ aS;refine wpAny_pyIter_dict lo aa ?_;refine⟨s1.heap.objs.size,[s1.heap.objs.size],_,_,_,rfl,I2.kept (t':=s1.toks) λ b o e=>RD _ e,Ar a _ ob kvs vs ep kx dx,⟨_,RK _ rfl,rfl,rfl⟩,λ b hb=>?_,q ob⟩;have e:b=s1.heap.objs.size:=by simpa using hb
 subst e;exact I2.fpOk (RJ _) (I2.hok.fresh (RJ _))
def Inv.thaw{X:Cx}{pins:List (Addr × Obj)}{σ:St}{H:Hp}{s:Shared}{a:Addr}{ob:Obj}{kvs:List (Key × V)}(I:Inv X pins σ H s)(ha:H a=some (.frz ob (.dK kvs)))(hn:∀ o u,X.H₀ a ≠ some (.frz o u)):Inv X pins σ (upd H a (.dK kvs)) s:=by
 have ne:∀ b,H b=none->b ≠ a:=λ b e z=>by rw [z,ha] at e;cases e
 have aa:∀ b,H b=none->upd H a (.dK kvs) b=none:=λ b e=>by rw [ah (ne b e)];exact e
 refine⟨I.ok,I.os,I.bare,⟨I.base.keep,I.base.slot,λ b o e n hx=>aa b (I.base.free b o e n hx),I.base.there,λ b xs e=>?_,λ b o u e=>?_,λ b ps e=>?_⟩,I.loc,I.cell,aa _ I.free,λ x c e=>aa _ (I.freeC x c e),λ p hp=>?_,λ b u e=>?_,I.len⟩
 ·have h:=I.base.tups b xs e;rw [ah (λ z=>by rw [z,ha] at h;cases h)];exact h
 ·have h:=I.base.frzs b o u e;rw [ah (λ z=>hn o u (by rw [←z];exact e))];exact h
 ·obtain⟨m,h⟩:=I.base.tbls b ps e;exact⟨m,by rw [ah (λ z=>by rw [z,ha] at h;cases h)];exact h⟩
 ·obtain⟨h1,h2,h3⟩:=I.pin p hp;exact⟨h1,aa _ h2,h3⟩
 ·have stay:∀ (c:Addr) (v:HO),bw X.prog X.w H s.heap c v->bw X.prog X.w (upd H a (.dK kvs)) s.heap c v:=λ c v x=>x.stay (λ _ _ _ q=>q) (λ d q=>by rw [ah (λ z=>by rw [z,ha] at q;cases q)];exact q) λ d xs q=>by rw [ah (λ z=>by rw [z,ha] at q;cases q)];exact q
  by_cases hb:b=a
  ·subst hb;rw [ai] at e;cases e;exact stay _ _ (show bw X.prog X.w H s.heap b (.frz ob (.dK kvs)) from I.hok b _ ha).2
  ·rw [ah hb] at e;exact stay b u (I.hok b u e)
def Gu(H:Hp)(Q:VK):VK:=λ v H'=>∃ a ob kvs aa,H a=some (.dK aa)/\H' a=some (.frz ob (.dK kvs))/\Q v (upd H' a (.dK kvs))
def Kr(t:TE):TE:=λ σ H Q=>t σ H (Gu H Q)
def HV(t:TE)(σ:St)(H:Hp)(Q:VK):Kr t σ H Q=t σ H (Gu H Q):=rfl
def Hj{X:Cx}{e:Expr}{t:TE}(h:PE X e t):PE X e (Kr t):=by
 intro pins s σ H Q I hh;refine thn (h pins s σ H _ I hh) λ u s1 ⟨v,H1,I1,r1,a,ob,kvs,aa,h0,hf,q⟩=>?_;exact⟨v,_,I1.thaw hf λ o w z=>(by have:=I.base.frzs a o w z;rw [h0] at this;cases this),r1,q⟩
def Ext.thaw{H H1:Hp}{a:Addr}{ob:Obj}{kvs:List (Key × V)}(ha:H a=some (.dK kvs))(e:Ext (upd H a (.frz ob (.dK kvs))) H1):Ext H (upd H1 a (.dK kvs)):=by
 have h1:∀ b,(H b).isSome=true->upd H1 a (.dK kvs) b=H b:=λ b hb=>by
  by_cases hba:b=a
  ·rw [hba,ai,ha]
  ·rw [ah hba,e.1 b (by rw [ah hba];exact hb),ah hba]
 refine⟨h1,λ K b xs h=>?_⟩
 rcases h with (h|⟨o,h⟩)|h
 ·exact .inl (.inl (by rw [h1 b (by rw [h];rfl)];exact h))
 ·exact .inl (.inr ⟨o,by rw [h1 b (by rw [h];rfl)];exact h⟩)
 ·exact .inr h
section
variable {k:Nat}{g:TG}{tt:TT}{te:TE}{σ:St}{Q:VK}{H:Hp}
def K2{a:Addr}{kvs:List (Key × V)}(c:Key × V->Bool)(f:Key × V->V)(ha:H a=some (.dK kvs))(hl:kvs.length<=sizeLine)
  (hs:∀ D ob z H' N1 N0,z∈kvs->H D=none->Ext (upd H a (.frz ob (.dK kvs))) H'->H' a=some (.frz ob (.dK kvs))->(c z=true->∀ H'',Ext H' H''->N1 (f z) H'')->(c z=false->∀ H'',Ext H' H''->N0 H'')->g (kV z.1) (List.replicate k none++σ) H' (kCm k tt te σ N1 N0))
  (hd:∀ D H',H D=none->Ext H H'->H' D=some (.lst ((kvs.filter c).map f))->Q (.ref D) H'):Oy (CT k g tt te σ (Gu H Q)) (.ref a) H:=by
 refine⟨a,kvs,rfl,ha,λ ob=>?_⟩;have aa:upd H a (.frz ob (.dK kvs)) a=some (.frz ob (.dK kvs)):=ai;refine aL kvs c f (λ z x H'=>x=kV z.1/\H' a=some (.frz ob (.dK kvs))) (λ i z H' hz e=>?_) (λ H' e=>?_) hl (λ D z x H' N1 N0 hz hD e p k1 k0=>?_) λ D H' hD e a3=>?_
 ·have h1:H' a=some (.frz ob (.dK kvs)):=by rw [e.1 a (by rw [aa];rfl)];exact aa
  refine⟨⟨h1,(RG.mp hz).1⟩,λ x H'' ⟨e1,p,hp,ex⟩=>?_⟩;rw [hz] at hp;cases hp;subst e1;exact⟨Ext.refl _,ex,h1⟩
 ·exact⟨by rw [e.1 a (by rw [aa];rfl)];exact aa,RJ _⟩
 ·obtain⟨rfl,hp⟩:=p;exact hs D ob z H' N1 N0 hz (by rwa [ah (λ z=>by rw [z,aa] at hD;cases hD)] at hD) e hp k1 k0
 ·have aS:D ≠ a:=λ z=>by rw [z,aa] at hD;cases hD
  refine⟨a,ob,kvs,kvs,ha,by rw [e.1 a (by rw [aa];rfl)];exact aa,hd D _ (by rwa [ah aS] at hD) (Ext.thaw ha e) (by rw [ah aS];exact a3)⟩
end
def GO{H:Hp}{a:Addr}{ob:Obj}{kvs:List (Key × V)}{k:Key}{v:V}{Q:VK}(e:H a=some (.frz ob (.dK kvs)))(h:eF kvs k=some v)(q:Q v H):NR Q (.ref a) (kV k) H:=⟨a,v,rfl,h ▸ .inl ⟨kvs,k,.inr ⟨ob,e⟩,rfl,rfl⟩,q⟩
structure IsC(K:W.Frag)(C:Addr):Prop where
 cl:Cls K C
 fc:W.findIn K (.ref C) "__class__"=some (some (.builtin "object.__class__"))
 ocs:W.specialIn K (.builtin "object.__class__") "__get__"=some (some (.builtin "getset_descriptor.__get__"))
 oct:W.takesIn K (.builtin "object.__class__")=some true
 mo:W.mroIn K C (.type "object")=some true
section
variable {X:Cx}
end
section
variable {prog:Program}{w:World}{A:Around}{E:Value->Shared->Prop}{K:Frag}{x C dx:Addr}{s:Shared}{name:Str}{v:Value}
end
section
variable {X:Cx}{e o value:Expr}{ta tv:TE}{f:Str}{pos pos':Pos}
end
open Sem (wp)
open AutoSeq1 (wpAny_loadPart')
section
variable {X:Cx}
end
def KW(o:Obj):Prop:=∃ vs,o.data=.fields vs/\vs[2]? = some .none
section
variable {prog:Program}{w:World}{A:Around}{E:Value->Shared->Prop}{s:Shared}
end
def QV(X:Cx):Prop:=∃ (e:Addr) (oe:Obj) (u:HO),X.A.handled=some (.ref e)/\X.H₀ e=some (.frz oe u)/\KW oe
structure Rw(P:Program)(w:World)(K:W.Frag)(tg:Expr)(J:It)(fp:List Addr)(it:Addr)(tn:Nat->Heap->Prop):Prop where
 mem:it∈fp
 obj:∀ i h,tn i h->∀ b∈fp,∃ o,h.get? b=some o/\∀ v,o.data ≠ .cell v
 keep:∀ i h h',tn i h->(∀ b∈fp,∀ o,h.get? b=some o->h'.get? b=some o)->tn i h'
 item:∀ (X:Cx),X.prog=P->X.w=w->X.K=K->QV X->∀ (i:Nat) (pins:List (Addr × Obj)) (s:Shared) (σ:St) (H:Hp) (E:Value->Shared->Prop),Inv X pins σ H s->(∀ b∈fp,sF X pins H b)->tn i s.heap->J.go i H →
  wpAny (model P w) X.A (pyNext (.ref it)) (λ r s1=>∃ u,r=some u /\
   wpAny (model P w) X.A (letOwnedTupleGo tg (.ref it) u) (λ _ s2=>∃ x H',Inv X pins σ H' s2/\bD x u/\J.yld i H x H'/\tn (i+1) s2.heap/\∀ b∈fp,H' b=none) E s1) E s
 done:∀ (X:Cx),X.prog=P->X.w=w->X.K=K->QV X->∀ (i:Nat) (pins:List (Addr × Obj)) (s:Shared) (σ:St) (H:Hp) (E:Value->Shared->Prop),Inv X pins σ H s->(∀ b∈fp,sF X pins H b)->tn i s.heap->J.stop i H →
  wpAny (model P w) X.A (pyNext (.ref it)) (λ r s1=>r=none/\Inv X pins σ H s1) E s
section
variable {X:Cx}{tg:Expr}
end
structure P5(k:Nat)(e:Addr)(A:Around):Prop where
 hd:A.handled=some (.ref e)
 dp:A.depth+3 * k+5 < recursionLimit
 un:A.units+16 * k+200 < cLine
structure Rx(P:Program)(w:World)(K:W.Frag)(mg:Str->Option Value)(base:Heap)(CX:CXT)(k:Nat)(f:Addr)(fd:FuncData)(ps:List Str)(sp:Sp):Prop where
 len:∀ vs H Q E,sp vs H Q E->vs.length=ps.length
 run:∀ (A:Around) (outer:List Env) (s:Shared) (H:Hp) (args:Args) (us:List Value) (vs:List V) (Q:VK) (E:XK) (e:Addr) (oe:Obj) (u:HO),P5 k e A->H e=some (.frz oe u)->KW oe->Fo P w K mg base A outer s H->BindsTo s fd args (ps.zip us)->aW vs us->sp vs H Q E →
  codeAny (model P w) A (.call (.ref f) args) (CR CX outer P w H s Q E) s
section
variable {X:Cx}
end
section
variable {prog:Program}{w:World}{A:Around}{E:Value->Shared->Prop}{s:Shared}
structure QZ(z TI TO i j l:Addr)(f g e:List Addr):Prop where
 ti:TI ≠ z/\TI ≠ TO/\TI ≠ i/\TI ≠ j/\TI ≠ l
 zt:z ≠ TO
 zf:z ∉ f
 zg:z ∉ g
 ze:z ∉ e
 tf:TO ∉ f
 tg:TO ∉ g
 te:TO ∉ e
 ig:i ∉ g
 ie:i ∉ e
 jf:j ∉ f
 je:j ∉ e
 lf:l ∉ f
 lg:l ∉ g
variable {z TI TO i j l:Addr}{f g e:List Addr}{ti tj tl:Nat->Heap->Prop}{vi vj vl:Nat->Option Value}{k m n:Nat}{x y u a b c:Value}
end
section
variable {prog:Program}{w:World}{A:Around}{E:Value->Shared->Prop}{s:Shared}
end
section
variable {X:Cx}
end
section
variable {X:Cx}
end
section
variable {prog:Program}{w:World}{A:Around}{R:Result->Shared->Prop}{J:Addr}{fp wr:List Addr}{G:Array GenState->Array GenState->Prop}{n:Nat}{P:Nat->Value->Prop}{St:Nat->Shared->Prop}
end
section
variable {prog:Program}{w:World}{A:Around}{R:Result->Shared->Prop}{J:Addr}{fp wr:List Addr}{G:Array GenState->Array GenState->Prop}{n:Nat}{P:Nat->Value->Prop}{St:Nat->Shared->Prop}
end
abbrev PKy:=List Int × List Int
section
variable {prog:Program}{w:World}
end
section
variable {P:Program}{w:World}{H:Hp}{h:Heap}{a:Addr}
end
section
variable {X:Cx}{pins:List (Addr × Obj)}{σ:St}{H:Hp}{s:Shared}{d b:Addr}{k:PKy}{Z:List PKy}{A:Around}{E:Value->Shared->Prop}
end
section
variable {X:Cx}
end
def Hf{X:Cx}{tg l:Expr}{tl:TE}{K:W.Frag}(hK:X.K=K)(hl:PE X l tl):PI X tg l (OI K tl):=by subst hK;exact FC hl
def Kk:List V->Hp->VK->Prop:=λ vs H Q=>∃ p ns,vs=[.ref p]/\H p=some (.lst (ns.map V.int))/\ns.length < 64/\∀ ms:List Int,ms.Perm ns->ms.Pairwise (·<=·)->jd (.lst (ms.map V.int)) H Q
def Dl{p:Addr}{ns:List Int}{H:Hp}{Q:VK}(e:H p=some (.lst (ns.map V.int)))(hl:ns.length < 64)(q:∀ ms:List Int,ms.Perm ns->ms.Pairwise (·<=·)->jd (.lst (ms.map V.int)) H Q):Kk [.ref p] H Q:=⟨p,ns,rfl,e,hl,q⟩
def xN{X:Cx}:bI X (.builtin "sorted") Kk:=by
 intro pins s σ H vs us Q I r h;obtain⟨p,ns,rfl,e,hl,q⟩:=h
 cases r with
 | cons r rr=>
  cases rr;cases r;obtain⟨z,its,n,r',hlen,hg⟩:=I.lstM e;rw [RH] at hlen;have hI:IntsAre its ns:=xF r';refine sorted_ints (vs:=its) ⟨_,hg,rfl,n,rfl⟩ hI (by omega) λ out aa a1 a2 a3=>?_;have fr:=I.hok.fresh (a:=s.heap.objs.size+1) (SX _);obtain⟨e',aS⟩:=sortedAll_at s.heap its out;refine⟨.ref (s.heap.objs.size+1),_,I.laid (t':=s.toks) (h':=sortedAll s.heap its out) (o:=.lst (aa.map V.int)) (λ b u hb=>sortedAll_old hb) (SX _) ⟨?_,out.toList,e',jV a1,?_⟩,rfl,q aa a2 a3 _ _ fr (Ext.new fr) ai⟩
  ·rw [RH,a2.length_eq];exact aC (by omega)
  ·rw [Array.toArray_toList];exact aS
section
variable {X:Cx}{e st:Expr}{te tst:TE}{pos p2:Pos}
end
section
variable {X:Cx}
end
section
variable {X:Cx}{a b:Expr}{ta tb:TE}{pos:Pos}{km:List Expr}
end
open PySem.SeqAt
def GC(H:Hp)(Q:VK):List Bool->Prop:=λ bs=>Q (.bl (bs.any id)) H
def IM(H:Hp)(Q:VK)(bs:List Bool):GC H Q bs=Q (.bl (bs.any id)) H:=rfl
def N9:List V->Hp->VK->Prop:=λ vs H Q=>match vs with
 | [.ref p]=>aJ (aF H p) (J4 (GC H Q))
 | _=>False
def Mg(p:Addr)(H:Hp)(Q:VK):N9 [.ref p] H Q=aJ (aF H p) (J4 (GC H Q)):=rfl
section
variable {X:Cx}
def CA(bs:List Bool):(List.range bs.length).any (λ i=>bs.getD i false)=bs.any id:=by
 rw [TK,Uq,Uq];refine⟨λ ⟨i,hi,e⟩=>?_,λ ⟨x,hx,e⟩=>?_⟩
 ·have aa:=SH.mp hi;exact⟨bs[i],T7 aa,by simpa [List.getD,RE aa] using e⟩
 ·obtain⟨i,hi,h⟩:=TB hx;exact⟨i,SH.mpr hi,by simpa [List.getD,RE hi,h] using e⟩
def Ca(hc:X.calm=true):bI X (.builtin "any") N9:=by
 intro pins s σ H vs us Q I r h;unfold N9 at h;split at h
 ·rename_i p;obtain⟨xs,e,bs,rfl,q⟩:=aq h
  cases r with
  | cons r rr=>
   cases rr;cases r;obtain⟨its,rv,pl,hz⟩:=I.list (SqL.of (bO e));have aS:p < s.heap.objs.size:=by obtain⟨_,e,_⟩:=pl.isList;exact RF e
   have hlen:its.length=bs.length:=by have:=rv.length;simpa using this.symm
   refine call_any_walk (Ua pl.isList ⟨s.heap.objs.size,_,_,_,_,_,λ i=>bs.getD i false,rfl,Walks.list (show X.A.in1.handled=none from I.ok.hd hc) _ p (RT aS) its.toArray,⟨⟨_,RK _ rfl,rfl,rfl⟩,pl.isList.push _⟩,λ i v s' Q' E' hP hQ=>?_,λ h' tk hk=>?_⟩)
   ·have hv:its[i]? = some v:=by simpa using hP
    have hi:i < bs.length:=by rw [←hlen];exact(RG.mp hv).1
    obtain⟨u,hu,ru⟩:=rv.get (i:=i) (x:=.bl (bs.getD i false)) (by rw [RN,RE hi];simp [List.getD,RE hi]);rw [hv] at hu;cases hu;have e2:v=.bool (bs.getD i false):=ru;subst e2;exact SQ hQ
   ·have kp:∀ b o,s.heap.get? b=some o->h'.get? b=some o:=λ b o e=>hk b o (λ aa=>by
     have:b=s.heap.objs.size:=by simpa using aa
     subst this;exact absurd (RF e) (SE _)) (RD _ e)
    refine⟨.bl (bs.any id),H,I.kept (t':=tk) kp,?_,q⟩;rw [show its.toArray.size=bs.length by simp [hlen],CA];exact rfl
 ·exact h.elim
end
structure Mk0(K:W.Frag)(C:Addr):Prop where
 makes:W.makesIn K C=true
 init:W.findIn K (.ref C) "__init__"=some (some (.builtin "object.__init__"))
 kp:W.keepIn K (.ref C)=true
def Qu(C:Addr):TE:=λ _ H Q=>∀ x dx H',H x=none->H dx=none->dx ≠ x->Ext H H'->H' x=some (.ins C dx [])->H' dx=some (.own x)->Q (.ref x) H'
def Ml(C:Addr)(σ:St)(H:Hp)(Q:VK):Qu C σ H Q=∀ x dx H',H x=none->H dx=none->dx ≠ x->Ext H H'->H' x=some (.ins C dx [])->H' dx=some (.own x)->Q (.ref x) H':=rfl
def Hn{X:Cx}{C:Addr}{x:Str}{p pos:Pos}(M:Mk0 X.K C)(hg:Gl X x)(hm:X.mg x=some (.ref C))(aa:(x == ("__debug__":Str))=false:=by decide):PE X (.Call (.Name x p) [] [] pos) (Qu C):=by
 intro pins s σ H Q I h;refine SS (gP I hg hm ?_ aa);refine Vl I.kIn M.kp ?_;have hx:H (s.heap.objs.size+1)=none:=I.hok.fresh (SX _);have hd:H s.heap.objs.size=none:=I.hok.fresh (RJ _);have ne:s.heap.objs.size ≠ s.heap.objs.size+1:=RT (Tp _);have hq:=h (s.heap.objs.size+1) s.heap.objs.size (upd (upd H s.heap.objs.size (.own (s.heap.objs.size+1))) (s.heap.objs.size+1) (.ins C s.heap.objs.size [])) hx hd ne ((Ext.new hd).put hx) ai (by rw [ah ne,ai]);have I2:=Inv.made (C:=C) I;refine wpAny_call (AK I.kIn M.makes M.init (λ self=>W.Looks.of_pure (W.oi_bind self)) ?_);have Y:=W.makes_of (M:=model X.prog X.w) I.kIn M.makes
 have e2:((s.heap.push W.emptyDict).push (W.instObj C s.heap.objs.size)).get? (s.heap.objs.size+1)=some (W.instObj C s.heap.objs.size):=by
  have:=RK (s.heap.push W.emptyDict) (o:=W.instObj C s.heap.objs.size) rfl
  rwa [Sz] at this
 have t1:W.Looks (model X.prog X.w) ((s.heap.push W.emptyDict).push (W.instObj C s.heap.objs.size)) (typeOf (.ref (s.heap.objs.size+1))) (.ref C):=(W.Looks.ld e2).andThen .now;have t2:W.Looks (model X.prog X.w) ((s.heap.push W.emptyDict).push (W.instObj C s.heap.objs.size)) (isInstance (.ref (s.heap.objs.size+1)) (.type "object")) true:=t1.andThen (Y.top.keeps λ b o e=>RD _ (RD _ e));refine codeAny_call_builtin W.oi_plain W.entry_oi (@W.check_slot (model X.prog X.w) _ _ _ "object.__init__" "object" "__init__" (.ref (s.heap.objs.size+1)) [] [] _ W.oi_kind W.oi_split t2 (W.oi_args (.ref (s.heap.objs.size+1))) ?_);rw [W.oi_run];exact RI (And.intro rfl ⟨V.ref (s.heap.objs.size+1),_,I2,rfl,hq⟩)
structure MD(P:Program)(w:World)(K:W.Frag)(mg:Str->Option Value)(base:Heap)(CX:CXT)(k:Nat)(m:Str)(C:Addr)(sp:Sp):Prop where
 c:Cls K C
 ex:∃ f fd ps,cR K C m f/\aH P w K mg base CX k f fd ps sp/\ak K fd ps []
section
variable {k:Nat}{g:TG}{tt:TT}{te:TE}{σ:St}{Q:VK}{H:Hp}
end
section
variable {X:Cx}
end
def zD(n:Nat)(cl:Nat->Addr)(m:Str)(sp:Nat->Sp)(E:XK)(t:TA)(σ:St)(Q:VK):VK:=λ x H=>∃ a i dx fs,x=.ref a/\i < n/\H a=some (.ins (cl i) dx fs)/\fs.lookup m=none/\t σ H (λ vs H2=>sp i (.ref a::vs) H2 Q E)
def zy(n:Nat)(cl:Nat->Addr)(m:Str)(sp:Nat->Sp)(E:XK)(ta:TE)(t:TA):TE:=λ σ H Q=>ta σ H (zD n cl m sp E t σ Q)
def AO(n:Nat)(cl:Nat->Addr)(m:Str)(sp:Nat->Sp)(E:XK)(ta:TE)(t:TA)(σ:St)(H:Hp)(Q:VK):zy n cl m sp E ta t σ H Q=ta σ H (zD n cl m sp E t σ Q):=rfl
section
variable {X:Cx}{CX:CXT}{n k:Nat}{cl:Nat->Addr}{m:Str}{sp:Nat->Sp}{pos apos:Pos}{o e:Expr}{es:List Expr}{ta:TE}{t:TA}
def wV{E:XK}{pl:Sem Bool}(he:PE X o ta)(hT:∀ i,i < n->MD X.prog X.w X.K X.mg X.base CX k m (cl i) (sp i))(hr:iA k X.A)(hx:iE CX X E)(ha:PA X (e::es) t)
  (aa:starEach (e::es) X.env=(false,eval e X.env)::starEach es X.env:=by rfl) (aS:(backTo pos (starEach es X.env)).any (·.1)=false:=by rfl)
  (ht:eval (.Call (.Attribute o m apos) (e::es) [] pos) X.env=(do
   let ov ←eval o X.env
   standAt apos.atName
   let (f,first) ←holding [ov] (getMethod ov m pl)
   callWith pos f first (backTo pos (starEach (e::es) X.env)) (backToKw pos (keywordEach [] X.env))):=by rfl) :
  PE X (.Call (.Attribute o m apos) (e::es) [] pos) (zy n cl m sp E ta t):=by
 intro pins s σ H Q I h;refine U0 (pl:=pl) (thn (he pins s σ H _ I h) λ u s1 ⟨x,H1,I1,rx,q0⟩=>?_) ht;obtain⟨a,i,dx,fs,ex,hi,ea,l,q⟩:=q0;obtain⟨c,f,fd,ps,hm,F,hb⟩:=hT i hi;subst ex;obtain rfl:u=Value.ref a:=rx;refine gy I1 ea c hm l ?_;refine W.callWith_K (first:=[.ref a]) (h₀:=X.base) I.ok.mod.kin hm.kp (thn (ha pos pins s1 σ H1 _ I1 q) λ us s2 ⟨vs,H2,I2,r,q2⟩=>⟨I2.kIn,?_⟩) aa aS;exact p5 (us:=.ref a::us) (vs:=.ref a::vs) (ds:=[]) (dvs:=[]) F hr hb .nil hx I2 (.cons rfl r) (by rw [UH];exact q2)
end
section
variable {X:Cx}{CX:CXT}{k:Nat}{f C:Addr}{fd:FuncData}{ps:List Str}{sp:Sp}{dvs:List V}{ds:List Value}{E:St->XK}{x:Str}{p pos:Pos}{e:Expr}{es:List Expr}{t:TA}
end
def Km:List V->Hp->VK->Prop:=λ vs H Q=>∃ p kvs,vs=[.ref p]/\H p=some (.dK kvs)/\Q (.int kvs.length) H
def Dm{p:Addr}{kvs:List (Key × V)}{H:Hp}{Q:VK}(e:H p=some (.dK kvs))(q:Q (.int kvs.length) H):Km [.ref p] H Q:=⟨p,kvs,rfl,e,q⟩
section
variable {X:Cx}
def xP:bI X (.builtin "len") Km:=by
 intro pins s σ H vs us Q I r h;obtain⟨p,kvs,rfl,e,q⟩:=h;obtain⟨u,rfl,rx⟩:=pU r;cases rx;have hn:=m6;obtain⟨h1,h2,aa,h3,h4⟩:=I.hok _ _ e;have hlen:aa.length=kvs.length:=h3.length.symm;exact call_len_dict h2 h4 (by omega) ⟨.int kvs.length,H,I.tok _,⟨s.toks+1,by rw [hlen]⟩,q⟩
end
section
variable {X:Cx}
end
section
variable {X:Cx}
end
section
variable {X:Cx}{tg:Expr}
end
section
variable {X:Cx}
end
end L2
namespace HT
open PySem PySem.Spec PyProof.Rows
section
variable {prog:Program}{w:World}{A:Around}{E:Value->Shared->Prop}{s:Shared}
def getItem_tuple_whole{t sl:Addr}{items:Array Value}{vl vu:Value}{lo hi:Option Int}{Q:Value->Shared->Prop}(ht:IsTup s.heap t items)(hs:s.heap.IsSliceOf sl vl vu .none)(pl:IsPart vl lo)(pu:IsPart vu hi)
  (hw:sIx items.size 0 lo=0/\sIx items.size items.size hi=items.size) (h:Q (.ref t) s):wpAny (model prog w) A (getItem (.ref t) (.ref sl)) Q E s:=by
 obtain⟨os,aS,a3,a5⟩:=id hs;have a4:s.TypeIs (.ref sl) "slice":=⟨os,aS,a3⟩;unfold getItem
 try with_reducible refine SU ?_
 first|refine My (RI ?_)|skip
 refine My (wpAny_sequenceKey ht.typeIs (by decide) ?_)
 refine My (SA (name:=Str.ofString "__getitem__") ht.typeIs Su
  (S0 Su ht.typeIs entry_tuple_getitem ?_ (args_tuple_getitem _ _)))
 show wpAny _ _ (Builtin.Tuple.tupleItemsOf (.ref t) >>= _) _ _ s
 refine My (tupleItemsOf_ ht ?_);refine My (Uy a4 ?_);rw [RX (by decide)];refine My (fD hs pl pu ?_)
 have aa:(((sIx items.size 0 lo:Nat):Int) == 0 && (1:Int) == 1 && (sIx items.size items.size hi - sIx items.size 0 lo) == items.size)=true:=by
  rw [hw.1,hw.2];simp
 show wpAny _ _ (if (((sIx items.size 0 lo:Nat):Int) == 0 && (1:Int) == 1 && (sIx items.size items.size hi - sIx items.size 0 lo) == items.size)=true then _ else _) _ _ s
 rw [RX aa];refine My ?_
 show wpAny _ _ (Builtin.Tuple.tupleIsExact (.ref t)) _ _ s
 refine My (Uy ht.typeIs (RI ?_));rw [RX (by decide)];refine My (U1 ?_)
 first
  | exact RI ⟨_,rfl,RI h⟩
  | exact My (RI (RI ⟨_,rfl,RI h⟩))
  | exact My (RI ⟨_,rfl,RI h⟩)
end
end HT
namespace L2
open PySem PySem.Spec PyProof.Rows
def J1(a:Addr)(lo hi:Option Int)(H:Hp)(Q:VK):List V->Prop:=λ xs=>((HT.sIx xs.length 0 lo=0/\HT.sIx xs.length xs.length hi=xs.length)->Q (.ref a) H)/\(¬ (HT.sIx xs.length 0 lo=0/\HT.sIx xs.length xs.length hi=xs.length)->jd (.tup (mO xs lo hi)) H Q)
def NH:V->Option Int->Option Int->Hp->VK->Prop:=λ x lo hi H Q=>match x with
 | .ref a=>aJ (iB H a) (J1 a lo hi H Q)
 | _=>False
def Kg{X:Cx}:SlR X NH:=by
 intro pins s σ H x v vl vu lo hi sl Q I rx hs pl pu h;unfold NH at h;split at h
 ·rename_i a;obtain⟨xs,e,q1,q2⟩:=aq h;have hx:SqT X.K H a xs:=SqT.of (uZ e)
  by_cases hw:HT.sIx xs.length 0 lo=0/\HT.sIx xs.length xs.length hi=xs.length
  ·cases rx;obtain⟨its,r,ht,hz⟩:=I.tuple hx;have hlen:its.toArray.size=xs.length:=by rw [RY];exact r.length.symm
   refine⟨"tuple",_,Su.lookup,ht.typeIs,?_⟩;exact HT.getItem_tuple_whole ht hs pl pu (by rw [hlen];exact hw) ⟨.ref a,H,I,rfl,q1 hw⟩
  ·exact K9 pins s σ H (.ref a) v vl vu lo hi sl Q I rx hs pl pu ⟨a,xs,rfl,hx,hw,(q2 hw).to⟩
 ·exact h.elim
section
variable {X:Cx}
end
def Its(x:Str):It:=⟨λ i _=>i < x.cps.size,λ i H v H'=>H'=H/\∃ c,x.cps[i]? = some c/\v=.str ⟨#[c]⟩,λ i _=>x.cps.size<=i⟩
def Dr{P:Program}{w:World}{K:W.Frag}{tg:Expr}(it:Addr)(x:Str)(t:Tok):Turn P w K tg (Its x) [it] it (λ i h=>h.IsStrIter it "str_ascii_iterator" x t i) where
 mem:=by simp
 obj:=λ i h st b hb=>by
  have e:b=it:=by simpa using hb
  subst e;obtain⟨o,e,c,d⟩:=st;exact⟨o,e,λ v z=>by rw [d] at z;cases z⟩
 keep:=λ i h h' st k=>let ⟨o,ho,r⟩:=st;⟨o,k it (by simp) o ho,r⟩
 item:=by
  intro X hP hw hK hc i pins s σ H E I hf st hg;subst hP hw hK;have hi:i < x.cps.size:=hg;have hx:x.cps[i]? = some x.cps[i]:=by simp [hi]
  obtain⟨f0,f1,f2,f3,f4,f5⟩:=hf it (by simp);refine wpAny_pyNext_ascii_item st hx λ h' aa sb=>?_;have I1:Inv X pins σ H { s with heap:=h',toks:=s.toks+1 }:=I.turned (λ b o hb e=>(sb.2 b hb).trans e) f0 f1 f3 f4 f5;obtain⟨o,e,c,d⟩:=id aa;exact⟨_,rfl,wJ (s:={ s with heap:=h',toks:=s.toks+1 }) e c d (by decide) ⟨.str ⟨#[x.cps[i]]⟩,H,I1,⟨_,rfl⟩,⟨rfl,_,hx,rfl⟩,aa,λ b hb=>(hf b hb).1⟩⟩
 done:=by
  intro X hP hw hK hc i pins s σ H E I hf st hg;subst hP hw hK;have hi:x.cps.size<=i:=hg;obtain⟨f0,f1,f2,f3,f4,f5⟩:=hf it (by simp);exact wpAny_pyNext_ascii_end (I.ok.hd hc) st (by simp [hi]) λ h' eb=>⟨rfl,I.turned (t':=s.toks) (λ b o hb e=>eb b o hb e) f0 f1 f3 f4 f5⟩
 self:=λ _ _ _ _ _ st h=>wpAny_pyIter_striter_ascii st h
def KD(R:It->Hp->Prop):VK:=λ v H=>∃ x:Str,v=.str x/\x.cps.all (· < 128)=true/\R (Its x) H
def QO(tl:TE):TI:=λ σ H R=>tl σ H (KD R)
def Nb(tl:TE)(σ:St)(H:Hp)(R:It->Hp->Prop):QO tl σ H R=tl σ H (KD R):=rfl
def Li{X:Cx}{tg l:Expr}{tl:TE}(hl:PE X l tl):PI X tg l (QO tl):=by
 intro pins s σ H R I h;refine thn (hl pins s σ H _ I h) λ v s1 ⟨x,H1,I1,r1,q1⟩=>?_;obtain⟨z,rfl,ha,q⟩:=q1;obtain⟨t,rfl⟩:=r1;refine wpAny_pyIter_ascii ha ?_;refine⟨s1.heap.objs.size,[s1.heap.objs.size],_,_,H1,rfl,I1.kept (t':=s1.toks) λ b o e=>RD _ e,Dr _ z t,⟨_,RK _ rfl,rfl,rfl⟩,λ b hb=>?_,q⟩;have e:b=s1.heap.objs.size:=by simpa using hb
 subst e;exact I1.fpOk (RJ _) (I1.hok.fresh (RJ _))
def sgn(c:Nat):V:=.str ⟨#[c]⟩
def Ft{H:Hp}(x:Str):(∀ i z H',x.cps.toList[i]? = some z->Ext H H'->(Its x).go i H'/\∀ v H'',(Its x).yld i H' v H''->Ext H' H''/\v=sgn z)/\∀ H',Ext H H'->(Its x).stop x.cps.toList.length H':=by
 refine⟨λ i z H' hz _=>?_,λ H' _=>by simp [Its]⟩;have aa:x.cps[i]? = some z:=by simpa using hz
 refine⟨?_,λ v H'' y=>⟨by rw [y.1];exact Ext.refl _,?_⟩⟩
 ·have:=(RG.mp hz).1
  show i < x.cps.size
  simpa using this
 ·obtain⟨c,hc,rfl⟩:=y.2;rw [aa] at hc;cases hc;rfl
def JR(x:Str)(n:Int):Str:=if (n == 1 || x.length == 0)=true then x else ⟨(List.replicate n.toNat x.cps).foldl (· ++ ·) #[]⟩
def vq(a:Array Nat):∀ (k:Nat) (b:Array Nat),((List.replicate k a).foldl (· ++ ·) b).size=b.size+k * a.size
 | 0,b=>by simp
 | k+1,b=>by
  rw [Tc,Uk,vq a k,Array.size_append,Nat.succ_mul];omega
def Gm:R2:=λ x y H Q=>match x,y with
 | .str z,.int n=>1<=n/\n<=100/\z.length<=100/\Q (.str (JR z n)) H
 | _,_=>False
def HZ(z:Str)(n:Int)(H:Hp)(Q:VK):Gm (.str z) (.int n) H Q=(1<=n/\n<=100/\z.length<=100/\Q (.str (JR z n)) H):=rfl
def DV{X:Cx}:OpR X (binaryOp .Mult) Gm:=by
 intro pins s σ H x y v u Q I rx ry h;unfold Gm at h;split at h
 ·rename_i z n;obtain⟨h1,h2,h3,q⟩:=h;obtain⟨t,rfl⟩:=rx;obtain⟨t',rfl⟩:=ry;have hn:¬ n < 1:=by omega
  have e1:decide (n < -(2 ^ 63:Int))=false:=R6 (by omega);have e2:decide (n >= 2 ^ 63)=false:=R6 (by omega);refine P.mul_str (by rw [e1,e2];rfl) (λ _ _=>?_) (λ _ _=>?_) ?_
  ·have:(2 ^ 63 - 1) / n >= 92233720368547758:=by
    have hp:(0:Int) < n:=by omega
    exact(Int.le_ediv_iff_mul_le hp).mpr (by omega)
   omega
  ·have:z.length * n.toNat<=10000:=Nat.mul_le_mul h3 (show n.toNat<=100 by omega)
   show decide (z.length * n.toNat > 2 ^ 24)=false
   exact R6 (by omega)
  ·rw [if_neg hn];unfold JR at q;split
   ·rename_i hc;rw [RX hc] at q;exact⟨.str z,H,I,⟨_,rfl⟩,q⟩
   ·rename_i hc;rw [RQ hc] at q
    have hlen:(⟨(List.replicate n.toNat z.cps).foldl (· ++ ·) #[]⟩:Str).length<=sizeLine:=by
     show ((List.replicate n.toNat z.cps).foldl (· ++ ·) #[]).size<=2 ^ 24
     rw [vq];have h4:n.toNat * z.cps.size<=100 * 100:=Nat.mul_le_mul (show n.toNat<=100 by omega) h3;have h5:(#[]:Array Nat).size=0:=rfl;omega
    exact⟨hlen,⟨.str _,H,I.tok _,⟨_,rfl⟩,q⟩⟩
 ·exact h.elim
def inS(i j:Str):Bool:=!(Builtin.Str.occurrences j i 0 j.length 1).isEmpty
def Od:R2:=λ x y H Q=>match x,y with
 | .str i,.str j=>Q (.bl (inS i j)) H
 | _,_=>False
def Mm(i j:Str)(H:Hp)(Q:VK):Od (.str i) (.str j) H Q=Q (.bl (inS i j)) H:=rfl
def Hu{X:Cx}:OpR X (compareOp .In) Od:=AD.mono λ x y H Q h=>by
 unfold Od at h;split at h
 ·exact⟨_,_,rfl,rfl,h⟩
 ·exact h.elim
def KA(l:Addr)(H:Hp)(Q:VK):List V->Prop:=λ xs=>∃ y ys,xs=ys++[y]/\Q y (upd H l (.lst ys))
def NI:V->List V->Hp->VK->Prop:=λ x vs H Q=>match x,vs with
 | .ref l,[]=>aJ (aF H l) (KA l H Q)
 | _,_=>False
def KZ(l:Addr)(H:Hp)(Q:VK):NI (.ref l) [] H Q=aJ (aF H l) (KA l H Q):=rfl
def sO{l:Addr}{H:Hp}{Q:VK}{ys:List V}{y:V}(h:H l=some (.lst (ys++[y])))(q:Q y (upd H l (.lst ys))):NI (.ref l) [] H Q:=by
 rw [KZ,aF,h];exact⟨y,ys,rfl,q⟩
def tZ{X:Cx}:MtM X "list.pop" NI:=λ pins s σ H x vs v us Q I rx rv h=>LB pins s σ H x vs v us Q I rx rv (by
 unfold NI at h;split at h
 ·rename_i l;obtain⟨xs,e,y,ys,rfl,q⟩:=aq h;exact⟨l,ys++[y],y,rfl,rfl,bO e,by simp,by rw [List.dropLast_concat];exact q⟩
 ·exact h.elim)
section
variable {prog:Program}{w:World}{A:Around}{E:Value->Shared->Prop}{s:Shared}
def uH{R:Result->Shared->Prop}{d:Addr}{kvs:List (Key × Value)}{ep:Nat}(hh:A.handled=none)(lo:(d == sysModules)=false)(hd:s.heap.DictAt (aY prog w) d kvs ep)(S:Addr)(res:Value)(c₀:Nat)(hS:s.heap.get? S=some { cls:=.type "list",data:=.seq #[] c₀ })
  (hn:kvs.length<=sizeLine)
  (hR:∀ h' tk aa c',(∀ b o,b ≠ S->s.heap.get? b=some o->h'.get? b=some o)->h'.get? S=some { cls:=.type "list",dict:=none,data:=.seq aa c',slots:=#[] } →
   ItemsOf (λ i v=>∃ k x,kvs[i]? = some (k,x)/\(aY prog w).is k v=true) aa kvs.length->R (.ok (.ret res)) { s with heap:=h',toks:=tk }) :
  wpAny (model prog w) A.in1 (Builtin.List.listExtendWith (.ref S) (.ref d) res)
   (λ fin s'=>match fin with | .done f=>R (.ok f) s' | .again c'=>c'.quiet=true/\codeAny (model prog w) A c' R s') (λ e s'=>R (.error e) s') s:=by
 have hT:s.TypeIs (.ref d) "dict":=hd.dictOf.typeIs
 have aS:S ≠ d:=λ e=>by
  obtain⟨o,ho,hc⟩:=hT;rw [←e,hS] at ho;cases ho;have:Value.type "list"=Value.type "dict":=hc;exact absurd this (by decide)
 have a5:S ≠ s.heap.objs.size:=RT (RF hS);have a6:d < s.heap.objs.size:=by obtain⟨o,ho,_⟩:=hT;exact RF ho
 have bS:d ≠ s.heap.objs.size:=RT a6
 have b1:S ∉ [s.heap.objs.size,d]:=λ hm=>by
  rcases RZ.mp hm with e|hm
  ·exact a5 e
  ·exact aS (RP.mp hm)
 have W:=(Walks.dictKeys (prog:=prog) (w:=w) (knd:=aY prog w) (A:=A.in1) hh s.heap.objs.size d bS kvs ep).toS;unfold Builtin.List.listExtendWith;refine wpAny_bind (wpAny_typeOf (T := "dict") hT ?_);have h1:Builtin.List.listSameRef (.ref S) (.ref d)=false:=by simp [Builtin.List.listSameRef,aS]
 have h2:(Value.type "dict" == Value.type "list")=false:=by decide
 have h3:(Value.type "dict" == Value.type "tuple")=false:=by decide
 simp only [h1,h2,h3,Bool.or_false,Bool.false_eq_true,if_false];refine wpAny_bind (wpAny_pyIter_dict lo hd ?_);have a7:(s.heap.push { cls:=.type "dict_keyiterator",data:=.fields #[.ref d,.int 0 0,.int kvs.length 0,.int ep 0] }).DictAt (aY prog w) d kvs ep:=hd.at' λ o e=>Heap.get?_push_of_some _ e;have a8:(s.heap.push { cls:=.type "dict_keyiterator",data:=.fields #[.ref d,.int 0 0,.int kvs.length 0,.int ep 0] }).IsKeyIter s.heap.objs.size d 0 kvs.length ep:=⟨_,Heap.get?_push_size _ rfl,rfl,rfl⟩;have a9:=Heap.get?_push_of_some { cls:=.type "dict_keyiterator",data:=.fields #[.ref d,.int 0 0,.int kvs.length 0,.int ep 0] } hS;have b2:∀ b o,s.heap.get? b=some o->(s.heap.push { cls:=.type "dict_keyiterator",data:=.fields #[.ref d,.int 0 0,.int kvs.length 0,.int ep 0] }).get? b=some o:=λ b o e=>Heap.get?_push_of_some _ e;generalize (s.heap.push { cls:=.type "dict_keyiterator",data:=.fields #[.ref d,.int 0 0,.int kvs.length 0,.int ep 0] })=hp at *;have a3:({ s with heap:=hp }:Shared).TypeIs (.ref d) "dict":=a7.dictOf.typeIs;refine wpAny_bind (wpAny_holding ?_);unfold Builtin.List.listLengthHint;refine wpAny_bind (wpAny_specialOf (T := "dict") a3 PySem.F.slot_dict_len.lookup ?_)
 wp_delta
 refine My (wpAny_isInstance (T := "dict") (b:=true) a3 (by rw [isSubtype_type];kernel_rfl) ?_)
 show wpAny _ _ (typeOf (Value.ref d) >>= _) _ _ _
 refine My (Uy (T := "dict") a3 ?_);refine RI ?_;rw [RX (by decide)];refine My (U1 ?_);refine My ?_
 show wpAny _ _ (updateSeq S (·.push .none) >>= λ _=>updateSeq S (·.pop)) _ _ _
 refine My (Ti a9 rfl ?_);have ba:=R8 (Obj.mapSeq (·.push Value.none)) a9 rfl;refine Ti (hz:=by seq_fits) ba rfl ?_;have b3:=R8 (Obj.mapSeq (·.pop)) ba rfl;have a4:∀ b o,b ≠ S->hp.get? b=some o->((hp.update S (Obj.mapSeq (·.push Value.none))).update S (Obj.mapSeq (·.pop))).get? b=some o:=λ b o hb e=>(Sd _ _ (RO hb)).trans ((Sd _ _ (RO hb)).trans e);refine RI ⟨plainId_quiet F.plain_extend_loop _,?_⟩;refine codeAny_extend_loopS W hn S b1 res kvs.length 0 _ #[] _ rfl (SF _) ⟨a8.at λ o e=>a4 _ o (RO a5) e,a7.at' λ o e=>a4 _ o (RO aS) e⟩ b3 (ItemsOf.nil _) λ s' aa c' hm b4 bp=>?_;rw [Moved.eq_with hm];refine hR s'.heap s'.toks aa c' (λ b o hb e=>hm.heap b o (λ hmem=>?_) (a4 b o hb (b2 b o e))) b4 bp
 rcases RZ.mp hmem with e'|hmem
 ·exact hb e'
 ·exact absurd (RF e) (by rw [RP.mp hmem];exact SE _)
def BY{R:Result->Shared->Prop}{d:Addr}{kvs:List (Key × Value)}{ep:Nat}(hh:A.handled=none)(lo:(d == sysModules)=false)(hd:s.heap.DictAt (aY prog w) d kvs ep)(S:Addr)(a4:S ≠ d)(hS:s.heap.get? S=some { cls:=.type "list",data:=.seq #[] })
  (hn:kvs.length<=sizeLine)
  (hR:∀ h' tk aa c',(∀ b o,b ≠ S->s.heap.get? b=some o->h'.get? b=some o)->h'.get? S=some { cls:=.type "list",dict:=none,data:=.seq aa c',slots:=#[] } →
   ItemsOf (λ i v=>∃ k x,kvs[i]? = some (k,x)/\(aY prog w).is k v=true) aa kvs.length->R (.ok (.ret .none)) { s with heap:=h',toks:=tk }) :
  wpAny (model prog w) A.in1 (Builtin.«list.__init__» ⟨[.ref S,.ref d],[]⟩)
   (λ fin s'=>match fin with | .done f=>R (.ok f) s' | .again c'=>c'.quiet=true/\codeAny (model prog w) A c' R s') (λ e s'=>R (.error e) s') s:=by
 show wpAny _ _ (do let old ←Builtin.List.listItems (.ref S);Builtin.List.listUpdate (.ref S) (λ _=>#[]);letGo old.toList.reverse;Builtin.List.listExtendWith (.ref S) (.ref d) .none) _ _ s
 refine wpAny_bind ?_;unfold Builtin.List.listItems;refine wpAny_bind (wpAny_seqItems hS rfl (wpAny_pure ?_))
 show wpAny _ _ (updateSeq S (λ _=>#[]) >>= λ _=>letGo (#[]:Array Value).toList.reverse >>= λ _=>Builtin.List.listExtendWith (.ref S) (.ref d) .none) _ _ s
 refine My (Ti hS rfl ?_);have a5:=R8 (Obj.mapSeq (λ _=>(#[]:Array Value))) hS rfl
 have aS:∀ b o,b ≠ S->s.heap.get? b=some o->(s.heap.update S (Obj.mapSeq (λ _=>(#[]:Array Value)))).get? b=some o:=
  λ b o hb e=>(Sd _ _ (RO hb)).trans e
 refine My (Vd ?_);refine uH hh lo (hd.at' λ o e=>aS _ o (RO a4) e) S .none _ a5 hn λ h' tk aa c' hk a6 a3=>?_;exact hR h' tk aa c' (λ b o hb e=>hk b o hb (aS b o hb e)) a6 a3
def mX{Q:Value->Shared->Prop}{d:Addr}{kvs:List (Key × Value)}{ep:Nat}(hh:A.handled=none)(lo:(d == sysModules)=false)(hd:s.heap.DictAt (aY prog w) d kvs ep)(hn:kvs.length<=sizeLine)
  (hQ:∀ h' tk aa c',(∀ b o,s.heap.get? b=some o->h'.get? b=some o) →
   h'.get? s.heap.objs.size=some { cls:=.type "list",dict:=none,data:=.seq aa c',slots:=#[] }->ItemsOf (λ i v=>∃ k x,kvs[i]? = some (k,x)/\(aY prog w).is k v=true) aa kvs.length->Q (.ref s.heap.objs.size) { s with heap:=h',toks:=tk }) :
  wpAny (model prog w) A (call (.type "list") [.ref d]) Q E s:=by
 refine callType_codes (Q₁:=λ obj s₁=>obj=.ref s.heap.objs.size/\s₁={ s with heap:=s.heap.push { cls:=.type "list",data:=.seq #[] } }) F.called_list (F.typeCall_list_1 _) F.entry_list_init
  (code_list_new _ ⟨rfl,rfl⟩) λ obj s₁ h₁=>?_
 obtain⟨rfl,rfl⟩:=h₁;have hS:(s.heap.push { cls:=.type "list",data:=.seq #[] }).get? s.heap.objs.size=some { cls:=.type "list",data:=.seq #[] }:=RK _ rfl;have a3:s.heap.objs.size ≠ d:=λ e=>by obtain⟨o,es,ho,_⟩:=hd;rw [←e] at ho;exact absurd (RF ho) (SE _)
 refine⟨⟨_,hS,rfl⟩,F.args_list_init_2 _ _,BY (A:=A.in1) hh lo (hd.at' λ o e=>RD _ e) _ a3 hS hn λ h' tk aa c' hk a4 aS=>?_⟩;exact⟨rfl,hQ h' tk aa c' (λ b o e=>hk b o (RT (RF e)) (RD _ e)) a4 aS⟩
end
def Fz:List V->Hp->VK->Prop:=λ vs H Q=>∃ p kvs,vs=[.ref p]/\H p=some (.dK kvs)/\kvs.length<=sizeLine/\jd (.lst (kvs.map λ z=>kV z.1)) H Q
def Am{p:Addr}{kvs:List (Key × V)}{H:Hp}{Q:VK}(e:H p=some (.dK kvs))(hl:kvs.length<=sizeLine)(q:jd (.lst (kvs.map λ z=>kV z.1)) H Q):Fz [.ref p] H Q:=⟨p,kvs,rfl,e,hl,q⟩
def uK{X:Cx}(hc:X.calm=true):bI X (.type "list") Fz:=by
 intro pins s σ H vs us Q I r h;obtain⟨p,kvs,rfl,ha,hl,q⟩:=h
 cases r with
 | cons r rr=>
  cases rr;cases r;have hO:bw X.prog X.w H s.heap p (.dK kvs):=I.hok p _ ha;obtain⟨z0,lo,xs,kx,dd⟩:=id hO;obtain⟨ep,a3⟩:=dd.dictAt;refine mX (I.ok.hd hc) lo a3 (by rw [←kx.length];exact hl) λ h' tk acc c kp aa hit=>?_;have fr:=I.hok.fresh (RJ _)
  have hv:aW (kvs.map λ z=>kV z.1) acc.toList:=by
   have hlen:kvs.length=xs.length:=Ul kx;refine gQ (by rw [RH,Tt,hit.1,hlen]) λ i x u hx hu=>?_;rw [RN] at hx;obtain⟨z,hz,rfl⟩:=RL.mp hx;obtain⟨q',a4,a5,_⟩:=t6 kx hz;obtain⟨k,y,hy,a6⟩:=hit.2 i u (by simpa using hu);rw [a4] at hy;cases hy;have aS:z.1=k:=a5;rw [aS];exact vt a6
  refine⟨.ref s.heap.objs.size,_,I.laid (t':=tk) (o:=.lst (kvs.map λ z=>kV z.1)) kp (RJ _) ⟨by rw [RH];exact hl,acc.toList,c,hv,aa⟩,rfl,q _ _ fr (Ext.new fr) ai⟩
def Ku:V->List V->Hp->VK->Prop:=λ x vs H Q=>∃ d kvs k v,x=.ref d/\vs=[kV k]/\H d=some (.dK kvs)/\eF kvs k=some v/\Q v (upd H d (.dK (pW kvs k)))
def Dn{d:Addr}{kvs:List (Key × V)}{k:Key}{v:V}{H:Hp}{Q:VK}(h:H d=some (.dK kvs))(hv:eF kvs k=some v)(q:Q v (upd H d (.dK (pW kvs k)))):Ku (.ref d) [kV k] H Q:=⟨d,kvs,k,v,rfl,rfl,h,hv,q⟩
def HC{X:Cx}:MtM X "dict.pop" Ku:=by
 intro pins s σ H x vs v us Q I rx rv h;obtain⟨d,kvs,k,y,rfl,rfl,hH,hv,q⟩:=h;cases rx
 cases rv with
 | cons r rr=>
  cases rr;exact PY I hH r hv (.inl rfl) λ w' s' I' r'=>⟨y,_,I',r',q⟩
end L2
namespace PH
def jg(ns:List Int):Prop:=ns.length<=8/\∀ n∈ns,1<=n/\n<=1000000000
def av:List Int->Int
 | []=>1
 | n::r=>n * av r
def fv:List Int->List Int
 | []=>[]
 | _::r=>av r::fv r
def dS:∀ ns ms:List Int,av (ns++ms)=av ns * av ms
 | [],ms=>by simp [av]
 | n::r,ms=>by simp only [List.cons_append,av,dS r ms,Int.mul_assoc]
def jy(ns:List Int)(i:Nat)(z:Int)(h:ns[i]? = some z):av (ns.take (i+1))=av (ns.take i) * z:=by
 rw [S1,h,dS];simp [av]
def qm:∀ ns:List Int,(∀ n∈ns,1<=n/\n<=1000000000)->1<=av ns/\av ns<=1000000000 ^ ns.length
 | [],_=>by simp [av]
 | n::r,h=>by
  obtain⟨h1,h2⟩:=qm r λ m hm=>h m (RU _ hm);obtain⟨g1,g2⟩:=h n R5;refine⟨?_,?_⟩
  ·show 1<=n * av r
   exact Int.le_trans (by omega) (TY g1 h1 (by decide) (by omega):1 * 1<=n * av r)
  ·show n * av r<=1000000000 ^ (r.length+1)
   rw [Int.pow_succ,Te];exact TY h2 g2 (by omega) (Int.le_trans (by omega) h2)
def Hc:∀ {k:Nat},k<=8->(1000000000:Int) ^ k<=1000000000 ^ 8
 | 0,_=>by decide
 | 1,_=>by decide
 | 2,_=>by decide
 | 3,_=>by decide
 | 4,_=>by decide
 | 5,_=>by decide
 | 6,_=>by decide
 | 7,_=>by decide
 | 8,_=>by decide
 | k+9,h=>by omega
def jg.prod{ns:List Int}(h:jg ns):1<=av ns/\av ns<=1000000000 ^ 8:=by
 obtain⟨a,b⟩:=qm ns h.2;exact⟨a,Int.le_trans b (Hc h.1)⟩
def jg.take{ns:List Int}(h:jg ns)(i:Nat):jg (ns.take i):=⟨by have:=h.1;simp;omega,λ n hn=>h.2 n (T8 hn)⟩
def jg.drop{ns:List Int}(h:jg ns)(i:Nat):jg (ns.drop i):=⟨by have:=h.1;simp;omega,λ n hn=>h.2 n (List.mem_of_mem_drop hn)⟩
def qA(ns:List Int)(i:Nat)(z:Int)(hi:i < ns.length)(h:ns[ns.length - 1 - i]? = some z):ns.drop (ns.length - (i+1))=z::ns.drop (ns.length - i):=by
 have e:ns.length - (i+1)=ns.length - 1 - i:=by omega
 have e2:ns.length - i=ns.length - 1 - i+1:=by omega
 rw [e,e2];obtain⟨hl,hz⟩:=RG.mp h;rw [←hz];exact List.drop_eq_getElem_cons hl
def wQ(ns:List Int)(i:Nat)(z:Int)(hi:i < ns.length)(h:ns[ns.length - 1 - i]? = some z):av (ns.drop (ns.length - (i+1)))=av (ns.drop (ns.length - i)) * z:=by
 rw [qA ns i z hi h];exact Te _ _
def ui(ns:List Int)(i:Nat)(z:Int)(hi:i < ns.length)(h:ns[ns.length - 1 - i]? = some z):(fv (ns.drop (ns.length - (i+1)))).reverse=(fv (ns.drop (ns.length - i))).reverse++[av (ns.drop (ns.length - i))]:=by
 rw [qA ns i z hi h];simp [fv]
def nk:∀ ns:List Int,(fv ns).length=ns.length
 | []=>rfl
 | _::r=>by simp [fv,nk r]
def InR:List Int->List Int->Prop
 | [],[]=>True
 | n::r,x::xs=>(0<=x/\x < n)/\InR r xs
 | _,_=>False
def InR.len:∀ {ns xs:List Int},InR ns xs->xs.length=ns.length
 | [],[],_=>rfl
 | [],_::_,h=>h.elim
 | _::_,[],h=>h.elim
 | _::r,_::xs,⟨_,h⟩=>by simp [InR.len h]
open PySem L2
def vi:V->Int
 | .int i=>i
 | _=>0
def fO(x:V)(b:Int):Bool:=match x with
 | .int i=>decide (0<=i) && decide (i < b)
 | _=>false
def sP(H:Hp)(x:V):Prop:=(isW H x).isSome=true/\∀ q xs,x=.ref q->H q=some (.tup xs)->∀ y∈xs,(isW H y).isSome=true
def p6(ns:List Int):Option HO->Bool
 | some (.tup xs)=>decide (xs.length=ns.length) && (xs.zip ns).all (λ p=>fO p.1 p.2)
 | _=>false
def p7(ns:List Int)(x:V)(H:Hp):Bool:=match x with
 | .ref q=>p6 ns (H q)
 | _=>false
def Jk{H H':Hp}(e:Ext H H'){x:V}{b:Bool}(h:isW H x=some b):isW H' x=some b:=by
 cases x with
 | ref p=>
  obtain⟨_,o,ho,_⟩:=oh h;rw [kT,ho] at h;rw [kT,e.at ho];exact h
 | _=>exact h
def rC{H:Hp}{q:Addr}{xs:List Int}(h:H q=some (.tup (xs.map V.int))):sP H (.ref q):=by
 refine⟨by rw [kT,h];rfl,λ q' ys e hy y hm=>?_⟩;cases e;rw [h] at hy;cases hy;obtain⟨i,_,rfl⟩:=RW.mp hm;rfl
def FK:∀ {ns ys:List Int},InR ns ys->((ys.map V.int).zip ns).all (λ p=>fO p.1 p.2)=true
 | [],[],_=>rfl
 | [],_::_,h=>h.elim
 | _::_,[],h=>h.elim
 | n::ns,y::ys,⟨h,k⟩=>by
  simp only [Sm,List.zip_cons_cons,List.all_cons,FK k,Bool.and_true]
  show (decide (0<=y) && decide (y < n))=true
  simp [h.1,h.2]
def Aw{ns ys:List Int}{q:Addr}{H:Hp}(h:H q=some (.tup (ys.map V.int)))(hy:InR ns ys):p7 ns (.ref q) H=true:=by
 show p6 ns (H q)=true
 rw [h]
 show (decide _ && _)=true
 rw [FK hy,Bool.and_true,decide_eq_true_eq,RH,hy.len]
def Qc:∀ (xs:List V) (ns:List Int),xs.zip (ns.map V.int)=(xs.zip ns).map λ p=>(p.1,V.int p.2)
 | [],_=>rfl
 | _::_,[]=>rfl
 | x::xs,n::ns=>by simp [Qc xs ns]
def ko{α:Type}(l:List α):(l.filter λ _=>true)=l:=List.filter_eq_self.mpr λ _ _=>rfl
def FF:∀ (ys ps:List Int),(((ys.map V.int).zip (ps.map V.int)).filter λ _=>true).map (λ z=>V.int (vi z.1 * vi z.2))=(List.zipWith (λ x p=>x * p) ys ps).map V.int
 | [],_=>rfl
 | _::_,[]=>rfl
 | y::ys,p::ps=>by
  have ih:=FF ys ps;rw [ko] at ih ⊢;simp only [Sm,List.zip_cons_cons,TR,ih];rfl
def bu(a:Int × Int):Int × Int:=(a.1,if a.1 > 1 then a.2 else 0)
def axL(axs:List (Int × Int)):List (List Int):=axs.map λ a=>[a.1,a.2]
def aP(axs:List (Int × Int)):Int:=(axs.map λ a=>min 0 ((a.1 - 1) * a.2)).sum
def aQ(axs:List (Int × Int)):Int:=(axs.map λ a=>max 0 ((a.1 - 1) * a.2)).sum
def fK(axs:List (Int × Int)):Prop:=axs.length<=8/\∀ a∈axs,1<=a.1/\a.1<=1000000000
structure nc(room first:Int)(axs:List (Int × Int)):Prop where
 ax:fK axs
 r1:1<=room
 r2:room<=1000000000000000000
 lo:0<=first+aP (axs.map bu)
 hi:first+aQ (axs.map bu) < room
def fK.kept{axs:List (Int × Int)}(h:fK axs):fK (axs.map bu):=⟨by rw [RH];exact h.1,λ a ha=>by
 obtain⟨b,hb,rfl⟩:=RW.mp ha;exact h.2 b hb⟩
def fK.sizes{axs:List (Int × Int)}(h:fK axs):jg (axs.map λ a=>a.1):=⟨by rw [RH];exact h.1,λ n hn=>by
 obtain⟨b,hb,rfl⟩:=RW.mp hn;exact h.2 b hb⟩
def eT(room first:Int)(l:Addr):List (Str × V):=bT "axes" (.ref l) (bT "first" (.int first) (bT "room" (.int room) []))
def O2:¬ (("room":Str) = "axes"):=by decide +kernel
def O1:¬ (("room":Str) = "first"):=by decide +kernel
def O6:¬ (("first":Str) = "axes"):=by decide +kernel
def gq(room first:Int)(l:Addr):(eT room first l).lookup ("room":Str)=some (.int room):=by
 unfold eT;rw [aj,if_neg O2,aj,if_neg O1,aj,if_pos rfl]
def eW(room first:Int)(l:Addr):(eT room first l).lookup ("first":Str)=some (.int first):=by
 unfold eT;rw [aj,if_neg O6,aj,if_pos rfl]
def eN(room first:Int)(l:Addr):(eT room first l).lookup ("axes":Str)=some (.ref l):=by
 unfold eT;rw [aj,if_pos rfl]
def oo(room first:Int)(l:Addr){m:Str}(h1:¬ m = "axes")(h2:¬ m = "first")(h3:¬ m = "room"):(eT room first l).lookup m=none:=by
 unfold eT;rw [aj,if_neg h1,aj,if_neg h2,aj,if_neg h3];rfl
def lN:∀ ns:List Int,(∀ n∈ns,(1:Int)<=n)->1<=av ns
 | [],_=>by simp [av]
 | n::ns,h=>by
  have h1:=h n R5;have h2:=lN ns λ m hm=>h m (RU _ hm)
  show 1<=n * av ns
  have:=TY h1 h2 (by decide) (by omega);omega
def uC(l:List (Int × Int))(a:Int × Int):aP (l++[a])=aP l+min 0 (a.2 * (a.1 - 1)):=by
 unfold aP;rw [map_append,List.sum_append,Int.mul_comm a.2];simp
def uF(l:List (Int × Int))(a:Int × Int):aQ (l++[a])=aQ l+max 0 (a.2 * (a.1 - 1)):=by
 unfold aQ;rw [map_append,List.sum_append,Int.mul_comm a.2];simp
def dg(a:Int × Int)(l:List (Int × Int)):aP (a::l)=min 0 ((a.1 - 1) * a.2)+aP l:=by unfold aP;simp
def dh(a:Int × Int)(l:List (Int × Int)):aQ (a::l)=max 0 ((a.1 - 1) * a.2)+aQ l:=by unfold aQ;simp
def gL(xs ps:List Int):Int:=(List.zipWith (λ x p=>x * p) xs ps).sum
def ux{x p s:Int}(h0:0<=x)(h1:x<=s - 1):min 0 ((s - 1) * p)<=x * p/\x * p<=max 0 ((s - 1) * p):=by
 rcases Int.le_total 0 p with hp|hp
 ·have a:=Int.mul_nonneg h0 hp;have b:=Vc h1 hp;omega
 ·have a:=Int.mul_nonneg h0 (show 0<=-p by omega);have b:=Vc h1 (show 0<=-p by omega);rw [Int.mul_neg] at a b;rw [Int.mul_neg] at b;omega
def mh:∀ (axs:List (Int × Int)) (xs:List Int),InR (axs.map λ a=>a.1) xs->aP axs<=gL xs (axs.map λ a=>a.2)/\gL xs (axs.map λ a=>a.2)<=aQ axs
 | [],[],_=>by decide
 | [],_::_,h=>h.elim
 | _::_,[],h=>h.elim
 | a::r,x::xs,⟨⟨h0,h1⟩,h⟩=>by
  obtain⟨b1,b2⟩:=mh r xs h
  have e:gL (x::xs) ((a::r).map λ a=>a.2)=x * a.2+gL xs (r.map λ a=>a.2):=by
   unfold gL;rw [map_cons,List.zipWith_cons_cons,List.sum_cons]
  rw [dg,dh,e];have aa:x < a.1:=h1;obtain⟨c1,c2⟩:=ux (p:=a.2) h0 (show x<=a.1 - 1 by omega);omega
def InR.bound:∀ {ns ys:List Int},jg ns->InR ns ys->∀ a∈ys,0<=a/\a < 1000000000:=λ {ns ys} hs hy=>by
 have:∀ {ns ys:List Int},(∀ n∈ns,1<=n/\n<=1000000000)->InR ns ys->∀ a∈ys,0<=a/\a < 1000000000:=by
  intro ns
  induction ns with
  | nil=>intro ys _ h a ha;cases ys with
   | nil=>cases ha
   | cons _ _=>exact h.elim
  | cons n r ih=>intro ys hs h a ha;cases ys with
   | nil=>exact h.elim
   | cons y ys=>
    have hn:=hs n R5;have hy:0<=y/\y < n:=h.1
    rcases RZ.mp ha with rfl|ha
    ·omega
    ·exact ih (λ m hm=>hs m (RU _ hm)) h.2 a ha
 exact this hs.2 hy
def iY(ns:List Int)(h:∀ n∈ns,(1:Int)<=n)(i:Nat):av (ns.take i)<=av ns:=by
 have e:av ns=av (ns.take i) * av (ns.drop i):=by rw [←dS,List.take_append_drop]
 have a:=lN (ns.take i) λ n hn=>h n (T8 hn);have b:=lN (ns.drop i) λ n hn=>h n (List.mem_of_mem_drop hn);rw [e];have:=Int.mul_le_mul_of_nonneg_left b (show 0<=av (ns.take i) by omega);omega
def cp(cs:List Int)(a:Int × Int):List Int:=cs.flatMap λ c=>(List.range a.1.toNat).map λ (n:Nat)=>c+(n:Int) * a.2
def af(first:Int)(axs:List (Int × Int)):List Int:=axs.foldl cp [first]
def lE(cs:List Int)(a:Int × Int):(cp cs a).length=cs.length * a.1.toNat:=by
 unfold cp
 induction cs with
 | nil=>simp
 | cons c r ih=>rw [List.flatMap_cons,R3,ih,RH,Sr,S4,Nat.add_mul];omega
def mj(first:Int)(axs:List (Int × Int))(a:Int × Int):af first (axs++[a])=cp (af first axs) a:=by
 unfold af;rw [List.foldl_append];rfl
def qy:∀ (axs:List (Int × Int)) (cs:List Int),(∀ a∈axs,(1:Int)<=a.1)->((axs.foldl cp cs).length:Int)=cs.length * av (axs.map λ a=>a.1)
 | [],cs,_=>by simp [av]
 | a::r,cs,h=>by
  have ha:=h a R5;rw [Uk,qy r (cp cs a) λ b hb=>h b (RU _ hb),lE,Vp,Ue (by omega),Int.mul_assoc];rfl
def aX(first:Int)(axs:List (Int × Int))(h:∀ a∈axs,(1:Int)<=a.1):((af first axs).length:Int)=av (axs.map λ a=>a.1):=by
 unfold af;rw [qy axs [first] h];simp
def qx:∀ (axs:List (Int × Int)) (cs:List Int) (M:Int),M∈axs.foldl cp cs ↔ ∃ c∈cs,∃ xs,InR (axs.map λ a=>a.1) xs/\M=c+gL xs (axs.map λ a=>a.2)
 | [],cs,M=>by
  refine⟨λ h=>⟨M,h,[],trivial,by simp [gL]⟩,λ ⟨c,hc,xs,hx,e⟩=>?_⟩
  match xs,hx with
  | [],_=>rw [e];simpa [gL] using hc
 | a::r,cs,M=>by
  rw [Uk,qx r (cp cs a) M]
  have de:∀ (x:Int) (xs:List Int),gL (x::xs) ((a::r).map λ a=>a.2)=x * a.2+gL xs (r.map λ a=>a.2):=λ x xs=>by
   unfold gL;rw [map_cons,List.zipWith_cons_cons,List.sum_cons]
  constructor
  ·rintro ⟨c,hc,xs,hx,e⟩;unfold cp at hc;obtain⟨c0,aa,aS⟩:=List.mem_flatMap.mp hc;obtain⟨n,hn,rfl⟩:=List.mem_map.mp aS;have a3:=List.mem_range.mp hn;refine⟨c0,aa,(n:Int)::xs,⟨⟨by omega,?_⟩,hx⟩,by rw [de,e];omega⟩
   show (n:Int) < a.1
   omega
  ·rintro ⟨c,hc,xs,hx,e⟩
   match xs,hx with
   | x::xs,⟨⟨h0,h1⟩,hx⟩=>
    have a4:x < a.1:=h1;refine⟨c+x * a.2,?_,xs,hx,by rw [e,de];omega⟩;unfold cp;refine List.mem_flatMap.mpr ⟨c,hc,List.mem_map.mpr ⟨x.toNat,List.mem_range.mpr (by omega),?_⟩⟩;rw [Int.toNat_of_nonneg h0]
def xM(first:Int)(axs:List (Int × Int))(M:Int):M∈af first axs ↔ ∃ xs,InR (axs.map λ a=>a.1) xs/\M=first+gL xs (axs.map λ a=>a.2):=by
 unfold af;rw [qx];refine⟨λ ⟨c,hc,xs,hx,e⟩=>⟨xs,hx,by rw [e,List.mem_singleton.mp hc]⟩,λ ⟨xs,hx,e⟩=>⟨first,List.mem_singleton.mpr rfl,xs,hx,e⟩⟩
def top(i:Nat):Stmt:=PySem.Challenge.pw_pacehall_k87_whole_halls_back.main.body.getD i (.Pass ⟨0,0,0,0⟩)
abbrev ed:Stmt:=ao (top 10) 0
abbrev eQ:Stmt:=ao (top 11) 0
abbrev fE:Stmt:=ao (top 12) 0
abbrev jr:Stmt:=top 14
local macro_rules | `(nofun) => `(by decide +kernel)
local macro_rules | `(∅) => `(⟨rfl,rfl,rfl,nofun,rfl,nofun,nofun⟩)
def xV:ag ["thing"] ["thing"] (ae jr):=∅
abbrev js:Stmt:=top 17
def gA:ag ["sizes", "count", "size"] ["sizes"] (ae js):=∅
abbrev jq:Stmt:=top 18
def eP:ag ["sizes", "paces", "pace", "size"] ["sizes"] (ae jq):=∅
abbrev cy:Stmt:=top 19
def jJ:ag ["thing", "bound"] ["thing", "bound"] (ae cy):=∅
abbrev gr:Stmt:=top 20
def xW:ag ["sizes", "thing"] ["sizes", "thing"] (ae gr):=∅
abbrev fh:Stmt:=top 21
def pI:ag ["count"] ["count"] (ae fh):=∅
abbrev gT:Stmt:=top 26
def uO:ag ["thing", "low", "high"] ["thing", "low", "high"] (ae gT):=∅
abbrev lI:Stmt:=top 27
def Cw:ag ["thing"] ["thing"] (ae lI):=∅
abbrev lJ:Stmt:=top 28
def Cz:ag ["thing"] ["thing"] (ae lJ):=∅
abbrev gu:Stmt:=top 29
def xX:ag ["thing"] ["thing"] (ae gu):=∅
abbrev gS:Stmt:=top 30
def uN:ag ["axis"] ["axis"] (ae gS):=∅
abbrev cj:Stmt:=ao (top 31) 0
def mz:ag ["self", "room", "first", "axes"] ["self", "room", "first", "axes"] (ae cj):=∅
abbrev dO:Stmt:=ao (top 31) 1
def sk:ag ["self"] ["self"] (ae dO):=∅
abbrev dP:Stmt:=ao (top 31) 2
def sr:ag ["self"] ["self"] (ae dP):=∅
abbrev fU:Stmt:=ao (top 31) 3
def sv:ag ["self"] ["self"] (ae fU):=∅
abbrev eZ:Stmt:=ao (top 31) 4
def uR:ag ["self", "place"] ["self", "place"] (ae eZ):=∅
abbrev fV:Stmt:=ao (top 31) 6
def cG:ag ["self", "found", "size", "pace"] ["self"] (ae fV):=∅
abbrev dQ:Stmt:=ao (top 31) 7
def su:ag ["self"] ["self"] (ae dQ):=∅
abbrev cg:Stmt:=ao (top 31) 8
def my:ag ["self"] ["self"] (ae cg):=∅
abbrev iM:Stmt:=top 32
def lU:ag ["cells", "size", "pace", "found", "cell"] ["cells", "size", "pace"] (ae iM):=∅
abbrev ji:Stmt:=top 34
def zP:ag ["sizes", "room", "cells"] ["sizes", "room"] (ae ji):=∅
abbrev er:Stmt:=top 35
def mY:ag ["one", "other"] ["one", "other"] (ae er):=∅
abbrev eu:Stmt:=top 37
def mZ:ag ["view", "many"] ["view", "many"] (ae eu):=∅
abbrev cP:Stmt:=ao (top 38) 0
def kF:ag ["self", "values"] ["self", "values"] (ae cP):=∅
abbrev cm:Stmt:=ao (top 38) 1
def jb:ag ["self"] ["self"] (ae cm):=∅
abbrev b6:Stmt:=ao (top 38) 2
def iq:ag ["self", "view"] ["self", "view"] (ae b6):=∅
abbrev dR:Stmt:=ao (top 38) 3
def sy:ag ["self", "view"] ["self", "view"] (ae dR):=∅
abbrev g7:Stmt:=ao (top 38) 4
def ip:ag ["self", "view", "values", "cell", "value"] ["self", "view", "values"] (ae g7):=∅
abbrev fX:Stmt:=ao (top 38) 5
def ke:ag ["self", "view", "value", "cell"] ["self", "view", "value"] (ae fX):=∅
abbrev eC:Stmt:=ao (top 38) 6
def m3:ag ["self", "to", "source"] ["self", "to", "source"] (ae eC):=∅
abbrev iN:Stmt:=top 42
def Cy:ag ["thing"] ["thing"] (ae iN):=∅
abbrev dB:Stmt:=ao (top 43) 0
def mF:ag ["self", "values"] ["self", "values"] (ae dB):=∅
abbrev cz:Stmt:=ao (top 43) 1
def jK:ag ["self", "name"] ["self", "name"] (ae cz):=∅
abbrev hV:Stmt:=ao (top 43) 2
def uW:ag ["self", "name", "view"] ["self", "name", "view"] (ae hV):=∅
abbrev hJ:Stmt:=ao (top 43) 3
def uU:ag ["self", "name", "of", "move"] ["self", "name", "of", "move"] (ae hJ):=∅
abbrev hU:Stmt:=ao (top 43) 4
def uV:ag ["self", "name"] ["self", "name"] (ae hU):=∅
abbrev g9:Stmt:=ao (top 43) 5
def uS:ag ["self", "name"] ["self", "name"] (ae g9):=∅
abbrev hG:Stmt:=ao (top 43) 6
def uT:ag ["self", "name"] ["self", "name"] (ae hG):=∅
abbrev fZ:Stmt:=ao (top 43) 7
def sC:ag ["self"] ["self"] (ae fZ):=∅
abbrev cA:Stmt:=ao (top 43) 8
def jL:ag ["self"] ["self"] (ae cA):=∅
abbrev bo:Stmt:=ao (top 43) 9
def bq:ag ["self", "before", "changed", "cell", "value"] ["self", "before"] (ae bo):=∅
abbrev lL:Stmt:=ao (top 43) 10
def qI:ag ["self", "statement", "before"] ["self", "statement"] (ae lL):=∅
abbrev hZ:Stmt:=ao (top 43) 11
def mm:ag ["self", "before"] ["self"] (ae hZ):=∅
abbrev dq:Stmt:=top 45
def mx:ag ["fits"] ["fits"] (ae dq):=∅
abbrev fi:Stmt:=top 46
def pJ:ag ["sizes", "axis"] ["sizes", "axis"] (ae fi):=∅
abbrev jo:Stmt:=top 47
def xU:ag ["row", "axis", "told"] ["row", "axis", "told"] (ae jo):=∅
abbrev bL:Stmt:=top 48
def jI:ag ["many", "axis"] ["many", "axis"] (ae bL):=∅
abbrev iX:Stmt:=ao (top 49) 0
abbrev jW:Stmt:=ao (top 49) 1
abbrev ck:Stmt:=ao (top 49) 2
def gh:ag ["self", "sizes", "found"] ["self", "sizes"] (ae ck):=∅
abbrev lK:Stmt:=ao (top 49) 4
def bR:ag ["self", "view", "sizes", "found", "many", "first", "axes", "axis", "size", "pace"] ["self", "view"] (ae lK):=∅
abbrev lZ:Stmt:=ao (top 49) 5
abbrev dw:Stmt:=ao (top 50) 0
def mE:ag ["self", "axis", "at"] ["self", "axis", "at"] (ae dw):=∅
abbrev fj:Stmt:=ao (top 50) 1
def pM:ag ["self", "sizes"] ["self", "sizes"] (ae fj):=∅
abbrev fk:Stmt:=ao (top 50) 2
def pN:ag ["self", "sizes"] ["self", "sizes"] (ae fk):=∅
abbrev fY:Stmt:=ao (top 50) 3
def sA:ag ["self", "sizes", "place"] ["self", "sizes", "place"] (ae fY):=∅
abbrev lY:Stmt:=ao (top 50) 4
abbrev dr:Stmt:=ao (top 51) 0
def mB:ag ["self", "order"] ["self", "order"] (ae dr):=∅
abbrev cX:Stmt:=ao (top 51) 1
def pL:ag ["self", "sizes"] ["self", "sizes"] (ae cX):=∅
abbrev fW:Stmt:=ao (top 51) 2
def dZ:ag ["self", "sizes", "place", "found", "number", "axis"] ["self", "sizes", "place"] (ae fW):=∅
abbrev lX:Stmt:=ao (top 51) 3
abbrev fR:Stmt:=top 53
def sj:ag ["one", "other"] ["one", "other"] (ae fR):=∅
abbrev du:Stmt:=ao (top 54) 2
def mD:ag ["self", "store"] ["self", "store"] (ae du):=∅
abbrev dC:Stmt:=ao (top 55) 0
def mG:ag ["self", "to", "value"] ["self", "to", "value"] (ae dC):=∅
abbrev jw:Stmt:=ao (top 55) 2
def xY:ag ["self", "store"] ["self", "store"] (ae jw):=∅
abbrev dD:Stmt:=ao (top 56) 0
def mH:ag ["self", "to", "source"] ["self", "to", "source"] (ae dD):=∅
abbrev jx:Stmt:=ao (top 56) 3
def xZ:ag ["self", "store"] ["self", "store"] (ae jx):=∅
abbrev dt:Stmt:=ao (top 57) 0
def mC:ag ["self", "one", "other"] ["self", "one", "other"] (ae dt):=∅
abbrev jv:Stmt:=ao (top 57) 3
def jE:ag ["self", "store", "ours", "theirs"] ["self", "store"] (ae jv):=∅
abbrev cQ:Stmt:=ao (top 58) 0
def kG:ag ["self", "to", "source"] ["self", "to", "source"] (ae cQ):=∅
abbrev fb:Stmt:=ao (top 58) 3
def ml:ag ["self", "store", "more"] ["self", "store"] (ae fb):=∅
abbrev gY:Stmt:=top 60
def fg:ag ["_law_script", "_law_k", "_law_many", "_law_number"] ["_law_script", "_law_k", "_law_many"] (ae gY):=∅
abbrev gX:Stmt:=top 61
def bj:ag ["_law_cell", "_law_room", "_law_sizes", "_law_axes", "_law_low", "_law_high", "_law_size", "_law_pace"] ["_law_cell", "_law_room", "_law_sizes"] (ae gX):=∅
abbrev fS:Stmt:=top 62
def dX:ag ["_law_cell", "_law_room", "_law_sizes", "_law_k"] ["_law_cell", "_law_room"] (ae fS):=∅
abbrev fT:Stmt:=top 63
def bt:ag ["_law_parts_here", "_law_found", "_law_size", "_law_pace", "_law_longer", "_law_cell", "_law_number"] ["_law_parts_here"] (ae fT):=∅
abbrev gU:Stmt:=top 64
def uP:ag ["_law_parts_here"] ["_law_parts_here"] (ae gU):=∅
abbrev dM:Stmt:=top 65
def cF:ag ["_law_cell", "_law_room", "_law_word", "_law_one_here", "_law_other", "_law_value"] ["_law_cell", "_law_room"] (ae dM):=∅
abbrev cO:Stmt:=top 66
def bA:ag ["_law_deed", "_law_word", "_law_one_here", "_law_other", "_law_value"] ["_law_deed"] (ae cO):=∅
abbrev eX:Stmt:=top 67
def uQ:ag ["_law_values", "_law_parts_here"] ["_law_values", "_law_parts_here"] (ae eX):=∅
abbrev jt:Stmt:=top 68
def jC:ag ["_law_values", "_law_parts_here", "_law_some", "_law_cell", "_law_value"] ["_law_values", "_law_parts_here", "_law_some"] (ae jt):=∅
abbrev df:Stmt:=top 69
def bH:ag ["_law_values", "_law_deed", "_law_word", "_law_one_here", "_law_other", "_law_value", "_law_found", "_law_here", "_law_there"] ["_law_values", "_law_deed"] (ae df):=∅
abbrev cW:Stmt:=top 70
def pK:ag ["_law_names", "_law_before", "_law_behind"] ["_law_names", "_law_before", "_law_behind"] (ae cW):=∅
abbrev gZ:Stmt:=top 71
def il:ag ["_law_hall", "_law_found"] ["_law_hall"] (ae gZ):=∅
abbrev dc:Stmt:=top 72
def ik:ag ["_law_names", "_law_cell", "_law_had", "_law_some"] ["_law_names", "_law_cell"] (ae dc):=∅
abbrev eY:Stmt:=top 73
def bZ:ag ["_law_hall", "_law_names", "_law_cell", "_law_name", "_law_of", "_law_parts_here", "_law_room", "_law_first", "_law_axes"] ["_law_hall", "_law_names", "_law_cell"] (ae eY):=∅
abbrev dJ:Stmt:=top 74
def dY:ag ["_law_hall", "_law_names", "_law_cell", "_law_room", "_law_name", "_law_row", "_law_parts_here"] ["_law_hall", "_law_names", "_law_cell", "_law_room"] (ae dJ):=∅
abbrev gW:Stmt:=top 75
def dn:ag ["_law_hall", "_law_k", "_law_at"] [] (ae gW):=∅
abbrev cV:Stmt:=top 76
def ft:ag ["_law_hall", "_law_names", "_law_values", "_law_name", "_law_parts_here"] ["_law_hall", "_law_names", "_law_values"] (ae cV):=∅
abbrev ju:Stmt:=top 77
def jD:ag ["_law_hall", "_law_names", "_law_rows", "_law_cell", "_law_room", "_law_before", "_law_deed"] ["_law_hall", "_law_names", "_law_rows", "_law_cell", "_law_room"] (ae ju):=∅
abbrev mQ:Stmt:=top 78
def pX:ag ["_law_script", "_law_room", "_law_values", "_law_hall", "_law_names", "_law_rows", "_law_k", "_law_before"] ["_law_script"] (ae mQ):=∅
set_option genInjectivity false in
structure Adr where
 a_Jf:Addr
 a_ZM:Addr
 a_ZN:Addr
 a_ZQ:Addr
 a_ZR:Addr
 a_ZO:Addr
 a_ZS:Addr
 a_ZT:Addr
 a_ZP:Addr
 a_ZU:Addr
 a_ZW:Addr
 a_ZZ:Addr
 a_ZX:Addr
 a_Z0:Addr
 a_Z1:Addr
 a_Z2:Addr
 a_Z3:Addr
 a_Jg:Addr
 a_Z4:Addr
 a_Z5:Addr
 a_Z6:Addr
 a_ZY:Addr
 a_rV:Addr
 d_rV:FuncData
 a_rX:Addr
 d_rX:FuncData
 a_xp:Addr
 d_xp:FuncData
 a_Ni:Addr
 d_Ni:FuncData
 a_Zu:Addr
 d_Zu:FuncData
 a_Zv:Addr
 d_Zv:FuncData
 a_rY:Addr
 d_rY:FuncData
 a_Zw:Addr
 d_Zw:FuncData
 a_Bv:Addr
 d_Bv:FuncData
 a_Ey:Addr
 d_Ey:FuncData
 a_ZF:Addr
 d_ZF:FuncData
 a_ZG:Addr
 d_ZG:FuncData
 a_Zx:Addr
 d_Zx:FuncData
 a_Ez:Addr
 d_Ez:FuncData
 a_xu:Addr
 d_xu:FuncData
 a_BD:Addr
 d_BD:FuncData
 a_BE:Addr
 d_BE:FuncData
 a_BF:Addr
 d_BF:FuncData
 a_EA:Addr
 d_EA:FuncData
 a_BG:Addr
 d_BG:FuncData
 a_BH:Addr
 d_BH:FuncData
 a_xw:Addr
 d_xw:FuncData
 a_ZH:Addr
 d_ZH:FuncData
 a_ZV:Addr
 d_ZV:FuncData
 a_Bs:Addr
 d_Bs:FuncData
 a_Bt:Addr
 d_Bt:FuncData
 a_xq:Addr
 d_xq:FuncData
 a_rW:Addr
 d_rW:FuncData
 a_pE:Addr
 d_pE:FuncData
 a_BI:Addr
 d_BI:FuncData
 a_EB:Addr
 d_EB:FuncData
 a_BJ:Addr
 d_BJ:FuncData
 a_Bu:Addr
 d_Bu:FuncData
 a_ZI:Addr
 d_ZI:FuncData
 a_xy:Addr
 d_xy:FuncData
 a_t4:Addr
 d_t4:FuncData
 a_EC:Addr
 d_EC:FuncData
 a_ED:Addr
 d_ED:FuncData
 a_EE:Addr
 d_EE:FuncData
 a_EF:Addr
 d_EF:FuncData
 a_EG:Addr
 d_EG:FuncData
 a_BK:Addr
 d_BK:FuncData
 a_uD:Addr
 d_uD:FuncData
 a_ly:Addr
 d_ly:FuncData
 a_ZJ:Addr
 d_ZJ:FuncData
 a_EH:Addr
 d_EH:FuncData
 a_xA:Addr
 d_xA:FuncData
 a_Bw:Addr
 d_Bw:FuncData
 a_Zy:Addr
 d_Zy:FuncData
 a_uE:Addr
 d_uE:FuncData
 a_Bx:Addr
 d_Bx:FuncData
 a_BL:Addr
 d_BL:FuncData
 a_xB:Addr
 d_xB:FuncData
 a_ZK:Addr
 d_ZK:FuncData
 a_EI:Addr
 d_EI:FuncData
 a_xC:Addr
 d_xC:FuncData
 a_By:Addr
 d_By:FuncData
 a_Bz:Addr
 d_Bz:FuncData
 a_BM:Addr
 d_BM:FuncData
 a_EJ:Addr
 d_EJ:FuncData
 a_xD:Addr
 d_xD:FuncData
 a_BA:Addr
 d_BA:FuncData
 a_BN:Addr
 d_BN:FuncData
 a_EK:Addr
 d_EK:FuncData
 a_BO:Addr
 d_BO:FuncData
 a_zC:Addr
 d_zC:FuncData
 a_Bp:Addr
 d_Bp:FuncData
 a_Zz:Addr
 d_Zz:FuncData
 a_Bq:Addr
 d_Bq:FuncData
 a_ZA:Addr
 d_ZA:FuncData
 a_Br:Addr
 d_Br:FuncData
 a_ZC:Addr
 d_ZC:FuncData
 a_xr:Addr
 d_xr:FuncData
 a_EL:Addr
 d_EL:FuncData
 a_EM:Addr
 d_EM:FuncData
 a_EN:Addr
 d_EN:FuncData
 a_BP:Addr
 d_BP:FuncData
 a_BQ:Addr
 d_BQ:FuncData
 a_IX:Addr
 d_IX:FuncData
 a_BR:Addr
 d_BR:FuncData
 a_xt:Addr
 d_xt:FuncData
 a_IZ:Addr
 d_IZ:FuncData
 a_ZD:Addr
 d_ZD:FuncData
 a_Ja:Addr
 d_Ja:FuncData
 a_BB:Addr
 d_BB:FuncData
 a_Jb:Addr
 d_Jb:FuncData
 a_Jc:Addr
 d_Jc:FuncData
 a_Jd:Addr
 d_Jd:FuncData
 a_Ex:Addr
 d_Ex:FuncData
 a_Je:Addr
 d_Je:FuncData
 a_BC:Addr
 d_BC:FuncData
 a_ZE:Addr
 d_ZE:FuncData
 a_law:Addr
 d_law:FuncData
structure Tx(K:W.Frag)(mg:Str->Option Value)(t:Adr):Prop where
 m_Jf:mg "PaceError"=some (.ref t.a_Jf)
 m_ZM:mg "NoPlace"=some (.ref t.a_ZM)
 m_ZN:mg "NoCells"=some (.ref t.a_ZN)
 m_ZQ:mg "NoView"=some (.ref t.a_ZQ)
 m_ZR:mg "NoMove"=some (.ref t.a_ZR)
 m_ZO:mg "NoCount"=some (.ref t.a_ZO)
 m_ZS:mg "NoPair"=some (.ref t.a_ZS)
 m_ZT:mg "NoDeed"=some (.ref t.a_ZT)
 m_ZP:mg "TooMany"=some (.ref t.a_ZP)
 m_ZU:mg "NoName"=some (.ref t.a_ZU)
 m_ZW:mg "Known"=some (.ref t.a_ZW)
 m_ZZ:mg "View"=some (.ref t.a_ZZ)
 m_ZX:mg "Store"=some (.ref t.a_ZX)
 m_Z0:mg "Hall"=some (.ref t.a_Z0)
 m_Z1:mg "Move"=some (.ref t.a_Z1)
 m_Z2:mg "Pick"=some (.ref t.a_Z2)
 m_Z3:mg "Turn"=some (.ref t.a_Z3)
 m_Jg:mg "Statement"=some (.ref t.a_Jg)
 m_Z4:mg "Fill"=some (.ref t.a_Z4)
 m_Z5:mg "Copy"=some (.ref t.a_Z5)
 m_Z6:mg "Swap"=some (.ref t.a_Z6)
 m_ZY:mg "Raise"=some (.ref t.a_ZY)
 o_NoDeed:W.excIn K t.a_ZT [.type "ValueError",.type "Exception",.type "BaseException",.type "object"] "ValueError.__new__"=true
 x_NoDeed_NoDeed:W.exmOne K (.ref t.a_ZT) (.ref t.a_ZT)=some true
 m_MOST_TOLD:∃ tk,mg "MOST_TOLD"=some (.int 4096 tk)
 m_MOST_ROOM:∃ tk,mg "MOST_ROOM"=some (.int 1000000000000000000 tk)
 m_MOST_SIZE:∃ tk,mg "MOST_SIZE"=some (.int 1000000000 tk)
 m_MOST_AXES:∃ tk,mg "MOST_AXES"=some (.int 8 tk)
 m_LETTERS:∃ tk,mg "LETTERS"=some (.str "abcdefghijklmnopqrstuvwxyz" tk)
 m_MOST_LETTERS:∃ tk,mg "MOST_LETTERS"=some (.int 8 tk)
 oi_TooMany:OL K t.a_ZP t.a_rV
 tk_TooMany_number:W.takerIn K t.a_ZP "number"=some none
 na_TooMany_number:bg K t.a_ZP "number"
 bi_PaceError:P9 K t.a_Jf
 oi_NoName:OL K t.a_ZU t.a_rX
 tk_NoName_name:W.takerIn K t.a_ZU "name"=some none
 na_NoName_name:bg K t.a_ZU "name"
 oi_Known:OL K t.a_ZW t.a_xp
 tk_Known_name:W.takerIn K t.a_ZW "name"=some none
 na_Known_name:bg K t.a_ZW "name"
 cl_View:Cls K t.a_ZZ
 na_View_axes:bg K t.a_ZZ "axes"
 na_View_first:bg K t.a_ZZ "first"
 na_View_room:bg K t.a_ZZ "room"
 mk_View:Mk K t.a_ZZ t.a_xu
 mt_View_sizes:cR K t.a_ZZ "sizes" t.a_BD
 mt_View_paces:cR K t.a_ZZ "paces" t.a_BE
 mt_View_count:cR K t.a_ZZ "count" t.a_BF
 mt_View_cell:cR K t.a_ZZ "cell" t.a_EA
 mt_View_cells:cR K t.a_ZZ "cells" t.a_BG
 mt_View_least:cR K t.a_ZZ "least" t.a_BH
 mt_View_greatest:cR K t.a_ZZ "greatest" t.a_xw
 cl_Store:Cls K t.a_ZX
 na_Store_floor:bg K t.a_ZX "floor"
 mk_Store:Mk K t.a_ZX t.a_xq
 mt_Store_all_values:cR K t.a_ZX "all_values" t.a_rW
 mt_Store_refuse_room:cR K t.a_ZX "refuse_room" t.a_pE
 mt_Store_read:cR K t.a_ZX "read" t.a_BI
 mt_Store_put:cR K t.a_ZX "put" t.a_EB
 mt_Store_fill:cR K t.a_ZX "fill" t.a_BJ
 mt_Store_copied:cR K t.a_ZX "copied" t.a_Bu
 cl_Hall:Cls K t.a_Z0
 na_Hall_past:bg K t.a_Z0 "past"
 na_Hall_store:bg K t.a_Z0 "store"
 na_Hall_views:bg K t.a_Z0 "views"
 mk_Hall:Mk K t.a_Z0 t.a_xy
 mt_Hall_refuse_new:cR K t.a_Z0 "refuse_new" t.a_t4
 mt_Hall_call:cR K t.a_Z0 "call" t.a_EC
 mt_Hall_make:cR K t.a_Z0 "make" t.a_ED
 mt_Hall_drop:cR K t.a_Z0 "drop" t.a_EE
 mt_Hall_view:cR K t.a_Z0 "view" t.a_EF
 mt_Hall_seen:cR K t.a_Z0 "seen" t.a_EG
 mt_Hall_names:cR K t.a_Z0 "names" t.a_BK
 mt_Hall_all_values:cR K t.a_Z0 "all_values" t.a_uD
 mt_Hall_changed_since:cR K t.a_Z0 "changed_since" t.a_ly
 mt_Hall_do:cR K t.a_Z0 "do" t.a_ZJ
 mt_Hall_back:cR K t.a_Z0 "back" t.a_EH
 cl_Move:Cls K t.a_Z1
 mk0_Move:Mk0 K t.a_Z1
 mt_Move_behind:cR K t.a_Z1 "behind" t.a_Bx
 mt_Move_ahead:cR K t.a_Z1 "ahead" t.a_BL
 mt_Move_sizes_of:cR K t.a_Z1 "sizes_of" t.a_xB
 mt_Move_on:cR K t.a_Z1 "on" t.a_ZK
 mt_Move_told:cR K t.a_Z1 "told" t.a_EI
 cl_Pick:Cls K t.a_Z2
 na_Pick_at:bg K t.a_Z2 "at"
 na_Pick_axis:bg K t.a_Z2 "axis"
 mt_Pick_behind:cR K t.a_Z2 "behind" t.a_Bz
 mt_Pick_ahead:cR K t.a_Z2 "ahead" t.a_BM
 mt_Pick_sizes_of:cR K t.a_Z2 "sizes_of" t.a_xB
 mt_Pick_on:cR K t.a_Z2 "on" t.a_ZK
 mt_Pick_told:cR K t.a_Z2 "told" t.a_EJ
 mk_Pick:Mk K t.a_Z2 t.a_xC
 mt_Pick_picked:cR K t.a_Z2 "picked" t.a_By
 cl_Turn:Cls K t.a_Z3
 na_Turn_order:bg K t.a_Z3 "order"
 mt_Turn_behind:cR K t.a_Z3 "behind" t.a_BA
 mt_Turn_ahead:cR K t.a_Z3 "ahead" t.a_BN
 mt_Turn_sizes_of:cR K t.a_Z3 "sizes_of" t.a_xB
 mt_Turn_on:cR K t.a_Z3 "on" t.a_ZK
 mt_Turn_told:cR K t.a_Z3 "told" t.a_EK
 mk_Turn:Mk K t.a_Z3 t.a_xD
 cl_Statement:Cls K t.a_Jg
 mk0_Statement:Mk0 K t.a_Jg
 mt_Statement_run:cR K t.a_Jg "run" t.a_zC
 cl_Fill:Cls K t.a_Z4
 na_Fill_to:bg K t.a_Z4 "to"
 na_Fill_value:bg K t.a_Z4 "value"
 mt_Fill_run:cR K t.a_Z4 "run" t.a_Zz
 mk_Fill:Mk K t.a_Z4 t.a_Bp
 cl_Copy:Cls K t.a_Z5
 na_Copy_source:bg K t.a_Z5 "source"
 na_Copy_to:bg K t.a_Z5 "to"
 mt_Copy_run:cR K t.a_Z5 "run" t.a_ZA
 mk_Copy:Mk K t.a_Z5 t.a_Bq
 cl_Swap:Cls K t.a_Z6
 na_Swap_one:bg K t.a_Z6 "one"
 na_Swap_other:bg K t.a_Z6 "other"
 mt_Swap_run:cR K t.a_Z6 "run" t.a_ZC
 mk_Swap:Mk K t.a_Z6 t.a_Br
 cl_Raise:Cls K t.a_ZY
 na_Raise_source:bg K t.a_ZY "source"
 na_Raise_to:bg K t.a_ZY "to"
 mt_Raise_run:cR K t.a_ZY "run" t.a_EL
 mk_Raise:Mk K t.a_ZY t.a_xr
 F_rV:Fun K "__init__" "TooMany.__init__" ed t.a_rV t.d_rV
 b_rV:ak K t.d_rV ["self", "number"] []
 F_rX:Fun K "__init__" "NoName.__init__" eQ t.a_rX t.d_rX
 b_rX:ak K t.d_rX ["self", "name"] []
 F_xp:Fun K "__init__" "Known.__init__" fE t.a_xp t.d_xp
 b_xp:ak K t.d_xp ["self", "name"] []
 F_Ni:Fun K "is_whole" "is_whole" jr t.a_Ni t.d_Ni
 m_Ni:mg "is_whole"=some (.ref t.a_Ni)
 b_Ni:ak K t.d_Ni ["thing"] []
 F_Zu:Fun K "count_of" "count_of" js t.a_Zu t.d_Zu
 m_Zu:mg "count_of"=some (.ref t.a_Zu)
 b_Zu:ak K t.d_Zu ["sizes"] []
 F_Zv:Fun K "paces_of" "paces_of" jq t.a_Zv t.d_Zv
 m_Zv:mg "paces_of"=some (.ref t.a_Zv)
 b_Zv:ak K t.d_Zv ["sizes"] []
 F_rY:Fun K "is_number_below" "is_number_below" cy t.a_rY t.d_rY
 m_rY:mg "is_number_below"=some (.ref t.a_rY)
 b_rY:ak K t.d_rY ["thing", "bound"] []
 F_Zw:Fun K "is_place" "is_place" gr t.a_Zw t.d_Zw
 m_Zw:mg "is_place"=some (.ref t.a_Zw)
 b_Zw:ak K t.d_Zw ["sizes", "thing"] []
 F_Bv:Fun K "refuse_long" "refuse_long" fh t.a_Bv t.d_Bv
 m_Bv:mg "refuse_long"=some (.ref t.a_Bv)
 b_Bv:ak K t.d_Bv ["count"] []
 F_Ey:Fun K "is_within" "is_within" gT t.a_Ey t.d_Ey
 m_Ey:mg "is_within"=some (.ref t.a_Ey)
 b_Ey:ak K t.d_Ey ["thing", "low", "high"] []
 F_ZF:Fun K "is_size" "is_size" lI t.a_ZF t.d_ZF
 m_ZF:mg "is_size"=some (.ref t.a_ZF)
 b_ZF:ak K t.d_ZF ["thing"] []
 F_ZG:Fun K "is_axis" "is_axis" lJ t.a_ZG t.d_ZG
 m_ZG:mg "is_axis"=some (.ref t.a_ZG)
 b_ZG:ak K t.d_ZG ["thing"] []
 F_Zx:Fun K "are_axes" "are_axes" gu t.a_Zx t.d_Zx
 m_Zx:mg "are_axes"=some (.ref t.a_Zx)
 b_Zx:ak K t.d_Zx ["thing"] []
 F_Ez:Fun K "kept_axis" "kept_axis" gS t.a_Ez t.d_Ez
 m_Ez:mg "kept_axis"=some (.ref t.a_Ez)
 b_Ez:ak K t.d_Ez ["axis"] []
 F_xu:Fun K "__init__" "View.__init__" cj t.a_xu t.d_xu
 b_xu:ak K t.d_xu ["self", "room", "first", "axes"] []
 F_BD:Fun K "sizes" "View.sizes" dO t.a_BD t.d_BD
 b_BD:ak K t.d_BD ["self"] []
 F_BE:Fun K "paces" "View.paces" dP t.a_BE t.d_BE
 b_BE:ak K t.d_BE ["self"] []
 F_BF:Fun K "count" "View.count" fU t.a_BF t.d_BF
 b_BF:ak K t.d_BF ["self"] []
 F_EA:Fun K "cell" "View.cell" eZ t.a_EA t.d_EA
 b_EA:ak K t.d_EA ["self", "place"] []
 F_BG:Fun K "cells" "View.cells" fV t.a_BG t.d_BG
 b_BG:ak K t.d_BG ["self"] []
 F_BH:Fun K "least" "View.least" dQ t.a_BH t.d_BH
 b_BH:ak K t.d_BH ["self"] []
 F_xw:Fun K "greatest" "View.greatest" cg t.a_xw t.d_xw
 b_xw:ak K t.d_xw ["self"] []
 F_ZH:Fun K "widened" "widened" iM t.a_ZH t.d_ZH
 m_ZH:mg "widened"=some (.ref t.a_ZH)
 b_ZH:ak K t.d_ZH ["cells", "size", "pace"] []
 F_ZV:J6 K "whole" "whole" ji t.a_ZV t.d_ZV
 m_ZV:mg "whole"=some (.ref t.a_ZV)
 b_ZV:ak K t.d_ZV ["sizes", "room"] []
 b_whole_1:ak K t.d_ZV ["sizes", "room"] [Value.none]
 F_Bs:Fun K "refuse_rooms" "refuse_rooms" er t.a_Bs t.d_Bs
 m_Bs:mg "refuse_rooms"=some (.ref t.a_Bs)
 b_Bs:ak K t.d_Bs ["one", "other"] []
 F_Bt:Fun K "refuse_count" "refuse_count" eu t.a_Bt t.d_Bt
 m_Bt:mg "refuse_count"=some (.ref t.a_Bt)
 b_Bt:ak K t.d_Bt ["view", "many"] []
 F_xq:Fun K "__init__" "Store.__init__" cP t.a_xq t.d_xq
 b_xq:ak K t.d_xq ["self", "values"] []
 F_rW:Fun K "all_values" "Store.all_values" cm t.a_rW t.d_rW
 b_rW:ak K t.d_rW ["self"] []
 F_pE:Fun K "refuse_room" "Store.refuse_room" b6 t.a_pE t.d_pE
 b_pE:ak K t.d_pE ["self", "view"] []
 F_BI:Fun K "read" "Store.read" dR t.a_BI t.d_BI
 b_BI:ak K t.d_BI ["self", "view"] []
 F_EB:Fun K "put" "Store.put" g7 t.a_EB t.d_EB
 b_EB:ak K t.d_EB ["self", "view", "values"] []
 F_BJ:Fun K "fill" "Store.fill" fX t.a_BJ t.d_BJ
 b_BJ:ak K t.d_BJ ["self", "view", "value"] []
 F_Bu:Fun K "copied" "Store.copied" eC t.a_Bu t.d_Bu
 b_Bu:ak K t.d_Bu ["self", "to", "source"] []
 F_ZI:Fun K "is_name" "is_name" iN t.a_ZI t.d_ZI
 m_ZI:mg "is_name"=some (.ref t.a_ZI)
 b_ZI:ak K t.d_ZI ["thing"] []
 F_xy:Fun K "__init__" "Hall.__init__" dB t.a_xy t.d_xy
 b_xy:ak K t.d_xy ["self", "values"] []
 F_t4:Fun K "refuse_new" "Hall.refuse_new" cz t.a_t4 t.d_t4
 b_t4:ak K t.d_t4 ["self", "name"] []
 F_EC:Fun K "call" "Hall.call" hV t.a_EC t.d_EC
 b_EC:ak K t.d_EC ["self", "name", "view"] []
 F_ED:Fun K "make" "Hall.make" hJ t.a_ED t.d_ED
 b_ED:ak K t.d_ED ["self", "name", "of", "move"] []
 F_EE:Fun K "drop" "Hall.drop" hU t.a_EE t.d_EE
 b_EE:ak K t.d_EE ["self", "name"] []
 F_EF:Fun K "view" "Hall.view" g9 t.a_EF t.d_EF
 b_EF:ak K t.d_EF ["self", "name"] []
 F_EG:Fun K "seen" "Hall.seen" hG t.a_EG t.d_EG
 b_EG:ak K t.d_EG ["self", "name"] []
 F_BK:Fun K "names" "Hall.names" fZ t.a_BK t.d_BK
 b_BK:ak K t.d_BK ["self"] []
 F_uD:Fun K "all_values" "Hall.all_values" cA t.a_uD t.d_uD
 b_uD:ak K t.d_uD ["self"] []
 F_ly:Fun K "changed_since" "Hall.changed_since" bo t.a_ly t.d_ly
 b_ly:ak K t.d_ly ["self", "before"] []
 F_ZJ:Fun K "do" "Hall.do" lL t.a_ZJ t.d_ZJ
 b_ZJ:ak K t.d_ZJ ["self", "statement"] []
 F_EH:Fun K "back" "Hall.back" hZ t.a_EH t.d_EH
 b_EH:ak K t.d_EH ["self"] []
 F_xA:Fun K "refuse_unless" "refuse_unless" dq t.a_xA t.d_xA
 m_xA:mg "refuse_unless"=some (.ref t.a_xA)
 b_xA:ak K t.d_xA ["fits"] []
 F_Bw:Fun K "refuse_axis" "refuse_axis" fi t.a_Bw t.d_Bw
 m_Bw:mg "refuse_axis"=some (.ref t.a_Bw)
 b_Bw:ak K t.d_Bw ["sizes", "axis"] []
 F_Zy:Fun K "replaced" "replaced" jo t.a_Zy t.d_Zy
 m_Zy:mg "replaced"=some (.ref t.a_Zy)
 b_Zy:ak K t.d_Zy ["row", "axis", "told"] []
 F_uE:Fun K "place_one_along" "place_one_along" bL t.a_uE t.d_uE
 m_uE:mg "place_one_along"=some (.ref t.a_uE)
 b_uE:ak K t.d_uE ["many", "axis"] []
 F_Bx:Fun K "behind" "Move.behind" iX t.a_Bx t.d_Bx
 b_Bx:ak K t.d_Bx ["self", "sizes"] []
 F_BL:Fun K "ahead" "Move.ahead" jW t.a_BL t.d_BL
 b_BL:ak K t.d_BL ["self", "sizes", "place"] []
 F_xB:Fun K "sizes_of" "Move.sizes_of" ck t.a_xB t.d_xB
 b_xB:ak K t.d_xB ["self", "sizes"] []
 F_ZK:Fun K "on" "Move.on" lK t.a_ZK t.d_ZK
 b_ZK:ak K t.d_ZK ["self", "view"] []
 F_EI:Fun K "told" "Move.told" lZ t.a_EI t.d_EI
 b_EI:ak K t.d_EI ["self"] []
 F_xC:Fun K "__init__" "Pick.__init__" dw t.a_xC t.d_xC
 b_xC:ak K t.d_xC ["self", "axis", "at"] []
 F_By:Fun K "picked" "Pick.picked" fj t.a_By t.d_By
 b_By:ak K t.d_By ["self", "sizes"] []
 F_Bz:Fun K "behind" "Pick.behind" fk t.a_Bz t.d_Bz
 b_Bz:ak K t.d_Bz ["self", "sizes"] []
 F_BM:Fun K "ahead" "Pick.ahead" fY t.a_BM t.d_BM
 b_BM:ak K t.d_BM ["self", "sizes", "place"] []
 F_EJ:Fun K "told" "Pick.told" lY t.a_EJ t.d_EJ
 b_EJ:ak K t.d_EJ ["self"] []
 F_xD:Fun K "__init__" "Turn.__init__" dr t.a_xD t.d_xD
 b_xD:ak K t.d_xD ["self", "order"] []
 F_BA:Fun K "behind" "Turn.behind" cX t.a_BA t.d_BA
 b_BA:ak K t.d_BA ["self", "sizes"] []
 F_BN:Fun K "ahead" "Turn.ahead" fW t.a_BN t.d_BN
 b_BN:ak K t.d_BN ["self", "sizes", "place"] []
 F_EK:Fun K "told" "Turn.told" lX t.a_EK t.d_EK
 b_EK:ak K t.d_EK ["self"] []
 F_BO:Fun K "refuse_two" "refuse_two" fR t.a_BO t.d_BO
 m_BO:mg "refuse_two"=some (.ref t.a_BO)
 b_BO:ak K t.d_BO ["one", "other"] []
 F_zC:Fun K "run" "Statement.run" du t.a_zC t.d_zC
 b_zC:ak K t.d_zC ["self", "store"] []
 F_Bp:Fun K "__init__" "Fill.__init__" dC t.a_Bp t.d_Bp
 b_Bp:ak K t.d_Bp ["self", "to", "value"] []
 F_Zz:Fun K "run" "Fill.run" jw t.a_Zz t.d_Zz
 b_Zz:ak K t.d_Zz ["self", "store"] []
 F_Bq:Fun K "__init__" "Copy.__init__" dD t.a_Bq t.d_Bq
 b_Bq:ak K t.d_Bq ["self", "to", "source"] []
 F_ZA:Fun K "run" "Copy.run" jx t.a_ZA t.d_ZA
 b_ZA:ak K t.d_ZA ["self", "store"] []
 F_Br:Fun K "__init__" "Swap.__init__" dt t.a_Br t.d_Br
 b_Br:ak K t.d_Br ["self", "one", "other"] []
 F_ZC:Fun K "run" "Swap.run" jv t.a_ZC t.d_ZC
 b_ZC:ak K t.d_ZC ["self", "store"] []
 F_xr:Fun K "__init__" "Raise.__init__" cQ t.a_xr t.d_xr
 b_xr:ak K t.d_xr ["self", "to", "source"] []
 F_EL:Fun K "run" "Raise.run" fb t.a_EL t.d_EL
 b_EL:ak K t.d_EL ["self", "store"] []
 F_EM:Fun K "_law_draw" "_law_draw" gY t.a_EM t.d_EM
 m_EM:mg "_law_draw"=some (.ref t.a_EM)
 b_EM:ak K t.d_EM ["_law_script", "_law_k", "_law_many"] []
 F_EN:Fun K "_law_like" "_law_like" gX t.a_EN t.d_EN
 m_EN:mg "_law_like"=some (.ref t.a_EN)
 b_EN:ak K t.d_EN ["_law_cell", "_law_room", "_law_sizes"] []
 F_BP:Fun K "_law_parts" "_law_parts" fS t.a_BP t.d_BP
 m_BP:mg "_law_parts"=some (.ref t.a_BP)
 b_BP:ak K t.d_BP ["_law_cell", "_law_room"] []
 F_BQ:Fun K "_law_cells" "_law_cells" fT t.a_BQ t.d_BQ
 m_BQ:mg "_law_cells"=some (.ref t.a_BQ)
 b_BQ:ak K t.d_BQ ["_law_parts_here"] []
 F_IX:Fun K "_law_view" "_law_view" gU t.a_IX t.d_IX
 m_IX:mg "_law_view"=some (.ref t.a_IX)
 b_IX:ak K t.d_IX ["_law_parts_here"] []
 F_BR:Fun K "_law_drawn" "_law_drawn" dM t.a_BR t.d_BR
 m_BR:mg "_law_drawn"=some (.ref t.a_BR)
 b_BR:ak K t.d_BR ["_law_cell", "_law_room"] []
 F_xt:Fun K "_law_statement" "_law_statement" cO t.a_xt t.d_xt
 m_xt:mg "_law_statement"=some (.ref t.a_xt)
 b_xt:ak K t.d_xt ["_law_deed"] []
 F_IZ:Fun K "_law_read" "_law_read" eX t.a_IZ t.d_IZ
 m_IZ:mg "_law_read"=some (.ref t.a_IZ)
 b_IZ:ak K t.d_IZ ["_law_values", "_law_parts_here"] []
 F_ZD:Fun K "_law_put" "_law_put" jt t.a_ZD t.d_ZD
 m_ZD:mg "_law_put"=some (.ref t.a_ZD)
 b_ZD:ak K t.d_ZD ["_law_values", "_law_parts_here", "_law_some"] []
 F_Ja:Fun K "_law_done" "_law_done" df t.a_Ja t.d_Ja
 m_Ja:mg "_law_done"=some (.ref t.a_Ja)
 b_Ja:ak K t.d_Ja ["_law_values", "_law_deed"] []
 F_BB:Fun K "_law_others" "_law_others" cW t.a_BB t.d_BB
 m_BB:mg "_law_others"=some (.ref t.a_BB)
 b_BB:ak K t.d_BB ["_law_names", "_law_before", "_law_behind"] []
 F_Jb:Fun K "_law_back" "_law_back" gZ t.a_Jb t.d_Jb
 m_Jb:mg "_law_back"=some (.ref t.a_Jb)
 b_Jb:ak K t.d_Jb ["_law_hall"] []
 F_Jc:Fun K "_law_free" "_law_free" dc t.a_Jc t.d_Jc
 m_Jc:mg "_law_free"=some (.ref t.a_Jc)
 b_Jc:ak K t.d_Jc ["_law_names", "_law_cell"] []
 F_Jd:Fun K "_law_make" "_law_make" eY t.a_Jd t.d_Jd
 m_Jd:mg "_law_make"=some (.ref t.a_Jd)
 b_Jd:ak K t.d_Jd ["_law_hall", "_law_names", "_law_cell"] []
 F_Ex:Fun K "_law_named" "_law_named" dJ t.a_Ex t.d_Ex
 m_Ex:mg "_law_named"=some (.ref t.a_Ex)
 b_Ex:ak K t.d_Ex ["_law_hall", "_law_names", "_law_cell", "_law_room"] []
 F_Je:Fun K "_law_long" "_law_long" gW t.a_Je t.d_Je
 m_Je:mg "_law_long"=some (.ref t.a_Je)
 b_Je:ak K t.d_Je [] []
 F_BC:Fun K "_law_stands" "_law_stands" cV t.a_BC t.d_BC
 m_BC:mg "_law_stands"=some (.ref t.a_BC)
 b_BC:ak K t.d_BC ["_law_hall", "_law_names", "_law_values"] []
 F_ZE:Fun K "_law_one" "_law_one" ju t.a_ZE t.d_ZE
 m_ZE:mg "_law_one"=some (.ref t.a_ZE)
 b_ZE:ak K t.d_ZE ["_law_hall", "_law_names", "_law_rows", "_law_cell", "_law_room"] []
 F_law:Fun K "law" "law" mQ t.a_law t.d_law
 m_law:mg "law"=some (.ref t.a_law)
 b_law:ak K t.d_law ["_law_script"] []
 z_ValueError:mg "ValueError"=none
 z_abs:mg "abs"=none
 z_all:mg "all"=none
 z_any:mg "any"=none
 z_bool:mg "bool"=none
 z_enumerate:mg "enumerate"=none
 z_int:mg "int"=none
 z_isinstance:mg "isinstance"=none
 z_len:mg "len"=none
 z_list:mg "list"=none
 z_max:mg "max"=none
 z_min:mg "min"=none
 z_range:mg "range"=none
 z_reversed:mg "reversed"=none
 z_sorted:mg "sorted"=none
 z_str:mg "str"=none
 z_sum:mg "sum"=none
 z_tuple:mg "tuple"=none
 z_zip:mg "zip"=none
local macro_rules | `(tactic| trivial) => `(tactic| first | exact Or.inl rfl | exact Or.inr rfl | exact Or.inr (Or.inl rfl) | exact Or.inr (Or.inr rfl) | assumption)
local macro_rules | `(tactic| simp! only [$xs,*]) => do
  let ys := xs.getElems.map λ x => (⟨x.raw⟩ : Lean.TSyntax `Lean.Parser.Tactic.simpLemma)
  let zs ← ("!reduceIte !lO !Jx !Jw !Jv !Ju !Jt !Js !Jr !Jq !Jp !Jo !MB !PB !Pe !Rg !Pu !Pb !xc !MF !LX !M9 !L8 !Pz !Pd !MN !Ph !MZ !LY !Er !II !HL !Bm !Bl !Bk !Bj !Bi !Bh !HN !PK !Pj !HI !LU !LW !HG !IH !HJ !MM !lj !M7 !L7 !PF !MI !Mf !HU !MK !PD !Pl !Mi !Md !Mc !xg !uB !rT !uA !xf !Be !Bd !Bc !Bb !Ba !A7 !A6 !A5 !AZ !AY !AW !A4 !A3 !A0 !AV !AU !A9 !A8 !M6 !PL !Pk !M5 !L5 !M8 !AN !Mx !xb !Iu !Mt !HS !Em !En !Nf !PJ !Pm !bh !LZ !Pw !IS !Bg !MO !Nc !Pt !Mp !LS !Eh !Ea !MQ !L1 !Kw !LH !HM !Ip !HF !Ng !xo !nB !nA !pD !gJ !Eo !Ep !MS !xh !pC !pA !pB !zB !Bf !Mq !Mr !Ms !Pc !AL !Iy !HH !Px !Py !Ma !Me !Rj !Ic !IA !Ec !MG !MH !Mo !PC !Pn !Ie !Mu !Mv !Nd !Il !Mb !M4 !IQ !Mh !Ii !Ik !Ij !Pr !Na !aM !aO !ek !HR !HQ !ID !IE !MP !Mn !Io !Iq !Ir !HX !xl !xk !xj !xi !Ej !IB !Ia !IC !AS !AR !AQ !Ib !M3 !Ig !Ek !El !MJ !Pf !Eb !IF !IG !AM !MU !MV !IT !Ee !Iv !Mw !LV !Pg !MY !HK !MW !MX !HP !LR !LQ !LP !LO !LN !LM !LL !LK !LJ !LI !Pq !Ri !Rh !Eg !HW !IP !Ih !Iz !HY !IJ !IK !IL !Ef !IV !Es !Mz !Mj !Iw !Ed !ML !Po !IU !HV !IM !Mg !Ml !AO !Nb !HZ !Mm lO cK aF iB Dz Dy Et Dt x4 ai GP GR GQ K4 GV K6 GW GS GU Dp EU Jl ET ES Rp rR P4 P2 P1 zI E3 nE mf gg JN NA JM Option.isSome_some Option.isSome_none Option.map_some List.length_cons List.length_nil List.length_map List.map_cons List.map_nil and_true true_and and_self implies_true reduceCtorEq decide_true decide_false Bool.not_true Bool.not_false if_true if_false decide_eq_true_eq Bool.false_eq_true Bool.not_eq_true' decide_eq_false_iff_not Bool.and_true Bool.true_and Bool.and_self Bool.and_eq_true Int.reduceToNat Int.reducePow Int.reduceMul Int.reduceAdd Int.reduceSub Int.reduceNeg Int.reduceLT Int.reduceLE Int.reduceEq Int.reduceNe Int.reduceDiv Int.reduceMod Nat.reduceAdd Nat.reduceLeDiff Nat.reduceLT Nat.reduceMul Nat.reducePow gt_iff_lt ge_iff_le ne_eq false_implies true_implies eq_self String.reduceEq Int.cast_ofNat_Int not_true_eq_false not_false_eq_true false_and and_false List.cons_append List.nil_append List.append_nil Kx".splitOn " ").toArray.mapM λ s => if s.startsWith "!" then `(Lean.Parser.Tactic.simpLemma| ↓ $(Lean.mkIdent (s.replace "!" "").toName):ident) else `(Lean.Parser.Tactic.simpLemma| $(Lean.mkIdent s.toName):ident)
  `(tactic| simp (config := { failIfUnchanged := false, maxDischargeDepth := 30, maxSteps := 10000000 }) only [$zs,*, $ys,*, *])
local macro_rules | `(%[$xs,*|$k:num]) => do
  let a := xs.getElems
  let s (i : Nat) : String := a[i]!.raw.getId.toString
  let I (n : String) : Lean.TSyntax `term := ⟨(Lean.mkIdent n.toName).raw⟩
  match k.getNat with
  | 44 => `($(a[0]!) (P := $(I "P")) (w := $(I "w")) (base := $(I "base")) $(I "T"))
  | 0 => `(@pvN _ $(a[0]!) _ _ (by rfl) (by trivial) (by decide) (by decide))
  | 1 => if a.size = 1 then `(@J0 _ _ _ _ _ $(a[0]!) (@b9 _) (by rfl)) else `(@J0 _ _ _ _ _ $(a[0]!) $(a[1]!) (by rfl))
  | 2 => `(@fM _ _ _ _)
  | 7 => `(by trivial)
  | 8 => `(by omega)
  | 3 => `(@zu _ _ _ _ _ _ _ _ _ _ _ _ _ _ _ _ $(I ("G_" ++ s 0)) ($(I "hr.mono") (by decide)) (by rfl) $(I ("T.m_" ++ s 0)) $(I ("T.F_" ++ s 0 ++ ".kp")) $(I ("T.b_" ++ s 0)) .nil ay $(a[1]!) (by decide) (by rfl) (by rfl))
  | 4 => `(@jR _ _ $(a[0]!) _ _ _ _ ($(a[1]!)).nd rfl (Or.inl rfl) $(a[2]!) (by rfl) (by trivial))
  | 5 => `(@zo _ _ $(a[0]!) _ ($(a[1]!)).nd rfl (Or.inl rfl) (by trivial))
  | 6 => `(@kP _ _ _ _ _ _ _ $(Lean.Syntax.mkStrLit (s 0)) _ $(a[1]!) (by rfl) $(I ("T.z_" ++ s 0)) (by decide +kernel) $(a[2]!) (by decide) (by decide) (by rfl) (by rfl))
  | 9 => `(@n9 _ _ _ $(a)*)
  | 10 => `(@iG _ _ _ _ _ $(a)*)
  | 11 => `(@fL _ _ _ _ _ _ _ _ $(a)*)
  | 12 => `(@yO _ _ _ _ $(a)*)
  | 13 => `(@zp _ _ _ _ _ $(a)*)
  | 14 => `(@Hb _ _ _ _ $(a)*)
  | 15 => `(@DG _ _ _ _ _ _ _ _ $(a)*)
  | 16 => `(@Ay _ _ _ _ _ $(a)*)
  | 17 => `(@Gg _ _ _ _ _ _ _ _ $(a)*)
  | 18 => `(@Gh _ _ _ _ _ _ _ $(a)*)
  | 19 => `(@zo _ _ $(a)*)
  | 20 => `(@DQ _ _ _ _ _ _ _ _ _ _ _ _ _ _ _ _ _ _ _ _ $(a)*)
  | 21 => `(@FC _ _ _ _ $(a)*)
  | 22 => `(@Ho _ _ _ _ _ _ _ _ _ _ _ $(a)*)
  | 23 => `(@Hl _ _ _ _ $(a)*)
  | 24 => `(@br _ _ _ $(a)*)
  | 25 => `(@Az _ _ _ _ _ _ _ _ _ _ _ _ _ _ _ _ _ $(a)*)
  | 26 => `(@Lk _ _ _ _ _ $(a)*)
  | 27 => `(@Lf _ _ _ _ _ _ _ _ $(a)*)
  | 28 => `(@DK _ _ _ _ _ _ _ _ $(a)*)
  | 29 => `(@AA _ _ _ _ _ _ _ _ _ $(a)*)
  | 30 => `(@Ld _ _ _ _ $(a)*)
  | 31 => `(@G5 _ _ _ $(a)*)
  | 32 => `(@DR _ _ _ _ _ _ _ _ _ _ _ _ _ _ _ _ _ $(a)*)
  | 33 => `(@OW _ _ _ _ _ _ _ _ _ _ _ _ $(a)*)
  | 34 => `(@Hq _ _ _ _ _ _ _ _ $(a)*)
  | 35 => `(@Hr _ _ _ _ _ _ _ $(a)*)
  | 36 => `(@Hk _ _ _ _ _ $(a)*)
  | 37 => `(@OU _ _ _ _ _ _ _ $(a)*)
  | 38 => `(@OV _ _ _ _ _ _ $(a)*)
  | 39 => `(@Ax _ _ _ _ _ _ $(a)*)
  | 40 => `(@Lg _ _ _ _ _ _ $(a)*)
  | 41 => `(@Lh _ _ _ _ _ _ _ _ _ $(a)*)
  | 42 => `(@wV _ _ _ _ _ _ _ _ _ _ _ _ _ _ _ _ $(a)*)
  | 43 => `(@DP _ _ _ _ _ _ _ _ _ _ $(a)*)
  | 51 => `(%[$(a[0]!),_,(show List.Nodup (($(a[1]!)) : List Str) from by decide +kernel),rfl,(Or.inl rfl),%[0|7]|14])
  | 45 => `(some (.ref $(a[0]!)))
  | 46 => `(some (.lst (List.map V.int $(a[0]!))))
  | 47 => `(some (.int $(a[0]!)))
  | 48 => `(List (Int × Int))
  | 49 => `(aH $(I "P") $(I "w") $(I "K") $(I "mg") $(I "base") CX0 $(a[0]!) $(I ("t.a_" ++ s 1)) $(I ("t.d_" ++ s 1)))
  | 50 => do
    let J (n : String) : Lean.Ident := Lean.mkIdent n.toName
    `(fun $(J "c"):ident $(J "A"):ident $(J "o"):ident $(J "s"):ident $(J "H"):ident $(J "vs"):ident $(J "Q"):ident $(J "E"):ident $(J "hr"):ident $(J "h"):ident => ?_)
  | _ => Lean.Macro.throwUnsupported
local macro_rules | `(∅) => `(by rfl)
local macro_rules | `(⋯) => `(by decide)
local macro_rules | `(tactic| ac_rfl) => `(tactic| simp! only [and_true])
local macro_rules | `(tactic| exists $x:ident) => `(tactic| replace $x := λ (_ : Unit) => $x)
section
variable {P:Program}{w:World}{K:PySem.W.Frag}{mg:Str->Option Value}{base:Heap}{t:Adr}
def yJ(K:W.Frag)(a:Addr)(ns:List Int):Sp:=λ vs H Q E=>∃ (k:Int) (m:Int),vs=[.ref a,.int k,.int m]/\(SqL K H a (ns.map V.int)/\ns.length<=63/\(0<=k/\k < 1000)/\0 < m/\∀ z:Int,0<=z->z < m->Q (.int z) H)
def kW(K:W.Frag)(a:Addr)(ns:List Int)(k:Int)(m:Int)(H:Hp)(Q:VK)(E:XK):yJ K a ns [.ref a,.int k,.int m] H Q E=(SqL K H a (ns.map V.int)/\ns.length<=63/\(0<=k/\k < 1000)/\0 < m/\∀ z:Int,0<=z->z < m->Q (.int z) H):=iu (f:=λ (k:Int) (m:Int)=>[.ref a,.int k,.int m]) (λ _ _ _ _ h=>by cases h;exact⟨rfl,rfl⟩) k m
def rJ(T:Tx K mg t)(a:Addr)(ns:List Int):%[1,EM|49] ["_law_script", "_law_k", "_law_many"] (yJ K a ns):=by
 refine T.F_EM.ok fg (λ _ _ _ _ h=>iw h λ _ _=>rfl) %[0|50]
 ·obtain⟨k,m,rfl,hS,hl,⟨aa,aS⟩,hm,kk⟩:=h;have fin:∀ z:Int,Q (.int (z % m)) H:=λ z=>kk _ (SI _ %[0|8]) (SJ _ hm)
  refine⟨_,(iG (Gg (tW Kn (pv 1) (kP (id := "len") dW ∅ T.z_len nofun (J0 (pv 0) b9)) (az _))
   (n9 (yO (fL k9 (Gh t7 (pv 0) (pv 1) (λ _ _=>rfl)) (pv 2))))
   aA)
  (iG (jR (i:=3) fg.nd rfl (Or.inl rfl) (fL u7 (fL jT (fL jT (pv 1) (pv 1)) fM) fM))
  (iG (Gg (tW Ko (kP (id := "len") dW ∅ T.z_len nofun (J0 (pv 0) b9)) fM (az _))
   (iG (jR (i:=3) fg.nd rfl (Or.inl rfl) (fL k9 (Gh t7 (pv 0) (fL k9 (pv 1) (kP (id := "len") dW ∅ T.z_len nofun (J0 (pv 0) b9))) (λ _ _=>rfl)) fM))
   (n9 (jR (i:=3) fg.nd rfl (Or.inl rfl) (fL u7 (fL jT (pv 3) (fL u7 fM (fL jT (fL jT fM (pv 1)) (pv 1)))) (fL jT (pv 1) fM)))))
   aA)
  (n9 (yO (fL k9 (fL k9 (fL jT (fL k9 (pv 3) fM) fM) fM) (pv 2))))))),?_⟩
  refine⟨_,rfl,_,rfl,a,_,rfl,.inl hS,_,_,rfl,rfl,_,rfl,?_⟩;refine QL (λ h=>?_) (λ h=>?_)
  ·have h1:k < (ns.length:Int):=by simpa using h
   obtain⟨z,hz,_⟩:=vW ns k aa h1;exact⟨_,rfl,_,rfl,a,_,k,_,rfl,rfl,hS,hz,_,rfl,_,_,rfl,rfl,hm,fin _⟩
  ·refine⟨_,rfl,_,rfl,_,_,rfl,rfl,.inl ⟨by omega,by omega⟩,_,_,rfl,rfl,.inr ⟨by decide,by decide⟩,_,_,rfl,rfl,?_⟩;refine⟨_,rfl,a,_,rfl,.inl hS,_,_,rfl,rfl,_,rfl,?_⟩;refine QL (λ h2=>?_) (λ h2=>?_)
   ·have h3:0 < (ns.length:Int):=by simpa using h2
    have h4:(0:Int) < ((ns.map V.int).length:Int):=by simpa using h3
    obtain⟨z,hz,_⟩:=vW ns (k % ((ns.map V.int).length:Int)) (SI _ %[0|8]) (by have:=SJ k h4;simpa using this);refine⟨_,rfl,_,rfl,_,rfl,a,_,rfl,.inl hS,_,_,rfl,rfl,h4,a,_,_,_,rfl,rfl,hS,hz,_,_,rfl,rfl,(by first|decide|(show (0:Int) < _;decide)),?_⟩;refine⟨_,rfl,_,rfl,_,_,rfl,rfl,.inl ⟨by decide,by decide⟩,_,rfl,_,_,rfl,rfl,.inr ⟨by omega,by omega⟩,_,_,rfl,rfl,_,_,rfl,rfl,?_,?_⟩
    ·refine .inl ⟨?_,?_⟩
     ·have:=SI z (show (999999937:Int) ≠ 0 by decide);omega
     ·have:=SJ z (show (0:Int) < 999999937 by decide);omega
    refine⟨_,rfl,_,_,rfl,rfl,.inr ⟨by decide,by decide⟩,_,_,rfl,rfl,?_⟩;exact⟨_,rfl,_,_,rfl,rfl,(by first|decide|(show (0:Int) < _;decide)),_,_,rfl,rfl,.inr ⟨by decide,by decide⟩,_,_,rfl,rfl,(by first|decide|(show (0:Int) < _;decide)),_,rfl,_,_,rfl,rfl,hm,fin _⟩
   ·exact⟨_,rfl,_,_,rfl,rfl,(by first|decide|(show (0:Int) < _;decide)),_,_,rfl,rfl,.inr ⟨by decide,by decide⟩,_,_,rfl,rfl,(by first|decide|(show (0:Int) < _;decide)),_,rfl,_,_,rfl,rfl,hm,fin _⟩
def sQ  : Sp:=λ vs H Q E=>∃ (x:V),vs=[x]/\(aJ (isW H x) (kE4 H Q))
def bQ  (x:V) (H:Hp) (Q:VK) (E:XK):sQ  [x] H Q E=(aJ (isW H x) (kE4 H Q)):=jM (f:=λ (x:V)=>[x]) (λ _ _ h=>by cases h;exact rfl) x
def fe(T:Tx K mg t):%[1,Ni|49] ["thing"] sQ:=by
 refine T.F_Ni.ok xV (λ _ _ _ _ h=>jN h λ _=>rfl) %[0|50]
 ·obtain⟨x,rfl,h⟩:=h;obtain⟨b,hb,k⟩:=aq h;clear h;rw [Kw] at k;refine⟨_,%[%[%[%[isinstance,eM,%[%[0|0],%[(@jj _ _ (.ty "int") (.type "int") _ ∅ T.z_int nofun rfl ⋯ ⋯)|1]|1]|6],(@jS _ _ _ _ _ (@Hm _ _ _ _ %[isinstance,eM,%[%[0|0],%[(@jj _ _ (.ty "bool") (.type "bool") _ ∅ T.z_bool nofun rfl ⋯ ⋯)|1]|1]|6]))|35]|12]|9],?_⟩;rw [show au ["thing"] [x]=[some (x)] from rfl]
  cases x with
  | int i=>cases hb;ac_rfl
  | bl i=>cases hb;ac_rfl
  | non=>cases hb;ac_rfl
  | str i=>cases hb;ac_rfl
  | ref p=>
   obtain⟨rfl,o,ho,ht⟩:=oh hb
   rcases ht with ht|ht|ht<;>ac_rfl
  | _=>cases hb
def kSz(F:List Int->Prop):List Int->Prop:=λ ns=>jg ns/\F ns
def Gr(F:List Int->Prop)(ns:List Int):kSz F ns=(jg ns/\F ns):=rfl
def OD(H:Hp)(Q:VK):List Int->Prop:=λ ns=>Q (.int (av ns)) H
def yr(H:Hp)(Q:VK)(ns:List Int):OD H Q ns=Q (.int (av ns)) H:=rfl
def tP  : Sp:=λ vs H Q E=>∃ (p:Addr),vs=[.ref p]/\(aJ (aF H p) (mR (kSz (OD H Q))))
def qH  (p:Addr) (H:Hp) (Q:VK) (E:XK):tP  [.ref p] H Q E=(aJ (aF H p) (mR (kSz (OD H Q)))):=jM (f:=λ (p:Addr)=>[.ref p]) (λ _ _ h=>by cases h;exact rfl) p
def md(T:Tx K mg t):%[1,Zu|49] ["sizes"] tP:=by
 refine T.F_Zu.ok gA (λ _ _ _ _ h=>jN h λ _=>rfl) %[0|50]
 ·obtain⟨p,rfl,h⟩:=h;obtain⟨xs,hp,ns,rfl,hs,k⟩:=aq h;replace hp:=bO hp;rw [yr] at k;refine⟨_,%[%[1,gA,%[0|2]|4],%[%[R9,rfl,%[%[0|0]|21],%[2,gA|5],%[%[1,gA,%[oa,%[1|0],%[2|0]|11]|4]|9],(by intros;rfl)|27],%[%[%[1|0]|12]|9]|10]|10],?_⟩;rw [show au ["sizes", "count", "size"] [.ref p]=[%[p|45],none,none] from rfl];ac_rfl;refine fP (xs:=ns.map V.int) (λ i σ H'=>∃ v:Option V,σ=[%[p|45],some (.int (av (ns.take i))),v]/\H'=H) ⟨_,rfl,rfl⟩ (λ i σ H' _ ⟨_,_,e⟩=>by subst e;exact hp) ?_ ?_
  ·rintro i x _ _ hi ⟨v,rfl,rfl⟩;rw [RN] at hi;obtain⟨z,hz,rfl⟩:=RL.mp hi;have e:=jy ns i z hz;have b1:=(hs.take i).prod;have b2:=hs.2 z (Sa hz)
   have c1:(av (ns.take i)).natAbs < 2 ^ 256:=by
    generalize av (ns.take i)=y at b1;have:(1000000000:Int) ^ 8 < 2 ^ 256:=by decide
    omega
   have c2:z.natAbs < 2 ^ 256:=by omega
   clear b1 b2;simp! only [↓bh,vY];exact⟨_,rfl⟩
  ·rintro _ _ ⟨v,rfl,rfl⟩;rw [RH,SO];ac_rfl
def oq  : Sp:=λ vs H Q E=>∃ (i:Int) (lo:Int) (hi:Int),vs=[.int i,.int lo,.int hi]/\(Q (.bl (decide (lo<=i) && decide (i<=hi))) H)
def nG  (i:Int) (lo:Int) (hi:Int) (H:Hp) (Q:VK) (E:XK):oq  [.int i,.int lo,.int hi] H Q E=(Q (.bl (decide (lo<=i) && decide (i<=hi))) H):=pR (f:=λ (i:Int) (lo:Int) (hi:Int)=>[.int i,.int lo,.int hi]) (λ _ _ _ _ _ _ h=>by cases h;exact⟨rfl,rfl,rfl⟩) i lo hi
def jY(T:Tx K mg t):%[2,Ey|49] ["thing", "low", "high"] oq:=by
 have G_Ni:=%[fe|44];refine T.F_Ey.ok uO (λ _ _ _ _ h=>pO h λ _ _ _=>rfl) %[0|50]
 ·obtain⟨i,lo,hi,rfl,k⟩:=h;refine⟨_,%[%[%[%[Ni,%[%[0|0]|1]|3],(@jS _ _ _ _ _ (@qo _ _ _ _ _ _ _ _ _ _ _ _ sI sI %[1|0] %[0|0] %[2|0] ∅))|35]|12]|9],?_⟩;rw [show au ["thing", "low", "high"] [.int i,.int lo,.int hi]=[%[i|47],%[lo|47],%[hi|47]] from rfl]
  by_cases h0:lo<=i
  ·rw [R7 h0,Bool.true_and] at k;simp! only [↓bQ]
  ·rw [R6 h0,Uo] at k;simp! only [↓bQ]
def yx  : Sp:=λ vs H Q E=>∃ (i:Int),vs=[.int i]/\(Q (.bl (decide (1<=i) && decide (i<=1000000000))) H)
def vP  (i:Int) (H:Hp) (Q:VK) (E:XK):yx  [.int i] H Q E=(Q (.bl (decide (1<=i) && decide (i<=1000000000))) H):=jM (f:=λ (i:Int)=>[.int i]) (λ _ _ h=>by cases h;exact rfl) i
def nq(T:Tx K mg t):%[3,ZF|49] ["thing"] yx:=by
 have G_Ey:=%[jY|44];refine T.F_ZF.ok Cw (λ _ _ _ _ h=>jN h λ _=>rfl) %[0|50]
 ·obtain⟨i,rfl,k⟩:=h;refine⟨_,%[%[%[Ey,%[%[0|0],%[%[0|2],%[(@gO _ _ (.int 1000000000) _ _ ∅ T.m_MOST_SIZE.choose_spec ⟨_,rfl⟩ ⋯)|1]|1]|1]|3]|12]|9],?_⟩;rw [show au ["thing"] [.int i]=[%[i|47]] from rfl];simp! only [↓nG]
abbrev wz  (p:Addr) (H:Hp) (Q:VK) (E:XK):Prop:=∃ a:Int × Int,H p=some (.tup [.int a.1,.int a.2])/\1<=a.1/\a.1<=1000000000/\Q (.bl true) H
def yL  : Sp:=λ vs H Q E=>∃ (p:Addr),vs=[.ref p]/\(wz  p H Q E)
def Fi  (p:Addr) (H:Hp) (Q:VK) (E:XK):yL  [.ref p] H Q E=(wz  p H Q E):=jM (f:=λ (p:Addr)=>[.ref p]) (λ _ _ h=>by cases h;exact rfl) p
def wY(T:Tx K mg t):%[4,ZG|49] ["thing"] yL:=by
 have G_ZF:=%[nq|44];have G_Ni:=%[fe|44];refine T.F_ZG.ok Cz (λ _ _ _ _ h=>jN h λ _=>rfl) %[0|50]
 ·obtain⟨p,rfl,a,hp,h1,h2,k⟩:=h;refine⟨_,%[%[%[%[isinstance,eM,%[%[0|0],%[(@jj _ _ (.ty "tuple") (.type "tuple") _ ∅ T.z_tuple nofun rfl ⋯ ⋯)|1]|1]|6],%[%[(bz hr.units),%[len,aB,%[%[0|0]|1]|6],%[0|2],(az _)|34],%[%[ZF,%[%[eS,%[0|0],%[0|2],(λ _ _=>rfl)|18]|1]|3],(@jS _ _ _ _ _ %[Ni,%[%[eS,%[0|0],%[0|2],(λ _ _=>rfl)|18]|1]|3])|35]|35]|35]|12]|9],?_⟩;rw [show au ["thing"] [.ref p]=[%[p|45]] from rfl];simp! only [↓vP,↓bQ]
abbrev wm  (p:Addr) (H:Hp) (Q:VK) (E:XK):Prop:=∃ a:Int × Int,H p=some (.tup [.int a.1,.int a.2])/\∀ (r:Addr) (H':Hp),H r=none->Ext H H'->H' r=some (.tup [.int (bu a).1,.int (bu a).2])->Q (.ref r) H'
def yE  : Sp:=λ vs H Q E=>∃ (p:Addr),vs=[.ref p]/\(wm  p H Q E)
def Fg  (p:Addr) (H:Hp) (Q:VK) (E:XK):yE  [.ref p] H Q E=(wm  p H Q E):=jM (f:=λ (p:Addr)=>[.ref p]) (λ _ _ h=>by cases h;exact rfl) p
def rF(T:Tx K mg t):%[1,Ez|49] ["axis"] yE:=by
 refine T.F_Ez.ok uN (λ _ _ _ _ h=>jN h λ _=>rfl) %[0|50]
 ·obtain⟨p,rfl,a,hp,k⟩:=h;refine⟨_,%[%[%[%[%[eS,%[0|0],%[0|2],(λ _ _=>rfl)|18],%[(@kO _ _ _ _ _ _ _ _ %[wC,%[eS,%[0|0],%[0|2],(λ _ _=>rfl)|18],%[0|2],(az _)|15] %[eS,%[0|0],%[0|2],(λ _ _=>rfl)|18] %[0|2])|1]|1]|36]|12]|9],?_⟩;rw [show au ["axis"] [.ref p]=[%[p|45]] from rfl];have e1:(bu a).1=a.1:=rfl
  by_cases h1:1 < a.1
  ·have e2:(bu a).2=a.2:=RX h1;rw [e1,e2] at k;ac_rfl;exact λ r H' h e h'=>k r H' h e h'
  ·have e2:(bu a).2=0:=RQ h1;rw [e1,e2] at k;ac_rfl;exact λ r H' h e h'=>k r H' h e h'
abbrev wA  (p:Addr) (H:Hp) (Q:VK) (E:XK):Prop:=∃ axs:%[0|48],bf H p (axL axs)/\fK axs/\∀ H',Ext H H'->Q (.bl true) H'
def yM  : Sp:=λ vs H Q E=>∃ (p:Addr),vs=[.ref p]/\(wA  p H Q E)
def Fj  (p:Addr) (H:Hp) (Q:VK) (E:XK):yM  [.ref p] H Q E=(wA  p H Q E):=jM (f:=λ (p:Addr)=>[.ref p]) (λ _ _ h=>by cases h;exact rfl) p
def uo(T:Tx K mg t):%[5,Zx|49] ["thing"] yM:=by
 have G_ZG:=%[wY|44];refine T.F_Zx.ok xX (λ _ _ _ _ h=>jN h λ _=>rfl) %[0|50]
 ·obtain⟨p,rfl,axs,⟨ys,hp,al⟩,ha,k⟩:=h;refine⟨_,%[%[%[%[isinstance,eM,%[%[0|0],%[(@jj _ _ (.ty "list") (.type "list") _ ∅ T.z_list nofun rfl ⋯ ⋯)|1]|1]|6],%[%[sI,%[len,aB,%[%[0|0]|1]|6],(@gO _ _ (.int 8) _ _ ∅ T.m_MOST_AXES.choose_spec ⟨_,rfl⟩ ⋯),(az _)|34],(@jS _ _ _ _ _ %[all,(iS rfl),%[%[(["axis", "thing"]),(1),(aI (ae gu) ["thing"] rfl rfl nofun),rfl,%[%[0|0]|21],(λ _ _ _ _ _=>%[(0),_,(show List.Nodup (["axis", "thing"]:List Str) from by decide +kernel),rfl,(Or.inl rfl),%[0|7]|19]),(λ _ _ _ _ _=>(@aN _)),(λ _ _ _ _ _=>%[ZG,%[%[0|0]|1]|3]),(by intros;rfl)|22]|1]|6])|35]|35]|12]|9],?_⟩;rw [show au ["thing"] [.ref p]=[%[p|45]] from rfl];have hl:ys.length=axs.length:=by rw [al.1];unfold axL;rw [length_map]
  have a7:(axs.length:Int)<=8:=by have:=ha.1;omega
  ac_rfl;refine aL ys (λ _=>true) (λ _=>.bl true) (λ z x H'=>x=z/\H' p=some (.lst ys)) (dF hp).1 (dF hp).2 (aC %[0|8]) ?_ ?_
  ·intro D z x H' N1 N0 hz hD e ⟨hx,_⟩ k1 _;subst hx;obtain⟨i,hi,rfl⟩:=TB hz;have aa:i < axs.length:=by rw [←hl];exact hi
   obtain⟨q,a3,a4⟩:=al.2 i [axs[i].1,axs[i].2] ys[i] (by unfold axL;rw [getElem?_map,getElem?_eq_getElem aa];rfl) (getElem?_eq_getElem hi);have hb:=ha.2 _ (getElem_mem aa);have a5:=k1 rfl H' (Ext.refl _);have a6:=e.at a4;rw [a3];clear k1 k hp al;simp! only [↓aO,↓aM];rw [Fi];exact⟨axs[i],a6,hb.1,hb.2,a5⟩
  ·intro D H' hD e aS;have a8:H' D=some (.lst ((ys.map λ _=>true).map V.bl)):=by rw [aS,ko,Sv];rfl
   have e2:((ys.map λ _=>true).all id)=true:=by rw [List.all_map];simp
   have k2:=k H' e;clear k aS;ac_rfl
def uG{zs:List (List Int)}{ys:List V}{H:Hp}(al:Al (jc H) zs ys){i:Nat}{y:V}(h:ys[i]? = some y):∃ z,zs[i]? = some z/\jc H z y:=by
 have hi:i < ys.length:=(RG.mp h).1;have hz:zs[i]? = some (zs[i]'(by rw [←al.1];exact hi)):=RE _;exact⟨_,hz,al.2 i _ y hz h⟩
def yY(x:V)(b:Int)(H:Hp)(Q:VK):Bool->Prop:=λ _=>Q (.bl (fO x b)) H
def kJ(x:V)(b:Int)(H:Hp)(Q:VK)(c:Bool):yY x b H Q c=Q (.bl (fO x b)) H:=rfl
def tR  : Sp:=λ vs H Q E=>∃ (x:V) (b:Int),vs=[x,.int b]/\(aJ (isW H x) (yY x b H Q))
def lW  (x:V) (b:Int) (H:Hp) (Q:VK) (E:XK):tR  [x,.int b] H Q E=(aJ (isW H x) (yY x b H Q)):=iu (f:=λ (x:V) (b:Int)=>[x,.int b]) (λ _ _ _ _ h=>by cases h;exact⟨rfl,rfl⟩) x b
def cn(T:Tx K mg t):%[2,rY|49] ["thing", "bound"] tR:=by
 have G_Ni:=%[fe|44];refine T.F_rY.ok jJ (λ _ _ _ _ h=>iw h λ _ _=>rfl) %[0|50]
 ·obtain⟨x,b,rfl,h⟩:=h;obtain⟨c,hw,k⟩:=aq h;rw [kJ] at k;refine⟨_,%[%[%[%[Ni,%[%[0|0]|1]|3],(@jS _ _ _ _ _ (@qo _ _ _ _ _ _ _ _ _ _ _ _ sI Gi %[0|2] %[0|0] %[1|0] ∅))|35]|12]|9],?_⟩;rw [show au ["thing", "bound"] [x,.int b]=[some (x),%[b|47]] from rfl]
  cases x with
  | int i=>
   cases hw;have k':Q (.bl (decide (0<=i) && decide (i < b))) H:=k;clear k h
   by_cases h0:0<=i
   ·rw [R7 h0,Bool.true_and] at k';simp! only [↓bQ]
   ·rw [R6 h0,Uo] at k';simp! only [↓bQ]
  | bl i=>cases hw;have k':Q (.bl false) H:=k;clear k h;simp! only [↓bQ]
  | non=>cases hw;have k':Q (.bl false) H:=k;clear k h;simp! only [↓bQ]
  | str i=>cases hw;have k':Q (.bl false) H:=k;clear k h;simp! only [↓bQ]
  | ref p=>
   obtain⟨rfl,o,ho,ht⟩:=oh hw;have k':Q (.bl false) H:=k;clear k h;simp! only [↓bQ]
  | _=>cases hw
def kPl(x:V)(H:Hp)(Q:VK):List Int->Prop:=λ ns=>sP H x/\∀ H',Ext H H'->Q (.bl (p7 ns x H)) H'
def OR(x:V)(H:Hp)(Q:VK)(ns:List Int):kPl x H Q ns=(sP H x/\∀ H',Ext H H'->Q (.bl (p7 ns x H)) H'):=rfl
def lH  : Sp:=λ vs H Q E=>∃ (p:Addr) (x:V),vs=[.ref p,x]/\(aJ (aF H p) (mR (kSz (kPl x H Q))))
def uM  (p:Addr) (x:V) (H:Hp) (Q:VK) (E:XK):lH  [.ref p,x] H Q E=(aJ (aF H p) (mR (kSz (kPl x H Q)))):=iu (f:=λ (p:Addr) (x:V)=>[.ref p,x]) (λ _ _ _ _ h=>by cases h;exact⟨rfl,rfl⟩) p x
def um(T:Tx K mg t):%[3,Zw|49] ["sizes", "thing"] lH:=by
 have G_rY:=%[cn|44];refine T.F_Zw.ok xW (λ _ _ _ _ h=>iw h λ _ _=>rfl) %[0|50]
 ·obtain⟨p,x,rfl,h⟩:=h;obtain⟨a6,hp,ns,rfl,hs,hk,k⟩:=aq h;replace hp:=bO hp;refine⟨_,%[%[(PW.pt %[%[%[%[isinstance,eM,%[%[1|0],%[(@jj _ _ (.ty "tuple") (.type "tuple") _ ∅ T.z_tuple nofun rfl ⋯ ⋯)|1]|1]|6],(by intros;rfl)|31]|30],(@gD _ _ _ _ %[(dG hr.units),%[len,aB,%[%[1|0]|1]|6],%[len,aB,%[%[0|0]|1]|6],(az _)|15])|37]),%[%[(@ku _ _ _ _)|12]|9],(@aA _)|17],%[%[%[all,(iS rfl),%[%[(["number", "size", "sizes", "thing"]),(2),(aI (ae gr) ["sizes", "thing"] rfl rfl nofun),rfl,%[∅,T.z_zip,%[%[1|0],%[%[0|0]|1]|1],∅,∅|41],(λ _ _ _ _ _=>(%[(2),rfl,%[%[(0),_,(show List.Nodup (["number", "size", "sizes", "thing"]:List Str) from by decide +kernel),rfl,(Or.inl rfl),%[0|7]|19],%[%[(1),_,(show List.Nodup (["number", "size", "sizes", "thing"]:List Str) from by decide +kernel),rfl,(Or.inl rfl),%[0|7]|19],(@aK _),∅|16],∅|16],∅,∅|26].mono λ _ _ _ _ h=>bP h)),(λ _ _ _ _ _=>(@aN _)),(λ _ _ _ _ _=>%[rY,%[%[0|0],%[%[1|0]|1]|1]|3]),(by intros;rfl)|22]|1]|6]|12]|9]|10],?_⟩;rw [show au ["sizes", "thing"] [.ref p,x]=[%[p|45],some (x)] from rfl]
  cases x with
  | int i=>have k':Q (.bl false) H:=k H (Ext.refl _);clear k h;ac_rfl
  | bl i=>have k':Q (.bl false) H:=k H (Ext.refl _);clear k h;ac_rfl
  | non=>have k':Q (.bl false) H:=k H (Ext.refl _);clear k h;ac_rfl
  | str i=>have k':Q (.bl false) H:=k H (Ext.refl _);clear k h;ac_rfl
  | ref q=>
   obtain⟨b,hb⟩:=Tu.mp hk.1;obtain⟨rfl,o,ho,ht⟩:=oh hb;have aS:p7 ns (.ref q) H=p6 ns (some o):=by rw [←ho];rfl
   rw [aS] at k;clear aS h hb
   cases o with
   | tup xs=>
    by_cases hl:xs.length=ns.length
    ·have aa:p6 ns (some (.tup xs))=(xs.zip ns).all λ p=>fO p.1 p.2:=by show (decide _ && _)=_;rw [R7 hl,Bool.true_and]
     rw [aa] at k;clear aa ht;ac_rfl;refine aL (xs.zip (ns.map V.int)) (λ _=>true) (λ z=>.bl (fO z.1 (vi z.2))) JP (p0 (ka:=true) (kb:=false) ho hp).1 (p0 (ka:=true) (kb:=false) ho hp).2 (of_eq_true (Kx _ (by have:=hs.1;rw [TM,RH];omega))) ?_ ?_
     ·intro D z y H' N1 N0 hz hD e ⟨r,a4,a7⟩ k1 _;subst a4;obtain⟨x0,n0⟩:=z;have hm:=UX hz;obtain⟨n,_,rfl⟩:=RW.mp hm.2;obtain⟨c,hc⟩:=Tu.mp (hk.2 q xs rfl ho x0 hm.1);have a8:=Jk e hc;have a5:=k1 rfl H' (Ext.refl _);rw [show vi (V.int n,()).1=n from rfl] at a5;clear k1 k hc hm hz;simp! only [↓ek,↓aM,↓lW,↓kJ]
     ·intro D H' hD e a3
      have a9:H' D=some (.lst (((xs.zip ns).map λ p=>fO p.1 p.2).map V.bl)):=by
       rw [a3,ko,Qc,Sv,Sv];rfl
      have k2:=k H' e;have e2:(((xs.zip ns).map λ p=>fO p.1 p.2).all id)=(xs.zip ns).all λ p=>fO p.1 p.2:=by rw [List.all_map];rfl
      clear k a3;ac_rfl
    ·have aa:p6 ns (some (.tup xs))=false:=by show (decide _ && _)=_;rw [R6 hl,Uo]
     rw [aa] at k;have k':=k H (Ext.refl _);have ba:¬ ((xs.length:Int)=(ns.length:Int)):=by omega
     clear k aa;ac_rfl
   | lst xs=>have k':Q (.bl false) H:=k H (Ext.refl _);clear k;ac_rfl
   | dK xs=>have k':Q (.bl false) H:=k H (Ext.refl _);clear k;ac_rfl
   | dT xs=>have k':Q (.bl false) H:=k H (Ext.refl _);clear k ht;have ht:tyO (.dT xs)=some "dict":=rfl;ac_rfl
   | frz ob u=>
    cases u with
    | lst ys=>have k':Q (.bl false) H:=k H (Ext.refl _);clear k ht;have ht:tyO (.frz ob (.lst ys))=some "list":=rfl;ac_rfl
    | _=>rcases ht with ht|ht|ht<;>cases ht
   | _=>rcases ht with ht|ht|ht<;>cases ht
  | _=>cases hk.1
abbrev wg(cT:Addr)(n:Int)(H:Hp)(Q:VK)(E:XK):Prop:=(n<=4096->Q .non H)/\¬ 4096 < n
def yC(cT:Addr):Sp:=λ vs H Q E=>∃ (n:Int),vs=[.int n]/\(wg cT n H Q E)
def oR(cT:Addr)(n:Int)(H:Hp)(Q:VK)(E:XK):yC cT [.int n] H Q E=(wg cT n H Q E):=jM (f:=λ (n:Int)=>[.int n]) (λ _ _ h=>by cases h;exact rfl) n
def eD(T:Tx K mg t):%[3,Bv|49] ["count"] (yC t.a_ZP):=by
 refine T.F_Bv.ok pI (λ _ _ _ _ h=>jN h λ _=>rfl) %[0|50]
 ·obtain⟨n,rfl,k1,hn⟩:=h;refine⟨_,%[%[%[wC,%[0|0],(@gO _ _ (.int 4096) _ _ ∅ T.m_MOST_TOLD.choose_spec ⟨_,rfl⟩ ⋯),(az _)|15],%[(@bV _ _)|9],(@aA _)|17]|9],?_⟩;rw [show au ["count"] [.int n]=[%[n|47]] from rfl];have aa:=k1 %[0|8];clear k1;ac_rfl
def Rc(x:Int):min 0 x=if x < 0 then x else 0:=by split<;>omega
def Rf(x:Int):max 0 x=if 0 < x then x else 0:=by split<;>omega
structure aw(C:Addr)(H:Hp)(v:Addr)(room first:Int)(axs:%[0|48]):Prop where
 ob:∃ dx l,H v=some (.ins C dx (eT room first l))/\bf H l (axL axs)
def aw.ext{C:Addr}{H H':Hp}{v:Addr}{room first:Int}{axs:%[0|48]}(h:aw C H v room first axs)(e:Ext H H'):aw C H' v room first axs:=by
 obtain⟨dx,l,h1,h2⟩:=h.ob;exact⟨⟨dx,l,e.at h1,h2.ext e⟩⟩
def Gj{m:Str}(h:m∈([("sizes":Str), "paces", "count", "cell", "cell_at", "cells", "least", "greatest"]:List Str)):¬ m = "axes" /\ ¬ m = "first" /\ ¬ m = "room":=by
 revert m
 decide +kernel
def vn(room first:Int)(l:Addr){m:Str}(h:m∈([("sizes":Str), "paces", "count", "cell", "cell_at", "cells", "least", "greatest"]:List Str)):(eT room first l).lookup m=none:=oo room first l (Gj h).1 (Gj h).2.1 (Gj h).2.2
def KU{H:Hp}{axs:%[0|48]}{ys:List V}(al:Al (jc H) (axL axs) ys){i:Nat}{y:V}(h:ys[i]? = some y):∃ a q,axs[i]? = some a/\y=.ref q/\H q=some (.tup [.int a.1,.int a.2]):=by
 obtain⟨z,hz,q,hq,aa⟩:=uG al h;unfold axL at hz;rw [getElem?_map] at hz;obtain⟨a,ha,rfl⟩:=Option.map_eq_some_iff.mp hz;exact⟨a,q,ha,hq,aa⟩
abbrev qV(C:Addr)(v:Addr)(H:Hp)(Q:VK)(E:XK):Prop:=∃ (room first:Int) (axs:%[0|48]),aw C H v room first axs/\fK axs/\∀ H',Ext H H'->Q (.int (first+aP axs)) H'
def nY(C:Addr):Sp:=λ vs H Q E=>∃ (v:Addr),vs=[.ref v]/\(qV C v H Q E)
def Cp(C:Addr)(v:Addr)(H:Hp)(Q:VK)(E:XK):nY C [.ref v] H Q E=(qV C v H Q E):=jM (f:=λ (v:Addr)=>[.ref v]) (λ _ _ h=>by cases h;exact rfl) v
def pd(T:Tx K mg t):%[1,BH|49] ["self"] (nY t.a_ZZ):=by
 refine T.F_BH.ok su (λ _ _ _ _ h=>jN h λ _=>rfl) %[0|50]
 ·obtain⟨v,rfl,room,first,axs,vo,aa,k⟩:=h;obtain⟨dx,l,hv,ys,hl,al⟩:=vo.ob;have c1:=T.cl_View;have c2:=T.na_View_first;have c3:=T.na_View_axes
  have f1:=eW room first l
  have f2:=eN room first l
  refine⟨_,%[%[%[bM,%[%[0|0],rfl|13],%[sum,(lT rfl),%[%[(["size", "pace", "self"]),(2),(aI (ae dQ) ["self"] rfl rfl nofun),rfl,%[%[%[0|0],rfl|13]|21],(λ _ _ _ _ _=>(%[(2),rfl,%[%[(0),_,(show List.Nodup (["size", "pace", "self"]:List Str) from by decide +kernel),rfl,(Or.inl rfl),%[0|7]|19],%[%[(1),_,(show List.Nodup (["size", "pace", "self"]:List Str) from by decide +kernel),rfl,(Or.inl rfl),%[0|7]|19],(@aK _),∅|16],∅|16],∅,∅|26].mono λ _ _ _ _ h=>bP h)),(λ _ _ _ _ _=>(@aN _)),(λ _ _ _ _ _=>%[min,(qB rfl),%[%[0|2],%[%[gE,%[fA,%[0|0],%[0|2]|11],%[1|0]|11]|1]|1]|6]),(by intros;rfl)|22]|1]|6]|11]|12]|9],?_⟩;rw [show au ["self"] [.ref v]=[%[v|45]] from rfl];ac_rfl;have wk:=kr (K:=K) (R:=axP) (λ _ _ _ _ h e=>h.ext e) hl (m9 al);refine aL axs (λ _=>true) (λ a=>.int (min 0 ((a.1 - 1) * a.2))) axP wk.1 wk.2 (aC (by have:=aa.1;omega)) ?_ ?_
  ·intro D a x H' N1 N0 ha hD e ⟨q,hx,hq⟩ k1 _;subst hx;have hb:=aa.2 a ha;have a3:=k1 rfl H' (Ext.refl _);have a4:ye (a.1 - 1) a.2:=.inl ⟨by omega,by omega⟩;rw [Rc] at a3;clear k1 k;simp! only [↓ek,↓aM]
  ·intro D H' hD e aS;have a5:H' D=some (.lst ((axs.map λ a=>min 0 ((a.1 - 1) * a.2)).map V.int)):=by rw [aS,ko,Sv];rfl
   have k2:Q (.int (first+(axs.map λ a=>min 0 ((a.1 - 1) * a.2)).sum)) H':=k H' e;clear k aS;ac_rfl
abbrev kj(C:Addr)(v:Addr)(H:Hp)(Q:VK)(E:XK):Prop:=∃ (room first:Int) (axs:%[0|48]),aw C H v room first axs/\fK axs/\∀ H',Ext H H'->Q (.int (first+aQ axs)) H'
def jm(C:Addr):Sp:=λ vs H Q E=>∃ (v:Addr),vs=[.ref v]/\(kj C v H Q E)
def sf(C:Addr)(v:Addr)(H:Hp)(Q:VK)(E:XK):jm C [.ref v] H Q E=(kj C v H Q E):=jM (f:=λ (v:Addr)=>[.ref v]) (λ _ _ h=>by cases h;exact rfl) v
def ky(T:Tx K mg t):%[1,xw|49] ["self"] (jm t.a_ZZ):=by
 refine T.F_xw.ok my (λ _ _ _ _ h=>jN h λ _=>rfl) %[0|50]
 ·obtain⟨v,rfl,room,first,axs,vo,aa,k⟩:=h;obtain⟨dx,l,hv,ys,hl,al⟩:=vo.ob;have c1:=T.cl_View;have c2:=T.na_View_first;have c3:=T.na_View_axes
  have f1:=eW room first l
  have f2:=eN room first l
  refine⟨_,%[%[%[bM,%[%[0|0],rfl|13],%[sum,(lT rfl),%[%[(["size", "pace", "self"]),(2),(aI (ae cg) ["self"] rfl rfl nofun),rfl,%[%[%[0|0],rfl|13]|21],(λ _ _ _ _ _=>(%[(2),rfl,%[%[(0),_,(show List.Nodup (["size", "pace", "self"]:List Str) from by decide +kernel),rfl,(Or.inl rfl),%[0|7]|19],%[%[(1),_,(show List.Nodup (["size", "pace", "self"]:List Str) from by decide +kernel),rfl,(Or.inl rfl),%[0|7]|19],(@aK _),∅|16],∅|16],∅,∅|26].mono λ _ _ _ _ h=>bP h)),(λ _ _ _ _ _=>(@aN _)),(λ _ _ _ _ _=>%[max,(iR rfl),%[%[0|2],%[%[gE,%[fA,%[0|0],%[0|2]|11],%[1|0]|11]|1]|1]|6]),(by intros;rfl)|22]|1]|6]|11]|12]|9],?_⟩;rw [show au ["self"] [.ref v]=[%[v|45]] from rfl];ac_rfl;have wk:=kr (K:=K) (R:=axP) (λ _ _ _ _ h e=>h.ext e) hl (m9 al);refine aL axs (λ _=>true) (λ a=>.int (max 0 ((a.1 - 1) * a.2))) axP wk.1 wk.2 (aC (by have:=aa.1;omega)) ?_ ?_
  ·intro D a x H' N1 N0 ha hD e ⟨q,hx,hq⟩ k1 _;subst hx;have hb:=aa.2 a ha;have a3:=k1 rfl H' (Ext.refl _);have a4:ye (a.1 - 1) a.2:=.inl ⟨by omega,by omega⟩;rw [Rf] at a3;clear k1 k;simp! only [↓ek,↓aM]
  ·intro D H' hD e aS;have a5:H' D=some (.lst ((axs.map λ a=>max 0 ((a.1 - 1) * a.2)).map V.int)):=by rw [aS,ko,Sv];rfl
   have k2:Q (.int (first+(axs.map λ a=>max 0 ((a.1 - 1) * a.2)).sum)) H':=k H' e;clear k aS;ac_rfl
def Qx(H:Hp)(Q:VK)(f:Int × Int->Int)(axs:%[0|48]):Prop:=∀ (r:Addr) (H':Hp),H r=none->Ext H H'->H' r=some (.lst ((axs.map f).map V.int))->Q (.ref r) H'
abbrev nK(C:Addr)(v:Addr)(H:Hp)(Q:VK)(E:XK):Prop:=∃ (room first:Int) (axs:%[0|48]),aw C H v room first axs/\axs.length<=8/\Qx H Q (λ a=>a.1) axs
def ou(C:Addr):Sp:=λ vs H Q E=>∃ (v:Addr),vs=[.ref v]/\(nK C v H Q E)
def jA(C:Addr)(v:Addr)(H:Hp)(Q:VK)(E:XK):ou C [.ref v] H Q E=(nK C v H Q E):=jM (f:=λ (v:Addr)=>[.ref v]) (λ _ _ h=>by cases h;exact rfl) v
def fq(T:Tx K mg t):%[1,BD|49] ["self"] (ou t.a_ZZ):=by
 refine T.F_BD.ok sk (λ _ _ _ _ h=>jN h λ _=>rfl) %[0|50]
 ·obtain⟨v,rfl,room,first,axs,vo,aS,k⟩:=h;obtain⟨dx,l,hv,ys,hl,al⟩:=vo.ob;have c1:=T.cl_View;have c3:=T.na_View_axes
  have f2:=eN room first l
  refine⟨_,%[%[%[(["size", "pace", "self"]),(2),(aI (ae dO) ["self"] rfl rfl nofun),rfl,%[%[%[0|0],rfl|13]|21],(λ _ _ _ _ _=>(%[(2),rfl,%[%[(0),_,(show List.Nodup (["size", "pace", "self"]:List Str) from by decide +kernel),rfl,(Or.inl rfl),%[0|7]|19],%[%[(1),_,(show List.Nodup (["size", "pace", "self"]:List Str) from by decide +kernel),rfl,(Or.inl rfl),%[0|7]|19],(@aK _),∅|16],∅|16],∅,∅|26].mono λ _ _ _ _ h=>bP h)),(λ _ _ _ _ _=>(@aN _)),(λ _ _ _ _ _=>%[0|0]),(by intros;rfl)|22]|12]|9],?_⟩;rw [show au ["self"] [.ref v]=[%[v|45]] from rfl];ac_rfl;have wk:=kr (K:=K) (R:=axP) (λ _ _ _ _ h e=>h.ext e) hl (m9 al);refine aL axs (λ _=>true) (λ a=>.int a.1) axP wk.1 wk.2 (aC %[0|8]) ?_ ?_
  ·intro D a x H' N1 N0 ha hD e ⟨q,hx,hq⟩ k1 _;subst hx;have a3:=k1 rfl H' (Ext.refl _);clear k1 k;simp! only [↓ek,↓aM]
  ·intro D H' hD e aa;exact k D H' hD e (by rw [aa,ko,Sv];rfl)
abbrev nL(C:Addr)(v:Addr)(H:Hp)(Q:VK)(E:XK):Prop:=∃ (room first:Int) (axs:%[0|48]),aw C H v room first axs/\axs.length<=8/\Qx H Q (λ a=>a.2) axs
def ow(C:Addr):Sp:=λ vs H Q E=>∃ (v:Addr),vs=[.ref v]/\(nL C v H Q E)
def xQ(C:Addr)(v:Addr)(H:Hp)(Q:VK)(E:XK):ow C [.ref v] H Q E=(nL C v H Q E):=jM (f:=λ (v:Addr)=>[.ref v]) (λ _ _ h=>by cases h;exact rfl) v
def o9(T:Tx K mg t):%[1,BE|49] ["self"] (ow t.a_ZZ):=by
 refine T.F_BE.ok sr (λ _ _ _ _ h=>jN h λ _=>rfl) %[0|50]
 ·obtain⟨v,rfl,room,first,axs,vo,aS,k⟩:=h;obtain⟨dx,l,hv,ys,hl,al⟩:=vo.ob;have c1:=T.cl_View;have c3:=T.na_View_axes
  have f2:=eN room first l
  refine⟨_,%[%[%[(["size", "pace", "self"]),(2),(aI (ae dP) ["self"] rfl rfl nofun),rfl,%[%[%[0|0],rfl|13]|21],(λ _ _ _ _ _=>(%[(2),rfl,%[%[(0),_,(show List.Nodup (["size", "pace", "self"]:List Str) from by decide +kernel),rfl,(Or.inl rfl),%[0|7]|19],%[%[(1),_,(show List.Nodup (["size", "pace", "self"]:List Str) from by decide +kernel),rfl,(Or.inl rfl),%[0|7]|19],(@aK _),∅|16],∅|16],∅,∅|26].mono λ _ _ _ _ h=>bP h)),(λ _ _ _ _ _=>(@aN _)),(λ _ _ _ _ _=>%[1|0]),(by intros;rfl)|22]|12]|9],?_⟩;rw [show au ["self"] [.ref v]=[%[v|45]] from rfl];ac_rfl;have wk:=kr (K:=K) (R:=axP) (λ _ _ _ _ h e=>h.ext e) hl (m9 al);refine aL axs (λ _=>true) (λ a=>.int a.2) axP wk.1 wk.2 (aC %[0|8]) ?_ ?_
  ·intro D a x H' N1 N0 ha hD e ⟨q,hx,hq⟩ k1 _;subst hx;have a3:=k1 rfl H' (Ext.refl _);clear k1 k;simp! only [↓ek,↓aM]
  ·intro D H' hD e aa;exact k D H' hD e (by rw [aa,ko,Sv];rfl)
abbrev nM(C:Addr)(v:Addr)(H:Hp)(Q:VK)(E:XK):Prop:=∃ (room first:Int) (axs:%[0|48]),aw C H v room first axs/\fK axs/\∀ H',Ext H H'->Q (.int (av (axs.map λ a=>a.1))) H'
def oy(C:Addr):Sp:=λ vs H Q E=>∃ (v:Addr),vs=[.ref v]/\(nM C v H Q E)
def eO(C:Addr)(v:Addr)(H:Hp)(Q:VK)(E:XK):oy C [.ref v] H Q E=(nM C v H Q E):=jM (f:=λ (v:Addr)=>[.ref v]) (λ _ _ h=>by cases h;exact rfl) v
def cf(T:Tx K mg t):%[2,BF|49] ["self"] (oy t.a_ZZ):=by
 have G_BD:=%[fq|44];have G_Zu:=%[md|44];refine T.F_BF.ok sv (λ _ _ _ _ h=>jN h λ _=>rfl) %[0|50]
 ·obtain⟨v,rfl,room,first,axs,vo,aa,k⟩:=h;obtain⟨dx,l,hv,_⟩:=vo.ob
  have f3:=vn room first l (m := "sizes") nofun
  refine⟨_,%[%[%[Zu,%[%[%[0|0],T.cl_View,T.mt_View_sizes,G_BD,(hr.mono ⋯),T.b_BD,.nil,ay,∅|25]|1]|3]|12]|9],?_⟩;rw [show au ["self"] [.ref v]=[%[v|45]] from rfl];ac_rfl;rw [jA];refine⟨room,first,axs,vo,aa.1,λ r H' aS e h'=>?_⟩;have k':=k H' e;have hsz:=aa.sizes;clear k;simp! only [↓qH,↓Gr,↓yr]
def sR(C:Addr):Sp:=λ vs H Q E=>∃ (x:Addr) (room:Int) (first:Int) (l:Addr),vs=[.ref x,.int room,.int first,.ref l]/\(∃ (dx:Addr) (axs:%[0|48]),H x=some (.ins C dx [])/\bf H l (axL axs)/\nc room first axs/\∀ (H':Hp) (D:Addr),(∀ H0,Ext H0 H->H0 x=none->Ext H0 H')->H D=none->H' x=some (.ins C dx (eT room first D))->bf H' D (axL (axs.map bu))->Q .non H')
def iT(C:Addr)(x:Addr)(room:Int)(first:Int)(l:Addr)(H:Hp)(Q:VK)(E:XK):sR C [.ref x,.int room,.int first,.ref l] H Q E=(∃ (dx:Addr) (axs:%[0|48]),H x=some (.ins C dx [])/\bf H l (axL axs)/\nc room first axs/\∀ (H':Hp) (D:Addr),(∀ H0,Ext H0 H->H0 x=none->Ext H0 H')->H D=none->H' x=some (.ins C dx (eT room first D))->bf H' D (axL (axs.map bu))->Q .non H'):=NZ (f:=λ (x:Addr) (room:Int) (first:Int) (l:Addr)=>[.ref x,.int room,.int first,.ref l]) (λ _ _ _ _ _ _ _ _ h=>by cases h;exact⟨rfl,rfl,rfl,rfl⟩) x room first l
def bX(T:Tx K mg t):%[6,xu|49] ["self", "room", "first", "axes"] (sR t.a_ZZ):=by
 have G_Ey:=%[jY|44];have G_Ni:=%[fe|44];have G_Zx:=%[uo|44];have G_Ez:=%[rF|44];have G_BH:=%[pd|44];have G_xw:=%[ky|44];refine T.F_xu.ok mz (λ _ _ _ _ h=>N2 h λ _ _ _ _=>rfl) %[0|50]
 ·obtain⟨x,room,first,l,rfl,dx,axs,hx,tl,aa,k⟩:=h;have c1:=T.cl_View;have c2:=T.na_View_first;have c3:=T.na_View_axes;have c4:=T.na_View_room;refine⟨_,%[%[(PW.pt %[%[%[%[Ey,%[%[1|0],%[%[0|2],%[(@gO _ _ (.int 1000000000000000000) _ _ ∅ T.m_MOST_ROOM.choose_spec ⟨_,rfl⟩ ⋯)|1]|1]|1]|3],(by intros;rfl)|31]|30],%[%[%[%[Ni,%[%[2|0]|1]|3],(by intros;rfl)|31]|30],(@gD _ _ _ _ %[%[%[Zx,%[%[3|0]|1]|3],(by intros;rfl)|31]|30])|37]|37]),%[(@bV _ _)|9],(@aA _)|17],%[%[%[0|0],%[1|0],rfl|28],%[%[%[0|0],%[2|0],rfl|28],%[%[%[0|0],%[(["axis", "self", "room", "first", "axes"]),(1),(aI (ae cj) ["self", "room", "first", "axes"] rfl rfl nofun),rfl,%[%[3|0]|21],(λ _ _ _ _ _=>%[(0),_,(show List.Nodup (["axis", "self", "room", "first", "axes"]:List Str) from by decide +kernel),rfl,(Or.inl rfl),%[0|7]|19]),(λ _ _ _ _ _=>(@aN _)),(λ _ _ _ _ _=>%[Ez,%[%[0|0]|1]|3]),(by intros;rfl)|22],rfl|28],%[%[(PW.pt %[%[Gi,%[%[0|0],T.cl_View,T.mt_View_least,G_BH,(hr.mono ⋯),T.b_BH,.nil,ay,∅|25],%[0|2],(az _)|15],(@gD _ _ _ _ %[Kq,%[%[0|0],T.cl_View,T.mt_View_greatest,G_xw,(hr.mono ⋯),T.b_xw,.nil,ay,∅|25],%[1|0],(az _)|15])|37]),%[(@bV _ _)|9],(@aA _)|17]|9]|10]|10]|10]|10],?_⟩;rw [show au ["self", "room", "first", "axes"] [.ref x,.int room,.int first,.ref l]=[%[x|45],%[room|47],%[first|47],%[l|45]] from rfl];have r1:=aa.r1;have r2:=aa.r2;simp! only [↓nG,↓bQ];rw [Fj];refine⟨axs,tl,aa.ax,λ H1 e1=>?_⟩;have a3:=e1.at hx;have b5:=tl.ext e1;clear hx tl;ac_rfl;refine⟨(show (1:Nat) < 1000 by decide),?_⟩;obtain⟨ys,aS,a8⟩:=b5;have b8:l ≠ x:=λ z=>by rw [z,a3] at aS;cases aS
  have a4:(upd H1 x (HO.ins t.a_ZZ dx (bT "first" (V.int first) (bT "room" (V.int room) [])))) x=some (HO.ins t.a_ZZ dx (bT "first" (V.int first) (bT "room" (V.int room) []))):=ai
  have a9:(upd H1 x (HO.ins t.a_ZZ dx (bT "first" (V.int first) (bT "room" (V.int room) [])))) l=some (.lst ys):=by rw [ah b8];exact aS
  have ba:Al (λ a y=>axP a y (upd H1 x (HO.ins t.a_ZZ dx (bT "first" (V.int first) (bT "room" (V.int room) []))))) axs ys:=(m9 a8).imp λ a y ⟨q,hy,hq⟩=>⟨q,hy,by rw [ah (λ z=>by rw [z,a3] at hq;cases hq)];exact hq⟩;have b2:∀ H0,Ext H0 H->H0 x=none->Ext H0 (upd H1 x (HO.ins t.a_ZZ dx (bT "first" (V.int first) (bT "room" (V.int room) [])))):=λ H0 q0 q1=>(q0.trans e1).put q1
  have b3:∀ b,b ≠ x->(upd H1 x (HO.ins t.a_ZZ dx (bT "first" (V.int first) (bT "room" (V.int room) [])))) b=none->H b=none:=λ b hb q=>by rw [ah hb] at q;exact e1.free q
  generalize upd H1 x (HO.ins t.a_ZZ dx (bT "first" (V.int first) (bT "room" (V.int room) [])))=H2 at a4 a9 ba b2 b3;clear aS a8 a3;ac_rfl;have wk:=kr (K:=K) (R:=axP) (λ _ _ _ _ h e=>h.ext e) a9 ba;refine oO axs (λ _=>true) axP (λ D a y H'=>∃ q,y=.ref q/\q ≠ D/\H' q=some (.tup [.int (bu a).1,.int (bu a).2])) wk.1 wk.2 (λ D _ y H1 H2 ⟨q,h1,h2,h3⟩ e=>⟨q,h1,h2,e.at h3⟩) (λ D _ y H1 o ⟨q,h1,h2,h3⟩=>⟨q,h1,h2,by rw [ah h2];exact h3⟩) (aC (by have:=aa.ax.1;omega)) ?_ ?_
  ·intro D a y H' N1 N0 ha hD e ⟨c0,bp⟩ ⟨q,hy,hq⟩ k1 _;subst hy;have cb:=k1 rfl;clear k1 k;simp! only [↓aO,↓aM];rw [Fg];exact⟨a,hq,λ r H'' bS e' h'=>cb _ H'' e' ⟨r,rfl,(λ z=>by rw [z,bp] at bS;cases bS),h'⟩⟩
  ·intro D zs H3 hD e3 cv a5;rw [ko] at a5;have cD:=e3.at a4;have b1:D ≠ x:=λ z=>by rw [z,a4] at hD;cases hD
   clear wk;ac_rfl;refine⟨(show (2:Nat) < 1000 by decide),?_⟩
   have tt:bf (upd H3 x (HO.ins t.a_ZZ dx (eT room first D))) D (axL (axs.map bu)):=by
    refine⟨zs,by rw [ah b1];exact cv,?_,λ i z y hz hy=>?_⟩
    ·rw [a5.1];unfold axL;rw [length_map,length_map]
    ·unfold axL at hz;rw [map_map,getElem?_map] at hz;obtain⟨a,ha,rfl⟩:=Option.map_eq_some_iff.mp hz;obtain⟨q,cH,_,a6⟩:=a5.2 i a y ha hy;exact⟨q,cH,by rw [ah (λ z=>by rw [z,cD] at a6;cases a6)];exact a6⟩
   have b4:∀ H0,Ext H0 H->H0 x=none->Ext H0 (upd H3 x (HO.ins t.a_ZZ dx (eT room first D))):=λ H0 q0 q1=>((b2 H0 q0 q1).trans e3).put q1;have a7:(upd H3 x (HO.ins t.a_ZZ dx (eT room first D))) x=some (HO.ins t.a_ZZ dx (eT room first D)):=ai
   have f1:=vn room first D (m := "least") nofun
   have f2:=vn room first D (m := "greatest") nofun
   refine⟨f1,?_⟩
   show nY t.a_ZZ [V.ref x] (upd H3 x (HO.ins t.a_ZZ dx (eT room first D))) _ _
   generalize upd H3 x (HO.ins t.a_ZZ dx (eT room first D))=H4 at tt b4 a7
   have vo:aw t.a_ZZ H4 x room first (axs.map bu):=⟨dx,D,a7,tt⟩
   rw [Cp];refine⟨room,first,axs.map bu,vo,aa.ax.kept,λ H5 e5=>?_⟩
   have c5:¬ first+aP (axs.map bu) < 0:=by have:=aa.lo;omega
   have cT:=e5.at a7;ac_rfl;rw [sf];refine⟨room,first,axs.map bu,vo.ext e5,aa.ax.kept,λ H6 e6=>?_⟩
   have c6:¬ room<=first+aQ (axs.map bu):=by have:=aa.hi;omega
   have k':=k H6 D (λ H0 q0 q1=>((b4 H0 q0 q1).trans e5).trans e6) (b3 D b1 hD) (e6.at cT) ((tt.ext e5).ext e6);clear k;ac_rfl
abbrev wy(C:Addr)(v:Addr)(q:Addr)(H:Hp)(Q:VK)(E:XK):Prop:=∃ (room first:Int) (axs:%[0|48]) (ys:List Int),aw C H v room first axs/\fK axs/\H q=some (.tup (ys.map V.int))/\InR (axs.map λ a=>a.1) ys/\∀ H',Ext H H'->Q (.int (first+gL ys (axs.map λ a=>a.2))) H'
def yK(C:Addr):Sp:=λ vs H Q E=>∃ (v:Addr) (q:Addr),vs=[.ref v,.ref q]/\(wy C v q H Q E)
def vU(C:Addr)(v:Addr)(q:Addr)(H:Hp)(Q:VK)(E:XK):yK C [.ref v,.ref q] H Q E=(wy C v q H Q E):=iu (f:=λ (v:Addr) (q:Addr)=>[.ref v,.ref q]) (λ _ _ _ _ h=>by cases h;exact⟨rfl,rfl⟩) v q
def rL(T:Tx K mg t):%[4,EA|49] ["self", "place"] (yK t.a_ZZ):=by
 have G_Zw:=%[um|44];have G_BD:=%[fq|44];have G_BE:=%[o9|44];refine T.F_EA.ok uR (λ _ _ _ _ h=>iw h λ _ _=>rfl) %[0|50]
 ·obtain⟨v,q,rfl,room,first,axs,ys,vo,aa,hq,hy,aS⟩:=h;obtain⟨dx,l,hv,_⟩:=vo.ob;have c1:=T.cl_View;have c2:=T.na_View_first
  have f1:=eW room first l
  have f3:=vn room first l (m := "sizes") nofun
  have f4:=vn room first l (m := "paces") nofun
  refine⟨_,%[%[%[%[%[Zw,%[%[%[0|0],T.cl_View,T.mt_View_sizes,G_BD,(hr.mono ⋯),T.b_BD,.nil,ay,∅|25],%[%[1|0]|1]|1]|3],(by intros;rfl)|31]|30],%[(@bV _ _)|9],(@aA _)|17],%[%[%[bM,%[%[0|0],rfl|13],%[sum,(lT rfl),%[%[(["number", "pace", "self", "place"]),(2),(aI (ae eZ) ["self", "place"] rfl rfl nofun),rfl,%[∅,T.z_zip,%[%[1|0],%[%[%[0|0],T.cl_View,T.mt_View_paces,G_BE,(hr.mono ⋯),T.b_BE,.nil,ay,∅|25]|1]|1],∅,∅|41],(λ _ _ _ _ _=>(%[(2),rfl,%[%[(0),_,(show List.Nodup (["number", "pace", "self", "place"]:List Str) from by decide +kernel),rfl,(Or.inl rfl),%[0|7]|19],%[%[(1),_,(show List.Nodup (["number", "pace", "self", "place"]:List Str) from by decide +kernel),rfl,(Or.inl rfl),%[0|7]|19],(@aK _),∅|16],∅|16],∅,∅|26].mono λ _ _ _ _ h=>bP h)),(λ _ _ _ _ _=>(@aN _)),(λ _ _ _ _ _=>%[gE,%[0|0],%[1|0]|11]),(by intros;rfl)|22]|1]|6]|11]|12]|9]|10],?_⟩;rw [show au ["self", "place"] [.ref v,.ref q]=[%[v|45],%[q|45]] from rfl];clear G_Zw G_BD G_BE;have hsz:=aa.sizes;ac_rfl;rw [jA];refine⟨room,first,axs,vo,aa.1,λ r H1 a9 e1 h1=>?_⟩;have a5:=e1.at hv;have ba:=rC (e1.at hq);have bp:p7 (axs.map λ a=>a.1) (.ref q) H1=true:=Aw (e1.at hq) hy;have a6:=e1.at hq;clear hq;simp! only [↓uM,↓Gr,↓OR];intro H2 e2;have a7:=e2.at a5;have a8:=e2.at a6;ac_rfl;rw [xQ];refine⟨room,first,axs,vo.ext (e1.trans e2),aa.1,λ r3 H3 bS e3 h3=>?_⟩;have a3:=e3.at a8;ac_rfl;have b1:=hy.len;have h8:=aa.1;refine aL ((ys.map V.int).zip ((axs.map λ a=>a.2).map V.int)) (λ _=>true) (λ z=>.int (vi z.1 * vi z.2)) JP (p0 (ka:=true) (kb:=false) a3 h3).1 (p0 (ka:=true) (kb:=false) a3 h3).2 (aC (by rw [TM,RH,RH,RH];omega)) ?_ ?_
  ·intro D z y H' N1 N0 hz hD e ⟨u,hu,b2⟩ k1 _;subst hu;obtain⟨x0,n0⟩:=z;have hm:=UX hz;obtain⟨a,ha,rfl⟩:=RW.mp hm.1;obtain⟨b,b3,rfl⟩:=RW.mp hm.2;have b4:N1 (.int (a * b)) H':=k1 rfl H' (Ext.refl _);have ca:=hy.bound hsz a ha;have b5:ye a b:=.inl ⟨by omega,by omega⟩;clear k1 hm hz aS;simp! only [↓ek,↓aM]
  ·intro D H' hD e a4
   have b8:H' D=some (.lst ((List.zipWith (λ x p=>x * p) ys (axs.map λ a=>a.2)).map V.int)):=by
    rw [a4,FF]
   have k2:Q (.int (first+(List.zipWith (λ x p=>x * p) ys (axs.map λ a=>a.2)).sum)) H':=aS H' (e1.trans (e2.trans (e3.trans e)));have cb:=(e3.trans e).at a7;clear aS a4;ac_rfl
def nh(cs:List Int)(a:Int × Int)(i:Nat)(c:Int)(h:cs[i]? = some c):cp (cs.take (i+1)) a=cp (cs.take i) a++(List.range a.1.toNat).map λ (n:Nat)=>c+(n:Int) * a.2:=by
 unfold cp;rw [take_add_one,h,List.flatMap_append];simp
abbrev mn  (p:Addr) (z:Int) (pc:Int) (H:Hp) (Q:VK) (E:XK):Prop:=∃ cs:List Int,H p=%[cs|46]/\1<=z/\cs.length * z.toNat<=4096/\z<=1000000000/\∀ (r:Addr) (H':Hp),H r=none->Ext H H'->H' r=some (.lst ((cp cs (z,pc)).map V.int))->Q (.ref r) H'
def lG  : Sp:=λ vs H Q E=>∃ (p:Addr) (z:Int) (pc:Int),vs=[.ref p,.int z,.int pc]/\(mn  p z pc H Q E)
def uL  (p:Addr) (z:Int) (pc:Int) (H:Hp) (Q:VK) (E:XK):lG  [.ref p,.int z,.int pc] H Q E=(mn  p z pc H Q E):=pR (f:=λ (p:Addr) (z:Int) (pc:Int)=>[.ref p,.int z,.int pc]) (λ _ _ _ _ _ _ h=>by cases h;exact⟨rfl,rfl,rfl⟩) p z pc
def wX(T:Tx K mg t):%[1,ZH|49] ["cells", "size", "pace"] lG:=by
 refine T.F_ZH.ok lU (λ _ _ _ _ h=>pO h λ _ _ _=>rfl) %[0|50]
 ·obtain⟨p,z,pc,rfl,cs,hp,hz,a5,a6,k⟩:=h;refine⟨_,%[%[3,lU,%[(@b9 _)|23]|4],%[%[R9,rfl,%[%[0|0]|21],%[(4),_,lU.nd,rfl,(Or.inr rfl),%[0|7]|19],%[%[%[R0,PySem.F.slot_list_extend,PySem.F.type_list_extend,AJ,%[3|0],%[%[(["number", "cells", "size", "pace", "found", "cell"]),(1),(aI (ae iM) ["cells", "size", "pace", "found", "cell"] rfl rfl nofun),rfl,%[∅,T.z_range,%[%[1|0]|1],∅|39],(λ _ _ _ _ _=>%[(0),_,(show List.Nodup (["number", "cells", "size", "pace", "found", "cell"]:List Str) from by decide +kernel),rfl,(Or.inl rfl),%[0|7]|19]),(λ _ _ _ _ _=>(@aN _)),(λ _ _ _ _ _=>%[bM,%[5|0],%[gE,%[0|0],%[3|0]|11]|11]),(by intros;rfl)|22]|1],∅,∅,∅,∅,∅|33],∅|14]|9],(by intros;rfl)|27],%[%[%[3|0]|12]|9]|10]|10],?_⟩;rw [show au ["cells", "size", "pace", "found", "cell"] [.ref p,.int z,.int pc]=[%[p|45],%[z|47],%[pc|47],none,none] from rfl];ac_rfl;intro r H1 aa e1 h1;have a7:=e1.at hp;ac_rfl;refine fP (xs:=cs.map V.int) (λ i σ H'=>∃ v4:Option V,σ=[%[p|45],%[z|47],%[pc|47],%[r|45],v4]/\Ext H H'/\H' r=some (.lst ((cp (cs.take i) (z,pc)).map V.int))) ⟨none,rfl,e1,h1⟩ (λ i σ H' _ ⟨_,_,e,_⟩=>e.at hp) ?_ ?_
  ·rintro i x _ H2 hi ⟨v4,rfl,e2,h2⟩;rw [RN] at hi;obtain⟨c,hc,rfl⟩:=RL.mp hi;have a8:i < cs.length:=(RG.mp hc).1
   have a9:z.toNat<=4096:=by
    have:=UQ z.toNat (show 1<=cs.length by omega);omega
   have ba:(cp (cs.take i) (z,pc)).length+z.toNat<=4096:=by
    rw [lE,SW,show ((z,pc):Int × Int).1=z from rfl];have:(min i cs.length+1) * z.toNat<=cs.length * z.toNat:=UQ _ %[0|8];rw [Nat.add_mul,Nat.one_mul] at this;omega
   simp! only [↓bh];refine⟨by omega,by omega,?_⟩;refine aL (List.range z.toNat) (λ _=>true) (λ j=>.int (c+(j:Int) * pc)) (λ j x H'=>x=.int (0+(j:Nat))) jO.1 jO.2 (aC (by rw [Sr];omega)) ?_ ?_
   ·intro D j x H' N1 N0 hj hD e hx k1 _;subst hx;have bp:=SH.mp hj;have bS:=k1 rfl H' (Ext.refl _);have b1:ye (j:Int) pc:=.inl %[0|8];have e0:(0:Int)+(j:Int)=(j:Int):=Uj _;clear k1 k hj;simp! only [↓aO,↓aM]
   ·intro D H3 hD e3 aS;have a3:H3 D=some (.lst (((List.range z.toNat).map λ (j:Nat)=>c+(j:Int) * pc).map V.int)):=by rw [aS,ko,Sv];rfl
    have a4:=e3.at h2;have hle:(cp (cs.take i) (z,pc)).length+(List.range z.toNat).length<=sizeLine:=aC (by rw [Sr];omega);clear aS hi;ac_rfl;refine⟨_,rfl,(e2.trans e3).put aa,?_⟩;rw [nh cs (z,pc) i c hc,S7]
  ·rintro _ H2 ⟨v4,rfl,e2,h2⟩;ac_rfl;rw [RH,SO] at h2;exact k r H2 aa e2 h2
abbrev rB(C cT:Addr)(v:Addr)(H:Hp)(Q:VK)(E:XK):Prop:=∃ (room first:Int) (axs:%[0|48]),aw C H v room first axs/\fK axs/\(av (axs.map λ a=>a.1)<=4096->∀ (r:Addr) (H':Hp),H r=none->Ext H H'->H' r=some (.lst ((af first axs).map V.int))->Q (.ref r) H')/\¬ 4096 < av (axs.map λ a=>a.1)
def tQ(C cT:Addr):Sp:=λ vs H Q E=>∃ (v:Addr),vs=[.ref v]/\(rB C cT v H Q E)
def iV(C cT:Addr)(v:Addr)(H:Hp)(Q:VK)(E:XK):tQ C cT [.ref v] H Q E=(rB C cT v H Q E):=jM (f:=λ (v:Addr)=>[.ref v]) (λ _ _ h=>by cases h;exact rfl) v
def cY(T:Tx K mg t):%[4,BG|49] ["self"] (tQ t.a_ZZ t.a_ZP):=by
 have G_BF:=%[cf|44];have G_Bv:=%[eD|44];have G_ZH:=%[wX|44];refine T.F_BG.ok cG (λ _ _ _ _ h=>jN h λ _=>rfl) %[0|50]
 ·obtain⟨v,rfl,room,first,axs,vo,aS,kQ,kE⟩:=h;obtain⟨dx,l,hv,ys,hl,al⟩:=vo.ob;have c1:=T.cl_View;have c2:=T.na_View_first;have c3:=T.na_View_axes
  have f1:=eW room first l
  have f2:=eN room first l
  have f3:=vn room first l (m := "count") nofun
  refine⟨_,%[%[%[Bv,%[%[%[0|0],T.cl_View,T.mt_View_count,G_BF,(hr.mono ⋯),T.b_BF,.nil,ay,∅|25]|1]|3],∅|14],%[%[1,cG,%[%[%[%[0|0],rfl|13]|1]|23]|4],%[%[R9,rfl,%[%[%[0|0],rfl|13]|21],(%[(2),rfl,%[%[2,cG|5],%[%[3,cG|5],(@aK _),∅|16],∅|16],∅,∅|26].mono λ _ _ _ _ h=>bP h),%[%[1,cG,%[ZH,%[%[1|0],%[%[2|0],%[%[3|0]|1]|1]|1]|3]|4]|9],(by intros;rfl)|27],%[%[%[1|0]|12]|9]|10]|10]|10],?_⟩;rw [show au ["self", "found", "size", "pace"] [.ref v]=[%[v|45],none,none,none] from rfl];clear G_BF G_Bv G_ZH;ac_rfl;rw [eO];refine⟨room,first,axs,vo,aS,λ H1 e1=>?_⟩;have a4:=e1.at hv;have a5:=e1.at hl;ac_rfl;rw [oR];refine⟨λ hc=>?_,kE⟩;have a6:=kQ hc;clear kQ kE;ac_rfl;intro r H2 a7 e2 h2;have bS:=e2.at a4;have b1:=e2.at a5;ac_rfl;have aa:∀ a∈axs,(1:Int)<=a.1:=λ a ha=>(aS.2 a ha).1;refine fP (xs:=ys) (λ i σ H'=>∃ (r:Addr) (v2 v3:Option V),σ=[%[v|45],%[r|45],v2,v3]/\Ext H H'/\H r=none/\H' r=some (.lst ((af first (axs.take i)).map V.int))) ⟨r,none,none,rfl,e1.trans e2,e1.free a7,h2⟩ (λ i σ H' _ ⟨_,_,_,_,e,_,_⟩=>e.at hl) ?_ ?_
  ·rintro i y _ H3 hi ⟨r3,v2,v3,rfl,e3,a3,h3⟩;obtain⟨a,q,ha,rfl,hq⟩:=KU al hi;have b2:=e3.at hq;have hm:=aS.2 a (Sa ha);simp! only [↓bh];rw [uL];refine⟨_,h3,hm.1,?_,hm.2,λ r4 H4 a8 e4 h4=>?_⟩
   ·have a9:=aX first (axs.take i) λ b hb=>aa b (T8 hb)
    have hp:=iY (axs.map λ a=>a.1) (λ n hn=>by obtain⟨b,hb,rfl⟩:=RW.mp hn;exact aa b hb) (i+1);rw [jy _ i a.1 (by rw [RN,ha];rfl),←List.map_take,←a9] at hp;have ba:((a.1.toNat:Nat):Int)=a.1:=Ue %[0|8]
    have:(((af first (axs.take i)).length * a.1.toNat:Nat):Int)<=4096:=by rw [Vp,ba];omega
    omega
   ·ac_rfl;refine⟨r4,_,_,rfl,e3.trans e4,e3.free a8,?_⟩;rw [h4,S1,ha]
    show _=some (HO.lst (List.map V.int (af first (axs.take i++[a]))))
    rw [mj]
  ·rintro _ H3 ⟨r3,v2,v3,rfl,e3,a3,h3⟩;have bp:ys.length=axs.length:=by rw [al.1];unfold axL;rw [length_map]
   rw [bp,SO] at h3;ac_rfl;exact a6 r3 H3 a3 e3 h3
def jP(l:Addr):List (Str × V):=bT "floor" (V.ref l) []
def cE(l:Addr):(jP l).lookup ("floor":Str)=%[l|45]:=by
 unfold jP;rw [aj,if_pos rfl]
def aG(l:Addr){m:Str}(h:m∈([("all_values":Str), "refuse_room", "read", "put", "copied", "fill"]:List Str)):(jP l).lookup m=none:=by
 have:¬ m = "floor":=by
  revert m
  decide +kernel
 unfold jP;rw [aj,if_neg this];rfl
structure cq(C:Addr)(H:Hp)(s l:Addr)(vals:List Int):Prop where
 ob:∃ dx,H s=some (.ins C dx (jP l))
 fl:H l=%[vals|46]
def cq.ext{C:Addr}{H H':Hp}{s l:Addr}{vals:List Int}(h:cq C H s l vals)(e:Ext H H'):cq C H' s l vals:=by
 obtain⟨dx,h1⟩:=h.ob;exact⟨⟨dx,e.at h1⟩,e.at h.fl⟩
abbrev qO(C:Addr)(x:Addr)(p:Addr)(H:Hp)(Q:VK)(E:XK):Prop:=∃ (dx:Addr) (vals:List Int),H x=some (.ins C dx [])/\H p=%[vals|46]/\1<=vals.length/\vals.length<=4096/\∀ (H':Hp) (l:Addr),(∀ H0,Ext H0 H->H0 x=none->Ext H0 H')->H l=none->H' x=some (.ins C dx (jP l))->H' l=%[vals|46]->Q .non H'
def sT(C:Addr):Sp:=λ vs H Q E=>∃ (x:Addr) (p:Addr),vs=[.ref x,.ref p]/\(qO C x p H Q E)
def Cg(C:Addr)(x:Addr)(p:Addr)(H:Hp)(Q:VK)(E:XK):sT C [.ref x,.ref p] H Q E=(qO C x p H Q E):=iu (f:=λ (x:Addr) (p:Addr)=>[.ref x,.ref p]) (λ _ _ _ _ h=>by cases h;exact⟨rfl,rfl⟩) x p
def jG(T:Tx K mg t):%[4,xq|49] ["self", "values"] (sT t.a_ZX):=by
 have G_Bv:=%[eD|44];refine T.F_xq.ok kF (λ _ _ _ _ h=>iw h λ _ _=>rfl) %[0|50]
 ·obtain⟨x,p,rfl,dx,vals,hx,hp,aS,a3,k⟩:=h;have c1:=T.cl_Store;have c2:=T.na_Store_floor;refine⟨_,%[%[%[(bz hr.units),%[len,aB,%[%[1|0]|1]|6],%[0|2],(az _)|15],%[(@bV _ _)|9],(@aA _)|17],%[%[%[Bv,%[%[len,aB,%[%[1|0]|1]|6]|1]|3],∅|14],%[%[%[0|0],%[bB,∅,T.z_list,nofun,%[%[1|0]|1],⋯,⋯,∅,∅|29],rfl|28]|9]|10]|10],?_⟩;rw [show au ["self", "values"] [.ref x,.ref p]=[%[x|45],%[p|45]] from rfl];clear G_Bv;have a4:¬ ((vals.length:Int)=0):=by omega
  ac_rfl;rw [oR];refine⟨λ _=>?_,λ h=>absurd h %[0|8]⟩;ac_rfl;intro l H1 hl e1 h1;have a5:=e1.at hx;have aa:l ≠ x:=λ z=>by rw [z,hx] at hl;cases hl
  ac_rfl;exact k _ l (λ H0 q0 q1=>(q0.trans e1).put q1) hl ai (by rw [ah aa];exact h1)
abbrev wB(C:Addr)(s:Addr)(H:Hp)(Q:VK)(E:XK):Prop:=∃ (l:Addr) (vals:List Int),cq C H s l vals/\vals.length<=4096/\∀ (r:Addr) (H':Hp),H r=none->Ext H H'->H' r=%[vals|46]->Q (.ref r) H'
def yN(C:Addr):Sp:=λ vs H Q E=>∃ (s:Addr),vs=[.ref s]/\(wB C s H Q E)
def kX(C:Addr)(s:Addr)(H:Hp)(Q:VK)(E:XK):yN C [.ref s] H Q E=(wB C s H Q E):=jM (f:=λ (s:Addr)=>[.ref s]) (λ _ _ h=>by cases h;exact rfl) s
def bx(T:Tx K mg t):%[1,rW|49] ["self"] (yN t.a_ZX):=by
 refine T.F_rW.ok jb (λ _ _ _ _ h=>jN h λ _=>rfl) (λ c A o s' H vs Q E hr h=>?_)
 ·obtain⟨s,rfl,l,vals,so,aS,k⟩:=h;obtain⟨dx,hs⟩:=so.ob;have a3:=so.fl;have c1:=T.cl_Store;have c2:=T.na_Store_floor;have f1:=cE l;refine⟨_,%[%[%[bB,∅,T.z_list,nofun,%[%[%[0|0],rfl|13]|1],⋯,⋯,∅,∅|29]|12]|9],?_⟩;rw [show au ["self"] [.ref s]=[%[s|45]] from rfl];ac_rfl;intro r H1 aa e1 h1;exact k r H1 aa e1 h1
abbrev vZ(CS CV:Addr)(s:Addr)(v:Addr)(H:Hp)(Q:VK)(E:XK):Prop:=∃ (l:Addr) (vals:List Int) (room first:Int) (axs:%[0|48]),cq CS H s l vals/\aw CV H v room first axs/\room=vals.length/\Q .non H
def yy(CS CV:Addr):Sp:=λ vs H Q E=>∃ (s:Addr) (v:Addr),vs=[.ref s,.ref v]/\(vZ CS CV s v H Q E)
def gn(CS CV:Addr)(s:Addr)(v:Addr)(H:Hp)(Q:VK)(E:XK):yy CS CV [.ref s,.ref v] H Q E=(vZ CS CV s v H Q E):=iu (f:=λ (s:Addr) (v:Addr)=>[.ref s,.ref v]) (λ _ _ _ _ h=>by cases h;exact⟨rfl,rfl⟩) s v
def aR(T:Tx K mg t):%[1,pE|49] ["self", "view"] (yy t.a_ZX t.a_ZZ):=by
 refine T.F_pE.ok iq (λ _ _ _ _ h=>iw h λ _ _=>rfl) (λ c A o s' H vs Q E hr h=>?_)
 ·obtain⟨s,v,rfl,l,vals,room,first,axs,so,vo,aa,k⟩:=h;obtain⟨dx,hs⟩:=so.ob;obtain⟨dy,D,hv,_⟩:=vo.ob;have aS:=so.fl;have c1:=T.cl_Store;have c2:=T.na_Store_floor;have c3:=T.cl_View;have c4:=T.na_View_room;have f1:=cE l
  have f2:=gq room first D
  refine⟨_,%[%[%[(dG hr.units),%[%[1|0],rfl|13],%[len,aB,%[%[%[0|0],rfl|13]|1]|6],(az _)|15],%[(@bV _ _)|9],(@aA _)|17]|9],?_⟩;rw [show au ["self", "view"] [.ref s,.ref v]=[%[s|45],%[v|45]] from rfl];subst aa;ac_rfl
def oB(CV:Addr):Sp:=λ vs H Q E=>∃ (v:Addr) (n:Int),vs=[.ref v,.int n]/\(∃ (room first:Int) (axs:%[0|48]),aw CV H v room first axs/\fK axs/\n=av (axs.map λ a=>a.1)/\∀ H',Ext H H'->Q .non H')
def jB(CV:Addr)(v:Addr)(n:Int)(H:Hp)(Q:VK)(E:XK):oB CV [.ref v,.int n] H Q E=(∃ (room first:Int) (axs:%[0|48]),aw CV H v room first axs/\fK axs/\n=av (axs.map λ a=>a.1)/\∀ H',Ext H H'->Q .non H'):=iu (f:=λ (v:Addr) (n:Int)=>[.ref v,.int n]) (λ _ _ _ _ h=>by cases h;exact⟨rfl,rfl⟩) v n
def dE(T:Tx K mg t):%[3,Bt|49] ["view", "many"] (oB t.a_ZZ):=by
 have G_BF:=%[cf|44];refine T.F_Bt.ok mZ (λ _ _ _ _ h=>iw h λ _ _=>rfl) (λ c A o s' H vs Q E hr h=>?_)
 ·obtain⟨v,n,rfl,room,first,axs,vo,aa,hn,k⟩:=h;obtain⟨dy,D,hv,_⟩:=vo.ob
  have f3:=vn room first D (m := "count") nofun
  have c3:=T.cl_View;refine⟨_,%[%[%[(dG hr.units),%[%[0|0],T.cl_View,T.mt_View_count,G_BF,(hr.mono ⋯),T.b_BF,.nil,ay,∅|25],%[1|0],(az _)|15],%[(@bV _ _)|9],(@aA _)|17]|9],?_⟩;rw [show au ["view", "many"] [.ref v,.int n]=[%[v|45],%[n|47]] from rfl];clear G_BF;subst hn;ac_rfl;rw [eO];refine⟨room,first,axs,vo,aa,λ H1 e1=>?_⟩;have k1:=k H1 e1;clear k;ac_rfl
def zW{vals:List Int}{c:Int}(h0:0<=c)(h1:c < vals.length):atI (vals.map V.int) c=some (.int (vals.getD c.toNat 0)):=by
 obtain⟨n,rfl⟩:=S6 h0;have hn:n < vals.length:=by omega
 refine cM ?_;rw [RN,RE hn];simp [List.getD,RE hn]
def GF{n:Nat}{c:Int}(h0:0<=c)(h1:c < n):ixN n c=some c.toNat:=by
 unfold ixN;rw [if_pos h0,if_pos %[0|8]]
def ue(cs:List Int):Al (λ (z:Int) (y:V)=>y=.int z) cs (cs.map V.int):=by
 refine⟨by rw [RH],λ i z y hz hy=>?_⟩;rw [RN,hz] at hy;cases hy;rfl
def cu(cs:List Int)(n:Nat):Prop:=∀ c∈cs,0<=c/\c < (n:Int)
def bc(vals cs:List Int):List Int:=cs.map λ c=>vals.getD c.toNat 0
def kn(vals cs ws:List Int):List Int:=(cs.zip ws).foldl (λ vs p=>vs.set p.1.toNat p.2) vals
abbrev wa(CS CV:Addr)(s:Addr)(v:Addr)(H:Hp)(Q:VK)(E:XK):Prop:=∃ (l:Addr) (vals:List Int) (room first:Int) (axs:%[0|48]),cq CS H s l vals/\aw CV H v room first axs/\fK axs/\room=vals.length/\av (axs.map λ a=>a.1)<=4096/\cu (af first axs) vals.length/\∀ (r:Addr) (H':Hp),H r=none->Ext H H'->H' r=some (.lst ((bc vals (af first axs)).map V.int))->Q (.ref r) H'
def yz(CS CV:Addr):Sp:=λ vs H Q E=>∃ (s:Addr) (v:Addr),vs=[.ref s,.ref v]/\(wa CS CV s v H Q E)
def gp(CS CV:Addr)(s:Addr)(v:Addr)(H:Hp)(Q:VK)(E:XK):yz CS CV [.ref s,.ref v] H Q E=(wa CS CV s v H Q E):=iu (f:=λ (s:Addr) (v:Addr)=>[.ref s,.ref v]) (λ _ _ _ _ h=>by cases h;exact⟨rfl,rfl⟩) s v
def cZ(T:Tx K mg t):%[5,BI|49] ["self", "view"] (yz t.a_ZX t.a_ZZ):=by
 have G_pE:=%[aR|44];have G_BG:=%[cY|44];refine T.F_BI.ok sy (λ _ _ _ _ h=>iw h λ _ _=>rfl) (λ c A o s' H vs Q E hr h=>?_)
 ·obtain⟨s,v,rfl,l,vals,room,first,axs,so,vo,a3,aS,bp,aa,k⟩:=h;subst aS;obtain⟨dx,hs⟩:=so.ob;obtain⟨dy,D,hv,_⟩:=vo.ob;have a5:=so.fl;have c1:=T.cl_Store;have c2:=T.na_Store_floor;have c3:=T.cl_View;have f1:=cE l;have f2:=aG l (m := "refuse_room") nofun
  have f3:=vn (vals.length:Int) first D (m := "cells") nofun
  refine⟨_,%[%[%[%[0|0],T.cl_Store,T.mt_Store_refuse_room,G_pE,(hr.mono ⋯),T.b_pE,.nil,ay,%[%[1|0]|1],∅,∅,∅|20],∅|14],%[%[%[(["cell", "self", "view"]),(1),(aI (ae dR) ["self", "view"] rfl rfl nofun),rfl,%[%[%[1|0],T.cl_View,T.mt_View_cells,G_BG,(hr.mono ⋯),T.b_BG,.nil,ay,∅|25]|21],(λ _ _ _ _ _=>%[(0),_,(show List.Nodup (["cell", "self", "view"]:List Str) from by decide +kernel),rfl,(Or.inl rfl),%[0|7]|19]),(λ _ _ _ _ _=>(@aN _)),(λ _ _ _ _ _=>%[eS,(@vB _ _ _ _ _ (K) rfl %[1|0] rfl),%[0|0],(λ _ _=>rfl)|18]),(by intros;rfl)|22]|12]|9]|10],?_⟩;rw [show au ["self", "view"] [.ref s,.ref v]=[%[s|45],%[v|45]] from rfl];clear G_pE G_BG;ac_rfl;rw [gn];refine⟨l,vals,_,first,axs,so,vo,rfl,?_⟩;ac_rfl;rw [iV];refine⟨_,first,axs,vo,a3,λ _ r1 H1 bS e1 h1=>?_,λ h=>absurd h %[0|8]⟩
  have a6:=aX first axs λ a ha=>(a3.2 a ha).1
  have a7:=e1.at hs;have a4:=e1.at a5;unfold bc at k
  generalize af first axs=cs at h1 aa k a6
  have a9:cs.length<=4096:=by omega
  ac_rfl;have wk:=kr (K:=K) (R:=λ (z:Int) y _=>y=.int z) (λ _ _ _ _ h _=>h) h1 (ue cs);refine aL cs (λ _=>true) (λ c=>.int (vals.getD c.toNat 0)) (λ z y _=>y=.int z) wk.1 wk.2 (aC %[0|8]) ?_ ?_
  ·intro D2 c y H' N1 N0 hc hD e hy k1 _;subst hy;have b1:=zW (aa c hc).1 (aa c hc).2;have b2:=k1 rfl H' (Ext.refl _);have b3:=e.at a7;have ba:=e.at a4;clear k1 k aa hc;simp! only [↓aO,↓aM]
  ·intro D2 H2 a8 e2 h2;rw [ko] at h2;have k2:=k D2 H2 (e1.free a8) (e1.trans e2) (by rw [h2,Sv];rfl);clear k aa;ac_rfl
def lM{vals cs ws:List Int}{i:Nat}{c z:Int}(hc:cs[i]? = some c)(hw:ws[i]? = some z):kn vals (cs.take (i+1)) (ws.take (i+1))=(kn vals (cs.take i) (ws.take i)).set c.toNat z:=by
 unfold kn
 have e1:(cs.take (i+1)).zip (ws.take (i+1))=(cs.take i).zip (ws.take i)++[(c,z)]:=by
  rw [S1,S1,hc,hw,List.zip_append (by
   have h1:=(RG.mp hc).1;have h2:=(RG.mp hw).1;rw [SW,SW];omega)]
  rfl
 rw [e1,U6];rfl
def DF(vals:List Int):∀ (ps:%[0|48]),(ps.foldl (λ vs p=>vs.set p.1.toNat p.2) vals).length=vals.length:=by
 intro ps
 induction ps generalizing vals with
 | nil=>rfl
 | cons p ps ih=>rw [Uk,ih,UY]
def bG(vals cs ws:List Int):(kn vals cs ws).length=vals.length:=DF vals _
def kS(xs:List Int)(j:Nat)(z:Int):(xs.map V.int).set j (.int z)=(xs.set j z).map V.int:=by
 rw [List.map_set]
def Ga(CS CV:Addr):Sp:=λ vs H Q E=>∃ (s:Addr) (v:Addr) (p:Addr),vs=[.ref s,.ref v,.ref p]/\(∃ (l:Addr) (vals:List Int) (room first:Int) (axs:%[0|48]) (ws:List Int),cq CS H s l vals/\aw CV H v room first axs/\fK axs/\room=vals.length/\vals.length<=4096/\av (axs.map λ a=>a.1)<=4096/\cu (af first axs) vals.length/\H p=%[ws|46]/\p ≠ l/\(ws.length:Int)=av (axs.map λ a=>a.1)/\∀ H',(∀ H0,Ext H0 H->H0 l=none->Ext H0 H')->(∀ b o,b ≠ l->H b=some o->H' b=some o)->H' l=some (.lst ((kn vals (af first axs) ws).map V.int))->Q .non H')
def lC(CS CV:Addr)(s:Addr)(v:Addr)(p:Addr)(H:Hp)(Q:VK)(E:XK):Ga CS CV [.ref s,.ref v,.ref p] H Q E=(∃ (l:Addr) (vals:List Int) (room first:Int) (axs:%[0|48]) (ws:List Int),cq CS H s l vals/\aw CV H v room first axs/\fK axs/\room=vals.length/\vals.length<=4096/\av (axs.map λ a=>a.1)<=4096/\cu (af first axs) vals.length/\H p=%[ws|46]/\p ≠ l/\(ws.length:Int)=av (axs.map λ a=>a.1)/\∀ H',(∀ H0,Ext H0 H->H0 l=none->Ext H0 H')->(∀ b o,b ≠ l->H b=some o->H' b=some o)->H' l=some (.lst ((kn vals (af first axs) ws).map V.int))->Q .non H'):=pR (f:=λ (s:Addr) (v:Addr) (p:Addr)=>[.ref s,.ref v,.ref p]) (λ _ _ _ _ _ _ h=>by cases h;exact⟨rfl,rfl,rfl⟩) s v p
def dU(T:Tx K mg t):%[5,EB|49] ["self", "view", "values"] (Ga t.a_ZX t.a_ZZ):=by
 have G_pE:=%[aR|44];have G_Bt:=%[dE|44];have G_BG:=%[cY|44];refine T.F_EB.ok ip (λ _ _ _ _ h=>pO h λ _ _ _=>rfl) (λ c A o s' H vs Q E hr h=>?_)
 ·obtain⟨s,v,p,rfl,l,vals,room,first,axs,ws,so,vo,a4,a5,cD,cH,a6,hp,b4,b5,k⟩:=h;subst a5;obtain⟨dx,hs⟩:=so.ob;obtain⟨dy,D,hv,_⟩:=vo.ob;have ba:=so.fl;have c1:=T.cl_Store;have c2:=T.na_Store_floor;have c3:=T.cl_View;have f1:=cE l;have f2:=aG l (m := "refuse_room") nofun
  have f3:=vn (vals.length:Int) first D (m := "cells") nofun
  refine⟨_,%[%[%[%[0|0],T.cl_Store,T.mt_Store_refuse_room,G_pE,(hr.mono ⋯),T.b_pE,.nil,ay,%[%[1|0]|1],∅,∅,∅|20],∅|14],%[%[%[Bt,%[%[1|0],%[%[len,aB,%[%[2|0]|1]|6]|1]|1]|3],∅|14],%[%[R9,rfl,%[∅,T.z_zip,%[%[%[1|0],T.cl_View,T.mt_View_cells,G_BG,(hr.mono ⋯),T.b_BG,.nil,ay,∅|25],%[%[2|0]|1]|1],∅,∅|41],(%[(2),rfl,%[%[3,ip|5],%[%[4,ip|5],(@aK _),∅|16],∅|16],∅,∅|26].mono λ _ _ _ _ h=>bP h),%[%[%[4|0],(@u5 _ _ _ _ _ _ _ %[%[0|0],rfl|13] %[3|0] kM (by intros;rfl)),∅,∅,∅|40]|9],(by intros;rfl)|27]|9]|10]|10],?_⟩;rw [show au ["self", "view", "values", "cell", "value"] [.ref s,.ref v,.ref p]=[%[s|45],%[v|45],%[p|45],none,none] from rfl];clear G_pE G_Bt G_BG;ac_rfl;rw [gn];refine⟨l,vals,_,first,axs,so,vo,rfl,?_⟩;ac_rfl;rw [jB];refine⟨_,first,axs,vo,a4,(by first|rfl|exact b5),λ H1 e1=>?_⟩;have cT:=e1.at hv;have b8:=e1.at hp;ac_rfl;rw [iV];refine⟨_,first,axs,vo.ext e1,a4,λ _ r2 H2 bp e2 h2=>?_,λ h=>absurd h %[0|8]⟩
  have cb:=aX first axs λ a ha=>(a4.2 a ha).1
  generalize af first axs=cs at h2 a6 k cb
  have bS:cs.length=ws.length:=by omega
  have cv:=e2.at b8;have a7:=(e1.trans e2).at hs;have aS:=(e1.trans e2).at ba;have b1:r2 ≠ l:=λ z=>by rw [z,e1.at ba] at bp;cases bp
  ac_rfl;refine t9 (ka:=false) (kb:=false) (xs:=cs.map V.int) (ys:=ws.map V.int) (λ i σ H'=>∃ v3 v4:Option V,σ=[%[s|45],%[v|45],%[p|45],v3,v4]/\(∀ H0,Ext H0 H2->H0 l=none->Ext H0 H')/\(∀ b o,b ≠ l->H2 b=some o->H' b=some o)/\H' l=some (.lst ((kn vals (cs.take i) (ws.take i)).map V.int))) ⟨none,none,rfl,λ _ q _=>q,λ _ _ _ q=>q,aS⟩ (λ i σ H' ⟨_,_,_,_,hk,_⟩=>⟨hk _ _ b1 h2,hk _ _ b4 cv⟩) ?_ ?_
  ·rintro i u x q _ H3 H4 hu hx ⟨v3,v4,rfl,a8,aa,h3⟩ hq e4 h4;rw [RN] at hu hx;obtain⟨c,hc,rfl⟩:=RL.mp hu;obtain⟨z,hz,rfl⟩:=RL.mp hx;have b2:=a6 c (Sa hc);have c0:=e4.at (aa _ _ (λ z=>by rw [z,aS] at a7;cases a7) a7);have b3:=e4.at h3;have hlen:=bG vals (cs.take i) (ws.take i);have a3:=λ (_:Unit)=>lM (vals:=vals) hc hz;generalize kn vals (cs.take i) (ws.take i)=vv at h3 b3 hlen a3;have c4:ixN vv.length c=some c.toNat:=GF b2.1 (by rw [hlen];exact b2.2);clear hu hx hc hz k a6 hlen h3;simp! only [↓bh];refine⟨_,_,rfl,λ H0 q0 q1=>((a8 H0 q0 q1).trans e4).put q1,λ b o hb a9=>by rw [ah hb];exact e4.at (aa b o hb a9),?_⟩;rw [a3 (),←kS]
  ·rintro _ H3 ⟨v3,v4,rfl,a8,aa,h3⟩;have hm:min (cs.map V.int).length (ws.map V.int).length=cs.length:=by rw [RH,RH];omega
   rw [hm,SO,bS,SO] at h3;exact k H3 (λ H0 q0 q1=>a8 H0 (q0.trans (e1.trans e2)) q1) (λ b o hb a9=>aa b o hb ((e1.trans e2).at a9)) h3
def kZ(vals cs:List Int)(z:Int):List Int:=cs.foldl (λ vs c=>vs.set c.toNat z) vals
def lS(z:Int):∀ (cs vals:List Int),(kZ vals cs z).length=vals.length
 | [],vals=>rfl
 | c::cs,vals=>by
  show (kZ (vals.set c.toNat z) cs z).length=_
  rw [lS z cs,UY]
def xI{vals cs:List Int}{z:Int}{i:Nat}{c:Int}(hc:cs[i]? = some c):kZ vals (cs.take (i+1)) z=(kZ vals (cs.take i) z).set c.toNat z:=by
 unfold kZ;rw [take_add_one,hc,List.foldl_append];rfl
abbrev wx(CS CV:Addr)(s:Addr)(v:Addr)(z:Int)(H:Hp)(Q:VK)(E:XK):Prop:=∃ (l:Addr) (vals:List Int) (room first:Int) (axs:%[0|48]),cq CS H s l vals/\aw CV H v room first axs/\fK axs/\room=vals.length/\vals.length<=4096/\av (axs.map λ a=>a.1)<=4096/\cu (af first axs) vals.length/\∀ H',(∀ H0,Ext H0 H->H0 l=none->Ext H0 H')->(∀ b o,b ≠ l->H b=some o->H' b=some o)->H' l=some (.lst ((kZ vals (af first axs) z).map V.int))->Q .non H'
def yI(CS CV:Addr):Sp:=λ vs H Q E=>∃ (s:Addr) (v:Addr) (z:Int),vs=[.ref s,.ref v,.int z]/\(wx CS CV s v z H Q E)
def Fh(CS CV:Addr)(s:Addr)(v:Addr)(z:Int)(H:Hp)(Q:VK)(E:XK):yI CS CV [.ref s,.ref v,.int z] H Q E=(wx CS CV s v z H Q E):=pR (f:=λ (s:Addr) (v:Addr) (z:Int)=>[.ref s,.ref v,.int z]) (λ _ _ _ _ _ _ h=>by cases h;exact⟨rfl,rfl,rfl⟩) s v z
def ph(T:Tx K mg t):%[5,BJ|49] ["self", "view", "value"] (yI t.a_ZX t.a_ZZ):=by
 have G_pE:=%[aR|44];have G_BG:=%[cY|44];refine T.F_BJ.ok ke (λ _ _ _ _ h=>pO h λ _ _ _=>rfl) (λ c A o s' H vs Q E hr h=>?_)
 ·obtain⟨s,v,z,rfl,l,vals,room,first,axs,so,vo,b1,a4,b2,b3,a5,k⟩:=h;subst a4;obtain⟨dx,hs⟩:=so.ob;obtain⟨dy,D,hv,_⟩:=vo.ob;have a9:=so.fl;have c1:=T.cl_Store;have c2:=T.na_Store_floor;have c3:=T.cl_View;have f1:=cE l;have f2:=aG l (m := "refuse_room") nofun
  have f3:=vn (vals.length:Int) first D (m := "cells") nofun
  refine⟨_,%[%[%[%[0|0],T.cl_Store,T.mt_Store_refuse_room,G_pE,(hr.mono ⋯),T.b_pE,.nil,ay,%[%[1|0]|1],∅,∅,∅|20],∅|14],%[%[R9,rfl,%[%[%[1|0],T.cl_View,T.mt_View_cells,G_BG,(hr.mono ⋯),T.b_BG,.nil,ay,∅|25]|21],%[3,ke|5],%[%[%[2|0],(@u5 _ _ _ _ _ _ _ %[%[0|0],rfl|13] %[3|0] kM (by intros;rfl)),∅,∅,∅|40]|9],(by intros;rfl)|27]|9]|10],?_⟩;rw [show au ["self", "view", "value", "cell"] [.ref s,.ref v,.int z]=[%[s|45],%[v|45],%[z|47],none] from rfl];clear G_pE G_BG;ac_rfl;rw [gn];refine⟨l,vals,_,first,axs,so,vo,rfl,?_⟩;ac_rfl;rw [iV];refine⟨_,first,axs,vo,b1,λ _ r2 H2 ba e2 h2=>?_,λ h=>absurd h %[0|8]⟩
  generalize af first axs=cs at h2 a5 k
  have a6:=e2.at hs;have aS:=e2.at a9;have bp:r2 ≠ l:=λ z=>by rw [z,a9] at ba;cases ba
  ac_rfl;refine fP (xs:=cs.map V.int) (λ i σ H'=>∃ v3:Option V,σ=[%[s|45],%[v|45],%[z|47],v3]/\(∀ H0,Ext H0 H2->H0 l=none->Ext H0 H')/\(∀ b o,b ≠ l->H2 b=some o->H' b=some o)/\H' l=some (.lst ((kZ vals (cs.take i) z).map V.int))) ⟨none,rfl,λ _ q _=>q,λ _ _ _ q=>q,aS⟩ (λ i σ H' _ ⟨_,_,_,hk,_⟩=>hk _ _ bp h2) ?_ ?_
  ·rintro i x _ H3 hx ⟨v3,rfl,a7,aa,h3⟩;rw [RN] at hx;obtain⟨c,hc,rfl⟩:=RL.mp hx;have bS:=a5 c (Sa hc);have b4:=aa _ _ (λ z=>by rw [z,aS] at a6;cases a6) a6;have hlen:=lS z (cs.take i) vals;have a3:=λ (_:Unit)=>xI (vals:=vals) (z:=z) hc;generalize kZ vals (cs.take i) z=vv at h3 hlen a3;have b5:ixN vv.length c=some c.toNat:=GF bS.1 (by rw [hlen];exact bS.2);clear hx hc k a5 hlen;simp! only [↓bh];refine⟨_,rfl,λ H0 q0 q1=>(a7 H0 q0 q1).put q1,λ b o hb a8=>by rw [ah hb];exact aa b o hb a8,?_⟩;rw [a3 (),←kS]
  ·rintro _ H3 ⟨v3,rfl,a7,aa,h3⟩;rw [RH,SO] at h3;have k':=k H3 (λ H0 q0 q1=>a7 H0 (q0.trans e2) q1) (λ b o hb a8=>aa b o hb (e2.at a8)) h3;clear k;ac_rfl
abbrev nV(CS CV:Addr)(s:Addr)(v:Addr)(u:Addr)(H:Hp)(Q:VK)(E:XK):Prop:=∃ (l:Addr) (vals:List Int) (f1 f2:Int) (a1 a2:%[0|48]),cq CS H s l vals/\aw CV H v vals.length f1 a1/\aw CV H u vals.length f2 a2/\fK a1/\fK a2/\vals.length<=4096/\av (a1.map λ a=>a.1)<=4096/\av (a2.map λ a=>a.1)=av (a1.map λ a=>a.1)/\cu (af f1 a1) vals.length/\cu (af f2 a2) vals.length/\∀ H',(∀ H0,Ext H0 H->H0 l=none->Ext H0 H')->(∀ b o,b ≠ l->H b=some o->H' b=some o)->H' l=some (.lst ((kn vals (af f1 a1) (bc vals (af f2 a2))).map V.int))->Q .non H'
def oG(CS CV:Addr):Sp:=λ vs H Q E=>∃ (s:Addr) (v:Addr) (u:Addr),vs=[.ref s,.ref v,.ref u]/\(nV CS CV s v u H Q E)
def xT(CS CV:Addr)(s:Addr)(v:Addr)(u:Addr)(H:Hp)(Q:VK)(E:XK):oG CS CV [.ref s,.ref v,.ref u] H Q E=(nV CS CV s v u H Q E):=pR (f:=λ (s:Addr) (v:Addr) (u:Addr)=>[.ref s,.ref v,.ref u]) (λ _ _ _ _ _ _ h=>by cases h;exact⟨rfl,rfl,rfl⟩) s v u
def mr(T:Tx K mg t):%[6,Bu|49] ["self", "to", "source"] (oG t.a_ZX t.a_ZZ):=by
 have G_pE:=%[aR|44];have G_Bt:=%[dE|44];have G_BF:=%[cf|44];have G_BI:=%[cZ|44];have G_EB:=%[dU|44];refine T.F_Bu.ok m3 (λ _ _ _ _ h=>pO h λ _ _ _=>rfl) (λ c A o s' H vs Q E hr h=>?_)
 ·obtain⟨s,v,u,rfl,l,vals,f1,f2,a1,a2,so,vo,wo,a5,a4,a8,a6,aS,a9,ba,k⟩:=h;obtain⟨dx,hs⟩:=so.ob;obtain⟨dy,D,hv,_⟩:=vo.ob;obtain⟨dz,D2,hu,_⟩:=wo.ob;have bp:=so.fl;have c1:=T.cl_Store;have c3:=T.cl_View;have g1:=aG l (m := "refuse_room") nofun;have g2:=aG l (m := "read") nofun;have g3:=aG l (m := "put") nofun;have g4:=vn (vals.length:Int) f2 D2 (m := "count") nofun;refine⟨_,%[%[%[%[0|0],T.cl_Store,T.mt_Store_refuse_room,G_pE,(hr.mono ⋯),T.b_pE,.nil,ay,%[%[1|0]|1],∅,∅,∅|20],∅|14],%[%[%[%[0|0],T.cl_Store,T.mt_Store_refuse_room,G_pE,(hr.mono ⋯),T.b_pE,.nil,ay,%[%[2|0]|1],∅,∅,∅|20],∅|14],%[%[%[Bt,%[%[1|0],%[%[%[2|0],T.cl_View,T.mt_View_count,G_BF,(hr.mono ⋯),T.b_BF,.nil,ay,∅|25]|1]|1]|3],∅|14],%[%[%[%[0|0],T.cl_Store,T.mt_Store_put,G_EB,(hr.mono ⋯),T.b_EB,.nil,ay,%[%[1|0],%[%[%[0|0],T.cl_Store,T.mt_Store_read,G_BI,(hr.mono ⋯),T.b_BI,.nil,ay,%[%[2|0]|1],∅,∅,∅|20]|1]|1],∅,∅,∅|20],∅|14]|9]|10]|10]|10],?_⟩;rw [show au ["self", "to", "source"] [.ref s,.ref v,.ref u]=[%[s|45],%[v|45],%[u|45]] from rfl];clear G_pE G_Bt G_BF G_BI G_EB;ac_rfl;rw [gn];refine⟨l,vals,_,f1,a1,so,vo,rfl,?_⟩;ac_rfl;rw [gn];refine⟨l,vals,_,f2,a2,so,wo,rfl,?_⟩;ac_rfl;rw [eO];refine⟨_,f2,a2,wo,a4,λ H1 e1=>?_⟩;exists aS;ac_rfl;rw [jB];refine⟨_,f1,a1,vo.ext e1,a5,aS (),λ H2 e2=>?_⟩;have aa:=e1.trans e2;have b2:=aa.at hs;ac_rfl;rw [gp];refine⟨l,vals,_,f2,a2,so.ext aa,wo.ext aa,a4,rfl,by rw [aS ()];exact a6,ba,λ r H3 a7 e3 h3=>?_⟩;have bS:r ≠ l:=λ z=>by rw [z,aa.at bp] at a7;cases a7
  have a3:=aa.trans e3;ac_rfl;rw [lC];refine⟨l,vals,_,f1,a1,_,so.ext a3,vo.ext a3,a5,rfl,a8,a6,a9,h3,bS,?_,λ H4 q1 q2 q3=>?_⟩
  ·unfold bc;rw [length_map,←aS ()];exact aX f2 a2 λ a ha=>(a4.2 a ha).1
  ·have k1:=k H4 (λ H0 x0 x1=>q1 H0 (x0.trans a3) x1) (λ b o hb b1=>q2 b o hb (a3.at b1)) q3;clear k;ac_rfl
def JW(t:Adr):Nat->Addr
 | 0=>t.a_Jg
 | 1=>t.a_Z4
 | 2=>t.a_Z5
 | 3=>t.a_Z6
 | _=>t.a_ZY
def JV:Nat->Addr->Addr->V->List (Str × V)
 | 0,_,_,_=>[]
 | 1,u,_,x=>[("to",.ref u),("value",x)]
 | 2,u,v,_=>[("to",.ref u),("source",.ref v)]
 | 3,u,v,_=>[("one",.ref u),("other",.ref v)]
 | _,u,v,_=>[("to",.ref u),("source",.ref v)]
def wrs:Nat->Addr->Addr->List Addr
 | 0,_,_=>[]
 | 3,u,v=>[u,v]
 | _,u,_=>[u]
def rds:Nat->Addr->Addr->List Addr
 | 0,_,_=>[]
 | 1,_,_=>[]
 | 2,_,v=>[v]
 | _,u,v=>[u,v]
def RB(t:Adr)(H:Hp)(s:Addr)(w:Nat)(u v:Addr):Prop:=w < 5/\∃ dx x,H s=some (.ins (JW t w) dx (JV w u v x))
abbrev qP(C:Addr)(u:Addr)(v:Addr)(H:Hp)(Q:VK)(E:XK):Prop:=∃ (r f1 f2:Int) (A B:%[0|48]),aw C H u r f1 A/\aw C H v r f2 B/\Q .non H
def sU(C:Addr):Sp:=λ vs H Q E=>∃ (u:Addr) (v:Addr),vs=[.ref u,.ref v]/\(qP C u v H Q E)
def Ci(C:Addr)(u:Addr)(v:Addr)(H:Hp)(Q:VK)(E:XK):sU C [.ref u,.ref v] H Q E=(qP C u v H Q E):=iu (f:=λ (u:Addr) (v:Addr)=>[.ref u,.ref v]) (λ _ _ _ _ h=>by cases h;exact⟨rfl,rfl⟩) u v
def mq(T:Tx K mg t):%[1,Bs|49] ["one", "other"] (sU t.a_ZZ):=by
 refine T.F_Bs.ok mY (λ _ _ _ _ h=>iw h λ _ _=>rfl) %[0|50]
 ·obtain⟨u,v,rfl,ra,f1,f2,A,B,vu,vv,k⟩:=h;obtain⟨dx,D,hu,_⟩:=vu.ob;obtain⟨dy,D2,hv,_⟩:=vv.ob;have c1:=T.cl_View;have c4:=T.na_View_room;have g1:=gq ra f1 D;have g2:=gq ra f2 D2;refine⟨_,%[%[%[(dG hr.units),%[%[0|0],rfl|13],%[%[1|0],rfl|13],(az _)|15],%[(@bV _ _)|9],(@aA _)|17]|9],?_⟩;rw [show au ["one", "other"] [.ref u,.ref v]=[%[u|45],%[v|45]] from rfl];ac_rfl
abbrev zZ(C:Addr)(u:Addr)(v:Addr)(H:Hp)(Q:VK)(E:XK):Prop:=∃ (r f1 f2:Int) (A B:%[0|48]),aw C H u r f1 A/\aw C H v r f2 B/\fK A/\fK B/\av (A.map λ a=>a.1)=av (B.map λ a=>a.1)/\∀ H',Ext H H'->Q .non H'
def FY(C:Addr):Sp:=λ vs H Q E=>∃ (u:Addr) (v:Addr),vs=[.ref u,.ref v]/\(zZ C u v H Q E)
def uc(C:Addr)(u:Addr)(v:Addr)(H:Hp)(Q:VK)(E:XK):FY C [.ref u,.ref v] H Q E=(zZ C u v H Q E):=iu (f:=λ (u:Addr) (v:Addr)=>[.ref u,.ref v]) (λ _ _ _ _ h=>by cases h;exact⟨rfl,rfl⟩) u v
def fm(T:Tx K mg t):%[4,BO|49] ["one", "other"] (FY t.a_ZZ):=by
 have G_Bs:=%[mq|44];have G_BF:=%[cf|44];have G_Bt:=%[dE|44];refine T.F_BO.ok sj (λ _ _ _ _ h=>iw h λ _ _=>rfl) %[0|50]
 ·obtain⟨u,v,rfl,ra,f1,f2,A,B,vu,vv,hA,hB,hc,k⟩:=h;obtain⟨dy,D2,hv,_⟩:=vv.ob;have f3:=vn ra f2 D2 (m := "count") nofun;have c1:=T.cl_View;refine⟨_,%[%[%[Bs,%[%[0|0],%[%[1|0]|1]|1]|3],∅|14],%[%[%[Bt,%[%[0|0],%[%[%[1|0],T.cl_View,T.mt_View_count,G_BF,(hr.mono ⋯),T.b_BF,.nil,ay,∅|25]|1]|1]|3],∅|14]|9]|10],?_⟩;rw [show au ["one", "other"] [.ref u,.ref v]=[%[u|45],%[v|45]] from rfl];clear G_Bs G_BF G_Bt;exists k;ac_rfl;rw [Ci];refine⟨ra,f1,f2,A,B,vu,vv,?_⟩;ac_rfl;rw [eO];refine⟨ra,f2,B,vv,hB,λ H1 e1=>?_⟩;ac_rfl;rw [jB];refine⟨ra,f1,A,vu.ext e1,hA,hc.symm,λ H2 e2=>?_⟩;have k2:=k () H2 (e1.trans e2);clear k;ac_rfl
abbrev rq(C:Addr)(x:Addr)(u:Addr)(y:V)(H:Hp)(Q:VK)(E:XK):Prop:=∃ dx:Addr,H x=some (.ins C dx [])/\∀ H':Hp,(∀ H0,Ext H0 H->H0 x=none->Ext H0 H')->H' x=some (.ins C dx [("to",.ref u),("value",y)])->Q .non H'
def tM(C:Addr):Sp:=λ vs H Q E=>∃ (x:Addr) (u:Addr) (y:V),vs=[.ref x,.ref u,y]/\(rq C x u y H Q E)
def qG(C:Addr)(x:Addr)(u:Addr)(y:V)(H:Hp)(Q:VK)(E:XK):tM C [.ref x,.ref u,y] H Q E=(rq C x u y H Q E):=pR (f:=λ (x:Addr) (u:Addr) (y:V)=>[.ref x,.ref u,y]) (λ _ _ _ _ _ _ h=>by cases h;exact⟨rfl,rfl,rfl⟩) x u y
def fH(T:Tx K mg t):%[1,Bp|49] ["self", "to", "value"] (tM t.a_Z4):=by
 refine T.F_Bp.ok mG (λ _ _ _ _ h=>pO h λ _ _ _=>rfl) %[0|50]
 ·obtain⟨x,u,y,rfl,dx,hx,k⟩:=h;have c1:=T.cl_Fill;have c2:=T.na_Fill_to;have c3:=T.na_Fill_value;refine⟨_,%[%[%[0|0],%[1|0],rfl|28],%[%[%[0|0],%[2|0],rfl|28]|9]|10],?_⟩;rw [show au ["self", "to", "value"] [.ref x,.ref u,y]=[%[x|45],%[u|45],some (y)] from rfl];have k2:=λ (_:Unit)=>k (upd H x (.ins t.a_Z4 dx [("to",.ref u),("value",y)])) (λ H0 q0 q1=>q0.put q1) ai;clear k;ac_rfl;refine⟨(show (1:Nat) < 1000 by decide),?_⟩;ac_rfl;exact k2 ()
abbrev kl(C CV:Addr)(x:Addr)(u:Addr)(v:Addr)(H:Hp)(Q:VK)(E:XK):Prop:=∃ (dx:Addr) (r f1 f2:Int) (A B:%[0|48]),H x=some (.ins C dx [])/\aw CV H u r f1 A/\aw CV H v r f2 B/\fK A/\fK B/\av (A.map λ a=>a.1)=av (B.map λ a=>a.1)/\∀ H':Hp,(∀ H0,Ext H0 H->H0 x=none->Ext H0 H')->H' x=some (.ins C dx [("to",.ref u),("source",.ref v)])->Q .non H'
def jn(C CV:Addr):Sp:=λ vs H Q E=>∃ (x:Addr) (u:Addr) (v:Addr),vs=[.ref x,.ref u,.ref v]/\(kl C CV x u v H Q E)
def si(C CV:Addr)(x:Addr)(u:Addr)(v:Addr)(H:Hp)(Q:VK)(E:XK):jn C CV [.ref x,.ref u,.ref v] H Q E=(kl C CV x u v H Q E):=pR (f:=λ (x:Addr) (u:Addr) (v:Addr)=>[.ref x,.ref u,.ref v]) (λ _ _ _ _ _ _ h=>by cases h;exact⟨rfl,rfl,rfl⟩) x u v
def kD(T:Tx K mg t):%[5,Bq|49] ["self", "to", "source"] (jn t.a_Z5 t.a_ZZ):=by
 have G_BO:=%[fm|44];refine T.F_Bq.ok mH (λ _ _ _ _ h=>pO h λ _ _ _=>rfl) (λ cdv A' outer s H vs Q E hr h=>?_)
 ·obtain⟨x,u,v,rfl,dx,r,f1,f2,A,B,hx,vu,vv,hA,hB,hc,k⟩:=h;have c1:=T.cl_Copy;have c2:=T.na_Copy_to;have c3:=T.na_Copy_source;refine⟨_,%[%[%[BO,%[%[1|0],%[%[2|0]|1]|1]|3],∅|14],%[%[%[0|0],%[1|0],rfl|28],%[%[%[0|0],%[2|0],rfl|28]|9]|10]|10],?_⟩;rw [show au ["self", "to", "source"] [.ref x,.ref u,.ref v]=[%[x|45],%[u|45],%[v|45]] from rfl];clear G_BO;exists k;ac_rfl;rw [uc];refine⟨r,f1,f2,A,B,vu,vv,hA,hB,hc,λ H1 e1=>?_⟩;have aa:=e1.at hx;have k2:=λ (_:Unit)=>k () (upd H1 x (.ins t.a_Z5 dx [("to",.ref u),("source",.ref v)])) (λ H0 q0 q1=>(q0.trans e1).put q1) ai;clear k hx;ac_rfl;refine⟨(show (1:Nat) < 1000 by decide),?_⟩;ac_rfl;exact k2 ()
abbrev kg(C CV:Addr)(x:Addr)(u:Addr)(v:Addr)(H:Hp)(Q:VK)(E:XK):Prop:=∃ (dx:Addr) (r f1 f2:Int) (A B:%[0|48]),H x=some (.ins C dx [])/\aw CV H u r f1 A/\aw CV H v r f2 B/\fK A/\fK B/\av (A.map λ a=>a.1)=av (B.map λ a=>a.1)/\∀ H':Hp,(∀ H0,Ext H0 H->H0 x=none->Ext H0 H')->H' x=some (.ins C dx [("one",.ref u),("other",.ref v)])->Q .non H'
def jk(C CV:Addr):Sp:=λ vs H Q E=>∃ (x:Addr) (u:Addr) (v:Addr),vs=[.ref x,.ref u,.ref v]/\(kg C CV x u v H Q E)
def r8(C CV:Addr)(x:Addr)(u:Addr)(v:Addr)(H:Hp)(Q:VK)(E:XK):jk C CV [.ref x,.ref u,.ref v] H Q E=(kg C CV x u v H Q E):=pR (f:=λ (x:Addr) (u:Addr) (v:Addr)=>[.ref x,.ref u,.ref v]) (λ _ _ _ _ _ _ h=>by cases h;exact⟨rfl,rfl,rfl⟩) x u v
def kA(T:Tx K mg t):%[5,Br|49] ["self", "one", "other"] (jk t.a_Z6 t.a_ZZ):=by
 have G_BO:=%[fm|44];refine T.F_Br.ok mC (λ _ _ _ _ h=>pO h λ _ _ _=>rfl) (λ cdv A' outer s H vs Q E hr h=>?_)
 ·obtain⟨x,u,v,rfl,dx,r,f1,f2,A,B,hx,vu,vv,hA,hB,hc,k⟩:=h;have c1:=T.cl_Swap;have c2:=T.na_Swap_one;have c3:=T.na_Swap_other;refine⟨_,%[%[%[BO,%[%[1|0],%[%[2|0]|1]|1]|3],∅|14],%[%[%[0|0],%[1|0],rfl|28],%[%[%[0|0],%[2|0],rfl|28]|9]|10]|10],?_⟩;rw [show au ["self", "one", "other"] [.ref x,.ref u,.ref v]=[%[x|45],%[u|45],%[v|45]] from rfl];clear G_BO;exists k;ac_rfl;rw [uc];refine⟨r,f1,f2,A,B,vu,vv,hA,hB,hc,λ H1 e1=>?_⟩;have aa:=e1.at hx;have k2:=λ (_:Unit)=>k () (upd H1 x (.ins t.a_Z6 dx [("one",.ref u),("other",.ref v)])) (λ H0 q0 q1=>(q0.trans e1).put q1) ai;clear k hx;ac_rfl;refine⟨(show (1:Nat) < 1000 by decide),?_⟩;ac_rfl;exact k2 ()
abbrev i9(C CV:Addr)(x:Addr)(u:Addr)(v:Addr)(H:Hp)(Q:VK)(E:XK):Prop:=∃ (dx:Addr) (r f1 f2:Int) (A B:%[0|48]),H x=some (.ins C dx [])/\aw CV H u r f1 A/\aw CV H v r f2 B/\fK A/\fK B/\av (A.map λ a=>a.1)=av (B.map λ a=>a.1)/\∀ H':Hp,(∀ H0,Ext H0 H->H0 x=none->Ext H0 H')->H' x=some (.ins C dx [("to",.ref u),("source",.ref v)])->Q .non H'
def gR(C CV:Addr):Sp:=λ vs H Q E=>∃ (x:Addr) (u:Addr) (v:Addr),vs=[.ref x,.ref u,.ref v]/\(i9 C CV x u v H Q E)
def pH(C CV:Addr)(x:Addr)(u:Addr)(v:Addr)(H:Hp)(Q:VK)(E:XK):gR C CV [.ref x,.ref u,.ref v] H Q E=(i9 C CV x u v H Q E):=pR (f:=λ (x:Addr) (u:Addr) (v:Addr)=>[.ref x,.ref u,.ref v]) (λ _ _ _ _ _ _ h=>by cases h;exact⟨rfl,rfl,rfl⟩) x u v
def jH(T:Tx K mg t):%[5,xr|49] ["self", "to", "source"] (gR t.a_ZY t.a_ZZ):=by
 have G_BO:=%[fm|44];refine T.F_xr.ok kG (λ _ _ _ _ h=>pO h λ _ _ _=>rfl) (λ cdv A' outer s H vs Q E hr h=>?_)
 ·obtain⟨x,u,v,rfl,dx,r,f1,f2,A,B,hx,vu,vv,hA,hB,hc,k⟩:=h;have c1:=T.cl_Raise;have c2:=T.na_Raise_to;have c3:=T.na_Raise_source;refine⟨_,%[%[%[BO,%[%[1|0],%[%[2|0]|1]|1]|3],∅|14],%[%[%[0|0],%[1|0],rfl|28],%[%[%[0|0],%[2|0],rfl|28]|9]|10]|10],?_⟩;rw [show au ["self", "to", "source"] [.ref x,.ref u,.ref v]=[%[x|45],%[u|45],%[v|45]] from rfl];clear G_BO;exists k;ac_rfl;rw [uc];refine⟨r,f1,f2,A,B,vu,vv,hA,hB,hc,λ H1 e1=>?_⟩;have aa:=e1.at hx;have k2:=λ (_:Unit)=>k () (upd H1 x (.ins t.a_ZY dx [("to",.ref u),("source",.ref v)])) (λ H0 q0 q1=>(q0.trans e1).put q1) ai;clear k hx;ac_rfl;refine⟨(show (1:Nat) < 1000 by decide),?_⟩;ac_rfl;exact k2 ()
def ViZ(C:Addr)(l:Addr)(H:Hp)(u:Addr)(room f:Int)(A:%[0|48]):Prop:=∃ dx D,H u=some (.ins C dx (eT room f D))/\D ≠ l/\bf H D (axL A)
def ViZ.at{C l:Addr}{H:Hp}{u:Addr}{room f:Int}{A:%[0|48]}(h:ViZ C l H u room f A):aw C H u room f A:=by
 obtain⟨dx,D,h1,_,h3⟩:=h;exact⟨dx,D,h1,h3⟩
def ViZ.ext{C l:Addr}{H H':Hp}{u:Addr}{room f:Int}{A:%[0|48]}(h:ViZ C l H u room f A)(e:Ext H H'):ViZ C l H' u room f A:=by
 obtain⟨dx,D,h1,h2,h3⟩:=h;exact⟨dx,D,e.at h1,h2,h3.ext e⟩
def KpL(l:Addr)(H H':Hp):Prop:=∀ b o,b ≠ l->H b=some o->H' b=some o
def KpL.trans{l:Addr}{H H' H'':Hp}(h:KpL l H H')(h':KpL l H' H''):KpL l H H'':=λ b o hb q=>h' b o hb (h b o hb q)
def Ext.kp{l:Addr}{H H':Hp}(h:Ext H H'):KpL l H H':=λ _ _ _ q=>h.at q
def ViZ.kp{C l:Addr}{H H':Hp}{u:Addr}{room f:Int}{A:%[0|48]}{xs:List V}(h:ViZ C l H u room f A)(hl:H l=some (.lst xs))(k:KpL l H H'):ViZ C l H' u room f A:=by
 obtain⟨dx,D,h1,h2,ys,h3,h4⟩:=h;exact⟨dx,D,k _ _ (λ e=>by rw [e,hl] at h1;cases h1) h1,h2,ys,k _ _ h2 h3,h4.imp λ _ _ ⟨q,a1,a2⟩=>⟨q,a1,k _ _ (λ e=>by rw [e,hl] at a2;cases a2) a2⟩⟩
def uX(i:Nat)(vals c1 c2:List Int)(z:Int):List Int:=match i with
 | 0=>vals
 | 1=>kZ vals c1 z
 | 2=>kn vals c1 (bc vals c2)
 | 3=>kn (kn vals c1 (bc vals c2)) c2 (bc vals c1)
 | _=>kn vals c1 (List.zipWith (· + ·) (bc vals c1) (bc vals c2))
structure OK(CV l:Addr)(H:Hp)(u:Addr)(vals:List Int)(f:Int)(A:%[0|48]):Prop where
 v:ViZ CV l H u vals.length f A
 ax:fK A
 pr:av (A.map λ a=>a.1)<=4096
 on:cu (af f A) vals.length
abbrev Ab(t:Adr)(i:Nat)(s:Addr)(st:Addr)(H:Hp)(Q:VK)(E:XK):Prop:=∃ (u v dx l:Addr) (z:Int) (vals:List Int) (f1:Int) (A1:%[0|48]) (f2:Int) (A2:%[0|48]),H s=some (.ins (JW t i) dx (JV i u v (.int z)))/\cq t.a_ZX H st l vals/\vals.length<=4096/\(0 < i->OK t.a_ZZ l H u vals f1 A1/\OK t.a_ZZ l H v vals f2 A2/\av (A2.map λ a=>a.1)=av (A1.map λ a=>a.1))/\∀ H',(∀ H0,Ext H0 H->H0 l=none->Ext H0 H')->KpL l H H'->H' l=some (.lst ((uX i vals (af f1 A1) (af f2 A2) z).map V.int))->Q .non H'
def pV(t:Adr)(i:Nat):Sp:=λ vs H Q E=>∃ (s:Addr) (st:Addr),vs=[.ref s,.ref st]/\(Ab t i s st H Q E)
def JH(t:Adr)(i:Nat)(s:Addr)(st:Addr)(H:Hp)(Q:VK)(E:XK):pV t i [.ref s,.ref st] H Q E=(Ab t i s st H Q E):=iu (f:=λ (s:Addr) (st:Addr)=>[.ref s,.ref st]) (λ _ _ _ _ h=>by cases h;exact⟨rfl,rfl⟩) s st
def kB(T:Tx K mg t):%[7,zC|49] ["self", "store"] (pV t 0):=by
 refine T.F_zC.ok mD (λ _ _ _ _ h=>iw h λ _ _=>rfl) (λ cdv A outer s0 H vs Q E hr h=>?_)
 ·obtain⟨s,st,rfl,u,v,dx,l,z,vals,f1,A1,f2,A2,hs,so,hv,hw,k⟩:=h;refine⟨_,%[(@Ha _ _)|9],?_⟩;rw [show au ["self", "store"] [.ref s,.ref st]=[%[s|45],%[st|45]] from rfl];have k2:=k H (λ _ e _=>e) (λ _ _ _ q=>q) so.fl;clear k hs;ac_rfl
def Fp:∀ a b:List Int,List.zipWith (· + ·) a b=(a.zip b).map λ z=>z.1+z.2
 | [],_=>rfl
 | _::_,[]=>rfl
 | x::a,y::b=>by
  show (x+y)::List.zipWith (· + ·) a b=(x+y)::(a.zip b).map λ z=>z.1+z.2
  rw [Fp a b]
def m5(vals cs:List Int):(bc vals cs).length=cs.length:=by unfold bc;rw [length_map]
def uv(T:Tx K mg t):%[7,Zz|49] ["self", "store"] (pV t 1):=by
 have G_BJ:=%[ph|44];refine T.F_Zz.ok xY (λ _ _ _ _ h=>iw h λ _ _=>rfl) (λ cdv A outer s0 H vs Q E hr h=>?_)
 ·obtain⟨s,st,rfl,u,v,dx,l,z,vals,f1,A1,f2,A2,hs,so,hv,hw,k⟩:=h;obtain⟨w1,w2,aa⟩:=hw ⋯;clear hw;have aS:H s=some (.ins t.a_Z4 dx [("to",V.ref u),("value",V.int z)]):=hs;obtain⟨ds,a3⟩:=so.ob;have a4:=so.fl;have c8:=T.cl_Fill;have c9:=T.cl_Store;have m0:=aG l (m := "fill") nofun;have c0:=T.na_Fill_to;have l0:([("to",V.ref u),("value",V.int z)]:List (Str × V)).lookup (Str.ofString "to")=some (V.ref u):=by rfl
  have c1:=T.na_Fill_value;have l1:([("to",V.ref u),("value",V.int z)]:List (Str × V)).lookup (Str.ofString "value")=some (V.int z):=by rfl
  refine⟨_,%[%[%[%[1|0],T.cl_Store,T.mt_Store_fill,G_BJ,(hr.mono ⋯),T.b_BJ,.nil,ay,%[%[%[0|0],rfl|13],%[%[%[0|0],rfl|13]|1]|1],∅,∅,∅|20],∅|14]|9],?_⟩;rw [show au ["self", "store"] [.ref s,.ref st]=[%[s|45],%[st|45]] from rfl];clear G_BJ hs;exists k;ac_rfl;rw [Fh];refine⟨l,vals,vals.length,f1,A1,so,w1.v.at,w1.ax,rfl,hv,w1.pr,w1.on,λ H' q1 q2 q3=>?_⟩;have k2:=k () H' q1 q2 q3;clear k;ac_rfl
def uw(T:Tx K mg t):%[7,ZA|49] ["self", "store"] (pV t 2):=by
 have G_Bu:=%[mr|44];refine T.F_ZA.ok xZ (λ _ _ _ _ h=>iw h λ _ _=>rfl) (λ cdv A outer s0 H vs Q E hr h=>?_)
 ·obtain⟨s,st,rfl,u,v,dx,l,z,vals,f1,A1,f2,A2,hs,so,hv,hw,k⟩:=h;obtain⟨w1,w2,aa⟩:=hw ⋯;clear hw;have aS:H s=some (.ins t.a_Z5 dx [("to",V.ref u),("source",V.ref v)]):=hs;obtain⟨ds,a3⟩:=so.ob;have a4:=so.fl;have c8:=T.cl_Copy;have c9:=T.cl_Store;have m0:=aG l (m := "copied") nofun;have c0:=T.na_Copy_to;have l0:([("to",V.ref u),("source",V.ref v)]:List (Str × V)).lookup (Str.ofString "to")=some (V.ref u):=by rfl
  have c1:=T.na_Copy_source;have l1:([("to",V.ref u),("source",V.ref v)]:List (Str × V)).lookup (Str.ofString "source")=some (V.ref v):=by rfl
  refine⟨_,%[%[%[%[1|0],T.cl_Store,T.mt_Store_copied,G_Bu,(hr.mono ⋯),T.b_Bu,.nil,ay,%[%[%[0|0],rfl|13],%[%[%[0|0],rfl|13]|1]|1],∅,∅,∅|20],∅|14]|9],?_⟩;rw [show au ["self", "store"] [.ref s,.ref st]=[%[s|45],%[st|45]] from rfl];clear G_Bu hs;exists k;ac_rfl;rw [xT];refine⟨l,vals,f1,f2,A1,A2,so,w1.v.at,w2.v.at,w1.ax,w2.ax,hv,w1.pr,aa,w1.on,w2.on,λ H' q1 q2 q3=>?_⟩;have k2:=k () H' q1 q2 q3;clear k;ac_rfl
def uu(T:Tx K mg t):%[7,ZC|49] ["self", "store"] (pV t 3):=by
 have G_BI:=%[cZ|44];have G_EB:=%[dU|44];refine T.F_ZC.ok jE (λ _ _ _ _ h=>iw h λ _ _=>rfl) (λ cdv A outer s0 H vs Q E hr h=>?_)
 ·obtain⟨s,st,rfl,u,v,dx,l,z,vals,f1,A1,f2,A2,hs,so,hv,hw,k⟩:=h;obtain⟨w1,w2,c2⟩:=hw ⋯;clear hw;have bp:H s=some (.ins t.a_Z6 dx [("one",V.ref u),("other",V.ref v)]):=hs;obtain⟨ds,bS⟩:=so.ob;have a8:=so.fl;have c8:=T.cl_Swap;have c9:=T.cl_Store;have m0:=aG l (m := "read") nofun;have m1:=aG l (m := "put") nofun;have c0:=T.na_Swap_one;have l0:([("one",V.ref u),("other",V.ref v)]:List (Str × V)).lookup (Str.ofString "one")=some (V.ref u):=by rfl
  have c1:=T.na_Swap_other;have l1:([("one",V.ref u),("other",V.ref v)]:List (Str × V)).lookup (Str.ofString "other")=some (V.ref v):=by rfl
  refine⟨_,%[%[2,jE,%[%[1|0],T.cl_Store,T.mt_Store_read,G_BI,(hr.mono ⋯),T.b_BI,.nil,ay,%[%[%[0|0],rfl|13]|1],∅,∅,∅|20]|4],%[%[3,jE,%[%[1|0],T.cl_Store,T.mt_Store_read,G_BI,(hr.mono ⋯),T.b_BI,.nil,ay,%[%[%[0|0],rfl|13]|1],∅,∅,∅|20]|4],%[%[%[%[1|0],T.cl_Store,T.mt_Store_put,G_EB,(hr.mono ⋯),T.b_EB,.nil,ay,%[%[%[0|0],rfl|13],%[%[3|0]|1]|1],∅,∅,∅|20],∅|14],%[%[%[%[1|0],T.cl_Store,T.mt_Store_put,G_EB,(hr.mono ⋯),T.b_EB,.nil,ay,%[%[%[0|0],rfl|13],%[%[2|0]|1]|1],∅,∅,∅|20],∅|14]|9]|10]|10]|10],?_⟩;rw [show au ["self", "store", "ours", "theirs"] [.ref s,.ref st]=[%[s|45],%[st|45],none,none] from rfl];clear G_BI G_EB hs;exists k;have c3:=w1.pr;have c4:=w2.pr;have c5:=aX f1 A1 λ a ha=>(w1.ax.2 a ha).1;have c6:=aX f2 A2 λ a ha=>(w2.ax.2 a ha).1;ac_rfl;rw [gp];refine⟨l,vals,vals.length,f1,A1,so,w1.v.at,w1.ax,rfl,w1.pr,w1.on,λ r1 H1 a9 e1 h1=>?_⟩;have b1:r1 ≠ l:=λ e=>by rw [e,a8] at a9;cases a9
  have b2:=e1.at bp;have a6:=e1.at bS;clear bp bS a9;ac_rfl;rw [gp];refine⟨l,vals,vals.length,f2,A2,so.ext e1,w2.v.at.ext e1,w2.ax,rfl,w2.pr,w2.on,λ r2 H2 ba e2 h2=>?_⟩;have aS:=e1.trans e2;have b5:r2 ≠ l:=λ e=>by rw [e,e1.at a8] at ba;cases ba
  have a4:=e2.at b2;have aa:=e2.at a6;have a7:=e2.at h1;have a3:=aS.at a8;clear b2 a6 ba h1;ac_rfl;rw [lC];refine⟨l,vals,vals.length,f1,A1,_,so.ext aS,w1.v.at.ext aS,w1.ax,rfl,hv,w1.pr,w1.on,h2,b5,by rw [m5];omega,λ H3 q1 q2 q3=>?_⟩;have kp:KpL l H2 H3:=q2;have c7:=kp _ _ (λ e=>by rw [e,a3] at a4;cases a4) a4;have b3:=kp _ _ (λ e=>by rw [e,a3] at aa;cases aa) aa;have b4:=kp _ _ b1 a7;have b8:=(w2.v.ext aS).kp a3 kp;have a5:=bG vals (af f1 A1) (bc vals (af f2 A2));have cb:cq t.a_ZX H3 st l (kn vals (af f1 A1) (bc vals (af f2 A2))):=⟨⟨ds,b3⟩,q3⟩;have cv:((bc vals (af f1 A1)).length:Int)=av (A2.map λ a=>a.1):=by rw [m5];omega
  have cD:cu (af f2 A2) (kn vals (af f1 A1) (bc vals (af f2 A2))).length:=by rw [a5];exact w2.on
  have cH:(kn vals (af f1 A1) (bc vals (af f2 A2))).length<=4096:=by rw [a5];exact hv
  have cT:aw t.a_ZZ H3 v (kn vals (af f1 A1) (bc vals (af f2 A2))).length f2 A2:=by rw [a5];exact b8.at
  clear a4 aa a7 h2 q2 a5;exists q1;ac_rfl;rw [lC];refine⟨l,_,_,f2,A2,_,cb,cT,w2.ax,rfl,cH,w2.pr,cD,b4,b1,cv,λ H4 p1 p2 p3=>?_⟩;have k2:=k () H4 (λ H0 e0 h0=>p1 H0 (q1 () H0 (e0.trans aS) h0) h0) ((Ext.kp aS).trans (kp.trans p2)) p3;clear k q1;ac_rfl
def rM(T:Tx K mg t):%[7,EL|49] ["self", "store"] (pV t 4):=by
 have G_BI:=%[cZ|44];have G_EB:=%[dU|44];refine T.F_EL.ok ml (λ _ _ _ _ h=>iw h λ _ _=>rfl) (λ cdv A outer s0 H vs Q E hr h=>?_)
 ·obtain⟨s,st,rfl,u,v,dx,l,z,vals,f1,A1,f2,A2,hs,so,hv,hw,k⟩:=h;obtain⟨w1,w2,b2⟩:=hw ⋯;clear hw;have a4:H s=some (.ins t.a_ZY dx [("to",V.ref u),("source",V.ref v)]):=hs;obtain⟨ds,a5⟩:=so.ob;have a9:=so.fl;have c8:=T.cl_Raise;have c9:=T.cl_Store;have m0:=aG l (m := "read") nofun;have m1:=aG l (m := "put") nofun;have c0:=T.na_Raise_to;have l0:([("to",V.ref u),("source",V.ref v)]:List (Str × V)).lookup (Str.ofString "to")=some (V.ref u):=by rfl
  have c1:=T.na_Raise_source;have l1:([("to",V.ref u),("source",V.ref v)]:List (Str × V)).lookup (Str.ofString "source")=some (V.ref v):=by rfl
  refine⟨_,%[%[2,ml,%[%[1|0],T.cl_Store,T.mt_Store_read,G_BI,(hr.mono ⋯),T.b_BI,.nil,ay,%[%[%[0|0],rfl|13]|1],∅,∅,∅|20]|4],%[%[%[%[1|0],T.cl_Store,T.mt_Store_put,G_EB,(hr.mono ⋯),T.b_EB,.nil,ay,%[%[%[0|0],rfl|13],%[%[(["value", "other", "self", "store", "more"]),(2),(aI (ae fb) ["self", "store", "more"] rfl rfl nofun),rfl,%[∅,T.z_zip,%[%[%[1|0],T.cl_Store,T.mt_Store_read,G_BI,(hr.mono ⋯),T.b_BI,.nil,ay,%[%[%[0|0],rfl|13]|1],∅,∅,∅|20],%[%[2|0]|1]|1],∅,∅|41],(λ _ _ _ _ _=>(%[(2),rfl,%[%[(0),_,(show List.Nodup (["value", "other", "self", "store", "more"]:List Str) from by decide +kernel),rfl,(Or.inl rfl),%[0|7]|19],%[%[(1),_,(show List.Nodup (["value", "other", "self", "store", "more"]:List Str) from by decide +kernel),rfl,(Or.inl rfl),%[0|7]|19],(@aK _),∅|16],∅|16],∅,∅|26].mono λ _ _ _ _ h=>bP h)),(λ _ _ _ _ _=>(@aN _)),(λ _ _ _ _ _=>%[bM,%[0|0],%[1|0]|11]),(by intros;rfl)|22]|1]|1],∅,∅,∅|20],∅|14]|9]|10],?_⟩;rw [show au ["self", "store", "more"] [.ref s,.ref st]=[%[s|45],%[st|45],none] from rfl];clear G_BI G_EB hs;exists k;have b3:=w1.pr;have b4:=w2.pr;have b5:=aX f1 A1 λ a ha=>(w1.ax.2 a ha).1;have b8:=aX f2 A2 λ a ha=>(w2.ax.2 a ha).1;ac_rfl;rw [gp];refine⟨l,vals,vals.length,f2,A2,so,w2.v.at,w2.ax,rfl,w2.pr,w2.on,λ r1 H1 ba e1 h1=>?_⟩;have a6:=e1.at a4;have aS:=e1.at a5;clear a4 a5 ba;ac_rfl;rw [gp];refine⟨l,vals,vals.length,f1,A1,so.ext e1,w1.v.at.ext e1,w1.ax,rfl,w1.pr,w1.on,λ r2 H2 bp e2 h2=>?_⟩;have a7:=e1.trans e2;have cb:=e2.at a6;have b1:=e2.at aS;have a3:=e2.at h1;have a8:=a7.at a9;clear a6 aS bp h1;ac_rfl;have wk:=GI (R1:=λ (z:Int) y _=>y=V.int z) (R2:=λ (z:Int) y _=>y=V.int z) (λ _ _ _ _ h _=>h) (λ _ _ _ _ h _=>h) h2 a3 (ue _) (ue _);refine aL ((bc vals (af f1 A1)).zip (bc vals (af f2 A2))) (λ _=>true) (λ z=>.int (z.1+z.2)) (Qd (λ (z:Int) y _=>y=V.int z) (λ (z:Int) y _=>y=V.int z)) wk.1 wk.2 (aC (by rw [TM,m5,m5];omega)) ?_ ?_
  ·intro D z y H' N1 N0 hz hD e ⟨p,q1,q2,hu,cv,ha,hb⟩ k1 _;subst hu ha hb;have cD:=k1 rfl H' (Ext.refl _);clear k1 k wk hz;simp! only [↓ek,↓aM]
  intro D H3 hD e3 h3
  have bS:H3 D=some (.lst ((List.zipWith (· + ·) (bc vals (af f1 A1)) (bc vals (af f2 A2))).map V.int)):=by
   rw [h3,ko,Fp,Sv];rfl
  have nD:D ≠ l:=λ e=>by rw [e,a8] at hD;cases hD
  have aa:=a7.trans e3;clear h3 wk hD a3 h2;ac_rfl;rw [lC];refine⟨l,vals,vals.length,f1,A1,_,so.ext aa,w1.v.at.ext aa,w1.ax,rfl,hv,w1.pr,w1.on,bS,nD,by rw [List.length_zipWith,m5,m5];omega,λ H4 p1 p2 p3=>?_⟩;have k2:=k () H4 (λ H0 e0 h0=>p1 H0 (e0.trans aa) h0) ((Ext.kp aa).trans p2) p3;clear k;ac_rfl
def MDR{P:Program}{w:World}{K:W.Frag}{mg:Str->Option Value}{base:Heap}{t:Adr}(T:Tx K mg t):∀ i,i < 5->MD P w K mg base CX0 7 "run" (JW t i) (pV t i)
 | 0,_=>⟨T.cl_Statement,_,_,_,T.mt_Statement_run,kB T,T.b_zC⟩
 | 1,_=>⟨T.cl_Fill,_,_,_,T.mt_Fill_run,uv T,T.b_Zz⟩
 | 2,_=>⟨T.cl_Copy,_,_,_,T.mt_Copy_run,uw T,T.b_ZA⟩
 | 3,_=>⟨T.cl_Swap,_,_,_,T.mt_Swap_run,uu T,T.b_ZC⟩
 | 4,_=>⟨T.cl_Raise,_,_,_,T.mt_Raise_run,rM T,T.b_EL⟩
 | n+5,h=>absurd h %[0|8]
def Rz:Str := "abcdefghijklmnopqrstuvwxyz"
structure iF(x:Str):Prop where
 asc:x.cps.all (· < 128)=true
 l1:1<=x.length
 l8:x.length<=8
 let':∀ c∈x.cps.toList,inS ⟨#[c]⟩ "abcdefghijklmnopqrstuvwxyz"=true
abbrev we  (x:Str) (H:Hp) (Q:VK) (E:XK):Prop:=iF x/\∀ H',Ext H H'->Q (.bl true) H'
def yB  : Sp:=λ vs H Q E=>∃ (x:Str),vs=[.str x]/\(we  x H Q E)
def vQ  (x:Str) (H:Hp) (Q:VK) (E:XK):yB  [.str x] H Q E=(we  x H Q E):=jM (f:=λ (x:Str)=>[.str x]) (λ _ _ h=>by cases h;exact rfl) x
def nr(T:Tx K mg t):%[1,ZI|49] ["thing"] yB:=by
 refine T.F_ZI.ok Cy (λ _ _ _ _ h=>jN h λ _=>rfl) %[0|50]
 ·obtain⟨x,rfl,hx,k⟩:=h;refine⟨_,%[%[(PW.pt %[%[%[%[isinstance,eM,%[%[0|0],%[(@jj _ _ (.ty "str") (.type "str") _ ∅ T.z_str nofun rfl ⋯ ⋯)|1]|1]|6],(by intros;rfl)|31]|30],(@gD _ _ _ _ %[(@Au _ _ _ _ _ _ _ _ _ _ _ _ sI sI %[0|2] %[len,aB,%[%[0|0]|1]|6] (@gO _ _ (.int 8) _ _ ∅ T.m_MOST_LETTERS.choose_spec ⟨_,rfl⟩ ⋯) ∅)|30])|37]),%[%[(@ku _ _ _ _)|12]|9],(@aA _)|17],%[%[%[all,(iS rfl),%[%[(["letter", "thing"]),(1),(aI (ae iN) ["thing"] rfl rfl nofun),rfl,(@Li _ _ _ _ %[0|0]),(λ _ _ _ _ _=>%[(0),_,(show List.Nodup (["letter", "thing"]:List Str) from by decide +kernel),rfl,(Or.inl rfl),%[0|7]|19]),(λ _ _ _ _ _=>(@aN _)),(λ _ _ _ _ _=>%[Hu,%[0|0],(@gO _ _ (.str "abcdefghijklmnopqrstuvwxyz") _ _ ∅ T.m_LETTERS.choose_spec ⟨_,rfl⟩ ⋯),(by with_unfolding_all rfl)|34]),(by intros;rfl)|22]|1]|6]|12]|9]|10],?_⟩;rw [show au ["thing"] [.str x]=[some (.str x)] from rfl];exists k;have n1:(1:Int)<=(x.length:Int):=by have:=hx.l1;omega
  have n8:(x.length:Int)<=8:=by have:=hx.l8;omega
  have hlen:x.cps.toList.length<=8:=by have:=hx.l8;simpa [Str.length] using this
  ac_rfl;refine⟨aC (by have:=hx.l8;omega),x,rfl,hx.asc,?_⟩;refine aL x.cps.toList (λ _=>true) (λ _=>.bl true) (λ z v _=>v=sgn z) (Ft x).1 (Ft x).2 (aC %[0|8]) ?_ ?_
  ·intro D z v H' N1 N0 hz hD e hv k1 _;subst hv;have a3:=hx.let' z hz;have a4:=k1 rfl H' (Ext.refl _);clear k1 k n1 n8 hz;unfold sgn;simp! only [↓aO,↓aM]
  intro D H1 hD e1 aa;rw [ko,show List.map (λ (_:Nat)=>V.bl true) x.cps.toList=(x.cps.toList.map λ _=>true).map V.bl from by rw [Sv];rfl] at aa
  have aS:(x.cps.toList.map λ _=>true).all id=true:=by
   rw [Ur];intro b hb;obtain⟨_,_,rfl⟩:=RW.mp hb;rfl
  have k2:=k () H1 e1;clear k;generalize (x.cps.toList.map λ _=>true)=bs at *;ac_rfl
def iC(st D Pp:Addr):List (Str × V):=bT "past" (V.ref Pp) (bT "views" (V.ref D) (bT "store" (V.ref st) []))
def cx(st D Pp:Addr):(iC st D Pp).lookup ("store":Str)=%[st|45]:=by
 unfold iC;rw [aj,if_neg nofun,aj,if_neg nofun,aj,if_pos rfl]
def cw(st D Pp:Addr):(iC st D Pp).lookup ("views":Str)=%[D|45]:=by
 unfold iC;rw [aj,if_neg nofun,aj,if_pos rfl]
def nC(st D Pp:Addr):(iC st D Pp).lookup ("past":Str)=%[Pp|45]:=by
 unfold iC;rw [aj,if_pos rfl]
def bK(st D Pp:Addr){m:Str}(h:m∈([("call":Str), "refuse_new", "names", "all_values", "changed_since", "do", "back"]:List Str)):(iC st D Pp).lookup m=none:=by
 have n1:¬ m = "past":=by revert m;decide +kernel
 have n2:¬ m = "views":=by revert m;decide +kernel
 have n3:¬ m = "store":=by revert m;decide +kernel
 unfold iC;rw [aj,if_neg n1,aj,if_neg n2,aj,if_neg n3];rfl
structure NVw where
 nm:Str
 ad:Addr
 f:Int
 A:%[0|48]
def nvD(nv:List NVw):List (Key × V):=nv.map λ p=>(Sum.inr p.nm,V.ref p.ad)
structure cU(t:Adr)(H:Hp)(h st l D Pp:Addr)(vals:List Int)(nv:List NVw)(ps:List V):Prop where
 ob:∃ dx,H h=some (.ins t.a_Z0 dx (iC st D Pp))
 so:cq t.a_ZX H st l vals
 dk:H D=some (.dK (nvD nv))
 pa:H Pp=some (.lst ps)
def cU.ext{t:Adr}{H H':Hp}{h st l D Pp:Addr}{vals:List Int}{nv:List NVw}{ps:List V}(a:cU t H h st l D Pp vals nv ps)(e:Ext H H'):cU t H' h st l D Pp vals nv ps:=by
 obtain⟨⟨dx,h1⟩,h2,h3,h4⟩:=a;exact⟨⟨dx,e.at h1⟩,h2.ext e,e.at h3,e.at h4⟩
abbrev rj(t:Adr)(x:Addr)(p:Addr)(H:Hp)(Q:VK)(E:XK):Prop:=∃ (dx:Addr) (vals:List Int),H x=some (.ins t.a_Z0 dx [])/\H p=%[vals|46]/\1<=vals.length/\vals.length<=4096/\∀ (H':Hp) (st l D Pp:Addr),(∀ H0,Ext H0 H->H0 x=none->Ext H0 H')->H st=none->H l=none->H D=none->H Pp=none->l ≠ Pp->cU t H' x st l D Pp vals [] []->Q .non H'
def tI(t:Adr):Sp:=λ vs H Q E=>∃ (x:Addr) (p:Addr),vs=[.ref x,.ref p]/\(rj t x p H Q E)
def qE(t:Adr)(x:Addr)(p:Addr)(H:Hp)(Q:VK)(E:XK):tI t [.ref x,.ref p] H Q E=(rj t x p H Q E):=iu (f:=λ (x:Addr) (p:Addr)=>[.ref x,.ref p]) (λ _ _ _ _ h=>by cases h;exact⟨rfl,rfl⟩) x p
def fG(T:Tx K mg t):%[6,xy|49] ["self", "values"] (tI t):=by
 have G_xq:=%[jG|44];refine T.F_xy.ok mF (λ _ _ _ _ h=>iw h λ _ _=>rfl) %[0|50]
 ·obtain⟨x,p,rfl,dx,vals,hx,hp,cT,c0,k⟩:=h;have c1:=T.cl_Hall;have c2:=T.na_Hall_store;have c3:=T.na_Hall_views;have c4:=T.na_Hall_past;refine⟨_,%[%[%[0|0],%[T.mk_Store,G_xq,(hr.mono ⋯),∅,T.m_ZX,T.b_xq,.nil,ay,%[%[1|0]|1],⋯,∅,∅|32],rfl|28],%[%[%[0|0],(@vC _ _),rfl|28],%[%[%[0|0],%[(@b9 _)|23],rfl|28]|9]|10]|10],?_⟩;rw [show au ["self", "values"] [.ref x,.ref p]=[%[x|45],%[p|45]] from rfl];clear G_xq;exists k;ac_rfl;intro st a8 G1 aS c5 c6 gs ks c7;rw [Cg];refine⟨a8,vals,ks,gs.at hp,cT,c0,λ H1 l hE hl b3 b5=>?_⟩;have e1:=hE H gs aS;have c8:=e1.at hx;have a9:H l=none:=gs.free hl;have ba:l ≠ x:=λ z=>by rw [z,hx] at a9;cases a9
  have bp:st ≠ x:=λ z=>by rw [z,hx] at aS;cases aS
  have dA:st ≠ l:=λ z=>by rw [z] at ks;rw [hl] at ks;cases ks
  clear ks c7 hE c6 c5 gs hl;ac_rfl;have bS:upd H1 x (.ins t.a_Z0 dx (bT "store" (V.ref st) [])) x=some (.ins t.a_Z0 dx (bT "store" (V.ref st) [])):=ai;have a3:upd H1 x (.ins t.a_Z0 dx (bT "store" (V.ref st) [])) st=some (.ins t.a_ZX a8 (jP l)):=(ah bp).trans b3;have a4:upd H1 x (.ins t.a_Z0 dx (bT "store" (V.ref st) [])) l=%[vals|46]:=(ah ba).trans b5;have b2:∀ H0,Ext H0 H->H0 x=none->Ext H0 (upd H1 x (.ins t.a_Z0 dx (bT "store" (V.ref st) []))):=λ H0 q0 q1=>(q0.trans e1).put q1
  have f2:∀ y,upd H1 x (.ins t.a_Z0 dx (bT "store" (V.ref st) [])) y=none->H y=none:=λ y hy=>by
   refine e1.free ?_
   by_cases hyx:y=x
   ·rw [hyx,ai] at hy;cases hy
   ·rwa [ah hyx] at hy
  generalize upd H1 x (.ins t.a_Z0 dx (bT "store" (V.ref st) []))=H2 at *;exists b2;exists f2;clear b3 b5 e1 c8;intro D H3 hD e3 b8;have c9:=e3.at bS;have a5:=e3.at a3;have a6:=e3.at a4;have de:=f2 () D hD;have cb:D ≠ x:=λ z=>by rw [z] at hD;rw [bS] at hD;cases hD
  have f3:∀ y,H3 y=none->H y=none:=λ y hy=>f2 () y (e3.free hy);exists f3;clear bS a3 a4 hD;ac_rfl;have b1:upd H3 x (.ins t.a_Z0 dx (bT "views" (V.ref D) (bT "store" (V.ref st) []))) x=some (.ins t.a_Z0 dx (bT "views" (V.ref D) (bT "store" (V.ref st) []))):=ai;have a7:=(show upd H3 x (.ins t.a_Z0 dx (bT "views" (V.ref D) (bT "store" (V.ref st) []))) st=_ from ah bp).trans a5;have aa:=(show upd H3 x (.ins t.a_Z0 dx (bT "views" (V.ref D) (bT "store" (V.ref st) []))) l=_ from ah ba).trans a6;have cv:=(show upd H3 x (.ins t.a_Z0 dx (bT "views" (V.ref D) (bT "store" (V.ref st) []))) D=_ from ah cb).trans b8;have b4:∀ H0,Ext H0 H->H0 x=none->Ext H0 (upd H3 x (.ins t.a_Z0 dx (bT "views" (V.ref D) (bT "store" (V.ref st) [])))):=λ H0 q0 q1=>((b2 () H0 q0 q1).trans e3).put q1
  have f4:∀ y,upd H3 x (.ins t.a_Z0 dx (bT "views" (V.ref D) (bT "store" (V.ref st) []))) y=none->H y=none:=λ y hy=>by
   refine f3 () y ?_
   by_cases hyx:y=x
   ·rw [hyx,ai] at hy;cases hy
   ·rwa [ah hyx] at hy
  generalize upd H3 x (.ins t.a_Z0 dx (bT "views" (V.ref D) (bT "store" (V.ref st) [])))=H4 at *;exists b4;exists f4;clear c9 a5 a6 b8;refine⟨(show 1 < 1000 by decide),?_⟩;intro Pp H5 hP e5 dj;have dI:=e5.at b1;have cD:=e5.at a7;have cH:=e5.at aa;have dm:=e5.at cv;have dv:=f4 () Pp hP;have dy:Pp ≠ x:=λ z=>by rw [z] at hP;rw [b1] at hP;cases hP
  have dz:l ≠ Pp:=λ z=>by rw [←z] at hP;rw [aa] at hP;cases hP
  clear b1 a7 aa cv hP;ac_rfl
  try refine⟨(show 2 < 1000 by decide),?_⟩
  exact k () _ st l D Pp (λ H0 q0 q1=>((b4 () H0 q0 q1).trans e5).put q1) aS a9 de dv dz ⟨⟨dx,ai⟩,⟨⟨a8,by rw [ah bp];exact cD⟩,by rw [ah ba];exact cH⟩,by rw [ah cb];exact dm,by rw [ah dy];exact dj⟩
abbrev wq(t:Adr)(h:Addr)(x:Str)(H:Hp)(Q:VK)(E:XK):Prop:=∃ (st l D Pp:Addr) (vals:List Int) (nv:List NVw) (ps:List V),cU t H h st l D Pp vals nv ps/\iF x/\(∀ p∈nv,p.nm ≠ x)/\∀ H',Ext H H'->Q .non H'
def yF(t:Adr):Sp:=λ vs H Q E=>∃ (h:Addr) (x:Str),vs=[.ref h,.str x]/\(wq t h x H Q E)
def vS(t:Adr)(h:Addr)(x:Str)(H:Hp)(Q:VK)(E:XK):yF t [.ref h,.str x] H Q E=(wq t h x H Q E):=iu (f:=λ (h:Addr) (x:Str)=>[.ref h,.str x]) (λ _ _ _ _ h=>by cases h;exact⟨rfl,rfl⟩) h x
def Ly{nv:List NVw}{x:Str}(h:∀ p∈nv,p.nm ≠ x):eF (nvD nv) (Sum.inr x)=none:=by
 induction nv with
 | nil=>rfl
 | cons p r ih=>
  show eF ((Sum.inr p.nm,V.ref p.ad)::nvD r) (Sum.inr x)=none
  rw [bJ (λ e=>h p R5 (Uw e)),ih λ q hq=>h q (RU _ hq)]
def ef(T:Tx K mg t):%[2,t4|49] ["self", "name"] (yF t):=by
 have G_ZI:=%[nr|44];refine T.F_t4.ok jK (λ _ _ _ _ h=>iw h λ _ _=>rfl) %[0|50]
 ·obtain⟨h,x,rfl,st,l,D,Pp,vals,nv,ps,ha,hn,aa,k⟩:=h;have c1:=T.cl_Hall;have c2:=T.na_Hall_views;have f1:=cw st D Pp;refine⟨_,%[%[%[%[%[ZI,%[%[1|0]|1]|3],(by intros;rfl)|31]|30],%[(@bV _ _)|9],(@aA _)|17],%[%[%[(FD (k7 hr.units)),%[1|0],%[%[0|0],rfl|13],(by with_unfolding_all rfl)|15],%[(@bV _ _)|9],(@aA _)|17]|9]|10],?_⟩;rw [show au ["self", "name"] [.ref h,.str x]=[%[h|45],some (.str x)] from rfl];clear G_ZI;exists k;ac_rfl;rw [vQ];refine⟨hn,λ H1 e1=>?_⟩;obtain⟨⟨dx,h1⟩,_,h3,_⟩:=ha.ext e1;have hv:=Ly aa;ac_rfl;refine yt (k:=Sum.inr x) h3 ?_;have k2:=k () H1 e1;rw [hv];clear k h3;ac_rfl
abbrev wt(t:Adr)(h:Addr)(H:Hp)(Q:VK)(E:XK):Prop:=∃ (st l D Pp:Addr) (vals:List Int) (nv:List NVw) (ps:List V),cU t H h st l D Pp vals nv ps/\vals.length<=4096/\∀ (r:Addr) (H':Hp),H r=none->Ext H H'->H' r=%[vals|46]->Q (.ref r) H'
def yG(t:Adr):Sp:=λ vs H Q E=>∃ (h:Addr),vs=[.ref h]/\(wt t h H Q E)
def oS(t:Adr)(h:Addr)(H:Hp)(Q:VK)(E:XK):yG t [.ref h] H Q E=(wt t h H Q E):=jM (f:=λ (h:Addr)=>[.ref h]) (λ _ _ h=>by cases h;exact rfl) h
def eg(T:Tx K mg t):%[2,uD|49] ["self"] (yG t):=by
 have G_rW:=%[bx|44];refine T.F_uD.ok jL (λ _ _ _ _ h=>jN h λ _=>rfl) %[0|50]
 ·obtain⟨h,rfl,st,l,D,Pp,vals,nv,ps,ha,hv,k⟩:=h;have c1:=T.cl_Hall;have c2:=T.na_Hall_store;have c3:=T.cl_Store;have f1:=cx st D Pp;have m1:=aG l (m := "all_values") nofun;obtain⟨⟨dx,h1⟩,so,_,_⟩:=ha;obtain⟨a3,hs⟩:=so.ob;refine⟨_,%[%[%[%[%[0|0],rfl|13],T.cl_Store,T.mt_Store_all_values,G_rW,(hr.mono ⋯),T.b_rW,.nil,ay,∅|25]|12]|9],?_⟩;rw [show au ["self"] [.ref h]=[%[h|45]] from rfl];clear G_rW;exists k;exists so;ac_rfl;rw [kX];refine⟨l,vals,so (),hv,λ r H1 aa e1 aS=>?_⟩;have k2:=k () r H1 aa e1 aS;clear k;ac_rfl
def DZ{nv:List NVw}{p:NVw}(h:∀ q∈nv,q.nm ≠ p.nm):pS (nvD nv) (Sum.inr p.nm) (.ref p.ad)=nvD (nv++[p]):=by
 unfold pS;rw [if_neg]
 ·unfold nvD;rw [map_append];rfl
 ·intro ha;rw [Uq] at ha;obtain⟨kv,hk,he⟩:=ha;obtain⟨q,hq,rfl⟩:=RW.mp hk;exact h q hq (Uw (of_decide_eq_true he))
abbrev rn(t:Adr)(h:Addr)(x:Str)(v:Addr)(H:Hp)(Q:VK)(E:XK):Prop:=∃ (st l D Pp:Addr) (vals:List Int) (nv:List NVw) (ps:List V) (f:Int) (A:%[0|48]),cU t H h st l D Pp vals nv ps/\iF x/\(∀ p∈nv,p.nm ≠ x)/\nv.length<=100/\aw t.a_ZZ H v vals.length f A/\fK A/\av (A.map λ a=>a.1)<=4096/\∀ H',(∀ H0,Ext H0 H->H0 D=none->Ext H0 H')->(∀ b o,b ≠ D->H b=some o->H' b=some o)->H' D=some (.dK (nvD (nv++[⟨x,v,f,A⟩])))->Q .non H'
def tK(t:Adr):Sp:=λ vs H Q E=>∃ (h:Addr) (x:Str) (v:Addr),vs=[.ref h,.str x,.ref v]/\(rn t h x v H Q E)
def qF(t:Adr)(h:Addr)(x:Str)(v:Addr)(H:Hp)(Q:VK)(E:XK):tK t [.ref h,.str x,.ref v] H Q E=(rn t h x v H Q E):=pR (f:=λ (h:Addr) (x:Str) (v:Addr)=>[.ref h,.str x,.ref v]) (λ _ _ _ _ _ _ h=>by cases h;exact⟨rfl,rfl,rfl⟩) h x v
def j9(T:Tx K mg t):%[4,EC|49] ["self", "name", "view"] (tK t):=by
 have G_t4:=%[ef|44];have G_pE:=%[aR|44];have G_Bv:=%[eD|44];have G_BF:=%[cf|44];refine T.F_EC.ok uW (λ _ _ _ _ h=>pO h λ _ _ _=>rfl) (λ cdv A' outer s H vs Q E hr h=>?_)
 ·obtain⟨h,x,v,rfl,st,l,D,Pp,vals,nv,ps,f,A,ha,hn,a3,hl,vo,a4,a6,k⟩:=h;have c1:=T.cl_Hall;have c2:=T.na_Hall_store;have c3:=T.na_Hall_views;have c4:=T.cl_Store;have c5:=T.cl_View;have f1:=cx st D Pp;have f2:=cw st D Pp;have f3:=bK st D Pp (m := "refuse_new") nofun;have m1:=aG l (m := "refuse_room") nofun;obtain⟨dx,h1⟩:=ha.ob;refine⟨_,%[%[%[%[0|0],T.cl_Hall,T.mt_Hall_refuse_new,G_t4,(hr.mono ⋯),T.b_t4,.nil,ay,%[%[1|0]|1],∅,∅,∅|20],∅|14],%[%[%[%[%[0|0],rfl|13],T.cl_Store,T.mt_Store_refuse_room,G_pE,(hr.mono ⋯),T.b_pE,.nil,ay,%[%[2|0]|1],∅,∅,∅|20],∅|14],%[%[%[Bv,%[%[%[2|0],T.cl_View,T.mt_View_count,G_BF,(hr.mono ⋯),T.b_BF,.nil,ay,∅|25]|1]|3],∅|14],%[(@zk _ _ _ _ _ _ _ _ _ (k7 hr.units) %[%[0|0],rfl|13] %[1|0] %[2|0] rfl)|9]|10]|10]|10],?_⟩;rw [show au ["self", "name", "view"] [.ref h,.str x,.ref v]=[%[h|45],some (.str x),%[v|45]] from rfl];clear G_t4 G_pE G_Bv G_BF;exists k;exists ha;ac_rfl;rw [vS];refine⟨st,l,D,Pp,vals,nv,ps,ha (),hn,a3,λ H1 e1=>?_⟩;have g1:=e1.at h1;have aa:=vo.ext e1;have aS:=(ha ()).ext e1;obtain⟨a7,hs⟩:=aS.so.ob;obtain⟨dv,Dv,hv,_⟩:=aa.ob;have m2:=oo (vals.length:Int) f Dv (m := "count") nofun;exists aS;exists aa;clear h1;ac_rfl;rw [gn];refine⟨l,vals,_,f,A,(aS ()).so,aa (),rfl,?_⟩;ac_rfl;rw [eO];refine⟨_,f,A,aa (),a4,λ H2 e2=>?_⟩;have g2:=e2.at g1;have hd2:=e2.at (aS ()).dk;clear g1 hs hv;ac_rfl;rw [oR];refine⟨λ _=>?_,λ h=>absurd h %[0|8]⟩;ac_rfl;refine Fu (k:=Sum.inr x) hd2 (fN (by unfold nvD;rw [length_map];omega)) ?_;rw [DZ (p:=⟨x,v,f,A⟩) a3];exact k () _ (λ H0 q0 q1=>((q0.trans e1).trans e2).put q1) (λ b o hb a5=>by rw [ah hb];exact e2.at (e1.at a5)) ai
def iD(CV:Addr)(H:Hp)(n:Nat)(nv:List NVw):Prop:=∀ p∈nv,aw CV H p.ad (n:Int) p.f p.A/\fK p.A/\av (p.A.map λ a=>a.1)<=4096/\cu (af p.f p.A) n
def iD.ext{CV:Addr}{H H':Hp}{n:Nat}{nv:List NVw}(h:iD CV H n nv)(e:Ext H H'):iD CV H' n nv:=λ p hp=>⟨(h p hp).1.ext e,(h p hp).2⟩
def sE(nv:List NVw):Prop:=(nv.map NVw.nm).Nodup
def sE.inj{nv:List NVw}(h:sE nv){p q:NVw}(hp:p∈nv)(hq:q∈nv)(e:p.nm=q.nm):p=q:=by
 induction nv with
 | nil=>cases hp
 | cons a r ih=>
  have h2:=SY.mp (show (a.nm::r.map NVw.nm).Nodup from h)
  rcases RZ.mp hp with ea|hp
  ·rcases RZ.mp hq with eb|hq
   ·rw [ea,eb]
   ·exact absurd (RW.mpr ⟨q,hq,by rw [←e,ea]⟩) h2.1
  ·rcases RZ.mp hq with eb|hq
   ·exact absurd (RW.mpr ⟨p,hp,by rw [e,eb]⟩) h2.1
   ·exact ih h2.2 hp hq
def tY{nv:List NVw}(h:sE nv){p:NVw}(hp:p∈nv):eF (nvD nv) (Sum.inr p.nm)=some (.ref p.ad):=by
 induction nv with
 | nil=>cases hp
 | cons a r ih=>
  have h2:=SY.mp (show (a.nm::r.map NVw.nm).Nodup from h)
  show eF ((Sum.inr a.nm,V.ref a.ad)::nvD r) _=_
  rcases RZ.mp hp with ea|hp
  ·rw [ea];exact bU rfl
  ·rw [bJ (λ e=>h2.1 (RW.mpr ⟨p,hp,(Uw e).symm⟩))];exact ih h2.2 hp
def mJ(vals old:List Int)(p:NVw):Bool:=(af p.f p.A).any λ c=>decide (vals.getD c.toNat 0 ≠ old.getD c.toNat 0)
def yb(vals old:List Int)(nv:List NVw):List V:=(nv.filter (mJ vals old)).map λ p=>V.str p.nm
def cN(vals old:List Int)(nv:List NVw)(z:Key × V):Bool:=nv.any λ p=>decide (z.1=Sum.inr p.nm) && mJ vals old p
def KS{vals old:List Int}{nv:List NVw}(h:sE nv){p:NVw}(hp:p∈nv):cN vals old nv (Sum.inr p.nm,V.ref p.ad)=mJ vals old p:=by
 unfold cN
 cases hc:mJ vals old p with
 | true=>
  rw [Uq];exact⟨p,hp,by rw [hc];simp⟩
 | false=>
  rw [U8];intro q hq he;rw [S9] at he;have e:=Uw (of_decide_eq_true he.1);rw [h.inj hp hq e,he.2] at hc;cases hc
def Nx{vals old:List Int}{nv:List NVw}(h:sE nv):((nvD nv).filter (cN vals old nv)).map (λ z=>kV z.1)=yb vals old nv:=by
 unfold yb nvD;rw [List.filter_map,map_map];have:List.filter (cN vals old nv ∘ λ p=>(Sum.inr p.nm,V.ref p.ad)) nv=List.filter (mJ vals old) nv:=List.filter_congr λ p hp=>KS h hp;rw [this];rfl
def sG(vals old:List Int)(i:Nat)(kvs:List (Key × V)):Prop:=kvs.length<=i/\∀ c:Int,(eF kvs (Sum.inl c)).isSome=decide (0<=c/\c < (i:Int)/\vals.getD c.toNat 0 ≠ old.getD c.toNat 0)
def sG.nil(vals old:List Int):sG vals old 0 []:=⟨RJ _,λ c=>by
 show false=_
 exact(R6 (λ h=>by have:=h.1;have:=h.2.1;omega)).symm⟩
def sG.same{vals old:List Int}{i:Nat}{kvs:List (Key × V)}(h:sG vals old i kvs)(e:vals.getD i 0=old.getD i 0):sG vals old (i+1) kvs:=⟨Nat.le_succ_of_le h.1,λ c=>by
 rw [h.2 c]
 by_cases hc:c=(i:Int)
 ·subst hc;rw [R6 (λ h=>by have:=h.2.1;omega),R6 (λ h=>h.2.2 (by rw [Sk];exact e))]
 ·exact UA.mpr ⟨λ h=>⟨h.1,by have:=h.2.1;omega,h.2.2⟩,λ h=>⟨h.1,by have:=h.2.1;omega,h.2.2⟩⟩⟩
def sG.put{vals old:List Int}{i:Nat}{kvs:List (Key × V)}(h:sG vals old i kvs)(e:vals.getD i 0 ≠ old.getD i 0):sG vals old (i+1) (pS kvs (Sum.inl (i:Int)) (.bl true)):=⟨Sj (ia _ _ _) (Nat.succ_le_succ h.1),λ c=>by
 rw [Dk]
 by_cases hc:c=(i:Int)
 ·subst hc;rw [RX rfl,R7 ⟨Int.natCast_nonneg _,by omega,by rw [Sk];exact e⟩];rfl
 ·rw [RQ (λ z=>hc (Sum.inl.inj z)),h.2 c];exact UA.mpr ⟨λ h=>⟨h.1,by have:=h.2.1;omega,h.2.2⟩,λ h=>⟨h.1,by have:=h.2.1;omega,h.2.2⟩⟩⟩
def sG.at{vals old:List Int}{n:Nat}{kvs:List (Key × V)}(h:sG vals old n kvs){c:Int}(h0:0<=c)(h1:c < (n:Int)):(eF kvs (Sum.inl c)).isSome=decide (vals.getD c.toNat 0 ≠ old.getD c.toNat 0):=by
 rw [h.2 c];exact UA.mpr ⟨λ h=>h.2.2,λ h=>⟨h0,h1,h⟩⟩
def sG.none{vals old:List Int}{n:Nat}{nv:List NVw}(h:sG vals old n [])(hv:∀ p∈nv,cu (af p.f p.A) n):yb vals old nv=[]:=by
 unfold yb;rw [List.map_eq_nil_iff,List.filter_eq_nil_iff];intro p hp hc;obtain⟨c,aa,aS⟩:=any_eq_true.mp hc;have o:=hv p hp c aa;have:=h.at o.1 o.2;rw [aS] at this;cases this
def aw.dk{C:Addr}{H:Hp}{v D:Addr}{room f:Int}{A:%[0|48]}{kvs:List (Key × V)}{o:HO}(h:aw C H v room f A)(hD:H D=some (.dK kvs)):aw C (upd H D o) v room f A:=by
 obtain⟨dx,l,h1,ys,h2,h3⟩:=h.ob;refine⟨⟨dx,l,?_,ys,?_,h3.imp λ _ _ ⟨q,a1,a2⟩=>⟨q,a1,?_⟩⟩⟩
 ·rw [ah (λ e=>by rw [e,hD] at h1;cases h1)];exact h1
 ·rw [ah (λ e=>by rw [e,hD] at h2;cases h2)];exact h2
 ·rw [ah (λ e=>by rw [e,hD] at a2;cases a2)];exact a2
abbrev nQ(t:Adr)(h:Addr)(b:Addr)(H:Hp)(Q:VK)(E:XK):Prop:=∃ (st l D Pp:Addr) (vals old:List Int) (nv:List NVw) (ps:List V),cU t H h st l D Pp vals nv ps/\vals.length<=4096/\H b=%[old|46]/\old.length=vals.length/\iD t.a_ZZ H vals.length nv/\sE nv/\nv.length<=100/\∀ (r:Addr) (H':Hp),H r=none->Ext H H'->H' r=some (.lst (yb vals old nv))->Q (.ref r) H'
def oE(t:Adr):Sp:=λ vs H Q E=>∃ (h:Addr) (b:Addr),vs=[.ref h,.ref b]/\(nQ t h b H Q E)
def nJ(t:Adr)(h:Addr)(b:Addr)(H:Hp)(Q:VK)(E:XK):oE t [.ref h,.ref b] H Q E=(nQ t h b H Q E):=iu (f:=λ (h:Addr) (b:Addr)=>[.ref h,.ref b]) (λ _ _ _ _ h=>by cases h;exact⟨rfl,rfl⟩) h b
def cJ(T:Tx K mg t):%[5,ly|49] ["self", "before"] (oE t):=by
 have G_rW:=%[bx|44];have G_BG:=%[cY|44];refine T.F_ly.ok bq (λ _ _ _ _ h=>iw h λ _ _=>rfl) (λ cdv A' outer s H vs Q E hr h=>?_)
 ·obtain⟨h,b,rfl,st,l,D,Pp,vals,old,nv,ps,ha,c8,hb,d2,a7,a3,d3,k⟩:=h;have c1:=T.cl_Hall;have c2:=T.na_Hall_store;have c3:=T.na_Hall_views;have c4:=T.cl_Store;have c5:=T.cl_View;have f1:=cx st D Pp;have f2:=cw st D Pp;have m1:=aG l (m := "all_values") nofun;obtain⟨dx,h1⟩:=ha.ob;refine⟨_,%[(@jR _ _ (2) _ _ _ _ bq.nd rfl (Or.inr rfl) (@vC _ _) ∅ %[0|7]),%[%[R9,rfl,(@zm _ _ _ _ _ _ _ _ ∅ T.z_enumerate %[%[%[%[0|0],rfl|13],T.cl_Store,T.mt_Store_all_values,G_rW,(hr.mono ⋯),T.b_rW,.nil,ay,∅|25]|1] ∅),(%[(2),rfl,%[%[3,bq|5],%[%[4,bq|5],(@aK _),∅|16],∅|16],∅,∅|26].mono λ _ _ _ _ h=>bP h),%[%[%[(dG hr.units),%[4|0],%[eS,%[1|0],%[3|0],(λ _ _=>rfl)|18],(az _)|15],%[(@zk _ _ _ _ _ _ _ _ _ (k7 hr.units) %[2|0] %[3|0] (@ku _ _ _ _) rfl)|9],(@aA _)|17]|9],(by intros;rfl)|27],%[%[%[(bz hr.units),%[len,xP,%[%[2|0]|1]|6],%[0|2],(az _)|15],%[%[%[(@b9 _)|23]|12]|9],(@aA _)|17],%[%[(@Hj _ _ _ %[(["name", "self", "before", "changed", "cell", "value"]),(1),(aI (ae bo) ["self", "before", "changed", "cell", "value"] rfl rfl nofun),rfl,(@Hg _ _ _ _ %[%[0|0],rfl|13]),(λ _ _ _ _ _=>%[(0),_,(show List.Nodup (["name", "self", "before", "changed", "cell", "value"]:List Str) from by decide +kernel),rfl,(Or.inl rfl),%[0|7]|19]),(λ _ _ _ _ _=>(@tU _ _ _ %[%[any,(Ca rfl),%[%[(["cell", "name", "self", "before", "changed", "!cell", "value"]),(1),(aI _ ["name", "self", "before", "changed", "cell", "value"] rfl rfl (by kernel_rfl)),rfl,(@Hf _ _ _ _ (K) rfl %[(@zq _ _ _ _ _ _ (k7 hr.units) (@vB _ _ _ _ _ (K) rfl %[1|0] rfl) %[0|0] (λ _ _=>rfl)),T.cl_View,T.mt_View_cells,G_BG,(hr.mono ⋯),T.b_BG,.nil,ay,∅|25]),(λ _ _ _ _ _=>%[(0),_,(show List.Nodup (["cell", "name", "self", "before", "changed", "!cell", "value"]:List Str) from by decide +kernel),rfl,(Or.inl rfl),%[0|7]|19]),(λ _ _ _ _ _=>(@aN _)),(λ _ _ _ _ _=>%[(FD (k7 hr.units)),%[0|0],%[4|0],(by with_unfolding_all rfl)|34]),(by intros;rfl)|22]|1]|6],(by intros;rfl)|31])),(λ _ _ _ _ _=>%[0|0]),(by intros;rfl)|22])|12]|9]|10]|10]|10],?_⟩;rw [show au ["self", "before", "changed", "cell", "value"] [.ref h,.ref b]=[%[h|45],%[b|45],none,none,none] from rfl];clear G_rW G_BG;exists k;exists ha;exists a7;exists a3;ac_rfl;intro C H1 hC e1 a8;have g1:=e1.at h1;have a9:=(ha ()).ext e1;obtain⟨d4,hs⟩:=a9.so.ob;exists a9;ac_rfl;rw [kX];refine⟨l,vals,(a9 ()).so,c8,λ r H2 ba e2 h2=>?_⟩;have b4:=e1.trans e2;have bp:=e2.at a8;have b5:r ≠ C:=λ z=>by rw [z,a8] at ba;cases ba
  have b8:H C=none:=hC;exists hb;exists h1;clear g1 hs a8;ac_rfl;refine vK (λ i σ H'=>∃ (kvs:List (Key × V)) (v3 v4:Option V),σ=[%[h|45],%[b|45],%[C|45],v3,v4]/\Ext H H'/\H' r=%[vals|46]/\H' C=some (.dK kvs)/\sG vals old i kvs) ⟨[],_,_,rfl,b4,h2,bp,sG.nil _ _⟩ (λ i σ H' ⟨_,_,_,_,_,a,_⟩=>a) ?_ ?_
  ·rintro i u p _ H3 H4 hu ⟨kvs,v3,v4,rfl,e3,h3,aa,hI⟩ hp e4 d5;rw [RN] at hu;obtain⟨x,hx,rfl⟩:=RL.mp hu;have hi:i < vals.length:=(RG.mp hx).1;have bS:vals.getD i 0=x:=by rw [Sx,hx];rfl
   have b1:=e3.trans e4;have d6:=b1.at (hb ());have cb:=e4.at h3;have a4:=e4.at aa;have gi:atI (old.map V.int) (i:Int)=some (.int (old.getD i 0)):=cM (by rw [RN,Sx,RE %[0|8]];rfl);generalize hy:old.getD i 0=y at gi;exists bS;exists hy;exists hI;clear hu h2 bp hx h3 aa
   by_cases hxy:x=y
   ·simp! only [↓bh];exact⟨kvs,_,_,rfl,b1,(by first|rfl|exact a4),(hI ()).same (by rw [bS (),hy ()];exact hxy)⟩
   ·simp! only [↓bh];refine Fu (k:=Sum.inl (i:Int)) a4 (fN (by have:=(hI ()).1;omega)) ?_;exact⟨_,_,_,rfl,b1.put b8,by rw [ah b5];exact cb,ai,(hI ()).put (by rw [bS (),hy ()];exact hxy)⟩
  ·rintro _ H3 ⟨kvs,v3,v4,rfl,e3,h3,aa,hI⟩;rw [RH] at hI;clear h2 bp b5 e1 e2 b4 ba hC;ac_rfl;refine Dm aa ?_;exists hI;have on:∀ p∈nv,cu (af p.f p.A) vals.length:=λ p hp=>(a7 () p hp).2.2.2;exists on
   by_cases hz:kvs=[]
   ·subst hz;have k1:=k ();rw [sG.none (hI ()) (on ())] at k1;exists k1;clear k;ac_rfl;intro r2 H4 c9 e4 h4;exact k1 () r2 H4 (e3.free c9) (e3.trans e4) h4
   ·have de:¬ ((kvs.length:Int)=0):=λ z=>hz (List.length_eq_zero_iff.mp %[0|8]);have g3:=e3.at (h1 ());have b2:=e3.at (ha ()).dk;have a5:=(a7 ()).ext e3;exists a5;clear hz;ac_rfl;refine K2 (cN vals old nv) (λ z=>kV z.1) b2 (aC (by unfold nvD;rw [length_map];omega)) ?_ ?_
    ·intro L ob z H4 N1 N0 hz hL e4 cv k1 k0;obtain⟨p,hp,rfl⟩:=RW.mp hz;rw [KS (a3 ()) hp] at k1 k0;obtain⟨vo,cD,d7,dj⟩:=a5 () p hp;have b3:=(vo.dk (o:=.frz ob (.dK (nvD nv))) b2).ext e4;have a6:=tY (a3 ()) hp;have dm:h ≠ D:=λ e=>by rw [e,b2] at g3;cases g3
     have dy:C ≠ D:=λ e=>by have q:=(ha ()).dk;rw [←e,b8] at q;cases q
     have g4:H4 h=some (.ins t.a_Z0 dx (iC st D Pp)):=e4.at (by rw [ah dm];exact g3);have a4:H4 C=some (.dK kvs):=e4.at (by rw [ah dy];exact aa);obtain⟨dv,Dv,hv,_⟩:=b3.ob;have m2:=oo (vals.length:Int) p.f Dv (m := "cells") nofun;clear k de g3 aa hz vo
     show gM 0 (.str p.nm) _ H4 _
     exists k1;exists k0;exists b3;generalize dz:p.nm=nm at *;generalize dA:p.ad=pa at *;exists dz;exists dA;simp! only [↓aO,↓aM];refine GO (k:=Sum.inr nm) cv a6 ?_;ac_rfl;rw [iV];refine⟨_,p.f,p.A,b3 (),cD,λ _ c5 H5 d8 e5 h5=>?_,by omega⟩;have cH:=e5.at a4;have d1:=aX p.f p.A λ a ha=>(cD.2 a ha).1;clear a6 cv g4 hv;ac_rfl;refine aL ((af p.f p.A).map V.int) (λ _=>true) (λ z=>.bl (eF kvs (Sum.inl (vi z))).isSome) (λ z x H'=>x=z/\H' c5=some (.lst ((af p.f p.A).map V.int))) (dF h5).1 (dF h5).2 (aC (by rw [RH];omega)) ?_ ?_
     ·intro L2 z x H' M1 M0 hz dI e ⟨hx,_⟩ j1 _;subst hx;obtain⟨c,_,rfl⟩:=RW.mp hz;have dN:=e.at cH;have d9:M1 (.bl (eF kvs (Sum.inl c)).isSome) H':=j1 rfl H' (Ext.refl _);clear j1 hz k1 k0;simp! only [↓aO,↓aM];refine yt (k:=Sum.inl c) dN ?_;simp! only [↓aO,↓aM]
     intro L2 H6 dI e6 cT
     have aS:(((af p.f p.A).map λ c=>(eF kvs (Sum.inl c)).isSome)).any id=mJ vals old p:=by
      unfold mJ;rw [List.any_map]
      have aux:∀ cs:List Int,(∀ c∈cs,0<=c/\c < (vals.length:Int))->(cs.any (id ∘ λ c=>(eF kvs (Sum.inl c)).isSome))=cs.any λ c=>decide (vals.getD c.toNat 0 ≠ old.getD c.toNat 0):=by
       intro cs
       induction cs with
       | nil=>intro _;rfl
       | cons c r ih=>
        intro c0;have o:=c0 c R5;rw [UP,UP,ih λ d hd=>c0 d (RU _ hd)]
        show ((eF kvs (Sum.inl c)).isSome || _)=_
        rw [(hI ()).at o.1 o.2]
      exact aux _ dj
     have c6:H6 L2=some (.lst (((af p.f p.A).map λ c=>(eF kvs (Sum.inl c)).isSome).map V.bl)):=by
      rw [cT,ko,Sv,Sv];rfl
     have d0:((af p.f p.A).map λ c=>(eF kvs (Sum.inl c)).isSome).length<=4096:=by rw [RH];omega
     generalize ((af p.f p.A).map λ c=>(eF kvs (Sum.inl c)).isSome)=bs at aS c6 d0;clear cT h5 cH
     cases hc:mJ vals old p with
     | true=>
      rw [hc] at aS;have ea:N1 (.str nm) H6:=k1 () hc H6 (e5.trans e6);clear k1 k0;ac_rfl
     | false=>
      rw [hc] at aS;have eb:=k0 () hc H6 (e5.trans e6);clear k1 k0;ac_rfl
    ·intro L H4 hL e4 c7;rw [Nx (a3 ())] at c7;exact k () L H4 (e3.free hL) (e3.trans e4) c7
def Ak(cs:List Int)(a:Int × Int)(h:1<=a.1):cp cs (bu a)=cp cs a:=by
 unfold cp
 show (cs.flatMap λ c=>(List.range a.1.toNat).map λ (n:Nat)=>c+(n:Int) * (if a.1 > 1 then a.2 else 0))=_
 by_cases h1:a.1 > 1
 ·rw [RX h1]
 ·rw [RQ h1];have e:a.1.toNat=1:=by omega
  rw [e];refine Tf (λ f=>cs.flatMap f) (funext λ c=>?_);simp
def qw:∀ (axs:%[0|48]) (cs:List Int),(∀ a∈axs,(1:Int)<=a.1)->(axs.map bu).foldl cp cs=axs.foldl cp cs
 | [],cs,_=>rfl
 | a::r,cs,h=>by
  rw [Sm,Uk,Uk,Ak cs a (h a R5),qw r _ λ b hb=>h b (RU _ hb)]
def xK(f:Int)(axs:%[0|48])(h:∀ a∈axs,(1:Int)<=a.1):af f (axs.map bu)=af f axs:=qw axs [f] h
def xE(axs:%[0|48]):(axs.map bu).map (λ a=>a.1)=axs.map λ a=>a.1:=by rw [Sv];rfl
def iL:∀ l:%[0|48],(∀ a∈l,(1:Int)<=a.1)->aP (l.map bu)=aP l/\aQ (l.map bu)=aQ l
 | [],_=>⟨rfl,rfl⟩
 | a::r,h=>by
  obtain⟨i1,i2⟩:=iL r λ b hb=>h b (RU _ hb);have ha:=h a R5
  have e:((bu a).1 - 1) * (bu a).2=(a.1 - 1) * a.2:=by
   show (a.1 - 1) * (if a.1 > 1 then a.2 else 0)=_
   split
   ·rfl
   ·have:a.1=1:=by omega
    rw [this];simp
  rw [Sm,dg,dh,dg,dh,e,i1,i2];exact⟨rfl,rfl⟩
def Om(H:Hp)(Q:VK):List Int->Prop:=λ ns=>∀ (r:Addr) (H':Hp),H r=none->Ext H H'->H' r=some (.lst ((fv ns).map V.int))->Q (.ref r) H'
def Fq(H:Hp)(Q:VK)(ns:List Int):Om H Q ns=∀ (r:Addr) (H':Hp),H r=none->Ext H H'->H' r=some (.lst ((fv ns).map V.int))->Q (.ref r) H':=rfl
def sY  : Sp:=λ vs H Q E=>∃ (p:Addr),vs=[.ref p]/\(aJ (aF H p) (mR (kSz (Om H Q))))
def Ck  (p:Addr) (H:Hp) (Q:VK) (E:XK):sY  [.ref p] H Q E=(aJ (aF H p) (mR (kSz (Om H Q)))):=jM (f:=λ (p:Addr)=>[.ref p]) (λ _ _ h=>by cases h;exact rfl) p
def uk(T:Tx K mg t):%[1,Zv|49] ["sizes"] sY:=by
 refine T.F_Zv.ok eP (λ _ _ _ _ h=>jN h λ _=>rfl) %[0|50]
 ·obtain⟨p,rfl,h⟩:=h;obtain⟨xs,hp,ns,rfl,hs,k⟩:=aq h;replace hp:=bO hp;rw [Fq] at k;refine⟨_,%[%[1,eP,%[(@b9 _)|23]|4],%[%[2,eP,%[0|2]|4],%[%[R9,rfl,(@Lj _ _ _ _ _ _ ∅ T.z_reversed %[%[0|0]|1] ∅),%[3,eP|5],%[%[%[R0,Si,Sh,bF,%[1|0],%[%[2|0]|1],∅,∅,∅,∅,∅|33],∅|14],%[%[2,eP,%[oa,%[2|0],%[3|0]|11]|4]|9]|10],(by intros;rfl)|27],%[%[(@u6 _ _ _ _ _ _ _ _ _ R0 PySem.F.slot_list_reverse PySem.F.type_list_reverse wZ %[1|0] ∅ ∅),∅|14],%[%[%[1|0]|12]|9]|10]|10]|10]|10],?_⟩;rw [show au ["sizes", "paces", "pace", "size"] [.ref p]=[%[p|45],none,none,none] from rfl];ac_rfl;intro r H1 aa e1 h1;have aS:=e1.at hp;have a3:r ≠ p:=λ z=>by rw [z,hp] at aa;cases aa
  ac_rfl;refine Jz (xs:=ns.map V.int) (λ i σ H'=>∃ v:Option V,σ=[%[p|45],%[r|45],some (.int (av (ns.drop (ns.length - i)))),v]/\Ext H H'/\H' r=some (.lst ((fv (ns.drop (ns.length - i))).reverse.map V.int))) ⟨none,by simp [av],e1,by simpa [fv] using h1⟩ (λ i σ H' _ ⟨_,_,e,_⟩=>SqL.of (e.at hp)) ?_ ?_
  ·rintro i x _ H2 hi hx ⟨v,rfl,e2,h2⟩;rw [RH] at hi hx;rw [RN] at hx;obtain⟨z,hz,rfl⟩:=RL.mp hx;have e:=wQ ns i z hi hz;have e':=ui ns i z hi hz;have b1:=(hs.drop (ns.length - i)).prod;have b2:=hs.2 z (Sa hz)
   have a4:((fv (ns.drop (ns.length - i))).reverse).length < sizeLine:=by
    rw [Sf,nk];exact of_eq_true (PM _ (by have:=hs.1;simp;omega))
   have c1:(av (ns.drop (ns.length - i))).natAbs < 2 ^ 256:=by
    generalize av (ns.drop (ns.length - i))=y at b1;have:(1000000000:Int) ^ 8 < 2 ^ 256:=by decide
    omega
   have c2:z.natAbs < 2 ^ 256:=by omega
   clear b1 b2;simp! only [↓bh,vY];exact⟨_,rfl,e2.put aa,by rw [S7];rfl⟩
  ·rintro _ H2 ⟨v,rfl,e2,h2⟩;rw [RH,Nat.sub_self,List.drop_zero] at h2;ac_rfl;exact k r _ aa (e2.put aa) (by rw [ai,←TL,List.reverse_reverse])
def Fun.x{K:W.Frag}{x qual:Str}{st:Stmt}{f:Addr}{fd:FuncData}(F:Fun K x qual st f fd):J6 K x qual st f fd:=by
 obtain⟨oc,od,kV,doc,pm,an,cdv,ct,osl,e,lk,aa⟩:=F.ex;exact⟨⟨oc,od,.none,kV,doc,pm,an,cdv,ct,osl,e,lk,aa⟩,F.kp⟩
def Dg(ms ws:List Int):(ms.map V.int).zip (ws.map V.int)=(ms.zip ws).map λ z=>(V.int z.1,V.int z.2):=by
 rw [List.zip_map];rfl
def Ny{H:Hp}{ms ws:List Int}{ts:List V}(al:Al (λ z y=>JP z y H) ((ms.map V.int).zip (ws.map V.int)) ts):Al (jc H) (axL (ms.zip ws)) ts:=by
 rw [Dg] at al;refine⟨by rw [al.1];unfold axL;rw [length_map,length_map],λ i z y hz hy=>?_⟩;unfold axL at hz;rw [getElem?_map] at hz;obtain⟨x,hx,rfl⟩:=Option.map_eq_some_iff.mp hz;obtain⟨p,hp,hq⟩:=al.2 i (V.int x.1,V.int x.2) y (by rw [getElem?_map,hx];rfl) hy;exact⟨p,hp,hq⟩
def vz(vals ws:List Int)(n:Nat)(hv:vals.length=n)(hw:ws.length=n):∀ i:Nat,i<=n->kn vals (((List.range n).map λ (k:Nat)=>(k:Int)).take i) (ws.take i)=ws.take i++vals.drop i
 | 0,_=>rfl
 | i+1,hi=>by
  have ih:=vz vals ws n hv hw i %[0|8];have hc:((List.range n).map λ (k:Nat)=>(k:Int))[i]? = some (i:Int):=by rw [RN,Ts %[0|8]];rfl
  have aa:ws[i]? = some ws[i]:=RE %[0|8];have hl:(ws.take i).length=i:=by rw [SW];omega
  rw [lM hc aa,ih,Sk,List.set_append,RQ %[0|8],hl,Nat.sub_self,List.drop_eq_getElem_cons (show i < vals.length by omega),List.set_cons_zero,S1,aa,List.append_assoc];rfl
def G4{vals ws:List Int}(h:ws.length=vals.length):kn vals ((List.range vals.length).map λ (k:Nat)=>(k:Int)) ws=ws:=by
 have:=vz vals ws vals.length rfl h vals.length (RJ _);rw [Ta (by rw [RH,Sr];exact RJ _),Ta %[0|8],UD (RJ _),UH] at this;exact this
def ug(n:Nat)(h:1<=n):af 0 ([((n:Int),(1:Int))].map bu)=(List.range n).map λ (k:Nat)=>(k:Int):=by
 rw [xK 0 _ (λ a ha=>by rw [RP.mp ha];show (1:Int)<=n;omega)]
 show cp [0] ((n:Int),(1:Int))=_
 unfold cp;simp
abbrev zY(C:Addr)(p:Addr)(H:Hp)(Q:VK)(E:XK):Prop:=∃ n:Int,H p=some (.lst [.int n])/\1<=n/\n<=4096/\∀ (x:Addr) (H':Hp),Ext H H'->aw C H' x n 0 ([(n,1)].map bu)->Q (.ref x) H'
def FX(C:Addr):Sp:=λ vs H Q E=>∃ (p:Addr),vs=[.ref p,.non]/\(zY C p H Q E)
def JF(C:Addr)(p:Addr)(H:Hp)(Q:VK)(E:XK):FX C [.ref p,.non] H Q E=(zY C p H Q E):=jM (f:=λ (p:Addr)=>[.ref p,.non]) (λ _ _ h=>by cases h;exact rfl) p
def DY(T:Tx K mg t):%[8,ZV|49] ["sizes", "room"] (FX t.a_ZZ):=by
 have G_Zu:=%[md|44];have G_Zv:=%[uk|44];have G_xu:=%[bX|44];refine T.F_ZV.ok zP (λ _ _ _ _ h=>jN h λ _=>rfl) %[0|50]
 ·obtain⟨p,rfl,n,hp,n1,n2,k⟩:=h;refine⟨_,%[%[2,zP,(@kO _ _ _ _ _ _ _ _ %[yR,%[1|0],(@p9 _ _ _),(az _)|15] %[Zu,%[%[0|0]|1]|3] %[1|0])|4],%[%[%[T.mk_View,G_xu,(hr.mono ⋯),∅,T.m_ZZ,T.b_xu,.nil,ay,%[%[2|0],%[%[0|2],%[(@wW _ _ _ _ _ _ _ _ rfl ∅ T.z_list ∅ T.z_zip %[%[0|0],%[%[Zv,%[%[0|0]|1]|3]|1]|1] ∅ ∅ ∅ ∅)|1]|1]|1],⋯,∅,∅|32]|12]|9]|10],?_⟩;rw [show au ["sizes", "room", "cells"] [.ref p,.non]=[%[p|45],some (.non),none] from rfl];clear G_Zu G_Zv G_xu;have hsz:jg [n]:=⟨by simp,λ m hm=>by rw [RP.mp hm];omega⟩;have aa:H p=some (.lst (([n]:List Int).map V.int)):=hp;have a7:av [n]=n:=by show n * 1=n;omega
  have a8:fv [n]=[1]:=rfl;have aS:fK [(n,(1:Int))]:=⟨by simp,λ a ha=>by rw [RP.mp ha];show 1<=n/\n<=1000000000;omega⟩
  have hv:nc n 0 [(n,(1:Int))]:=by
   obtain⟨g1,g2⟩:=iL [(n,(1:Int))] λ a ha=>(aS.2 a ha).1;refine⟨aS,n1,by omega,?_,?_⟩
   ·rw [g1,dg];show 0<=0+(min 0 ((n - 1) * 1)+0);omega
   ·rw [g2,dh];show 0+(max 0 ((n - 1) * 1)+0) < n;omega
  exists k;clear hp;simp! only [↓qH,↓Gr,↓yr,↓Ck,↓Fq];intro q H1 a4 e1 h1;have a9:=e1.at aa;clear a4 aa;ac_rfl;rw [OQ];intro D ts H2 hD e2 h2 a3;have t2:Al (jc H2) (axL [(n,(1:Int))]) ts:=Ny (ms:=[n]) (ws:=[1]) a3;clear hD a3;ac_rfl;intro x dx H3 hx ba bp e3 h3 bS;rw [iT];refine⟨dx,[(n,1)],h3,bf.ext ⟨ts,h2,t2⟩ e3,hv,λ H4 D2 e4 b1 a5 a6=>?_⟩;have k':=k () x H4 (e1.trans (e2.trans (e4 H2 e3 hx))) ⟨dx,D2,a5,a6⟩;clear k;ac_rfl
def JB{w:Nat}{u v:Addr}{x:V}(hw:w < 5):(JV w u v x).lookup (Str.ofString "run")=none:=by
 match w,hw with
 | 0,_=>rfl
 | 1,_=>rfl
 | 2,_=>rfl
 | 3,_=>rfl
 | 4,_=>rfl
structure jh(t:Adr)(B:Hp)(h st l D Pp:Addr)(nv:List NVw):Prop where
 ob:∃ dx,B h=some (.ins t.a_Z0 dx (iC st D Pp))
 so:∃ dx,B st=some (.ins t.a_ZX dx (jP l))
 dk:B D=some (.dK (nvD nv))
 nl:B l=none
 nP:B Pp=none
 lP:l ≠ Pp
 nd:sE nv
 n100:nv.length<=100
def jh.at{t:Adr}{B H:Hp}{h st l D Pp:Addr}{nv:List NVw}{vals:List Int}{ps:List V}(a:jh t B h st l D Pp nv)(e:Ext B H)(hl:H l=%[vals|46])(hP:H Pp=some (.lst ps)):cU t H h st l D Pp vals nv ps:=by
 obtain⟨⟨dx,h1⟩,⟨dy,h2⟩,h3,_,_,_,_,_⟩:=a;exact⟨⟨dx,e.at h1⟩,⟨⟨dy,e.at h2⟩,hl⟩,e.at h3,hP⟩
def aw.viz{C:Addr}{B H:Hp}{v l:Addr}{room f:Int}{A:%[0|48]}(h:aw C B v room f A)(e:Ext B H)(hl:B l=none):ViZ C l H v room f A:=by
 obtain⟨dx,D,h1,h2⟩:=h.ob;exact⟨dx,D,e.at h1,(λ z=>by obtain⟨ys,h3,_⟩:=h2;rw [z,hl] at h3;cases h3),h2.ext e⟩
structure VwB(CV:Addr)(B:Hp)(u:Addr)(n:Nat)(f:Int)(A:%[0|48]):Prop where
 v:aw CV B u (n:Int) f A
 ax:fK A
 pr:av (A.map λ a=>a.1)<=4096
 on:cu (af f A) n
def VwB.run{CV:Addr}{B H:Hp}{u l:Addr}{vals:List Int}{f:Int}{A:%[0|48]}(h:VwB CV B u vals.length f A)(e:Ext B H)(hl:B l=none):OK CV l H u vals f A:=⟨h.v.viz e hl,h.ax,h.pr,h.on⟩
def vk(i:Nat)(vals c1 c2:List Int)(z:Int):(uX i vals c1 c2 z).length=vals.length:=by
 unfold uX;split
 ·rfl
 ·exact lS z c1 vals
 ·exact bG _ _ _
 ·rw [bG,bG]
 ·exact bG _ _ _
def vJ{H H':Hp}{l Pp y:Addr}(eA:∀ H0,Ext H0 H->H0 l=none->H0 Pp=none->Ext H0 H')(hy:H' y=none)(n1:y ≠ l)(n2:y ≠ Pp):H y=none:=by
 cases hq:H y with
 | none=>rfl
 | some o=>
  have e4:=eA (λ x=>if x=l\/x=Pp then none else H x) (kY.ext λ x o' hx=>by
   by_cases hc:x=l\/x=Pp
   ·rw [RX hc] at hx;cases hx
   ·rw [RQ hc] at hx;exact hx) (by rw [RX (.inl rfl)]) (by rw [RX (.inr rfl)])
  have:=e4.at (p:=y) (o:=o) (by rw [RQ (λ hc=>hc.elim n1 n2)];exact hq);rw [hy] at this;cases this
def aw.updP{C:Addr}{H:Hp}{v Pp q:Addr}{room f:Int}{A:%[0|48]}{ps:List V}{xs:List V}{o:HO}(h:aw C H v room f A)(hP:H Pp=some (.lst (ps++[.ref q])))(hq:H q=some (.lst xs)):aw C (upd H Pp o) v room f A:=by
 obtain⟨dx,D,h1,ys,h2,h3⟩:=h.ob
 have nD:D ≠ Pp:=λ e=>by
  rw [e,hP] at h2
  injection h2 with h2
  injection h2 with h2
  subst h2;have hl:=h3.1;rw [R3] at hl;have aa:ps.length < (axL A).length:=by simp at hl;omega
  obtain⟨q',a1,a2⟩:=h3.2 ps.length _ (.ref q) (RE aa) (by simp);cases a1;rw [hq] at a2;cases a2
 refine⟨⟨dx,D,?_,ys,?_,h3.imp λ _ _ ⟨q,a1,a2⟩=>⟨q,a1,?_⟩⟩⟩
 ·rw [ah (λ e=>by rw [e,hP] at h1;cases h1)];exact h1
 ·rw [ah nD];exact h2
 ·rw [ah (λ e=>by rw [e,hP] at a2;cases a2)];exact a2
def Gf(t:Adr):Sp:=λ vs H Q E=>∃ (h:Addr) (s:Addr),vs=[.ref h,.ref s]/\(∃ (B:Hp) (st l D Pp:Addr) (vals:List Int) (nv:List NVw) (ps:List V) (i:Nat) (u v dx:Addr) (z:Int) (f1:Int) (A1:%[0|48]) (f2:Int) (A2:%[0|48]),jh t B h st l D Pp nv/\Ext B H/\H l=%[vals|46]/\H Pp=some (.lst ps)/\ps.length<=1000/\vals.length<=4096/\iD t.a_ZZ B vals.length nv/\i < 5/\B s=some (.ins (JW t i) dx (JV i u v (.int z)))/\(0 < i->VwB t.a_ZZ B u vals.length f1 A1/\VwB t.a_ZZ B v vals.length f2 A2/\av (A2.map λ a=>a.1)=av (A1.map λ a=>a.1))/\∀ (r b:Addr) (H':Hp),Ext B H'->H b=none->H r=none->r ≠ b->(∀ H0,Ext H0 H->H0 l=none->H0 Pp=none->Ext H0 H')->H' l=some (.lst ((uX i vals (af f1 A1) (af f2 A2) z).map V.int))->H' Pp=some (.lst (ps++[.ref b]))->H' b=%[vals|46]->H' r=some (.lst (yb (uX i vals (af f1 A1) (af f2 A2) z) vals nv))->Q (.ref r) H')
def zR(t:Adr)(h:Addr)(s:Addr)(H:Hp)(Q:VK)(E:XK):Gf t [.ref h,.ref s] H Q E=(∃ (B:Hp) (st l D Pp:Addr) (vals:List Int) (nv:List NVw) (ps:List V) (i:Nat) (u v dx:Addr) (z:Int) (f1:Int) (A1:%[0|48]) (f2:Int) (A2:%[0|48]),jh t B h st l D Pp nv/\Ext B H/\H l=%[vals|46]/\H Pp=some (.lst ps)/\ps.length<=1000/\vals.length<=4096/\iD t.a_ZZ B vals.length nv/\i < 5/\B s=some (.ins (JW t i) dx (JV i u v (.int z)))/\(0 < i->VwB t.a_ZZ B u vals.length f1 A1/\VwB t.a_ZZ B v vals.length f2 A2/\av (A2.map λ a=>a.1)=av (A1.map λ a=>a.1))/\∀ (r b:Addr) (H':Hp),Ext B H'->H b=none->H r=none->r ≠ b->(∀ H0,Ext H0 H->H0 l=none->H0 Pp=none->Ext H0 H')->H' l=some (.lst ((uX i vals (af f1 A1) (af f2 A2) z).map V.int))->H' Pp=some (.lst (ps++[.ref b]))->H' b=%[vals|46]->H' r=some (.lst (yb (uX i vals (af f1 A1) (af f2 A2) z) vals nv))->Q (.ref r) H'):=iu (f:=λ (h:Addr) (s:Addr)=>[.ref h,.ref s]) (λ _ _ _ _ h=>by cases h;exact⟨rfl,rfl⟩) h s
def ny(T:Tx K mg t):%[9,ZJ|49] ["self", "statement"] (Gf t):=by
 have G_rW:=%[bx|44];have G_ly:=%[cJ|44];have aS:=MDR (P:=P) (w:=w) (base:=base) T;refine T.F_ZJ.ok qI (λ _ _ _ _ h=>iw h λ _ _=>rfl) (λ cdv A' outer s0 H vs Q E hr h=>?_)
 ·obtain⟨h,s,rfl,B,st,l,D,Pp,vals,nv,ps,i,u,v,dx,z,f1,A1,f2,A2,hb,eB,hl,hP,cb,bS,b1,hi,hs,hw,k⟩:=h;have c1:=T.cl_Hall;have c2:=T.na_Hall_store;have c3:=T.na_Hall_past;have c4:=T.cl_Store;have c7:=cx st D Pp;have c8:=nC st D Pp;have c9:=bK st D Pp (m := "changed_since") nofun;have m1:=aG l (m := "all_values") nofun;obtain⟨de,hh⟩:=hb.ob;obtain⟨dj,a5⟩:=hb.so;have cv:=eB.at hh;have b2:=eB.at a5;refine⟨_,%[%[2,qI,%[%[%[0|0],rfl|13],T.cl_Store,T.mt_Store_all_values,G_rW,(hr.mono ⋯),T.b_rW,.nil,ay,∅|25]|4],%[%[%[%[1|0],aS,(hr.mono ⋯),ay,%[%[%[0|0],rfl|13]|1],∅,∅,∅|42],∅|14],%[%[%[R0,Si,Sh,bF,%[%[0|0],rfl|13],%[%[2|0]|1],∅,∅,∅,∅,∅|33],∅|14],%[%[%[%[0|0],T.cl_Hall,T.mt_Hall_changed_since,G_ly,(hr.mono ⋯),T.b_ly,.nil,ay,%[%[2|0]|1],∅,∅,∅|20]|12]|9]|10]|10]|10],?_⟩;rw [show au ["self", "statement", "before"] [.ref h,.ref s]=[%[h|45],%[s|45],none] from rfl];clear G_rW G_ly aS;exists k;exists hb;exists b1;exists hh;exists a5;exists hs;exists hw;ac_rfl;rw [kX];refine⟨l,vals,((hb ()).at eB hl hP).so,bS,λ b H1 a4 e1 h1=>?_⟩;have aa:=eB.trans e1;have cD:=aa.at (hh ());have b3:=aa.at (a5 ());have a8:=aa.at (hs ());have b4:=e1.at hl;have a9:=e1.at hP;have cH:b ≠ l:=λ e=>by rw [e,hl] at a4;cases a4
  have cT:b ≠ Pp:=λ e=>by rw [e,hP] at a4;cases a4
  clear cv b2 hl hP;ac_rfl;refine⟨s,i,dx,_,rfl,hi,a8,JB hi,?_⟩;ac_rfl;rw [JH];refine⟨u,v,dx,l,z,vals,f1,A1,f2,A2,a8,((hb ()).at aa b4 a9).so,bS,(λ ba=>⟨(hw () ba).1.run aa (hb ()).nl,(hw () ba).2.1.run aa (hb ()).nl,(hw () ba).2.2⟩),λ H2 q1 q2 h2=>?_⟩;have a6:=q1 B aa (hb ()).nl;have c0:=a6.at (hh ());have b5:=a6.at (a5 ());have c5:=q2 _ _ (RO (hb ()).lP) a9;have b8:=q2 _ _ cH h1;have rl:=vk i vals (af f1 A1) (af f2 A2) z;generalize c6:uX i vals (af f1 A1) (af f2 A2) z=bN at *;exists c6;exists q1;clear q2 cD b3 a8 b4 a9 h1;have dm:ps.length < sizeLine:=fN %[0|8];ac_rfl;have g3:upd H2 Pp (.lst (ps++[.ref b])) Pp=some (.lst (ps++[.ref b])):=ai;have g4:upd H2 Pp (.lst (ps++[.ref b])) l=%[bN|46]:=(ah (hb ()).lP).trans h2;have g5:upd H2 Pp (.lst (ps++[.ref b])) b=%[vals|46]:=(ah cT).trans b8;have a7:Ext B (upd H2 Pp (.lst (ps++[.ref b]))):=a6.put (hb ()).nP;have eA:∀ H0,Ext H0 H->H0 l=none->H0 Pp=none->Ext H0 (upd H2 Pp (.lst (ps++[.ref b]))):=λ H0 a1 a2 a3=>(q1 () H0 (a1.trans e1) a2).put a3;have fr:∀ y,upd H2 Pp (.lst (ps++[.ref b])) y=none->y ≠ l/\y ≠ Pp:=λ y hy=>⟨(λ e=>by rw [e,g4] at hy;cases hy),(λ e=>by rw [e,g3] at hy;cases hy)⟩;generalize upd H2 Pp (.lst (ps++[.ref b]))=H3 at *;have dv:=a7.at (hh ());have nb:∀ y,H3 y=none->H y=none:=λ y hy=>vJ eA hy (fr y hy).1 (fr y hy).2;exists nb;exists eA;exists g3;exists g4;clear h2 c0 b5 c5 b8 fr q1 a6 aa eB;ac_rfl;rw [nJ];refine⟨st,l,D,Pp,bN,vals,nv,_,(hb ()).at a7 (g4 ()) (g3 ()),by omega,g5,rl.symm,by rw [rl];exact(b1 ()).ext a7,(hb ()).nd,(hb ()).n100,λ r H4 bp e4 h4=>?_⟩;have k2:=k () r b H4 (a7.trans e4) a4 (nb () r bp) (λ e=>by rw [e,g5] at bp;cases bp) (λ H0 a1 a2 a3=>(eA () H0 a1 a2 a3).trans e4) (e4.at (g4 ())) (e4.at (g3 ())) (e4.at g5) h4;clear k;ac_rfl
def GG(t:Adr)(B H:Hp)(l Pp:Addr)(vals:List Int)(nv:List NVw)(ps:List V)(Q:VK):Prop:=∃ (aa:List V) (q:Addr) (ws:List Int),ps=aa++[.ref q]/\B q=%[ws|46]/\ws.length=vals.length/\∀ (r:Addr) (H':Hp),Ext B H'->H r=none->(∀ H0,Ext H0 H->H0 l=none->H0 Pp=none->Ext H0 H')->H' l=%[ws|46]->H' Pp=some (.lst aa)->H' r=some (.lst (yb ws vals nv))->Q (.ref r) H'
abbrev rp(t:Adr)(h:Addr)(H:Hp)(Q:VK)(E:XK):Prop:=∃ (B:Hp) (st l D Pp:Addr) (vals:List Int) (nv:List NVw) (ps:List V),jh t B h st l D Pp nv/\Ext B H/\H l=%[vals|46]/\H Pp=some (.lst ps)/\ps.length<=1000/\1<=vals.length/\vals.length<=4096/\iD t.a_ZZ B vals.length nv/\((ps=[]/\∀ H',Ext H H'->E (.ref t.a_ZT) none H')\/GG t B H l Pp vals nv ps Q)
def tL(t:Adr):Sp:=λ vs H Q E=>∃ (h:Addr),vs=[.ref h]/\(rp t h H Q E)
def Ct(t:Adr)(h:Addr)(H:Hp)(Q:VK)(E:XK):tL t [.ref h] H Q E=(rp t h H Q E):=jM (f:=λ (h:Addr)=>[.ref h]) (λ _ _ h=>by cases h;exact rfl) h
def i6(T:Tx K mg t):aH P w K mg base (CX1 P  w) 10 t.a_EH t.d_EH ["self"] (tL t):=by
 have G_rW:=%[bx|44];have G_EB:=%[dU|44];have G_ZV:=%[DY|44];have G_ly:=%[cJ|44];refine(Fun.x T.F_EH).ok mm (λ _ _ _ _ h=>jN h λ _=>rfl) (λ cdv A' outer s0 H vs Q E hr h=>?_)
 ·obtain⟨h,rfl,B,st,l,D,Pp,vals,nv,ps,hb,eB,hl,hP,dm,dv,b5,b8,hc⟩:=h;have c1:=T.cl_Hall;have c2:=T.na_Hall_store;have c3:=T.na_Hall_past;have c4:=T.cl_Store;have d5:=cx st D Pp;have d6:=nC st D Pp;have d7:=bK st D Pp (m := "changed_since") nofun;have m1:=aG l (m := "all_values") nofun;have m2:=aG l (m := "put") nofun;obtain⟨d8,hh⟩:=hb.ob;obtain⟨d9,aS⟩:=hb.so;have dy:=eB.at hh;have cb:=eB.at aS;refine⟨_,%[%[%[(bz hr.units),%[len,aB,%[%[%[0|0],rfl|13]|1]|6],%[0|2],(az _)|15],%[(@DJ _ _ _ _ _ _ _ _ _ _ rfl ∅ T.m_ZT ⟨T.o_NoDeed⟩ (λ σ=>wO) %[(@br _ _ _ _)|1] ∅ ∅ ⋯)|9],(@aA _)|17],%[%[1,mm,%[%[%[0|0],rfl|13],T.cl_Store,T.mt_Store_all_values,G_rW,(hr.mono ⋯),T.b_rW,.nil,ay,∅|25]|4],%[%[%[%[%[0|0],rfl|13],T.cl_Store,T.mt_Store_put,G_EB,(hr.mono ⋯),T.b_EB,.nil,ay,%[(@zu _ _ _ _ _ _ _ _ _ _ _ _ _ _ _ _ G_ZV (hr.mono ⋯) ∅ T.m_ZV T.F_ZV.kp T.b_whole_1 (.cons (show bD V.non Value.none from rfl) .nil) ay %[%[%[%[len,aB,%[%[1|0]|1]|6]|1]|23]|1] ⋯ ∅ ∅),%[(@u6 _ _ _ _ _ _ _ _ _ R0 T3 T1 tZ %[%[0|0],rfl|13] ∅ ∅)|1]|1],∅,∅,∅|20],∅|14],%[%[%[%[0|0],T.cl_Hall,T.mt_Hall_changed_since,G_ly,(hr.mono ⋯),T.b_ly,.nil,ay,%[%[1|0]|1],∅,∅,∅|20]|12]|9]|10]|10]|10],?_⟩;rw [show au ["self", "before"] [.ref h]=[%[h|45],none] from rfl];clear G_rW G_EB G_ZV G_ly;exists hb;exists b8;exists hh;exists aS
  rcases hc with ⟨rfl,kE⟩|⟨aa,q,ws,rfl,hq,a6,k⟩
  ·have ea:=kE H (Ext.refl _);exists kE;ac_rfl
  ·exists k;have hz:¬ (((aa++[V.ref q]).length:Int)=0):=by rw [R3];show ¬ (((aa.length+1:Nat):Int)=0);omega
   ac_rfl;rw [kX];refine⟨l,vals,((hb ()).at eB hl hP).so,b5,λ b H1 a7 e1 h1=>?_⟩;have dz:b ≠ l:=λ e=>by rw [e,hl] at a7;cases a7
   have dA:b ≠ Pp:=λ e=>by rw [e,hP] at a7;cases a7
   have ba:=eB.trans e1;have cv:=e1.at hl;have cD:=e1.at hP;have dI:=ba.at (hh ());have cH:=ba.at (aS ());clear dy cb hl hP hz;ac_rfl;intro n1 H2 _ e2 cT;have bp:=e1.trans e2;have dN:=eB.trans bp;have c0:=e2.at cv;have c5:=e2.at cD;have h2:=e2.at h1;clear dI cH cv cD h1 ba e1;ac_rfl;rw [JF];refine⟨(vals.length:Int),cT,by omega,by omega,λ x H3 e3 vx=>?_⟩;have bS:=bp.trans e3;have a4:=eB.trans bS;have c6:=e3.at c0;have b1:=e3.at c5;have h3:=e3.at h2;have d0:=a4.at (hh ());have c7:=a4.at (aS ());have c8:=a4.at hq;clear c0 c5 h2 cT bp dN e2 e3;ac_rfl;refine sO b1 ?_;have b2:aw t.a_ZZ (upd H3 Pp (.lst aa)) x _ _ _:=vx.updP b1 c8;have g1:upd H3 Pp (.lst aa) Pp=some (.lst aa):=ai;have g2:upd H3 Pp (.lst aa) l=%[vals|46]:=(ah (hb ()).lP).trans c6;have g3:upd H3 Pp (.lst aa) b=%[vals|46]:=(ah dA).trans h3;have a5:Ext B (upd H3 Pp (.lst aa)):=a4.put (hb ()).nP;have eA:∀ H0,Ext H0 H->H0 l=none->H0 Pp=none->Ext H0 (upd H3 Pp (.lst aa)):=λ H0 a1 _ a3=>(a1.trans bS).put a3;generalize upd H3 Pp (.lst aa)=H4 at *;have c9:=a5.at hq;have d1:=a5.at (hh ());have de:=a5.at (aS ());exists b2;exists hq;exists eA;clear vx c6 b1 h3 d0 c7 c8 a4 bS;have d2:q ≠ l:=λ e=>by have:=hq ();rw [e,(hb ()).nl] at this;cases this
   have wc:=ug vals.length dv;exists wc;have dj:fK ([((vals.length:Int),(1:Int))].map bu):=fK.kept ⟨by simp,λ a ha=>by rw [RP.mp ha];show (1:Int)<=vals.length/\(vals.length:Int)<=1000000000;omega⟩
   have b3:av (([((vals.length:Int),(1:Int))].map bu).map λ a=>a.1)=(vals.length:Int):=by
    rw [xE];show (vals.length:Int) * 1=_;omega
   exists b3;ac_rfl;rw [lC];refine⟨l,vals,_,0,_,ws,((hb ()).at a5 g2 g1).so,b2 (),dj,rfl,b5,by rw [b3 ()];omega,?_,c9,d2,by rw [b3 (),a6],λ H5 q1 q2 h5=>?_⟩
   ·rw [wc ()];intro c hc;obtain⟨j,hj,rfl⟩:=RW.mp hc;have:=SH.mp hj;omega
   rw [wc (),G4 a6] at h5;have a8:=q1 B a5 (hb ()).nl;have a9:=q2 _ _ (RO (hb ()).lP) g1;have d3:=q2 _ _ dz g3;have b4:∀ H0,Ext H0 H->H0 l=none->H0 Pp=none->Ext H0 H5:=λ H0 a1 a2 a3=>q1 H0 (eA () H0 a1 a2 a3) a2;have eb:=a8.at (hh ());have nb:∀ y,H5 y=none->H y=none:=λ y hy=>vJ b4 hy (λ e=>by rw [e,h5] at hy;cases hy) (λ e=>by rw [e,a9] at hy;cases hy);exists nb;exists b4;exists a9;exists h5;clear q1 q2 b2 d1 de c9 g1 g2 g3 eA dj;ac_rfl;rw [nJ];refine⟨st,l,D,Pp,ws,vals,nv,_,(hb ()).at a8 (h5 ()) (a9 ()),by omega,d3,a6.symm,by rw [a6];exact(b8 ()).ext a8,(hb ()).nd,(hb ()).n100,λ r H6 d4 e6 h6=>?_⟩;have k2:=k () r H6 (a8.trans e6) (nb () r d4) (λ H0 a1 a2 a3=>(b4 () H0 a1 a2 a3).trans e6) (e6.at (h5 ())) (e6.at (a9 ())) h6;clear k;ac_rfl
def B8{first:Int}{axs:%[0|48]}{M:Int}(h:∀ a∈axs,1<=a.1/\a.1<=1000000000)(hM:M∈af first axs):first+aP axs<=M/\M<=first+aQ axs:=by
 obtain⟨xs,hx,e⟩:=(xM _ _ _).mp hM;have b:=mh axs xs hx;omega
def LF(x:Int):(if x < 0 then x else 0)=min 0 x:=by split<;>omega
def LG(x:Int):(if 0 < x then x else 0)=max 0 x:=by split<;>omega
def x9(H:Hp)(q:Addr)(n f:Int)(A:%[0|48]):Prop:=∃ D,H q=some (.tup [.int n,.int f,.ref D])/\bf H D (axL A)
def x9.ext{H H':Hp}{q:Addr}{n f:Int}{A:%[0|48]}(h:x9 H q n f A)(e:Ext H H'):x9 H' q n f A:=by
 obtain⟨D,h1,h2⟩:=h;exact⟨D,e.at h1,h2.ext e⟩
structure LkI(room:Int)(A:%[0|48]):Prop where
 sz:∀ a∈A,(1:Int)<=a.1/\a.1<=4/\bu a=a
 sp:aQ A - aP A < room
 lo:aP A<=0
 hi:0<=aQ A
structure ir(n f:Int)(A:%[0|48]):Prop where
 len:A.length<=3
 sz:∀ a∈A,(1:Int)<=a.1/\a.1<=4/\bu a=a
 lo:0<=f+aP A
 hi:f+aQ A < n
def ir.kp{n f:Int}{A:%[0|48]}(h:ir n f A):A.map bu=A:=by
 have:∀ B:%[0|48],(∀ a∈B,bu a=a)->B.map bu=B:=by
  intro B
  induction B with
  | nil=>intro _;rfl
  | cons b r ih=>intro hb;rw [Sm,hb b R5,ih λ a ha=>hb a (RU _ ha)]
 exact this A λ a ha=>(h.sz a ha).2.2
def ir.ax{n f:Int}{A:%[0|48]}(h:ir n f A):fK A:=⟨by have:=h.len;omega,λ a ha=>by have:=h.sz a ha;omega⟩
def ir.pr{n f:Int}{A:%[0|48]}(h:ir n f A):av (A.map λ a=>a.1)<=64:=by
 obtain⟨hl,hs,_,_⟩:=h
 match A,hl,hs with
 | [],_,_=>decide
 | [a],_,hs=>
  have:=hs a (by simp)
  show a.1 * 1<=64
  omega
 | [a,b],_,hs=>
  have h1:=hs a (by simp);have h2:=hs b (by simp)
  show a.1 * (b.1 * 1)<=64
  have:a.1 * (b.1 * 1)<=4 * 4:=TY h1.2.1 %[0|8] %[0|8] ⋯;omega
 | [a,b,c],_,hs=>
  have h1:=hs a (by simp);have h2:=hs b (by simp);have h3:=hs c (by simp)
  show a.1 * (b.1 * (c.1 * 1))<=64
  have e1:b.1 * (c.1 * 1)<=4 * 4:=TY h2.2.1 %[0|8] %[0|8] ⋯;have e0:0<=b.1 * (c.1 * 1):=Int.mul_nonneg %[0|8] %[0|8];have:a.1 * (b.1 * (c.1 * 1))<=4 * 16:=TY h1.2.1 %[0|8] e0 ⋯;omega
def ir.on{n f:Int}{A:%[0|48]}(h:ir n f A){m:Nat}(hm:n=(m:Int)):cu (af f A) m:=λ c hc=>by
 have:=B8 h.ax.2 hc;have h1:=h.lo;have h2:=h.hi;omega
def LkI.snoc{room:Int}{A:%[0|48]}{m p b:Int}(h:LkI room A)(m1:1<=m)(m4:m<=4)(p1:-4<=p)(p4:p<=4)(hb:b=if 1 < m then 1 else 0)(hc:aQ A - aP A+(if p < 0 then -p else p) * (m - 1) < room) :
  LkI room (A++[(m,p * b)])/\aP (A++[(m,p * b)])=aP A+min 0 (p * (m - 1))/\aQ (A++[(m,p * b)])=aQ A+max 0 (p * (m - 1)):=by
 obtain⟨hs,a3,a4,a5⟩:=h;have e1:=uC A (m,p * b);have e2:=uF A (m,p * b)
 have hk:bu (m,p * b)=(m,p * b):=by
  unfold bu
  show (m,if m > 1 then p * b else 0)=(m,p * b)
  by_cases h1:m > 1
  ·rw [RX h1]
  ·rw [RQ h1,hb,RQ h1,Int.mul_zero]
 have hmul:p * b * (m - 1)=p * (m - 1):=by
  by_cases h1:1 < m
  ·rw [hb,RX h1,Int.mul_one]
  ·rw [hb,RQ h1,Int.mul_zero,Int.zero_mul,show m - 1=0 by omega,Int.mul_zero]
 have aa:aP (A++[(m,p * b)])=aP A+min 0 (p * (m - 1)):=by rw [e1];show _+min 0 (p * b * (m - 1))=_;rw [hmul]
 have aS:aQ (A++[(m,p * b)])=aQ A+max 0 (p * (m - 1)):=by rw [e2];show _+max 0 (p * b * (m - 1))=_;rw [hmul]
 refine⟨⟨λ a ha=>?_,?_,?_,?_⟩,aa,aS⟩
 ·rcases SD.mp ha with ha|ha
  ·exact hs a ha
  ·rw [RP.mp ha];exact⟨m1,m4,hk⟩
 ·rw [aa,aS];obtain rfl|rfl|rfl|rfl:m=1\/m=2\/m=3\/m=4:=by omega
  all_goals (split at hc<;>omega)
 ·rw [aa];omega
 ·rw [aS];omega
abbrev wj  (c:Int) (room:Int) (l:Addr) (H:Hp) (Q:VK) (E:XK):Prop:=∃ ms:List Int,H l=%[ms|46]/\ms.length<=3/\(∀ m∈ms,(1:Int)<=m/\m<=4)/\0<=c/\1<=room/\room<=60/\∀ (q D:Addr) (f:Int) (A:%[0|48]) (H':Hp),Ext H H'->H q=none->H D=none->H' q=some (.tup [.int room,.int f,.ref D])->bf H' D (axL A)->(A.map λ a=>a.1)=ms->ir room f A->Q (.ref q) H'
def yD  : Sp:=λ vs H Q E=>∃ (c:Int) (room:Int) (l:Addr),vs=[.int c,.int room,.ref l]/\(wj  c room l H Q E)
def vR  (c:Int) (room:Int) (l:Addr) (H:Hp) (Q:VK) (E:XK):yD  [.int c,.int room,.ref l] H Q E=(wj  c room l H Q E):=pR (f:=λ (c:Int) (room:Int) (l:Addr)=>[.int c,.int room,.ref l]) (λ _ _ _ _ _ _ h=>by cases h;exact⟨rfl,rfl,rfl⟩) c room l
def j6(T:Tx K mg t):%[1,EN|49] ["_law_cell", "_law_room", "_law_sizes"] yD:=by
 refine T.F_EN.ok bj (λ _ _ _ _ h=>pO h λ _ _ _=>rfl) (λ cdv A' outer s H vs Q E hr h=>?_)
 ·obtain⟨c,room,l,rfl,ms,hl,a7,a3,aa,r1,a8,k⟩:=h;refine⟨_,%[%[3,bj,%[(@b9 _)|23]|4],%[%[4,bj,%[0|2]|4],%[%[5,bj,%[0|2]|4],%[%[R9,rfl,%[%[2|0]|21],%[6,bj|5],%[%[7,bj,%[fA,%[bE,%[0|0],%[0|2]|11],%[0|2]|11]|4],%[%[0,bj,%[cc,%[0|0],%[0|2]|11]|4],%[%[%[Kq,%[bM,%[fA,%[5|0],%[4|0]|11],%[gE,%[abs,Cb,%[%[7|0]|1]|6],%[fA,%[6|0],%[0|2]|11]|11]|11],%[1|0],(az _)|15],%[%[7,bj,%[0|2]|4]|9],(@aA _)|17],%[%[4,bj,%[bM,%[4|0],%[min,(qB rfl),%[%[0|2],%[%[gE,%[7|0],%[fA,%[6|0],%[0|2]|11]|11]|1]|1]|6]|11]|4],%[%[5,bj,%[bM,%[5|0],%[max,(iR rfl),%[%[0|2],%[%[gE,%[7|0],%[fA,%[6|0],%[0|2]|11]|11]|1]|1]|6]|11]|4],%[%[%[R0,Si,Sh,bF,%[3|0],%[%[%[%[6|0],%[%[gE,%[7|0],%[B9,∅,T.z_int,nofun,%[%[wC,%[6|0],%[0|2],(az _)|34]|1],⋯,⋯,∅,∅|29]|11]|1]|1]|36]|1],∅,∅,∅,∅,∅|33],∅|14]|9]|10]|10]|10]|10]|10],(by intros;rfl)|27],%[%[%[%[%[1|0],%[%[fA,%[bE,%[0|0],%[bM,%[fA,%[1|0],%[5|0]|11],%[4|0]|11]|11],%[4|0]|11],%[%[3|0]|1]|1]|1]|36]|12]|9]|10]|10]|10]|10],?_⟩;rw [show au ["_law_cell", "_law_room", "_law_sizes", "_law_axes", "_law_low", "_law_high", "_law_size", "_law_pace"] [.int c,.int room,.ref l]=[%[c|47],%[room|47],%[l|45],none,none,none,none,none] from rfl];exists k;ac_rfl;intro D H1 hD e1 h1;ac_rfl;refine fP (xs:=ms.map V.int) (λ i σ H'=>∃ (c:Int) (A:%[0|48]) (ys:List V) (v6 v7:Option V),σ=[%[c|47],%[room|47],%[l|45],%[D|45],some (.int (aP A)),some (.int (aQ A)),v6,v7]/\0<=c/\Ext H H'/\H' D=some (.lst ys)/\Al (jc H') (axL A) ys/\(A.map λ a=>a.1)=ms.take i/\LkI room A) ⟨c,[],[],_,_,rfl,aa,e1,h1,Al.nil,rfl,⟨(λ _ h=>by cases h),(by show (0:Int) - 0 < room;omega),Int.le_refl _,Int.le_refl _⟩⟩ (λ i σ H' _ ⟨_,_,_,_,_,_,_,e,_⟩=>e.at hl) ?_ ?_
  ·rintro i x _ H2 hi ⟨c,A,ys,v6,v7,rfl,aa,e2,h2,al,hA,lk⟩;rw [RN] at hi;obtain⟨m,hm,rfl⟩:=RL.mp hi;obtain⟨m1,m4⟩:=a3 m (Sa hm);have p1:-4<=c % 9 - 4:=by omega
   have p4:c % 9 - 4<=4:=by omega
   clear hi h1
   have a9:ys.length < sizeLine:=fN (by
    have:=congrArg List.length hA;rw [length_map,length_take] at this;rw [al.1];unfold axL;rw [length_map];omega)
   exists hA;exists al;exists lk;exists hm;simp! only [↓bh];simp only [LF,LG];refine⟨.inl ⟨by split<;>omega,by split<;>omega⟩,?_⟩
   have fin:∀ (p:Int) (t1:Addr) (H3:Hp),Ext H2 H3->H3 t1=some (.tup [.int m,.int (p * if 1 < m then 1 else 0)])->-4<=p->p<=4->aQ A - aP A+(if p < 0 then -p else p) * (m - 1) < room →
     ∃ (c':Int) (A':%[0|48]) (ys':List V) (v6 v7:Option V),[some (V.int (c / 9)),%[room|47],%[l|45],%[D|45],some (.int (aP A+min 0 (p * (m - 1)))),some (.int (aQ A+max 0 (p * (m - 1)))),%[m|47],%[p|47]]=[%[c'|47],%[room|47],%[l|45],%[D|45],some (.int (aP A')),some (.int (aQ A')),v6,v7]/\0<=c'/\Ext H (upd H3 D (.lst (ys++[.ref t1])))/\some (HO.lst (ys++[V.ref t1]))=some (HO.lst ys')/\Al (jc (upd H3 D (.lst (ys++[.ref t1])))) (axL A') ys'/\(A'.map λ a=>a.1)=ms.take (i+1)/\LkI room A':=λ p t1 H3 e3 h3 p1 p4 hc=>by
    obtain⟨l1,l2,l3⟩:=(lk ()).snoc m1 m4 p1 p4 rfl hc;refine⟨c / 9,_,_,_,_,by rw [l2,l3],by omega,(e2.trans e3).put hD,rfl,?_,?_,l1⟩
    ·have a4:=e3.at h2;have a5:Al (jc H3) (axL A) ys:=(al ()).imp λ z y q=>q.ext e3;unfold axL;rw [map_append];exact(a5.snoc (show jc H3 [m,p * if 1 < m then 1 else 0] (.ref t1) from ⟨t1,rfl,h3⟩)).imp λ z y q=>q.upd a4
    ·rw [S7,hA (),S1,hm ()];rfl
   by_cases hcond:room<=aQ A - aP A+(if c % 9 - 4 < 0 then -(c % 9 - 4) else c % 9 - 4) * (m - 1)
   ·rw [RX hcond];intro t1 H3 _ e3 h3;have aS:=e3.at h2;have f2:=fin 0 t1 H3 e3 h3 ⋯ ⋯ (by have:=(lk ()).sp;simp;omega);exists f2;clear fin h2 k hcond;ac_rfl;exact f2 ()
   ·rw [RQ hcond];refine⟨.inl ⟨by omega,by omega⟩,.inl ⟨by omega,by omega⟩,.inl ⟨by omega,by omega⟩,?_⟩;intro t1 H3 _ e3 h3;have aS:=e3.at h2;have f2:=fin _ t1 H3 e3 h3 p1 p4 %[0|8];exists f2;clear fin h2 k hcond;ac_rfl;exact f2 ()
  ·rintro _ H2 ⟨c,A,ys,v6,v7,rfl,aa,e2,h2,al,hA,lk⟩;rw [RH,SO] at hA;have hd:0 < room - aQ A+aP A:=by have:=lk.sp;omega
   have d0:=SI c (show room - aQ A+aP A ≠ 0 by omega);have d1:=SJ c hd;have a6:A.length<=3:=by have:=Tf List.length hA;rw [RH] at this;omega
   exists al;exists hA;exists lk;clear h1;ac_rfl;intro q H3 hq e3 h3;exact k () q D _ A H3 (e2.trans e3) (e2.free hq) hD h3 ⟨ys,e3.at h2,(al ()).imp λ z y r=>r.ext e3⟩ (hA ()) ⟨a6,(lk ()).sz,by have:=(lk ()).hi;omega,by omega⟩
def aE(S:List Addr)(H:Hp):Hp:=λ b=>if b∈S then none else H b
def pQ(S:List Addr)(H:Hp):Prop:=∀ s∈S,∃ xs,H s=some (.lst xs)
def pQ.ext{S:List Addr}{H H':Hp}(h:pQ S H)(e:Ext H H'):pQ S H':=λ s hs=>by
 obtain⟨xs,hx⟩:=h s hs;exact⟨xs,e.at hx⟩
def ar(S:List Addr)(H:Hp):Ext (aE S H) H:=kY.ext λ b o h=>by
 unfold aE at h
 by_cases hb:b∈S
 ·rw [RX hb] at h;cases h
 ·rwa [RQ hb] at h
def aD{S:List Addr}{H H':Hp}(e:Ext H H'):Ext (aE S H) (aE S H'):=kY.ext λ b o h=>by
 unfold aE at h ⊢
 by_cases hb:b∈S
 ·rw [RX hb] at h;cases h
 ·rw [RQ hb] at h ⊢;exact e.at h
def aT{S:List Addr}{H:Hp}{b:Addr}(h:b∈S):aE S H b=none:=RX h
def zM{S:List Addr}{H H':Hp}{b:Addr}{o:HO}(hS:pQ S H)(hn:H b=none)(h:H' b=some o):aE S H' b=some o:=by
 unfold aE;rw [if_neg]
 ·exact h
 ·intro hb;obtain⟨xs,hx⟩:=hS b hb;rw [hn] at hx;cases hx
def aZ{S:List Addr}{H:Hp}{b:Addr}{o:HO}(hS:pQ S H)(h:H b=some o)(hn:∀ xs,o ≠ .lst xs):aE S H b=some o:=by
 unfold aE;rw [if_neg]
 ·exact h
 ·intro hb;obtain⟨xs,hx⟩:=hS b hb;rw [h] at hx;cases hx;exact hn xs rfl
def eV{S:List Addr}{H H':Hp}{D:Addr}{zs:List (List Int)}(hS:pQ S H)(e:Ext H H')(hn:H D=none)(h:bf H' D zs):bf (aE S H') D zs:=by
 obtain⟨ys,h1,h2⟩:=h;exact⟨ys,zM hS hn h1,h2.imp λ z y ⟨q,a1,a2⟩=>⟨q,a1,aZ (hS.ext e) a2 (λ _ h=>by cases h)⟩⟩
def SzQ(ms:List Int):Prop:=∀ m∈ms,(1:Int)<=m/\m<=4
def SzQ.snoc{ms:List Int}{j:Int}(h:SzQ ms)(h1:1<=j)(h2:j<=4):SzQ (ms++[j]):=λ m hm=>by
 rcases SD.mp hm with hm|hm
 ·exact h m hm
 ·rw [RP.mp hm];exact⟨h1,h2⟩
def sX  : Sp:=λ vs H Q E=>∃ (c:Int) (room:Int),vs=[.int c,.int room]/\(0<=c/\1<=room/\room<=60/\∀ (q D:Addr) (f:Int) (A:%[0|48]) (H':Hp),Ext H H'->H q=none->H D=none->H' q=some (.tup [.int room,.int f,.ref D])->bf H' D (axL A)->ir room f A->Q (.ref q) H')
def qC  (c:Int) (room:Int) (H:Hp) (Q:VK) (E:XK):sX  [.int c,.int room] H Q E=(0<=c/\1<=room/\room<=60/\∀ (q D:Addr) (f:Int) (A:%[0|48]) (H':Hp),Ext H H'->H q=none->H D=none->H' q=some (.tup [.int room,.int f,.ref D])->bf H' D (axL A)->ir room f A->Q (.ref q) H'):=iu (f:=λ (c:Int) (room:Int)=>[.int c,.int room]) (λ _ _ _ _ h=>by cases h;exact⟨rfl,rfl⟩) c room
def iZ(T:Tx K mg t):%[2,BP|49] ["_law_cell", "_law_room"] sX:=by
 have G_EN:=%[j6|44];refine T.F_BP.ok dX (λ _ _ _ _ h=>iw h λ _ _=>rfl) (λ cdv A' outer s H vs Q E hr h=>?_)
 ·obtain⟨c,room,rfl,aa,r1,a3,k⟩:=h;refine⟨_,%[%[2,dX,%[(@b9 _)|23]|4],%[%[R9,rfl,%[∅,T.z_range,%[%[bE,%[0|0],%[0|2]|11]|1],∅|39],%[3,dX|5],%[%[%[R0,Si,Sh,bF,%[2|0],%[%[bM,%[0|2],%[bE,%[cc,%[0|0],%[0|2]|11],%[0|2]|11]|11]|1],∅,∅,∅,∅,∅|33],∅|14],%[%[0,dX,%[cc,%[0|0],%[0|2]|11]|4]|9]|10],(by intros;rfl)|27],%[%[%[EN,%[%[cc,%[0|0],%[0|2]|11],%[%[1|0],%[%[2|0]|1]|1]|1]|3]|12]|9]|10]|10],?_⟩;rw [show au ["_law_cell", "_law_room", "_law_sizes", "_law_k"] [.int c,.int room]=[%[c|47],%[room|47],none,none] from rfl];clear G_EN;exists k;ac_rfl;intro L H1 hL e1 h1;have a4:0<=c % 4/\c % 4 < 4:=by omega
  generalize hz:c % 4=z at a4;clear hz;ac_rfl;refine⟨by omega,by omega,?_⟩;refine lA (λ i σ H'=>∃ (c:Int) (ms:List Int) (v3:Option V),σ=[%[c|47],%[room|47],%[L|45],v3]/\0<=c/\Ext H H'/\H' L=%[ms|46]/\ms.length<=i/\SzQ ms) ⟨c,[],_,rfl,aa,e1,h1,RJ _,(λ _ h=>by cases h)⟩ ?_ ?_
  ·rintro i _ H2 hi ⟨c,ms,v3,rfl,aa,e2,h2,a5,aS⟩;have a6:ms.length < sizeLine:=fN %[0|8];clear h1 k;simp! only [↓bh];exact⟨c / 4,ms++[1+c / 4 % 4],_,rfl,by omega,e2.put hL,by rw [S7];rfl,by simp;omega,aS.snoc %[0|8] %[0|8]⟩
  ·rintro _ H2 ⟨c,ms,v3,rfl,aa,e2,h2,a5,aS⟩;clear h1;ac_rfl;rw [vR];refine⟨ms,h2,by omega,aS,by omega,r1,a3,λ q D f A H3 e3 hq hD h3 t3 _ pk=>?_⟩;have k2:=k () q D f A H3 (e2.trans e3) (e2.free hq) (e2.free hD) h3 t3 pk;clear k;ac_rfl
abbrev nO  (q:Addr) (H:Hp) (Q:VK) (E:XK):Prop:=∃ (n f:Int) (A:%[0|48]),x9 H q n f A/\ir n f A/\∀ (r:Addr) (H':Hp),H r=none->Ext H H'->H' r=some (.lst ((af f A).map V.int))->Q (.ref r) H'
def oC  : Sp:=λ vs H Q E=>∃ (q:Addr),vs=[.ref q]/\(nO  q H Q E)
def nH  (q:Addr) (H:Hp) (Q:VK) (E:XK):oC  [.ref q] H Q E=(nO  q H Q E):=jM (f:=λ (q:Addr)=>[.ref q]) (λ _ _ h=>by cases h;exact rfl) q
def i4(T:Tx K mg t):%[1,BQ|49] ["_law_parts_here"] oC:=by
 refine T.F_BQ.ok bt (λ _ _ _ _ h=>jN h λ _=>rfl) (λ cdv A' outer s H vs Q E hr h=>?_)
 ·obtain⟨q0,rfl,n,first,axs,⟨l,bp,ys,hl,al⟩,pk,k⟩:=h;refine⟨_,%[%[1,bt,%[%[%[eS,%[0|0],%[0|2],(λ _ _=>rfl)|18]|1]|23]|4],%[%[R9,rfl,%[%[eS,%[0|0],%[0|2],(λ _ _=>rfl)|18]|21],(%[(2),rfl,%[%[2,bt|5],%[%[3,bt|5],(@aK _),∅|16],∅|16],∅,∅|26].mono λ _ _ _ _ h=>bP h),%[%[4,bt,%[(@b9 _)|23]|4],%[%[R9,rfl,%[%[1|0]|21],%[5,bt|5],%[%[R9,rfl,%[∅,T.z_range,%[%[2|0]|1],∅|39],%[6,bt|5],%[%[%[R0,Si,Sh,bF,%[4|0],%[%[bM,%[5|0],%[gE,%[6|0],%[3|0]|11]|11]|1],∅,∅,∅,∅,∅|33],∅|14]|9],(by intros;rfl)|27]|9],(by intros;rfl)|27],%[%[1,bt,%[4|0]|4]|9]|10]|10],(by intros;rfl)|27],%[%[%[1|0]|12]|9]|10]|10],?_⟩;rw [show au ["_law_parts_here", "_law_found", "_law_size", "_law_pace", "_law_longer", "_law_cell", "_law_number"] [.ref q0]=[%[q0|45],none,none,none,none,none,none] from rfl];exists k;have bS:=pk.ax;have cH:=pk.pr;ac_rfl;intro r H1 b1 e1 h1;have b2:=e1.at hl;have b3:=e1.at bp;have aa:∀ a∈axs,(1:Int)<=a.1:=λ a ha=>(bS.2 a ha).1;have a3:=pk.sz;exists aa;exists a3;ac_rfl;refine fP (xs:=ys) (λ i σ H'=>∃ (r:Addr) (v2 v3 v4 v5 v6:Option V),σ=[%[q0|45],%[r|45],v2,v3,v4,v5,v6]/\Ext H H'/\H r=none/\H' r=some (.lst ((af first (axs.take i)).map V.int))) ⟨r,none,none,none,none,none,rfl,e1,b1,h1⟩ (λ i σ H' _ ⟨_,_,_,_,_,_,_,e,_,_⟩=>e.at hl) ?_ ?_
  ·rintro i y _ H3 hi ⟨r3,v2,v3,v4,v5,v6,rfl,e3,a5,h3⟩;obtain⟨a,q,ha,rfl,hq⟩:=KU al hi;have cT:=e3.at hq;have hm:=a3 () a (Sa ha)
   have hlen:(af first (axs.take i)).length * a.1.toNat<=4096:=by
    have b4:=aX first (axs.take i) λ b hb=>aa () b (T8 hb)
    have hp:=iY (axs.map λ a=>a.1) (λ n hn=>by obtain⟨b,hb,rfl⟩:=RW.mp hn;exact aa () b hb) (i+1);rw [jy _ i a.1 (by rw [RN,ha];rfl),←List.map_take,←b4] at hp;have b5:((a.1.toNat:Nat):Int)=a.1:=Ue %[0|8]
    have:(((af first (axs.take i)).length * a.1.toNat:Nat):Int)<=4096:=by rw [Vp,b5];omega
    omega
   have aS:af first (axs.take (i+1))=cp (af first (axs.take i)) a:=by
    rw [S1,ha]
    show af first (axs.take i++[a])=_
    rw [mj]
   rw [aS]
   generalize af first (axs.take i)=cs at hlen h3
   clear aS hi k h1 b2 b3;simp! only [↓bh];intro g H4 a6 e4 h4;have a7:=e4.at h3;have a8:H g=none:=e3.free a6;ac_rfl;refine fP (xs:=cs.map V.int) (λ j σ H'=>∃ v5 v6:Option V,σ=[%[q0|45],%[r3|45],some (.int a.1),some (.int a.2),%[g|45],v5,v6]/\Ext H H'/\Ext H3 H'/\H' g=some (.lst ((cp (cs.take j) a).map V.int))) ⟨_,_,rfl,e3.trans e4,e4,h4⟩ (λ j σ H' _ ⟨_,_,_,_,e,_⟩=>e.at h3) ?_ ?_
   ·rintro j x _ H5 hj ⟨b8,cb,rfl,e5,a9,h5⟩;rw [RN] at hj;obtain⟨c,hc,rfl⟩:=RL.mp hj;have c0:j < cs.length:=(RG.mp hc).1
    have cv:(cp (cs.take j) a).length+a.1.toNat<=4096:=by
     rw [lE,SW];have:(min j cs.length+1) * a.1.toNat<=cs.length * a.1.toNat:=UQ _ %[0|8];rw [Nat.add_mul,Nat.one_mul] at this;omega
    rw [nh cs a j c hc];generalize cp (cs.take j) a=ws at h5 cv;clear hj h4 a7;simp! only [↓bh];refine⟨by omega,by omega,?_⟩;refine lA (λ m σ H'=>∃ v6:Option V,σ=[%[q0|45],%[r3|45],some (.int a.1),some (.int a.2),%[g|45],%[c|47],v6]/\Ext H H'/\Ext H3 H'/\H' g=some (.lst ((ws++(List.range m).map λ (n:Nat)=>c+(n:Int) * a.2).map V.int))) ⟨_,rfl,e5,a9,by rw [List.range_zero,Va,UH];exact h5⟩ ?_ ?_
    ·rintro m _ H6 c1 ⟨ba,rfl,e6,a4,h6⟩;have c2:ye (0+(m:Int)) a.2:=.inl ⟨by omega,by omega⟩;have c3:(ws++(List.range m).map λ (n:Nat)=>c+(n:Int) * a.2).length < sizeLine:=fN (by rw [R3,RH,Sr];omega)
     have aS:(ws++(List.range (m+1)).map λ (n:Nat)=>c+(n:Int) * a.2).map V.int=(ws++(List.range m).map λ (n:Nat)=>c+(n:Int) * a.2).map V.int++[.int (c+(0+(m:Int)) * a.2)]:=by
      rw [Vn,Uj];simp
     rw [aS];clear aS h5;generalize (ws++(List.range m).map λ (n:Nat)=>c+(n:Int) * a.2)=us at *;simp! only [↓bh];exact⟨_,rfl,e6.put a8,a4.put a6⟩
    ·rintro _ H6 ⟨ba,rfl,e6,a4,h6⟩;ac_rfl;exact⟨_,_,rfl,e6,a4⟩
   ·rintro _ H5 ⟨b8,cb,rfl,e5,a9,h5⟩;rw [RH,SO] at h5;ac_rfl;exact⟨g,_,_,_,_,_,rfl,e5,a8,h5⟩
  ·rintro _ H3 ⟨r3,v2,v3,v4,v5,v6,rfl,e3,a5,h3⟩;have cD:ys.length=axs.length:=by rw [al.1];unfold axL;rw [length_map]
   rw [cD,SO] at h3;ac_rfl;exact k () r3 H3 a5 e3 h3
abbrev qW(C:Addr)(q:Addr)(H:Hp)(Q:VK)(E:XK):Prop:=∃ (n f:Int) (A:%[0|48]),x9 H q n f A/\ir n f A/\1<=n/\n<=60/\∀ (x:Addr) (H':Hp),H x=none->Ext H H'->(∀ S,pQ S H->aw C (aE S H') x n f A)->Q (.ref x) H'
def tD(C:Addr):Sp:=λ vs H Q E=>∃ (q:Addr),vs=[.ref q]/\(qW C q H Q E)
def cC(C:Addr)(q:Addr)(H:Hp)(Q:VK)(E:XK):tD C [.ref q] H Q E=(qW C q H Q E):=jM (f:=λ (q:Addr)=>[.ref q]) (λ _ _ h=>by cases h;exact rfl) q
def jZ(T:Tx K mg t):%[8,IX|49] ["_law_parts_here"] (tD t.a_ZZ):=by
 have G_xu:=%[bX|44];refine T.F_IX.ok uP (λ _ _ _ _ h=>jN h λ _=>rfl) (λ cdv A' outer s H vs Q E hr h=>?_)
 ·obtain⟨q0,rfl,n,first,axs,⟨l,a8,ys,hl,al⟩,pk,n1,a9,k⟩:=h;refine⟨_,%[%[%[T.mk_View,G_xu,(hr.mono ⋯),∅,T.m_ZZ,T.b_xu,.nil,ay,%[%[eS,%[0|0],%[0|2],(λ _ _=>rfl)|18],%[%[eS,%[0|0],%[0|2],(λ _ _=>rfl)|18],%[%[bB,∅,T.z_list,nofun,%[%[eS,%[0|0],%[0|2],(λ _ _=>rfl)|18]|1],⋯,⋯,∅,∅|29]|1]|1]|1],⋯,∅,∅|32]|12]|9],?_⟩;rw [show au ["_law_parts_here"] [.ref q0]=[%[q0|45]] from rfl];clear G_xu;exists k
  have hv:nc n first axs:=by
   obtain⟨g1,g2⟩:=iL axs λ a ha=>(pk.ax.2 a ha).1;exact⟨pk.ax,n1,by omega,by rw [g1];exact pk.lo,by rw [g2];exact pk.hi⟩
  have aS:=pk.kp;exists aS;have a5:ys.length=axs.length:=by rw [al.1];unfold axL;rw [length_map]
  have h3:=pk.len;have ba:ys.length<=3:=by omega
  clear a5;ac_rfl;intro D H1 hD e1 h1;ac_rfl;intro x dx H3 hx bp bS e3 h3 b1;rw [iT];refine⟨dx,axs,h3,bf.ext ⟨ys,h1,al.imp λ z y q=>q.ext e1⟩ e3,hv,λ H4 D2 e4 a6 a7 a3=>?_⟩;rw [aS ()] at a3;have aa:=e1.trans (e4 H1 e3 hx);have a4:=(e1.trans e3).free a6;have k':=k () x H4 (e1.free hx) aa λ S hS=>⟨dx,D2,aZ (hS.ext aa) a7 (λ _ h=>by cases h),eV hS aa a4 a3⟩;clear k;ac_rfl
def ql:∀ ms:List Int,av ms.reverse=av ms
 | []=>rfl
 | m::r=>by
  rw [U5,dS,ql r]
  show av r * (m * 1)=m * av r
  rw [Int.mul_one,Te]
def bC:Nat->Str
 | 0 => "stay"
 | 1 => "fill"
 | 2 => "copy"
 | 3 => "swap"
 | _ => "raise"
structure JY(H:Hp)(d:Addr)(i:Nat)(q1 q2:Addr)(z n:Int)(f1:Int)(A1:%[0|48])(f2:Int)(A2:%[0|48]):Prop where
 tp:H d=some (.tup [.str (bC i),.ref q1,.ref q2,.int z])
 p1:x9 H q1 n f1 A1
 p2:x9 H q2 n f2 A2
def JY.ext{H H':Hp}{d:Addr}{i:Nat}{q1 q2:Addr}{z n:Int}{f1:Int}{A1:%[0|48]}{f2:Int}{A2:%[0|48]}(h:JY H d i q1 q2 z n f1 A1 f2 A2)(e:Ext H H'):JY H' d i q1 q2 z n f1 A1 f2 A2:=⟨e.at h.tp,h.p1.ext e,h.p2.ext e⟩
structure ON(i:Nat)(n:Int)(f1:Int)(A1:%[0|48])(f2:Int)(A2:%[0|48]):Prop where
 i5:i < 5
 k1:ir n f1 A1
 k2:ir n f2 A2
 pe:av (A2.map λ a=>a.1)=av (A1.map λ a=>a.1)
def iO{xs:List V}{i:Int}{k:V->Prop}(P:V->Prop)(h0:0<=i)(h1:i < xs.length)(ha:∀ v∈xs,P v)(hk:∀ v,P v->k v):aJ (atI xs i) k:=Ht h0 h1 λ v hv=>hk v (ha v hv)
abbrev rz  (c:Int) (room:Int) (H:Hp) (Q:VK) (E:XK):Prop:=∃ S:List Addr,pQ S H/\0<=c/\1<=room/\room<=60/\∀ (d:Addr) (i:Nat) (q1 q2:Addr) (z:Int) (f1:Int) (A1:%[0|48]) (f2:Int) (A2:%[0|48]) (H':Hp),Ext H H'->JY (aE S H') d i q1 q2 z room f1 A1 f2 A2->ON i room f1 A1 f2 A2->Q (.ref d) H'
def tN  : Sp:=λ vs H Q E=>∃ (c:Int) (room:Int),vs=[.int c,.int room]/\(rz  c room H Q E)
def Cu  (c:Int) (room:Int) (H:Hp) (Q:VK) (E:XK):tN  [.int c,.int room] H Q E=(rz  c room H Q E):=iu (f:=λ (c:Int) (room:Int)=>[.int c,.int room]) (λ _ _ _ _ h=>by cases h;exact⟨rfl,rfl⟩) c room
def oZ(T:Tx K mg t):%[3,BR|49] ["_law_cell", "_law_room"] tN:=by
 have G_BP:=%[iZ|44];have G_EN:=%[j6|44];refine T.F_BR.ok cF (λ _ _ _ _ h=>iw h λ _ _=>rfl) (λ cdv A' outer s H vs Q E hr h=>?_)
 ·obtain⟨c,room,rfl,S,hS,c7,r1,ba,k⟩:=h;refine⟨_,%[%[2,cF,%[eS,%[%[(@br _ _ _ _),%[(@br _ _ _ _),%[(@br _ _ _ _),%[(@br _ _ _ _),%[(@br _ _ _ _),%[(@br _ _ _ _)|1]|1]|1]|1]|1]|1]|23],%[bE,%[0|0],%[0|2]|11],(λ _ _=>rfl)|18]|4],%[%[3,cF,%[BP,%[%[bE,%[cc,%[0|0],%[0|2]|11],%[jU,%[0|2],%[0|2]|11]|11],%[%[1|0]|1]|1]|3]|4],%[%[4,cF,%[EN,%[%[bE,%[oI,%[0|0],%[jU,%[0|2],%[0|2]|11]|11],%[jU,%[0|2],%[0|2]|11]|11],%[%[1|0],%[(@yP _ _ _ _ _ _ _ %[(["_law_size", "_law_pace", "_law_cell", "_law_room", "_law_word", "_law_one_here", "_law_other", "_law_value"]),(2),(aI (ae dM) ["_law_cell", "_law_room", "_law_word", "_law_one_here", "_law_other", "_law_value"] rfl rfl nofun),rfl,%[%[eS,%[3|0],%[0|2],(λ _ _=>rfl)|18]|21],(λ _ _ _ _ _=>(%[(2),rfl,%[%[(0),_,(show List.Nodup (["_law_size", "_law_pace", "_law_cell", "_law_room", "_law_word", "_law_one_here", "_law_other", "_law_value"]:List Str) from by decide +kernel),rfl,(Or.inl rfl),%[0|7]|19],%[%[(1),_,(show List.Nodup (["_law_size", "_law_pace", "_law_cell", "_law_room", "_law_word", "_law_one_here", "_law_other", "_law_value"]:List Str) from by decide +kernel),rfl,(Or.inl rfl),%[0|7]|19],(@aK _),∅|16],∅|16],∅,∅|26].mono λ _ _ _ _ h=>bP h)),(λ _ _ _ _ _=>(@aN _)),(λ _ _ _ _ _=>%[0|0]),(by intros;rfl)|22] %[ei,%[0|2]|38] (λ _ _ _ h=>h))|1]|1]|1]|3]|4],%[%[5,cF,%[bE,%[oI,%[0|0],%[jU,%[0|2],%[0|2]|11]|11],%[eS,%[%[%[0|2],%[%[jU,%[0|2],%[0|2]|11]|1]|1]|23],%[bE,%[oI,%[0|0],%[jU,%[0|2],%[0|2]|11]|11],%[0|2]|11],(λ _ _=>rfl)|18]|11]|4],%[%[%[%[%[2|0],%[%[3|0],%[%[4|0],%[%[5|0]|1]|1]|1]|1]|36]|12]|9]|10]|10]|10]|10],?_⟩;rw [show au ["_law_cell", "_law_room", "_law_word", "_law_one_here", "_law_other", "_law_value"] [.int c,.int room]=[%[c|47],%[room|47],none,none,none,none] from rfl];clear G_BP G_EN;exists k;exists hS;ac_rfl;intro w1 H1 _ e1 h1;ac_rfl;refine iO (λ v=>∃ i:Nat,i < 5/\v=.str (bC i)) (SI _ ⋯) (SJ _ ⋯) (λ v hv=>?_) λ v hv=>?_
  ·simp only [RZ,RS,Sb] at hv
   rcases hv with rfl|rfl|rfl|rfl|rfl|rfl
   ·exact⟨1,by decide,rfl⟩
   ·exact⟨2,by decide,rfl⟩
   ·exact⟨3,by decide,rfl⟩
   ·exact⟨4,by decide,rfl⟩
   ·exact⟨2,by decide,rfl⟩
   ·exact⟨0,by decide,rfl⟩
  obtain⟨i,cv,rfl⟩:=hv;clear h1;have f0:=SI (c / 6) (show (100000000000000:Int) ≠ 0 by decide);generalize bp:bC i=wd;exists bp;ac_rfl;rw [qC];refine⟨f0,r1,ba,λ q1 D1 f1 A1 H2 e2 c8 cD h2 t2 aa=>?_⟩;have cH:=e1.trans e2;have cT:=e1;have h8:=aa.len;obtain⟨ys,hl,al⟩:=t2;clear e1 e2 f0;ac_rfl;refine⟨⟨by decide,by decide⟩,?_⟩;have wk:=kr (K:=K) (R:=axP) (λ _ _ _ _ h e=>h.ext e) hl (m9 al);refine aL A1 (λ _=>true) (λ a=>.int a.1) axP wk.1 wk.2 (aC %[0|8]) ?_ ?_
  ·intro D a x H' N1 N0 ha hD e ⟨q,hx,hq⟩ k1 _;subst hx;have c9:=k1 rfl H' (Ext.refl _);clear k1 k;simp! only [↓ek,↓aM]
  intro L3 H3 de e3 h3;have bS:H3 L3=some (.lst ((A1.map λ a=>a.1).map V.int)):=by rw [h3,ko,Sv];rfl
  have c0:=cH.trans e3;have a3:=e3.at h2;have b1:(A1.map λ a=>a.1).length<=3:=by rw [RH];exact h8
  have a6:∀ m∈(A1.map λ a=>a.1),(1:Int)<=m/\m<=4:=λ m hm=>by
   obtain⟨a,ha,rfl⟩:=RW.mp hm;exact⟨(aa.sz a ha).1,(aa.sz a ha).2.1⟩
  have b2:=ql (A1.map λ a=>a.1);exists b2;obtain⟨ms,a7⟩:∃ ms,ms=A1.map λ a=>a.1:=⟨_,rfl⟩;rw [←a7] at bS b1 a6;exists a7;exists a6;have T2:bf H2 D1 (axL A1):=⟨ys,hl,al⟩;exists T2;clear h3 wk hl al h2;ac_rfl;intro L4 H4 dj e4 h4;rw [←TL] at h4;have a8:=c0.trans e4;have a4:=e4.at a3;have g0:=SI (c.fdiv 1000000000000000) (show (1000000000:Int) ≠ 0 by decide);clear a3 bS;ac_rfl;rw [vR];refine⟨ms.reverse,h4,by rw [Sf];exact b1,λ m hm=>a6 () m (UB.mp hm),g0,r1,ba,λ q2 D2 f2 A2 H5 e5 c1 c2 h5 t5 b3 c3=>?_⟩;have c4:=a8.trans e5;have a5:=e5.at a4;have c6:=a8.free c1;have b4:=a8.free c2;exists t5;exists b3;clear a4 h4 g0;ac_rfl
  try refine⟨⟨by decide,by decide⟩,?_⟩
  intro L6 H6 _ e6 h6;have c5:=c4.trans e6;have b5:=e6.at a5;have b8:=e6.at h5;clear a5 h5;ac_rfl
  try refine⟨⟨by decide,by decide⟩,?_⟩
  refine iO (λ v=>∃ j:Int,v=.int j/\0 < j) (SI _ ⋯) (SJ _ ⋯) (λ v hv=>?_) λ v hv=>?_
  ·simp only [RZ,RS,Sb] at hv
   rcases hv with rfl|rfl
   ·exact⟨_,rfl,by decide⟩
   ·exact⟨_,rfl,by decide⟩
  obtain⟨j,rfl,hj⟩:=hv;clear h6;ac_rfl;intro d H7 hd e7 h7;have aS:=c5.trans e7;have a9:=(hS ()).ext aS;have cb:H D1=none:=cT.free cD;refine k () d i q1 q2 _ f1 A1 f2 A2 H7 aS ⟨aZ a9 (by rw [bp ()];exact h7) (λ _ h=>by cases h),⟨D1,aZ a9 (e7.at b5) (λ _ h=>by cases h),eV (hS ()) aS cb ((T2 ()).ext ((e3.trans (e4.trans (e5.trans (e6.trans e7))))))⟩,⟨D2,aZ a9 (e7.at b8) (λ _ h=>by cases h),eV (hS ()) aS b4 ((t5 ()).ext (e6.trans e7))⟩⟩ ⟨cv,aa,c3,by rw [b3 (),a7 ()];exact b2 ()⟩
abbrev qQ  (p:Addr) (q:Addr) (H:Hp) (Q:VK) (E:XK):Prop:=∃ (vals:List Int) (n f:Int) (A:%[0|48]),H p=%[vals|46]/\x9 H q n f A/\ir n f A/\n=vals.length/\∀ (r:Addr) (H':Hp),H r=none->Ext H H'->H' r=some (.lst ((bc vals (af f A)).map V.int))->Q (.ref r) H'
def sV  : Sp:=λ vs H Q E=>∃ (p:Addr) (q:Addr),vs=[.ref p,.ref q]/\(qQ  p q H Q E)
def fQ  (p:Addr) (q:Addr) (H:Hp) (Q:VK) (E:XK):sV  [.ref p,.ref q] H Q E=(qQ  p q H Q E):=iu (f:=λ (p:Addr) (q:Addr)=>[.ref p,.ref q]) (λ _ _ _ _ h=>by cases h;exact⟨rfl,rfl⟩) p q
def NU{n f:Int}{A:%[0|48]}(h:ir n f A):(af f A).length<=64:=by
 have:=aX f A λ a ha=>(h.ax.2 a ha).1;have:=h.pr;omega
def gc(T:Tx K mg t):%[2,IZ|49] ["_law_values", "_law_parts_here"] sV:=by
 have G_BQ:=%[i4|44];refine T.F_IZ.ok uQ (λ _ _ _ _ h=>iw h λ _ _=>rfl) (λ cdv A' outer s H vs Q E hr h=>?_)
 ·obtain⟨p,q,rfl,vals,n,f,A,hp,pt,pk,hn,k⟩:=h;refine⟨_,%[%[%[(["_law_cell", "_law_values", "_law_parts_here"]),(1),(aI (ae eX) ["_law_values", "_law_parts_here"] rfl rfl nofun),rfl,%[%[BQ,%[%[1|0]|1]|3]|21],(λ _ _ _ _ _=>%[(0),_,(show List.Nodup (["_law_cell", "_law_values", "_law_parts_here"]:List Str) from by decide +kernel),rfl,(Or.inl rfl),%[0|7]|19]),(λ _ _ _ _ _=>(@aN _)),(λ _ _ _ _ _=>%[eS,%[1|0],%[0|0],(λ _ _=>rfl)|18]),(by intros;rfl)|22]|12]|9],?_⟩;rw [show au ["_law_values", "_law_parts_here"] [.ref p,.ref q]=[%[p|45],%[q|45]] from rfl];clear G_BQ;exists k;exists pt;ac_rfl;rw [nH];refine⟨n,f,A,pt (),pk,λ r H1 a3 e1 h1=>?_⟩;have aa:=e1.at hp;have on:=pk.on hn;have a4:=NU pk;exists on;ac_rfl;refine aL ((af f A).map V.int) (λ _=>true) (λ z=>.int (vals.getD (vi z).toNat 0)) (λ z x H'=>x=z/\H' r=some (.lst ((af f A).map V.int))) (dF h1).1 (dF h1).2 (aC (by rw [RH];omega)) ?_ ?_
  ·intro D z x H' N1 N0 hz hD e ⟨hx,_⟩ k1 _;subst hx;obtain⟨c,hc,rfl⟩:=RW.mp hz;obtain⟨o1,o2⟩:=on () c hc;have a5:=e.at aa;have ga:=zW o1 o2;have a6:N1 (.int (vals.getD c.toNat 0)) H':=k1 rfl H' (Ext.refl _);clear k1 k hz;generalize vals.getD c.toNat 0=y at *;simp! only [↓aO,↓aM]
  intro D H2 hD e2 aS;refine k () D H2 (e1.free hD) (e1.trans e2) ?_;rw [aS,ko,map_map];unfold bc;rw [map_map];rfl
abbrev wb  (p:Addr) (q:Addr) (w:Addr) (H:Hp) (Q:VK) (E:XK):Prop:=∃ (vals ws:List Int) (n f:Int) (A:%[0|48]),H p=%[vals|46]/\x9 H q n f A/\ir n f A/\n=vals.length/\H w=%[ws|46]/\w ≠ p/\ws.length=(af f A).length/\∀ (H':Hp),(∀ H0,Ext H0 H->H0 p=none->Ext H0 H')->(∀ b o,b ≠ p->H b=some o->H' b=some o)->H' p=some (.lst ((kn vals (af f A) ws).map V.int))->Q .non H'
def yA  : Sp:=λ vs H Q E=>∃ (p:Addr) (q:Addr) (w:Addr),vs=[.ref p,.ref q,.ref w]/\(wb  p q w H Q E)
def iJ  (p:Addr) (q:Addr) (w:Addr) (H:Hp) (Q:VK) (E:XK):yA  [.ref p,.ref q,.ref w] H Q E=(wb  p q w H Q E):=pR (f:=λ (p:Addr) (q:Addr) (w:Addr)=>[.ref p,.ref q,.ref w]) (λ _ _ _ _ _ _ h=>by cases h;exact⟨rfl,rfl,rfl⟩) p q w
def uq(T:Tx K mg t):%[2,ZD|49] ["_law_values", "_law_parts_here", "_law_some"] yA:=by
 have G_BQ:=%[i4|44];refine T.F_ZD.ok jC (λ _ _ _ _ h=>pO h λ _ _ _=>rfl) (λ cdv A' outer s H vs Q E hr h=>?_)
 ·obtain⟨p,q,w,rfl,vals,ws,n,f,A,hp,pt,pk,hn,hw,ba,bp,k⟩:=h;refine⟨_,%[%[R9,rfl,%[∅,T.z_zip,%[%[BQ,%[%[1|0]|1]|3],%[%[2|0]|1]|1],∅,∅|41],(%[(2),rfl,%[%[3,jC|5],%[%[4,jC|5],(@aK _),∅|16],∅|16],∅,∅|26].mono λ _ _ _ _ h=>bP h),%[%[%[4|0],(@u5 _ _ _ _ _ _ _ %[0|0] %[3|0] kM (by intros;rfl)),∅,∅,∅|40]|9],(by intros;rfl)|27]|9],?_⟩;rw [show au ["_law_values", "_law_parts_here", "_law_some", "_law_cell", "_law_value"] [.ref p,.ref q,.ref w]=[%[p|45],%[q|45],%[w|45],none,none] from rfl];clear G_BQ;exists k;exists pt;ac_rfl;rw [nH];refine⟨n,f,A,pt (),pk,λ r H1 a5 e1 h1=>?_⟩;have a6:=e1.at hp;have a7:=e1.at hw;have bS:r ≠ p:=λ e=>by rw [e,hp] at a5;cases a5
  have on:=pk.on hn;have b1:=NU pk;exists on;generalize af f A=cs at *;ac_rfl;refine t9 (ka:=false) (kb:=false) (xs:=cs.map V.int) (ys:=ws.map V.int) (λ i σ H'=>∃ v3 v4:Option V,σ=[%[p|45],%[q|45],%[w|45],v3,v4]/\(∀ H0,Ext H0 H1->H0 p=none->Ext H0 H')/\(∀ b o,b ≠ p->H1 b=some o->H' b=some o)/\H' p=some (.lst ((kn vals (cs.take i) (ws.take i)).map V.int))) ⟨none,none,rfl,λ _ q _=>q,λ _ _ _ q=>q,a6⟩ (λ i σ H' ⟨_,_,_,_,hk,_⟩=>⟨hk _ _ bS h1,hk _ _ ba a7⟩) ?_ ?_
  ·rintro i u x tq _ H3 H4 hu hx ⟨v3,v4,rfl,aa,aS,h3⟩ hq e4 h4;rw [RN] at hu hx;obtain⟨c,hc,rfl⟩:=RL.mp hu;obtain⟨z,hz,rfl⟩:=RL.mp hx;have a8:=on () c (Sa hc);have a9:=e4.at h3;have hlen:=bG vals (cs.take i) (ws.take i);have a3:=λ (_:Unit)=>lM (vals:=vals) hc hz;generalize kn vals (cs.take i) (ws.take i)=vv at h3 a9 hlen a3;have b2:ixN vv.length c=some c.toNat:=GF a8.1 (by rw [hlen];exact a8.2);exists aa;exists aS;clear hu hx hc hz k hlen h3 a6 a7 h1;simp! only [↓bh];refine⟨_,_,rfl,λ H0 q0 q1=>((aa () H0 q0 q1).trans e4).put q1,λ b o hb a4=>by rw [ah hb];exact e4.at (aS () b o hb a4),?_⟩;rw [a3 (),←kS]
  ·rintro _ H3 ⟨v3,v4,rfl,aa,aS,h3⟩;have hm:min (cs.map V.int).length (ws.map V.int).length=cs.length:=by rw [RH,RH];omega
   rw [hm,SO,←bp,SO] at h3;exact k () H3 (λ H0 q0 q1=>aa H0 (q0.trans e1) q1) (λ b o hb a4=>aS b o hb (e1.at a4)) h3
abbrev Aa(t:Adr)(d:Addr)(H:Hp)(Q:VK)(E:XK):Prop:=∃ (S:List Addr) (i:Nat) (q1 q2:Addr) (z n:Int) (f1:Int) (A1:%[0|48]) (f2:Int) (A2:%[0|48]),pQ S H/\JY (aE S H) d i q1 q2 z n f1 A1 f2 A2/\ON i n f1 A1 f2 A2/\1<=n/\n<=60/\∀ (s u v dx:Addr) (g1:Int) (B1:%[0|48]) (g2:Int) (B2:%[0|48]) (H':Hp),Ext H H'->aE S H' s=some (.ins (JW t i) dx (JV i u v (.int z)))->(0 < i->aw t.a_ZZ (aE S H') u n g1 B1/\ir n g1 B1/\aw t.a_ZZ (aE S H') v n g2 B2/\ir n g2 B2/\av (B2.map λ a=>a.1)=av (B1.map λ a=>a.1))->(∀ vals,uX i vals (af g1 B1) (af g2 B2) z=uX i vals (af f1 A1) (af f2 A2) z)->Q (.ref s) H'
def FZ(t:Adr):Sp:=λ vs H Q E=>∃ (d:Addr),vs=[.ref d]/\(Aa t d H Q E)
def JG(t:Adr)(d:Addr)(H:Hp)(Q:VK)(E:XK):FZ t [.ref d] H Q E=(Aa t d H Q E):=jM (f:=λ (d:Addr)=>[.ref d]) (λ _ _ h=>by cases h;exact rfl) d
def jF(T:Tx K mg t):%[9,xt|49] ["_law_deed"] (FZ t):=by
 have G_IX:=%[jZ|44];have G_Bp:=%[fH|44];have G_Bq:=%[kD|44];have G_Br:=%[kA|44];have G_xr:=%[jH|44];refine T.F_xt.ok bA (λ _ _ _ _ h=>jN h λ _=>rfl) (λ cdv A' outer s0 H vs Q E hr h=>?_)
 ·obtain⟨d,rfl,S,i,q1,q2,z,n,f1,A1,f2,A2,hS,dd,dk,n1,a5,k⟩:=h;refine⟨_,%[%[%[0|0],(%[(4),rfl,%[%[1,bA|5],%[%[2,bA|5],%[%[3,bA|5],%[%[4,bA|5],(@aK _),∅|16],∅|16],∅|16],∅|16],∅,∅|26].mono λ _ _ _ _ h=>bP h),∅,∅,∅|40],%[%[%[(bz hr.units),%[1|0],(@br _ _ _ _),(az _)|15],%[%[%[T.mk_Fill,G_Bp,(hr.mono ⋯),∅,T.m_Z4,T.b_Bp,.nil,ay,%[%[IX,%[%[2|0]|1]|3],%[%[4|0]|1]|1],⋯,∅,∅|32]|12]|9],(@aA _)|17],%[%[%[(bz hr.units),%[1|0],(@br _ _ _ _),(az _)|15],%[%[%[T.mk_Copy,G_Bq,(hr.mono ⋯),∅,T.m_Z5,T.b_Bq,.nil,ay,%[%[IX,%[%[2|0]|1]|3],%[%[IX,%[%[3|0]|1]|3]|1]|1],⋯,∅,∅|32]|12]|9],(@aA _)|17],%[%[%[(bz hr.units),%[1|0],(@br _ _ _ _),(az _)|15],%[%[%[T.mk_Swap,G_Br,(hr.mono ⋯),∅,T.m_Z6,T.b_Br,.nil,ay,%[%[IX,%[%[2|0]|1]|3],%[%[IX,%[%[3|0]|1]|3]|1]|1],⋯,∅,∅|32]|12]|9],(@aA _)|17],%[%[%[(bz hr.units),%[1|0],(@br _ _ _ _),(az _)|15],%[%[%[T.mk_Raise,G_xr,(hr.mono ⋯),∅,T.m_ZY,T.b_xr,.nil,ay,%[%[IX,%[%[2|0]|1]|3],%[%[IX,%[%[3|0]|1]|3]|1]|1],⋯,∅,∅|32]|12]|9],(@aA _)|17],%[%[(@Hn _ _ _ _ _ T.mk0_Statement ∅ T.m_Jg ⋯)|12]|9]|10]|10]|10]|10]|10],?_⟩;rw [show au ["_law_deed", "_law_word", "_law_one_here", "_law_other", "_law_value"] [.ref d]=[%[d|45],none,none,none,none] from rfl];clear G_IX G_Bp G_Bq G_Br G_xr;obtain⟨b1,a9,ba⟩:=dd.ext (ar S H);obtain⟨bS,k1,k2,a6⟩:=dk;exists k;exists hS;exists a9;exists ba;exists a6;have b2:¬ (bC 0=Str.ofString "fill"):=by decide +kernel
  have b3:¬ (bC 0=Str.ofString "copy"):=by decide +kernel
  have b4:¬ (bC 0=Str.ofString "swap"):=by decide +kernel
  have b5:¬ (bC 0=Str.ofString "raise"):=by decide +kernel
  have b8:¬ (bC 2=Str.ofString "fill"):=by decide +kernel
  have cb:¬ (bC 3=Str.ofString "fill"):=by decide +kernel
  have cv:¬ (bC 3=Str.ofString "copy"):=by decide +kernel
  have cD:¬ (bC 4=Str.ofString "fill"):=by decide +kernel
  have cH:¬ (bC 4=Str.ofString "copy"):=by decide +kernel
  have cT:¬ (bC 4=Str.ofString "swap"):=by decide +kernel
  match i,bS with
  | 0,_=>
   ac_rfl;intro sx dx G6 _ _ _ e6 h6 _;have kf:=k () sx sx sx dx f1 A1 f2 A2 G6 e6 (aZ ((hS ()).ext e6) h6 (λ _ h=>by cases h)) (λ hh=>absurd hh ⋯) (λ _=>rfl);clear k;ac_rfl
  | 1,_=>
   have pw:bC 1=Str.ofString "fill":=rfl;ac_rfl;rw [cC];refine⟨n,f1,A1,a9 (),k1,n1,a5,λ u H1 hu e1 vu=>?_⟩;have aa:=vu S (hS ());exists aa;clear vu;ac_rfl;intro sx dx G6 a7 _ _ g6 k6 _;rw [qG];refine⟨dx,k6,λ G7 a8 h7=>?_⟩;have bp:=a8 H1 g6 a7;have aS:=e1.trans bp;have kf:=k () sx u u dx f1 A1 f1 A1 G7 aS (aZ ((hS ()).ext aS) h7 (λ _ h=>by cases h)) (λ _=>⟨(aa ()).ext (aD bp),k1,(aa ()).ext (aD bp),k1,rfl⟩) (λ _=>rfl);clear k;ac_rfl
  | 2,_=>
   have pw:bC 2=Str.ofString "copy":=rfl;ac_rfl;rw [cC];refine⟨n,f1,A1,a9 (),k1,n1,a5,λ u H1 hu e1 vu=>?_⟩;ac_rfl;rw [cC];refine⟨n,f2,A2,(ba ()).ext e1,k2,n1,a5,λ v H2 hv e2 vv=>?_⟩;have aa:=(vu S (hS ())).ext (aD (S:=S) e2);have a3:=vv S ((hS ()).ext e1);exists aa;exists a3;clear vu vv;ac_rfl;intro sx dx G6 a7 _ _ g6 k6 _;rw [si];refine⟨dx,n,f1,f2,A1,A2,k6,((aa ()).ext (ar S H2)).ext g6,((a3 ()).ext (ar S H2)).ext g6,k1.ax,k2.ax,(a6 ()).symm,λ G7 a8 h7=>?_⟩;have a4:=a8 H2 g6 a7;have aS:=e1.trans (e2.trans a4);have kf:=k () sx u v dx f1 A1 f2 A2 G7 aS (aZ ((hS ()).ext aS) h7 (λ _ h=>by cases h)) (λ _=>⟨(aa ()).ext (aD a4),k1,(a3 ()).ext (aD a4),k2,a6 ()⟩) (λ _=>rfl);clear k;ac_rfl
  | 3,_=>
   have pw:bC 3=Str.ofString "swap":=rfl;ac_rfl;rw [cC];refine⟨n,f1,A1,a9 (),k1,n1,a5,λ u H1 hu e1 vu=>?_⟩;ac_rfl;rw [cC];refine⟨n,f2,A2,(ba ()).ext e1,k2,n1,a5,λ v H2 hv e2 vv=>?_⟩;have aa:=(vu S (hS ())).ext (aD (S:=S) e2);have a3:=vv S ((hS ()).ext e1);exists aa;exists a3;clear vu vv;ac_rfl;intro sx dx G6 a7 _ _ g6 k6 _;rw [r8];refine⟨dx,n,f1,f2,A1,A2,k6,((aa ()).ext (ar S H2)).ext g6,((a3 ()).ext (ar S H2)).ext g6,k1.ax,k2.ax,(a6 ()).symm,λ G7 a8 h7=>?_⟩;have a4:=a8 H2 g6 a7;have aS:=e1.trans (e2.trans a4);have kf:=k () sx u v dx f1 A1 f2 A2 G7 aS (aZ ((hS ()).ext aS) h7 (λ _ h=>by cases h)) (λ _=>⟨(aa ()).ext (aD a4),k1,(a3 ()).ext (aD a4),k2,a6 ()⟩) (λ _=>rfl);clear k;ac_rfl
  | 4,_=>
   have pw:bC 4=Str.ofString "raise":=rfl;ac_rfl;rw [cC];refine⟨n,f1,A1,a9 (),k1,n1,a5,λ u H1 hu e1 vu=>?_⟩;ac_rfl;rw [cC];refine⟨n,f2,A2,(ba ()).ext e1,k2,n1,a5,λ v H2 hv e2 vv=>?_⟩;have aa:=(vu S (hS ())).ext (aD (S:=S) e2);have a3:=vv S ((hS ()).ext e1);exists aa;exists a3;clear vu vv;ac_rfl;intro sx dx G6 a7 _ _ g6 k6 _;rw [pH];refine⟨dx,n,f1,f2,A1,A2,k6,((aa ()).ext (ar S H2)).ext g6,((a3 ()).ext (ar S H2)).ext g6,k1.ax,k2.ax,(a6 ()).symm,λ G7 a8 h7=>?_⟩;have a4:=a8 H2 g6 a7;have aS:=e1.trans (e2.trans a4);have kf:=k () sx u v dx f1 A1 f2 A2 G7 aS (aZ ((hS ()).ext aS) h7 (λ _ h=>by cases h)) (λ _=>⟨(aa ()).ext (aD a4),k1,(a3 ()).ext (aD a4),k2,a6 ()⟩) (λ _=>rfl);clear k;ac_rfl
def vA(z:Int):∀ (cs vals:List Int),kn vals cs (cs.map λ _=>z)=kZ vals cs z
 | [],_=>rfl
 | c::r,vals=>by
  show kn (vals.set c.toNat z) r (r.map λ _=>z)=kZ (vals.set c.toNat z) r z
  exact vA z r _
def zd(vals cs:List Int):(bc vals cs).length=cs.length:=by unfold bc;rw [length_map]
def PZ{n f1 f2:Int}{A1 A2:%[0|48]}(k1:ir n f1 A1)(k2:ir n f2 A2)(pe:av (A2.map λ a=>a.1)=av (A1.map λ a=>a.1)):(af f2 A2).length=(af f1 A1).length:=by
 have h1:=aX f1 A1 λ a ha=>(k1.ax.2 a ha).1;have h2:=aX f2 A2 λ a ha=>(k2.ax.2 a ha).1;omega
def Dd(as bs:List Int)(h:bs.length=as.length):(List.range as.length).map (λ k=>as.getD k 0+bs.getD k 0)=List.zipWith (· + ·) as bs:=by
 apply TX;intro i;rw [RN,List.getElem?_zipWith]
 by_cases hi:i < as.length
 ·rw [Ts hi,RE hi,RE (by omega:i < bs.length)];simp [List.getD,RE hi,RE (by omega:i < bs.length)]
 ·rw [Sq (by simp;omega),Sq (by omega:as.length<=i)];rfl
abbrev rA  (p:Addr) (d:Addr) (H:Hp) (Q:VK) (E:XK):Prop:=∃ (vals:List Int) (i:Nat) (q1 q2:Addr) (z n:Int) (f1:Int) (A1:%[0|48]) (f2:Int) (A2:%[0|48]),H p=%[vals|46]/\JY H d i q1 q2 z n f1 A1 f2 A2/\ON i n f1 A1 f2 A2/\n=vals.length/\n<=60/\∀ (r:Addr) (H':Hp),H r=none->Ext H H'->H' r=some (.lst ((uX i vals (af f1 A1) (af f2 A2) z).map V.int))->Q (.ref r) H'
def tO  : Sp:=λ vs H Q E=>∃ (p:Addr) (d:Addr),vs=[.ref p,.ref d]/\(rA  p d H Q E)
def Cv  (p:Addr) (d:Addr) (H:Hp) (Q:VK) (E:XK):tO  [.ref p,.ref d] H Q E=(rA  p d H Q E):=iu (f:=λ (p:Addr) (d:Addr)=>[.ref p,.ref d]) (λ _ _ _ _ h=>by cases h;exact⟨rfl,rfl⟩) p d
def rK(T:Tx K mg t):%[3,Ja|49] ["_law_values", "_law_deed"] tO:=by
 have G_IZ:=%[gc|44];have G_ZD:=%[uq|44];refine T.F_Ja.ok bH (λ _ _ _ _ h=>iw h λ _ _=>rfl) (λ cdv A' outer s0 H vs Q E hr h=>?_)
 ·obtain⟨p,d,rfl,vals,i,q1,q2,z,n,f1,A1,f2,A2,hp,⟨c0,a4,bS⟩,⟨c3,k1,k2,cb⟩,hn,c6,k⟩:=h;refine⟨_,%[%[%[1|0],(%[(4),rfl,%[%[2,bH|5],%[%[3,bH|5],%[%[4,bH|5],%[%[(5),_,bH.nd,rfl,(Or.inr rfl),%[0|7]|19],(@aK _),∅|16],∅|16],∅|16],∅|16],∅,∅|26].mono λ _ _ _ _ h=>bP h),∅,∅,∅|40],%[%[6,bH,%[bB,∅,T.z_list,nofun,%[%[0|0]|1],⋯,⋯,∅,∅|29]|4],%[(@jR _ _ (7) _ _ _ _ bH.nd rfl (Or.inr rfl) %[IZ,%[%[0|0],%[%[3|0]|1]|1]|3] ∅ %[0|7]),%[(@jR _ _ (8) _ _ _ _ bH.nd rfl (Or.inr rfl) %[IZ,%[%[0|0],%[%[4|0]|1]|1]|3] ∅ %[0|7]),%[%[%[(bz hr.units),%[2|0],(@br _ _ _ _),(az _)|15],%[%[%[ZD,%[%[6|0],%[%[3|0],%[%[(["_law_cell", "_law_values", "_law_deed", "_law_word", "_law_one_here", "_law_other", "_law_value", "_law_found", "_law_here", "_law_there"]),(1),(aI (ae df) ["_law_values", "_law_deed", "_law_word", "_law_one_here", "_law_other", "_law_value", "_law_found", "_law_here", "_law_there"] rfl rfl nofun),rfl,%[%[7|0]|21],(λ _ _ _ _ _=>%[(0),_,(show List.Nodup (["_law_cell", "_law_values", "_law_deed", "_law_word", "_law_one_here", "_law_other", "_law_value", "_law_found", "_law_here", "_law_there"]:List Str) from by decide +kernel),rfl,(Or.inl rfl),%[0|7]|19]),(λ _ _ _ _ _=>(@aN _)),(λ _ _ _ _ _=>%[6|0]),(by intros;rfl)|22]|1]|1]|1]|3],∅|14]|9],(@aA _)|17],%[%[(PW.pt %[%[(bz hr.units),%[2|0],(@br _ _ _ _),(az _)|15],(@gD _ _ _ _ %[(bz hr.units),%[2|0],(@br _ _ _ _),(az _)|15])|37]),%[%[%[ZD,%[%[6|0],%[%[3|0],%[%[8|0]|1]|1]|1]|3],∅|14]|9],(@aA _)|17],%[%[%[(bz hr.units),%[2|0],(@br _ _ _ _),(az _)|15],%[%[%[ZD,%[%[6|0],%[%[4|0],%[%[7|0]|1]|1]|1]|3],∅|14]|9],(@aA _)|17],%[%[%[(bz hr.units),%[2|0],(@br _ _ _ _),(az _)|15],%[%[%[ZD,%[%[6|0],%[%[3|0],%[%[(["_law_k", "_law_values", "_law_deed", "_law_word", "_law_one_here", "_law_other", "_law_value", "_law_found", "_law_here", "_law_there"]),(1),(aI (ae df) ["_law_values", "_law_deed", "_law_word", "_law_one_here", "_law_other", "_law_value", "_law_found", "_law_here", "_law_there"] rfl rfl nofun),rfl,%[∅,T.z_range,%[%[len,aB,%[%[7|0]|1]|6]|1],∅|39],(λ _ _ _ _ _=>%[(0),_,(show List.Nodup (["_law_k", "_law_values", "_law_deed", "_law_word", "_law_one_here", "_law_other", "_law_value", "_law_found", "_law_here", "_law_there"]:List Str) from by decide +kernel),rfl,(Or.inl rfl),%[0|7]|19]),(λ _ _ _ _ _=>(@aN _)),(λ _ _ _ _ _=>%[bM,%[eS,%[8|0],%[0|0],(λ _ _=>rfl)|18],%[eS,%[9|0],%[0|0],(λ _ _=>rfl)|18]|11]),(by intros;rfl)|22]|1]|1]|1]|3],∅|14]|9],(@aA _)|17],%[%[%[6|0]|12]|9]|10]|10]|10]|10]|10]|10]|10]|10],?_⟩;rw [show au ["_law_values", "_law_deed", "_law_word", "_law_one_here", "_law_other", "_law_value", "_law_found", "_law_here", "_law_there"] [.ref p,.ref d]=[%[p|45],%[d|45],none,none,none,none,none,none,none] from rfl];clear G_IZ G_ZD;exists k;exists a4;exists bS;exists hn;have c7:vals.length<=60:=by have:=hn ();omega
  have c1:=NU k1;have c2:=NU k2;have ce:=PZ k1 k2 cb;have r1:=zd vals (af f1 A1);have r2:=zd vals (af f2 A2);exists ce;exists r1;exists r2;clear cb;ac_rfl;intro F H1 hF e1 b1;have a5:=e1.at hp;ac_rfl;rw [fQ];refine⟨vals,n,f1,A1,a5,(a4 ()).ext e1,k1,hn (),λ a1 H2 b2 e2 h2=>?_⟩;have ba:=e2.at a5;have b3:=e2.at b1;have cv:a1 ≠ F:=λ e=>by rw [e,b1] at b2;cases b2
  clear a5 b1;ac_rfl;rw [fQ];refine⟨vals,n,f2,A2,ba,(bS ()).ext (e1.trans e2),k2,hn (),λ a2 H3 b4 e3 h3=>?_⟩;have aS:=e3.at b3;have aa:=e3.at h2;have cD:a2 ≠ F:=λ e=>by rw [e,b3] at b4;cases b4
  have a3:=e1.trans (e2.trans e3);clear ba b3 h2 e1 e2 e3 b2 b4 hp c0
  match i,c3 with
  | 0,_=>
   have w1:¬ (bC 0=Str.ofString "fill"):=by decide +kernel
   have w2:¬ (bC 0=Str.ofString "copy"):=by decide +kernel
   have w3:¬ (bC 0=Str.ofString "swap"):=by decide +kernel
   have w4:¬ (bC 0=Str.ofString "raise"):=by decide +kernel
   have kf:=k () F H3 hF a3 aS;clear k;ac_rfl
  | 1,_=>
   have w1:bC 1=Str.ofString "fill":=rfl;have w2:¬ (bC 1=Str.ofString "copy"):=by decide +kernel
   have w3:¬ (bC 1=Str.ofString "swap"):=by decide +kernel
   have w4:¬ (bC 1=Str.ofString "raise"):=by decide +kernel
   have rl:(bc vals (af f1 A1)).length<=64:=by have:=r1 ();omega
   ac_rfl;refine aL ((bc vals (af f1 A1)).map V.int) (λ _=>true) (λ _=>.int z) (λ z x H'=>x=z/\H' a1=some (.lst ((bc vals (af f1 A1)).map V.int))) (dF aa).1 (dF aa).2 (aC (by rw [RH];omega)) ?_ ?_
   ·intro D y x H' N1 N0 hz hD e ⟨hx,_⟩ j1 _;subst hx;have c4:=j1 rfl H' (Ext.refl _);clear j1 k hz;simp! only [↓aO,↓aM]
   intro L H4 hL e4 a6
   have a7:H4 L=some (.lst (((af f1 A1).map λ _=>z).map V.int)):=by
    rw [a6,ko,map_map];unfold bc;rw [map_map,map_map];rfl
   have b5:=e4.at aS;have b8:L ≠ F:=λ e=>by rw [e,aS] at hL;cases hL
   have a8:=a3.trans e4;clear a6 aS aa h3;ac_rfl;rw [iJ];refine⟨vals,_,n,f1,A1,b5,(a4 ()).ext a8,k1,hn (),a7,b8,by rw [RH],λ H5 g1 g2 g3=>?_⟩;rw [vA] at g3;have kf:=k () F H5 hF (g1 H a8 hF) g3;clear k;ac_rfl
  | 2,_=>
   have w1:¬ (bC 2=Str.ofString "fill"):=by decide +kernel
   have w2:bC 2=Str.ofString "copy":=rfl;have w3:¬ (bC 2=Str.ofString "swap"):=by decide +kernel
   have w4:¬ (bC 2=Str.ofString "raise"):=by decide +kernel
   ac_rfl;rw [iJ];refine⟨vals,_,n,f1,A1,aS,(a4 ()).ext a3,k1,hn (),h3,cD,by rw [r2 ()];exact ce (),λ H5 g1 g2 g3=>?_⟩;have kf:=k () F H5 hF (g1 H a3 hF) g3;clear k h3 aa aS;ac_rfl
  | 3,_=>
   have w1:¬ (bC 3=Str.ofString "fill"):=by decide +kernel
   have w2:¬ (bC 3=Str.ofString "copy"):=by decide +kernel
   have w3:bC 3=Str.ofString "swap":=rfl;have w4:¬ (bC 3=Str.ofString "raise"):=by decide +kernel
   ac_rfl;rw [iJ];refine⟨vals,_,n,f1,A1,aS,(a4 ()).ext a3,k1,hn (),h3,cD,by rw [r2 ()];exact ce (),λ H5 g1 g2 g3=>?_⟩;have cH:=g1 H a3 hF;have bp:=g2 _ _ cv aa;clear g1 g2 h3 aa aS;ac_rfl;rw [iJ];refine⟨_,_,n,f2,A2,g3,(bS ()).ext cH,k2,by rw [bG];exact hn (),bp,cv,by rw [r1 ()];exact(ce ()).symm,λ H6 j1 j2 j3=>?_⟩;have kf:=k () F H6 hF (j1 H cH hF) j3;clear k bp g3;ac_rfl
  | 4,_=>
   have w1:¬ (bC 4=Str.ofString "fill"):=by decide +kernel
   have w2:¬ (bC 4=Str.ofString "copy"):=by decide +kernel
   have w3:¬ (bC 4=Str.ofString "swap"):=by decide +kernel
   have w4:bC 4=Str.ofString "raise":=rfl;have rl:(bc vals (af f1 A1)).length<=64:=by have:=r1 ();omega
   have a9:(bc vals (af f2 A2)).length=(bc vals (af f1 A1)).length:=by rw [r1 (),r2 ()];exact ce ()
   have zw:=Dd (bc vals (af f1 A1)) (bc vals (af f2 A2)) a9;have cT:=r1 ();exists zw;exists a9;exists cT;have kk:∀ (H':Hp),Ext H H'->H' F=some (.lst ((kn vals (af f1 A1) (List.zipWith (· + ·) (bc vals (af f1 A1)) (bc vals (af f2 A2)))).map V.int))->Q (.ref F) H':=λ H' a b=>k () F H' hF a b;exists kk;clear k;generalize bc vals (af f1 A1)=as at *;generalize bc vals (af f2 A2)=bs at *;ac_rfl;refine⟨by omega,by omega,?_⟩;refine aL (List.range as.length) (λ _=>true) (λ j=>.int (as.getD j 0+bs.getD j 0)) (λ j x H'=>x=.int (0+(j:Nat))) jO.1 jO.2 (aC (by rw [Sr];omega)) ?_ ?_
   ·intro D j x H' N1 N0 hj hD e hx j1 _;subst hx;have c5:=SH.mp hj
    have ga:atI (as.map V.int) (0+(j:Int))=some (.int (as.getD j 0)):=by
     rw [Uj];exact cM (by rw [RN,Sx,RE c5];rfl)
    have gb:atI (bs.map V.int) (0+(j:Int))=some (.int (bs.getD j 0)):=by
     rw [Uj];exact cM (by rw [RN,Sx,RE (by have:=a9 ();omega)];rfl)
    have c8:=e.at aa;have c9:=e.at h3;have c4:=j1 rfl H' (Ext.refl _);clear j1 hj aa h3;generalize as.getD j 0=x1 at *;generalize bs.getD j 0=x2 at *;simp! only [↓aO,↓aM]
   intro L H4 hL e4 a6
   have a7:H4 L=some (.lst ((List.zipWith (· + ·) as bs).map V.int)):=by
    rw [a6,ko,←zw (),Sv];rfl
   have b5:=e4.at aS;have b8:L ≠ F:=λ e=>by rw [e,aS] at hL;cases hL
   have a8:=a3.trans e4;clear a6 aS aa h3;ac_rfl;rw [iJ];refine⟨vals,_,n,f1,A1,b5,(a4 ()).ext a8,k1,hn (),a7,b8,by rw [List.length_zipWith,a9 (),Nat.min_self];exact cT (),λ H5 g1 g2 g3=>?_⟩;have kf:=kk () H5 (g1 H a8 hF) g3;clear kk;ac_rfl
abbrev nN  (b:Bool) (H:Hp) (Q:VK) (E:XK):Prop:=b=true/\Q .non H
def oz  : Sp:=λ vs H Q E=>∃ (b:Bool),vs=[.bl b]/\(nN  b H Q E)
def gz  (b:Bool) (H:Hp) (Q:VK) (E:XK):oz  [.bl b] H Q E=(nN  b H Q E):=jM (f:=λ (b:Bool)=>[.bl b]) (λ _ _ h=>by cases h;exact rfl) b
def bW(T:Tx K mg t):%[1,xA|49] ["fits"] oz:=by
 refine T.F_xA.ok mx (λ _ _ _ _ h=>jN h λ _=>rfl) %[0|50]
 ·obtain⟨b,rfl,rfl,k⟩:=h;refine⟨_,%[%[%[%[%[0|0],(by intros;rfl)|31]|30],%[(@bV _ _)|9],(@aA _)|17]|9],?_⟩;rw [show au ["fits"] [.bl true]=[some (.bl true)] from rfl];ac_rfl
abbrev qR  (l:Addr) (x:Int) (H:Hp) (Q:VK) (E:XK):Prop:=∃ ms:List Int,H l=%[ms|46]/\0<=x/\x < (ms.length:Int)/\∀ H',Ext H H'->Q .non H'
def sW  : Sp:=λ vs H Q E=>∃ (l:Addr) (x:Int),vs=[.ref l,.int x]/\(qR  l x H Q E)
def Cj  (l:Addr) (x:Int) (H:Hp) (Q:VK) (E:XK):sW  [.ref l,.int x] H Q E=(qR  l x H Q E):=iu (f:=λ (l:Addr) (x:Int)=>[.ref l,.int x]) (λ _ _ _ _ h=>by cases h;exact⟨rfl,rfl⟩) l x
def mT(T:Tx K mg t):%[3,Bw|49] ["sizes", "axis"] sW:=by
 have G_xA:=%[bW|44];have G_rY:=%[cn|44];refine T.F_Bw.ok pJ (λ _ _ _ _ h=>iw h λ _ _=>rfl) %[0|50]
 ·obtain⟨l,x,rfl,ms,hl,x0,x1,k⟩:=h;refine⟨_,%[%[%[xA,%[%[rY,%[%[1|0],%[%[len,aB,%[%[0|0]|1]|6]|1]|1]|3]|1]|3],∅|14]|9],?_⟩;rw [show au ["sizes", "axis"] [.ref l,.int x]=[%[l|45],%[x|47]] from rfl];clear G_xA G_rY;exists k
  have hb:fO (.int x) (ms.length:Int)=true:=by
   show (decide (0<=x) && decide (x < (ms.length:Int)))=true
   rw [R7 x0,R7 x1];rfl
  simp! only [↓lW];rw [kJ];rw [hb];have k2:=k () H (Ext.refl _);clear k;ac_rfl;rw [gz];refine⟨rfl,?_⟩;ac_rfl
abbrev ki  (l:Addr) (x:Int) (e:Addr) (H:Hp) (Q:VK) (E:XK):Prop:=∃ ms:List Int,H l=%[ms|46]/\x=0/\H e=some (.lst [])/\1<=ms.length/\ms.length<=8/\∀ (r:Addr) (H':Hp),H r=none->Ext H H'->H' r=some (.lst (ms.tail.map V.int))->Q (.ref r) H'
def jl  : Sp:=λ vs H Q E=>∃ (l:Addr) (x:Int) (e:Addr),vs=[.ref l,.int x,.ref e]/\(ki  l x e H Q E)
def r9  (l:Addr) (x:Int) (e:Addr) (H:Hp) (Q:VK) (E:XK):jl  [.ref l,.int x,.ref e] H Q E=(ki  l x e H Q E):=pR (f:=λ (l:Addr) (x:Int) (e:Addr)=>[.ref l,.int x,.ref e]) (λ _ _ _ _ _ _ h=>by cases h;exact⟨rfl,rfl,rfl⟩) l x e
def uj(T:Tx K mg t):%[1,Zy|49] ["row", "axis", "told"] jl:=by
 refine T.F_Zy.ok xU (λ _ _ _ _ h=>pO h λ _ _ _=>rfl) %[0|50]
 ·obtain⟨l,x,e,rfl,ms,hl,rfl,he,h1,h8,k⟩:=h;refine⟨_,%[%[%[tX,%[tX,%[bB,∅,T.z_list,nofun,%[%[N3,%[0|0],(@lx _),(@gN _ _ _ %[1|0])|43]|1],⋯,⋯,∅,∅|29],%[bB,∅,T.z_list,nofun,%[%[2|0]|1],⋯,⋯,∅,∅|29]|11],%[bB,∅,T.z_list,nofun,%[%[N3,%[0|0],(@gN _ _ _ %[bM,%[1|0],%[0|2]|11]),(@lx _)|43]|1],⋯,⋯,∅,∅|29]|11]|12]|9],?_⟩;rw [show au ["row", "axis", "told"] [.ref l,.int 0,.ref e]=[%[l|45],some (.int 0),%[e|45]] from rfl];exists k;ac_rfl;intro a1 H1 a7 e1 h1;rw [L2.NV _ _ ⋯] at h1;have g1:H1 a1=some (.lst []):=h1;have l1:=e1.at hl;have t1:=e1.at he;clear h1;ac_rfl;intro a2 H2 a8 e2 h2;have l2:=e2.at l1;have t2:=e2.at t1;clear g1 l1 t1;ac_rfl;intro a3 H3 a9 e3 h3;have l3:=e3.at l2;have g2:=e3.at h2;clear h2 l2 t2;ac_rfl;intro a4 H4 ba e4 h4;have l4:=e4.at l3;clear g2 l3 h3;ac_rfl;intro a5 H5 bp e5 h5;rw [vN _ _ ⋯] at h5
  have g5:H5 a5=some (.lst (ms.tail.map V.int)):=by rw [h5];cases ms<;>rfl
  have g4:=e5.at h4;clear h5 l4 h4;ac_rfl;intro a6 H6 bS e6 h6;have b1:=e6.at g4;have tl:ms.tail.length<=8:=by rw [Vh];omega
  have b2:0+ms.tail.length<=sizeLine:=aC %[0|8];clear g5 g4;replace k:=λ (_:Unit)=>k ();generalize ms.tail=tm at *;ac_rfl;intro r H7 aS e7 h7;have aa:=e1.trans (e2.trans (e3.trans (e4.trans (e5.trans e6))));exact k () r H7 (aa.free aS) (aa.trans e7) h7
def gB(n:Nat)(k:Nat):List Int:=(List.range n).map λ j=>if j=k then 1 else 0
abbrev qT  (n:Int) (x:Int) (H:Hp) (Q:VK) (E:XK):Prop:=∃ (m k:Nat),n=(m:Int)/\x=(k:Int)/\m<=8/\∀ (r:Addr) (H':Hp),H r=none->Ext H H'->H' r=some (.tup ((gB m k).map V.int))->Q (.ref r) H'
def tu  : Sp:=λ vs H Q E=>∃ (n:Int) (x:Int),vs=[.int n,.int x]/\(qT  n x H Q E)
def Cn  (n:Int) (x:Int) (H:Hp) (Q:VK) (E:XK):tu  [.int n,.int x] H Q E=(qT  n x H Q E):=iu (f:=λ (n:Int) (x:Int)=>[.int n,.int x]) (λ _ _ _ _ h=>by cases h;exact⟨rfl,rfl⟩) n x
def ja(T:Tx K mg t):%[1,uE|49] ["many", "axis"] tu:=by
 refine T.F_uE.ok jI (λ _ _ _ _ h=>iw h λ _ _=>rfl) %[0|50]
 ·obtain⟨_,_,rfl,m,k,rfl,rfl,h8,kq⟩:=h;refine⟨_,%[%[%[ic,∅,T.z_tuple,nofun,%[%[(["k", "many", "axis"]),(1),(aI (ae bL) ["many", "axis"] rfl rfl nofun),rfl,%[∅,T.z_range,%[%[0|0]|1],∅|39],(λ _ _ _ _ _=>%[(0),_,(show List.Nodup (["k", "many", "axis"]:List Str) from by decide +kernel),rfl,(Or.inl rfl),%[0|7]|19]),(λ _ _ _ _ _=>(@aN _)),(λ _ _ _ _ _=>(@kO _ _ _ _ _ _ _ _ %[(bz hr.units),%[0|0],%[2|0],(az _)|15] %[0|2] %[0|2])),(by intros;rfl)|22]|1],⋯,⋯,∅,∅|29]|12]|9],?_⟩;rw [show au ["many", "axis"] [.int (m:Int),.int (k:Int)]=[some (.int (m:Int)),some (.int (k:Int))] from rfl];exists kq;ac_rfl;refine⟨by omega,by omega,?_⟩;refine aL (List.range m) (λ _=>true) (λ j=>.int (if j=k then 1 else 0)) (λ j x H'=>x=.int (0+(j:Nat))) jO.1 jO.2 (aC (by rw [Sr];omega)) ?_ ?_
  ·intro D j x H' N1 N0 hj hD e hx k1 _;subst hx;have aa:=k1 rfl H' (Ext.refl _);clear k1 kq hj
   by_cases hjk:j=k
   ·rw [RX hjk] at aa;subst hjk;simp only [Uj];simp! only [↓aO,↓aM]
   ·have a4:¬ ((0+(j:Int))=(k:Int)):=by omega
    rw [RQ hjk] at aa;simp! only [↓aO,↓aM]
  intro L H1 hL e1 aS
  have a5:H1 L=some (.lst ((gB m k).map V.int)):=by
   rw [aS,ko];unfold gB;rw [map_map];rfl
  have a6:(gB m k).length<=8:=by unfold gB;rw [length_map,length_range];exact h8
  clear aS;replace kq:=λ (_:Unit)=>kq ();generalize gB m k=us at *;ac_rfl;intro r H2 a3 e2 h2;exact kq () r H2 (e1.free a3) (e1.trans e2) h2
def GN{a:Addr}{xs:List V}{H:Hp}{Q:VK}(h:H a=some (.tup xs))(q:∀ (r:Addr) (H':Hp),Ext H H'->H' r=some (.tup [])->Q (.ref r) H'):NH (.ref a) none (some 0) H Q:=by
 show aJ (iB H a) (J1 a none (some 0) H Q)
 rw [iB,h]
 show J1 a none (some 0) H Q xs
 have e0:HT.sIx xs.length xs.length (some ((0:Nat):Int))=min 0 xs.length:=HT.sIx_nat _ _ _;refine⟨λ hw=>q a H (Ext.refl _) ?_,λ hw r H' hr e1 hh=>q r H' e1 ?_⟩
 ·have h2:HT.sIx xs.length xs.length (some ((0:Nat):Int))=xs.length:=hw.2;rw [e0] at h2;have:xs=[]:=S5.mp %[0|8];rw [h,this]
 ·rw [hh,L2.NV xs 0 ⋯];rfl
def An{a:Addr}{xs:List V}{H:Hp}{Q:VK}(h:H a=some (.tup xs))(q:Q (.ref a) H):NH (.ref a) (some 0) none H Q:=by
 show aJ (iB H a) (J1 a (some 0) none H Q)
 rw [iB,h]
 show J1 a (some 0) none H Q xs
 have e0:HT.sIx xs.length 0 (some ((0:Nat):Int))=min 0 xs.length:=HT.sIx_nat _ _ _
 have e1:HT.sIx xs.length 0 (some (0:Int))=0:=by
  show HT.sIx xs.length 0 (some ((0:Nat):Int))=0
  rw [e0];omega
 exact⟨λ _=>q,λ hw=>absurd ⟨e1,HT.sIx_none _ _⟩ hw⟩
def sD(n:Nat):List Int:=(List.range n).reverse.map λ (j:Nat)=>(j:Int)
def gj(n:Nat):(sD n).length=n:=by unfold sD;simp
def vm(n i:Nat)(h:i < n):(sD n)[i]? = some (((n - 1 - i:Nat):Nat):Int):=by
 unfold sD;rw [getElem?_map,getElem?_reverse (by rw [length_range];exact h),length_range,List.getElem?_range %[0|8]];rfl
def mvC(t:Adr):Nat->Addr
 | 0=>t.a_Z3
 | _=>t.a_Z2
def pkF:List (Str × V):=bT "at" (V.int (-1)) (bT "axis" (V.int 0) [])
def trF(O:Addr):List (Str × V):=bT "order" (V.ref O) []
def oH:pkF.lookup ("axis":Str)=some (.int 0):=by
 unfold pkF;rw [aj,if_neg nofun,aj,if_pos rfl]
def FA:pkF.lookup ("at":Str)=some (.int (-1)):=by
 unfold pkF;rw [aj,if_pos rfl]
def k8{m:Str}(h:m∈([("picked":Str), "behind", "ahead", "sizes_of", "on"]:List Str)):pkF.lookup m=none:=by
 have n1:¬ m = "at":=by revert m;decide +kernel
 have n2:¬ m = "axis":=by revert m;decide +kernel
 unfold pkF;rw [aj,if_neg n1,aj,if_neg n2];rfl
def qi(O:Addr):(trF O).lookup ("order":Str)=%[O|45]:=by
 unfold trF;rw [aj,if_pos rfl]
def u3(O:Addr){m:Str}(h:m∈([("behind":Str), "ahead", "sizes_of", "on"]:List Str)):(trF O).lookup m=none:=by
 have n1:¬ m = "order":=by revert m;decide +kernel
 unfold trF;rw [aj,if_neg n1];rfl
def mvF:Nat->Addr->List (Str × V)
 | 0,O=>trF O
 | _,_=>pkF
def CI:Nat->List Int->List Int
 | 0,ms=>ms.reverse
 | _,ms=>ms.tail
def J5:Nat->List Int->List Int->List Int
 | 0,_,ys=>ys.reverse
 | _,ms,ys=>(ms.headD 1 - 1)::ys
structure CD(t:Adr)(H:Hp)(m:Addr)(i:Nat)(n:Nat):Prop where
 i2:i < 2
 ob:∃ dx O,H m=some (.ins (mvC t i) dx (mvF i O))/\(i=0->H O=some (.lst ((sD n).map V.int)))
 n1:i=1->1<=n
 n8:n<=8
def CD.ext{t:Adr}{H H':Hp}{m:Addr}{i n:Nat}(h:CD t H m i n)(e:Ext H H'):CD t H' m i n:=by
 obtain⟨h1,⟨dx,O,h2,h3⟩,h4,h5⟩:=h;exact⟨h1,⟨dx,O,e.at h2,λ hi=>e.at (h3 hi)⟩,h4,h5⟩
abbrev Ac(t:Adr)(m:Addr)(l:Addr)(H:Hp)(Q:VK)(E:XK):Prop:=∃ (ms:List Int) (m0:Int),CD t H m 1 ms.length/\H l=%[ms|46]/\ms.head? = some m0/\Q (.int (m0 - 1)) H
def Gb(t:Adr):Sp:=λ vs H Q E=>∃ (m:Addr) (l:Addr),vs=[.ref m,.ref l]/\(Ac t m l H Q E)
def zQ(t:Adr)(m:Addr)(l:Addr)(H:Hp)(Q:VK)(E:XK):Gb t [.ref m,.ref l] H Q E=(Ac t m l H Q E):=iu (f:=λ (m:Addr) (l:Addr)=>[.ref m,.ref l]) (λ _ _ _ _ h=>by cases h;exact⟨rfl,rfl⟩) m l
def gI(T:Tx K mg t):%[1,By|49] ["self", "sizes"] (Gb t):=by
 refine T.F_By.ok pM (λ _ _ _ _ h=>iw h λ _ _=>rfl) %[0|50]
 ·obtain⟨m,l,rfl,ms,m0,mv,hl,hm,k⟩:=h;obtain⟨dx,O,ho,_⟩:=mv.ob;have aa:H m=some (.ins t.a_Z2 dx pkF):=ho;have f1:=oH;have f2:=FA;have f3:=k8 (m := "picked") nofun;have c1:=T.cl_Pick;have c2:=T.na_Pick_axis;have c3:=T.na_Pick_at
  have g0:atI (ms.map V.int) 0=%[m0|47]:=by
   cases ms with
   | nil=>cases hm
   | cons a r=>cases hm;exact cM (xs:=(m0::r).map V.int) (j:=0) rfl
  refine⟨_,%[%[(@kO _ _ _ _ _ _ _ _ %[Gi,%[%[0|0],rfl|13],%[0|2],(az _)|15] %[bM,%[%[0|0],rfl|13],%[eS,%[1|0],%[%[0|0],rfl|13],(λ _ _=>rfl)|18]|11] %[%[0|0],rfl|13])|12]|9],?_⟩;rw [show au ["self", "sizes"] [.ref m,.ref l]=[%[m|45],%[l|45]] from rfl];rw [show m0 - 1=-1+m0 by omega] at k;clear ho;ac_rfl
abbrev Af(t:Adr)(i:Nat)(m:Addr)(l:Addr)(H:Hp)(Q:VK)(E:XK):Prop:=∃ ms:List Int,CD t H m i ms.length/\H l=%[ms|46]/\(∀ x∈ms,(1:Int)<=x/\x<=1000000000)/\∀ (r:Addr) (H':Hp),H r=none->Ext H H'->H' r=some (.lst ((CI i ms).map V.int))->Q (.ref r) H'
def sH(t:Adr)(i:Nat):Sp:=λ vs H Q E=>∃ (m:Addr) (l:Addr),vs=[.ref m,.ref l]/\(Af t i m l H Q E)
def zS(t:Adr)(i:Nat)(m:Addr)(l:Addr)(H:Hp)(Q:VK)(E:XK):sH t i [.ref m,.ref l] H Q E=(Af t i m l H Q E):=iu (f:=λ (m:Addr) (l:Addr)=>[.ref m,.ref l]) (λ _ _ _ _ h=>by cases h;exact⟨rfl,rfl⟩) m l
def mW(T:Tx K mg t):%[4,Bz|49] ["self", "sizes"] (sH t 1):=by
 have G_Bw:=%[mT|44];have G_xA:=%[bW|44];have G_rY:=%[cn|44];have G_By:=%[gI|44];have G_Zy:=%[uj|44];refine T.F_Bz.ok pN (λ _ _ _ _ h=>iw h λ _ _=>rfl) %[0|50]
 ·obtain⟨m,l,rfl,ms,mv,hl,a3,k⟩:=h;obtain⟨dx,O,ho,_⟩:=mv.ob;have aS:H m=some (.ins t.a_Z2 dx pkF):=ho;have f1:=oH;have f2:=FA;have f3:=k8 (m := "picked") nofun;have c1:=T.cl_Pick;have c2:=T.na_Pick_axis;have c3:=T.na_Pick_at;have n1:=mv.n1 rfl;have n8:=mv.n8
  obtain⟨m0,hm0⟩:∃ m0,ms.head? = some m0:=by
   cases ms with
   | nil=>exact absurd n1 (by simp)
   | cons a r=>exact⟨a,rfl⟩
  have g0:atI (ms.map V.int) 0=%[m0|47]:=by
   cases ms with
   | nil=>cases hm0
   | cons a r=>cases hm0;exact cM (xs:=(m0::r).map V.int) (j:=0) rfl
  have a8:=a3 m0 (by
   cases ms with
   | nil=>cases hm0
   | cons a r=>cases hm0;exact R5)
  refine⟨_,%[%[%[Bw,%[%[1|0],%[%[%[0|0],rfl|13]|1]|1]|3],∅|14],%[%[%[xA,%[%[rY,%[%[%[0|0],T.cl_Pick,T.mt_Pick_picked,G_By,(hr.mono ⋯),T.b_By,.nil,ay,%[%[1|0]|1],∅,∅,∅|20],%[%[eS,%[1|0],%[%[0|0],rfl|13],(λ _ _=>rfl)|18]|1]|1]|3]|1]|3],∅|14],%[%[%[Zy,%[%[1|0],%[%[%[0|0],rfl|13],%[%[(@b9 _)|23]|1]|1]|1]|3]|12]|9]|10]|10],?_⟩;rw [show au ["self", "sizes"] [.ref m,.ref l]=[%[m|45],%[l|45]] from rfl];clear G_Bw G_xA G_rY G_By G_Zy ho;exists k;exists mv;ac_rfl;rw [Cj];refine⟨ms,hl,Int.le_refl _,by omega,λ H1 e1=>?_⟩;have aa:=e1.at hl;have a4:=e1.at aS;clear aS;ac_rfl;rw [zQ];refine⟨ms,m0,(mv ()).ext e1,aa,hm0,?_⟩
  have hb:fO (.int (m0 - 1)) m0=true:=by
   show (decide (0<=m0 - 1) && decide (m0 - 1 < m0))=true
   rw [R7 %[0|8],R7 %[0|8]];rfl
  simp! only [↓lW];rw [kJ,hb];ac_rfl;rw [gz];refine⟨rfl,?_⟩;ac_rfl;intro L H2 hL e2 a5;have a6:=e2.at aa;clear aa a4;ac_rfl;rw [r9];refine⟨ms,a6,rfl,a5,n1,n8,λ r H3 a7 e3 h3=>?_⟩;have k2:=k () r H3 ((e1.trans e2).free a7) ((e1.trans e2).trans e3) h3;clear k;ac_rfl
abbrev Ag(t:Adr)(i:Nat)(m:Addr)(l:Addr)(q:Addr)(H:Hp)(Q:VK)(E:XK):Prop:=∃ ms ys:List Int,CD t H m i ms.length/\H l=%[ms|46]/\H q=some (.tup (ys.map V.int))/\ys.length=(CI i ms).length/\∀ (r:Addr) (H':Hp),Ext H H'->H' r=some (.tup ((J5 i ms ys).map V.int))->Q (.ref r) H'
def yg(t:Adr)(i:Nat):Sp:=λ vs H Q E=>∃ (m:Addr) (l:Addr) (q:Addr),vs=[.ref m,.ref l,.ref q]/\(Ag t i m l q H Q E)
def zT(t:Adr)(i:Nat)(m:Addr)(l:Addr)(q:Addr)(H:Hp)(Q:VK)(E:XK):yg t i [.ref m,.ref l,.ref q] H Q E=(Ag t i m l q H Q E):=pR (f:=λ (m:Addr) (l:Addr) (q:Addr)=>[.ref m,.ref l,.ref q]) (λ _ _ _ _ _ _ h=>by cases h;exact⟨rfl,rfl,rfl⟩) m l q
def pj(T:Tx K mg t):%[2,BM|49] ["self", "sizes", "place"] (yg t 1):=by
 have G_By:=%[gI|44];refine T.F_BM.ok sA (λ _ _ _ _ h=>pO h λ _ _ _=>rfl) %[0|50]
 ·obtain⟨m,l,q,rfl,ms,ys,mv,hl,hq,bS,k⟩:=h;obtain⟨dx,O,ho,_⟩:=mv.ob;have aa:H m=some (.ins t.a_Z2 dx pkF):=ho;have f1:=oH;have f3:=k8 (m := "picked") nofun;have c1:=T.cl_Pick;have c2:=T.na_Pick_axis;have n1:=mv.n1 rfl;have n8:=mv.n8
  have y8:ys.length<=8:=by
   have:(CI 1 ms).length=ms.length - 1:=by show ms.tail.length=_;rw [Vh]
   omega
  obtain⟨m0,hm0⟩:∃ m0,ms.head? = some m0:=by
   cases ms with
   | nil=>exact absurd n1 (by simp)
   | cons a r=>exact⟨a,rfl⟩
  have aS:J5 1 ms ys=(m0 - 1)::ys:=by
   cases ms with
   | nil=>cases hm0
   | cons a r=>cases hm0;rfl
  rw [aS] at k;refine⟨_,%[%[%[vD,%[vD,%[Kg,%[2|0],(@lx _),(@gN _ _ _ %[%[0|0],rfl|13])|43],%[%[%[%[0|0],T.cl_Pick,T.mt_Pick_picked,G_By,(hr.mono ⋯),T.b_By,.nil,ay,%[%[1|0]|1],∅,∅,∅|20]|1]|36]|11],%[Kg,%[2|0],(@gN _ _ _ %[%[0|0],rfl|13]),(@lx _)|43]|11]|12]|9],?_⟩;rw [show au ["self", "sizes", "place"] [.ref m,.ref l,.ref q]=[%[m|45],%[l|45],%[q|45]] from rfl];clear G_By ho aS;exists k;exists mv;ac_rfl;refine GN hq λ a1 H1 e1 h1=>?_;have a5:=e1.at hl;have a6:=e1.at aa;have a7:=e1.at hq;clear aa hq;ac_rfl;rw [zQ];refine⟨ms,m0,(mv ()).ext e1,a5,hm0,?_⟩;ac_rfl;intro a2 H2 _ e2 h2;have a8:=e2.at h1;have a9:=e2.at a7;have ba:=e2.at a6;clear h1 a7 a6 a5;simp! only [↓Fs];intro a3 H3 e3 h3;have bp:=e3.at a9;have b1:=e3.at ba;clear a8 h2 a9 ba;ac_rfl;refine An bp ?_;simp! only [↓Fs];refine⟨aC (by first|omega|(simp;omega)),λ a4 H4 e4 h4=>?_⟩;exact k () a4 H4 (e1.trans (e2.trans (e3.trans e4))) h4
def Dj(n:Nat)(ms:List Int)(h:ms.Perm (sD n))(hs:ms.Pairwise (·<=·)):ms=(List.range n).map λ (j:Nat)=>(j:Int):=by
 have p1:((List.range n).map λ (j:Nat)=>(j:Int)).Pairwise (·<=·):=by
  rw [List.pairwise_map];exact(List.pairwise_lt_range).imp λ h=>by omega
 have p2:ms.Perm ((List.range n).map λ (j:Nat)=>(j:Int)):=h.trans (by unfold sD;exact(List.reverse_perm _).map _);exact p2.eq_of_pairwise (λ a b _ _ h1 h2=>by omega) hs p1
def tS(ms:List Int)(i:Nat)(h:i < ms.length):ms.reverse[i]? = ms[ms.length - 1 - i]?:=Tb h
def mV(T:Tx K mg t):%[4,BA|49] ["self", "sizes"] (sH t 0):=by
 have G_xA:=%[bW|44];refine T.F_BA.ok pL (λ _ _ _ _ h=>iw h λ _ _=>rfl) %[0|50]
 ·obtain⟨m,l,rfl,ms,mv,hl,b3,k⟩:=h;obtain⟨dx,O,ho,hO⟩:=mv.ob;replace hO:=hO rfl;have aa:H m=some (.ins t.a_Z3 dx (trF O)):=ho;have f1:=qi O;have c1:=T.cl_Turn;have c2:=T.na_Turn_order;have n8:=mv.n8;refine⟨_,%[%[%[xA,%[%[(bz hr.units),%[sorted,xN,%[%[%[0|0],rfl|13]|1]|6],(@jX _ _ _ _ _ _ _ rfl ∅ T.z_list ∅ T.z_range %[%[len,aB,%[%[1|0]|1]|6]|1] ∅ ∅ ∅),(az _)|34]|1]|3],∅|14],%[%[%[(["axis", "self", "sizes"]),(1),(aI (ae cX) ["self", "sizes"] rfl rfl nofun),rfl,%[%[%[0|0],rfl|13]|21],(λ _ _ _ _ _=>%[(0),_,(show List.Nodup (["axis", "self", "sizes"]:List Str) from by decide +kernel),rfl,(Or.inl rfl),%[0|7]|19]),(λ _ _ _ _ _=>(@aN _)),(λ _ _ _ _ _=>%[eS,%[2|0],%[0|0],(λ _ _=>rfl)|18]),(by intros;rfl)|22]|12]|9]|10],?_⟩;rw [show au ["self", "sizes"] [.ref m,.ref l]=[%[m|45],%[l|45]] from rfl];clear G_xA ho;exists k;have rl:=gj ms.length;ac_rfl;refine Dl hO %[0|8] λ zs aS a3=>?_;have bS:=Dj _ zs aS a3;subst bS;clear aS a3;intro L H1 hL e1 a4;have a5:=e1.at hl;have a6:=e1.at aa;have a7:=e1.at hO
  have a8:ya (ms.length:Int)=((List.range ms.length).map λ (j:Nat)=>(j:Int)).map V.int:=by
   unfold ya;rw [Int.toNat_natCast,map_map];rfl
  clear hl aa hO rl;ac_rfl;rw [J7];refine⟨by omega,by omega,?_⟩;rw [a8];intro L2 H2 b4 e2 a9;have b1:=e2.at a5;have b5:=e2.at a6;have ba:=e2.at a7;have bp:=e2.at a4;have eq:=di ((List.range ms.length).map λ (j:Nat)=>(j:Int)) ((List.range ms.length).map λ (j:Nat)=>(j:Int));rw [R7 rfl] at eq;clear a5 a6 a7 a4 a8;generalize ((List.range ms.length).map λ (j:Nat)=>(j:Int))=us at *;ac_rfl;rw [gz];refine⟨rfl,?_⟩;clear a9 bp eq;ac_rfl;refine aL ((sD ms.length).map V.int) (λ _=>true) (λ z=>.int (ms.getD (vi z).toNat 0)) (λ z x H'=>x=z/\H' O=some (.lst ((sD ms.length).map V.int))) (dF ba).1 (dF ba).2 (aC (by rw [RH,gj];omega)) ?_ ?_
  ·intro D z x H' N1 N0 hz hD e ⟨hx,_⟩ k1 _;subst hx;obtain⟨c,hc,rfl⟩:=RW.mp hz
   obtain⟨c0,c1'⟩:0<=c/\c < (ms.length:Int):=by
    unfold sD at hc;obtain⟨j,hj,rfl⟩:=List.mem_map.mp hc;have:=List.mem_range.mp (List.mem_reverse.mp hj);omega
   have ga:atI (ms.map V.int) c=some (.int (ms.getD c.toNat 0)):=by
    obtain⟨j,rfl⟩:=S6 c0;exact cM (by rw [RN,Sx,Sk,RE %[0|8]];rfl)
   have b8:=e.at b1;have cb:N1 (.int (ms.getD c.toNat 0)) H':=k1 rfl H' (Ext.refl _);clear k1 k hz;generalize ms.getD c.toNat 0=y at *;simp! only [↓aO,↓aM]
  intro D H3 hD e3 b2;refine k () D H3 ((e1.trans e2).free hD) ((e1.trans e2).trans e3) ?_;rw [b2,ko,Sv];congr 1;congr 1
  show _=ms.reverse.map V.int
  apply TX;intro i;rw [RN,RN]
  by_cases hi:i < ms.length
  ·rw [vm _ _ hi,tS _ _ hi,RE (show ms.length - 1 - i < ms.length by omega)]
   show some (V.int (ms.getD ((((ms.length - 1 - i:Nat):Int)).toNat) 0))=_
   rw [Sk,Sx,RE (show ms.length - 1 - i < ms.length by omega)];rfl
  ·rw [Sq (by rw [gj];omega),Sq (by rw [Sf];omega)];rfl
def TuI(ys us:List Int)(i:Nat):Prop:=us.length=ys.length/\∀ k,k < ys.length->us[k]? = if ys.length - 1 - k < i then ys[ys.length - 1 - k]? else ys[k]?
def TuI.step{ys us:List Int}{i:Nat}{y:Int}(h:TuI ys us i)(hi:ys[i]? = some y):TuI ys (us.set (ys.length - 1 - i) y) (i+1):=by
 have aa:i < ys.length:=(RG.mp hi).1;refine⟨by rw [UY];exact h.1,λ k hk=>?_⟩
 by_cases hki:ys.length - 1 - i=k
 ·subst hki;rw [TU (by rw [h.1];omega),RX %[0|8],show ys.length - 1 - (ys.length - 1 - i)=i by omega,hi]
 ·rw [UR hki,h.2 k hk]
  by_cases hc:ys.length - 1 - k < i
  ·rw [RX hc,RX %[0|8]]
  ·rw [RQ hc,RQ %[0|8]]
def TuI.done{ys us:List Int}(h:TuI ys us ys.length):us=ys.reverse:=by
 apply TX;intro k
 by_cases hk:k < ys.length
 ·rw [h.2 k hk,RX %[0|8],tS _ _ hk]
 ·rw [Sq (by rw [h.1];omega),Sq (by rw [Sf];omega)]
def pf(T:Tx K mg t):%[2,BN|49] ["self", "sizes", "place"] (yg t 0):=by
 refine T.F_BN.ok dZ (λ _ _ _ _ h=>pO h λ _ _ _=>rfl) %[0|50]
 ·obtain⟨m,l,q,rfl,ms,ys,mv,hl,hq,a4,k⟩:=h;obtain⟨dx,O,ho,hO⟩:=mv.ob;replace hO:=hO rfl;have a5:H m=some (.ins t.a_Z3 dx (trF O)):=ho;have f1:=qi O;have c1:=T.cl_Turn;have c2:=T.na_Turn_order;have n8:=mv.n8;have a6:ys.length=ms.length:=by rw [a4];exact Sf
  refine⟨_,%[%[3,dZ,%[bB,∅,T.z_list,nofun,%[%[2|0]|1],⋯,⋯,∅,∅|29]|4],%[%[R9,rfl,%[∅,T.z_zip,%[%[2|0],%[%[%[0|0],rfl|13]|1]|1],∅,∅|41],(%[(2),rfl,%[%[4,dZ|5],%[%[5,dZ|5],(@aK _),∅|16],∅|16],∅,∅|26].mono λ _ _ _ _ h=>bP h),%[%[%[4|0],(@u5 _ _ _ _ _ _ _ %[3|0] %[5|0] kM (by intros;rfl)),∅,∅,∅|40]|9],(by intros;rfl)|27],%[%[%[ic,∅,T.z_tuple,nofun,%[%[3|0]|1],⋯,⋯,∅,∅|29]|12]|9]|10]|10],?_⟩;rw [show au ["self", "sizes", "place", "found", "number", "axis"] [.ref m,.ref l,.ref q]=[%[m|45],%[l|45],%[q|45],none,none,none] from rfl];clear ho a4;exists k;have rl:=gj ms.length;ac_rfl;intro F H1 hF e1 aS;have a7:=e1.at a5;have a3:=e1.at hO;have aa:=e1.at hq;have a8:q ≠ F:=λ e=>by rw [e,aS] at aa;cases aa
  have a9:O ≠ F:=λ e=>by rw [e,hF] at hO;cases hO
  clear a5 hO hq;ac_rfl;refine t9 (ka:=true) (kb:=false) (xs:=ys.map V.int) (ys:=(sD ms.length).map V.int) (λ i σ H'=>∃ (us:List Int) (v4 v5:Option V),σ=[%[m|45],%[l|45],%[q|45],%[F|45],v4,v5]/\Ext H H'/\H' q=some (.tup (ys.map V.int))/\H' O=some (.lst ((sD ms.length).map V.int))/\H' F=%[us|46]/\TuI ys us i) ⟨ys,none,none,rfl,e1,aa,a3,aS,rfl,λ k hk=>by rw [RQ %[0|8]]⟩ (λ i σ H' ⟨_,_,_,_,_,a,b,_⟩=>⟨a,b⟩) ?_ ?_
  ·rintro i u x tq _ H3 H4 hu hx ⟨us,v4,v5,rfl,e3,q3,O3,F3,ti⟩ ba e4 h4;rw [RN] at hu hx;obtain⟨y,hy,rfl⟩:=RL.mp hu;obtain⟨z,hz,rfl⟩:=RL.mp hx;have bp:i < ys.length:=(RG.mp hy).1;rw [vm _ _ %[0|8]] at hz;cases hz;have q4:=e4.at q3;have O4:=e4.at O3;have F4:=e4.at F3
   have bS:ixN us.length (((ms.length - 1 - i:Nat):Nat):Int)=some (ms.length - 1 - i):=by
    unfold ixN;rw [if_pos (Int.natCast_nonneg _),if_pos (by rw [ti.1];omega)];rfl
   have st:=ti.step hy;rw [a6] at st;have ex:Ext H (upd H4 F (.lst ((us.map V.int).set (ms.length - 1 - i) (.int y)))):=(e3.trans e4).put hF;have lm:(us.map V.int).length=us.length:=RH _;exists st;exists ex;clear hu hx hy ti q3 O3 F3 aa a3 aS k a7;simp! only [↓bh];refine⟨us.set (ms.length - 1 - i) y,_,_,rfl,ex (),by rw [ah a8];exact q4,by rw [ah a9];exact O4,?_,st ()⟩;rw [←kS]
  ·rintro _ H3 ⟨us,v4,v5,rfl,e3,q3,O3,F3,ti⟩;have hm:min (ys.map V.int).length ((sD ms.length).map V.int).length=ys.length:=by rw [RH,RH,gj];omega
   rw [hm] at ti;have hd:=ti.done;subst hd;have yl:ys.reverse.length<=8:=by rw [Sf];omega
   clear ti hm aa a3 aS q3 O3;replace k:=λ (_:Unit)=>k ();ac_rfl;intro r H4 b1 e4 h4;exact k () r H4 (e3.trans e4) h4
def yh{i:Nat}{O:Addr}(hi:i < 2):(mvF i O).lookup (Str.ofString "behind")=none/\(mvF i O).lookup (Str.ofString "ahead")=none/\(mvF i O).lookup (Str.ofString "sizes_of")=none/\(mvF i O).lookup (Str.ofString "on")=none:=by
 match i,hi with
 | 0,_=>exact⟨u3 O nofun,u3 O nofun,u3 O nofun,u3 O nofun⟩
 | 1,_=>exact⟨k8 nofun,k8 nofun,k8 nofun,k8 nofun⟩
def P7{P:Program}{w:World}{K:W.Frag}{mg:Str->Option Value}{base:Heap}{t:Adr}(T:Tx K mg t):∀ i,i < 2->MD P w K mg base CX0 4 "behind" (mvC t i) (sH t i)
 | 0,_=>⟨T.cl_Turn,_,_,_,T.mt_Turn_behind,mV T,T.b_BA⟩
 | 1,_=>⟨T.cl_Pick,_,_,_,T.mt_Pick_behind,mW T,T.b_Bz⟩
 | n+2,h=>absurd h %[0|8]
def P8{P:Program}{w:World}{K:W.Frag}{mg:Str->Option Value}{base:Heap}{t:Adr}(T:Tx K mg t):∀ i,i < 2->MD P w K mg base CX0 2 "ahead" (mvC t i) (yg t i)
 | 0,_=>⟨T.cl_Turn,_,_,_,T.mt_Turn_ahead,pf T,T.b_BN⟩
 | 1,_=>⟨T.cl_Pick,_,_,_,T.mt_Pick_ahead,pj T,T.b_BM⟩
 | n+2,h=>absurd h %[0|8]
def Fl{i:Nat}{ms:List Int}:∀ x∈CI i ms,x∈ms:=λ x hx=>by
 match i with
 | 0=>exact UB.mp hx
 | i+1=>exact List.mem_of_mem_tail hx
def vV{i:Nat}{ms:List Int}:(CI i ms).length<=ms.length:=by
 match i with
 | 0=>exact Ui Sf
 | i+1=>show ms.tail.length<=_;rw [Vh];omega
def fF(T:Tx K mg t)(i:Nat):%[6,xB|49] ["self", "sizes"] (sH t i):=by
 have aa:=P7 (P:=P) (w:=w) (base:=base) T;have G_xA:=%[bW|44];have G_ZF:=%[nq|44];refine T.F_xB.ok gh (λ _ _ _ _ h=>iw h λ _ _=>rfl) %[0|50]
 ·obtain⟨m,l,rfl,ms,mv,hl,aS,k⟩:=h;obtain⟨dx,O,ho,_⟩:=mv.ob;have a3:=mv.i2;have n8:=mv.n8;refine⟨_,%[%[2,gh,%[%[0|0],aa,(hr.mono ⋯),ay,%[%[1|0]|1],∅,∅,∅|42]|4],%[%[%[xA,%[%[%[sI,%[len,aB,%[%[2|0]|1]|6],(@gO _ _ (.int 8) _ _ ∅ T.m_MOST_AXES.choose_spec ⟨_,rfl⟩ ⋯),(az _)|34],(@jS _ _ _ _ _ %[all,(iS rfl),%[%[(["size", "self", "sizes", "found"]),(1),(aI (ae ck) ["self", "sizes", "found"] rfl rfl nofun),rfl,%[%[2|0]|21],(λ _ _ _ _ _=>%[(0),_,(show List.Nodup (["size", "self", "sizes", "found"]:List Str) from by decide +kernel),rfl,(Or.inl rfl),%[0|7]|19]),(λ _ _ _ _ _=>(@aN _)),(λ _ _ _ _ _=>%[ZF,%[%[0|0]|1]|3]),(by intros;rfl)|22]|1]|6])|35]|1]|3],∅|14],%[%[%[2|0]|12]|9]|10]|10],?_⟩;rw [show au ["self", "sizes", "found"] [.ref m,.ref l]=[%[m|45],%[l|45],none] from rfl];clear aa G_xA G_ZF;exists k;exists mv;exists aS;ac_rfl;refine⟨m,i,dx,_,rfl,a3,ho,(yh a3).1,?_⟩;ac_rfl;rw [zS];refine⟨ms,mv (),hl,aS (),λ r H1 a5 e1 h1=>?_⟩;have bl:=vV (i:=i) (ms:=ms);have bm:∀ x∈CI i ms,(1:Int)<=x/\x<=1000000000:=λ x hx=>aS () x (Fl x hx);exists bm;have b8:((CI i ms).length:Int)<=8:=by omega
  generalize CI i ms=bs at *;clear ho;ac_rfl;refine aL (bs.map V.int) (λ _=>true) (λ _=>.bl true) (λ z x H'=>x=z/\H' r=%[bs|46]) (dF h1).1 (dF h1).2 (aC (by rw [RH];omega)) ?_ ?_
  ·intro D z x H' N1 N0 hz hD e ⟨hx,_⟩ k1 _;subst hx;obtain⟨c,hc,rfl⟩:=RW.mp hz;have hb:=bm () c hc;have a8:=k1 rfl H' (Ext.refl _);clear k1 k hz;simp! only [↓aO,↓aM];rw [vP,R7 hb.1,R7 hb.2];simp! only [↓aO,↓aM]
  intro D H2 hD e2 a6;rw [ko,show List.map (λ (_:V)=>V.bl true) (bs.map V.int)=(bs.map λ _=>true).map V.bl from by rw [Sv,Sv];rfl] at a6
  have a7:(bs.map λ _=>true).all id=true:=by
   rw [Ur];intro b hb;obtain⟨_,_,rfl⟩:=RW.mp hb;rfl
  have a4:=e2.at h1;clear h1;generalize (bs.map λ _=>true)=tb at *;ac_rfl;rw [gz];refine⟨rfl,?_⟩;have k2:=k () r H2 a5 (e1.trans e2) a4;clear k;ac_rfl
def InR.of_get:∀ {ns xs:List Int},xs.length=ns.length->(∀ (i:Nat) (n x:Int),ns[i]? = some n->xs[i]? = some x->0<=x/\x < n)->InR ns xs
 | [],[],_,_=>trivial
 | [],_::_,h,_=>by simp at h
 | _::_,[],h,_=>by simp at h
 | n::r,x::xs,h,k=>⟨k 0 n x rfl rfl,InR.of_get (by simpa using h) λ i m y a b=>k (i+1) m y (by simpa using a) (by simpa using b)⟩
def Fb(xs ps:List Int)(h:xs.length=ps.length):gL xs.reverse ps=gL xs ps.reverse:=by
 unfold gL
 have e:List.zipWith (λ x p=>x * p) xs.reverse ps=(List.zipWith (λ x p=>x * p) xs ps.reverse).reverse:=by
  rw [List.reverse_zipWith (by rw [Sf];exact h),List.reverse_reverse]
 rw [e,Vg]
def iQ(x p:Int)(xs ps:List Int):gL (x::xs) (p::ps)=x * p+gL xs ps:=by
 unfold gL;rw [List.zipWith_cons_cons,List.sum_cons]
def oK:∀ (n:Nat) (ps:List Int),gL (List.replicate n 0) ps=0
 | 0,ps=>by unfold gL;rfl
 | n+1,[]=>by unfold gL;rfl
 | n+1,p::ps=>by rw [Tc,iQ,oK n ps];omega
def kc(k:Nat):∀ (ps:List Int) (s:Nat),gL ((List.range' s ps.length).map λ j=>if j=k then (1:Int) else 0) ps=if s<=k/\k < s+ps.length then ps.getD (k - s) 0 else 0
 | [],s=>by
  rw [if_neg (by simp)];unfold gL;rfl
 | p::ps,s=>by
  rw [S4,List.range'_succ,Sm,iQ,kc k ps (s+1)]
  by_cases hs:s=k
  ·subst hs;rw [RX rfl,RQ %[0|8],RX %[0|8],Nat.sub_self]
   show 1 * p+0=p
   omega
  ·rw [RQ hs]
   by_cases hk:s+1<=k/\k < s+1+ps.length
   ·rw [RX hk,RX %[0|8],show k - s=(k - (s+1))+1 by omega]
    show 0 * p+_=ps.getD (k - (s+1)) 0
    omega
   ·rw [RQ hk,RQ %[0|8]];omega
def vM(ps:List Int)(n k:Nat)(hn:n=ps.length)(hk:k < n):gL (gB n k) ps=ps.getD k 0:=by
 subst hn;unfold gB;rw [List.range_eq_range',kc,if_pos %[0|8],Nat.sub_zero]
def gK:Nat->%[0|48]->%[0|48]
 | 0,A=>A.reverse
 | _,A=>A.tail
def CF:Nat->Int->%[0|48]->Int
 | 0,f,_=>f
 | _,f,A=>match A with|[]=>f|a::_=>f+a.2 * (a.1 - 1)
def gv(i:Nat)(A:%[0|48]):CI i (A.map λ a=>a.1)=(gK i A).map λ a=>a.1:=by
 match i with
 | 0=>show (A.map λ a=>a.1).reverse=(A.reverse).map λ a=>a.1;rw [TL]
 | i+1=>show (A.map λ a=>a.1).tail=(A.tail).map λ a=>a.1;rw [List.map_tail]
def lF(n k:Nat):(gB n k).length=n:=by unfold gB;rw [length_map,length_range]
def Ao{n k j:Nat}{x:Int}(h:(gB n k)[j]? = some x):x=if j=k then 1 else 0:=by
 unfold gB at h;rw [getElem?_map] at h;obtain⟨y,hy,rfl⟩:=Option.map_eq_some_iff.mp h;obtain⟨h1,h2⟩:=List.getElem?_eq_some_iff.mp hy;rw [List.getElem_range] at h2;rw [h2]
def DX{i:Nat}{A:%[0|48]}{f:Int}(hi:i < 2)(h1:i=1->1<=A.length):f+gL (J5 i (A.map λ a=>a.1) (List.replicate (gK i A).length 0)) (A.map λ a=>a.2)=CF i f A:=by
 match i,hi with
 | 0,_=>
  show f+gL (List.replicate A.reverse.length 0).reverse (A.map λ a=>a.2)=f
  rw [List.reverse_replicate,oK];omega
 | 1,_=>
  cases A with
  | nil=>exact absurd (h1 rfl) (by simp)
  | cons a r=>
   show f+gL ((a.1 - 1)::List.replicate r.length 0) (a.2::r.map λ a=>a.2)=f+a.2 * (a.1 - 1)
   rw [iQ,oK,Te];omega
def HA{i k:Nat}{A:%[0|48]}{f:Int}{b:Int × Int}(hi:i < 2)(h1:i=1->1<=A.length)(hk:(gK i A)[k]? = some b):f+gL (J5 i (A.map λ a=>a.1) (gB (gK i A).length k)) (A.map λ a=>a.2) - CF i f A=b.2:=by
 have aS:k < (gK i A).length:=(RG.mp hk).1
 match i,hi with
 | 0,_=>
  have aa:k < A.reverse.length:=aS
  show f+gL (gB A.reverse.length k).reverse (A.map λ a=>a.2) - f=b.2
  rw [Fb _ _ (by rw [lF,Sf,RH]),←TL,vM _ _ _ (by rw [RH]) aa,Sx,RN,show A.reverse[k]? = some b from hk]
  show f+b.2 - f=b.2
  omega
 | 1,_=>
  cases A with
  | nil=>exact absurd (h1 rfl) (by simp)
  | cons a r=>
   have aa:k < r.length:=aS
   show f+gL ((a.1 - 1)::gB r.length k) (a.2::r.map λ a=>a.2) - (f+a.2 * (a.1 - 1))=b.2
   rw [iQ,vM _ _ _ (by rw [RH]) aa,Sx,RN,show r[k]? = some b from hk]
   show f+((a.1 - 1) * a.2+b.2) - (f+a.2 * (a.1 - 1))=b.2
   rw [Te];omega
def Kp{i:Nat}{A:%[0|48]}{ys:List Int}(hi:i < 2)(h1:i=1->1<=A.length)(hp:∀ a∈A,(1:Int)<=a.1)(hl:ys.length=(gK i A).length)(hy:∀ (j:Nat) (b:Int × Int) (x:Int),(gK i A)[j]? = some b->ys[j]? = some x->0<=x/\x < b.1):InR (A.map λ a=>a.1) (J5 i (A.map λ a=>a.1) ys):=by
 match i,hi with
 | 0,_=>
  have aS:ys.length=A.length:=by rw [hl];exact Sf
  refine InR.of_get (by show ys.reverse.length=_;rw [Sf,RH];exact aS) λ j n x hn hx=>?_;rw [RN] at hn;obtain⟨a,ha,rfl⟩:=RL.mp hn;have a3:j < A.length:=(RG.mp ha).1;have aa:ys.reverse[j]? = some x:=hx;rw [tS _ _ %[0|8]] at aa;refine hy (ys.length - 1 - j) a x ?_ aa
  show A.reverse[ys.length - 1 - j]? = some a
  rw [Tb %[0|8],←ha];congr 1;omega
 | 1,_=>
  cases A with
  | nil=>exact absurd (h1 rfl) (by simp)
  | cons a r=>
   have ha:=hp a R5;refine⟨⟨by show 0<=a.1 - 1;omega,by show a.1 - 1 < a.1;omega⟩,InR.of_get (by rw [RH];exact hl) λ j n x hn hx=>?_⟩;rw [RN] at hn;obtain⟨b,hb,rfl⟩:=RL.mp hn;exact hy j b x hb hx
def oV(A:%[0|48]):aP A.reverse=aP A/\aQ A.reverse=aQ A:=by
 unfold aP aQ;rw [map_reverse,List.sum_reverse,map_reverse,List.sum_reverse];exact⟨rfl,rfl⟩
def ir.res{n f:Int}{A:%[0|48]}{i:Nat}(h:ir n f A)(hi:i < 2)(h1:i=1->1<=A.length):ir n (CF i f A) (gK i A):=by
 match i,hi with
 | 0,_=>
  obtain⟨e1,e2⟩:=oV A;exact⟨by show A.reverse.length<=3;rw [Sf];exact h.len,λ a ha=>h.sz a (UB.mp ha),by show 0<=f+aP A.reverse;rw [e1];exact h.lo,by show f+aQ A.reverse < n;rw [e2];exact h.hi⟩
 | 1,_=>
  cases A with
  | nil=>exact absurd (h1 rfl) (by simp)
  | cons a r=>
   have aa:=h.lo;have aS:=h.hi;rw [dg] at aa;rw [dh] at aS;refine⟨by have:=h.len;show r.length<=3;simp at this;omega,λ b hb=>h.sz b (RU _ hb),?_,?_⟩
   ·show 0<=f+a.2 * (a.1 - 1)+aP r
    rw [Te];omega
   ·show f+a.2 * (a.1 - 1)+aQ r < n
    rw [Te];omega
def DC(n:Nat):(List.replicate n [V.int 0]).flatten=(List.replicate n (0:Int)).map V.int:=by
 rw [List.flatten_replicate_singleton,List.map_replicate]
def P6{P:Program}{w:World}{K:W.Frag}{mg:Str->Option Value}{base:Heap}{t:Adr}(T:Tx K mg t):∀ i,i < 2->MD P w K mg base CX0 6 "sizes_of" (mvC t i) (sH t i)
 | 0,_=>⟨T.cl_Turn,_,_,_,T.mt_Turn_sizes_of,fF T 0,T.b_xB⟩
 | 1,_=>⟨T.cl_Pick,_,_,_,T.mt_Pick_sizes_of,fF T 1,T.b_xB⟩
 | n+2,h=>absurd h %[0|8]
abbrev FR(t:Adr)(i:Nat)(m:Addr)(v:Addr)(H:Hp)(Q:VK)(E:XK):Prop:=∃ (n f:Int) (A:%[0|48]),CD t H m i A.length/\aw t.a_ZZ H v n f A/\ir n f A/\1<=n/\n<=60/\∀ (x:Addr) (H':Hp),H x=none->Ext H H'->(∀ S,pQ S H->aw t.a_ZZ (aE S H') x n (CF i f A) (gK i A))->Q (.ref x) H'
def NC(t:Adr)(i:Nat):Sp:=λ vs H Q E=>∃ (m:Addr) (v:Addr),vs=[.ref m,.ref v]/\(FR t i m v H Q E)
def Nw(t:Adr)(i:Nat)(m:Addr)(v:Addr)(H:Hp)(Q:VK)(E:XK):NC t i [.ref m,.ref v] H Q E=(FR t i m v H Q E):=iu (f:=λ (m:Addr) (v:Addr)=>[.ref m,.ref v]) (λ _ _ _ _ h=>by cases h;exact⟨rfl,rfl⟩) m v
def nu(T:Tx K mg t)(i:Nat):%[8,ZK|49] ["self", "view"] (NC t i):=by
 have aa:=P6 (P:=P) (w:=w) (base:=base) T;have a4:=P8 (P:=P) (w:=w) (base:=base) T;have G_BD:=%[fq|44];have G_EA:=%[rL|44];have G_uE:=%[ja|44];have G_xu:=%[bX|44];refine T.F_ZK.ok bR (λ _ _ _ _ h=>iw h λ _ _=>rfl) (λ cdv A' outer s H vs Q E hr h=>?_)
 ·obtain⟨m,v,rfl,n,f,A,mv,vo,pk,n1,hc,k⟩:=h;obtain⟨dx,O,ho,_⟩:=mv.ob;obtain⟨dv,Dv,hv,_⟩:=vo.ob;have aS:=mv.i2;have n8:=mv.n8;have c1:=T.cl_View;have c2:=T.na_View_room;have g1:=vn n f Dv (m := "sizes") nofun;have g2:=vn n f Dv (m := "cell") nofun;have f2:=gq n f Dv;refine⟨_,%[%[2,bR,%[%[1|0],T.cl_View,T.mt_View_sizes,G_BD,(hr.mono ⋯),T.b_BD,.nil,ay,∅|25]|4],%[%[3,bR,%[%[0|0],aa,(hr.mono ⋯),ay,%[%[2|0]|1],∅,∅,∅|42]|4],%[%[4,bR,%[len,aB,%[%[3|0]|1]|6]|4],%[%[5,bR,%[%[1|0],T.cl_View,T.mt_View_cell,G_EA,(hr.mono ⋯),T.b_EA,.nil,ay,%[%[%[0|0],a4,(hr.mono ⋯),ay,%[%[2|0],%[%[ic,∅,T.z_tuple,nofun,%[%[Hv,%[%[%[0|2]|1]|23],%[4|0]|11]|1],⋯,⋯,∅,∅|29]|1]|1],∅,∅,∅|42]|1],∅,∅,∅|20]|4],%[%[6,bR,%[(@b9 _)|23]|4],%[%[R9,rfl,(@zm _ _ _ _ _ _ _ _ ∅ T.z_enumerate %[%[3|0]|1] ∅),(%[(2),rfl,%[%[7,bR|5],%[%[8,bR|5],(@aK _),∅|16],∅|16],∅,∅|26].mono λ _ _ _ _ h=>bP h),%[%[9,bR,%[0|2]|4],%[%[%[wC,%[8|0],%[0|2],(az _)|15],%[%[9,bR,%[fA,%[%[1|0],T.cl_View,T.mt_View_cell,G_EA,(hr.mono ⋯),T.b_EA,.nil,ay,%[%[%[0|0],a4,(hr.mono ⋯),ay,%[%[2|0],%[%[uE,%[%[4|0],%[%[7|0]|1]|1]|3]|1]|1],∅,∅,∅|42]|1],∅,∅,∅|20],%[5|0]|11]|4]|9],(@aA _)|17],%[%[%[R0,Si,Sh,bF,%[6|0],%[%[%[%[8|0],%[%[9|0]|1]|1]|36]|1],∅,∅,∅,∅,∅|33],∅|14]|9]|10]|10],(by intros;rfl)|27],%[%[%[T.mk_View,G_xu,(hr.mono ⋯),∅,T.m_ZZ,T.b_xu,.nil,ay,%[%[%[1|0],rfl|13],%[%[5|0],%[%[6|0]|1]|1]|1],⋯,∅,∅|32]|12]|9]|10]|10]|10]|10]|10]|10],?_⟩;rw [show au ["self", "view", "sizes", "found", "many", "first", "axes", "axis", "size", "pace"] [.ref m,.ref v]=[%[m|45],%[v|45],none,none,none,none,none,none,none,none] from rfl];clear aa a4 G_BD G_EA G_uE G_xu;exists k;exists mv;exists vo;have a3:i=1->1<=A.length:=(mv ()).n1
  have dy:∀ x∈(A.map λ a=>a.1),(1:Int)<=x/\x<=1000000000:=λ x hx=>by
   obtain⟨a,ha,rfl⟩:=RW.mp hx;have:=pk.sz a ha;omega
  exists dy;exists a3;ac_rfl;rw [jA];refine⟨n,f,A,vo (),n8,λ l H1 f7 e1 h1=>?_⟩;have c5:=e1.at ho;have dz:=e1.at hv;clear f7;ac_rfl;refine⟨m,i,dx,_,rfl,aS,c5,(yh aS).2.2.1,?_⟩;ac_rfl;rw [zS];refine⟨_,by rw [RH];exact(mv ()).ext e1,h1,dy (),λ fd H2 hg e2 h2=>?_⟩;rw [gv] at h2;have f9:=e1.trans e2;have l2:=e2.at h1;have c6:=e2.at c5;have dA:=e2.at dz
  have c7:((gK i A).map λ a=>a.1).length<=8:=by
   rw [←gv];have:=vV (i:=i) (ms:=A.map λ a=>a.1);rw [RH] at this;omega
  clear c5 dz h1 ho hv;ac_rfl;refine⟨m,i,dx,_,rfl,aS,c6,(yh aS).2.1,?_⟩;ac_rfl;intro z1 H3 _ e3 h3;have l3:=e3.at l2;have dI:=e3.at c6;have dN:=e3.at dA;have d0:=e3.at h2;clear l2 c6 dA h2;rw [RH] at c7;ac_rfl;refine⟨by omega,by omega,aC %[0|8],?_⟩;rw [Sk,DC];intro z2 H4 _ e4 h4;have l4:=e4.at l3;have d1:=e4.at dI;have d2:=e4.at dN;have d3:=e4.at d0;have repl:(List.replicate (gK i A).length (0:Int)).length<=8:=by rw [Td];exact c7
  clear l3 dI dN d0 h3;ac_rfl;intro z3 H5 _ e5 h5;have l5:=e5.at l4;have d4:=e5.at d1;have d5:=e5.at d2;have d6:=e5.at d3;have d7:=f9.trans (e3.trans (e4.trans e5));clear l4 d1 d2 d3 h4 e3 e4 e5;ac_rfl;rw [zT];refine⟨_,_,by rw [RH];exact(mv ()).ext d7,l5,h5,by rw [gv,Td,RH],λ q6 H6 e6 h6=>?_⟩
  have d8:=Kp (ys:=List.replicate (gK i A).length 0) aS (a3 ()) (λ a ha=>(pk.sz a ha).1) Td (λ j b x hb hx=>by
   rw [TF] at hx;split at hx
   ·cases hx;have c8:b∈gK i A:=Sa hb;have:=(pk.res aS (a3 ())).sz b c8;omega
   ·cases hx)
  have d9:=d7.trans e6;have l6:=e6.at l5;have ea:=e6.at d4;have eb:=e6.at d5;have ec:=e6.at d6;exists d8;clear l5 d4 d5 d6 h5;ac_rfl;rw [vU];refine⟨n,f,A,_,(vo ()).ext d9,pk.ax,h6,d8 (),λ H7 e7=>?_⟩;rw [DX aS (a3 ())];have b1:=d9.trans e7;have l7:=e7.at l6;have ee:=e7.at ea;have c9:=e7.at eb;have de:=e7.at ec;clear l6 ea eb ec h6;ac_rfl;intro AX H8 ej e8 b2;have g6:=b1.free ej;have hh:=b1.trans e8;have el:=e8.at de;have en:∀ b∈gK i A,bu b=b:=λ b hb=>((pk.res aS (a3 ())).sz b hb).2.2;exists en;exists l7;exists ee;exists c9;exists de;ac_rfl;refine vK (xs:=((gK i A).map λ a=>a.1).map V.int) (λ k σ H'=>∃ (zs:List V) (v7 v8 v9:Option V),σ=[%[m|45],%[v|45],%[l|45],%[fd|45],some (.int ((gK i A).length:Int)),some (.int (CF i f A)),%[AX|45],v7,v8,v9]/\Ext H7 H'/\H' AX=some (.lst zs)/\Al (jc H') (axL ((gK i A).take k)) zs) ⟨[],_,_,_,rfl,e8,b2,Al.nil⟩ (λ k σ H' ⟨_,_,_,_,_,e,_⟩=>e.at (de ())) ?_ ?_
  ·clear el b2;rintro k u p _ H9 ep hu ⟨zs,v7,v8,v9,rfl,e9,b3,al⟩ hp a8 et;rw [RN,RN] at hu;obtain⟨y,hy,rfl⟩:=RL.mp hu;obtain⟨b,hb,rfl⟩:=RL.mp hy;have c8:b∈gK i A:=Sa hb;have gb:=en () b c8;have a6:=e9.trans a8;have bp:=a8.at b3;have ew:=a6.at (l7 ());have b8:=a6.at (ee ());have cb:=a6.at (c9 ());have hj:k < (gK i A).length:=(RG.mp hb).1
   have zl:zs.length < sizeLine:=fN (by
    rw [al.1];unfold axL;rw [length_map,length_take];omega)
   have fin:∀ (tp:Addr) (a5:Hp),Ext ep a5->a5 tp=some (.tup [.int b.1,.int b.2])->Ext H7 (upd a5 AX (.lst (zs++[.ref tp])))/\Al (jc (upd a5 AX (.lst (zs++[.ref tp])))) (axL ((gK i A).take (k+1))) (zs++[.ref tp]):=λ tp a5 a7 bS=>by
    refine⟨(a6.trans a7).put ej,?_⟩;have cv:=a8.trans a7;have b4:=cv.at b3;rw [take_add_one,hb];unfold axL;rw [map_append];exact(((al.imp λ _ _ q=>q.ext cv:Al (jc a5) _ zs)).snoc (show jc a5 [b.1,b.2] (.ref tp) from ⟨tp,rfl,bS⟩)).imp λ _ _ q=>q.upd b4
   exists fin;exists al;exists hb;clear hu hy b3
   by_cases hb1:1 < b.1
   ·simp! only [↓bh];refine⟨m,i,dx,_,rfl,aS,b8,(yh aS).2.1,?_⟩;ac_rfl;rw [Cn];refine⟨(gK i A).length,k,rfl,rfl,c7,λ hk ey _ a9 ez=>?_⟩;have eA:=a9.at ew;have cD:=a9.at cb;have cH:=a9.at bp;have cT:=a6.trans a9;clear ew cb bp b8 et;ac_rfl;rw [zT];refine⟨_,_,by rw [RH];exact(mv ()).ext (b1.trans cT),eA,ez,by rw [gv,lF,RH],λ hq ht b5 eB=>?_⟩
    have eH:=Kp (ys:=gB (gK i A).length k) aS (a3 ()) (λ a ha=>(pk.sz a ha).1) (lF _ _) (λ j b' x dj hx=>by
     have fa:=Ao hx;have fu:b'∈gK i A:=Sa dj;have hs:=(pk.res aS (a3 ())).sz b' fu
     by_cases hjk:j=k
     ·rw [RX hjk] at fa;rw [hjk,hb ()] at dj;cases dj;omega
     ·rw [RQ hjk] at fa;omega)
    have op:=HA (f:=f) aS (a3 ()) (hb ());have fw:=b5.at cD;have c0:=b5.at cH;exists eH;clear eA cD cH ez;ac_rfl;rw [vU];refine⟨n,f,A,_,(vo ()).ext (b1.trans (cT.trans b5)),pk.ax,eB,eH (),λ hA fx=>?_⟩;have c3:=fx.at c0;clear fw c0 eB;ac_rfl;intro tp a5 _ a7 bS;obtain⟨w1,w2⟩:=fin () tp a5 (a9.trans (b5.trans (fx.trans a7))) bS;have b4:=a7.at c3;exists w1;exists w2;clear fin c3 op;ac_rfl;exact⟨_,_,_,_,rfl,w1 (),rfl,w2 ()⟩
   ·have fy:b.2=0:=by
     rw [←gb];unfold bu;exact if_neg hb1
    simp! only [↓bh];intro tp a5 _ a7 bS;rw [←fy] at bS;obtain⟨w1,w2⟩:=fin () tp a5 a7 bS;have b4:=a7.at bp;exists w1;exists w2;clear fin bp fy;ac_rfl;exact⟨_,_,_,_,rfl,w1 (),rfl,w2 ()⟩
  ·rintro _ H9 ⟨zs,v7,v8,v9,rfl,e9,b3,al⟩;rw [RH,RH,SO] at al;have hB:=e9.at (c9 ());have pr:=pk.res aS (a3 ())
   have gi:nc n (CF i f A) (gK i A):=by
    obtain⟨gs,g0⟩:=iL (gK i A) λ a ha=>(pr.ax.2 a ha).1;exact⟨pr.ax,n1,by omega,by rw [gs];exact pr.lo,by rw [g0];exact pr.hi⟩
   have fz:=pr.kp;exists fz;exists al;clear el b2;ac_rfl;intro x f3 ep hx hC hD a8 g4 g8;rw [iT];refine⟨f3,gK i A,g4,bf.ext ⟨zs,b3,al ()⟩ a8,gi,λ ey D2 a9 g5 f5 c4=>?_⟩;rw [fz ()] at c4;have dm:=b1.trans e9;have ba:=dm.trans (a9 H9 a8 hx);have f6:=(dm.trans a8).free g5;have k':=k () x ey (dm.free hx) ba λ S hS=>⟨f3,D2,aZ (hS.ext ba) f5 (λ _ h=>by cases h),eV hS ba f6 c4⟩;clear k;ac_rfl
def eK(st D Pp:Addr){m:Str}(h:m∈([("view":Str), "make", "drop", "seen"]:List Str)):(iC st D Pp).lookup m=none:=by
 have n1:¬ m = "past":=by revert m;decide +kernel
 have n2:¬ m = "views":=by revert m;decide +kernel
 have n3:¬ m = "store":=by revert m;decide +kernel
 unfold iC;rw [aj,if_neg n1,aj,if_neg n2,aj,if_neg n3];rfl
abbrev qS(t:Adr)(x:Addr)(a:Int)(b:Int)(H:Hp)(Q:VK)(E:XK):Prop:=∃ dx:Addr,H x=some (.ins t.a_Z2 dx [])/\a=0/\b=-1/\∀ H':Hp,(∀ H0,Ext H0 H->H0 x=none->Ext H0 H')->H' x=some (.ins t.a_Z2 dx pkF)->Q .non H'
def sZ(t:Adr):Sp:=λ vs H Q E=>∃ (x:Addr) (a:Int) (b:Int),vs=[.ref x,.int a,.int b]/\(qS t x a b H Q E)
def Cm(t:Adr)(x:Addr)(a:Int)(b:Int)(H:Hp)(Q:VK)(E:XK):sZ t [.ref x,.int a,.int b] H Q E=(qS t x a b H Q E):=pR (f:=λ (x:Addr) (a:Int) (b:Int)=>[.ref x,.int a,.int b]) (λ _ _ _ _ _ _ h=>by cases h;exact⟨rfl,rfl,rfl⟩) x a b
def kC(T:Tx K mg t):%[1,xC|49] ["self", "axis", "at"] (sZ t):=by
 refine T.F_xC.ok mE (λ _ _ _ _ h=>pO h λ _ _ _=>rfl) %[0|50]
 ·obtain⟨x,_,_,rfl,dx,hx,rfl,rfl,k⟩:=h;have c1:=T.cl_Pick;have c2:=T.na_Pick_axis;have c3:=T.na_Pick_at;refine⟨_,%[%[%[0|0],%[1|0],rfl|28],%[%[%[0|0],%[2|0],rfl|28]|9]|10],?_⟩;rw [show au ["self", "axis", "at"] [.ref x,.int 0,.int (-1)]=[%[x|45],some (.int 0),some (.int (-1))] from rfl];exists k;ac_rfl
  try refine⟨(show 1 < 1000 by decide),?_⟩
  exact k () _ (λ H0 q0 q1=>q0.put q1) ai
abbrev qN(t:Adr)(x:Addr)(p:Addr)(H:Hp)(Q:VK)(E:XK):Prop:=∃ (dx:Addr) (ns:List Int),H x=some (.ins t.a_Z3 dx [])/\H p=%[ns|46]/\ns.length<=8/\∀ (H':Hp) (O:Addr),(∀ H0,Ext H0 H->H0 x=none->Ext H0 H')->H O=none->H' x=some (.ins t.a_Z3 dx (trF O))->H' O=%[ns|46]->Q .non H'
def sS(t:Adr):Sp:=λ vs H Q E=>∃ (x:Addr) (p:Addr),vs=[.ref x,.ref p]/\(qN t x p H Q E)
def Cf(t:Adr)(x:Addr)(p:Addr)(H:Hp)(Q:VK)(E:XK):sS t [.ref x,.ref p] H Q E=(qN t x p H Q E):=iu (f:=λ (x:Addr) (p:Addr)=>[.ref x,.ref p]) (λ _ _ _ _ h=>by cases h;exact⟨rfl,rfl⟩) x p
def kz(T:Tx K mg t):%[1,xD|49] ["self", "order"] (sS t):=by
 refine T.F_xD.ok mB (λ _ _ _ _ h=>iw h λ _ _=>rfl) %[0|50]
 ·obtain⟨x,p,rfl,dx,ns,hx,hp,hl,k⟩:=h;have c1:=T.cl_Turn;have c2:=T.na_Turn_order;refine⟨_,%[%[%[0|0],%[bB,∅,T.z_list,nofun,%[%[1|0]|1],⋯,⋯,∅,∅|29],rfl|28]|9],?_⟩;rw [show au ["self", "order"] [.ref x,.ref p]=[%[x|45],%[p|45]] from rfl];exists k;ac_rfl;intro O H1 hO e1 aa;have a3:=e1.at hx;have aS:O ≠ x:=λ z=>by rw [z,hx] at hO;cases hO
  ac_rfl;exact k () _ O (λ H0 q0 q1=>(q0.trans e1).put q1) hO ai (by rw [ah aS];exact aa)
abbrev qZ(t:Adr)(h:Addr)(x:Str)(H:Hp)(Q:VK)(E:XK):Prop:=∃ (st l D Pp:Addr) (vals:List Int) (nv:List NVw) (ps:List V) (p:NVw),cU t H h st l D Pp vals nv ps/\sE nv/\p∈nv/\p.nm=x/\iF x/\∀ H',Ext H H'->Q (.ref p.ad) H'
def tG(t:Adr):Sp:=λ vs H Q E=>∃ (h:Addr) (x:Str),vs=[.ref h,.str x]/\(qZ t h x H Q E)
def lV(t:Adr)(h:Addr)(x:Str)(H:Hp)(Q:VK)(E:XK):tG t [.ref h,.str x] H Q E=(qZ t h x H Q E):=iu (f:=λ (h:Addr) (x:Str)=>[.ref h,.str x]) (λ _ _ _ _ h=>by cases h;exact⟨rfl,rfl⟩) h x
def gf(T:Tx K mg t):%[2,EF|49] ["self", "name"] (tG t):=by
 have G_ZI:=%[nr|44];refine T.F_EF.ok uS (λ _ _ _ _ h=>iw h λ _ _=>rfl) %[0|50]
 ·obtain⟨h,x,rfl,st,l,D,Pp,vals,nv,ps,p,ha,aS,hp,rfl,hn,k⟩:=h;have c1:=T.cl_Hall;have c2:=T.na_Hall_views;have f1:=cw st D Pp;have aa:=tY aS hp;refine⟨_,%[%[(PW.pt %[%[%[%[ZI,%[%[1|0]|1]|3],(by intros;rfl)|31]|30],(@gD _ _ _ _ %[(AB (k7 hr.units)),%[1|0],%[%[0|0],rfl|13],(by with_unfolding_all rfl)|15])|37]),%[(@bV _ _)|9],(@aA _)|17],%[%[(@zq _ _ _ _ _ _ (k7 hr.units) %[%[0|0],rfl|13] %[1|0] (λ _ _=>rfl))|12]|9]|10],?_⟩;rw [show au ["self", "name"] [.ref h,.str p.nm]=[%[h|45],some (.str p.nm)] from rfl];clear G_ZI;exists k;ac_rfl;rw [vQ];refine⟨hn,λ H1 e1=>?_⟩;obtain⟨⟨dx,h1⟩,_,h3,_⟩:=ha.ext e1;ac_rfl;refine yt (neg:=true) (k:=Sum.inr p.nm) h3 ?_;rw [aa];ac_rfl;refine K1 (k:=Sum.inr p.nm) h3 aa ?_;have k2:=k () H1 e1;clear k;ac_rfl
abbrev rg(t:Adr)(h:Addr)(x:Str)(H:Hp)(Q:VK)(E:XK):Prop:=∃ (st l D Pp:Addr) (vals:List Int) (nv:List NVw) (ps:List V) (p:NVw),cU t H h st l D Pp vals nv ps/\sE nv/\p∈nv/\p.nm=x/\iF x/\iD t.a_ZZ H vals.length nv/\∀ (r:Addr) (H':Hp),H r=none->Ext H H'->H' r=some (.lst ((bc vals (af p.f p.A)).map V.int))->Q (.ref r) H'
def tH(t:Adr):Sp:=λ vs H Q E=>∃ (h:Addr) (x:Str),vs=[.ref h,.str x]/\(rg t h x H Q E)
def Cr(t:Adr)(h:Addr)(x:Str)(H:Hp)(Q:VK)(E:XK):tH t [.ref h,.str x] H Q E=(rg t h x H Q E):=iu (f:=λ (h:Addr) (x:Str)=>[.ref h,.str x]) (λ _ _ _ _ h=>by cases h;exact⟨rfl,rfl⟩) h x
def rO(T:Tx K mg t):%[6,EG|49] ["self", "name"] (tH t):=by
 have G_EF:=%[gf|44];have G_BI:=%[cZ|44];refine T.F_EG.ok uT (λ _ _ _ _ h=>iw h λ _ _=>rfl) %[0|50]
 ·obtain⟨h,x,rfl,st,l,D,Pp,vals,nv,ps,p,ha,aS,hp,a3,hn,aa,k⟩:=h;have c1:=T.cl_Hall;have c2:=T.na_Hall_store;have c3:=T.cl_Store;have f1:=cx st D Pp;have f3:=eK st D Pp (m := "view") nofun;have m1:=aG l (m := "read") nofun;obtain⟨dx,h1⟩:=ha.ob;obtain⟨a8,hs⟩:=ha.so.ob;refine⟨_,%[%[%[%[%[0|0],rfl|13],T.cl_Store,T.mt_Store_read,G_BI,(hr.mono ⋯),T.b_BI,.nil,ay,%[%[%[0|0],T.cl_Hall,T.mt_Hall_view,G_EF,(hr.mono ⋯),T.b_EF,.nil,ay,%[%[1|0]|1],∅,∅,∅|20]|1],∅,∅,∅|20]|12]|9],?_⟩;rw [show au ["self", "name"] [.ref h,.str x]=[%[h|45],some (.str x)] from rfl];clear G_EF G_BI;exists k;exists ha;exists aa;ac_rfl;rw [lV];refine⟨st,l,D,Pp,vals,nv,ps,p,ha (),aS,hp,a3,hn,λ H1 e1=>?_⟩;obtain⟨vo,a4,a5,a6⟩:=aa () p hp;have a9:=e1.at hs;clear h1 hs;ac_rfl;rw [gp];refine⟨l,vals,_,p.f,p.A,((ha ()).ext e1).so,vo.ext e1,a4,rfl,a5,a6,λ r H2 a7 e2 h2=>?_⟩;have k2:=k () r H2 (e1.free a7) (e1.trans e2) h2;clear k;ac_rfl
def E7(nv:List NVw)(x:Str):pW (nvD nv) (Sum.inr x)=nvD (nv.filter λ q=>decide (q.nm ≠ x)):=by
 unfold pW nvD;rw [List.filter_map];congr 1;apply List.filter_congr;intro q _
 show decide (Sum.inr q.nm ≠ (Sum.inr x:Key))=decide (q.nm ≠ x)
 exact UA.mpr ⟨λ h e=>h (by rw [e]),λ h e=>h (Uw e)⟩
abbrev rk(t:Adr)(h:Addr)(x:Str)(H:Hp)(Q:VK)(E:XK):Prop:=∃ (st l D Pp:Addr) (vals:List Int) (nv:List NVw) (ps:List V) (p:NVw),cU t H h st l D Pp vals nv ps/\sE nv/\p∈nv/\p.nm=x/\iF x/\∀ H',(∀ H0,Ext H0 H->H0 D=none->Ext H0 H')->(∀ b o,b ≠ D->H b=some o->H' b=some o)->H' D=some (.dK (nvD (nv.filter λ q=>decide (q.nm ≠ x))))->Q .non H'
def tJ(t:Adr):Sp:=λ vs H Q E=>∃ (h:Addr) (x:Str),vs=[.ref h,.str x]/\(rk t h x H Q E)
def Cs(t:Adr)(h:Addr)(x:Str)(H:Hp)(Q:VK)(E:XK):tJ t [.ref h,.str x] H Q E=(rk t h x H Q E):=iu (f:=λ (h:Addr) (x:Str)=>[.ref h,.str x]) (λ _ _ _ _ h=>by cases h;exact⟨rfl,rfl⟩) h x
def rP(T:Tx K mg t):%[3,EE|49] ["self", "name"] (tJ t):=by
 have G_EF:=%[gf|44];refine T.F_EE.ok uV (λ _ _ _ _ h=>iw h λ _ _=>rfl) %[0|50]
 ·obtain⟨h,x,rfl,st,l,D,Pp,vals,nv,ps,p,ha,aS,hp,a3,hn,k⟩:=h;have c1:=T.cl_Hall;have c2:=T.na_Hall_views;have f1:=cw st D Pp;have f3:=eK st D Pp (m := "view") nofun;have aa:=tY aS hp;rw [a3] at aa;obtain⟨dx,h1⟩:=ha.ob;refine⟨_,%[%[%[%[0|0],T.cl_Hall,T.mt_Hall_view,G_EF,(hr.mono ⋯),T.b_EF,.nil,ay,%[%[1|0]|1],∅,∅,∅|20],∅|14],%[%[%[PySem.F.plainAttrs_dict,PySem.F.slot_dict_pop,PySem.F.type_dict_pop,HC,%[%[0|0],rfl|13],%[%[1|0]|1],∅,∅,∅,∅,∅|33],∅|14]|9]|10],?_⟩;rw [show au ["self", "name"] [.ref h,.str x]=[%[h|45],some (.str x)] from rfl];clear G_EF;exists k;exists ha;ac_rfl;rw [lV];refine⟨st,l,D,Pp,vals,nv,ps,p,ha (),aS,hp,a3,hn,λ H1 e1=>?_⟩;have a6:=e1.at h1;have a4:=e1.at (ha ()).dk;clear h1;ac_rfl;refine⟨.inr (.inr (.inl ⟨rfl,.inl ⟨_,a4⟩⟩)),Dn (k:=Sum.inr x) a4 aa ?_⟩;rw [E7];have k2:=k () _ (λ H0 q0 q1=>(q0.trans e1).put q1) (λ b o hb a5=>by rw [ah hb];exact e1.at a5) ai;clear k;ac_rfl
def Rt{P:Program}{w:World}{K:W.Frag}{mg:Str->Option Value}{base:Heap}{t:Adr}(T:Tx K mg t):∀ i,i < 2->MD P w K mg base CX0 8 "on" (mvC t i) (NC t i)
 | 0,_=>⟨T.cl_Turn,_,_,_,T.mt_Turn_on,nu T 0,T.b_ZK⟩
 | 1,_=>⟨T.cl_Pick,_,_,_,T.mt_Pick_on,nu T 1,T.b_ZK⟩
 | n+2,h=>absurd h %[0|8]
abbrev rh(t:Adr)(i:Nat)(h:Addr)(x:Str)(y:Str)(m:Addr)(H:Hp)(Q:VK)(E:XK):Prop:=∃ (st l D Pp:Addr) (vals:List Int) (nv:List NVw) (ps:List V) (p:NVw),cU t H h st l D Pp vals nv ps/\sE nv/\iF x/\(∀ q∈nv,q.nm ≠ x)/\p∈nv/\p.nm=y/\iF y/\nv.length<=99/\1<=vals.length/\vals.length<=60/\CD t H m i p.A.length/\aw t.a_ZZ H p.ad vals.length p.f p.A/\ir vals.length p.f p.A/\∀ (v:Addr) (H1 H':Hp),H v=none->Ext H H1->(∀ S,pQ S H->aw t.a_ZZ (aE S H1) v vals.length (CF i p.f p.A) (gK i p.A))->(∀ H0,Ext H0 H1->H0 D=none->Ext H0 H')->(∀ b o,b ≠ D->H1 b=some o->H' b=some o)->H' D=some (.dK (nvD (nv++[⟨x,v,CF i p.f p.A,gK i p.A⟩])))->Q .non H'
def lu(t:Adr)(i:Nat):Sp:=λ vs H Q E=>∃ (h:Addr) (x:Str) (y:Str) (m:Addr),vs=[.ref h,.str x,.str y,.ref m]/\(rh t i h x y m H Q E)
def qD(t:Adr)(i:Nat)(h:Addr)(x:Str)(y:Str)(m:Addr)(H:Hp)(Q:VK)(E:XK):lu t i [.ref h,.str x,.str y,.ref m] H Q E=(rh t i h x y m H Q E):=NZ (f:=λ (h:Addr) (x:Str) (y:Str) (m:Addr)=>[.ref h,.str x,.str y,.ref m]) (λ _ _ _ _ _ _ _ _ h=>by cases h;exact⟨rfl,rfl,rfl,rfl⟩) h x y m
def j8(T:Tx K mg t)(i:Nat):%[10,ED|49] ["self", "name", "of", "move"] (lu t i):=by
 have G_t4:=%[ef|44];have G_EF:=%[gf|44];have G_EC:=%[j9|44];have aa:=Rt (P:=P) (w:=w) (base:=base) T;refine T.F_ED.ok uU (λ _ _ _ _ h=>N2 h λ _ _ _ _=>rfl) %[0|50]
 ·obtain⟨h,x,y,m,rfl,st,l,D,Pp,vals,nv,ps,p,ha,a9,hn,a3,hp,ba,bp,hl,v1,b2,mv,vo,pk,k⟩:=h;have c1:=T.cl_Hall;have f3:=eK st D Pp (m := "view") nofun;have f4:=bK st D Pp (m := "refuse_new") nofun;have f5:=bK st D Pp (m := "call") nofun;obtain⟨dx,h1⟩:=ha.ob;obtain⟨dm,O,ho,_⟩:=mv.ob;have a4:=mv.i2;refine⟨_,%[%[%[%[0|0],T.cl_Hall,T.mt_Hall_refuse_new,G_t4,(hr.mono ⋯),T.b_t4,.nil,ay,%[%[1|0]|1],∅,∅,∅|20],∅|14],%[%[%[%[0|0],T.cl_Hall,T.mt_Hall_call,G_EC,(hr.mono ⋯),T.b_EC,.nil,ay,%[%[1|0],%[%[%[3|0],aa,(hr.mono ⋯),ay,%[%[%[0|0],T.cl_Hall,T.mt_Hall_view,G_EF,(hr.mono ⋯),T.b_EF,.nil,ay,%[%[2|0]|1],∅,∅,∅|20]|1],∅,∅,∅|42]|1]|1],∅,∅,∅|20],∅|14]|9]|10],?_⟩;rw [show au ["self", "name", "of", "move"] [.ref h,.str x,.str y,.ref m]=[%[h|45],some (.str x),some (.str y),%[m|45]] from rfl];clear G_t4 G_EF G_EC aa;exists k;exists ha;exists mv;exists vo;exists a3;ac_rfl;rw [vS];refine⟨st,l,D,Pp,vals,nv,ps,ha (),hn,a3 (),λ H1 e1=>?_⟩;have a7:=e1.at h1;have a5:=e1.at ho;clear h1 ho;ac_rfl;refine⟨m,i,dm,_,rfl,a4,a5,(yh a4).2.2.2,?_⟩;ac_rfl;rw [lV];refine⟨st,l,D,Pp,vals,nv,ps,p,(ha ()).ext e1,a9,hp,ba,bp,λ H2 e2=>?_⟩;have aS:=e1.trans e2;have h2:=e2.at a7;have bS:=e2.at a5;clear a7 a5;ac_rfl;rw [Nw];refine⟨_,p.f,p.A,(mv ()).ext aS,(vo ()).ext aS,pk,by omega,by omega,λ v H3 hv e3 vx=>?_⟩;have a8:=aS.trans e3;have h3:=e3.at h2;have pr:=pk.res a4 (mv ()).n1;have b3:=pr.pr;have a6:=vx [] (λ s hs=>by cases hs);replace a6:=λ (_:Unit)=>a6.ext (ar [] H3);exists vx;clear h2 bS;ac_rfl;rw [qF];refine⟨st,l,D,Pp,vals,nv,ps,_,_,(ha ()).ext a8,hn,a3 (),by omega,a6 (),pr.ax,by omega,λ H4 q1 q2 b1=>?_⟩;have k2:=k () v H3 H4 (aS.free hv) a8 (λ S hS=>vx () S (hS.ext aS)) q1 q2 b1;clear k;ac_rfl
def NmV(n:Int)(p:NVw)(y:V)(H:Hp):Prop:=∃ q qp,y=.ref q/\H q=some (.tup [.str p.nm,.ref qp])/\x9 H qp n p.f p.A
def NmV.ext{n:Int}{p:NVw}{y:V}{H H':Hp}(h:NmV n p y H)(e:Ext H H'):NmV n p y H':=by
 obtain⟨q,qp,h1,h2,h3⟩:=h;exact⟨q,qp,h1,e.at h2,h3.ext e⟩
def Dc(n:Int)(nv:List NVw):Prop:=∀ p∈nv,ir n p.f p.A
def DD{vals bN:List Int}{p:NVw}:decide (bc vals (af p.f p.A)=bc bN (af p.f p.A)) = !mJ bN vals p:=by
 unfold mJ bc
 have aux:∀ cs:List Int,decide (cs.map (λ c=>vals.getD c.toNat 0)=cs.map λ c=>bN.getD c.toNat 0) = !(cs.any λ c=>decide (bN.getD c.toNat 0 ≠ vals.getD c.toNat 0)):=by
  intro cs
  induction cs with
  | nil=>rfl
  | cons c r ih=>
   rw [Sm,Sm,UP,Bool.not_or,←ih]
   by_cases hc:vals.getD c.toNat 0=bN.getD c.toNat 0
   ·rw [hc];simp
   ·have h2:¬ (bN.getD c.toNat 0=vals.getD c.toNat 0):=λ e=>hc e.symm;simp only [UN,hc,h2,ne_eq,TV,decide_true,Bool.not_true,Uo,false_and,decide_false]
 exact aux _
abbrev Ad  (L:Addr) (p:Addr) (b:Addr) (H:Hp) (Q:VK) (E:XK):Prop:=∃ (vals bN:List Int) (nv:List NVw) (ys:List V) (n:Int),H L=some (.lst ys)/\Al (λ p y=>NmV n p y H) nv ys/\H p=%[vals|46]/\H b=%[bN|46]/\n=vals.length/\bN.length=vals.length/\n<=60/\nv.length<=100/\Dc n nv/\∀ (r:Addr) (H':Hp),H r=none->Ext H H'->H' r=some (.lst (yb bN vals nv))->Q (.ref r) H'
def Gd  : Sp:=λ vs H Q E=>∃ (L:Addr) (p:Addr) (b:Addr),vs=[.ref L,.ref p,.ref b]/\(Ad  L p b H Q E)
def ud  (L:Addr) (p:Addr) (b:Addr) (H:Hp) (Q:VK) (E:XK):Gd  [.ref L,.ref p,.ref b] H Q E=(Ad  L p b H Q E):=pR (f:=λ (L:Addr) (p:Addr) (b:Addr)=>[.ref L,.ref p,.ref b]) (λ _ _ _ _ _ _ h=>by cases h;exact⟨rfl,rfl,rfl⟩) L p b
def gH(T:Tx K mg t):%[3,BB|49] ["_law_names", "_law_before", "_law_behind"] Gd:=by
 have G_IZ:=%[gc|44];refine T.F_BB.ok pK (λ _ _ _ _ h=>pO h λ _ _ _=>rfl) (λ cdv A' outer s0 H vs Q E hr h=>?_)
 ·obtain⟨L,p,b,rfl,vals,bN,nv,ys,n,hL,al,hp,hb,hn,a7,ba,n100,aS,k⟩:=h;refine⟨_,%[%[%[(["_law_name", "_law_parts_here", "_law_names", "_law_before", "_law_behind"]),(2),(aI (ae cW) ["_law_names", "_law_before", "_law_behind"] rfl rfl nofun),rfl,%[%[0|0]|21],(λ _ _ _ _ _=>(%[(2),rfl,%[%[(0),_,(show List.Nodup (["_law_name", "_law_parts_here", "_law_names", "_law_before", "_law_behind"]:List Str) from by decide +kernel),rfl,(Or.inl rfl),%[0|7]|19],%[%[(1),_,(show List.Nodup (["_law_name", "_law_parts_here", "_law_names", "_law_before", "_law_behind"]:List Str) from by decide +kernel),rfl,(Or.inl rfl),%[0|7]|19],(@aK _),∅|16],∅|16],∅,∅|26].mono λ _ _ _ _ h=>bP h)),(λ _ _ _ _ _=>(@tU _ _ _ %[(dG hr.units),%[IZ,%[%[3|0],%[%[1|0]|1]|1]|3],%[IZ,%[%[4|0],%[%[1|0]|1]|1]|3],(az _)|15])),(λ _ _ _ _ _=>%[0|0]),(by intros;rfl)|22]|12]|9],?_⟩;rw [show au ["_law_names", "_law_before", "_law_behind"] [.ref L,.ref p,.ref b]=[%[L|45],%[p|45],%[b|45]] from rfl];clear G_IZ;exists k;exists aS;exists hn;ac_rfl;have wk:=kr (K:=K) (R:=NmV n) (λ _ _ _ _ h e=>h.ext e) hL al;refine aL nv (mJ bN vals) (λ p=>.str p.nm) (NmV n) wk.1 wk.2 (aC %[0|8]) ?_ ?_
  ·intro D pv x H' N1 N0 a3 hD e ⟨q,qp,hx,hq,aa⟩ k1 k0;subst hx;have pk:=aS () pv a3;have a4:=e.at hp;have a5:=e.at hb;exists aa;exists k1;exists k0;clear k a3 hL al wk hp hb;simp! only [↓ek,↓aM];rw [fQ];refine⟨vals,n,pv.f,pv.A,a4,aa (),pk,hn (),λ r1 H1 bp e1 h1=>?_⟩;have a6:=e1.at a5;clear a4 a5 hq;ac_rfl;rw [fQ];refine⟨bN,n,pv.f,pv.A,a6,(aa ()).ext e1,pk,by rw [a7];exact hn (),λ r2 H2 bS e2 h2=>?_⟩;have a9:=e2.at h1;have eq:=di (bc vals (af pv.f pv.A)) (bc bN (af pv.f pv.A));rw [DD] at eq;clear h1 a6
   cases hc:mJ bN vals pv with
   | true=>
    rw [hc] at eq;have b1:N1 (.str pv.nm) H2:=k1 () hc H2 (e1.trans e2);clear k1 k0 hc;ac_rfl
   | false=>
    rw [hc] at eq;have b2:=k0 () hc H2 (e1.trans e2);clear k1 k0 hc;ac_rfl
  intro D H1 hD e1 a8;exact k () D H1 hD e1 a8
def JX(ns:List Str):Prop:=∀ x∈ns,PyData.strOk x=true
def cI(H:Hp)(f:V->Option PyData):∀ ns:List Str,JX ns->aU ((ns.map V.str).map (bY H f))=some (ns.map PyData.str)
 | [],_=>rfl
 | n::ns,h=>by
  have ih:=cI H f ns λ x hx=>h x (RU _ hx)
  have hn:bY H f (V.str n)=some (PyData.str n):=by
   show (if PyData.strOk n=true then some (PyData.str n) else none)=_
   rw [RX (h n R5)]
  rw [Sm,Sm,hn]
  show (aU ((ns.map V.str).map (bY H f))).map _=_
  rw [ih];rfl
def iI:∀ bs:List Str,PyData.eqvAll (bs.map PyData.str) (bs.map PyData.str)=true
 | []=>by simp only [Va,PyData.eqvAll]
 | b::r=>by
  simp only [Sm,PyData.eqvAll];rw [iI r];simp [PyData.eqv]
abbrev qY(t:Adr)(h:Addr)(H:Hp)(Q:VK)(E:XK):Prop:=∃ (B:Hp) (st l D Pp:Addr) (vals:List Int) (nv:List NVw) (ps:List V),jh t B h st l D Pp nv/\Ext B H/\H l=%[vals|46]/\H Pp=some (.lst ps)/\ps.length<=1000/\1<=vals.length/\vals.length<=4096/\iD t.a_ZZ B vals.length nv/\((ps=[]/\∀ H',Ext H H'->Q .non H')\/GG t B H l Pp vals nv ps Q)
def tF(t:Adr):Sp:=λ vs H Q E=>∃ (h:Addr),vs=[.ref h]/\(qY t h H Q E)
def iU(t:Adr)(h:Addr)(H:Hp)(Q:VK)(E:XK):tF t [.ref h] H Q E=(qY t h H Q E):=jM (f:=λ (h:Addr)=>[.ref h]) (λ _ _ h=>by cases h;exact rfl) h
def gd(T:Tx K mg t):%[11,Jb|49] ["_law_hall"] (tF t):=by
 have G_EH:=%[i6|44];refine T.F_Jb.ok il (λ _ _ _ _ h=>jN h λ _=>rfl) (λ cdv A' outer s0 H vs Q E hr h=>?_)
 ·obtain⟨h,rfl,B,st,l,D,Pp,vals,nv,ps,hb,eB,hl,hP,a7,a8,a9,aa,hq⟩:=h;have b1:=T.x_NoDeed_NoDeed;have c1:=T.cl_Hall;obtain⟨b2,hh⟩:=hb.ob;have aS:=eB.at hh;have b3:=bK st D Pp (m := "back") nofun;refine⟨_,%[%[1,il,(@p9 _ _ _)|4],%[(@Le _ _ _ _ _ _ _ ⟨rfl,rfl,rfl⟩ (λ EX E pn hx=>%[%[1,il,(@wU _ _ _ _ _ _ _ _ _ _ _ _ _ _ _ _ _ %[0|0] T.cl_Hall T.mt_Hall_back G_EH (hr.mono ⋯) T.b_EH .nil hx ∅)|4]|9]) (@DN _ _ _ _ _ _ _ _ _ _ ∅ (.inl T.m_ZT) (λ ee=>%[%[(@p9 _ _ _)|12]|9]) (@Hh _) ⋯)),%[%[%[1|0]|12]|9]|10]|10],?_⟩;rw [show au ["_law_hall", "_law_found"] [.ref h]=[%[h|45],none] from rfl];clear G_EH;exists hq;exists aa;ac_rfl;rw [Ct];refine⟨B,st,l,D,Pp,vals,nv,ps,hb,eB,hl,hP,a7,a8,a9,aa (),?_⟩
  rcases hq () with ⟨rfl,te⟩|⟨ba,q,ws,rfl,bp,bS,k⟩
  ·refine .inl ⟨rfl,λ H1 e1=>?_⟩;have k2:=te H1 e1;clear hb eB hl hP hh aS hq aa te;ac_rfl
  ·refine .inr ⟨ba,q,ws,rfl,bp,bS,λ r H1 a1 a2 a3 a4 a5 a6=>?_⟩;have kf:=k r H1 a1 a2 a3 a4 a5 a6;clear k hb eB hl hP hh aS hq aa a1 a2 a3 a4 a5 a6;ac_rfl
abbrev nR(t:Adr)(h:Addr)(H:Hp)(Q:VK)(E:XK):Prop:=∃ (st l D Pp:Addr) (vals:List Int) (nv:List NVw) (ps:List V),cU t H h st l D Pp vals nv ps/\nv.length<=100/\∀ (r:Addr) (H':Hp),H r=none->Ext H H'->H' r=some (.lst ((nv.map NVw.nm).map V.str))->Q (.ref r) H'
def oF(t:Adr):Sp:=λ vs H Q E=>∃ (h:Addr),vs=[.ref h]/\(nR t h H Q E)
def xR(t:Adr)(h:Addr)(H:Hp)(Q:VK)(E:XK):oF t [.ref h] H Q E=(nR t h H Q E):=jM (f:=λ (h:Addr)=>[.ref h]) (λ _ _ h=>by cases h;exact rfl) h
def D3(nv:List NVw):(nvD nv).map (λ z=>kV z.1)=(nv.map NVw.nm).map V.str:=by
 unfold nvD;rw [map_map,map_map];rfl
def pq(T:Tx K mg t):%[1,BK|49] ["self"] (oF t):=by
 refine T.F_BK.ok sC (λ _ _ _ _ h=>jN h λ _=>rfl) %[0|50]
 ·obtain⟨h,rfl,st,l,D,Pp,vals,nv,ps,ha,hl,k⟩:=h;have c1:=T.cl_Hall;have c2:=T.na_Hall_views;have f1:=cw st D Pp;obtain⟨⟨dx,h1⟩,_,h3,_⟩:=ha;refine⟨_,%[%[%[(uK rfl),∅,T.z_list,nofun,%[%[%[0|0],rfl|13]|1],⋯,⋯,∅,∅|29]|12]|9],?_⟩;rw [show au ["self"] [.ref h]=[%[h|45]] from rfl];exists k;ac_rfl;refine Am h3 (aC (by unfold nvD;rw [length_map];omega)) ?_;rw [D3];clear h3;intro r H1 aa e1 hr;exact k () r H1 aa e1 hr
structure eI(x:Str):Prop where
 nm:iF x
 st:PyData.strOk x=true
def xH:∀ x∈([("a":Str), "aa", "ab", "b", "ba", "c", "abc", "abcdefgh"]:List Str),eI x:=by
 intro x hx;simp only [RZ,RS,Sb] at hx
 rcases hx with rfl|rfl|rfl|rfl|rfl|rfl|rfl|rfl<;>exact⟨⟨by decide +kernel,by decide +kernel,by decide +kernel,by decide +kernel⟩,by decide +kernel⟩
def Nr:∀ k:Nat,k < 8->eI (JR (Str.ofString "z") (1+(k:Int)))
 | 0,_=>⟨⟨by decide +kernel,by decide +kernel,by decide +kernel,by decide +kernel⟩,by decide +kernel⟩
 | 1,_=>⟨⟨by decide +kernel,by decide +kernel,by decide +kernel,by decide +kernel⟩,by decide +kernel⟩
 | 2,_=>⟨⟨by decide +kernel,by decide +kernel,by decide +kernel,by decide +kernel⟩,by decide +kernel⟩
 | 3,_=>⟨⟨by decide +kernel,by decide +kernel,by decide +kernel,by decide +kernel⟩,by decide +kernel⟩
 | 4,_=>⟨⟨by decide +kernel,by decide +kernel,by decide +kernel,by decide +kernel⟩,by decide +kernel⟩
 | 5,_=>⟨⟨by decide +kernel,by decide +kernel,by decide +kernel,by decide +kernel⟩,by decide +kernel⟩
 | 6,_=>⟨⟨by decide +kernel,by decide +kernel,by decide +kernel,by decide +kernel⟩,by decide +kernel⟩
 | 7,_=>⟨⟨by decide +kernel,by decide +kernel,by decide +kernel,by decide +kernel⟩,by decide +kernel⟩
 | n+8,h=>absurd h %[0|8]
def lR(xs:List Str):(xs.map V.str).all gC=true:=by
 rw [Ur];intro v hv;obtain⟨x,_,rfl⟩:=RW.mp hv;rfl
abbrev wu  (L:Addr) (c:Int) (H:Hp) (Q:VK) (E:XK):Prop:=∃ (nv:List NVw) (ys:List V) (n:Int),H L=some (.lst ys)/\Al (λ p y=>NmV n p y H) nv ys/\nv.length<=100/\∀ (x:Str) (H':Hp),Ext H H'->eI x->Q (.str x) H'
def yH  : Sp:=λ vs H Q E=>∃ (L:Addr) (c:Int),vs=[.ref L,.int c]/\(wu  L c H Q E)
def vT  (L:Addr) (c:Int) (H:Hp) (Q:VK) (E:XK):yH  [.ref L,.int c] H Q E=(wu  L c H Q E):=iu (f:=λ (L:Addr) (c:Int)=>[.ref L,.int c]) (λ _ _ _ _ h=>by cases h;exact⟨rfl,rfl⟩) L c
def j7(T:Tx K mg t):%[1,Jc|49] ["_law_names", "_law_cell"] yH:=by
 refine T.F_Jc.ok ik (λ _ _ _ _ h=>iw h λ _ _=>rfl) (λ cdv A' outer s0 H vs Q E hr h=>?_)
 ·obtain⟨L,c,rfl,nv,ys,n,hL,al,cv,k⟩:=h;refine⟨_,%[(@jR _ _ (2) _ _ _ _ ik.nd rfl (Or.inr rfl) %[(["_law_row", "_law_names", "_law_cell", "_law_had", "_law_some"]),(1),(aI (ae dc) ["_law_names", "_law_cell", "_law_had", "_law_some"] rfl rfl nofun),rfl,%[%[0|0]|21],(λ _ _ _ _ _=>%[(0),_,(show List.Nodup (["_law_row", "_law_names", "_law_cell", "_law_had", "_law_some"]:List Str) from by decide +kernel),rfl,(Or.inl rfl),%[0|7]|19]),(λ _ _ _ _ _=>(@aN _)),(λ _ _ _ _ _=>%[eS,%[0|0],%[0|2],(λ _ _=>rfl)|18]),(by intros;rfl)|22] ∅ %[0|7]),%[(@zj _ _ _ _ _ _ _ _ _ _ _ _ _ (["_law_word", "_law_names", "_law_cell", "_law_had", "_law_some"]) (1) (3) _ ik.nd rfl (Or.inl rfl) (aI (ae dc) ["_law_names", "_law_cell", "_law_had", "_law_some"] rfl rfl nofun) rfl %[%[%[(@br _ _ _ _),%[(@br _ _ _ _),%[(@br _ _ _ _),%[(@br _ _ _ _),%[(@br _ _ _ _),%[(@br _ _ _ _),%[(@br _ _ _ _),%[(@br _ _ _ _)|1]|1]|1]|1]|1]|1]|1]|1]|23]|21] (λ _ _ _ _ _=>%[(0),_,(show List.Nodup (["_law_word", "_law_names", "_law_cell", "_law_had", "_law_some"]:List Str) from by decide +kernel),rfl,(Or.inl rfl),%[0|7]|19]) (λ _ _ _ _ _=>(@tU _ _ _ %[qq,%[0|0],%[3|0],(by with_unfolding_all rfl)|15])) (λ _ _ _ _ _=>%[0|0]) ∅ (by intros;rfl) %[0|7]),%[%[%[eS,%[tX,%[3|0],%[%[%[DV,(@br _ _ _ _),%[bM,%[0|2],%[bE,%[len,aB,%[%[0|0]|1]|6],%[0|2]|11]|11]|11]|1]|23]|11],%[bE,%[1|0],%[max,(iR rfl),%[%[0|2],%[%[len,aB,%[%[3|0]|1]|6]|1]|1]|6]|11],(λ _ _=>rfl)|18]|12]|9]|10]|10],?_⟩;rw [show au ["_law_names", "_law_cell", "_law_had", "_law_some"] [.ref L,.int c]=[%[L|45],%[c|47],none,none] from rfl];exists k;have bS:ys.length=nv.length:=al.1;ac_rfl;have wk:=kr (K:=K) (R:=NmV n) (λ _ _ _ _ h e=>h.ext e) hL al;refine aL nv (λ _=>true) (λ p=>.str p.nm) (NmV n) wk.1 wk.2 (aC %[0|8]) ?_ ?_
  ·intro D' pv x H' N1 N0 c0 hD e ⟨q,qp,hx,hq,b5⟩ k1 _;subst hx;have b8:N1 (.str pv.nm) H':=k1 rfl H' (Ext.refl _);clear k1 b5 wk al hL k bS;simp! only [↓aO,↓aM]
  intro Hd H1 c1 e1 a6;have a7:H1 Hd=some (.lst ((nv.map NVw.nm).map V.str)):=by rw [a6,ko,Sv];rfl
  have b1:=e1.at hL;have c2:ys.length<=100:=by omega
  have fs:=lR (nv.map NVw.nm);clear a6 wk al hL;generalize nv.map NVw.nm=a5 at *;ac_rfl;intro WL H2 c3 e2 a8;obtain⟨aa,hwd⟩:∃ aa:List Str,aa=[("a":Str), "aa", "ab", "b", "ba", "c", "abc", "abcdefgh"]:=⟨_,rfl⟩;have aS:H2 WL=some (.lst (aa.map V.str)):=by rw [hwd];exact a8
  have c4:aa.length=8:=by rw [hwd];rfl
  have b2:∀ x∈aa,eI x:=by rw [hwd];exact xH
  have a3:=e2.at a7;have ba:=e2.at b1;exists b2;clear a8 hwd a7 b1;ac_rfl;refine aL (aa.map V.str) (λ z=>!inV z (a5.map V.str)) id (λ z x H'=>x=z/\H' WL=some (.lst (aa.map V.str))) (dF aS).1 (dF aS).2 (aC (by rw [RH];omega)) ?_ ?_
  ·intro D z x H' N1 N0 hz hD e ⟨hx,_⟩ k1 k0;subst hx;obtain⟨wd,hw,rfl⟩:=RW.mp hz;have cD:=e.at a3;have fw:gC (.str wd)=true:=rfl;exists k1;exists k0;clear k hz a3 ba aS
   cases hi:inV (.str wd) (a5.map V.str) with
   | true=>
    have c5:=k0 () (by rw [hi];rfl) H' (Ext.refl _);clear k1 k0;simp! only [↓aO,↓aM]
   | false=>
    have b8:N1 (.str wd) H':=k1 () (by rw [hi];rfl) H' (Ext.refl _);clear k1 k0;simp! only [↓aO,↓aM]
  intro SM H3 c6 e3 a4
  obtain⟨sm,hsm,hsl,b3⟩:∃ sm:List V,sm=((aa.map V.str).filter λ z=>!inV z (a5.map V.str)).map id/\sm.length<=8/\∀ v∈sm,∃ x,v=.str x/\eI x:=by
   refine⟨_,rfl,?_,λ v hv=>?_⟩
   ·rw [RH];have:=UL (λ z=>!inV z (a5.map V.str)) (aa.map V.str);rw [RH] at this;omega
   ·rw [List.map_id] at hv;obtain⟨x,hx,rfl⟩:=RW.mp (UK.mp hv).1;exact⟨x,rfl,b2 () x hx⟩
  rw [←hsm] at a4;have cb:=e3.at ba;have z1:1<=1+(ys.length:Int) % 8:=by omega
  have z2:1+(ys.length:Int) % 8<=100:=by omega
  have z3:(Str.ofString "z").length<=100:=by decide +kernel
  have fz:eI (JR (Str.ofString "z") (1+(ys.length:Int) % 8)):=by
   have:=Nr (ys.length % 8) (Nat.mod_lt _ ⋯);rw [Int.natCast_emod] at this;exact this
  exists b3;exists fz;have cl:sm.length+1<=sizeLine:=aC %[0|8];clear hsm a3 aS ba fs bS;ac_rfl;generalize JR (Str.ofString "z") (1+(ys.length:Int) % 8)=zz at *;intro ZL H4 c7 e4 b4;have a9:=e4.at a4;clear a4 cb;ac_rfl;intro CL H5 c8 e5 cH;have cT:=e5.at a9
  have mp:0 < (if 1 < (sm.length:Int) then (sm.length:Int) else 1):=by split<;>omega
  clear a9 b4;ac_rfl
  refine iO (λ v=>∃ x,v=.str x/\eI x) (SI _ %[0|8]) (by
   have:=SJ c mp;rw [R3]
   show _ < ((sm.length+1:Nat):Int)
   split at this
   ·rename_i bp;rw [RX bp];omega
   ·rename_i bp;rw [RQ bp];omega) (λ v hv=>?_) λ v hv=>?_
  ·rcases SD.mp hv with hv|hv
   ·exact b3 () v hv
   ·exact⟨zz,RP.mp hv,fz ()⟩
  obtain⟨x,rfl,fx⟩:=hv;have k2:=k () x H5 (e1.trans (e2.trans (e3.trans (e4.trans e5)))) fx;clear k mp;ac_rfl
abbrev x6(t:Adr)(h:Addr)(L:Addr)(vp:Addr)(H:Hp)(Q:VK)(E:XK):Prop:=∃ (st l D Pp:Addr) (vals:List Int) (nv:List NVw) (ps ys:List V),cU t H h st l D Pp vals nv ps/\sE nv/\nv.length<=100/\1<=vals.length/\vals.length<=60/\iD t.a_ZZ H vals.length nv/\Dc vals.length nv/\(∀ p∈nv,eI p.nm)/\H L=some (.lst ys)/\Al (λ p y=>NmV vals.length p y H) nv ys/\H vp=%[vals|46]/\∀ H',Ext H H'->Q (.bl true) H'
def oA(t:Adr):Sp:=λ vs H Q E=>∃ (h:Addr) (L:Addr) (vp:Addr),vs=[.ref h,.ref L,.ref vp]/\(x6 t h L vp H Q E)
def mU(T:Tx K mg t):%[7,BC|49] ["_law_hall", "_law_names", "_law_values"] (oA t):=by
 have G_uD:=%[eg|44];have G_BK:=%[pq|44];have G_EG:=%[rO|44];have G_IZ:=%[gc|44];refine T.F_BC.ok ft (λ _ _ _ _ h=>pO h λ _ _ _=>rfl) (λ cdv A' outer s0 H vs Q E hr h=>?_)
 ·obtain⟨h,L,vp,rfl,st,l,D,Pp,vals,nv,ps,ys,ha,c0,b4,v1,c4,b5,b8,bS,hL,al,cb,k⟩:=h;have c1:=T.cl_Hall;have f1:=bK st D Pp (m := "all_values") nofun;have f2:=bK st D Pp (m := "names") nofun;have f3:=eK st D Pp (m := "seen") nofun;obtain⟨dx,h1⟩:=ha.ob;refine⟨_,%[%[(PW.pt %[%[(dG hr.units),%[%[0|0],T.cl_Hall,T.mt_Hall_all_values,G_uD,(hr.mono ⋯),T.b_uD,.nil,ay,∅|25],%[2|0],(az _)|15],(@gD _ _ _ _ %[(dG hr.units),%[%[0|0],T.cl_Hall,T.mt_Hall_names,G_BK,(hr.mono ⋯),T.b_BK,.nil,ay,∅|25],%[(["_law_row", "_law_hall", "_law_names", "_law_values", "_law_name", "_law_parts_here"]),(1),(aI (ae cV) ["_law_hall", "_law_names", "_law_values", "_law_name", "_law_parts_here"] rfl rfl nofun),rfl,%[%[1|0]|21],(λ _ _ _ _ _=>%[(0),_,(show List.Nodup (["_law_row", "_law_hall", "_law_names", "_law_values", "_law_name", "_law_parts_here"]:List Str) from by decide +kernel),rfl,(Or.inl rfl),%[0|7]|19]),(λ _ _ _ _ _=>(@aN _)),(λ _ _ _ _ _=>%[eS,%[0|0],%[0|2],(λ _ _=>rfl)|18]),(by intros;rfl)|22],(az _)|15])|37]),%[%[(@ku _ _ _ _)|12]|9],(@aA _)|17],%[%[R9,rfl,%[%[1|0]|21],(%[(2),rfl,%[%[3,ft|5],%[%[4,ft|5],(@aK _),∅|16],∅|16],∅,∅|26].mono λ _ _ _ _ h=>bP h),%[%[%[(dG hr.units),%[%[0|0],T.cl_Hall,T.mt_Hall_seen,G_EG,(hr.mono ⋯),T.b_EG,.nil,ay,%[%[3|0]|1],∅,∅,∅|20],%[IZ,%[%[2|0],%[%[4|0]|1]|1]|3],(az _)|15],%[%[(@ku _ _ _ _)|12]|9],(@aA _)|17]|9],(by intros;rfl)|27],%[%[(@ku _ _ _ _)|12]|9]|10]|10],?_⟩;rw [show au ["_law_hall", "_law_names", "_law_values", "_law_name", "_law_parts_here"] [.ref h,.ref L,.ref vp]=[%[h|45],%[L|45],%[vp|45],none,none] from rfl];clear G_uD G_BK G_EG G_IZ;exists k;exists ha;exists b5;exists b8;exists bS;exists al;ac_rfl;rw [oS];refine⟨st,l,D,Pp,vals,nv,ps,ha (),by omega,λ r1 H1 c5 e1 g1=>?_⟩;have eqv:=di vals vals;rw [R7 rfl] at eqv;have cv:=e1.at h1;have cD:=e1.at hL;have a7:=e1.at cb;clear h1 hL cb;ac_rfl;rw [xR];refine⟨st,l,D,Pp,vals,nv,ps,(ha ()).ext e1,b4,λ r2 H2 c6 e2 g2=>?_⟩;have cH:=e1.trans e2;have h2:=e2.at cv;have a5:=e2.at cD;have aa:=e2.at a7;have b1:Al (λ p y=>NmV (vals.length:Int) p y H2) nv ys:=(al ()).imp λ _ _ q=>q.ext cH;clear cv cD a7 g1;ac_rfl;have wk:=kr (K:=K) (R:=NmV (vals.length:Int)) (λ _ _ _ _ h e=>h.ext e) a5 b1;refine aL nv (λ _=>true) (λ p=>.str p.nm) (NmV (vals.length:Int)) wk.1 wk.2 (aC %[0|8]) ?_ ?_
  ·intro D' pv x H' N1 N0 c7 hD e ⟨q,qp,hx,hq,b2⟩ k1 _;subst hx;have c8:N1 (.str pv.nm) H':=k1 rfl H' (Ext.refl _);clear k1 b2 wk b1 a5 k h2 aa g2;simp! only [↓aO,↓aM]
  intro L3 H3 c9 e3 a8;have aS:H3 L3=some (.lst ((nv.map NVw.nm).map V.str)):=by rw [a8,ko,Sv];rfl
  have a9:=e3.at g2
  have a1:=λ g=>cI H3 g (nv.map NVw.nm) (λ x hx=>by
   obtain⟨p,hp,rfl⟩:=RW.mp hx;exact(bS () p hp).st)
  have a2:=iI (nv.map NVw.nm);have h3:=e3.at h2;have a3:=e3.at a5;have a4:=e3.at aa;have cT:=cH.trans e3;clear a8 g2 wk b1 h2 a5 aa;generalize nv.map NVw.nm=de at *;ac_rfl;refine fP (xs:=ys) (λ i σ H'=>∃ (v3 v4:Option V),σ=[%[h|45],%[L|45],%[vp|45],v3,v4]/\Ext H3 H') ⟨_,_,rfl,Ext.refl _⟩ (λ i σ H' _ ⟨_,_,_,e⟩=>e.at a3) ?_ ?_
  ·rintro i y _ H4 hi ⟨v3,v4,rfl,e4⟩;obtain⟨p,hp⟩:∃ p,nv[i]? = some p:=⟨_,RE (by have:=(al ()).1;have:=(RG.mp hi).1;omega)⟩;obtain⟨q,qp,rfl,hq,b2⟩:=(al ()).2 i p y hp hi;have b3:p∈nv:=Sa hp;have a6:=cT.trans e4;have c2:=a6.at hq;have h4:=e4.at h3;have ba:=e4.at a4;clear hi hq a9 aS a1 a2 h3 a4 a3 k;simp! only [↓bh];rw [Cr];refine⟨st,l,D,Pp,vals,nv,ps,p,(ha ()).ext a6,c0,b3,rfl,(bS () p b3).nm,(b5 ()).ext a6,λ r5 H5 dj e5 g5=>?_⟩;have bp:=e5.at ba;clear h4 ba c2;ac_rfl;rw [fQ];refine⟨vals,_,p.f,p.A,bp,b2.ext (a6.trans e5),b8 () p b3,rfl,λ r6 H6 dm e6 g6=>?_⟩;have dv:=e6.at g5;have c3:=di (bc vals (af p.f p.A)) (bc vals (af p.f p.A));rw [R7 rfl] at c3;clear g5 bp;ac_rfl;exact⟨_,_,rfl,e4.trans (e5.trans e6)⟩
  ·rintro _ H4 ⟨v3,v4,rfl,e4⟩;have k2:=k () H4 (cT.trans e4);clear k aS a9 a1 a2 h3 a4 a3;ac_rfl
def lB{S:List Addr}{H:Hp}{p:Addr}{o:HO}(h:p∈S):aE S (upd H p o)=aE S H:=by
 funext b;unfold aE
 by_cases hb:b∈S
 ·rw [RX hb,RX hb]
 ·have aa:b ≠ p:=λ e=>hb (by rw [e];exact h);rw [RQ hb,RQ hb,ah aa]
def gm{S:List Addr}{H H':Hp}(e:Ext (aE S H) H'):Ext (aE S H) (aE S H'):=kY.ext λ b o h=>by
 have hb:b ∉ S:=λ hb=>by rw [aT hb] at h;cases h
 have:=e.at h;unfold aE;rw [if_neg hb];exact this
def b0{α:Type}{R:α->V->Prop}{zs:List α}{z:α}{ys:List V}(h:Al R (zs++[z]) ys):∃ aa y,ys=aa++[y]/\Al R zs aa/\R z y:=by
 obtain⟨hl,hr⟩:=h;rw [R3] at hl;have hn:ys ≠ []:=λ e=>by rw [e] at hl;simp at hl
 refine⟨ys.dropLast,ys.getLast hn,(Ub hn).symm,⟨by rw [List.length_dropLast,hl];simp,λ i x y hx hy=>?_⟩,?_⟩
 ·have hi:i < zs.length:=(RG.mp hx).1;refine hr i x y (by rw [SN hi];exact hx) ?_;rw [List.getElem?_dropLast] at hy;split at hy
  ·exact hy
  ·cases hy
 ·refine hr zs.length z _ (by rw [Sw (RJ _)];simp) ?_;rw [List.getLast_eq_getElem,RE (by simp at hl;omega)];congr 1;congr 1;simp at hl;omega
def mP(B:Hp)(rows:List (List Int))(rs:List V):Prop:=Al (λ (row:List Int) y=>∃ q,y=.ref q/\B q=%[row|46]) rows rs
def mP.ext{B B':Hp}{rows:List (List Int)}{rs:List V}(h:mP B rows rs)(e:Ext B B'):mP B' rows rs:=h.imp λ _ _ ⟨q,a,b⟩=>⟨q,a,e.at b⟩
def jh.ext{t:Adr}{B B':Hp}{h st l D Pp:Addr}{nv:List NVw}(a:jh t B h st l D Pp nv)(e:Ext B B')(n1:B' l=none)(n2:B' Pp=none):jh t B' h st l D Pp nv:=by
 obtain⟨⟨dx,h1⟩,⟨dy,h2⟩,h3,_,_,h6,h7,h8⟩:=a;exact⟨⟨dx,e.at h1⟩,⟨dy,e.at h2⟩,e.at h3,n1,n2,h6,h7,h8⟩
structure RC(t:Adr)(H0 H':Hp)(h st l D Pp W NL:Addr)(n:Nat)(nv:List NVw)(ys:List V)(old:List (List Int))(last:List Int)(rs ps:List V):Prop where
 e0:Ext H0 H'
 hb:jh t (aE [l,Pp,W] H') h st l D Pp nv
 vw:iD t.a_ZZ (aE [l,Pp,W] H') n nv
 nl:aE [l,Pp,W] H' NL=some (.lst ys)
 nm:Al (λ p y=>NmV (n:Int) p y (aE [l,Pp,W] H')) nv ys
 hl:H' l=%[last|46]
 hP:H' Pp=some (.lst ps)
 hW:H' W=some (.lst rs)
 rw':mP (aE [l,Pp,W] H') (old++[last]) rs
 pw:mP (aE [l,Pp,W] H') old ps
 ln:∀ row∈old++[last],row.length=n
 nW:l ≠ W/\Pp ≠ W
 fr:H0 l=none/\H0 Pp=none/\H0 W=none
def zG{zs:List Nat}:∀ {ys:List V},(∀ y∈ys,∃ v:Int,y=.int v)->∃ vs:List Int,ys=vs.map V.int
 | [],_=>⟨[],rfl⟩
 | y::r,h=>by
  obtain⟨v,rfl⟩:=h y R5;obtain⟨vs,rfl⟩:=zG (zs:=zs) λ y hy=>h y (RU _ hy);exact⟨v::vs,rfl⟩
def cB{B:Hp}{D b:Addr}{kvs:List (Key × V)}{o:HO}(hD:B D=some (.dK kvs))(h:B b=some o)(hn:∀ k,o ≠ .dK k):aE [D] B b=some o:=by
 unfold aE;rw [if_neg]
 ·exact h
 ·intro hb;rw [RP.mp hb,hD] at h;cases h;exact hn _ rfl
def bf.cutD{B:Hp}{D p:Addr}{kvs:List (Key × V)}{zs:List (List Int)}(hD:B D=some (.dK kvs))(h:bf B p zs):bf (aE [D] B) p zs:=by
 obtain⟨ys,h1,h2⟩:=h;exact⟨ys,cB hD h1 (λ _ h=>by cases h),h2.imp λ _ _ ⟨q,a1,a2⟩=>⟨q,a1,cB hD a2 (λ _ h=>by cases h)⟩⟩
def aw.cutD{C:Addr}{B:Hp}{D v:Addr}{kvs:List (Key × V)}{room f:Int}{A:%[0|48]}(hD:B D=some (.dK kvs))(h:aw C B v room f A):aw C (aE [D] B) v room f A:=by
 obtain⟨dx,l,h1,h2⟩:=h.ob;exact⟨⟨dx,l,cB hD h1 (λ _ h=>by cases h),bf.cutD hD h2⟩⟩
def NmV.cutD{n:Int}{p:NVw}{y:V}{B:Hp}{D:Addr}{kvs:List (Key × V)}(hD:B D=some (.dK kvs))(h:NmV n p y B):NmV n p y (aE [D] B):=by
 obtain⟨q,qp,h1,h2,D2,h3,h4⟩:=h;exact⟨q,qp,h1,cB hD h2 (λ _ h=>by cases h),D2,cB hD h3 (λ _ h=>by cases h),bf.cutD hD h4⟩
def ll{S:List Addr}{H:Hp}{b:Addr}{o:HO}(hb:b ∉ S)(h:H b=some o):aE S H b=some o:=by
 unfold aE;rw [if_neg hb];exact h
def da{S:List Addr}{H:Hp}{b:Addr}{o:HO}(h:aE S H b=some o):b ∉ S:=λ hb=>by rw [aT hb] at h;cases h
def og{H H':Hp}{l Pp b:Addr}{o:HO}(eA:∀ H0,Ext H0 H->H0 l=none->H0 Pp=none->Ext H0 H')(n1:b ≠ l)(n2:b ≠ Pp)(h:H b=some o):H' b=some o:=by
 have e:=eA (aE [l,Pp] H) (ar _ _) (aT (by simp)) (aT (by simp));exact e.at (ll (by simp only [RZ,RS,Sb,T6];exact⟨n1,n2⟩) h)
def eL(v o:List Int)(nv:List NVw):yb v o nv=((nv.filter (mJ v o)).map NVw.nm).map V.str:=by
 unfold yb;rw [map_map];rfl
def eG{H:Hp}{a b:Addr}{o:HO}(h:H a=some o)(h':H b=none):a ≠ b:=λ e=>by rw [e,h'] at h;cases h
def mP.cutD{B:Hp}{D:Addr}{kvs:List (Key × V)}{rows:List (List Int)}{rs:List V}(hD:B D=some (.dK kvs))(h:mP B rows rs):mP (aE [D] B) rows rs:=h.imp λ _ _ ⟨q,a,b⟩=>⟨q,a,cB hD b (λ _ h=>by cases h)⟩
structure mK(t:Adr)(H0 H':Hp)(h st l D Pp W NL:Addr)(nv:List NVw)(ys:List V)(last:List Int)(rs ps:List V):Prop where
 e0:Ext H0 H'
 hb:jh t (aE [l,Pp,W,NL] H') h st l D Pp nv
 vw:iD t.a_ZZ (aE [l,Pp,W,NL] H') last.length nv
 nm:Al (λ p y=>NmV (last.length:Int) p y (aE [l,Pp,W,NL] H')) nv ys
 ok:Dc (last.length:Int) nv
 fo:∀ p∈nv,eI p.nm
 hN:H' NL=some (.lst ys)
 hl:H' l=%[last|46]
 hP:H' Pp=some (.lst ps)
 hW:H' W=some (.lst rs)
 ne:l ≠ W/\Pp ≠ W/\l ≠ NL/\Pp ≠ NL/\W ≠ NL
 fr:H0 l=none/\H0 Pp=none/\H0 W=none/\H0 NL=none/\H0 D=none
 v1:1<=last.length/\last.length<=60
def mK.lst{t:Adr}{H0 H':Hp}{h st l D Pp W NL:Addr}{nv:List NVw}{ys:List V}{last:List Int}{rs ps:List V}(d:mK t H0 H' h st l D Pp W NL nv ys last rs ps):pQ [l,Pp,W,NL] H':=λ s hs=>by
 simp only [RZ,RS,Sb] at hs
 rcases hs with rfl|rfl|rfl|rfl
 ·exact⟨_,d.hl⟩
 ·exact⟨_,d.hP⟩
 ·exact⟨_,d.hW⟩
 ·exact⟨_,d.hN⟩
def mK.move{t:Adr}{H0 H' H'':Hp}{h st l D Pp W NL:Addr}{nv:List NVw}{ys:List V}{last:List Int}{rs ps:List V}(d:mK t H0 H' h st l D Pp W NL nv ys last rs ps)(e:Ext H' H''):mK t H0 H'' h st l D Pp W NL nv ys last rs ps:=
 have c:=aD (S:=[l,Pp,W,NL]) e
 ⟨d.e0.trans e,d.hb.ext c (aT (by simp)) (aT (by simp)),d.vw.ext c,d.nm.imp λ _ _ q=>q.ext c,d.ok,d.fo,e.at d.hN,e.at d.hl,e.at d.hP,e.at d.hW,d.ne,d.fr,d.v1⟩
def mK.named{t:Adr}{H0 H' H'':Hp}{h st l D Pp W NL:Addr}{nv nv':List NVw}{ys ys':List V}{last:List Int}{rs ps:List V}(d:mK t H0 H' h st l D Pp W NL nv ys last rs ps)
  (e0:Ext H0 H'') (kp:∀ b o,b ≠ D->b ≠ NL->H' b=some o->H'' b=some o) (hD:H'' D=some (.dK (nvD nv'))) (hN:H'' NL=some (.lst ys')) (nd:sE nv') (n100:nv'.length<=100)
  (vw:iD t.a_ZZ (aE [l,Pp,W,NL] H'') last.length nv') (nm:Al (λ p y=>NmV (last.length:Int) p y (aE [l,Pp,W,NL] H'')) nv' ys') (ok:Dc (last.length:Int) nv') (fo:∀ p∈nv',eI p.nm) :
  mK t H0 H'' h st l D Pp W NL nv' ys' last rs ps/\Ext (aE [D] (aE [l,Pp,W,NL] H')) (aE [l,Pp,W,NL] H''):=by
 have aa:=d.hb.dk;have nD:=da aa
 have cD:Ext (aE [D] (aE [l,Pp,W,NL] H')) (aE [l,Pp,W,NL] H''):=kY.ext λ b o hb=>by
  have a4:b ≠ D:=λ e=>by rw [e,aT (by simp)] at hb;cases hb
  have aS:=(ar [D] _).at hb;have a3:=da aS;have a5:b ≠ NL:=λ e=>a3 (by rw [e];simp);exact ll a3 (kp b o a4 a5 ((ar _ H').at aS))
 have a6:l ≠ D:=λ e=>nD (by rw [←e];simp);have a7:Pp ≠ D:=λ e=>nD (by rw [←e];simp);have a8:W ≠ D:=λ e=>nD (by rw [←e];simp);obtain⟨⟨dx,o1⟩,⟨dy,o2⟩,o3,o4,o5,o6,o7,o8⟩:=d.hb;refine⟨⟨e0,⟨⟨dx,cD.at (cB aa o1 (λ _ h=>by cases h))⟩,⟨dy,cD.at (cB aa o2 (λ _ h=>by cases h))⟩,ll nD hD,aT (by simp),aT (by simp),o6,nd,n100⟩,vw,nm,ok,fo,hN,kp _ _ a6 d.ne.2.2.1 d.hl,kp _ _ a7 d.ne.2.2.2.1 d.hP,kp _ _ a8 d.ne.2.2.2.2 d.hW,d.ne,d.fr,d.v1⟩,cD⟩
def vH(x:Str)(xs:List Str):inV (.str x) (xs.map V.str)=decide (x∈xs):=by
 unfold inV;rw [List.any_map]
 by_cases h:x∈xs
 ·rw [R7 h,Uq];exact⟨x,h,by show (x == x)=true;exact Ve x⟩
 ·rw [R6 h,U8];intro y hy he;have aa:(y == x)=true:=he;rw [Ut] at aa;exact h (aa ▸ hy)
def Al.rev'{α:Type}{R:α->V->Prop}{zs:List α}{ys:List V}(h:Al R zs ys):Al R zs.reverse ys.reverse:=by
 refine⟨by rw [Sf,Sf];exact h.1,λ i z y a b=>?_⟩;have hi:i < zs.length:=by have:=(RG.mp a).1;rwa [Sf] at this
 have hl:=h.1;rw [Tb hi] at a;rw [Tb %[0|8]] at b;exact h.2 _ z y a (by rw [←hl];exact b)
def mK.keptD{t:Adr}{H0 H' H'':Hp}{h st l D Pp W NL:Addr}{nv:List NVw}{ys:List V}{last:List Int}{rs ps:List V}(d:mK t H0 H' h st l D Pp W NL nv ys last rs ps)
  (kp:∀ b o,b ≠ D->b ≠ NL->H' b=some o->H'' b=some o):Ext (aE [D] (aE [l,Pp,W,NL] H')) (aE [l,Pp,W,NL] H''):=kY.ext λ b o hb=>by
 have a3:b ≠ D:=λ e=>by rw [e,aT (by simp)] at hb;cases hb
 have aa:=(ar [D] _).at hb;have aS:=da aa;have a4:b ≠ NL:=λ e=>aS (by rw [e];simp);exact ll aS (kp b o a3 a4 ((ar _ H').at aa))
def mK.grown2{t:Adr}{H0 H7 H8 aa:Hp}{h st l D Pp W NL:Addr}{nv:List NVw}{ys:List V}{last:List Int}{rs ps:List V}{x:Str}{v t2:Addr}{f:Int}{A:%[0|48]}(d:mK t H0 H7 h st l D Pp W NL nv ys last rs ps)
  (q2:∀ b o,b ≠ D->H7 b=some o->H8 b=some o) (a3:H8 D=some (.dK (nvD (nv++[⟨x,v,f,A⟩])))) (a4:Ext H0 H8) (e:Ext H8 aa) (a5:NmV (last.length:Int) ⟨x,v,f,A⟩ (.ref t2) (aE [l,Pp,W,NL] aa))
  (vx:aw t.a_ZZ (aE [l,Pp,W,NL] H7) v (last.length:Int) f A) (pk:ir (last.length:Int) f A) (fx:eI x) (a6:∀ q∈nv,q.nm ≠ x) (a9:nv.length<=60) :
  mK t H0 (upd aa NL (.lst (ys++[.ref t2]))) h st l D Pp W NL (nv++[⟨x,v,f,A⟩]) (ys++[.ref t2]) last rs ps/\Ext (aE [D] (aE [l,Pp,W,NL] H7)) (aE [l,Pp,W,NL] (upd aa NL (.lst (ys++[.ref t2])))):=by
 have aS:=d.hb.dk;have nD:=da aS;have ba:l ≠ D:=λ e=>nD (by rw [←e];simp);have bp:Pp ≠ D:=λ e=>nD (by rw [←e];simp);have bS:W ≠ D:=λ e=>nD (by rw [←e];simp);have a7:NL ≠ D:=λ e=>nD (by rw [←e];simp)
 have kp:∀ b o,b ≠ D->b ≠ NL->H7 b=some o->upd aa NL (.lst (ys++[.ref t2])) b=some o:=λ b o hb hn a8=>by
  rw [ah hn];exact e.at (q2 b o hb a8)
 have cD:=d.keptD kp;have hc:aE [l,Pp,W,NL] (upd aa NL (.lst (ys++[.ref t2])))=aE [l,Pp,W,NL] aa:=lB (by simp);refine d.named (a4.trans e |>.put d.fr.2.2.2.1) kp (by rw [ah (RO a7)];exact e.at a3) ai ?_ ?_ ?_ ?_ ?_ ?_
 ·unfold sE;rw [map_append];refine List.nodup_append.mpr ⟨d.hb.nd,by simp,λ a ha b hb=>?_⟩;obtain⟨q,hq,rfl⟩:=List.mem_map.mp ha;rw [show b=x from by simpa using hb];exact a6 q hq
 ·rw [R3];simp;omega
 ·intro p hp
  rcases SD.mp hp with hp|hp
  ·have w:=d.vw p hp;exact⟨(w.1.cutD aS).ext cD,w.2⟩
  ·rw [RP.mp hp];have:=pk.pr;exact⟨(vx.cutD aS).ext cD,pk.ax,by show av (A.map λ a=>a.1)<=4096;omega,pk.on rfl⟩
 ·refine Al.snoc (d.nm.imp λ _ _ z=>(z.cutD aS).ext cD) ?_;rw [hc];exact a5
 ·intro p hp
  rcases SD.mp hp with hp|hp
  ·exact d.ok p hp
  ·rw [RP.mp hp];exact pk
 ·intro p hp
  rcases SD.mp hp with hp|hp
  ·exact d.fo p hp
  ·rw [RP.mp hp];exact fx
def mK.grown{t:Adr}{H0 H7 H8 aa:Hp}{h st l D Pp W NL:Addr}{nv:List NVw}{ys:List V}{last:List Int}{rs ps:List V}{x:Str}{v t1 t2 RA:Addr}{f:Int}{A:%[0|48]}(d:mK t H0 H7 h st l D Pp W NL nv ys last rs ps)
  (q2:∀ b o,b ≠ D->H7 b=some o->H8 b=some o) (a4:H8 D=some (.dK (nvD (nv++[⟨x,v,f,A⟩])))) (a5:Ext H0 H8) (e:Ext H8 aa) (a6:aa t2=some (.tup [.str x,.ref t1])) (a7:aa t1=some (.tup [.int (last.length:Int),.int f,.ref RA])) (a8:H8 RA=none) (a9:bf aa RA (axL A))
  (vx:aw t.a_ZZ (aE [l,Pp,W,NL] H7) v (last.length:Int) f A) (pk:ir (last.length:Int) f A) (fx:eI x) (ba:∀ q∈nv,q.nm ≠ x) (bp:nv.length<=60) :
  mK t H0 (upd aa NL (.lst (ys++[.ref t2]))) h st l D Pp W NL (nv++[⟨x,v,f,A⟩]) (ys++[.ref t2]) last rs ps/\Ext (aE [D] (aE [l,Pp,W,NL] H7)) (aE [l,Pp,W,NL] (upd aa NL (.lst (ys++[.ref t2])))):=by
 have nD:=da d.hb.dk
 have a3:pQ [l,Pp,W,NL] H8:=λ s hs=>by
  have nn:s ≠ D:=λ e=>nD (by rw [←e];exact hs);simp only [RZ,RS,Sb] at hs
  rcases hs with rfl|rfl|rfl|rfl
  ·exact⟨_,q2 _ _ nn d.hl⟩
  ·exact⟨_,q2 _ _ nn d.hP⟩
  ·exact⟨_,q2 _ _ nn d.hW⟩
  ·exact⟨_,q2 _ _ nn d.hN⟩
 have aS:=a3.ext e;exact d.grown2 q2 a4 a5 e ⟨t2,t1,rfl,aZ aS a6 (λ _ h=>by cases h),RA,aZ aS a7 (λ _ h=>by cases h),eV a3 e a8 a9⟩ vx pk fx ba bp
def gk{c:TT}{t u:TS}{D:kI}{σ:St}{H:Hp}(R:Bool->Hp->Prop)(h:∀ Qb:Bool->Hp->Prop,(∀ b H',R b H'->Qb b H')->c σ H Qb)(k:∀ b H',R b H'->Ox t u D σ b H'):NX c t u D σ H:=h _ k
def G3(n:Nat):(ya (n:Int)).reverse=(sD n).map V.int:=by
 unfold ya sD;rw [Int.toNat_natCast,←map_reverse,map_map];rfl
def aH.both{P:Program}{w:World}{K:W.Frag}{mg:Str->Option Value}{base:Heap}{CX:CXT}{k:Nat}{f:Addr}{fd:FuncData}{ps:List Str}{aa aS sp:Sp}(h1:aH P w K mg base CX k f fd ps aa)(h2:aH P w K mg base CX k f fd ps aS)(hs:∀ vs H Q E,sp vs H Q E->aa vs H Q E\/aS vs H Q E):aH P w K mg base CX k f fd ps sp:=by
 refine⟨λ vs H Q E h=>(hs vs H Q E h).elim (h1.len vs H Q E) (h2.len vs H Q E),?_⟩
 intros
 rename_i h
 rcases hs _ _ _ _ h with q|q
 ·apply h1.run<;>assumption
 ·apply h2.run<;>assumption
def Dw(t:Adr):Sp:=λ vs H Q E=>lu t 0 vs H Q E\/lu t 1 vs H Q E
def px(T:Tx K mg t):%[10,ED|49] ["self", "name", "of", "move"] (Dw t):=aH.both (j8 T 0) (j8 T 1) λ _ _ _ _ h=>h
def JC(A:%[0|48]):PyData.eqvAll ((axL A).map λ z=>PyData.tuple (z.map PyData.int)) []=decide (A=[]):=by
 cases A with
 | nil=>rfl
 | cons a r=>rfl
abbrev qX(t:Adr)(h:Addr)(L:Addr)(c:Int)(H:Hp)(Q:VK)(E:XK):Prop:=∃ (H0:Hp) (st l D Pp W:Addr) (nv:List NVw) (ys:List V) (last:List Int) (rs ps:List V),mK t H0 H h st l D Pp W L nv ys last rs ps/\0<=c/\nv ≠ []/\nv.length<=60/\∀ (nv':List NVw) (ys':List V) (H':Hp),mK t H0 H' h st l D Pp W L nv' ys' last rs ps->Ext (aE [D] (aE [l,Pp,W,L] H)) (aE [l,Pp,W,L] H')->nv'.length<=nv.length+1->Q .non H'
def tE(t:Adr):Sp:=λ vs H Q E=>∃ (h:Addr) (L:Addr) (c:Int),vs=[.ref h,.ref L,.int c]/\(qX t h L c H Q E)
def Cq(t:Adr)(h:Addr)(L:Addr)(c:Int)(H:Hp)(Q:VK)(E:XK):tE t [.ref h,.ref L,.int c] H Q E=(qX t h L c H Q E):=pR (f:=λ (h:Addr) (L:Addr) (c:Int)=>[.ref h,.ref L,.int c]) (λ _ _ _ _ _ _ h=>by cases h;exact⟨rfl,rfl,rfl⟩) h L c
def rG(T:Tx K mg t):%[11,Jd|49] ["_law_hall", "_law_names", "_law_cell"] (tE t):=by
 have G_Jc:=%[j7|44];have G_xD:=%[kz|44];have G_xC:=%[kC|44];have G_ED:=%[px|44];refine T.F_Jd.ok bZ (λ _ _ _ _ h=>pO h λ _ _ _=>rfl) (λ cdv A' outer s0 H vs Q E hr h=>?_)
 ·obtain⟨h,L,c,rfl,H0,st,l,D,Pp,W,nv,ys,last,rs,ps,nj,g0,fz,en,k⟩:=h;have c1:=T.cl_Hall;have hL:=nj.hN;have al:=nj.nm.imp λ _ _ (q:NmV _ _ _ _)=>q.ext (ar _ H);refine⟨_,%[%[3,bZ,%[Jc,%[%[1|0],%[%[2|0]|1]|1]|3]|4],%[%[%[Ls,%[3|0],%[(["_law_row", "_law_hall", "_law_names", "_law_cell", "_law_name", "_law_of", "_law_parts_here", "_law_room", "_law_first", "_law_axes"]),(1),(aI (ae eY) ["_law_hall", "_law_names", "_law_cell", "_law_name", "_law_of", "_law_parts_here", "_law_room", "_law_first", "_law_axes"] rfl rfl nofun),rfl,%[%[1|0]|21],(λ _ _ _ _ _=>%[(0),_,(show List.Nodup (["_law_row", "_law_hall", "_law_names", "_law_cell", "_law_name", "_law_of", "_law_parts_here", "_law_room", "_law_first", "_law_axes"]:List Str) from by decide +kernel),rfl,(Or.inl rfl),%[0|7]|19]),(λ _ _ _ _ _=>(@aN _)),(λ _ _ _ _ _=>%[eS,%[0|0],%[0|2],(λ _ _=>rfl)|18]),(by intros;rfl)|22],(by with_unfolding_all rfl)|15],%[(@G9 _ _)|9],(@aA _)|17],%[%[%[eS,%[1|0],%[bE,%[cc,%[2|0],%[0|2]|11],%[len,aB,%[%[1|0]|1]|6]|11],(λ _ _=>rfl)|18],(%[(2),rfl,%[%[4,bZ|5],%[%[5,bZ|5],(@aK _),∅|16],∅|16],∅,∅|26].mono λ _ _ _ _ h=>bP h),∅,∅,∅|40],%[%[%[5|0],(%[(3),rfl,%[%[6,bZ|5],%[%[7,bZ|5],%[%[8,bZ|5],(@aK _),∅|16],∅|16],∅|16],∅,∅|26].mono λ _ _ _ _ h=>bP h),∅,∅,∅|40],%[%[(PW.pt %[%[(bz hr.units),%[8|0],%[(@b9 _)|23],(az _)|15],(@gD _ _ _ _ %[(bz hr.units),%[bE,%[cc,%[2|0],%[0|2]|11],%[0|2]|11],%[0|2],(az _)|15])|37]),%[%[%[%[0|0],T.cl_Hall,T.mt_Hall_make,G_ED,(hr.mono ⋯),T.b_ED,.nil,ay,%[%[3|0],%[%[4|0],%[%[T.mk_Turn,G_xD,(hr.mono ⋯),∅,T.m_Z3,T.b_xD,.nil,ay,%[(@yP _ _ _ _ _ _ _ (@jX _ _ _ _ _ _ _ rfl ∅ T.z_list ∅ T.z_range %[%[len,aB,%[%[8|0]|1]|6]|1] ∅ ∅ ∅) %[ei,%[0|2]|38] (λ _ _ _ h=>h))|1],⋯,∅,∅|32]|1]|1]|1],∅,∅,∅|20],∅|14],%[%[%[R0,Si,Sh,bF,%[1|0],%[%[%[%[3|0],%[%[%[%[6|0],%[%[7|0],%[(@yP _ _ _ _ _ _ _ %[8|0] %[ei,%[0|2]|38] (λ _ _ _ h=>h))|1]|1]|1]|36]|1]|1]|36]|1],∅,∅,∅,∅,∅|33],∅|14]|9]|10],%[%[%[%[0|0],T.cl_Hall,T.mt_Hall_make,G_ED,(hr.mono ⋯),T.b_ED,.nil,ay,%[%[3|0],%[%[4|0],%[%[T.mk_Pick,G_xC,(hr.mono ⋯),∅,T.m_Z2,T.b_xC,.nil,ay,%[%[0|2],%[%[ei,%[0|2]|38]|1]|1],⋯,∅,∅|32]|1]|1]|1],∅,∅,∅|20],∅|14],%[%[%[R0,Si,Sh,bF,%[1|0],%[%[%[%[3|0],%[%[%[%[6|0],%[%[bM,%[7|0],%[gE,%[eS,%[eS,%[8|0],%[0|2],(λ _ _=>rfl)|18],%[0|2],(λ _ _=>rfl)|18],%[fA,%[eS,%[eS,%[8|0],%[0|2],(λ _ _=>rfl)|18],%[0|2],(λ _ _=>rfl)|18],%[0|2]|11]|11]|11],%[%[N3,%[8|0],(@gN _ _ _ %[0|2]),(@lx _)|43]|1]|1]|1]|36]|1]|1]|36]|1],∅,∅,∅,∅,∅|33],∅|14]|9]|10]|17]|9]|10]|10]|10]|10],?_⟩;rw [show au ["_law_hall", "_law_names", "_law_cell", "_law_name", "_law_of", "_law_parts_here", "_law_room", "_law_first", "_law_axes"] [.ref h,.ref L,.int c]=[%[h|45],%[L|45],%[c|47],none,none,none,none,none,none] from rfl];clear G_Jc G_xD G_xC G_ED;exists k;exists nj;ac_rfl;rw [vT];refine⟨nv,ys,_,hL,al,by omega,λ x H1 e1 fx=>?_⟩;ac_rfl;have c6:=e1.at hL;have c7:=al.imp λ _ _ (q:NmV _ _ _ _)=>q.ext e1;have wk:=kr (K:=K) (R:=NmV (last.length:Int)) (λ _ _ _ _ h e=>h.ext e) c6 c7;refine aL nv (λ _=>true) (λ p=>.str p.nm) (NmV (last.length:Int)) wk.1 wk.2 (aC %[0|8]) ?_ ?_
  ·intro D' pv xx H' N1 N0 g4 hD e ⟨q,qp,hx,hq,f3⟩ k1 _;subst hx;have g5:N1 (.str pv.nm) H':=k1 rfl H' (Ext.refl _);clear k1 f3 wk al c7 hL c6 k;simp! only [↓aO,↓aM]
  intro SL H2 g6 e2 c9;have dz:H2 SL=some (.lst ((nv.map NVw.nm).map V.str)):=by rw [c9,ko,Sv];rfl
  have dI:=e1.trans e2;have f5:=e2.at c6;have b5:=c7.imp λ _ _ (q:NmV _ _ _ _)=>q.ext e2;have fs:=lR (nv.map NVw.nm);have fw:gC (.str x)=true:=rfl;have dN:=vH x (nv.map NVw.nm);have n2:=(nj ()).move dI;have ep:ys.length=nv.length:=al.1
  have g8:1<=ys.length:=by rw [ep];cases nv with|nil=>exact absurd rfl fz|cons a r=>simp
  exists n2;exists b5;clear c9 wk c7 hL c6 al ep
  by_cases hx:x∈nv.map NVw.nm
  ·rw [R7 hx] at dN;have kf:=k () nv ys H2 (n2 ()) ((ar [D] _).trans (aD dI)) (SX _);clear k;generalize nv.map NVw.nm=f6 at *;ac_rfl
  ·rw [R6 hx] at dN;generalize b8:nv.map NVw.nm=f6 at *;exists b8;have yp:0 < (ys.length:Int):=by omega
   ac_rfl;refine iO (λ v=>∃ p,p∈nv/\NmV (last.length:Int) p v H2) (SI _ %[0|8]) (SJ _ yp) (λ v hv=>?_) λ v hv=>?_
   ·obtain⟨i,hi,rfl⟩:=TB hv;have et:i < nv.length:=by have:=(b5 ()).1;omega
    exact⟨nv[i],T7 et,(b5 ()).2 i _ _ (RE et) (RE hi)⟩
   obtain⟨p,bp,q,qp,rfl,hq,Dx,f7,zx,d0,bS⟩:=hv;have pk:=(nj ()).ok p bp;have dA:=JC p.A;exists bS;clear dz dN fs;simp! only [-lj];refine gk (λ b H'=>(b=false->p.A ≠ [])/\Ext H2 H') (λ Qb a4=>?_) ?_
   ·have ew:=a4;exists a4;clear ew k;ac_rfl;intro E1 H3 _ e3 hc;have a5:=e3.at d0;have d1:=λ g=>kL (H:=H3) (f:=bY H3 g) ((bS ()).imp λ _ _ w=>w.ext e3);have d2:=λ g=>kL (H:=H3) (f:=g) ((bS ()).imp λ _ _ w=>w.ext e3)
    by_cases hA:p.A=[]
    ·rw [R7 hA] at dA;clear hA;have hk:=a4 () true H3 ⟨(λ h=>by cases h),e3⟩;clear a4;ac_rfl
    ·rw [R6 hA] at dA
     by_cases h8:c / 8 % 2=0
     ·have hk:=a4 () true H3 ⟨(λ h=>by cases h),e3⟩;clear a4;ac_rfl
     ·have hk:=a4 () false H3 ⟨λ _=>hA,e3⟩;clear a4;ac_rfl
   rintro b H3 ⟨d3,e3⟩;have d4:=dI.trans e3;have n3:=(nj ()).move d4;have a5:=e3.at d0;obtain⟨hg,b4⟩:=n3.hb.ob;replace b4:=(ar _ H3).at b4;have f1:=eK st D Pp (m := "make") nofun;have d5:zx.length=p.A.length:=by rw [(bS ()).1];unfold axL;rw [length_map]
   have hh:=pk.len;exists n3;clear dA d0 hq f7 f5
   cases b with
   | true=>
    clear d3;ac_rfl;rw [J7];refine⟨by omega,by omega,?_⟩;intro R1 H4 _ e4 h4;have ey:=e4.at b4;have de:=e4.at a5;clear b4 a5;ac_rfl;intro R2 H5 _ e5 h5;rw [G3] at h5;have ez:=e5.at ey;have dj:=e5.at de;clear ey de h4;ac_rfl;intro tb eA G1 f9 _ _ g1 kt _;rw [Cf];refine⟨eA,sD p.A.length,kt,g1.at h5,by rw [gj];omega,λ H6 O hE hO cb eB=>?_⟩;have aS:=hE H5 g1 f9;have cv:=d4.trans (e4.trans (e5.trans aS));have n6:=(nj ()).move cv;have d6:=aS.at ez;have a6:=aS.at dj;have mv:CD t H6 tb 0 p.A.length:=⟨by decide,⟨eA,O,cb,λ _=>eB⟩,(λ h=>by cases h),by omega⟩;have b1:∀ q'∈nv,q'.nm ≠ x:=λ q' d7 e=>hx (by rw [←b8 ()];exact RW.mpr ⟨q',d7,e⟩);exists n6;exists mv;exists b1;clear hE kt g1 h5 cb eB ez dj hO;ac_rfl;refine .inl ?_;rw [qD];refine⟨st,l,D,Pp,last,nv,ps,p,(n6 ()).hb.at (ar _ H6) (n6 ()).hl (n6 ()).hP,(n6 ()).hb.nd,fx.nm,b1 (),bp,rfl,((nj ()).fo p bp).nm,by omega,(nj ()).v1.1,(nj ()).v1.2,mv (),(((n6 ()).vw p bp).1).ext (ar _ H6),pk,λ v H7 H8 hv e7 vx q1 q2 cD=>?_⟩;have n7:=(n6 ()).move e7;have d8:=da n7.hb.dk;have d9:L ≠ D:=λ e=>d8 (by rw [←e];simp);have cH:=q2 _ _ d9 n7.hN;have aa:=e7.at a6;have cT:Dx ≠ D:=λ e=>by rw [e,(ar _ H7).at n7.hb.dk] at aa;cases aa
    have c0:=q2 _ _ cT aa;have ea:Ext H0 H8:=q1 H0 n7.e0 n7.fr.2.2.2.2;have c2:=vx [l,Pp,W,L] (n6 ()).lst;have eH:Al (jc H7) (axL p.A) zx:=(bS ()).imp λ _ _ w=>((w.ext e3).ext (e4.trans (e5.trans aS))).ext e7;have c3:Al (jc H8) (axL p.A) zx:=eH.imp λ _ _ ⟨w,w1,w2⟩=>⟨w,w1,q2 _ _ (λ e=>by rw [e,(ar _ H7).at n7.hb.dk] at w2;cases w2) w2⟩;have gb:zx.length<=3:=by omega
    have e6:ys.length < sizeLine:=fN (by have:=(b5 ()).1;omega);exists n7;exists c2;exists c3;exists q2;exists cD;clear q1 aa eH a6 d6 vx;ac_rfl;intro RA H9 eb e9 a7;have c4:=e9.at cH;clear cH c0;ac_rfl;intro t1 gi _ b2 ec;have a8:=b2.at c4;clear c4;ac_rfl;intro t2 c5 _ a3 ee;have e8:=a3.at a8;clear a8;have a9:=e9.trans (b2.trans a3)
    have ej:bf c5 RA (axL (gK 0 p.A)):=by
     refine⟨zx.reverse,(b2.trans a3).at a7,?_⟩
     show Al (jc c5) (axL p.A.reverse) zx.reverse
     unfold axL;rw [map_reverse];exact Al.rev' ((c3 ()).imp λ _ _ w=>w.ext a9)
    obtain⟨w1,w2⟩:=(n7 ()).grown (q2 ()) (cD ()) ea a9 ee (a3.at ec) eb ej (c2 ()) (pk.res (i:=0) ⋯ (λ h=>by cases h)) fx (b1 ()) en;have kf:=k () _ _ _ w1 ((aD (S:=[D]) (aD (S:=[l,Pp,W,L]) (cv.trans e7))).trans w2) (by rw [R3];simp);exists kf;clear k w1 w2;ac_rfl;exact kf ()
   | false=>
    have hA:=d3 rfl;clear d3
    obtain⟨a,r,ba⟩:∃ a r,p.A=a::r:=by
     cases hpA:p.A with
     | nil=>exact absurd hpA hA
     | cons a r=>exact⟨a,r,rfl⟩
    have hj:=pk.sz a (by rw [ba];simp)
    obtain⟨z0,zr,rfl⟩:∃ z0 zr,zx=z0::zr:=by
     cases zx with
     | nil=>rw [ba] at d5;simp at d5
     | cons z0 zr=>exact⟨z0,zr,rfl⟩
    obtain⟨za,rfl,fa⟩:=(bS ()).2 0 [a.1,a.2] z0 (by rw [ba];rfl) rfl;have dm:=e3.at fa;exists ba;clear fa hA;ac_rfl;intro pb fu G1 gs _ _ g1 kt _;rw [Cm];refine⟨fu,kt,rfl,rfl,λ H6 hE cb=>?_⟩;have aS:=hE H3 g1 gs;have cv:=d4.trans aS;have n6:=(nj ()).move cv;have d6:=aS.at b4;have a6:=aS.at a5;have dv:=aS.at dm;have p1:1<=p.A.length:=by rw [ba ()];simp
    have mv:CD t H6 pb 1 p.A.length:=⟨by decide,⟨fu,pb,cb,(λ h=>by cases h)⟩,(λ _=>p1),by omega⟩;have b1:∀ q'∈nv,q'.nm ≠ x:=λ q' d7 e=>hx (by rw [←b8 ()];exact RW.mpr ⟨q',d7,e⟩);exists n6;exists mv;exists b1;clear hE kt g1 cb b4 a5 dm;ac_rfl;refine .inr ?_;rw [qD];refine⟨st,l,D,Pp,last,nv,ps,p,(n6 ()).hb.at (ar _ H6) (n6 ()).hl (n6 ()).hP,(n6 ()).hb.nd,fx.nm,b1 (),bp,rfl,((nj ()).fo p bp).nm,by omega,(nj ()).v1.1,(nj ()).v1.2,mv (),(((n6 ()).vw p bp).1).ext (ar _ H6),pk,λ v H7 H8 hv e7 vx q1 q2 cD=>?_⟩;have n7:=(n6 ()).move e7;have d8:=da n7.hb.dk;have d9:L ≠ D:=λ e=>d8 (by rw [←e];simp);have cH:=q2 _ _ d9 n7.hN;have c8:=(ar _ H7).at n7.hb.dk;have aa:=e7.at a6;have cT:Dx ≠ D:=λ e=>by rw [e,c8] at aa;cases aa
    have c0:=q2 _ _ cT aa;have b3:=e7.at dv;have fy:=q2 _ _ (λ e=>by rw [e,c8] at b3;cases b3) b3;have ea:Ext H0 H8:=q1 H0 n7.e0 n7.fr.2.2.2.2;have c2:=vx [l,Pp,W,L] (n6 ()).lst;have c3:Al (jc H8) (axL p.A) (.ref za::zr):=(bS ()).imp λ _ _ ⟨w,w1,w2⟩=>⟨w,w1,q2 _ _ (λ e=>by rw [e] at w2;have w3:=(e3.trans (aS.trans e7)).at w2;rw [c8] at w3;cases w3) ((e3.trans (aS.trans e7)).at w2)⟩;have gb:zr.length<=3:=by have:=d5;simp at this;omega
    have e6:ys.length < sizeLine:=fN (by have:=(b5 ()).1;omega);have ho:ye a.2 (a.1 - 1):=.inr ⟨by omega,by omega⟩;exists n7;exists c2;exists c3;exists q2;exists cD;clear q1 aa a6 d6 vx dv b3 c8;ac_rfl;intro RA H9 eb e9 a7;rw [vN _ _ ⋯] at a7;have el:H9 RA=some (.lst zr):=a7;have c4:=e9.at cH;clear cH c0 a7 fy;ac_rfl;intro t1 gi _ b2 ec;have a8:=b2.at c4;clear c4;ac_rfl;intro t2 c5 _ a3 ee;have e8:=a3.at a8;clear a8;have a9:=e9.trans (b2.trans a3);have rf:CF 1 p.f p.A=p.f+a.2 * (a.1 - 1):=by rw [ba ()];rfl
    have ra:gK 1 p.A=r:=by rw [ba ()];rfl
    have ej:bf c5 RA (axL (gK 1 p.A)):=by
     rw [ra];refine⟨zr,(b2.trans a3).at el,?_⟩
     have dy:Al (jc c5) ([a.1,a.2]::axL r) (.ref za::zr):=by
      have q:=(c3 ()).imp λ _ _ (w:jc _ _ _)=>w.ext a9;rw [ba ()] at q;exact q
     exact⟨by have:=dy.1;simpa using this,λ i z y a' b'=>dy.2 (i+1) z y (by simpa using a') (by simpa using b')⟩
    obtain⟨w1,w2⟩:=(n7 ()).grown (q2 ()) (cD ()) ea a9 ee (by rw [rf];exact a3.at ec) eb ej (c2 ()) (pk.res (i:=1) ⋯ (λ _=>p1)) fx (b1 ()) en;have kf:=k () _ _ _ w1 ((aD (S:=[D]) (aD (S:=[l,Pp,W,L]) (cv.trans e7))).trans w2) (by rw [R3];simp);exists kf;clear k w1 w2 rf ra;ac_rfl;exact kf ()
def nmD(n:Int)(p:NVw):PyData:=.tuple [.str p.nm,.tuple [.int n,.int p.f,.list ((axL p.A).map λ z=>PyData.tuple (z.map PyData.int))]]
def LA{H:Hp}{n:Int}{p:NVw}{y:V}{g:V->Option PyData}(h:NmV n p y H)(hs:PyData.strOk p.nm=true):bY H (bY H (bY H (bY H (bY H g)))) y=some (nmD n p):=by
 obtain⟨q,qp,rfl,hq,D,aa,zs,hD,al⟩:=h
 have e1:bY H (bY H (bY H g)) (.ref D)=some (.list ((axL p.A).map λ z=>PyData.tuple (z.map PyData.int))):=by
  show (H D).bind (CC (bY H (bY H g)))=_
  rw [hD]
  show (aU (zs.map (bY H (bY H g)))).map PyData.list=_
  rw [kL al];rfl
 have e2:bY H (bY H (bY H (bY H g))) (.ref qp)=some (.tuple [.int n,.int p.f,.list ((axL p.A).map λ z=>PyData.tuple (z.map PyData.int))]):=by
  show (H qp).bind (CC (bY H (bY H (bY H g))))=_
  rw [aa]
  show (aU [some (PyData.int n),some (PyData.int p.f),bY H (bY H (bY H g)) (.ref D)]).map PyData.tuple=_
  rw [e1];rfl
 have e3:bY H (bY H (bY H (bY H g))) (.str p.nm)=some (.str p.nm):=by
  show (if PyData.strOk p.nm=true then some (PyData.str p.nm) else none)=_
  rw [RX hs]
 show (H q).bind (CC (bY H (bY H (bY H (bY H g)))))=_
 rw [hq]
 show (aU [bY H (bY H (bY H (bY H g))) (.str p.nm),bY H (bY H (bY H (bY H g))) (.ref qp)]).map PyData.tuple=_
 rw [e2,e3];rfl
def yS{H:Hp}{n:Int}{g:V->Option PyData}:∀ {nv:List NVw}{ys:List V},Al (λ p y=>NmV n p y H) nv ys->(∀ p∈nv,PyData.strOk p.nm=true)->aU (ys.map (bY H (bY H (bY H (bY H (bY H g))))))=some (nv.map (nmD n))
 | [],ys,h,_=>by rw [T5 h.1];rfl
 | p::nv,[],h,_=>by have:=h.1;simp at this
 | p::nv,y::ys,h,hs=>by
  have h0:=h.2 0 p y rfl rfl;have ih:=yS (g:=g) (nv:=nv) (ys:=ys) ⟨by have:=h.1;simpa using this,λ i z w a b=>h.2 (i+1) z w (by simpa using a) (by simpa using b)⟩ λ q hq=>hs q (RU _ hq);rw [Sm,LA h0 (hs p R5)]
  show (aU (ys.map _)).map _=_
  rw [ih];rfl
def Lz(n:Int)(nv:List NVw):PyData.eqvAll (nv.map (nmD n)) []=decide (nv=[]):=by
 cases nv with
 | nil=>rfl
 | cons a r=>rfl
def Al.erase{α:Type}{R:α->V->Prop}:∀ {zs:List α}{ys:List V}(i:Nat),Al R zs ys->Al R (zs.eraseIdx i) (ys.eraseIdx i)
 | [],ys,i,h=>by
  have:ys=[]:=T5 h.1;subst this;exact h
 | z::zs,[],i,h=>by have:=h.1;simp at this
 | z::zs,y::ys,0,h=>⟨by have:=h.1;simpa using this,λ i a b c d=>h.2 (i+1) a b (by simpa using c) (by simpa using d)⟩
 | z::zs,y::ys,i+1,h=>by
  have ht:Al R zs ys:=⟨by have:=h.1;simpa using this,λ i a b c d=>h.2 (i+1) a b (by simpa using c) (by simpa using d)⟩;have ih:=Al.erase i ht;refine⟨by have:=ih.1;simp only [TH,S4];omega,λ j a b c d=>?_⟩;simp only [TH] at c d
  cases j with
  | zero=>exact h.2 0 a b c d
  | succ j=>exact ih.2 j a b (by simpa using c) (by simpa using d)
def qz:∀ {nv:List NVw}{i:Nat}{p:NVw},sE nv->nv[i]? = some p->(nv.filter λ q=>decide (q.nm ≠ p.nm))=nv.eraseIdx i
 | [],i,p,_,h=>by cases h
 | a::r,0,p,hn,h=>by
  cases h;have h2:=SY.mp (show (a.nm::r.map NVw.nm).Nodup from hn);rw [List.filter_cons_of_neg (by simp),List.eraseIdx_cons_zero,List.filter_eq_self];intro q hq;exact R7 λ e=>h2.1 (by rw [←e];exact RW.mpr ⟨q,hq,rfl⟩)
 | a::r,i+1,p,hn,h=>by
  have h2:=SY.mp (show (a.nm::r.map NVw.nm).Nodup from hn);have hp:p∈r:=Sa (by simpa using h);have aa:a.nm ≠ p.nm:=λ e=>h2.1 (by rw [e];exact RW.mpr ⟨p,hp,rfl⟩);rw [List.filter_cons_of_pos (by simpa using aa),TH,qz h2.2 (by simpa using h)]
abbrev qU(t:Adr)(h:Addr)(L:Addr)(c:Int)(room:Int)(H:Hp)(Q:VK)(E:XK):Prop:=∃ (H0:Hp) (st l D Pp W:Addr) (nv:List NVw) (ys:List V) (last:List Int) (rs ps:List V),mK t H0 H h st l D Pp W L nv ys last rs ps/\0<=c/\room=(last.length:Int)/\nv.length<=60/\∀ (nv':List NVw) (ys':List V) (H':Hp),mK t H0 H' h st l D Pp W L nv' ys' last rs ps->Ext (aE [D] (aE [l,Pp,W,L] H)) (aE [l,Pp,W,L] H')->nv'.length<=nv.length+1->Q .non H'
def tw(t:Adr):Sp:=λ vs H Q E=>∃ (h:Addr) (L:Addr) (c:Int) (room:Int),vs=[.ref h,.ref L,.int c,.int room]/\(qU t h L c room H Q E)
def Co(t:Adr)(h:Addr)(L:Addr)(c:Int)(room:Int)(H:Hp)(Q:VK)(E:XK):tw t [.ref h,.ref L,.int c,.int room] H Q E=(qU t h L c room H Q E):=NZ (f:=λ (h:Addr) (L:Addr) (c:Int) (room:Int)=>[.ref h,.ref L,.int c,.int room]) (λ _ _ _ _ _ _ _ _ h=>by cases h;exact⟨rfl,rfl,rfl,rfl⟩) h L c room
def oY(T:Tx K mg t):%[12,Ex|49] ["_law_hall", "_law_names", "_law_cell", "_law_room"] (tw t):=by
 have G_Jc:=%[j7|44];have G_Jd:=%[rG|44];have G_BP:=%[iZ|44];have G_IX:=%[jZ|44];have G_EE:=%[rP|44];have G_EC:=%[j9|44];refine T.F_Ex.ok dY (λ _ _ _ _ h=>N2 h λ _ _ _ _=>rfl) (λ cdv A' outer s0 H vs Q E hr h=>?_)
 ·obtain⟨h,L,c,_,rfl,H0,st,l,D,Pp,W,nv,ys,last,rs,ps,nj,e7,rfl,c6,k⟩:=h;have c1:=T.cl_Hall;have hL:=nj.hN;have al:=nj.nm.imp λ _ _ (q:NmV _ _ _ _)=>q.ext (ar _ H);have f1:=eK st D Pp (m := "drop") nofun;have f2:=bK st D Pp (m := "call") nofun;refine⟨_,%[%[4,dY,%[Jc,%[%[1|0],%[%[2|0]|1]|1]|3]|4],%[%[(PW.pt (@u4 _ _ _ _ _ _ _ %[(bz hr.units),%[bE,%[cc,%[2|0],%[0|2]|11],%[0|2]|11],%[0|2],(az _)|15] (@nZ _ _ _ _ %[(dG hr.units),%[1|0],%[(@b9 _)|23],(az _)|15]))),%[%[5,dY,%[R0,T3,T1,AI,%[1|0],%[%[bE,%[cc,%[2|0],%[0|2]|11],%[len,aB,%[%[1|0]|1]|6]|11]|1],∅,∅,∅,∅,∅|33]|4],%[%[%[%[0|0],T.cl_Hall,T.mt_Hall_drop,G_EE,(hr.mono ⋯),T.b_EE,.nil,ay,%[%[eS,%[5|0],%[0|2],(λ _ _=>rfl)|18]|1],∅,∅,∅|20],∅|14]|9]|10],%[%[(PW.pt (@u4 _ _ _ _ _ _ _ %[(bz hr.units),%[bE,%[cc,%[2|0],%[0|2]|11],%[0|2]|11],%[0|2],(az _)|15] (@nZ _ _ _ _ %[(dG hr.units),%[1|0],%[(@b9 _)|23],(az _)|15]))),%[%[%[Jd,%[%[0|0],%[%[1|0],%[%[cc,%[2|0],%[0|2]|11]|1]|1]|1]|3],∅|14]|9],%[%[%[qq,%[4|0],%[(["_law_row", "_law_hall", "_law_names", "_law_cell", "_law_room", "_law_name", "!_law_row", "_law_parts_here"]),(1),(aI (ae dJ) ["_law_hall", "_law_names", "_law_cell", "_law_room", "_law_name", "_law_row", "_law_parts_here"] rfl rfl nofun),rfl,%[%[1|0]|21],(λ _ _ _ _ _=>%[(0),_,(show List.Nodup (["_law_row", "_law_hall", "_law_names", "_law_cell", "_law_room", "_law_name", "!_law_row", "_law_parts_here"]:List Str) from by decide +kernel),rfl,(Or.inl rfl),%[0|7]|19]),(λ _ _ _ _ _=>(@aN _)),(λ _ _ _ _ _=>%[eS,%[0|0],%[0|2],(λ _ _=>rfl)|18]),(by intros;rfl)|22],(by with_unfolding_all rfl)|15],%[%[6,dY,%[BP,%[%[cc,%[2|0],%[0|2]|11],%[%[3|0]|1]|1]|3]|4],%[%[%[%[0|0],T.cl_Hall,T.mt_Hall_call,G_EC,(hr.mono ⋯),T.b_EC,.nil,ay,%[%[4|0],%[%[IX,%[%[6|0]|1]|3]|1]|1],∅,∅,∅|20],∅|14],%[%[%[R0,Si,Sh,bF,%[1|0],%[%[%[%[4|0],%[%[6|0]|1]|1]|36]|1],∅,∅,∅,∅,∅|33],∅|14]|9]|10]|10],(@aA _)|17]|9]|17]|9]|17]|9]|10],?_⟩;rw [show au ["_law_hall", "_law_names", "_law_cell", "_law_room", "_law_name", "_law_row", "_law_parts_here"] [.ref h,.ref L,.int c,.int (last.length:Int)]=[%[h|45],%[L|45],%[c|47],some (.int (last.length:Int)),none,none,none] from rfl];clear G_Jc G_Jd G_BP G_IX G_EE G_EC;exists k;exists nj;ac_rfl;rw [vT];refine⟨nv,ys,_,hL,al,by omega,λ x H1 e1 fx=>?_⟩;have n1:=(nj ()).move e1;have a6:=e1.at hL;have b1:=al.imp λ _ _ (q:NmV _ _ _ _)=>q.ext e1;have b2:ys.length=nv.length:=al.1;have eB:ys.length<=60:=by omega
  exists b2;have b3:∀ p∈nv,PyData.strOk p.nm=true:=λ p hp=>((nj ()).fo p hp).st;exists n1;exists b1;exists b3;have nn:=Lz (last.length:Int) nv;clear hL al;simp! only [-lj];refine gk (λ b H'=>(b=true ↔ (c / 8 % 4=0/\nv ≠ []))/\Ext H1 H') (λ Qb aa=>?_) ?_
  ·exists aa;clear k
   by_cases h8:c / 8 % 4=0
   ·ac_rfl;intro E1 H2 _ e2 ec;have a4:=e2.at a6;have d1:=yS (g:=noD) ((b1 ()).imp λ _ _ (q:NmV _ _ _ _)=>q.ext e2) (b3 ());clear a6
    by_cases hv:nv=[]
    ·rw [R7 hv] at nn;have hk:=aa () false H2 ⟨by simp [hv],e2⟩;clear aa hv;ac_rfl
    ·rw [R6 hv] at nn;have hk:=aa () true H2 ⟨by simp [hv,h8],e2⟩;clear aa hv;ac_rfl
   ·have hk:=aa () false H1 ⟨by simp [h8],Ext.refl _⟩;clear aa;ac_rfl
  rintro b H2 ⟨hb,e2⟩
  cases b with
  | true=>
   obtain⟨h8,a7⟩:=hb.mp rfl;have n2:=(nj ()).move (e1.trans e2);have a4:=n2.hN;obtain⟨c7,a8⟩:=n2.hb.ob;replace a8:=(ar _ H2).at a8
   have e9:1<=ys.length:=by rw [b2 ()];cases nv with|nil=>exact absurd rfl a7|cons a r=>simp
   have yp:0 < (ys.length:Int):=by omega
   exists n2;clear a6 hb a7;ac_rfl;have i0:=SI (c / 32) (show (ys.length:Int) ≠ 0 by omega);have i1:=SJ (c / 32) yp;generalize hix:c / 32 % (ys.length:Int)=ix at i0 i1 ⊢;clear hix;obtain⟨i,rfl⟩:=S6 i0;have c8:i < ys.length:=by omega
   have a3:i < nv.length:=by have:=b2 ();omega
   obtain⟨q,qp,b4,hq,a9⟩:=(n2 ()).nm.2 i nv[i] ys[i] (RE a3) (RE c8);have b5:nv[i]∈nv:=T7 a3;have c9:nv[i]? = some nv[i]:=RE a3;generalize hpp:nv[i]=p at b4 hq a9 b5 c9;have ee:ys[i]? = %[q|45]:=by rw [RE c8,b4]
   have de:=(ar _ H2).at hq;have ej:q ≠ L:=λ e=>da hq (by rw [e];simp);have fa:upd H2 L (.lst (ys.eraseIdx i)) q=some (.tup [.str p.nm,.ref qp]):=by rw [ah ej];exact de
   have el:h ≠ L:=λ e=>da (n2 ()).hb.ob.choose_spec (by rw [e];simp);have fu:upd H2 L (.lst (ys.eraseIdx i)) h=some (.ins t.a_Z0 c7 (iC st D Pp)):=by rw [ah el];exact a8
   refine⟨by omega,by omega,by omega,?_⟩;rw [Sk,ee,lO,Ei];rw [Sk];have b8:=(n2 ()).hb.nd;have en:upd H2 L (.lst (ys.eraseIdx i)) L=some (.lst (ys.eraseIdx i)):=ai;have dj:aE [l,Pp,W,L] (upd H2 L (.lst (ys.eraseIdx i)))=aE [l,Pp,W,L] H2:=lB (by simp);have dm:upd H2 L (.lst (ys.eraseIdx i)) l=%[last|46]:=by rw [ah (n2 ()).ne.2.2.1];exact(n2 ()).hl
   have dv:upd H2 L (.lst (ys.eraseIdx i)) Pp=some (.lst ps):=by rw [ah (n2 ()).ne.2.2.2.1];exact(n2 ()).hP
   have dy:cU t (upd H2 L (.lst (ys.eraseIdx i))) h st l D Pp last nv ps:=by
    have:=(n2 ()).hb;rw [←dj] at this;exact this.at (ar _ _) dm dv
   have dz:∀ b o,b ≠ L->H2 b=some o->upd H2 L (.lst (ys.eraseIdx i)) b=some o:=λ b o hb ep=>by rw [ah hb];exact ep
   have a5:Ext H0 (upd H2 L (.lst (ys.eraseIdx i))):=(n2 ()).e0.put (n2 ()).fr.2.2.2.1;exists dy;exists dz;exists a5;generalize upd H2 L (.lst (ys.eraseIdx i))=H3 at *;clear dj dm dv a8 a4 de hpp b4 hq a9;ac_rfl;rw [Cs];refine⟨st,l,D,Pp,last,nv,ps,p,dy (),b8,b5,rfl,((nj ()).fo p b5).nm,λ H4 q1 q2 dA=>?_⟩;rw [qz b8 c9] at dA;have aS:=(n2 ()).hb.dk;have nD:=da aS;have cb:L ≠ D:=λ e=>nD (by rw [←e];simp);have kp:∀ b o,b ≠ D->b ≠ L->H2 b=some o->H4 b=some o:=λ b o h1 h2 h3=>q2 b o h1 (dz () b o h2 h3);have cD:=(n2 ()).keptD kp
   obtain⟨w1,w2⟩:=(n2 ()).named (nv':=nv.eraseIdx i) (ys':=ys.eraseIdx i) (q1 H0 (a5 ()) (nj ()).fr.2.2.2.2) kp dA (q2 _ _ cb en) (((UM nv i).map NVw.nm).nodup b8) (by have:=(UM nv i).length_le;omega)
    (λ p hp=>⟨(((n2 ()).vw p (Tv hp)).1.cutD aS).ext cD,((n2 ()).vw p (Tv hp)).2⟩) (Al.erase i ((n2 ()).nm.imp λ _ _ z=>(z.cutD aS).ext cD)) (λ p hp=>(nj ()).ok p (Tv hp)) (λ p hp=>(nj ()).fo p (Tv hp))
   have kf:=k () _ _ _ w1 ((aD (S:=[D]) (aD (S:=[l,Pp,W,L]) (e1.trans e2))).trans w2) (by have:=(UM nv i).length_le;omega);clear k w1 w2 q1 q2 kp cD;ac_rfl
  | false=>
   clear hb;have dI:=e1.trans e2;have n2:=(nj ()).move dI;have a4:=n2.hN;have cv:=(b1 ()).imp λ _ _ (q:NmV _ _ _ _)=>q.ext e2;exists n2;exists cv;clear a6;simp! only [-lj];refine gk (λ b H'=>(b=true ↔ (c / 8 % 4=1/\nv ≠ []))/\Ext H2 H') (λ Qb aa=>?_) ?_
   ·exists aa;clear k
    by_cases h8:c / 8 % 4=1
    ·ac_rfl;intro E1 H3 _ e3 ec;have ba:=e3.at a4;have d1:=yS (g:=noD) ((cv ()).imp λ _ _ (q:NmV _ _ _ _)=>q.ext e3) (b3 ());clear a4
     by_cases hv:nv=[]
     ·rw [R7 hv] at nn;have hk:=aa () false H3 ⟨by simp [hv],e3⟩;clear aa hv;ac_rfl
     ·rw [R6 hv] at nn;have hk:=aa () true H3 ⟨by simp [hv,h8],e3⟩;clear aa hv;ac_rfl
    ·have hk:=aa () false H2 ⟨by simp [h8],Ext.refl _⟩;clear aa;ac_rfl
   rintro b H3 ⟨hb,e3⟩;have a5:=dI.trans e3;have n3:=(nj ()).move a5;have ba:=n3.hN;have cH:=(cv ()).imp λ _ _ (q:NmV _ _ _ _)=>q.ext e3;exists n3;clear a4
   cases b with
   | true=>
    obtain⟨h8,a7⟩:=hb.mp rfl;clear hb;have dN:0<=c / 32:=by omega
    ac_rfl;rw [Cq];refine⟨H0,st,l,D,Pp,W,nv,ys,last,rs,ps,n3 (),dN,a7,c6,λ nv' ys' H4 n4 w2 hle=>?_⟩;have kf:=k () _ _ _ n4 ((aD (S:=[D]) (aD (S:=[l,Pp,W,L]) a5)).trans w2) hle;clear k w2;ac_rfl
   | false=>
    clear hb;ac_rfl;have wk:=kr (K:=K) (R:=NmV (last.length:Int)) (λ _ _ _ _ h e=>h.ext e) ba cH;refine aL nv (λ _=>true) (λ p=>.str p.nm) (NmV (last.length:Int)) wk.1 wk.2 (aC %[0|8]) ?_ ?_
    ·intro D' pv xx H' N1 N0 fy hD e ⟨q,qp,hx,hq,a9⟩ k1 _;subst hx;have fz:N1 (.str pv.nm) H':=k1 rfl H' (Ext.refl _);clear k1 a9 wk cH ba k;simp! only [↓aO,↓aM]
    intro SL H4 f3 e4 bS;have cT:H4 SL=some (.lst ((nv.map NVw.nm).map V.str)):=by rw [bS,ko,Sv];rfl
    have c0:=a5.trans e4;have fs:=lR (nv.map NVw.nm);have fw:gC (.str x)=true:=rfl;have a3:=vH x (nv.map NVw.nm);have n4:=(nj ()).move c0;exists n4;clear bS wk cH ba
    by_cases hx:x∈nv.map NVw.nm
    ·rw [R7 hx] at a3;have kf:=k () nv ys H4 (n4 ()) ((ar [D] _).trans (aD c0)) (SX _);clear k;generalize nv.map NVw.nm=et at *;ac_rfl
    ·rw [R6 hx] at a3;have c2:∀ q'∈nv,q'.nm ≠ x:=λ q' ew e=>hx (by exact RW.mpr ⟨q',ew,e⟩);exists c2;generalize nv.map NVw.nm=et at *;have dN:0<=c / 32:=by omega
     have v1:=(nj ()).v1;have c3:=(n4 ()).lst;exists c3;ac_rfl;rw [qC];refine⟨by omega,by omega,by omega,λ q DL f A H5 e5 hq ey d0 d2 pk=>?_⟩;have d3:=c0.trans e5;have c4:x9 (aE [l,Pp,W,L] H5) q (last.length:Int) f A:=⟨DL,aZ ((c3 ()).ext e5) d0 (λ _ h=>by cases h),eV (c3 ()) e5 ey d2⟩;have n5:=(nj ()).move d3;obtain⟨c7,bp⟩:=n5.hb.ob;replace bp:=(ar _ H5).at bp;exists n5;exists c4;clear cT a3 fs fw d0 d2;ac_rfl;rw [cC];refine⟨_,f,A,(c4 ()).ext (ar _ H5),pk,by omega,by omega,λ xv H6 f5 e6 vx=>?_⟩;have c5:=vx [l,Pp,W,L] (n5 ()).lst;have d4:=d3.trans e6;have n6:=(nj ()).move d4;have ez:=e6.at bp;have d5:=n6.hb.at (ar _ H6) n6.hl n6.hP;have d6:=(c4 ()).ext (aD (S:=[l,Pp,W,L]) e6);have f6:=pk.pr;exists n6;exists c5;exists d5;exists d6;clear bp vx;ac_rfl;rw [qF];refine⟨st,l,D,Pp,last,nv,ps,f,A,d5 (),fx.nm,c2 (),by omega,(c5 ()).ext (ar _ H6),pk.ax,by omega,λ H7 q1 q2 d7=>?_⟩;have aS:=(n6 ()).hb.dk;have nD:=da aS;have cb:L ≠ D:=λ e=>nD (by rw [←e];simp);have cD:=(n6 ()).keptD (H'':=H7) λ b o h1 _ h3=>q2 b o h1 h3
     have d8:x9 (aE [l,Pp,W,L] H7) q (last.length:Int) f A:=by
      obtain⟨D2,h3,h4⟩:=d6 ();exact⟨D2,cD.at (cB aS h3 (λ _ h=>by cases h)),(bf.cutD aS h4).ext cD⟩
     have d9:pQ [l,Pp,W,L] H7:=λ s hs=>by
      obtain⟨ws,hw⟩:=(n6 ()).lst s hs;exact⟨ws,q2 _ _ (λ e=>nD (by rw [←e];exact hs)) hw⟩
     have ea:Ext H0 H7:=q1 H0 (n6 ()).e0 (nj ()).fr.2.2.2.2;have eb:=q2 _ _ cb (n6 ()).hN;have eH:ys.length < sizeLine:=fN %[0|8];exists d8;exists d9;exists q2;exists d7;exists ea;clear q1 cD aS ez;ac_rfl;intro t2 H8 _ e8 eA;have f7:=e8.at eb;obtain⟨w1,w2⟩:=(n6 ()).grown2 (q2 ()) (d7 ()) (ea ()) e8 (v:=xv) ⟨t2,q,rfl,aZ ((d9 ()).ext e8) eA (λ _ h=>by cases h),(d8 ()).ext (aD e8)⟩ (c5 ()) pk fx (c2 ()) c6;have kf:=k () _ _ _ w1 ((aD (S:=[D]) (aD (S:=[l,Pp,W,L]) d4)).trans w2) (by rw [R3];simp);exists kf;clear k w1 w2 eb;ac_rfl;exact kf ()
def vI{α:Type}{xs:List α}(a:α){zs:List α}:(xs++[a]++zs).head? = (xs++[a]).head?:=by
 cases xs<;>rfl
def JX.flt{nv:List NVw}(h:∀ p∈nv,eI p.nm)(f:NVw->Bool):JX ((nv.filter f).map NVw.nm):=λ x hx=>by
 obtain⟨p,hp,rfl⟩:=RW.mp hx;exact(h p (UK.mp hp).1).st
structure mL(t:Adr)(H0 H':Hp)(h st l D Pp W NL vl:Addr)(vals:List Int)(nv:List NVw)(ys:List V)(old:List (List Int))(last:List Int)(rs ps:List V):Prop where
 nj:mK t H0 H' h st l D Pp W NL nv ys last rs ps
 rw':mP (aE [l,Pp,W,NL] H') (old++[last]) rs
 pw:mP (aE [l,Pp,W,NL] H') old ps
 ln:∀ row∈old++[last],row.length=vals.length
 hv:aE [l,Pp,W,NL] H' vl=%[vals|46]
 hd:(old++[last]).head? = some vals
def mL.move{t:Adr}{H0 H' H'':Hp}{h st l D Pp W NL vl:Addr}{vals:List Int}{nv:List NVw}{ys:List V}{old:List (List Int)}{last:List Int}{rs ps:List V}(d:mL t H0 H' h st l D Pp W NL vl vals nv ys old last rs ps)(e:Ext H' H''):mL t H0 H'' h st l D Pp W NL vl vals nv ys old last rs ps:=
 have c:=aD (S:=[l,Pp,W,NL]) e
 ⟨d.nj.move e,d.rw'.ext c,d.pw.ext c,d.ln,c.at d.hv,d.hd⟩
def mL.named{t:Adr}{H0 H' H'':Hp}{h st l D Pp W NL vl:Addr}{vals:List Int}{nv nv':List NVw}{ys ys':List V}{old:List (List Int)}{last:List Int}{rs ps:List V}(d:mL t H0 H' h st l D Pp W NL vl vals nv ys old last rs ps)(n:mK t H0 H'' h st l D Pp W NL nv' ys' last rs ps)(e:Ext (aE [D] (aE [l,Pp,W,NL] H')) (aE [l,Pp,W,NL] H'')):mL t H0 H'' h st l D Pp W NL vl vals nv' ys' old last rs ps:=
 have hD:=d.nj.hb.dk
 ⟨n,(mP.cutD hD d.rw').ext e,(mP.cutD hD d.pw).ext e,d.ln,e.at (cB hD d.hv (λ _ h=>by cases h)),d.hd⟩
def mL.next{t:Adr}{H0 H' H'':Hp}{h st l D Pp W NL vl:Addr}{vals:List Int}{nv:List NVw}{ys:List V}{old aS:List (List Int)}{last aa:List Int}{rs ps a3 a4:List V}(d:mL t H0 H' h st l D Pp W NL vl vals nv ys old last rs ps)
  (e:Ext (aE [l,Pp,W,NL] H') H'') (e0:Ext H0 H'') (hl:H'' l=%[aa|46]) (hP:H'' Pp=some (.lst a4)) (hW:H'' W=some (.lst a3)) (hN:H'' NL=some (.lst ys)) (r1:mP (aE [l,Pp,W,NL] H'') (aS++[aa]) a3) (r2:mP (aE [l,Pp,W,NL] H'') aS a4) (ln:∀ row∈aS++[aa],row.length=vals.length) (hd:(aS++[aa]).head? = some vals) :
  mL t H0 H'' h st l D Pp W NL vl vals nv ys aS aa a3 a4:=by
 have c:=gm e;have l1:aa.length=last.length:=(ln aa (by simp)).trans (d.ln last (by simp)).symm;obtain⟨_,n2,n3,n4,n5,n6,_,_,_,_,a6,a7,a5⟩:=d.nj;rw [←l1] at n3 n4 n5 a5;exact⟨⟨e0,n2.ext c (aT (by simp)) (aT (by simp)),n3.ext c,n4.imp λ _ _ q=>q.ext c,n5,n6,hN,hl,hP,hW,a6,a7,a5⟩,r1,r2,ln,c.at d.hv,hd⟩
def mL.back{t:Adr}{H0 H':Hp}{h st l D Pp W NL vl:Addr}{vals:List Int}{nv:List NVw}{ys:List V}{old:List (List Int)}{prev last:List Int}{rs ps:List V}(d:mL t H0 H' h st l D Pp W NL vl vals nv ys (old++[prev]) last rs ps) :
  ∃ (aa:List V) (lp lr:Addr) (aS:List V) (bp:Addr),rs=aa++[.ref lp]++[.ref lr]/\ps=aS++[.ref bp]/\aa.length=old.length/\aS.length=old.length/\aE [l,Pp,W,NL] H' lr=%[last|46]/\aE [l,Pp,W,NL] H' lp=%[prev|46]/\aE [l,Pp,W,NL] H' bp=%[prev|46]/\prev.length=last.length /\
   ∀ H2,Ext (aE [l,Pp,W,NL] H') H2->(∀ H0,Ext H0 (upd H' W (.lst (aa++[.ref lp])))->H0 l=none->H0 Pp=none->Ext H0 H2)->H2 l=%[prev|46]->H2 Pp=some (.lst aS)->mL t H0 H2 h st l D Pp W NL vl vals nv ys old prev (aa++[.ref lp]) aS:=by
 obtain⟨b2,y,rfl,ba,lr,rfl,bS⟩:=b0 d.rw';obtain⟨aa,y,rfl,a6,lp,rfl,a8⟩:=b0 ba;obtain⟨aS,y,rfl,a7,bp,rfl,b1⟩:=b0 d.pw;refine⟨aa,lp,lr,aS,bp,rfl,rfl,a6.1,a7.1,bS,a8,b1,(d.ln prev (by simp)).trans (d.ln last (by simp)).symm,λ H2 a1 a3 a4 a5=>?_⟩;have ci:=gm a1;have ne:=d.nj.ne;have e0:Ext H0 (upd H' W (.lst (aa++[.ref lp]))):=d.nj.e0.put d.nj.fr.2.2.1;refine d.next a1 (a3 H0 e0 d.nj.fr.1 d.nj.fr.2.1) a4 a5 (og a3 (RO ne.1) (RO ne.2.1) ai) (og a3 (RO ne.2.2.1) (RO ne.2.2.2.1) (by rw [ah (RO ne.2.2.2.2)];exact d.nj.hN)) ?_ (mP.ext a7 ci) (λ row a9=>d.ln row (T9 _ a9)) ?_
 ·exact Al.snoc (mP.ext a6 ci) ⟨lp,rfl,ci.at a8⟩
 ·exact(vI prev).symm.trans d.hd
def mL.deed{t:Adr}{H0 H' H2:Hp}{h st l D Pp W NL vl rN b:Addr}{vals:List Int}{nv:List NVw}{ys:List V}{old:List (List Int)}{last bN:List Int}{rs ps:List V}(d:mL t H0 H' h st l D Pp W NL vl vals nv ys old last rs ps)
  (hr:aE [l,Pp,W,NL] H' rN=%[bN|46]) (aa:bN.length=last.length) (hb:b ∉ [l,Pp,W,NL]) (aS:H2 b=%[last|46]) (a1:Ext (aE [l,Pp,W,NL] H') H2) (a3:∀ H0,Ext H0 (upd H' W (.lst (rs++[.ref rN])))->H0 l=none->H0 Pp=none->Ext H0 H2) (a4:H2 l=%[bN|46]) (a5:H2 Pp=some (.lst (ps++[.ref b]))) :
  mL t H0 H2 h st l D Pp W NL vl vals nv ys (old++[last]) bN (rs++[.ref rN]) (ps++[.ref b]):=by
 have ci:=gm a1;have ne:=d.nj.ne;have e0:Ext H0 (upd H' W (.lst (rs++[.ref rN]))):=d.nj.e0.put d.nj.fr.2.2.1;refine d.next a1 (a3 H0 e0 d.nj.fr.1 d.nj.fr.2.1) a4 a5 (og a3 (RO ne.1) (RO ne.2.1) ai) (og a3 (RO ne.2.2.1) (RO ne.2.2.2.1) (by rw [ah (RO ne.2.2.2.2)];exact d.nj.hN)) ?_ ?_ ?_ ?_
 ·exact Al.snoc (mP.ext d.rw' ci) ⟨rN,rfl,ci.at hr⟩
 ·exact Al.snoc (mP.ext d.pw ci) ⟨b,rfl,ll hb aS⟩
 ·intro row hrow
  rcases SD.mp hrow with hrow|hrow
  ·exact d.ln row hrow
  ·rw [RP.mp hrow,aa];exact d.ln last (by simp)
 ·exact(vI last).trans d.hd
abbrev Ae(t:Adr)(h:Addr)(L:Addr)(W:Addr)(c:Int)(room:Int)(H:Hp)(Q:VK)(E:XK):Prop:=∃ (H0:Hp) (st l D Pp vl:Addr) (vals:List Int) (nv:List NVw) (ys:List V) (old:List (List Int)) (last:List Int) (rs ps:List V),mL t H0 H h st l D Pp W L vl vals nv ys old last rs ps/\0<=c/\room=(vals.length:Int)/\nv.length<=60/\old.length<=900/\∀ (nv':List NVw) (ys':List V) (old':List (List Int)) (last':List Int) (rs' ps':List V) (H':Hp),mL t H0 H' h st l D Pp W L vl vals nv' ys' old' last' rs' ps'->nv'.length<=nv.length+1->old'.length<=old.length+1->Q (.bl true) H'
def Ge(t:Adr):Sp:=λ vs H Q E=>∃ (h:Addr) (L:Addr) (W:Addr) (c:Int) (room:Int),vs=[.ref h,.ref L,.ref W,.int c,.int room]/\(Ae t h L W c room H Q E)
def JI(t:Adr)(h:Addr)(L:Addr)(W:Addr)(c:Int)(room:Int)(H:Hp)(Q:VK)(E:XK):Ge t [.ref h,.ref L,.ref W,.int c,.int room] H Q E=(Ae t h L W c room H Q E):=Q0 (f:=λ (h:Addr) (L:Addr) (W:Addr) (c:Int) (room:Int)=>[.ref h,.ref L,.ref W,.int c,.int room]) (λ _ _ _ _ _ _ _ _ _ _ h=>by cases h;exact⟨rfl,rfl,rfl,rfl,rfl⟩) h L W c room
def ur(T:Tx K mg t):%[13,ZE|49] ["_law_hall", "_law_names", "_law_rows", "_law_cell", "_law_room"] (Ge t):=by
 have G_Ex:=%[oY|44];have G_Jb:=%[gd|44];have G_BB:=%[gH|44];have G_BR:=%[oZ|44];have G_Ja:=%[rK|44];have G_xt:=%[jF|44];have G_ZJ:=%[ny|44];refine T.F_ZE.ok jD (λ _ _ _ _ h=>Q1 h λ _ _ _ _ _=>rfl) (λ cdv A' outer s0 H vs Q E hr h=>?_)
 ·obtain⟨h,L,W,c,_,rfl,H0,st,l,D,Pp,vl,vals,nv,ys,old,last,rs,ps,dj,gs,rfl,fa,d2,k⟩:=h;have c1:=T.cl_Hall;have f1:=bK st D Pp (m := "do") nofun;have c6:=dj.ln last (by simp);have v1:=dj.nj.v1;obtain⟨aa,y,rfl,c7,lr,rfl,b8⟩:=b0 dj.rw';have hW:=dj.nj.hW;have la:=iK aa (V.ref lr);have b1:aa.length=old.length:=c7.1;have ba:=(ar _ H).at b8;refine⟨_,%[%[5,jD,%[eS,%[2|0],%[ei,%[0|2]|38],(λ _ _=>rfl)|18]|4],%[%[%[(bz hr.units),%[bE,%[3|0],%[0|2]|11],%[0|2],(az _)|15],%[%[%[Ex,%[%[0|0],%[%[1|0],%[%[cc,%[3|0],%[0|2]|11],%[%[4|0]|1]|1]|1]|1]|3],∅|14],%[%[(@ku _ _ _ _)|12]|9]|10],(@aA _)|17],%[%[(PW.pt (@u4 _ _ _ _ _ _ _ %[(bz hr.units),%[bE,%[3|0],%[0|2]|11],%[0|2],(az _)|15] (@nZ _ _ _ _ %[wC,%[len,aB,%[%[2|0]|1]|6],%[0|2],(az _)|15]))),%[%[(@u6 _ _ _ _ _ _ _ _ _ R0 T3 T1 tZ %[2|0] ∅ ∅),∅|14],%[%[%[(bz hr.units),%[Jb,%[%[0|0]|1]|3],%[BB,%[%[1|0],%[%[5|0],%[%[eS,%[2|0],%[ei,%[0|2]|38],(λ _ _=>rfl)|18]|1]|1]|1]|3],(az _)|34]|12]|9]|10],(@aA _)|17],%[%[6,jD,%[BR,%[%[cc,%[3|0],%[0|2]|11],%[%[4|0]|1]|1]|3]|4],%[%[%[R0,Si,Sh,bF,%[2|0],%[%[Ja,%[%[5|0],%[%[6|0]|1]|1]|3]|1],∅,∅,∅,∅,∅|33],∅|14],%[%[%[(bz hr.units),%[%[0|0],T.cl_Hall,T.mt_Hall_do,G_ZJ,(hr.mono ⋯),T.b_ZJ,.nil,ay,%[%[xt,%[%[6|0]|1]|3]|1],∅,∅,∅|20],%[BB,%[%[1|0],%[%[5|0],%[%[eS,%[2|0],%[ei,%[0|2]|38],(λ _ _=>rfl)|18]|1]|1]|1]|3],(az _)|34]|12]|9]|10]|10]|10]|10]|10],?_⟩;rw [show au ["_law_hall", "_law_names", "_law_rows", "_law_cell", "_law_room", "_law_before", "_law_deed"] [.ref h,.ref L,.ref W,.int c,.int (vals.length:Int)]=[%[h|45],%[L|45],%[W|45],%[c|47],some (.int (vals.length:Int)),none,none] from rfl];clear G_Ex G_Jb G_BB G_BR G_Ja G_xt G_ZJ;exists k;exists dj;exists c7;exists b8
  by_cases h4:c % 4=0
  ·have c8:0<=c / 4:=by omega
   ac_rfl;rw [Co];refine⟨H0,st,l,D,Pp,W,nv,ys,last,_,ps,(dj ()).nj,c8,by rw [c6],fa,λ nv' ys' H1 n1 w1 hle=>?_⟩;have kf:=k () nv' ys' old last _ ps H1 ((dj ()).named n1 w1) hle (SX _);clear k w1 hW ba;ac_rfl
  ·simp! only [-lj];refine gk (λ b H'=>b=false/\H'=H) (λ Qb aS=>?_) ?_
   ·have hk:=aS false H ⟨rfl,rfl⟩;clear aS k;ac_rfl
   rintro b H1 ⟨rfl,rfl⟩;simp! only [-lj];have b2:((aa++[V.ref lr]).length:Int)=(old.length:Int)+1:=by rw [R3,b1];rfl
   refine gk (λ b H'=>(b=true ↔ (c % 4=1/\old ≠ []))/\H'=H1) (λ Qb aS=>?_) ?_
   ·exists aS;clear k
    by_cases c9:c % 4=1
    ·by_cases ho:old=[]
     ·have hk:=aS () false H1 ⟨by simp [ho],rfl⟩;have fu:¬ (1:Int) < ((aa++[V.ref lr]).length:Int):=by rw [b2,ho];decide
      clear aS ho b1 b2;ac_rfl
     ·have hk:=aS () true H1 ⟨by simp [c9,ho],rfl⟩
      have fu:(1:Int) < ((aa++[V.ref lr]).length:Int):=by
       have:=List.length_pos_iff.mpr ho;omega
      clear aS ho b1 b2;ac_rfl
    ·have hk:=aS () false H1 ⟨by simp [c9],rfl⟩;clear aS b1 b2;ac_rfl
   rintro b H2 ⟨hb,rfl⟩;clear b1 b2
   cases b with
   | true=>
    obtain⟨c9,ho⟩:=hb.mp rfl;clear hb;obtain⟨cT,prev,rfl⟩:∃ o p,old=o++[p]:=⟨old.dropLast,old.getLast ho,(Ub ho).symm⟩;obtain⟨a8,lp,g0,cb,bp,d3,rfl,g4,fw,d5,d6,d8,d9,kb⟩:=(dj ()).back;obtain⟨rfl,ea⟩:=List.append_inj' d3 rfl;cases ea;have o1:cT.length<=900:=by rw [R3] at d2;omega
    have kf:=λ r2=>k () nv ys cT prev (a8++[V.ref lp]) cb r2;exists kb;exists d6;exists d8;exists kf;clear k la ho d3 d5 ba;ac_rfl;refine sO (ys:=a8++[V.ref lp]) hW ?_;have ne:=(dj ()).nj.ne;have eb:aE [l,Pp,W,L] (upd H2 W (.lst (a8++[V.ref lp])))=aE [l,Pp,W,L] H2:=lB (by simp);have de:upd H2 W (.lst (a8++[V.ref lp])) W=some (.lst (a8++[V.ref lp])):=ai;have ec:upd H2 W (.lst (a8++[V.ref lp])) l=%[last|46]:=(ah ne.1).trans (dj ()).nj.hl;have ee:upd H2 W (.lst (a8++[V.ref lp])) Pp=some (.lst (cb++[V.ref bp])):=(ah ne.2.1).trans (dj ()).nj.hP;have fx:upd H2 W (.lst (a8++[V.ref lp])) L=some (.lst ys):=(ah (RO ne.2.2.2.2)).trans (dj ()).nj.hN;have k3:=kb ();exists k3;clear kb;generalize upd H2 W (.lst (a8++[V.ref lp]))=H3 at *;have eB:Ext (aE [l,Pp,W,L] H2) H3:=by rw [←eb];exact ar _ _
    clear hW;ac_rfl;rw [iU];refine⟨aE [l,Pp,W,L] H2,st,l,D,Pp,last,nv,cb++[V.ref bp],(dj ()).nj.hb,eB,ec,ee,by rw [R3,fw];show _+1<=_;omega,by omega,by omega,(dj ()).nj.vw,.inr ⟨cb,bp,prev,rfl,d8 (),d9,λ r H4 a1 a2 a3 a4 a5 a6=>?_⟩⟩;have d4:=k3 () H4 a1 a3 a4 a5;have dm:=d4.nj.hW;have ej:=d4.nj.hN;have a9:=a1.at (b8 ());have c0:=a1.at (d6 ());have el:Al (λ p y=>NmV (last.length:Int) p y H4) nv ys:=(dj ()).nj.nm.imp λ _ _ q=>q.ext a1;have la:=iK a8 (V.ref lp);have b3:=(dj ()).nj.ok;have fo:=(dj ()).nj.fo;rw [eL] at a6;exists el;exists d4;exists b3;exists fo;clear k3 a1 a3 a4 a5 ec ee fx de eB eb;ac_rfl;rw [ud];refine⟨last,prev,nv,ys,(last.length:Int),ej,el (),a9,c0,rfl,d9,by omega,by omega,b3 (),λ r2 H5 fy e5 h5=>?_⟩;rw [eL] at h5;have h6:=e5.at a6;have s1:=λ g=>cI H5 g ((nv.filter (mJ prev last)).map NVw.nm) (JX.flt (fo ()) _);have s2:=iI ((nv.filter (mJ prev last)).map NVw.nm);have kk:=kf () H5 ((d4 ()).move e5) (SX _) (by rw [R3];exact Nat.le_add_right_of_le (SR _ _));clear kf a6 dm ej a9 c0;generalize (nv.filter (mJ prev last)).map NVw.nm=fz at *;ac_rfl
   | false=>
    clear hb;have c8:0<=c / 4:=by omega
    have ls:=(dj ()).nj.lst;exists ls;ac_rfl;rw [Cu];refine⟨[l,Pp,W,L],ls (),c8,by omega,by omega,λ d j q1 q2 z b4 A1 f2 A2 H3 e3 dd dk=>?_⟩;have c2:=e3.at ba;have de:=e3.at hW;have en:(vals.length:Int)=(last.length:Int):=by omega
    exists dd;exists en;clear ba hW;ac_rfl;rw [Cv];refine⟨last,j,q1,q2,z,_,b4,A1,f2,A2,c2,(dd ()).ext (ar _ H3),dk,en (),by omega,λ rN H4 ep e4 et=>?_⟩;have ew:=e3.trans e4;have d4:=(dj ()).move ew;have dm:=d4.nj.hW;have ey:=(dd ()).ext (aD (S:=[l,Pp,W,L]) e4);have bS:aE [l,Pp,W,L] H4 rN=some (.lst ((uX j last (af b4 A1) (af f2 A2) z).map V.int)):=zM ((ls ()).ext e3) ep et;have a9:=(aD (S:=[l,Pp,W,L]) ew).at (b8 ());have b5:=vk j last (af b4 A1) (af f2 A2) z;obtain⟨bN,dv⟩:∃ v2,v2=uX j last (af b4 A1) (af f2 A2) z:=⟨_,rfl⟩;rw [←dv] at bS b5;have g5:(aa++[V.ref lr]).length < sizeLine:=fN (by rw [R3,(c7 ()).1,List.length_singleton];omega);exists dv;exists d4;exists ey;exists bS;exists a9;clear c2 dd ep et la de;ac_rfl;have ne:=(dj ()).nj.ne;have cv:aE [l,Pp,W,L] (upd H4 W (.lst (aa++[V.ref lr]++[V.ref rN])))=aE [l,Pp,W,L] H4:=lB (by simp);have dy:upd H4 W (.lst (aa++[V.ref lr]++[V.ref rN])) W=some (.lst (aa++[V.ref lr]++[V.ref rN])):=ai;have dz:upd H4 W (.lst (aa++[V.ref lr]++[V.ref rN])) l=%[last|46]:=(ah ne.1).trans (d4 ()).nj.hl;have dA:upd H4 W (.lst (aa++[V.ref lr]++[V.ref rN])) Pp=some (.lst ps):=(ah ne.2.1).trans (d4 ()).nj.hP;have dI:upd H4 W (.lst (aa++[V.ref lr]++[V.ref rN])) L=some (.lst ys):=(ah (RO ne.2.2.2.2)).trans (d4 ()).nj.hN;have kd:=λ (H2:Hp) (b:Addr) hb f3 a1=>(d4 ()).deed (H2:=H2) (b:=b) (bS ()) b5 hb f3 a1;exists kd;generalize upd H4 W (.lst (aa++[V.ref lr]++[V.ref rN]))=H5 at *;have eB:Ext (aE [l,Pp,W,L] H4) H5:=by rw [←cv];exact ar _ _
    have ez:pQ [l,Pp,W,L] H5:=λ s hs=>by
     simp only [RZ,RS,Sb] at hs
     rcases hs with rfl|rfl|rfl|rfl
     ·exact⟨_,dz⟩
     ·exact⟨_,dA⟩
     ·exact⟨_,dy⟩
     ·exact⟨_,dI⟩
    obtain⟨g6,cD⟩:=(d4 ()).nj.hb.ob;replace cD:=eB.at cD;exists cv;clear dm;ac_rfl;rw [JG];refine⟨[l,Pp,W,L],j,q1,q2,z,_,b4,A1,f2,A2,ez,by rw [cv ()];exact ey (),dk,by omega,by omega,λ sx u v f5 g1 B1 g2 B2 H6 e6 eA eH c3=>?_⟩
    have dN:Ext (aE [l,Pp,W,L] H4) (aE [l,Pp,W,L] H6):=by
     have:=aD (S:=[l,Pp,W,L]) e6;rw [cv ()] at this;exact this
    have d0:=e6.at dz;have d1:=e6.at dA;have e1:=e6.at dy;have e2:=e6.at dI;have f6:=e6.at cD
    have f7:ps.length<=1000:=by
     have:=(dj ()).pw.1;rw [this];omega
    exists eA;exists eH;exists c3;clear cD ez dz dA dy dI eB;ac_rfl;rw [zR];refine⟨aE [l,Pp,W,L] H6,st,l,D,Pp,last,nv,ps,j,u,v,f5,z,g1,B1,g2,B2,(d4 ()).nj.hb.ext dN (aT (by simp)) (aT (by simp)),ar _ _,d0,d1,f7,by omega,(d4 ()).nj.vw.ext dN,dk.i5,eA (),λ j0=>?_,λ r b H7 a1 ab a2 g8 a3 a4 a5 a6 a7=>?_⟩
    ·obtain⟨vu,pu,vv,pv,f9⟩:=eH () j0;have hc:=pu.pr;have hg:=pv.pr;exact⟨⟨by rw [c6];exact vu,pu.ax,by omega,pu.on %[0|8]⟩,⟨by rw [c6];exact vv,pv.ax,by omega,pv.on %[0|8]⟩,f9⟩
    rw [c3 () last,←dv ()] at a4 a7;rw [eL] at a7
    have gb:b ∉ [l,Pp,W,L]:=by
     simp only [RZ,RS,Sb,T6];exact⟨RO (eG d0 ab),RO (eG d1 ab),RO (eG e1 ab),RO (eG e2 ab)⟩
    have cH:=dN.trans a1;have d7:=kd () H7 b gb a6 cH (λ H0 q=>a3 H0 (q.trans e6)) a4 a5;have gi:=d7.nj.hW;have e7:=d7.nj.hN;have c4:=cH.at (a9 ());have c5:=cH.at (bS ());have e9:Al (λ p y=>NmV (last.length:Int) p y H7) nv ys:=(d4 ()).nj.nm.imp λ _ _ q=>q.ext cH;have la:=iK (aa++[V.ref lr]) (V.ref rN);have b3:=(dj ()).nj.ok;have fo:=(dj ()).nj.fo;exists e9;exists d7;exists b3;exists fo;clear kd a1 a3 a4 a5 a6 d0 d1 e1 e2 f6;ac_rfl;rw [ud];refine⟨last,bN,nv,ys,(last.length:Int),e7,e9 (),c4,c5,rfl,b5,by omega,by omega,b3 (),λ r2 H8 fy e8 h8=>?_⟩;rw [eL] at h8;have h9:=e8.at a7;have s1:=λ g=>cI H8 g ((nv.filter (mJ bN last)).map NVw.nm) (JX.flt (fo ()) _);have s2:=iI ((nv.filter (mJ bN last)).map NVw.nm);have kk:=k () _ _ _ _ _ _ H8 ((d7 ()).move e8) (SX _) (by rw [R3];exact RJ _);clear k a7 gi e7 c4 c5;generalize (nv.filter (mJ bN last)).map NVw.nm=fz at *;ac_rfl
def aH.down{P:Program}{w:World}{K:W.Frag}{mg:Str->Option Value}{base:Heap}{k:Nat}{f:Addr}{fd:FuncData}{ps:List Str}{sp aa:Sp}(F:aH P w K mg base (CX1 P  w) k f fd ps sp)(h:∀ vs H Q E,aa vs H Q E->sp vs H Q (λ _ _ _=>False)):aH P w K mg base CX0 k f fd ps aa:=
 ⟨λ vs H Q E q=>F.len vs H Q _ (h vs H Q E q),λ A outer s H args us vs Q E hr he hb hv hs=>TQ (F.run A outer s H args us vs Q _ hr he hb hv (h vs H Q E hs)) λ r s' q=>by
  cases r with
  | error e=>
   obtain⟨_,_,_,_,_,_,_,_,_,_,_,_,_,_,_,_,q⟩:=q;exact q
  | ok c=>cases c<;>exact q⟩
abbrev nS(t:Adr)(h:Addr)(H:Hp)(Q:VK)(E:XK):Prop:=∃ (B:Hp) (st l D Pp:Addr) (vals:List Int) (nv:List NVw) (ps:List V),jh t B h st l D Pp nv/\Ext B H/\H l=%[vals|46]/\H Pp=some (.lst ps)/\ps.length<=1000/\1<=vals.length/\vals.length<=4096/\iD t.a_ZZ B vals.length nv/\GG t B H l Pp vals nv ps Q
def vh(t:Adr):Sp:=λ vs H Q E=>∃ (h:Addr),vs=[.ref h]/\(nS t h H Q E)
def xS(t:Adr)(h:Addr)(H:Hp)(Q:VK)(E:XK):vh t [.ref h] H Q E=(nS t h H Q E):=jM (f:=λ (h:Addr)=>[.ref h]) (λ _ _ h=>by cases h;exact rfl) h
def rQ(T:Tx K mg t):%[10,EH|49] ["self"] (vh t):=by
 refine aH.down (i6 (P:=P) (w:=w) (base:=base) T) λ vs H Q E h=>?_;obtain⟨h,rfl,B,st,l,D,Pp,vals,nv,ps,h1,h2,h3,h4,h5,h6,h7,h8,h9⟩:=h;exact⟨h,rfl,B,st,l,D,Pp,vals,nv,ps,h1,h2,h3,h4,h5,h6,h7,h8,.inr h9⟩
def vAt:Nat->List Int
 | 0=>[0,0]
 | k+1=>(vAt k).set (k % 2) ((k:Int)+1)
def eU:∀ k,(vAt k).length=2
 | 0=>rfl
 | k+1=>by
  show ((vAt k).set (k % 2) ((k:Int)+1)).length=2
  rw [UY,eU k]
def K0(k:Nat):(vAt (k+1))[k % 2]? = some ((k:Int)+1):=by
 show ((vAt k).set (k % 2) ((k:Int)+1))[k % 2]? = _
 rw [TU (by rw [eU];omega)]
def GL(k:Nat):uX 1 (vAt k) (af ((k:Int) % 2) []) (af ((k:Int) % 2) []) ((k:Int)+1)=vAt (k+1):=by
 show (vAt k).set (((k:Int) % 2)).toNat ((k:Int)+1)=(vAt k).set (k % 2) ((k:Int)+1)
 congr 1
structure fJ(t:Adr)(H0 H':Hp)(h st l D Pp:Addr)(k:Nat)(ps:List V):Prop where
 e0:Ext H0 H'
 hb:jh t (aE [l,Pp] H') h st l D Pp []
 hl:H' l=some (.lst ((vAt k).map V.int))
 hP:H' Pp=some (.lst ps)
 pw:mP (aE [l,Pp] H') ((List.range k).map vAt) ps
 fr:H0 l=none/\H0 Pp=none
def fJ.lst{t:Adr}{H0 H':Hp}{h st l D Pp:Addr}{k:Nat}{ps:List V}(d:fJ t H0 H' h st l D Pp k ps):pQ [l,Pp] H':=λ s hs=>by
 simp only [RZ,RS,Sb] at hs
 rcases hs with rfl|rfl
 ·exact⟨_,d.hl⟩
 ·exact⟨_,d.hP⟩
def fJ.len{t:Adr}{H0 H':Hp}{h st l D Pp:Addr}{k:Nat}{ps:List V}(d:fJ t H0 H' h st l D Pp k ps):ps.length=k:=by
 have:=d.pw.1;rw [this,RH,Sr]
def fJ.move{t:Adr}{H0 H' H'':Hp}{h st l D Pp:Addr}{k:Nat}{ps:List V}(d:fJ t H0 H' h st l D Pp k ps)(e:Ext H' H''):fJ t H0 H'' h st l D Pp k ps:=
 have c:=aD (S:=[l,Pp]) e
 ⟨d.e0.trans e,d.hb.ext c (aT (by simp)) (aT (by simp)),e.at d.hl,e.at d.hP,d.pw.ext c,d.fr⟩
def fJ.deed{t:Adr}{H0 H' H'':Hp}{h st l D Pp b:Addr}{k:Nat}{ps:List V}(d:fJ t H0 H' h st l D Pp k ps)(a1:Ext (aE [l,Pp] H') H'')(hb:H' b=none)(a3:∀ H0,Ext H0 H'->H0 l=none->H0 Pp=none->Ext H0 H'')(a4:H'' l=some (.lst ((vAt (k+1)).map V.int)))(a5:H'' Pp=some (.lst (ps++[.ref b])))(a6:H'' b=some (.lst ((vAt k).map V.int))):fJ t H0 H'' h st l D Pp (k+1) (ps++[.ref b]):=by
 have ci:=gm a1;refine⟨a3 H0 d.e0 d.fr.1 d.fr.2,d.hb.ext ci (aT (by simp)) (aT (by simp)),a4,a5,?_,d.fr⟩;rw [Vn,S7];refine Al.snoc (mP.ext d.pw ci) ⟨b,rfl,ll ?_ a6⟩;simp only [RZ,RS,Sb,T6];exact⟨RO (eG d.hl hb),RO (eG d.hP hb)⟩
def fJ.back{t:Adr}{H0 H':Hp}{h st l D Pp:Addr}{k:Nat}{ps:List V}(d:fJ t H0 H' h st l D Pp (k+1) ps):∃ (aa:List V) (bp:Addr),ps=aa++[.ref bp]/\aE [l,Pp] H' bp=some (.lst ((vAt k).map V.int))/\∀ H'',Ext (aE [l,Pp] H') H''->(∀ H0,Ext H0 H'->H0 l=none->H0 Pp=none->Ext H0 H'')->H'' l=some (.lst ((vAt k).map V.int))->H'' Pp=some (.lst aa)->fJ t H0 H'' h st l D Pp k aa:=by
 have pw:=d.pw;rw [Vn,S7] at pw;obtain⟨aa,y,rfl,aS,bp,rfl,a6⟩:=b0 pw;exact⟨aa,bp,rfl,a6,λ H'' a1 a3 a4 a5=>⟨a3 H0 d.e0 d.fr.1 d.fr.2,d.hb.ext (gm a1) (aT (by simp)) (aT (by simp)),a4,a5,mP.ext aS (gm a1),d.fr⟩⟩
def yw  : Sp:=λ vs H Q E=>vs=[]/\(∀ H',Ext H H'->Q (.bl true) H')
def Ff   (H:Hp) (Q:VK) (E:XK):yw  [] H Q E=(∀ H',Ext H H'->Q (.bl true) H'):=propext ⟨(λ ⟨e,q⟩=>by cases e;exact q),λ q=>⟨rfl,q⟩⟩
def Ew  {vs:List V}{H:Hp}{Q:VK}{E:XK}(h:yw  vs H Q E):vs.length=0:=by
 obtain⟨rfl,_⟩:=h;rfl
def rH(T:Tx K mg t):%[12,Je|49] [] (yw):=by
 have G_xy:=%[fG|44];have G_ZJ:=%[ny|44];have G_EH:=%[rQ|44];have G_uD:=%[eg|44];have G_xu:=%[bX|44];have G_Bp:=%[fH|44];have G_Jb:=%[gd|44];refine T.F_Je.ok dn (λ vs H Q E h=>Ew h) (λ cdv A' outer s0 H vs Q E hr h=>?_)
 ·obtain⟨rfl,k⟩:=h;have c1:=T.cl_Hall;refine⟨_,%[%[0,dn,%[T.mk_Hall,G_xy,(hr.mono ⋯),∅,T.m_Z0,T.b_xy,.nil,ay,%[%[%[%[0|2],%[%[0|2]|1]|1]|23]|1],⋯,∅,∅|32]|4],%[%[R9,rfl,%[∅,T.z_range,%[%[0|2]|1],∅|39],%[1,dn|5],%[%[%[%[0|0],T.cl_Hall,T.mt_Hall_do,G_ZJ,(hr.mono ⋯),T.b_ZJ,.nil,ay,%[%[T.mk_Fill,G_Bp,(hr.mono ⋯),∅,T.m_Z4,T.b_Bp,.nil,ay,%[%[T.mk_View,G_xu,(hr.mono ⋯),∅,T.m_ZZ,T.b_xu,.nil,ay,%[%[0|2],%[%[bE,%[1|0],%[0|2]|11],%[%[(@b9 _)|23]|1]|1]|1],⋯,∅,∅|32],%[%[bM,%[1|0],%[0|2]|11]|1]|1],⋯,∅,∅|32]|1],∅,∅,∅|20],∅|14]|9],(by intros;rfl)|27],%[%[R9,rfl,%[∅,T.z_range,%[%[0|2]|1],∅|39],%[1,dn|5],%[%[2,dn,%[fA,%[0|2],%[1|0]|11]|4],%[%[(PW.pt %[%[(dG hr.units),%[eS,%[%[0|0],T.cl_Hall,T.mt_Hall_all_values,G_uD,(hr.mono ⋯),T.b_uD,.nil,ay,∅|25],%[bE,%[2|0],%[0|2]|11],(λ _ _=>rfl)|18],%[bM,%[2|0],%[0|2]|11],(az _)|15],(@gD _ _ _ _ %[(dG hr.units),%[%[0|0],T.cl_Hall,T.mt_Hall_back,G_EH,(hr.mono ⋯),T.b_EH,.nil,ay,∅|25],%[(@b9 _)|23],(az _)|15])|37]),%[%[(@ku _ _ _ _)|12]|9],(@aA _)|17]|9]|10],(by intros;rfl)|27],%[%[%[%[yR,%[Jb,%[%[0|0]|1]|3],(@p9 _ _ _),(az _)|34],(@jS _ _ _ _ _ %[(bz hr.units),%[%[0|0],T.cl_Hall,T.mt_Hall_all_values,G_uD,(hr.mono ⋯),T.b_uD,.nil,ay,∅|25],%[%[%[0|2],%[%[0|2]|1]|1]|23],(az _)|34])|35]|12]|9]|10]|10]|10],?_⟩;rw [show au ["_law_hall", "_law_k", "_law_at"] []=[none,none,none] from rfl];clear G_xy G_ZJ G_EH G_uD G_xu G_Bp G_Jb;exists k;ac_rfl;intro L0 H1 _ e1 h1;have b4:H1 L0=some (.lst (([0,0]:List Int).map V.int)):=h1;clear h1;ac_rfl;intro h de G1 dj b5 _ g1 kh _;rw [qE];refine⟨de,[0,0],kh,g1.at b4,by decide,by decide,λ H3 st l D Pp hE dm b8 hD hP dv ha=>?_⟩;have cb:=hE H1 g1 dj;have dz:=e1.trans cb
  have i3:fJ t H H3 h st l D Pp 0 []:=by
   obtain⟨⟨dx,q1⟩,⟨⟨dy,q2⟩,q3⟩,q4,q5⟩:=ha
   have ls:pQ [l,Pp] H3:=λ s hs=>by
    simp only [RZ,RS,Sb] at hs
    rcases hs with rfl|rfl
    ·exact⟨_,q3⟩
    ·exact⟨_,q5⟩
   exact⟨dz,⟨⟨dx,aZ ls q1 (λ _ h=>by cases h)⟩,⟨dy,aZ ls q2 (λ _ h=>by cases h)⟩,aZ ls q4 (λ _ h=>by cases h),aT (by simp),aT (by simp),dv,UE,by simp⟩,q3,q5,Al.nil,(e1.trans g1).free b8,(e1.trans g1).free hP⟩
  have f1:=bK st D Pp (m := "do") nofun;have f2:=bK st D Pp (m := "back") nofun;have f3:=bK st D Pp (m := "all_values") nofun;clear ha hE g1 kh b4 dm b8 hD hP cb b5;ac_rfl;refine lA (λ i σ H'=>∃ (v1 v2:Option V) (ps:List V),σ=[%[h|45],v1,v2]/\fJ t H H' h st l D Pp i ps) ⟨_,_,_,rfl,i3⟩ ?_ ?_
  ·clear i3;rintro i _ H4 hi ⟨v1,v2,ps,rfl,li⟩;have d4:i < 200:=by omega
   obtain⟨d5,ba⟩:=li.hb.ob;replace ba:=(ar _ H4).at ba;have pl:=li.len;exists li;clear k hi;simp! only [↓bh];intro E5 H5 d6 e5 h5;have aa:=e5.at ba;clear ba;ac_rfl;intro v cv G6 dA _ _ g6 kv _;have cD:nc 2 ((0+(i:Int)) % 2) []:=⟨⟨by simp,λ a ha=>by cases ha⟩,by decide,by decide,by show 0<=(0+(i:Int)) % 2+0;omega,by show (0+(i:Int)) % 2+0 < 2;omega⟩;rw [iT];refine⟨cv,[],kv,⟨[],g6.at h5,Al.nil⟩,cD,λ H7 D2 e7 dI cH cT=>?_⟩;have c0:=e7 H5 g6 dA;have b1:=e5.trans c0;have c2:=c0.at aa;have b2:aw t.a_ZZ (aE [l,Pp] H7) v 2 ((0+(i:Int)) % 2) []:=⟨cv,D2,aZ ((li ()).lst.ext b1) cH (λ _ h=>by cases h),eV (li ()).lst b1 ((e5.trans g6).free dI) cT⟩;exists b2;clear cH cT e7 kv g6 h5 aa cD;ac_rfl;intro s c3 G8 dN _ _ g8 ks _;rw [qG];refine⟨c3,ks,λ H9 e9 c4=>?_⟩;have b3:=e9 H7 g8 dN;have d0:=b1.trans b3;have d1:=b3.at c2;have l9:=(li ()).move d0;have v9:=(b2 ()).ext (aD (S:=[l,Pp]) b3);have s9:=aZ l9.lst c4 (λ _ h=>by cases h);exists l9;exists v9;exists s9;clear c4 e9 ks g8 c2 b2;ac_rfl;rw [zR];rw [Uj] at *
   have vb:VwB t.a_ZZ (aE [l,Pp] H9) v (vAt i).length ((i:Int) % 2) []:=by
    rw [eU];exact⟨v9 (),⟨by simp,λ a ha=>by cases ha⟩,by decide,λ c hc=>by rw [show af ((i:Int) % 2) []=[(i:Int) % 2] from rfl,RP] at hc;rw [hc];show 0<=(i:Int) % 2/\(i:Int) % 2 < 2;omega⟩
   refine⟨aE [l,Pp] H9,st,l,D,Pp,vAt i,[],ps,1,v,v,c3,(i:Int)+1,(i:Int) % 2,[],(i:Int) % 2,[],(l9 ()).hb,ar _ _,(l9 ()).hl,(l9 ()).hP,by omega,by rw [eU];decide,(λ _ h=>by cases h),by decide,s9 (),(λ _=>⟨vb,vb,rfl⟩),λ r b d7 a1 ab a2 d8 a3 a4 a5 a6 a7=>?_⟩;rw [GL] at a4;have c5:=(l9 ()).deed a1 ab a3 a4 a5 a6;exists c5;clear a1 a3 a4 a5 a6 a7 vb d1;ac_rfl;exact⟨_,_,_,rfl,c5 ()⟩
  ·clear i3;rintro _ H4 ⟨v1,v2,ps,rfl,li⟩;replace li:fJ t H H4 h st l D Pp 200 ps:=li;ac_rfl;refine lA (λ i σ H'=>∃ (v1 v2:Option V) (ps:List V),σ=[%[h|45],v1,v2]/\fJ t H H' h st l D Pp (200 - i) ps) ⟨_,_,_,rfl,li⟩ ?_ ?_
   ·clear li;rintro i _ H5 hi ⟨v1,v2,ps,rfl,li⟩;obtain⟨m,hm⟩:∃ m,200 - i=m+1:=⟨199 - i,by omega⟩;rw [hm] at li;have d9:(199:Int) - (0+(i:Int))=(m:Int):=by omega
    obtain⟨ea,aa⟩:=li.hb.ob;replace aa:=(ar _ H5).at aa;have pl:=li.len;have aS:=li.hb.at (ar _ H5) li.hl li.hP;exists li;exists aS;clear k hi;simp! only [↓bh];rw [oS];refine⟨st,l,D,Pp,vAt (m+1),[],ps,aS (),by rw [eU];decide,λ r6 H6 eb e6 h6=>?_⟩;have a9:=e6.at aa;clear aa aS
    have d2:atI ((vAt (m+1)).map V.int) ((m:Int) % 2)=some (.int ((m:Int)+1)):=by
     have q:=K0 m;have q2:((vAt (m+1)).map V.int)[m % 2]? = some (.int ((m:Int)+1)):=by rw [RN,q];rfl
     exact cM q2
    have l6:=(li ()).move e6;exists l6;ac_rfl;obtain⟨d3,bp,bS,c6,kb⟩:=(l6 ()).back;rw [xS];refine⟨aE [l,Pp] H6,st,l,D,Pp,vAt (m+1),[],ps,(l6 ()).hb,ar _ _,(l6 ()).hl,(l6 ()).hP,by omega,by rw [eU];decide,by rw [eU];decide,(λ _ h=>by cases h),d3,bp,vAt m,bS,c6,by rw [eU,eU],λ r H7 a1 a2 a3 a4 a5 a6=>?_⟩;have l7:=kb H7 a1 a3 a4 a5;have c7:H7 r=some (.lst []):=a6;exists l7;clear kb a1 a3 a4 a5 a6 h6 a9 d2 bS c6;ac_rfl;intro E8 H8 _ e8 h8;have a8:=e8.at c7;have c8:200 - (i+1)=m:=by omega
    have l8:=(l7 ()).move e8;rw [←c8] at l8;exists l8;clear c7 c8;ac_rfl;exact⟨_,_,_,rfl,l8 ()⟩
   ·clear li;rintro _ H5 ⟨v1,v2,ps,rfl,li⟩;replace li:fJ t H H5 h st l D Pp 0 ps:=li;have bS:ps=[]:=S5.mp li.len;subst bS;exists li;ac_rfl;rw [iU];refine⟨aE [l,Pp] H5,st,l,D,Pp,vAt 0,[],[],(li ()).hb,ar _ _,(li ()).hl,(li ()).hP,by decide,by decide,by decide,(λ _ h=>by cases h),.inl ⟨rfl,λ H6 e6=>?_⟩⟩;have l6:=(li ()).move e6;obtain⟨ec,a9⟩:=l6.hb.ob;replace a9:=(ar _ H6).at a9;have aS:=l6.hb.at (ar _ H6) l6.hl l6.hP;exists l6;exists aS;clear li;ac_rfl;rw [oS];refine⟨st,l,D,Pp,vAt 0,[],[],aS (),by decide,λ r7 H7 ee e7 h7=>?_⟩;have c9:H7 r7=some (.lst [.int 0,.int 0]):=h7;clear h7 a9;ac_rfl;intro E8 H8 _ e8 h8;have ej:=e8.at c9;have kf:=k () H8 ((l6 ()).e0.trans (e7.trans e8));clear k c9;ac_rfl
def JE(xs:List V):(mO xs (some 8) (some 58)).length<=50:=by
 unfold mO;rw [length_take,show (some (8:Int))=some ((8:Nat):Int) from rfl,show (some (58:Int))=some ((58:Nat):Int) from rfl,HT.sIx_nat,HT.sIx_nat];omega
def mL.stands{t:Adr}{H0 H':Hp}{h st l D Pp W NL vl p:Addr}{vals:List Int}{nv:List NVw}{ys:List V}{old:List (List Int)}{last:List Int}{rs ps:List V}{Q:VK}{E:XK}(d:mL t H0 H' h st l D Pp W NL vl vals nv ys old last rs ps)(hp:H' p=%[last|46])(aa:nv.length<=100)(k:∀ H2,Ext H' H2->Q (.bl true) H2):oA t [.ref h,.ref NL,.ref p] H' Q E:=
 have c:=ar [l,Pp,W,NL] H'
 ⟨h,NL,p,rfl,st,l,D,Pp,last,nv,ps,ys,d.nj.hb.at c d.nj.hl d.nj.hP,d.nj.hb.nd,aa,d.nj.v1.1,d.nj.v1.2,d.nj.vw.ext c,d.nj.ok,d.nj.fo,d.nj.hN,d.nj.nm.imp λ _ _ q=>q.ext c,hp,k⟩
abbrev JO(K:PySem.W.Frag)(a:Addr)(H:Hp)(Q:VK)(E:XK):Prop:=∃ ns:List Int,SqL K H a (ns.map V.int)/\ns.length<=63/\∀ H',Q (.bl true) H'
def yf(K:W.Frag):Sp:=λ vs H Q E=>∃ (a:Addr),vs=[.ref a]/\(JO K a H Q E)
def Lx(T:Tx K mg t):%[14,law|49] ["_law_script"] (yf K):=by
 refine T.F_law.ok pX (λ _ _ _ _ h=>jN h λ _=>rfl) (λ cdv A' outer s H vs Q E hr h=>?_)
 ·obtain⟨a,rfl,ns,hS,hl,kk⟩:=h;have G_EM:=%[rJ|44] a ns;have G_ZE:=%[ur|44];have G_BC:=%[mU|44];have G_Jb:=%[gd|44];have G_BB:=%[gH|44];have G_Je:=%[rH|44];have G_xy:=%[fG|44];have cH:=T.cl_Hall;refine⟨_,%[%[1,pX,%[bM,%[0|2],%[EM,%[%[0|0],%[%[0|2],%[%[0|2]|1]|1]|1]|3]|11]|4],%[(@zj _ _ _ _ _ _ _ _ _ _ _ _ _ (["_law_j", "_law_script", "_law_room", "_law_values", "_law_hall", "_law_names", "_law_rows", "_law_k", "_law_before"]) (1) (2) _ pX.nd rfl (Or.inl rfl) (aI (ae mQ) ["_law_script", "_law_room", "_law_values", "_law_hall", "_law_names", "_law_rows", "_law_k", "_law_before"] rfl rfl nofun) rfl %[∅,T.z_range,%[%[1|0]|1],∅|39] (λ _ _ _ _ _=>%[(0),_,(show List.Nodup (["_law_j", "_law_script", "_law_room", "_law_values", "_law_hall", "_law_names", "_law_rows", "_law_k", "_law_before"]:List Str) from by decide +kernel),rfl,(Or.inl rfl),%[0|7]|19]) (λ _ _ _ _ _=>(@aN _)) (λ _ _ _ _ _=>%[bE,%[bE,%[oa,%[EM,%[%[1|0],%[%[bM,%[0|2],%[bE,%[0|0],%[0|2]|11]|11],%[%[jU,%[0|2],%[0|2]|11]|1]|1]|1]|3],%[bM,%[oa,%[0|2],%[0|0]|11],%[0|2]|11]|11],%[0|2]|11],%[0|2]|11]) ∅ (by intros;rfl) %[0|7]),%[%[3,pX,%[T.mk_Hall,G_xy,(hr.mono ⋯),∅,T.m_Z0,T.b_xy,.nil,ay,%[%[bB,∅,T.z_list,nofun,%[%[2|0]|1],⋯,⋯,∅,∅|29]|1],⋯,∅,∅|32]|4],%[%[4,pX,%[(@b9 _)|23]|4],%[%[5,pX,%[%[%[2|0]|1]|23]|4],%[%[R9,rfl,%[∅,T.z_range,%[%[max,(iR rfl),%[%[0|2],%[%[len,aB,%[%[zc,%[0|0],(@gN _ _ _ %[0|2]),(@gN _ _ _ %[0|2])|43]|1]|6]|1]|1]|6]|1],∅|39],%[6,pX|5],%[%[%[%[%[ZE,%[%[3|0],%[%[4|0],%[%[5|0],%[%[EM,%[%[0|0],%[%[bM,%[0|2],%[6|0]|11],%[%[jU,%[0|2],%[0|2]|11]|1]|1]|1]|3],%[%[1|0]|1]|1]|1]|1]|1]|3],(by intros;rfl)|31]|30],%[%[(@ku _ _ _ _)|12]|9],(@aA _)|17],%[%[%[%[%[BC,%[%[3|0],%[%[4|0],%[%[eS,%[5|0],%[ei,%[0|2]|38],(λ _ _=>rfl)|18]|1]|1]|1]|3],(by intros;rfl)|31]|30],%[%[(@ku _ _ _ _)|12]|9],(@aA _)|17]|9]|10],(by intros;rfl)|27],%[(@DI _ _ _ _ _ _ R9 %[wC,%[len,aB,%[%[5|0]|1]|6],%[0|2],(az _)|15] %[%[7,pX,(@u6 _ _ _ _ _ _ _ _ _ R0 T3 T1 tZ %[5|0] ∅ ∅)|4],%[%[(PW.pt %[%[(dG hr.units),%[Jb,%[%[3|0]|1]|3],%[BB,%[%[4|0],%[%[7|0],%[%[eS,%[5|0],%[ei,%[0|2]|38],(λ _ _=>rfl)|18]|1]|1]|1]|3],(az _)|15],(@gD _ _ _ _ %[%[%[BC,%[%[3|0],%[%[4|0],%[%[eS,%[5|0],%[ei,%[0|2]|38],(λ _ _=>rfl)|18]|1]|1]|1]|3],(by intros;rfl)|31]|30])|37]),%[%[(@ku _ _ _ _)|12]|9],(@aA _)|17]|9]|10]),%[%[(PW.pt (@u4 _ _ _ _ _ _ _ %[(bz hr.units),%[EM,%[%[0|0],%[%[0|2],%[%[0|2]|1]|1]|1]|3],%[0|2],(az _)|15] (@nZ _ _ _ _ %[%[(@DU _ _ _ _ _ _ _ _ _ _ _ _ _ G_Je (hr.mono ⋯) ∅ T.m_Je T.F_Je.kp T.b_Je .nil ay ⋯),(by intros;rfl)|31]|30]))),%[%[(@ku _ _ _ _)|12]|9],(@aA _)|17],%[%[%[%[yR,%[Jb,%[%[3|0]|1]|3],(@p9 _ _ _),(az _)|34],(@jS _ _ _ _ _ %[BC,%[%[3|0],%[%[4|0],%[%[2|0]|1]|1]|1]|3])|35]|12]|9]|10]|10]|10]|10]|10]|10]|10]|10],?_⟩;rw [show au ["_law_script", "_law_room", "_law_values", "_law_hall", "_law_names", "_law_rows", "_law_k", "_law_before"] [.ref a]=[%[a|45],none,none,none,none,none,none,none] from rfl];clear G_EM G_ZE G_BC G_Jb G_BB G_Je G_xy;exists kk;ac_rfl;rw [kW];refine⟨hS,hl,⟨by decide,by decide⟩,by decide,λ rm f6 f7=>?_⟩;ac_rfl;generalize hroom:1+rm=room;have r1:1<=room:=by omega
  have hT:room<=40:=by omega
  clear hroom f6 f7;refine⟨by omega,by omega,?_⟩;refine oO (List.range room.toNat) (λ _=>true) (λ j x H'=>x=.int (0+(j:Nat))) (λ _ _ y _=>∃ v:Int,y=.int v) jO.1 jO.2 (λ _ _ _ _ _ r _=>r) (λ _ _ _ _ _ r=>r) (aC (by rw [Sr];omega)) ?_ ?_
  ·intro D j x H' N1 N0 hz hD e _ hx k1 _;subst hx;have hj:j < room.toNat:=by simpa using hz
   have f9:=e.2 K a _ hS;have d6:=k1 rfl;have j0:0<=(1:Int)+(0+(j:Int)) % 7/\(1:Int)+(0+(j:Int)) % 7 < 1000:=by omega
   have cb:yq 2 (0+(j:Int)):=⟨by omega,by omega⟩;exists d6;clear k1 kk hz;simp! only [↓aO,↓aM];rw [kW];refine⟨f9,hl,j0,by decide,λ z z0 z1=>?_⟩;have c2:yq z (2 * (0+(j:Int))+1):=⟨by omega,by omega⟩;simp! only [↓aO,↓aM];exact d6 () _ H' (Ext.refl _) ⟨_,rfl⟩
  intro vl ws H2 gb e2 h2 al;rw [ko] at al;have d8:ws.length=room.toNat:=by rw [al.1,Sr]
  obtain⟨vals,rfl⟩:=zG (zs:=[]) (ys:=ws) λ y hy=>by
   obtain⟨i,hi,rfl⟩:=TB hy;exact al.2 i i _ (by rw [Ts %[0|8]]) (RE hi)
  rw [RH] at d8;have ea:1<=vals.length:=by omega
  have c8:vals.length<=60:=by omega
  have gi:room=(vals.length:Int):=by omega
  have gs:(vals.map V.int).length<=60:=by rw [RH];exact c8
  clear al d8;subst gi;ac_rfl;intro vc H3 g0 e3 h3;have cT:=e3.at h2;have bS:=e2.trans e3;clear h2 g0;ac_rfl;intro h g4 G1 g5 eb _ g1 kh _;rw [qE];refine⟨g4,vals,kh,g1.at h3,ea,by omega,λ H4 st l D Pp hE g6 c3 hD hP g8 ha=>?_⟩;have dv:=hE H3 g1 g5;have dz:=bS.trans dv;have c4:=dv.at cT;have l0:H l=none:=bS.free (g1.free c3);have ec:vl ≠ l:=λ e=>by have:=g1.free c3;rw [←e,cT] at this;cases this
  have ee:vl ≠ Pp:=λ e=>by have:=g1.free hP;rw [←e,cT] at this;cases this
  have D0:H D=none:=bS.free (g1.free hD);have P0:H Pp=none:=bS.free (g1.free hP);exists ha;clear hE g1 kh h3 cT g6 c3 hD hP dv eb gb;ac_rfl;intro NL H5 b1 e5 b2;have N0:H NL=none:=dz.free b1;have dA:=dz.trans e5;ac_rfl;intro W H6 hW e6 dN;have W0:H W=none:=dA.free hW;have ej:=dA.trans e6
  have dI:mL t H H6 h st l D Pp W NL vl vals [] [] [] vals [.ref vl] []:=by
   obtain⟨⟨dx,q1⟩,⟨⟨dy,q2⟩,q3⟩,q4,q5⟩:=(ha ()).ext (e5.trans e6);have el:=e6.at b2;have hc:=(e5.trans e6).at c4
   have ls:pQ [l,Pp,W,NL] H6:=λ s hs=>by
    simp only [RZ,RS,Sb] at hs
    rcases hs with rfl|rfl|rfl|rfl
    ·exact⟨_,q3⟩
    ·exact⟨_,q5⟩
    ·exact⟨_,dN⟩
    ·exact⟨_,el⟩
   have hg:l ≠ W:=eG (e5.at (ha ()).so.fl) hW;have hh:Pp ≠ W:=eG (e5.at (ha ()).pa) hW;have hq:l ≠ NL:=eG (ha ()).so.fl b1;have ht:Pp ≠ NL:=eG (ha ()).pa b1;have hu:W ≠ NL:=RO (eG b2 hW)
   have en:aE [l,Pp,W,NL] H6 vl=%[vals|46]:=by
    refine ll ?_ hc;simp only [RZ,RS,Sb,T6];exact⟨ec,ee,eG (e5.at c4) hW,eG c4 b1⟩
   refine⟨⟨ej,⟨⟨dx,aZ ls q1 (λ _ h=>by cases h)⟩,⟨dy,aZ ls q2 (λ _ h=>by cases h)⟩,aZ ls q4 (λ _ h=>by cases h),aT (by simp),aT (by simp),g8,UE,by simp⟩,(λ _ h=>by cases h),Al.nil,(λ _ h=>by cases h),(λ _ h=>by cases h),el,q3,q5,dN,⟨hg,hh,hq,ht,hu⟩,⟨l0,P0,W0,N0,D0⟩,ea,c8⟩,?_,Al.nil,?_,en,rfl⟩
   ·exact Al.snoc (zs:=[]) (ys:=[]) Al.nil ⟨vl,rfl,en⟩
   ·intro row ep;rw [RP.mp ep]
  have et:=ej.2 K a _ hS;clear ha c4 b2 dN e6 hW e5 b1 dz dA bS e2 e3;ac_rfl;refine⟨a,_,rfl,et,λ p hp=>?_⟩;have cl:=JE (ns.map V.int);have d7:=dI.move (Ext.new (o:=.lst (mO (ns.map V.int) (some 8) (some 58))) hp);have hA:upd H6 p (.lst (mO (ns.map V.int) (some 8) (some 58))) p=some (.lst (mO (ns.map V.int) (some 8) (some 58))):=ai;generalize upd H6 p (.lst (mO (ns.map V.int) (some 8) (some 58)))=H7 at *;generalize mO (ns.map V.int) (some 8) (some 58)=cv at *;replace dI:=λ (_:Unit)=>d7;clear d7 et;ac_rfl
  have hB:(0:Int)<=(if 6 < (cv.length:Int) then (cv.length:Int) else 6)/\(if 6 < (cv.length:Int) then (cv.length:Int) else 6)<=50:=by split<;>omega
  generalize (if 6 < (cv.length:Int) then (cv.length:Int) else 6)=it at hB ⊢;refine⟨by omega,by omega,?_⟩;clear hA;refine lA (λ i σ H'=>∃ (nv:List NVw) (ys:List V) (old:List (List Int)) (last:List Int) (rs ps:List V) (v6:Option V),σ=[%[a|45],some (.int (vals.length:Int)),%[vl|45],%[h|45],%[NL|45],%[W|45],v6,none]/\mL t H H' h st l D Pp W NL vl vals nv ys old last rs ps/\nv.length<=i/\old.length<=i) ⟨[],[],[],vals,_,_,none,rfl,dI (),RJ _,RJ _⟩ ?_ ?_
  ·clear dI;rintro i _ H8 hi ⟨nv,ys,old,last,rs,ps,v6,rfl,dj,hn,ho⟩;have hQ:i < 50:=by omega
   have ew:=dj.nj.e0.2 K a _ hS;exists dj;clear hi kk;simp! only [↓bh];rw [kW];refine⟨ew,hl,⟨by omega,by omega⟩,by decide,λ c c0 c1=>?_⟩;clear c1;ac_rfl;rw [JI];refine⟨H,st,l,D,Pp,vl,vals,nv,ys,old,last,rs,ps,dj (),c0,rfl,by omega,by omega,λ nv' ys' ey d0 hX hC H9 d9 hY h4=>?_⟩;obtain⟨c5,y,rfl,c6,lr,rfl,a7⟩:=b0 d9.rw';have b3:=d9.nj.hW;have la:=iK c5 (V.ref lr);have c9:=(ar _ H9).at a7;exists d9;clear a7 c6 ew;ac_rfl;refine(d9 ()).stands c9 %[0|8] λ a8 b4=>?_;have aa:=(d9 ()).move b4;exists aa;clear b3 c9;ac_rfl;exact⟨nv',ys',ey,d0,c5++[.ref lr],hC,_,rfl,aa (),by omega,by omega⟩
  ·clear dI;rintro _ H8 ⟨nv,ys,old,last,rs,ps,v6,rfl,dj,hn,ho⟩;have hR:nv.length<=50:=by omega
   have ba:old.length<=50:=by omega
   ac_rfl;refine GJ (by repeat' first|exact O8|exact LD|exact mo_nI|apply D8|apply mo_unN|exact FG|exact Rb|exact FH|exact mo_rI|exact mo_rIsN|exact mo_rNotN|exact mo_qEq|exact mo_qIx|exact LC|exact HD|apply zA|apply mo_tB|apply mo_not|apply mo_and|apply mo_or|apply O9|apply mo_un|apply HE|apply mo_qLst|apply Pa) (λ m σ H'=>∃ (old:List (List Int)) (last:List Int) (rs ps:List V) (v7:Option V),σ=[%[a|45],some (.int (vals.length:Int)),%[vl|45],%[h|45],%[NL|45],%[W|45],v6,v7]/\mL t H H' h st l D Pp W NL vl vals nv ys old last rs ps/\m=old.length/\old.length<=50) _ ⟨old,last,rs,ps,none,rfl,dj,rfl,ba⟩ ?_;clear dj ba ho;rintro m _ H9 ⟨old,last,rs,ps,v7,rfl,dj,rfl,ba⟩;have b3:=dj.nj.hW
   by_cases c7:old=[]
   ·subst c7;obtain⟨c5,y,rfl,c6,lr,rfl,a7⟩:=b0 dj.rw';have hF:c5=[]:=S5.mp c6.1;subst hF;have hI:ps=[]:=S5.mp dj.pw.1;subst hI
    have hK:last=vals:=by
     have:=dj.hd
     simpa using this
    subst hK;have ez:=dj.nj.e0.2 K a _ hS;exists dj;clear c6 a7;simp! only [-lj];refine gk (λ b H'=>b=false/\Ext H9 H') (λ Qb b5=>?_) ?_
    ·exists b5;clear kk;ac_rfl;rw [kW];refine⟨ez,hl,⟨by decide,by decide⟩,by decide,λ z z0 z1=>?_⟩
     by_cases hz:z=0
     ·subst hz;ac_rfl;rw [Ff];intro a8 b4;have hk:=b5 () false a8 ⟨rfl,b4⟩;clear b5;ac_rfl
     ·have hk:=b5 () false H9 ⟨rfl,Ext.refl _⟩;clear b5;ac_rfl
    rintro b a8 ⟨rfl,b4⟩;have aa:=(dj ()).move b4;have de:=(ar _ a8).at aa.hv;exists aa;clear b3 ez;ac_rfl;rw [iU];refine⟨aE [l,Pp,W,NL] a8,st,l,D,Pp,last,nv,[],(aa ()).nj.hb,ar _ _,(aa ()).nj.hl,(aa ()).nj.hP,by decide,by omega,by omega,(aa ()).nj.vw,.inl ⟨rfl,λ d1 eA=>?_⟩⟩;have eH:=(aa ()).move eA;have e1:=eA.at de;exists eH;clear de;ac_rfl;refine(eH ()).stands e1 %[0|8] λ d2 h7=>?_;have kf:=kk () d2;clear kk;ac_rfl
   ·obtain⟨aS,prev,rfl⟩:∃ o p,old=o++[p]:=⟨old.dropLast,old.getLast c7,(Ub c7).symm⟩;obtain⟨a9,lp,lr,d3,bp,rfl,rfl,h8,hL,a7,e4,e7,e8,kb⟩:=dj.back;have o1:aS.length<=50:=by rw [R3] at ba;omega
    have hM:(1:Int) < ((a9++[V.ref lp]++[V.ref lr]).length:Int):=by simp;omega
    have c3:=dj.ln last (by simp);exists kb;exists dj;exists e4;exists a7;exists e7;clear kk c7;ac_rfl;refine sO (ys:=a9++[V.ref lp]) b3 ?_;have ne:=(dj ()).nj.ne;have e9:aE [l,Pp,W,NL] (upd H9 W (.lst (a9++[V.ref lp])))=aE [l,Pp,W,NL] H9:=lB (by simp);have fa:upd H9 W (.lst (a9++[V.ref lp])) l=%[last|46]:=(ah ne.1).trans (dj ()).nj.hl;have fu:upd H9 W (.lst (a9++[V.ref lp])) Pp=some (.lst (d3++[V.ref bp])):=(ah ne.2.1).trans (dj ()).nj.hP;have k3:=kb ();exists k3;clear kb;generalize upd H9 W (.lst (a9++[V.ref lp]))=a8 at *;have eB:Ext (aE [l,Pp,W,NL] H9) a8:=by rw [←e9];exact ar _ _
    clear b3 hM e9;ac_rfl;rw [iU];refine⟨aE [l,Pp,W,NL] H9,st,l,D,Pp,last,nv,d3++[V.ref bp],(dj ()).nj.hb,eB,fa,fu,by rw [R3,hL];show _+1<=_;omega,by omega,by omega,(dj ()).nj.vw,.inr ⟨d3,bp,prev,rfl,e7 (),e8,λ r d1 a1 a2 a3 a4 a5 a6=>?_⟩⟩;have d4:=k3 () d1 a1 a3 a4 a5;have fw:=d4.nj.hW;have fx:=d4.nj.hN;have dm:=a1.at (a7 ());have b8:=a1.at (e4 ());have fy:Al (λ p y=>NmV (last.length:Int) p y d1) nv ys:=(dj ()).nj.nm.imp λ _ _ q=>q.ext a1;have la:=iK a9 (V.ref lp);have fz:=(dj ()).nj.ok;have fo:=(dj ()).nj.fo;rw [eL] at a6;exists fy;exists d4;exists fz;exists fo;clear k3 a1 a3 a4 a5 fa fu eB;ac_rfl;rw [ud];refine⟨last,prev,nv,ys,(last.length:Int),fx,fy (),dm,b8,rfl,e8,by omega,by omega,fz (),λ r2 d2 h9 e5 h5=>?_⟩;rw [eL] at h5;have h6:=e5.at a6;have s1:=λ g=>cI d2 g ((nv.filter (mJ prev last)).map NVw.nm) (JX.flt (fo ()) _);have s2:=iI ((nv.filter (mJ prev last)).map NVw.nm);have d5:=(d4 ()).move e5;have f3:=e5.at fw;have cD:=e5.at b8;have hlen:(aS++[prev]).length=aS.length+1:=by rw [R3];rfl
    exists d5;exists hlen;clear a6 fw fx dm b8;generalize (nv.filter (mJ prev last)).map NVw.nm=ih at *;ac_rfl;refine(d5 ()).stands cD %[0|8] λ ij hO=>?_;have f5:=(d5 ()).move hO;exists f5;clear h5 h6 s1 s2 f3 cD;ac_rfl;exact⟨aS.length,by rw [hlen ()];exact Tp _,aS,prev,_,_,_,rfl,f5 (),rfl,o1⟩
end
def QY{l:W.OpenLaw}{w:World}{K:W.Frag}{h:Heap}{mg:Str->Option Value}{fa:Addr}(X:K.In h)(G:h.Ns mainGlobals mg)(W3:mg "law"=%[fa|45])
  {C0:Addr} (y0:W.nsIn K mainGlobals "PaceError"=some (%[C0|45]))
  {C1:Addr} (y1:W.nsIn K mainGlobals "NoPlace"=some (%[C1|45]))
  {C2:Addr} (y2:W.nsIn K mainGlobals "NoCells"=some (%[C2|45]))
  {C3:Addr} (y3:W.nsIn K mainGlobals "NoView"=some (%[C3|45]))
  {C4:Addr} (y4:W.nsIn K mainGlobals "NoMove"=some (%[C4|45]))
  {C5:Addr} (y5:W.nsIn K mainGlobals "NoCount"=some (%[C5|45]))
  {C6:Addr} (y6:W.nsIn K mainGlobals "NoPair"=some (%[C6|45]))
  {C7:Addr} (y7:W.nsIn K mainGlobals "NoDeed"=some (%[C7|45]))
  {C8:Addr} (y8:W.nsIn K mainGlobals "TooMany"=some (%[C8|45]))
  {C9:Addr} (y9:W.nsIn K mainGlobals "NoName"=some (%[C9|45]))
  {lb:Addr} (W4:W.nsIn K mainGlobals "Known"=some (%[lb|45]))
  {aS:Addr} (W5:W.nsIn K mainGlobals "View"=some (%[aS|45]))
  {b5:Addr} (W6:W.nsIn K mainGlobals "Store"=some (%[b5|45]))
  {aa:Addr} (W7:W.nsIn K mainGlobals "Hall"=some (%[aa|45]))
  {c5:Addr} (W8:W.nsIn K mainGlobals "Move"=some (%[c5|45]))
  {b2:Addr} (W9:W.nsIn K mainGlobals "Pick"=some (%[b2|45]))
  {cH:Addr} (Xa:W.nsIn K mainGlobals "Turn"=some (%[cH|45]))
  {hR:Addr} (Xb:W.nsIn K mainGlobals "Statement"=some (%[hR|45]))
  {eH:Addr} (Xc:W.nsIn K mainGlobals "Fill"=some (%[eH|45]))
  {e1:Addr} (Xd:W.nsIn K mainGlobals "Copy"=some (%[e1|45]))
  {e2:Addr} (Xe:W.nsIn K mainGlobals "Swap"=some (%[e2|45]))
  {e3:Addr} (Xf:W.nsIn K mainGlobals "Raise"=some (%[e3|45]))
  (o_NoDeed:W.excIn K C7 [.type "ValueError",.type "Exception",.type "BaseException",.type "object"] "ValueError.__new__"=true)
  (x_NoDeed_NoDeed:W.exmOne K (.ref C7) (.ref C7)=some true)
  {f0:Addr} {d0:FuncData} (F0:Fun K "__init__" "TooMany.__init__" ed f0 d0)
  {f1:Addr} {d1:FuncData} (F1:Fun K "__init__" "NoName.__init__" eQ f1 d1)
  {f2:Addr} {d2:FuncData} (F2:Fun K "__init__" "Known.__init__" fE f2 d2)
  {f3:Addr} {d3:FuncData} (a3:W.nsIn K mainGlobals "is_whole"=some (%[f3|45])) (F3:Fun K "is_whole" "is_whole" jr f3 d3)
  {f4:Addr} {d4:FuncData} (a4:W.nsIn K mainGlobals "count_of"=some (%[f4|45])) (F4:Fun K "count_of" "count_of" js f4 d4)
  {f5:Addr} {d5:FuncData} (a5:W.nsIn K mainGlobals "paces_of"=some (%[f5|45])) (F5:Fun K "paces_of" "paces_of" jq f5 d5)
  {f6:Addr} {d6:FuncData} (a6:W.nsIn K mainGlobals "is_number_below"=some (%[f6|45])) (F6:Fun K "is_number_below" "is_number_below" cy f6 d6)
  {f7:Addr} {d7:FuncData} (a7:W.nsIn K mainGlobals "is_place"=some (%[f7|45])) (F7:Fun K "is_place" "is_place" gr f7 d7)
  {f8:Addr} {d8:FuncData} (a8:W.nsIn K mainGlobals "refuse_long"=some (%[f8|45])) (F8:Fun K "refuse_long" "refuse_long" fh f8 d8)
  {f9:Addr} {d9:FuncData} (a9:W.nsIn K mainGlobals "is_within"=some (%[f9|45])) (F9:Fun K "is_within" "is_within" gT f9 d9)
  {HT:Addr} {Xg:FuncData} (Xh:W.nsIn K mainGlobals "is_size"=some (%[HT|45])) (V2:Fun K "is_size" "is_size" lI HT Xg)
  {H3:Addr} {Xi:FuncData} (Xj:W.nsIn K mainGlobals "is_axis"=some (%[H3|45])) (V3:Fun K "is_axis" "is_axis" lJ H3 Xi)
  {H4:Addr} {Xk:FuncData} (Xl:W.nsIn K mainGlobals "are_axes"=some (%[H4|45])) (V4:Fun K "are_axes" "are_axes" gu H4 Xk)
  {H5:Addr} {Xm:FuncData} (Xn:W.nsIn K mainGlobals "kept_axis"=some (%[H5|45])) (V5:Fun K "kept_axis" "kept_axis" gS H5 Xm)
  {vc:Addr} {Xo:FuncData} (V6:Fun K "__init__" "View.__init__" cj vc Xo)
  {vo:Addr} {Xp:FuncData} (H6:Fun K "sizes" "View.sizes" dO vo Xp)
  {vp:Addr} {Xq:FuncData} (H7:Fun K "paces" "View.paces" dP vp Xq)
  {vr:Addr} {Xr:FuncData} (H8:Fun K "count" "View.count" fU vr Xr)
  {vu:Addr} {Xs:FuncData} (H9:Fun K "cell" "View.cell" eZ vu Xs)
  {vv:Addr} {Xt:FuncData} (Im:Fun K "cells" "View.cells" fV vv Xt)
  {vx:Addr} {Xu:FuncData} (IY:Fun K "least" "View.least" dQ vx Xu)
  {v3:Addr} {Xv:FuncData} (I0:Fun K "greatest" "View.greatest" cg v3 Xv)
  {I1:Addr} {Xw:FuncData} (Xx:W.nsIn K mainGlobals "widened"=some (%[I1|45])) (V7:Fun K "widened" "widened" iM I1 Xw)
  {V8:Addr} {V9:Value} {Wa:Option Addr} {Wb:Nat} {Wc:Array (Option Value)}
  {v5:Addr} {Wd We:Option Addr} {Wf:Array (Option Value)} {Wg Wh Wi Wj E8 Wk:Value}
  (Xy:W.nsIn K mainGlobals "whole"=some (%[v5|45])) (Xz:K.lookup v5=some ⟨Wg,Wd,.func (W.fnOf "whole" "whole" (eo ji) (cL ji) (ae ji) (.ref V8) Wh Wi Wj We E8 Wk),Wf⟩)
  (Wl:K.lookup V8=some ⟨V9,Wa,.seq #[Value.none] Wb,Wc⟩)
  (XA:W.codeIn K E8 "whole"=true) (XB:W.keepIn K (.ref v5)=true)
  {I2:Addr} {XC:FuncData} (XD:W.nsIn K mainGlobals "refuse_rooms"=some (%[I2|45])) (Wm:Fun K "refuse_rooms" "refuse_rooms" er I2 XC)
  {I3:Addr} {XE:FuncData} (XF:W.nsIn K mainGlobals "refuse_count"=some (%[I3|45])) (Wn:Fun K "refuse_count" "refuse_count" eu I3 XE)
  {v7:Addr} {XG:FuncData} (Wo:Fun K "__init__" "Store.__init__" cP v7 XG)
  {v8:Addr} {XH:FuncData} (I4:Fun K "all_values" "Store.all_values" cm v8 XH)
  {v9:Addr} {XI:FuncData} (I5:Fun K "refuse_room" "Store.refuse_room" b6 v9 XI)
  {wc:Addr} {XJ:FuncData} (I6:Fun K "read" "Store.read" dR wc XJ)
  {wd:Addr} {XM:FuncData} (I7:Fun K "put" "Store.put" g7 wd XM)
  {wh:Addr} {XN:FuncData} (I8:Fun K "fill" "Store.fill" fX wh XN)
  {wi:Addr} {XO:FuncData} (I9:Fun K "copied" "Store.copied" eC wi XO)
  {KX:Addr} {XP:FuncData} (XQ:W.nsIn K mainGlobals "is_name"=some (%[KX|45])) (Wq:Fun K "is_name" "is_name" iN KX XP)
  {wk:Addr} {XR:FuncData} (Wr:Fun K "__init__" "Hall.__init__" dB wk XR)
  {wo:Addr} {XS:FuncData} (L0:Fun K "refuse_new" "Hall.refuse_new" cz wo XS)
  {w7:Addr} {XT:FuncData} (L2:Fun K "call" "Hall.call" hV w7 XT)
  {w8:Addr} {XU:FuncData} (L3:Fun K "make" "Hall.make" hJ w8 XU)
  {xv:Addr} {XW:FuncData} (L4:Fun K "drop" "Hall.drop" hU xv XW)
  {xx:Addr} {XX:FuncData} (L6:Fun K "view" "Hall.view" g9 xx XX)
  {x1:Addr} {XY:FuncData} (M0:Fun K "seen" "Hall.seen" hG x1 XY)
  {x2:Addr} {XZ:FuncData} (N0:Fun K "names" "Hall.names" fZ x2 XZ)
  {x3:Addr} {X0:FuncData} (N1:Fun K "all_values" "Hall.all_values" cA x3 X0)
  {x7:Addr} {X1:FuncData} (O3:Fun K "changed_since" "Hall.changed_since" bo x7 X1)
  {yd:Addr} {X2:FuncData} (O4:Fun K "do" "Hall.do" lL yd X2)
  {yl:Addr} {X3:FuncData} (PH:Fun K "back" "Hall.back" hZ yl X3)
  {P0:Addr} {X4:FuncData} (X5:W.nsIn K mainGlobals "refuse_unless"=some (%[P0|45])) (Ws:Fun K "refuse_unless" "refuse_unless" dq P0 X4)
  {Qb:Addr} {X6:FuncData} (X7:W.nsIn K mainGlobals "refuse_axis"=some (%[Qb|45])) (Wt:Fun K "refuse_axis" "refuse_axis" fi Qb X6)
  {RA:Addr} {X8:FuncData} (X9:W.nsIn K mainGlobals "replaced"=some (%[RA|45])) (Wu:Fun K "replaced" "replaced" jo RA X8)
  {Sn:Addr} {Ya:FuncData} (Yb:W.nsIn K mainGlobals "place_one_along"=some (%[Sn|45])) (Wv:Fun K "place_one_along" "place_one_along" bL Sn Ya)
  {yp:Addr} {Yc:FuncData} (SM:Fun K "behind" "Move.behind" iX yp Yc)
  {za:Addr} {Yd:FuncData} (T2:Fun K "ahead" "Move.ahead" jW za Yd)
  {l5:Addr} {Ye:FuncData} (qn:Fun K "sizes_of" "Move.sizes_of" ck l5 Ye)
  {l6:Addr} {Yf:FuncData} (qp:Fun K "on" "Move.on" lK l6 Yf)
  {zl:Addr} {Yg:FuncData} (Vr:Fun K "told" "Move.told" lZ zl Yg)
  {zr:Addr} {Yh:FuncData} (Ww:Fun K "__init__" "Pick.__init__" dw zr Yh)
  {zw:Addr} {Yi:FuncData} (Vs:Fun K "picked" "Pick.picked" fj zw Yi)
  {zx:Addr} {Yj:FuncData} (Vt:Fun K "behind" "Pick.behind" fk zx Yj)
  {zz:Addr} {Yk:FuncData} (Vu:Fun K "ahead" "Pick.ahead" fY zz Yk)
  {AX:Addr} {Yl:FuncData} (Vv:Fun K "told" "Pick.told" lY AX Yl)
  {B1:Addr} {Ym:FuncData} (Wx:Fun K "__init__" "Turn.__init__" dr B1 Ym)
  {B2:Addr} {Yn:FuncData} (Vw:Fun K "behind" "Turn.behind" cX B2 Yn)
  {CL:Addr} {Yo:FuncData} (Vx:Fun K "ahead" "Turn.ahead" fW CL Yo)
  {CS:Addr} {Yp:FuncData} (Vy:Fun K "told" "Turn.told" lX CS Yp)
  {Vz:Addr} {Yq:FuncData} (Yr:W.nsIn K mainGlobals "refuse_two"=some (%[Vz|45])) (Wy:Fun K "refuse_two" "refuse_two" fR Vz Yq)
  {Dv:Addr} {Ys:FuncData} (VA:Fun K "run" "Statement.run" du Dv Ys)
  {Dx:Addr} {Yt:FuncData} (Wz:Fun K "__init__" "Fill.__init__" dC Dx Yt)
  {DL:Addr} {Yu:FuncData} (VB:Fun K "run" "Fill.run" jw DL Yu)
  {D0:Addr} {Yv:FuncData} (WA:Fun K "__init__" "Copy.__init__" dD D0 Yv)
  {D1:Addr} {Yw:FuncData} (VC:Fun K "run" "Copy.run" jx D1 Yw)
  {D2:Addr} {Yx:FuncData} (WB:Fun K "__init__" "Swap.__init__" dt D2 Yx)
  {EX:Addr} {Yy:FuncData} (VD:Fun K "run" "Swap.run" jv EX Yy)
  {E1:Addr} {Yz:FuncData} (WC:Fun K "__init__" "Raise.__init__" cQ E1 Yz)
  {E5:Addr} {YA:FuncData} (VE:Fun K "run" "Raise.run" fb E5 YA)
  {VF:Addr} {YB:FuncData} (YC:W.nsIn K mainGlobals "_law_draw"=some (%[VF|45])) (WD:Fun K "_law_draw" "_law_draw" gY VF YB)
  {VG:Addr} {YD:FuncData} (YE:W.nsIn K mainGlobals "_law_like"=some (%[VG|45])) (WE:Fun K "_law_like" "_law_like" gX VG YD)
  {VH:Addr} {YF:FuncData} (YG:W.nsIn K mainGlobals "_law_parts"=some (%[VH|45])) (WG:Fun K "_law_parts" "_law_parts" fS VH YF)
  {VI:Addr} {YH:FuncData} (YI:W.nsIn K mainGlobals "_law_cells"=some (%[VI|45])) (WH:Fun K "_law_cells" "_law_cells" fT VI YH)
  {VJ:Addr} {YJ:FuncData} (YK:W.nsIn K mainGlobals "_law_view"=some (%[VJ|45])) (WI:Fun K "_law_view" "_law_view" gU VJ YJ)
  {VL:Addr} {YL:FuncData} (YM:W.nsIn K mainGlobals "_law_drawn"=some (%[VL|45])) (WJ:Fun K "_law_drawn" "_law_drawn" dM VL YL)
  {VM:Addr} {YN:FuncData} (YO:W.nsIn K mainGlobals "_law_statement"=some (%[VM|45])) (WK:Fun K "_law_statement" "_law_statement" cO VM YN)
  {VN:Addr} {YP:FuncData} (YQ:W.nsIn K mainGlobals "_law_read"=some (%[VN|45])) (WL:Fun K "_law_read" "_law_read" eX VN YP)
  {VO:Addr} {YR:FuncData} (YS:W.nsIn K mainGlobals "_law_put"=some (%[VO|45])) (WM:Fun K "_law_put" "_law_put" jt VO YR)
  {VP:Addr} {YT:FuncData} (YU:W.nsIn K mainGlobals "_law_done"=some (%[VP|45])) (WN:Fun K "_law_done" "_law_done" df VP YT)
  {VQ:Addr} {YV:FuncData} (YW:W.nsIn K mainGlobals "_law_others"=some (%[VQ|45])) (WO:Fun K "_law_others" "_law_others" cW VQ YV)
  {VR:Addr} {YX:FuncData} (YY:W.nsIn K mainGlobals "_law_back"=some (%[VR|45])) (WQ:Fun K "_law_back" "_law_back" gZ VR YX)
  {VS:Addr} {YZ:FuncData} (Y0:W.nsIn K mainGlobals "_law_free"=some (%[VS|45])) (WR:Fun K "_law_free" "_law_free" dc VS YZ)
  {VT:Addr} {Y1:FuncData} (Y2:W.nsIn K mainGlobals "_law_make"=some (%[VT|45])) (WS:Fun K "_law_make" "_law_make" eY VT Y1)
  {VU:Addr} {Y3:FuncData} (Y4:W.nsIn K mainGlobals "_law_named"=some (%[VU|45])) (WT:Fun K "_law_named" "_law_named" dJ VU Y3)
  {VV:Addr} {Y5:FuncData} (Y6:W.nsIn K mainGlobals "_law_long"=some (%[VV|45])) (WU:Fun K "_law_long" "_law_long" gW VV Y5)
  {VW:Addr} {Y7:FuncData} (Y8:W.nsIn K mainGlobals "_law_stands"=some (%[VW|45])) (WV:Fun K "_law_stands" "_law_stands" cV VW Y7)
  {VX:Addr} {Y9:FuncData} (Za:W.nsIn K mainGlobals "_law_one"=some (%[VX|45])) (WW:Fun K "_law_one" "_law_one" ju VX Y9)
  {VY:Addr} {WX G1:Option Addr} {WY:Array (Option Value)} {WZ G6 G7 G8 qs Hd:Value}
  (W0:W.nsIn K mainGlobals "law"=some (%[VY|45])) (Zb:K.lookup VY=some ⟨WZ,WX,.func (W.fnOf "law" "law" (eo mQ) (cL mQ) (ae mQ) .none G6 G7 G8 G1 qs Hd),WY⟩)
  (Zc:W.codeIn K qs "law"=true) (Zd:W.keepIn K (.ref VY)=true)
  (He:W.findIn K (.ref C8) "__init__"=some (%[f0|45]))
  (l7:ve K C8 f0 [.type "ValueError",.type "Exception",.type "BaseException",.type "object"] "ValueError.__new__"=true)
  (l9:W.typeIn K (.ref f0)=some (.type "function"))
  (mc:om K C8=true)
  (mu:W.findIn K (.ref C8) "__setattr__"=some (some (.builtin "object.__setattr__")))
  (mv:W.hasDictIn K C8=true)
  (cT:W.takerIn K C8 "number"=some none)
  (c0:W.findIn K (.ref C8) "number"=some none)
  (hS:W.specialIn K (.ref C0) "__getattribute__"=some (some (.builtin "type.__getattribute__")))
  (hT:W.readsIn K C0 (.type "type")=true)
  (hX:W.findCls K (.ref C0) (.type "type") "__init__"=some (.val (.builtin "ValueError.__init__")))
  (VZ:W.findIn K (.ref C9) "__init__"=some (%[f1|45]))
  (n4:ve K C9 f1 [.type "ValueError",.type "Exception",.type "BaseException",.type "object"] "ValueError.__new__"=true)
  (n5:W.typeIn K (.ref f1)=some (.type "function"))
  (n6:om K C9=true)
  (n7:W.findIn K (.ref C9) "__setattr__"=some (some (.builtin "object.__setattr__")))
  (oj:W.hasDictIn K C9=true)
  (e4:W.takerIn K C9 "name"=some none)
  (e5:W.findIn K (.ref C9) "name"=some none)
  (V1:W.findIn K (.ref lb) "__init__"=some (%[f2|45]))
  (oD:ve K lb f2 [.type "ValueError",.type "Exception",.type "BaseException",.type "object"] "ValueError.__new__"=true)
  (oL:W.typeIn K (.ref f2)=some (.type "function"))
  (oN:om K lb=true)
  (oT:W.findIn K (.ref lb) "__setattr__"=some (some (.builtin "object.__setattr__")))
  (o1:W.hasDictIn K lb=true)
  (gi:W.takerIn K lb "name"=some none)
  (gs:W.findIn K (.ref lb) "name"=some none)
  (q0:W.plainGet K aS Str.empty=true)
  (q3:W.hasDictIn K aS=true)
  (q4:W.plainOver K aS=true)
  (q5:W.findIn K (.ref aS) "__setattr__"=some (some (.builtin "object.__setattr__")))
  (hY:W.findIn K (.ref aS) "axes"=some none)
  (g0:W.findIn K (.ref aS) "first"=some none)
  (h3:W.findIn K (.ref aS) "room"=some none)
  (c6:W.findIn K (.ref aS) "__init__"=some (%[vc|45]))
  (c7:W.isFn K (.ref vc)=true)
  (q6:W.makesIn K aS=true)
  (q7:W.keepIn K (.ref aS)=true)
  (g4:W.findIn K (.ref aS) "sizes"=some (%[vo|45]))
  (g5:W.isFn K (.ref vo)=true)
  (g6:W.findIn K (.ref aS) "paces"=some (%[vp|45]))
  (g8:W.isFn K (.ref vp)=true)
  (hc:W.findIn K (.ref aS) "count"=some (%[vr|45]))
  (hg:W.isFn K (.ref vr)=true)
  (h4:W.findIn K (.ref aS) "cell"=some (%[vu|45]))
  (h5:W.isFn K (.ref vu)=true)
  (hh:W.findIn K (.ref aS) "cells"=some (%[vv|45]))
  (hj:W.isFn K (.ref vv)=true)
  (hk:W.findIn K (.ref aS) "least"=some (%[vx|45]))
  (ho:W.isFn K (.ref vx)=true)
  (c8:W.findIn K (.ref aS) "greatest"=some (%[v3|45]))
  (c9:W.isFn K (.ref v3)=true)
  (o2:W.plainGet K b5 Str.empty=true)
  (o3:W.hasDictIn K b5=true)
  (o4:W.plainOver K b5=true)
  (o5:W.findIn K (.ref b5) "__setattr__"=some (some (.builtin "object.__setattr__")))
  (e6:W.findIn K (.ref b5) "floor"=some none)
  (c1:W.findIn K (.ref b5) "__init__"=some (%[v7|45]))
  (c2:W.isFn K (.ref v7)=true)
  (o6:W.makesIn K b5=true)
  (o7:W.keepIn K (.ref b5)=true)
  (b3:W.findIn K (.ref b5) "all_values"=some (%[v8|45]))
  (b4:W.isFn K (.ref v8)=true)
  (bS:W.findIn K (.ref b5) "refuse_room"=some (%[v9|45]))
  (b1:W.isFn K (.ref v9)=true)
  (hp:W.findIn K (.ref b5) "read"=some (%[wc|45]))
  (hq:W.isFn K (.ref wc)=true)
  (h6:W.findIn K (.ref b5) "put"=some (%[wd|45]))
  (h7:W.isFn K (.ref wd)=true)
  (hs:W.findIn K (.ref b5) "fill"=some (%[wh|45]))
  (ht:W.isFn K (.ref wh)=true)
  (ez:W.findIn K (.ref b5) "copied"=some (%[wi|45]))
  (eA:W.isFn K (.ref wi)=true)
  (q8:W.plainGet K aa Str.empty=true)
  (q9:W.hasDictIn K aa=true)
  (ra:W.plainOver K aa=true)
  (rb:W.findIn K (.ref aa) "__setattr__"=some (some (.builtin "object.__setattr__")))
  (h8:W.findIn K (.ref aa) "past"=some none)
  (hu:W.findIn K (.ref aa) "store"=some none)
  (hy:W.findIn K (.ref aa) "views"=some none)
  (de:W.findIn K (.ref aa) "__init__"=some (%[wk|45]))
  (dj:W.isFn K (.ref wk)=true)
  (rf:W.makesIn K aa=true)
  (ri:W.keepIn K (.ref aa)=true)
  (b8:W.findIn K (.ref aa) "refuse_new"=some (%[wo|45]))
  (cb:W.isFn K (.ref wo)=true)
  (h9:W.findIn K (.ref aa) "call"=some (%[w7|45]))
  (ih:W.isFn K (.ref w7)=true)
  (ij:W.findIn K (.ref aa) "make"=some (%[w8|45]))
  (iv:W.isFn K (.ref w8)=true)
  (ix:W.findIn K (.ref aa) "drop"=some (%[xv|45]))
  (iz:W.isFn K (.ref xv)=true)
  (i0:W.findIn K (.ref aa) "view"=some (%[xx|45]))
  (i1:W.isFn K (.ref xx)=true)
  (i3:W.findIn K (.ref aa) "seen"=some (%[x1|45]))
  (jz:W.isFn K (.ref x1)=true)
  (hA:W.findIn K (.ref aa) "names"=some (%[x2|45]))
  (hB:W.isFn K (.ref x2)=true)
  (cv:W.findIn K (.ref aa) "all_values"=some (%[x3|45]))
  (cD:W.isFn K (.ref x3)=true)
  (ba:W.findIn K (.ref aa) "changed_since"=some (%[x7|45]))
  (bp:W.isFn K (.ref x7)=true)
  (m1:W.findIn K (.ref aa) "do"=some (%[yd|45]))
  (m2:W.isFn K (.ref yd)=true)
  (j0:W.findIn K (.ref aa) "back"=some (%[yl|45]))
  (j1:W.isFn K (.ref yl)=true)
  (rl:W.plainGet K c5 Str.empty=true)
  (rm:W.hasDictIn K c5=true)
  (ro:W.plainOver K c5=true)
  (rr:W.findIn K (.ref c5) "__setattr__"=some (some (.builtin "object.__setattr__")))
  (ru:W.makesIn K c5=true)
  (rv:W.keepIn K (.ref c5)=true)
  (o8:W.findIn K (.ref c5) "__init__"=some (some (.builtin "object.__init__")))
  (e7:W.findIn K (.ref c5) "behind"=some (%[yp|45]))
  (e8:W.isFn K (.ref yp)=true)
  (hC:W.findIn K (.ref c5) "ahead"=some (%[za|45]))
  (hD:W.isFn K (.ref za)=true)
  (dm:W.findIn K (.ref c5) "sizes_of"=some (%[l5|45]))
  (dv:W.isFn K (.ref l5)=true)
  (m4:W.findIn K (.ref c5) "on"=some (%[l6|45]))
  (nf:W.isFn K (.ref l6)=true)
  (j2:W.findIn K (.ref c5) "told"=some (%[zl|45]))
  (j3:W.isFn K (.ref zl)=true)
  (rx:W.plainGet K b2 Str.empty=true)
  (ry:W.hasDictIn K b2=true)
  (rN:W.plainOver K b2=true)
  (r3:W.findIn K (.ref b2) "__setattr__"=some (some (.builtin "object.__setattr__")))
  (ng:W.findIn K (.ref b2) "at"=some none)
  (j4:W.findIn K (.ref b2) "axis"=some none)
  (e9:W.findIn K (.ref b2) "behind"=some (%[zx|45]))
  (fu:W.isFn K (.ref zx)=true)
  (hE:W.findIn K (.ref b2) "ahead"=some (%[zz|45]))
  (hF:W.isFn K (.ref zz)=true)
  (dy:W.findIn K (.ref b2) "sizes_of"=some (%[l5|45]))
  (dz:W.isFn K (.ref l5)=true)
  (nt:W.findIn K (.ref b2) "on"=some (%[l6|45]))
  (nD:W.isFn K (.ref l6)=true)
  (j5:W.findIn K (.ref b2) "told"=some (%[AX|45]))
  (kd:W.isFn K (.ref AX)=true)
  (dA:W.findIn K (.ref b2) "__init__"=some (%[zr|45]))
  (dI:W.isFn K (.ref zr)=true)
  (r4:W.makesIn K b2=true)
  (r5:W.keepIn K (.ref b2)=true)
  (fw:W.findIn K (.ref b2) "picked"=some (%[zw|45]))
  (fx:W.isFn K (.ref zw)=true)
  (r6:W.plainGet K cH Str.empty=true)
  (r7:W.hasDictIn K cH=true)
  (sb:W.plainOver K cH=true)
  (sd:W.findIn K (.ref cH) "__setattr__"=some (some (.builtin "object.__setattr__")))
  (hI:W.findIn K (.ref cH) "order"=some none)
  (fy:W.findIn K (.ref cH) "behind"=some (%[B2|45]))
  (fz:W.isFn K (.ref B2)=true)
  (hK:W.findIn K (.ref cH) "ahead"=some (%[CL|45]))
  (hL:W.isFn K (.ref CL)=true)
  (dN:W.findIn K (.ref cH) "sizes_of"=some (%[l5|45]))
  (ea:W.isFn K (.ref l5)=true)
  (nT:W.findIn K (.ref cH) "on"=some (%[l6|45]))
  (n0:W.isFn K (.ref l6)=true)
  (kf:W.findIn K (.ref cH) "told"=some (%[CS|45]))
  (kh:W.isFn K (.ref CS)=true)
  (eb:W.findIn K (.ref cH) "__init__"=some (%[B1|45]))
  (ec:W.isFn K (.ref B1)=true)
  (se:W.makesIn K cH=true)
  (sg:W.keepIn K (.ref cH)=true)
  (kk:W.plainGet K hR Str.empty=true)
  (kq:W.hasDictIn K hR=true)
  (kv:W.plainOver K hR=true)
  (kx:W.findIn K (.ref hR) "__setattr__"=some (some (.builtin "object.__setattr__")))
  (kE:W.makesIn K hR=true)
  (kQ:W.keepIn K (.ref hR)=true)
  (hM:W.findIn K (.ref hR) "__init__"=some (some (.builtin "object.__init__")))
  (ee:W.findIn K (.ref hR) "run"=some (%[Dv|45]))
  (ej:W.isFn K (.ref Dv)=true)
  (sh:W.plainGet K eH Str.empty=true)
  (sm:W.hasDictIn K eH=true)
  (sx:W.plainOver K eH=true)
  (s6:W.findIn K (.ref eH) "__setattr__"=some (some (.builtin "object.__setattr__")))
  (n2:W.findIn K (.ref eH) "to"=some none)
  (hO:W.findIn K (.ref eH) "value"=some none)
  (lk:W.findIn K (.ref eH) "run"=some (%[DL|45]))
  (lp:W.isFn K (.ref DL)=true)
  (el:W.findIn K (.ref eH) "__init__"=some (%[Dx|45]))
  (en:W.isFn K (.ref Dx)=true)
  (s7:W.makesIn K eH=true)
  (s8:W.keepIn K (.ref eH)=true)
  (s9:W.plainGet K e1 Str.empty=true)
  (tm:W.hasDictIn K e1=true)
  (tq:W.plainOver K e1=true)
  (tr:W.findIn K (.ref e1) "__setattr__"=some (some (.builtin "object.__setattr__")))
  (gb:W.findIn K (.ref e1) "source"=some none)
  (n3:W.findIn K (.ref e1) "to"=some none)
  (lr:W.findIn K (.ref e1) "run"=some (%[D1|45]))
  (lz:W.isFn K (.ref D1)=true)
  (ep:W.findIn K (.ref e1) "__init__"=some (%[D0|45]))
  (et:W.isFn K (.ref D0)=true)
  (tT:W.makesIn K e1=true)
  (t2:W.keepIn K (.ref e1)=true)
  (t5:W.plainGet K e2 Str.empty=true)
  (t8:W.hasDictIn K e2=true)
  (u0:W.plainOver K e2=true)
  (u1:W.findIn K (.ref e2) "__setattr__"=some (some (.builtin "object.__setattr__")))
  (l0:W.findIn K (.ref e2) "one"=some none)
  (hQ:W.findIn K (.ref e2) "other"=some none)
  (l2:W.findIn K (.ref e2) "run"=some (%[EX|45]))
  (l3:W.isFn K (.ref EX)=true)
  (ew:W.findIn K (.ref e2) "__init__"=some (%[D2|45]))
  (ey:W.isFn K (.ref D2)=true)
  (u2:W.makesIn K e2=true)
  (vb:W.keepIn K (.ref e2)=true)
  (pb:W.plainGet K e3 Str.empty=true)
  (pk:W.hasDictIn K e3=true)
  (p3:W.plainOver K e3=true)
  (p4:W.findIn K (.ref e3) "__setattr__"=some (some (.builtin "object.__setattr__")))
  (eB:W.findIn K (.ref e3) "source"=some none)
  (l4:W.findIn K (.ref e3) "to"=some none)
  (k6:W.findIn K (.ref e3) "run"=some (%[E5|45]))
  (la:W.isFn K (.ref E5)=true)
  (c3:W.findIn K (.ref e3) "__init__"=some (%[E1|45]))
  (c4:W.isFn K (.ref E1)=true)
  (qa:W.makesIn K e3=true)
  (qb:W.keepIn K (.ref e3)=true)
  {Ze:Tok} (w0:W.nsIn K mainGlobals "MOST_TOLD"=some (some (.int 4096 Ze)))
  {Zf:Tok} (w1:W.nsIn K mainGlobals "MOST_ROOM"=some (some (.int 1000000000000000000 Zf)))
  {Zg:Tok} (w2:W.nsIn K mainGlobals "MOST_SIZE"=some (some (.int 1000000000 Zg)))
  {Zh:Tok} (w3:W.nsIn K mainGlobals "MOST_AXES"=some (some (.int 8 Zh)))
  {Zi:Tok} (w4:W.nsIn K mainGlobals "LETTERS"=some (some (.str "abcdefghijklmnopqrstuvwxyz" Zi)))
  {Zj:Tok} (w5:W.nsIn K mainGlobals "MOST_LETTERS"=some (some (.int 8 Zj)))
  (z0:W.nsIn K mainGlobals "ValueError"=some none)
  (z1:W.nsIn K mainGlobals "abs"=some none)
  (z2:W.nsIn K mainGlobals "all"=some none)
  (z3:W.nsIn K mainGlobals "any"=some none)
  (z4:W.nsIn K mainGlobals "bool"=some none)
  (z5:W.nsIn K mainGlobals "enumerate"=some none)
  (z6:W.nsIn K mainGlobals "int"=some none)
  (z7:W.nsIn K mainGlobals "isinstance"=some none)
  (z8:W.nsIn K mainGlobals "len"=some none)
  (z9:W.nsIn K mainGlobals "list"=some none)
  (Zk:W.nsIn K mainGlobals "max"=some none)
  (Zl:W.nsIn K mainGlobals "min"=some none)
  (Zm:W.nsIn K mainGlobals "range"=some none)
  (Zn:W.nsIn K mainGlobals "reversed"=some none)
  (Zo:W.nsIn K mainGlobals "sorted"=some none)
  (Zp:W.nsIn K mainGlobals "str"=some none)
  (Zq:W.nsIn K mainGlobals "sum"=some none)
  (Zr:W.nsIn K mainGlobals "tuple"=some none)
  (Zs:W.nsIn K mainGlobals "zip"=some none)
  : ∃ fd:FuncData,(∀ (s:Shared) (v:Value),BindsTo s fd ⟨[v],[]⟩ [("_law_script",v)])/\∀ base:Heap,K.In base->base.Ns mainGlobals mg->aH l.prog w K mg base CX0 14 fa fd ["_law_script"] (yf K):=by
 have e:=W3.symm.trans (R4 X G W0);cases e;have Zt:=Jy (st:=ji) Xz XA XB;have W2:=Nq (st:=mQ) Zb Zc Zd;have T:Tx K mg ⟨C0,C1,C2,C3,C4,C5,C6,C7,C8,C9,lb,aS,b5,aa,c5,b2,cH,hR,eH,e1,e2,e3,f0,_,f1,_,f2,_,f3,_,f4,_,f5,_,f6,_,f7,_,f8,_,f9,_,HT,_,H3,_,H4,_,H5,_,vc,_,vo,_,vp,_,vr,_,vu,_,vv,_,vx,_,v3,_,I1,_,v5,_,I2,_,I3,_,v7,_,v8,_,v9,_,wc,_,wd,_,wh,_,wi,_,KX,_,wk,_,wo,_,w7,_,w8,_,xv,_,xx,_,x1,_,x2,_,x3,_,x7,_,yd,_,yl,_,P0,_,Qb,_,RA,_,Sn,_,yp,_,za,_,l5,_,l6,_,zl,_,zr,_,zw,_,zx,_,zz,_,AX,_,B1,_,B2,_,CL,_,CS,_,Vz,_,Dv,_,Dx,_,DL,_,D0,_,D1,_,D2,_,EX,_,E1,_,E5,_,VF,_,VG,_,VH,_,VI,_,VJ,_,VL,_,VM,_,VN,_,VO,_,VP,_,VQ,_,VR,_,VS,_,VT,_,VU,_,VV,_,VW,_,VX,_,fa,_⟩:=⟨R4 X G y0,R4 X G y1,R4 X G y2,R4 X G y3,R4 X G y4,R4 X G y5,R4 X G y6,R4 X G y7,R4 X G y8,R4 X G y9,R4 X G W4,R4 X G W5,R4 X G W6,R4 X G W7,R4 X G W8,R4 X G W9,R4 X G Xa,R4 X G Xb,R4 X G Xc,R4 X G Xd,R4 X G Xe,R4 X G Xf,o_NoDeed,x_NoDeed_NoDeed,⟨_,R4 X G w0⟩,⟨_,R4 X G w1⟩,⟨_,R4 X G w2⟩,⟨_,R4 X G w3⟩,⟨_,R4 X G w4⟩,⟨_,R4 X G w5⟩,⟨l7,l9,⟨mc,mu,mv⟩⟩,cT,c0,⟨hS,hT,hX⟩,⟨n4,n5,⟨n6,n7,oj⟩⟩,e4,e5,⟨oD,oL,⟨oN,oT,o1⟩⟩,gi,gs,⟨q0,q3,q4,q5⟩,hY,g0,h3,⟨q6,c6,c7,q7⟩,⟨g4,g5,H6.kp⟩,⟨g6,g8,H7.kp⟩,⟨hc,hg,H8.kp⟩,⟨h4,h5,H9.kp⟩,⟨hh,hj,Im.kp⟩,⟨hk,ho,IY.kp⟩,⟨c8,c9,I0.kp⟩,⟨o2,o3,o4,o5⟩,e6,⟨o6,c1,c2,o7⟩,⟨b3,b4,I4.kp⟩,⟨bS,b1,I5.kp⟩,⟨hp,hq,I6.kp⟩,⟨h6,h7,I7.kp⟩,⟨hs,ht,I8.kp⟩,⟨ez,eA,I9.kp⟩,⟨q8,q9,ra,rb⟩,h8,hu,hy,⟨rf,de,dj,ri⟩,⟨b8,cb,L0.kp⟩,⟨h9,ih,L2.kp⟩,⟨ij,iv,L3.kp⟩,⟨ix,iz,L4.kp⟩,⟨i0,i1,L6.kp⟩,⟨i3,jz,M0.kp⟩,⟨hA,hB,N0.kp⟩,⟨cv,cD,N1.kp⟩,⟨ba,bp,O3.kp⟩,⟨m1,m2,O4.kp⟩,⟨j0,j1,PH.kp⟩,⟨rl,rm,ro,rr⟩,⟨ru,o8,rv⟩,⟨e7,e8,SM.kp⟩,⟨hC,hD,T2.kp⟩,⟨dm,dv,qn.kp⟩,⟨m4,nf,qp.kp⟩,⟨j2,j3,Vr.kp⟩,⟨rx,ry,rN,r3⟩,ng,j4,⟨e9,fu,Vt.kp⟩,⟨hE,hF,Vu.kp⟩,⟨dy,dz,qn.kp⟩,⟨nt,nD,qp.kp⟩,⟨j5,kd,Vv.kp⟩,⟨r4,dA,dI,r5⟩,⟨fw,fx,Vs.kp⟩,⟨r6,r7,sb,sd⟩,hI,⟨fy,fz,Vw.kp⟩,⟨hK,hL,Vx.kp⟩,⟨dN,ea,qn.kp⟩,⟨nT,n0,qp.kp⟩,⟨kf,kh,Vy.kp⟩,⟨se,eb,ec,sg⟩,⟨kk,kq,kv,kx⟩,⟨kE,hM,kQ⟩,⟨ee,ej,VA.kp⟩,⟨sh,sm,sx,s6⟩,n2,hO,⟨lk,lp,VB.kp⟩,⟨s7,el,en,s8⟩,⟨s9,tm,tq,tr⟩,gb,n3,⟨lr,lz,VC.kp⟩,⟨tT,ep,et,t2⟩,⟨t5,t8,u0,u1⟩,l0,hQ,⟨l2,l3,VD.kp⟩,⟨u2,ew,ey,vb⟩,⟨pb,pk,p3,p4⟩,eB,l4,⟨k6,la,VE.kp⟩,⟨qa,c3,c4,qb⟩,F0,F0.binds (ps:=["self", "number"]) (λ _ _ _ _ _ _=>eR (λ _ _=>rfl)),F1,F1.binds (ps:=["self", "name"]) (λ _ _ _ _ _ _=>eR (λ _ _=>rfl)),F2,F2.binds (ps:=["self", "name"]) (λ _ _ _ _ _ _=>eR (λ _ _=>rfl)),F3,R4 X G a3,F3.binds (ps:=["thing"]) (λ _ _ _ _ _ _=>iy (λ _=>rfl)),F4,R4 X G a4,F4.binds (ps:=["sizes"]) (λ _ _ _ _ _ _=>iy (λ _=>rfl)),F5,R4 X G a5,F5.binds (ps:=["sizes"]) (λ _ _ _ _ _ _=>iy (λ _=>rfl)),F6,R4 X G a6,F6.binds (ps:=["thing", "bound"]) (λ _ _ _ _ _ _=>eR (λ _ _=>rfl)),F7,R4 X G a7,F7.binds (ps:=["sizes", "thing"]) (λ _ _ _ _ _ _=>eR (λ _ _=>rfl)),F8,R4 X G a8,F8.binds (ps:=["count"]) (λ _ _ _ _ _ _=>iy (λ _=>rfl)),F9,R4 X G a9,F9.binds (ps:=["thing", "low", "high"]) (λ _ _ _ _ _ _=>mI (λ _ _ _=>rfl)),V2,R4 X G Xh,V2.binds (ps:=["thing"]) (λ _ _ _ _ _ _=>iy (λ _=>rfl)),V3,R4 X G Xj,V3.binds (ps:=["thing"]) (λ _ _ _ _ _ _=>iy (λ _=>rfl)),V4,R4 X G Xl,V4.binds (ps:=["thing"]) (λ _ _ _ _ _ _=>iy (λ _=>rfl)),V5,R4 X G Xn,V5.binds (ps:=["axis"]) (λ _ _ _ _ _ _=>iy (λ _=>rfl)),V6,V6.binds (ps:=["self", "room", "first", "axes"]) (λ _ _ _ _ _ _=>NJ (λ _ _ _ _=>rfl)),H6,H6.binds (ps:=["self"]) (λ _ _ _ _ _ _=>iy (λ _=>rfl)),H7,H7.binds (ps:=["self"]) (λ _ _ _ _ _ _=>iy (λ _=>rfl)),H8,H8.binds (ps:=["self"]) (λ _ _ _ _ _ _=>iy (λ _=>rfl)),H9,H9.binds (ps:=["self", "place"]) (λ _ _ _ _ _ _=>eR (λ _ _=>rfl)),Im,Im.binds (ps:=["self"]) (λ _ _ _ _ _ _=>iy (λ _=>rfl)),IY,IY.binds (ps:=["self"]) (λ _ _ _ _ _ _=>iy (λ _=>rfl)),I0,I0.binds (ps:=["self"]) (λ _ _ _ _ _ _=>iy (λ _=>rfl)),V7,R4 X G Xx,V7.binds (ps:=["cells", "size", "pace"]) (λ _ _ _ _ _ _=>mI (λ _ _ _=>rfl)),Zt,R4 X G Xy,(λ s us V0 hl=>match us,(show us.length=2 by simp only [R3,S4,Vo] at hl;omega) with|[_,_],_=>BindsTo.of_defaults rfl (V0 _ _ Wl) rfl rfl rfl),(λ s us V0 hl=>match us,(show us.length=1 by simp only [R3,S4,Vo] at hl;omega) with|[_],_=>BindsTo.of_defaults rfl (V0 _ _ Wl) rfl rfl rfl),Wm,R4 X G XD,Wm.binds (ps:=["one", "other"]) (λ _ _ _ _ _ _=>eR (λ _ _=>rfl)),Wn,R4 X G XF,Wn.binds (ps:=["view", "many"]) (λ _ _ _ _ _ _=>eR (λ _ _=>rfl)),Wo,Wo.binds (ps:=["self", "values"]) (λ _ _ _ _ _ _=>eR (λ _ _=>rfl)),I4,I4.binds (ps:=["self"]) (λ _ _ _ _ _ _=>iy (λ _=>rfl)),I5,I5.binds (ps:=["self", "view"]) (λ _ _ _ _ _ _=>eR (λ _ _=>rfl)),I6,I6.binds (ps:=["self", "view"]) (λ _ _ _ _ _ _=>eR (λ _ _=>rfl)),I7,I7.binds (ps:=["self", "view", "values"]) (λ _ _ _ _ _ _=>mI (λ _ _ _=>rfl)),I8,I8.binds (ps:=["self", "view", "value"]) (λ _ _ _ _ _ _=>mI (λ _ _ _=>rfl)),I9,I9.binds (ps:=["self", "to", "source"]) (λ _ _ _ _ _ _=>mI (λ _ _ _=>rfl)),Wq,R4 X G XQ,Wq.binds (ps:=["thing"]) (λ _ _ _ _ _ _=>iy (λ _=>rfl)),Wr,Wr.binds (ps:=["self", "values"]) (λ _ _ _ _ _ _=>eR (λ _ _=>rfl)),L0,L0.binds (ps:=["self", "name"]) (λ _ _ _ _ _ _=>eR (λ _ _=>rfl)),L2,L2.binds (ps:=["self", "name", "view"]) (λ _ _ _ _ _ _=>mI (λ _ _ _=>rfl)),L3,L3.binds (ps:=["self", "name", "of", "move"]) (λ _ _ _ _ _ _=>NJ (λ _ _ _ _=>rfl)),L4,L4.binds (ps:=["self", "name"]) (λ _ _ _ _ _ _=>eR (λ _ _=>rfl)),L6,L6.binds (ps:=["self", "name"]) (λ _ _ _ _ _ _=>eR (λ _ _=>rfl)),M0,M0.binds (ps:=["self", "name"]) (λ _ _ _ _ _ _=>eR (λ _ _=>rfl)),N0,N0.binds (ps:=["self"]) (λ _ _ _ _ _ _=>iy (λ _=>rfl)),N1,N1.binds (ps:=["self"]) (λ _ _ _ _ _ _=>iy (λ _=>rfl)),O3,O3.binds (ps:=["self", "before"]) (λ _ _ _ _ _ _=>eR (λ _ _=>rfl)),O4,O4.binds (ps:=["self", "statement"]) (λ _ _ _ _ _ _=>eR (λ _ _=>rfl)),PH,PH.binds (ps:=["self"]) (λ _ _ _ _ _ _=>iy (λ _=>rfl)),Ws,R4 X G X5,Ws.binds (ps:=["fits"]) (λ _ _ _ _ _ _=>iy (λ _=>rfl)),Wt,R4 X G X7,Wt.binds (ps:=["sizes", "axis"]) (λ _ _ _ _ _ _=>eR (λ _ _=>rfl)),Wu,R4 X G X9,Wu.binds (ps:=["row", "axis", "told"]) (λ _ _ _ _ _ _=>mI (λ _ _ _=>rfl)),Wv,R4 X G Yb,Wv.binds (ps:=["many", "axis"]) (λ _ _ _ _ _ _=>eR (λ _ _=>rfl)),SM,SM.binds (ps:=["self", "sizes"]) (λ _ _ _ _ _ _=>eR (λ _ _=>rfl)),T2,T2.binds (ps:=["self", "sizes", "place"]) (λ _ _ _ _ _ _=>mI (λ _ _ _=>rfl)),qn,qn.binds (ps:=["self", "sizes"]) (λ _ _ _ _ _ _=>eR (λ _ _=>rfl)),qp,qp.binds (ps:=["self", "view"]) (λ _ _ _ _ _ _=>eR (λ _ _=>rfl)),Vr,Vr.binds (ps:=["self"]) (λ _ _ _ _ _ _=>iy (λ _=>rfl)),Ww,Ww.binds (ps:=["self", "axis", "at"]) (λ _ _ _ _ _ _=>mI (λ _ _ _=>rfl)),Vs,Vs.binds (ps:=["self", "sizes"]) (λ _ _ _ _ _ _=>eR (λ _ _=>rfl)),Vt,Vt.binds (ps:=["self", "sizes"]) (λ _ _ _ _ _ _=>eR (λ _ _=>rfl)),Vu,Vu.binds (ps:=["self", "sizes", "place"]) (λ _ _ _ _ _ _=>mI (λ _ _ _=>rfl)),Vv,Vv.binds (ps:=["self"]) (λ _ _ _ _ _ _=>iy (λ _=>rfl)),Wx,Wx.binds (ps:=["self", "order"]) (λ _ _ _ _ _ _=>eR (λ _ _=>rfl)),Vw,Vw.binds (ps:=["self", "sizes"]) (λ _ _ _ _ _ _=>eR (λ _ _=>rfl)),Vx,Vx.binds (ps:=["self", "sizes", "place"]) (λ _ _ _ _ _ _=>mI (λ _ _ _=>rfl)),Vy,Vy.binds (ps:=["self"]) (λ _ _ _ _ _ _=>iy (λ _=>rfl)),Wy,R4 X G Yr,Wy.binds (ps:=["one", "other"]) (λ _ _ _ _ _ _=>eR (λ _ _=>rfl)),VA,VA.binds (ps:=["self", "store"]) (λ _ _ _ _ _ _=>eR (λ _ _=>rfl)),Wz,Wz.binds (ps:=["self", "to", "value"]) (λ _ _ _ _ _ _=>mI (λ _ _ _=>rfl)),VB,VB.binds (ps:=["self", "store"]) (λ _ _ _ _ _ _=>eR (λ _ _=>rfl)),WA,WA.binds (ps:=["self", "to", "source"]) (λ _ _ _ _ _ _=>mI (λ _ _ _=>rfl)),VC,VC.binds (ps:=["self", "store"]) (λ _ _ _ _ _ _=>eR (λ _ _=>rfl)),WB,WB.binds (ps:=["self", "one", "other"]) (λ _ _ _ _ _ _=>mI (λ _ _ _=>rfl)),VD,VD.binds (ps:=["self", "store"]) (λ _ _ _ _ _ _=>eR (λ _ _=>rfl)),WC,WC.binds (ps:=["self", "to", "source"]) (λ _ _ _ _ _ _=>mI (λ _ _ _=>rfl)),VE,VE.binds (ps:=["self", "store"]) (λ _ _ _ _ _ _=>eR (λ _ _=>rfl)),WD,R4 X G YC,WD.binds (ps:=["_law_script", "_law_k", "_law_many"]) (λ _ _ _ _ _ _=>mI (λ _ _ _=>rfl)),WE,R4 X G YE,WE.binds (ps:=["_law_cell", "_law_room", "_law_sizes"]) (λ _ _ _ _ _ _=>mI (λ _ _ _=>rfl)),WG,R4 X G YG,WG.binds (ps:=["_law_cell", "_law_room"]) (λ _ _ _ _ _ _=>eR (λ _ _=>rfl)),WH,R4 X G YI,WH.binds (ps:=["_law_parts_here"]) (λ _ _ _ _ _ _=>iy (λ _=>rfl)),WI,R4 X G YK,WI.binds (ps:=["_law_parts_here"]) (λ _ _ _ _ _ _=>iy (λ _=>rfl)),WJ,R4 X G YM,WJ.binds (ps:=["_law_cell", "_law_room"]) (λ _ _ _ _ _ _=>eR (λ _ _=>rfl)),WK,R4 X G YO,WK.binds (ps:=["_law_deed"]) (λ _ _ _ _ _ _=>iy (λ _=>rfl)),WL,R4 X G YQ,WL.binds (ps:=["_law_values", "_law_parts_here"]) (λ _ _ _ _ _ _=>eR (λ _ _=>rfl)),WM,R4 X G YS,WM.binds (ps:=["_law_values", "_law_parts_here", "_law_some"]) (λ _ _ _ _ _ _=>mI (λ _ _ _=>rfl)),WN,R4 X G YU,WN.binds (ps:=["_law_values", "_law_deed"]) (λ _ _ _ _ _ _=>eR (λ _ _=>rfl)),WO,R4 X G YW,WO.binds (ps:=["_law_names", "_law_before", "_law_behind"]) (λ _ _ _ _ _ _=>mI (λ _ _ _=>rfl)),WQ,R4 X G YY,WQ.binds (ps:=["_law_hall"]) (λ _ _ _ _ _ _=>iy (λ _=>rfl)),WR,R4 X G Y0,WR.binds (ps:=["_law_names", "_law_cell"]) (λ _ _ _ _ _ _=>eR (λ _ _=>rfl)),WS,R4 X G Y2,WS.binds (ps:=["_law_hall", "_law_names", "_law_cell"]) (λ _ _ _ _ _ _=>mI (λ _ _ _=>rfl)),WT,R4 X G Y4,WT.binds (ps:=["_law_hall", "_law_names", "_law_cell", "_law_room"]) (λ _ _ _ _ _ _=>NJ (λ _ _ _ _=>rfl)),WU,R4 X G Y6,WU.binds (ps:=[]) (λ _ _ _ _ _ _=>Qv rfl),WV,R4 X G Y8,WV.binds (ps:=["_law_hall", "_law_names", "_law_values"]) (λ _ _ _ _ _ _=>mI (λ _ _ _=>rfl)),WW,R4 X G Za,WW.binds (ps:=["_law_hall", "_law_names", "_law_rows", "_law_cell", "_law_room"]) (λ _ _ _ _ _ _=>Rk (λ _ _ _ _ _=>rfl)),W2,R4 X G W0,W2.binds (ps:=["_law_script"]) (λ _ _ _ _ _ _=>iy (λ _=>rfl)),Sl X G z0,Sl X G z1,Sl X G z2,Sl X G z3,Sl X G z4,Sl X G z5,Sl X G z6,Sl X G z7,Sl X G z8,Sl X G z9,Sl X G Zk,Sl X G Zl,Sl X G Zm,Sl X G Zn,Sl X G Zo,Sl X G Zp,Sl X G Zq,Sl X G Zr,Sl X G Zs⟩;exact⟨W.fnOf "law" "law" (eo mQ) (cL mQ) (ae mQ) .none G6 G7 G8 G1 qs Hd,λ s v=>.of_eq rfl,λ base _ _=>Lx T⟩
def Ry{l:W.OpenLaw}{q:Program}{loose:List Str}{XP:(Str->Option Value)->Heap->Prop}{YP:World->Heap->Prop}{d:DefRec}{K:Params->W.Frag}(hn:l.most=some 63)(aa:d.params.defaults=[])
  (hY:∀ (w:World) (h:Heap),YP w h->(K w.params).In h)
  (F:∀ (w:World) (mg:Str->Option Value) (fa:Addr) (h:Heap),(K w.params).In h->h.Ns mainGlobals mg->mg d.name=%[fa|45] →
   ∃ fd:FuncData,(∀ (s:Shared) (u:Value),BindsTo s fd ⟨[u],[]⟩ [("_law_script",u)])/\∀ base:Heap,(K w.params).In base->base.Ns mainGlobals mg->aH l.prog w (K w.params) mg base CX0 14 fa fd ["_law_script"] (yf (K w.params))) :
  W.WalkO q loose XP YP l.row.toRowW d [] (λ f vs=>PySem.call f vs):=
 L2.Qa (n:=63) (k:=14) (x := "_law_script") (CX:=λ _=>CX0) (sp:=λ w=>yf (K w.params)) hn ⋯ aa ⟨rfl,by decide,by decide⟩ hY F (λ _ _ a ns hl _ hS=>⟨a,rfl,ns,hS,hl,λ _=>rfl⟩) λ _ _ _ _ _ z=>z
end PH
namespace PySem.W.Fast
def tw3780023877585468419:=0
def tw6110643163558539423:=0
def tw18109293829901111855:=0
def tw6682230568313337511:=0
def tw485168870914763057:=0
def tw5232445777658051370:=0
def tw299772087895816382:=0
def tw4778624620957809705:=0
def tw14738346158517994346:=0
def tw11610580953844890977:=0
def tw9120501144730891118:=0
def tw7272177470603891305:=0
def tw6186532764199187006:=0
def tw998033275374926127:=0
def tw16473136499032318895:=0
def tw7636166339813049112:=0
def tw13277998545781346558:=0
def tw5112506467748675883:=0
def tw18000515878540681388:=0
def tw9073331426338792883:=0
def tw12307454527211333142:=0
def tw2394468856178592273:=0
def tw17800287102313795708:=0
def tw451073252624791432:=0
def tw15330065735563594993:=0
def tw7739230202532029438:=0
def tw7448312238845855160:=0
def tw9780000229934572212:=0
def tw287717263155341050:=0
def tw691873622652015452:=0
def tw15477078734144673230:=0
def tw3053142443288352054:=0
def tw17453814272280367385:=0
def tw16851745552150248003:=0
def tw5277799579940645437:=0
def tw12529099441476967523:=0
def tw8505143290248496729:=0
def tw231023330027416632:=0
def tw1619075570061830117:=0
def tw10112240317325539005:=0
def tw1707582722417305340:=0
def tw12386860967881047039:=0
def tw1261596141577951352:=0
def tw4597234474285504794:=0
def tw6557851211216548122:=0
def tw238645405858714261:=0
def tw508134195035438725:=0
def tw2820243997571269665:=0
def tw7661101296542792328:=0
def tw18361841542711007418:=0
def tw13339204066628834562:=0
def tw16185275602892081154:=0
def tw13147065148253477529:=0
def tw7121381811364642526:=0
def tw18384346810432203498:=0
def tw6517319163531712257:=0
def tw15034857639819393846:=0
def tw3191389227215013513:=0
def tw6016592131978150046:=0
def tw17787720353448525483:=0
def tw17370857369585828523:=0
def tw16828925071828703947:=0
def tw7330029450461930641:=0
def tw15166908437147477196:=0
def tw17131171693775594442:=0
def tw8494931345087950805:=0
def tw14678280551473288424:=0
def tw8720259624516419029:=0
def tw11966368115297026448:=0
def tw14856968673319730443:=0
def tw1353191444805388755:=0
def tw1914206537672158906:=0
def tw2336317796203645951:=0
def tw11847635796309549418:=0
def tw4439235675700162697:=0
def tw1931136552092928855:=0
def tw3376050377070632502:=0
def tw10492282867636553165:=0
def tw5438424681199528995:=0
def tw6343136633587476884:=0
def tw15227121627987641488:=0
def tw695908940125293856:=0
def tw6769138480363874408:=0
end PySem.W.Fast
open PySem PySem.W PyProof.Rows
theorem PySem.Challenge.cw_pacehall_k87_whole_halls_back_holds : PySem.Challenge.rw_pacehall_k87_whole_halls_back.Holds := by
 w_on;o_law;k_head;(case hw=>w_witness2)
 k_fill
 refine PH.Ry (l:=PySem.Challenge.rw_pacehall_k87_whole_halls_back) rfl rfl (λ w h Y=>PySem.W.kIn_of Y) ?F
 case F=>
  intro w mg fa h KX G hmg
  refine' PH.QY KX G hmg ?y0 ?y1 ?y2 ?y3 ?y4 ?y5 ?y6 ?y7 ?y8 ?y9 ?y10 ?y11 ?y12 ?y13 ?y14 ?y15 ?y16 ?y17 ?y18 ?y19 ?y20 ?y21 ?o_NoDeed ?x_NoDeed_NoDeed ?F0 ?F1 ?F2 ?a3 ?F3 ?a4 ?F4 ?a5 ?F5 ?a6 ?F6 ?a7 ?F7 ?a8 ?F8 ?a9 ?F9 ?a10 ?F10 ?a11 ?F11 ?a12 ?F12 ?a13 ?F13 ?F14 ?F15 ?F16 ?F17 ?F18 ?F19 ?F20 ?F21 ?a22 ?F22 ?a23 ?l23 ?q23 ?c23 ?k23 ?a24 ?F24 ?a25 ?F25 ?F26 ?F27 ?F28 ?F29 ?F30 ?F31 ?F32 ?a33 ?F33 ?F34 ?F35 ?F36 ?F37 ?F38 ?F39 ?F40 ?F41 ?F42 ?F43 ?F44 ?F45 ?a46 ?F46 ?a47 ?F47 ?a48 ?F48 ?a49 ?F49 ?F50 ?F51 ?F52 ?F53 ?F54 ?F55 ?F56 ?F57 ?F58 ?F59 ?F60 ?F61 ?F62 ?F63 ?a64 ?F64 ?F65 ?F66 ?F67 ?F68 ?F69 ?F70 ?F71 ?F72 ?F73 ?a74 ?F74 ?a75 ?F75 ?a76 ?F76 ?a77 ?F77 ?a78 ?F78 ?a79 ?F79 ?a80 ?F80 ?a81 ?F81 ?a82 ?F82 ?a83 ?F83 ?a84 ?F84 ?a85 ?F85 ?a86 ?F86 ?a87 ?F87 ?a88 ?F88 ?a89 ?F89 ?a90 ?F90 ?a91 ?F91 ?a92 ?l92 ?c92 ?k92 ?fi_TooMany ?xe_TooMany ?xf_TooMany ?xo_TooMany ?xs_TooMany ?xh_TooMany ?nt_TooMany_number ?nf_TooMany_number ?bs_PaceError ?br_PaceError ?bf_PaceError ?fi_NoName ?xe_NoName ?xf_NoName ?xo_NoName ?xs_NoName ?xh_NoName ?nt_NoName_name ?nf_NoName_name ?fi_Known ?xe_Known ?xf_Known ?xo_Known ?xs_Known ?xh_Known ?nt_Known_name ?nf_Known_name ?pg_View ?hd_View ?po_View ?sa_View ?nf_View_axes ?nf_View_first ?nf_View_room ?fi_View___init__ ?fn_View___init__ ?mm_View ?ck_View ?fi_View_sizes ?fn_View_sizes ?fi_View_paces ?fn_View_paces ?fi_View_count ?fn_View_count ?fi_View_cell ?fn_View_cell ?fi_View_cells ?fn_View_cells ?fi_View_least ?fn_View_least ?fi_View_greatest ?fn_View_greatest ?pg_Store ?hd_Store ?po_Store ?sa_Store ?nf_Store_floor ?fi_Store___init__ ?fn_Store___init__ ?mm_Store ?ck_Store ?fi_Store_all_values ?fn_Store_all_values ?fi_Store_refuse_room ?fn_Store_refuse_room ?fi_Store_read ?fn_Store_read ?fi_Store_put ?fn_Store_put ?fi_Store_fill ?fn_Store_fill ?fi_Store_copied ?fn_Store_copied ?pg_Hall ?hd_Hall ?po_Hall ?sa_Hall ?nf_Hall_past ?nf_Hall_store ?nf_Hall_views ?fi_Hall___init__ ?fn_Hall___init__ ?mm_Hall ?ck_Hall ?fi_Hall_refuse_new ?fn_Hall_refuse_new ?fi_Hall_call ?fn_Hall_call ?fi_Hall_make ?fn_Hall_make ?fi_Hall_drop ?fn_Hall_drop ?fi_Hall_view ?fn_Hall_view ?fi_Hall_seen ?fn_Hall_seen ?fi_Hall_names ?fn_Hall_names ?fi_Hall_all_values ?fn_Hall_all_values ?fi_Hall_changed_since ?fn_Hall_changed_since ?fi_Hall_do ?fn_Hall_do ?fi_Hall_back ?fn_Hall_back ?pg_Move ?hd_Move ?po_Move ?sa_Move ?mm_Move ?ck_Move ?fi0_Move ?fi_Move_behind ?fn_Move_behind ?fi_Move_ahead ?fn_Move_ahead ?fi_Move_sizes_of ?fn_Move_sizes_of ?fi_Move_on ?fn_Move_on ?fi_Move_told ?fn_Move_told ?pg_Pick ?hd_Pick ?po_Pick ?sa_Pick ?nf_Pick_at ?nf_Pick_axis ?fi_Pick_behind ?fn_Pick_behind ?fi_Pick_ahead ?fn_Pick_ahead ?fi_Pick_sizes_of ?fn_Pick_sizes_of ?fi_Pick_on ?fn_Pick_on ?fi_Pick_told ?fn_Pick_told ?fi_Pick___init__ ?fn_Pick___init__ ?mm_Pick ?ck_Pick ?fi_Pick_picked ?fn_Pick_picked ?pg_Turn ?hd_Turn ?po_Turn ?sa_Turn ?nf_Turn_order ?fi_Turn_behind ?fn_Turn_behind ?fi_Turn_ahead ?fn_Turn_ahead ?fi_Turn_sizes_of ?fn_Turn_sizes_of ?fi_Turn_on ?fn_Turn_on ?fi_Turn_told ?fn_Turn_told ?fi_Turn___init__ ?fn_Turn___init__ ?mm_Turn ?ck_Turn ?pg_Statement ?hd_Statement ?po_Statement ?sa_Statement ?mm_Statement ?ck_Statement ?fi0_Statement ?fi_Statement_run ?fn_Statement_run ?pg_Fill ?hd_Fill ?po_Fill ?sa_Fill ?nf_Fill_to ?nf_Fill_value ?fi_Fill_run ?fn_Fill_run ?fi_Fill___init__ ?fn_Fill___init__ ?mm_Fill ?ck_Fill ?pg_Copy ?hd_Copy ?po_Copy ?sa_Copy ?nf_Copy_source ?nf_Copy_to ?fi_Copy_run ?fn_Copy_run ?fi_Copy___init__ ?fn_Copy___init__ ?mm_Copy ?ck_Copy ?pg_Swap ?hd_Swap ?po_Swap ?sa_Swap ?nf_Swap_one ?nf_Swap_other ?fi_Swap_run ?fn_Swap_run ?fi_Swap___init__ ?fn_Swap___init__ ?mm_Swap ?ck_Swap ?pg_Raise ?hd_Raise ?po_Raise ?sa_Raise ?nf_Raise_source ?nf_Raise_to ?fi_Raise_run ?fn_Raise_run ?fi_Raise___init__ ?fn_Raise___init__ ?mm_Raise ?ck_Raise ?w0 ?w1 ?w2 ?w3 ?w4 ?w5 ?z0 ?z1 ?z2 ?z3 ?z4 ?z5 ?z6 ?z7 ?z8 ?z9 ?z10 ?z11 ?z12 ?z13 ?z14 ?z15 ?z16 ?z17 ?z18
  (case y0|y1|y2|y3|y4|y5|y6|y7|y8|y9|y10|y11=>first|k_is|k_exc|kts_exm|decide|rfl|decide +kernel|kernel_rfl)
  (case y12|y13|y14|y15|y16|y17|y18|y19|y20|y21|fi_TooMany|fi_NoName=>first|k_is|k_exc|kts_exm|decide|rfl|decide +kernel|kernel_rfl)
  (case fi_Known|fi_View___init__|fi_View_sizes|fi_View_paces|fi_View_count|fi_View_cell|fi_View_cells|fi_View_least|fi_View_greatest|fi_Store___init__|fi_Store_all_values|fi_Store_refuse_room=>first|k_is|k_exc|kts_exm|decide|rfl|decide +kernel|kernel_rfl)
  (case fi_Store_read|fi_Store_put|fi_Store_fill|fi_Store_copied|fi_Hall___init__|fi_Hall_refuse_new|fi_Hall_call|fi_Hall_make|fi_Hall_drop|fi_Hall_view|fi_Hall_seen|fi_Hall_names=>first|k_is|k_exc|kts_exm|decide|rfl|decide +kernel|kernel_rfl)
  (case fi_Hall_all_values|fi_Hall_changed_since|fi_Hall_do|fi_Hall_back|fi_Move_behind|fi_Move_ahead|fi_Move_sizes_of|fi_Move_on|fi_Move_told|fi_Pick_behind|fi_Pick_ahead|fi_Pick_sizes_of=>first|k_is|k_exc|kts_exm|decide|rfl|decide +kernel|kernel_rfl)
  (case fi_Pick_on|fi_Pick_told|fi_Pick___init__|fi_Pick_picked|fi_Turn_behind|fi_Turn_ahead|fi_Turn_sizes_of|fi_Turn_on|fi_Turn_told|fi_Turn___init__|fi_Statement_run|fi_Fill_run=>first|k_is|k_exc|kts_exm|decide|rfl|decide +kernel|kernel_rfl)
  (case fi_Fill___init__|fi_Copy_run|fi_Copy___init__|fi_Swap_run|fi_Swap___init__|fi_Raise_run|fi_Raise___init__|a3|a4|a5|a6|a7=>first|k_is|k_exc|kts_exm|decide|rfl|decide +kernel|kernel_rfl)
  (case a8|a9|a10|a11|a12|a13|a22|a23|a24|a25|a33|a46=>first|k_is|k_exc|kts_exm|decide|rfl|decide +kernel|kernel_rfl)
  (case a47|a48|a49|a64|a74|a75|a76|a77|a78|a79|a80|a81=>first|k_is|k_exc|kts_exm|decide|rfl|decide +kernel|kernel_rfl)
  (case a82|a83|a84|a85|a86|a87|a88|a89|a90|a91|a92=>first|k_is|k_exc|kts_exm|decide|rfl|decide +kernel|kernel_rfl)
  (case F0|F1|F2|F3|F4|F5|F6|F7|F8|F9|F10|F11=>(refine' L2.Nq ?l ?c ?k;(case l|c|k=>first|k_is|k_exc|kts_exm|decide|rfl|decide +kernel|kernel_rfl)))
  (case F12|F13|F14|F15|F16|F17|F18|F19|F20|F21|F22|F24=>(refine' L2.Nq ?l ?c ?k;(case l|c|k=>first|k_is|k_exc|kts_exm|decide|rfl|decide +kernel|kernel_rfl)))
  (case F25|F26|F27|F28|F29|F30|F31|F32|F33|F34|F35|F36=>(refine' L2.Nq ?l ?c ?k;(case l|c|k=>first|k_is|k_exc|kts_exm|decide|rfl|decide +kernel|kernel_rfl)))
  (case F37|F38|F39|F40|F41|F42|F43|F44|F45|F46|F47|F48=>(refine' L2.Nq ?l ?c ?k;(case l|c|k=>first|k_is|k_exc|kts_exm|decide|rfl|decide +kernel|kernel_rfl)))
  (case F49|F50|F51|F52|F53|F54|F55|F56|F57|F58|F59|F60=>(refine' L2.Nq ?l ?c ?k;(case l|c|k=>first|k_is|k_exc|kts_exm|decide|rfl|decide +kernel|kernel_rfl)))
  (case F61|F62|F63|F64|F65|F66|F67|F68|F69|F70|F71|F72=>(refine' L2.Nq ?l ?c ?k;(case l|c|k=>first|k_is|k_exc|kts_exm|decide|rfl|decide +kernel|kernel_rfl)))
  (case F73|F74|F75|F76|F77|F78|F79|F80|F81|F82|F83|F84=>(refine' L2.Nq ?l ?c ?k;(case l|c|k=>first|k_is|k_exc|kts_exm|decide|rfl|decide +kernel|kernel_rfl)))
  (case F85|F86|F87|F88|F89|F90|F91=>(refine' L2.Nq ?l ?c ?k;(case l|c|k=>first|k_is|k_exc|kts_exm|decide|rfl|decide +kernel|kernel_rfl)))
  (case o_NoDeed|x_NoDeed_NoDeed|l23|q23|c23|k23|l92|c92|k92|xe_TooMany|xf_TooMany|xo_TooMany=>first|k_is|k_exc|kts_exm|decide|rfl|decide +kernel|kernel_rfl)
  (case xs_TooMany|xh_TooMany|nt_TooMany_number|nf_TooMany_number|bs_PaceError|br_PaceError|bf_PaceError|xe_NoName|xf_NoName|xo_NoName|xs_NoName|xh_NoName=>first|k_is|k_exc|kts_exm|decide|rfl|decide +kernel|kernel_rfl)
  (case nt_NoName_name|nf_NoName_name|xe_Known|xf_Known|xo_Known|xs_Known|xh_Known|nt_Known_name|nf_Known_name|pg_View|hd_View|po_View=>first|k_is|k_exc|kts_exm|decide|rfl|decide +kernel|kernel_rfl)
  (case sa_View|nf_View_axes|nf_View_first|nf_View_room|fn_View___init__|mm_View|ck_View|fn_View_sizes|fn_View_paces|fn_View_count|fn_View_cell|fn_View_cells=>first|k_is|k_exc|kts_exm|decide|rfl|decide +kernel|kernel_rfl)
  (case fn_View_least|fn_View_greatest|pg_Store|hd_Store|po_Store|sa_Store|nf_Store_floor|fn_Store___init__|mm_Store|ck_Store|fn_Store_all_values|fn_Store_refuse_room=>first|k_is|k_exc|kts_exm|decide|rfl|decide +kernel|kernel_rfl)
  (case fn_Store_read|fn_Store_put|fn_Store_fill|fn_Store_copied|pg_Hall|hd_Hall|po_Hall|sa_Hall|nf_Hall_past|nf_Hall_store|nf_Hall_views|fn_Hall___init__=>first|k_is|k_exc|kts_exm|decide|rfl|decide +kernel|kernel_rfl)
  (case mm_Hall|ck_Hall|fn_Hall_refuse_new|fn_Hall_call|fn_Hall_make|fn_Hall_drop|fn_Hall_view|fn_Hall_seen|fn_Hall_names|fn_Hall_all_values|fn_Hall_changed_since|fn_Hall_do=>first|k_is|k_exc|kts_exm|decide|rfl|decide +kernel|kernel_rfl)
  (case fn_Hall_back|pg_Move|hd_Move|po_Move|sa_Move|mm_Move|ck_Move|fi0_Move|fn_Move_behind|fn_Move_ahead|fn_Move_sizes_of|fn_Move_on=>first|k_is|k_exc|kts_exm|decide|rfl|decide +kernel|kernel_rfl)
  (case fn_Move_told|pg_Pick|hd_Pick|po_Pick|sa_Pick|nf_Pick_at|nf_Pick_axis|fn_Pick_behind|fn_Pick_ahead|fn_Pick_sizes_of|fn_Pick_on|fn_Pick_told=>first|k_is|k_exc|kts_exm|decide|rfl|decide +kernel|kernel_rfl)
  (case fn_Pick___init__|mm_Pick|ck_Pick|fn_Pick_picked|pg_Turn|hd_Turn|po_Turn|sa_Turn|nf_Turn_order|fn_Turn_behind|fn_Turn_ahead|fn_Turn_sizes_of=>first|k_is|k_exc|kts_exm|decide|rfl|decide +kernel|kernel_rfl)
  (case fn_Turn_on|fn_Turn_told|fn_Turn___init__|mm_Turn|ck_Turn|pg_Statement|hd_Statement|po_Statement|sa_Statement|mm_Statement|ck_Statement|fi0_Statement=>first|k_is|k_exc|kts_exm|decide|rfl|decide +kernel|kernel_rfl)
  (case fn_Statement_run|pg_Fill|hd_Fill|po_Fill|sa_Fill|nf_Fill_to|nf_Fill_value|fn_Fill_run|fn_Fill___init__|mm_Fill|ck_Fill|pg_Copy=>first|k_is|k_exc|kts_exm|decide|rfl|decide +kernel|kernel_rfl)
  (case hd_Copy|po_Copy|sa_Copy|nf_Copy_source|nf_Copy_to|fn_Copy_run|fn_Copy___init__|mm_Copy|ck_Copy|pg_Swap|hd_Swap|po_Swap=>first|k_is|k_exc|kts_exm|decide|rfl|decide +kernel|kernel_rfl)
  (case sa_Swap|nf_Swap_one|nf_Swap_other|fn_Swap_run|fn_Swap___init__|mm_Swap|ck_Swap|pg_Raise|hd_Raise|po_Raise|sa_Raise|nf_Raise_source=>first|k_is|k_exc|kts_exm|decide|rfl|decide +kernel|kernel_rfl)
  (case nf_Raise_to|fn_Raise_run|fn_Raise___init__|mm_Raise|ck_Raise|w0|w1|w2|w3|w4|w5|z0=>first|k_is|k_exc|kts_exm|decide|rfl|decide +kernel|kernel_rfl)
  (case z1|z2|z3|z4|z5|z6|z7|z8|z9|z10|z11|z12=>first|k_is|k_exc|kts_exm|decide|rfl|decide +kernel|kernel_rfl)
  (case z13|z14|z15|z16|z17|z18=>first|k_is|k_exc|kts_exm|decide|rfl|decide +kernel|kernel_rfl)
#print axioms PySem.Challenge.cw_pacehall_k87_whole_halls_back_holds