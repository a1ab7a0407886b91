import PyProof.Rows.All
import Wide.All
import OpenK.AllK
import Wide.FinOn
import Lean
import PyProof.EqAt
import PyProof.EqKinds
import PyProof.TupleCall
import PySem.Challenge.RW_pacehall_k84_whole_any_order_in_rounds
set_option Elab.async false
set_option linter.all false
set_option maxRecDepth 100000
set_option maxHeartbeats 0
open List (mem_cons_self mem_cons_of_mem mem_append_left mem_append_right length_cons map_cons length_map append_nil length_take getElem?_append_right getElem?_append_left getElem?_map mem_of_getElem? length_append size_toArray length_set replicate_succ flatten_cons foldl_cons length_singleton map_nil find?_cons cons_append getElem_mem getElem?_eq_getElem lookup_cons getElem?_eq_none mem_cons not_mem_nil take_length getElem_of_mem length_zip length_range map_append map_map take_add_one foldl_append mem_append take_zero getD_eq_getElem?_getD)
namespace QL
def My:=@PySem.wpAny_bind
def Qf:=@List.getElem?_eq_getElem
def Qg:=@PySem.Heap.get?_push_of_some
def Qh:=@List.getElem?_eq_some_iff
def Qi:=@Nat.le_refl
def Qj:=@Option.map_eq_some_iff
def Qk:=@List.length_map
def Ql:=@PySem.wpAny_pure
def Qm:=@PySem.Heap.lt_size
def Qn:=@List.mem_append_right
def Qo:=@List.mem_singleton
def Qp:=@PySem.Heap.get?_push_size
def Qq:=@List.getElem?_map
def Qr:=@List.mem_of_getElem?
def Qs:=@Nat.lt_of_lt_of_le
def Qt:=@List.mem_cons_of_mem
def Qu:=@PySem.PassesOwn.never
def Qv:=@List.mem_cons_self
def Qw:=@List.length_append
def Qx:=@Bool.false_ne_true
def Qy:=@Nat.ne_of_lt
def Qz:=@List.mem_append_left
def QA:=@List.getD_eq_getElem?_getD
def QB:=@if_neg
def QC:=@List.not_mem_nil
def QD:=@List.take_length
def QE:=@if_pos
def QF:=@List.mem_append
def QG:=@List.mem_cons
def QH:=@List.size_toArray
def QI:=@PySem.W.mg_of
def QJ:=@PySem.F.plainAttrs_list
def QK:=@Nat.zero_le
def QL:=@Option.some.inj
def QM:=@PySem.Heap.get?_update_self
def QN:=@List.mem_map
def QO:=@PySem.Heap.get?_update_other
def QP:=@Nat.le_trans
def QQ:=@List.take_add_one
def QR:=@PySem.Heap.size_push
def QS:=@Ne.symm
def QT:=@PySem.F.plain_max_loop
def QU:=@PySem.wpAny_holding
def QV:=@List.length_singleton
def QW:=@decide_eq_false
def QX:=@Int.toNat_natCast
def QY:=@List.getElem?_append_right
def QZ:=@Array.getElem?_eq_some_iff
def Q0:=@PySem.wpAny_seqItems
def Q1:=@List.mem_range
def Q2:=@PySem.wpAny_field
def Q3:=@PySem.PassesOwn.leaving
def Q4:=@Nat.lt_irrefl
def Q5:=@PySem.wpAny_tryCatch
def Q6:=@List.getElem?_append_left
def Q7:=@PySem.Heap.get?_none_of_le
def Q8:=@List.length_range
def Q9:=@List.getElem?_eq_none
def Ra:=@PySem.W.mg_none_of
def Rb:=@List.nodup_cons
def Rc:=@List.length_take
def Rf:=@PySem.wpAny_mono
def Rg:=@PySem.wpAny_Call_Name_kw
def Rh:=@decide_eq_true
def Ri:=@Option.map_some
def Rj:=@List.map_cons
def Rk:=@List.getElem_of_mem
def Rl:=@List.map_append
def Rm:=@PySem.wpAny_truthy_bool
def Rn:=@PySem.F.excBase_ValueError
def Ro:=@Int.emod_lt_of_pos
def Rp:=@PySem.Heap.get?_update_ne
def Rq:=@Nat.le_succ
def Rr:=@or_false
def Rt:=@PySem.codeAny_mono
def Ru:=@PySem.F.type_list_extend
def Rv:=@PySem.F.slot_list_extend
def Rw:=@PySem.Obj.isFreed_of_fields
def Rx:=@List.mem_filter
def Ry:=@Int.emod_nonneg
def Rz:=@List.replicate_succ
def RA:=@List.length_cons
def RB:=@beq_eq_false_iff_ne
def RC:=@PySem.codeAny_call_builtin
def RD:=@PySem.Around.under_plainId
def RE:=@List.flatten_cons
def RF:=@List.take_of_length_le
def RG:=@List.lookup_cons
def RH:=@List.getElem_mem
def RI:=@PySem.wpAny_standAt
def RJ:=@PySem.wpAny_letGo
def RK:=@List.foldl_cons
def RL:=@PyProof.Rows.callWith_type1
def RM:=@Nat.not_lt_zero
def RN:=@Nat.ne_of_gt
def RO:=@Nat.le_of_lt
def RP:=@PySem.wpAny_call
def RQ:=@List.map_map
def RS:=@congrArg
def RT:=@PySem.wpAny_setField_rec
def RU:=@PySem.Obj.data_mapFields
def RV:=@List.mem_of_mem_take
def RW:=@PySem.W.kia_one
def RX:=@Classical.byContradiction
def RY:=@beq_self_eq_true
def RZ:=@Nat.lt_succ_self
def R0:=@PySem.wpAny_pyIter_list
def R3:=@PySem.wpAny_newObj_type
def R4:=@PySem.wpAny_loadPart_at
def R5:=@PySem.plainId_quiet
def R6:=@PySem.mem_of_lookup
def R7:=@Int.toNat_of_nonneg
def R8:=@beq_iff_eq
def R9:=@PySem.F.type_list_append
def Sa:=@PySem.F.slot_list_append
def Sb:=@Option.isSome_iff_exists
def Se:=@Nat.lt_trans
def Sf:=@PySem.F.slot_tuple_iterator_next
def Sg:=@List.take_zero
def Sh:=@beq_false_of_ne
def Si:=@List.filter_append
def Sj:=@PySem.F.entry_max_loop
def Sk:=@List.foldl_append
def Sl:=@PySem.Heap.SameBut.update
def Sm:=@PySem.wpAny_updateSeq
def Sn:=@PySem.wpAny_callSpecial?_slot
def So:=@PySem.codeAny_builtin
def Sq:=@List.length_filter_le
def Sr:=@Nat.le_add_right
def Ss:=@List.find?_cons
def Su:=@List.append_nil
def Sv:=@Nat.mul_le_mul_right
def Sw:=@List.getElem?_set_ne
def Sx:=@PySem.wpAny_setField
def Sy:=@List.mem_map_of_mem
def Sz:=@List.filterMap_cons
def SA:=@Bool.eq_iff_iff
def SD:=@Nat.min_self
def SE:=@Nat.le_of_eq
def SF:=@List.length_set
def SG:=@PySem.wpAny_passesOwn
def SH:=@PySem.W.methodCall_KW
def SI:=@List.getElem?_replicate
def SJ:=@PySem.tupleKind_room_in1
def SK:=@Nat.le_of_not_lt
def SM:=@List.pairwise_lt_range
def SN:=@List.getElem?_set_self
def SO:=@List.length_zip
def SQ:=@List.of_mem_zip
def SR:=@PySem.F.attr_ValueError
def SS:=@List.cons_append
def SU:=@PySem.wpAny_attempt
def SV:=@PySem.Paired.length
def SW:=@PySem.wpAny_call_entry
def SX:=@Int.mul_le_mul
def SY:=@PySem.wpAny_pyNext_list_item
def S0:=@if_true
def S1:=@List.map_congr_left
def S2:=@List.length_zipWith
def S3:=@List.getElem?_range
def S4:=@PySem.wpAny_pyNext_list_end
def S5:=@PySem.wpAny_execs_nil
def S6:=@if_false
def S7:=@PySem.W.callWith_K
def S8:=@PySem.F.slot_zip_next
def S9:=@Bool.false_or
def Ta:=@Bool.false_eq_true
def Tb:=@PySem.call_meets
def Tc:=@PySem.wpAny_updateSeq_pair
def Td:=@PySem.W.looks_findIn
def Te:=@Option.isSome_map
def Tf:=@List.ext_getElem?
def Tg:=@List.Pairwise.imp
def Th:=@PySem.Calls.evalArgs_plain
def Ti:=@Array.getElem?_setIfInBounds_ne
def Tj:=@PySem.wpAny_comprehension_free
def Tn:=@PyProof.Rows.callWith_builtin1
def To:=@Nat.succ.inj
def Tp:=@Int.zero_add
def Tq:=@Int.mul_le_mul_of_nonneg_right
def Tr:=@Option.bind_some
def Ts:=@List.nodup_range
def Tt:=@List.all_eq_true
def Tu:=@Bool.and_eq_true
def Tv:=@PySem.wpAny_onRaise
def Tw:=@PySem.wpAny_evalAll_cons
def Tz:=@List.forIn_cons
def TB:=@Int.natCast_mul
end QL
open QL
namespace L2
open PySem PySem.Spec PyProof.Rows
abbrev Key:=Sum Int Str
def rL:Key->Value->Bool
 | .inl k,v=>Value.isInt k v
 | .inr x,v=>Value.isStrOf x v
def P2(w:World):Key->Int
 | .inl k=>hashInt k
 | .inr x=>hashStr w x
def aW:∀ {k:Key}{v:Value},rL k v=true->(∃ i t,k=Sum.inl i/\v=Value.int i t)\/(∃ x t,k=Sum.inr x/\v=Value.str x t)
 | .inl i,v,h=>by
  obtain⟨t,e⟩:=Value.isInt_shape (k:=i) (v:=v) h;exact .inl ⟨i,t,rfl,e⟩
 | .inr x,v,h=>by
  obtain⟨t,e⟩:=Value.isStrOf_shape (x:=x) (v:=v) h;exact .inr ⟨x,t,rfl,e⟩
def AB(i:Int)(t:Tok):rL (.inl i) (.int i t)=true:=by simp [rL,Value.isInt]
def AA(x:Str)(t:Tok):rL (.inr x) (.str x t)=true:=by simp [rL,Value.isStrOf]
def L7(a b:Int):decide ((Sum.inl a:Key)=Sum.inl b)=(a == b):=by
 by_cases e:a=b
 ·subst e;simp
 ·have h:¬ (Sum.inl a:Key)=Sum.inl b:=λ q=>e (Sum.inl.inj q);rw [QW h];exact(RB.mpr e).symm
def L4(a b:Str):decide ((Sum.inr a:Key)=Sum.inr b)=decide (a=b):=by
 by_cases e:a=b
 ·subst e;simp
 ·have h:¬ (Sum.inr a:Key)=Sum.inr b:=λ q=>e (Sum.inr.inj q);rw [QW h,QW e]
def L6(a:Int)(b:Str):decide ((Sum.inl a:Key)=Sum.inr b)=false:=QW (λ q=>nomatch q)
def L5(a:Str)(b:Int):decide ((Sum.inr a:Key)=Sum.inl b)=false:=QW (λ q=>nomatch q)
def bU(prog:Program)(w:World):PySem.KeyKind prog w Key where
 is:=rL
 hash:=P2 w
 inj:=λ v a b ha hb=>by
  rcases aW ha with ⟨i,t,rfl,rfl⟩|⟨x,t,rfl,rfl⟩
  ·rcases aW hb with ⟨j,u,rfl,e⟩|⟨y,u,rfl,e⟩
   ·injection e with e1 _;rw [e1]
   ·exact nomatch e
  ·rcases aW hb with ⟨j,u,rfl,e⟩|⟨y,u,rfl,e⟩
   ·exact nomatch e
   ·injection e with e1 _;rw [e1]
 byValue:=λ k v h=>by
  rcases aW h with ⟨i,t,rfl,rfl⟩|⟨x,t,rfl,rfl⟩<;>rfl
 pyHash:=λ hv h=>by
  rcases aW hv with ⟨i,t,rfl,rfl⟩|⟨x,t,rfl,rfl⟩
  ·exact wpAny_pyHash_int h
  ·exact wpAny_pyHash_str h
 eqBool:=λ hu hv h=>by
  rcases aW hu with ⟨i,t,rfl,rfl⟩|⟨x,t,rfl,rfl⟩
  ·rcases aW hv with ⟨j,u,rfl,rfl⟩|⟨y,u,rfl,rfl⟩
   ·rw [L7] at h;exact wpAny_eqBool_int h
   ·rw [L6] at h;exact SeqAt.EqAt.int_str i t y u _ _ _ _ h
  ·rcases aW hv with ⟨j,u,rfl,rfl⟩|⟨y,u,rfl,rfl⟩
   ·rw [L5] at h;exact SeqAt.EqAt.str_int x t j u _ _ _ _ h
   ·rw [L4] at h;exact wpAny_eqBool_str h
 «strs»:=λ k x t v h=>by
  rcases aW h with ⟨i,u,rfl,e⟩|⟨y,u,rfl,e⟩
  ·exact nomatch e
  ·injection e with e1 _
   subst e1
   cases v<;>rfl
def tD(prog:Program)(w:World)(i:Int)(t:Tok):(bU prog w).is (.inl i) (.int i t)=true:=AB i t
def tw(prog:Program)(w:World)(x:Str)(t:Tok):(bU prog w).is (.inr x) (.str x t)=true:=AA x t
inductive V where
 | non|bl (b:Bool)|int (i:Int)|str (x:Str)|byt (b:Array UInt8)|flt (b:UInt64)|ref (a:Addr)|ty (n:String)
 deriving DecidableEq
def bA:V->Value->Prop
 | .non,u=>u=Value.none
 | .bl b,u=>u=Value.bool b
 | .int i,u=>∃ t,u=Value.int i t
 | .str x,u=>∃ t,u=Value.str x t
 | .byt b,u=>∃ t,u=Value.bytes b t
 | .flt b,u=>∃ t,u=Value.float b t
 | .ref a,u=>u=Value.ref a
 | .ty n,u=>u=Value.type n
abbrev bf:List V->List Value->Prop:=Paired bA
def bf.length{xs:List V}{us:List Value}(r:bf xs us):xs.length=us.length:=SV r
def bf.get:∀ {xs:List V}{us:List Value}{i:Nat}{x:V},bf xs us->xs[i]? = some x->∃ u,us[i]? = some u/\bA x u
 | _,_,_,_,.nil,e=>by simp at e
 | _,_,0,_,.cons r _,e=>by simp at e;subst e;exact⟨_,rfl,r⟩
 | _,_,i+1,x,.cons _ t,e=>by
  obtain⟨u,h1,h2⟩:=bf.get (i:=i) (x:=x) t (by simpa using e);exact⟨u,by simpa using h1,h2⟩
def bf.set{x:V}{u:Value}(r:bA x u):∀ {xs:List V}{us:List Value}(i:Nat),bf xs us->bf (xs.set i x) (us.set i u)
 | _,_,_,.nil=>.nil
 | _,_,0,.cons _ t=>.cons r t
 | _,_,i+1,.cons q t=>.cons q (bf.set r i t)
def bf.append:∀ {xs ys:List V}{us ws:List Value},bf xs us->bf ys ws->bf (xs++ys) (us++ws)
 | _,_,_,_,.nil,s=>s
 | _,_,_,_,.cons r t,s=>.cons r (bf.append t s)
def bf.take:∀ {xs:List V}{us:List Value}(n:Nat),bf xs us->bf (xs.take n) (us.take n)
 | _,_,0,_=>.nil
 | _,_,_+1,.nil=>.nil
 | _,_,n+1,.cons r t=>.cons r (bf.take n t)
def bf.drop:∀ {xs:List V}{us:List Value}(n:Nat),bf xs us->bf (xs.drop n) (us.drop n)
 | _,_,0,r=>r
 | _,_,_+1,.nil=>.nil
 | _,_,n+1,.cons _ t=>bf.drop n t
def pf:Option V->Option Value->Prop
 | some v,some u=>bA v u
 | none,none=>True
 | _,_=>False
def KV{κ:Type}:List (κ × V)->List (κ × Value)->Prop:=Paired λ (p:κ × V) (q:κ × Value)=>p.1=q.1/\bA p.2 q.2
def kV:Key->V
 | .inl i=>.int i
 | .inr x=>.str x
inductive HO where
 | lst (xs:List V)
 | tup (xs:List V)
 | dK (kvs:List (Key × V))|dT (kvs:List (List Key × V))
 | set (S:Int->Bool) (n:Nat)
 | ins (C dx:Addr) (fs:List (Str × V))
 | own (x:Addr)
 | xd (fs:List (Str × V))
 | met (f x:Addr)
 | rng (lo hi:Int)
 | frz (o:Obj) (u:HO)
 | tbl (ps:Array Value)
 | cod (q:Str)
 | ext (φ:Heap->Prop)
abbrev Hp:=Addr->Option HO
def upd(H:Hp)(a:Addr)(o:HO):Hp:=λ b=>if b=a then some o else H b
def af{H:Hp}{a:Addr}{o:HO}:upd H a o a=some o:=by unfold upd;rw [if_pos rfl]
def ae{H:Hp}{a b:Addr}{o:HO}(h:b ≠ a):upd H a o b=H b:=by unfold upd;rw [if_neg h]
def Fe{H:Hp}{a:Addr}{o u:HO}:upd (upd H a o) a u=upd H a u:=by
 funext b;unfold upd;split<;>rfl
def NM{H:Hp}{a b:Addr}{o u:HO}(h:H a=some o)(h':H b=some u)(d:o ≠ u):a ≠ b:=by
 intro e;subst e;rw [h] at h';exact d (QL h')
def ag{H:Hp}{a b:Addr}{o:HO}(h:H a=some o)(h':H b=none):a ≠ b:=by
 intro e;subst e;rw [h] at h';cases h'
section
variable (P:Program)(w:World)
def bg(H:Hp)(h:Heap)(a:Addr):HO->Prop
 | .lst xs=>xs.length<=sizeLine/\∃ (its:List Value) (n:Nat),bf xs its/\h.get? a=some { cls:=.type "list",data:=.seq its.toArray n }
 | .tup xs=>xs.length<=sizeLine/\∃ its:List Value,bf xs its/\IsTup h a its.toArray
 | .dK kvs=>kvs.length<=sizeLine/\(a == sysModules)=false/\∃ vs,KV kvs vs/\h.DictOf (bU P w) a vs
 | .dT kvs=>kvs.length<=sizeLine/\(a == sysModules)=false/\∃ xs:List (List Key × Addr × Value),
   Paired (λ (p:List Key × V) (q:List Key × Addr × Value)=>p.1=q.1/\H q.2.1=some (.tup (p.1.map kV))/\bA p.2 q.2.2) kvs xs /\
   ∃ o es ep,h.get? a=some o/\o.ExactDict/\o.data=.dict es ep/\es.toList=xs.map (entryOfKey (tupleKind (bU P w)))/\(xs.map (·.1)).Nodup
 | .set S n=>h.SetOf (intKind P w) a S n
 | .ins C dx fs=>H dx=some (.own a)/\fs.length<=1000/\dx ≠ a/\h.get? a=some (W.instObj C dx) /\
   ∃ mA,h.Ns1 dx mA/\(∀ f,pf (fs.lookup f) (mA f))/\PySem.Within mA (fs.map (·.1))
 | .own _=>∃ o,h.get? a=some o
 | .xd fs=>∃ mA,h.Ns1 a mA/\∀ f,pf (fs.lookup f) (mA f)
 | .rng lo hi=>∃ t u v,h.get? a=some { cls:=.type "range",data:=.fields #[.int lo t,.int hi u,.int 1 v] }
 | .frz o u=>h.get? a=some o/\bg H h a u
 | .tbl ps=>∃ (q:Str) (t:Tok) (qs:Array Value),ps=#[.str q t]/\h.get? a=some { cls:=.none,data:=.fields qs }/\TriplesOk qs.toList/\∀ (pos:Pos) (cv:Value),codeAmong pos qs.toList=some cv->∃ c:Addr,cv=.ref c/\H c=some (.cod q)
 | .cod q=>∃ (o:Obj) (vs:Array Value) (t:Tok),h.get? a=some o/\o.data=.fields vs/\vs[1]? = some (.str q t)
 | .met f x=>h.get? a=some (W.methodObj (.ref f) (.ref x))
 | .ext φ=>φ h/\(∃ o,h.get? a=some o)/\∀ h1 h2:Heap,φ h1->(∀ o,h1.get? a=some o->h2.get? a=some o)->φ h2
def HOk(H:Hp)(h:Heap):Prop:=∀ a o,H a=some o->bg P w H h a o
end
section
variable {P:Program}{w:World}{H H':Hp}{h h':Heap}{a:Addr}{o:HO}
def bg.lt(x:bg P w H h a o):a < h.objs.size:=by
 cases o with
 | lst xs=>obtain⟨_,_,_,_,e⟩:=x;exact Qm e
 | tup xs=>obtain⟨_,_,_,p⟩:=x;exact p.lt
 | dK kvs=>obtain⟨_,_,_,_,o,_,_,e,_⟩:=x;exact Qm e
 | dT kvs=>obtain⟨_,_,_,_,o,_,_,e,_⟩:=x;exact Qm e
 | set S n=>obtain⟨o,_,_,_,e,_⟩:=x;exact Qm e
 | ins C dx fs=>obtain⟨_,_,_,e,_⟩:=x;exact Qm e
 | own y=>obtain⟨_,e⟩:=x;exact Qm e
 | xd fs=>obtain⟨_,⟨_,_,_,e,_⟩,_⟩:=x;exact Qm e
 | rng lo hi=>obtain⟨_,_,_,e⟩:=x;exact Qm e
 | frz ob u=>obtain⟨e,_⟩:=x;exact Qm e
 | tbl ps=>obtain⟨_,_,_,_,e,_⟩:=x;exact Qm e
 | cod q=>obtain⟨_,_,_,e,_⟩:=x;exact Qm e
 | met f y=>exact Qm (show h.get? a=some _ from x)
 | ext φ=>obtain⟨_,⟨_,e⟩,_⟩:=x;exact Qm e
def Paired.mapP{α β:Type}{F G:α->β->Prop}:∀ {l₁:List α}{l₂:List β},Paired F l₁ l₂->(∀ a b,F a b->G a b)->Paired G l₁ l₂
 | _,_,.nil,_=>.nil
 | _,_,.cons r t,f=>.cons (f _ _ r) (Paired.mapP t f)
def bg.stay(x:bg P w H h a o)(k:∀ b u,(b=a\/H b=some (.own a))->h.get? b=some u->h'.get? b=some u)
  (ho:∀ b,H b=some (.own a)->H' b=some (.own a)) (hq:∀ b q,H b=some (.cod q)->H' b=some (.cod q)) (ht:∀ b xs,H b=some (.tup xs)->H' b=some (.tup xs)):bg P w H' h' a o:=by
 induction o with
 | lst xs=>obtain⟨z,its,n,r,e⟩:=x;exact⟨z,its,n,r,k _ _ (.inl rfl) e⟩
 | tup xs=>obtain⟨z,its,r,ob,e,c⟩:=x;exact⟨z,its,r,ob,k _ _ (.inl rfl) e,c⟩
 | dK kvs=>obtain⟨z,y,vs,r,ob,es,ep,e,c⟩:=x;exact⟨z,y,vs,r,ob,es,ep,k _ _ (.inl rfl) e,c⟩
 | dT kvs=>
  obtain⟨z,y,xs,r,ob,es,ep,e,c⟩:=x;exact⟨z,y,xs,Paired.mapP r λ p q z=>⟨z.1,ht _ _ z.2.1,z.2.2⟩,ob,es,ep,k _ _ (.inl rfl) e,c⟩
 | set S n=>obtain⟨ob,es,ep,t,e,c⟩:=x;exact⟨ob,es,ep,t,k _ _ (.inl rfl) e,c⟩
 | ins C dx fs=>
  obtain⟨d,z,ne,e,mA,⟨od,es,ep,e2,c⟩,r⟩:=x;exact⟨ho _ d,z,ne,k _ _ (.inl rfl) e,mA,⟨od,es,ep,k _ _ (.inr d) e2,c⟩,r⟩
 | own y=>obtain⟨ob,e⟩:=x;exact⟨ob,k _ _ (.inl rfl) e⟩
 | xd fs=>obtain⟨mA,⟨od,es,ep,e,c⟩,r⟩:=x;exact⟨mA,⟨od,es,ep,k _ _ (.inl rfl) e,c⟩,r⟩
 | rng lo hi=>obtain⟨t,u,v,e⟩:=x;exact⟨t,u,v,k _ _ (.inl rfl) e⟩
 | frz ob u ih=>obtain⟨e,q⟩:=x;exact⟨k _ _ (.inl rfl) e,ih q⟩
 | tbl ps=>
  obtain⟨q,t,qs,e0,e,tr,hc⟩:=x;refine⟨q,t,qs,e0,k _ _ (.inl rfl) e,tr,λ pos cv aq=>?_⟩;obtain⟨c,r1,r2⟩:=hc pos cv aq;exact⟨c,r1,hq _ _ r2⟩
 | cod q=>obtain⟨ob,vs,t,e,c⟩:=x;exact⟨ob,vs,t,k _ _ (.inl rfl) e,c⟩
 | met f y=>
  have e:h.get? a=some (W.methodObj (.ref f) (.ref y)):=x
  show h'.get? a=some (W.methodObj (.ref f) (.ref y))
  exact k a _ (.inl rfl) e
 | ext φ=>obtain⟨p,⟨o,e⟩,st⟩:=x;exact⟨st _ _ p λ o q=>k _ _ (.inl rfl) q,⟨o,k _ _ (.inl rfl) e⟩,st⟩
def HOk.lt(x:HOk P w H h)(e:H a=some o):a < h.objs.size:=(x a o e).lt
def HOk.fresh(x:HOk P w H h)(e:h.objs.size<=a):H a=none:=by
 cases q:H a with
 | none=>rfl
 | some u=>exact absurd (Qs (x.lt q) e) (Q4 _)
def HOk.kept(x:HOk P w H h)(k:∀ b u,h.get? b=some u->h'.get? b=some u):HOk P w H h':=λ a o e=>
 (x a o e).stay (λ b u _ q=>k b u q) (λ _ q=>q) (λ _ _ q=>q) λ _ _ q=>q
def HOk.laid(x:HOk P w H h)(k:∀ b u,h.get? b=some u->h'.get? b=some u)(hp:h.objs.size<=a)(new:bg P w (upd H a o) h' a o):HOk P w (upd H a o) h':=λ b u e=>by
 have hn:=x.fresh hp
 by_cases hb:b=a
 ·subst hb;rw [af] at e;cases e;exact new
 ·rw [ae hb] at e;exact(x b u e).stay (λ c v _ q=>k c v q) (λ c q=>by rw [ae (ag q hn)];exact q) (λ c y q=>by rw [ae (ag q hn)];exact q) λ c xs q=>by rw [ae (ag q hn)];exact q
end
def Rd(H:Hp)(a:Addr)(u:HO):Prop:=H a=some u\/∃ o,H a=some (.frz o u)
def Rd.ok{P:Program}{w:World}{H:Hp}{h:Heap}{a:Addr}{u:HO}(r:Rd H a u)(x:HOk P w H h):bg P w H h a u:=by
 rcases r with r|⟨o,r⟩
 ·exact x a u r
 ·obtain⟨_,q⟩:=x a _ r;exact q
def Mut:Option HO->Prop
 | some (.lst _)=>True
 | some (.dK _)=>True
 | some (.dT _)=>True
 | some (.set _ _)=>True
 | some (.ins _ _ _)=>True
 | some (.ext _)=>True
 | _=>False
section
variable {P:Program}{w:World}{H:Hp}{h h':Heap}{x e:Addr}{o':HO}
def HOk.write(ok:HOk P w H h)(mu:Mut (H x))(he:e=x\/H e=some (.own x))(k:∀ b u,b ≠ e->h.get? b=some u->h'.get? b=some u)(a4:∃ u,h'.get? e=some u)
  (new:bg P w (upd H x o') h' x o'):HOk P w (upd H x o') h':=λ b u q=>by
 have aq:∀ c y,H c=some (.own y)->c ≠ x:=λ c y r z=>by subst z;rw [r] at mu;exact mu
 have ar:∀ c xs,H c=some (.tup xs)->c ≠ x:=λ c xs r z=>by subst z;rw [r] at mu;exact mu
 have a3:∀ c y,H c=some (.cod y)->c ≠ x:=λ c y r z=>by subst z;rw [r] at mu;exact mu
 by_cases hb:b=x
 ·subst hb;rw [af] at q;cases q;exact new
 ·rw [ae hb] at q
  by_cases hbe:b=e
  ·have q':H b=some (.own x):=by
    rcases he with z|z
    ·exact absurd (hbe.trans z) hb
    ·rw [hbe];exact z
   rw [q] at q';cases q';obtain⟨v,hv⟩:=a4;exact⟨v,by rw [hbe];exact hv⟩
  ·refine(ok b u q).stay (λ c v hc r=>k c v ?_ r) (λ c r=>by rw [ae (aq c b r)];exact r) (λ c y r=>by rw [ae (a3 c y r)];exact r) λ c xs r=>by rw [ae (ar c xs r)];exact r
   rcases hc with rfl|hc
   ·exact hbe
   ·rintro rfl
    rcases he with z|z
    ·exact aq c b hc z
    ·rw [hc] at z;cases z;exact hb rfl
end
structure Un(fs ex:List Addr)(H H':Hp)(h h':Heap):Prop where
 keep:∀ b o,h.get? b=some o->H b=none->b ∉ fs->b ∉ ex->h'.get? b=some o
 slot:∀ b o,h.get? b=some o->H b=none->b∈fs->b ∉ ex->∃ sl,h'.get? b=some { o with slots:=sl }
 free:∀ b o,h.get? b=some o->H b=none->b ∉ ex->H' b=none
 there:∀ b o,h.get? b=some o->b ∉ ex->∃ o',h'.get? b=some o'
 tups:∀ b xs,H b=some (.tup xs)->H' b=some (.tup xs)
 frzs:∀ b o u,H b=some (.frz o u)->H' b=some (.frz o u)
 tbls:∀ b ps,H b=some (.tbl ps)->∃ more,H' b=some (.tbl (ps++more))
section
variable {fs fs' ex ex':List Addr}{H H1 H2:Hp}{h h1 h2 h':Heap}{a x e:Addr}{o:HO}
def Un.any(u:Un fs ex H H1 h h1){b:Addr}{ob:Obj}(q:h.get? b=some ob)(n:H b=none)(hx:b ∉ ex):∃ sl,h1.get? b=some { ob with slots:=sl }:=by
 by_cases hb:b∈fs
 ·exact u.slot b ob q n hb hx
 ·exact⟨ob.slots,u.keep b ob q n hb hx⟩
def Un.trans(a:Un fs ex H H1 h h1)(b:Un fs ex H1 H2 h1 h2):Un fs ex H H2 h h2 where
 keep:=λ c ob q n hc hx=>b.keep c ob (a.keep c ob q n hc hx) (a.free c ob q n hx) hc hx
 slot:=λ c ob q n hc hx=>by
  obtain⟨sl,e1⟩:=a.slot c ob q n hc hx;obtain⟨aq,e2⟩:=b.slot c _ e1 (a.free c ob q n hx) hc hx;exact⟨aq,e2⟩
 free:=λ c ob q n hx=>by
  obtain⟨o',e1⟩:=a.there c ob q hx;exact b.free c o' e1 (a.free c ob q n hx) hx
 there:=λ c ob q hx=>by
  obtain⟨o',e1⟩:=a.there c ob q hx;exact b.there c o' e1 hx
 tups:=λ c xs q=>b.tups c xs (a.tups c xs q)
 frzs:=λ c ob xs q=>b.frzs c ob xs (a.frzs c ob xs q)
 tbls:=λ c ps q=>by
  obtain⟨m1,e1⟩:=a.tbls c ps q;obtain⟨m2,e2⟩:=b.tbls c _ e1;exact⟨m1++m2,by rw [e2,Array.append_assoc]⟩
def Un.kept(k:∀ b u,h.get? b=some u->h'.get? b=some u):Un fs ex H H h h':=
 ⟨λ b ob q _ _ _=>k b ob q,λ b ob q _ _ _=>⟨ob.slots,k b ob q⟩,λ _ _ _ n _=>n,λ b ob q _=>⟨ob,k b ob q⟩,λ _ _ q=>q,λ _ _ _ q=>q,λ _ ps q=>⟨#[],by rw [q];simp⟩⟩
def Un.refl:Un fs ex H H h h:=Un.kept λ _ _ q=>q
def Un.laid(k:∀ b u,h.get? b=some u->h'.get? b=some u)(hp:h.objs.size<=a)(hn:H a=none):Un fs ex H (upd H a o) h h' where
 keep:=λ b u q _ _ _=>k b u q
 slot:=λ b u q _ _ _=>⟨u.slots,k b u q⟩
 free:=λ b u q n _=>by rw [ae (Qy (Qs (Qm q) hp))];exact n
 there:=λ b u q _=>⟨u,k b u q⟩
 tups:=λ b xs q=>by rw [ae (ag q hn)];exact q
 frzs:=λ b u xs q=>by rw [ae (ag q hn)];exact q
 tbls:=λ b ps q=>⟨#[],by rw [ae (ag q hn),q];simp⟩
def Un.write(mu:Mut (H x))(he:e=x\/H e=some (.own x))(k:∀ b u,b ≠ e->h.get? b=some u->h'.get? b=some u)(aq:∃ u,h'.get? e=some u):Un fs ex H (upd H x o) h h':=by
 have hx:∀ b,H b=none->b ≠ x:=λ b n z=>by subst z;rw [n] at mu;exact mu
 have hb:∀ b,H b=none->b ≠ e:=λ b n z=>by
  subst z
  rcases he with r|r
  ·exact hx b n r
  ·rw [n] at r;cases r
 have hm:∀ b u,H b=some u->¬ Mut (some u)->b ≠ x:=λ b u q nm z=>by subst z;rw [q] at mu;exact nm mu
 refine⟨λ b u q n _ _=>k b u (hb b n) q,λ b u q n _ _=>⟨u.slots,k b u (hb b n) q⟩,λ b u q n _=>by rw [ae (hx b n)];exact n,λ b u q _=>?_,
  λ b xs q=>by rw [ae (hm b _ q λ z=>z)];exact q,λ b u xs q=>by rw [ae (hm b _ q λ z=>z)];exact q,λ b ps q=>⟨#[],by rw [ae (hm b _ q λ z=>z),q];simp⟩⟩
 by_cases hbe:b=e
 ·subst hbe;exact aq
 ·exact⟨u,k b u hbe q⟩
end
def trk(h:Heap)(H:Hp):List Addr:=(List.range h.objs.size).filter λ a=>(H a).isSome
def Bm(h:Heap)(H:Hp):Heap:=W.hideAll h (trk h H)
def AG(h:Heap)(H:Hp):(Bm h H).objs.size=h.objs.size:=W.hideAll_size _ _
def Dm{h:Heap}{H:Hp}{b:Addr}{o:Obj}(e:h.get? b=some o)(n:H b=none):(Bm h H).get? b=some o:=
 W.hideAll_get _ e λ hm=>by
  have q:(H b).isSome=true:=(Rx.mp hm).2;rw [n] at q;simp at q
def FY{h:Heap}{H:Hp}{b:Addr}{o:Obj}(e:(Bm h H).get? b=some o):h.get? b=some o/\H b=none:=by
 have e':h.get? b=some o:=W.of_hideAll (trk h H) e;refine⟨e',?_⟩
 cases q:H b with
 | none=>rfl
 | some x=>
  have hm:b∈trk h H:=Rx.mpr ⟨Q1.mpr (Qm e'),by simp [q]⟩;have z:(Bm h H).get? b=none:=W.hideAll_none (trk h H) hm;rw [z] at e;cases e
def IU(g h:Heap)(L:Addr):List (Addr × Obj):=(List.range h.objs.size).filterMap λ a=>if a=L\/(g.get? a).isSome=true then none else (h.get? a).map λ o=>(a,o)
def cB(g h:Heap)(L d:Addr):List (Addr × Obj):=(IU g h L).filter λ p=>decide (p.1 ≠ d)
structure Mod(K:W.Frag)(mg:Str->Option Value)(base:Heap):Prop where
 kin:K.In base
 glob:base.Ns mainGlobals mg
 blt:∃ mb,base.Ns builtinsNs mb/\∀ x:Str,x ≠ "__name__" → mb x=bootBuiltins x
 nolimit:base.NoLimit
structure Cx where
 prog:Program
 w:World
 K:W.Frag
 mg:Str->Option Value
 base:Heap
 A:Around
 N:List Str
 s₀:Shared
 H₀:Hp
 env:Env
 outer:List Env
 stack:List Env
 ex:List Addr
 fn:Str->Bool
 calm:Bool
 pn:List (Addr × Obj)
 xe:Value->Shared->Prop
def frs(l:List Env):List Addr:=l.filterMap (·.frame)
abbrev Cx.fs(X:Cx):List Addr:=frs X.outer
def Vis(sc:Scope)(x:Str):Prop:=sc.names.lookup x=some .local\/sc.names.lookup x=some .cell\/sc.names.lookup x=some .free
def Loc(sc:Scope)(x:Str):Prop:=sc.names.lookup x=some .local\/sc.names.lookup x=some .cell
def Qa(env:Env)(h:Heap)(m:Str->Option Value)(x:Str)(u:Value):Prop:=
 (env.kindOf x=some .local/\m x=some u)\/((env.kindOf x=some .cell\/env.kindOf x=some .free)/\∃ c,env.cells.lookup x=some c/\h.IsCell c (some u))
structure Cx.Ok(X:Cx):Prop where
 mod:Mod X.K X.mg X.base
 kind:X.env.scope.kind=.function
 glob:X.env.globals=mainGlobals
 blt:X.env.builtins=builtinsNs
 above:X.s₀.heap.objs.size<=X.env.locals
 inj:∀ x y c,X.env.cells.lookup x=some c->X.env.cells.lookup y=some c->x=y
 has:∀ x,(X.env.kindOf x=some .cell\/X.env.kindOf x=some .free)->∃ c,X.env.cells.lookup x=some c
 cab:∀ x c,X.fn x=true->X.env.cells.lookup x=some c->X.s₀.heap.objs.size<=c
 hd:X.calm=true->X.A.handled=none
 frames:X.A.frames=some X.stack
 stk:X.stack=X.outer\/(X.stack=X.env::X.outer/\X.env.frame=some X.env.locals)
 exf:∀ b∈X.ex,b ≠ X.env.locals/\∀ x c,X.env.cells.lookup x=some c->c ≠ b
 bs:∀ b o,X.base.get? b=some o->X.s₀.heap.get? b=some o/\X.H₀ b=none
 bsz:X.base.objs.size<=X.s₀.heap.objs.size
 noex:∀ b o,X.base.get? b=some o->b ∉ X.ex
 exfs:∀ b∈X.ex,b ∉ X.fs
 funs:X.s₀.heap.FunFrames X.base X.outer
 frf:∀ b∈X.fs,X.H₀ b=none
structure Inv(X:Cx)(pins:List (Addr × Obj))(σ:List (Option V))(H:Hp)(s:Shared):Prop where
 ok:X.Ok
 os:s.os=X.s₀.os
 bare:AllBare s.gens
 base:Un X.fs X.ex X.H₀ H X.s₀.heap s.heap
 loc:∃ m,s.heap.Ns X.env.locals m/\∀ (i:Nat) (x:Str) (v:V),X.N[i]? = some x->σ[i]? = some (some v)->Vis X.env.scope x->∃ u,bA v u/\Qa X.env s.heap m x u
 cell:∀ x c,X.env.cells.lookup x=some c->∃ v,s.heap.IsCell c v
 free:H X.env.locals=none
 freeC:∀ x c,X.env.cells.lookup x=some c->H c=none
 pin:∀ p∈X.pn++pins,s.heap.get? p.1=some p.2/\H p.1=none/\p.1 ≠ X.env.locals/\p.1 ∉ X.fs/\∀ v,p.2.data ≠ .cell v
 hok:HOk X.prog X.w H s.heap
 len:σ.length=X.N.length
section
variable {X:Cx}{pins:List (Addr × Obj)}{σ:List (Option V)}{H H':Hp}{s:Shared}{h':Heap}
def Cx.Ok.nofr(ok:X.Ok){b:Addr}{o:Obj}(e:X.base.get? b=some o):b ∉ X.fs:=λ hb=>by
 have:=(ok.funs.mem hb).1;rw [e] at this;cases this
def Inv.bs(I:Inv X pins σ H s):∀ b o,X.base.get? b=some o->s.heap.get? b=some o/\H b=none:=λ b o e=>
 ⟨I.base.keep b o (I.ok.bs b o e).1 (I.ok.bs b o e).2 (I.ok.nofr e) (I.ok.noex b o e),I.base.free b o (I.ok.bs b o e).1 (I.ok.bs b o e).2 (I.ok.noex b o e)⟩
def Inv.bk(I:Inv X pins σ H s):∀ b o,X.base.get? b=some o->s.heap.get? b=some o:=λ b o e=>(I.bs b o e).1
def Inv.mod(I:Inv X pins σ H s):Mod X.K X.mg X.base:=I.ok.mod
def Inv.kIn(I:Inv X pins σ H s):X.K.In s.heap:=I.ok.mod.kin.keeps I.bk
def Inv.lt(I:Inv X pins σ H s):X.env.locals < s.heap.objs.size:=let ⟨_,hn,_⟩:=I.loc;hn.lt
def Inv.sz(I:Inv X pins σ H s):X.s₀.heap.objs.size<=s.heap.objs.size:=QP I.ok.above (RO I.lt)
def Inv.nofs(I:Inv X pins σ H s){a:Addr}(h:s.heap.objs.size<=a):a ∉ X.fs:=λ hb=>by
 obtain⟨_,o,ho,_⟩:=I.ok.funs.mem hb;exact absurd (Qs (Qm ho) (QP I.sz h)) (Q4 _)
def Inv.cne(I:Inv X pins σ H s):∀ x c,X.env.cells.lookup x=some c->c ≠ X.env.locals:=λ x c e z=>by
 obtain⟨v,o,ho,hd⟩:=I.cell x c e;obtain⟨m,⟨o',es,ep,aq,ar,_⟩,_⟩:=I.loc;rw [z,aq] at ho;cases ho;rw [ar] at hd;cases hd
def Inv.funs(I:Inv X pins σ H s):s.heap.FunFrames X.base X.outer:=by
 have all:∀ (l:List Env),(∀ b∈frs l,b∈X.fs)->X.s₀.heap.FunFrames X.base l->s.heap.FunFrames X.base l:=by
  intro l
  induction l with
  | nil=>intro _ _;trivial
  | cons env r ih=>
   intro hs hl;obtain⟨hk,⟨L,o,hf,hn,ho,hd⟩,hr⟩:=hl;have hL:L∈X.fs:=hs L (by unfold frs;rw [List.filterMap_cons,hf];exact mem_cons_self);obtain⟨sl,e⟩:=I.base.slot L o ho (I.ok.frf L hL) hL λ z=>I.ok.exfs L z hL;exact⟨hk,⟨L,_,hf,hn,e,hd⟩,ih (λ b hb=>hs b (by unfold frs;rw [List.filterMap_cons,hf];exact mem_cons_of_mem _ hb)) hr⟩
 exact all X.outer (λ _ hb=>hb) I.ok.funs
def Inv.stack(I:Inv X pins σ H s):s.heap.FunFrames X.base X.stack:=by
 rcases I.ok.stk with e|⟨e,hf⟩
 ·rw [e];exact I.funs
 ·rw [e];obtain⟨m,hn,_⟩:=I.loc;refine .cons (by rw [I.ok.kind];decide) hf hn ?_ I.funs;exact Q7 (QP I.ok.bsz I.ok.above)
def Inv.stkSub(I:Inv X pins σ H s):∀ b∈frs X.stack,b∈X.env.locals::X.fs:=λ b hb=>by
 rcases I.ok.stk with e|⟨e,hf⟩
 ·rw [e] at hb;exact Qt _ hb
 ·rw [e] at hb;unfold frs at hb;rw [List.filterMap_cons,hf] at hb;exact hb
def Inv.stkFree(I:Inv X pins σ H s):∀ b∈frs X.stack,H b=none:=λ b hb=>by
 rcases QG.mp (I.stkSub b hb) with e|hb
 ·rw [e];exact I.free
 ·obtain⟨_,o,ho,_⟩:=I.ok.funs.mem hb;exact I.base.free b o ho (I.ok.frf b hb) λ z=>I.ok.exfs b z hb
def Inv.step{g':Array GenState}{t':Nat}{d':Drawn}{ch:List Addr}(I:Inv X pins σ H s)
  (aq:∀ b∈ch,(b∈X.ex\/X.s₀.heap.objs.size<=b)/\b ≠ X.env.locals/\(∀ x c,X.env.cells.lookup x=some c->c ≠ b)/\∀ p∈X.pn++pins,p.1 ≠ b)
  (keep:∀ b o,b ≠ X.env.locals->b ∉ X.fs->b ∉ ch->s.heap.get? b=some o->H b=none->h'.get? b=some o)
  (slot:∀ b o,b ≠ X.env.locals->b∈X.fs->b ∉ ch->s.heap.get? b=some o->H b=none->∃ sl,h'.get? b=some { o with slots:=sl }) (free:∀ b o,b ∉ ch->s.heap.get? b=some o->H b=none->H' b=none)
  (there:∀ b o,b ∉ ch->s.heap.get? b=some o->∃ o',h'.get? b=some o')
  (tups:∀ b xs,H b=some (.tup xs)->H' b=some (.tup xs)) (frzs:∀ b o u,H b=some (.frz o u)->H' b=some (.frz o u)) (tbls:∀ b ps,H b=some (.tbl ps)->∃ more,H' b=some (.tbl (ps++more)))
  (ns:∀ m,s.heap.Ns X.env.locals m->h'.Ns X.env.locals m) (hok:HOk X.prog X.w H' h') (hg:AllBare g') :
  Inv X pins σ H' { s with heap:=h',gens:=g',drawn:=d',toks:=t' }:=by
 have a4:∀ b o,X.s₀.heap.get? b=some o->b ≠ X.env.locals:=λ b o e=>Qy (Qs (Qm e) I.ok.above)
 have a3:∀ b o,X.s₀.heap.get? b=some o->b ∉ X.ex->b ∉ ch:=λ b o e hx hb=>by
  rcases (aq b hb).1 with z|z
  ·exact hx z
  ·exact absurd (Qs (Qm e) z) (Q4 _)
 have cellK:∀ x c,X.env.cells.lookup x=some c->∀ v,s.heap.IsCell c v->h'.IsCell c v:=λ x c e v ⟨o,ho,hd⟩=>by
  have ar:c ∉ ch:=λ z=>(aq c z).2.2.1 x c e rfl
  by_cases hc:c∈X.fs
  ·obtain⟨sl,q⟩:=slot c o (I.cne x c e) hc ar ho (I.freeC x c e);exact⟨_,q,hd⟩
  ·exact⟨o,keep c o (I.cne x c e) hc ar ho (I.freeC x c e),hd⟩
 refine⟨I.ok,I.os,hg,⟨λ b o e n hb hx=>?_,λ b o e n hb hx=>?_,λ b o e n hx=>?_,λ b o e hx=>?_,λ b xs e=>tups b xs (I.base.tups b xs e),λ b o xs e=>frzs b o xs (I.base.frzs b o xs e),λ b ps e=>?_⟩,?_,λ x c e=>?_,?_,λ x c e=>?_,λ p hp=>?_,hok,I.len⟩
 ·exact keep b o (a4 b o e) hb (a3 b o e hx) (I.base.keep b o e n hb hx) (I.base.free b o e n hx)
 ·obtain⟨sl,e1⟩:=I.base.slot b o e n hb hx;obtain⟨a5,e2⟩:=slot b _ (a4 b o e) hb (a3 b o e hx) e1 (I.base.free b o e n hx);exact⟨a5,e2⟩
 ·obtain⟨o',e1⟩:=I.base.there b o e hx;exact free b o' (a3 b o e hx) e1 (I.base.free b o e n hx)
 ·obtain⟨o',e1⟩:=I.base.there b o e hx;exact there b o' (a3 b o e hx) e1
 ·obtain⟨m1,e1⟩:=I.base.tbls b ps e;obtain⟨m2,e2⟩:=tbls b _ e1;exact⟨m1++m2,by rw [e2,Array.append_assoc]⟩
 ·obtain⟨m,hn,hl⟩:=I.loc;refine⟨m,ns m hn,λ i x v e1 e2 e3=>?_⟩;obtain⟨u,r,l⟩:=hl i x v e1 e2 e3;refine⟨u,r,?_⟩
  rcases l with l|⟨k,c,e,z⟩
  ·exact .inl l
  ·exact .inr ⟨k,c,e,cellK x c e _ z⟩
 ·obtain⟨v,z⟩:=I.cell x c e;exact⟨v,cellK x c e v z⟩
 ·obtain⟨m,⟨o,_,_,ho,_⟩,_⟩:=I.loc;exact free _ o (λ z=>(aq _ z).2.1 rfl) ho I.free
 ·obtain⟨v,o,ho,hd⟩:=I.cell x c e;exact free c o (λ z=>(aq c z).2.2.1 x c e rfl) ho (I.freeC x c e)
 ·obtain⟨e,n,ne,nf,d⟩:=I.pin p hp;have ar:p.1 ∉ ch:=λ z=>(aq p.1 z).2.2.2 p hp rfl;exact⟨keep p.1 p.2 ne nf ar e n,free p.1 p.2 ar e n,ne,nf,d⟩
def Inv.un{t':Nat}(I:Inv X pins σ H s)(u:Un X.fs [] H H' s.heap h')(hok:HOk X.prog X.w H' h'):Inv X pins σ H' { s with heap:=h',toks:=t' }:=by
 obtain⟨m,⟨o,es,ep,ho,r⟩,_⟩:=id I.loc;obtain⟨sl,hL⟩:=u.any ho I.free (by simp)
 exact I.step (g':=s.gens) (d':=s.drawn) (ch:=[]) (λ _ z=>nomatch z) (λ b o _ hb _ e n=>u.keep b o e n hb (by simp)) (λ b o _ hb _ e n=>u.slot b o e n hb (by simp)) (λ b o _ e n=>u.free b o e n (by simp)) (λ b o _ e=>u.there b o e (by simp)) u.tups u.frzs u.tbls (λ m' hm=>by
  obtain⟨o',ar,a3,aq,r'⟩:=hm;rw [ho] at aq;cases aq;exact⟨_,ar,a3,hL,r'⟩) hok I.bare
def Inv.call{g':Array GenState}{t':Nat}{d':Drawn}{ch:List Addr}(I:Inv X pins σ H s)(u:Un (frs X.stack) ch H H' s.heap h')(hok:HOk X.prog X.w H' h')(hg:AllBare g')
  (aq:∀ b∈ch,(b∈X.ex\/X.s₀.heap.objs.size<=b)/\b ≠ X.env.locals/\(∀ x c,X.env.cells.lookup x=some c->c ≠ b)/\∀ p∈X.pn++pins,p.1 ≠ b) :
  Inv X pins σ H' { s with heap:=h',gens:=g',drawn:=d',toks:=t' }:=by
 obtain⟨m,⟨o,es,ep,ho,r⟩,_⟩:=id I.loc;obtain⟨sl,hL⟩:=u.any ho I.free λ z=>(aq _ z).2.1 rfl
 exact I.step (ch:=ch) aq (λ b o hL hb hc e n=>u.keep b o e n (λ z=>(QG.mp (I.stkSub b z)).elim hL hb) hc) (λ b o _ _ hc e n=>u.any e n hc) (λ b o hc e n=>u.free b o e n hc) (λ b o hc e=>u.there b o e hc) u.tups u.frzs u.tbls (λ m' hm=>by
  obtain⟨o',a3,a4,ar,r'⟩:=hm;rw [ho] at ar;cases ar;exact⟨_,a3,a4,hL,r'⟩) hok hg
def Inv.turned{t':Nat}{it:Addr}(I:Inv X pins σ H s)(k:∀ b o,b ≠ it->s.heap.get? b=some o->h'.get? b=some o)(hn:H it=none)(hL:it ≠ X.env.locals)
  (h1:it∈X.ex\/X.s₀.heap.objs.size<=it) (h2:∀ x c,X.env.cells.lookup x=some c->c ≠ it) (h3:∀ p∈X.pn++pins,p.1 ≠ it):Inv X pins σ H { s with heap:=h',toks:=t' }:=by
 have aq:∀ b u,H b=some u->b ≠ it:=λ b u e z=>by rw [z,hn] at e;cases e
 refine I.step (g':=s.gens) (d':=s.drawn) (ch:=[it]) (λ b hb=>?_) (λ b o _ _ hc e _=>k b o (λ z=>hc (by simp [z])) e) (λ b o _ _ hc e _=>⟨o.slots,k b o (λ z=>hc (by simp [z])) e⟩) (λ _ _ _ _ n=>n)
  (λ b o hc e=>⟨o,k b o (λ z=>hc (by simp [z])) e⟩) (λ _ _ e=>e) (λ _ _ _ e=>e) (λ b ps e=>⟨#[],by rw [e];simp⟩) (λ m hm=>?_) (λ b u e=>?_) I.bare
 ·have e:b=it:=by simpa using hb
  subst e;exact⟨h1,hL,h2,h3⟩
 ·obtain⟨o,es,ep,ho,r⟩:=hm;exact⟨o,es,ep,k _ o (QS hL) ho,r⟩
 ·refine(I.hok b u e).stay (λ c v hc q=>k c v ?_ q) (λ _ q=>q) (λ _ _ q=>q) λ _ _ q=>q
  rcases hc with z|z
  ·rw [z];exact aq b u e
  ·exact aq c _ z
def Inv.tok(I:Inv X pins σ H s)(t:Nat):Inv X pins σ H { s with toks:=t }:=I.un (h':=s.heap) (t':=t) Un.refl I.hok
def Inv.kept{t':Nat}(I:Inv X pins σ H s)(k:∀ b u,s.heap.get? b=some u->h'.get? b=some u):Inv X pins σ H { s with heap:=h',toks:=t' }:=I.un (Un.kept k) (I.hok.kept k)
def Inv.laid{a:Addr}{o:HO}{t':Nat}(I:Inv X pins σ H s)(k:∀ b u,s.heap.get? b=some u->h'.get? b=some u)(hp:s.heap.objs.size<=a)(new:bg X.prog X.w (upd H a o) h' a o) :
  Inv X pins σ (upd H a o) { s with heap:=h',toks:=t' }:=I.un (Un.laid k hp (I.hok.fresh hp)) (I.hok.laid k hp new)
def Inv.write{x e:Addr}{o:HO}{t':Nat}(I:Inv X pins σ H s)(mu:Mut (H x))(he:e=x\/H e=some (.own x))(k:∀ b u,b ≠ e->s.heap.get? b=some u->h'.get? b=some u)(aq:∃ u,h'.get? e=some u)
  (new:bg X.prog X.w (upd H x o) h' x o):Inv X pins σ (upd H x o) { s with heap:=h',toks:=t' }:=I.un (Un.write mu he k aq) (I.hok.write mu he k aq new)
def Inv.weak{σ':List (Option V)}(I:Inv X pins σ H s)(hl:σ'.length=σ.length)(w:∀ (i:Nat) v,σ'[i]? = some (some v)->σ[i]? = some (some v)):Inv X pins σ' H s:=
 ⟨I.ok,I.os,I.bare,I.base,let ⟨m,hn,hl'⟩:=I.loc;⟨m,hn,λ i x v e1 e2 e3=>hl' i x v e1 (w i v e2) e3⟩,I.cell,I.free,I.freeC,I.pin,I.hok,hl.trans I.len⟩
def Inv.pins_of{aq:List (Addr × Obj)}(I:Inv X pins σ H s)(h:∀ p∈aq,s.heap.get? p.1=some p.2/\H p.1=none/\p.1 ≠ X.env.locals/\p.1 ∉ X.fs/\∀ v,p.2.data ≠ .cell v):Inv X aq σ H s:=
 ⟨I.ok,I.os,I.bare,I.base,I.loc,I.cell,I.free,I.freeC,λ p hp=>(QF.mp hp).elim (λ z=>I.pin p (Qz _ z)) (h p),I.hok,I.len⟩
def oa{N:List Str}(hN:N.Nodup){i j:Nat}{x:Str}(a:N[i]? = some x)(b:N[j]? = some x):i=j:=by
 obtain⟨h1,e1⟩:=Qh.mp a;obtain⟨h2,e2⟩:=Qh.mp b;exact(List.getElem_inj hN).mp (e1.trans e2.symm)
def pO{M:Model}{A:Around}{E:Value->Shared->Prop}{i:Nat}{x:Str}{v:V}{u:Value}{Q:Unit->Shared->Prop}(I:Inv X pins σ H s)(hN:X.N.Nodup)(hi:X.N[i]? = some x)(hx:Loc X.env.scope x)(r:bA v u)
  (h:∀ s',Inv X pins (σ.set i (some v)) H s'->(∃ a,Heap.SameBut a s.heap s'.heap/\(a=X.env.locals\/X.env.cells.lookup x=some a))->Q () s') (hf:X.fn x=true\/X.env.scope.names.lookup x=some .local:=by first|exact .inl rfl|exact .inr rfl|assumption):wpAny M A (storeName X.env x u) Q E s:=by
 obtain⟨m,hn,hl⟩:=id I.loc;have a3:(X.env.scope.kind == .class || (X.env.scope.kind == .module && X.env.locals != X.env.globals))=false:=by rw [I.ok.kind];rfl
 have a4:i < σ.length:=by rw [I.len];exact(Qh.mp hi).1
 have cne:=I.cne
 have tracked:∀ {a:Addr} {h':Heap},(∃ o,s.heap.get? a=some o/\H a=none)->Heap.SameBut a s.heap h'->HOk X.prog X.w H h':=λ {a h'} ha hs b ob e=>by
  obtain⟨_,_,aq⟩:=ha;refine(I.hok b ob e).stay (λ c w' hc q=>(hs.2 c ?_).trans q) (λ _ q=>q) (λ _ _ q=>q) λ _ _ q=>q;rintro rfl
  rcases hc with rfl|hc
  ·rw [aq] at e;cases e
  ·rw [aq] at hc;cases hc
 rcases hx with hk|hk
 ·refine wpAny_storeName_local hk hn (λ h' a8 hs=>?_) a3;obtain⟨oL,_,_,a9,_⟩:=id hn;refine h _ ⟨I.ok,I.os,I.bare,⟨λ b o e n hb hx=>?_,λ b o e n hb hx=>?_,I.base.free,λ b o e hx=>?_,I.base.tups,I.base.frzs,I.base.tbls⟩,⟨_,a8,λ j y v' e1 e2 e3=>?_⟩,λ y c e=>?_,I.free,I.freeC,λ p hp=>?_,tracked ⟨oL,a9,I.free⟩ hs,by simpa using I.len⟩ ⟨_,hs,.inl rfl⟩
  ·exact(hs.2 b (Qy (Qs (Qm e) I.ok.above))).trans (I.base.keep b o e n hb hx)
  ·obtain⟨sl,e1⟩:=I.base.slot b o e n hb hx;exact⟨sl,(hs.2 b (Qy (Qs (Qm e) I.ok.above))).trans e1⟩
  ·obtain⟨o',e1⟩:=I.base.there b o e hx;exact⟨o',(hs.2 b (Qy (Qs (Qm e) I.ok.above))).trans e1⟩
  ·by_cases hj:j=i
   ·subst hj;rw [hi] at e1;cases e1;rw [SN a4] at e2;cases e2;exact⟨u,r,.inl ⟨hk,by simp⟩⟩
   ·rw [Sw (QS hj)] at e2;obtain⟨u',r',q⟩:=hl j y v' e1 e2 e3;refine⟨u',r',?_⟩
    rcases q with ⟨k,e⟩|⟨k,c,e,z⟩
    ·refine .inl ⟨k,?_⟩;have:y ≠ x:=λ e=>hj (oa hN e1 (e ▸ hi));simp [this,e]
    ·exact .inr ⟨k,c,e,z.sameBut hs (cne y c e)⟩
  ·obtain⟨w',z⟩:=I.cell y c e;exact⟨w',z.sameBut hs (cne y c e)⟩
  ·obtain⟨e,n,ne,nf,d⟩:=I.pin p hp;exact⟨(hs.2 p.1 ne).trans e,n,ne,nf,d⟩
 ·have ar:X.fn x=true:=by
   rcases hf with z|z
   ·exact z
   ·rw [z] at hk;cases hk
  obtain⟨c,hc⟩:=I.ok.has x (.inl hk);obtain⟨w',z⟩:=I.cell x c hc;refine wpAny_storeName_cell I.ok.kind hk hc z (λ h' a5 hs=>?_);obtain⟨oc,a6,a7⟩:=id z;refine h { s with heap:=h' } ⟨I.ok,I.os,I.bare,⟨λ b o e n hb hx=>?_,λ b o e n hb hx=>?_,I.base.free,λ b o e hx=>?_,I.base.tups,I.base.frzs,I.base.tbls⟩,⟨m,hn.sameBut hs (QS (cne x c hc)),λ j y v' e1 e2 e3=>?_⟩,λ y c' e=>?_,I.free,I.freeC,λ p hp=>?_,tracked ⟨oc,a6,I.freeC x c hc⟩ hs,by simpa using I.len⟩ ⟨c,hs,.inr hc⟩
  ·exact(hs.2 b (Qy (Qs (Qm e) (I.ok.cab x c ar hc)))).trans (I.base.keep b o e n hb hx)
  ·obtain⟨sl,e1⟩:=I.base.slot b o e n hb hx;exact⟨sl,(hs.2 b (Qy (Qs (Qm e) (I.ok.cab x c ar hc)))).trans e1⟩
  ·obtain⟨o',e1⟩:=I.base.there b o e hx;exact⟨o',(hs.2 b (Qy (Qs (Qm e) (I.ok.cab x c ar hc)))).trans e1⟩
  ·by_cases hj:j=i
   ·subst hj;rw [hi] at e1;cases e1;rw [SN a4] at e2;cases e2;exact⟨u,r,.inr ⟨.inl hk,c,hc,a5⟩⟩
   ·rw [Sw (QS hj)] at e2;obtain⟨u',r',q⟩:=hl j y v' e1 e2 e3;refine⟨u',r',?_⟩
    rcases q with q|⟨k,c',e,z'⟩
    ·exact .inl q
    ·refine .inr ⟨k,c',e,z'.sameBut hs ?_⟩;rintro rfl;exact hj (oa hN e1 (I.ok.inj _ _ _ e hc ▸ hi))
  ·by_cases hcc:c'=c
   ·subst hcc;exact⟨_,a5⟩
   ·obtain⟨w2,z2⟩:=I.cell y c' e;exact⟨w2,z2.sameBut hs hcc⟩
  ·obtain⟨e,n,ne,nf,d⟩:=I.pin p hp;refine⟨(hs.2 p.1 ?_).trans e,n,ne,nf,d⟩;intro q;rw [q,a6] at e;have q':oc=p.2:=QL e;exact d w' (by rw [←q'];exact a7)
def nM{M:Model}{A:Around}{E:Value->Shared->Prop}{i:Nat}{x:Str}{v:V}{u:Value}{Q:Unit->Shared->Prop}(I:Inv X pins σ H s)(hN:X.N.Nodup)(hi:X.N[i]? = some x)(hx:Loc X.env.scope x)(r:bA v u)
  (h:∀ s',Inv X pins (σ.set i (some v)) H s'->Q () s') (hf:X.fn x=true\/X.env.scope.names.lookup x=some .local:=by first|exact .inl rfl|exact .inr rfl|assumption):wpAny M A (storeName X.env x u) Q E s:=
 pO I hN hi hx r (λ s' I' _=>h s' I') hf
def Inv.call'{s':Shared}{ch:List Addr}(I:Inv X pins σ H s)(ho:s'.os=s.os)(u:Un (frs X.stack) ch H H' s.heap s'.heap)(hok:HOk X.prog X.w H' s'.heap)(hg:AllBare s'.gens)
  (aq:∀ b∈ch,(b∈X.ex\/X.s₀.heap.objs.size<=b)/\b ≠ X.env.locals/\(∀ x c,X.env.cells.lookup x=some c->c ≠ b)/\∀ p∈X.pn++pins,p.1 ≠ b):Inv X pins σ H' s':=by
 obtain⟨h',g',d',t',o'⟩:=s';have e:o'=s.os:=ho;subst e;exact I.call (g':=g') (t':=t') (d':=d') u hok hg aq
end
abbrev XK:=Value->Option Addr->Hp->Prop
abbrev St:=List (Option V)
abbrev VK:=V->Hp->Prop
abbrev TE:=St->Hp->VK->Prop
abbrev TT:=St->Hp->(Bool->Hp->Prop)->Prop
abbrev TA:=St->Hp->(List V->Hp->Prop)->Prop
structure iw where
 nx:St->Hp->Prop
 rt:VK
 bk:St->Hp->Prop:=λ _ _=>False
 ct:St->Hp->Prop:=λ _ _=>False
abbrev TS:=iw->St->Hp->Prop
def EP(X:Cx)(pins:List (Addr × Obj))(σ:St)(Q:VK)(u:Value)(s':Shared):Prop:=∃ v H',Inv X pins σ H' s'/\bA v u/\Q v H'
def TP(X:Cx)(pins:List (Addr × Obj))(σ:St)(Q:Bool->Hp->Prop)(b:Bool)(s':Shared):Prop:=∃ H',Inv X pins σ H' s'/\Q b H'
def AP(X:Cx)(pins:List (Addr × Obj))(σ:St)(Q:List V->Hp->Prop)(us:List Value)(s':Shared):Prop:=∃ vs H',Inv X pins σ H' s'/\bf vs us/\Q vs H'
def SP(X:Cx)(pins:List (Addr × Obj))(D:iw)(f:Flow)(s':Shared):Prop:=
 match f with
 | .next=>∃ σ' H',Inv X pins σ' H' s'/\D.nx σ' H'
 | .brk=>∃ σ' H',Inv X pins σ' H' s'/\D.bk σ' H'
 | .cont=>∃ σ' H',Inv X pins σ' H' s'/\D.ct σ' H'
 | .ret u=>∃ v σ' H',Inv X pins σ' H' s'/\bA v u/\D.rt v H'
def PE(X:Cx)(e:Expr)(t:TE):Prop:=
 ∀ (pins:List (Addr × Obj)) (s:Shared) (σ:St) (H:Hp) (Q:VK),Inv X pins σ H s->t σ H Q->wpAny (model X.prog X.w) X.A (eval e X.env) (EP X pins σ Q) X.xe s
def PT(X:Cx)(e:Expr)(t:TT):Prop:=
 ∀ (pins:List (Addr × Obj)) (s:Shared) (σ:St) (H:Hp) (Q:Bool->Hp->Prop),Inv X pins σ H s->t σ H Q->wpAny (model X.prog X.w) X.A (isTrue e X.env (eval e X.env)) (TP X pins σ Q) X.xe s
def PW(X:Cx)(e:Expr)(t:TT):Prop:=
 ∀ (whole:Sem Value) (pins:List (Addr × Obj)) (s:Shared) (σ:St) (H:Hp) (Q:Bool->Hp->Prop),Inv X pins σ H s->t σ H Q->wpAny (model X.prog X.w) X.A (isTrue e X.env whole) (TP X pins σ Q) X.xe s
def PW.pt{X:Cx}{e:Expr}{t:TT}(h:PW X e t):PT X e t:=h _
def PA(X:Cx)(es:List Expr)(t:TA):Prop:=
 ∀ (pos:Pos) (pins:List (Addr × Obj)) (s:Shared) (σ:St) (H:Hp) (Q:List V->Hp->Prop),Inv X pins σ H s->t σ H Q->wpAny (model X.prog X.w) X.A (spliced (backTo pos (starEach es X.env))) (AP X pins σ Q) X.xe s
def PS(X:Cx)(st:Stmt)(t:TS):Prop:=
 ∀ (pins:List (Addr × Obj)) (s:Shared) (σ:St) (H:Hp) (D:iw),Inv X pins σ H s->t D σ H->wpAny (model X.prog X.w) X.A (exec st X.env) (SP X pins D) X.xe s
def PSs(X:Cx)(st:List Stmt)(t:TS):Prop:=
 ∀ (pins:List (Addr × Obj)) (s:Shared) (σ:St) (H:Hp) (D:iw),Inv X pins σ H s->t D σ H->wpAny (model X.prog X.w) X.A (execs st X.env) (SP X pins D) X.xe s
def thn{α:Type}{t:Sem α}{Q Q':α->Shared->Prop}{M:Model}{A:Around}{E:Value->Shared->Prop}{s:Shared}(h:wpAny M A t Q E s)(hQ:∀ a s,Q a s->Q' a s):wpAny M A t Q' E s:=Rf h hQ λ _ _ x=>x
section
variable {X:Cx}
def MJ(i:Nat):TE:=λ σ H Q=>∃ v,σ[i]? = some (some v)/\Q v H
def tC(v:V):TE:=λ _ H Q=>Q v H
def Kq{i:Nat}{x:Str}{pos:Pos}(hN:X.N[i]? = some x)(hv:Vis X.env.scope x)(hd:(x == ("__debug__":Str))=false:=by decide)(ar:(x == ("__classdict__":Str))=false:=by decide):PE X (.Name x pos) (MJ i):=by
 intro pins s σ H Q I h;obtain⟨v,e,h⟩:=h;obtain⟨m,hn,hl⟩:=I.loc;obtain⟨u,r,l⟩:=hl i x v hN e hv;have fin:EP X pins σ Q u s:=⟨v,H,I,r,h⟩
 rcases l with ⟨hk,hm⟩|⟨hk,c,hc,aq⟩
 ·exact wpAny_Name (wpAny_loadName_local I.ok.kind hk hn hm fin) hd
 ·rcases hk with hk|hk
  ·exact wpAny_Name (wpAny_loadName_cell I.ok.kind hk hc aq fin) hd
  ·exact wpAny_Name (wpAny_loadName_free I.ok.kind hk hc aq fin ar) hd
def fJ{i j pos}:PE X (.Constant (.int i) j pos) (tC (.int i)):=λ _ _ _ H _ I h=>wpAny_Constant_int ⟨.int i,H,I.tok _,⟨_,rfl⟩,h⟩
def jW{b j pos}:PE X (.Constant (.bool b) j pos) (tC (.bl b)):=λ _ _ _ H _ I h=>Constant_bool ⟨.bl b,H,I,rfl,h⟩
def xW{j pos}:PE X (.Constant .none j pos) (tC .non):=λ _ _ _ H _ I h=>Constant_none ⟨.non,H,I,rfl,h⟩
def cj{x j pos}:PE X (.Constant (.str x) j pos) (tC (.str x)):=λ _ _ _ H _ I h=>Calls.Constant_str ⟨.str x,H,I.tok _,⟨_,rfl⟩,h⟩
def Gl(X:Cx)(x:Str):Prop:=X.env.kindOf x=some .globalImplicit
def eY{E:Value->Shared->Prop}{pins:List (Addr × Obj)}{s:Shared}{σ:St}{H:Hp}{x:Str}{u:Value}{pos:Pos}{Q:Value->Shared->Prop}(I:Inv X pins σ H s)(hg:Gl X x)(hm:X.mg x=some u)(h:Q u s)
  (hd:(x == ("__debug__":Str))=false:=by decide):wpAny (model X.prog X.w) X.A (eval (.Name x pos) X.env) Q E s:=
 Calls.Name_function_global I.ok.kind hg (Calls.loadGlobal_global (by rw [I.ok.glob];exact I.mod.glob.keeps I.bk) hm h) hd
def iC{E:Value->Shared->Prop}{pins:List (Addr × Obj)}{s:Shared}{σ:St}{H:Hp}{x:Str}{u:Value}{pos:Pos}{Q:Value->Shared->Prop}(I:Inv X pins σ H s)(hg:Gl X x)(hm:X.mg x=none)(hv:bootBuiltins x=some u)(h:Q u s)
  (hn:x ≠ "__name__":=by decide) (hd:(x == ("__debug__":Str))=false:=by decide):wpAny (model X.prog X.w) X.A (eval (.Name x pos) X.env) Q E s:=by
 obtain⟨mb,h1,h2⟩:=I.mod.blt;exact Calls.Name_function_global I.ok.kind hg (Calls.loadGlobal_builtin (by rw [I.ok.glob];exact I.mod.glob.keeps I.bk) hm (by rw [I.ok.blt];exact h1.keeps I.bk) ((h2 x hn).trans hv) h) hd
def ed{x:Str}{v:V}{u:Value}{pos:Pos}(hg:Gl X x)(hm:X.mg x=some u)(r:bA v u)(hd:(x == ("__debug__":Str))=false:=by decide):PE X (.Name x pos) (tC v):=
 λ _ _ _ H _ I h=>eY I hg hm ⟨v,H,I,r,h⟩ hd
def fN{x:Str}{v:V}{u:Value}{pos:Pos}(hg:Gl X x)(hm:X.mg x=none)(hv:bootBuiltins x=some u)(r:bA v u)(hn:x ≠ "__name__":=by decide)(hd:(x == ("__debug__":Str))=false:=by decide):PE X (.Name x pos) (tC v):=
 λ _ _ _ H _ I h=>iC I hg hm hv ⟨v,H,I,r,h⟩ hn hd
variable {a b:Expr}{ta tb:TE}{pos:Pos}
def tB(t:TE):TT:=λ σ H Q=>t σ H λ x H1=>∃ c,x=.bl c/\Q c H1
def Kj{e:Expr}{t:TE}(h:PE X e t)(he:∀ whole,isTrue e X.env whole=(do let v ←whole;standAt e.pos;holding [v] (truthy v)):=by intro _;rfl):PT X e (tB t):=by
 intro pins s σ H Q I hw;refine isTrue_plain (thn (h pins s σ H _ I hw) λ v s1 ⟨x,H1,I1,r1,q1⟩=>?_) (he _);obtain⟨d,rfl,q⟩:=q1;cases r1;exact Rm ⟨H1,I1,q⟩
variable {tA tB':TT}{cB:List Expr}
def OR(t u:TT):TT:=λ σ H Q=>t σ H λ c H1=>if c=true then u σ H1 Q else Q false H1
def tOr(t u:TT):TT:=λ σ H Q=>t σ H λ c H1=>if c=true then Q true H1 else u σ H1 Q
def OO(t:TT):TT:=λ σ H Q=>t σ H λ c H1=>Q (!c) H1
def Fv(ha:PT X a tA):PW X (.BoolOp .And [a] pos) tA:=by
 intro wh pins s σ H Q I h;refine isTrue_and (thn (ha pins s σ H Q I h) λ c s1 e=>?_)
 cases c with
 | true=>exact isTrue_and_nil e
 | false=>exact e
def jY(ha:PT X a tA):PW X (.BoolOp .Or [a] pos) tA:=by
 intro wh pins s σ H Q I h;refine isTrue_or (thn (ha pins s σ H Q I h) λ c s1 e=>?_)
 cases c with
 | false=>exact isTrue_or_nil e
 | true=>exact e
def Ki(ha:PT X a tA)(hb:PW X (.BoolOp .And (b::cB) pos) tB'):PW X (.BoolOp .And (a::b::cB) pos) (OR tA tB'):=by
 intro wh pins s σ H Q I h;refine isTrue_and (thn (ha pins s σ H _ I h) λ c s1 ⟨H1,I1,q1⟩=>?_)
 cases c with
 | true=>exact hb wh pins s1 σ H1 Q I1 q1
 | false=>exact⟨H1,I1,q1⟩
def NB(ha:PT X a tA)(hb:PW X (.BoolOp .Or (b::cB) pos) tB'):PW X (.BoolOp .Or (a::b::cB) pos) (tOr tA tB'):=by
 intro wh pins s σ H Q I h;refine isTrue_or (thn (ha pins s σ H _ I h) λ c s1 ⟨H1,I1,q1⟩=>?_)
 cases c with
 | true=>exact⟨H1,I1,q1⟩
 | false=>exact hb wh pins s1 σ H1 Q I1 q1
def iA(ha:PT X a tA):PT X (.UnaryOp .Not a pos) (OO tA):=by
 intro pins s σ H Q I h;exact isTrue_not (ha pins s σ H (λ c H1=>Q (!c) H1) I h)
def Ju(ta tb:TE):TE:=λ σ H Q=>ta σ H λ x H1=>∃ c,x=.bl c/\if c=true then tb σ H1 Q else Q (.bl false) H1
def Jp(ta:TE):TE:=λ σ H Q=>ta σ H λ x H1=>∃ c,x=.bl c/\Q (.bl (!c)) H1
def jZ{op}{t:TE}(h:PE X a t):PE X (.BoolOp op [a] pos) t:=λ pins s σ H Q I hw=>BoolOp_one (h pins s σ H Q I hw)
def Kt(ha:PE X a ta)(hb:PE X (.BoolOp .And (b::cB) pos) tb):PE X (.BoolOp .And (a::b::cB) pos) (Ju ta tb):=by
 intro pins s σ H Q I h;refine BoolOp_and (thn (ha pins s σ H _ I h) λ v s1 ⟨x,H1,I1,r1,q1⟩=>?_);obtain⟨c,rfl,q1⟩:=q1;cases r1;refine Rm ?_
 cases c with
 | true=>exact hb pins s1 σ H1 Q I1 q1
 | false=>exact⟨.bl false,H1,I1,rfl,q1⟩
def Ks(ha:PE X a ta):PE X (.UnaryOp .Not a pos) (Jp ta):=by
 intro pins s σ H Q I h;refine UnaryOp_ (thn (ha pins s σ H _ I h) λ v s1 ⟨x,H1,I1,r1,q1⟩=>?_);obtain⟨c,rfl,q1⟩:=q1;cases r1;exact not_of (Rm ⟨.bl (!c),H1,I1,rfl,q1⟩)
def tIf(t:TT)(ta tb:TE):TE:=λ σ H Q=>t σ H λ c H1=>if c=true then ta σ H1 Q else tb σ H1 Q
def uI{c:Expr}(hc:PT X c tA)(ha:PE X a ta)(hb:PE X b tb):PE X (.IfExp c a b pos) (tIf tA ta tb):=by
 intro pins s σ H Q I h;refine wpAny_IfExp (thn (hc pins s σ H _ I h) λ d s1 ⟨H1,I1,q1⟩=>?_)
 cases d with
 | true=>exact ha pins s1 σ H1 Q I1 q1
 | false=>exact hb pins s1 σ H1 Q I1 q1
end
def SqL(K:W.Frag)(H:Hp)(a:Addr)(xs:List V):Prop:=
 Rd H a (.lst xs) \/
  ∃ (o:Obj) (its:Array Value) (n:Nat),K.lookup a=some o/\o.cls=.type "list" /\ o.dict=none/\o.data=.seq its n/\its.size<=sizeLine/\bf xs its.toList
def SqT(K:W.Frag)(H:Hp)(a:Addr)(xs:List V):Prop:=
 Rd H a (.tup xs) \/
  ∃ (o:Obj) (its:Array Value) (n:Nat),K.lookup a=some o/\o.cls=.type "tuple" /\ o.data=.seq its n/\its.size<=sizeLine/\bf xs its.toList
def P8:Value->Option V
 | .none=>some .non
 | .bool b=>some (.bl b)
 | .int i _=>some (.int i)
 | .str x _=>some (.str x)
 | .bytes b _=>some (.byt b)
 | .float b _=>some (.flt b)
 | .ref a=>some (.ref a)
 | .type n=>some (.ty n)
 | _=>none
def bA.abs{x:V}{u:Value}(r:bA x u):P8 u=some x:=by
 cases x with
 | non=>cases r;rfl
 | bl _=>cases r;rfl
 | int _=>obtain⟨t,rfl⟩:=r;rfl
 | str _=>obtain⟨t,rfl⟩:=r;rfl
 | byt _=>obtain⟨t,rfl⟩:=r;rfl
 | flt _=>obtain⟨t,rfl⟩:=r;rfl
 | ref _=>cases r;rfl
 | ty _=>cases r;rfl
def bA.inj{x y:V}{u:Value}(r:bA x u)(q:bA y u):x=y:=QL (r.abs.symm.trans q.abs)
def bf.inj:∀ {xs ys:List V}{us:List Value},bf xs us->bf ys us->xs=ys
 | _,_,_,.nil,.nil=>rfl
 | _,_,_,.cons r t,.cons r' t'=>by rw [r.inj r',bf.inj t t']
section
variable {X:Cx}{pins:List (Addr × Obj)}{σ:St}{H:Hp}{s:Shared}{a:Addr}{xs ys:List V}
def SqL.of{K:W.Frag}(h:H a=some (.lst xs)):SqL K H a xs:=.inl (.inl h)
def SqT.of{K:W.Frag}(h:H a=some (.tup xs)):SqT K H a xs:=.inl (.inl h)
def Inv.list(I:Inv X pins σ H s)(h:SqL X.K H a xs):∃ its:List Value,bf xs its/\PlainL s.heap a its.toArray/\xs.length<=sizeLine:=by
 rcases h with h|⟨o,its,n,hk,hc,hd,hs,hz,r⟩
 ·obtain⟨z,its,n,r,e⟩:=h.ok I.hok;exact⟨its,r,⟨_,n,e,rfl,rfl,rfl⟩,z⟩
 ·refine⟨its.toList,r,⟨o,n,I.kIn a o hk,hc,hd,by simpa using hs⟩,?_⟩;have e:=r.length;simp only [Array.length_toList] at e;omega
def Inv.tuple(I:Inv X pins σ H s)(h:SqT X.K H a xs):∃ its:List Value,bf xs its/\IsTup s.heap a its.toArray/\xs.length<=sizeLine:=by
 rcases h with h|⟨o,its,n,hk,hc,hs,hz,r⟩
 ·obtain⟨z,its,r,p⟩:=h.ok I.hok;exact⟨its,r,p,z⟩
 ·refine⟨its.toList,r,⟨o,I.kIn a o hk,hc,n,by simpa using hs⟩,?_⟩;have e:=r.length;simp only [Array.length_toList] at e;omega
def Inv.list_inj(I:Inv X pins σ H s)(h:SqL X.K H a xs)(h':SqL X.K H a ys):xs=ys:=by
 obtain⟨its,r,⟨o,n,e,_,_,d⟩,_⟩:=I.list h;obtain⟨its',r',⟨o',n',e',_,_,d'⟩,_⟩:=I.list h';rw [e] at e';cases e';rw [d] at d'
 injection d' with d1 _
 have:its=its':=by simpa using RS Array.toList d1
 subst this;exact r.inj r'
def Inv.tuple_inj(I:Inv X pins σ H s)(h:SqT X.K H a xs)(h':SqT X.K H a ys):xs=ys:=by
 obtain⟨its,r,⟨o,e,_,n,d⟩,_⟩:=I.tuple h;obtain⟨its',r',⟨o',e',_,n',d'⟩,_⟩:=I.tuple h';rw [e] at e';cases e';rw [d] at d'
 injection d' with d1 _
 have:its=its':=by simpa using RS Array.toList d1
 subst this;exact r.inj r'
end
abbrev Cx.wish(X:Cx)(E:Value->Shared->Prop):Cx:={ X with xe:=E }
abbrev Cx.nox(X:Cx):Cx:=X.wish λ _ _=>False
def Cx.Ok.wish{X:Cx}(ok:X.Ok)(E:Value->Shared->Prop):(X.wish E).Ok:=
 ⟨ok.mod,ok.kind,ok.glob,ok.blt,ok.above,ok.inj,ok.has,ok.cab,ok.hd,ok.frames,ok.stk,ok.exf,ok.bs,ok.bsz,ok.noex,ok.exfs,ok.funs,ok.frf⟩
def Cx.Ok.unwish{X:Cx}{E:Value->Shared->Prop}(ok:(X.wish E).Ok):X.Ok:=
 ⟨ok.mod,ok.kind,ok.glob,ok.blt,ok.above,ok.inj,ok.has,ok.cab,ok.hd,ok.frames,ok.stk,ok.exf,ok.bs,ok.bsz,ok.noex,ok.exfs,ok.funs,ok.frf⟩
section
variable {X:Cx}{pins:List (Addr × Obj)}{σ:St}{H:Hp}{s:Shared}{E:Value->Shared->Prop}
def Inv.wish(I:Inv X pins σ H s)(E:Value->Shared->Prop):Inv (X.wish E) pins σ H s:=⟨I.ok.wish E,I.os,I.bare,I.base,I.loc,I.cell,I.free,I.freeC,I.pin,I.hok,I.len⟩
def Inv.unwish(I:Inv (X.wish E) pins σ H s):Inv X pins σ H s:=⟨I.ok.unwish,I.os,I.bare,I.base,I.loc,I.cell,I.free,I.freeC,I.pin,I.hok,I.len⟩
def SP.unwish{D:iw}{f:Flow}{s':Shared}(h:SP (X.wish E) pins D f s'):SP X pins D f s':=by
 cases f with
 | next=>obtain⟨σ',H',I,q⟩:=h;exact⟨σ',H',I.unwish,q⟩
 | brk=>obtain⟨σ',H',I,q⟩:=h;exact⟨σ',H',I.unwish,q⟩
 | cont=>obtain⟨σ',H',I,q⟩:=h;exact⟨σ',H',I.unwish,q⟩
 | ret u=>obtain⟨v,σ',H',I,r,q⟩:=h;exact⟨v,σ',H',I.unwish,r,q⟩
def PSs.nox{st:List Stmt}{t:TS}(h:PSs X.nox st t):PSs X st t:=λ pins s σ H D I hw=>
 Rf (h pins s σ H D (I.wish _) hw) (λ _ _ q=>q.unwish) λ _ _ z=>False.elim z
end
section
variable {X:Cx}{st:Stmt}{cB:List Stmt}{t u:TS}{e:Expr}{te:TE}{pos:Pos}
def EB:TS:=λ D σ H=>D.nx σ H
def OL(t u:TS):TS:=λ D σ H=>t { D with nx:=u D } σ H
def aF:PSs X [] EB:=λ _ _ σ H _ I h=>S5 ⟨σ,H,I,h⟩
def iD(h1:PS X st t)(h2:PSs X cB u):PSs X (st::cB) (OL t u):=by
 intro pins s σ H D I h;refine wpAny_execs_cons (thn (h1 pins s σ H { D with nx:=u D } I h) λ f s1 q=>?_)
 cases f with
 | next=>
  obtain⟨σ',H',I',q⟩:=q;exact h2 pins s1 σ' H' D I' q
 | ret v=>exact q
 | brk=>exact q
 | cont=>exact q
def nv(h1:PS X st t):PSs X [st] t:=by
 intro pins s σ H D I h;refine wpAny_execs_cons (thn (h1 pins s σ H D I h) λ f s1 q=>?_)
 cases f with
 | next=>exact S5 q
 | ret v=>exact q
 | brk=>exact q
 | cont=>exact q
def Fz:PS X (.Pass pos) EB:=λ _ _ σ H _ I h=>wpAny_Pass ⟨σ,H,I,h⟩
def Inv.quiet{pins:List (Addr × Obj)}{σ:St}{H:Hp}{s:Shared}(I:Inv X pins σ H s):interactive X.env=false:=by simp [interactive,I.ok.kind]
def Jr(te:TE):TS:=λ D σ H=>te σ H λ _ H1=>D.nx σ H1
def FA(he:PE X e te)(hs:swapsWith e none pos.line X.env=pure false:=by rfl):PS X (.Expr e pos) (Jr te):=by
 intro pins s σ H D I h;exact wpAny_Expr_any (thn (he pins s σ H _ I h) λ v s1 ⟨x,H1,I1,r1,q1⟩=>⟨σ,H1,I1,q1⟩) I.quiet hs
def ON(te:TE):TS:=λ D σ H=>te σ H D.rt
def xV(he:PE X e te):PS X (.Return (some e) pos) (ON te):=by
 intro pins s σ H D I h;exact wpAny_Return_some (thn (he pins s σ H _ I h) λ v s1 ⟨x,H1,I1,r1,q1⟩=>⟨x,σ,H1,I1,r1,q1⟩)
def Ml(c:TT)(t u:TS):TS:=λ D σ H=>c σ H λ b H1=>if b=true then t D σ H1 else u D σ H1
def EG{c:Expr}{a b:List Stmt}{tc:TT}(hc:PT X c tc)(ha:PSs X a t)(hb:PSs X b u):PS X (.If c a b pos) (Ml tc t u):=by
 intro pins s σ H D I h;refine wpAny_If (thn (hc pins s σ H _ I h) λ d s1 ⟨H1,I1,q1⟩=>?_)
 cases d with
 | true=>exact ha pins s1 σ H1 D I1 q1
 | false=>exact hb pins s1 σ H1 D I1 q1
def Ke:TS:=λ _ _ _=>False
def dG:PS X st Ke:=λ _ _ _ _ _ _ h=>h.elim
end
abbrev TG:=V->St->Hp->(St->Hp->Prop)->Prop
abbrev TGs:=List V->St->Hp->(St->Hp->Prop)->Prop
def PG(X:Cx)(target:Expr)(t:TG):Prop:=
 ∀ (pins:List (Addr × Obj)) (s:Shared) (σ:St) (H:Hp) (v:V) (u:Value) (Q:St->Hp->Prop),Inv X pins σ H s->bA v u->t v σ H Q →
  wpAny (model X.prog X.w) X.A (assign target X.env u) (λ _ s'=>∃ σ' H',Inv X pins σ' H' s'/\Q σ' H') X.xe s
def PGs(X:Cx)(ts:List Expr)(t:TGs):Prop:=
 ∀ (pins:List (Addr × Obj)) (s:Shared) (σ:St) (H:Hp) (vs:List V) (us:List Value) (Q:St->Hp->Prop),Inv X pins σ H s->bf vs us->t vs σ H Q →
  wpAny (model X.prog X.w) X.A (assignInOrder ((assignEach ts X.env).map (·.2)) us) (λ _ s'=>∃ σ' H',Inv X pins σ' H' s'/\Q σ' H') X.xe s
abbrev DS:=V->V->V->Hp->(Hp->Prop)->Prop
def Pp(X:Cx)(t:DS):Prop:=
 ∀ (pins:List (Addr × Obj)) (s:Shared) (σ:St) (H:Hp) (o i v:V) (ov iv u:Value) (Q:Hp->Prop),Inv X pins σ H s->bA o ov->bA i iv->bA v u->t o i v H Q →
  wpAny (model X.prog X.w) X.A (setItem ov iv u) (λ _ s'=>∃ H',Inv X pins σ H' s'/\Q H') X.xe s
section
variable {X:Cx}{pos:Pos}
def cE(i:Nat):TG:=λ v σ H Q=>Q (σ.set i (some v)) H
def yu{i:Nat}{x:Str}(hN:X.N.Nodup)(hi:X.N[i]? = some x)(hx:Loc X.env.scope x)(hf:X.fn x=true\/X.env.scope.names.lookup x=some .local:=by first|exact .inl rfl|exact .inr rfl|assumption):PG X (.Name x pos) (cE i):=by
 intro pins s σ H v u Q I r h;exact wpAny_assign_Name (nM I hN hi hx r (λ s' I'=>⟨_,H,I',h⟩) hf)
def Po:TGs:=λ vs σ H Q=>vs=[]/\Q σ H
def JT(t:TG)(u:TGs):TGs:=λ vs σ H Q=>∃ v r,vs=v::r/\t v σ H λ σ' H'=>u r σ' H' Q
def FG:PGs X [] Po:=by
 intro pins s σ H vs us Q I r h;obtain⟨e,h⟩:=h;subst e;cases r;exact assignInOrder_nil ⟨σ,H,I,h⟩
def B7{e:Expr}{es:List Expr}{t:TG}{u:TGs}(h1:PG X e t)(h2:PGs X es u)
  (hs:(assignEach (e::es) X.env).map (·.2)=assign e X.env::(assignEach es X.env).map (·.2):=by rfl):PGs X (e::es) (JT t u):=by
 intro pins s σ H vs us Q I r h;obtain⟨v,vr,e1,h⟩:=h;subst e1
 cases r with
 | cons r rr=>
  rw [hs];refine assignInOrder_cons (thn (h1 pins s σ H _ _ _ I r h) λ _ s1 ⟨σ1,H1,I1,q1⟩=>?_);exact h2 pins s1 σ1 H1 _ _ Q I1 rr q1
def Pm(K:W.Frag)(n:Nat)(t:TGs):TG:=λ v σ H Q=>∃ a xs,v=.ref a/\SqT K H a xs/\xs.length=n/\t xs σ H Q
def Ko{es:List Expr}{k:Nat}{t:TGs}{n:Nat}(hc:X.calm=true)(h:PGs X es t)
  (hn:(assignEach es X.env).length=n:=by rfl) (aq:(assignEach es X.env).findIdx? (·.1)=none:=by rfl):PG X (.Tuple es k pos) (Pm X.K n t):=by
 intro pins s σ H v u Q I r hw;obtain⟨a,xs,e1,hq,hl,hw⟩:=hw;subst e1;cases r;obtain⟨its,rv,ht,hz⟩:=I.tuple hq;refine assign_Tuple_tuple (I.ok.hd hc) ht (by simp [hn,←hl,rv.length]) aq λ h' hx=>?_;have I1:Inv X pins σ H { s with heap:=h' }:=I.kept (t':=s.toks) λ b o e=>hx b o (Qy (Qm e)) e;exact h pins _ σ H xs _ Q I1 (by simpa using rv) hw
def Pn(to ti:TE)(t:DS):TG:=λ v σ H Q=>to σ H λ o H1=>ti σ H1 λ i H2=>t o i v H2 λ H3=>Q σ H3
def Kp{o i:Expr}{to ti:TE}{t:DS}(ho:PE X o to)(hi:PE X i ti)(hs:Pp X t)
  (ha:∀ v,assign (.Subscript o i pos) X.env v=(do
   let ov ←holding [v] (eval o X.env)
   let iv ←holding [v,ov] (eval i X.env)
   standAt pos
   holding [v,ov,iv] (setItem ov iv v)
   release [v,ov,iv] []):=by intro _;rfl):PG X (.Subscript o i pos) (Pn to ti t):=by
 intro pins s σ H v u Q I r h;rw [ha];refine My (QU (thn (ho pins s σ H _ I h) λ ov s1 ⟨x,H1,I1,r1,q1⟩=>?_));refine My (QU (thn (hi pins s1 σ H1 _ I1 q1) λ iv s2 ⟨y,H2,I2,r2,q2⟩=>?_));refine My (RI (My (QU (thn (hs pins s2 σ H2 x y v ov iv u _ I2 r1 r2 r q2) λ _ s3 ⟨H3,I3,q3⟩=>?_))));exact wpAny_release ⟨σ,H3,I3,q3⟩
def MK(te:TE)(g:TG):TS:=λ D σ H=>te σ H λ x H1=>g x σ H1 D.nx
def Km{tg e:Expr}{te:TE}{g:TG}(he:PE X e te)(hg:PG X tg g)(hs:swapsWithSole [tg] e pos.line X.env=pure false:=by rfl)(hw:swappedStores [tg] e X.env=pure none:=by rfl)
  (h1:(assignEach [tg] X.env).map (·.2)=[assign tg X.env]:=by rfl):PS X (.Assign [tg] e pos) (MK te g):=by
 intro pins s σ H D I h;refine wpAny_Assign_stores (thn (he pins s σ H _ I h) λ v s1 ⟨x,H1,I1,r1,q1⟩=>?_) hs hw;rw [h1];exact thn (hg pins s1 σ H1 x v _ I1 r1 q1) λ _ s2 q=>q
def gQ{i:Nat}{x:Str}{e:Expr}{te:TE}{pos':Pos}(hN:X.N.Nodup)(hi:X.N[i]? = some x)(hx:Loc X.env.scope x)(he:PE X e te)(hs:swapsWith e (some (.Name x pos')) pos.line X.env=pure false:=by rfl)(hf:X.fn x=true\/X.env.scope.names.lookup x=some .local:=by first|exact .inl rfl|exact .inr rfl|assumption) :
  PS X (.Assign [.Name x pos'] e pos) (MK te (cE i)):=by
 intro pins s σ H D I h;refine wpAny_Assign_Name (thn (he pins s σ H _ I h) λ v s1 ⟨y,H1,I1,r1,q1⟩=>?_) hs;exact nM I1 hN hi hx r1 (λ s2 I2=>⟨_,H1,I2,q1⟩) hf
end
section
variable {X:Cx}{pos:Pos}
end
structure It where
 go:Nat->Hp->Prop
 yld:Nat->Hp->V->Hp->Prop
 stop:Nat->Hp->Prop
def mi(X:Cx)(pins:List (Addr × Obj))(H:Hp)(b:Addr):Prop:=
 H b=none/\b ≠ X.env.locals/\b ∉ X.fs/\(b∈X.ex\/X.s₀.heap.objs.size<=b)/\(∀ x c,X.env.cells.lookup x=some c->c ≠ b)/\∀ p∈X.pn++pins,p.1 ≠ b
def Inv.fpOk{X:Cx}{pins:List (Addr × Obj)}{σ:St}{H H':Hp}{s:Shared}{b:Addr}(I:Inv X pins σ H s)(hb:s.heap.objs.size<=b)(hn:H' b=none):mi X pins H' b:=by
 refine⟨hn,RN (Qs I.lt hb),I.nofs hb,.inr (QP I.sz hb),λ x c e z=>?_,λ p hp z=>?_⟩
 ·obtain⟨v,q⟩:=I.cell x c e;exact absurd (Qs q.lt (by rw [z];exact hb)) (Q4 _)
 ·exact absurd (Qs (Qm (I.pin p hp).1) (by rw [z];exact hb)) (Q4 _)
structure Bo(P:Program)(w:World)(K:W.Frag)(tg:Expr)(J:It)(fp:List Addr)(it:Addr)(tn:Nat->Heap->Prop):Prop where
 mem:it∈fp
 obj:∀ i h,tn i h->∀ b∈fp,∃ o,h.get? b=some o/\∀ v,o.data ≠ .cell v
 keep:∀ i h h',tn i h->(∀ b∈fp,∀ o,h.get? b=some o->h'.get? b=some o)->tn i h'
 item:∀ (X:Cx),X.prog=P->X.w=w->X.K=K->X.calm=true->∀ (i:Nat) (pins:List (Addr × Obj)) (s:Shared) (σ:St) (H:Hp) (E:Value->Shared->Prop),Inv X pins σ H s->(∀ b∈fp,mi X pins H b)->tn i s.heap->J.go i H →
  wpAny (model P w) X.A (pyNext (.ref it)) (λ r s1=>∃ u,r=some u /\
   wpAny (model P w) X.A (letOwnedTupleGo tg (.ref it) u) (λ _ s2=>∃ x H',Inv X pins σ H' s2/\bA x u/\J.yld i H x H'/\tn (i+1) s2.heap/\∀ b∈fp,H' b=none) E s1) E s
 done:∀ (X:Cx),X.prog=P->X.w=w->X.K=K->X.calm=true->∀ (i:Nat) (pins:List (Addr × Obj)) (s:Shared) (σ:St) (H:Hp) (E:Value->Shared->Prop),Inv X pins σ H s->(∀ b∈fp,mi X pins H b)->tn i s.heap->J.stop i H →
  wpAny (model P w) X.A (pyNext (.ref it)) (λ r s1=>r=none/\Inv X pins σ H s1) E s
 self:∀ (A:Around) (i:Nat) (s:Shared) (Q:Value->Shared->Prop) (E:Value->Shared->Prop),tn i s.heap->Q (.ref it) s->wpAny (model P w) A (pyIter (.ref it)) Q E s
abbrev TI:=St->Hp->(It->Hp->Prop)->Prop
def PIE(X:Cx)(pins:List (Addr × Obj))(σ:St)(tg:Expr)(R:It->Hp->Prop)(aq:Value)(s2:Shared):Prop:=
 ∃ (it:Addr) (fp:List Addr) (tn:Nat->Heap->Prop) (J:It) (H':Hp),aq=.ref it/\Inv X pins σ H' s2/\Bo X.prog X.w X.K tg J fp it tn/\tn 0 s2.heap/\(∀ b∈fp,mi X pins H' b)/\R J H'
def PI(X:Cx)(tg iter:Expr)(wi:TI):Prop:=
 ∀ (pins:List (Addr × Obj)) (s:Shared) (σ:St) (H:Hp) (R:It->Hp->Prop),Inv X pins σ H s->wi σ H R →
  wpAny (model X.prog X.w) X.A (eval iter X.env) (λ v s1=>wpAny (model X.prog X.w) X.A (pyIter v) (PIE X pins σ tg R) X.xe s1) X.xe s
def BB{M:Model}{A:Around}{E:Value->Shared->Prop}{s:Shared}{tg:Expr}{it:Addr}{u:Value}{o:Obj}{n:String}{vs:Array Value}{Q:Unit->Shared->Prop}(ho:s.heap.get? it=some o)(hc:o.cls=.type n)(hd:o.data=.fields vs)
    (hn:["enumerate", "zip", "dict_itemiterator", "dict_reverseitemiterator", "odict_iterator", "itertools.zip_longest", "itertools.pairwise"].contains n=false) (hQ:Q () s):wpAny M A (letOwnedTupleGo tg (.ref it) u) Q E s:=by
  unfold letOwnedTupleGo
  cases tg<;>first
    | exact Ql hQ
    | (cases u<;>first
        | exact Ql hQ
        | (refine My (wpAny_load ho ?_)
           rw [hc,hd]
           show wpAny M A (if (["enumerate", "zip", "dict_itemiterator", "dict_reverseitemiterator", "odict_iterator", "itertools.zip_longest", "itertools.pairwise"].contains n && vs[0]? == some (rawInt _))=true then _ else _) Q E s
           rw [QB (by intro h;rw [hn,Bool.false_and] at h;cases h)];exact Ql hQ))
def Itl(K:W.Frag)(a:Addr):It:=
 ⟨λ i H=>∃ xs x,SqL K H a xs/\xs[i]? = some x,λ i H x H'=>H'=H/\∀ xs,SqL K H a xs->xs[i]? = some x,λ i H=>∃ xs,SqL K H a xs/\xs.length<=i⟩
def Itt(K:W.Frag)(a:Addr):It:=
 ⟨λ i H=>∃ xs x,SqT K H a xs/\xs[i]? = some x,λ i H x H'=>H'=H/\∀ xs,SqT K H a xs->xs[i]? = some x,λ i H=>∃ xs,SqT K H a xs/\xs.length<=i⟩
def Itr(lo:Int)(n:Nat):It:=⟨λ i _=>i < n,λ i H x H'=>H'=H/\x=.int (lo+i),λ i _=>n<=i⟩
def zi{P:Program}{w:World}{K:W.Frag}{tg:Expr}(a it:Addr):Bo P w K tg (Itl K a) [it] it (λ i h=>h.IsListIter it a i) where
 mem:=by simp
 obj:=λ i h st b hb=>by
  have e:b=it:=by simpa using hb
  subst e;obtain⟨o,e,c,d⟩:=st;exact⟨o,e,λ v z=>by rw [d] at z;cases z⟩
 keep:=λ i h h' st k=>st.at λ o e=>k it (by simp) o e
 item:=by
  intro X hP hw hK hc i pins s σ H E I hf st hg;subst hP hw hK;obtain⟨xs,x,hq,hx⟩:=hg;obtain⟨its,rv,p,hz⟩:=I.list hq;obtain⟨u,hu,ru⟩:=rv.get hx;obtain⟨f0,f1,f2,f3,f4,f5⟩:=hf it (by simp);refine SY st p.isList (x:=u) (by simpa using hu) λ h' aq sb=>?_;have I1:Inv X pins σ H { s with heap:=h' }:=I.turned (t':=s.toks) (λ b o hb e=>(sb.2 b hb).trans e) f0 f1 f3 f4 f5;obtain⟨o,e,c,d⟩:=id aq;exact⟨u,rfl,BB (s:={ s with heap:=h' }) e c d (by decide) ⟨x,H,I1,ru,⟨rfl,λ ys hy=>by rw [I.list_inj hy hq];exact hx⟩,aq,λ b hb=>(hf b hb).1⟩⟩
 done:=by
  intro X hP hw hK hc i pins s σ H E I hf st hg;subst hP hw hK;obtain⟨xs,hq,hx⟩:=hg;obtain⟨its,rv,p,hz⟩:=I.list hq;obtain⟨f0,f1,f2,f3,f4,f5⟩:=hf it (by simp);have hl:=rv.length;exact S4 (I.ok.hd hc) st p.isList (by simp;omega) λ h' eb=>⟨rfl,I.turned (t':=s.toks) (λ b o hb e=>eb b o hb e) f0 f1 f3 f4 f5⟩
 self:=λ _ _ _ _ _ st h=>wpAny_pyIter_listiter st h
def vE{P:Program}{w:World}{K:W.Frag}{tg:Expr}(a it:Addr):Bo P w K tg (Itt K a) [it] it (λ i h=>h.IsTupleIter it a i) where
 mem:=by simp
 obj:=λ i h st b hb=>by
  have e:b=it:=by simpa using hb
  subst e;obtain⟨o,e,c,d⟩:=st;exact⟨o,e,λ v z=>by rw [d] at z;cases z⟩
 keep:=λ i h h' st k=>st.at λ o e=>k it (by simp) o e
 item:=by
  intro X hP hw hK hc i pins s σ H E I hf st hg;subst hP hw hK;obtain⟨xs,x,hq,hx⟩:=hg;obtain⟨its,rv,p,hz⟩:=I.tuple hq;obtain⟨u,hu,ru⟩:=rv.get hx;obtain⟨f0,f1,f2,f3,f4,f5⟩:=hf it (by simp);refine wpAny_pyNext_tuple_item st (show s.heap.IsTuple a its.toArray from p) (x:=u) (by simpa using hu) λ h' aq sb=>?_;have I1:Inv X pins σ H { s with heap:=h' }:=I.turned (t':=s.toks) (λ b o hb e=>(sb.2 b hb).trans e) f0 f1 f3 f4 f5;obtain⟨o,e,c,d⟩:=id aq;exact⟨u,rfl,BB (s:={ s with heap:=h' }) e c d (by decide) ⟨x,H,I1,ru,⟨rfl,λ ys hy=>by rw [I.tuple_inj hy hq];exact hx⟩,aq,λ b hb=>(hf b hb).1⟩⟩
 done:=by
  intro X hP hw hK hc i pins s σ H E I hf st hg;subst hP hw hK;obtain⟨xs,hq,hx⟩:=hg;obtain⟨its,rv,p,hz⟩:=I.tuple hq;obtain⟨f0,f1,f2,f3,f4,f5⟩:=hf it (by simp);have hl:=rv.length;exact wpAny_pyNext_tuple_end (I.ok.hd hc) st (show s.heap.IsTuple a its.toArray from p) (by simp;omega) λ h' eb=>⟨rfl,I.turned (t':=s.toks) (λ b o hb e=>eb b o hb e) f0 f1 f3 f4 f5⟩
 self:=λ _ _ _ _ _ st h=>wpAny_pyIter_tupleiter st h
def vF{P:Program}{w:World}{K:PySem.W.Frag}{tg:Expr}(it:Addr)(lo:Int)(n:Nat):Bo P w K tg (Itr lo n) [it] it (λ i h=>IsRangeIter h it (lo+(i:Nat) * 1) ((n:Int) - (i:Nat)) 1) where
 mem:=by simp
 obj:=λ i h st b hb=>by
  have e:b=it:=by simpa using hb
  subst e
  exact⟨_,st,λ v z=>by
   have z':Data.fields _=Data.cell v:=z;cases z'⟩
 keep:=λ i h h' st k=>k it (by simp) _ st
 item:=by
  intro X hP hw hK hc i pins s σ H E I hf st hg;subst hP hw hK;obtain⟨f0,f1,f2,f3,f4,f5⟩:=hf it (by simp);have W:=Walks.range (prog:=X.prog) (w:=X.w) (I.ok.hd hc) it lo 1 n;refine W.item i s _ _ hg st λ v h' tk hv aq kk=>?_;obtain⟨t,rfl⟩:=hv;have I1:Inv X pins σ H { s with heap:=h',toks:=tk }:=I.turned (λ b o hb e=>kk b o (by simpa using hb) e) f0 f1 f3 f4 f5;refine⟨_,rfl,BB (s:={ s with heap:=h',toks:=tk }) (n := "range_iterator") aq rfl rfl (by decide) ⟨.int (lo+i),H,I1,⟨t,?_⟩,⟨rfl,rfl⟩,aq,λ b hb=>(hf b hb).1⟩⟩;rw [Int.mul_one]
 done:=by
  intro X hP hw hK hc i pins s σ H E I hf st hg;subst hP hw hK;obtain⟨f0,f1,f2,f3,f4,f5⟩:=hf it (by simp);exact wpAny_pyNext_range_end (I.ok.hd hc) st (by have:n<=i:=hg;omega) λ h' eb=>⟨rfl,I.turned (t':=s.toks) (λ b o hb e=>eb b o hb e) f0 f1 f3 f4 f5⟩
 self:=λ _ _ _ _ _ st h=>wpAny_pyIter_rangeiter st h
section
variable {X:Cx}{tg:Expr}
def BZ{pins:List (Addr × Obj)}{σ:St}{H:Hp}{s:Shared}{R:It->Hp->Prop}{E:Value->Shared->Prop}{lo hi:Int}{t u v:Tok}{tk:Nat}(I:Inv X pins σ H s)(h1:-(2 ^ 62)<=lo)(h2:lo < 2 ^ 62)(h3:-(2 ^ 62)<=hi)(h4:hi < 2 ^ 62)
  (q:R (Itr lo (hi - lo).toNat) H):wpAny (model X.prog X.w) X.A (pyIter (.ref s.heap.objs.size)) (PIE X pins σ tg R) E { s with heap:=s.heap.push { cls:=.type "range",data:=.fields #[.int lo t,.int hi u,.int 1 v] },toks:=tk }:=by
 refine wpAny_pyIter_range (IsRange.new ..) (small_one h1 h2 h3 h4) ?_;have I1:Inv X pins σ H { s with heap:=s.heap.push { cls:=.type "range",data:=.fields #[.int lo t,.int hi u,.int 1 v] },toks:=tk }:=I.kept λ b o e=>Qg _ e
 refine⟨(s.heap.push { cls:=.type "range",data:=.fields #[.int lo t,.int hi u,.int 1 v] }).objs.size,[(s.heap.push { cls:=.type "range",data:=.fields #[.int lo t,.int hi u,.int 1 v] }).objs.size],_,_,H,rfl,
  I1.kept (t':=tk) λ b o e=>Qg _ e,vF _ lo (hi - lo).toNat,?_,λ b hb=>?_,q⟩
 ·have e1:lo+((0:Nat):Int) * 1=lo:=by simp
  have e2:(((hi - lo).toNat:Nat):Int) - ((0:Nat):Int)=Builtin.Range.rangeSize lo hi 1:=by rw [rangeSize_one];split<;>omega
  show IsRangeIter _ _ (lo+((0:Nat):Int) * 1) ((((hi - lo).toNat:Nat):Int) - ((0:Nat):Int)) 1
  rw [e1,e2];exact Qp _ rfl
 ·have e:b=(s.heap.push { cls:=.type "range",data:=.fields #[.int lo t,.int hi u,.int 1 v] }).objs.size:=by simpa using hb
  subst e;exact I1.fpOk (Qi _) (I1.hok.fresh (Qi _))
def JQ(ta:TA):TI:=λ σ H R=>ta σ H λ vs H1=>∃ j:Int,vs=[.int j]/\-(2 ^ 62)<=j/\j < 2 ^ 62/\R (Itr 0 j.toNat) H1
def zq{a:Expr}{ta:TA}{p pos:Pos}(hg:Gl X "range")(hm:X.mg "range"=none)(ha:PA X [a] ta)(hs:starEach [a] X.env=[(false,eval a X.env)]:=by rfl):PI X tg (.Call (.Name "range" p) [a] [] pos) (JQ ta):=by
 intro pins s σ H R I h;refine Call_ (iC I hg hm boot_range (RL (thn (ha pos pins s σ H _ I h) λ us s1 ⟨vs,H1,I1,r1,q1⟩=>?_) hs rfl));obtain⟨j,e,q1,q2,q⟩:=q1;subst e
 cases r1 with
 | cons r rr=>
  cases rr;obtain⟨t,rfl⟩:=r;exact call_range_1 (BZ I1 (by omega) (by omega) q1 q2 (by simpa using q))
def OP(wi:TI)(g:TG)(tb:TS):TS:=λ D σ H=>wi σ H λ J H1=>∃ W:Nat->Nat->St->Hp->Prop,(∃ m,W 0 m σ H1)/\∀ i m σ H,W i m σ H →
 (J.stop i H/\D.nx σ H)\/(J.go i H/\∃ N:St->Hp->Prop,(∀ σ' H',N σ' H'->∃ m',m' < m/\W (i+1) m' σ' H')/\∀ x H',J.yld i H x H'->g x σ H' λ σ2 H2=>tb { D with nx:=N,ct:=N,bk:=D.nx } σ2 H2)
def pF(fp:List Addr)(h:Heap):List (Addr × Obj):=fp.filterMap λ b=>(h.get? b).map λ o=>(b,o)
def gC{fp:List Addr}{h:Heap}{b:Addr}{o:Obj}(hb:b∈fp)(e:h.get? b=some o):(b,o)∈pF fp h:=List.mem_filterMap.mpr ⟨b,hb,by rw [e];rfl⟩
def zz{fp:List Addr}{h:Heap}{p:Addr × Obj}(hp:p∈pF fp h):p.1∈fp/\h.get? p.1=some p.2:=by
 obtain⟨b,hb,e⟩:=List.mem_filterMap.mp hp
 cases q:h.get? b with
 | none=>rw [q] at e;cases e
 | some o=>
  rw [q] at e;have e':(b,o)=p:=QL e;subst e';exact⟨hb,q⟩
def Inv.pinned{pins:List (Addr × Obj)}{σ:St}{H:Hp}{s:Shared}{fp:List Addr}(I:Inv X pins σ H s)(hf:∀ b∈fp,mi X pins H b)(ho:∀ b∈fp,∃ o,s.heap.get? b=some o/\∀ v,o.data ≠ .cell v):Inv X (pins++pF fp s.heap) σ H s:=
 I.pins_of λ p hp=>(QF.mp hp).elim (λ z=>I.pin p (Qn _ z)) λ z=>by
  obtain⟨hb,e⟩:=zz z;obtain⟨f0,f1,f2,_⟩:=hf p.1 hb;obtain⟨o,e',d⟩:=ho p.1 hb;rw [e] at e';cases e';exact⟨e,f0,f1,f2,d⟩
def Inv.unpinned{pins pl:List (Addr × Obj)}{σ:St}{H:Hp}{s:Shared}(I:Inv X (pins++pl) σ H s):Inv X pins σ H s:=I.pins_of λ p hp=>I.pin p (Qn _ (Qz _ hp))
def Kl{iter:Expr}{body:List Stmt}{wi:TI}{g:TG}{tb:TS}{pos:Pos}(hp:PassesOwn (model X.prog X.w) X.A X.env X.xe)(hc:X.calm=true)(hi:PI X tg iter wi)(hg:PG X tg g)(hb:PSs X body tb)
  (hs:∀ x,foldedSetIterable iter X.env x=pure x:=by intro _;rfl):PS X (.For tg iter body [] pos) (OP wi g tb):=by
 intro pins s σ H D I h;refine wpAny_For (thn (hi pins s σ H _ I h) λ v s1 h1=>thn h1 λ a8 s2 h2=>?_) hs;obtain⟨it,fp,tn,J,H2,e,I2,T,a5,f2,W,⟨m0,w0⟩,turn⟩:=h2;subst e;have aq:∀ {H':Hp},(∀ b∈fp,H' b=none)->∀ b∈fp,mi X pins H' b:=λ hn b hb=>⟨hn b hb,(f2 b hb).2⟩;refine codeAny_forLoop_any (λ n s'=>∃ i σ' H',Inv X pins σ' H' s'/\tn i s'.heap/\(∀ b∈fp,H' b=none)/\W i n σ' H') ?_ m0 ⟨0,σ,H2,I2,a5,λ b hb=>(f2 b hb).1,w0⟩;rintro n s3 ⟨i,σ3,H3,I3,a3,a4,w3⟩
 rcases turn i n σ3 H3 w3 with ⟨stop,qn⟩|⟨go,N,hN,step⟩
 ·refine SG hp (thn (T.done X rfl rfl rfl hc i pins s3 σ3 H3 X.xe I3 (aq a4) a3 stop) λ r s4 ⟨hr,I4⟩=>?_);subst hr;exact S5 ⟨σ3,H3,I4,qn⟩
 ·refine SG hp (thn (T.item X rfl rfl rfl hc i pins s3 σ3 H3 X.xe I3 (aq a4) a3 go) λ r s4 ⟨u,hr,h4⟩=>?_);subst hr;refine SG hp (thn h4 λ _ s5 ⟨x,H5,I5,r5,y5,ar,a6⟩=>?_);have a7:=I5.pinned (aq a6) (T.obj _ _ ar);refine SG hp (thn (hg _ s5 σ3 H5 x u _ a7 r5 (step x H5 y5)) λ _ s6 ⟨σ6,H6,I6,q6⟩=>?_);refine SG hp (thn (hb _ s6 σ6 H6 _ I6 q6) λ f s7 q7=>?_)
  have again:∀ {σ7:St} {H7:Hp},Inv X (pins++pF fp s5.heap) σ7 H7 s7->N σ7 H7->∃ m,m < n/\∃ i σ' H',Inv X pins σ' H' s7/\tn i s7.heap/\(∀ b∈fp,H' b=none)/\W i m σ' H':=λ {σ7 H7} I7 n7=>by
   obtain⟨m',hm,w7⟩:=hN σ7 H7 n7;refine⟨m',hm,i+1,σ7,H7,I7.unpinned,T.keep _ _ _ ar λ b hb o e=>(I7.pin (b,o) (Qn _ (Qn _ (gC hb e)))).1,λ b hb=>?_,w7⟩;obtain⟨o,e,d⟩:=T.obj _ _ ar b hb;exact(I7.pin (b,o) (Qn _ (Qn _ (gC hb e)))).2.1
  cases f with
  | next=>obtain⟨σ7,H7,I7,n7⟩:=q7;exact again I7 n7
  | cont=>obtain⟨σ7,H7,I7,n7⟩:=q7;exact again I7 n7
  | brk=>obtain⟨σ7,H7,I7,q7⟩:=q7;exact⟨σ7,H7,I7.unpinned,q7⟩
  | ret v=>obtain⟨x7,σ7,H7,I7,r7,q7⟩:=q7;exact⟨x7,σ7,H7,I7.unpinned,r7,q7⟩
end
def Dx{K:PySem.W.Frag}{a:Addr}{xs:List V}{g:TG}{tb:TS}{D:iw}{σ:St}{H:Hp}(Pv:Nat->St->Hp->Prop)(h0:Pv 0 σ H)(hl:∀ i σ H,i<=xs.length->Pv i σ H->SqL K H a xs)
  (hs:∀ i x σ H,xs[i]? = some x->Pv i σ H->g x σ H λ σ2 H2=>tb { D with nx:=Pv (i+1),ct:=Pv (i+1),bk:=D.nx } σ2 H2) (hd:∀ σ H,Pv xs.length σ H->D.nx σ H) :
  ∃ W:Nat->Nat->St->Hp->Prop,(∃ m,W 0 m σ H)/\∀ i m σ H,W i m σ H →
   ((Itl K a).stop i H/\D.nx σ H)\/((Itl K a).go i H/\∃ N:St->Hp->Prop,(∀ σ' H',N σ' H'->∃ m',m' < m/\W (i+1) m' σ' H')/\∀ x H',(Itl K a).yld i H x H'->g x σ H' λ σ2 H2=>tb { D with nx:=N,ct:=N,bk:=D.nx } σ2 H2):=by
 refine⟨λ i m σ H=>m=xs.length - i/\i<=xs.length/\Pv i σ H,⟨xs.length,by simp,QK _,h0⟩,?_⟩;rintro i m σ H ⟨rfl,hi,p⟩;have q:=hl i σ H hi p
 by_cases hlt:i < xs.length
 ·refine .inr ⟨⟨xs,xs[i],q,by simp [hlt]⟩,Pv (i+1),λ σ' H' p'=>⟨xs.length - (i+1),by omega,rfl,hlt,p'⟩,λ x H' y=>?_⟩;obtain⟨e,y⟩:=y;subst e;exact hs i x σ _ (y xs q) p
 ·have e:i=xs.length:=by omega
  subst e;exact .inl ⟨⟨xs,q,Qi _⟩,hd σ H p⟩
def AH{lo:Int}{n:Nat}{g:TG}{tb:TS}{D:iw}{σ:St}{H:Hp}(Pv:Nat->St->Hp->Prop)(h0:Pv 0 σ H)
  (hs:∀ i σ H,i < n->Pv i σ H->g (.int (lo+i)) σ H λ σ2 H2=>tb { D with nx:=Pv (i+1),ct:=Pv (i+1),bk:=D.nx } σ2 H2) (hd:∀ σ H,Pv n σ H->D.nx σ H) :
  ∃ W:Nat->Nat->St->Hp->Prop,(∃ m,W 0 m σ H)/\∀ i m σ H,W i m σ H →
   ((Itr lo n).stop i H/\D.nx σ H)\/((Itr lo n).go i H/\∃ N:St->Hp->Prop,(∀ σ' H',N σ' H'->∃ m',m' < m/\W (i+1) m' σ' H')/\∀ x H',(Itr lo n).yld i H x H'->g x σ H' λ σ2 H2=>tb { D with nx:=N,ct:=N,bk:=D.nx } σ2 H2):=by
 refine⟨λ i m σ H=>m=n - i/\i<=n/\Pv i σ H,⟨n,by simp,QK _,h0⟩,?_⟩;rintro i m σ H ⟨rfl,hi,p⟩
 by_cases hlt:i < n
 ·refine .inr ⟨hlt,Pv (i+1),λ σ' H' p'=>⟨n - (i+1),by omega,rfl,hlt,p'⟩,λ x H' y=>?_⟩;obtain⟨e,y⟩:=y;subst e y;exact hs i σ _ hlt p
 ·have e:i=n:=by omega
  subst e;exact .inl ⟨Qi _,hd σ H p⟩
abbrev R2:=V->V->Hp->VK->Prop
def OpR(X:Cx)(f:Value->Value->Sem Value)(r:R2):Prop:=
 ∀ (pins:List (Addr × Obj)) (s:Shared) (σ:St) (H:Hp) (x y:V) (v u:Value) (Q:VK),Inv X pins σ H s->bA x v->bA y u->r x y H Q →
  wpAny (model X.prog X.w) X.A (f v u) (EP X pins σ Q) X.xe s
def UnR(X:Cx)(f:Value->Sem Value)(r:V->Hp->VK->Prop):Prop:=
 ∀ (pins:List (Addr × Obj)) (s:Shared) (σ:St) (H:Hp) (x:V) (v:Value) (Q:VK),Inv X pins σ H s->bA x v->r x H Q →
  wpAny (model X.prog X.w) X.A (f v) (EP X pins σ Q) X.xe s
def b9(X:Cx)(f:Value)(r:List V->Hp->VK->Prop):Prop:=
 ∀ (pins:List (Addr × Obj)) (s:Shared) (σ:St) (H:Hp) (xs:List V) (us:List Value) (Q:VK),Inv X pins σ H s->bf xs us->r xs H Q →
  wpAny (model X.prog X.w) X.A (call f us) (EP X pins σ Q) X.xe s
def tOp(r:R2)(ta tb:TE):TE:=λ σ H Q=>ta σ H λ x H1=>tb σ H1 λ y H2=>r x y H2 Q
def tUn(r:V->Hp->VK->Prop)(ta:TE):TE:=λ σ H Q=>ta σ H λ x H1=>r x H1 Q
def rI(C:Int->Int->Prop)(g:Int->Int->V):R2:=λ x y H Q=>∃ i j,x=.int i/\y=.int j/\C i j/\Q (g i j) H
def rI0(g:Int->Int->V):R2:=λ x y H Q=>∃ i j,x=.int i/\y=.int j/\Q (g i j) H
def rU(g:Int->V):V->Hp->VK->Prop:=λ x H Q=>∃ i,x=.int i/\Q (g i) H
section
variable {X:Cx}{a b c:Expr}{ta tb tc:TE}{pos:Pos}
def Nl(ha:PE X a ta)(hb:PE X b tb){pins:List (Addr × Obj)}{s:Shared}{σ:St}{H:Hp}{R:V->V->Hp->Prop}(I:Inv X pins σ H s)
  (h:ta σ H λ x H1=>tb σ H1 λ y H2=>R x y H2) {Q:Value->Shared->Prop} {f:Value->Value->Sem Value}
  (hf:∀ v u s2 x y H2,Inv X pins σ H2 s2->bA x v->bA y u->R x y H2->wpAny (model X.prog X.w) X.A (f v u) Q X.xe s2) :
  wpAny (model X.prog X.w) X.A (eval a X.env) (λ v s₁=>wpAny (model X.prog X.w) X.A (eval b X.env) (λ u s₂=>wpAny (model X.prog X.w) X.A (f v u) Q X.xe s₂) X.xe s₁) X.xe s:=by
 refine thn (ha pins s σ H _ I h) λ v s1 ⟨x,H1,I1,r1,q1⟩=>?_;refine thn (hb pins s1 σ H1 _ I1 q1) λ u s2 ⟨y,H2,I2,r2,q2⟩=>?_;exact hf v u s2 x y H2 I2 r1 r2 q2
def fH{op:Operator}{r:R2}(ho:OpR X (binaryOp op) r)(ha:PE X a ta)(hb:PE X b tb):PE X (.BinOp a op b pos) (tOp r ta tb):=by
 intro pins s σ H Q I h;exact wpAny_BinOp (Nl ha hb I h λ v u s2 x y H2 I2 rx ry q=>ho pins s2 σ H2 x y v u Q I2 rx ry q)
def Bs{op:UnaryOp}{r:V->Hp->VK->Prop}(ho:UnR X (unaryOp op) r)(ha:PE X a ta):PE X (.UnaryOp op a pos) (tUn r ta):=by
 intro pins s σ H Q I h;exact UnaryOp_ (thn (ha pins s σ H _ I h) λ v s1 ⟨x,H1,I1,r1,q1⟩=>ho pins s1 σ H1 x v Q I1 r1 q1)
def opI{f:Value->Value->Sem Value}{C:Int->Int->Prop}{g:Int->Int->Int}
  (rule:∀ (i j:Int) (t u:Tok) (s:Shared) (Q:Value->Shared->Prop) (E:Value->Shared->Prop),C i j->Q (.int (g i j) s.toks) { s with toks:=s.toks+1 }->wpAny (model X.prog X.w) X.A (f (.int i t) (.int j u)) Q E s) :
  OpR X f (rI C λ i j=>.int (g i j)):=by
 intro pins s σ H x y v u Q I rx ry h;obtain⟨i,j,rfl,rfl,hc,q⟩:=h;obtain⟨t,rfl⟩:=rx;obtain⟨t',rfl⟩:=ry;exact rule i j t t' s _ _ hc ⟨.int (g i j),H,I.tok _,⟨_,rfl⟩,q⟩
def OW{f:Value->Value->Sem Value}{g:Int->Int->Int}
  (rule:∀ (i j:Int) (t u:Tok) (s:Shared) (Q:Value->Shared->Prop) (E:Value->Shared->Prop),Q (.int (g i j) s.toks) { s with toks:=s.toks+1 }->wpAny (model X.prog X.w) X.A (f (.int i t) (.int j u)) Q E s) :
  OpR X f (rI0 λ i j=>.int (g i j)):=by
 intro pins s σ H x y v u Q I rx ry h;obtain⟨i,j,rfl,rfl,q⟩:=h;obtain⟨t,rfl⟩:=rx;obtain⟨t',rfl⟩:=ry;exact rule i j t t' s _ _ ⟨.int (g i j),H,I.tok _,⟨_,rfl⟩,q⟩
def Mp{f:Value->Value->Sem Value}{g:Int->Int->Bool}
  (rule:∀ (i j:Int) (t u:Tok) (s:Shared) (Q:Value->Shared->Prop) (E:Value->Shared->Prop),Q (.bool (g i j)) s->wpAny (model X.prog X.w) X.A (f (.int i t) (.int j u)) Q E s) :
  OpR X f (rI0 λ i j=>.bl (g i j)):=by
 intro pins s σ H x y v u Q I rx ry h;obtain⟨i,j,rfl,rfl,q⟩:=h;obtain⟨t,rfl⟩:=rx;obtain⟨t',rfl⟩:=ry;exact rule i j t t' s _ _ ⟨.bl (g i j),H,I,rfl,q⟩
def Nw(i j:Int):Prop:=0 < j/\j < 1073741824
def Nv(i j:Int):Prop:=0<=j/\j<=1000000/\i.natAbs < 2 ^ 64
def rJ(i j:Int):Prop:=(-(2 ^ 64) < i/\i < 2 ^ 64)\/(-(2 ^ 64) < j/\j < 2 ^ 64)
def rJ.ok{i j:Int}(h:rJ i j):IntMulOk i j:=by
 rcases h with ⟨h1,h2⟩|⟨h1,h2⟩
 ·exact .of_left (intBits_le_64 h1 h2)
 ·exact .of_right (intBits_le_64 h1 h2)
def ui:OpR X (binaryOp .Add) (rI0 λ i j=>.int (i+j)):=OW λ _ _ _ _ _ _ _ q=>add_int q
def Ku:OpR X (binaryOp .Sub) (rI0 λ i j=>.int (i - j)):=OW λ _ _ _ _ _ _ _ q=>sub_int q
def jr:OpR X (binaryOp .Mult) (rI rJ λ i j=>.int (i * j)):=opI λ _ _ _ _ _ _ _ hc q=>mul_int q hc.ok
def FV:OpR X (binaryOp .FloorDiv) (rI Nw λ i j=>.int (i / j)):=opI λ i j _ _ _ _ _ hc q=>by
 have h1:(0:Int) < j:=hc.1;have h2:j < 1073741824:=hc.2;exact floordiv_int (by omega) (by rw [Int.fdiv_eq_ediv_of_nonneg i (by omega)];exact q) (.inl (PyProof.noPylong_small (by omega)))
def j8:OpR X (binaryOp .Mod) (rI (λ _ j=>0 < j) λ i j=>.int (i % j)):=opI λ i j _ _ _ _ _ hc q=>by
 have h1:(0:Int) < j:=hc;exact mod_int' (by omega) (by rw [Int.fmod_eq_emod_of_nonneg i (by omega)];exact q)
def Kx:OpR X (binaryOp .Pow) (rI Nv λ i j=>.int (i ^ j.toNat)):=opI λ _ _ _ _ _ _ _ hc q=>pow_int_small hc.1 hc.2.1 hc.2.2 q
def unI{f:Value->Sem Value}{g:Int->Int}
  (rule:∀ (i:Int) (t:Tok) (s:Shared) (Q:Value->Shared->Prop) (E:Value->Shared->Prop),Q (.int (g i) s.toks) { s with toks:=s.toks+1 }->wpAny (model X.prog X.w) X.A (f (.int i t)) Q E s) :
  UnR X f (rU λ i=>.int (g i)):=by
 intro pins s σ H x v Q I rx h;obtain⟨i,rfl,q⟩:=h;obtain⟨t,rfl⟩:=rx;exact rule i t s _ _ ⟨.int (g i),H,I.tok _,⟨_,rfl⟩,q⟩
def JZ:UnR X (unaryOp .USub) (rU λ i=>.int (-i)):=unI λ _ _ _ _ _ q=>neg_int q
end
def Mn:V->V->Bool
 | .non,.non=>true | .non,.int _=>true | .int _,.non=>true | .non,.bl _=>true | .bl _,.non=>true | .non,.str _=>true | .str _,.non=>true
 | .int _,.int _=>true | .bl _,.bl _=>true | .str _,.str _=>true | .byt _,.byt _=>true
 | .int _,.str _=>true | .str _,.int _=>true | .bl _,.str _=>true | .str _,.bl _=>true
 | _,_=>false
def rEq:R2:=λ x y H Q=>Mn x y=true/\Q (.bl (decide (x=y))) H
def rNe:R2:=λ x y H Q=>Mn x y=true/\Q (.bl (!decide (x=y))) H
def yN{i j:Int}:decide (V.int i=V.int j)=(i == j):=by
 rw [SA];simp
def Eo{i j:Bool}:decide (V.bl i=V.bl j)=(i == j):=by
 rw [SA];simp
def yM{i j:Str}:decide (V.str i=V.str j)=(i == j):=by
 rw [SA];simp
def yO{i j:Array UInt8}:decide (V.byt i=V.byt j)=(i.toList == j.toList):=by
 rw [SA];cases i;cases j;simp
section
variable {X:Cx}{a b c:Expr}{ta tb tc:TE}{pos:Pos}
def aS{pins:List (Addr × Obj)}{σ:St}{H:Hp}{s:Shared}{Q:VK}{k k':Bool}(I:Inv X pins σ H s)(q:Q (.bl k) H)(e:k=k'):EP X pins σ Q (.bool k') s:=by
 subst e;exact⟨.bl k,H,I,rfl,q⟩
def NH:OpR X (compareOp .Eq) rEq:=by
 intro pins s σ H x y v u Q I rx ry h;obtain⟨hs,q⟩:=h
 cases x with
 | non=>
  cases rx
  cases y with
  | non=>cases ry;exact PySem.EqNone.eq_none_none (aS I q (by simp))
  | bl j=>cases ry;exact PySem.EqNone.eq_none_bool (aS I q (by simp))
  | int j=>obtain⟨t',rfl⟩:=ry;exact PySem.EqNone.eq_none_int (aS I q (by simp))
  | str j=>obtain⟨t',rfl⟩:=ry;exact PySem.EqNone.eq_none_str (aS I q (by simp))
  | _=>exact absurd (show false=true from hs) Qx
 | bl i=>
  cases rx
  cases y with
  | non=>cases ry;exact PySem.EqNone.eq_bool_none (aS I q (by simp))
  | bl j=>cases ry;exact eq_bool (aS I q Eo)
  | str j=>obtain⟨t',rfl⟩:=ry;exact PySem.EqMixed.eq_bool_str (aS I q (by simp))
  | _=>exact absurd (show false=true from hs) Qx
 | int i=>
  obtain⟨t,rfl⟩:=rx
  cases y with
  | non=>cases ry;exact PySem.EqNone.eq_int_none (aS I q (by simp))
  | int j=>obtain⟨t',rfl⟩:=ry;exact eq_int (aS I q yN)
  | str j=>obtain⟨t',rfl⟩:=ry;exact PySem.EqMixed.eq_int_str (aS I q (by simp))
  | _=>exact absurd (show false=true from hs) Qx
 | str i=>
  obtain⟨t,rfl⟩:=rx
  cases y with
  | non=>cases ry;exact PySem.EqNone.eq_str_none (aS I q (by simp))
  | bl j=>cases ry;exact PySem.EqMixed.eq_str_bool (aS I q (by simp))
  | int j=>obtain⟨t',rfl⟩:=ry;exact PySem.EqMixed.eq_str_int (aS I q (by simp))
  | str j=>obtain⟨t',rfl⟩:=ry;exact eq_str (aS I q yM)
  | _=>exact absurd (show false=true from hs) Qx
 | byt i=>
  obtain⟨t,rfl⟩:=rx
  cases y with
  | byt j=>obtain⟨t',rfl⟩:=ry;exact W.eq_bytes (aS I q yO)
  | _=>exact absurd (show false=true from hs) Qx
 | _=>cases y<;>exact absurd (show false=true from hs) Qx
def ND:OpR X (compareOp .NotEq) rNe:=by
 intro pins s σ H x y v u Q I rx ry h;obtain⟨hs,q⟩:=h
 cases x with
 | non=>
  cases rx
  cases y with
  | non=>cases ry;exact PySem.EqNone.ne_none_none (aS I q (by simp))
  | bl j=>cases ry;exact PySem.EqNone.ne_none_bool (aS I q (by simp))
  | int j=>obtain⟨t',rfl⟩:=ry;exact PySem.EqNone.ne_none_int (aS I q (by simp))
  | str j=>obtain⟨t',rfl⟩:=ry;exact PySem.EqNone.ne_none_str (aS I q (by simp))
  | _=>exact absurd (show false=true from hs) Qx
 | bl i=>
  cases rx
  cases y with
  | non=>cases ry;exact PySem.EqNone.ne_bool_none (aS I q (by simp))
  | bl j=>cases ry;exact ne_bool (aS I q (RS not Eo))
  | str j=>obtain⟨t',rfl⟩:=ry;exact PySem.EqMixed.ne_bool_str (aS I q (by simp))
  | _=>exact absurd (show false=true from hs) Qx
 | int i=>
  obtain⟨t,rfl⟩:=rx
  cases y with
  | non=>cases ry;exact PySem.EqNone.ne_int_none (aS I q (by simp))
  | int j=>obtain⟨t',rfl⟩:=ry;exact ne_int (aS I q (RS not yN))
  | str j=>obtain⟨t',rfl⟩:=ry;exact PySem.EqMixed.ne_int_str (aS I q (by simp))
  | _=>exact absurd (show false=true from hs) Qx
 | str i=>
  obtain⟨t,rfl⟩:=rx
  cases y with
  | non=>cases ry;exact PySem.EqNone.ne_str_none (aS I q (by simp))
  | bl j=>cases ry;exact PySem.EqMixed.ne_str_bool (aS I q (by simp))
  | int j=>obtain⟨t',rfl⟩:=ry;exact PySem.EqMixed.ne_str_int (aS I q (by simp))
  | str j=>obtain⟨t',rfl⟩:=ry;exact ne_str (aS I q (RS not yM))
  | _=>exact absurd (show false=true from hs) Qx
 | byt i=>
  obtain⟨t,rfl⟩:=rx
  cases y with
  | byt j=>obtain⟨t',rfl⟩:=ry;exact W.ne_bytes (aS I q (RS not yO))
  | _=>exact absurd (show false=true from hs) Qx
 | _=>cases y<;>exact absurd (show false=true from hs) Qx
def JC:OpR X (compareOp .Lt) (rI0 λ i j=>.bl (decide (i < j))):=Mp λ _ _ _ _ _ _ _ q=>lt_int q
def NF:OpR X (compareOp .LtE) (rI0 λ i j=>.bl (decide (i<=j))):=Mp λ _ _ _ _ _ _ _ q=>le_int q
def JD:OpR X (compareOp .Gt) (rI0 λ i j=>.bl (decide (j < i))):=Mp λ _ _ _ _ _ _ _ q=>gt_int q
def NG:OpR X (compareOp .GtE) (rI0 λ i j=>.bl (decide (j<=i))):=Mp λ _ _ _ _ _ _ _ q=>ge_int q
def KA:OpR X (compareOp .Is) (λ x y H Q=>y=.non/\Q (.bl (decide (x=.non))) H):=by
 intro pins s σ H x y v u Q I rx ry h;obtain⟨rfl,q⟩:=h;cases ry;refine is_none_gen (aS I q ?_)
 cases x<;>first
  | (cases rx;rfl)
  | (obtain⟨t,rfl⟩:=rx;rfl)
def FT:OpR X (compareOp .IsNot) (λ x y H Q=>y=.non/\Q (.bl (!decide (x=.non))) H):=by
 intro pins s σ H x y v u Q I rx ry h;obtain⟨rfl,q⟩:=h;cases ry;refine isnot_none_gen (aS I q ?_)
 cases x<;>first
  | (cases rx;rfl)
  | (obtain⟨t,rfl⟩:=rx;rfl)
def JP:HO->Bool
 | .lst _=>true
 | .ins _ _ _=>true
 | _=>false
def OpR.or{f:Value->Value->Sem Value}{r r':R2}(h:OpR X f r)(h':OpR X f r'):OpR X f (λ x y H Q=>r x y H Q\/r' x y H Q):=by
 intro pins s σ H x y v u Q I rx ry q
 rcases q with q|q
 ·exact h pins s σ H x y v u Q I rx ry q
 ·exact h' pins s σ H x y v u Q I rx ry q
def aG(b:Expr){op:CmpOp}(h:op ≠ .In:=by decide)(h2:op ≠ .NotIn:=by decide):behindInMarks op b=false:=by
 have e1:(op == CmpOp.In)=false:=by cases op<;>first|rfl|exact absurd rfl h
 have e2:(op == CmpOp.NotIn)=false:=by cases op<;>first|rfl|exact absurd rfl h2
 cases b<;>simp [behindInMarks,e1,e2]
def FO{op:CmpOp}{r:R2}(ho:OpR X (compareOp op) r)(ha:PE X a ta)(hb:PE X b tb)(hm:behindInMarks op b=false):PE X (.Compare a [op] [b] pos) (tOp r ta tb):=by
 intro pins s σ H Q I h;exact wpAny_Compare1 (Nl ha hb I h λ v u s2 x y H2 I2 rx ry q=>ho pins s2 σ H2 x y v u Q I2 rx ry q) hm
def Jm(t:TE):TT:=λ σ H Q=>t σ H λ x H'=>∃ k,x=.bl k/\Q k H'
def sE{op:CmpOp}{r:R2}(ho:OpR X (compareOp op) r)(ha:PE X a ta)(hb:PE X b tb)(hm:behindInMarks op b=false):PT X (.Compare a [op] [b] pos) (Jm (tOp r ta tb)):=by
 intro pins s σ H Q I h
 refine wpAny_isTrue_Compare1 (thn (ha pins s σ H _ I h) λ v s1 ⟨x,H1,I1,r1,q1⟩=>thn (hb pins s1 σ H1 _ I1 q1) λ u s2 ⟨y,H2,I2,r2,q2⟩=>
  thn (ho pins s2 σ H2 x y v u _ I2 r1 r2 q2) λ c s3 ⟨z,H3,I3,r3,k,e,q3⟩=>?_) hm
 subst e;cases r3;exact Rm ⟨H3,I3,q3⟩
def D4(r r':R2)(ta tb tc:TE):TE:=λ σ H Q=>ta σ H λ x H1=>tb σ H1 λ y H2=>r x y H2 λ z H3=>∃ k,z=.bl k /\
 (if k=true then tc σ H3 λ w' H4=>r' y w' H4 Q else Q (.bl false) H3)
def Ce{op aq:CmpOp}{r r':R2}(ho:OpR X (compareOp op) r)(ar:OpR X (compareOp aq) r')(ha:PE X a ta)(hb:PE X b tb)(hc:PE X c tc)
  (hm:lastMarks [op,aq] [b,c]=false:=by with_unfolding_all rfl):PE X (.Compare a [op,aq] [b,c] pos) (D4 r r' ta tb tc):=by
 intro pins s σ H Q I h
 refine Compare_chain (thn (ha pins s σ H _ I h) λ v s1 ⟨x,H1,I1,r1,q1⟩=>chain_link (thn (hb pins s1 σ H1 _ I1 q1) λ u s2 ⟨y,H2,I2,r2,q2⟩=>
  thn (ho pins s2 σ H2 x y v u _ I2 r1 r2 q2) λ d s3 ⟨z,H3,I3,r3,k,e,q3⟩=>?_)) hm
 subst e;cases r3;refine Rm ?_
 cases k with
 | false=>exact ite_ff ⟨.bl false,H3,I3,rfl,q3⟩
 | true=>exact ite_tt (chain_last (thn (hc pins s3 σ H3 _ I3 q3) λ w' s4 ⟨z',H4,I4,r4,q4⟩=>ar pins s4 σ H4 y z' u w' Q I4 r2 r4 q4))
def pG:(sizeLine:Nat) < 2 ^ 63:=by rw [sizeLine_eq];decide
def xh{x:V}{us:List Value}(r:bf [x] us):∃ u,us=[u]/\bA x u:=by
 cases r with
 | cons r1 r2=>cases r2;exact⟨_,rfl,r1⟩
def Bp{x y:V}{us:List Value}(r:bf [x,y] us):∃ u w',us=[u,w']/\bA x u/\bA y w':=by
 cases r with
 | cons r1 r2=>
  cases r2 with
  | cons r3 r4=>cases r4;exact⟨_,_,rfl,r1,r3⟩
def AW(hc:X.calm=true):b9 X (.builtin "max") (λ xs H Q=>∃ i j,xs=[.int i,.int j]/\Q (.int (if j > i then j else i)) H):=by
 intro pins s σ H xs us Q I r h;obtain⟨i,j,rfl,q⟩:=h;obtain⟨u,w',rfl,⟨t,rfl⟩,⟨t',rfl⟩⟩:=Bp r;refine max_two_ints (I.ok.hd hc) λ h' tk k=>⟨_,H,I.kept k,?_,q⟩
 by_cases hj:j > i
 ·rw [QE hj,QE hj];exact⟨_,rfl⟩
 ·rw [QB hj,QB hj];exact⟨_,rfl⟩
def AU(hc:X.calm=true):b9 X (.builtin "min") (λ xs H Q=>∃ i j,xs=[.int i,.int j]/\Q (.int (if j < i then j else i)) H):=by
 intro pins s σ H xs us Q I r h;obtain⟨i,j,rfl,q⟩:=h;obtain⟨u,w',rfl,⟨t,rfl⟩,⟨t',rfl⟩⟩:=Bp r;refine min_two_ints (I.ok.hd hc) λ h' tk k=>⟨_,H,I.kept k,?_,q⟩
 by_cases hj:j < i
 ·rw [QE hj,QE hj];exact⟨_,rfl⟩
 ·rw [QB hj,QB hj];exact⟨_,rfl⟩
def AY:b9 X (.type "int") (λ xs H Q=>(∃ i,xs=[.int i]/\Q (.int i) H)\/∃ k,xs=[.bl k]/\Q (.int (if k then 1 else 0)) H):=by
 intro pins s σ H xs us Q I r h
 rcases h with ⟨i,rfl,q⟩|⟨k,rfl,q⟩
 ·obtain⟨u,rfl,t,rfl⟩:=xh r;exact call_int_int ⟨.int i,H,I,⟨_,rfl⟩,q⟩
 ·obtain⟨u,rfl,r1⟩:=xh r;cases r1;exact call_int_bool ⟨.int (if k then 1 else 0),H,I.tok _,⟨_,rfl⟩,q⟩
end
structure EA(h:Heap)(x dx C:Addr)(mA:Str->Option Value):Prop where
 obj:h.get? x=some (W.instObj C dx)
 ns:h.Ns1 dx mA
 ne:dx ≠ x
def kH{h:Heap}{dx:Addr}{mA:Str->Option Value}(n:h.Ns1 dx mA):∃ od,h.get? dx=some od/\∀ name,W.lookIn name od=some (mA name):=by
 obtain⟨o,es,ep,ho,hd,hk,_,hm⟩:=n;refine⟨o,ho,λ name=>?_⟩;have e:=hm name;unfold nsFind findBy at e;rw [←Array.find?_toList] at e;unfold W.lookIn;rw [hd];dsimp only;split
 ·rename_i y q;rw [q] at e;exact RS some e
 ·rename_i q;rw [q] at e
  have a:es.toList.any (·.refKey)=false:=by
   rw [List.any_eq_false];intro y hy;obtain⟨z,t,aq⟩:=hk y (Array.mem_toList_iff.mp hy);simp [DictEntry.refKey,aq]
  have a':¬ es.toList.any (·.refKey)=true:=by rw [a];exact Qx
  rw [QB a'];exact RS some e
def EA.look{h:Heap}{x dx C:Addr}{mA:Str->Option Value}(I:EA h x dx C mA):∃ od,W.InstAt h x (W.instObj C dx) C (some od)/\∀ name,W.lookIn name od=some (mA name):=
 let ⟨od,ho,hl⟩:=kH I.ns
 ⟨od,⟨I.obj,rfl,rfl,ho⟩,hl⟩
section
variable {prog:Program}{w:World}{A:Around}{E:Value->Shared->Prop}{s:Shared}{K:PySem.W.Frag}{x dx C f:Addr}{mA:Str->Option Value}{name:Str}{v:Value}
def Ig{expr:Bool}{Q:Value->Shared->Prop}(X:K.In s.heap)(I:EA s.heap x dx C mA)(hg:W.plainGet K C name=true)(hh:W.hasDictIn K C=true)
  (ha:W.findIn K (.ref C) name=some none) (hv:mA name=some v) (aq:W.handedIn v=true) (h:Q v { s with toks:=s.toks+1 }) :
  wpAny (model prog w) A (getAttr (.ref x) name expr) Q E s:=by
 obtain⟨od,J,hl⟩:=I.look;exact W.get_value X J (W.plainGet_of hg).1 (W.findObj_own hh ha rfl (by rw [hl,hv])) aq h
def Dn{pl:Sem Bool}{Q:Value × List Value->Shared->Prop}(X:K.In s.heap)(I:EA s.heap x dx C mA)(hg:W.plainGet K C name=true)
  (hf:W.findIn K (.ref C) name=some (some (.ref f))) (ht:W.isFn K (.ref f)=true) (hv:mA name=none) (h:Q (.ref f,[.ref x]) s) :
  wpAny (model prog w) A (getMethod (.ref x) name pl) Q E s:=by
 obtain⟨od,J,hl⟩:=I.look;exact W.method_fn X J (W.plainGet_of hg).1 (W.plainGet_of hg).2 hf (R8.mp ht) (by show (W.lookIn name od).map (·.isSome)=some false;rw [hl,hv];rfl) h
def Fq{ns:List Str}{Q:Unit->Shared->Prop}(X:K.In s.heap)(I:EA s.heap x dx C mA)
  (hs:W.findIn K (.ref C) "__setattr__"=some (some (.builtin "object.__setattr__"))) (hp:W.plainOver K C=true) (ht:W.takerIn K C name=some none) (hh:W.hasDictIn K C=true)
  (hw:PySem.Within mA ns) (hsz:ns.length<=sizeLine)
  (h:∀ h',EA h' x dx C (λ y=>if y=name then some v else mA y)->Heap.SameBut dx s.heap h'->Q () { s with heap:=h',toks:=s.toks+2 }) :
  wpAny (model prog w) A (setAttr (.ref x) name v) Q E s:=by
 obtain⟨od,J,hl⟩:=I.look;refine W.set_plain X J hs (W.osa_open (s:={ s with toks:=s.toks+1 }) (r:=none) X J hp ht λ b=>?_);obtain⟨cd,hc,a3⟩:=W.any_some hh;have hx:s.heap.get? x=some ⟨.ref C,some dx,.plain,#[]⟩:=I.obj;refine My (Ql (My (My (wpAny_loadPart hx (My (W.Looks.here (s:={ s with toks:=s.toks+1 }) (W.looks_clsIn X hc) ?_))))));rw [a3];refine Ql (a:=some dx) (My (Ql (My ?_)));refine wpAny_nsSet1 (s:={ s with toks:=s.toks+1 }) I.ns λ h' aq ar=>?_;obtain⟨oD,a7,a8,a4,a5,a6⟩:=aq.count (PySem.Within.cons name v hw);refine My (wpAny_lookBehind a4 (by rw [a5];exact pastItsLine_dict (QP a6 (by rw [RA];omega))) ?_);exact Ql (h _ ⟨(ar.2 _ (QS I.ne)).trans I.obj,aq,I.ne⟩ ar)
def Cq{R:Result->Shared->Prop}{vs:List Value}{kw:List (Str × Value)}(X:K.In s.heap)(hm:W.makesIn K C=true)
  (hi:W.findIn K (.ref C) "__init__"=some (some (.ref f))) (hf:W.typeIn K (.ref f)=some (.type "function"))
  (h:codeAny (model prog w) (A.under (.builtin "type.__call__" ⟨.ref C::vs,kw⟩)) (.call (.ref f) ⟨.ref (s.heap.objs.size+1)::vs,kw⟩) (W.InitBack (s.heap.objs.size+1) R)
   { s with heap:=(s.heap.push W.emptyDict).push (W.instObj C s.heap.objs.size) }) :
  codeAny (model prog w) A (.call (.ref C) ⟨vs,kw⟩) R s:=by
 obtain⟨hh,g,d,t,os⟩:=s;exact W.make_core (W.makes_of X hm) (W.looks_findIn X hi) (λ self=>W.bind_fn X self hf) (.inl rfl) h
def zF{R:Result->Shared->Prop}(X:K.In s.heap)(hm:W.makesIn K C=true)
  (hi:W.findIn K (.ref C) "__init__"=some (some (.builtin "object.__init__")))
  (hb:∀ self,W.Looks (model prog w) s.heap (bindSpecial (.builtin "object.__init__") self) (.builtin "object.__init__",[self]))
  (h:codeAny (model prog w) (A.under (.builtin "type.__call__" ⟨[.ref C],[]⟩)) (.call (.builtin "object.__init__") ⟨[.ref (s.heap.objs.size+1)],[]⟩) (W.InitBack (s.heap.objs.size+1) R)
   { s with heap:=(s.heap.push W.emptyDict).push (W.instObj C s.heap.objs.size) }) :
  codeAny (model prog w) A (.call (.ref C) ⟨[],[]⟩) R s:=by
 obtain⟨hh,g,d,t,os⟩:=s;exact W.make_core (W.makes_of X hm) (W.looks_findIn X hi) hb (.inr ⟨rfl,rfl⟩) h
end
def fF(f:Str)(v:V):List (Str × V)->List (Str × V)
 | []=>[(f,v)]
 | (g,x)::r=>if g=f then (g,v)::r else (g,x)::fF f v r
def aI(f g:Str)(v:V):∀ fs:List (Str × V),(fF f v fs).lookup g=if g=f then some v else fs.lookup g
 | []=>by
  show List.lookup g [(f,v)]=_
  by_cases h:g=f
  ·have hb:(g == f)=true:=R8.mpr h;simp only [List.lookup,hb,QE h]
  ·have hb:(g == f)=false:=RB.mpr h;simp only [List.lookup,hb,QB h]
 | (k,x)::r=>by
  have ih:=aI f g v r;rw [show fF f v ((k,x)::r)=(if k=f then (k,v)::r else (k,x)::fF f v r) from rfl]
  by_cases hk:k=f
  ·rw [QE hk]
   by_cases h:g=k
   ·have hb:(g == k)=true:=R8.mpr h;simp only [List.lookup,hb,QE (h.trans hk)]
   ·have hb:(g == k)=false:=RB.mpr h;simp only [List.lookup,hb,QB (λ e:g=f=>h (e.trans hk.symm))]
  ·rw [QB hk]
   by_cases h:g=k
   ·have hb:(g == k)=true:=R8.mpr h;simp only [List.lookup,hb,QB (λ e:g=f=>hk (h.symm.trans e))]
   ·have hb:(g == k)=false:=RB.mpr h;simp only [List.lookup,hb];exact ih
def kI(f:Str)(v:V):∀ fs:List (Str × V),f∈(fF f v fs).map (·.1)/\∀ g,g∈fs.map (·.1)->g∈(fF f v fs).map (·.1)
 | []=>⟨by simp [fF],λ g h=>by simp at h⟩
 | (k,x)::r=>by
  obtain⟨i1,i2⟩:=kI f v r;rw [show fF f v ((k,x)::r)=(if k=f then (k,v)::r else (k,x)::fF f v r) from rfl]
  by_cases hk:k=f
  ·rw [QE hk];subst hk;exact⟨by simp,λ g h=>by simpa using h⟩
  ·rw [QB hk];refine⟨?_,λ g h=>?_⟩
   ·rw [Rj];exact Qt _ i1
   ·rw [Rj] at h ⊢
    rcases QG.mp h with e|e
    ·exact QG.mpr (.inl e)
    ·exact Qt _ (i2 g e)
def kY(f:Str)(v:V):∀ fs:List (Str × V),(fF f v fs).length<=fs.length+1
 | []=>by simp [fF]
 | (k,x)::r=>by
  have ih:=kY f v r;rw [show fF f v ((k,x)::r)=(if k=f then (k,v)::r else (k,x)::fF f v r) from rfl]
  by_cases hk:k=f
  ·rw [QE hk,RA,RA];omega
  ·rw [QB hk,RA,RA];omega
def pf.some_of{v:V}{o:Option Value}(r:pf (some v) o):∃ u,o=some u/\bA v u:=by
 cases o with
 | none=>exact(show False from r).elim
 | some u=>exact⟨u,rfl,r⟩
def pf.none_of{o:Option Value}(r:pf none o):o=none:=by
 cases o with
 | none=>rfl
 | some u=>exact(show False from r).elim
def pX{v:V}{u:Value}(r:bA v u):W.handedIn u=true:=by
 cases v with
 | non=>cases (show u=Value.none from r);rfl
 | bl b=>cases (show u=Value.bool b from r);rfl
 | int i=>obtain⟨t,e⟩:=(show ∃ t,u=Value.int i t from r);cases e;rfl
 | str x=>obtain⟨t,e⟩:=(show ∃ t,u=Value.str x t from r);cases e;rfl
 | byt b=>obtain⟨t,e⟩:=(show ∃ t,u=Value.bytes b t from r);cases e;rfl
 | flt b=>obtain⟨t,e⟩:=(show ∃ t,u=Value.float b t from r);cases e;rfl
 | ref a=>cases (show u=Value.ref a from r);rfl
 | ty n=>cases (show u=Value.type n from r);rfl
section
variable {P:Program}{w:World}{H H':Hp}{h h':Heap}{a C dx:Addr}{fs fs':List (Str × V)}
def nC(hok:HOk P w H h)(e:H a=some (.ins C dx fs)):∃ mA,EA h a dx C mA/\(∀ f,pf (fs.lookup f) (mA f))/\PySem.Within mA (fs.map (·.1))/\fs.length<=1000/\H dx=some (.own a):=by
 obtain⟨d,z,ne,ob,mA,n,r,q⟩:=(show bg P w H h a (.ins C dx fs) from hok a _ e);exact⟨mA,⟨ob,n,ne⟩,r,q,z,d⟩
end
structure Cls(K:W.Frag)(C:Addr):Prop where
 pg:W.plainGet K C Str.empty=true
 hd:W.hasDictIn K C=true
 po:W.plainOver K C=true
 sa:W.findIn K (.ref C) "__setattr__"=some (some (.builtin "object.__setattr__"))
def Cls.get{K:W.Frag}{C:Addr}(c:Cls K C)(f:Str):W.plainGet K C f=true:=c.pg
def bz(K:W.Frag)(C:Addr)(f:Str):Prop:=W.findIn K (.ref C) f=some none
def bz.taker{K:W.Frag}{C:Addr}{f:Str}(n:bz K C f):W.takerIn K C f=some none:=by
 unfold W.takerIn;rw [show W.findIn K (.ref C) f=some none from n];rfl
structure gN(K:W.Frag)(C:Addr)(m:Str)(f:Addr):Prop where
 at_:W.findIn K (.ref C) m=some (some (.ref f))
 fn:W.isFn K (.ref f)=true
 kp:W.keepIn K (.ref f)=true
section
variable {X:Cx}{pins:List (Addr × Obj)}{σ:St}{H:Hp}{s:Shared}{a C dx:Addr}{fs:List (Str × V)}{f:Str}{v:V}{A:Around}{E:Value->Shared->Prop}
def wC{b:Bool}{Q:Value->Shared->Prop}(I:Inv X pins σ H s)(e:H a=some (.ins C dx fs))(c:Cls X.K C)(n:bz X.K C f)(l:fs.lookup f=some v)
  (h:∀ u s',Inv X pins σ H s'->bA v u->Q u s'):wpAny (model X.prog X.w) A (getAttr (.ref a) f b) Q E s:=by
 obtain⟨mA,O,r,_,_,_⟩:=nC I.hok e;obtain⟨u,hu,ru⟩:=pf.some_of (v:=v) (o:=mA f) (by rw [←l];exact r f);exact Ig I.kIn O (c.get f) c.hd n hu (pX ru) (h u _ (I.tok _) ru)
def gF{m:Str}{g:Addr}{pl:Sem Bool}{Q:Value × List Value->Shared->Prop}(I:Inv X pins σ H s)(e:H a=some (.ins C dx fs))(c:Cls X.K C)(k:gN X.K C m g)(l:fs.lookup m=none)
  (h:Q (.ref g,[.ref a]) s):wpAny (model X.prog X.w) A (getMethod (.ref a) m pl) Q E s:=by
 obtain⟨mA,O,r,_,_,_⟩:=nC I.hok e;have hn:mA m=none:=pf.none_of (by rw [←l];exact r m);exact Dn I.kIn O (c.get m) k.at_ k.fn hn h
def vG{y:V}{u:Value}{Q:Unit->Shared->Prop}(I:Inv X pins σ H s)(e:H a=some (.ins C dx fs))(c:Cls X.K C)(n:bz X.K C f)(hl:fs.length < 1000)(ry:bA y u)
  (h:∀ s',Inv X pins σ (upd H a (.ins C dx (fF f y fs))) s'->Q () s'):wpAny (model X.prog X.w) A (setAttr (.ref a) f u) Q E s:=by
 obtain⟨mA,O,r,wi,_,ho⟩:=nC I.hok e;have hz:(fs.map (·.1)).length<=sizeLine:=by rw [Qk,sizeLine_eq];omega
 refine Fq I.kIn O c.sa c.po n.taker c.hd wi hz λ h' O' sb=>h _ ?_;have hd:∃ o,h'.get? dx=some o:=let ⟨o,_,_,e',_⟩:=O'.ns;⟨o,e'⟩;refine I.write (x:=a) (e:=dx) (by rw [e];exact True.intro) (.inr ho) (λ b q hb z=>(sb.2 b hb).trans z) hd ?_;refine⟨by rw [ae O.ne];exact ho,?_,O.ne,O'.obj,_,O'.ns,λ g=>?_,λ g hg=>?_⟩
 ·have:=kY f y fs;omega
 ·show pf ((fF f y fs).lookup g) (if g=f then some u else mA g)
  rw [aI]
  by_cases q:g=f
  ·rw [QE q,QE q];exact ry
  ·rw [QB q,QB q];exact r g
 ·by_cases q:g=f
  ·rw [q];exact(kI f y fs).1
  ·refine(kI f y fs).2 g (wi g λ z=>hg ?_)
   show (if g=f then some u else mA g)=none
   rw [QB q];exact z
def Inv.made(I:Inv X pins σ H s):Inv X pins σ (upd (upd H s.heap.objs.size (.own (s.heap.objs.size+1))) (s.heap.objs.size+1) (.ins C s.heap.objs.size []))
  { s with heap:=(s.heap.push W.emptyDict).push (W.instObj C s.heap.objs.size) }:=by
 have e1:(s.heap.push W.emptyDict).get? s.heap.objs.size=some W.emptyDict:=Qp s.heap rfl
 have e2:((s.heap.push W.emptyDict).push (W.instObj C s.heap.objs.size)).get? (s.heap.objs.size+1)=some (W.instObj C s.heap.objs.size):=by
  have:=Qp (s.heap.push W.emptyDict) (o:=W.instObj C s.heap.objs.size) rfl
  rwa [QR] at this
 have e3:(s.heap.push W.emptyDict).Ns s.heap.objs.size (λ _=>none):=⟨W.emptyDict,#[],_,e1,rfl,(λ e he=>absurd he (by simp)),λ _=>rfl⟩;have I1:=I.laid (a:=s.heap.objs.size) (o:=.own (s.heap.objs.size+1)) (h':=s.heap.push W.emptyDict) (t':=s.toks) (λ b u q=>Qg _ q) (Qi _) ⟨_,e1⟩;refine I1.laid (a:=s.heap.objs.size+1) (o:=.ins C s.heap.objs.size []) (t':=s.toks) (λ b u q=>Qg _ q) (SE (QR _ _)) ?_;have ne:s.heap.objs.size ≠ s.heap.objs.size+1:=Qy (RZ _);refine⟨by rw [ae ne,af],QK _,ne,e2,λ _=>none,(Heap.Ns1.of_empty e3).at λ o q=>Qg _ q,λ _=>True.intro,λ y hy=>absurd rfl hy⟩
def yU{prog:Program}{w:World}{env:Env}{e:Expr}{f:Str}{pos:Pos}{s:Shared}{Q:Value->Shared->Prop}(hb:attributeBase e f env (eval e env)=eval e env)
  (h:wpAny (model prog w) A (eval e env) (λ o s₁=>wpAny (model prog w) A (getAttr o f true) Q E s₁) E s):wpAny (model prog w) A (eval (.Attribute e f pos) env) Q E s:=
 Attribute_any_ h (by rw [arm_eval_Attribute,hb])
end
section
variable {X:Cx}{o e value:Expr}{f:Str}{pos pos' tpos:Pos}{ta tv:TE}
end
section
variable {X:Cx}{pins:List (Addr × Obj)}{σ:St}{H:Hp}{s:Shared}{A:Around}{E:Value->Shared->Prop}{Q:Value->Shared->Prop}{c:Value}{b:Bool}
inductive uc (K:PySem.W.Frag) (H:Hp):V->Value->Prop where
 | non:uc K H .non (.type "NoneType")
 | bl (x:Bool):uc K H (.bl x) (.type "bool")
 | int (i:Int):uc K H (.int i) (.type "int")
 | str (x:Str):uc K H (.str x) (.type "str")
 | flt (x:UInt64):uc K H (.flt x) (.type "float")
 | lst {a:Addr} {xs:List V} (e:H a=some (.lst xs)):uc K H (.ref a) (.type "list")
 | frz {a:Addr} {o:Obj} {xs:List V} (e:H a=some (.frz o (.lst xs))):uc K H (.ref a) (.type "list")
 | tup {a:Addr} {xs:List V} (e:H a=some (.tup xs)):uc K H (.ref a) (.type "tuple")
 | dK {a:Addr} {kvs:List (Key × V)} (e:H a=some (.dK kvs)):uc K H (.ref a) (.type "dict")
 | dT {a:Addr} {kvs:List (List Key × V)} (e:H a=some (.dT kvs)):uc K H (.ref a) (.type "dict")
 | ins {a C dx:Addr} {fs:List (Str × V)} (e:H a=some (.ins C dx fs)) (cl:Cls K C) (ha:PySem.W.findIn K (.ref C) "__class__"=some (some (.builtin "object.__class__")))
   (hn:PySem.W.specialIn K (.builtin "object.__class__") "__get__"=some (some (.builtin "getset_descriptor.__get__"))) (htk:PySem.W.takesIn K (.builtin "object.__class__")=some true)
   (hm:PySem.W.mroIn K C (.type "object")=some true):uc K H (.ref a) (.ref C)
def AD{x:V}{u t:Value}(I:Inv X pins σ H s)(rx:bA x u)(ty:uc X.K H x t)(e:W.kitOne X.K t c=some b)(h:∀ tk,Q (.bool b) { s with toks:=tk }) :
  wpAny (model X.prog X.w) A (call (.builtin "isinstance") [u,c]) Q E s:=by
 cases ty with
 | non=>cases (show u=Value.none from rx);exact RW W.kitx_none I.kIn True.intro e (λ z=>nomatch z) h
 | bl y=>cases (show u=Value.bool y from rx);exact RW W.kitx_bool I.kIn True.intro e (λ z=>nomatch z) h
 | int i=>obtain⟨t,q⟩:=(show ∃ t,u=Value.int i t from rx);cases q;exact RW W.kitx_int I.kIn True.intro e (λ z=>nomatch z) h
 | str y=>obtain⟨t,q⟩:=(show ∃ t,u=Value.str y t from rx);cases q;exact RW W.kitx_str I.kIn True.intro e (λ z=>nomatch z) h
 | flt y=>obtain⟨t,q⟩:=(show ∃ t,u=Value.float y t from rx);cases q;exact RW W.kitx_float I.kIn True.intro e (λ z=>nomatch z) h
 | @lst a xs ea=>
  cases (show u=Value.ref a from rx);obtain⟨_,_,n,_,h1⟩:=(show bg X.prog X.w H s.heap a (.lst xs) from I.hok a _ ea);exact RW W.kitx_list I.kIn ⟨_,h1,rfl⟩ e (λ z=>nomatch z) h
 | @frz a ob xs ea=>
  cases (show u=Value.ref a from rx);obtain⟨_,_,_,n,_,h1⟩:=(show bg X.prog X.w H s.heap a (.frz ob (.lst xs)) from I.hok a _ ea);exact RW W.kitx_list I.kIn ⟨_,h1,rfl⟩ e (λ z=>nomatch z) h
 | @tup a xs ea=>
  cases (show u=Value.ref a from rx);obtain⟨_,_,_,p⟩:=(show bg X.prog X.w H s.heap a (.tup xs) from I.hok a _ ea);obtain⟨o,h1,h2,_⟩:=p;exact RW W.kitx_tuple I.kIn ⟨o,h1,h2⟩ e (λ z=>nomatch z) h
 | @dK a kvs ea=>
  cases (show u=Value.ref a from rx);obtain⟨_,_,vs,_,p⟩:=(show bg X.prog X.w H s.heap a (.dK kvs) from I.hok a _ ea);obtain⟨o,es,ep,h1,h2,_⟩:=p;exact RW W.kitx_dict I.kIn ⟨o,h1,h2.1⟩ e (λ z=>nomatch z) h
 | @dT a kvs ea=>
  cases (show u=Value.ref a from rx);obtain⟨_,_,xs,_,o,es,ep,h1,h2,_⟩:=(show bg X.prog X.w H s.heap a (.dT kvs) from I.hok a _ ea);exact RW W.kitx_dict I.kIn ⟨o,h1,h2.1⟩ e (λ z=>nomatch z) h
 | @ins a C dx fs ea cl ha hn htk hm=>
  cases (show u=Value.ref a from rx);obtain⟨mA,O,_⟩:=nC I.hok ea;obtain⟨od,J,_⟩:=O.look;exact RW (W.kitx_own (cl.get _) cl.hd ha hn htk hm) I.kIn J e (λ z=>nomatch z) h
end
structure fG(k:Nat)(A:Around):Prop where
 hd:A.handled=none
 dp:A.depth+3 * k+5 < recursionLimit
 un:A.units+16 * k+200 < cLine
def fG.mono{j k:Nat}{A:Around}(r:fG k A)(h:j<=k):fG j A:=⟨r.hd,by have:=r.dp;omega,by have:=r.un;omega⟩
def fG.deeper{k:Nat}{A:Around}(r:fG (k+1) A)(env:Env):fG k (A.deeper env):=
 ⟨r.hd,by have:=r.dp;show A.depth+1+3 * k+5 < _;omega,by have:=r.un;show A.units+3+16 * k+200 < _;omega⟩
def fG.in1{k:Nat}{A:Around}(r:fG (k+1) A):fG k A.in1:=
 ⟨r.hd,by have:=r.dp;show A.depth+3 * k+5 < _;omega,by have:=r.un;show A.units+1+16 * k+200 < _;omega⟩
def vP{A:Around}{C:Addr}{us:List Value}{kw:List (Str × Value)}:(A.under (.builtin "type.__call__" ⟨.ref C::us,kw⟩)).depth=A.depth+1:=by
 first|rfl|simp [Around.under,Code.weight,Code.isCreation,Code.isGuard,Code.isCaller,Code.frames,Code.isFrame,guardIds]
def vO{A:Around}{C:Addr}{us:List Value}{kw:List (Str × Value)}:(A.under (.builtin "type.__call__" ⟨.ref C::us,kw⟩)).units=A.units+1:=by
 first|rfl|simp [Around.under,Code.cUnits,Code.frames,Code.isFrame]
def fG.make{k:Nat}{A:Around}(r:fG (k+1) A)(C:Addr)(us:List Value)(kw:List (Str × Value)):fG k (A.under (.builtin "type.__call__" ⟨.ref C::us,kw⟩)):=
 ⟨r.hd,by have:=r.dp;rw [vP];omega,by have:=r.un;rw [vO];omega⟩
def fG.depth{k:Nat}{A:Around}(r:fG k A):A.depth < recursionLimit:=by have:=r.dp;omega
def fG.units{k:Nat}{A:Around}(r:fG k A):A.units+64 < cLine:=by have:=r.un;omega
def Mj:TA:=λ _ H Q=>Q [] H
def Bq(ta:TE)(tr:TA):TA:=λ σ H Q=>ta σ H λ x H1=>tr σ H1 λ xs H2=>Q (x::xs) H2
section
variable {X:Cx}{e:Expr}{es:List Expr}{te:TE}{t:TA}{pos:Pos}
def cq:PA X [] Mj:=λ _ _ _ _ H Q I h=>Calls.spliced_nil ⟨[],H,I,.nil,h⟩
def FQ(ha:PE X e te)(hr:PA X es t)(hs:starEach (e::es) X.env=(false,eval e X.env)::starEach es X.env:=by rfl):PA X (e::es) (Bq te t):=by
 intro pos pins s σ H Q I h;rw [hs]
 show wpAny _ _ (spliced ((false,eval e X.env)::backTo pos (starEach es X.env))) _ _ s
 refine Calls.spliced_cons (thn (ha pins s σ H _ I h) λ u s1 ⟨x,H1,I1,r1,q1⟩=>?_);exact thn (hr pos pins s1 σ H1 _ I1 q1) λ us s2 ⟨xs,H2,I2,r2,q2⟩=>⟨x::xs,H2,I2,.cons r1 r2,q2⟩
end
abbrev Sp:=List V->Hp->VK->XK->Prop
abbrev CXT:=List Env->Hp->Shared->XK->Value->Shared->Prop
structure xc(P:Program)(w:World)(K:W.Frag)(mg:Str->Option Value)(base:Heap)(A:Around)(outer:List Env)(s:Shared)(H:Hp):Prop where
 frames:A.frames=some outer
 mod:Mod K mg base
 bs:∀ b o,base.get? b=some o->s.heap.get? b=some o/\H b=none
 bsz:base.objs.size<=s.heap.objs.size
 funs:s.heap.FunFrames base outer
 frf:∀ b∈frs outer,H b=none
 hok:HOk P w H s.heap
 bare:AllBare s.gens
def CE(outer:List Env)(P:Program)(w:World)(H:Hp)(s:Shared)(Q:VK)(u:Value)(s':Shared):Prop:=
 ∃ v H',s'.os=s.os/\AllBare s'.gens/\Un (frs outer) [] H H' s.heap s'.heap/\HOk P w H' s'.heap/\bA v u/\Q v H'
def CR(CX:CXT)(outer:List Env)(P:Program)(w:World)(H:Hp)(s:Shared)(Q:VK)(E:XK)(r:Result)(s':Shared):Prop:=
 match r with
 | .ok (.ret u)=>CE outer P w H s Q u s'
 | .ok _=>False
 | .error e=>CX outer H s E e s'
structure aM(P:Program)(w:World)(K:W.Frag)(mg:Str->Option Value)(base:Heap)(CX:CXT)(k:Nat)(f:Addr)(fd:FuncData)(ps:List Str)(sp:Sp):Prop where
 len:∀ vs H Q E,sp vs H Q E->vs.length=ps.length
 run:∀ (A:Around) (outer:List Env) (s:Shared) (H:Hp) (args:Args) (us:List Value) (vs:List V) (Q:VK) (E:XK),fG k A->xc P w K mg base A outer s H->BindsTo s fd args (ps.zip us)->bf vs us->sp vs H Q E →
  codeAny (model P w) A (.call (.ref f) args) (CR CX outer P w H s Q E) s
def aM.imp{P:Program}{w:World}{K:W.Frag}{mg:Str->Option Value}{base:Heap}{CX:CXT}{k:Nat}{f:Addr}{fd:FuncData}{ps:List Str}{sp aq:Sp}(F:aM P w K mg base CX k f fd ps sp)
  (h:∀ vs H Q E,aq vs H Q E->sp vs H Q E):aM P w K mg base CX k f fd ps aq:=
 ⟨λ vs H Q E q=>F.len vs H Q E (h _ _ _ _ q),λ A outer s H args us vs Q E hr he hb hv hs=>F.run A outer s H args us vs Q E hr he hb hv (h _ _ _ _ hs)⟩
def xc.make{P:Program}{w:World}{K:W.Frag}{mg:Str->Option Value}{base:Heap}{A:Around}{outer:List Env}{s:Shared}{H:Hp}(e:xc P w K mg base A outer s H)(C:Addr)(us:List Value)(kw:List (Str × Value)) :
  xc P w K mg base (A.under (.builtin "type.__call__" ⟨.ref C::us,kw⟩)) outer s H:=⟨by first|exact e.frames|(simpa [Around.under,Code.envs,Code.isFrame,pushEnvs] using e.frames),e.mod,e.bs,e.bsz,e.funs,e.frf,e.hok,e.bare⟩
def xc.in1{P:Program}{w:World}{K:W.Frag}{mg:Str->Option Value}{base:Heap}{A:Around}{outer:List Env}{s:Shared}{H:Hp}(e:xc P w K mg base A outer s H) :
  xc P w K mg base A.in1 outer s H:=⟨e.frames,e.mod,e.bs,e.bsz,e.funs,e.frf,e.hok,e.bare⟩
section
variable {X:Cx}{pins:List (Addr × Obj)}{σ:St}{H:Hp}{s s':Shared}
def Inv.env0(I:Inv X pins σ H s):xc X.prog X.w X.K X.mg X.base X.A X.stack s H:=
 ⟨I.ok.frames,I.ok.mod,I.bs,QP I.ok.bsz I.sz,I.stack,I.stkFree,I.hok,I.bare⟩
def Inv.after{Q:VK}{u:Value}(I:Inv X pins σ H s)(h:CE X.stack X.prog X.w H s Q u s'):EP X pins σ Q u s':=by
 obtain⟨v,H',os,bare,un,hok,r,q⟩:=h;obtain⟨hh,g,d,t,aq⟩:=s';obtain rfl:aq=s.os:=os;exact⟨v,H',I.call (h':=hh) (g':=g) (d':=d) (t':=t) (ch:=[]) un hok bare (λ b z=>absurd z (by simp)),r,q⟩
end
def Jt(sp:Sp)(dvs:List V)(E:XK)(t:TA):TE:=λ σ H Q=>t σ H λ vs H1=>sp (vs++dvs) H1 Q E
def au(K:W.Frag)(fd:FuncData)(ps:List Str)(ds:List Value):Prop:=
 ∀ (s:Shared) (us:List Value),K.In s.heap->(us++ds).length=ps.length->BindsTo s fd ⟨us,[]⟩ (ps.zip (us++ds))
def au.all{K:W.Frag}{fd:FuncData}{ps:List Str}(h:∀ us:List Value,us.length=ps.length->bindArgs fd ⟨us,[]⟩=pure (ps.zip us)):au K fd ps []:=λ s us _ hl=>by
 rw [Su] at hl ⊢;exact .of_eq (h us hl)
def gS(CX:CXT)(X:Cx)(E:XK):Prop:=∀ (pins:List (Addr × Obj)) (σ:St) (H:Hp) (s:Shared) (e:Value) (s':Shared),Inv X pins σ H s->CX X.stack H s E e s'->X.xe e s'
section
variable {X:Cx}{CX:CXT}{k:Nat}{f C:Addr}{fd:FuncData}{ps:List Str}{sp:Sp}{dvs:List V}{ds:List Value}{E:XK}{x m:Str}{p pos apos:Pos}{e o:Expr}{es:List Expr}{ta:TE}{t:TA}
def pC{pins:List (Addr × Obj)}{σ:St}{H:Hp}{s:Shared}{Q:VK}{us:List Value}{vs:List V}(F:aM X.prog X.w X.K X.mg X.base CX k f fd ps sp)(hr:fG k X.A)(hb:au X.K fd ps ds)(hd:bf dvs ds)(hx:gS CX X E)
  (I:Inv X pins σ H s) (r:bf vs us) (h:sp (vs++dvs) H Q E):wpAny (model X.prog X.w) X.A (call (.ref f) us) (EP X pins σ Q) X.xe s:=by
 have r2:bf (vs++dvs) (us++ds):=r.append hd;have hl:(us++ds).length=ps.length:=by rw [←r2.length];exact F.len _ _ _ _ h
 refine RP (Rt (F.run X.A X.stack s H ⟨us,[]⟩ (us++ds) (vs++dvs) Q E hr I.env0 (hb s us I.kIn hl) r2 h) λ r s' hq=>?_)
 cases r with
 | error e=>exact hx pins σ H s e s' I hq
 | ok fl=>
  cases fl with
  | ret u=>exact I.after hq
  | next=>exact False.elim hq
  | brk=>exact False.elim hq
  | cont=>exact False.elim hq
def yy(F:aM X.prog X.w X.K X.mg X.base CX k f fd ps sp)(hr:fG k X.A)(hg:Gl X x)(hm:X.mg x=some (.ref f))(hk:W.keepIn X.K (.ref f)=true)(hb:au X.K fd ps ds)(hd:bf dvs ds)(hx:gS CX X E)
  (ha:PA X (e::es) t) (aq:(x == ("__debug__":Str))=false:=by decide) (he:starEach (e::es) X.env=(false,eval e X.env)::starEach es X.env:=by rfl) (ar:(backTo pos (starEach es X.env)).any (·.1)=false:=by rfl) :
  PE X (.Call (.Name x p) (e::es) [] pos) (Jt sp dvs E t):=by
 intro pins s σ H Q I h;refine Rg (eY I hg hm ?_ aq);refine S7 (h₀:=X.base) I.ok.mod.kin hk (thn (ha pos pins s σ H _ I h) λ us s1 ⟨vs,H1,I1,r,q⟩=>⟨I1.kIn,?_⟩) he ar;exact pC F hr hb hd hx I1 r q
structure Mk(K:W.Frag)(C f:Addr):Prop where
 makes:W.makesIn K C=true
 init:W.findIn K (.ref C) "__init__"=some (some (.ref f))
 fn:W.isFn K (.ref f)=true
 kp:W.keepIn K (.ref C)=true
def BU{pins:List (Addr × Obj)}{σ:St}{H:Hp}{s:Shared}{Q:VK}{us:List Value}{vs:List V}(M:Mk X.K C f)(F:aM X.prog X.w X.K X.mg X.base CX k f fd ps sp)(hr:fG (k+1) X.A)(hb:au X.K fd ps ds)(hd:bf dvs ds)
  (hx:gS CX X E) (I:Inv X pins σ H s) (r:bf vs us)
  (h:∀ x dx,H x=none->H dx=none->dx ≠ x->sp (.ref x::(vs++dvs)) (upd (upd H dx (.own x)) x (.ins C dx [])) (λ v H2=>v=.non/\Q (.ref x) H2) E) :
  wpAny (model X.prog X.w) X.A (call (.ref C) us) (EP X pins σ Q) X.xe s:=by
 have hq:=h (s.heap.objs.size+1) s.heap.objs.size (I.hok.fresh (Rq _)) (I.hok.fresh (Qi _)) (Qy (RZ _));have I2:=Inv.made (C:=C) I;have r2:bf (V.ref (s.heap.objs.size+1)::(vs++dvs)) (Value.ref (s.heap.objs.size+1)::(us++ds)):=.cons rfl (r.append hd)
 have hl:(Value.ref (s.heap.objs.size+1)::us++ds).length=ps.length:=by
  have e:=r2.length;rw [F.len _ _ _ _ hq] at e;exact e.symm
 refine RP (Cq (f:=f) I.kIn M.makes M.init (R8.mp M.fn) (Rt (F.run _ X.stack _ _ ⟨Value.ref (s.heap.objs.size+1)::us,[]⟩ (Value.ref (s.heap.objs.size+1)::(us++ds)) _ _ E (hr.make C us [])
  (I2.env0.make C us []) (hb _ (Value.ref (s.heap.objs.size+1)::us) I2.kIn hl) r2 hq) λ r s' aq=>?_))
 cases r with
 | error e=>exact hx pins σ _ _ e s' I2 aq
 | ok fl=>
  cases fl with
  | ret u=>
   obtain⟨v,H',I3,rv,ev,q3⟩:=I2.after aq;subst ev;exact⟨rv,⟨V.ref (s.heap.objs.size+1),H',I3,rfl,q3⟩⟩
  | next=>exact False.elim aq
  | brk=>exact False.elim aq
  | cont=>exact False.elim aq
end
def PK(X:Cx)(kws:List Keyword)(t:TA):Prop:=
 ∀ (pos:Pos) (pins:List (Addr × Obj)) (s:Shared) (σ:St) (H:Hp) (Q:List V->Hp->Prop),Inv X pins σ H s->t σ H Q->wpAny (model X.prog X.w) X.A (evalAll ((backToKw pos (keywordEach kws X.env)).map (·.2))) (AP X pins σ Q) X.xe s
section
variable {X:Cx}{CX:CXT}{k:Nat}{f C:Addr}{fd:FuncData}{ps ks:List Str}{sp:Sp}{E:XK}{x m:Str}{p pos apos kpos:Pos}{e o:Expr}{es:List Expr}{kws:List Keyword}{te ta:TE}{t tk:TA}{nm:Option Str}
def D9:PK X [] Mj:=λ _ _ _ _ H Q I h=>wpAny_evalAll_nil ⟨[],H,I,.nil,h⟩
def yt(ha:PE X e te)(hr:PK X kws t):PK X (⟨nm,e,kpos⟩ :: kws) (Bq te t):=by
 intro pos pins s σ H Q I h
 show wpAny _ _ (evalAll ((do let v ←eval e X.env;standAt pos;pure v)::(backToKw pos (keywordEach kws X.env)).map (·.2))) _ _ s
 refine Tw (My (thn (ha pins s σ H _ I h) λ u s1 ⟨x,H1,I1,r1,q1⟩=>My (RI (Ql ?_))));exact thn (hr pos pins s1 σ H1 _ I1 q1) λ us s2 ⟨xs,H2,I2,r2,q2⟩=>⟨x::xs,H2,I2,.cons r1 r2,q2⟩
variable {g:List Value->List Value->List Value}{gV:List V->List V->List V}
end
structure ah(N P:List Str)(sc:Scope):Prop where
 kind:sc.kind=.function
 co:sc.isCoroutine=false
 gen:sc.isGenerator=false
 nd:N.Nodup
 pre:N.take P.length=P
 par:∀ x∈P,sc.names.lookup x=some .local\/sc.names.lookup x=some .cell
 nofree:∀ y∈sc.names,y.2 ≠ .free
def ql{kindOf:Str->Option NameKind}{x:Str}:∀ {binds:List (Str × Value)}{m:Str->Option Value},(∀ v,(x,v) ∉ binds)->bindL kindOf binds m x=m x
 | [],_,_=>rfl
 | (n,v)::r,m,h=>by
  unfold bindL;rw [ql λ w hw=>h w (mem_cons_of_mem _ hw)];split
  ·have:x ≠ n:=by rintro rfl;exact h v Qv
   simp [this]
  ·rfl
def qo{kindOf:Str->Option NameKind}{x:Str}:∀ {binds:List (Str × Value)}{m:Str->Option Value},(∀ v,(x,v) ∉ binds)->bindC kindOf binds m x=m x
 | [],_,_=>rfl
 | (n,v)::r,m,h=>by
  unfold bindC;rw [qo λ w hw=>h w (mem_cons_of_mem _ hw)];split
  ·rfl
  ·have:x ≠ n:=by rintro rfl;exact h v Qv
   simp [this]
def qm{kindOf:Str->Option NameKind}{x:Str}{v:Value}:∀ {P:List Str}{vs:List Value}{i:Nat}{m:Str->Option Value},P.Nodup->P[i]? = some x->vs[i]? = some v->kindOf x=some .local →
  bindL kindOf (P.zip vs) m x=some v
 | [],_,_,_,_,h,_,_=>by simp at h
 | _::_,[],_,_,_,_,h,_=>by simp at h
 | p::P,w::vs,0,m,nd,h1,h2,hk=>by
  simp at h1 h2;subst h1;subst h2
  show bindL kindOf ((p,w)::P.zip vs) m p=_
  unfold bindL;rw [ql λ v hv=>(List.nodup_cons.mp nd).1 (List.of_mem_zip hv).1,if_pos hk];simp
 | p::P,w::vs,i+1,m,nd,h1,h2,hk=>by
  show bindL kindOf ((p,w)::P.zip vs) m x=_
  unfold bindL;exact qm (i:=i) (List.nodup_cons.mp nd).2 (by simpa using h1) (by simpa using h2) hk
def qp{kindOf:Str->Option NameKind}{x:Str}{v:Value}:∀ {P:List Str}{vs:List Value}{i:Nat}{m:Str->Option Value},P.Nodup->P[i]? = some x->vs[i]? = some v->kindOf x ≠ some .local →
  bindC kindOf (P.zip vs) m x=some v
 | [],_,_,_,_,h,_,_=>by simp at h
 | _::_,[],_,_,_,_,h,_=>by simp at h
 | p::P,w::vs,0,m,nd,h1,h2,hk=>by
  simp at h1 h2;subst h1;subst h2
  show bindC kindOf ((p,w)::P.zip vs) m p=_
  unfold bindC;rw [qo λ v hv=>(List.nodup_cons.mp nd).1 (List.of_mem_zip hv).1,if_neg hk];simp
 | p::P,w::vs,i+1,m,nd,h1,h2,hk=>by
  show bindC kindOf ((p,w)::P.zip vs) m x=_
  unfold bindC;exact qp (i:=i) (List.nodup_cons.mp nd).2 (by simpa using h1) (by simpa using h2) hk
def ao(N:List Str)(vs:List V):St:=vs.map some++List.replicate (N.length - vs.length) none
def w9(CX:CXT)(P:Program)(w:World)(K:W.Frag)(mg:Str->Option Value)(base:Heap)(N:List Str)(qual:Str)(scope:Scope)(f:Addr)(cd:Value)(A:Around)(outer:List Env)(s:Shared)(H:Hp)(E:XK):Cx where
 prog:=P
 w:=w
 K:=K
 mg:=mg
 base:=base
 A:=A.deeper (envOfC qual scope s.heap.objs.size f cd)
 N:=N
 s₀:=s
 H₀:=H
 env:=envOfC qual scope s.heap.objs.size f cd
 outer:=outer
 stack:=envOfC qual scope s.heap.objs.size f cd::outer
 ex:=[]
 calm:=true
 fn:=λ _=>true
 pn:=[]
 xe:=λ e s'=>wpAny (model P w) (A.deeper (envOfC qual scope s.heap.objs.size f cd)) (leaving (envOfC qual scope s.heap.objs.size f cd) e) (λ _ aq=>CX outer H s E e aq) (λ e' aq=>CX outer H s E e' aq) s'
def uZ{sc:Scope}{n:Nat}{x:Str}(h:sc.names.lookup x=some .cell):∃ c,(cellsFrom n sc.names []).lookup x=some c:=by
 have q:=W.cellsFrom_some sc.names n [] (.inl h);exact Sb.mp q
def AE{CX:CXT}{P:Program}{w:World}{K:W.Frag}{mg:Str->Option Value}{base:Heap}{N ps:List Str}{qual:Str}{scope:Scope}{f:Addr}{cd:Value}{A:Around}{outer:List Env}{s s1:Shared}{H:Hp}{E:XK}{us:List Value}{vs:List V}
  (S:ah N ps scope) (hd:A.handled=none) (e0:xc P w K mg base A outer s H) (hl:vs.length=ps.length) (r:bf vs us)
  (x:InCallC s s.heap.objs.size (bindL (envOfC qual scope s.heap.objs.size f cd).kindOf (ps.zip us) λ _=>none) (cellsFrom (s.heap.objs.size+1) scope.names []) (bindC (envOfC qual scope s.heap.objs.size f cd).kindOf (ps.zip us) λ _=>none) s1) :
  Inv (w9 CX P w K mg base N qual scope f cd A outer s H E) [] (ao N vs) H s1:=by
 have a3:ps.length<=N.length:=by have:=RS List.length S.pre;rw [Rc] at this;omega
 obtain⟨h1,tk,rfl,hk⟩:=x.done;have aq:∀ b:Addr,b ∉ (w9 CX P w K mg base N qual scope f cd A outer s H E).ex:=λ b z=>absurd (show b∈([]:List Addr) from z) (by simp)
 refine⟨⟨e0.mod,S.kind,rfl,rfl,Qi _,λ y z c h1 h2=>?_,λ y hy=>?_,λ y c _ h=>?_,λ _=>hd,Around.frames_deeper e0.frames,.inr ⟨rfl,rfl⟩,λ b z=>absurd z (aq b),e0.bs,e0.bsz,λ b _ _=>aq b,λ b z=>absurd z (aq b),e0.funs,e0.frf⟩,
  rfl,e0.bare,Un.kept hk,⟨_,x.toInCall.ns,λ i y v h1 h2 h3=>?_⟩,λ y c h=>⟨_,x.cell y c h⟩,e0.hok.fresh (Qi _),λ y c h=>?_,λ p hp=>absurd (show p∈([]:List (Addr × Obj)) from hp) (by simp),e0.hok.kept hk,?_⟩
 ·exact name_of_addr x.apart (R6 h1) (R6 h2)
 ·have hy:scope.names.lookup y=some .cell\/scope.names.lookup y=some .free:=hy
  rcases hy with hy|hy
  ·exact uZ hy
  ·exact absurd rfl (S.nofree _ (R6 hy))
 ·exact RO (x.above y c (R6 h))
 ·have hi:i < vs.length:=by
   unfold ao at h2
   by_cases hi:i < vs.length
   ·exact hi
   ·rw [QY (by simpa using hi)] at h2;rw [SI] at h2
    split at h2<;>cases h2
  have ha:vs[i]? = some v:=by
   unfold ao at h2;rw [getElem?_append_left (by simpa using hi),getElem?_map] at h2
   cases e:vs[i]? with
   | none=>rw [e] at h2;cases h2
   | some a=>rw [e] at h2;cases h2;rfl
  obtain⟨u,hu,rv⟩:=r.get ha
  have hp:ps[i]? = some y:=by
   rw [←S.pre,List.getElem?_take_of_lt (by omega)];exact h1
  have ar:ps.Nodup:=by rw [←S.pre];exact S.nd.sublist (List.take_sublist _ _)
  refine⟨u,rv,?_⟩
  rcases S.par y (Qr hp) with k|k
  ·exact .inl ⟨k,qm ar hp hu k⟩
  ·obtain⟨c,e⟩:=uZ (n:=s.heap.objs.size+1) k;refine .inr ⟨.inl k,c,e,?_⟩;have q:=x.cell y c e;rw [qp ar hp hu (by show scope.names.lookup y ≠ _;rw [k];decide)] at q;exact q
 ·exact e0.hok.fresh (RO (x.above y c (R6 h)))
 ·unfold ao
  show _=N.length
  rw [Qw,Qk,List.length_replicate];omega
def E5{CX:CXT}{P:Program}{w:World}{K:W.Frag}{mg:Str->Option Value}{base:Heap}{k:Nat}{f:Addr}{name qual:Str}{params:Arguments}{body:List Stmt}{scope:Scope}{dV kV doc pm cdv ct oc:Value}{an od:Option Addr}
  {osl:Array (Option Value)} {N ps:List Str} {sp:Sp} (lk:K.lookup f=some ⟨oc,od,.func (W.fnOf name qual params body scope dV kV doc pm an cdv ct),osl⟩) (a4:W.codeIn K cdv qual=true) (S:ah N ps scope)
  (len:∀ vs H Q E,sp vs H Q E->vs.length=ps.length)
  (aq:∀ (A:Around) (outer:List Env) (s:Shared) (H:Hp) (vs:List V) (Q:VK) (E:XK),fG k (A.deeper (envOfC qual scope s.heap.objs.size f cdv))->sp vs H Q E →
   ∃ t,PSs (w9 CX P w K mg base N qual scope f cdv A outer s H E) body t/\t { nx:=λ _ H'=>Q .non H',rt:=Q } (ao N vs) H) :
  aM P w K mg base CX (k+1) f (W.fnOf name qual params body scope dV kV doc pm an cdv ct) ps sp:=by
 refine⟨len,λ A outer s H args us vs Q E hr e0 hb r a3=>?_⟩;have hl:=len _ _ _ _ a3;have KX:K.In s.heap:=e0.mod.kin.keeps λ b o e=>(e0.bs b o e).1;have lim:s.heap.NoLimit:=e0.mod.nolimit.keeps λ b o e=>(e0.bs b o e).1
 have ar:∀ y∈ps.zip us,scope.names.lookup y.1=some .local\/(scope.names.lookup y.1=some .cell/\((cellsFrom (s.heap.objs.size+1) scope.names []).lookup y.1).isSome=true):=λ ⟨n,v⟩ hy=>by
  rcases S.par n (SQ hy).1 with q|q
  ·exact .inl q
  ·exact .inr ⟨q,W.cellsFrom_some _ _ _ (.inl q)⟩
 refine codeAny_call_function hr.depth (KX _ _ lk) rfl S.co S.gen rfl (W.codeRec_of KX a4) (hb _ _ _ _ ?_);refine wpAny_newFunctionEnv_cells S.kind ar λ env he s1 x=>?_;subst he;refine⟨lim.keeps x.toInCall.keep,codeAny_func ?_⟩;obtain⟨t,ht,hq⟩:=aq A outer s H vs Q E (hr.deeper _) a3;have I:Inv (w9 CX P w K mg base N qual scope f cdv A outer s H E) [] (ao N vs) H s1:=AE S hr.hd e0 hl r x;refine Rf (ht [] s1 (ao N vs) H _ I hq) (λ fl s' hs=>?_) λ e s' hs=>hs
 have fin:∀ {σ':St} {H':Hp} {v:V} {u:Value},Inv (w9 CX P w K mg base N qual scope f cdv A outer s H E) [] σ' H' s'->bA v u->Q v H'->CE outer P w H s Q u s':=
  λ {σ' H' v u} J rv q=>⟨v,H',J.os,J.bare,J.base,J.hok,rv,q⟩
 cases fl with
 | ret u=>
  obtain⟨v,σ',H',J,rv,q⟩:=hs;exact fin J rv q
 | next=>
  obtain⟨σ',H',J,q⟩:=hs;exact fin (v:=V.non) (u:=Value.none) J rfl q
 | brk=>
  obtain⟨_,_,_,q⟩:=hs;exact False.elim q
 | cont=>
  obtain⟨_,_,_,q⟩:=hs;exact False.elim q
section
variable {X:Cx}{x:Str}{p pos:Pos}{e:Expr}{es:List Expr}{t:TA}{id T:String}{r:List V->Hp->VK->Prop}
def tCB(r:List V->Hp->VK->Prop)(t:TA):TE:=λ σ H Q=>t σ H λ vs H1=>r vs H1 Q
def jQ(hc:b9 X (.builtin id) r)(hg:Gl X x)(hm:X.mg x=none)(hv:bootBuiltins x=some (.builtin id))(ha:PA X (e::es) t)(hn:x ≠ "__name__":=by decide)(aq:(x == ("__debug__":Str))=false:=by decide)
  (he:starEach (e::es) X.env=(false,eval e X.env)::starEach es X.env:=by rfl) (ar:(backTo pos (starEach es X.env)).any (·.1)=false:=by rfl):PE X (.Call (.Name x p) (e::es) [] pos) (tCB r t):=by
 intro pins s σ H Q I h;refine Rg (iC I hg hm hv ?_ hn aq);exact Tn (thn (ha pos pins s σ H _ I h) λ us s1 ⟨vs,H1,I1,r1,q1⟩=>hc pins s1 σ H1 vs us Q I1 r1 q1) he ar
def zx(hc:b9 X (.type T) r)(hg:Gl X x)(hm:X.mg x=none)(hv:bootBuiltins x=some (.type T))(ha:PA X (e::es) t)(hn:x ≠ "__name__":=by decide)(aq:(x == ("__debug__":Str))=false:=by decide)
  (he:starEach (e::es) X.env=(false,eval e X.env)::starEach es X.env:=by rfl) (ar:(backTo pos (starEach es X.env)).any (·.1)=false:=by rfl):PE X (.Call (.Name x p) (e::es) [] pos) (tCB r t):=by
 intro pins s σ H Q I h;refine Rg (iC I hg hm hv ?_ hn aq);exact RL (thn (ha pos pins s σ H _ I h) λ us s1 ⟨vs,H1,I1,r1,q1⟩=>hc pins s1 σ H1 vs us Q I1 r1 q1) he ar
end
end L2
namespace HT
open PySem PyProof.Rows
section
open PySem.SeqAt
open PySem.AutoSeq1 (wpAny_loadPart')
open PySem.MeetsSeq PySem.MeetsSeq2 PySem.MeetsSeq3
end
section
variable {prog:Program}{w:World}{A:Around}{E:Value->Shared->Prop}{s:Shared}
def sIx(n d:Nat):Option Int->Nat
 | none=>d
 | some v=>if v < 0 then (v+(n:Int)).toNat else min v.toNat n
def sIx_none(n d:Nat):sIx n d none=d:=rfl
def sIx_nat(n d k:Nat):sIx n d (some (k:Int))=min k n:=by
 show (if (k:Int) < 0 then ((k:Int)+(n:Int)).toNat else min (k:Int).toNat n)=min k n
 rw [QB (by omega),QX]
end
end HT
namespace L2
open PySem PySem.Spec PyProof.Rows
abbrev TO:=St->Hp->(Option Int->Hp->Prop)->Prop
def PO(X:Cx)(e:Option Expr)(t:TO):Prop:=
 ∀ (pins:List (Addr × Obj)) (s:Shared) (σ:St) (H:Hp) (Q:Option Int->Hp->Prop),Inv X pins σ H s->t σ H Q →
  wpAny (model X.prog X.w) X.A (evalPart e X.env) (λ u s'=>∃ o H',Inv X pins σ H' s'/\IsPart u o/\Q o H') X.xe s
def ym:TO:=λ _ H Q=>Q none H
def Jo(t:TE):TO:=λ σ H Q=>t σ H λ x H1=>∃ i,x=.int i/\Q (some i) H1
section
variable {X:Cx}{e:Expr}{te:TE}{lo hi:Option Expr}{tl th:TO}{pos p2:Pos}
def FD:PO X none ym:=by
 intro pins s σ H Q I h;rw [evalPart_none];exact Ql ⟨none,H,I,.none,h⟩
def sG(h:PE X e te):PO X (some e) (Jo te):=by
 intro pins s σ H Q I hw;rw [evalPart_some];refine thn (h pins s σ H _ I hw) λ u s1 ⟨x,H1,I1,r1,q1⟩=>?_;obtain⟨i,rfl,q⟩:=q1;obtain⟨t,rfl⟩:=r1;exact⟨some i,H1,I1,.int i t,q⟩
def SlR(X:Cx)(r:V->Option Int->Option Int->Hp->VK->Prop):Prop:=
 ∀ (pins:List (Addr × Obj)) (s:Shared) (σ:St) (H:Hp) (x:V) (v vl vu:Value) (lo hi:Option Int) (sl:Addr) (Q:VK),Inv X pins σ H s->bA x v->s.heap.IsSliceOf sl vl vu .none->IsPart vl lo->IsPart vu hi->r x lo hi H Q →
  ∃ T id,typeLookup (.type T) "__getitem__"=pure (some (.builtin id))/\s.TypeIs v T/\wpAny (model X.prog X.w) X.A (getItem v (.ref sl)) (EP X pins σ Q) X.xe s
def tSl(r:V->Option Int->Option Int->Hp->VK->Prop)(te:TE)(tl th:TO):TE:=λ σ H Q=>te σ H λ x H1=>tl σ H1 λ l H2=>th σ H2 λ u H3=>r x l u H3 Q
def uH{r:V->Option Int->Option Int->Hp->VK->Prop}(hr:SlR X r)(he:PE X e te)(hl:PO X lo tl)(hu:PO X hi th):PE X (.Subscript e (.Slice lo hi none p2) pos) (tSl r te tl th):=by
 intro pins s σ H Q I h;refine Subscript_ (thn (he pins s σ H _ I h) λ v s1 ⟨x,H1,I1,r1,q1⟩=>?_);refine wpAny_Slice (thn (hl pins s1 σ H1 _ I1 q1) λ vl s2 ⟨l,H2,I2,pl,q2⟩=>thn (hu pins s2 σ H2 _ I2 q2) λ vu s3 ⟨u,H3,I3,pu,q3⟩=>?_);rw [evalPart_none];refine Ql ?_;have I4:Inv X pins σ H3 { s3 with heap:=s3.heap.push { cls:=.type "slice",data:=.fields #[vl,vu,.none] } }:=I3.kept (t':=s3.toks) λ b ob q=>Qg _ q;obtain⟨T,id,hT,ht,hg⟩:=hr pins { s3 with heap:=s3.heap.push { cls:=.type "slice",data:=.fields #[vl,vu,.none] } } σ H3 x v vl vu l u s3.heap.objs.size Q I4 r1 (Heap.IsSliceOf.new ..) pl pu q3
 show wpAny (model X.prog X.w) X.A (subscriptTail e (.Slice lo hi none p2) v (.ref s3.heap.objs.size)) (EP X pins σ Q) X.xe { s3 with heap:=s3.heap.push { cls:=.type "slice",data:=.fields #[vl,vu,.none] } }
 exact tail_any (ops:=[.ref s3.heap.objs.size,v]) ht hT hg (by with_unfolding_all rfl)
def ub(xs:List V)(lo hi:Option Int):List V:=(xs.drop (HT.sIx xs.length 0 lo)).take (HT.sIx xs.length xs.length hi - HT.sIx xs.length 0 lo)
def tR(xs:List V)(lo hi:Option Int):(ub xs lo hi).length<=xs.length:=by
 unfold ub;rw [length_take,List.length_drop];omega
end
def ixN(n:Nat)(i:Int):Option Nat:=if 0<=i then (if i < n then some i.toNat else none) else if -(n:Int)<=i then some (i+n).toNat else none
def atI{α:Type}(xs:List α)(i:Int):Option α:=(ixN xs.length i).bind λ j=>xs[j]?
def yH{n:Nat}{i:Int}{j:Nat}(h:ixN n i=some j):seqIndex? i n=some j/\j < n/\-(n:Int)<=i/\i < n:=by
 unfold ixN at h
 by_cases h0:0<=i
 ·rw [QE h0] at h
  by_cases h1:i < n
  ·rw [QE h1] at h;have e:i.toNat=j:=QL h;exact⟨by rw [seqIndex_of h0 h1,e],by omega,by omega,h1⟩
  ·rw [QB h1] at h;cases h
 ·rw [QB h0] at h
  by_cases h1:-(n:Int)<=i
  ·rw [QE h1] at h;have e:(i+n).toNat=j:=QL h;exact⟨by rw [seqIndex_neg (by omega) h1,e],by omega,h1,by omega⟩
  ·rw [QB h1] at h;cases h
def yW{α:Type}{xs:List α}{i:Int}{v:α}(h:atI xs i=some v):∃ j,seqIndex? i xs.length=some j/\xs[j]? = some v/\j < xs.length/\-(xs.length:Int)<=i/\i < xs.length:=by
 unfold atI at h
 cases e:ixN xs.length i with
 | none=>rw [e] at h;cases h
 | some j=>
  rw [e] at h;obtain⟨h1,h2,h3,h4⟩:=yH e;exact⟨j,h1,h,h2,h3,h4⟩
def bL{α:Type}{xs:List α}{j:Nat}{v:α}(h:xs[j]? = some v):atI xs (j:Int)=some v:=by
 have hj:j < xs.length:=(Qh.mp h).1
 have e:ixN xs.length (j:Int)=some j:=by
  unfold ixN;rw [if_pos (by omega),if_pos (by omega)];simp
 unfold atI;rw [e];exact h
def IW(b:Expr):Prop:=∀ o i,subscripted b false o i=operate [o,i] (getItem o i)
def IxR(X:Cx)(r:R2):Prop:=
 ∀ (value slice:Expr) (pins:List (Addr × Obj)) (s:Shared) (σ:St) (H:Hp) (x y:V) (v u:Value) (Q:VK),Inv X pins σ H s->bA x v->bA y u->r x y H Q →
  subscripted slice false v u=operate [v,u] (getItem v u)->wpAny (model X.prog X.w) X.A (subscriptTail value slice v u) (EP X pins σ Q) X.xe s
def MtR(X:Cx)(id:String)(r:V->List V->Hp->VK->Prop):Prop:=
 ∀ (pins:List (Addr × Obj)) (s:Shared) (σ:St) (H:Hp) (x:V) (xs:List V) (v:Value) (us:List Value) (Q:VK),Inv X pins σ H s->bA x v->bf xs us->r x xs H Q →
  wpAny (model X.prog X.w) X.A (call (.builtin id) (v::us)) (EP X pins σ Q) X.xe s
section
variable {X:Cx}{a b:Expr}{ta tb:TE}{pos:Pos}
def IxR.or{r r':R2}(h:IxR X r)(h':IxR X r'):IxR X (λ x y H Q=>r x y H Q\/r' x y H Q):=by
 intro value slice pins s σ H x y v u Q I rx ry q hs
 rcases q with q|q
 ·exact h value slice pins s σ H x y v u Q I rx ry q hs
 ·exact h' value slice pins s σ H x y v u Q I rx ry q hs
def EH{r:R2}(hr:IxR X r)(ha:PE X a ta)(hb:PE X b tb)(hs:IW b):PE X (.Subscript a b pos) (tOp r ta tb):=by
 intro pins s σ H Q I h;exact Subscript_ (Nl ha hb I h λ v u s2 x y H2 I2 rx ry q=>hr a b pins s2 σ H2 x y v u Q I2 rx ry q (hs _ _))
def PR(K:W.Frag):R2:=λ x y H Q=>∃ p xs i v,x=.ref p/\y=.int i/\SqL K H p xs/\atI xs i=some v/\Q v H
def PQ(K:W.Frag):R2:=λ x y H Q=>∃ p xs i v,x=.ref p/\y=.int i/\SqT K H p xs/\atI xs i=some v/\Q v H
def sM:IxR X (PR X.K):=by
 intro value slice pins s σ H x y v u Q I rx ry h hs;obtain⟨p,xs,i,z,rfl,rfl,hq,he,q⟩:=h;cases rx;obtain⟨t,rfl⟩:=ry;obtain⟨its,r,pl,hz⟩:=I.list hq;obtain⟨j,h1,h2,h3,h4,h5⟩:=yW he;obtain⟨w,ew,aq⟩:=r.get h2;have hl:=r.length;have hn:=pG;have fin:EP X pins σ Q w s:=⟨z,H,I,aq,q⟩
 by_cases h0:0<=i
 ·have hj:i.toNat=j:=by
   rw [seqIndex_of h0 h5] at h1;exact QL h1
  exact item_listR pl.isList h0 (by omega) (by rw [hj];simpa using ew) fin hs
 ·have hj:(i+(its.toArray.size:Int)).toNat=j:=by
   rw [seqIndex_neg (by omega) h4] at h1;rw [QH,←hl];exact QL h1
  exact subscriptTail_builtinR (x:=w) pl.isList.typeIs slot_list_getitem.lookup
   (wpAny_getItem_list_neg (Q:=λ r s'=>r=w/\EP X pins σ Q r s') pl.isList (by omega) (by rw [QH]<;>omega) (by omega) (by rw [hj];simpa using ew) ⟨rfl,fin⟩) hs
def L9:IxR X (PQ X.K):=by
 intro value slice pins s σ H x y v u Q I rx ry h hs;obtain⟨p,xs,i,z,rfl,rfl,hq,he,q⟩:=h;cases rx;obtain⟨t,rfl⟩:=ry;obtain⟨its,r,pl,hz⟩:=I.tuple hq;obtain⟨j,h1,h2,h3,h4,h5⟩:=yW he;obtain⟨w,ew,aq⟩:=r.get h2;have hl:=r.length;have hn:=pG;have fin:EP X pins σ Q w s:=⟨z,H,I,aq,q⟩
 exact subscriptTail_builtinR (x:=w) pl.typeIs slot_tuple_getitem.lookup
  (getItem_tuple (j:=j) (Q:=λ r s'=>r=w/\EP X pins σ Q r s') pl (by omega) (by omega) (by rw [QH,←hl];exact h1) (by simpa using ew) ⟨rfl,fin⟩) hs
def vN(its:List Value)(n j:Nat)(u:Value):Obj.mapSeq (·.setIfInBounds j u) { cls:=.type "list",data:=.seq its.toArray n }={ cls:=.type "list",data:=.seq (its.set j u).toArray n }:=by
 simp [Obj.mapSeq]
def Inv.lst{pins:List (Addr × Obj)}{σ:St}{H:Hp}{s:Shared}{p:Addr}{xs:List V}(I:Inv X pins σ H s)(h:H p=some (.lst xs)) :
  ∃ (its:List Value) (n:Nat),bf xs its/\s.heap.get? p=some { cls:=.type "list",data:=.seq its.toArray n }/\xs.length<=sizeLine:=by
 obtain⟨z,its,n,r,e⟩:=I.hok p _ h;exact⟨its,n,r,e,z⟩
def Inv.lstUpd{pins:List (Addr × Obj)}{σ:St}{H:Hp}{s:Shared}{p:Addr}{xs ys:List V}{its its':List Value}{n n':Nat}{f:Obj->Obj}(I:Inv X pins σ H s)(h:H p=some (.lst xs))
  (ho:s.heap.get? p=some { cls:=.type "list",data:=.seq its.toArray n }) (hf:f { cls:=.type "list",data:=.seq its.toArray n }={ cls:=.type "list",data:=.seq its'.toArray n' }) (r:bf ys its') (hz:ys.length<=sizeLine) (t:Nat) :
  Inv X pins σ (upd H p (.lst ys)) { s with heap:=s.heap.update p f,toks:=t }:=by
 have e:(s.heap.update p f).get? p=some { cls:=.type "list",data:=.seq its'.toArray n' }:=by
  rw [QM f ho (by rw [hf]<;>rfl),hf]
 refine I.write (x:=p) (e:=p) (by rw [h];trivial) (.inl rfl) (λ b u hb q=>(QO _ _ (QS hb)).trans q) ⟨_,e⟩ ?_;exact⟨hz,its',n',r,e⟩
def Jz:V->V->V->Hp->(Hp->Prop)->Prop:=λ o i v H Q=>∃ p xs k j,o=.ref p/\i=.int k/\H p=some (.lst xs)/\ixN xs.length k=some j/\Q (upd H p (.lst (xs.set j v)))
def dF:Pp X Jz:=by
 intro pins s σ H o i v ov iv u Q I ro ri rv h;obtain⟨p,xs,k,j,rfl,rfl,hp,hj,q⟩:=h;cases ro;obtain⟨t,rfl⟩:=ri;obtain⟨its,n,r,ho,hz⟩:=I.lst hp;obtain⟨h1,h2,h3,h4⟩:=yH hj;have hl:=r.length;have hn:=pG
 have I':Inv X pins σ (upd H p (.lst (xs.set j v))) { s with heap:=s.heap.update p (Obj.mapSeq (·.setIfInBounds j u)) }:=
  I.lstUpd hp ho (vN its n j u) (r.set rv j) (by rw [SF];exact hz) s.toks
 by_cases h0:0<=k
 ·have hk:k.toNat=j:=by
   rw [seqIndex_of h0 h4] at h1;exact QL h1
  exact W.ki_setAt ho h0 (by omega) (by rw [QH,←hl];exact h4) (by rw [hk];exact⟨_,I',q⟩)
 ·have hk:(k+(its.toArray.size:Int)).toNat=j:=by
   rw [seqIndex_neg (by omega) h3] at h1;rw [QH,←hl];exact QL h1
  exact W.ki_setBack ho (by omega) (by rw [QH,←hl];exact h3) (by omega) (by rw [hk];exact⟨_,I',q⟩)
def qI(lo hi:Option Int)(n:Nat):(sliceBounds lo hi none n).1=((HT.sIx n 0 lo:Nat):Int)/\(sliceBounds lo hi none n).2.1=((HT.sIx n n hi:Nat):Int)/\(sliceBounds lo hi none n).2.2=1:=by
 refine⟨?_,?_,rfl⟩
 ·cases lo with
  | none=>simp [sliceBounds,HT.sIx]
  | some i=>
   simp only [sliceBounds,HT.sIx,Option.getD_none,show (1:Int) > 0 by decide,S0]
   by_cases h:i < 0
   ·simp only [h,S0]<;>omega
   ·simp only [h,S6]<;>omega
 ·cases hi with
  | none=>simp [sliceBounds,HT.sIx]
  | some i=>
   simp only [sliceBounds,HT.sIx,Option.getD_none,show (1:Int) > 0 by decide,S0]
   by_cases h:i < 0
   ·simp only [h,S0]<;>omega
   ·simp only [h,S6]<;>omega
def oE(its:List Value)(lo hi:Option Int):slicePick its.toArray lo hi none=((its.drop (HT.sIx its.length 0 lo)).take (HT.sIx its.length its.length hi - HT.sIx its.length 0 lo)).toArray:=by
 obtain⟨h1,h2,h3⟩:=qI lo hi its.toArray.size;unfold slicePick;rw [h1,h2,h3]
 simp only [sliceRange_one,pick_run,QH]<;>rfl
def PL(K:W.Frag):V->Option Int->Option Int->Hp->VK->Prop:=λ x lo hi H Q=>∃ a xs,x=.ref a/\SqL K H a xs/\∀ p,H p=none->Q (.ref p) (upd H p (.lst (ub xs lo hi)))
def yn:SlR X (PL X.K):=by
 intro pins s σ H x v vl vu lo hi sl Q I rx hs pl pu h;obtain⟨a,xs,rfl,hx,q⟩:=h;cases rx;obtain⟨its,r,ht,hz⟩:=I.list hx;have hlen:=r.length;refine⟨"list",_,slot_list_getitem.lookup,ht.isList.typeIs,?_⟩;refine wpAny_getItem_list_slice ht.isList hs pl pu .none (by simp) ?_ (by rw [QH]<;>omega);rw [oE,←hlen];refine⟨.ref s.heap.objs.size,_,I.laid (t':=s.toks) (o:=.lst (ub xs lo hi)) (λ b ob q=>Qg _ q) (Qi _) ?_,rfl,q _ (I.hok.fresh (Qi _))⟩;exact⟨QP (tR xs lo hi) hz,_,0,(r.drop (HT.sIx xs.length 0 lo)).take (HT.sIx xs.length xs.length hi - HT.sIx xs.length 0 lo),Qp _ rfl⟩
def Qb:V->Bool
 | .non=>true
 | .bl _=>true
 | .int _=>true
 | .str _=>true
 | _=>false
def eqV:V->V->Bool
 | .non,.non=>true
 | .bl a,.bl b=>a == b
 | .bl a,.int b=>(if a then 1 else 0) == b
 | .int a,.bl b=>a == (if b then 1 else 0)
 | .int a,.int b=>a == b
 | .str a,.str b=>a == b
 | _,_=>false
def inV(x:V)(xs:List V):Bool:=xs.any λ y=>eqV y x
def dR:b9 X (.builtin "len") (λ xs H Q=>∃ p ys,xs=[.ref p]/\(SqL X.K H p ys\/SqT X.K H p ys)/\Q (.int ys.length) H):=by
 intro pins s σ H xs us Q I r h;obtain⟨p,ys,rfl,hq,q⟩:=h;obtain⟨u,rfl,rx⟩:=xh r;cases rx;have hn:=pG
 rcases hq with hq|hq
 ·obtain⟨its,r',pl,hz⟩:=I.list hq;have hlen:=r'.length;exact Calls.call_len_list pl.isList (by simp only [QH]<;>omega) ⟨.int ys.length,H,I.tok _,⟨s.toks+1,by rw [QH,hlen]⟩,q⟩
 ·obtain⟨its,r',pl,hz⟩:=I.tuple hq;have hlen:=r'.length;exact len_tuple pl (by simp only [QH]<;>omega) ⟨.int ys.length,H,I.tok _,⟨s.toks+1,by rw [QH,hlen]⟩,q⟩
def rj:b9 X (.builtin "len") (λ xs H Q=>∃ z,xs=[.str z]/\z.length<=sizeLine/\Q (.int z.length) H):=by
 intro pins s σ H xs us Q I r h;obtain⟨z,rfl,hz,q⟩:=h;obtain⟨u,rfl,t,rfl⟩:=xh r;have hn:=pG;exact len_str (by omega) ⟨.int z.length,H,I.tok _,⟨_,rfl⟩,q⟩
def b9.or{f:Value}{r r':List V->Hp->VK->Prop}(h:b9 X f r)(h':b9 X f r'):b9 X f (λ xs H Q=>r xs H Q\/r' xs H Q):=by
 intro pins s σ H xs us Q I rs q
 rcases q with q|q
 ·exact h pins s σ H xs us Q I rs q
 ·exact h' pins s σ H xs us Q I rs q
def rh:b9 X (.type "list") (λ xs H Q=>∃ p ys,xs=[.ref p]/\(SqL X.K H p ys\/SqT X.K H p ys)/\∀ l,H l=none->Q (.ref l) (upd H l (.lst ys))):=by
 intro pins s σ H xs us Q I r h;obtain⟨p,ys,rfl,hq,q⟩:=h;obtain⟨u,rfl,rx⟩:=xh r;cases rx
 have fin:∀ (its:List Value),bf ys its->ys.length<=sizeLine->∀ (h':Heap) (c':Nat),(∀ b o',s.heap.get? b=some o'->h'.get? b=some o') →
   h'.get? s.heap.objs.size=some { cls:=.type "list",dict:=none,data:=.seq its.toArray c',slots:=#[] }->EP X pins σ Q (.ref s.heap.objs.size) { s with heap:=h' }:=λ its r' hz h' c' kp e=>
  ⟨.ref s.heap.objs.size,_,I.laid (t':=s.toks) kp (Qi _) (show bg X.prog X.w _ h' _ (.lst ys) from ⟨hz,its,c',r',e⟩),rfl,q _ (I.hok.fresh (Qi _))⟩
 rcases hq with hq|hq
 ·obtain⟨its,r',pl,hz⟩:=I.list hq;have hlen:=r'.length;obtain⟨o,ho,hc,n,hd⟩:=pl.isList;exact call_list_seq p (.inl rfl) ho hc hd (λ h' c' kp e=>fin its r' hz h' c' kp e) (by simp only [QH]<;>omega)
 ·obtain⟨its,r',pl,hz⟩:=I.tuple hq;have hlen:=r'.length;obtain⟨o,ho,hc,n,hd⟩:=pl;exact call_list_seq p (.inr rfl) ho hc hd (λ h' c' kp e=>fin its r' hz h' c' kp e) (by simp only [QH]<;>omega)
def tyV(K:W.Frag)(T:String)(x:V)(H:Hp):Prop:=match x with
 | .str _=>T = "str"
 | .int _=>T = "int"
 | .ref p=>(T = "list" /\ ∃ xs,SqL K H p xs)\/(T = "tuple" /\ ∃ o,K.lookup p=some o/\o.cls=.type "tuple" /\ o.dict=none) \/
   (T = "dict" /\ ((∃ kvs,H p=some (.dK kvs))\/∃ kvs,H p=some (.dT kvs)))\/(T = "set" /\ ∃ S n,H p=some (.set S n))
 | _=>False
def Ka{pins:List (Addr × Obj)}{σ:St}{H:Hp}{s:Shared}{T:String}{x:V}{v:Value}(I:Inv X pins σ H s)(r:bA x v)(ty:tyV X.K T x H) :
  s.TypeIs v T/\∀ a,v=.ref a->∃ ob,s.heap.get? a=some ob/\ob.dict=none:=by
 cases x with
 | str z=>
  obtain⟨t,rfl⟩:=r;cases (show T = "str" from ty);exact⟨typeIs_str s z t,λ _ e=>nomatch e⟩
 | int i=>
  obtain⟨t,rfl⟩:=r;cases (show T = "int" from ty);exact⟨typeIs_int s i t,λ _ e=>nomatch e⟩
 | ref p=>
  cases r
  rcases ty with ⟨rfl,xs,hq⟩|⟨rfl,o,hk,hc,hd⟩|⟨rfl,hk⟩|⟨rfl,S,n,hk⟩
  ·obtain⟨its,_,pl,_⟩:=I.list hq;refine⟨pl.isList.typeIs,λ a e=>?_⟩;cases e;obtain⟨o,n,e,c,hd,_⟩:=pl;exact⟨o,e,hd⟩
  ·refine⟨⟨o,I.kIn p o hk,hc⟩,λ a e=>?_⟩;cases e;exact⟨o,I.kIn _ o hk,hd⟩
  ·have z:∃ o,s.heap.get? p=some o/\o.ExactDict:=by
    rcases hk with ⟨kvs,hk⟩|⟨kvs,hk⟩
    ·obtain⟨_,_,_,_,o,_,_,e,ex,_⟩:=I.hok p _ hk;exact⟨o,e,ex⟩
    ·obtain⟨_,_,_,_,o,_,_,e,ex,_⟩:=I.hok p _ hk;exact⟨o,e,ex⟩
   obtain⟨o,e,ex⟩:=z;refine⟨⟨o,e,ex.1⟩,λ a e2=>?_⟩;cases e2;exact⟨o,e,ex.2.1⟩
  ·obtain⟨o,_,_,_,e,ex,_⟩:=I.hok p _ hk;refine⟨⟨o,e,ex.1⟩,λ a e2=>?_⟩;cases e2;exact⟨o,e,ex.2.1⟩
 | _=>exact False.elim ty
def tBM(K:W.Frag)(T:String)(r:V->List V->Hp->VK->Prop)(to:TE)(t:TA):TE:=λ σ H Q=>to σ H λ x H1=>tyV K T x H1/\t σ H1 λ xs H2=>r x xs H2 Q
variable {o e:Expr}{es:List Expr}{to:TE}{t:TA}{name:Str}{apos cpos:Pos}{T id:String}{r:V->List V->Hp->VK->Prop}
def NC(pa:PlainAttrs T)(slot:Slot T name id)(a5:typeOf (.builtin id)=pure (.type "method_descriptor"))(hm:MtR X id r)(ho:PE X o to)(ha:PA X (e::es) t)
  (ar:attributeBase o name X.env (eval o X.env)=eval o X.env:=by rfl)
  (a4:((backTo cpos (starEach (e::es) X.env)).all (λ x=>!x.1) && (backToKw cpos (keywordEach [] X.env)).all (λ x=>x.1.isSome)
   && decide ((e::es).length+([]:List Keyword).length+(if ([]:List Keyword).isEmpty then 0 else 1) < 30))=true:=by rfl)
  (a3:(apos.endLine == cpos.line)=true:=by rfl) (hs:starEach (e::es) X.env=(false,eval e X.env)::starEach es X.env:=by rfl) (aq:(backTo cpos (starEach es X.env)).any (·.1)=false:=by rfl) :
  PE X (.Call (.Attribute o name apos) (e::es) [] cpos) (tBM X.K T r to t):=by
 intro pins s σ H Q I h;refine wpAny_Call_method_late ar a4 a3 rfl (thn (ho pins s σ H _ I h) λ v s1 ⟨x,H1,I1,r1,ty,q1⟩=>?_);obtain⟨h1,h2⟩:=Ka I1 r1 ty;refine⟨T,id,pa,slot,a5,h1,h2,?_⟩;have hA:=ha cpos pins s1 σ H1 _ I1 q1;rw [hs] at hA ⊢;refine Calls.callWith_builtin (by show (false || (backTo cpos (starEach es X.env)).any (·.1))=false;rw [aq]<;>rfl) (Th ?_);exact thn hA λ us s2 ⟨vs,H2,I2,r2,q2⟩=>hm pins s2 σ H2 x vs v us Q I2 r1 r2 q2
end
def MtM(X:Cx)(id:String)(r:V->List V->Hp->VK->Prop):Prop:=
 ∀ (pins:List (Addr × Obj)) (s:Shared) (σ:St) (H:Hp) (x:V) (xs:List V) (v:Value) (us:List Value) (Q:VK),Inv X pins σ H s->bA x v->bf xs us->r x xs H Q →
  wpAny (model X.prog X.w) X.A (call (.builtin id) (v::us)) (EP X pins σ Q) X.xe s
def bf.one:∀ {x:V}{us:List Value},bf [x] us->∃ u,us=[u]/\bA x u
 | _,_,.cons r .nil=>⟨_,rfl,r⟩
def bf.reverse{xs:List V}{us:List Value}(h:bf xs us):bf xs.reverse us.reverse:=by
 induction h with
 | nil=>exact .nil
 | cons r t ih=>rw [List.reverse_cons,List.reverse_cons];exact bf.append ih (.cons r .nil)
def bf.rep{xs:List V}{us:List Value}(h:bf xs us):∀ k:Nat,bf (List.replicate k xs).flatten (List.replicate k us).flatten
 | 0=>.nil
 | k+1=>by
  rw [Rz,Rz,RE,RE];exact bf.append h (bf.rep h k)
def pY(its:List Value):∀ (k:Nat) (acc:List Value),
  List.foldl (λ x1 x2=>x1++x2) acc.toArray (List.replicate k its.toArray)=(acc++(List.replicate k its).flatten).toArray
 | 0,acc=>by simp
 | k+1,acc=>by
  have e:acc.toArray++its.toArray=(acc++its).toArray:=by simp
  have e2:(acc++its)++(List.replicate k its).flatten=acc++(List.replicate (k+1) its).flatten:=by
   rw [Rz,RE,List.append_assoc]
  rw [←e2,←pY its k (acc++its),←e,Rz,RK]
section
variable {X:Cx}{pins:List (Addr × Obj)}{σ:St}{H:Hp}{s:Shared}{l b:Addr}{xs ys zs:List V}
def Inv.lset{its its':List Value}{n:Nat}{f:Array Value->Array Value}{t':Nat}(I:Inv X pins σ H s)(hH:H l=some (.lst xs))
  (e:s.heap.get? l=some { cls:=.type "list",data:=.seq its.toArray n }) (hf:f its.toArray=its'.toArray) (hv:bf ys its') (hz:ys.length<=sizeLine) :
  Inv X pins σ (upd H l (.lst ys)) { s with heap:=s.heap.update l (Obj.mapSeq f),toks:=t' }:=by
 have q:=PySem.IsL.update e f;rw [hf] at q;refine I.write (x:=l) (e:=l) (by rw [hH];exact trivial) (.inl rfl) (λ b' u hb hu=>(QO s.heap (Obj.mapSeq f) (QS hb)).trans hu) ⟨_,q⟩ ?_;exact⟨hz,its',_,hv,q⟩
def Inv.lnew{its:List Value}{t':Nat}(I:Inv X pins σ H s)(hv:bf ys its)(hz:ys.length<=sizeLine) :
  Inv X pins σ (upd H s.heap.objs.size (.lst ys)) { s with heap:=s.heap.push { cls:=.type "list",data:=.seq its.toArray },toks:=t' }:=
 I.laid (λ _ _ q=>Qg _ q) (Qi _) ⟨hz,its,0,hv,Qp _ rfl⟩
def Inv.fresh(I:Inv X pins σ H s):H s.heap.objs.size=none:=I.hok.fresh (Qi _)
def Inv.lstM(I:Inv X pins σ H s)(hH:H l=some (.lst xs)):xs.length<=sizeLine/\∃ (its:List Value) (n:Nat),bf xs its/\xs.length=its.length/\s.heap.get? l=some { cls:=.type "list",data:=.seq its.toArray n }:=by
 obtain⟨z,its,n,r,e⟩:=I.hok l _ hH;exact⟨z,its,n,r,r.length,e⟩
def uN{n:Nat}(h:n<=sizeLine):Builtin.List.listTooLong n=false:=by
 unfold Builtin.List.listTooLong;exact decide_eq_false (by omega)
end
section
variable {X:Cx}
def yr:V->List V->Hp->VK->Prop:=λ x vs H Q=>∃ l xs y,x=.ref l/\vs=[y]/\H l=some (.lst xs)/\xs.length < sizeLine/\Q .non (upd H l (.lst (xs++[y])))
def fT:MtM X "list.append" yr:=by
 intro pins s σ H x vs v us Q I rx rv h;obtain⟨l,xs,y,rfl,rfl,hH,hz,q⟩:=h;cases rx;obtain⟨u,rfl,ru⟩:=rv.one;obtain⟨z,its,n,r,hl,e⟩:=I.lstM hH;refine Tb F.slot_list_append ⟨_,e,rfl⟩ F.entry_list_append (F.args_list_append_2 _ _) (PySem.list_append l its.toArray n u (by rw [QH];omega)) ⟨e,?_⟩;refine⟨.non,_,I.lset (its':=its++[u]) hH e (by simp) (r.append (.cons ru .nil)) ?_,rfl,q⟩;rw [Qw,QV];omega
def yq:V->List V->Hp->VK->Prop:=λ x vs H Q=>∃ l b xs zs,x=.ref l/\vs=[.ref b]/\H l=some (.lst xs)/\H b=some (.lst zs)/\xs.length+zs.length<=sizeLine/\Q .non (upd H l (.lst (xs++zs)))
def fS:MtM X "list.extend" yq:=by
 intro pins s σ H x vs v us Q I rx rv h;obtain⟨l,b,xs,zs,rfl,rfl,hH,hB,hz,q⟩:=h;cases rx;obtain⟨u,rfl,ru⟩:=rv.one;cases ru;obtain⟨z,its,n,r,hl,e⟩:=I.lstM hH;obtain⟨z2,aq,n2,r2,a3,e2⟩:=I.lstM hB;have hsz:its.toArray.size+aq.toArray.size<=sizeLine:=by rw [QH,QH];omega
 have ar:¬ (!its.toArray.isEmpty && Builtin.List.listTooLong (its.toArray.size+aq.toArray.size))=true:=by
  rw [uN hsz,Bool.and_false];exact Qx
 refine Tb F.slot_list_extend ⟨_,e,rfl⟩ F.entry_list_extend (F.args_list_extend_2 _ _)
  (AutoSeq1.list_extend_list_list_0 l its.toArray n b aq.toArray n2 ar (by rw [QH];omega) (by omega)) ⟨e,e2,?_⟩
 refine⟨.non,_,I.lset (its':=its++aq) hH e (by simp) (r.append r2) ?_,rfl,q⟩;rw [Qw];omega
def OS:R2:=λ x y H Q=>∃ l b xs zs,x=.ref l/\y=.ref b/\H l=some (.lst xs)/\H b=some (.lst zs)/\xs.length+zs.length<=sizeLine/\∀ p,H p=none->Q (.ref p) (upd H p (.lst (xs++zs)))
def KD:OpR X (binaryOp .Add) OS:=by
 intro pins s σ H x y v u Q I rx ry h;obtain⟨l,b,xs,zs,rfl,rfl,hH,hB,hz,q⟩:=h;cases rx;cases ry;obtain⟨z,its,n,r,hl,e⟩:=I.lstM hH;obtain⟨z2,aq,n2,r2,ar,e2⟩:=I.lstM hB;refine PySem.P.add_list e e2 ?_ (by rw [QH,QH];omega);have ea:its.toArray++aq.toArray=(its++aq).toArray:=by simp
 rw [ea];exact⟨.ref _,_,I.lnew (t':=s.toks) (r.append r2) (by rw [Qw];omega),rfl,q _ I.fresh⟩
def PM:R2:=λ x y H Q=>∃ l k xs,x=.ref l/\y=.int k/\H l=some (.lst xs)/\-(2 ^ 63)<=k/\k < 2 ^ 63/\xs.length * k.toNat<=sizeLine /\
 ∀ p,H p=none->Q (.ref p) (upd H p (.lst (List.replicate k.toNat xs).flatten))
def HA{α:Type}(xs:List α)(k:Nat):(List.replicate k xs).flatten.length=k * xs.length:=by
 induction k with
 | zero=>simp
 | succ k ih=>rw [Rz,RE,Qw,ih,Nat.succ_mul,Nat.add_comm]
def Kv:OpR X (binaryOp .Mult) PM:=by
 intro pins s σ H x y v u Q I rx ry h;obtain⟨l,k,xs,rfl,rfl,hH,h1,h2,hz,q⟩:=h;cases rx;obtain⟨t,rfl⟩:=ry;obtain⟨z,its,n,r,hl,e⟩:=I.lstM hH;have hlen:its.toArray.size * k.toNat<=sizeLine:=by rw [QH,←hl];exact hz
 have ar:¬ its.toArray.size * k.toNat > (2 ^ 63 - 1) / 8:=by
  have:(sizeLine:Nat)<=(2 ^ 63 - 1) / 8:=by decide
  omega
 have a3:¬ (!Builtin.List.listFitsIndex k)=true:=by
  rw [fitsIndex_both h1 h2];exact Qx
 have aq:¬ Builtin.List.listTooLong (its.toArray.size * k.toNat)=true:=by
  rw [uN hlen];exact Qx
 have a4:List.foldl (λ x1 x2=>x1++x2) #[] (List.replicate (if its.toArray.isEmpty=true then 0 else k.toNat) its.toArray)=(List.replicate k.toNat its).flatten.toArray:=by
  have f0:∀ m:Nat,List.foldl (λ x1 x2=>x1++x2) #[] (List.replicate m its.toArray)=(List.replicate m its).flatten.toArray:=λ m=>by
   have:=pY its m [];rw [List.nil_append] at this;exact this
  rw [f0]
  cases its with
  | nil=>simp
  | cons a r'=>rw [QB (by simp)]
 refine wpAny_binaryOp_repeat_ref (T := "list") (U := "int") (by decide) ⟨_,e,rfl⟩ (λ s'=>typeIs_int s' k t) noFill_list_mul F.fills_int_mul F.slot_int_rmul repeat_list F.slot_int_index.lookup
  (Tb F.slot_int_rmul (typeIs_int s k t) F.entry_int_rmul (F.args_int_rmul_2 _ _) (int___rmul___int_list k t l its.toArray n)
   ⟨e,rfl,⟨_,e,rfl⟩,Tb F.slot_list_mul ⟨_,e,rfl⟩ F.entry_list_mul (F.args_list_mul_2 _ _) (AutoListH.list___mul___list_int_3 l its.toArray n k t a3 ar aq) ⟨e,?_⟩⟩)
 rw [a4];exact⟨.ref _,_,I.lnew (t':=s.toks) (r.rep k.toNat) (by rw [HA,Nat.mul_comm];exact hz),rfl,q _ I.fresh⟩
end
section
variable {prog:Program}{w:World}{A:Around}{E:Value->Shared->Prop}{s:Shared}
end
section
variable {X:Cx}
end
end L2
namespace Att
open PySem PySem.W PySem.Calls PyProof.Rows
def lG{P:Params}{h:Heap}:∀ (ns:List Int) (vs:List Value),WellAll P h vs (ns.map WData.int)->IntsAre vs ns:=by
 intro ns
 induction ns with
 | nil=>
  intro vs w;rw [map_nil] at w;cases w;exact .nil
 | cons n ns ih=>
  intro vs w;rw [Rj] at w
  cases w with
  | cons a b=>
   cases a;exact .cons _ _ (ih _ b)
def zo{l:OpenLaw}{n:Nat}(hn:l.most=some n){P:Params}{h:Heap}{args:List WData}{vals:List Value}
  (aq:l.row.toRowW.claim.pre args=true) (ar:WellAll P h vals args) :
  ∃ a vs ns,vals=[Value.ref a]/\args=[WData.list (ns.map WData.int)]/\h.get? a=some { cls:=.type "list",data:=.seq vs.toArray }/\IntsAre vs ns/\ns.length<=n:=by
 have a3:WShape.hasAll [] args [.list .int]=true:=(pre_splitW aq).1;have hc:l.pre.holds [] { args:=args }=true:=(pre_splitW aq).2;obtain⟨d,r,rfl,h1,h2⟩:=hasAllW_cons a3;obtain rfl:=hasAllW_nil h2;obtain⟨xs,rfl,h3⟩:=hasW_list h1;obtain⟨ns,rfl⟩:=items_int h3
 have hlen:ns.length<=n:=by
  unfold OpenLaw.pre at hc
  have h4:(WTm.not (.lt (.lit (.int (n:Int))) (.len (.arg 0)))).holds [] { args:=[.list (ns.map .int)] }=true:=by
   have h4:=(holds_andW hc).1;rw [hn] at h4;exact h4
  have h5:=condW_of h4 (w_not (w_lt w_lit (w_len_list (w_arg rfl))));rw [Qk] at h5;refine SK λ q=>?_;have q':(n:Int) < ((ns.length:Nat):Int):=by omega
  first
   | (rw [Rh q'] at h5;exact absurd h5 (by decide))
   | (simp at h5;omega)
 cases ar with
 | cons w1 w2=>
  cases w2
  cases w1 with
  | list ho hall=>exact⟨_,_,ns,rfl,rfl,ho,lG ns _ hall,hlen⟩
def zp(l:OpenLaw)(args:List WData):l.row.toRowW.claim.post args (.bool true) args=true:=
 postW_of (r:=l.row.toRowW) (X:=(true == true))
  (show WShape.has [] (.bool true) .bool=true by first|rfl|decide|simp [WShape.has,WShape.arms,WShape.armsAll])
  (show (WTm.eq .res (.lit (.bool true))).value [] { args:=args,res:=some (.bool true),after:=args }=some (.bool (true == true)) from w_eq_bool (w_res rfl) w_lit) rfl
def attach_call{l:OpenLaw}{n:Nat}{q:Program}{loose:List Str}{XP:(Str->Option Value)->Heap->Prop}{YP:World->Heap->Prop}{d:DefRec}
  (hn:l.most=some n) (a3:d.params.defaults=[])
  (call:∀ (w:World) (s₀ s₁:Shared) (mg mb:Str->Option Value) (fa:Addr) (o:Obj) (pm cd doc:Value) (a:Addr) (vs:List Value) (ns:List Int),
   Ground q loose [] XP w s₀ mg mb s₁.heap->YP w s₁.heap →
   s₁.heap.get? fa=some o->o.data=.func (docDef d.name d.params d.body d.scope pm cd doc)->s₁.heap.CodeRec cd d.name->mg d.name=some (.ref fa) →
   s₁.heap.get? a=some { cls:=.type "list",data:=.seq vs.toArray }->IntsAre vs ns->ns.length<=n->s₁.gens=#[] →
   codeAny (model l.prog w) callerA (.call (.ref fa) ⟨[.ref a],[]⟩) (λ r s'=>r=.ok (.ret (.bool true))/\OldK s₁.heap s'.heap/\s'.os=s₁.os/\AllBare s'.gens) s₁) :
  WalkO q loose XP YP l.row.toRowW d [] (λ f vs=>PySem.call f vs):=by
 intro w s₀ s₁ mg mb G Y fa o pm cd doc dV kV ho hd a4 hD a5 hg args vals as aq a7 a8 a6 a9;obtain rfl:dV=.none:=Dflts.none hD a3;obtain rfl:kV=.none:=Dflts.noKw hD;obtain⟨a,vs,ns,rfl,rfl,ar,hints,hlen⟩:=zo hn aq a6;refine enter_call (Rt (call w s₀ s₁ mg mb fa o pm cd doc a vs ns G Y ho (fd_plain hd) a4 a5 ar hints hlen hg) λ r s' hq=>?_);obtain⟨rfl,h2,h3,h4⟩:=hq;exact⟨.inl ⟨.bool true,.bool true,[],rfl,λ _=>rfl,.bool true,zp l _,λ _=>⟨List.Pairwise.nil,λ _ hm=>(nomatch hm)⟩⟩,h2,h3,h4⟩
section
variable {prog:Program}{w:World}{A:Around}{E:Value->Shared->Prop}{s:Shared}{K:Frag}
def Px(h:Heap)(L d:Addr):List (Addr × Obj):=(List.range h.objs.size).filterMap λ a=>if a=L\/a=d then none else (h.get? a).map λ o=>(a,o)
end
end Att
namespace L2
open PySem PySem.Spec PyProof.Rows
def pM:∀ {vs:List Value}{ns:List Int},IntsAre vs ns->bf (ns.map V.int) vs
 | _,_,.nil=>.nil
 | _,_,.cons n t h=>.cons ⟨t,rfl⟩ (pM h)
abbrev KOf{K:PySem.W.Frag}{h:Heap}(_:K.In h):PySem.W.Frag:=K
def aA(s:Stmt)(j:Nat):Stmt:=match s with
 | .ClassDef _ _ _ body _ _ _ _ _ _ _=>body.getD j (.Pass ⟨0,0,0,0⟩)
 | _=>.Pass ⟨0,0,0,0⟩
def fO(s:Stmt):Arguments:=match s with
 | .FunctionDef _ a _ _ _ _ _ _ _ _=>a
 | _=>{ posonlyargs:=[],args:=[],vararg:=none,kwonlyargs:=[],kw_defaults:=[],kwarg:=none,defaults:=[] }
def cX(s:Stmt):List Stmt:=match s with
 | .FunctionDef _ _ b _ _ _ _ _ _ _=>b
 | _=>[]
def aa(s:Stmt):Scope:=match s with
 | .FunctionDef _ _ _ _ _ _ sc _ _ _=>sc
 | _=>{ kind:=.function,names:=[],isGenerator:=false,isCoroutine:=false }
abbrev CX0:CXT:=λ _ _ _ _ _ _=>False
abbrev E0:XK:=λ _ _ _=>False
def aC{X:Cx}:gS CX0 X E0:=λ _ _ _ _ _ _ _ h=>h.elim
structure Fun(K:W.Frag)(x qual:Str)(st:Stmt)(f:Addr)(fd:FuncData):Prop where
 ex:∃ (oc:Value) (od:Option Addr) (kV doc pm:Value) (an:Option Addr) (cdv ct:Value) (osl:Array (Option Value)),
  fd=W.fnOf x qual (fO st) (cX st) (aa st) .none kV doc pm an cdv ct/\K.lookup f=some ⟨oc,od,.func fd,osl⟩/\W.codeIn K cdv qual=true
 kp:W.keepIn K (.ref f)=true
section
variable {P:Program}{w:World}{K:PySem.W.Frag}{mg:Str->Option Value}{base:Heap}
def Fun.ok{x qual:Str}{st:Stmt}{f:Addr}{fd:FuncData}{N ps:List Str}{k:Nat}{sp:Sp}(F:Fun K x qual st f fd)(S:ah N ps (aa st))(len:∀ vs H Q E,sp vs H Q E->vs.length=ps.length)
  (aq:∀ (cdv:Value) (A:Around) (outer:List Env) (s:Shared) (H:Hp) (vs:List V) (Q:VK) (E:XK),fG k (A.deeper (envOfC qual (aa st) s.heap.objs.size f cdv))->sp vs H Q E →
   ∃ t,PSs (w9 CX0 P w K mg base N qual (aa st) f cdv A outer s H E).nox (cX st) t/\t { nx:=λ _ H'=>Q .non H',rt:=Q } (ao N vs) H):aM P w K mg base CX0 (k+1) f fd ps sp:=by
 obtain⟨oc,od,kV,doc,pm,an,cdv,ct,osl,rfl,lk,ar⟩:=F.ex;refine E5 lk ar S len λ A outer s H vs Q E hr a3=>?_;obtain⟨t,h,q⟩:=aq cdv A outer s H vs Q E hr a3;exact⟨t,h.nox,q⟩
def Fun.binds{x qual:Str}{st:Stmt}{f:Addr}{fd:FuncData}{ps:List Str}(F:Fun K x qual st f fd)
  (h:∀ (kV doc pm:Value) (an:Option Addr) (cdv ct:Value) (us:List Value),us.length=ps.length->bindArgs (W.fnOf x qual (fO st) (cX st) (aa st) .none kV doc pm an cdv ct) ⟨us,[]⟩=pure (ps.zip us)):au K fd ps []:=by
 obtain⟨oc,od,kV,doc,pm,an,cdv,ct,osl,rfl,lk,aq⟩:=F.ex;exact .all (h kV doc pm an cdv ct)
def Ek{x qual:Str}{st:Stmt}{f:Addr}{oc:Value}{od an:Option Addr}{osl:Array (Option Value)}{kV doc pm cdv ct:Value}(l:K.lookup f=some ⟨oc,od,.func (W.fnOf x qual (fO st) (cX st) (aa st) .none kV doc pm an cdv ct),osl⟩)
  (c:W.codeIn K cdv qual=true) (k:W.keepIn K (.ref f)=true):Fun K x qual st f (W.fnOf x qual (fO st) (cX st) (aa st) .none kV doc pm an cdv ct):=⟨⟨oc,od,kV,doc,pm,an,cdv,ct,osl,rfl,l,c⟩,k⟩
end
def zm{n:Nat}(h:n<=1000):n < sizeLine:=Nat.lt_of_le_of_lt h (by decide)
section
variable {X:Cx}
def pv(i:Nat){x:Str}{pos:Pos}(hN:X.N[i]? = some x:=by rfl)(hv:Vis X.env.scope x:=by first|exact Or.inl rfl|exact Or.inr (Or.inl rfl)|exact Or.inr (Or.inr rfl))(hd:(x == ("__debug__":Str))=false:=by decide)
  (aq:(x == ("__classdict__":Str))=false:=by decide):PE X (.Name x pos) (MJ i):=Kq hN hv hd aq
end
def Ph{c A B:Prop}[Decidable c](h1:c->A)(h2:¬ c->B):if c then A else B:=by
 by_cases h:c
 ·rw [QE h];exact h1 h
 ·rw [QB h];exact h2 h
def lQ(H H':Hp):Prop:=∀ b o,H b=some o->H' b=some o
def lQ.refl(H:Hp):lQ H H:=λ _ _ h=>h
def lQ.trans{H H1 H2:Hp}(a:lQ H H1)(b:lQ H1 H2):lQ H H2:=λ c o h=>b c o (a c o h)
def lQ.free{H H':Hp}(e:lQ H H'){l:Addr}(h:H' l=Option.none):H l=Option.none:=by
 cases q:H l with
 | none=>rfl
 | some o=>
  rw [e l o q] at h;cases h
def lQ.seq{K:W.Frag}{H H':Hp}{a:Addr}{xs:List V}(e:lQ H H')(h:SqL K H a xs):SqL K H' a xs:=by
 rcases h with (h|⟨o,h⟩)|h
 ·exact .inl (.inl (e _ _ h))
 ·exact .inl (.inr ⟨o,e _ _ h⟩)
 ·exact .inr h
section
variable {κ:Type}[DecidableEq κ]
def fD(kvs:List (κ × V))(k:κ):Option V:=(kvs.find? λ kv=>decide (kv.1=k)).map (·.2)
def lR(kvs:List (κ × V))(k:κ)(v:V):List (κ × V):=
 if (kvs.any λ kv=>decide (kv.1=k))=true then kvs.map (λ kv=>if kv.1=k then (kv.1,v) else kv) else kvs++[(k,v)]
def bH{p:κ × V}{r:List (κ × V)}{k:κ}(e:p.1=k):fD (p::r) k=some p.2:=by simp [fD,Ss,e]
def bI{p:κ × V}{r:List (κ × V)}{k:κ}(e:¬ p.1=k):fD (p::r) k=fD r k:=by simp [fD,Ss,e]
def gy(k:κ):∀ kvs:List (κ × V),(kvs.any λ kv=>decide (kv.1=k))=(fD kvs k).isSome
 | []=>rfl
 | p::r=>by
  rw [List.any_cons]
  by_cases e:p.1=k
  ·simp only [bH e,Rh e,Bool.true_or,Option.isSome_some]
  ·rw [bI e,QW e,S9];exact gy k r
def ux(k j:κ)(y:V):∀ kvs:List (κ × V),fD (kvs.map λ kv=>if kv.1=k then (kv.1,y) else kv) j=(fD kvs j).map λ x=>if j=k then y else x
 | []=>rfl
 | p::r=>by
  have ih:=ux k j y r;rw [Rj]
  by_cases h:p.1=k
  ·rw [QE h]
   by_cases e:p.1=j
   ·rw [bH (p:=(p.1,y)) e,bH e,Ri,QE (e.symm.trans h)]
   ·rw [bI (p:=(p.1,y)) e,bI e,ih]
  ·rw [QB h]
   by_cases e:p.1=j
   ·rw [bH (p:=p) e,bH e,Ri,QB (λ z=>h (e.trans z))]
   ·rw [bI (p:=p) e,bI e,ih]
def pN(k j:κ)(y:V):∀ kvs:List (κ × V),fD kvs k=none->fD (kvs++[(k,y)]) j=if j=k then some y else fD kvs j
 | [],_=>by
  by_cases e:k=j
  ·rw [QE e.symm];exact bH (p:=(k,y)) e
  ·rw [QB (λ z=>e z.symm)];exact bI (p:=(k,y)) e
 | p::r,hn=>by
  rw [SS];have hk:¬ p.1=k:=λ z=>by rw [bH z] at hn;cases hn
  rw [bI hk] at hn;have ih:=pN k j y r hn
  by_cases e:p.1=j
  ·rw [bH e,bH e,QB (λ z=>hk (e.trans z))]
  ·rw [bI e,bI e,ih]
def BH(kvs:List (κ × V))(k j:κ)(y:V):fD (lR kvs k y) j=if j=k then some y else fD kvs j:=by
 unfold lR
 by_cases a:(kvs.any λ kv=>decide (kv.1=k))=true
 ·rw [QE a,ux];rw [gy] at a
  by_cases e:j=k
  ·obtain⟨x,hx⟩:=Sb.mp a;rw [QE e,e,hx,Ri,QE rfl]
  ·rw [QB e]
   cases fD kvs j with
   | none=>rfl
   | some x=>rw [Ri,QB e]
 ·rw [QB a];refine pN k j y kvs ?_;rw [gy] at a
  cases q:fD kvs k with
  | none=>rfl
  | some x=>rw [q] at a;exact(a rfl).elim
def kX(kvs:List (κ × V))(k:κ)(v:V):(lR kvs k v).length<=kvs.length+1:=by
 unfold lR;split
 ·rw [Qk];omega
 ·rw [Qw,RA,List.length_nil];omega
def B2{kvs:List (κ × V)}{k:κ}(v:V)(h:fD kvs k=none):lR kvs k v=kvs++[(k,v)]:=by
 unfold lR;rw [gy,h];exact if_neg (by decide)
def pf.isSome_eq{o:Option V}{u:Option Value}(r:pf o u):o.isSome=u.isSome:=by
 cases o with
 | none=>cases u with
  | none=>rfl
  | some _=>exact(show False from r).elim
 | some _=>cases u with
  | none=>exact(show False from r).elim
  | some _=>rfl
def KV.val{kvs:List (κ × V)}{vs:List (κ × Value)}(r:KV kvs vs)(k:κ):pf (fD kvs k) (valueAt vs k):=by
 unfold KV at r
 induction r with
 | nil=>exact True.intro
 | @cons p q ps qs h t ih=>
  obtain⟨h1,h2⟩:=h
  by_cases e:p.1=k
  ·have e':q.1=k:=h1.symm.trans e;have b:valueAt (q::qs) k=some q.2:=by simp [valueAt,Ss,e']
   rw [bH e,b];exact h2
  ·have e':¬ q.1=k:=λ z=>e (h1.trans z);have b:valueAt (q::qs) k=valueAt qs k:=by simp [valueAt,Ss,e']
   rw [bI e,b];exact ih
def KV.any{kvs:List (κ × V)}{vs:List (κ × Value)}(r:KV kvs vs)(k:κ):(kvs.any λ kv=>decide (kv.1=k))=vs.any λ kv=>decide (kv.1=k):=by
 unfold KV at r
 induction r with
 | nil=>rfl
 | cons h t ih=>rw [List.any_cons,List.any_cons,ih,h.1]
def KV.repl{kvs:List (κ × V)}{vs:List (κ × Value)}(r:KV kvs vs)(k:κ){y:V}{u:Value}(ry:bA y u) :
  KV (kvs.map λ kv=>if kv.1=k then (kv.1,y) else kv) (vs.map λ kv=>if kv.1=k then (kv.1,u) else kv):=by
 unfold KV at r ⊢
 induction r with
 | nil=>exact .nil
 | @cons p q ps qs h t ih=>
  rw [Rj,Rj];refine .cons ?_ ih;obtain⟨h1,h2⟩:=h
  by_cases e:p.1=k
  ·rw [QE e,QE (h1.symm.trans e)];exact⟨h1,ry⟩
  ·rw [QB e,QB (λ z=>e (h1.trans z))];exact⟨h1,h2⟩
def KV.put{kvs:List (κ × V)}{vs:List (κ × Value)}(r:KV kvs vs)(k:κ){y:V}{u:Value}(ry:bA y u):KV (lR kvs k y) (stored vs k u):=by
 unfold lR stored;rw [r.any k]
 by_cases e:(vs.any λ kv=>decide (kv.1=k))=true
 ·rw [QE e,QE e];exact r.repl k ry
 ·rw [QB e,QB e];exact Paired.snoc r ⟨rfl,ry⟩
def KV.length{kvs:List (κ × V)}{vs:List (κ × Value)}(r:KV kvs vs):kvs.length=vs.length:=SV r
end
def xl{P:Program}{w:World}{k:Key}{u:Value}(r:bA (kV k) u):(bU P w).is k u=true:=by
 cases k with
 | inl i=>obtain⟨t,e⟩:=(show ∃ t,u=Value.int i t from r);subst e;exact tD P w i t
 | inr x=>obtain⟨t,e⟩:=(show ∃ t,u=Value.str x t from r);subst e;exact tw P w x t
def pW{P:Program}{w:World}:∀ {ks:List Key}{us:List Value},bf (ks.map kV) us->ItemsAre (bU P w) ks us
 | [],_,r=>by rw [map_nil] at r;cases r;exact .nil
 | k::ks,_,r=>by
  rw [Rj] at r
  cases r with
  | cons h t=>exact .cons (xl h) (pW t)
abbrev KT(H:Hp):List (List Key × V)->List (List Key × Addr × Value)->Prop:=Paired λ p q=>p.1=q.1/\H q.2.1=some (.tup (p.1.map kV))/\bA p.2 q.2.2
def KT.val{H:Hp}{kvs:List (List Key × V)}{xs:List (List Key × Addr × Value)}(r:KT H kvs xs)(k:List Key):pf (fD kvs k) ((atKey xs k).map (·.2)):=by
 induction r with
 | nil=>exact True.intro
 | @cons p q ps qs h t ih=>
  obtain⟨h1,_,h2⟩:=h
  by_cases e:p.1=k
  ·have e':q.1=k:=h1.symm.trans e;have b:atKey (q::qs) k=some q.2:=by simp [atKey,Ss,e']
   rw [bH e,b];exact h2
  ·have e':¬ q.1=k:=λ z=>e (h1.trans z);have b:atKey (q::qs) k=atKey qs k:=by simp [atKey,Ss,e']
   rw [bI e,b];exact ih
def KT.repl{H:Hp}{kvs:List (List Key × V)}{xs:List (List Key × Addr × Value)}(r:KT H kvs xs)(k:List Key){y:V}{u:Value}(ry:bA y u) :
  KT H (kvs.map λ kv=>if kv.1=k then (kv.1,y) else kv) (xs.map (putAt k u)):=by
 induction r with
 | nil=>exact .nil
 | @cons p q ps qs h t ih=>
  rw [map_cons,map_cons];refine .cons ?_ ih;obtain⟨h1,h2,h3⟩:=h;unfold putAt
  by_cases e:p.1=k
  ·rw [QE e,QE (h1.symm.trans e)];exact⟨h1,h2,ry⟩
  ·rw [QB e,QB (λ z=>e (h1.trans z))];exact⟨h1,h2,h3⟩
def KT.put{H:Hp}{kvs:List (List Key × V)}{xs:List (List Key × Addr × Value)}(r:KT H kvs xs)(k:List Key){b:Addr}{y:V}{u:Value}(hb:H b=some (.tup (k.map kV)))(ry:bA y u) :
  KT H (lR kvs k y) (storedH xs k b u):=by
 have e:(kvs.any λ kv=>decide (kv.1=k))=(atKey xs k).isSome:=by
  rw [gy,(r.val k).isSome_eq,Te]
 unfold lR storedH;rw [e]
 by_cases q:(atKey xs k).isSome=true
 ·rw [QE q,QE q];exact r.repl k ry
 ·rw [QB q,QB q];exact Paired.snoc r ⟨rfl,hb,ry⟩
def KT.keeps{H H':Hp}{kvs:List (List Key × V)}{xs:List (List Key × Addr × Value)}(r:KT H kvs xs)(ht:∀ b ys,H b=some (.tup ys)->H' b=some (.tup ys)):KT H' kvs xs:=
 Paired.mapP r λ _ _ z=>⟨z.1,ht _ _ z.2.1,z.2.2⟩
section
variable {P:Program}{w:World}{H:Hp}{h:Heap}{a:Addr}
def Jy{u:HO}(ok:HOk P w H h)(e:Rd H a u):bg P w H h a u:=e.ok ok
def xt{kvs:List (Key × V)}(ok:HOk P w H h)(e:Rd H a (.dK kvs)):kvs.length<=sizeLine/\(a == sysModules)=false/\∃ vs,KV kvs vs/\h.DictOf (bU P w) a vs:=
 show bg P w H h a (.dK kvs) from Jy ok e
def OB{kvs:List (Key × V)}(ok:HOk P w H h)(e:H a=some (.dK kvs)):kvs.length<=sizeLine/\(a == sysModules)=false/\∃ vs,KV kvs vs/\h.DictOf (bU P w) a vs:=xt ok (.inl e)
def pJ{ks:List Key}(ok:HOk P w H h)(e:H a=some (.tup (ks.map kV))):(tupleKind (bU P w)).is h ks a:=by
 obtain⟨_,its,r,o,h1,h2,n,h3⟩:=(show bg P w H h a (.tup (ks.map kV)) from ok a _ e);exact⟨o,its.toArray,n,h1,h2,h3,by simpa using pW r⟩
def xr{kvs:List (List Key × V)}(ok:HOk P w H h)(e:Rd H a (.dT kvs)):kvs.length<=sizeLine/\(a == sysModules)=false /\
  ∃ xs,KT H kvs xs/\h.DictOfH (tupleKind (bU P w)) a xs:=by
 obtain⟨z,y,xs,r,o,es,ep,h1,h2,h3,h4,h5⟩:=(show bg P w H h a (.dT kvs) from Jy ok e);refine⟨z,y,xs,r,o,es,ep,h1,h2,h3,h4,λ x hx=>?_,h5⟩
 have all:∀ {l:List (List Key × V)} {m:List (List Key × Addr × Value)},KT H l m->∀ x∈m,(tupleKind (bU P w)).is h x.1 x.2.1:=by
  intro l m q
  induction q with
  | nil=>intro x hx;exact nomatch hx
  | @cons p q ps qs hq t ih=>
   intro x hx
   rcases QG.mp hx with e|hx
   ·subst e;exact pJ ok (by rw [←hq.1];exact hq.2.1)
   ·exact ih x hx
 exact all r x hx
def OA{kvs:List (List Key × V)}(ok:HOk P w H h)(e:H a=some (.dT kvs)):kvs.length<=sizeLine/\(a == sysModules)=false /\
  ∃ xs,KT H kvs xs/\h.DictOfH (tupleKind (bU P w)) a xs:=xr ok (.inl e)
end
def xg(H:Hp)(a:Addr)(y:V)(r:Option V):Prop:=
 (∃ kvs k,Rd H a (.dK kvs)/\y=kV k/\r=fD kvs k)\/∃ kvs k b,Rd H a (.dT kvs)/\y=.ref b/\H b=some (.tup (k.map kV))/\r=fD kvs k
def Jd(H:Hp)(a:Addr)(y v:V)(H':Hp):Prop:=
 (∃ kvs k,H a=some (.dK kvs)/\y=kV k/\kvs.length < sizeLine/\H'=upd H a (.dK (lR kvs k v))) \/
 ∃ kvs k b,H a=some (.dT kvs)/\y=.ref b/\H b=some (.tup (k.map kV))/\kvs.length < sizeLine/\H'=upd H a (.dT (lR kvs k v))
def xg.k{H:Hp}{a:Addr}{kvs:List (Key × V)}{k:Key}(e:H a=some (.dK kvs)):xg H a (kV k) (fD kvs k):=.inl ⟨kvs,k,.inl e,rfl,rfl⟩
def Jd.k{H:Hp}{a:Addr}{kvs:List (Key × V)}{k:Key}{v:V}(e:H a=some (.dK kvs))(hl:kvs.length < sizeLine):Jd H a (kV k) v (upd H a (.dK (lR kvs k v))):=.inl ⟨kvs,k,e,rfl,hl,rfl⟩
section
variable {X:Cx}{pins:List (Addr × Obj)}{σ:St}{H:Hp}{s:Shared}{a:Addr}{y v:V}{u r:Value}{o:Option V}{A:Around}{E:Value->Shared->Prop}
def Inv.big(I:Inv X pins σ H s):sysModules < s.heap.objs.size:=by
 have h:mainGlobals < s.heap.objs.size:=(I.mod.glob.keeps I.bk).lt;exact Se (by decide) h
def AN{Q:Value->Shared->Prop}(hu:A.units+1 < cLine)(I:Inv X pins σ H s)(g:xg H a y (some v))(ry:bA y u)(h:∀ w' s',Inv X pins σ H s'->bA v w'->Q w' s') :
  wpAny (model X.prog X.w) A (getItem (.ref a) u) Q E s:=by
 rcases g with ⟨kvs,k,e,ey,l⟩|⟨kvs,k,b,e,ey,eb,l⟩
 ·subst ey;obtain⟨z,hd,vs,rel,dd⟩:=xt I.hok e;obtain⟨w',hw,aq⟩:=pf.some_of (v:=v) (o:=valueAt vs k) (by rw [l];exact rel.val k);exact wpAny_getItem_of (xl ry) dd.mapOf hw (h w' _ (I.tok _) aq)
 ·subst ey;cases (show u=Value.ref b from ry);obtain⟨z,hd,xs,rel,dd⟩:=xr I.hok e;obtain⟨w',hw,aq⟩:=pf.some_of (v:=v) (o:=(atKey xs k).map (·.2)) (by rw [l];exact rel.val k);obtain⟨p,hp,ar⟩:=Qj.mp hw;refine wpAny_getItem_heap (SJ hu) (pJ I.hok eb) dd hp ?_;rw [ar];exact h w' _ (I.tok _) aq
def P6{Q:Value->Shared->Prop}(hu:A.units+1 < cLine)(I:Inv X pins σ H s)(g:xg H a y o)(ry:bA y u)(h:∀ s',Inv X pins σ H s'->Q (.bool o.isSome) s') :
  wpAny (model X.prog X.w) A (compareOp .In u (.ref a)) Q E s:=by
 rcases g with ⟨kvs,k,e,ey,l⟩|⟨kvs,k,b,e,ey,eb,l⟩
 ·subst ey;obtain⟨z,hd,vs,rel,dd⟩:=xt I.hok e;refine wpAny_in_of (xl ry) hd dd.mapOf ?_;rw [←(rel.val k).isSome_eq,←l];exact h _ (I.tok _)
 ·subst ey;cases (show u=Value.ref b from ry);obtain⟨z,hd,xs,rel,dd⟩:=xr I.hok e;refine wpAny_in_heap (SJ hu) (pJ I.hok eb) hd dd ?_;have q:=(rel.val k).isSome_eq;rw [Te] at q;rw [←q,←l];exact h _ (I.tok _)
def IE{Q:Value->Shared->Prop}(hu:A.units+1 < cLine)(I:Inv X pins σ H s)(g:xg H a y o)(ry:bA y u)(h:∀ s',Inv X pins σ H s'->Q (.bool (!o.isSome)) s') :
  wpAny (model X.prog X.w) A (compareOp .NotIn u (.ref a)) Q E s:=by
 rcases g with ⟨kvs,k,e,ey,l⟩|⟨kvs,k,b,e,ey,eb,l⟩
 ·subst ey;obtain⟨z,hd,vs,rel,dd⟩:=xt I.hok e;refine wpAny_notIn_of (xl ry) hd dd.mapOf ?_;rw [←(rel.val k).isSome_eq,←l];exact h _ (I.tok _)
 ·subst ey;cases (show u=Value.ref b from ry);obtain⟨z,hd,xs,rel,dd⟩:=xr I.hok e;refine wpAny_notIn_heap (SJ hu) (pJ I.hok eb) hd dd ?_;have q:=(rel.val k).isSome_eq;rw [Te] at q;rw [←q,←l];exact h _ (I.tok _)
def yP{h':Heap}{t':Nat}{ob:HO}(I:Inv X pins σ H s)(mu:Mut (H a))(hs:Heap.SameBut a s.heap h')(he:∃ q,h'.get? a=some q)(new:bg X.prog X.w (upd H a ob) h' a ob) :
  Inv X pins σ (upd H a ob) { s with heap:=h',toks:=t' }:=
 I.write (x:=a) (e:=a) mu (.inl rfl) (λ b q hb z=>(hs.2 b hb).trans z) he new
def Mc{P:Program}{w:World}{H':Hp}{h':Heap}{kvs:List (Key × V)}{vs:List (Key × Value)}(z:kvs.length<=sizeLine)(hd:(a == sysModules)=false)(rel:KV kvs vs)(dd:h'.DictOf (bU P w) a vs) :
  bg P w H' h' a (.dK kvs):=⟨z,hd,vs,rel,dd⟩
def AM{H':Hp}{Q:Unit->Shared->Prop}(hu:A.units+1 < cLine)(I:Inv X pins σ H s)(g:Jd H a y v H')(ry:bA y u)(rv:bA v r)(h:∀ s',Inv X pins σ H' s'->Q () s') :
  wpAny (model X.prog X.w) A (setItem (.ref a) u r) Q E s:=by
 rcases g with ⟨kvs,k,e,ey,l,eH⟩|⟨kvs,k,b,e,ey,eb,l,eH⟩
 ·subst ey eH;obtain⟨z,hd,vs,rel,dd⟩:=OB I.hok e;have hz:vs.length<=sizeLine:=by rw [←rel.length];exact z
  have hl:(lR kvs k v).length<=sizeLine:=by have:=kX kvs k v;omega
  refine wpAny_setItem_pairs (hsz:=hz) (xl ry) dd λ h' aq hs=>h _ ?_;have he:∃ q,h'.get? a=some q:=let ⟨q,_,_,hq,_⟩:=aq;⟨q,hq⟩;exact yP I (by rw [e];exact True.intro) hs he (Mc hl hd (rel.put k rv) aq)
 ·subst ey eH;cases (show u=Value.ref b from ry);obtain⟨z,hd,xs,rel,dd⟩:=OA I.hok e;have hz:xs.length<=sizeLine:=by rw [←SV rel];exact z
  have hl:(lR kvs k v).length<=sizeLine:=by have:=kX kvs k v;omega
  refine wpAny_setItem_heap (hsz:=hz) (SJ hu) (pJ I.hok eb) dd λ h' aq hs=>h _ ?_;obtain⟨q,es,ep,hq,h2,h3,h4,_,h5⟩:=aq;refine yP I (by rw [e];exact True.intro) hs ⟨q,hq⟩ ⟨hl,hd,_,(rel.put k eb rv).keeps λ c ys ec=>?_,q,es,ep,hq,h2,h3,h4,h5⟩;rw [ae (NM ec e (λ z=>nomatch z))];exact ec
end
section
variable {X:Cx}{pins:List (Addr × Obj)}{σ:St}{H:Hp}{s:Shared}{a:Addr}{kvs:List (Key × V)}{k:Key}{u:Value}{A:Around}{E:Value->Shared->Prop}
end
def Pq(i:Expr):Prop:=∀ ov iv,subscripted i false ov iv=operate [ov,iv] (getItem ov iv)
def Fm{prog:Program}{w:World}{A:Around}{E:Value->Shared->Prop}{s:Shared}{env:Env}{value slice:Expr}{pos:Pos}{T id:String}{Q:Value->Shared->Prop}
  (hl:typeLookup (.type T) "__getitem__"=pure (some (.builtin id))) (hs:Pq slice)
  (h:wpAny (model prog w) A (eval value env) (λ o s₁=>wpAny (model prog w) A (eval slice env) (λ i s₂=>s₂.TypeIs o T/\wpAny (model prog w) A (getItem o i) Q E s₂) E s₁) E s) :
  wpAny (model prog w) A (eval (.Subscript value slice pos) env) Q E s:=by
 refine Subscript_ (wpAny_mono h (λ o s₁ h₁=>wpAny_mono h₁ (λ i s₂ h₂=>?_) λ _ _ x=>x) λ _ _ x=>x);obtain⟨hT,h₂⟩:=h₂;unfold subscriptTail;refine wpAny_bind ?_;rw [getitemInPython_of_ne hT.not_modules];refine wpAny_bind (wpAny_specialOf hT hl ?_)
 have fin:wpAny (model prog w) A (subscripted slice false o i) (λ r s₃=>wpAny (model prog w) A (letTemporaryGo value o r >>= λ _=>pure r) Q E s₃) E s₂:=by
  rw [hs o i];exact wpAny_operating (Rf h₂ (λ r s₃ h₃=>My (wpAny_letTemporaryGo (Ql h₃))) λ _ _ x=>x)
 first
  | exact Ql (My fin)
  | exact My (Ql (My fin))
  | exact My fin
def tQ{X:Cx}{pins:List (Addr × Obj)}{σ:St}{H:Hp}{s:Shared}{a:Addr}{y:V}{o:Option V}(I:Inv X pins σ H s)(g:xg H a y o):s.TypeIs (.ref a) "dict":=by
 rcases g with ⟨kvs,k,e,_,_⟩|⟨kvs,k,b,e,_,_,_⟩
 ·obtain⟨_,_,vs,_,dd⟩:=xt I.hok e;exact dd.typeIs
 ·obtain⟨_,_,xs,_,dd⟩:=xr I.hok e;exact dd.typeIs
def Js(td ty:TE):TE:=λ σ H Q=>td σ H λ x H1=>ty σ H1 λ y H2=>∃ a v,x=.ref a/\xg H2 a y (some v)/\Q v H2
def Jw(td ty tv:TE):TS:=λ D σ H=>tv σ H λ v H1=>td σ H1 λ x H2=>ty σ H2 λ y H3=>∃ a H4,x=.ref a/\Jd H3 a y v H4/\D.nx σ H4
section
variable {X:Cx}{o i e value:Expr}{pos pos' tpos:Pos}{td ty tv:TE}
def sI(hu:X.A.units+1 < cLine)(ho:PE X o td)(hi:PE X i ty)(hs:Pq i):PE X (.Subscript o i pos) (Js td ty):=by
 intro pins s σ H Q I h;refine Fm PySem.F.slot_dict_getitem.lookup hs (thn (ho pins s σ H _ I h) λ u s1 ⟨x,H1,I1,rx,q1⟩=>thn (hi pins s1 σ H1 _ I1 q1) λ iv s2 ⟨y,H2,I2,ry,a,v,ex,g,q2⟩=>?_);subst ex;obtain rfl:u=Value.ref a:=rx;exact⟨tQ I2 g,AN hu I2 g ry λ w' s3 I3 aq=>⟨v,H2,I3,aq,q2⟩⟩
def ny(hu:X.A.units+1 < cLine)(ho:PE X o td)(hi:PE X i ty)(hv:PE X value tv)(hs:swapsWith value (some (.Subscript o i pos')) pos.line X.env=pure false) :
  PS X (.Assign [.Subscript o i pos'] value pos) (Jw td ty tv):=by
 intro pins s σ H D I h;refine wpAny_Assign_Subscript (thn (hv pins s σ H _ I h) λ r s1 ⟨v,H1,I1,rv,q1⟩=>thn (ho pins s1 σ H1 _ I1 q1) λ u s2 ⟨x,H2,I2,rx,q2⟩=>thn (hi pins s2 σ H2 _ I2 q2) λ iv s3 ⟨y,H3,I3,ry,a,H4,ex,g,q3⟩=>?_) hs;subst ex;obtain rfl:u=Value.ref a:=rx;exact AM hu I3 g ry rv λ s4 I4=>⟨σ,H4,I4,q3⟩
end
def DC{P:Program}{w:World}{H:Hp}(h:Heap)(hb:sysModules < h.objs.size):bg P w H (h.push { cls:=.type "dict",data:=.dict #[] }) h.objs.size (.dK []):=
 ⟨QK _,RB.mpr (QS (Qy hb)),[],.nil,Heap.DictOf.new h⟩
def Kf:TE:=λ _ H Q=>∀ p,H p=none->Q (.ref p) (upd H p (.dK []))
section
variable {X:Cx}{pos:Pos}
def Cd:PE X (.Dict [] [] pos) Kf:=λ pins s σ H Q I h=>
 wpAny_Dict_empty ⟨.ref s.heap.objs.size,_,I.laid (a:=s.heap.objs.size) (o:=.dK []) (t':=s.toks) (λ _ _ q=>Qg _ q) (Qi _) (DC s.heap I.big),rfl,h _ (I.hok.fresh (Qi _))⟩
end
structure M1(X:Cx)(o:Expr)(m:Str)(apos:Pos)(e:Expr)(cpos:Pos):Prop where
 base:attributeBase o m X.env (eval o X.env)=eval o X.env
 few:((backTo cpos (starEach [e] X.env)).all (λ x=>!x.1) && (backToKw cpos (keywordEach [] X.env)).all (λ x=>x.1.isSome)
  && decide (([e]:List Expr).length+([]:List Keyword).length+(if ([]:List Keyword).isEmpty then 0 else 1) < 30))=true
 line:(apos.endLine == cpos.line)=true
 trees:backTo cpos (starEach [e] X.env)=[(false,eval e X.env)]
structure M2(X:Cx)(o:Expr)(m:Str)(apos:Pos)(e f:Expr)(cpos:Pos):Prop where
 base:attributeBase o m X.env (eval o X.env)=eval o X.env
 few:((backTo cpos (starEach [e,f] X.env)).all (λ x=>!x.1) && (backToKw cpos (keywordEach [] X.env)).all (λ x=>x.1.isSome)
  && decide (([e,f]:List Expr).length+([]:List Keyword).length+(if ([]:List Keyword).isEmpty then 0 else 1) < 30))=true
 line:(apos.endLine == cpos.line)=true
 trees:backTo cpos (starEach [e,f] X.env)=[(false,eval e X.env),(false,eval f X.env)]
section
variable {X:Cx}{pins:List (Addr × Obj)}{σ:St}{H:Hp}{s:Shared}{a:Addr}{y d:V}{u r:Value}{o:Option V}{A:Around}{E:Value->Shared->Prop}
end
section
variable {X:Cx}{o e f:Expr}{apos cpos:Pos}{td ty tx:TE}
end
section
variable {X:Cx}{pins:List (Addr × Obj)}{σ:St}{H:Hp}{s:Shared}{a:Addr}{kvs:List (Key × V)}{A:Around}{E:Value->Shared->Prop}
end
section
variable {X:Cx}{pins:List (Addr × Obj)}{σ:St}{H:Hp}{s:Shared}{a:Addr}{y:V}{u:Value}{A:Around}{E:Value->Shared->Prop}
end
section
variable {κ:Type}[DecidableEq κ]
end
section
variable {X:Cx}
def E9(i j:Int):Prop:=i.natAbs < 2 ^ 256/\j.natAbs < 2 ^ 256
def yS{i:Int}(h:i.natAbs < 2 ^ 256):Builtin.Int.intBits i<=2 ^ 20:=QP (intBits_le h) (by decide)
def FU:OpR X (binaryOp .Mult) (rI E9 λ i j=>.int (i * j)):=opI λ _ _ _ _ _ _ _ hc q=>mul_int q (IntMulOk.of_bits (yS hc.1) (yS hc.2))
def Fb(_ j:Int):Prop:=j ≠ 0/\j.natAbs < 2 ^ 256
def LX{j:Int}(h:j ≠ 0)(hj:j.natAbs < 2 ^ 256):j.natAbs.log2 < 9000:=by
 have h0:j.natAbs ≠ 0:=by omega
 have h1:=(Nat.log2_lt h0).mpr hj;omega
def Ci:OpR X (binaryOp .FloorDiv) (rI Fb λ i j=>.int (i.fdiv j)):=opI λ _ _ _ _ _ _ _ hc q=>floordiv_int hc.1 q (.inl (PyProof.noPylong_of_log2 (LX hc.1 hc.2)))
def DF:b9 X (.builtin "isinstance") (λ xs H Q=>∃ x n ty b,xs=[x,.ty n]/\uc X.K H x ty/\W.kitOne X.K ty (.type n)=some b/\Q (.bl b) H):=by
 intro pins s σ H xs us Q I r h;obtain⟨x,n,ty,b,rfl,aq,hk,q⟩:=h;obtain⟨u,w',rfl,rx,rc⟩:=Bp r;cases (show w'=Value.type n from rc);exact AD I rx aq hk (λ tk=>⟨.bl b,H,I.tok _,rfl,q⟩)
def Az(K:W.Frag)(A B:String)(r:Bool)
  (h:(if (Value.type A == Value.type B)=true then some true else if W.kitMeta B=true then (fastBuiltinMro A).map (·.contains (.type B)) else none)=some r):W.kitOne K (.type A) (.type B)=some r:=h
mutual
inductive nh (K:PySem.W.Frag) (H:Hp):V->PyData->Prop
 | non:nh K H .non .none
 | bl (b:Bool):nh K H (.bl b) (.bool b)
 | int (i:Int):nh K H (.int i) (.int i)
 | str (x:Str):nh K H (.str x) (.str x)
 | lst {a:Addr} {xs:List V} {ds:List PyData} (h:SqL K H a xs) (r:jX K H xs ds):nh K H (.ref a) (.list ds)
 | tup {a:Addr} {xs:List V} {ds:List PyData} (h:SqT K H a xs) (r:jX K H xs ds):nh K H (.ref a) (.tuple ds)
inductive jX (K:PySem.W.Frag) (H:Hp):List V->List PyData->Prop
 | nil:jX K H [] []
 | cons {x:V} {d:PyData} {xs:List V} {ds:List PyData} (h:nh K H x d) (t:jX K H xs ds):jX K H (x::xs) (d::ds)
end
mutual
def nh.reads{pins:List (Addr × Obj)}{σ:St}{H:Hp}{s:Shared}(I:Inv X pins σ H s):∀ {x:V}{d:PyData}{u:Value},nh X.K H x d->bA x u->∃ as,Reads s.heap u d as
 | _,_,_,.non,r=>by cases (show _=Value.none from r);exact⟨_,.none⟩
 | _,_,_,.bl b,r=>by cases (show _=Value.bool b from r);exact⟨_,.bool b⟩
 | _,_,_,.int i,r=>by obtain⟨t,rfl⟩:=r;exact⟨_,.int i t⟩
 | _,_,_,.str x,r=>by obtain⟨t,rfl⟩:=r;exact⟨_,.str x t⟩
 | _,_,_,@nh.lst _ _ a xs ds h q,r=>by
  cases (show _=Value.ref a from r);obtain⟨its,hv,hp,_⟩:=I.list h;obtain⟨o,n,e,c,_,d⟩:=hp;obtain⟨as,z⟩:=jX.reads I q hv;exact⟨_,.list e c d (by simpa using z)⟩
 | _,_,_,@nh.tup _ _ a xs ds h q,r=>by
  cases (show _=Value.ref a from r);obtain⟨its,hv,hp,_⟩:=I.tuple h;obtain⟨o,e,c,n,d⟩:=hp;obtain⟨as,z⟩:=jX.reads I q hv;exact⟨_,.tuple e c d (by simpa using z)⟩
def jX.reads{pins:List (Addr × Obj)}{σ:St}{H:Hp}{s:Shared}(I:Inv X pins σ H s):∀ {xs:List V}{ds:List PyData}{us:List Value},jX X.K H xs ds->bf xs us->∃ as,ReadsAll s.heap us ds as
 | _,_,_,.nil,.nil=>⟨_,.nil⟩
 | _,_,_,.cons h t,.cons r q=>by
  obtain⟨as,z⟩:=nh.reads I h r;obtain⟨bs,y⟩:=jX.reads I t q;exact⟨_,.cons z y⟩
end
def PU(K:W.Frag):R2:=λ x y H Q=>∃ d e,nh K H x d/\nh K H y e/\SeqAt.shaped d=true/\SeqAt.shaped e=true/\Q (.bl (PyData.eqv d e)) H
def PN(K:W.Frag):R2:=λ x y H Q=>∃ d e,nh K H x d/\nh K H y e/\SeqAt.shaped d=true/\SeqAt.shaped e=true/\Q (.bl (!PyData.eqv d e)) H
def KC(hu:X.A.units+64 < cLine):OpR X (compareOp .Eq) (PU X.K):=by
 intro pins s σ H x y v u Q I rx ry h;obtain⟨d,e,hd,he,sd,se,q⟩:=h;obtain⟨as,z⟩:=hd.reads I rx;obtain⟨bs,z'⟩:=he.reads I ry;exact SeqAt.compareEq_shaped z z' sd se hu ⟨.bl _,H,I,rfl,q⟩
def Kz(hu:X.A.units+64 < cLine):OpR X (compareOp .NotEq) (PN X.K):=by
 intro pins s σ H x y v u Q I rx ry h;obtain⟨d,e,hd,he,sd,se,q⟩:=h;obtain⟨as,z⟩:=hd.reads I rx;obtain⟨bs,z'⟩:=he.reads I ry;exact SeqAt.compareNe_shaped z z' sd se hu ⟨.bl _,H,I,rfl,q⟩
end
def BS{H:Hp}{p:Addr}{o:HO}(h:H p=none):lQ H (upd H p o):=λ b u e=>by
 rw [ae (ag e h)];exact e
def Es{α:Type}(xs:List α)(i:Int)(h0:0<=i)(h1:i < xs.length):∃ v,atI xs i=some v/\v∈xs:=by
 have hl:i.toNat < xs.length:=by omega
 refine⟨xs[i.toNat],?_,RH hl⟩;have e:((i.toNat:Nat):Int)=i:=by omega
 have:=bL (xs:=xs) (j:=i.toNat) (v:=xs[i.toNat]) (Qf hl);rw [e] at this;exact this
def u4(ns:List Int)(i:Int)(h0:0<=i)(h1:i < ns.length):∃ z,atI (ns.map V.int) i=some (.int z)/\z∈ns:=by
 obtain⟨v,e,m⟩:=Es (ns.map V.int) i h0 (by simpa using h1);obtain⟨z,hz,rfl⟩:=QN.mp m;exact⟨z,e,hz⟩
def pe(cells:List (Str × Addr)):List (Str × NameKind)->List (Str × Addr)->List (Str × Addr)
 | [],acc=>acc
 | (n,k)::r,acc=>if (k == .free)=true then pe cells r ((n,(cells.lookup n).getD 0)::acc) else pe cells r acc
def ip{env:Env}:∀ (names:List (Str × NameKind)) (acc:List (Str × Addr)),(∀ y∈names,y.2=.free->∃ c,env.cells.lookup y.1=some c) →
  (forIn names acc (λ (x:Str × NameKind) (cs:List (Str × Addr))=>match x with
   | (name,kind)=>if (kind == .free)=true then (do let a ←cellOf env name;pure (ForInStep.yield ((name,a)::cs))) else (do pure PUnit.unit;pure (ForInStep.yield cs))):Sem (List (Str × Addr)))=pure (pe env.cells names acc)
 | [],acc,_=>rfl
 | (n,k)::r,acc,h=>by
  rw [Tz];have hr:∀ y∈r,y.2=.free->∃ c,env.cells.lookup y.1=some c:=λ y hy=>h y (Qt _ hy)
  by_cases hk:(k == .free)=true
  ·obtain⟨c,hc⟩:=h (n,k) mem_cons_self (by simpa using hk);have aq:env.cells.lookup n=some c:=hc;simp only [hk,if_true,pe,aq,Option.getD_some];have e:cellOf env n=pure c:=by unfold cellOf;rw [aq]
   rw [e];exact ip r _ hr
  ·simp only [hk,S6,pe];exact ip r acc hr
def iP{scope:Scope}{env:Env}(h:∀ y∈scope.names,y.2=.free->∃ c,env.cells.lookup y.1=some c):closureFor scope env=pure (pe env.cells scope.names []):=by
 unfold closureFor;have:=ip (env:=env) scope.names [] h
 first
  | exact(RS (λ m=>m >>= λ cs=>pure cs) this).trans (pure_bind _ _)
  | (simp only [] at this ⊢;rw [this];rfl)
def oq{cells:List (Str × Addr)}{x:Str}{c:Addr}:∀ {names:List (Str × NameKind)}{acc:List (Str × Addr)},(∀ y∈names,y.2=.free->∃ c,cells.lookup y.1=some c)->(pe cells names acc).lookup x=some c->acc.lookup x=some c\/cells.lookup x=some c
 | [],acc,_,h=>.inl h
 | (n,k)::r,acc,hf,h=>by
  have hr:∀ y∈r,y.2=.free->∃ c,cells.lookup y.1=some c:=λ y hy=>hf y (mem_cons_of_mem _ hy);unfold pe at h
  by_cases hk:(k == .free)=true
  ·rw [QE hk] at h
   rcases oq hr h with q|q
   ·rw [RG] at q
    cases hx:x == n with
    | true=>
     rw [hx] at q;obtain⟨d,hd⟩:=hf (n,k) Qv (by simpa using hk);have e:x=n:=by simpa using hx
     subst e;have aq:cells.lookup x=some d:=hd;rw [aq] at q ⊢;exact .inr (by simpa using q)
    | false=>rw [hx] at q;exact .inl q
   ·exact .inr q
  ·rw [QB hk] at h;exact oq hr h
def ou{cells:List (Str × Addr)}{x:Str}:∀ {names:List (Str × NameKind)}{acc:List (Str × Addr)},(∀ y∈names,y.2=.free->∃ c,cells.lookup y.1=some c)->(∃ c,acc.lookup x=some c)->∃ c,(pe cells names acc).lookup x=some c
 | [],acc,_,h=>h
 | (n,k)::r,acc,hf,h=>by
  have hr:∀ y∈r,y.2=.free->∃ c,cells.lookup y.1=some c:=λ y hy=>hf y (mem_cons_of_mem _ hy);unfold pe
  by_cases hk:(k == .free)=true
  ·rw [QE hk];refine ou hr ?_;rw [RG]
   cases hx:x == n with
   | true=>exact⟨_,rfl⟩
   | false=>exact h
  ·rw [QB hk];exact ou hr h
def jT{cells:List (Str × Addr)}{x:Str}:∀ {names:List (Str × NameKind)}{acc:List (Str × Addr)},(∀ y∈names,y.2=.free->∃ c,cells.lookup y.1=some c)->names.lookup x=some .free->∃ c,(pe cells names acc).lookup x=some c
 | [],acc,_,h=>by simp at h
 | (n,k)::r,acc,hf,h=>by
  have hr:∀ y∈r,y.2=.free->∃ c,cells.lookup y.1=some c:=λ y hy=>hf y (mem_cons_of_mem _ hy);rw [lookup_cons] at h;unfold pe
  cases hx:x == n with
  | true=>
   rw [hx] at h;have hk:k=.free:=by simpa using h
   subst hk;rw [QE (show (NameKind.free == NameKind.free)=true from rfl)];refine ou hr ⟨(cells.lookup n).getD 0,?_⟩;rw [RG,hx]
  | false=>
   rw [hx] at h
   by_cases hk:(k == .free)=true
   ·rw [QE hk];exact jT hr h
   ·rw [QB hk];exact jT hr h
def gE{x:Str}{k:NameKind}:∀ {names:List (Str × NameKind)},names.lookup x=some k->(x,k)∈names
 | [],h=>by simp at h
 | (n,j)::r,h=>by
  rw [RG] at h
  cases hx:x == n with
  | true=>
   rw [hx] at h;have e:x=n:=by simpa using hx
   have e2:j=k:=by simpa using h
   subst e;subst e2;exact Qv
  | false=>rw [hx] at h;exact Qt _ (gE h)
def eF{env:Env}{x:Str}:∀ {names:List (Str × NameKind)},
  (names.map λ (n,k)=>if (k == NameKind.free && env.scope.kind == .function && env.kindOf n == some .cell) then (n,NameKind.cell) else (n,k)).lookup x
   = (names.lookup x).map λ k=>if (k == NameKind.free && env.scope.kind == .function && env.kindOf x == some .cell) then NameKind.cell else k
 | []=>rfl
 | (n,k)::r=>by
  have ih:=@eF env x r
  show List.lookup x ((if (k == NameKind.free && env.scope.kind == .function && env.kindOf n == some .cell)=true then (n,NameKind.cell) else (n,k))::_)=_
  cases hx:x == n with
  | true=>
   have e:x=n:=by simpa using hx
   subst e
   by_cases hc:(k == NameKind.free && env.scope.kind == .function && env.kindOf x == some .cell)=true
   ·rw [QE hc];simp only [RG,RY,Ri];rw [QE hc]
   ·rw [QB hc];simp only [RG,RY,Ri];rw [QB hc]
  | false=>
   by_cases hc:(k == NameKind.free && env.scope.kind == .function && env.kindOf n == some .cell)=true
   ·rw [QE hc];simp only [RG,hx];exact ih
   ·rw [QB hc];simp only [RG,hx];exact ih
abbrev cCx(X:Cx)(scope:Scope)(N':List Str)(C:Addr)(s₀:Shared)(H₀:Hp)(ex:List Addr)(pn:List (Addr × Obj)):Cx:=
 { X with N:=N',s₀:=s₀,H₀:=H₀,env:=compEnvC scope (pe X.env.cells scope.names []) C X.env,outer:=X.stack,stack:=X.stack,ex:=ex,fn:=λ _=>false,pn:=pn,xe:=λ _ _=>False }
def PTs(Y:Cx)(ifs:List Expr)(t:TT):Prop:=
 ∀ (pins:List (Addr × Obj)) (s:Shared) (σ:St) (H:Hp) (Q:Bool->Hp->Prop),Inv Y pins σ H s->t σ H Q →
  wpAny (model Y.prog Y.w) Y.A (forIn ifs true λ c r=>if r=true then do let ok ←isTrue c Y.env (eval c Y.env);pure (ForInStep.yield ok) else pure (ForInStep.yield r)) (TP Y pins σ Q) Y.xe s
def OJ:TT:=λ _ H Q=>Q true H
def bo{Y:Cx}:PTs Y [] OJ:=λ _ _ _ H _ I h=>Ql ⟨H,I,h⟩
def nu{Y:Cx}{c:Expr}{t:TT}(h:PT Y c t):PTs Y [c] t:=λ pins s σ H Q I hw=>PySem.wpAny_tests_one (h pins s σ H Q I hw)
def HOk.but{P:Program}{w:World}{H:Hp}{h h':Heap}{C:Addr}(ok:HOk P w H h)(hn:H C=none)(hs:Heap.SameBut C h h'):HOk P w H h':=λ b ob e=>by
 refine(ok b ob e).stay (λ c w' hc q=>(hs.2 c ?_).trans q) (λ _ q=>q) (λ _ _ q=>q) λ _ _ q=>q;rintro rfl
 rcases hc with rfl|hc
 ·rw [hn] at e;cases e
 ·rw [hn] at hc;cases hc
def Un.but{fs ex:List Addr}{H H':Hp}{h h1 h2:Heap}{C:Addr}(u:Un fs ex H H' h h1)(hs:Heap.SameBut C h1 h2)(hC:∀ b o,h.get? b=some o->b ≠ C):Un fs ex H H' h h2 where
 keep:=λ b o e n hb hx=>(hs.2 b (hC b o e)).trans (u.keep b o e n hb hx)
 slot:=λ b o e n hb hx=>by
  obtain⟨sl,q⟩:=u.slot b o e n hb hx;exact⟨sl,(hs.2 b (hC b o e)).trans q⟩
 free:=u.free
 there:=λ b o e hx=>by
  obtain⟨o',q⟩:=u.there b o e hx;exact⟨o',(hs.2 b (hC b o e)).trans q⟩
 tups:=u.tups
 frzs:=u.frzs
 tbls:=u.tbls
section
variable {X:Cx}
def EC(k:Nat)(wi:TI)(g:TG)(tt:TT)(te:TE):TE:=λ σ H Q=>wi σ H λ J H1=>∀ D,H1 D=none->∃ W:Nat->Nat->List V->Hp->Prop,(∃ m,W 0 m [] (upd H1 D (.lst [])))/\∀ i m ys H,W i m ys H →
 (J.stop i H/\Q (.ref D) H)\/(J.go i H/\∃ N:List V->Hp->Prop,(∀ aq H',N aq H'->∃ m',m' < m/\W (i+1) m' aq H') /\
  ∀ x H',J.yld i H x H'->g x (List.replicate k none++σ) H' λ σ2 H2=>(∃ vs:St,vs.length=k/\σ2=vs++σ)/\tt σ2 H2 λ b H3=>if b=true then te σ2 H3 λ y H4=>H4 D=some (.lst ys)/\ys.length < sizeLine/\N (ys++[y]) (upd H4 D (.lst (ys++[y]))) else N ys H3)
def AO{Y:Cx}{tg elt iter:Expr}{ifs:List Expr}{scope:Scope}{pos:Pos}{it D:Addr}{g:TG}{tt:TT}{te:TE}{J:It}{fp:List Addr}{tn:Nat->Heap->Prop}{k:Nat}{σ:St}{Q:VK}
  (hc:Y.calm=true) (hx:Y.xe=λ _ _=>False) (hg:PG Y tg g) (ht:PTs Y ifs tt) (he:PE Y elt te) (T:Bo Y.prog Y.w Y.K tg J fp it tn) (hf:∀ H:Hp,(∀ b∈fp,H b=none)->∀ b∈fp,mi Y [] H b)
  (W:Nat->Nat->List V->Hp->Prop)
  (turn:∀ i m ys H,W i m ys H->(J.stop i H/\Q (.ref D) H)\/(J.go i H/\∃ N:List V->Hp->Prop,(∀ aq H',N aq H'->∃ m',m' < m/\W (i+1) m' aq H') /\
   ∀ x H',J.yld i H x H'->g x (List.replicate k none++σ) H' λ σ2 H2=>(∃ vs:St,vs.length=k/\σ2=vs++σ)/\tt σ2 H2 λ b H3=>if b=true then te σ2 H3 λ y H4=>H4 D=some (.lst ys)/\ys.length < sizeLine/\N (ys++[y]) (upd H4 D (.lst (ys++[y]))) else N ys H3))
  (n:Nat) (s:Shared) (h:∃ i ys H,Inv Y [] (List.replicate k none++σ) H s/\tn i s.heap/\(∀ b∈fp,H b=none)/\W i n ys H) :
  codeAny (model Y.prog Y.w) Y.A (.compLoop (.ListComp elt [⟨tg,iter,ifs,0⟩] scope pos) 0 (.ref it) (.ref D) Y.env) (λ r s'=>r=.ok .next/\∃ H',Inv Y [] (List.replicate k none++σ) H' s'/\Q (.ref D) H') s:=by
 refine codeAny_loop rfl (λ n s=>∃ i ys H,Inv Y [] (List.replicate k none++σ) H s/\tn i s.heap/\(∀ b∈fp,H b=none)/\W i n ys H) ?_ n h;rintro n s3 ⟨i,ys,H3,I3,a3,a4,w3⟩
 show wpAny _ Y.A ((compTurn (.ListComp elt [⟨tg,iter,ifs,0⟩] scope pos) 0 (.ref it) (.ref D) Y.env).onRaise (λ x=>do noteFrame x Y.env;theTreesLotGoes x)) _ _ s3
 refine PySem.wpAny_noted ?_;rw [PySem.compTurn_list]
 have no:∀ {α:Type} {m:Sem α} {P:α->Shared->Prop} {E:Value->Shared->Prop} {s:Shared},wpAny (model Y.prog Y.w) Y.A m P Y.xe s->wpAny (model Y.prog Y.w) Y.A m P E s:=λ {α m P E s} h=>
  Rf h (λ _ _ q=>q) λ _ _ q=>by rw [hx] at q;exact q.elim
 refine My (RI (My ?_))
 rcases turn i n ys H3 w3 with ⟨stop,qn⟩|⟨go,N,hN,step⟩
 ·refine thn (T.done Y rfl rfl rfl hc i [] s3 (List.replicate k none++σ) H3 _ I3 (hf H3 a4) a3 stop) λ r s4 ⟨hr,I4⟩=>?_;subst hr;exact Ql ⟨rfl,H3,I4,qn⟩
 ·refine thn (T.item Y rfl rfl rfl hc i [] s3 (List.replicate k none++σ) H3 _ I3 (hf H3 a4) a3 go) λ r s4 ⟨u,hr,h4⟩=>?_;subst hr;refine My (thn h4 λ _ s5 ⟨x,H5,I5,r5,y5,ar,a6⟩=>?_);have a7:=I5.pinned (hf H5 a6) (T.obj _ _ ar);refine My (no (thn (hg _ s5 (List.replicate k none++σ) H5 x u _ a7 r5 (step x H5 y5)) λ _ s6 ⟨σ6,H6,I6,⟨vs,a5,e6⟩,q6⟩=>?_));subst e6
  have forget:∀ {pins:List (Addr × Obj)} {H:Hp} {s:Shared},Inv Y pins (vs++σ) H s->Inv Y pins (List.replicate k none++σ) H s:=λ {pins H s} I=>I.weak (by simp [a5]) λ i v e=>by
   by_cases hi:i < k
   ·rw [Q6 (by simpa using hi)] at e;simp [SI,hi] at e
   ·rw [QY (by simpa using SK hi)] at e;rw [QY (by omega)]
    simpa [a5] using e
  refine My (no (thn (ht _ s6 (vs++σ) H6 _ I6 q6) λ b s7 ⟨H7,I7,q7⟩=>?_))
  have again:∀ {H8:Hp} {s8:Shared} {aq:List V},Inv Y ([]++pF fp s5.heap) (vs++σ) H8 s8->N aq H8->∃ m,m < n/\∃ i ys H,Inv Y [] (List.replicate k none++σ) H s8/\tn i s8.heap/\(∀ b∈fp,H b=none)/\W i m ys H:=λ {H8 s8 aq} I8 n8=>by
   obtain⟨m',hm,w8⟩:=hN aq H8 n8;refine⟨m',hm,i+1,aq,H8,forget I8.unpinned,T.keep _ _ _ ar λ b hb o e=>(I8.pin (b,o) (Qn _ (Qn _ (gC hb e)))).1,λ b hb=>?_,w8⟩;obtain⟨o,e,d⟩:=T.obj _ _ ar b hb;exact(I8.pin (b,o) (Qn _ (Qn _ (gC hb e)))).2.1
  cases b with
  | false=>
   rw [QB Qx] at q7;exact Ql ⟨rfl,again I7 q7⟩
  | true=>
   rw [QE rfl] at q7;refine My (My (no (thn (he _ s7 (vs++σ) H7 _ I7 q7) λ y s8 ⟨y',H8,I8,ry,q8,l8,n8⟩=>?_)));exact My (no (thn (fT _ s8 (vs++σ) H8 (.ref D) [y'] (.ref D) [y] (λ _ H'=>N (ys++[y']) H') I8 rfl (.cons ry .nil) ⟨D,ys,y',rfl,rfl,q8,l8,n8⟩) λ _ s9 ⟨_,H9,I9,_,q9⟩=>Ql (Ql ⟨rfl,again I9 q9⟩)))
structure ki(X:Cx)(scope:Scope)(N':List Str)(k:Nat):Prop where
 cell:∀ y∈scope.names,y.2 ≠ .cell
 kind:scope.kind=.function
 names:∀ y∈scope.names,y.2=.local->scope.names.lookup y.1=some .local
 free:∀ y∈scope.names,y.2=.free->X.env.scope.names.lookup y.1=some .cell
 len:N'.length=k+X.N.length
 sub:∀ i x,N'[k+i]? = some x->scope.names.lookup x=some .free->X.N[i]? = some x
 loc:∀ i x,N'[k+i]? = some x->scope.names.lookup x ≠ some .local
def ki.cells{scope:Scope}{N':List Str}{k:Nat}{pins:List (Addr × Obj)}{σ:St}{H:Hp}{s:Shared}(c:ki X scope N' k)(I:Inv X pins σ H s):∀ y∈scope.names,y.2=.free->∃ a,X.env.cells.lookup y.1=some a:=λ y hy e=>
 I.ok.has y.1 (.inl (c.free y hy e))
def Dl{scope:Scope}{N':List Str}{k:Nat}{pins:List (Addr × Obj)}{σ:St}{H:Hp}{s s₄:Shared}{fp:List Addr}{m:Str->Option Value}(c:ki X scope N' k)(hc:X.calm=true)(I:Inv X pins σ H s)
  (hf:∀ b∈fp,mi X pins H b) (a6:∀ b∈fp,b < s.heap.objs.size) (hb:∀ b∈fp,X.base.get? b=none) (a7:s₄.heap.Ns s.heap.objs.size m) (hk:∀ b o,s.heap.get? b=some o->s₄.heap.get? b=some o) (ho:s₄.os=s.os) (hg:s₄.gens=s.gens) :
  Inv (cCx X scope N' s.heap.objs.size s H fp (X.pn++pins)) [] (List.replicate k none++σ) H s₄:=by
 have a4:=c.cells I
 have sub:∀ x a,(pe X.env.cells scope.names []).lookup x=some a->X.env.cells.lookup x=some a:=λ x a e=>by
  rcases oq a4 e with q|q
  ·simp at q
  ·exact q
 have kinds:∀ x,(compEnvC scope (pe X.env.cells scope.names []) s.heap.objs.size X.env).kindOf x=some .cell\/(compEnvC scope (pe X.env.cells scope.names []) s.heap.objs.size X.env).kindOf x=some .free->scope.names.lookup x=some .free:=λ x hx=>by
  have e:(compEnvC scope (pe X.env.cells scope.names []) s.heap.objs.size X.env).kindOf x=(scope.names.lookup x).map λ k=>if (k == NameKind.free && X.env.scope.kind == .function && X.env.kindOf x == some .cell) then NameKind.cell else k:=eF
  rw [e] at hx
  cases q:scope.names.lookup x with
  | none=>rw [q] at hx;simp at hx
  | some j=>
   rw [q] at hx;have hj:j ≠ .cell:=c.cell (x,j) (gE q)
   cases j<;>simp_all
 have fresh:∀ b,s.heap.objs.size<=b->s.heap.get? b=none:=λ b hb=>Q7 hb;have ne:∀ b o,s.heap.get? b=some o->b ≠ s.heap.objs.size:=λ b o e=>Qy (Qm e)
 have a8:∀ x a,X.env.cells.lookup x=some a->a < s.heap.objs.size:=λ x a e=>by
  obtain⟨v,o,h1,_⟩:=I.cell x a e;exact Qm h1
 refine⟨⟨I.ok.mod,c.kind,I.ok.glob,I.ok.blt,Qi _,λ x y a e1 e2=>I.ok.inj x y a (sub x a e1) (sub y a e2),λ x hx=>jT a4 (kinds x hx),(λ _ _ z=>nomatch z),I.ok.hd,I.ok.frames,.inl rfl,λ b a3=>⟨Qy (a6 b a3),λ x a e=>(hf b a3).2.2.2.2.1 x a (sub x a e)⟩,
   I.bs,QP I.ok.bsz I.sz,(λ b o e a3=>by rw [hb b a3] at e;cases e),λ b a3 hz=>?_,I.stack,I.stkFree⟩,ho,by rw [hg];exact I.bare,Un.kept hk,⟨m,a7,λ i x v e1 e2 e3=>?_⟩,λ x a e=>?_,I.hok.fresh (Qi _),λ x a e=>I.freeC x a (sub x a e),λ p hp=>?_,I.hok.kept hk,?_⟩
 ·rcases QG.mp (I.stkSub b hz) with z|z
  ·exact(hf b a3).2.1 z
  ·exact(hf b a3).2.2.1 z
 ·have hi:k<=i:=by
   refine SK λ hi=>?_;rw [Q6 (by simpa using hi)] at e2;simp [SI,hi] at e2
  obtain⟨j,rfl⟩:∃ j,i=k+j:=⟨i - k,by omega⟩;rw [QY (by simp)] at e2;have a9:σ[j]? = some (some v):=by simpa using e2
  have e:(relabel scope X.env).names.lookup x=(scope.names.lookup x).map λ k=>if (k == NameKind.free && X.env.scope.kind == .function && X.env.kindOf x == some .cell) then NameKind.cell else k:=eF
  have aq:scope.names.lookup x=some .free:=by
   cases q:scope.names.lookup x with
   | none=>
    rcases e3 with z|z|z
    all_goals (have z':(relabel scope X.env).names.lookup x=some _:=z;rw [e,q] at z';simp at z')
   | some j'=>
    have h1:j' ≠ .cell:=c.cell (x,j') (gE q);have h2:j' ≠ .local:=λ z=>c.loc j x e1 (by rw [q,z])
    rcases e3 with z|z|z
    all_goals (have z':(relabel scope X.env).names.lookup x=some _:=z;rw [e,q] at z';cases j'<;>simp_all)
  have hX:=c.sub j x e1 aq;have ar:=c.free (x,.free) (gE aq) rfl;obtain⟨m0,bt,bb⟩:=I.loc;obtain⟨u,r,l⟩:=bb j x v hX a9 (.inr (.inl ar));refine⟨u,r,?_⟩
  rcases l with ⟨z,_⟩|⟨_,a,ea,hz⟩
  ·have z':X.env.scope.names.lookup x=some .local:=z;rw [ar] at z';cases z'
  ·obtain⟨a',a5⟩:=jT (acc:=[]) a4 aq;have e4:=sub x a' a5;rw [ea] at e4;cases e4;refine .inr ⟨.inl ?_,a,a5,?_⟩
   ·show (relabel scope X.env).names.lookup x=some .cell
    rw [e,aq];have k1:(X.env.scope.kind == .function)=true:=by rw [I.ok.kind];rfl
    have k2:(X.env.kindOf x == some .cell)=true:=by
     have:X.env.kindOf x=some .cell:=ar;rw [this];rfl
    simp [k1,k2]
   ·obtain⟨o,h1,h2⟩:=hz;exact⟨o,hk _ _ h1,h2⟩
 ·obtain⟨v,o,h1,h2⟩:=I.cell x a (sub x a e);exact⟨v,o,hk _ _ h1,h2⟩
 ·have bp:p∈X.pn++pins:=by simpa using hp
  obtain⟨e,n,nl,nf,d⟩:=I.pin p bp;refine⟨hk _ _ e,n,ne _ _ e,λ z=>?_,d⟩
  rcases QG.mp (I.stkSub _ z) with z|z
  ·exact nl z
  ·exact nf z
 ·show (List.replicate k none++σ).length=N'.length
  rw [c.len,Qw,List.length_replicate,I.len]
def mK{elt iter tg:Expr}{ifs:List Expr}{scope:Scope}{pos:Pos}{g:TG}{tt:TT}{te:TE}{N':List Str}{k:Nat}{it:Addr}{J:It}{fp:List Addr}{tn:Nat->Heap->Prop}{pins:List (Addr × Obj)}{σ:St}{H:Hp}{s:Shared}{Q:VK}{RR:Value->Addr->Result->Shared->Prop}{E:Value->Shared->Prop}
  (c:ki X scope N' k) (hc:X.calm=true) (I:Inv X pins σ H s) (T:Bo X.prog X.w X.K tg J fp it tn) (st:tn 0 s.heap) (hf:∀ b∈fp,mi X pins H b)
  (hg:∀ C s₀ H₀ ex pn,PG (cCx X scope N' C s₀ H₀ ex pn) tg g) (ht:∀ C s₀ H₀ ex pn,PTs (cCx X scope N' C s₀ H₀ ex pn) ifs tt) (he:∀ C s₀ H₀ ex pn,PE (cCx X scope N' C s₀ H₀ ex pn) elt te)
  (h:∀ D,H D=none->∃ W:Nat->Nat->List V->Hp->Prop,(∃ m,W 0 m [] (upd H D (.lst [])))/\∀ i m ys H,W i m ys H →
   (J.stop i H/\Q (.ref D) H)\/(J.go i H/\∃ N:List V->Hp->Prop,(∀ a5 H',N a5 H'->∃ m',m' < m/\W (i+1) m' a5 H') /\
    ∀ x H',J.yld i H x H'->g x (List.replicate k none++σ) H' λ σ2 H2=>(∃ vs:St,vs.length=k/\σ2=vs++σ)/\tt σ2 H2 λ b H3=>if b=true then te σ2 H3 λ y H4=>H4 D=some (.lst ys)/\ys.length < sizeLine/\N (ys++[y]) (upd H4 D (.lst (ys++[y]))) else N ys H3))
  (fin:∀ D C s' H' m,s'.heap.Ns C m->C ≠ X.env.locals->(∀ x a,X.env.cells.lookup x=some a->a ≠ C)->(H' C=none/\X.s₀.heap.objs.size<=C/\∀ p∈X.pn++pins,p.1 ≠ C)->(∀ h',Heap.SameBut C s'.heap h'->Inv X pins σ H' { s' with heap:=h' })->Q (.ref D) H'->RR (.ref D) C (.ok .next) s') :
  wpAny (model X.prog X.w) X.A (newList []) (λ acc s₃=>wpAny (model X.prog X.w) X.A (newFunctionEnv scope X.env.globals (pe X.env.cells scope.names []) [] X.env.qual none .none (some X.env)) (λ a3 s₄=>
   codeAny (model X.prog X.w) X.A (.compStart (.ListComp elt [⟨tg,iter,ifs,0⟩] scope pos) 0 (.ref it) acc { a3 with scope:=relabel scope X.env }) (RR acc a3.locals) s₄) E s₃) E s:=by
 refine wpAny_newObj_type (wpAny_newFunctionEnv c.cell (by intro y hy;simp at hy) (λ h₁ aq ar=>?_) c.kind);dsimp only at aq ar ⊢;have I3:Inv X pins σ (upd H s.heap.objs.size (.lst [])) { s with heap:=s.heap.push { cls:=.type "list",data:=.seq ([]:List Value).toArray },toks:=s.toks }:=I.lnew (ys:=[]) (its:=[]) .nil (Nat.zero_le _);generalize hH2:s.heap.push { cls:=.type "list",dict:=none,data:=.seq ([]:List Value).toArray }=hp at aq ar I3 ⊢;have a6:∀ b o,s.heap.get? b=some o->hp.get? b=some o:=λ b o e=>by rw [←hH2];exact Heap.get?_push_of_some _ e
 have a7:H s.heap.objs.size=none:=I.hok.fresh (Qi _);have kp:∀ b o,hp.get? b=some o->h₁.get? b=some o:=λ b o e=>ar.extBut b o (Qy (Qm e)) (Qg _ e)
 have stk:∀ b∈fp,s.heap.get? b ≠ none:=λ b hb z=>by
  obtain⟨o,e,_⟩:=T.obj _ _ st b hb;rw [z] at e;cases e
 have flt:∀ b∈fp,b < s.heap.objs.size:=λ b hb=>by
  obtain⟨o,e,_⟩:=T.obj _ _ st b hb;exact Qm e
 have bp:∀ b∈fp,b ≠ s.heap.objs.size:=λ b hb=>Qy (flt b hb)
 have a8:∀ b∈fp,mi X pins (upd H s.heap.objs.size (.lst [])) b:=λ b hb=>by
  obtain⟨a1,a2⟩:=hf b hb;exact⟨by rw [ae (bp b hb)];exact a1,a2⟩
 have bt:∀ b∈fp,X.base.get? b=none:=λ b hb=>by
  cases e:X.base.get? b with
  | none=>rfl
  | some o=>
   rcases (hf b hb).2.2.2.1 with z|z
   ·exact absurd z (I.ok.noex b o e)
   ·have:=Qm (I.ok.bs b o e).1;exact absurd (Qs this z) (Q4 _)
 have hsz:s.heap.objs.size < hp.objs.size:=by rw [←hH2,QR];exact RZ _
 have IY:=Dl (s₄:={ s with heap:=h₁,toks:=s.toks+([]:List (Str × Value)).length }) (fp:=fp) c hc I3 a8 (λ b hb=>Se (flt b hb) hsz) bt aq kp rfl rfl;obtain⟨W,⟨m0,w0⟩,turn⟩:=h s.heap.objs.size a7
 have run:=AO (Y:=cCx X scope N' hp.objs.size { s with heap:=hp,toks:=s.toks } (upd H s.heap.objs.size (.lst [])) fp (X.pn++pins)) (tg:=tg) (elt:=elt) (iter:=iter) (ifs:=ifs) (scope:=scope) (pos:=pos) (it:=it) (D:=s.heap.objs.size) (k:=k) (σ:=σ) (Q:=Q)
  hc rfl (hg _ _ _ _ _) (ht _ _ _ _ _) (he _ _ _ _ _) T (λ H' hn b hb=>⟨hn b hb,Qy (Se (flt b hb) hsz),λ z=>(IY.ok.exfs b hb) z,.inl hb,λ x a e=>(IY.ok.exf b hb).2 x a e,λ p hp=>by
   have a4:p∈X.pn++pins:=by simpa using hp
   exact(hf b hb).2.2.2.2.2 p a4⟩) W turn m0
 have a9:tn 0 h₁:=T.keep _ _ _ st λ b hb o e=>kp b o (a6 b o e);have go:=run { s with heap:=h₁,toks:=s.toks+([]:List (Str × Value)).length } ⟨0,[],_,IY,a9,λ b hb=>(a8 b hb).1,w0⟩
 have out:∀ r s',(r=Except.ok Flow.next/\∃ H',Inv (cCx X scope N' hp.objs.size { s with heap:=hp,toks:=s.toks } (upd H s.heap.objs.size (.lst [])) fp (X.pn++pins)) [] (List.replicate k none++σ) H' s'/\Q (.ref s.heap.objs.size) H')->RR (.ref s.heap.objs.size) hp.objs.size r s':=by
  rintro r s' ⟨rfl,H',J',q⟩;obtain⟨m,hn,_⟩:=J'.loc;have hC:hp.objs.size ≠ X.env.locals:=RN (Qs I.lt (RO hsz));refine fin _ _ s' H' m hn hC (λ x a e=>?_) ⟨J'.free,QP I.sz (RO hsz),λ p a4=>Qy (Se (Qm (I.pin p a4).1) hsz)⟩ (λ h' bb=>?_) q
  ·obtain⟨v,o,h1,_⟩:=I.cell x a e;exact Qy (Se (Qm h1) hsz)
  ·refine I.call' (ch:=fp) ?_ ?_ ?_ J'.bare λ b hb=>⟨(hf b hb).2.2.2.1,(hf b hb).2.1,(hf b hb).2.2.2.2.1,(hf b hb).2.2.2.2.2⟩
   ·exact J'.os
   ·have u1:Un (frs X.stack) fp H (upd H s.heap.objs.size (.lst [])) s.heap hp:=Un.laid a6 (Qi _) a7;exact(u1.trans J'.base).but bb λ b o e=>Qy (Se (Qm e) hsz)
   ·exact J'.hok.but J'.free bb
 exact codeAny_compStart_list (Rt go out) (T.self _ 0 _ _ _ a9 (Rt go out))
def FN{elt iter tg:Expr}{ifs:List Expr}{scope:Scope}{pos:Pos}{wi:TI}{g:TG}{tt:TT}{te:TE}{N':List Str}{k:Nat}
  (c:ki X scope N' k) (hc:X.calm=true) (hi:PI X tg iter wi)
  (hg:∀ C s₀ H₀ ex pn,PG (cCx X scope N' C s₀ H₀ ex pn) tg g) (ht:∀ C s₀ H₀ ex pn,PTs (cCx X scope N' C s₀ H₀ ex pn) ifs tt) (he:∀ C s₀ H₀ ex pn,PE (cCx X scope N' C s₀ H₀ ex pn) elt te)
  (hs:∀ x,foldedSetIterable iter X.env x=pure x:=by intro _;rfl):PE X (.ListComp elt [⟨tg,iter,ifs,0⟩] scope pos) (EC k wi g tt te):=by
 intro pins s σ H Q I h;rw [PySem.eval_ListComp];refine Tj (use:=none) rfl hs (iP (c.cells I)) c.kind c.names (thn (hi pins s σ H _ I h) λ v s1 h1=>thn h1 λ a3 s2 h2=>?_);obtain⟨it,fp,tn,J,H2,rfl,I2,T,aq,f2,hW⟩:=h2;refine mK (RR:=λ acc C=>PySem.compPost (model X.prog X.w) X.A X.xe none (EP X pins σ Q) acc C) c hc I2 T aq f2 hg ht he hW ?_;intro D C s' H' m hn _ _ _ hI q;exact⟨m,hn,λ h' ar=>⟨.ref D,H',hI h' ar,rfl,q⟩⟩
def Jn(i:Nat)(te:TE):TS:=λ D σ H=>te σ H λ x H1=>D.nx (σ.set i (some x)) H1
def Fy{elt iter tg:Expr}{ifs:List Expr}{scope:Scope}{pos aq py:Pos}{wi:TI}{g:TG}{tt:TT}{te:TE}{N':List Str}{k i:Nat}{y:Str}
  (hN:X.N.Nodup) (a5:X.N[i]? = some y) (hy:Loc X.env.scope y)
  (c:ki X scope N' k) (hc:X.calm=true) (hi:PI X tg iter wi)
  (hg:∀ C s₀ H₀ ex pn,PG (cCx X scope N' C s₀ H₀ ex pn) tg g) (ht:∀ C s₀ H₀ ex pn,PTs (cCx X scope N' C s₀ H₀ ex pn) ifs tt) (he:∀ C s₀ H₀ ex pn,PE (cCx X scope N' C s₀ H₀ ex pn) elt te)
  (a6:swapsWith (.ListComp elt [⟨tg,iter,ifs,0⟩] scope pos) (some (.Name y py)) aq.line X.env=pure true:=by rfl)
  (hs:∀ x,foldedSetIterable iter X.env x=pure x:=by intro _;rfl) (hf:X.fn y=true\/X.env.scope.names.lookup y=some .local:=by first|exact .inl rfl|exact .inr rfl|assumption) :
  PS X (.Assign [.Name y py] (.ListComp elt [⟨tg,iter,ifs,0⟩] scope pos) aq) (Jn i (EC k wi g tt te)):=by
 intro pins s σ H D I h;rw [PySem.exec_Assign_Name_used _ _ _ _ a6];refine My (RI (My ?_))
 show wpAny _ X.A (do let _ ←comprehension (.ListComp elt [⟨tg,iter,ifs,0⟩] scope pos) scope X.env _ (newList []) false (eval iter X.env) (some (assign (.Name y py) X.env))) _ _ s
 refine My (thn (Tj (use:=some (assign (.Name y py) X.env)) (Q:=λ _ s'=>SP X pins D .next s') rfl hs (iP (c.cells I)) c.kind c.names (thn (hi pins s σ H _ I h) λ v s1 h1=>thn h1 λ bt s2 h2=>?_)) λ _ s' hq=>Ql (Ql hq));obtain⟨it,fp,tn,J,H2,rfl,I2,T,a7,f2,hW⟩:=h2;refine mK (Q:=λ x H1=>D.nx (σ.set i (some x)) H1) (RR:=λ acc C=>PySem.compPost (model X.prog X.w) X.A X.xe (some (assign (.Name y py) X.env)) (λ _ s'=>SP X pins D .next s') acc C) c hc I2 T a7 f2 hg ht he hW ?_;intro D' C s' H' m hn a3 a4 ar hI q
 show wpAny _ X.A (assign (.Name y py) X.env (.ref D')) _ _ s'
 have I':Inv X pins σ H' s':=hI s'.heap (Heap.SameBut.refl _ _);refine wpAny_assign_Name (pO I' hN a5 hy (show bA (.ref D') (.ref D') from rfl) (λ a8 a9 ⟨a,sb,ha⟩=>?_) hf)
 have bb:C ≠ a:=by
  rcases ha with rfl|ha
  ·exact a3
  ·exact λ z=>a4 _ _ ha z.symm
 refine⟨m,hn.sameBut sb bb,λ h' bp=>⟨_,H',?_,q⟩⟩;exact a9.turned (t':=a8.toks) (λ b o hb e=>(bp.2 b hb).trans e) ar.1 a3 (.inr ar.2.1) a4 ar.2.2
end
def pA(h:Heap)(e:Addr)(cls:Value)(d:Option Addr)(T:Addr):Prop:=
 ∃ oe vs oT ts,h.get? e=some oe/\oe.cls=cls/\oe.dict=d/\oe.data=.fields vs/\vs[1]? = some (.ref T)/\T ≠ e/\h.get? T=some oT/\oT.data=.fields ts/\ts[3]? = some .none/\vs[2]? = some .none
def CX1(P:Program)(w:World):CXT:=λ outer H s E ev s'=>∃ e T cls d H',ev=.ref e/\s'.os=s.os/\AllBare s'.gens/\Un (frs outer) [] H H' s.heap s'.heap/\HOk P w H' s'.heap /\
 s.heap.get? e=none/\s.heap.get? T=none/\H' e=none/\H' T=none/\pA s'.heap e cls d T/\(∀ dx,d=some dx->∃ fs,H' dx=some (.xd fs))/\E cls d H'
def AL(f:Array Value->Array Value)(o:Obj):(Obj.mapFields f o).dict=o.dict:=by
 unfold Obj.mapFields;split<;>rfl
structure xy(fs:List Addr)(e:Addr)(no:Addr->Prop)(h h':Heap):Prop where
 keep:∀ b o,b ≠ e->¬ no b->b ∉ fs->h.get? b=some o->h'.get? b=some o
 slot:∀ b o,b ≠ e->¬ no b->b∈fs->h.get? b=some o->∃ sl,h'.get? b=some { o with slots:=sl }
 size:h.objs.size<=h'.objs.size
section
variable {M:Model}{A:Around}{E:Value->Shared->Prop}{s:Shared}
def En{base:Heap}{env:Env}{outer:List Env}{L e:Addr}{oe:Obj}{vs:Array Value}{head:Value}{aq:Bool}{Q:Unit->Shared->Prop}
  (a4:A.frames=some (env::outer)) (hl:s.heap.FunFrames base (env::outer)) (hf:env.frame=some L) (he:s.heap.get? e=some oe) (hd:oe.data=.fields vs) (hsz:1 < vs.size) (a5:vs[2]? = some .none)
  (hQ:∀ h',xy (frs (env::outer)) e (λ _=>False) s.heap h'->(∃ T ar a3 oT ts,s.heap.get? T=none/\h'.get? e=some ar/\ar.cls=oe.cls/\ar.dict=oe.dict/\ar.data=.fields a3/\a3[1]? = some (.ref T)/\T ≠ e/\h'.get? T=some oT/\oT.data=.fields ts/\ts[3]? = some (rawInt L)/\a3[2]? = some .none)->Q () { s with heap:=h' }) :
  wpAny M A (do let a ←frameOf env;let pl ←entryPlaceOf L aq;let b ←EntryCells.newEntry head a .none (rawInt L) .none pl;setField (.ref e) 1 b) Q E s:=by
 have a6:e ∉ frs (env::outer):=λ z=>by
  obtain⟨_,o,q1,q2⟩:=hl.mem z;rw [he] at q1;cases q1;exact q2 vs hd
 refine wpAny_bind (wpAny_frameOf_fun a4 hl hf λ g1 sg=>?_);refine wpAny_bind (wpAny_entryPlaceOf λ pl a7=>?_);unfold EntryCells.newEntry newFields;refine wpAny_bind (wpAny_newObj_type ?_ (a7.sizeOk5 _ _ _ _ _));have e1:g1.get? e=some oe:=(sg.2.1 e a6).trans he;generalize hnew:({ cls:=.type "traceback",dict:=none,data:=.fields ([head,.ref L,.none,rawInt L,.none]++(if pl.isEmpty then List.replicate 6 Value.none else pl)).toArray }:Obj)=oN;have dN:oN.data=.fields ([head,.ref L,.none,rawInt L,.none]++(if pl.isEmpty then List.replicate 6 Value.none else pl)).toArray:=by rw [←hnew]
 have e2:(g1.push oN).get? e=some oe:=Qg _ e1;refine Sx e2 hd hsz (hQ _ ?_ ?_)
 ·have other:∀ b o,b ≠ e->g1.get? b=some o->((g1.push oN).update e (Obj.mapFields (·.setIfInBounds 1 (Value.ref g1.objs.size)))).get? b=some o:=λ b o hb q=>by
   rw [QO _ _ (QS hb)];exact Qg _ q
  refine⟨λ b o hb _ a8 q=>other b o hb ((sg.2.1 b a8).trans q),λ b o hb _ _ q=>?_,?_⟩
  ·obtain⟨sl,q'⟩:=sg.2.2 b o q;exact⟨sl,other b _ hb q'⟩
  ·have z1:g1.objs.size=s.heap.objs.size:=sg.1;have z2:=((Sl (g1.push oN) e (Obj.mapFields (·.setIfInBounds 1 (Value.ref g1.objs.size))))).1;rw [z2,QR];omega
 ·have ne:g1.objs.size ≠ e:=RN (Qm e1);have d3:=RU hd (·.setIfInBounds 1 (Value.ref g1.objs.size));refine⟨g1.objs.size,_,_,oN,_,?_,QM _ e2 (Rw d3),Obj.cls_mapFields _ _,AL _ _,d3,by simp [hsz],ne,?_,dN,by simp,by rw [Ti (by decide)];exact a5⟩
  ·have z1:g1.objs.size=s.heap.objs.size:=sg.1;rw [z1];exact Q7 (Qi _)
  ·rw [QO _ _ (QS ne)];exact Qp _ (Rw dN)
def yK{e T:Addr}{oe oT:Obj}{vs ts:Array Value}{Q:Unit->Shared->Prop}(he:s.heap.get? e=some oe)(hd:oe.data=.fields vs)(h1:vs[1]? = some (.ref T))(hT:s.heap.get? T=some oT)(aq:oT.data=.fields ts)(h3:3 < ts.size)(ne:T ≠ e)(ar:vs[2]? = some .none)
  (hQ:∀ h',(∀ b,b ≠ T->h'.get? b=s.heap.get? b)->h'.objs.size=s.heap.objs.size->pA h' e oe.cls oe.dict T->Q () { s with heap:=h' }):wpAny M A (setFlight (.ref e) none) Q E s:=by
 unfold setFlight;refine wpAny_bind (wpAny_field he hd h1 ?_);rw [if_pos (show (Value.ref T != Value.none)=true from by simp)];have sb:=Heap.SameBut.update s.heap T (Obj.mapFields (·.setIfInBounds 3 ((none:Option Addr).elim Value.none λ f=>rawInt f)));refine wpAny_setField hT aq h3 (hQ _ sb.2 sb.1 ?_);have d3:=Obj.data_mapFields aq (·.setIfInBounds 3 ((none:Option Addr).elim Value.none λ f=>rawInt f));exact⟨oe,vs,_,_,(sb.2 e (Ne.symm ne)).trans he,rfl,rfl,hd,h1,ne,Heap.get?_update_self _ hT (Obj.isFreed_of_fields d3),d3,by simp [h3],ar⟩
def uM{base:Heap}{env:Env}{outer:List Env}{L e:Addr}{oe:Obj}{vs:Array Value}{Q:Unit->Shared->Prop}
  (ar:A.frames=some (env::outer)) (hl:s.heap.FunFrames base (env::outer)) (hf:env.frame=some L) (he:s.heap.get? e=some oe) (hd:oe.data=.fields vs) (h1:vs[1]? = some .none) (a3:vs[2]? = some .none)
  (hQ:∀ h' T,xy (frs (env::outer)) e (λ _=>False) s.heap h'->s.heap.get? T=none->pA h' e oe.cls oe.dict T->Q () { s with heap:=h' }) :
  wpAny M A (noteFrame (.ref e) env) (λ _ s2=>wpAny M A (setFlight (.ref e) none) Q E s2) E s:=by
 unfold noteFrame;simp only [hf];refine wpAny_bind (wpAny_field he hd h1 ?_);rw [if_neg (by decide)];refine En ar hl hf he hd (Array.getElem?_eq_some_iff.mp h1).1 a3 λ g ng hx=>?_;obtain⟨T,a5,a6,oT,ts,nT,q1,q2,a4,q3,q4,ne,q5,q6,q7,q8⟩:=hx;refine yK (s:={ s with heap:=g }) q1 q3 q4 q5 q6 (Array.getElem?_eq_some_iff.mp q7).1 ne q8 λ g' sb sz ex=>?_;rw [q2,a4] at ex;have lt:∀ b o,s.heap.get? b=some o->b ≠ T:=λ b o q z=>by rw [z,nT] at q;cases q
 exact hQ g' T ⟨λ b o hb hn aq q=>(sb b (lt b o q)).trans (ng.keep b o hb hn aq q),λ b o hb hn aq q=>by
  obtain⟨sl,q'⟩:=ng.slot b o hb hn aq q;exact⟨sl,(sb b (lt b o q)).trans q'⟩,QP ng.size (SE sz.symm)⟩ nT ex
def pU{base:Heap}{env:Env}{outer:List Env}{L e T:Addr}{cls:Value}{dd:Option Addr}{Q:Unit->Shared->Prop}
  (a6:A.frames=some (env::outer)) (hl:s.heap.FunFrames base (env::outer)) (hf:env.frame=some L) (hx:pA s.heap e cls dd T) (bp:e ∉ frs (env::outer)) (bt:T ∉ frs (env::outer)) (hb:base.get? T=none)
  (hQ:∀ h' T',xy (frs (env::outer)) e (λ b=>b=T) s.heap h'->s.heap.get? T'=none->pA h' e cls dd T'->Q () { s with heap:=h' }) :
  wpAny M A (noteFrame (.ref e) env) (λ _ s2=>wpAny M A (setFlight (.ref e) none) Q E s2) E s:=by
 obtain⟨oe,vs,oT,ts,he,rfl,rfl,hd,h1,ne,hT,ar,h3,a7⟩:=hx;unfold noteFrame;simp only [hf];refine wpAny_bind (wpAny_field he hd h1 ?_);rw [if_pos (show (Value.ref T != Value.none)=true from by simp)];refine wpAny_bind (wpAny_field hT ar h3 ?_);rw [if_neg (show ¬ ((Value.none == rawInt L)=true) from by simp [rawInt])];have aq:=Heap.SameBut.update s.heap T (Obj.mapFields (·.setIfInBounds 3 Value.none));refine wpAny_bind (wpAny_setField hT ar (Array.getElem?_eq_some_iff.mp h3).1 ?_);generalize hg0:s.heap.update T (Obj.mapFields (·.setIfInBounds 3 Value.none))=g0 at aq;have fl:g0.FunFrames base (env::outer):=hl.of_keeps λ b o q a8=>⟨o,(aq.2 b (λ z=>by rw [z,hT] at q;cases q;exact a8 ts ar)).trans q,rfl⟩;have a9:g0.get? e=some oe:=(aq.2 e (Ne.symm ne)).trans he;refine En (s:={ s with heap:=g0 }) a6 fl hf a9 hd (Array.getElem?_eq_some_iff.mp h1).1 a7 λ g ng hx=>?_;obtain⟨T',b1,b2,b3,b4,nT,q1,q2,bb,q3,q4,ne',q5,q6,q7,q8⟩:=hx;refine yK (s:={ s with heap:=g }) q1 q3 q4 q5 q6 (Array.getElem?_eq_some_iff.mp q7).1 ne' q8 λ g' sb sz ex=>?_;rw [q2,bb] at ex
 have tT:T ≠ T':=λ z=>by
  subst z;have:=QM (Obj.mapFields (·.setIfInBounds 3 Value.none)) hT (Rw (RU ar _));rw [hg0] at this;have a4:g0.get? T=none:=nT;rw [this] at a4;cases a4
 have a5:s.heap.get? T'=none:=(aq.2 T' (QS tT)).symm.trans nT;have lt:∀ b o,s.heap.get? b=some o->b ≠ T':=λ b o q z=>by rw [z,a5] at q;cases q
 exact hQ g' T' ⟨λ b o hb hn a3 q=>(sb b (lt b o q)).trans (ng.keep b o hb (λ z=>z) a3 ((aq.2 b hn).trans q)),λ b o hb hn a3 q=>by
  obtain⟨sl,q'⟩:=ng.slot b o hb (λ z=>z) a3 ((aq.2 b hn).trans q);exact⟨sl,(sb b (lt b o q)).trans q'⟩,QP (SE aq.1.symm) (QP ng.size (SE sz.symm))⟩ a5 ex
end
def HOk.noted{P:Program}{w:World}{H:Hp}{h h':Heap}{fs:List Addr}{e:Addr}{no:Addr->Prop}(ok:HOk P w H h)(n:xy fs e no h h')(he:H e=none)(hn:∀ b,no b->H b=none)(hf:∀ b∈fs,H b=none):HOk P w H h':=λ b ob q=>by
 refine(ok b ob q).stay (λ c v hc r=>n.keep c v ?_ ?_ ?_ r) (λ _ z=>z) (λ _ _ z=>z) λ _ _ z=>z
 all_goals
  rcases hc with z|z
  all_goals intro k
 ·rw [←z,k,he] at q;cases q
 ·rw [k,he] at z;cases z
 ·rw [←z,hn _ k] at q;cases q
 ·rw [hn _ k] at z;cases z
 ·rw [←z,hf _ k] at q;cases q
 ·rw [hf _ k] at z;cases z
def Un.noted{fs fs':List Addr}{H H':Hp}{h h1 h2:Heap}{e:Addr}{no:Addr->Prop}(u:Un fs [] H H' h h1)(n:xy fs' e no h1 h2)(he:h.get? e=none)(hn:∀ b,no b->h.get? b=none)(hs:∀ b∈fs',b∈fs\/h.get? b=none):Un fs [] H H' h h2:=by
 have ne:∀ b o,h.get? b=some o->b ≠ e/\¬ no b:=λ b o q=>⟨λ z=>(by rw [z,he] at q;cases q),λ z=>(by rw [hn b z] at q;cases q)⟩
 have nf:∀ b o,h.get? b=some o->b ∉ fs->b ∉ fs':=λ b o q hb z=>by
  rcases hs b z with k|k
  ·exact hb k
  ·rw [k] at q;cases q
 refine⟨λ b o q a hb hx=>n.keep b o (ne b o q).1 (ne b o q).2 (nf b o q hb) (u.keep b o q a hb hx),λ b o q a hb hx=>?_,u.free,λ b o q hx=>?_,u.tups,u.frzs,u.tbls⟩
 ·obtain⟨sl,r⟩:=u.slot b o q a hb hx
  by_cases hb':b∈fs'
  ·obtain⟨aq,r'⟩:=n.slot b _ (ne b o q).1 (ne b o q).2 hb' r;exact⟨aq,r'⟩
  ·exact⟨sl,n.keep b _ (ne b o q).1 (ne b o q).2 hb' r⟩
 ·obtain⟨o',r⟩:=u.there b o q hx
  by_cases hb':b∈fs'
  ·obtain⟨aq,r'⟩:=n.slot b _ (ne b o q).1 (ne b o q).2 hb' r;exact⟨_,r'⟩
  ·exact⟨_,n.keep b _ (ne b o q).1 (ne b o q).2 hb' r⟩
def Eu(CX:CXT)(X:Cx)(E:XK)(σ:St):Prop:=∀ (pins:List (Addr × Obj)) (H:Hp) (s:Shared) (e:Value) (s':Shared),Inv X pins σ H s->CX X.stack H s E e s'->X.xe e s'
def u5(X:Cx)(E:XK)(σ:St):Prop:=∀ (pins:List (Addr × Obj)) (H:Hp) (s:Shared) (h':Heap) (e:Addr) (C:Addr) (us:List Value),Inv X pins σ H s->Heap.MadeExcOf s.heap h' e (.ref C) us->E (.ref C) none H->X.xe (.ref e) { s with heap:=h' }
def bg.there{P:Program}{w:World}{H:Hp}{h:Heap}{a:Addr}{o:HO}(x:bg P w H h a o):∃ ob,h.get? a=some ob:=by
 cases o with
 | lst xs=>obtain⟨_,_,_,_,e⟩:=x;exact⟨_,e⟩
 | tup xs=>obtain⟨_,_,_,ob,e,_⟩:=x;exact⟨ob,e⟩
 | dK kvs=>obtain⟨_,_,_,_,ob,_,_,e,_⟩:=x;exact⟨ob,e⟩
 | dT kvs=>obtain⟨_,_,_,_,ob,_,_,e,_⟩:=x;exact⟨ob,e⟩
 | set S n=>obtain⟨ob,_,_,_,e,_⟩:=x;exact⟨ob,e⟩
 | ins C dx fs=>obtain⟨_,_,_,e,_⟩:=x;exact⟨_,e⟩
 | own y=>exact x
 | xd fs=>obtain⟨_,⟨ob,_,_,e,_⟩,_⟩:=x;exact⟨ob,e⟩
 | rng lo hi=>obtain⟨_,_,_,e⟩:=x;exact⟨_,e⟩
 | frz ob u=>exact⟨_,x.1⟩
 | tbl ps=>obtain⟨_,_,_,_,e,_⟩:=x;exact⟨_,e⟩
 | cod q=>obtain⟨_,_,_,e,_⟩:=x;exact⟨_,e⟩
 | met f y=>exact⟨_,x⟩
 | ext φ=>exact x.2.1
def HOk.gone{P:Program}{w:World}{H:Hp}{h:Heap}{a:Addr}(ok:HOk P w H h)(e:h.get? a=none):H a=none:=by
 cases q:H a with
 | none=>rfl
 | some o=>
  obtain⟨ob,z⟩:=(ok a o q).there;rw [e] at z;cases z
def Un.gone{fs:List Addr}{H H':Hp}{h h1:Heap}{a:Addr}(u:Un fs [] H H' h h1)(e:h1.get? a=none):h.get? a=none:=by
 cases q:h.get? a with
 | none=>rfl
 | some o=>
  obtain⟨o',z⟩:=u.there a o q (by simp);rw [e] at z;cases z
def mD{P:Program}{w:World}{K:W.Frag}{mg:Str->Option Value}{base:Heap}{N:List Str}{qual:Str}{scope:Scope}{f:Addr}{cd:Value}{A:Around}{outer:List Env}{s₀:Shared}{H₀:Hp}{E:XK}{σ:St} :
  u5 (w9 (CX1 P w) P w K mg base N qual scope f cd A outer s₀ H₀ E) E σ:=by
 intro pins H s h' e C us I hm hE;obtain⟨t,he,_,_⟩:=hm.there
 show wpAny (model P w) (A.deeper (envOfC qual scope s₀.heap.objs.size f cd)) (leaving (envOfC qual scope s₀.heap.objs.size f cd) (.ref e)) _ _ _
 unfold leaving;have un:Un (frs outer) [] H₀ H s₀.heap s.heap:=I.base;have fl:h'.FunFrames base (envOfC qual scope s₀.heap.objs.size f cd::outer):=I.stack.of_keeps λ b o q _=>⟨o,hm.keeps b o q,rfl⟩;refine wpAny_bind (uM (s:={ s with heap:=h' }) (base:=base) (outer:=outer) I.ok.frames fl rfl he rfl rfl rfl λ g T ng nT ex=>?_)
 have aq:s.heap.get? T=none:=by
  cases q:s.heap.get? T with
  | none=>rfl
  | some o=>
   have z:=hm.keeps T o q;have ar:h'.get? T=none:=nT;rw [ar] at z;cases z
 have u2:Un (frs outer) [] H₀ H s₀.heap h':=un.trans (Un.kept hm.keeps);refine⟨e,T,.ref C,none,H,rfl,I.os,I.bare,u2.noted ng (un.gone hm.new) (λ _ z=>z.elim) (λ b hb=>?_),(I.hok.kept hm.keeps).noted ng (I.hok.gone hm.new) (λ _ z=>z.elim) I.stkFree,un.gone hm.new,un.gone aq,I.hok.gone hm.new,I.hok.gone aq,ex,(λ _ z=>nomatch z),hE⟩
 rcases QG.mp (I.stkSub b hb) with z|z
 ·exact .inr (by rw [z];exact Q7 (Qi _))
 ·exact .inl z
def bu{P:Program}{w:World}{K:W.Frag}{mg:Str->Option Value}{base:Heap}{N:List Str}{qual:Str}{scope:Scope}{f:Addr}{cd:Value}{A:Around}{outer:List Env}{s₀:Shared}{H₀:Hp}{E:XK} :
  gS (CX1 P w) (w9 (CX1 P w) P w K mg base N qual scope f cd A outer s₀ H₀ E) E:=by
 intro pins σ H s ev s' I hc;obtain⟨e,T,cls,dd,H',rfl,os,bare,a4,hok,ne,nT,He,HT,ex,a5,hE⟩:=hc
 show wpAny (model P w) (A.deeper (envOfC qual scope s₀.heap.objs.size f cd)) (leaving (envOfC qual scope s₀.heap.objs.size f cd) (.ref e)) _ _ _
 unfold leaving;have I2:Inv _ pins σ H' s':=I.call' (ch:=[]) os a4 hok bare (λ b z=>absurd z (by simp))
 have nf:∀ b,s.heap.get? b=none->b ∉ frs (envOfC qual scope s₀.heap.objs.size f cd::outer):=λ b hb z=>by
  obtain⟨_,o,q,_⟩:=I.stack.mem z;rw [hb] at q;cases q
 have nb:base.get? T=none:=by
  cases q:base.get? T with
  | none=>rfl
  | some o=>
   have:=I.bk T o q;rw [nT] at this;cases this
 have fl:s'.heap.FunFrames base (envOfC qual scope s₀.heap.objs.size f cd::outer):=I2.stack;refine My (pU (base:=base) (outer:=outer) I.ok.frames fl rfl ex (nf e ne) (nf T nT) nb λ g T' ng ar ex'=>?_);have aq:Un (frs outer) [] H₀ H s₀.heap s.heap:=I.base;have a3:Un (frs outer) [] H₀ H' s₀.heap s'.heap:=I2.base;refine⟨e,T',cls,dd,H',rfl,I2.os,bare,a3.noted ng (aq.gone ne) (λ b z=>by rw [z];exact aq.gone nT) (λ b hb=>?_),hok.noted ng He (λ b z=>by rw [z];exact HT) I2.stkFree,aq.gone ne,a3.gone ar,He,hok.gone ar,ex',a5,hE⟩
 rcases QG.mp (I.stkSub b hb) with z|z
 ·exact .inr (by rw [z];exact Q7 (Qi _))
 ·exact .inl z
section
variable {X:Cx}
def D5(sp:Sp)(dvs:List V)(E:St->XK)(t:TA):TE:=λ σ H Q=>t σ H λ vs H1=>sp (vs++dvs) H1 Q (E σ)
def Cf{CX:CXT}{k:Nat}{f:Addr}{fd:FuncData}{ps:List Str}{sp:Sp}{ds:List Value}{dvs:List V}{E:St->XK}{x:Str}{e:Expr}{es:List Expr}{t:TA}{p pos:Pos}
  (F:aM X.prog X.w X.K X.mg X.base CX k f fd ps sp) (hr:fG k X.A) (hg:Gl X x) (hm:X.mg x=some (.ref f)) (hk:W.keepIn X.K (.ref f)=true) (hb:au X.K fd ps ds) (hd:bf dvs ds) (hx:∀ σ,Eu CX X (E σ) σ)
  (ha:PA X (e::es) t) (aq:(x == ("__debug__":Str))=false:=by decide) (he:starEach (e::es) X.env=(false,eval e X.env)::starEach es X.env:=by rfl) (ar:(backTo pos (starEach es X.env)).any (·.1)=false:=by rfl) :
  PE X (.Call (.Name x p) (e::es) [] pos) (D5 sp dvs E t):=by
 intro pins s σ H Q I h;refine Rg (eY I hg hm ?_ aq);refine S7 (h₀:=X.base) I.ok.mod.kin hk (thn (ha pos pins s σ H _ I h) λ us s1 ⟨vs,H1,I1,r,q⟩=>⟨I1.kIn,?_⟩) he ar;have r2:bf (vs++dvs) (us++ds):=r.append hd;have hl:(us++ds).length=ps.length:=by rw [←r2.length];exact F.len _ _ _ _ q
 refine RP (Rt (F.run X.A X.stack s1 H1 ⟨us,[]⟩ (us++ds) (vs++dvs) Q (E σ) hr I1.env0 (hb s1 us I1.kIn hl) r2 q) λ rr s' hq=>?_)
 cases rr with
 | error ev=>exact hx σ pins H1 s1 ev s' I1 hq
 | ok fl=>
  cases fl with
  | ret u=>exact I1.after hq
  | next=>exact False.elim hq
  | brk=>exact False.elim hq
  | cont=>exact False.elim hq
set_option genInjectivity false in
structure Nu where
 nm:Str
 q:Str
 N:Addr
 bs:List Value
 bm:List Value
 hdct:Bool
 sn:List Str
 sub:List Value
 ab:Bool
 col:Option Bool
 dd:Option Addr
 k0:Option Value
 k1:Option Value
 k2:Option Value
 k3:Option Value
 k5:Option Value
def xX(K:W.Frag)(C:Addr)(z:Option Value)(bmB:List Value)(newId:String):Bool:=match K.lookup C with
 | some ⟨.type "type",_,.cls dat,slt⟩=>(match dat.mro,slt.toList with
  | .ref C'::up,[_,_,_,_,some (.builtin n),_]=>C' == C && n == newId && !dat.hasDel && W.tailIn K bmB up && W.nsOkIn K dat.ns && W.nsIn K dat.ns "__init__" == some z
  | _,_=>false)
 | _=>false
def Er{K:W.Frag}{C:Addr}{z:Option Value}(q0:xX K C z [.type "ValueError",.type "Exception",.type "BaseException",.type "object"] "ValueError.__new__"=true) :
  ∃ c:Nu,K.lookup C=some (excClassObj c.nm c.q C c.N c.bs c.bm c.hdct c.sn c.sub c.ab c.col c.dd c.k0 c.k1 c.k2 c.k3 c.k5 "ValueError.__new__")/\W.tailIn K [.type "ValueError",.type "Exception",.type "BaseException",.type "object"] c.bm=true/\W.nsOkIn K c.N=true/\W.nsIn K c.N "__init__"=some z:=by
 unfold xX at q0;split at q0
 ·rename_i a8 a4 aq a3;split at q0
  ·rename_i b1 a9 g0 g1 g2 g3 nw g5 em bb
   simp only [Tu,R8,Bool.not_eq_true'] at q0<;>skip
   obtain⟨⟨⟨⟨⟨rfl,rfl⟩,ar⟩,tok⟩,a5⟩,a6⟩:=q0;obtain⟨c1,c2,c3,c4,c5,c6,c7,c8,c9,bp,b2⟩:=a4;dsimp only at em ar a5 a6;subst em ar;obtain⟨a7⟩:=aq;have bt:a7=[g0,g1,g2,g3,some (.builtin "ValueError.__new__"),g5]:=bb;subst bt;exact⟨⟨c1,c5,c4,c2,a9,c6,c7,c8,c9,bp,a8,g0,g1,g2,g3,g5⟩,a3,tok,a5,a6⟩
  ·cases q0
 ·cases q0
structure P9(K:W.Frag)(C:Addr):Prop where
 ex:W.excIn K C [.type "ValueError",.type "Exception",.type "BaseException",.type "object"] "ValueError.__new__"=true
def DZ(C:Addr)(E:St->XK)(t:TA):TS:=λ _ σ H=>t σ H λ vs H1=>vs.length<=sizeLine/\E σ (.ref C) none H1
def uG{C:Addr}{x:Str}{e₀:Expr}{cB:List Expr}{np cpos pos:Pos}{t:TA}{E:St->XK}(hc:X.calm=true)(hg:Gl X x)(a4:X.mg x=some (.ref C))(O:P9 X.K C)(hx:∀ σ,u5 X (E σ) σ)(ha:PA X (e₀::cB) t)
  (he:starEach (e₀::cB) X.env=(false,eval e₀ X.env)::starEach cB X.env:=by rfl) (aq:(backTo cpos (starEach cB X.env)).any (·.1)=false:=by rfl) (a5:(x == ("__debug__":Str))=false:=by decide) :
  PS X (.Raise (some (.Call (.Name x np) (e₀::cB) [] cpos)) none pos) (DZ C E t):=by
 intro pins s σ H D I h;obtain⟨c,ar,tok,a3,a6⟩:=Er (z:=none) O.ex;have a7:X.base.Ns c.N (X.base.nsMap c.N):=.of_isNs (W.isNs_of_in I.mod.kin a3)
 refine PySem.wpAny_Raise_call_subU (C:=C) (nm:=c.nm) (q:=c.q) (N:=c.N) (bs:=c.bs) (bm:=c.bm) (hdct:=c.hdct) (sn:=c.sn) (sub:=c.sub) (ab:=c.ab) (col:=c.col) (dd:=c.dd) (k0:=c.k0) (k1:=c.k1) (k2:=c.k2) (k3:=c.k3) (k5:=c.k5)
  Rn (by decide +kernel) Rn (mN:=X.base.nsMap c.N) ((W.tail_of_in I.kIn tok).hasType (by decide +kernel)) (I.ok.hd hc) (by rw [he];exact(S9 _).trans aq) (W.nsMap_none_of_in I.mod.kin a3 a6) (eY I hg a4 ⟨rfl,?_⟩ a5)
 have hh:=ha cpos pins s σ H _ I h;rw [he] at hh ⊢;exact Th (thn hh λ us s2 ⟨vs,H2,I2,r,hl,hE⟩=>⟨rfl,by rw [←r.length];exact hl,I2.kIn _ _ ar,a7.keeps I2.bk,W.tail_of_in I2.kIn tok,λ h' e hm=>hx σ pins H2 s2 h' e C us I2 hm hE⟩)
abbrev Cx.mark(X:Cx)(e:Addr):Cx:={ X with A:=X.A.mark (some (.ref e)),calm:=false,xe:=λ _ _=>False }
def Inv.mark{pins:List (Addr × Obj)}{σ:St}{H:Hp}{s:Shared}(I:Inv X pins σ H s)(e:Addr):Inv (X.mark e) pins σ H s:=
 ⟨⟨I.ok.mod,I.ok.kind,I.ok.glob,I.ok.blt,I.ok.above,I.ok.inj,I.ok.has,I.ok.cab,(λ z=>by cases z),I.ok.frames,I.ok.stk,I.ok.exf,I.ok.bs,I.ok.bsz,I.ok.noex,I.ok.exfs,I.ok.funs,I.ok.frf⟩,I.os,I.bare,I.base,I.loc,I.cell,I.free,I.freeC,I.pin,I.hok,I.len⟩
def Inv.unmark{pins:List (Addr × Obj)}{σ:St}{H:Hp}{s:Shared}{e:Addr}(ok:X.Ok)(I:Inv (X.mark e) pins σ H s):Inv X pins σ H s:=
 ⟨ok,I.os,I.bare,I.base,I.loc,I.cell,I.free,I.freeC,I.pin,I.hok,I.len⟩
end
structure Nr(K:W.Frag)(x qual:Str)(st:Stmt)(f:Addr)(fd:FuncData):Prop where
 ex:∃ (oc:Value) (od:Option Addr) (dV kV doc pm:Value) (an:Option Addr) (cdv ct:Value) (osl:Array (Option Value)),
  fd=W.fnOf x qual (fO st) (cX st) (aa st) dV kV doc pm an cdv ct/\K.lookup f=some ⟨oc,od,.func fd,osl⟩/\W.codeIn K cdv qual=true
 kp:W.keepIn K (.ref f)=true
section
variable {P:Program}{w:World}{K:PySem.W.Frag}{mg:Str->Option Value}{base:Heap}
def Nr.ok{CX:CXT}{x qual:Str}{st:Stmt}{f:Addr}{fd:FuncData}{N ps:List Str}{k:Nat}{sp:Sp}(F:Nr K x qual st f fd)(S:ah N ps (aa st))(len:∀ vs H Q E,sp vs H Q E->vs.length=ps.length)
  (aq:∀ (cdv:Value) (A:Around) (outer:List Env) (s:Shared) (H:Hp) (vs:List V) (Q:VK) (E:XK),fG k (A.deeper (envOfC qual (aa st) s.heap.objs.size f cdv))->sp vs H Q E →
   ∃ t,PSs (w9 CX P w K mg base N qual (aa st) f cdv A outer s H E) (cX st) t/\t { nx:=λ _ H'=>Q .non H',rt:=Q } (ao N vs) H):aM P w K mg base CX (k+1) f fd ps sp:=by
 obtain⟨oc,od,dV,kV,doc,pm,an,cdv,ct,osl,rfl,lk,ar⟩:=F.ex;exact E5 lk ar S len λ A outer s H vs Q E hr a3=>aq cdv A outer s H vs Q E hr a3
end
open PySem.W
structure ue(K:W.Frag)(C:Addr):Prop where
 ga:W.findIn K (.ref C) "__getattribute__"=some (some (.builtin "BaseException.__getattribute__"))
 no:W.findIn K (.ref C) "__getattr__"=some none
 mb:W.mroIn K C (.type "BaseException")=some true
 mo:W.mroIn K C (.type "object")=some true
 cl:W.findIn K (.ref C) "__class__"=some (some (.builtin "object.__class__"))
 sp:W.specialIn K (.builtin "object.__class__") "__get__"=some (some (.builtin "getset_descriptor.__get__"))
 tk:W.takesIn K (.builtin "object.__class__")=some true
 hd:W.hasDictIn K C=true
section
variable {prog:Program}{w:World}{A:Around}{E:Value->Shared->Prop}{s:Shared}{K:PySem.W.Frag}{x C:Addr}{ox:Obj}{od:Option Obj}{name:Str}
def qd{M:Model}{nameV:Value}{Q:Unit->Shared->Prop}(c:ue K C)(X:K.In s.heap)(I:InstAt s.heap x ox C od)(hq:Q () s):wpAny M A (checkBuiltinCall "BaseException.__getattribute__" ⟨[.ref x,nameV],[]⟩) Q E s:=by
 have hk:builtinKind "BaseException.__getattribute__"=some .slot:=by decide +kernel
 have aq:splitId "BaseException.__getattribute__"=some ("BaseException", "__getattribute__"):=by decide +kernel
 have ha:=F.args_bexc_ga (.ref x) nameV;have L0:=I.type (M:=M);have L1:=looks_mroIn (M:=M) X c.mb;obtain⟨hh,g,d,t,os⟩:=s;simp only [checkBuiltinCall,hk,aq];have LI:Looks M hh (isInstance (.ref x) (.type "BaseException")) true:=L0.andThen L1;refine My (LI.at ?_)
 first|exact hq|exact Ql hq|(simp only [Bool.not_true,Ta,S6];exact hq)
def Pu(M:Model)(A:Around)(P:Value->Shared->Prop)(fin:PySem.Fin)(s:Shared):Prop:=match fin with
 | .done (.ret v)=>P v s
 | .again c=>c.quiet=true/\codeAny M A c (λ r s'=>match r with | .ok (.ret v)=>P v s'|_=>False) s
 | _=>False
def Dy{Q:Option Value->Shared->Prop}(c:ue K C)(X:K.In s.heap)(I:InstAt s.heap x ox C od)
  (h:∀ A':Around,wpAny (model prog w) A' (Builtin.«object.__getattribute__» ⟨[.ref x,.str name s.toks],[]⟩) (Pu (model prog w) A λ v s'=>wpAny (model prog w) A (handedOut v) (λ v aq=>Q (some v) aq) (λ _ _=>False) s') (λ _ _=>False) { s with toks:=s.toks+1 }) :
  wpAny (model prog w) A (getAttr? (.ref x) name) Q E s:=by
 obtain⟨hh,g,d,t,os⟩:=s;have L0:=I.type (M:=model prog w);have L1:=looks_findIn (M:=model prog w) X c.ga;have L2:=looks_findIn (M:=model prog w) X c.no;unfold getAttr? getAttrBy? getAttrBy;refine wpAny_bind (wpAny_mkText (wpAny_bind (wpAny_attempt (wpAny_holding (wpAny_bind (L0.at (wpAny_bind (L1.at ?_))))))))
 show wpAny _ _ (getAttrByItsOwn _ _ _ _ _ _) _ _ _
 unfold getAttrByItsOwn
 show wpAny _ _ (do let before ←typeLookup (.ref C) "__getattr__";_) _ _ _
 refine wpAny_bind (L2.at (wpAny_bind (wpAny_attempt (wpAny_holding ?_))));unfold callGetattribute;rw [if_neg (by simp)];unfold boundAndCalled;rw [F.attr_ValueError.ga.bind (.ref x)];refine wpAny_bind (wpAny_pure (wpAny_call (codeAny_call_builtin F.attr_ValueError.ga.plain F.entry_bexc_ga (qd c X I ?_))));have ar:∀ v s',wpAny (model prog w) A (handedOut v) (λ v aq=>Q (some v) aq) (λ _ _=>False) s'->wpAny (model prog w) A (handedOut v) (λ a s'=>wpAny (model prog w) A (pure (some a)) Q E s') (λ e s'=>wpAny (model prog w) A (do if ←isInstance e (.type "AttributeError") then pure none else throw e) Q E s') s':=λ v s' z=>wpAny_mono z (λ _ _ q=>wpAny_pure q) λ _ _ q=>q.elim;refine wpAny_mono (h _) (λ fin s' z=>?_) λ _ _ z=>z.elim
 cases fin with
 | done f=>cases f with
  | ret v=>exact ar v s' z
  | _=>exact z.elim
 | again c'=>
  obtain⟨z1,z2⟩:=z;refine⟨z1,Rt z2 λ r aq q=>?_⟩
  cases r with
  | error e=>exact q.elim
  | ok f=>cases f with
   | ret v=>exact ar v aq q
   | _=>exact q.elim
def oY{a g:Value}(hc:(clsIn K C).isSome=true)(ha:findIn K (.ref C) name=some (some a))(hg:specialIn K a "__get__"=some (some g))(ht:takesIn K a=some true):findObj K C od name=some (.bind g a):=by
 obtain⟨cd,hc⟩:=Option.isSome_iff_exists.mp hc;unfold findObj;rw [hc,Option.bind_some,ha,Option.bind_some];simp [hg,ht]
def ue.some(c:ue K C):(clsIn K C).isSome=true:=by
 obtain⟨cd,hc,_⟩:=any_some c.hd;rw [hc];rfl
def AJ{Q:Option Value->Shared->Prop}(c:ue K C)(X:K.In s.heap)(I:InstAt s.heap x ox C od)(hq:Q (some (.ref C)) { s with toks:=s.toks+1 }):wpAny (model prog w) A (getAttr? (.ref x) "__class__") Q E s:=by
 have hf:findObj K C od "__class__"=some (.bind (.builtin "getset_descriptor.__get__") (.builtin "object.__class__")):=oY c.some c.cl c.sp c.tk;refine Dy c X I λ A'=>?_;have L0:=I.type (M:=model prog w);have L1:=looks_find (M:=model prog w) X I hf;have cg:∀ {A:Around} {R:Result->Shared->Prop},R (.ok (.ret (.ref C))) { s with toks:=s.toks+1 }->codeAny (model prog w) A (.call (.builtin "getset_descriptor.__get__") ⟨[.builtin "object.__class__",.ref x,.ref C],[]⟩) R { s with toks:=s.toks+1 }:=λ h=>class_get (s:={ s with toks:=s.toks+1 }) (ox:=ox) (od:=od) X I c.mo h;obtain⟨hh,gg,d,t,os⟩:=s;refine My (Ql (My (Ql (My (L0.at (My (L1.at ?_)))))))
 show wpAny _ _ (do ret (←holding [.builtin "object.__class__"] (call (.builtin "getset_descriptor.__get__") [.builtin "object.__class__",.ref x,.ref C]))) _ _ _
 exact My (QU (RP (cg (Ql (show Pu _ _ _ (.done (.ret (.ref C))) _ from handed_on rfl hq)))))
def uS(c:ue K C):KitX K (.ref x) (.ref C) (λ h=>InstAt h x ox C od) where
 ty:=λ _ _ _ I=>I.type
 it:=λ _ _ X _=>by
  obtain⟨ar,aq,_⟩:=any_some c.hd;unfold clsIn at aq;split at aq
  ·rename_i c' d' a3 a4 ho;intro A' Q' E' s' k q;unfold isType loadHead;exact wpAny_bind (wpAny_loadPart (k _ _ (X _ _ ho)) (wpAny_pure q))
  ·cases aq
 ne:=λ h tp dd its n sl X a5=>by
  obtain⟨ar,aq,_⟩:=any_some c.hd;refine Bool.eq_false_iff.mpr λ q=>?_;have e:C=tp:=Value.ref.inj (beq_iff_eq.mp q);subst e;unfold clsIn at aq;split at aq
  ·rename_i c' d' a3 a4 ho;have z:=(X _ _ ho).symm.trans a5;cases z
  ·cases aq
 ca:=λ X I k=>AJ c X I k
end
def jC(oe:Obj):HO:=.frz oe (.ext λ _=>True)
structure pz(X:Cx)(pins:List (Addr × Obj))(e:Addr):Prop where
 s0:X.s₀.heap.get? e=none
 loc:e ≠ X.env.locals
 cel:∀ x c,X.env.cells.lookup x=some c->c ≠ e
 fs:e ∉ X.fs
 pin:∀ p∈X.pn++pins,p.1 ≠ e
section
variable {X:Cx}
def pz.of{pins:List (Addr × Obj)}{σ:St}{H:Hp}{s:Shared}{e:Addr}(I:Inv X pins σ H s)(hx:X.ex=[])(h:s.heap.get? e=none):pz X pins e where
 s0:=by
  cases q:X.s₀.heap.get? e with
  | none=>rfl
  | some o=>
   obtain⟨o',z⟩:=I.base.there e o q (by rw [hx];simp);rw [h] at z;cases z
 loc:=λ z=>by
  obtain⟨m,⟨o,_,_,q,_⟩,_⟩:=I.loc;rw [←z,h] at q;cases q
 cel:=λ x c q z=>by
  obtain⟨v,o,r,_⟩:=I.cell x c q;rw [z,h] at r;cases r
 fs:=λ z=>by
  obtain⟨_,o,q,_⟩:=I.funs.mem z;rw [h] at q;cases q
 pin:=λ p hp z=>by
  have q:=(I.pin p hp).1;rw [z,h] at q;cases q
def Inv.track{pins:List (Addr × Obj)}{σ:St}{H:Hp}{s:Shared}{e:Addr}{oe:Obj}(I:Inv X pins σ H s)(N:pz X pins e)(he:s.heap.get? e=some oe)(hn:H e=none):Inv X pins σ (upd H e (jC oe)) s:=by
 have ne:∀ {b:Addr} {o:HO},H b=some o->b ≠ e:=λ q z=>by rw [z,hn] at q;cases q
 refine⟨I.ok,I.os,I.bare,⟨I.base.keep,I.base.slot,λ b o q n hx=>?_,I.base.there,λ b xs q=>?_,λ b o u q=>?_,λ b ps q=>?_⟩,I.loc,I.cell,?_,λ x c q=>?_,λ p hp=>?_,λ b o q=>?_,I.len⟩
 ·rw [ae (λ z=>by rw [z,N.s0] at q;cases q)];exact I.base.free b o q n hx
 ·have z:=I.base.tups b xs q;rw [ae (ne z)];exact z
 ·have z:=I.base.frzs b o u q;rw [ae (ne z)];exact z
 ·obtain⟨m,z⟩:=I.base.tbls b ps q;exact⟨m,by rw [ae (ne z)];exact z⟩
 ·rw [ae (QS N.loc)];exact I.free
 ·rw [ae (N.cel x c q)];exact I.freeC x c q
 ·obtain⟨a,b,c,d,f⟩:=I.pin p hp;exact⟨a,by rw [ae (N.pin p hp)];exact b,c,d,f⟩
 ·by_cases hb:b=e
  ·subst hb;rw [af] at q;cases q;exact⟨he,trivial,⟨oe,he⟩,λ _ _ _ _=>trivial⟩
  ·rw [ae hb] at q;exact(I.hok b o q).stay (λ _ _ _ r=>r) (λ c r=>by rw [ae (ne r)];exact r) (λ c y r=>by rw [ae (ne r)];exact r) λ c xs r=>by rw [ae (ne r)];exact r
def PHs(X:Cx)(hs:List ExceptHandler)(th:Value->Option Addr->TS):Prop:=
 ∀ (pins:List (Addr × Obj)) (s:Shared) (σ:St) (H:Hp) (D:iw) (e T:Addr) (cls:Value) (d:Option Addr),Inv X pins σ H s->pz X pins e->H e=none->pA s.heap e cls d T->th cls d D σ H->wpAny (model X.prog X.w) X.A (handleBy (.ref e) X.env hs) (SP X pins D) X.xe s
def Iy{M:Model}{A:Around}{E:Value->Shared->Prop}{s:Shared}{e T:Addr}{cls:Value}{d:Option Addr}{Q:Unit->Shared->Prop}(x:pA s.heap e cls d T)(hQ:∀ h',(∀ b o,s.heap.get? b=some o->h'.get? b=some o)->Q () { s with heap:=h' }) :
  wpAny M A (setFlight (.ref e) none) Q E s:=by
 obtain⟨oe,vs,oT,ts,he,rfl,rfl,hd,h1,ne,hT,aq,h3,a3⟩:=x;unfold setFlight;refine wpAny_bind (wpAny_field he hd h1 ?_);rw [if_pos (show (Value.ref T != Value.none)=true from by simp)];refine wpAny_setField hT aq (Array.getElem?_eq_some_iff.mp h3).1 (hQ _ λ b o q=>?_)
 by_cases hb:b=T
 ·subst hb;rw [hT] at q;cases q
  have same:Obj.mapFields (·.setIfInBounds 3 ((none:Option Addr).elim Value.none λ f=>rawInt f)) oT=oT:=by
   obtain⟨c,d,dat,sl⟩:=oT;cases aq
   have e3:ts.setIfInBounds 3 ((none:Option Addr).elim Value.none λ f=>rawInt f)=ts:=by
    apply Array.ext_getElem?;intro i
    by_cases hi:i=3
    ·subst hi;obtain⟨ar,hv⟩:=QZ.mp h3;simp [Array.getElem?_setIfInBounds,ar,hv]
    ·rw [Ti (QS hi)]
   show (⟨c,d,.fields (ts.setIfInBounds 3 ((none:Option Addr).elim Value.none λ f=>rawInt f)),sl⟩:Obj)=_
   rw [e3]
  have:=QM (Obj.mapFields (·.setIfInBounds 3 ((none:Option Addr).elim Value.none λ f=>rawInt f))) hT (Rw (RU aq _));rw [same] at this;exact this
 ·rw [QO _ _ (QS hb)];exact q
def Nz:Value->Option Addr->TS:=λ _ _ _ _ _=>False
def FE:PHs X [] Nz:=λ _ _ _ _ _ _ _ _ _ _ _ _ _ h=>h.elim
def SP.unmark{pins:List (Addr × Obj)}{D:iw}{f:Flow}{s2:Shared}{e:Addr}(ok:X.Ok)(q:SP (X.mark e) pins D f s2):SP X pins D f s2:=by
 cases f with
 | next=>obtain⟨σ',H',J,q⟩:=q;exact⟨σ',H',J.unmark ok,q⟩
 | brk=>obtain⟨σ',H',J,q⟩:=q;exact⟨σ',H',J.unmark ok,q⟩
 | cont=>obtain⟨σ',H',J,q⟩:=q;exact⟨σ',H',J.unmark ok,q⟩
 | ret u=>obtain⟨v,σ',H',J,r,q⟩:=q;exact⟨v,σ',H',J.unmark ok,r,q⟩
def Ma{M:Model}{h:Heap}{e T:Addr}{cls:Value}{d:Option Addr}(ex:pA h e cls d T):W.Looks M h (typeOf (.ref e)) cls:=by
 obtain⟨oe,vs,oT,ts,he,rfl,_⟩:=ex;exact(W.Looks.ld he).andThen .now
def Nk(i:Nat):St->Hp->(St->Hp->Prop)->Prop:=λ σ H Q=>Q (σ.set i none) H
def Ey(i:Nat)(nx:St->Hp->Prop):St->Hp->Prop:=λ σ H=>Nk i σ H nx
def iw.del(i:Nat)(D:iw):iw:=⟨Ey i D.nx,D.rt,Ey i D.bk,Ey i D.ct⟩
def nE{M:Model}{A:Around}{E:Value->Shared->Prop}{pins:List (Addr × Obj)}{σ:St}{H:Hp}{s:Shared}{i:Nat}{x:Str}{pos:Pos}{Q:Unit->Shared->Prop}(I:Inv X pins σ H s)(hi:X.N[i]? = some x)(hk:X.env.scope.names.lookup x=some .local)(hN:X.N.Nodup)
  (h:∀ s',Inv X pins (σ.set i none) H s'->Q () s'):wpAny M A (do bindName X.env x .none;unbindBehindTheSuite X.env x pos) Q E s:=by
 obtain⟨m,hn,hl⟩:=id I.loc;have aq:(X.env.scope.kind == .class || (X.env.scope.kind == .module && X.env.locals != X.env.globals))=false:=by rw [I.ok.kind];rfl
 have cne:=I.cne;refine PySem.wpAny_nameGoes_keeps hk hn aq λ h' v ar hs=>?_;obtain⟨oL,_,_,a3,_⟩:=id hn;refine h _ ⟨I.ok,I.os,I.bare,⟨λ b o e n hb hx=>?_,λ b o e n hb hx=>?_,I.base.free,λ b o e hx=>?_,I.base.tups,I.base.frzs,I.base.tbls⟩,⟨_,ar,λ j y v' e1 e2 e3=>?_⟩,λ y c e=>?_,I.free,I.freeC,λ p hp=>?_,λ b ob e=>?_,by simpa using I.len⟩
 ·exact(hs.2 b (Qy (Qs (Qm e) I.ok.above))).trans (I.base.keep b o e n hb hx)
 ·obtain⟨sl,e1⟩:=I.base.slot b o e n hb hx;exact⟨sl,(hs.2 b (Qy (Qs (Qm e) I.ok.above))).trans e1⟩
 ·obtain⟨o',e1⟩:=I.base.there b o e hx;exact⟨o',(hs.2 b (Qy (Qs (Qm e) I.ok.above))).trans e1⟩
 ·have hj:j ≠ i:=by
   rintro rfl
   by_cases hlt:j < σ.length
   ·rw [SN hlt] at e2;cases e2
   ·rw [Q9 (by simpa using SK hlt)] at e2;cases e2
  rw [Sw (QS hj)] at e2;obtain⟨u',r',q⟩:=hl j y v' e1 e2 e3;refine⟨u',r',?_⟩
  rcases q with ⟨k,e⟩|⟨k,c,e,z⟩
  ·refine .inl ⟨k,?_⟩;have:y ≠ x:=λ e=>hj (oa hN e1 (e ▸ hi));simp [this,e]
  ·exact .inr ⟨k,c,e,z.sameBut hs (cne y c e)⟩
 ·obtain⟨w',z⟩:=I.cell y c e;exact⟨w',z.sameBut hs (cne y c e)⟩
 ·obtain⟨e,n,ne,nf,d⟩:=I.pin p hp;exact⟨(hs.2 p.1 ne).trans e,n,ne,nf,d⟩
 ·refine(I.hok b ob e).stay (λ c w' hc q=>(hs.2 c ?_).trans q) (λ _ q=>q) (λ _ _ q=>q) λ _ _ q=>q;rintro rfl
  rcases hc with rfl|hc
  ·rw [I.free] at e;cases e
  ·rw [I.free] at hc;cases hc
def OK(tb:(St->XK)->TS)(th:Value->Option Addr->TS):TS:=λ D σ H=>tb (λ σ' cls d H'=>th cls d D σ' H') D σ H
abbrev Cx.tried(X:Cx)(E:Value->Shared->Prop)(pn:List (Addr × Obj)):Cx:={ X with xe:=E,pn:=pn }
def Kk{body:List Stmt}{h₀:ExceptHandler}{hs:List ExceptHandler}{pos:Pos}{tb:(St->XK)->TS}{th:Value->Option Addr->TS}(aq:X.stack=X.env::X.outer/\X.env.frame=some X.env.locals/\X.ex=[])
  (hb:∀ (EX:St->XK) (E:Value->Shared->Prop) (pn:List (Addr × Obj)),(∀ σ,Eu (CX1 X.prog X.w) (X.tried E pn) (EX σ) σ)->PSs (X.tried E pn) body (tb EX)) (hh:PHs X (h₀::hs) th) :
  PS X (.Try body (h₀::hs) [] [] pos) (OK tb th):=by
 intro pins s σ H D I h;refine PySem.wpAny_Try_except ?_;have a4:∀ E pn,(X.tried E pn).Ok:=λ E pn=>⟨I.ok.mod,I.ok.kind,I.ok.glob,I.ok.blt,I.ok.above,I.ok.inj,I.ok.has,I.ok.cab,I.ok.hd,I.ok.frames,I.ok.stk,I.ok.exf,I.ok.bs,I.ok.bsz,I.ok.noex,I.ok.exfs,I.ok.funs,I.ok.frf⟩
 have back:∀ {E:Value->Shared->Prop} {ar:List (Addr × Obj)} {σ':St} {H':Hp} {s':Shared},Inv (X.tried E (X.pn++pins)) ar σ' H' s'->Inv X pins σ' H' s':=λ {E ar σ' H' s'} J=>
  ⟨I.ok,J.os,J.bare,J.base,J.loc,J.cell,J.free,J.freeC,λ p hp=>J.pin p (Qz _ hp),J.hok,J.len⟩
 have I0:∀ E,Inv (X.tried E (X.pn++pins)) [] σ H s:=λ E=>⟨a4 E _,I.os,I.bare,I.base,I.loc,I.cell,I.free,I.freeC,λ p hp=>I.pin p (by simpa using hp),I.hok,I.len⟩;refine thn (hb (λ σ' cls d H'=>th cls d D σ' H') _ (X.pn++pins) ?_ [] s σ H D (I0 _) h) λ f s1 q=>?_
 ·intro σ1 a5 H1 s1 ev s2 I1 hc;obtain⟨e,T,cls,dd,H',rfl,os,bare,a3,hok,ne,nT,He,HT,ex,a7,hE⟩:=hc;have I2:=I1.call' (ch:=[]) os a3 hok bare (λ b z=>absurd z (by simp))
  have nf:∀ b,s1.heap.get? b=none->b ∉ frs (X.env::X.outer):=λ b hb z=>by
   have st:=I1.stack;have a6:s1.heap.FunFrames X.base (X.env::X.outer):=by rw [←aq.1];exact st
   obtain⟨_,o,q,_⟩:=a6.mem z;rw [hb] at q;cases q
  have nb:X.base.get? T=none:=by
   cases q:X.base.get? T with
   | none=>rfl
   | some o=>
    have:=I1.bk T o q;rw [nT] at this;cases this
  have fl:s2.heap.FunFrames X.base (X.env::X.outer):=by rw [←aq.1];exact I2.stack
  have fr:X.A.frames=some (X.env::X.outer):=by rw [←aq.1];exact I.ok.frames
  refine pU (base:=X.base) (outer:=X.outer) fr fl aq.2.1 ex (nf e ne) (nf T nT) nb λ g T' ng a8 ex'=>?_;have fs:∀ b∈frs (X.env::X.outer),b∈frs X.stack:=λ b hb=>by rw [aq.1];exact hb
  have I3:=I1.call' (s':={ s2 with heap:=g }) (ch:=[]) os (a3.noted ng ne (λ b z=>by rw [z];exact nT) λ b hb=>.inl (fs b hb)) (hok.noted ng He (λ b z=>by rw [z];exact HT) λ b hb=>I2.stkFree b (fs b hb)) bare (λ b z=>absurd z (by simp));exact hh pins _ σ1 H' D e T' cls dd (back I3) (pz.of (back I1) aq.2.2 ne) He ex' hE
 ·cases f with
  | next=>obtain⟨σ',H',J,q⟩:=q;exact S5 ⟨σ',H',back J,q⟩
  | brk=>obtain⟨σ',H',J,q⟩:=q;exact⟨σ',H',back J,q⟩
  | cont=>obtain⟨σ',H',J,q⟩:=q;exact⟨σ',H',back J,q⟩
  | ret u=>obtain⟨v,σ',H',J,r,q⟩:=q;exact⟨v,σ',H',back J,r,q⟩
def kXd:HO->Prop:=λ o=>match o with
 | .xd _=>True
 | _=>False
def xw(H:Hp):Option Addr->Prop
 | none=>True
 | some dx=>∃ o,H dx=some o/\kXd o
def AX:b9 X (.builtin "isinstance") (λ xs H Q=>∃ e oe C D b,xs=[.ref e,D]/\(∃ u,H e=some (.frz oe u))/\oe.cls=.ref C/\xw H oe.dict/\(∃ vs,oe.data=.fields vs)/\ue X.K C/\(∃ u,bA D u/\W.kitOne X.K (.ref C) u=some b)/\Q (.bl b) H):=by
 intro pins s σ H xs us Q I r h;obtain⟨e,oe,C,D,b,rfl,⟨uu,hH⟩,hc,hd,⟨vs,hv⟩,ec,⟨u,ru,hk⟩,q⟩:=h;obtain⟨u1,u2,rfl,r1,r2⟩:=Bp r;cases (show u1=Value.ref e from r1)
 have hu:u2=u:=by
  cases D with
  | ref a=>exact(show u2=Value.ref a from r2).trans (show u=Value.ref a from ru).symm
  | ty n=>exact(show u2=Value.type n from r2).trans (show u=Value.type n from ru).symm
  | non=>exact(show u2=Value.none from r2).trans (show u=Value.none from ru).symm
  | bl b'=>exact(show u2=Value.bool b' from r2).trans (show u=Value.bool b' from ru).symm
  | int i=>obtain⟨t,rfl⟩:=ru;simp [W.kitOne,W.kitCls] at hk
  | str i=>obtain⟨t,rfl⟩:=ru;simp [W.kitOne,W.kitCls] at hk
  | byt i=>obtain⟨t,rfl⟩:=ru;simp [W.kitOne,W.kitCls] at hk
  | flt i=>obtain⟨t,rfl⟩:=ru;simp [W.kitOne,W.kitCls] at hk
 subst hu;obtain⟨he,_⟩:=(show bg X.prog X.w H s.heap e (.frz oe uu) from I.hok e _ hH);have aq:W.notCls oe=true:=by unfold W.notCls;rw [hv]
 cases q0:oe.dict with
 | none=>
  have J:W.InstAt s.heap e oe C none:=⟨he,hc,aq,by rw [q0];trivial⟩;exact RW (uS ec) I.kIn J hk (λ z=>nomatch z) λ tk=>⟨.bl b,H,I.tok _,rfl,q⟩
 | some dx=>
  rw [q0] at hd;obtain⟨o,ho,hx⟩:=hd
  cases o with
  | xd fs=>
   obtain⟨mA,hn,_⟩:=I.hok dx _ ho;obtain⟨oD,ar,_⟩:=kH hn;have J:W.InstAt s.heap e oe C (some oD):=⟨he,hc,aq,by rw [q0];exact ar⟩;exact RW (uS ec) I.kIn J hk (λ z=>nomatch z) λ tk=>⟨.bl b,H,I.tok _,rfl,q⟩
  | _=>exact hx.elim
end
def Em(K:Frag)(C fI:Addr)(bmB:List Value)(newId:String):Bool:=xX K C (some (.ref fI)) bmB newId
section
variable {prog:Program}{w:World}{A:Around}{R:Result->Shared->Prop}{h:Heap}{g:Array GenState}{d:Drawn}{t:Nat}{os:OsState}{K:Frag}
variable {nm q:Str}{C N fI:Addr}{bs bm bmB:List Value}{hdct:Bool}{sn:List Str}{sub:List Value}{ab:Bool}{col:Option Bool}{dd:Option Addr}{k0 k1 k2 k3 k5:Option Value}{B Bn newId nid initId inN:String}{bmN:List Value}
abbrev lT(C:Addr)(cB:List Value)(h:Heap):Heap:=(h.push { cls:=.type "tuple",data:=.seq cB.toArray }).push { cls:=.ref C,data:=.fields #[.ref h.objs.size,.none,.none,.none,.bool false,.none] }
def IA(Fn:ExcBaseFacts Bn newId inN bmN)(ar:bmB.contains (.type Bn)=true)(F:ExcBaseFacts B nid initId bmB)(T:OwnTail h bmB bm){mN:Str->Option Value}{cB:List Value}
  (hC:h.get? C=some (excClassObj nm q C N bs bm hdct sn sub ab col dd k0 k1 k2 k3 k5 newId)) (hn:h.Ns N mN) (a4:mN "__init__"=some (.ref fI)) (X:K.In h) (hf:typeIn K (.ref fI)=some (.type "function")) (aq:cB.length<=sizeLine)
  (hq:codeAny (model prog w) (A.under (.builtin "type.__call__" ⟨.ref C::cB,[]⟩)) (.call (.ref fI) ⟨.ref (h.objs.size+1)::cB,[]⟩) (InitBack (h.objs.size+1) R) ⟨lT C cB h,g,d,t,os⟩) :
  codeAny (model prog w) A (.call (.ref C) ⟨cB,[]⟩) R ⟨h,g,d,t,os⟩:=by
 have f1:=tc_lookup;have f2:=tc_bind (.ref C);have hT:(⟨h,g,d,t,os⟩:Shared).TypeIs (.ref C) "type":=⟨_,hC,rfl⟩;refine codeAny_of_tree ?_
 show wpAny _ _ (callAny (.ref C) _) _ _ _
 repeat (any_goals (first|assumption|with_reducible refine R4 hC ?_|wp_step))
 refine⟨rfl,?_⟩;refine codeAny_call_builtin_at (Code.quiet_builtin _ (by decide +kernel)) entry_typeCall (wpAny_check_type_call_sub hC ?_)
 repeat (first|with_reducible refine R4 hC ?_|with_reducible refine wpAny_madeBy_exc hC ?_|wp_step)
 refine codeAny_call_builtin_code (Code.quiet_builtin _ Fn.quiet) (wpAny_check_new_subU Fn ar T hC (codeAny_exc_new_subU Fn ar F T hC ?_ aq))
 show wpAny _ _ _ _ _ _
 have kp:∀ b o,h.get? b=some o->(lT C cB h).get? b=some o:=λ b o e=>Heap.get?_push_of_some _ (Heap.get?_push_of_some _ e);have a3:=kp _ _ hC;have a5:(lT C cB h).Ns N mN:=let ⟨o,es,ep,e,r⟩:=hn;⟨o,es,ep,kp _ _ e,r⟩;have hg:(lT C cB h).get? (h.objs.size+1)=some { cls:=.ref C,data:=.fields #[.ref h.objs.size,.none,.none,.none,.bool false,.none] }:=by unfold lT;heap_get
 have a6:(Value.ref C::bm).contains (.ref C)=true:=by simp
 have T1:=T.keeps (h':=lT C cB h) kp;have X1:K.In (lT C cB h):=λ b o e=>kp b o (X b o e);unfold isInstance
 repeat (first|with_reducible refine R4 hg ?_|wp_step)
 show wpAny _ _ (isSubtype (.ref C) (.ref C)) _ _ ⟨lT C cB h,g,d,t,os⟩
 refine wpAny_isSubtype_exc a3 ?_;rw [a6]
 repeat (first|with_reducible refine R4 hg ?_|wp_step)
 show wpAny _ _ (typeLookup (.ref C) _) _ _ _
 refine wpAny_typeLookup_tail a3 a5 T1 F.mroIs F.init.lookup ?_;rw [a4];refine QU (My ((bind_fn X1 _ hf).at ?_));refine My (RP (Rt hq λ r s' z=>?_))
 cases r with
 | error e=>exact z
 | ok f=>
  cases f with
  | ret v=>obtain⟨rfl,y⟩:=z;exact Ql (Ql y)
  | next=>exact z.elim
  | brk=>exact z.elim
  | cont=>exact z.elim
end
def oi:List Value->List Value
 | .ref _::r=>oi r
 | l=>l
def kR(self:Value):∀ l:List Value,refuseLoop self "__setattr__" l=refuseLoop self "__setattr__" (oi l)
 | []=>rfl
 | v::r=>by
  cases v with
  | ref c=>rw [refuseLoop_ref];exact kR self r
  | _=>rfl
def yA(l:List Value):Bool:=oi l == [.type "ValueError",.type "Exception",.type "BaseException",.type "object"]
def vH(self:Value){l:List Value}(e:yA l=true):refuseLoop self "__setattr__" l=pure ():=by
 rw [kR,R8.mp e];exact PySem.F.store_ValueError.passes self
def sO(K:Frag)(C:Addr):Bool:=(clsIn K C).any λ cd=>yA cd.mro && cd.mro.contains (.type "object")
structure yf(K:Frag)(C:Addr):Prop where
 ov:sO K C=true
 sa:findIn K (.ref C) "__setattr__"=some (some (.builtin "object.__setattr__"))
 hd:hasDictIn K C=true
section
variable {prog:Program}{w:World}{A:Around}{E:Value->Shared->Prop}{K:Frag}{x C:Addr}{s:Shared}{name:Str}{v:Value}
def Cg{ox:Obj}{od:Option Obj}{tk:Tok}{R:Result->Shared->Prop}(X:K.In s.heap)(I:InstAt s.heap x ox C od)(hp:sO K C=true)(ht:takerIn K C name=some none)
  (h:∀ b,wpAny (model prog w) A.in1 (Builtin.ObjectAttr.storeInOwnDict (.ref x) (.ref C) (.str name tk) name v b) (λ fin s'=>match fin with | .done f=>R (.ok f) s' | .again c'=>c'.quiet=true/\codeAny (model prog w) A c' R s') (λ e s'=>R (.error e) s') s) :
  codeAny (model prog w) A (.call (.builtin "object.__setattr__") ⟨[.ref x,.str name tk,v],[]⟩) R s:=by
 have sf:=PySem.F.store_object;obtain⟨dat,ar,aq⟩:=any_some hp;rw [Tu] at aq
 have emp:dat.mro.isEmpty=false:=by cases q:dat.mro with|nil=>rw [q] at aq;cases aq.2|cons _ _=>rfl
 have JP:Looks (model prog w) s.heap (isInstance (.ref x) (.type "object")) true:=I.type.andThen (looks_mroIn X (by unfold mroIn;rw [ar,Option.bind_some,if_neg (by rw [emp];decide),aq.2]));refine codeAny_call_builtin sf.slot.plain sf.entry (@check_slot (model prog w) _ _ s "object.__setattr__" "object" "__setattr__" (.ref x) [.str name tk,v] [] _ sf.kind sf.split JP (sf.args (.ref x) (.str name tk) v) ?_);obtain⟨on,a3,hr⟩:=Option.bind_eq_some_iff.mp ht;have lm:Looks (model prog w) s.heap (mroOf (.ref C)) dat.mro:=(looks_clsIn X ar).andThen .now
 have lt:Looks (model prog w) s.heap (Builtin.ObjectAttr.storeTaker? on) none:=by
  cases on with
  | none=>exact .now
  | some a=>
   obtain⟨b,hb,hz⟩:=Qj.mp hr;refine(looks_takesIn X hb).andThen ?_;cases b
   ·exact .now
   ·cases hz
 rw [osa_eq,refuse_eq];refine My (My (I.type.here (My (lm.here (by rw [vH _ aq.1];refine Ql (My (I.type.here (My ((Td X a3).here (My (lt.here (h _))))))))))))
def Fs{vs:Array Value}{sl:Array (Option Value)}{Q:Unit->Shared->Prop}(c:yf K C)(X:K.In s.heap)(hx:s.heap.get? x=some ⟨.ref C,none,.fields vs,sl⟩)(ht:takerIn K C name=some none)
  (h:∀ h' tk,h'.get? x=some ⟨.ref C,some s.heap.objs.size,.fields vs,sl⟩->h'.Ns1 s.heap.objs.size (λ y=>if y=name then some v else none)->(∀ b o,b ≠ x->s.heap.get? b=some o->h'.get? b=some o)->Q () { s with heap:=h',toks:=tk }) :
  wpAny (model prog w) A (setAttr (.ref x) name v) Q E s:=by
 have I:InstAt s.heap x ⟨.ref C,none,.fields vs,sl⟩ C none:=⟨hx,rfl,rfl,trivial⟩;refine set_plain X I c.sa (Cg (s:={ s with toks:=s.toks+1 }) X I c.ov ht λ b=>?_);obtain⟨cd,hc,a3⟩:=any_some c.hd;have aq:x ≠ s.heap.objs.size:=Qy (Qm hx);have ar:(s.heap.push { cls:=.type "dict",data:=.dict #[] }).get? x=some ⟨.ref C,none,.fields vs,sl⟩:=Qg _ hx;refine My (Ql (My (My (wpAny_loadPart hx ?_))))
 show wpAny _ _ (do if !(←classData C).hasDict then pure none else _) _ _ _
 refine My (Looks.here (s:={ s with toks:=s.toks+1 }) (looks_clsIn X hc) ?_);rw [a3,QB (by decide)]
 show wpAny _ _ (do let d ←alloc { cls:=.type "dict",data:=.dict #[] };update x λ o=>{ o with dict:=some d };dictMade (.ref C) x d) _ _ _
 refine My (wpAny_alloc (My (wpAny_update ar (Ql (a:=some s.heap.objs.size) ?_))));generalize hg:(s.heap.push { cls:=.type "dict",data:=.dict #[] }).update x (λ o=>{ o with dict:=some s.heap.objs.size })=g0;have gx:g0.get? x=some ⟨.ref C,some s.heap.objs.size,.fields vs,sl⟩:=by rw [←hg];exact QM _ ar rfl
 have gd:g0.get? s.heap.objs.size=some { cls:=.type "dict",data:=.dict #[] }:=by rw [←hg];exact(Rp _ _ _ _ aq.symm).trans (Heap.get?_push_at rfl rfl)
 have gk:∀ b o,b ≠ x->s.heap.get? b=some o->g0.get? b=some o:=λ b o hb e=>by rw [←hg];exact(Rp _ _ _ _ hb).trans (Qg _ e)
 have gn:g0.Ns s.heap.objs.size (λ _=>none):=⟨_,#[],_,gd,rfl,λ e he=>absurd he (by simp),λ _=>rfl⟩
 show wpAny _ _ (Builtin.ObjectAttr.storeInDict s.heap.objs.size (.str name s.toks) name v) _ _ _
 unfold Builtin.ObjectAttr.storeInDict Builtin.ObjectAttr.newKeyGuard;refine wpAny_bind (wpAny_pure (wpAny_bind (wpAny_nsSet1 (Heap.Ns1.of_empty gn) λ h2 n2 s2=>?_)));obtain⟨oD,eD,pD,q1,q2,q3⟩:=n2.count (Within.cons name v Within.nil);refine wpAny_bind (wpAny_lookBehind q1 (by rw [q2];exact pastItsLine_dict (Nat.le_trans q3 (by rw [length_cons,List.length_nil,sizeLine_eq];omega))) ?_);exact wpAny_pure (h h2 _ ((s2.2 x aq).trans gx) n2 λ b o hb e=>(s2.2 b (Nat.ne_of_lt (Heap.lt_size e))).trans (gk b o hb e))
end
section
variable {prog:Program}{w:World}{A:Around}{E:Value->Shared->Prop}{s:Shared}{K:PySem.W.Frag}{x C dx:Addr}{ox:Obj}{od:Option Obj}{name:Str}{mA:Str->Option Value}{u:Value}
def IB{expr:Bool}{Q:Value->Shared->Prop}(c:ue K C)(X:K.In s.heap)(hx:s.heap.get? x=some ox)(aq:ox.cls=.ref C)(ar:notCls ox=true)(hd:ox.dict=some dx)(hn:s.heap.Ns1 dx mA)(ha:bz K C name)(hv:mA name=some u)(hh:handedIn u=true)
  (h:Q u { s with toks:=s.toks+1 }):wpAny (model prog w) A (getAttr (.ref x) name expr) Q E s:=by
 obtain⟨oD,ho,hl⟩:=kH hn;have I:InstAt s.heap x ox C (some oD):=⟨hx,aq,ar,by rw [hd];exact ho⟩;have hf:findObj K C (some oD) name=some (.value u):=findObj_own c.hd ha rfl (by rw [hl,hv]);have L0:=I.type (M:=model prog w);have L1:=looks_findIn (M:=model prog w) X c.ga;have L2:=looks_findIn (M:=model prog w) X c.no;have L3:=looks_find (M:=model prog w) X I hf;have ck:=λ {M:Model} {A:Around} {E:Value->Shared->Prop} {Q:Unit->Shared->Prop} (q:Q () { s with toks:=s.toks+1 })=>qd (M:=M) (A:=A) (E:=E) (nameV:=.str name s.toks) (s:={ s with toks:=s.toks+1 }) c X I q;obtain⟨hp,g,d,t,os⟩:=s;unfold getAttr getAttrBy;refine wpAny_bind (wpAny_mkText (wpAny_holding (wpAny_bind (L0.at (wpAny_bind (L1.at ?_))))))
 show wpAny _ _ (getAttrByItsOwn _ _ _ _ _ _) _ _ _
 unfold getAttrByItsOwn
 show wpAny _ _ (do let before ←typeLookup (.ref C) "__getattr__";_) _ _ _
 refine wpAny_bind (L2.at (wpAny_bind (wpAny_attempt (wpAny_holding ?_))));unfold callGetattribute;rw [show (expr && onTheHeap (Value.builtin "BaseException.__getattribute__"))=false from Bool.and_false _,if_neg (by decide)];unfold boundAndCalled;rw [F.attr_ValueError.ga.bind (.ref x)];refine wpAny_bind (wpAny_pure (wpAny_call (codeAny_call_builtin F.attr_ValueError.ga.plain F.entry_bexc_ga (ck ?_))));refine wpAny_bind (wpAny_pure (wpAny_bind (wpAny_pure (wpAny_bind (L0.at (wpAny_bind (L3.at (wpAny_pure ?_))))))))
 show wpAny _ _ (handedOut u) _ _ _
 rw [handedOut_of hh];exact Ql h
end
section
variable {prog:Program}{w:World}{A:Around}{E:Value->Shared->Prop}{h:Heap}{g:Array GenState}{d:Drawn}{t:Nat}{os:OsState}{e a0:Addr}{dct:Option Addr}
variable {nm q:Str}{C N:Addr}{bs bm bmB:List Value}{hdct:Bool}{sn:List Str}{sub:List Value}{ab:Bool}{col:Option Bool}{dd:Option Addr}{k0 k1 k2 k3 k5:Option Value}{B newId nid initId:String}
def AF(F:ExcBaseFacts B nid initId bmB)(T:OwnTail h bmB bm){cB:List Value}{Q:Value->Shared->Prop}(hC:h.get? C=some (excClassObj nm q C N bs bm hdct sn sub ab col dd k0 k1 k2 k3 k5 newId))
  (he:h.get? e=some ⟨.ref C,dct,.fields #[.ref a0,.none,.none,.none,.bool false,.none],#[]⟩) (aq:cB.length<=sizeLine)
  (hq:∀ h' a1,h'.get? e=some ⟨.ref C,dct,.fields #[.ref a1,.none,.none,.none,.bool false,.none],#[]⟩->(∀ b o,b ≠ e->h.get? b=some o->h'.get? b=some o)->Q .none ⟨h',g,d,t,os⟩) :
  wpAny (model prog w) A (call (.builtin initId) (.ref e::cB)) Q E ⟨h,g,d,t,os⟩:=by
 refine RP (RC F.init.plain F.initEntry (wpAny_check_init_subU F T hC he rfl ?_))
 wp_walk
 refine hq _ h.objs.size ?_ λ b o hb z=>?_
 ·rw [QM _ (Qg _ he) rfl];rfl
 ·rw [QO _ _ (QS hb)];exact Qg _ z
end
def NJ{K:Frag}{h:Heap}{N:Addr}{mg:Str->Option Value}{n:Str}{v:Value}(X:K.In h)(G:h.Ns N mg)(e:nsIn K N n=some (some v)):mg n=some v:=by
 obtain⟨ob,ents,prev,a4,ar,_,aq⟩:=G;unfold nsIn at e;split at e
 ·rename_i c0 d0 a5 n0 a6 look;have z:=X _ _ look;rw [a4] at z;cases z;cases ar;split at e
  ·rename_i ent a3;cases e;rw [←aq];unfold nsFind findBy;rw [←Array.find?_toList,a3];rfl
  ·split at e<;>cases e
 ·cases e
structure Jk(K:W.Frag)(C fI:Addr):Prop where
 ex:Em K C fI [.type "ValueError",.type "Exception",.type "BaseException",.type "object"] "ValueError.__new__"=true
 fn:typeIn K (.ref fI)=some (.type "function")
 st:yf K C
def Jk.op{K:W.Frag}{C fI:Addr}{h:Heap}(O:Jk K C fI)(X:K.In h):∃ c:Nu,h.get? C=some (excClassObj c.nm c.q C c.N c.bs c.bm c.hdct c.sn c.sub c.ab c.col c.dd c.k0 c.k1 c.k2 c.k3 c.k5 "ValueError.__new__") /\
  OwnTail h [.type "ValueError",.type "Exception",.type "BaseException",.type "object"] c.bm/\h.Ns c.N (h.nsMap c.N)/\h.nsMap c.N "__init__"=some (.ref fI):=by
 obtain⟨c,aq,tok,a3,a4⟩:=Er O.ex;have ar:h.Ns c.N (h.nsMap c.N):=.of_isNs (W.isNs_of_in X a3);exact⟨c,X _ _ aq,W.tail_of_in X tok,ar,NJ X ar a4⟩
def exO(e C:Addr)(d:Option Addr):Heap->Prop:=λ h=>∃ t,h.get? e=some ⟨.ref C,d,.fields #[.ref t,.none,.none,.none,.bool false,.none],#[]⟩
def exH(e C:Addr)(d:Option Addr):HO:=.ext (exO e C d)
def x9{P:Program}{w:World}{H:Hp}{h:Heap}{e C:Addr}{d:Option Addr}(q:exO e C d h):bg P w H h e (exH e C d):=by
 obtain⟨t,he⟩:=id q;exact⟨q,⟨_,he⟩,λ h1 h2 ⟨t,a⟩ b=>⟨t,b _ a⟩⟩
def nG{P:Program}{w:World}{H:Hp}{h:Heap}{e C:Addr}{d:Option Addr}(q:bg P w H h e (exH e C d)):exO e C d h:=q.1
section
variable {X:Cx}{pins:List (Addr × Obj)}{σ:St}{H:Hp}{s:Shared}
def Inv.adopt{a:Addr}{o:HO}(I:Inv X pins σ H s)(N:pz X pins a)(hn:H a=none)(new:bg X.prog X.w (upd H a o) s.heap a o):Inv X pins σ (upd H a o) s:=by
 have ne:∀ {b:Addr} {u:HO},H b=some u->b ≠ a:=λ q z=>by rw [z,hn] at q;cases q
 refine⟨I.ok,I.os,I.bare,⟨I.base.keep,I.base.slot,λ b u q n hx=>?_,I.base.there,λ b xs q=>?_,λ b u v q=>?_,λ b ps q=>?_⟩,I.loc,I.cell,?_,λ x c q=>?_,λ p hp=>?_,λ b u q=>?_,I.len⟩
 ·rw [ae (λ z=>by rw [z,N.s0] at q;cases q)];exact I.base.free b u q n hx
 ·have z:=I.base.tups b xs q;rw [ae (ne z)];exact z
 ·have z:=I.base.frzs b u v q;rw [ae (ne z)];exact z
 ·obtain⟨m,z⟩:=I.base.tbls b ps q;exact⟨m,by rw [ae (ne z)];exact z⟩
 ·rw [ae (QS N.loc)];exact I.free
 ·rw [ae (N.cel x c q)];exact I.freeC x c q
 ·obtain⟨a1,b1,c1,d1,f1⟩:=I.pin p hp;exact⟨a1,by rw [ae (N.pin p hp)];exact b1,c1,d1,f1⟩
 ·by_cases hb:b=a
  ·subst hb;rw [af] at q;cases q;exact new
  ·rw [ae hb] at q;exact(I.hok b u q).stay (λ _ _ _ r=>r) (λ c r=>by rw [ae (ne r)];exact r) (λ c y r=>by rw [ae (ne r)];exact r) λ c xs r=>by rw [ae (ne r)];exact r
def Inv.newAt{a:Addr}(I:Inv X pins σ H s)(ha:s.heap.objs.size<=a):pz X pins a where
 s0:=Q7 (QP I.sz ha)
 loc:=RN (Qs I.lt ha)
 cel:=λ x c e z=>by
  obtain⟨v,o,q,_⟩:=I.cell x c e;exact absurd (Qs (Qm q) (by rw [z];exact ha)) (Q4 _)
 fs:=I.nofs ha
 pin:=λ p hp z=>absurd (Qs (Qm (I.pin p hp).1) (by rw [z];exact ha)) (Q4 _)
structure JV(K:W.Frag)(B:Addr):Prop where
 sp:specialIn K (.ref B) "__getattribute__"=some (some (.builtin "type.__getattribute__"))
 rd:readsIn K B (.type "type")=true
 fc:findCls K (.ref B) (.type "type") "__init__"=some (.val (.builtin "ValueError.__init__"))
def kXI(K:W.Frag)(Q:VK):List V->Hp->Prop:=λ vs H=>∃ e C d fI cB,vs=.ref e::cB/\H e=some (exH e C d)/\Jk K C fI/\cB.length<=sizeLine/\Q .non H
def tXI(K:W.Frag)(t:TA):TE:=λ σ H Q=>t σ H (kXI K Q)
def B8{x:Str}{B:Addr}{p apos pos:Pos}{e:Expr}{es:List Expr}{t:TA}{pl:Sem Bool}(hg:Gl X x)(hm:X.mg x=some (.ref B))(b:JV X.K B)(ha:PA X (e::es) t)(aq:(x == ("__debug__":Str))=false:=by decide)
  (ar:starEach (e::es) X.env=(false,eval e X.env)::starEach es X.env:=by rfl) (a3:(backTo pos (starEach es X.env)).any (·.1)=false:=by rfl)
  (ht:eval (.Call (.Attribute (.Name x p) "__init__" apos) (e::es) [] pos) X.env=(do
   let ov ←eval (.Name x p) X.env
   standAt apos.atName
   let (f,first) ←holding [ov] (getMethod ov "__init__" pl)
   callWith pos f first (backTo pos (starEach (e::es) X.env)) (backToKw pos (keywordEach [] X.env))):=by rfl) :
  PE X (.Call (.Attribute (.Name x p) "__init__" apos) (e::es) [] pos) (tXI X.K t):=by
 intro pins s σ H Q I h;refine SH (pl:=pl) (eY I hg hm ?_ aq) ht;refine method_cls I.kIn b.sp (cls_value I.kIn b.rd b.fc (by decide +kernel) ?_);have I1:=I.tok (s.toks+1);refine Tn (thn (ha pos pins _ σ H _ I1 h) λ us s1 ⟨vs,H1,J,r1,q1⟩=>?_) ar a3;obtain⟨ex,C,d,fI,cB,rfl,he,O,hl,q⟩:=q1
 cases r1 with
 | cons r rr=>
  cases r;obtain⟨t0,h0⟩:=nG (J.hok ex _ he);obtain⟨c,hC,T,_,_⟩:=O.op J.kIn;refine AF (h:=s1.heap) (g:=s1.gens) (d:=s1.drawn) (t:=s1.toks) (os:=s1.os) Rn T hC h0 (by rw [←rr.length];exact hl) λ h' a1 q1 q2=>?_
  have same:upd H1 ex (exH ex C d)=H1:=funext λ b=>by
   by_cases hb:b=ex
   ·rw [hb,af,he]
   ·rw [ae hb]
  have J2:=J.write (t':=s1.toks) (x:=ex) (e:=ex) (o:=exH ex C d) (by rw [he];trivial) (.inl rfl) (λ b u hb z=>q2 b u hb z) ⟨_,q1⟩ (x9 ⟨a1,q1⟩);rw [same] at J2;exact⟨.non,H1,J2,rfl,q⟩
end
def O1(K:W.Frag)(f:Str)(y:V)(σ:St)(nx:St->Hp->Prop):VK:=λ x H=>∃ e C,x=.ref e/\H e=some (exH e C none)/\yf K C/\takerIn K C f=some none /\
 ∀ dx H',H dx=none->dx ≠ e->(∀ b o,b ≠ e->H b=some o->H' b=some o)->H' e=some (exH e C (some dx))->H' dx=some (.xd [(f,y)])->nx σ H'
def MZ(K:W.Frag)(f:Str)(ta:TE)(σ:St)(nx:St->Hp->Prop):VK:=λ y H=>ta σ H (O1 K f y σ nx)
def Jl(K:W.Frag)(ta tv:TE)(f:Str):TS:=λ D σ H=>tv σ H (MZ K f ta σ D.nx)
section
variable {X:Cx}{e o value:Expr}{ta tv:TE}{f:Str}{pos pos':Pos}
def Fx(ha:PE X o ta)(hv:PE X value tv)(hs:swapsWith value (some (.Attribute o f pos')) pos.line X.env=pure false):PS X (.Assign [.Attribute o f pos'] value pos) (Jl X.K ta tv f):=by
 intro pins s σ H D I h;refine plainObj_wpAny_Assign_Attribute (thn (hv pins s σ H _ I h) λ u s1 ⟨y,H1,I1,ry,q⟩=>thn (ha pins s1 σ H1 _ I1 q) λ ov s2 ⟨x,H2,I2,rx,q1⟩=>?_) hs;obtain⟨ex,C,rfl,he,st,ht,k⟩:=q1;obtain rfl:ov=Value.ref ex:=rx;obtain⟨t0,h0⟩:=nG (I2.hok ex _ he);refine Fs st I2.kIn h0 ht λ h' tk q1 q2 q3=>?_;have fr:H2 s2.heap.objs.size=none:=I2.hok.fresh (Qi _);have ne:s2.heap.objs.size ≠ ex:=RN (Qm h0);have J:=I2.write (t':=tk) (x:=ex) (e:=ex) (o:=exH ex C (some s2.heap.objs.size)) (by rw [he];trivial) (.inl rfl) (λ b u hb z=>q3 b u hb z) ⟨_,q1⟩ (x9 ⟨t0,q1⟩);have J2:=J.adopt (a:=s2.heap.objs.size) (o:=.xd [(f,y)]) (I2.newAt (Qi _)) (by rw [ae ne];exact fr) ⟨_,q2,λ g=>?_⟩
 ·refine⟨σ,_,J2,k s2.heap.objs.size _ fr ne (λ b u hb z=>?_) ?_ af⟩
  ·rw [ae (ag z fr),ae hb];exact z
  ·rw [ae (QS ne),af]
 ·show pf (List.lookup g [(f,y)]) (if g=f then some u else none)
  by_cases hg:g=f
  ·subst hg;rw [QE rfl,List.lookup_cons_self];exact ry
  ·have hb:(g == f)=false:=RB.mpr hg;rw [QB hg,RG,hb];exact True.intro
end
def del(H:Hp)(e:Addr):Hp:=λ b=>if b=e then none else H b
def om{H:Hp}{e:Addr}:del H e e=none:=QE rfl
def fK{H:Hp}{e b:Addr}(h:b ≠ e):del H e b=H b:=QB h
def Inv.untrack{X:Cx}{pins:List (Addr × Obj)}{σ:St}{H:Hp}{s:Shared}{e C:Addr}{d:Option Addr}(I:Inv X pins σ H s)(he:H e=some (exH e C d)):Inv X pins σ (del H e) s:=by
 have ne:∀ {b:Addr} {u:HO},H b=some u->u ≠ exH e C d->b ≠ e:=λ q z k=>by rw [k,he] at q;exact z (QL q).symm
 have no:∀ {b:Addr},H b=none->del H e b=none:=λ {b} q=>by
  by_cases hb:b=e
  ·rw [hb];exact om
  ·rw [fK hb];exact q
 refine⟨I.ok,I.os,I.bare,⟨I.base.keep,I.base.slot,λ b u q n hx=>no (I.base.free b u q n hx),I.base.there,λ b xs q=>?_,λ b u v q=>?_,λ b ps q=>?_⟩,I.loc,I.cell,no I.free,λ x c q=>no (I.freeC x c q),λ p hp=>?_,λ b u q=>?_,I.len⟩
 ·have z:=I.base.tups b xs q;rw [fK (ne z (by intro k;cases k))];exact z
 ·have z:=I.base.frzs b u v q;rw [fK (ne z (by intro k;cases k))];exact z
 ·obtain⟨m,z⟩:=I.base.tbls b ps q;exact⟨m,by rw [fK (ne z (by intro k;cases k))];exact z⟩
 ·obtain⟨a1,b1,c1,d1,f1⟩:=I.pin p hp;exact⟨a1,no b1,c1,d1,f1⟩
 ·have hb:b ≠ e:=λ z=>by rw [z,om] at q;cases q
  rw [fK hb] at q;exact(I.hok b u q).stay (λ _ _ _ r=>r) (λ c r=>by rw [fK (ne r (by intro k;cases k))];exact r) (λ c y r=>by rw [fK (ne r (by intro k;cases k))];exact r) λ c xs r=>by rw [fK (ne r (by intro k;cases k))];exact r
def yZ(X:Cx)(E:XK)(σ:St):Prop:=∀ (pins:List (Addr × Obj)) (H:Hp) (s:Shared) (e C:Addr) (d:Option Addr),Inv X pins σ H s->H e=none->X.s₀.heap.get? e=none->exO e C d s.heap->(∀ dx,d=some dx->∃ fs,H dx=some (.xd fs))->E (.ref C) d H->X.xe (.ref e) s
def kS{P:Program}{w:World}{K:W.Frag}{mg:Str->Option Value}{base:Heap}{N:List Str}{qual:Str}{scope:Scope}{f:Addr}{cd:Value}{A:Around}{outer:List Env}{s₀:Shared}{H₀:Hp}{E:XK}{σ:St} :
  yZ (w9 (CX1 P w) P w K mg base N qual scope f cd A outer s₀ H₀ E) E σ:=by
 intro pins H s e C d I hn aq hx hd hE;obtain⟨t,he⟩:=hx
 show wpAny (model P w) (A.deeper (envOfC qual scope s₀.heap.objs.size f cd)) (leaving (envOfC qual scope s₀.heap.objs.size f cd) (.ref e)) _ _ _
 unfold leaving;have un:Un (frs outer) [] H₀ H s₀.heap s.heap:=I.base;refine wpAny_bind (uM (s:=s) (base:=base) (outer:=outer) I.ok.frames I.stack rfl he rfl rfl rfl λ g T ng nT ex=>?_);refine⟨e,T,.ref C,d,H,rfl,I.os,I.bare,un.noted ng aq (λ _ z=>z.elim) (λ b hb=>?_),I.hok.noted ng hn (λ _ z=>z.elim) I.stkFree,aq,un.gone nT,hn,I.hok.gone nT,ex,hd,hE⟩
 rcases QG.mp (I.stkSub b hb) with z|z
 ·exact .inr (by rw [z];exact Q7 (Qi _))
 ·exact .inl z
def vI{M:Model}{A:Around}{E:Value->Shared->Prop}{env:Env}{s:Shared}{x:Sem Value}{Q:Flow->Shared->Prop}{C:Addr}(hh:A.handled=none)
  (h:wpAny M A x (λ v s1=>∃ (e:Addr) (d:Option Addr) (c:Nu) (newId:String),v=.ref e/\s1.heap.get? C=some (excClassObj c.nm c.q C c.N c.bs c.bm c.hdct c.sn c.sub c.ab c.col c.dd c.k0 c.k1 c.k2 c.k3 c.k5 newId)/\c.bm.contains (.type "BaseException")=true/\exO e C d s1.heap/\E (.ref e) s1) E s) :
  wpAny M A (raiseStmt env (some x) none) Q E s:=by
 unfold raiseStmt;refine wpAny_bind (wpAny_mono h (λ v s1 h1=>?_) λ _ _ z=>z);obtain⟨e,d,c,newId,rfl,hC,hb,⟨t,he⟩,hE⟩:=h1;have aq:(Value.ref C::c.bm).contains (.type "BaseException")=true:=by rw [List.contains_cons,hb,Bool.or_true]
 obtain⟨hp,g,dr,tk,os⟩:=s1
 repeat (first|with_reducible refine R4 he ?_|with_reducible refine R4 hC ?_|(with_reducible refine wpAny_isSubtype_exc hC ?_;rw [aq])|wp_step)
 exact wpAny_raiseNew_none hh hE
section
variable {X:Cx}
def kRz(e C:Addr)(E:XK):VK:=λ v H=>v=.non/\∃ d,H e=some (exH e C d)/\(∀ dx,d=some dx->∃ fs,del H e dx=some (.xd fs))/\E (.ref C) d (del H e)
def kRI(C:Addr)(sp:Sp)(E:XK):List V->Hp->Prop:=λ vs H=>vs.length<=sizeLine/\∀ e,H e=none->sp (.ref e::vs) (upd H e (exH e C none)) (kRz e C E) E0
def yk(C:Addr)(sp:Sp)(E:St->XK)(t:TA):TS:=λ _ σ H=>t σ H (kRI C sp (E σ))
def pQ{C fI:Addr}{fd:FuncData}{ps:List Str}{sp:Sp}{k:Nat}{x:Str}{e₀:Expr}{cB:List Expr}{np cpos pos:Pos}{t:TA}{E:St->XK}(hc:X.calm=true)(hg:Gl X x)(a6:X.mg x=some (.ref C))(O:Jk X.K C fI)
  (F:aM X.prog X.w X.K X.mg X.base CX0 k fI fd ps sp) (hr:fG (k+1) X.A) (hb:au X.K fd ps []) (hx:∀ σ,yZ X (E σ) σ) (ha:PA X (e₀::cB) t)
  (he:starEach (e₀::cB) X.env=(false,eval e₀ X.env)::starEach cB X.env:=by rfl) (a3:(backTo cpos (starEach cB X.env)).any (·.1)=false:=by rfl) (a7:(x == ("__debug__":Str))=false:=by decide) :
  PS X (.Raise (some (.Call (.Name x np) (e₀::cB) [] cpos)) none pos) (yk C sp E t):=by
 intro pins s σ H D I h;rw [arm_exec_Raise];refine wpAny_bind (wpAny_standAt (vI (C:=C) (I.ok.hd hc) (wpAny_bind (wpAny_mono (wpAny_Call_ofName (eY I hg a6 ?_ a7)) (λ v s3 h3=>wpAny_bind (wpAny_standAt (wpAny_pure h3))) λ _ _ z=>z))));unfold callWith;have hh:=ha cpos pins s σ H _ I h;rw [he] at hh ⊢;refine wpAny_bind (wpAny_holding (Calls.evalArgs_plain (thn hh λ us s2 ⟨vs,H2,I2,r,hl,a8⟩=>wpAny_bind (wpAny_standAt ?_))));obtain⟨c,hC,T,hN,hi⟩:=O.op I2.kIn;have a5:(backTo cpos ((false,eval e₀ X.env)::starEach cB X.env)).any (·.1)=false:=(Bool.false_or _).trans a3
 have I3:Inv X pins σ (upd H2 (s2.heap.objs.size+1) (exH (s2.heap.objs.size+1) C none)) { s2 with heap:=lT C us s2.heap }:=by
  have J:=I2.kept (t':=s2.toks) (h':=s2.heap.push { cls:=.type "tuple",data:=.seq us.toArray }) λ b u q=>Qg _ q;refine J.laid (t':=s2.toks) (a:=s2.heap.objs.size+1) (o:=exH (s2.heap.objs.size+1) C none) (λ b u q=>Qg _ q) (SE (QR _ _)) (x9 ⟨s2.heap.objs.size,?_⟩);have:=Qp (s2.heap.push { cls:=.type "tuple",data:=.seq us.toArray }) (o:=⟨.ref C,none,.fields #[.ref s2.heap.objs.size,.none,.none,.none,.bool false,.none],#[]⟩) rfl
  rwa [QR] at this
 have hq:=a8 (s2.heap.objs.size+1) (I2.hok.fresh (Rq _));have r2:bf (V.ref (s2.heap.objs.size+1)::vs) (Value.ref (s2.heap.objs.size+1)::us):=.cons rfl r
 have a9:(Value.ref (s2.heap.objs.size+1)::us++[]).length=ps.length:=by
  rw [Su,←r2.length];exact F.len _ _ _ _ hq
 simp only [a5];refine My (wpAny_keeperOf_exc (h:=s2.heap) (g:=s2.gens) (d:=s2.drawn) (t:=s2.toks) (os:=s2.os) hC ?_);refine My (RP (IA (h:=s2.heap) (g:=s2.gens) (d:=s2.drawn) (t:=s2.toks) (os:=s2.os) Rn (by decide +kernel) Rn T hC hN hi I2.kIn O.fn (by show us.length<=sizeLine;rw [←r.length];exact hl) ?_));have aq:=hb { s2 with heap:=lT C us s2.heap } (Value.ref (s2.heap.objs.size+1)::us) I3.kIn a9;rw [Su] at aq;refine Rt (F.run _ X.stack _ _ ⟨Value.ref (s2.heap.objs.size+1)::us,[]⟩ (Value.ref (s2.heap.objs.size+1)::us) _ _ E0 (hr.make C us []) (I3.env0.make C us []) aq r2 hq) λ rr s' ar=>?_
 cases rr with
 | error e=>exact ar.elim
 | ok fl=>
  cases fl with
  | ret u=>
   obtain⟨v,H',I4,rv,rfl,d,a4,hd2,hE⟩:=I3.after ar;cases rv;refine⟨rfl,My (QU (wpAny_point (Ql ?_)))⟩;obtain⟨c',bb,T',_,_⟩:=O.op I4.kIn
   exact⟨s2.heap.objs.size+1,d,c',_,rfl,bb,T'.hasType (by decide +kernel),nG (I4.hok _ _ a4),
    hx σ pins (del H' (s2.heap.objs.size+1)) s' _ C d (I4.untrack a4) om (Q7 (QP I2.sz (Rq _))) (nG (I4.hok _ _ a4)) hd2 hE⟩
  | next=>exact False.elim ar
  | brk=>exact False.elim ar
  | cont=>exact False.elim ar
def kXF(K:W.Frag)(f:Str)(Q:VK):VK:=λ x H=>∃ e oe C dx fs v,x=.ref e/\H e=some (jC oe)/\oe.cls=.ref C/\oe.dict=some dx/\(∃ vs,oe.data=.fields vs)/\H dx=some (.xd fs)/\ue K C/\bz K C f/\fs.lookup f=some v/\Q v H
def tXF(K:W.Frag)(ta:TE)(f:Str):TE:=λ σ H Q=>ta σ H (kXF K f Q)
def FH{e:Expr}{f:Str}{pos:Pos}{ta:TE}(he:PE X e ta)(hb:attributeBase e f X.env (eval e X.env)=eval e X.env):PE X (.Attribute e f pos) (tXF X.K ta f):=by
 intro pins s σ H Q I h;refine yU hb (thn (he pins s σ H _ I h) λ u s1 ⟨x,H1,I1,rx,q1⟩=>?_);obtain⟨ex,oe,C,dx,fs,v,rfl,hx,ar,hd,⟨vs,aq⟩,a3,c,n,l,q⟩:=q1;obtain rfl:u=Value.ref ex:=rx;have h1:s1.heap.get? ex=some oe:=(I1.hok ex _ hx).1;obtain⟨mA,hn,hr⟩:=I1.hok dx _ a3;obtain⟨u,hu,ru⟩:=pf.some_of (v:=v) (o:=mA f) (by rw [←l];exact hr f);exact IB c I1.kIn h1 ar (by unfold notCls;rw [aq]) hd hn n hu (pX ru) ⟨v,H1,I1.tok _,ru,q⟩
def B9{K:W.Frag}(hK:X.K=K){e:Expr}{f:Str}{pos:Pos}{ta:TE}(he:PE X e ta)(hb:attributeBase e f X.env (eval e X.env)=eval e X.env):PE X (.Attribute e f pos) (tXF K ta f):=hK ▸ FH he hb
end
def Iv{a:Option V}{v:V}{σ:St}{H:Hp}{Q:St->Hp->Prop}:cE 0 v (a::σ) H Q=Q (some v::σ) H:=rfl
def Iu{a0:Option V}{a:Option V}{v:V}{σ:St}{H:Hp}{Q:St->Hp->Prop}:cE 1 v (a0::a::σ) H Q=Q (a0::some v::σ) H:=rfl
def Ir{a0 a1:Option V}{a:Option V}{v:V}{σ:St}{H:Hp}{Q:St->Hp->Prop}:cE 2 v (a0::a1::a::σ) H Q=Q (a0::a1::some v::σ) H:=rfl
def Iq{a0 a1 a2:Option V}{a:Option V}{v:V}{σ:St}{H:Hp}{Q:St->Hp->Prop}:cE 3 v (a0::a1::a2::a::σ) H Q=Q (a0::a1::a2::some v::σ) H:=rfl
def Ip{a0 a1 a2 a3:Option V}{a:Option V}{v:V}{σ:St}{H:Hp}{Q:St->Hp->Prop}:cE 4 v (a0::a1::a2::a3::a::σ) H Q=Q (a0::a1::a2::a3::some v::σ) H:=rfl
def Io{a0 a1 a2 a3 a4:Option V}{a:Option V}{v:V}{σ:St}{H:Hp}{Q:St->Hp->Prop}:cE 5 v (a0::a1::a2::a3::a4::a::σ) H Q=Q (a0::a1::a2::a3::a4::some v::σ) H:=rfl
def Il{a0 a1 a2 a3 a4 a5:Option V}{a:Option V}{v:V}{σ:St}{H:Hp}{Q:St->Hp->Prop}:cE 6 v (a0::a1::a2::a3::a4::a5::a::σ) H Q=Q (a0::a1::a2::a3::a4::a5::some v::σ) H:=rfl
def Ik{a0 a1 a2 a3 a4 a5 a6:Option V}{a:Option V}{v:V}{σ:St}{H:Hp}{Q:St->Hp->Prop}:cE 7 v (a0::a1::a2::a3::a4::a5::a6::a::σ) H Q=Q (a0::a1::a2::a3::a4::a5::a6::some v::σ) H:=rfl
def Ij{a0 a1 a2 a3 a4 a5 a6 a7:Option V}{a:Option V}{v:V}{σ:St}{H:Hp}{Q:St->Hp->Prop}:cE 8 v (a0::a1::a2::a3::a4::a5::a6::a7::a::σ) H Q=Q (a0::a1::a2::a3::a4::a5::a6::a7::some v::σ) H:=rfl
def Ii{a0 a1 a2 a3 a4 a5 a6 a7 a8:Option V}{a:Option V}{v:V}{σ:St}{H:Hp}{Q:St->Hp->Prop}:cE 9 v (a0::a1::a2::a3::a4::a5::a6::a7::a8::a::σ) H Q=Q (a0::a1::a2::a3::a4::a5::a6::a7::a8::some v::σ) H:=rfl
def Dv{a0 a1 a2 a3 a4 a5 a6 a7 a8 a9:Option V}{a:Option V}{v:V}{σ:St}{H:Hp}{Q:St->Hp->Prop}:cE 10 v (a0::a1::a2::a3::a4::a5::a6::a7::a8::a9::a::σ) H Q=Q (a0::a1::a2::a3::a4::a5::a6::a7::a8::a9::some v::σ) H:=rfl
def Du{a0 a1 a2 a3 a4 a5 a6 a7 a8 a9 aq:Option V}{a:Option V}{v:V}{σ:St}{H:Hp}{Q:St->Hp->Prop}:cE 11 v (a0::a1::a2::a3::a4::a5::a6::a7::a8::a9::aq::a::σ) H Q=Q (a0::a1::a2::a3::a4::a5::a6::a7::a8::a9::aq::some v::σ) H:=rfl
def Dt{a0 a1 a2 a3 a4 a5 a6 a7 a8 a9 aq ar:Option V}{a:Option V}{v:V}{σ:St}{H:Hp}{Q:St->Hp->Prop}:cE 12 v (a0::a1::a2::a3::a4::a5::a6::a7::a8::a9::aq::ar::a::σ) H Q=Q (a0::a1::a2::a3::a4::a5::a6::a7::a8::a9::aq::ar::some v::σ) H:=rfl
def Ds{a0 a1 a2 a3 a4 a5 a6 a7 a8 a9 aq ar bb:Option V}{a:Option V}{v:V}{σ:St}{H:Hp}{Q:St->Hp->Prop}:cE 13 v (a0::a1::a2::a3::a4::a5::a6::a7::a8::a9::aq::ar::bb::a::σ) H Q=Q (a0::a1::a2::a3::a4::a5::a6::a7::a8::a9::aq::ar::bb::some v::σ) H:=rfl
def Dr{a0 a1 a2 a3 a4 a5 a6 a7 a8 a9 aq ar bb bp:Option V}{a:Option V}{v:V}{σ:St}{H:Hp}{Q:St->Hp->Prop}:cE 14 v (a0::a1::a2::a3::a4::a5::a6::a7::a8::a9::aq::ar::bb::bp::a::σ) H Q=Q (a0::a1::a2::a3::a4::a5::a6::a7::a8::a9::aq::ar::bb::bp::some v::σ) H:=rfl
def Dq{a0 a1 a2 a3 a4 a5 a6 a7 a8 a9 aq ar bb bp bt:Option V}{a:Option V}{v:V}{σ:St}{H:Hp}{Q:St->Hp->Prop}:cE 15 v (a0::a1::a2::a3::a4::a5::a6::a7::a8::a9::aq::ar::bb::bp::bt::a::σ) H Q=Q (a0::a1::a2::a3::a4::a5::a6::a7::a8::a9::aq::ar::bb::bp::bt::some v::σ) H:=rfl
def Dp{a0 a1 a2 a3 a4 a5 a6 a7 a8 a9 aq ar bb bp bt b1:Option V}{a:Option V}{v:V}{σ:St}{H:Hp}{Q:St->Hp->Prop}:cE 16 v (a0::a1::a2::a3::a4::a5::a6::a7::a8::a9::aq::ar::bb::bp::bt::b1::a::σ) H Q=Q (a0::a1::a2::a3::a4::a5::a6::a7::a8::a9::aq::ar::bb::bp::bt::b1::some v::σ) H:=rfl
def aX{α:Type}:Option α->(α->Prop)->Prop
 | some x,k=>k x
 | none,_=>False
def pT{α:Type}(x:α)(k:α->Prop):aX (some x) k=k x:=rfl
def ak{α:Type}{o:Option α}{k:α->Prop}(h:aX o k):∃ x,o=some x/\k x:=by
 cases o with
 | none=>exact h.elim
 | some x=>exact⟨x,rfl,h⟩
def Mm:HO->Option (List V)
 | .lst xs=>some xs
 | .tup xs=>some xs
 | .frz _ (.lst xs)=>some xs
 | _=>none
def MY:HO->Option (List V)
 | .lst xs=>some xs
 | _=>none
def MI:HO->Option (List V)
 | .tup xs=>some xs
 | _=>none
def ef(H:Hp)(p:Addr):Option (List V):=(H p).bind Mm
def aP(H:Hp)(p:Addr):Option (List V):=(H p).bind MY
def xi(H:Hp)(p:Addr):Option (List V):=(H p).bind MI
def BR(xs:List V):Mm (.lst xs)=some xs:=rfl
def BQ(xs:List V):Mm (.tup xs)=some xs:=rfl
def CK(xs:List V):MY (.lst xs)=some xs:=rfl
def BM(xs:List V):MI (.tup xs)=some xs:=rfl
def wR{α β:Type}(x:α)(f:α->Option β):(some x).bind f=f x:=rfl
abbrev Ext(H H':Hp):Prop:=(∀ a,(H a).isSome=true->H' a=H a)/\∀ (K:PySem.W.Frag) a xs,SqL K H a xs->SqL K H' a xs
def Mu(r:R2)(x:V)(Q:VK):VK:=λ y H=>r x y H Q
def Ee(r:R2)(x y:V)(H:Hp)(Q:VK):(Mu r x Q y H)=(r x y H Q):=rfl
def kOp(r:R2)(tb:TE)(σ:St)(Q:VK):VK:=λ x H=>tb σ H (Mu r x Q)
def Oc(r:R2)(tb:TE)(σ:St)(Q:VK)(x:V)(H:Hp):(kOp r tb σ Q x H)=(tb σ H (Mu r x Q)):=rfl
def NU(r:R2)(ta tb:TE)(σ:St)(H:Hp)(Q:VK):(tOp r ta tb σ H Q)=(ta σ H (kOp r tb σ Q)):=rfl
def PV(v:V)(σ:St)(H:Hp)(Q:VK):(tC v σ H Q)=(Q v H):=rfl
def kUn(r:V->Hp->VK->Prop)(Q:VK):VK:=λ x H=>r x H Q
def N6(r:V->Hp->VK->Prop)(Q:VK)(x:V)(H:Hp):(kUn r Q x H)=(r x H Q):=rfl
def NR(r:V->Hp->VK->Prop)(ta:TE)(σ:St)(H:Hp)(Q:VK):(tUn r ta σ H Q)=(ta σ H (kUn r Q)):=rfl
def MO:R2:=λ x y H Q=>y=.non/\Q (.bl (decide (x=.non))) H
def JA:R2:=λ x y H Q=>y=.non/\Q (.bl (!decide (x=.non))) H
def vQ(H:Hp)(Q:VK):MO (.non) .non H Q=Q (.bl true) H:=propext ⟨λ h=>h.2,λ h=>⟨rfl,h⟩⟩
def tE(H:Hp)(Q:VK):JA (.non) .non H Q=Q (.bl false) H:=propext ⟨λ h=>h.2,λ h=>⟨rfl,h⟩⟩
def vR(i:Int)(H:Hp)(Q:VK):MO (.int i) .non H Q=Q (.bl false) H:=propext ⟨λ h=>h.2,λ h=>⟨rfl,h⟩⟩
def JJ(Q:Bool->Hp->Prop):VK:=λ x H=>∃ k,x=.bl k/\Q k H
def O6(Q:Bool->Hp->Prop):Bool->Hp->Prop:=λ c H=>Q (!c) H
def Lu(Q:Bool->Hp->Prop)(c:Bool)(H:Hp):(O6 Q c H)=(Q (!c) H):=rfl
def K2(t:TT)(σ:St)(H:Hp)(Q:Bool->Hp->Prop):(OO t σ H Q)=(t σ H (O6 Q)):=rfl
def Pg(u:TT)(σ:St)(Q:Bool->Hp->Prop):Bool->Hp->Prop:=λ c H=>if c=true then u σ H Q else Q false H
def LR(u:TT)(σ:St)(Q:Bool->Hp->Prop)(c:Bool)(H:Hp):(Pg u σ Q c H)=(if c=true then u σ H Q else Q false H):=rfl
def K7(t u:TT)(σ:St)(H:Hp)(Q:Bool->Hp->Prop):(OR t u σ H Q)=(t σ H (Pg u σ Q)):=rfl
def kOr(u:TT)(σ:St)(Q:Bool->Hp->Prop):Bool->Hp->Prop:=λ c H=>if c=true then Q true H else u σ H Q
def Ob(u:TT)(σ:St)(Q:Bool->Hp->Prop)(c:Bool)(H:Hp):(kOr u σ Q c H)=(if c=true then Q true H else u σ H Q):=rfl
def NT(t u:TT)(σ:St)(H:Hp)(Q:Bool->Hp->Prop):(tOr t u σ H Q)=(t σ H (kOr u σ Q)):=rfl
def Oz(tb:TE)(σ:St)(Q:VK):VK:=λ x H=>∃ c,x=.bl c/\if c=true then tb σ H Q else Q (.bl false) H
def Ov(Q:VK):VK:=λ x H=>∃ c,x=.bl c/\Q (.bl (!c)) H
def Pa(ta tb:TE)(σ:St)(Q:VK):Bool->Hp->Prop:=λ c H=>if c=true then ta σ H Q else tb σ H Q
def Ly(ta tb:TE)(σ:St)(Q:VK)(c:Bool)(H:Hp):(Pa ta tb σ Q c H)=(if c=true then ta σ H Q else tb σ H Q):=rfl
def NV(t:TT)(ta tb:TE)(σ:St)(H:Hp)(Q:VK):(tIf t ta tb σ H Q)=(t σ H (Pa ta tb σ Q)):=rfl
def MB(r':R2)(y:V)(Q:VK):VK:=λ w H=>r' y w H Q
def LK(r':R2)(y w:V)(Q:VK)(H:Hp):(MB r' y Q w H)=(r' y w H Q):=rfl
def Nf(r':R2)(tc:TE)(σ:St)(y:V)(Q:VK):VK:=λ z H=>∃ k,z=.bl k/\(if k=true then tc σ H (MB r' y Q) else Q (.bl false) H)
def Pd(r r':R2)(tc:TE)(σ:St)(x:V)(Q:VK):VK:=λ y H=>r x y H (Nf r' tc σ y Q)
def P5(r r':R2)(tb tc:TE)(σ:St)(Q:VK):VK:=λ x H=>tb σ H (Pd r r' tc σ x Q)
def K3(σ:St)(H:Hp)(Q:List V->Hp->Prop):(Mj σ H Q)=(Q [] H):=rfl
def x6(x:V)(Q:List V->Hp->Prop):List V->Hp->Prop:=λ xs H=>Q (x::xs) H
def CH(x:V)(Q:List V->Hp->Prop)(xs:List V)(H:Hp):(x6 x Q xs H)=(Q (x::xs) H):=rfl
def JO(tr:TA)(σ:St)(Q:List V->Hp->Prop):VK:=λ x H=>tr σ H (x6 x Q)
def Hm(tr:TA)(σ:St)(Q:List V->Hp->Prop)(x:V)(H:Hp):(JO tr σ Q x H)=(tr σ H (x6 x Q)):=rfl
def Gw(ta:TE)(tr:TA)(σ:St)(H:Hp)(Q:List V->Hp->Prop):(Bq ta tr σ H Q)=(ta σ H (JO tr σ Q)):=rfl
def xp(sp:Sp)(dvs:List V)(E:XK)(Q:VK):List V->Hp->Prop:=λ vs H=>sp (vs++dvs) H Q E
def Ac(v0:V)(sp:Sp)(dvs:List V)(E:XK)(Q:VK)(H:Hp):xp sp dvs E Q [v0] H=sp (v0::dvs) H Q E:=rfl
def Ab(v0 v1:V)(sp:Sp)(dvs:List V)(E:XK)(Q:VK)(H:Hp):xp sp dvs E Q [v0,v1] H=sp (v0::v1::dvs) H Q E:=rfl
def Aa(v0 v1 v2:V)(sp:Sp)(dvs:List V)(E:XK)(Q:VK)(H:Hp):xp sp dvs E Q [v0,v1,v2] H=sp (v0::v1::v2::dvs) H Q E:=rfl
def Gy(sp:Sp)(dvs:List V)(E:XK)(t:TA)(σ:St)(H:Hp)(Q:VK):(Jt sp dvs E t σ H Q)=(t σ H (xp sp dvs E Q)):=rfl
def kCB(r:List V->Hp->VK->Prop)(Q:VK):List V->Hp->Prop:=λ vs H=>r vs H Q
def Ol(r:List V->Hp->VK->Prop)(Q:VK)(vs:List V)(H:Hp):(kCB r Q vs H)=(r vs H Q):=rfl
def NW(r:List V->Hp->VK->Prop)(t:TA)(σ:St)(H:Hp)(Q:VK):(tCB r t σ H Q)=(t σ H (kCB r Q)):=rfl
def Gr(nx:St->Hp->Prop)(rt:VK)(bk ct:St->Hp->Prop)(σ:St)(H:Hp):(EB ⟨nx,rt,bk,ct⟩ σ H)=(nx σ H):=rfl
def KZ(t u:TS)(nx:St->Hp->Prop)(rt:VK)(bk ct:St->Hp->Prop)(σ:St)(H:Hp):(OL t u ⟨nx,rt,bk,ct⟩ σ H)=(t ⟨u ⟨nx,rt,bk,ct⟩,rt,bk,ct⟩ σ H):=rfl
def K1(te:TE)(nx:St->Hp->Prop)(rt:VK)(bk ct:St->Hp->Prop)(σ:St)(H:Hp):(ON te ⟨nx,rt,bk,ct⟩ σ H)=(te σ H rt):=rfl
def JN(nx:St->Hp->Prop)(σ:St):VK:=λ x H=>nx σ H
def Hl(nx:St->Hp->Prop)(σ:St)(x:V)(H:Hp):(JN nx σ x H)=(nx σ H):=rfl
def Gu(te:TE)(nx:St->Hp->Prop)(rt:VK)(bk ct:St->Hp->Prop)(σ:St)(H:Hp):(Jr te ⟨nx,rt,bk,ct⟩ σ H)=(te σ H (JN nx σ)):=rfl
def O9(t u:TS)(D:iw)(σ:St):Bool->Hp->Prop:=λ b H=>if b=true then t D σ H else u D σ H
def Lx(t u:TS)(D:iw)(σ:St)(b:Bool)(H:Hp):(O9 t u D σ b H)=(if b=true then t D σ H else u D σ H):=rfl
def xZ(c:TT)(t u:TS)(D:iw)(σ:St)(H:Hp):(Ml c t u D σ H)=(c σ H (O9 t u D σ)):=rfl
def Pe(g:TG)(σ:St)(nx:St->Hp->Prop):VK:=λ x H=>g x σ H nx
def LP(g:TG)(σ:St)(nx:St->Hp->Prop)(x:V)(H:Hp):(Pe g σ nx x H)=(g x σ H nx):=rfl
def K6(te:TE)(g:TG)(nx:St->Hp->Prop)(rt:VK)(bk ct:St->Hp->Prop)(σ:St)(H:Hp):(MK te g ⟨nx,rt,bk,ct⟩ σ H)=(te σ H (Pe g σ nx)):=rfl
def kGs(u:TGs)(r:List V)(Q:St->Hp->Prop):St->Hp->Prop:=λ σ' H'=>u r σ' H' Q
def Of(u:TGs)(r:List V)(Q:St->Hp->Prop)(σ:St)(H:Hp):(kGs u r Q σ H)=(u r σ H Q):=rfl
section
variable {X:Cx}
def OpR.mono{f:Value->Value->Sem Value}{r r':R2}(h:OpR X f r)(m:∀ x y H Q,r' x y H Q->r x y H Q):OpR X f r':=λ pins s σ H x y v u Q I rx ry hq=>h pins s σ H x y v u Q I rx ry (m _ _ _ _ hq)
def b9.mono{f:Value}{r r':List V->Hp->VK->Prop}(h:b9 X f r)(m:∀ xs H Q,r' xs H Q->r xs H Q):b9 X f r':=λ pins s σ H xs us Q I rx hq=>h pins s σ H xs us Q I rx (m _ _ _ hq)
def IxR.mono{r r':R2}(h:IxR X r)(m:∀ x y H Q,r' x y H Q->r x y H Q):IxR X r':=λ a b pins s σ H x y v u Q I rx ry hq=>h a b pins s σ H x y v u Q I rx ry (m _ _ _ _ hq)
def SlR.mono{r r':V->Option Int->Option Int->Hp->VK->Prop}(h:SlR X r)(m:∀ x lo hi H Q,r' x lo hi H Q->r x lo hi H Q):SlR X r':=λ pins s σ H x v vl vu lo hi sl Q I rx a b c hq=>h pins s σ H x v vl vu lo hi sl Q I rx a b c (m _ _ _ _ _ hq)
def PG.mono{tg:Expr}{g g':TG}(h:PG X tg g)(m:∀ v σ H Q,g' v σ H Q->g v σ H Q):PG X tg g':=λ pins s σ H v u Q I r hq=>h pins s σ H v u Q I r (m _ _ _ _ hq)
def kJ{K:W.Frag}{H:Hp}{p:Addr}{ys:List V}(h:ef H p=some ys):SqL K H p ys\/SqT K H p ys:=by
 unfold ef at h
 cases e:H p with
 | none=>rw [e] at h;cases h
 | some o=>
  rw [e] at h;have h':Mm o=some ys:=h
  cases o with
  | lst xs=>cases h';exact .inl (SqL.of e)
  | tup xs=>cases h';exact .inr (SqT.of e)
  | frz ob u=>
   cases u with
   | lst xs=>cases h';exact .inl (.inl (.inr ⟨ob,e⟩))
   | _=>cases h'
  | _=>cases h'
def cC{H:Hp}{p:Addr}{ys:List V}(h:aP H p=some ys):H p=some (.lst ys):=by
 unfold aP at h
 cases e:H p with
 | none=>rw [e] at h;cases h
 | some o=>
  rw [e] at h;have h':MY o=some ys:=h
  cases o with
  | lst xs=>cases h';rfl
  | _=>cases h'
def Kd{H:Hp}{p:Addr}{ys:List V}(h:xi H p=some ys):H p=some (.tup ys):=by
 unfold xi at h
 cases e:H p with
 | none=>rw [e] at h;cases h
 | some o=>
  rw [e] at h;have h':MI o=some ys:=h
  cases o with
  | tup xs=>cases h';rfl
  | _=>cases h'
def M6(H:Hp)(Q:VK):List V->Prop:=λ ys=>Q (.int ys.length) H
def Lv(H:Hp)(Q:VK)(ys:List V):M6 H Q ys=Q (.int ys.length) H:=rfl
def MT(xs:List V)(H:Hp)(Q:VK):Prop:=match xs with
 | [.ref p]=>aX (ef H p) (M6 H Q)
 | [.str z]=>z.length<=sizeLine/\Q (.int z.length) H
 | _=>False
def Le(p:Addr)(H:Hp)(Q:VK):MT [.ref p] H Q=aX (ef H p) (M6 H Q):=rfl
def bh:b9 X (.builtin "len") MT:=by
 refine(dR.or rj).mono λ xs H Q h=>?_;unfold MT at h;split at h
 ·rename_i p;obtain⟨ys,e,q⟩:=ak h;exact .inl ⟨p,ys,rfl,kJ e,q⟩
 ·rename_i z;exact .inr ⟨z,rfl,h.1,h.2⟩
 ·exact h.elim
def M7(H:Hp)(Q:VK):V->Prop:=λ v=>Q v H
def Lw(H:Hp)(Q:VK)(v:V):M7 H Q v=Q v H:=rfl
def kIx(i:Int)(H:Hp)(Q:VK):List V->Prop:=λ ys=>aX (atI ys i) (M7 H Q)
def Oe(i:Int)(H:Hp)(Q:VK)(ys:List V):kIx i H Q ys=aX (atI ys i) (M7 H Q):=rfl
def qIx:R2:=λ x y H Q=>match x,y with
 | .ref p,.int i=>aX (ef H p) (kIx i H Q)
 | _,_=>False
def NY(p:Addr)(i:Int)(H:Hp)(Q:VK):qIx (.ref p) (.int i) H Q=aX (ef H p) (kIx i H Q):=rfl
def cW:IxR X qIx:=by
 refine(sM.or L9).mono λ x y H Q h=>?_;unfold qIx at h;split at h
 ·rename_i p i;obtain⟨ys,e,q⟩:=ak h;obtain⟨v,e2,q2⟩:=ak q
  rcases kJ (K:=X.K) e with z|z
  ·exact .inl ⟨p,ys,i,v,rfl,rfl,z,e2,q2⟩
  ·exact .inr ⟨p,ys,i,v,rfl,rfl,z,e2,q2⟩
 ·exact h.elim
def OF{α:Type}(a:α)(xs:List α):atI (a::xs) 0=some a:=bL (j:=0) rfl
def OE{α:Type}(a b:α)(xs:List α):atI (a::b::xs) 1=some b:=bL (j:=1) rfl
def OD{α:Type}(a b c:α)(xs:List α):atI (a::b::c::xs) 2=some c:=bL (j:=2) rfl
def Ow(H:Hp)(Q:VK):List V->Prop:=λ ys=>∀ l,H l=none->Q (.ref l) (upd H l (.lst ys))
def JB(xs:List V)(H:Hp)(Q:VK):Prop:=match xs with
 | [.ref p]=>aX (ef H p) (Ow H Q)
 | _=>False
def wG:b9 X (.type "list") JB:=by
 refine rh.mono λ xs H Q h=>?_;unfold JB at h;split at h
 ·rename_i p;obtain⟨ys,e,q⟩:=ak h;exact⟨p,ys,rfl,kJ e,q⟩
 ·exact h.elim
def MS(xs:List V)(H:Hp)(Q:VK):Prop:=match xs with
 | [.int i,.int j]=>Q (.int (if i < j then j else i)) H
 | _=>False
def Lc(i j:Int)(H:Hp)(Q:VK):MS [.int i,.int j] H Q=Q (.int (if i < j then j else i)) H:=rfl
def qg(hc:X.calm=true):b9 X (.builtin "max") MS:=by
 refine(AW hc).mono λ xs H Q h=>?_;unfold MS at h;split at h
 ·rename_i i j;exact⟨i,j,rfl,h⟩
 ·exact h.elim
def MR(xs:List V)(H:Hp)(Q:VK):Prop:=match xs with
 | [.int i,.int j]=>Q (.int (if j < i then j else i)) H
 | _=>False
def Lb(i j:Int)(H:Hp)(Q:VK):MR [.int i,.int j] H Q=Q (.int (if j < i then j else i)) H:=rfl
def qf(hc:X.calm=true):b9 X (.builtin "min") MR:=by
 refine(AU hc).mono λ xs H Q h=>?_;unfold MR at h;split at h
 ·rename_i i j;exact⟨i,j,rfl,h⟩
 ·exact h.elim
def tyO:HO->Option String
 | .lst _=>some "list"
 | .tup _=>some "tuple"
 | .frz _ (.lst _)=>some "list"
 | .dK _=>some "dict"
 | .dT _=>some "dict"
 | _=>none
def Fg(xs:List V):tyO (.lst xs)=some "list":=rfl
def Ff(xs:List V):tyO (.tup xs)=some "tuple":=rfl
def tyN(H:Hp):V->Option String
 | .non=>some "NoneType"
 | .bl _=>some "bool"
 | .int _=>some "int"
 | .str _=>some "str"
 | .ref p=>(H p).bind tyO
 | _=>none
def Fj(H:Hp):tyN H .non=some "NoneType":=rfl
def Kc(H:Hp)(b:Bool):tyN H (.bl b)=some "bool":=rfl
def Fl(H:Hp)(i:Int):tyN H (.int i)=some "int":=rfl
def Fh(H:Hp)(x:Str):tyN H (.str x)=some "str":=rfl
def Fi(H:Hp)(p:Addr):tyN H (.ref p)=(H p).bind tyO:=rfl
def Kb{K:W.Frag}{H:Hp}{x:V}{t:String}(h:tyN H x=some t):uc K H x (.type t):=by
 cases x with
 | non=>cases h;exact .non
 | bl b=>cases h;exact .bl b
 | int i=>cases h;exact .int i
 | str x=>cases h;exact .str x
 | ref p=>
  have h':(H p).bind tyO=some t:=h
  cases e:H p with
  | none=>rw [e] at h';cases h'
  | some o=>
   rw [e] at h';have h2:tyO o=some t:=h'
   cases o with
   | lst xs=>cases h2;exact .lst e
   | tup xs=>cases h2;exact .tup e
   | dK xs=>cases h2;exact .dK e
   | dT xs=>cases h2;exact .dT e
   | frz ob u=>
    cases u with
    | lst xs=>cases h2;exact .frz e
    | _=>cases h2
   | _=>cases h2
 | _=>cases h
def pK:List String:=["NoneType", "bool", "int", "str", "list", "tuple", "dict"]
def Pj(t n:String):Bool:=t == n || (t == "bool" && n == "int")
def Dh(K:W.Frag):∀ t∈pK,∀ n∈pK,W.kitOne K (.type t) (.type n)=some (Pj t n):=by
 intro t ht n hn;unfold pK at ht hn;simp only [mem_cons,not_mem_nil,or_false] at ht hn
 rcases ht with rfl|rfl|rfl|rfl|rfl|rfl|rfl<;>rcases hn with rfl|rfl|rfl|rfl|rfl|rfl|rfl<;>exact Az K _ _ _ (by decide +kernel)
def rG(n:String)(H:Hp)(Q:VK):String->Prop:=λ t=>t∈pK/\Q (.bl (Pj t n)) H
def Bg(xs:List V)(H:Hp)(Q:VK):Prop:=match xs with
 | [x,.ty n]=>n∈pK/\aX (tyN H x) (rG n H Q)
 | _=>False
def cY:b9 X (.builtin "isinstance") Bg:=by
 refine DF.mono λ xs H Q h=>?_;unfold Bg at h;split at h
 ·rename_i x n;obtain⟨hn,h⟩:=h;obtain⟨t,e,ht,q⟩:=ak h;exact⟨x,n,_,_,rfl,Kb e,Dh _ t ht n hn,q⟩
 ·exact h.elim
def vS(x:V)(H:Hp)(Q:VK):Bg [x,.ty "int"] H Q=aX (tyN H x) (rG "int" H Q):=by
 unfold Bg;exact propext ⟨λ h=>h.2,λ h=>⟨by decide,h⟩⟩
def tG(x:V)(H:Hp)(Q:VK):Bg [x,.ty "bool"] H Q=aX (tyN H x) (rG "bool" H Q):=by
 unfold Bg;exact propext ⟨λ h=>h.2,λ h=>⟨by decide,h⟩⟩
def qV(x:V)(H:Hp)(Q:VK):Bg [x,.ty "tuple"] H Q=aX (tyN H x) (rG "tuple" H Q):=by
 unfold Bg;exact propext ⟨λ h=>h.2,λ h=>⟨by decide,h⟩⟩
def tF(x:V)(H:Hp)(Q:VK):Bg [x,.ty "list"] H Q=aX (tyN H x) (rG "list" H Q):=by
 unfold Bg;exact propext ⟨λ h=>h.2,λ h=>⟨by decide,h⟩⟩
def zY(H:Hp)(Q:VK):rG "int" H Q "NoneType"=Q (.bl false) H:=propext ⟨λ h=>h.2,λ h=>⟨by decide,h⟩⟩
def zX(H:Hp)(Q:VK):rG "bool" H Q "bool"=Q (.bl true) H:=propext ⟨λ h=>h.2,λ h=>⟨by decide,h⟩⟩
def zW(H:Hp)(Q:VK):rG "int" H Q "bool"=Q (.bl true) H:=propext ⟨λ h=>h.2,λ h=>⟨by decide,h⟩⟩
def zU(H:Hp)(Q:VK):rG "bool" H Q "int"=Q (.bl false) H:=propext ⟨λ h=>h.2,λ h=>⟨by decide,h⟩⟩
def zT(H:Hp)(Q:VK):rG "int" H Q "int"=Q (.bl true) H:=propext ⟨λ h=>h.2,λ h=>⟨by decide,h⟩⟩
def zQ(H:Hp)(Q:VK):rG "int" H Q "str"=Q (.bl false) H:=propext ⟨λ h=>h.2,λ h=>⟨by decide,h⟩⟩
def zS(H:Hp)(Q:VK):rG "int" H Q "list"=Q (.bl false) H:=propext ⟨λ h=>h.2,λ h=>⟨by decide,h⟩⟩
def zR(H:Hp)(Q:VK):rG "list" H Q "list"=Q (.bl true) H:=propext ⟨λ h=>h.2,λ h=>⟨by decide,h⟩⟩
def zP(H:Hp)(Q:VK):rG "int" H Q "tuple"=Q (.bl false) H:=propext ⟨λ h=>h.2,λ h=>⟨by decide,h⟩⟩
def zO(H:Hp)(Q:VK):rG "tuple" H Q "tuple"=Q (.bl true) H:=propext ⟨λ h=>h.2,λ h=>⟨by decide,h⟩⟩
def zV(H:Hp)(Q:VK):rG "int" H Q "dict"=Q (.bl false) H:=propext ⟨λ h=>h.2,λ h=>⟨by decide,h⟩⟩
def Ng(r:V->List V->Hp->VK->Prop)(x:V)(Q:VK):List V->Hp->Prop:=λ xs H=>r x xs H Q
def LM(r:V->List V->Hp->VK->Prop)(x:V)(Q:VK)(xs:List V)(H:Hp):Ng r x Q xs H=r x xs H Q:=rfl
def kBM(K:W.Frag)(T:String)(r:V->List V->Hp->VK->Prop)(t:TA)(σ:St)(Q:VK):VK:=λ x H=>tyV K T x H/\t σ H (Ng r x Q)
def Oq(K:W.Frag)(T:String)(r:V->List V->Hp->VK->Prop)(t:TA)(σ:St)(Q:VK)(x:V)(H:Hp):kBM K T r t σ Q x H=(tyV K T x H/\t σ H (Ng r x Q)):=rfl
def NX(K:W.Frag)(T:String)(r:V->List V->Hp->VK->Prop)(to:TE)(t:TA)(σ:St)(H:Hp)(Q:VK):tBM K T r to t σ H Q=to σ H (kBM K T r t σ Q):=rfl
def BK(K:W.Frag)(p:Addr)(H:Hp)(h:(aP H p).isSome=true):tyV K "list" (.ref p) H=True:=by
 cases e:aP H p with
 | none=>rw [e] at h;cases h
 | some ys=>exact eq_true (.inl ⟨rfl,ys,SqL.of (cC e)⟩)
def Pf(l:Addr)(y:V)(H:Hp)(Q:VK):List V->Prop:=λ xs=>xs.length < sizeLine/\Q .non (upd H l (.lst (xs++[y])))
def LQ(l:Addr)(y:V)(H:Hp)(Q:VK)(xs:List V):Pf l y H Q xs=(xs.length < sizeLine/\Q .non (upd H l (.lst (xs++[y])))):=rfl
def zJ(l:Addr)(y:V)(H:Hp)(Q:VK):yr (.ref l) [y] H Q=aX (aP H l) (Pf l y H Q):=by
 refine propext ⟨λ h=>?_,λ h=>?_⟩
 ·obtain⟨_,xs,_,e1,e2,e3,a,b⟩:=h;cases e1;cases e2;have e:aP H l=some xs:=by unfold aP;rw [e3];rfl
  rw [e];exact⟨a,b⟩
 ·obtain⟨xs,e,a,b⟩:=ak h;exact⟨l,xs,y,rfl,rfl,cC e,a,b⟩
def Ox(xs:List V)(H:Hp)(Q:VK):List V->Prop:=λ ys=>xs.length+ys.length<=sizeLine/\∀ p,H p=none->Q (.ref p) (upd H p (.lst (xs++ys)))
def Oy(b:Addr)(H:Hp)(Q:VK):List V->Prop:=λ xs=>aX (aP H b) (Ox xs H Q)
def K8(l b:Addr)(H:Hp)(Q:VK):OS (.ref l) (.ref b) H Q=aX (aP H l) (Oy b H Q):=by
 refine propext ⟨λ h=>?_,λ h=>?_⟩
 ·obtain⟨l',b',xs,zs,e1,e2,e3,e4,hz,hq⟩:=h;cases e1;cases e2;have e:aP H l=some xs:=by unfold aP;rw [e3];rfl
  have e':aP H b=some zs:=by unfold aP;rw [e4];rfl
  rw [e]
  show aX (aP H b) _
  rw [e'];exact⟨hz,hq⟩
 ·obtain⟨xs,e,q⟩:=ak h;obtain⟨zs,e',a,q⟩:=ak q;exact⟨l,b,xs,zs,rfl,rfl,cC e,cC e',a,q⟩
def EW(p:Addr)(xs:List V)(v:V)(H:Hp)(Q:Hp->Prop):Nat->Prop:=λ j=>Q (upd H p (.lst (xs.set j v)))
def G8(p:Addr)(xs:List V)(v:V)(H:Hp)(Q:Hp->Prop)(j:Nat):EW p xs v H Q j=Q (upd H p (.lst (xs.set j v))):=rfl
def O5(p:Addr)(i:Int)(v:V)(H:Hp)(Q:Hp->Prop):List V->Prop:=λ xs=>aX (ixN xs.length i) (EW p xs v H Q)
def Lq(p:Addr)(i:Int)(v:V)(H:Hp)(Q:Hp->Prop)(xs:List V):O5 p i v H Q xs=aX (ixN xs.length i) (EW p xs v H Q):=rfl
def GD(p:Addr)(i:Int)(v:V)(H:Hp)(Q:Hp->Prop):Jz (.ref p) (.int i) v H Q=aX (aP H p) (O5 p i v H Q):=by
 refine propext ⟨λ h=>?_,λ h=>?_⟩
 ·obtain⟨_,xs,_,j,e1,e2,e3,e4,b⟩:=h;cases e1;cases e2;have e:aP H p=some xs:=by unfold aP;rw [e3];rfl
  rw [e]
  show aX (ixN xs.length i) _
  rw [e4];exact b
 ·obtain⟨xs,e,q⟩:=ak h;obtain⟨j,e4,q⟩:=ak q;exact⟨p,xs,i,j,rfl,rfl,cC e,e4,q⟩
def x5(t:DS)(o v:V)(σ:St)(Q:St->Hp->Prop):VK:=λ i H=>t o i v H λ H3=>Q σ H3
def CB(t:DS)(o v:V)(σ:St)(Q:St->Hp->Prop)(i:V)(H:Hp):x5 t o v σ Q i H=t o i v H (Q σ):=rfl
def Ei(ti:TE)(t:DS)(v:V)(σ:St)(Q:St->Hp->Prop):VK:=λ o H=>ti σ H (x5 t o v σ Q)
def CC(ti:TE)(t:DS)(v:V)(σ:St)(Q:St->Hp->Prop)(o:V)(H:Hp):Ei ti t v σ Q o H=ti σ H (x5 t o v σ Q):=rfl
def LV(to ti:TE)(t:DS)(v:V)(σ:St)(H:Hp)(Q:St->Hp->Prop):Pn to ti t v σ H Q=to σ H (Ei ti t v σ Q):=rfl
def kGT(n:Nat)(t:TGs)(σ:St)(H:Hp)(Q:St->Hp->Prop):List V->Prop:=λ xs=>xs.length=n/\t xs σ H Q
def Og(n:Nat)(t:TGs)(σ:St)(H:Hp)(Q:St->Hp->Prop)(xs:List V):kGT n t σ H Q xs=(xs.length=n/\t xs σ H Q):=rfl
def qGT(n:Nat)(t:TGs):TG:=λ v σ H Q=>match v with
 | .ref a=>aX (xi H a) (kGT n t σ H Q)
 | _=>False
def NZ(n:Nat)(t:TGs)(a:Addr)(σ:St)(H:Hp)(Q:St->Hp->Prop):qGT n t (.ref a) σ H Q=aX (xi H a) (kGT n t σ H Q):=rfl
def bR{K:W.Frag}{n:Nat}{t:TGs}{v:V}{σ:St}{H:Hp}{Q:St->Hp->Prop}(h:qGT n t v σ H Q):Pm K n t v σ H Q:=by
 unfold qGT at h;split at h
 ·rename_i a;obtain⟨xs,e,hl,q⟩:=ak h;exact⟨a,xs,rfl,SqT.of (Kd e),hl,q⟩
 ·exact h.elim
def Kw:OpR X (compareOp .Is) MO:=KA
def uJ:OpR X (compareOp .IsNot) JA:=FT
def vD(tb:TS)(D:iw):St->Hp->Prop:=λ σ H=>tb D σ H
def aw(tb:TS)(D:iw)(σ:St)(H:Hp):vD tb D σ H=tb D σ H:=rfl
def Jb(g:TG)(tb:TS)(D:iw)(σ:St)(J:It)(H1:Hp):Prop:=∃ W:Nat->Nat->St->Hp->Prop,(∃ m,W 0 m σ H1)/\∀ i m σ H,W i m σ H →
 (J.stop i H/\D.nx σ H)\/(J.go i H/\∃ N:St->Hp->Prop,(∀ σ' H',N σ' H'->∃ m',m' < m/\W (i+1) m' σ' H')/\∀ x H',J.yld i H x H'->g x σ H' λ σ2 H2=>tb { D with nx:=N,ct:=N,bk:=D.nx } σ2 H2)
def K4(wi:TI)(g:TG)(tb:TS)(D:iw)(σ:St)(H:Hp):OP wi g tb D σ H=wi σ H (Jb g tb D σ):=rfl
def kR1(R:It->Hp->Prop):List V->Hp->Prop:=λ vs H=>∃ j:Int,vs=[.int j]/\-(2 ^ 62)<=j/\j < 2 ^ 62/\R (Itr 0 j.toNat) H
def N8(R:It->Hp->Prop)(j:Int)(H:Hp):kR1 R [.int j] H=(-(2 ^ 62)<=j/\j < 2 ^ 62/\R (Itr 0 j.toNat) H):=propext ⟨λ ⟨_,e,q⟩=>by cases e;exact q,λ q=>⟨j,rfl,q⟩⟩
def Hv(ta:TA)(σ:St)(H:Hp)(R:It->Hp->Prop):JQ ta σ H R=ta σ H (kR1 R):=rfl
def Bw(K:W.Frag)(a:Addr)(H:Hp)(R:It->Hp->Prop):HO->Prop:=λ o=>match o with
 | .lst _=>R (Itl K a) H
 | .frz _ (.lst _)=>R (Itl K a) H
 | .tup _=>R (Itt K a) H
 | _=>False
def zZ(K:W.Frag)(a:Addr)(H:Hp)(R:It->Hp->Prop)(xs:List V):Bw K a H R (.lst xs)=R (Itl K a) H:=rfl
def Mv(K:W.Frag)(R:It->Hp->Prop):VK:=λ x H=>match x with
 | .ref a=>aX (H a) (Bw K a H R)
 | _=>False
def Lz(K:W.Frag)(R:It->Hp->Prop)(a:Addr)(H:Hp):Mv K R (.ref a) H=aX (H a) (Bw K a H R):=rfl
def Pl(K:W.Frag)(tl:TE):TI:=λ σ H R=>tl σ H (Mv K R)
def LU(K:W.Frag)(tl:TE)(σ:St)(H:Hp)(R:It->Hp->Prop):Pl K tl σ H R=tl σ H (Mv K R):=rfl
def Kn{tg l:Expr}{tl:TE}(hl:PE X l tl):PI X tg l (Pl X.K tl):=by
 intro pins s σ H R I h;refine thn (hl pins s σ H _ I h) λ v s1 ⟨x,H1,I1,r1,q1⟩=>?_;unfold Mv at q1;split at q1
 ·rename_i a;cases r1;obtain⟨o,e,q⟩:=ak q1
  have fp:∀ b∈[s1.heap.objs.size],mi X pins H1 b:=λ b hb=>by
   have e:b=s1.heap.objs.size:=by simpa using hb
   subst e;exact I1.fpOk (Qi _) (I1.hok.fresh (Qi _))
  have lst:∀ xs,SqL X.K H1 a xs->R (Itl X.K a) H1->wpAny (model X.prog X.w) X.A (pyIter (.ref a)) (PIE X pins σ tg R) X.xe s1:=λ xs hq q=>by
   obtain⟨its,rv,p,hz⟩:=I1.list hq;refine R0 p.isList ?_;exact⟨s1.heap.objs.size,[s1.heap.objs.size],_,_,H1,rfl,I1.kept (t':=s1.toks) λ b o e=>Qg _ e,zi a _,⟨_,Qp _ rfl,rfl,rfl⟩,fp,q⟩
  unfold Bw at q;split at q
  ·exact lst _ (SqL.of e) q
  ·exact lst _ (.inl (.inr ⟨_,e⟩)) q
  ·obtain⟨its,rv,p,hz⟩:=I1.tuple (SqT.of e);refine wpAny_pyIter_tuple (show s1.heap.IsTuple a its.toArray from p) ?_;exact⟨s1.heap.objs.size,[s1.heap.objs.size],_,_,H1,rfl,I1.kept (t':=s1.toks) λ b o e=>Qg _ e,vE a _,⟨_,Qp _ rfl,rfl,rfl⟩,fp,q⟩
  ·exact q.elim
 ·exact q1.elim
def sN{lo:Int}{n:Nat}{g:TG}{tb:TS}{nx:St->Hp->Prop}{rt:VK}{bk ct:St->Hp->Prop}{σ:St}{H:Hp}(Pv:Nat->St->Hp->Prop)(h0:Pv 0 σ H)
  (hs:∀ i σ H,i < n->Pv i σ H->g (.int (lo+i)) σ H (vD tb ⟨Pv (i+1),rt,nx,Pv (i+1)⟩)) (hd:∀ σ H,Pv n σ H->nx σ H):Jb g tb ⟨nx,rt,bk,ct⟩ σ (Itr lo n) H:=AH Pv h0 hs hd
def aR{K:W.Frag}{a:Addr}{xs:List V}{g:TG}{tb:TS}{nx:St->Hp->Prop}{rt:VK}{bk ct:St->Hp->Prop}{σ:St}{H:Hp}(Pv:Nat->St->Hp->Prop)(h0:Pv 0 σ H)(hl:∀ i σ H,i<=xs.length->Pv i σ H->H a=some (.lst xs))
  (hs:∀ i x σ H,xs[i]? = some x->Pv i σ H->g x σ H (vD tb ⟨Pv (i+1),rt,nx,Pv (i+1)⟩)) (hd:∀ σ H,Pv xs.length σ H->nx σ H):Jb g tb ⟨nx,rt,bk,ct⟩ σ (Itl K a) H:=Dx (xs:=xs) Pv h0 (λ i σ H hi p=>SqL.of (hl i σ H hi p)) hs hd
end
def Ct(sp:Sp)(dvs:List V)(E:St->XK)(t:TA)(σ:St)(H:Hp)(Q:VK):D5 sp dvs E t σ H Q=t σ H (xp sp dvs (E σ) Q):=rfl
def O2(th:Value->Option Addr->TS)(D:iw):St->XK:=λ σ cls d H=>th cls d D σ H
def Lm(th:Value->Option Addr->TS)(D:iw)(σ:St)(cls:Value)(d:Option Addr)(H:Hp):O2 th D σ cls d H=th cls d D σ H:=rfl
def KY(tb:(St->XK)->TS)(th:Value->Option Addr->TS)(D:iw)(σ:St)(H:Hp):OK tb th D σ H=tb (O2 th D) D σ H:=rfl
def Eg(C:Addr)(E:XK):List V->Hp->Prop:=λ vs H=>vs.length<=sizeLine/\E (.ref C) none H
def Cz(C:Addr)(E:XK)(vs:List V)(H:Hp):Eg C E vs H=(vs.length<=sizeLine/\E (.ref C) none H):=rfl
def Cr(C:Addr)(E:St->XK)(t:TA)(D:iw)(σ:St)(H:Hp):DZ C E t D σ H=t σ H (Eg C (E σ)):=rfl
def EU(i:Nat)(tb:TS)(D:iw):St->Hp->Prop:=λ σ H=>tb D σ H
def GX(i:Nat)(tb:TS)(D:iw)(σ:St)(H:Hp):EU i tb D σ H=tb D σ H:=rfl
def Ot(i:Nat)(nx:St->Hp->Prop)(rt:VK)(bk ct:St->Hp->Prop):iw.del i ⟨nx,rt,bk,ct⟩=⟨Ey i nx,rt,Ey i bk,Ey i ct⟩:=rfl
def LF(i:Nat)(nx:St->Hp->Prop)(σ:St)(H:Hp):Ey i nx σ H=Nk i σ H nx:=rfl
def CI{a0 a1 a2:Option V}{a:Option V}{σ:St}{H:Hp}{Q:St->Hp->Prop}:Nk 3 (a0::a1::a2::a::σ) H Q=Q (a0::a1::a2::none::σ) H:=rfl
def qX(H:Hp):xw H none=True:=rfl
def qW(H:Hp)(dx:Addr):xw H (some dx)=aX (H dx) kXd:=by
 refine propext ⟨λ ⟨o,h,k⟩=>by rw [h];exact k,λ h=>?_⟩;obtain⟨o,e,k⟩:=ak h;exact⟨o,e,k⟩
def N5(fs:List (Str × V)):kXd (.xd fs)=True:=rfl
def MN:Value->Option Addr
 | .ref C=>some C
 | _=>none
def BY(C:Addr):MN (.ref C)=some C:=rfl
def MC:V->Option Value
 | .ref C=>some (.ref C)
 | .ty n=>some (.type n)
 | _=>none
def DE(C:Addr):MC (.ref C)=some (.ref C):=rfl
def IH(n:String):MC (.ty n)=some (.type n):=rfl
def kE4(H:Hp)(Q:VK):Bool->Prop:=λ b=>Q (.bl b) H
def ES(H:Hp)(Q:VK)(b:Bool):kE4 H Q b=Q (.bl b) H:=rfl
def kE3(K:W.Frag)(C:Addr)(H:Hp)(Q:VK):Value->Prop:=λ u=>aX (W.kitOne K (.ref C) u) (kE4 H Q)
def Oh(K:W.Frag)(C:Addr)(H:Hp)(Q:VK)(u:Value):kE3 K C H Q u=aX (W.kitOne K (.ref C) u) (kE4 H Q):=rfl
def kE2(K:W.Frag)(oe:Obj)(D:V)(H:Hp)(Q:VK):Addr->Prop:=λ C=>xw H oe.dict/\(∃ vs,oe.data=.fields vs)/\ue K C/\aX (MC D) (kE3 K C H Q)
def Oi(K:W.Frag)(oe:Obj)(D:V)(H:Hp)(Q:VK)(C:Addr):kE2 K oe D H Q C=(xw H oe.dict/\(∃ vs,oe.data=.fields vs)/\ue K C/\aX (MC D) (kE3 K C H Q)):=rfl
def kE1(K:W.Frag)(D:V)(H:Hp)(Q:VK):HO->Prop:=λ o=>match o with
 | .frz oe (.ext _)=>aX (MN oe.cls) (kE2 K oe D H Q)
 | _=>False
def Oj(K:W.Frag)(D:V)(H:Hp)(Q:VK)(oe:Obj):kE1 K D H Q (jC oe)=aX (MN oe.cls) (kE2 K oe D H Q):=rfl
def Mo(K:W.Frag)(xs:List V)(H:Hp)(Q:VK):Prop:=match xs with
 | [.ref e,D]=>aX (H e) (kE1 K D H Q)
 | _=>False
def Lf(K:W.Frag)(e:Addr)(D:V)(H:Hp)(Q:VK):Mo K [.ref e,D] H Q=aX (H e) (kE1 K D H Q):=rfl
def AQ{X:Cx}:b9 X (.builtin "isinstance") (Mo X.K):=by
 refine AX.mono λ xs H Q h=>?_;unfold Mo at h;split at h
 ·rename_i e D;obtain⟨o,h1,h⟩:=ak h;unfold kE1 at h;split at h
  ·rename_i oe φ;obtain⟨C,h2,h⟩:=ak h;obtain⟨h3,h4,h5,h⟩:=h;obtain⟨u,h6,h⟩:=ak h;obtain⟨b,h7,h⟩:=ak h
   have hc:oe.cls=.ref C:=by
    cases q:oe.cls with
    | ref C'=>rw [q] at h2;cases h2;rfl
    | _=>rw [q] at h2;cases h2
   refine⟨e,oe,C,D,b,rfl,⟨_,h1⟩,hc,h3,h4,h5,⟨u,?_,h7⟩,h⟩
   cases D with
   | ref a=>cases h6;rfl
   | ty n=>cases h6;rfl
   | _=>cases h6
  ·exact h.elim
 ·exact h.elim
def kC3(D:Addr)(ys:List V)(N:List V->Hp->Prop):VK:=λ y H=>H D=some (.lst ys)/\ys.length < sizeLine/\N (ys++[y]) (upd H D (.lst (ys++[y])))
def Om(D:Addr)(ys:List V)(N:List V->Hp->Prop)(y:V)(H:Hp):kC3 D ys N y H=(H D=some (.lst ys)/\ys.length < sizeLine/\N (ys++[y]) (upd H D (.lst (ys++[y])))):=rfl
def kC2(te:TE)(σ2:St)(D:Addr)(ys:List V)(N:List V->Hp->Prop):Bool->Hp->Prop:=λ b H=>if b=true then te σ2 H (kC3 D ys N) else N ys H
def Oo(te:TE)(σ2:St)(D:Addr)(ys:List V)(N:List V->Hp->Prop)(b:Bool)(H:Hp):kC2 te σ2 D ys N b H=(if b=true then te σ2 H (kC3 D ys N) else N ys H):=rfl
def kC1(k:Nat)(tt:TT)(te:TE)(σ:St)(D:Addr)(ys:List V)(N:List V->Hp->Prop):St->Hp->Prop:=λ σ2 H=>(∃ vs:St,vs.length=k/\σ2=vs++σ)/\tt σ2 H (kC2 te σ2 D ys N)
def Hs(tt:TT)(te:TE)(σ:St)(D:Addr)(ys:List V)(N:List V->Hp->Prop)(a:Option V)(H:Hp):kC1 1 tt te σ D ys N (a::σ) H=tt (a::σ) H (kC2 te (a::σ) D ys N):=propext ⟨λ h=>h.2,λ h=>⟨⟨[a],rfl,rfl⟩,h⟩⟩
def KI(σ:St)(H:Hp)(Q:Bool->Hp->Prop):OJ σ H Q=Q true H:=rfl
def rP(k:Nat)(g:TG)(tt:TT)(te:TE)(σ:St)(Q:VK):It->Hp->Prop:=λ J H1=>∀ D,H1 D=none->∃ W:Nat->Nat->List V->Hp->Prop,(∃ m,W 0 m [] (upd H1 D (.lst [])))/\∀ i m ys H,W i m ys H →
 (J.stop i H/\Q (.ref D) H)\/(J.go i H/\∃ N:List V->Hp->Prop,(∀ aq H',N aq H'->∃ m',m' < m/\W (i+1) m' aq H') /\
  ∀ x H',J.yld i H x H'->g x (List.replicate k none++σ) H' (kC1 k tt te σ D ys N))
def Gx(k:Nat)(wi:TI)(g:TG)(tt:TT)(te:TE)(σ:St)(H:Hp)(Q:VK):EC k wi g tt te σ H Q=wi σ H (rP k g tt te σ Q):=rfl
def JK(i:Nat)(σ:St)(nx:St->Hp->Prop):VK:=λ x H=>cE i x σ H nx
def GY(i:Nat)(σ:St)(nx:St->Hp->Prop)(x:V)(H:Hp):JK i σ nx x H=cE i x σ H nx:=rfl
def Gp(i:Nat)(te:TE)(nx:St->Hp->Prop)(rt:VK)(bk ct:St->Hp->Prop)(σ:St)(H:Hp):Jn i te ⟨nx,rt,bk,ct⟩ σ H=te σ H (JK i σ nx):=rfl
section
variable {k:Nat}{g:TG}{tt:TT}{te:TE}{σ:St}{Q:VK}{H:Hp}{K:PySem.W.Frag}
def IG{J:It}{n:Nat}{yl:Nat->V->Prop}(Pv:Addr->Nat->List V->Hp->Prop)(h0:∀ D,H D=none->Pv D 0 [] (upd H D (.lst [])))
  (aq:∀ D i ys H,i < n->Pv D i ys H->J.go i H/\∀ x H',J.yld i H x H'->H'=H/\yl i x) (ar:∀ D ys H,Pv D n ys H->J.stop n H)
  (hs:∀ D i x ys H,i < n->yl i x->Pv D i ys H->g x (List.replicate k none++σ) H (kC1 k tt te σ D ys (Pv D (i+1)))) (hd:∀ D ys H,Pv D n ys H->Q (.ref D) H):rP k g tt te σ Q J H:=by
 intro D hD;refine⟨λ i m ys H=>m=n - i/\i<=n/\Pv D i ys H,⟨n,by simp,QK _,h0 D hD⟩,?_⟩;rintro i m ys H' ⟨rfl,hi,p⟩
 by_cases hlt:i < n
 ·obtain⟨go,y⟩:=aq D i ys H' hlt p;refine .inr ⟨go,Pv D (i+1),λ a3 H2 p'=>⟨n - (i+1),by omega,rfl,hlt,p'⟩,λ x H2 z=>?_⟩;obtain⟨e,z2⟩:=y x H2 z;subst e;exact hs D i x ys _ hlt z2 p
 ·have e:i=n:=by omega
  subst e;exact .inl ⟨ar D ys H' p,hd D ys H' p⟩
def DD{lo:Int}{n:Nat}(Pv:Addr->Nat->List V->Hp->Prop)(h0:∀ D,H D=none->Pv D 0 [] (upd H D (.lst [])))
  (hs:∀ D i ys H,i < n->Pv D i ys H->g (.int (lo+i)) (List.replicate k none++σ) H (kC1 k tt te σ D ys (Pv D (i+1)))) (hd:∀ D ys H,Pv D n ys H->Q (.ref D) H):rP k g tt te σ Q (Itr lo n) H:=by
 refine IG (n:=n) (yl:=λ i x=>x=.int (lo+i)) Pv h0 (λ D i ys H hi p=>?_) (λ D ys H p=>Qi n) (λ D i x ys H hi e p=>by subst e;exact hs D i ys H hi p) hd;exact⟨hi,λ x H' y=>⟨y.1,y.2⟩⟩
end
def bG{α:Type}:List (Option α)->Option (List α)
 | []=>some []
 | o::r=>o.bind λ x=>(bG r).map λ xs=>x::xs
def Jc(f:V->Option PyData):HO->Option PyData
 | .lst xs=>(bG (xs.map f)).map .list
 | .tup xs=>(bG (xs.map f)).map .tuple
 | _=>none
def w5(H:Hp)(f:V->Option PyData):V->Option PyData
 | .non=>some .none
 | .bl b=>some (.bool b)
 | .int i=>some (.int i)
 | .str z=>if PyData.strOk z=true then some (.str z) else none
 | .ref p=>(H p).bind (Jc f)
 | _=>none
def lS(H:Hp):Nat->V->Option PyData
 | 0,_=>none
 | n+1,x=>w5 H (lS H n) x
def noD:V->Option PyData:=λ _=>none
def LW(H:Hp)(x:V):lS H 6 x=w5 H (w5 H (w5 H (w5 H (w5 H (w5 H noD))))) x:=rfl
def vX(H:Hp)(n:Nat)(z:Str):lS H (n+1) (.str z)=if PyData.strOk z=true then some (.str z) else none:=rfl
def vY(H:Hp)(n:Nat)(p:Addr):lS H (n+1) (.ref p)=(H p).bind (Jc (lS H n)):=rfl
def wb(H:Hp)(f:V->Option PyData)(i:Int):w5 H f (.int i)=some (.int i):=rfl
def vZ(H:Hp)(f:V->Option PyData)(z:Str):w5 H f (.str z)=if PyData.strOk z=true then some (.str z) else none:=rfl
def wa(H:Hp)(f:V->Option PyData)(p:Addr):w5 H f (.ref p)=(H p).bind (Jc f):=rfl
def mH(f:V->Option PyData)(xs:List V):Jc f (.lst xs)=(bG (xs.map f)).map .list:=rfl
def mG(f:V->Option PyData)(xs:List V):Jc f (.tup xs)=(bG (xs.map f)).map .tuple:=rfl
def oW{α:Type}:bG ([]:List (Option α))=some []:=rfl
def md{α:Type}(x:α)(r:List (Option α)):bG (some x::r)=(bG r).map λ xs=>x::xs:=rfl
def jw(H:Hp)(f:V->Option PyData):∀ ns:List Int,bG ((ns.map V.int).map (w5 H f))=some (ns.map PyData.int)
 | []=>rfl
 | i::r=>by
  show (bG ((r.map V.int).map (w5 H f))).map _=_
  rw [jw H f r];rfl
def oo{K:W.Frag}{H:Hp}{n:Nat}(ih:∀ x d,lS H n x=some d->nh K H x d/\d.canLay0=true/\d.depth<=n):∀ (xs:List V) (ds:List PyData),bG (xs.map (lS H n))=some ds->jX K H xs ds/\PyData.canLayAll0 ds=true/\PyData.depthAll ds<=n
 | [],ds,h=>by cases h;exact⟨.nil,rfl,QK _⟩
 | x::xs,ds,h=>by
  have h':(lS H n x).bind (λ d=>(bG (xs.map (lS H n))).map λ ds=>d::ds)=some ds:=h
  cases e:lS H n x with
  | none=>rw [e] at h';cases h'
  | some d=>
   rw [e] at h';have h2:(bG (xs.map (lS H n))).map (λ ds=>d::ds)=some ds:=h'
   cases e2:bG (xs.map (lS H n)) with
   | none=>rw [e2] at h2;cases h2
   | some es=>
    rw [e2] at h2;cases h2;obtain⟨a,b,c⟩:=ih x d e;obtain⟨a',b',c'⟩:=oo ih xs es e2;exact⟨.cons a a',by simp [PyData.canLayAll0,b,b'],by simp only [PyData.depthAll];omega⟩
def sP{K:W.Frag}{H:Hp}:∀ (n:Nat) (x:V) (d:PyData),lS H n x=some d->nh K H x d/\d.canLay0=true/\d.depth<=n
 | 0,x,d,h=>by cases h
 | n+1,x,d,h=>by
  cases x with
  | non=>cases h;exact⟨.non,rfl,QK _⟩
  | bl b=>cases h;exact⟨.bl b,rfl,QK _⟩
  | int i=>cases h;exact⟨.int i,rfl,QK _⟩
  | str z=>
   rw [vX] at h;split at h
   ·rename_i hz;cases h;exact⟨.str z,by simpa [PyData.canLay0] using hz,QK _⟩
   ·cases h
  | ref p=>
   rw [vY] at h
   cases e:H p with
   | none=>rw [e] at h;cases h
   | some o=>
    rw [e] at h;have h':Jc (lS H n) o=some d:=h
    cases o with
    | lst xs=>
     rw [mH] at h'
     cases e2:bG (xs.map (lS H n)) with
     | none=>rw [e2] at h';cases h'
     | some ds=>
      rw [e2] at h';cases h';obtain⟨a,b,c⟩:=oo (K:=K) (sP n) xs ds e2;exact⟨.lst (SqL.of e) a,by simpa [PyData.canLay0] using b,by simp only [PyData.depth];omega⟩
    | tup xs=>
     rw [mG] at h'
     cases e2:bG (xs.map (lS H n)) with
     | none=>rw [e2] at h';cases h'
     | some ds=>
      rw [e2] at h';cases h';obtain⟨a,b,c⟩:=oo (K:=K) (sP n) xs ds e2;exact⟨.tup (SqT.of e) a,by simpa [PyData.canLay0] using b,by simp only [PyData.depth];omega⟩
    | _=>cases h'
  | _=>cases h
def fh{K:W.Frag}{H:Hp}{n:Nat}{x:V}{d:PyData}(hn:n<=64)(h:lS H n x=some d):nh K H x d/\SeqAt.shaped d=true:=by
 obtain⟨a,b,c⟩:=sP (K:=K) n x d h;refine⟨a,?_⟩;unfold SeqAt.shaped;rw [b,decide_eq_true (show d.depth<=64 by omega)];rfl
def Mx(neg:Bool)(H:Hp)(Q:VK)(d:PyData):PyData->Prop:=λ e=>Q (.bl (if neg=true then !PyData.eqv d e else PyData.eqv d e)) H
def CF(H:Hp)(Q:VK)(d e:PyData):Mx true H Q d e=Q (.bl (!PyData.eqv d e)) H:=rfl
def CG(H:Hp)(Q:VK)(d e:PyData):Mx false H Q d e=Q (.bl (PyData.eqv d e)) H:=rfl
def M8(neg:Bool)(y:V)(H:Hp)(Q:VK):PyData->Prop:=λ d=>aX (lS H 6 y) (Mx neg H Q d)
def LB(neg:Bool)(y:V)(H:Hp)(Q:VK)(d:PyData):M8 neg y H Q d=aX (lS H 6 y) (Mx neg H Q d):=rfl
def qEq(neg:Bool):R2:=λ x y H Q=>if Mn x y=true then Q (.bl (if neg=true then !decide (x=y) else decide (x=y))) H else aX (lS H 6 x) (M8 neg y H Q)
def vT(neg:Bool)(p:Addr)(x:V)(H:Hp)(Q:VK):qEq neg x (.ref p) H Q=aX (lS H 6 x) (M8 neg (.ref p) H Q):=by
 show (if Mn x (.ref p)=true then _ else _)=_
 rw [QB (by cases x<;>exact Qx)]
def oV(i:Int)(j:Int)(H:Hp)(Q:VK):qEq false (V.int i) (V.int j) H Q=Q (.bl (decide (i=j))) H:=by
 have e:decide (((V.int i):V)=(V.int j))=decide (i=j):=by simp
 show Q (.bl (if false=true then !decide ((V.int i)=(V.int j)) else decide ((V.int i)=(V.int j)))) H=_
 rw [e];rfl
def oS(i:Int)(j:Int)(H:Hp)(Q:VK):qEq true (V.int i) (V.int j) H Q=Q (.bl (!decide (i=j))) H:=by
 have e:decide (((V.int i):V)=(V.int j))=decide (i=j):=by simp
 show Q (.bl (if true=true then !decide ((V.int i)=(V.int j)) else decide ((V.int i)=(V.int j)))) H=_
 rw [e];rfl
def oU(i:Str)(j:Str)(H:Hp)(Q:VK):qEq false (V.str i) (V.str j) H Q=Q (.bl (decide (i=j))) H:=by
 have e:decide (((V.str i):V)=(V.str j))=decide (i=j):=by simp
 show Q (.bl (if false=true then !decide ((V.str i)=(V.str j)) else decide ((V.str i)=(V.str j)))) H=_
 rw [e];rfl
section
variable {X:Cx}
def cM(hu:X.A.units+64 < cLine):OpR X (compareOp .Eq) (qEq false):=by
 refine(NH.or (KC hu)).mono λ x y H Q h=>?_;unfold qEq at h;split at h
 ·rename_i hs;exact .inl ⟨hs,h⟩
 obtain⟨d,e1,h⟩:=ak h;obtain⟨e,e2,h⟩:=ak h;obtain⟨a,b⟩:=fh (K:=X.K) (by decide) e1;obtain⟨a',b'⟩:=fh (K:=X.K) (by decide) e2;exact .inr ⟨d,e,a,a',b,b',h⟩
def iB(hu:X.A.units+64 < cLine):OpR X (compareOp .NotEq) (qEq true):=by
 refine(ND.or (Kz hu)).mono λ x y H Q h=>?_;unfold qEq at h;split at h
 ·rename_i hs;exact .inl ⟨hs,h⟩
 obtain⟨d,e1,h⟩:=ak h;obtain⟨e,e2,h⟩:=ak h;obtain⟨a,b⟩:=fh (K:=X.K) (by decide) e1;obtain⟨a',b'⟩:=fh (K:=X.K) (by decide) e2;exact .inr ⟨d,e,a,a',b,b',h⟩
end
def yL(i j:Int):PyData.eqv (.int i) (.int j)=decide (i=j):=Bool.beq_eq_decide_eq i j
def IC(i j:Str):PyData.eqv (.str i) (.str j)=(i == j):=rfl
def AK(xs ys:List PyData):PyData.eqv (.tuple xs) (.tuple ys)=PyData.eqvAll xs ys:=by simp only [PyData.eqv]
def Dz(xs ys:List PyData):PyData.eqv (.list xs) (.list ys)=PyData.eqvAll xs ys:=by simp only [PyData.eqv]
def mJ:PyData.eqvAll [] []=true:=by simp only [PyData.eqvAll]
def k7(x y:PyData)(xs ys:List PyData):PyData.eqvAll (x::xs) (y::ys)=(PyData.eqv x y && PyData.eqvAll xs ys):=by simp only [PyData.eqvAll]
def DB(x:PyData)(xs:List PyData):PyData.eqvAll (x::xs) []=false:=by simp only [PyData.eqvAll]
def DA(x:PyData)(xs:List PyData):PyData.eqvAll [] (x::xs)=false:=by simp only [PyData.eqvAll]
def kZ:∀ ns ms:List Int,PyData.eqvAll (ns.map PyData.int) (ms.map PyData.int)=decide (ns=ms)
 | [],[]=>by rw [map_nil,mJ];rfl
 | [],_::_=>by rw [map_nil,Rj,DA];rfl
 | _::_,[]=>by rw [map_nil,Rj,DB];rfl
 | i::r,j::t=>by
  rw [Rj,Rj,k7,yL,kZ r t]
  by_cases h:i=j<;>by_cases h2:r=t<;>simp [h,h2]
def IZ(i j:Int):Nw i j=(0 < j/\j < 1073741824):=rfl
def Mg(i j:Int)(h:-18446744073709551616 < i)(h':i < 18446744073709551616):rJ i j=True:=eq_true (.inl ⟨by omega,by omega⟩)
def IX(j:Int):Nv 10 j=(0<=j/\j<=1000000):=propext ⟨λ h=>⟨h.1,h.2.1⟩,λ h=>⟨h.1,h.2,by decide⟩⟩
def Ou(n:Nat)(h:n<=1000):(n<=sizeLine)=True:=eq_true (RO (zm h))
def Ext.of{H H':Hp}(h:∀ a,(H a).isSome=true->H' a=H a):Ext H H':=⟨h,λ K a xs q=>by
 have s:lQ H H':=λ b o e=>(h b (by rw [e];rfl)).trans e;exact s.seq q⟩
def Ext.same{H H':Hp}(h:Ext H H'):lQ H H':=λ b o e=>(h.1 b (by rw [e];rfl)).trans e
def lQ.ext{H H':Hp}(h:lQ H H'):Ext H H':=Ext.of λ a q=>by
 cases e:H a with
 | none=>rw [e] at q;cases q
 | some o=>exact h a o e
def Ext.refl(H:Hp):Ext H H:=(lQ.refl H).ext
def Ext.trans{H H1 H2:Hp}(a:Ext H H1)(b:Ext H1 H2):Ext H H2:=(a.same.trans b.same).ext
def Ext.new{H:Hp}{p:Addr}{o:HO}(h:H p=none):Ext H (upd H p o):=(BS h).ext
def Ext.put{H H1:Hp}{p:Addr}{o:HO}(a:Ext H H1)(h:H p=none):Ext H (upd H1 p o):=lQ.ext λ b u e=>by
 rw [ae (ag e h)];exact a.same b u e
def Ext.free{H H1:Hp}{p:Addr}(a:Ext H H1)(h:H1 p=none):H p=none:=a.same.free h
def Ext.at{H H1:Hp}{p:Addr}{o:HO}(a:Ext H H1)(h:H p=some o):H1 p=some o:=a.same _ _ h
def FR{xs:List V}{i:Int}{k:V->Prop}(h0:0<=i)(h1:i < xs.length)(h:∀ v∈xs,k v):aX (atI xs i) k:=by
 obtain⟨v,e,m⟩:=Es xs i h0 h1;rw [e];exact h v m
def P7(CX:CXT)(P:Program)(w:World)(K:W.Frag)(mg:Str->Option Value)(base:Heap)(N:List Str)(qual:Str)(scope:Scope)(f:Addr)(cd:Value)(A:Around)(outer:List Env)(s:Shared)(H:Hp)(E:XK):(w9 CX P w K mg base N qual scope f cd A outer s H E).K=K:=rfl
def gG{X:Cx}{K:W.Frag}(h:X.K=K):b9 X (.builtin "isinstance") (Mo K):=h ▸ AQ
def uY{K:W.Frag}{C:Addr}(h:W.hasDictIn K C=true):(W.clsIn K C).isSome=true:=by
 obtain⟨cd,hc,_⟩:=W.any_some h;rw [hc];rfl
def sL{K:W.Frag}{A C:Addr}(h1:W.hasDictIn K C=true)(h2:W.typeIn K (.ref C)=some (.type "type"))(h3:W.subIn K (.ref A) (.ref C)=some true):W.kitOne K (.ref A) (.ref C)=some true:=by
 unfold W.kitOne;split
 ·rfl
 ·show (if _ then _ else _)=_
  rw [uY h1,h2,QE (by decide),h3]
def mr{K:W.Frag}{A C:Addr}(h0:(A == C)=false)(h1:W.hasDictIn K C=true)(h2:W.typeIn K (.ref C)=some (.type "type"))(h3:W.subIn K (.ref A) (.ref C)=some false):W.kitOne K (.ref A) (.ref C)=some false:=by
 unfold W.kitOne;rw [if_neg (by intro z;have e:A=C:=Value.ref.inj (beq_iff_eq.mp z);rw [e] at h0;simp at h0)]
 show (if _ then _ else _)=_
 rw [uY h1,h2,QE (by decide),h3]
def x3{K:W.Frag}{A:Addr}{n:String}{b:Bool}(h1:W.kitMeta n=true)(h3:W.subIn K (.ref A) (.type n)=some b):W.kitOne K (.ref A) (.type n)=some b:=by
 unfold W.kitOne;rw [if_neg (by intro z;have e:=beq_iff_eq.mp z;cases e)]
 show (if _ then _ else _)=_
 rw [QE h1,h3]
def isW(H:Hp):V->Option Bool
 | .int _=>some true
 | .bl _=>some false
 | .non=>some false
 | .str _=>some false
 | .ref p=>((H p).bind tyO).map λ _=>false
 | _=>none
def Dk(H:Hp)(i:Int):isW H (.int i)=some true:=rfl
def Dj(H:Hp)(p:Addr):isW H (.ref p)=((H p).bind tyO).map λ _=>false:=rfl
def yJ{H:Hp}{p:Addr}{b:Bool}(h:isW H (.ref p)=some b):b=false/\∃ o,H p=some o/\(tyO o=some "list" \/ tyO o=some "tuple" \/ tyO o=some "dict"):=by
 rw [Dj] at h
 cases e:H p with
 | none=>rw [e] at h;cases h
 | some o=>
  rw [e] at h;have h':(tyO o).map (λ _=>false)=some b:=h
  cases e2:tyO o with
  | none=>rw [e2] at h';cases h'
  | some t=>
   rw [e2] at h';cases h';refine⟨rfl,o,rfl,?_⟩
   cases o with
   | lst xs=>exact .inl rfl
   | tup xs=>exact .inr (.inl rfl)
   | dK xs=>exact .inr (.inr rfl)
   | dT xs=>exact .inr (.inr rfl)
   | frz ob u=>cases u with
    | lst xs=>exact .inl rfl
    | _=>cases e2
   | _=>cases e2
def iJ{α:Type}{o:Option α}{k k':α->Prop}(m:∀ x,k x->k' x)(h:aX o k):aX o k':=by
 obtain⟨x,e,q⟩:=ak h;rw [e];exact m x q
def uU:∀ {ns ms:List Int},ns.map V.int=ms.map V.int->ns=ms
 | [],[],_=>rfl
 | [],_::_,h=>by cases h
 | _::_,[],h=>by cases h
 | i::r,j::t,h=>by
  simp only [Rj,List.cons.injEq,V.int.injEq] at h;rw [h.1,uU h.2]
def rO(F:List Int->Prop):List V->Prop:=λ xs=>∃ ns,xs=ns.map V.int/\F ns
def Hf(F:List Int->Prop)(ns:List Int):rO F (ns.map V.int)=F ns:=propext ⟨λ ⟨ms,e,h⟩=>by rw [uU e];exact h,λ h=>⟨ns,rfl,h⟩⟩
def DO(i j:Int)(h:i.natAbs < 2 ^ 256)(h':j.natAbs < 2 ^ 256):E9 i j=True:=eq_true ⟨h,h'⟩
def P4(lo hi:Option Int)(H:Hp)(Q:VK):List V->Prop:=λ xs=>∀ p,H p=none->Q (.ref p) (upd H p (.lst (ub xs lo hi)))
def OU:V->Option Int->Option Int->Hp->VK->Prop:=λ x lo hi H Q=>match x with
 | .ref a=>aX (aP H a) (P4 lo hi H Q)
 | _=>False
def PF{X:Cx}:SlR X OU:=yn.mono λ x lo hi H Q h=>by
 unfold OU at h;split at h
 ·rename_i a;obtain⟨xs,e,q⟩:=ak h;exact⟨a,xs,rfl,SqL.of (cC e),q⟩
 ·exact h.elim
def M3(r:V->Option Int->Option Int->Hp->VK->Prop)(x:V)(l:Option Int)(Q:VK):Option Int->Hp->Prop:=λ u H=>r x l u H Q
def Ln(r:V->Option Int->Option Int->Hp->VK->Prop)(x:V)(l:Option Int)(Q:VK)(u:Option Int)(H:Hp):M3 r x l Q u H=r x l u H Q:=rfl
def M4(r:V->Option Int->Option Int->Hp->VK->Prop)(th:TO)(σ:St)(x:V)(Q:VK):Option Int->Hp->Prop:=λ l H=>th σ H (M3 r x l Q)
def Lo(r:V->Option Int->Option Int->Hp->VK->Prop)(th:TO)(σ:St)(x:V)(Q:VK)(l:Option Int)(H:Hp):M4 r th σ x Q l H=th σ H (M3 r x l Q):=rfl
def O4(r:V->Option Int->Option Int->Hp->VK->Prop)(tl th:TO)(σ:St)(Q:VK):VK:=λ x H=>tl σ H (M4 r th σ x Q)
def Lp(r:V->Option Int->Option Int->Hp->VK->Prop)(tl th:TO)(σ:St)(Q:VK)(x:V)(H:Hp):O4 r tl th σ Q x H=tl σ H (M4 r th σ x Q):=rfl
def NS(r:V->Option Int->Option Int->Hp->VK->Prop)(te:TE)(tl th:TO)(σ:St)(H:Hp)(Q:VK):tSl r te tl th σ H Q=te σ H (O4 r tl th σ Q):=rfl
def zH(σ:St)(H:Hp)(Q:Option Int->Hp->Prop):ym σ H Q=Q none H:=rfl
def JL(Q:Option Int->Hp->Prop):VK:=λ x H=>∃ i,x=.int i/\Q (some i) H
def Ha(Q:Option Int->Hp->Prop)(i:Int)(H:Hp):JL Q (.int i) H=Q (some i) H:=propext ⟨λ ⟨_,e,q⟩=>by cases e;exact q,λ q=>⟨i,rfl,q⟩⟩
def Gq(t:TE)(σ:St)(H:Hp)(Q:Option Int->Hp->Prop):Jo t σ H Q=t σ H (JL Q):=rfl
def pd(o:HO)(H:Hp)(Q:VK):Prop:=∀ (p:Addr) (H':Hp),H p=none->Ext H H'->H' p=some o->Q (.ref p) H'
def pd.to{o:HO}{H:Hp}{Q:VK}(h:pd o H Q):∀ p,H p=none->Q (.ref p) (upd H p o):=λ p hp=>h p _ hp (Ext.new hp) af
def kQT(Q:VK):List V->Hp->Prop:=λ xs H=>xs.length<=sizeLine/\pd (.tup xs) H Q
def N9(Q:VK)(xs:List V)(H:Hp):kQT Q xs H=(xs.length<=sizeLine/\pd (.tup xs) H Q):=rfl
def kQL(Q:VK):List V->Hp->Prop:=λ xs H=>xs.length<=sizeLine/\pd (.lst xs) H Q
def Oa(Q:VK)(xs:List V)(H:Hp):kQL Q xs H=(xs.length<=sizeLine/\pd (.lst xs) H Q):=rfl
def OT(t:TA):TE:=λ σ H Q=>t σ H (kQT Q)
def K9(t:TA)(σ:St)(H:Hp)(Q:VK):OT t σ H Q=t σ H (kQT Q):=rfl
def OV(t:TA):TE:=λ σ H Q=>t σ H (kQL Q)
def Ld(t:TA)(σ:St)(H:Hp)(Q:VK):OV t σ H Q=t σ H (kQL Q):=rfl
section
variable {X:Cx}{es:List Expr}{t:TA}{pos:Pos}
def FJ{x1}(h:PA X es t):PE X (.Tuple es x1 pos) (OT t):=by
 intro pins s σ H Q I hq;refine wpAny_Tuple_spliced (thn (h pos pins s σ H _ I hq) λ us s1 ⟨xs,H1,I1,r,z,q⟩=>⟨by rw [←r.length];exact z,?_⟩);have hf:H1 s1.heap.objs.size=none:=I1.hok.fresh (Qi _);refine⟨.ref s1.heap.objs.size,upd H1 s1.heap.objs.size (.tup xs),I1.laid (t':=s1.toks) (λ b u e=>Qg _ e) (Qi _) ?_,rfl,q.to _ hf⟩;exact⟨z,us,r,⟨_,Qp _ rfl,rfl,_,rfl⟩⟩
def FK(h:PA X es t):PE X (.List es pos) (OV t):=by
 intro pins s σ H Q I hq;refine wpAny_List_spliced (thn (h pos pins s σ H _ I hq) λ us s1 ⟨xs,H1,I1,r,z,q⟩=>⟨by rw [←r.length];exact z,?_⟩);have hf:H1 s1.heap.objs.size=none:=I1.hok.fresh (Qi _);refine⟨.ref s1.heap.objs.size,upd H1 s1.heap.objs.size (.lst xs),I1.laid (t':=s1.toks) (λ b u e=>Qg _ e) (Qi _) ?_,rfl,q.to _ hf⟩;exact⟨z,us,0,r,Qp _ rfl⟩
end
def kN(f:List V->HO)(H:Hp)(Q:VK):List V->Prop:=λ ys=>pd (f ys) H Q
def PZ(f:List V->HO)(H:Hp)(Q:VK)(ys:List V):kN f H Q ys=pd (f ys) H Q:=rfl
def EM(xs:List V)(H:Hp)(Q:VK):Prop:=match xs with
 | [.ref p]=>aX (ef H p) (kN .lst H Q)
 | _=>False
def GN(p:Addr)(H:Hp)(Q:VK):EM [.ref p] H Q=aX (ef H p) (kN .lst H Q):=rfl
def aY{X:Cx}:b9 X (.type "list") EM:=wG.mono λ xs H Q h=>by
 unfold EM at h;split at h
 ·exact iJ (λ _ q=>q.to) h
 ·exact h.elim
def O7(xs:List V)(H:Hp)(Q:VK):List V->Prop:=λ ys=>xs.length+ys.length<=sizeLine/\pd (.lst (xs++ys)) H Q
def O8(b:Addr)(H:Hp)(Q:VK):List V->Prop:=λ xs=>aX (aP H b) (O7 xs H Q)
def Mq:R2:=λ x y H Q=>match x,y with
 | .ref l,.ref b=>aX (aP H l) (O8 b H Q)
 | _,_=>False
def Lk(l b:Addr)(H:Hp)(Q:VK):Mq (.ref l) (.ref b) H Q=aX (aP H l) (O8 b H Q):=rfl
def cG{X:Cx}:OpR X (binaryOp .Add) Mq:=KD.mono λ x y H Q h=>by
 unfold Mq at h;split at h
 ·rw [K8];exact iJ (λ _ q=>iJ (λ _ q=>⟨q.1,q.2.to⟩) q) h
 ·exact h.elim
def kNS(lo hi:Option Int)(H:Hp)(Q:VK):List V->Prop:=λ xs=>pd (.lst (ub xs lo hi)) H Q
def Od(lo hi:Option Int)(H:Hp)(Q:VK)(xs:List V):kNS lo hi H Q xs=pd (.lst (ub xs lo hi)) H Q:=rfl
def nSl:V->Option Int->Option Int->Hp->VK->Prop:=λ x lo hi H Q=>match x with
 | .ref a=>aX (aP H a) (kNS lo hi H Q)
 | _=>False
def N2(a:Addr)(lo hi:Option Int)(H:Hp)(Q:VK):nSl (.ref a) lo hi H Q=aX (aP H a) (kNS lo hi H Q):=rfl
def PJ{X:Cx}:SlR X nSl:=PF.mono λ x lo hi H Q h=>by
 unfold nSl at h;split at h
 ·exact iJ (λ _ q=>q.to) h
 ·exact h.elim
def PE.mono{X:Cx}{e:Expr}{t t':TE}(h:PE X e t)(m:∀ σ H Q,t' σ H Q->t σ H Q):PE X e t':=λ pins s σ H Q I q=>h pins s σ H Q I (m _ _ _ q)
def JI:TE:=λ _ H Q=>pd (.dK []) H Q
def GP(σ:St)(H:Hp)(Q:VK):JI σ H Q=pd (.dK []) H Q:=rfl
def n9{X:Cx}{pos:Pos}:PE X (.Dict [] [] pos) JI:=Cd.mono λ _ _ _ h=>h.to
section
variable {prog:Program}{w:World}{A:Around}{E:Value->Shared->Prop}{s:Shared}
end
section
variable {X:Cx}{pos:Pos}
end
section
variable {X:Cx}{tg:Expr}
end
def kU:∀ (n:Nat) (ns:List Int) (val:Nat->Int),(∀ i,val i=ns.getD i 0)->n<=ns.length->preSum val n=(ns.take n).sum
 | 0,ns,val,h,hl=>by simp [preSum]
 | n+1,ns,val,h,hl=>by
  have ih:=kU n ns val h (by omega)
  have e:ns.take (n+1)=ns.take n++[ns.getD n 0]:=by
   rw [List.take_succ,Qf (by omega)];simp [List.getD,Qf (show n < ns.length by omega)]
  rw [preSum,ih,e,List.sum_append,h];simp
def ET(H:Hp)(Q:VK):List Int->Prop:=λ ns=>Q (.int ns.sum) H
def GV(H:Hp)(Q:VK)(ns:List Int):ET H Q ns=Q (.int ns.sum) H:=rfl
def MQ:List V->Hp->VK->Prop:=λ vs H Q=>match vs with
 | [.ref p]=>aX (aP H p) (rO (ET H Q))
 | _=>False
def La(p:Addr)(H:Hp)(Q:VK):MQ [.ref p] H Q=aX (aP H p) (rO (ET H Q)):=rfl
def Ez(F:List Bool->Prop):List V->Prop:=λ xs=>∃ bs,xs=bs.map V.bl/\F bs
def yR:∀ {ns ms:List Bool},ns.map V.bl=ms.map V.bl->ns=ms
 | [],[],_=>rfl
 | [],_::_,h=>by cases h
 | _::_,[],h=>by cases h
 | i::r,j::t,h=>by
  simp only [Rj,List.cons.injEq,V.bl.injEq] at h;rw [h.1,yR h.2]
def LL(F:List Bool->Prop)(bs:List Bool):Ez F (bs.map V.bl)=F bs:=propext ⟨λ ⟨ms,e,h⟩=>by rw [yR e];exact h,λ h=>⟨bs,rfl,h⟩⟩
def E4(H:Hp)(Q:VK):List Bool->Prop:=λ bs=>Q (.bl (bs.all id)) H
def Hu(H:Hp)(Q:VK)(bs:List Bool):E4 H Q bs=Q (.bl (bs.all id)) H:=rfl
def MV:List V->Hp->VK->Prop:=λ vs H Q=>match vs with
 | [.ref p]=>aX (aP H p) (Ez (E4 H Q))
 | _=>False
def Lg(p:Addr)(H:Hp)(Q:VK):MV [.ref p] H Q=aX (aP H p) (Ez (E4 H Q)):=rfl
section
variable {X:Cx}
def iK(hc:X.calm=true):b9 X (.builtin "sum") MQ:=by
 intro pins s σ H vs us Q I r h;unfold MQ at h;split at h
 ·rename_i p;obtain⟨xs,e,ns,rfl,q⟩:=ak h
  cases r with
  | cons r rr=>
   cases rr;cases r;obtain⟨its,rv,pl,hz⟩:=I.list (SqL.of (cC e));have aq:p < s.heap.objs.size:=by obtain⟨_,e,_⟩:=pl.isList;exact Qm e
   have hlen:its.length=ns.length:=by have:=rv.length;simpa using this.symm
   refine call_sum_walkAnyS (R0 pl.isList ⟨s.heap.objs.size,_,_,_,_,_,_,λ i=>ns.getD i 0,rfl,(Walks.list (show X.A.in1.handled=none from I.ok.hd hc) _ p (Qy aq) its.toArray).toS,⟨⟨_,Qp _ rfl,rfl,rfl⟩,pl.isList.push _⟩,λ b hb=>?_,λ i v hP=>?_,λ s' t' hm=>?_⟩)
   ·rw [QR]
    rcases QG.mp hb with rfl|hb
    ·exact RZ _
    ·rw [Qo.mp hb];exact Nat.lt_succ_of_lt aq
   ·have hv:its[i]? = some v:=by simpa using hP
    have hi:i < ns.length:=by rw [←hlen];exact(Qh.mp hv).1
    obtain⟨u,hu,ru⟩:=rv.get (i:=i) (x:=.int (ns.getD i 0)) (by rw [Qq,Qf hi];simp [List.getD,Qf hi]);rw [hv] at hu;cases hu;exact ru
   ·obtain⟨hp,g,d,tk,os⟩:=s'
    have kp:∀ b o,s.heap.get? b=some o->hp.get? b=some o:=λ b o e=>hm.heap b o (λ ar=>by
     have:b=s.heap.objs.size:=by simpa using ar
     subst this;exact absurd (Qm e) (Q4 _)) (Qg _ e)
    have e1:g=s.gens:=hm.gens;have e2:d=s.drawn:=hm.drawn;have e3:os=s.os:=hm.os;subst e1 e2 e3;refine⟨.int ns.sum,H,I.kept (t':=tk) kp,?_,q⟩;have es:=kU its.toArray.size ns (λ i=>ns.getD i 0) (λ _=>rfl) (by simp [hlen]);rw [show its.toArray.size=ns.length by simp [hlen],QD] at es;rw [show its.toArray.size=ns.length by simp [hlen],es];exact⟨t',rfl⟩
 ·exact h.elim
def Bf(bs:List Bool):(List.range bs.length).all (λ i=>bs.getD i false)=bs.all id:=by
 rw [SA,Tt,Tt];refine⟨λ h x hx=>?_,λ h i hi=>?_⟩
 ·obtain⟨i,hi,e⟩:=Rk hx;have:=h i (Q1.mpr hi)
  simpa [List.getD,Qf hi,e] using this
 ·have aq:=Q1.mp hi;have:=h (bs[i]) (RH aq)
  simpa [List.getD,Qf aq] using this
def AS(hc:X.calm=true):b9 X (.builtin "all") MV:=by
 intro pins s σ H vs us Q I r h;unfold MV at h;split at h
 ·rename_i p;obtain⟨xs,e,bs,rfl,q⟩:=ak h
  cases r with
  | cons r rr=>
   cases rr;cases r;obtain⟨its,rv,pl,hz⟩:=I.list (SqL.of (cC e));have ar:p < s.heap.objs.size:=by obtain⟨_,e,_⟩:=pl.isList;exact Qm e
   have hlen:its.length=bs.length:=by have:=rv.length;simpa using this.symm
   refine call_all_walk (R0 pl.isList ⟨s.heap.objs.size,_,_,_,_,_,λ i=>bs.getD i false,rfl,Walks.list (show X.A.in1.handled=none from I.ok.hd hc) _ p (Qy ar) its.toArray,⟨⟨_,Qp _ rfl,rfl,rfl⟩,pl.isList.push _⟩,λ i v s' Q' E' hP hQ=>?_,λ h' tk hk=>?_⟩)
   ·have hv:its[i]? = some v:=by simpa using hP
    have hi:i < bs.length:=by rw [←hlen];exact(Qh.mp hv).1
    obtain⟨u,hu,ru⟩:=rv.get (i:=i) (x:=.bl (bs.getD i false)) (by rw [Qq,Qf hi];simp [List.getD,Qf hi]);rw [hv] at hu;cases hu;have e2:v=.bool (bs.getD i false):=ru;subst e2;exact Rm hQ
   ·have kp:∀ b o,s.heap.get? b=some o->h'.get? b=some o:=λ b o e=>hk b o (λ aq=>by
     have:b=s.heap.objs.size:=by simpa using aq
     subst this;exact absurd (Qm e) (Q4 _)) (Qg _ e)
    refine⟨.bl (bs.all id),H,I.kept (t':=tk) kp,?_,q⟩;rw [show its.toArray.size=bs.length by simp [hlen],Bf];exact rfl
 ·exact h.elim
end
structure Src(prog:Program)(w:World)(it:Addr)(fr:List Addr)(st:Nat->Heap->Prop)(val:Nat->Option Value):Prop where
 mem:it∈fr
 there:∀ k h,st k h->∀ b∈fr,∃ o,h.get? b=some o
 keep:∀ k h h',st k h->(∀ b∈fr,∀ o,h.get? b=some o->h'.get? b=some o)->st k h'
 item:∀ (A:Around) k s v (Q:Value->Shared->Prop) (E:Value->Shared->Prop),st k s.heap->val k=some v->(∀ h',st (k+1) h'->Heap.SameBut it s.heap h'->Q v { s with heap:=h' })->wpAny (model prog w) A (Builtin.SmallTypes.nextOf (.ref it)) Q E s
 fin:∀ (A:Around) k s (Q:Value->Shared->Prop) (E:Value->Shared->Prop),A.handled=none->st k s.heap->val k=none->(∀ h' e,Heap.ExtBut it s.heap h'->(∃ o,h'.get? e=some o/\o.cls=.type "StopIteration")->E (.ref e) { s with heap:=h' })->wpAny (model prog w) A (Builtin.SmallTypes.nextOf (.ref it)) Q E s
def BO{prog:Program}{w:World}(it l:Addr)(aq:l ≠ it)(xs:Array Value):Src prog w it [it,l] (λ k h=>h.IsListIter it l k/\h.IsList l xs) (λ k=>xs[k]?) where
 mem:=Qv
 there:=λ k h st b hb=>by
  rcases QG.mp hb with e|hb
  ·obtain⟨o,q,_⟩:=st.1;exact⟨o,by rw [e];exact q⟩
  ·obtain⟨o,q,_⟩:=st.2;exact⟨o,by rw [Qo.mp hb];exact q⟩
 keep:=λ k h h' st q=>⟨st.1.at λ o e=>q it (by simp) o e,st.2.at λ o e=>q l (by simp) o e⟩
 item:=λ A k s v Q E st hv hQ=>wpAny_nextOf_list_item st.1 st.2 hv λ h' a b=>hQ h' ⟨a,st.2.extBut b.extBut aq⟩ b
 fin:=λ A k s Q E hh st hv hE=>wpAny_nextOf_list_end hh st.1 st.2 hv hE
section
variable {prog:Program}{w:World}{A:Around}{E:Value->Shared->Prop}{s:Shared}
def oR{j t:Addr}{k:Nat}{xs:Array Value}{v:Value}{Q:Value->Shared->Prop}(hj:s.heap.IsTupleIter j t k)(ht:s.heap.IsTuple t xs)(hv:xs[k]? = some v)
  (hQ:∀ g,g.IsTupleIter j t (k+1)->Heap.SameBut j s.heap g->Q v { s with heap:=g }):wpAny (model prog w) A (Builtin.SmallTypes.nextOf (.ref j)) Q E s:=by
 obtain⟨oj,h0,h1,h2⟩:=id hj;obtain⟨ot,g0,_,n,g1⟩:=ht;unfold Builtin.SmallTypes.nextOf;refine wpAny_bind (wpAny_callSpecial?_slot (name:=Str.ofString "__next__") hj.typeIs F.slot_tuple_iterator_next (wpAny_call_entry F.slot_tuple_iterator_next hj.typeIs F.entry_tuple_iterator_next ?_ (F.args_tuple_iterator_next_1 _)));refine wpAny_bind (m:=field (.ref j) 0) (wpAny_field h0 h2 (x:=.ref t) rfl ?_)
 show wpAny _ _ (if (Value.ref t == Value.none)=true then _ else _) _ _ _
 rw [QB (show ¬ ((.ref t:Value) == .none)=true from Qx)];refine My (m:=field (.ref j) 1) (Q2 h0 h2 (x:=.int k 0) rfl ?_);refine My (m:=seqItems? (.ref t)) (Q0 g0 g1 ?_);simp only [QX,hv];refine My (Sx h0 h2 (by simp) (Ql ⟨v,rfl,Ql (hQ _ ⟨_,QM _ h0 (Rw (RU h2 _)),(Obj.cls_mapFields ..).trans h1,?_⟩ (Sl ..))⟩));rw [RU h2];simp [rawInt]
def qU{j t:Addr}{k:Nat}{xs:Array Value}{Q:Value->Shared->Prop}(hh:A.handled=none)(hj:s.heap.IsTupleIter j t k)(ht:s.heap.IsTuple t xs)(hv:xs[k]? = none)
  (hE:∀ g e,Heap.ExtBut j s.heap g->(∃ o,g.get? e=some o/\o.cls=.type "StopIteration")->E (.ref e) { s with heap:=g }):wpAny (model prog w) A (Builtin.SmallTypes.nextOf (.ref j)) Q E s:=by
 obtain⟨oj,h0,h1,h2⟩:=id hj;obtain⟨ot,g0,_,n,g1⟩:=ht;unfold Builtin.SmallTypes.nextOf;refine wpAny_bind (wpAny_callSpecial?_slot (name:=Str.ofString "__next__") hj.typeIs F.slot_tuple_iterator_next (wpAny_call_entry F.slot_tuple_iterator_next hj.typeIs F.entry_tuple_iterator_next ?_ (F.args_tuple_iterator_next_1 _)));refine wpAny_bind (m:=field (.ref j) 0) (wpAny_field h0 h2 (x:=.ref t) rfl ?_)
 show wpAny _ _ (if (Value.ref t == Value.none)=true then _ else _) _ _ _
 rw [QB (show ¬ ((.ref t:Value) == .none)=true from Qx)];refine My (m:=field (.ref j) 1) (Q2 h0 h2 (x:=.int k 0) rfl ?_);refine My (m:=seqItems? (.ref t)) (Q0 g0 g1 ?_);simp only [QX,hv];refine My (wpAny_rule (My (Sx h0 h2 (by simp) (My (m:=newExc (.type "StopIteration") []) ?_))));simp only [newExc,newTuple];refine My (R3 (My (m:=firstArgMember _ _) (wpAny_of_eq (a:=Value.none) (by first|rfl|(simp only [firstArgMember];rfl)) (R3 ?_ (by size_fits)))) (by size_fits));simp only [raiseNew]
 refine My (wpAny_handled ?_);first|rw [show A.in1.handled=none from hh]|rw [hh]
 exact My (Ql (wpAny_throw (hE _ _ (((Sl ..).extBut.push _).push _) ⟨_,Qp _ rfl,rfl⟩)))
def Fp(it l:Addr)(aq:l ≠ it)(xs:Array Value):Src prog w it [it,l] (λ k h=>h.IsTupleIter it l k/\h.IsTuple l xs) (λ k=>xs[k]?) where
 mem:=Qv
 there:=λ k h st b hb=>by
  rcases QG.mp hb with e|hb
  ·obtain⟨o,q,_⟩:=st.1;exact⟨o,by rw [e];exact q⟩
  ·obtain⟨o,q,_⟩:=st.2;exact⟨o,by rw [Qo.mp hb];exact q⟩
 keep:=λ k h h' st q=>⟨st.1.at λ o e=>q it (by simp) o e,st.2.at λ o e=>q l (by simp) o e⟩
 item:=λ A k s v Q E st hv hQ=>oR st.1 st.2 hv λ h' a b=>hQ h' ⟨a,st.2.extBut b.extBut aq⟩ b
 fin:=λ A k s Q E hh st hv hE=>qU hh st.1 st.2 hv hE
structure mz(z TI TO i j:Addr)(f g:List Addr):Prop where
 ti:TI ≠ z/\TI ≠ TO/\TI ≠ i/\TI ≠ j
 zt:z ≠ TO
 zf:z ∉ f
 zg:z ∉ g
 tf:TO ∉ f
 tg:TO ∉ g
 ig:i ∉ g
 jf:j ∉ f
variable {z TI TO i j:Addr}{f g:List Addr}{ti tj:Nat->Heap->Prop}{vi vj:Nat->Option Value}{k m:Nat}{x y a b:Value}
def fB{p q:Addr}{l:List Addr}(hp:p∈l)(hq:q ∉ l):p ≠ q:=λ e=>hq (e ▸ hp)
def Src.but{prog:Program}{w:World}{it:Addr}{fr:List Addr}{st:Nat->Heap->Prop}{val:Nat->Option Value}(S:Src prog w it fr st val){k:Nat}{c:Addr}{h h':Heap}(q:st k h)(e:Heap.ExtBut c h h')(hc:c ∉ fr):st k h':=
 S.keep k h h' q λ b hb o ho=>e b o (fB hb hc) ho
def zd(S:Src prog w i f ti vi)(T:Src prog w j g tj vj)(D:mz z TI TO i j f g){Q:Value->Shared->Prop}
  (hz:IsZip s.heap z TI TO .none) (ar:IsPair s.heap TI (.ref i) (.ref j)) (a3:IsPair s.heap TO a b) (hi:ti k s.heap) (hj:tj m s.heap) (hx:vi k=some x) (hy:vj m=some y)
  (hQ:∀ h',IsZip h' z TI TO (rawInt s.heap.objs.size)->IsPair h' TO x y->ti (k+1) h'->tj (m+1) h'->IsPair h' s.heap.objs.size x y->h'.objs.size=s.heap.objs.size+1->(∀ c o,c ∉ [z,TO,i,j]->s.heap.get? c=some o->h'.get? c=some o)->Q (.ref s.heap.objs.size) { s with heap:=h' }) :
  wpAny (model prog w) A (Builtin.«zip.__next__» ⟨[.ref z],[]⟩) (λ fin s'=>∃ v,fin=.done (.ret v)/\Q v s') E s:=by
 have iz:i ≠ z:=fB S.mem D.zf;have jz:j ≠ z:=fB T.mem D.zg;have a4:i ≠ TO:=fB S.mem D.tf;have a5:j ≠ TO:=fB T.mem D.tg;have ij:i ≠ j:=fB S.mem D.jf;refine wpAny_bind (m:=field (.ref z) 2) (wpAny_field hz rfl (x:=.bool false) rfl ?_);refine wpAny_bind (m:=field (.ref z) 3) (wpAny_field hz rfl (x:=.ref TI) rfl (wpAny_bind (wpAny_seqItems ar rfl ?_)));refine wpAny_bind (m:=Builtin.SmallTypes.ownedTupleIsFree (.ref z)) ?_;unfold Builtin.SmallTypes.ownedTupleIsFree;refine wpAny_bind (wpAny_field hz rfl (x:=.none) rfl (wpAny_pure ?_));simp only [if_true];refine wpAny_bind (wpAny_rule (wpAny_bind (wpAny_field hz rfl (x:=.ref TO) rfl (wpAny_bind (wpAny_setField_rec hz (by simp) λ q1 z1 s1=>?_)))));replace z1:IsZip q1 z TI TO .ellipsis:=z1;refine wpAny_bind ?_;simp only [List.zipIdx_cons,List.zipIdx_nil,List.forIn_cons,List.forIn_nil];refine wpAny_bind (wpAny_bind (wpAny_onRaise (wpAny_bind (m:=Builtin.SmallTypes.nextOf (.ref i)) (S.item _ k _ x _ _ (S.but hi s1.extBut D.zf) hx λ q2 i2 s2=>wpAny_pure ?_))));have o2:IsPair q2 TO a b:=s2.extBut _ _ a4.symm (s1.extBut _ _ D.zt.symm a3);refine wpAny_bind (wpAny_seqItems o2 rfl (wpAny_bind (wpAny_updateSeq_pair o2 λ q3 o3 s3=>wpAny_bind (wpAny_letGo (wpAny_pure ?_)))));replace o3:IsPair q3 TO x b:=o3;have j3:tj m q3:=T.but (T.but (T.but hj s1.extBut D.zg) s2.extBut D.ig) s3.extBut D.tg;refine wpAny_bind (wpAny_bind (wpAny_onRaise (wpAny_bind (m:=Builtin.SmallTypes.nextOf (.ref j)) (T.item _ m _ y _ _ j3 hy λ q4 j4 s4=>wpAny_pure ?_))));have o4:IsPair q4 TO x b:=s4.extBut _ _ a5.symm o3;refine wpAny_bind (wpAny_seqItems o4 rfl (wpAny_bind (wpAny_updateSeq_pair o4 λ q5 o5 s5=>wpAny_bind (wpAny_letGo (wpAny_pure (wpAny_pure ?_))))));replace o5:IsPair q5 TO x y:=o5;refine wpAny_bind (wpAny_seqItems o5 rfl (wpAny_bind (wpAny_newTuple ?_)));have sz:q5.objs.size=s.heap.objs.size:=by rw [s5.1,s4.1,s3.1,s2.1,s1.1]
 have z5:IsZip q5 z TI TO .ellipsis:=s5.extBut _ _ D.zt (s4.extBut _ _ jz.symm (s3.extBut _ _ D.zt (s2.extBut _ _ iz.symm z1)))
 have k5:∀ c o,c ∉ [z,TO,i,j]->s.heap.get? c=some o->q5.get? c=some o:=λ c o hc e=>by
  simp only [QG,QC,Rr,not_or] at hc;exact s5.extBut _ _ hc.2.1 (s4.extBut _ _ hc.2.2.2 (s3.extBut _ _ hc.2.1 (s2.extBut _ _ hc.2.2.1 (s1.extBut _ _ hc.1 e))))
 have i5:ti (k+1) q5:=S.but (S.but (S.but i2 s3.extBut D.tf) s4.extBut D.jf) s5.extBut D.tf;have j5:tj (m+1) q5:=T.but j4 s5.extBut D.tg;have aq:z < q5.objs.size:=Heap.lt_size z5;refine wpAny_bind (m:=Builtin.SmallTypes.ownedTupleHandOut (.ref z) (.ref q5.objs.size)) ?_;unfold Builtin.SmallTypes.ownedTupleHandOut;have z6:IsZip (q5.push { cls:=.type "tuple",data:=.seq #[x,y] }) z TI TO .ellipsis:=Heap.get?_push_of_some _ z5;refine wpAny_bind (wpAny_setField_rec z6 (by simp) λ q7 z7 s7=>?_);replace z7:IsZip q7 z TI TO (rawInt q5.objs.size):=z7;refine wpAny_setField_rec z7 (by simp) λ q8 z8 s8=>?_;replace z8:IsZip q8 z TI TO (rawInt q5.objs.size):=z8;have up:∀ c o,c ≠ z->q5.get? c=some o->q8.get? c=some o:=λ c o hc e=>s8.extBut _ _ hc (s7.extBut _ _ hc (Heap.get?_push_of_some _ e));have t8:IsPair q8 q5.objs.size x y:=s8.extBut _ _ (Nat.ne_of_gt aq) (s7.extBut _ _ (Nat.ne_of_gt aq) (Heap.get?_push_size _ rfl));have n8:q8.objs.size=q5.objs.size+1:=by rw [s8.1,s7.1,Heap.size_push]
 rw [sz] at z8 t8 n8;refine Ql ⟨_,rfl,?_⟩
 show Q (.ref q5.objs.size) _
 rw [sz];exact hQ q8 z8 (up _ _ D.zt.symm o5) (S.keep _ _ _ i5 λ c hc o e=>up c o (fB hc D.zf) e) (T.keep _ _ _ j5 λ c hc o e=>up c o (fB hc D.zg) e) t8 n8 λ c o hc e=>up c o (λ q=>hc (by simp [q])) (k5 c o hc e)
def BF(hh:A.handled=none)(S:Src prog w i f ti vi)(T:Src prog w j g tj vj)(D:mz z TI TO i j f g){Q:Fin->Shared->Prop}
  (hz:IsZip s.heap z TI TO .none) (ar:IsPair s.heap TI (.ref i) (.ref j)) (a3:IsPair s.heap TO a b) (hi:ti k s.heap) (hj:tj m s.heap) (a4:vi k=none\/vj m=none)
  (hE:∀ h' e,(∀ c o,c ∉ [z,TO,i,j]->s.heap.get? c=some o->h'.get? c=some o)->(∃ o,h'.get? e=some o/\o.cls=.type "StopIteration")->E (.ref e) { s with heap:=h' }) :
  wpAny (model prog w) A (Builtin.«zip.__next__» ⟨[.ref z],[]⟩) Q E s:=by
 have iz:i ≠ z:=fB S.mem D.zf;have jz:j ≠ z:=fB T.mem D.zg;have a5:i ≠ TO:=fB S.mem D.tf;have a6:j ≠ TO:=fB T.mem D.tg;refine wpAny_bind (m:=field (.ref z) 2) (wpAny_field hz rfl (x:=.bool false) rfl ?_);refine wpAny_bind (m:=field (.ref z) 3) (wpAny_field hz rfl (x:=.ref TI) rfl (wpAny_bind (wpAny_seqItems ar rfl ?_)));refine wpAny_bind (m:=Builtin.SmallTypes.ownedTupleIsFree (.ref z)) ?_;unfold Builtin.SmallTypes.ownedTupleIsFree;refine wpAny_bind (wpAny_field hz rfl (x:=.none) rfl (wpAny_pure ?_));simp only [if_true];refine wpAny_bind (wpAny_rule (wpAny_bind (wpAny_field hz rfl (x:=.ref TO) rfl (wpAny_bind (wpAny_setField_rec hz (by simp) λ q1 z1 s1=>?_)))));replace z1:IsZip q1 z TI TO .ellipsis:=z1;refine wpAny_bind ?_;simp only [List.zipIdx_cons,List.zipIdx_nil,List.forIn_cons,List.forIn_nil];refine wpAny_bind (wpAny_bind (wpAny_onRaise (wpAny_bind (m:=Builtin.SmallTypes.nextOf (.ref i)) ?_)))
 cases hx:vi k with
 | none=>
  refine S.fin _ k _ _ _ hh (S.but hi s1.extBut D.zf) hx λ q2 e s2 ⟨oe,he,aq⟩=>?_;have z2:IsZip q2 z TI TO .ellipsis:=s2 _ _ iz.symm z1;have ez:e ≠ z:=λ q=>by subst q;rw [z2] at he;cases he;simp at aq
  refine RT z2 (by simp) λ q3 _ s3=>hE q3 e (λ c o hc q=>?_) ⟨oe,s3.extBut _ _ ez he,aq⟩;simp only [QG,QC,Rr,not_or] at hc;exact s3.extBut _ _ hc.1 (s2 _ _ hc.2.2.1 (s1.extBut _ _ hc.1 q))
 | some x=>
  have hy:vj m=none:=a4.resolve_left (by rw [hx];exact Option.some_ne_none x);refine S.item _ k _ x _ _ (S.but hi s1.extBut D.zf) hx λ q2 i2 s2=>Ql ?_;have o2:IsPair q2 TO a b:=s2.extBut _ _ a5.symm (s1.extBut _ _ D.zt.symm a3);refine My (Q0 o2 rfl (My (Tc o2 λ q3 o3 s3=>My (RJ (Ql ?_)))));have j3:tj m q3:=T.but (T.but (T.but hj s1.extBut D.zg) s2.extBut D.ig) s3.extBut D.tg;refine My (My (Tv (My (m:=Builtin.SmallTypes.nextOf (.ref j)) (T.fin _ m _ _ _ hh j3 hy λ q4 e s4 ⟨oe,he,aq⟩=>?_))));have z4:IsZip q4 z TI TO .ellipsis:=s4 _ _ jz.symm (s3.extBut _ _ D.zt (s2.extBut _ _ iz.symm z1));have ez:e ≠ z:=λ q=>by subst q;rw [z4] at he;cases he;simp at aq
  refine RT z4 (by simp) λ q5 _ s5=>hE q5 e (λ c o hc q=>?_) ⟨oe,s5.extBut _ _ ez he,aq⟩;simp only [QG,QC,Rr,not_or] at hc;exact s5.extBut _ _ hc.1 (s4 _ _ hc.2.2.2 (s3.extBut _ _ hc.2.1 (s2.extBut _ _ hc.2.2.1 (s1.extBut _ _ hc.1 q))))
def lV(S:Src prog w i f ti vi)(T:Src prog w j g tj vj)(D:mz z TI TO i j f g){Q:Option Value->Shared->Prop}
  (hz:IsZip s.heap z TI TO .none) (aq:IsPair s.heap TI (.ref i) (.ref j)) (ar:IsPair s.heap TO a b) (hi:ti k s.heap) (hj:tj m s.heap) (hx:vi k=some x) (hy:vj m=some y)
  (hQ:∀ h',IsZip h' z TI TO (rawInt s.heap.objs.size)->IsPair h' TO x y->ti (k+1) h'->tj (m+1) h'->IsPair h' s.heap.objs.size x y->h'.objs.size=s.heap.objs.size+1->(∀ c o,c ∉ [z,TO,i,j]->s.heap.get? c=some o->h'.get? c=some o)->Q (some (.ref s.heap.objs.size)) { s with heap:=h' }) :
  wpAny (model prog w) A (pyNext (.ref z)) Q E s:=by
 have ty:s.TypeIs (.ref z) "zip":=⟨_,hz,rfl⟩;unfold pyNext;exact wpAny_bind (wpAny_attempt (wpAny_callSpecial?_slot (name:=Str.ofString "__next__") ty F.slot_zip_next (wpAny_call_entry F.slot_zip_next ty F.entry_zip_next (zd S T D hz aq ar hi hj hx hy λ h' c1 c2 c3 c4 c5 c6 c7=>wpAny_pure (hQ h' c1 c2 c3 c4 c5 c6 c7)) (F.args_zip_next_1 _))))
def oB(hh:A.handled=none)(S:Src prog w i f ti vi)(T:Src prog w j g tj vj)(D:mz z TI TO i j f g){Q:Option Value->Shared->Prop}
  (hz:IsZip s.heap z TI TO .none) (aq:IsPair s.heap TI (.ref i) (.ref j)) (ar:IsPair s.heap TO a b) (hi:ti k s.heap) (hj:tj m s.heap) (a3:vi k=none\/vj m=none)
  (hQ:∀ h',(∀ c o,c ∉ [z,TO,i,j]->s.heap.get? c=some o->h'.get? c=some o)->Q none { s with heap:=h' }):wpAny (model prog w) A (pyNext (.ref z)) Q E s:=by
 have ty:s.TypeIs (.ref z) "zip":=⟨_,hz,rfl⟩;unfold pyNext;refine wpAny_bind (wpAny_attempt (wpAny_callSpecial?_slot (name:=Str.ofString "__next__") ty F.slot_zip_next (wpAny_call_entry F.slot_zip_next ty F.entry_zip_next (BF (show A.in1.handled=none from hh) S T D hz aq ar hi hj a3 λ h' e kp he=>?_) (F.args_zip_next_1 _))));obtain⟨o,ho,hc⟩:=he;exact wpAny_bind (wpAny_isInstance (T := "StopIteration") (b:=true) ⟨o,ho,hc⟩ isSubtype_stop (wpAny_pure (hQ _ kp)))
end
def SeqAt(h:Heap)(k:Bool)(l:Addr)(xs:Array Value):Prop:=match k with
 | true=>h.IsTuple l xs
 | false=>h.IsList l xs
def dE(h:Heap)(k:Bool)(it l:Addr)(n:Nat):Prop:=match k with
 | true=>h.IsTupleIter it l n
 | false=>h.IsListIter it l n
def BA(k:Bool)(l:Addr):Obj:=match k with
 | true=>{ cls:=.type "tuple_iterator",data:=.fields #[.ref l,.int 0 0] }
 | false=>{ cls:=.type "list_iterator",data:=.fields #[.ref l,.int 0 0] }
def SeqAt.at{h h':Heap}{k:Bool}{l:Addr}{xs:Array Value}(q:SeqAt h k l xs)(e:∀ o,h.get? l=some o->h'.get? l=some o):SeqAt h' k l xs:=by
 cases k
 ·exact Heap.IsList.at q e
 ·exact Heap.IsTuple.at q e
def dE.at{h h':Heap}{k:Bool}{it l:Addr}{n:Nat}(q:dE h k it l n)(e:∀ o,h.get? it=some o->h'.get? it=some o):dE h' k it l n:=by
 cases k
 ·exact Heap.IsListIter.at q e
 ·exact Heap.IsTupleIter.at q e
def dE.obj{h:Heap}{k:Bool}{it l:Addr}{n:Nat}(q:dE h k it l n):∃ o fs,h.get? it=some o/\o.data=.fields fs:=by
 cases k
 ·obtain⟨o,e,_,d⟩:=(show h.IsListIter it l n from q);exact⟨o,_,e,d⟩
 ·obtain⟨o,e,_,d⟩:=(show h.IsTupleIter it l n from q);exact⟨o,_,e,d⟩
def ug{prog:Program}{w:World}(k:Bool)(it l:Addr)(aq:l ≠ it)(xs:Array Value):Src prog w it [it,l] (λ n h=>dE h k it l n/\SeqAt h k l xs) (λ n=>xs[n]?):=by
 cases k
 ·exact BO it l aq xs
 ·exact Fp it l aq xs
section
variable {prog:Program}{w:World}{A:Around}{E:Value->Shared->Prop}{s:Shared}
def yI{k:Bool}{l:Addr}{xs:Array Value}{Q:Value->Shared->Prop}(h:SeqAt s.heap k l xs)(hQ:Q (.ref s.heap.objs.size) { s with heap:=s.heap.push (BA k l) }):wpAny (model prog w) A (pyIter (.ref l)) Q E s:=by
 cases k
 ·exact R0 h hQ
 ·exact wpAny_pyIter_tuple h hQ
abbrev zq1(ka:Bool)(a:Addr)(h:Heap):Heap:=h.push (BA ka a)
abbrev zq2(ka kb:Bool)(a b:Addr)(h:Heap):Heap:=(zq1 ka a h).push (BA kb b)
abbrev zq3(ka kb:Bool)(a b:Addr)(h:Heap):Heap:=(zq2 ka kb a b h).push { cls:=.type "tuple",data:=.seq #[.ref h.objs.size,.ref (zq1 ka a h).objs.size] }
abbrev zq4(ka kb:Bool)(a b:Addr)(h:Heap):Heap:=(zq3 ka kb a b h).push { cls:=.type "tuple",data:=.seq #[.none,.none] }
abbrev zq5(ka kb:Bool)(a b:Addr)(h:Heap):Heap:=(zq4 ka kb a b h).push { cls:=.type "zip",data:=.fields #[.none,.bool false,.bool false,.ref (zq2 ka kb a b h).objs.size,.ref (zq3 ka kb a b h).objs.size] }
def zb(ka kb:Bool)(a b:Addr)(xs ys:Array Value):Meets (Builtin.«zip.__new__» ⟨[.type "zip",.ref a,.ref b],[]⟩) (λ _ R s=>SeqAt s.heap ka a xs/\SeqAt s.heap kb b ys/\R (.ok (.ret (.ref (zq4 ka kb a b s.heap).objs.size))) { s with heap:=zq5 ka kb a b s.heap }):=
 .of_wp λ prog w A R s h=>by
  obtain⟨hp,g,d,tk,os⟩:=s;obtain⟨h1,h2,h⟩:=h;have aq:=sub_zip;have q1:SeqAt (Shared.heap ⟨hp,g,d,tk,os⟩) ka a xs:=h1;have q2:SeqAt (Shared.heap ⟨hp.push (BA ka a),g,d,tk,os⟩) kb b ys:=h2.at λ o e=>Qg _ e
  wp_walk using yI q1,yI q2
  exact⟨_,rfl,h⟩
def IJ{ka kb:Bool}{a b:Addr}{xs ys:Array Value}{Q:Value->Shared->Prop}(h1:SeqAt s.heap ka a xs)(h2:SeqAt s.heap kb b ys)
  (h:∀ h' n,n=s.heap.objs.size->IsZip h' (n+4) (n+2) (n+3) .none->IsPair h' (n+2) (.ref n) (.ref (n+1))->IsPair h' (n+3) .none .none->dE h' ka n a 0->dE h' kb (n+1) b 0->h'.objs.size=n+5->(∀ c o,s.heap.get? c=some o->h'.get? c=some o)->Q (.ref (n+4)) { s with heap:=h' }) :
  wpAny (model prog w) A (call (.type "zip") [.ref a,.ref b]) Q E s:=by
 refine callType_new F.called_zip (by decide) (F.typeCall_zip_2 _ _) (F.newCall_zip_2 _ _) (λ ob=>F.args_object_init_3 ob _ _) F.entry_zip_new (zb ka kb a b xs ys) ⟨h1,h2,?_⟩;have n1:(zq1 ka a s.heap).objs.size=s.heap.objs.size+1:=QR ..;have n2:(zq2 ka kb a b s.heap).objs.size=s.heap.objs.size+2:=by rw [QR,n1]
 have n3:(zq3 ka kb a b s.heap).objs.size=s.heap.objs.size+3:=by rw [QR,n2]
 have n4:(zq4 ka kb a b s.heap).objs.size=s.heap.objs.size+4:=by rw [QR,n3]
 have n5:(zq5 ka kb a b s.heap).objs.size=s.heap.objs.size+5:=by rw [QR,n4]
 have f1:dE (zq1 ka a s.heap) ka s.heap.objs.size a 0:=by
  cases ka<;>exact⟨_,Qp _ rfl,rfl,rfl⟩
 have f2:dE (zq2 ka kb a b s.heap) kb (zq1 ka a s.heap).objs.size b 0:=by
  cases kb<;>exact⟨_,Qp _ rfl,rfl,rfl⟩
 have u2:∀ c o,(zq2 ka kb a b s.heap).get? c=some o->(zq5 ka kb a b s.heap).get? c=some o:=λ c o e=>Qg _ (Qg _ (Qg _ e));have g5:(zq5 ka kb a b s.heap).get? (zq4 ka kb a b s.heap).objs.size=some _:=Qp _ rfl;have g4:(zq5 ka kb a b s.heap).get? (zq3 ka kb a b s.heap).objs.size=some _:=Qg _ (Qp _ rfl);have g3:(zq5 ka kb a b s.heap).get? (zq2 ka kb a b s.heap).objs.size=some _:=Qg _ (Qg _ (Qp _ rfl));have e1:dE (zq5 ka kb a b s.heap) ka s.heap.objs.size a 0:=f1.at λ o e=>u2 _ o (Qg _ e);have e2:dE (zq5 ka kb a b s.heap) kb (zq1 ka a s.heap).objs.size b 0:=f2.at λ o e=>u2 _ o e
 show _/\_
 rw [n2,n3,n4] at g5;rw [n1,n2] at g3;rw [n3] at g4;rw [n1] at e2;rw [n4];exact⟨⟨_,g5,rfl⟩,h _ _ rfl g5 g3 g4 e1 e2 n5 λ c o e=>u2 c o (Qg _ (Qg _ e))⟩
end
section
variable {X:Cx}{pins:List (Addr × Obj)}{σ:List (Option V)}{H:Hp}{s:Shared}{h':Heap}
def Inv.turnNew{t':Nat}{ch:List Addr}{n:Addr}{o:HO}(I:Inv X pins σ H s)(aq:∀ b∈ch,mi X pins H b)(k:∀ b ob,b ∉ ch->s.heap.get? b=some ob->h'.get? b=some ob)(hn:s.heap.objs.size<=n)(new:bg X.prog X.w (upd H n o) h' n o) :
  Inv X pins σ (upd H n o) { s with heap:=h',toks:=t' }:=by
 have fn:=I.hok.fresh hn;have up:∀ {b u},H b=some u->upd H n o b=some u:=λ {b u} e=>by rw [ae (ag e fn)];exact e
 have ar:∀ {b u},H b=some u->b ∉ ch:=λ {b u} e z=>by rw [(aq b z).1] at e;cases e
 refine I.step (g':=s.gens) (d':=s.drawn) (ch:=ch) (λ b hb=>⟨(aq b hb).2.2.2.1,(aq b hb).2.1,(aq b hb).2.2.2.2.1,(aq b hb).2.2.2.2.2⟩) (λ b ob _ _ hc e _=>k b ob hc e) (λ b ob _ _ hc e _=>⟨ob.slots,k b ob hc e⟩)
  (λ b ob _ e q=>?_) (λ b ob hc e=>⟨ob,k b ob hc e⟩) (λ _ _ e=>up e) (λ _ _ _ e=>up e) (λ b ps e=>⟨#[],by rw [up e];simp⟩) (λ m hm=>?_) (λ b u e=>?_) I.bare
 ·rw [ae (Qy (Qs (Qm e) hn))];exact q
 ·obtain⟨ol,es,ep,ho,r⟩:=hm;exact⟨ol,es,ep,k _ ol (λ z=>(aq _ z).2.1 rfl) ho,r⟩
 ·by_cases hb:b=n
  ·subst hb;rw [af] at e;cases e;exact new
  ·rw [ae hb] at e;refine(I.hok b u e).stay (λ c v hc q=>k c v ?_ q) (λ c q=>up q) (λ c y q=>up q) λ c xs q=>up q
   rcases hc with rfl|hc
   ·exact ar e
   ·exact ar hc
def Inv.turnL{t':Nat}{ch:List Addr}(I:Inv X pins σ H s)(aq:∀ b∈ch,mi X pins H b)(k:∀ b ob,b ∉ ch->s.heap.get? b=some ob->h'.get? b=some ob):Inv X pins σ H { s with heap:=h',toks:=t' }:=by
 have ar:∀ {b u},H b=some u->b ∉ ch:=λ {b u} e z=>by rw [(aq b z).1] at e;cases e
 refine I.step (g':=s.gens) (d':=s.drawn) (ch:=ch) (λ b hb=>⟨(aq b hb).2.2.2.1,(aq b hb).2.1,(aq b hb).2.2.2.2.1,(aq b hb).2.2.2.2.2⟩) (λ b ob _ _ hc e _=>k b ob hc e) (λ b ob _ _ hc e _=>⟨ob.slots,k b ob hc e⟩)
  (λ _ _ _ _ q=>q) (λ b ob hc e=>⟨ob,k b ob hc e⟩) (λ _ _ e=>e) (λ _ _ _ e=>e) (λ b ps e=>⟨#[],by rw [e];simp⟩) (λ m hm=>?_) (λ b u e=>?_) I.bare
 ·obtain⟨ol,es,ep,ho,r⟩:=hm;exact⟨ol,es,ep,k _ ol (λ z=>(aq _ z).2.1 rfl) ho,r⟩
 ·refine(I.hok b u e).stay (λ c v hc q=>k c v ?_ q) (λ _ q=>q) (λ _ _ q=>q) λ _ _ q=>q
  rcases hc with rfl|hc
  ·exact ar e
  ·exact ar hc
end
def SqK(k:Bool)(H:Hp)(a:Addr)(xs:List V):Prop:=match k with
 | true=>H a=some (.tup xs)
 | false=>H a=some (.lst xs)
def SqK.ne{k:Bool}{H:Hp}{a b:Addr}{xs:List V}(h:SqK k H a xs)(e:H b=none):a ≠ b:=λ z=>by
 subst z;cases k
 ·rw [show H a=some (.lst xs) from h] at e;cases e
 ·rw [show H a=some (.tup xs) from h] at e;cases e
def Inv.sq{X:Cx}{pins:List (Addr × Obj)}{σ:St}{H:Hp}{s:Shared}{k:Bool}{a:Addr}{xs:List V}(I:Inv X pins σ H s)(h:SqK k H a xs):∃ its:List Value,bf xs its/\SeqAt s.heap k a its.toArray:=by
 cases k
 ·obtain⟨its,r,p,_⟩:=I.list (SqL.of h);exact⟨its,r,p.isList⟩
 ·obtain⟨its,r,p,_⟩:=I.tuple (SqT.of h);exact⟨its,r,p⟩
def Itz(ka kb:Bool)(a b:Addr)(xs ys:List V):It:=
 ⟨λ i H=>SqK ka H a xs/\SqK kb H b ys/\i < xs.length/\i < ys.length,λ i H x H'=>∃ p u v,H p=none/\x=.ref p/\xs[i]? = some u/\ys[i]? = some v/\H'=upd H p (.tup [u,v]),λ i H=>SqK ka H a xs/\SqK kb H b ys/\(xs.length<=i\/ys.length<=i)⟩
def Tnz(ka kb:Bool)(a b z TI TO p q:Addr)(i:Nat)(h:Heap):Prop:=IsZip h z TI TO .none/\IsPair h TI (.ref p) (.ref q)/\(∃ u v,IsPair h TO u v)/\dE h ka p a i/\dE h kb q b i
def BL{P:Program}{w:World}{K:W.Frag}{elts:List Expr}{x1}{tp:Pos}(ka kb:Bool)(a b z TI TO p q:Addr)(xs ys:List V)(nd:[z,TI,TO,p,q].Nodup):Bo P w K (.Tuple elts x1 tp) (Itz ka kb a b xs ys) [z,TI,TO,p,q] z (Tnz ka kb a b z TI TO p q) where
 mem:=Qv
 obj:=λ i h st c hc=>by
  obtain⟨e1,e2,⟨u,v,e3⟩,e4,e5⟩:=st;simp only [QG,QC,Rr] at hc
  rcases hc with rfl|rfl|rfl|rfl|rfl
  ·exact⟨_,e1,λ v z=>by cases z⟩
  ·exact⟨_,e2,λ v z=>by cases z⟩
  ·exact⟨_,e3,λ v z=>by cases z⟩
  ·obtain⟨o,fs,e,d⟩:=e4.obj;exact⟨o,e,λ v z=>by rw [d] at z;cases z⟩
  ·obtain⟨o,fs,e,d⟩:=e5.obj;exact⟨o,e,λ v z=>by rw [d] at z;cases z⟩
 keep:=λ i h h' st k=>by
  obtain⟨e1,e2,⟨u,v,e3⟩,e4,e5⟩:=st;exact⟨k z (by simp) _ e1,k TI (by simp) _ e2,⟨u,v,k TO (by simp) _ e3⟩,e4.at λ o e=>k p (by simp) o e,e5.at λ o e=>k q (by simp) o e⟩
 item:=by
  intro X hP hw hK hc i pins s σ H E I hf st hg;subst hP hw hK;obtain⟨e1,e2,⟨u0,v0,e3⟩,e4,e5⟩:=st;obtain⟨ha,hb,l1,l2⟩:=hg;obtain⟨as,ra,sa⟩:=I.sq ha;obtain⟨bs,rb,sb⟩:=I.sq hb;have hx:xs[i]? = some xs[i]:=Qf l1;have hy:ys[i]? = some ys[i]:=Qf l2;obtain⟨u,hu,ru⟩:=ra.get hx;obtain⟨v,hv,rv⟩:=rb.get hy;have free:∀ c∈[z,TI,TO,p,q],H c=none:=λ c h=>(hf c h).1;have aq:∀ c∈[z,TI,TO,p,q],a ≠ c:=λ c h=>ha.ne (free c h);have ar:∀ c∈[z,TI,TO,p,q],b ≠ c:=λ c h=>hb.ne (free c h);simp only [Rb,QG,QC,Rr,not_or,not_false_eq_true,and_true,List.nodup_nil] at nd;obtain⟨⟨z1,z2,z3,z4⟩,⟨t1,t2,t3⟩,⟨w1,w2⟩,y1⟩:=nd;have S:=ug (prog:=X.prog) (w:=X.w) ka p a (aq p (by simp)) as.toArray;have T:=ug (prog:=X.prog) (w:=X.w) kb q b (ar q (by simp)) bs.toArray;have D:mz z TI TO p q [p,a] [q,b]:=⟨⟨QS z1,t1,t2,t3⟩,z2,by simp [z3,QS (aq z (by simp))],by simp [z4,QS (ar z (by simp))],by simp [w1,QS (aq TO (by simp))],by simp [w2,QS (ar TO (by simp))],by simp [y1,QS (ar p (by simp))],by simp [QS y1,QS (aq q (by simp))]⟩;refine lV S T D e1 e2 e3 ⟨e4,sa⟩ ⟨e5,sb⟩ (x:=u) (y:=v) (by simpa using hu) (by simpa using hv) λ h1 c1 c2 c3 c4 c5 c6 c7=>?_;refine⟨_,rfl,wpAny_letOwnedTupleGo_zip (s:={ s with heap:=h1 }) c1 λ h2 d1 d2=>?_⟩;have lt:z < s.heap.objs.size:=Qm e1;have kp:∀ c o,c ∉ [z,TO,p,q]->s.heap.get? c=some o->h2.get? c=some o:=λ c o hc e=>d2.extBut _ _ (λ q=>hc (by simp [q])) (c7 c o hc e);have hn:h2.get? s.heap.objs.size=some { cls:=.type "tuple",data:=.seq #[u,v] }:=d2.extBut _ _ (RN lt) c5;have I2:Inv X pins σ (upd H s.heap.objs.size (.tup [xs[i],ys[i]])) { s with heap:=h2 }:=I.turnNew (t':=s.toks) (ch:=[z,TO,p,q]) (λ c hc=>hf c (by simp only [QG,QC,Rr] at hc ⊢;rcases hc with h|h|h|h<;>simp [h])) kp (Qi _) ⟨(show 2<=sizeLine by decide),[u,v],.cons ru (.cons rv .nil),⟨_,hn,rfl,_,rfl⟩⟩;have fr:H s.heap.objs.size=none:=I.hok.fresh (Qi _);refine⟨.ref s.heap.objs.size,_,I2,rfl,⟨_,_,_,fr,rfl,hx,hy,rfl⟩,⟨d1,d2.extBut _ _ (QS z1) (c7 TI _ (by simp [QS z1,t1,t2,t3]) e2),⟨u,v,d2.extBut _ _ (QS z2) c2⟩,c3.1.at λ o e=>d2.extBut _ _ (QS z3) e,c4.1.at λ o e=>d2.extBut _ _ (QS z4) e⟩,λ c hc=>?_⟩
  obtain⟨o,ho,_⟩:∃ o,s.heap.get? c=some o/\True:=by
   simp only [QG,QC,Rr] at hc
   rcases hc with rfl|rfl|rfl|rfl|rfl
   ·exact⟨_,e1,trivial⟩
   ·exact⟨_,e2,trivial⟩
   ·exact⟨_,e3,trivial⟩
   ·obtain⟨o,_,e,_⟩:=e4.obj;exact⟨o,e,trivial⟩
   ·obtain⟨o,_,e,_⟩:=e5.obj;exact⟨o,e,trivial⟩
  rw [ae (Qy (Qm ho))];exact free c hc
 done:=by
  intro X hP hw hK hc i pins s σ H E I hf st hg;subst hP hw hK;obtain⟨e1,e2,⟨u0,v0,e3⟩,e4,e5⟩:=st;obtain⟨ha,hb,l⟩:=hg;obtain⟨as,ra,sa⟩:=I.sq ha;obtain⟨bs,rb,sb⟩:=I.sq hb;have free:∀ c∈[z,TI,TO,p,q],H c=none:=λ c h=>(hf c h).1;have aq:∀ c∈[z,TI,TO,p,q],a ≠ c:=λ c h=>ha.ne (free c h);have ar:∀ c∈[z,TI,TO,p,q],b ≠ c:=λ c h=>hb.ne (free c h);simp only [Rb,QG,QC,Rr,not_or,not_false_eq_true,and_true,List.nodup_nil] at nd;obtain⟨⟨z1,z2,z3,z4⟩,⟨t1,t2,t3⟩,⟨w1,w2⟩,y1⟩:=nd;have S:=ug (prog:=X.prog) (w:=X.w) ka p a (aq p (by simp)) as.toArray;have T:=ug (prog:=X.prog) (w:=X.w) kb q b (ar q (by simp)) bs.toArray;have D:mz z TI TO p q [p,a] [q,b]:=⟨⟨QS z1,t1,t2,t3⟩,z2,by simp [z3,QS (aq z (by simp))],by simp [z4,QS (ar z (by simp))],by simp [w1,QS (aq TO (by simp))],by simp [w2,QS (ar TO (by simp))],by simp [y1,QS (ar p (by simp))],by simp [QS y1,QS (aq q (by simp))]⟩;have la:=ra.length;have lb:=rb.length;refine oB (I.ok.hd hc) S T D e1 e2 e3 ⟨e4,sa⟩ ⟨e5,sb⟩ (l.imp (λ h=>by simp;omega) λ h=>by simp;omega) λ h1 kp=>⟨rfl,I.turnL (t':=s.toks) (ch:=[z,TO,p,q]) (λ c hc=>hf c (by simp only [QG,QC,Rr] at hc ⊢;rcases hc with h|h|h|h<;>simp [h])) kp⟩
 self:=λ _ _ _ _ _ st h=>wpAny_pyIter_zip st.1 h
def kZ2(ka:Bool)(a b:Addr)(xs:List V)(H:Hp)(R:It->Hp->Prop):HO->Prop:=λ o=>match o with
 | .lst ys=>R (Itz ka false a b xs ys) H
 | .tup ys=>R (Itz ka true a b xs ys) H
 | _=>False
def GS(ka:Bool)(a b:Addr)(xs ys:List V)(H:Hp)(R:It->Hp->Prop):kZ2 ka a b xs H R (.lst ys)=R (Itz ka false a b xs ys) H:=rfl
def kZ1(a b:Addr)(H:Hp)(R:It->Hp->Prop):HO->Prop:=λ o=>match o with
 | .lst xs=>aX (H b) (kZ2 false a b xs H R)
 | .tup xs=>aX (H b) (kZ2 true a b xs H R)
 | _=>False
def GU(a b:Addr)(xs:List V)(H:Hp)(R:It->Hp->Prop):kZ1 a b H R (.lst xs)=aX (H b) (kZ2 false a b xs H R):=rfl
def kZ0(R:It->Hp->Prop):List V->Hp->Prop:=λ vs H=>match vs with
 | [.ref a,.ref b]=>aX (H a) (kZ1 a b H R)
 | _=>False
def N4(R:It->Hp->Prop)(a b:Addr)(H:Hp):kZ0 R [.ref a,.ref b] H=aX (H a) (kZ1 a b H R):=rfl
def Pk(ta:TA):TI:=λ σ H R=>ta σ H (kZ0 R)
def LS(ta:TA)(σ:St)(H:Hp)(R:It->Hp->Prop):Pk ta σ H R=ta σ H (kZ0 R):=rfl
def L8{R:It->Hp->Prop}{vs:List V}{H:Hp}(h:kZ0 R vs H):∃ a b ka kb xs ys,vs=[.ref a,.ref b]/\SqK ka H a xs/\SqK kb H b ys/\R (Itz ka kb a b xs ys) H:=by
 unfold kZ0 at h;split at h
 ·rename_i a b;obtain⟨o,e,h⟩:=ak h;unfold kZ1 at h;split at h
  ·rename_i xs;obtain⟨o',e',h⟩:=ak h;unfold kZ2 at h;split at h
   ·exact⟨a,b,false,false,xs,_,rfl,e,e',h⟩
   ·exact⟨a,b,false,true,xs,_,rfl,e,e',h⟩
   ·exact h.elim
  ·rename_i xs;obtain⟨o',e',h⟩:=ak h;unfold kZ2 at h;split at h
   ·exact⟨a,b,true,false,xs,_,rfl,e,e',h⟩
   ·exact⟨a,b,true,true,xs,_,rfl,e,e',h⟩
   ·exact h.elim
  ·exact h.elim
 ·exact h.elim
section
variable {X:Cx}
def uh{a b:Expr}{elts:List Expr}{x1}{tp:Pos}{ta:TA}{p pos:Pos}(hg:Gl X "zip")(hm:X.mg "zip"=none)(ha:PA X [a,b] ta)(hs:starEach [a,b] X.env=[(false,eval a X.env),(false,eval b X.env)]:=by rfl)(aq:starEach [b] X.env=[(false,eval b X.env)]:=by rfl) :
  PI X (.Tuple elts x1 tp) (.Call (.Name "zip" p) [a,b] [] pos) (Pk ta):=by
 intro pins s σ H R I h;refine Call_ (iC I hg hm (show bootBuiltins "zip"=some (.type "zip") by decide +kernel) (RL (thn (ha pos pins s σ H _ I h) λ us s1 ⟨vs,H1,I1,r1,q1⟩=>?_) (by rw [hs,aq]) (by rw [aq];rfl)));obtain⟨a,b,ka,kb,xs,ys,rfl,sa,sb,q⟩:=L8 q1
 cases r1 with
 | cons r rr=>
  cases rr with
  | cons r' rr=>
   cases rr;cases r;cases r';obtain⟨as,ra,ar⟩:=I1.sq sa;obtain⟨bs,rb,a3⟩:=I1.sq sb;refine IJ ar a3 λ h' n hn e1 e2 e3 e4 e5 e6 e7=>?_;have I2:Inv X pins σ H1 { s1 with heap:=h' }:=I1.kept (t':=s1.toks) e7;refine wpAny_pyIter_zip (s:={ s1 with heap:=h' }) e1 ⟨n+4,[n+4,n+2,n+3,n,n+1],_,_,H1,rfl,I2,BL ka kb a b (n+4) (n+2) (n+3) n (n+1) xs ys (by simp),⟨e1,e2,⟨_,_,e3⟩,e4,e5⟩,λ c hc=>?_,q⟩
   have hle:s1.heap.objs.size<=c:=by
    rw [←hn];simp only [QG,QC,Rr] at hc
    rcases hc with rfl|rfl|rfl|rfl|rfl
    ·exact Sr ..
    ·exact Sr ..
    ·exact Sr ..
    ·exact Qi _
    ·exact Sr ..
   exact I1.fpOk hle (I1.hok.fresh hle)
end
def MA(te:TE)(σ2:St)(N1:VK)(N0:Hp->Prop):Bool->Hp->Prop:=λ b H=>if b=true then te σ2 H N1 else N0 H
def aU(te:TE)(σ2:St)(N1:VK)(N0:Hp->Prop)(b:Bool)(H:Hp):MA te σ2 N1 N0 b H=(if b=true then te σ2 H N1 else N0 H):=rfl
def kCm(k:Nat)(tt:TT)(te:TE)(σ:St)(N1:VK)(N0:Hp->Prop):St->Hp->Prop:=λ σ2 H=>(∃ vs:St,vs.length=k/\σ2=vs++σ)/\tt σ2 H (MA te σ2 N1 N0)
def aN(tt:TT)(te:TE)(σ:St)(N1:VK)(N0:Hp->Prop)(a:Option V)(H:Hp):kCm 1 tt te σ N1 N0 (a::σ) H=tt (a::σ) H (MA te (a::σ) N1 N0):=propext ⟨λ h=>h.2,λ h=>⟨⟨[a],rfl,rfl⟩,h⟩⟩
def iZ(tt:TT)(te:TE)(σ:St)(N1:VK)(N0:Hp->Prop)(a b:Option V)(H:Hp):kCm 2 tt te σ N1 N0 (a::b::σ) H=tt (a::b::σ) H (MA te (a::b::σ) N1 N0):=propext ⟨λ h=>h.2,λ h=>⟨⟨[a,b],rfl,rfl⟩,h⟩⟩
def GC(σ:St):List.replicate 1 (none:Option V)++σ=none::σ:=rfl
def GB(σ:St):List.replicate 2 (none:Option V)++σ=none::none::σ:=rfl
def Al{α:Type}(R:α->V->Prop)(zs:List α)(ys:List V):Prop:=ys.length=zs.length/\∀ (i:Nat) z y,zs[i]? = some z->ys[i]? = some y->R z y
def Al.nil{α:Type}{R:α->V->Prop}:Al R [] []:=⟨rfl,λ i z y h=>by simp at h⟩
def Al.snoc{α:Type}{R:α->V->Prop}{zs:List α}{ys:List V}{z:α}{y:V}(h:Al R zs ys)(r:R z y):Al R (zs++[z]) (ys++[y]):=by
 refine⟨by simp [h.1],λ i z' y' h1 h2=>?_⟩
 by_cases hi:i < zs.length
 ·rw [Q6 hi] at h1;rw [Q6 (by rw [h.1];exact hi)] at h2;exact h.2 i z' y' h1 h2
 ·rw [QY (by omega)] at h1;rw [QY (by rw [h.1];omega),h.1] at h2
  by_cases h0:i - zs.length=0
  ·rw [h0] at h1 h2;simp at h1 h2;subst h1;subst h2;exact r
  ·rw [Q9 (by simp;omega)] at h1;cases h1
def Al.imp{α:Type}{R S:α->V->Prop}{zs:List α}{ys:List V}(h:Al R zs ys)(f:∀ z y,R z y->S z y):Al S zs ys:=⟨h.1,λ i z y a b=>f z y (h.2 i z y a b)⟩
def Al.map{α:Type}{f:α->V}{zs:List α}{ys:List V}(h:Al (λ z y=>y=f z) zs ys):ys=zs.map f:=by
 apply Tf;intro i;rw [Qq]
 by_cases hi:i < zs.length
 ·have e1:zs[i]? = some zs[i]:=Qf hi;have e2:ys[i]? = some (ys[i]'(by rw [h.1];exact hi)):=Qf _;rw [e1,e2,h.2 i _ _ e1 e2];rfl
 ·have:=h.1;rw [Q9 (show ys.length<=i by omega),Q9 (show zs.length<=i by omega)];rfl
section
variable {k:Nat}{g:TG}{tt:TT}{te:TE}{σ:St}{Q:VK}{H:Hp}{K:PySem.W.Frag}
def uX{α:Type}{J:It}(zs:List α)(c:α->Bool)(P:α->V->Hp->Prop)(R:Addr->α->V->Hp->Prop)
  (a6:∀ i z H',zs[i]? = some z->Ext H H'->J.go i H'/\∀ x aq,J.yld i H' x aq->Ext H' aq/\P z x aq)
  (a7:∀ H',Ext H H'->J.stop zs.length H')
  (a4:∀ D z y H1 H2,R D z y H1->Ext H1 H2->R D z y H2) (a5:∀ D z y H1 o,R D z y H1->R D z y (upd H1 D o))
  (hl:zs.length<=sizeLine)
  (hs:∀ D z x H' N1 N0,z∈zs->H D=none->Ext H H'->(∃ ys,H' D=some (.lst ys))->P z x H'->(c z=true->∀ y aq,Ext H' aq->R D z y aq->N1 y aq)->(c z=false->∀ aq,Ext H' aq->N0 aq)->g x (List.replicate k none++σ) H' (kCm k tt te σ N1 N0))
  (hd:∀ D ys H',H D=none->Ext H H'->H' D=some (.lst ys)->Al (λ z y=>R D z y H') (zs.filter c) ys->Q (.ref D) H'):rP k g tt te σ Q J H:=by
 intro D hD;refine⟨λ i m ys H'=>m=zs.length - i/\i<=zs.length/\Ext H H'/\H' D=some (.lst ys)/\Al (λ z y=>R D z y H') ((zs.take i).filter c) ys,⟨zs.length,by simp,QK _,Ext.new hD,af,by simpa using Al.nil⟩,?_⟩;rintro i m ys H' ⟨rfl,hi,e,ar,al⟩
 by_cases hlt:i < zs.length
 ·have hz:zs[i]? = some zs[i]:=Qf hlt;obtain⟨go,y⟩:=a6 i zs[i] H' hz e;have tk:zs.take (i+1)=zs.take i++[zs[i]]:=by rw [List.take_succ,hz];rfl
  have ln:ys.length < sizeLine:=by
   have h1:=al.1;have h2:=Sq c (zs.take i);simp only [Rc] at h2;omega
  refine .inr ⟨go,λ a3 H2=>Ext H H2/\H2 D=some (.lst a3)/\Al (λ z y=>R D z y H2) ((zs.take (i+1)).filter c) a3,λ a3 H2 p=>⟨zs.length - (i+1),by omega,rfl,hlt,p⟩,λ x H2 z=>?_⟩;obtain⟨e2,p2⟩:=y x H2 z;refine hs D zs[i] x H2 (kC3 D ys _) _ (RH hlt) hD (e.trans e2) ⟨ys,e2.at ar⟩ p2 (λ hc y H3 e3 r3=>?_) λ hc H3 e3=>?_
  ·refine⟨e3.at (e2.at ar),ln,(e.trans (e2.trans e3)).put hD,af,?_⟩;rw [tk,Si,show [zs[i]].filter c=[zs[i]] by simp [hc]];exact Al.snoc (al.imp λ z y r=>a5 _ _ _ _ _ (a4 _ _ _ _ _ r (e2.trans e3))) (a5 _ _ _ _ _ r3)
  ·refine⟨e.trans (e2.trans e3),(e2.trans e3).at ar,?_⟩;rw [tk,Si,show [zs[i]].filter c=[] by simp [hc],Su];exact al.imp λ z y r=>a4 _ _ _ _ _ r (e2.trans e3)
 ·have e':i=zs.length:=by omega
  subst e';rw [QD] at al;exact .inl ⟨a7 H' e,hd D ys H' hD e ar al⟩
def bK{α:Type}{J:It}(zs:List α)(c:α->Bool)(f:α->V)(P:α->V->Hp->Prop)
  (ar:∀ i z H',zs[i]? = some z->Ext H H'->J.go i H'/\∀ x aq,J.yld i H' x aq->Ext H' aq/\P z x aq)
  (a3:∀ H',Ext H H'->J.stop zs.length H') (hl:zs.length<=sizeLine)
  (hs:∀ D z x H' N1 N0,z∈zs->H D=none->Ext H H'->P z x H'->(c z=true->∀ aq,Ext H' aq->N1 (f z) aq)->(c z=false->∀ aq,Ext H' aq->N0 aq)->g x (List.replicate k none++σ) H' (kCm k tt te σ N1 N0))
  (hd:∀ D H',H D=none->Ext H H'->H' D=some (.lst ((zs.filter c).map f))->Q (.ref D) H'):rP k g tt te σ Q J H:=
 uX zs c P (λ _ z y _=>y=f z) ar a3 (λ _ _ _ _ _ r _=>r) (λ _ _ _ _ _ r=>r) hl (λ D z x H' N1 N0 hz hD e _ p k1 k0=>hs D z x H' N1 N0 hz hD e p (λ hc aq e'=>k1 hc _ aq e' rfl) k0) λ D ys H' hD e a4 al=>hd D H' hD e (by rw [←al.map];exact a4)
def jo{lo:Int}{n:Nat}:(∀ i z H',(List.range n)[i]? = some z->Ext H H'->(Itr lo n).go i H'/\∀ x aq,(Itr lo n).yld i H' x aq->Ext H' aq/\x=.int (lo+(z:Nat)))/\∀ H',Ext H H'->(Itr lo n).stop (List.range n).length H':=by
 refine⟨λ i z H' hz _=>?_,λ H' _=>by simp [Itr]⟩;obtain⟨h1,h2⟩:=Qh.mp hz;have e:i=z:=by simpa using h2
 subst e;exact⟨(show i < n by simpa using h1),λ x aq y=>⟨by rw [y.1];exact Ext.refl _,y.2⟩⟩
def xD{a:Addr}{xs:List V}(h:H a=some (.lst xs)):(∀ i z H',xs[i]? = some z->Ext H H'->(Itl K a).go i H'/\∀ x aq,(Itl K a).yld i H' x aq->Ext H' aq/\(x=z/\aq a=some (.lst xs)))/\∀ H',Ext H H'->(Itl K a).stop xs.length H':=
 ⟨λ i z H' hz e=>⟨⟨xs,z,SqL.of (e.at h),hz⟩,λ x aq y=>⟨by rw [y.1];exact Ext.refl _,QL ((y.2 xs (SqL.of (e.at h))).symm.trans hz),by rw [y.1];exact e.at h⟩⟩,λ H' e=>⟨xs,SqL.of (e.at h),Qi _⟩⟩
def SqK.ext{kk:Bool}{H H':Hp}{a:Addr}{xs:List V}(h:SqK kk H a xs)(e:Ext H H'):SqK kk H' a xs:=by
 cases kk
 ·exact e.at (show H a=some (.lst xs) from h)
 ·exact e.at (show H a=some (.tup xs) from h)
def PB(z:V × V)(x:V)(H:Hp):Prop:=∃ p,x=.ref p/\H p=some (.tup [z.1,z.2])
def JY{ka kb:Bool}{a b:Addr}{xs ys:List V}(ha:SqK ka H a xs)(hb:SqK kb H b ys):(∀ i z H',(xs.zip ys)[i]? = some z->Ext H H'->(Itz ka kb a b xs ys).go i H'/\∀ x aq,(Itz ka kb a b xs ys).yld i H' x aq->Ext H' aq/\PB z x aq)/\∀ H',Ext H H'->(Itz ka kb a b xs ys).stop (xs.zip ys).length H':=by
 refine⟨λ i z H' hz e=>?_,λ H' e=>⟨ha.ext e,hb.ext e,?_⟩⟩
 ·obtain⟨h1,h2⟩:=Qh.mp hz;rw [SO] at h1;refine⟨⟨ha.ext e,hb.ext e,by omega,by omega⟩,λ x aq y=>?_⟩;obtain⟨p,u,v,hp,rfl,hu,hv,rfl⟩:=y;refine⟨Ext.new hp,p,rfl,?_⟩;rw [af];rw [Qf (by omega)] at hu hv;cases hu;cases hv;rw [←h2,List.getElem_zip]
 ·rw [SO];omega
def kl{tb:TS}{nx:St->Hp->Prop}{rt:VK}{bk ct:St->Hp->Prop}{ka kb:Bool}{a b:Addr}{xs ys:List V}(Pv:Nat->St->Hp->Prop)(h0:Pv 0 σ H)(hl:∀ i σ H,Pv i σ H->SqK ka H a xs/\SqK kb H b ys)
  (hs:∀ i u v p σ H H',xs[i]? = some u->ys[i]? = some v->Pv i σ H->H p=none->Ext H H'->H' p=some (.tup [u,v])->g (.ref p) σ H' (vD tb ⟨Pv (i+1),rt,nx,Pv (i+1)⟩)) (hd:∀ σ H,Pv (min xs.length ys.length) σ H->nx σ H):Jb g tb ⟨nx,rt,bk,ct⟩ σ (Itz ka kb a b xs ys) H:=by
 refine⟨λ i m σ H=>m=min xs.length ys.length - i/\i<=min xs.length ys.length/\Pv i σ H,⟨min xs.length ys.length,by simp,QK _,h0⟩,?_⟩;rintro i m σ H ⟨rfl,hi,p⟩;obtain⟨qa,qb⟩:=hl i σ H p
 by_cases hlt:i < min xs.length ys.length
 ·refine .inr ⟨⟨qa,qb,by omega,by omega⟩,Pv (i+1),λ σ' H' p'=>⟨min xs.length ys.length - (i+1),by omega,rfl,hlt,p'⟩,λ x H' y=>?_⟩;obtain⟨r,u,v,hr,rfl,hu,hv,rfl⟩:=y;exact hs i u v r σ H _ hu hv p hr (Ext.new hr) af
 ·have e:i=min xs.length ys.length:=by omega
  subst e;exact .inl ⟨⟨qa,qb,by omega⟩,hd σ H p⟩
end
def JU(sc:Scope)(N:List Str)(scope:Scope)(N':List Str)(k:Nat):Bool:=
 scope.names.all (λ y=>!(y.2 == .cell)) && (scope.kind == .function) && scope.names.all (λ y=>!(y.2 == .local) || scope.names.lookup y.1 == some .local) && scope.names.all (λ y=>!(y.2 == .free) || sc.names.lookup y.1 == some .cell) && decide (N'.length=k+N.length) &&
  ((N'.drop k).zip N).all (λ p=>(!(scope.names.lookup p.1 == some .free) || decide (p.1=p.2)) && !(scope.names.lookup p.1 == some .local))
def aV{X:Cx}{scope:Scope}{N':List Str}{k:Nat}(sc:Scope)(N:List Str)(h1:X.env.scope=sc)(h2:X.N=N)(h:JU sc N scope N' k=true):ki X scope N' k:=by
 unfold JU at h;simp only [Bool.and_eq_true,decide_eq_true_eq] at h;obtain⟨⟨⟨⟨⟨a1,a2⟩,a3⟩,a4⟩,a5⟩,a6⟩:=h;rw [List.all_eq_true] at a1 a3 a4 a6
 have pr:∀ i x,N'[k+i]? = some x->∃ y,N[i]? = some y/\(x,y)∈(N'.drop k).zip N:=λ i x hx=>by
  have h0:=(Qh.mp hx).1;have hi:i < N.length:=by omega
  have e1:(N'.drop k)[i]? = some x:=by rw [List.getElem?_drop];exact hx
  have e2:N[i]? = some N[i]:=Qf hi;refine⟨_,e2,Qr (i:=i) ?_⟩;rw [List.getElem?_zip_eq_some];exact⟨e1,e2⟩
 refine⟨λ y hy e=>?_,by simpa using a2,λ y hy e=>?_,λ y hy e=>?_,by rw [h2];exact a5,λ i x hx hf=>?_,λ i x hx hf=>?_⟩
 ·have:=a1 y hy;rw [e] at this;simp at this
 ·have:=a3 y hy;rw [e] at this;simpa using this
 ·have:=a4 y hy;rw [e] at this;rw [h1];simpa using this
 ·obtain⟨y,hy,hm⟩:=pr i x hx;have:=a6 _ hm;simp only [hf] at this;rw [h2,hy];simp at this;rw [this]
 ·obtain⟨y,hy,hm⟩:=pr i x hx;have:=a6 _ hm;simp [hf] at this
def E1(H:Hp)(Q:VK):V->Prop:=λ v=>Q v H
def Hh(H:Hp)(Q:VK)(v:V):E1 H Q v=Q v H:=rfl
def Bx(K:W.Frag)(f:Str)(H:Hp)(Q:VK):HO->Prop:=λ o=>match o with
 | .ins C dx fs=>Cls K C/\bz K C f/\aX (fs.lookup f) (E1 H Q)
 | _=>False
def Hi(K:W.Frag)(f:Str)(H:Hp)(Q:VK)(C dx:Addr)(fs:List (Str × V)):Bx K f H Q (.ins C dx fs)=(Cls K C/\bz K C f/\aX (fs.lookup f) (E1 H Q)):=rfl
def Jf(K:W.Frag)(f:Str)(Q:VK):VK:=λ x H=>match x with
 | .ref a=>aX (H a) (Bx K f H Q)
 | _=>False
def LA(K:W.Frag)(f:Str)(Q:VK)(a:Addr)(H:Hp):Jf K f Q (.ref a) H=aX (H a) (Bx K f H Q):=rfl
def MX(K:W.Frag)(ta:TE)(f:Str):TE:=λ σ H Q=>ta σ H (Jf K f Q)
def Lj(K:W.Frag)(ta:TE)(f:Str)(σ:St)(H:Hp)(Q:VK):MX K ta f σ H Q=ta σ H (Jf K f Q):=rfl
def Ia{K:W.Frag}{f:Str}{Q:VK}{x:V}{H:Hp}(h:Jf K f Q x H):∃ a C dx fs v,x=.ref a/\H a=some (.ins C dx fs)/\Cls K C/\bz K C f/\fs.lookup f=some v/\Q v H:=by
 unfold Jf at h;split at h
 ·obtain⟨o,e,h⟩:=ak h;unfold Bx at h;split at h
  ·obtain⟨c,n,h⟩:=h;obtain⟨v,l,q⟩:=ak h;exact⟨_,_,_,_,v,rfl,e,c,n,l,q⟩
  ·exact h.elim
 ·exact h.elim
section
variable {X:Cx}{e o value:Expr}{ta tv:TE}{f:Str}{pos pos':Pos}
def yw(he:PE X e ta)(hb:attributeBase e f X.env (eval e X.env)=eval e X.env):PE X (.Attribute e f pos) (MX X.K ta f):=by
 intro pins s σ H Q I h;refine yU hb (thn (he pins s σ H _ I h) λ u s1 ⟨x,H1,I1,rx,q1⟩=>?_);obtain⟨a,C,dx,fs,v,ex,ea,c,n,l,q⟩:=Ia q1;subst ex;obtain rfl:u=Value.ref a:=rx;exact wC I1 ea c n l λ u' s2 I2 ru=>⟨v,H1,I2,ru,q⟩
def Bt(K:W.Frag)(f:Str)(y:V)(a:Addr)(σ:St)(nx:St->Hp->Prop)(H:Hp):HO->Prop:=λ o=>match o with
 | .ins C dx fs=>Cls K C/\bz K C f/\fs.length < 1000/\nx σ (upd H a (.ins C dx (fF f y fs)))
 | _=>False
def GW(K:W.Frag)(f:Str)(y:V)(a:Addr)(σ:St)(nx:St->Hp->Prop)(H:Hp)(C dx:Addr)(fs:List (Str × V)):Bt K f y a σ nx H (.ins C dx fs)=(Cls K C/\bz K C f/\fs.length < 1000/\nx σ (upd H a (.ins C dx (fF f y fs)))):=rfl
def Bu(K:W.Frag)(f:Str)(y:V)(σ:St)(nx:St->Hp->Prop):VK:=λ x H=>match x with
 | .ref a=>aX (H a) (Bt K f y a σ nx H)
 | _=>False
def GZ(K:W.Frag)(f:Str)(y:V)(σ:St)(nx:St->Hp->Prop)(a:Addr)(H:Hp):Bu K f y σ nx (.ref a) H=aX (H a) (Bt K f y a σ nx H):=rfl
def EV(K:W.Frag)(f:Str)(ta:TE)(σ:St)(nx:St->Hp->Prop):VK:=λ y H=>ta σ H (Bu K f y σ nx)
def G0(K:W.Frag)(f:Str)(ta:TE)(σ:St)(nx:St->Hp->Prop)(y:V)(H:Hp):EV K f ta σ nx y H=ta σ H (Bu K f y σ nx):=rfl
def JG(K:W.Frag)(ta tv:TE)(f:Str):TS:=λ D σ H=>tv σ H (EV K f ta σ D.nx)
def GI(K:W.Frag)(ta tv:TE)(f:Str)(nx:St->Hp->Prop)(rt:VK)(bk ct:St->Hp->Prop)(σ:St)(H:Hp):JG K ta tv f ⟨nx,rt,bk,ct⟩ σ H=tv σ H (EV K f ta σ nx):=rfl
def B4(ha:PE X o ta)(hv:PE X value tv)(hs:swapsWith value (some (.Attribute o f pos')) pos.line X.env=pure false):PS X (.Assign [.Attribute o f pos'] value pos) (JG X.K ta tv f):=by
 intro pins s σ H D I h;refine plainObj_wpAny_Assign_Attribute (thn (hv pins s σ H _ I h) λ u s1 ⟨y,H1,I1,ry,q⟩=>thn (ha pins s1 σ H1 _ I1 q) λ ov s2 ⟨x,H2,I2,rx,q1⟩=>?_) hs;unfold Bu at q1;split at q1
 ·rename_i a;obtain rfl:ov=Value.ref a:=rx;obtain⟨ob,ea,q1⟩:=ak q1;unfold Bt at q1;split at q1
  ·obtain⟨c,n,l,q2⟩:=q1;exact vG I2 ea c n l ry λ s3 I3=>⟨σ,_,I3,q2⟩
  ·exact q1.elim
 ·exact q1.elim
end
def pL(sp:Sp)(dvs:List V)(E:XK)(a:Addr)(Q:VK):List V->Hp->Prop:=λ vs H=>sp (.ref a::(vs++dvs)) H Q E
def vW(sp:Sp)(dvs:List V)(E:XK)(a:Addr)(Q:VK)(H:Hp):pL sp dvs E a Q [] H=sp (.ref a::dvs) H Q E:=rfl
def vV(sp:Sp)(dvs:List V)(E:XK)(a:Addr)(Q:VK)(x:V)(H:Hp):pL sp dvs E a Q [x] H=sp (.ref a::x::dvs) H Q E:=rfl
def vU(sp:Sp)(dvs:List V)(E:XK)(a:Addr)(Q:VK)(x y:V)(H:Hp):pL sp dvs E a Q [x,y] H=sp (.ref a::x::y::dvs) H Q E:=rfl
def uk(C:Addr)(m:Str)(sp:Sp)(dvs:List V)(E:XK)(t:TA)(σ:St)(Q:VK)(a:Addr)(H:Hp):HO->Prop:=λ o=>match o with
 | .ins C' dx fs=>C'=C/\fs.lookup m=none/\t σ H (pL sp dvs E a Q)
 | _=>False
def CA(C:Addr)(m:Str)(sp:Sp)(dvs:List V)(E:XK)(t:TA)(σ:St)(Q:VK)(a:Addr)(H:Hp)(dx:Addr)(fs:List (Str × V)):uk C m sp dvs E t σ Q a H (.ins C dx fs)=(fs.lookup m=none/\t σ H (pL sp dvs E a Q)):=propext ⟨λ h=>h.2,λ h=>⟨rfl,h⟩⟩
def xn(C:Addr)(m:Str)(sp:Sp)(dvs:List V)(E:XK)(t:TA)(σ:St)(Q:VK):VK:=λ x H=>match x with
 | .ref a=>aX (H a) (uk C m sp dvs E t σ Q a H)
 | _=>False
def Hc(C:Addr)(m:Str)(sp:Sp)(dvs:List V)(E:XK)(t:TA)(σ:St)(Q:VK)(a:Addr)(H:Hp):xn C m sp dvs E t σ Q (.ref a) H=aX (H a) (uk C m sp dvs E t σ Q a H):=rfl
def EL(C:Addr)(m:Str)(sp:Sp)(dvs:List V)(E:XK)(ta:TE)(t:TA):TE:=λ σ H Q=>ta σ H (xn C m sp dvs E t σ Q)
def GK(C:Addr)(m:Str)(sp:Sp)(dvs:List V)(E:XK)(ta:TE)(t:TA)(σ:St)(H:Hp)(Q:VK):EL C m sp dvs E ta t σ H Q=ta σ H (xn C m sp dvs E t σ Q):=rfl
def uT{C:Addr}{m:Str}{sp:Sp}{dvs:List V}{E:XK}{t:TA}{σ:St}{Q:VK}{x:V}{H:Hp}(h:xn C m sp dvs E t σ Q x H):∃ a dx fs,x=.ref a/\H a=some (.ins C dx fs)/\fs.lookup m=none/\t σ H λ vs H2=>sp (x::(vs++dvs)) H2 Q E:=by
 unfold xn at h;split at h
 ·obtain⟨o,e,h⟩:=ak h;unfold uk at h;split at h
  ·obtain⟨rfl,l,h⟩:=h;exact⟨_,_,_,rfl,e,l,h⟩
  ·exact h.elim
 ·exact h.elim
section
variable {X:Cx}{CX:CXT}{k:Nat}{f C:Addr}{fd:FuncData}{ps:List Str}{sp:Sp}{dvs:List V}{ds:List Value}{E:XK}{x m:Str}{p pos apos:Pos}{e o:Expr}{es:List Expr}{ta:TE}{t:TA}
def Ca{pl:Sem Bool}(he:PE X o ta)(c:Cls X.K C)(hm:gN X.K C m f)(F:aM X.prog X.w X.K X.mg X.base CX k f fd ps sp)(hr:fG k X.A)(hb:au X.K fd ps ds)(hd:bf dvs ds)(hx:gS CX X E)(ha:PA X (e::es) t)
  (aq:starEach (e::es) X.env=(false,eval e X.env)::starEach es X.env:=by rfl) (ar:(backTo pos (starEach es X.env)).any (·.1)=false:=by rfl)
  (ht:eval (.Call (.Attribute o m apos) (e::es) [] pos) X.env=(do
   let ov ←eval o X.env
   standAt apos.atName
   let (f,first) ←holding [ov] (getMethod ov m pl)
   callWith pos f first (backTo pos (starEach (e::es) X.env)) (backToKw pos (keywordEach [] X.env))):=by rfl) :
  PE X (.Call (.Attribute o m apos) (e::es) [] pos) (EL C m sp dvs E ta t):=by
 intro pins s σ H Q I h;refine SH (pl:=pl) (thn (he pins s σ H _ I h) λ u s1 ⟨x,H1,I1,rx,q0⟩=>?_) ht;obtain⟨a,dx,fs,ex,ea,l,q⟩:=uT q0;subst ex;obtain rfl:u=Value.ref a:=rx;refine gF I1 ea c hm l ?_;refine S7 (first:=[.ref a]) (h₀:=X.base) I.ok.mod.kin hm.kp (thn (ha pos pins s1 σ H1 _ I1 q) λ us s2 ⟨vs,H2,I2,r,q2⟩=>⟨I2.kIn,?_⟩) aq ar;exact pC (us:=.ref a::us) (vs:=.ref a::vs) F hr hb hd hx I2 (.cons rfl r) q2
def zv{pl:Sem Bool}(he:PE X o ta)(c:Cls X.K C)(hm:gN X.K C m f)(F:aM X.prog X.w X.K X.mg X.base CX k f fd ps sp)(hr:fG k X.A)(hb:au X.K fd ps ds)(hd:bf dvs ds)(hx:gS CX X E)
  (ht:eval (.Call (.Attribute o m apos) [] [] pos) X.env=(do
   let ov ←eval o X.env
   standAt apos.atName
   let (f,first) ←holding [ov] (getMethod ov m pl)
   callWith pos f first (backTo pos (starEach [] X.env)) (backToKw pos (keywordEach [] X.env))):=by rfl) :
  PE X (.Call (.Attribute o m apos) [] [] pos) (EL C m sp dvs E ta Mj):=by
 intro pins s σ H Q I h;refine SH (pl:=pl) (thn (he pins s σ H _ I h) λ u s1 ⟨x,H1,I1,rx,q0⟩=>?_) ht;obtain⟨a,dx,fs,ex,ea,l,q⟩:=uT q0;subst ex;obtain rfl:u=Value.ref a:=rx;refine gF I1 ea c hm l ?_;exact W.callWith_K0 (first:=[.ref a]) I1.kIn hm.kp (pC (us:=[.ref a]) (vs:=[.ref a]) F hr hb hd hx I1 (.cons rfl .nil) q)
end
def xo(x:Addr)(Q:VK):VK:=λ v H=>v=.non/\Q (.ref x) H
def Hd(x:Addr)(Q:VK)(H:Hp):xo x Q .non H=Q (.ref x) H:=propext ⟨λ h=>h.2,λ h=>⟨rfl,h⟩⟩
def rN(C:Addr)(sp:Sp)(dvs:List V)(E:XK)(Q:VK):List V->Hp->Prop:=λ vs H=>∀ (x dx:Addr) (H':Hp),H x=none->H dx=none->dx ≠ x->Ext H H'->H' x=some (.ins C dx [])->H' dx=some (.own x)->sp (.ref x::(vs++dvs)) H' (xo x Q) E
def zN(C:Addr)(sp:Sp)(dvs:List V)(E:XK)(Q:VK)(a:V)(H:Hp):rN C sp dvs E Q [a] H=∀ (x dx:Addr) (H':Hp),H x=none->H dx=none->dx ≠ x->Ext H H'->H' x=some (.ins C dx [])->H' dx=some (.own x)->sp (.ref x::a::dvs) H' (xo x Q) E:=rfl
def zM(C:Addr)(sp:Sp)(dvs:List V)(E:XK)(Q:VK)(a b:V)(H:Hp):rN C sp dvs E Q [a,b] H=∀ (x dx:Addr) (H':Hp),H x=none->H dx=none->dx ≠ x->Ext H H'->H' x=some (.ins C dx [])->H' dx=some (.own x)->sp (.ref x::a::b::dvs) H' (xo x Q) E:=rfl
def zL(C:Addr)(sp:Sp)(dvs:List V)(E:XK)(Q:VK)(a b c:V)(H:Hp):rN C sp dvs E Q [a,b,c] H=∀ (x dx:Addr) (H':Hp),H x=none->H dx=none->dx ≠ x->Ext H H'->H' x=some (.ins C dx [])->H' dx=some (.own x)->sp (.ref x::a::b::c::dvs) H' (xo x Q) E:=rfl
def JH(C:Addr)(sp:Sp)(dvs:List V)(E:XK)(t:TA):TE:=λ σ H Q=>t σ H (rN C sp dvs E Q)
def GL(C:Addr)(sp:Sp)(dvs:List V)(E:XK)(t:TA)(σ:St)(H:Hp)(Q:VK):JH C sp dvs E t σ H Q=t σ H (rN C sp dvs E Q):=rfl
section
variable {X:Cx}{CX:CXT}{k:Nat}{f C:Addr}{fd:FuncData}{ps:List Str}{sp:Sp}{dvs:List V}{ds:List Value}{E:XK}{x m:Str}{p pos apos:Pos}{e o:Expr}{es:List Expr}{ta:TE}{t:TA}
def rN.to{Q:VK}{vs:List V}{H:Hp}(h:rN C sp dvs E Q vs H):∀ x dx,H x=none->H dx=none->dx ≠ x->sp (.ref x::(vs++dvs)) (upd (upd H dx (.own x)) x (.ins C dx [])) (λ v H2=>v=.non/\Q (.ref x) H2) E:=λ x dx hx hd ne=>
 h x dx _ hx hd ne ((Ext.new hd).put hx) af (by rw [ae ne,af])
def Cb(M:Mk X.K C f)(F:aM X.prog X.w X.K X.mg X.base CX k f fd ps sp)(hr:fG (k+1) X.A)(hg:Gl X x)(hm:X.mg x=some (.ref C))(hb:au X.K fd ps ds)(hd:bf dvs ds)(hx:gS CX X E)
  (ha:PA X (e::es) t) (aq:(x == ("__debug__":Str))=false:=by decide) (he:starEach (e::es) X.env=(false,eval e X.env)::starEach es X.env:=by rfl) (ar:(backTo pos (starEach es X.env)).any (·.1)=false:=by rfl) :
  PE X (.Call (.Name x p) (e::es) [] pos) (JH C sp dvs E t):=by
 intro pins s σ H Q I h;refine Rg (eY I hg hm ?_ aq);refine S7 (h₀:=X.base) I.ok.mod.kin M.kp (thn (ha pos pins s σ H _ I h) λ us s1 ⟨vs,H1,I1,r,q⟩=>⟨I1.kIn,?_⟩) he ar;exact BU M F hr hb hd hx I1 r q.to
end
def yB:Expr->Bool
 | .Starred ..=>false
 | _=>true
def Fo{e:Expr}{es:List Expr}{env:Env}(h:yB e=true):starEach (e::es) env=(false,eval e env)::starEach es env:=by
 cases e<;>first|rfl|cases h
def Je{X:Cx}{e:Expr}{es:List Expr}{te:TE}{t:TA}(ha:PE X e te)(hr:PA X es t)(hn:yB e=true:=by rfl):PA X (e::es) (Bq te t):=FQ ha hr (Fo hn)
def NP(K:W.Frag)(t:TA)(σ:St)(H:Hp)(Q:VK):tXI K t σ H Q=t σ H (kXI K Q):=rfl
def FZ(K:W.Frag)(ta tv:TE)(f:Str)(nx:St->Hp->Prop)(rt:VK)(bk ct:St->Hp->Prop)(σ:St)(H:Hp):Jl K ta tv f ⟨nx,rt,bk,ct⟩ σ H=tv σ H (MZ K f ta σ nx):=rfl
def Ll(K:W.Frag)(f:Str)(ta:TE)(σ:St)(nx:St->Hp->Prop)(y:V)(H:Hp):MZ K f ta σ nx y H=ta σ H (O1 K f y σ nx):=rfl
def zG(C:Addr)(sp:Sp)(E:St->XK)(t:TA)(D:iw)(σ:St)(H:Hp):yk C sp E t D σ H=t σ H (kRI C sp (E σ)):=rfl
def NQ(K:W.Frag)(ta:TE)(f:Str)(σ:St)(H:Hp)(Q:VK):tXF K ta f σ H Q=ta σ H (kXF K f Q):=rfl
def MM(C:Addr)(f:Str):Sp:=λ vs H Q E=>∃ e x,vs=[.ref e,x]/\H e=some (exH e C none)/\∀ dx H',H dx=none->dx ≠ e->(∀ b o,b ≠ e->H b=some o->H' b=some o)->H' e=some (exH e C (some dx))->H' dx=some (.xd [(f,x)])->Q .non H'
def LZ(C:Addr)(f:Str){vs:List V}{H:Hp}{Q:VK}{E:XK}(h:MM C f vs H Q E):vs.length=2:=by
 obtain⟨_,_,rfl,_⟩:=h;rfl
def Eh{C:Addr}{f:Str}{E:XK}{x:V}{H:Hp}(h:∀ dx H',Ext H H'->H' dx=some (.xd [(f,x)])->E (.ref C) (some dx) H'):kRI C (MM C f) E [x] H:=by
 refine⟨(show 1<=sizeLine by decide),λ e he=>⟨e,x,rfl,af,λ dx H' h1 h2 h3 h4 h5=>⟨rfl,some dx,h4,λ _ z=>by cases z;exact⟨_,by rw [fK h2];exact h5⟩,h dx _ (lQ.ext λ b o q=>?_) (by rw [fK h2];exact h5)⟩⟩⟩;have hb:b ≠ e:=ag q he;rw [fK hb];exact h3 b o hb (by rw [ae hb];exact q)
def ud(H:Hp)(z:List Int)(y:V):Prop:=∃ q,y=.ref q/\H q=some (.tup (z.map V.int))
def ud.ext{H H':Hp}{z:List Int}{y:V}(h:ud H z y)(e:Ext H H'):ud H' z y:=by
 obtain⟨q,rfl,hq⟩:=h;exact⟨q,rfl,e.at hq⟩
def ud.upd{H:Hp}{z:List Int}{y:V}{p:Addr}{xs:List V}{o:HO}(h:ud H z y)(hp:H p=some (.lst xs)):ud (upd H p o) z y:=by
 obtain⟨q,rfl,hq⟩:=h;exact⟨q,rfl,by rw [ae (λ z=>by rw [z,hp] at hq;cases hq)];exact hq⟩
def aH(H:Hp)(p:Addr)(zs:List (List Int)):Prop:=∃ ys,H p=some (.lst ys)/\Al (ud H) zs ys
def aH.ext{H H':Hp}{p:Addr}{zs:List (List Int)}(h:aH H p zs)(e:Ext H H'):aH H' p zs:=by
 obtain⟨ys,hp,al⟩:=h;exact⟨ys,e.at hp,al.imp λ _ _ r=>r.ext e⟩
def az{n:Nat}(h:n<=5000):n<=sizeLine:=QP h (by decide)
def Ef{n:Nat}(h:n < 5000):n < sizeLine:=Qs h (by decide)
def jV{K:W.Frag}{H:Hp}{α:Type}{R:α->V->Hp->Prop}(hR:∀ z y H H',R z y H->Ext H H'->R z y H'){l:Addr}{ys:List V}{zs:List α}(h:H l=some (.lst ys))(al:Al (λ z y=>R z y H) zs ys) :
  (∀ i z H',zs[i]? = some z->Ext H H'->(Itl K l).go i H'/\∀ x aq,(Itl K l).yld i H' x aq->Ext H' aq/\R z x aq)/\∀ H',Ext H H'->(Itl K l).stop zs.length H':=by
 refine⟨λ i z H' hz e=>?_,λ H' e=>⟨ys,SqL.of (e.at h),by rw [al.1];exact Qi _⟩⟩;have hi:i < ys.length:=by rw [al.1];exact(Qh.mp hz).1
 have hy:ys[i]? = some ys[i]:=Qf hi;refine⟨⟨ys,ys[i],SqL.of (e.at h),hy⟩,λ x aq y=>?_⟩;have hx:x=ys[i]:=QL ((y.2 ys (SqL.of (e.at h))).symm.trans hy);refine⟨by rw [y.1];exact Ext.refl _,?_⟩;rw [hx,y.1];exact hR _ _ _ _ (al.2 i z _ hz hy) e
def axP(a:Int × Int)(x:V)(H:Hp):Prop:=∃ q,x=.ref q/\H q=some (.tup [.int a.1,.int a.2])
def axP.ext{a:Int × Int}{x:V}{H H':Hp}(h:axP a x H)(e:Ext H H'):axP a x H':=by
 obtain⟨q,rfl,hq⟩:=h;exact⟨q,rfl,e.at hq⟩
def my{H:Hp}{axs:List (Int × Int)}{ys:List V}(al:Al (ud H) (axs.map λ a=>[a.1,a.2]) ys):Al (λ a y=>axP a y H) axs ys:=by
 refine⟨by rw [al.1,Qk],λ i a y ha hy=>?_⟩;obtain⟨q,hq,h⟩:=al.2 i [a.1,a.2] y (by rw [Qq,ha];rfl) hy;exact⟨q,hq,h⟩
section
variable {prog:Program}{w:World}{A:Around}{E:Value->Shared->Prop}{s:Shared}
variable {z TI TO i j:Addr}{f g:List Addr}{ti tj:Nat->Heap->Prop}{vi vj:Nat->Option Value}{k m:Nat}{x y:Value}{t:Addr}{fl:Bool}{ot:Obj}
variable {ka kb:Bool}{a b p q:Addr}{as bs:Array Value}{n:Nat}
end
section
variable {X:Cx}{pins:List (Addr × Obj)}{σ:St}{s:Shared}
end
section
variable {X:Cx}
end
def MU(xs:List V)(H:Hp)(Q:VK):Prop:=match xs with
 | [.int i]=>Q (.int i) H
 | [.bl k]=>Q (.int (if k=true then 1 else 0)) H
 | _=>False
def Cu(k:Bool)(H:Hp)(Q:VK):MU [.bl k] H Q=Q (.int (if k=true then 1 else 0)) H:=rfl
def AR{X:Cx}:b9 X (.type "int") MU:=AY.mono λ xs H Q h=>by
 unfold MU at h;split at h
 ·exact .inl ⟨_,rfl,h⟩
 ·exact .inr ⟨_,rfl,h⟩
 ·exact h.elim
section
variable {X:Cx}
end
def E2(l:Addr)(xs:List V)(H:Hp)(Q:VK):List V->Prop:=λ zs=>xs.length+zs.length<=sizeLine/\Q .non (upd H l (.lst (xs++zs)))
def Hj(l:Addr)(xs:List V)(H:Hp)(Q:VK)(zs:List V):E2 l xs H Q zs=(xs.length+zs.length<=sizeLine/\Q .non (upd H l (.lst (xs++zs)))):=rfl
def JM(l b:Addr)(H:Hp)(Q:VK):List V->Prop:=λ xs=>aX (aP H b) (E2 l xs H Q)
def Hk(l b:Addr)(H:Hp)(Q:VK)(xs:List V):JM l b H Q xs=aX (aP H b) (E2 l xs H Q):=rfl
def zI(l b:Addr)(H:Hp)(Q:VK):yq (.ref l) [.ref b] H Q=aX (aP H l) (JM l b H Q):=by
 refine propext ⟨λ h=>?_,λ h=>?_⟩
 ·obtain⟨l',b',xs,zs,e1,e2,h1,h2,h3,q⟩:=h;cases e1;cases e2;unfold aP;rw [h1]
  show aX (aP H b) _
  unfold aP;rw [h2];exact⟨h3,q⟩
 ·obtain⟨xs,e,h⟩:=ak h;obtain⟨zs,e2,h3,q⟩:=ak h;exact⟨l,b,xs,zs,rfl,rfl,cC e,cC e2,h3,q⟩
section
variable {X:Cx}{a b c d:Expr}{ta tb tc td:TE}{pos:Pos}
end
section
variable {k:Nat}{g:TG}{tt:TT}{te:TE}{σ:St}{Q:VK}{H:Hp}{K:PySem.W.Frag}
def kL{α:Type}{J:It}(zs:List α)(c:α->Bool)(P:α->V->Hp->Prop)(R:Addr->α->V->Hp->Prop)
  (a6:∀ i z H',zs[i]? = some z->Ext H H'->J.go i H'/\∀ x aq,J.yld i H' x aq->Ext H' aq/\P z x aq)
  (a7:∀ H',Ext H H'->J.stop zs.length H')
  (a4:∀ D z y H1 H2,R D z y H1->Ext H1 H2->R D z y H2) (a5:∀ D z y H1 xs o,R D z y H1->H1 D=some (.lst xs)->R D z y (upd H1 D o))
  (hl:zs.length<=sizeLine)
  (hs:∀ D z x H' N1 N0,z∈zs->H D=none->Ext H H'->(∃ ys,H' D=some (.lst ys))->P z x H'->(c z=true->∀ y aq,Ext H' aq->R D z y aq->N1 y aq)->(c z=false->∀ aq,Ext H' aq->N0 aq)->g x (List.replicate k none++σ) H' (kCm k tt te σ N1 N0))
  (hd:∀ D ys H',H D=none->Ext H H'->H' D=some (.lst ys)->Al (λ z y=>R D z y H') (zs.filter c) ys->Q (.ref D) H'):rP k g tt te σ Q J H:=by
 intro D hD;refine⟨λ i m ys H'=>m=zs.length - i/\i<=zs.length/\Ext H H'/\H' D=some (.lst ys)/\Al (λ z y=>R D z y H') ((zs.take i).filter c) ys,⟨zs.length,by simp,QK _,Ext.new hD,af,by simpa using Al.nil⟩,?_⟩;rintro i m ys H' ⟨rfl,hi,e,ar,al⟩
 by_cases hlt:i < zs.length
 ·have hz:zs[i]? = some zs[i]:=Qf hlt;obtain⟨go,y⟩:=a6 i zs[i] H' hz e;have tk:zs.take (i+1)=zs.take i++[zs[i]]:=by rw [List.take_succ,hz];rfl
  have ln:ys.length < sizeLine:=by
   have h1:=al.1;have h2:=Sq c (zs.take i);simp only [Rc] at h2;omega
  refine .inr ⟨go,λ a3 H2=>Ext H H2/\H2 D=some (.lst a3)/\Al (λ z y=>R D z y H2) ((zs.take (i+1)).filter c) a3,λ a3 H2 p=>⟨zs.length - (i+1),by omega,rfl,hlt,p⟩,λ x H2 z=>?_⟩;obtain⟨e2,p2⟩:=y x H2 z;refine hs D zs[i] x H2 (kC3 D ys _) _ (RH hlt) hD (e.trans e2) ⟨ys,e2.at ar⟩ p2 (λ hc y H3 e3 r3=>?_) λ hc H3 e3=>?_
  ·refine⟨e3.at (e2.at ar),ln,(e.trans (e2.trans e3)).put hD,af,?_⟩;rw [tk,Si,show [zs[i]].filter c=[zs[i]] by simp [hc]];exact Al.snoc (al.imp λ z y r=>a5 _ _ _ _ _ _ (a4 _ _ _ _ _ r (e2.trans e3)) (e3.at (e2.at ar))) (a5 _ _ _ _ _ _ r3 (e3.at (e2.at ar)))
  ·refine⟨e.trans (e2.trans e3),(e2.trans e3).at ar,?_⟩;rw [tk,Si,show [zs[i]].filter c=[] by simp [hc],Su];exact al.imp λ z y r=>a4 _ _ _ _ _ r (e2.trans e3)
 ·have e':i=zs.length:=by omega
  subst e';rw [QD] at al;exact .inl ⟨a7 H' e,hd D ys H' hD e ar al⟩
end
def Ite(l:Addr)(xs:List V):It:=
 ⟨λ i H=>H l=some (.lst xs)/\i < xs.length,λ i H x H'=>∃ p u,H p=none/\x=.ref p/\xs[i]? = some u/\H'=upd H p (.tup [.int (i:Int),u]),λ i H=>H l=some (.lst xs)/\i=xs.length⟩
def Tne(l e it:Addr)(i:Nat)(h:Heap):Prop:=(∃ old,IsEnum h e it (i:Int) old)/\h.IsListIter it l i
def zj{P:Program}{w:World}{K:PySem.W.Frag}{elts:List Expr}{x1}{tp:Pos}(l e it:Addr)(xs:List V)(ne:e ≠ it):Bo P w K (.Tuple elts x1 tp) (Ite l xs) [e,it] e (Tne l e it) where
 mem:=Qv
 obj:=λ i h st c hc=>by
  obtain⟨⟨old,e1⟩,e2⟩:=st;simp only [QG,QC,Rr] at hc
  rcases hc with rfl|rfl
  ·exact⟨_,e1,λ v z=>by cases z⟩
  ·obtain⟨o,e,_,d⟩:=e2;exact⟨o,e,λ v z=>by rw [d] at z;cases z⟩
 keep:=λ i h h' st k=>by
  obtain⟨⟨old,e1⟩,e2⟩:=st;exact⟨⟨old,k e (by simp) _ e1⟩,e2.at λ o q=>k it (by simp) o q⟩
 item:=by
  intro X hP hw hK hc i pins s σ H E I hf st hg;subst hP hw hK;obtain⟨ha,l1⟩:=hg;obtain⟨as,ra,pl,_⟩:=I.list (SqL.of ha);have hx:xs[i]? = some xs[i]:=Qf l1;obtain⟨u,hu,ru⟩:=ra.get hx;have free:∀ c∈[e,it],H c=none:=λ c h=>(hf c h).1;have ar:l ≠ e:=λ z=>by have:=free e (by simp);rw [←z,ha] at this;cases this
  have a3:l ≠ it:=λ z=>by have:=free it (by simp);rw [←z,ha] at this;cases this
  have W:=WalksT.enumerate (prog:=X.prog) (w:=X.w) (I.ok.hd hc) e it l ne ar a3 as.toArray;have la:=ra.length;obtain⟨e1,e2⟩:=st;obtain⟨old,a5⟩:=e1;refine W.item i s _ E (by simp;omega) ⟨⟨old,a5⟩,e2,pl.isList⟩ λ T vals h1 tk hp hle hT aq kp=>⟨_,rfl,?_⟩;refine W.go elts x1 tp i T ⟨h1,s.gens,s.drawn,tk,s.os⟩ _ E aq λ h2 a6 a7=>?_;have nT:=W.apart i T h1 aq;obtain⟨a4,x,a8,rfl⟩:=hp
  have a9:x=u:=by
   have:as[i]? = some x:=by simpa using a8
   rw [hu] at this;exact(QL this).symm
  subst a9;have bb:h2.IsTuple T #[.int (i:Int) a4,x]:=hT.at λ o q=>a7 T o nT q;have I2:Inv X pins σ (upd H T (.tup [.int (i:Int),xs[i]])) { s with heap:=h2,toks:=tk }:=I.turnNew (t':=tk) (ch:=[e,it]) (λ c hc=>hf c hc) (λ c o hc q=>a7 c o hc (kp c o hc q)) hle ⟨(show 2<=sizeLine by decide),[.int (i:Int) a4,x],.cons ⟨a4,rfl⟩ (.cons ru .nil),bb⟩;have fr:H T=none:=I.hok.fresh hle;refine⟨.ref T,_,I2,rfl,⟨_,_,fr,rfl,hx,rfl⟩,⟨a6.1,a6.2.1⟩,λ c hc=>?_⟩
  have bp:c < s.heap.objs.size:=by
   simp only [QG,QC,Rr] at hc
   rcases hc with rfl|rfl
   ·exact Qm a5
   ·obtain⟨o,q,_⟩:=e2;exact Qm q
  rw [ae (Qy (Qs bp hle))];exact free c hc
 done:=by
  intro X hP hw hK hc i pins s σ H E I hf st hg;subst hP hw hK;obtain⟨ha,rfl⟩:=hg;obtain⟨as,ra,pl,_⟩:=I.list (SqL.of ha);have free:∀ c∈[e,it],H c=none:=λ c h=>(hf c h).1;have ar:l ≠ e:=λ z=>by have:=free e (by simp);rw [←z,ha] at this;cases this
  have a3:l ≠ it:=λ z=>by have:=free it (by simp);rw [←z,ha] at this;cases this
  have W:=WalksT.enumerate (prog:=X.prog) (w:=X.w) (I.ok.hd hc) e it l ne ar a3 as.toArray;have la:=ra.length;have hsz:as.toArray.size=xs.length:=by simp [la]
  obtain⟨e1,e2⟩:=st;refine W.done s _ E (by rw [hsz];exact⟨e1,e2,pl.isList⟩) λ h' tk kp=>⟨rfl,I.turnL (t':=tk) (ch:=[e,it]) (λ c hc=>hf c hc) kp⟩
 self:=λ A i s Q E st h=>by
  obtain⟨⟨old,e1⟩,e2⟩:=st;exact wpAny_pyIter_enum e1 h
def M9(l:Addr)(H:Hp)(R:It->Hp->Prop):List V->Prop:=λ xs=>R (Ite l xs) H
def LC(l:Addr)(H:Hp)(R:It->Hp->Prop)(xs:List V):M9 l H R xs=R (Ite l xs) H:=rfl
def Mz(R:It->Hp->Prop):List V->Hp->Prop:=λ vs H=>match vs with
 | [.ref l]=>aX (aP H l) (M9 l H R)
 | _=>False
def LD(R:It->Hp->Prop)(l:Addr)(H:Hp):Mz R [.ref l] H=aX (aP H l) (M9 l H R):=rfl
def JR(ta:TA):TI:=λ σ H R=>ta σ H (Mz R)
def Hw(ta:TA)(σ:St)(H:Hp)(R:It->Hp->Prop):JR ta σ H R=ta σ H (Mz R):=rfl
section
variable {X:Cx}
def sH{a:Expr}{elts:List Expr}{x1}{tp:Pos}{ta:TA}{p pos:Pos}(hg:Gl X "enumerate")(hm:X.mg "enumerate"=none)(ha:PA X [a] ta)(he:starEach [a] X.env=[(false,eval a X.env)]:=by rfl) :
  PI X (.Tuple elts x1 tp) (.Call (.Name "enumerate" p) [a] [] pos) (JR ta):=by
 intro pins s σ H R I h;refine Call_ (iC I hg hm (show bootBuiltins "enumerate"=some (.type "enumerate") by decide +kernel) (PyProof.Rows.callWith_type1 (thn (ha pos pins s σ H _ I h) λ us s1 ⟨vs,H1,I1,r1,q1⟩=>?_) (by rw [he];rfl) (by rfl)));unfold Mz at q1;split at q1
 ·rename_i l;obtain⟨xs,e,q⟩:=ak q1;replace e:=cC e
  cases r1 with
  | cons r rr=>
   cases rr;cases r;obtain⟨as,ra,pl,_⟩:=I1.list (SqL.of e);refine call_enumerate_list pl.isList λ h' e1 e2 e3 e4=>?_;have I2:Inv X pins σ H1 { s1 with heap:=h' }:=I1.kept (t':=s1.toks) e4;refine wpAny_pyIter_enum (s:={ s1 with heap:=h' }) e1 ⟨s1.heap.objs.size+1,[s1.heap.objs.size+1,s1.heap.objs.size],_,_,H1,rfl,I2,zj l (s1.heap.objs.size+1) s1.heap.objs.size xs (by simp),⟨⟨_,e1⟩,e2⟩,λ c hc=>?_,q⟩
   have hle:s1.heap.objs.size<=c:=by
    simp only [QG,QC,Rr] at hc
    rcases hc with rfl|rfl
    ·exact Sr ..
    ·exact Qi _
   exact I1.fpOk hle (I1.hok.fresh hle)
 ·exact q1.elim
end
section
variable {g:TG}{σ:St}{Q:VK}{H:Hp}{K:PySem.W.Frag}
def uV{tb:TS}{nx:St->Hp->Prop}{rt:VK}{bk ct:St->Hp->Prop}{l:Addr}{xs:List V}(Pv:Nat->St->Hp->Prop)(h0:Pv 0 σ H)(hl:∀ i σ H,Pv i σ H->H l=some (.lst xs))
  (hs:∀ i u p σ H H',xs[i]? = some u->Pv i σ H->H p=none->Ext H H'->H' p=some (.tup [.int (i:Int),u])->g (.ref p) σ H' (vD tb ⟨Pv (i+1),rt,nx,Pv (i+1)⟩)) (hd:∀ σ H,Pv xs.length σ H->nx σ H):Jb g tb ⟨nx,rt,bk,ct⟩ σ (Ite l xs) H:=by
 refine⟨λ i m σ H=>m=xs.length - i/\i<=xs.length/\Pv i σ H,⟨xs.length,by simp,QK _,h0⟩,?_⟩;rintro i m σ H ⟨rfl,hi,p⟩;have qa:=hl i σ H p
 by_cases hlt:i < xs.length
 ·refine .inr ⟨⟨qa,hlt⟩,Pv (i+1),λ σ' H' p'=>⟨xs.length - (i+1),by omega,rfl,hlt,p'⟩,λ x H' y=>?_⟩;obtain⟨r,u,hr,rfl,hu,rfl⟩:=y;exact hs i u r σ H _ hu p hr (Ext.new hr) af
 ·have e:i=xs.length:=by omega
  subst e;exact .inl ⟨⟨qa,rfl⟩,hd σ H p⟩
end
section
variable {X:Cx}{CX:CXT}{k:Nat}{f C:Addr}{fd:FuncData}{ps:List Str}{sp:Sp}{dvs:List V}{ds:List Value}{E:St->XK}{x m:Str}{p pos apos:Pos}{e o:Expr}{es:List Expr}{ta:TE}{t:TA}
end
def dX{α β:Type}(f:α->Option β)(g:α->β):∀ xs:List α,(∀ x∈xs,f x=some (g x))->xs.filterMap f=xs.map g
 | [],_=>rfl
 | x::r,h=>by
  rw [Sz,h x Qv]
  show g x::_=_
  rw [dX f g r λ y hy=>h y (Qt _ hy)];rfl
def oC(its:List Value):slicePick its.toArray none none (some (-1))=its.reverse.toArray:=by
 unfold slicePick sliceBounds sliceRange;simp only [Option.getD_some,size_toArray,show ¬ ((-1:Int) > 0) by decide,if_false]
 have e:(List.range (if (its.length:Int) - 1 > -1 then ((its.length:Int) - 1 - -1 - -1 - 1) / - -1 else 0).toNat)=List.range its.length:=by
  congr 1
  by_cases h:(its.length:Int) - 1 > -1
  ·rw [QE h,show (- -1:Int)=1 from rfl,Int.ediv_one];omega
  ·rw [QB h];omega
 rw [e];congr 1;rw [List.filterMap_map];apply Tf;intro i
 by_cases hi:i < its.length
 ·rw [dX _ (λ k=>(its.reverse[k]?).getD .none) (List.range its.length) (λ k hk=>?_)]
  ·rw [Qq,S3 hi]
   show some ((its.reverse[i]?).getD .none)=_
   rw [Qf (by simpa using hi)];rfl
  ·have aq:=Q1.mp hk
   show its.toArray[((its.length:Int) - 1 + -1 * (k:Int)).toNat]? = _
   have hn:((its.length:Int) - 1 + -1 * (k:Int)).toNat=its.length - 1 - k:=by omega
   rw [hn,List.getElem?_toArray,List.getElem?_reverse aq,Qf (by omega)];rfl
 ·rw [Q9 (show its.reverse.length<=i by rw [List.length_reverse];omega)];refine Q9 (QP (List.length_filterMap_le _ _) ?_);rw [Q8];omega
def EY(H:Hp)(Q:VK):List V->Prop:=λ xs=>pd (.lst xs.reverse) H Q
def G9(H:Hp)(Q:VK)(xs:List V):EY H Q xs=pd (.lst xs.reverse) H Q:=rfl
def Mt(Q:VK):VK:=λ x H=>match x with
 | .ref p=>aX (aP H p) (EY H Q)
 | _=>False
def Lr(Q:VK)(p:Addr)(H:Hp):Mt Q (.ref p) H=aX (aP H p) (EY H Q):=rfl
def OM(te:TE):TE:=λ σ H Q=>te σ H (Mt Q)
def K0(te:TE)(σ:St)(H:Hp)(Q:VK):OM te σ H Q=te σ H (Mt Q):=rfl
section
variable {X:Cx}{e st:Expr}{te tst:TE}{pos p2:Pos}
def Kr(he:PE X e te)(hs:PE X st tst)(h1:∀ (σ:St) (H:Hp) (Q:VK),Q (.int (-1)) H->tst σ H Q):PE X (.Subscript e (.Slice none none (some st) p2) pos) (OM te):=by
 intro pins s σ H Q I h;refine Subscript_ (thn (he pins s σ H _ I h) λ v s1 ⟨x,H1,I1,r1,q1⟩=>?_);unfold Mt at q1;split at q1
 ·rename_i p;obtain⟨xs,ex,q⟩:=ak q1;replace ex:=cC ex;cases r1;refine wpAny_Slice ?_;rw [evalPart_none];refine Ql ?_;refine Ql ?_;rw [evalPart_some];refine thn (hs pins s1 σ H1 (λ y H'=>y=.int (-1)/\H'=H1) I1 (h1 σ H1 _ ⟨rfl,rfl⟩)) λ u s2 ⟨y,H2,I2,r2,e2,e3⟩=>?_;subst e2 e3;obtain⟨tk,rfl⟩:=r2;have I4:Inv X pins σ H2 { s2 with heap:=s2.heap.push { cls:=.type "slice",data:=.fields #[.none,.none,.int (-1) tk] } }:=I2.kept (t':=s2.toks) λ b ob q=>Qg _ q
  show wpAny (model X.prog X.w) X.A (subscriptTail e (.Slice none none (some st) p2) (.ref p) (.ref s2.heap.objs.size)) (EP X pins σ Q) X.xe { s2 with heap:=s2.heap.push { cls:=.type "slice",data:=.fields #[.none,.none,.int (-1) tk] } }
  obtain⟨its,r,ht,hz⟩:=I4.list (SqL.of ex);refine tail_any (ops:=[.ref p,.ref s2.heap.objs.size]) ht.isList.typeIs slot_list_getitem.lookup ?_ (by with_unfolding_all rfl);have hlen:=r.length;refine wpAny_getItem_list_slice (st:=some (-1)) ht.isList (Heap.IsSliceOf.new ..) .none .none (.int (-1) tk) (by simp) ?_ (by rw [QH]<;>omega);rw [oC];have fr:=I4.hok.fresh (Qi (Heap.objs (s2.heap.push { cls:=.type "slice",data:=.fields #[.none,.none,.int (-1) tk] })).size);refine⟨.ref (s2.heap.push { cls:=.type "slice",data:=.fields #[.none,.none,.int (-1) tk] }).objs.size,_,I4.laid (t':=s2.toks) (o:=.lst xs.reverse) (λ b ob q=>Qg _ q) (Qi _) ?_,rfl,q _ _ fr (Ext.new fr) af⟩;exact⟨by rw [List.length_reverse];exact hz,its.reverse,0,r.reverse,Qp _ rfl⟩
 ·exact q1.elim
end
section
variable {X:Cx}
end
def gP{n:Nat}(h:n+64 < cLine):n+1 < cLine:=by omega
def Nc(Q:VK)(x:V):VK:=λ y H=>∃ a v,x=.ref a/\xg H a y (some v)/\Q v H
def Pc(ty:TE)(σ:St)(Q:VK):VK:=λ x H=>ty σ H (Nc Q x)
def LJ(ty:TE)(σ:St)(Q:VK)(x:V)(H:Hp):Pc ty σ Q x H=ty σ H (Nc Q x):=rfl
def Gv(td ty:TE)(σ:St)(H:Hp)(Q:VK):Js td ty σ H Q=td σ H (Pc ty σ Q):=rfl
def mj{H:Hp}{a:Addr}{kvs:List (Key × V)}{k:Key}{v:V}{Q:VK}(e:H a=some (.dK kvs))(h:fD kvs k=some v)(q:Q v H):Nc Q (.ref a) (kV k) H:=⟨a,v,rfl,h ▸ xg.k e,q⟩
def MP(neg:Bool):R2:=λ y x H Q=>∃ a o,x=.ref a/\xg H a y o/\Q (.bl (if neg=true then !o.isSome else o.isSome)) H
def gO{neg:Bool}{H:Hp}{a:Addr}{kvs:List (Key × V)}{k:Key}{Q:VK}(e:H a=some (.dK kvs))(q:Q (.bl (if neg=true then !(fD kvs k).isSome else (fD kvs k).isSome)) H):MP neg (kV k) (.ref a) H Q:=⟨a,_,rfl,xg.k e,q⟩
section
variable {X:Cx}
def Ea(hu:X.A.units+1 < cLine):OpR X (compareOp .In) (MP false):=by
 intro pins s σ H x y v u Q I rx ry h;obtain⟨a,o,rfl,g,q⟩:=h;obtain rfl:u=Value.ref a:=ry;exact P6 hu I g rx λ s3 I3=>⟨.bl o.isSome,H,I3,rfl,q⟩
def zy(hu:X.A.units+1 < cLine):OpR X (compareOp .NotIn) (MP true):=by
 intro pins s σ H x y v u Q I rx ry h;obtain⟨a,o,rfl,g,q⟩:=h;obtain rfl:u=Value.ref a:=ry;exact IE hu I g rx λ s3 I3=>⟨.bl (!o.isSome),H,I3,rfl,q⟩
end
def Na(nx:St->Hp->Prop)(σ:St)(v x:V):VK:=λ y H=>∃ a H4,x=.ref a/\Jd H a y v H4/\nx σ H4
def Nb(ty:TE)(nx:St->Hp->Prop)(σ:St)(v:V):VK:=λ x H=>ty σ H (Na nx σ v x)
def LG(ty:TE)(nx:St->Hp->Prop)(σ:St)(v x:V)(H:Hp):Nb ty nx σ v x H=ty σ H (Na nx σ v x):=rfl
def Pb(td ty:TE)(nx:St->Hp->Prop)(σ:St):VK:=λ v H=>td σ H (Nb ty nx σ v)
def LH(td ty:TE)(nx:St->Hp->Prop)(σ:St)(v:V)(H:Hp):Pb td ty nx σ v H=td σ H (Nb ty nx σ v):=rfl
def GA(td ty tv:TE)(nx:St->Hp->Prop)(rt:VK)(bk ct:St->Hp->Prop)(σ:St)(H:Hp):Jw td ty tv ⟨nx,rt,bk,ct⟩ σ H=tv σ H (Pb td ty nx σ):=rfl
def iy{H:Hp}{a:Addr}{kvs:List (Key × V)}{k:Key}{v:V}{nx:St->Hp->Prop}{σ:St}(e:H a=some (.dK kvs))(hl:kvs.length < sizeLine)(q:nx σ (upd H a (.dK (lR kvs k v)))):Na nx σ v (.ref a) (kV k) H:=⟨a,_,rfl,Jd.k e hl,q⟩
section
variable {X:Cx}
end
def OI{α β:Type}(R1:α->V->Hp->Prop)(R2:β->V->Hp->Prop)(z:α × β)(x:V)(H:Hp):Prop:=∃ p q1 q2,x=.ref p/\H p=some (.tup [q1,q2])/\R1 z.1 q1 H/\R2 z.2 q2 H
def Fc{H:Hp}{α β:Type}{R1:α->V->Hp->Prop}{R2:β->V->Hp->Prop}(h1:∀ z y H H',R1 z y H->Ext H H'->R1 z y H')(h2:∀ z y H H',R2 z y H->Ext H H'->R2 z y H'){a b:Addr}{xs ys:List V}{zs:List α}{ws:List β}(ha:H a=some (.lst xs))(hb:H b=some (.lst ys))(al:Al (λ z y=>R1 z y H) zs xs)(bl:Al (λ z y=>R2 z y H) ws ys) :
  (∀ i z H',(zs.zip ws)[i]? = some z->Ext H H'->(Itz false false a b xs ys).go i H'/\∀ x aq,(Itz false false a b xs ys).yld i H' x aq->Ext H' aq/\OI R1 R2 z x aq)/\∀ H',Ext H H'->(Itz false false a b xs ys).stop (zs.zip ws).length H':=by
 have wk:=JY (ka:=false) (kb:=false) ha hb;refine⟨λ i z H' hz e=>?_,λ H' e=>?_⟩
 ·obtain⟨i1,i2⟩:=Qh.mp hz;rw [SO] at i1;have hx:xs[i]? = some (xs[i]'(by rw [al.1];omega)):=Qf _;have hy:ys[i]? = some (ys[i]'(by rw [bl.1];omega)):=Qf _;have g1:=al.2 i zs[i] _ (Qf _) hx;have g2:=bl.2 i ws[i] _ (Qf _) hy;generalize (xs[i]'(by rw [al.1];omega))=x0 at hx g1;generalize (ys[i]'(by rw [bl.1];omega))=y0 at hy g2
  have ar:(xs.zip ys)[i]? = some (x0,y0):=by
   rw [List.getElem?_zip_eq_some];exact⟨hx,hy⟩
  obtain⟨go,yd⟩:=wk.1 i _ H' ar e;refine⟨go,λ x aq y=>?_⟩;obtain⟨e2,p,hp,a3⟩:=yd x aq y;have ez:z=(zs[i],ws[i]):=by rw [←i2,List.getElem_zip]
  subst ez;exact⟨e2,p,x0,y0,hp,a3,h1 _ _ _ _ g1 (e.trans e2),h2 _ _ _ _ g2 (e.trans e2)⟩
 ·have:=wk.2 H' e
  rwa [show (zs.zip ws).length=(xs.zip ys).length by rw [SO,SO,al.1,bl.1]]
def tV(i:Nat):TE:=λ σ H Q=>match σ[i]? with
 | some (some v)=>Q v H
 | _=>False
def Ny(i:Nat):MJ i=tV i:=by
 funext σ H Q;refine propext ⟨λ ⟨v,e,q⟩=>?_,λ h=>?_⟩
 ·unfold tV;rw [e];exact q
 ·unfold tV at h;split at h
  ·rename_i v e;exact⟨v,e,h⟩
  ·exact h.elim
def KW{v:V}{σ:St}{H:Hp}{Q:VK}:tV 0 (some v::σ) H Q=Q v H:=rfl
def KU{a0:Option V}{v:V}{σ:St}{H:Hp}{Q:VK}:tV 1 (a0::some v::σ) H Q=Q v H:=rfl
def KS{a0 a1:Option V}{v:V}{σ:St}{H:Hp}{Q:VK}:tV 2 (a0::a1::some v::σ) H Q=Q v H:=rfl
def KR{a0 a1 a2:Option V}{v:V}{σ:St}{H:Hp}{Q:VK}:tV 3 (a0::a1::a2::some v::σ) H Q=Q v H:=rfl
def KQ{a0 a1 a2 a3:Option V}{v:V}{σ:St}{H:Hp}{Q:VK}:tV 4 (a0::a1::a2::a3::some v::σ) H Q=Q v H:=rfl
def KP{a0 a1 a2 a3 a4:Option V}{v:V}{σ:St}{H:Hp}{Q:VK}:tV 5 (a0::a1::a2::a3::a4::some v::σ) H Q=Q v H:=rfl
def KO{a0 a1 a2 a3 a4 a5:Option V}{v:V}{σ:St}{H:Hp}{Q:VK}:tV 6 (a0::a1::a2::a3::a4::a5::some v::σ) H Q=Q v H:=rfl
def KN{a0 a1 a2 a3 a4 a5 a6:Option V}{v:V}{σ:St}{H:Hp}{Q:VK}:tV 7 (a0::a1::a2::a3::a4::a5::a6::some v::σ) H Q=Q v H:=rfl
def KL{a0 a1 a2 a3 a4 a5 a6 a7:Option V}{v:V}{σ:St}{H:Hp}{Q:VK}:tV 8 (a0::a1::a2::a3::a4::a5::a6::a7::some v::σ) H Q=Q v H:=rfl
def KJ{a0 a1 a2 a3 a4 a5 a6 a7 a8:Option V}{v:V}{σ:St}{H:Hp}{Q:VK}:tV 9 (a0::a1::a2::a3::a4::a5::a6::a7::a8::some v::σ) H Q=Q v H:=rfl
def Gn{a0 a1 a2 a3 a4 a5 a6 a7 a8 a9:Option V}{v:V}{σ:St}{H:Hp}{Q:VK}:tV 10 (a0::a1::a2::a3::a4::a5::a6::a7::a8::a9::some v::σ) H Q=Q v H:=rfl
def Gm{a0 a1 a2 a3 a4 a5 a6 a7 a8 a9 aq:Option V}{v:V}{σ:St}{H:Hp}{Q:VK}:tV 11 (a0::a1::a2::a3::a4::a5::a6::a7::a8::a9::aq::some v::σ) H Q=Q v H:=rfl
def Gk{a0 a1 a2 a3 a4 a5 a6 a7 a8 a9 aq ar:Option V}{v:V}{σ:St}{H:Hp}{Q:VK}:tV 12 (a0::a1::a2::a3::a4::a5::a6::a7::a8::a9::aq::ar::some v::σ) H Q=Q v H:=rfl
def Gj{a0 a1 a2 a3 a4 a5 a6 a7 a8 a9 aq ar bb:Option V}{v:V}{σ:St}{H:Hp}{Q:VK}:tV 13 (a0::a1::a2::a3::a4::a5::a6::a7::a8::a9::aq::ar::bb::some v::σ) H Q=Q v H:=rfl
def Gi{a0 a1 a2 a3 a4 a5 a6 a7 a8 a9 aq ar bb bp:Option V}{v:V}{σ:St}{H:Hp}{Q:VK}:tV 14 (a0::a1::a2::a3::a4::a5::a6::a7::a8::a9::aq::ar::bb::bp::some v::σ) H Q=Q v H:=rfl
def Gh{a0 a1 a2 a3 a4 a5 a6 a7 a8 a9 aq ar bb bp bt:Option V}{v:V}{σ:St}{H:Hp}{Q:VK}:tV 15 (a0::a1::a2::a3::a4::a5::a6::a7::a8::a9::aq::ar::bb::bp::bt::some v::σ) H Q=Q v H:=rfl
def Gg{a0 a1 a2 a3 a4 a5 a6 a7 a8 a9 aq ar bb bp bt b1:Option V}{v:V}{σ:St}{H:Hp}{Q:VK}:tV 16 (a0::a1::a2::a3::a4::a5::a6::a7::a8::a9::aq::ar::bb::bp::bt::b1::some v::σ) H Q=Q v H:=rfl
def nI0(g:Int->Int->V):R2:=λ x y H Q=>match x,y with
 | .int i,.int j=>Q (g i j) H
 | _,_=>False
def N3(g:Int->Int->V)(i j:Int)(H:Hp)(Q:VK):nI0 g (.int i) (.int j) H Q=Q (g i j) H:=rfl
def mq(g:Int->Int->V):rI0 g=nI0 g:=by
 funext x y H Q;refine propext ⟨λ ⟨i,j,e,e',q⟩=>by subst e e';exact q,λ h=>?_⟩;unfold nI0 at h;split at h
 ·exact⟨_,_,rfl,rfl,h⟩
 ·exact h.elim
def nI(C:Int->Int->Prop)(g:Int->Int->V):R2:=λ x y H Q=>match x,y with
 | .int i,.int j=>C i j/\Q (g i j) H
 | _,_=>False
def PY(C:Int->Int->Prop)(g:Int->Int->V)(i j:Int)(H:Hp)(Q:VK):nI C g (.int i) (.int j) H Q=(C i j/\Q (g i j) H):=rfl
def vw(C:Int->Int->Prop)(g:Int->Int->V):rI C g=nI C g:=by
 funext x y H Q;refine propext ⟨λ ⟨i,j,e,e',q⟩=>by subst e e';exact q,λ h=>?_⟩;unfold nI at h;split at h
 ·exact⟨_,_,rfl,rfl,h⟩
 ·exact h.elim
def nU(g:Int->V):V->Hp->VK->Prop:=λ x H Q=>match x with
 | .int i=>Q (g i) H
 | _=>False
def PX(g:Int->V)(i:Int)(H:Hp)(Q:VK):nU g (.int i) H Q=Q (g i) H:=rfl
def NO(g:Int->V):rU g=nU g:=by
 funext x H Q;refine propext ⟨λ ⟨i,e,q⟩=>by subst e;exact q,λ h=>?_⟩;unfold nU at h;split at h
 ·exact⟨_,rfl,h⟩
 ·exact h.elim
def mx(Q:Bool->Hp->Prop):VK:=λ x H=>match x with
 | .bl k=>Q k H
 | _=>False
def Cy(Q:Bool->Hp->Prop)(k:Bool)(H:Hp):mx Q (.bl k) H=Q k H:=rfl
def Di(Q:Bool->Hp->Prop):JJ Q=mx Q:=by
 funext x H;refine propext ⟨λ ⟨k,e,q⟩=>by subst e;exact q,λ h=>?_⟩;unfold mx at h;split at h
 ·exact⟨_,rfl,h⟩
 ·exact h.elim
def xk(t:TE):TT:=λ σ H Q=>t σ H (mx Q)
def GH(t:TE)(σ:St)(H:Hp)(Q:Bool->Hp->Prop):xk t σ H Q=t σ H (mx Q):=rfl
def uP(t:TE):Jm t=xk t:=by
 funext σ H Q
 show t σ H (JJ Q)=t σ H (mx Q)
 rw [Di]
def zA(t:TE):tB t=xk t:=uP t
def xq(tb:TE)(σ:St)(Q:VK):VK:=λ x H=>match x with
 | .bl c=>if c=true then tb σ H Q else Q (.bl false) H
 | _=>False
def Ht(tb:TE)(σ:St)(Q:VK)(c:Bool)(H:Hp):xq tb σ Q (.bl c) H=(if c=true then tb σ H Q else Q (.bl false) H):=rfl
def ER(ta tb:TE):TE:=λ σ H Q=>ta σ H (xq tb σ Q)
def GR(ta tb:TE)(σ:St)(H:Hp)(Q:VK):ER ta tb σ H Q=ta σ H (xq tb σ Q):=rfl
def Cm(ta tb:TE):Ju ta tb=ER ta tb:=by
 funext σ H Q
 show ta σ H (Oz tb σ Q)=ta σ H (xq tb σ Q)
 congr 1;funext x H;refine propext ⟨λ ⟨k,e,q⟩=>by subst e;exact q,λ h=>?_⟩;unfold xq at h;split at h
 ·exact⟨_,rfl,h⟩
 ·exact h.elim
def xm(Q:VK):VK:=λ x H=>match x with
 | .bl c=>Q (.bl (!c)) H
 | _=>False
def Hb(Q:VK)(c:Bool)(H:Hp):xm Q (.bl c) H=Q (.bl (!c)) H:=rfl
def EK(ta:TE):TE:=λ σ H Q=>ta σ H (xm Q)
def GJ(ta:TE)(σ:St)(H:Hp)(Q:VK):EK ta σ H Q=ta σ H (xm Q):=rfl
def Ck(ta:TE):Jp ta=EK ta:=by
 funext σ H Q
 show ta σ H (Ov Q)=ta σ H (xm Q)
 congr 1;funext x H;refine propext ⟨λ ⟨k,e,q⟩=>by subst e;exact q,λ h=>?_⟩;unfold xm at h;split at h
 ·exact⟨_,rfl,h⟩
 ·exact h.elim
def vC(r':R2)(tc:TE)(σ:St)(y:V)(Q:VK):VK:=λ z H=>match z with
 | .bl k=>if k=true then tc σ H (MB r' y Q) else Q (.bl false) H
 | _=>False
def Ho(r':R2)(tc:TE)(σ:St)(y:V)(Q:VK)(k:Bool)(H:Hp):vC r' tc σ y Q (.bl k) H=(if k=true then tc σ H (MB r' y Q) else Q (.bl false) H):=rfl
def Ib(r':R2)(tc:TE)(σ:St)(y:V)(Q:VK):Nf r' tc σ y Q=vC r' tc σ y Q:=by
 funext z H;refine propext ⟨λ ⟨k,e,q⟩=>by subst e;exact q,λ h=>?_⟩;unfold vC at h;split at h
 ·exact⟨_,rfl,h⟩
 ·exact h.elim
def By(r r':R2)(tc:TE)(σ:St)(x:V)(Q:VK):VK:=λ y H=>r x y H (vC r' tc σ y Q)
def Hq(r r':R2)(tc:TE)(σ:St)(x y:V)(Q:VK)(H:Hp):By r r' tc σ x Q y H=r x y H (vC r' tc σ y Q):=rfl
def Bz(r r':R2)(tb tc:TE)(σ:St)(Q:VK):VK:=λ x H=>tb σ H (By r r' tc σ x Q)
def Hr(r r':R2)(tb tc:TE)(σ:St)(Q:VK)(x:V)(H:Hp):Bz r r' tb tc σ Q x H=tb σ H (By r r' tc σ x Q):=rfl
def xY(r r':R2)(ta tb tc:TE):TE:=λ σ H Q=>ta σ H (Bz r r' tb tc σ Q)
def Cw(r r':R2)(ta tb tc:TE)(σ:St)(H:Hp)(Q:VK):xY r r' ta tb tc σ H Q=ta σ H (Bz r r' tb tc σ Q):=rfl
def zB(r r':R2)(ta tb tc:TE):D4 r r' ta tb tc=xY r r' ta tb tc:=by
 funext σ H Q
 show ta σ H (P5 r r' tb tc σ Q)=ta σ H (Bz r r' tb tc σ Q)
 congr 1;funext x H1
 show tb σ H1 (Pd r r' tc σ x Q)=tb σ H1 (By r r' tc σ x Q)
 congr 1;funext y H2
 show r x y H2 (Nf r' tc σ y Q)=r x y H2 (vC r' tc σ y Q)
 rw [Ib]
def BC:TGs:=λ vs σ H Q=>match vs with
 | []=>Q σ H
 | _=>False
def Hz(σ:St)(H:Hp)(Q:St->Hp->Prop):BC [] σ H Q=Q σ H:=rfl
def Ih:Po=BC:=by
 funext vs σ H Q;refine propext ⟨λ ⟨e,q⟩=>by subst e;exact q,λ h=>?_⟩;unfold BC at h;split at h
 ·exact⟨rfl,h⟩
 ·exact h.elim
def uq(t:TG)(u:TGs):TGs:=λ vs σ H Q=>match vs with
 | v::r=>t v σ H (kGs u r Q)
 | _=>False
def CJ(t:TG)(u:TGs)(v:V)(r:List V)(σ:St)(H:Hp)(Q:St->Hp->Prop):uq t u (v::r) σ H Q=t v σ H (kGs u r Q):=rfl
def Dw(t:TG)(u:TGs):JT t u=uq t u:=by
 funext vs σ H Q;refine propext ⟨λ ⟨v,r,e,q⟩=>by subst e;exact q,λ h=>?_⟩;unfold uq at h;split at h
 ·exact⟨_,_,rfl,h⟩
 ·exact h.elim
def jB{α0:Type}{f:α0->List V}{B:α0->Prop}(inj:∀ a a',f a=f a'->a=a')(a:α0):(∃ a',f a=f a'/\B a')=B a:=propext ⟨λ ⟨a',e,q⟩=>by obtain rfl:=inj _ _ e;exact q,λ q=>⟨a,rfl,q⟩⟩
def iW{α0:Type}{f:α0->List V}{B:α0->Prop}{vs:List V}{n:Nat}(h:∃ a,vs=f a/\B a)(l:∀ a,(f a).length=n):vs.length=n:=by
 obtain⟨_,rfl,_⟩:=h;exact l _
def lN{α0 α1:Type}{f:α0->α1->List V}{B:α0->α1->Prop}(inj:∀ a b a' b',f a b=f a' b'->a=a'/\b=b')(a:α0)(b:α1):(∃ a' b',f a b=f a' b'/\B a' b')=B a b:=propext ⟨λ ⟨a',b',e,q⟩=>by obtain⟨rfl,rfl⟩:=inj _ _ _ _ e;exact q,λ q=>⟨a,b,rfl,q⟩⟩
def lO{α0 α1:Type}{f:α0->α1->List V}{B:α0->α1->Prop}{vs:List V}{n:Nat}(h:∃ a b,vs=f a b/\B a b)(l:∀ a b,(f a b).length=n):vs.length=n:=by
 obtain⟨_,_,rfl,_⟩:=h;exact l _ _
def wX{α0 α1 α2:Type}{f:α0->α1->α2->List V}{B:α0->α1->α2->Prop}(inj:∀ a b c a' b' c',f a b c=f a' b' c'->a=a'/\b=b'/\c=c')(a:α0)(b:α1)(c:α2):(∃ a' b' c',f a b c=f a' b' c'/\B a' b' c')=B a b c:=propext ⟨λ ⟨a',b',c',e,q⟩=>by obtain⟨rfl,rfl,rfl⟩:=inj _ _ _ _ _ _ e;exact q,λ q=>⟨a,b,c,rfl,q⟩⟩
def wY{α0 α1 α2:Type}{f:α0->α1->α2->List V}{B:α0->α1->α2->Prop}{vs:List V}{n:Nat}(h:∃ a b c,vs=f a b c/\B a b c)(l:∀ a b c,(f a b c).length=n):vs.length=n:=by
 obtain⟨_,_,_,rfl,_⟩:=h;exact l _ _ _
def PC{α0 α1 α2 α3:Type}{f:α0->α1->α2->α3->List V}{B:α0->α1->α2->α3->Prop}(inj:∀ a b c d a' b' c' d',f a b c d=f a' b' c' d'->a=a'/\b=b'/\c=c'/\d=d')(a:α0)(b:α1)(c:α2)(d:α3):(∃ a' b' c' d',f a b c d=f a' b' c' d'/\B a' b' c' d')=B a b c d:=propext ⟨λ ⟨a',b',c',d',e,q⟩=>by obtain⟨rfl,rfl,rfl,rfl⟩:=inj _ _ _ _ _ _ _ _ e;exact q,λ q=>⟨a,b,c,d,rfl,q⟩⟩
def PD{α0 α1 α2 α3:Type}{f:α0->α1->α2->α3->List V}{B:α0->α1->α2->α3->Prop}{vs:List V}{n:Nat}(h:∃ a b c d,vs=f a b c d/\B a b c d)(l:∀ a b c d,(f a b c d).length=n):vs.length=n:=by
 obtain⟨_,_,_,_,rfl,_⟩:=h;exact l _ _ _ _
def P1{P:List Value->Prop}(h:P []):∀ us:List Value,us.length=0->P us:=λ us e=>by
 cases us with
 | nil=>exact h
 | cons a r=>cases e
def gL{P:List Value->Prop}(h:∀ a,P [a]):∀ us:List Value,us.length=1->P us:=λ us e=>by
 cases us with
 | nil=>cases e
 | cons x r=>exact P1 (P:=λ r=>P (x::r)) (h x) r (To e)
def jL{P:List Value->Prop}(h:∀ a b,P [a,b]):∀ us:List Value,us.length=2->P us:=λ us e=>by
 cases us with
 | nil=>cases e
 | cons x r=>exact gL (P:=λ r=>P (x::r)) (h x) r (To e)
def vk{P:List Value->Prop}(h:∀ a b c,P [a,b,c]):∀ us:List Value,us.length=3->P us:=λ us e=>by
 cases us with
 | nil=>cases e
 | cons x r=>exact jL (P:=λ r=>P (x::r)) (h x) r (To e)
def P0{P:List Value->Prop}(h:∀ a b c d,P [a,b,c,d]):∀ us:List Value,us.length=4->P us:=λ us e=>by
 cases us with
 | nil=>cases e
 | cons x r=>exact vk (P:=λ r=>P (x::r)) (h x) r (To e)
section
variable {X:Cx}
def pvN(i:Nat){x:Str}{pos:Pos}(hN:X.N[i]? = some x:=by rfl)(hv:Vis X.env.scope x:=by first|exact Or.inl rfl|exact Or.inr (Or.inl rfl)|exact Or.inr (Or.inr rfl))(hd:(x == ("__debug__":Str))=false:=by decide)
  (aq:(x == ("__classdict__":Str))=false:=by decide):PE X (.Name x pos) (tV i):=by rw [←Ny];exact pv i hN hv hd aq
def bF:OpR X (binaryOp .Add) (nI0 λ i j=>.int (i+j)):=by rw [←mq];exact ui
def js:OpR X (binaryOp .Sub) (nI0 λ i j=>.int (i - j)):=by rw [←mq];exact Ku
def JE:OpR X (compareOp .Lt) (nI0 λ i j=>.bl (decide (i < j))):=by rw [←mq];exact JC
def EI:OpR X (compareOp .LtE) (nI0 λ i j=>.bl (decide (i<=j))):=by rw [←mq];exact NF
def vt:OpR X (compareOp .Gt) (nI0 λ i j=>.bl (decide (j < i))):=by rw [←mq];exact JD
def NI:OpR X (compareOp .GtE) (nI0 λ i j=>.bl (decide (j<=i))):=by rw [←mq];exact NG
def gR:OpR X (binaryOp .Mult) (nI rJ λ i j=>.int (i * j)):=by rw [←vw];exact jr
def FX:OpR X (binaryOp .Mult) (nI E9 λ i j=>.int (i * j)):=by rw [←vw];exact FU
def gX:OpR X (binaryOp .FloorDiv) (nI Nw λ i j=>.int (i / j)):=by rw [←vw];exact FV
def Cj:OpR X (binaryOp .FloorDiv) (nI Fb λ i j=>.int (i.fdiv j)):=by rw [←vw];exact Ci
def fA:OpR X (binaryOp .Mod) (nI (λ _ j=>0 < j) λ i j=>.int (i % j)):=by rw [←vw];exact j8
def kd:OpR X (binaryOp .Pow) (nI Nv λ i j=>.int (i ^ j.toNat)):=by rw [←vw];exact Kx
def nj:UnR X (unaryOp .USub) (nU λ i=>.int (-i)):=by rw [←NO];exact JZ
variable {a b c d e:Expr}{ta tb tc td t:TE}{pos:Pos}
def B3{op:CmpOp}{r:R2}(ho:OpR X (compareOp op) r)(ha:PE X a ta)(hb:PE X b tb)(hm:behindInMarks op b=false):PT X (.Compare a [op] [b] pos) (xk (tOp r ta tb)):=by rw [←uP];exact sE ho ha hb hm
def dZ(h:PE X e t)(he:∀ whole,isTrue e X.env whole=(do let v ←whole;standAt e.pos;holding [v] (truthy v)):=by intro _;rfl):PT X e (xk t):=by rw [←zA];exact Kj h he
def zw{op aq:CmpOp}{r r':R2}(ho:OpR X (compareOp op) r)(ar:OpR X (compareOp aq) r')(ha:PE X a ta)(hb:PE X b tb)(hc:PE X c tc)
  (hm:lastMarks [op,aq] [b,c]=false:=by with_unfolding_all rfl):PE X (.Compare a [op,aq] [b,c] pos) (xY r r' ta tb tc):=by rw [←zB];exact Ce ho ar ha hb hc hm
variable {cB:List Expr}
def FP(ha:PE X a ta)(hb:PE X (.BoolOp .And (b::cB) pos) tb):PE X (.BoolOp .And (a::b::cB) pos) (ER ta tb):=by rw [←Cm];exact Kt ha hb
def yv(ha:PE X a ta):PE X (.UnaryOp .Not a pos) (EK ta):=by rw [←Ck];exact Ks ha
def aO:PGs X [] BC:=by rw [←Ih];exact FG
def zr{e:Expr}{es:List Expr}{t:TG}{u:TGs}(h1:PG X e t)(h2:PGs X es u)
  (hs:(assignEach (e::es) X.env).map (·.2)=assign e X.env::(assignEach es X.env).map (·.2):=by rfl):PGs X (e::es) (uq t u):=by rw [←Dw];exact B7 h1 h2 hs
end
def Ej{c:TT}{t u:TS}{nx:St->Hp->Prop}{rt:VK}{bk ct:St->Hp->Prop}{σ:St}{H:Hp}(R:St->Hp->Prop)(h:∀ aq:St->Hp->Prop,(∀ σ' H',R σ' H'->aq σ' H')->Ml c t u ⟨aq,rt,bk,ct⟩ σ H)(k:∀ σ' H',R σ' H'->nx σ' H'):Ml c t u ⟨nx,rt,bk,ct⟩ σ H:=h nx k
def Cc{X:Cx}{e:Expr}{f:Str}{pos:Pos}{ta:TE}{K:W.Frag}(hK:X.K=K)(he:PE X e ta)(hb:attributeBase e f X.env (eval e X.env)=eval e X.env):PE X (.Attribute e f pos) (MX K ta f):=by subst hK;exact yw he hb
def M5(k:Int)(H:Hp)(Q:VK):List V->Prop:=λ xs=>0<=k/\k<=4096/\xs.length * k.toNat<=sizeLine/\pd (.lst (List.replicate k.toNat xs).flatten) H Q
def Ls(k:Int)(H:Hp)(Q:VK)(xs:List V):M5 k H Q xs=(0<=k/\k<=4096/\xs.length * k.toNat<=sizeLine/\pd (.lst (List.replicate k.toNat xs).flatten) H Q):=rfl
def MW:R2:=λ x y H Q=>match x,y with
 | .ref l,.int k=>aX (aP H l) (M5 k H Q)
 | _,_=>False
def Lh(l:Addr)(k:Int)(H:Hp)(Q:VK):MW (.ref l) (.int k) H Q=aX (aP H l) (M5 k H Q):=rfl
def yz{X:Cx}:OpR X (binaryOp .Mult) MW:=Kv.mono λ x y H Q h=>by
 unfold MW at h;split at h
 ·rename_i l k;obtain⟨xs,e,h0,h1,h2,q⟩:=ak h;exact⟨l,k,xs,rfl,rfl,cC e,by omega,by omega,h2,q.to⟩
 ·exact h.elim
section
variable {X:Cx}
end
section
variable {prog:Program}{w:World}{A:Around}{E:Value->Shared->Prop}{s:Shared}
end
section
variable {X:Cx}
end
def yF:∀ {kvs:List (Key × V)}{xs:List (Key × Value)},KV kvs xs->∀ {i:Nat}{p:Key × V},kvs[i]? = some p->∃ q,xs[i]? = some q/\p.1=q.1/\bA p.2 q.2
 | _,_,.nil,i,q,h=>by simp at h
 | _::_,q::_,.cons h t,0,p,hq=>by cases hq;exact⟨q,rfl,h⟩
 | _::_,_::_,.cons h t,i+1,p,hq=>yF t (i:=i) (by simpa using hq)
def Itd(a:Addr)(ob:Obj)(kvs:List (Key × V)):It:=
 ⟨λ i H=>H a=some (.frz ob (.dK kvs))/\i < kvs.length,λ i H x H'=>H'=H/\∃ p,kvs[i]? = some p/\x=kV p.1,λ i H=>H a=some (.frz ob (.dK kvs))/\kvs.length<=i⟩
def BX:∀ {k:Key}{u:Value},rL k u=true->bA (kV k) u
 | .inl i,u,h=>by
  rcases aW h with ⟨j,t,e1,e2⟩|⟨j,t,e1,e2⟩
  ·cases e1;exact⟨t,e2⟩
  ·cases e1
 | .inr x,u,h=>by
  rcases aW h with ⟨j,t,e1,e2⟩|⟨j,t,e1,e2⟩
  ·cases e1
  ·cases e1;exact⟨t,e2⟩
def Pw(P:Program)(w:World)(ob:Obj)(vs:List (Key × Value))(ep:Nat):Prop:=∀ (h:Heap) (a:Addr),h.get? a=some ob->h.DictAt (bU P w) a vs ep
def zk{P:Program}{w:World}{K:W.Frag}{tg:Expr}(a it:Addr)(ob:Obj)(kvs:List (Key × V))(vs:List (Key × Value))(ep:Nat)(kx:KV kvs vs)(dx:Pw P w ob vs ep):Bo P w K tg (Itd a ob kvs) [it] it (λ i h=>h.IsKeyIter it a i vs.length ep) where
 mem:=by simp
 obj:=λ i h st b hb=>by
  have e:b=it:=by simpa using hb
  subst e;obtain⟨o,e,c,d⟩:=st;exact⟨o,e,λ v z=>by rw [d] at z;cases z⟩
 keep:=λ i h h' st k=>st.at λ o e=>k it (by simp) o e
 item:=by
  intro X hP hw hK hc i pins s σ H E I hf st hg;subst hP hw hK;obtain⟨ha,hi⟩:=hg;have aq:=(show bg X.prog X.w H s.heap a (.frz ob (.dK kvs)) from I.hok a _ ha).1;have hlen:kvs.length=vs.length:=SV kx;obtain⟨q,hq,hk,hr⟩:=yF kx (Qf hi);obtain⟨f0,f1,f2,f3,f4,f5⟩:=hf it (by simp);refine wpAny_pyNext_dict_item st (dx _ a aq) hq λ key h' ar a3 a4=>?_;have I1:Inv X pins σ H { s with heap:=h' }:=I.turned (t':=s.toks) (λ b o hb e=>a4.extBut b o hb e) f0 f1 f3 f4 f5;obtain⟨o,e,c,d⟩:=id a3;refine⟨key,rfl,BB (s:={ s with heap:=h' }) e c d (by decide) ⟨kV kvs[i].1,H,I1,?_,⟨rfl,kvs[i],Qf hi,rfl⟩,a3,λ b hb=>(hf b hb).1⟩⟩;rw [hk];exact BX ar
 done:=by
  intro X hP hw hK hc i pins s σ H E I hf st hg;subst hP hw hK;obtain⟨ha,hi⟩:=hg;have aq:=(show bg X.prog X.w H s.heap a (.frz ob (.dK kvs)) from I.hok a _ ha).1;have hlen:kvs.length=vs.length:=SV kx;obtain⟨f0,f1,f2,f3,f4,f5⟩:=hf it (by simp);exact wpAny_pyNext_dict_end (I.ok.hd hc) st (dx _ a aq) (by simp;omega) λ h' eb=>⟨rfl,I.turned (t':=s.toks) (λ b o hb e=>eb b o hb e) f0 f1 f3 f4 f5⟩
 self:=λ _ _ _ _ _ st h=>wpAny_pyIter_keyiter st h
def Mw(R:It->Hp->Prop):VK:=λ x H1=>∃ a kvs,x=.ref a/\H1 a=some (.dK kvs)/\∀ ob,R (Itd a ob kvs) (upd H1 a (.frz ob (.dK kvs)))
def JS(tl:TE):TI:=λ σ H R=>tl σ H (Mw R)
def Hy(tl:TE)(σ:St)(H:Hp)(R:It->Hp->Prop):JS tl σ H R=tl σ H (Mw R):=rfl
def nz{X:Cx}{tg l:Expr}{tl:TE}(hl:PE X l tl):PI X tg l (JS tl):=by
 intro pins s σ H R I h;refine thn (hl pins s σ H _ I h) λ v s1 ⟨x,H1,I1,r1,q1⟩=>?_;obtain⟨a,kvs,e,ha,q⟩:=q1;subst e;cases r1;have hO:bg X.prog X.w H1 s1.heap a (.dK kvs):=I1.hok a _ ha;obtain⟨z0,lo,vs,kx,dd⟩:=id hO;obtain⟨ep,aq⟩:=dd.dictAt;obtain⟨ob,es,ho,cB⟩:=id aq;have dx:Pw X.prog X.w ob vs ep:=λ h b hb=>⟨ob,es,hb,cB⟩;have ar:bg X.prog X.w (upd H1 a (.frz ob (.dK kvs))) s1.heap a (.frz ob (.dK kvs)):=⟨ho,⟨z0,lo,vs,kx,dd⟩⟩;have I2:=I1.write (t':=s1.toks) (x:=a) (e:=a) (o:=.frz ob (.dK kvs)) (h':=s1.heap) (by rw [ha];trivial) (.inl rfl) (λ b u _ e=>e) ⟨ob,ho⟩ ar;refine wpAny_pyIter_dict lo aq ?_;refine⟨s1.heap.objs.size,[s1.heap.objs.size],_,_,_,rfl,I2.kept (t':=s1.toks) λ b o e=>Qg _ e,zk a _ ob kvs vs ep kx dx,⟨_,Qp _ rfl,rfl,rfl⟩,λ b hb=>?_,q ob⟩;have e:b=s1.heap.objs.size:=by simpa using hb
 subst e;exact I2.fpOk (Qi _) (I2.hok.fresh (Qi _))
def Inv.thaw{X:Cx}{pins:List (Addr × Obj)}{σ:St}{H:Hp}{s:Shared}{a:Addr}{ob:Obj}{kvs:List (Key × V)}(I:Inv X pins σ H s)(ha:H a=some (.frz ob (.dK kvs)))(hn:∀ o u,X.H₀ a ≠ some (.frz o u)):Inv X pins σ (upd H a (.dK kvs)) s:=by
 have ne:∀ b,H b=none->b ≠ a:=λ b e z=>by rw [z,ha] at e;cases e
 have aq:∀ b,H b=none->upd H a (.dK kvs) b=none:=λ b e=>by rw [ae (ne b e)];exact e
 refine⟨I.ok,I.os,I.bare,⟨I.base.keep,I.base.slot,λ b o e n hx=>aq b (I.base.free b o e n hx),I.base.there,λ b xs e=>?_,λ b o u e=>?_,λ b ps e=>?_⟩,I.loc,I.cell,aq _ I.free,λ x c e=>aq _ (I.freeC x c e),λ p hp=>?_,λ b u e=>?_,I.len⟩
 ·have h:=I.base.tups b xs e;rw [ae (λ z=>by rw [z,ha] at h;cases h)];exact h
 ·have h:=I.base.frzs b o u e;rw [ae (λ z=>hn o u (by rw [←z];exact e))];exact h
 ·obtain⟨m,h⟩:=I.base.tbls b ps e;exact⟨m,by rw [ae (λ z=>by rw [z,ha] at h;cases h)];exact h⟩
 ·obtain⟨h1,h2,h3⟩:=I.pin p hp;exact⟨h1,aq _ h2,h3⟩
 ·have stay:∀ (c:Addr) (v:HO),bg X.prog X.w H s.heap c v->bg X.prog X.w (upd H a (.dK kvs)) s.heap c v:=λ c v x=>x.stay (λ _ _ _ q=>q) (λ d q=>by rw [ae (λ z=>by rw [z,ha] at q;cases q)];exact q) (λ d y q=>by rw [ae (λ z=>by rw [z,ha] at q;cases q)];exact q) λ d xs q=>by rw [ae (λ z=>by rw [z,ha] at q;cases q)];exact q
  by_cases hb:b=a
  ·subst hb;rw [af] at e;cases e;exact stay _ _ (show bg X.prog X.w H s.heap b (.frz ob (.dK kvs)) from I.hok b _ ha).2
  ·rw [ae hb] at e;exact stay b u (I.hok b u e)
def rM(H:Hp)(Q:VK):VK:=λ v H'=>∃ a ob kvs aq,H a=some (.dK aq)/\H' a=some (.frz ob (.dK kvs))/\Q v (upd H' a (.dK kvs))
def JF(t:TE):TE:=λ σ H Q=>t σ H (rM H Q)
def GG(t:TE)(σ:St)(H:Hp)(Q:VK):JF t σ H Q=t σ H (rM H Q):=rfl
def FI{X:Cx}{e:Expr}{t:TE}(h:PE X e t):PE X e (JF t):=by
 intro pins s σ H Q I hh;refine thn (h pins s σ H _ I hh) λ u s1 ⟨v,H1,I1,r1,a,ob,kvs,aq,h0,hf,q⟩=>?_;exact⟨v,_,I1.thaw hf λ o w z=>(by have:=I.base.frzs a o w z;rw [h0] at this;cases this),r1,q⟩
def Ext.thaw{H H1:Hp}{a:Addr}{ob:Obj}{kvs:List (Key × V)}(ha:H a=some (.dK kvs))(e:Ext (upd H a (.frz ob (.dK kvs))) H1):Ext H (upd H1 a (.dK kvs)):=by
 have h1:∀ b,(H b).isSome=true->upd H1 a (.dK kvs) b=H b:=λ b hb=>by
  by_cases hba:b=a
  ·rw [hba,af,ha]
  ·rw [ae hba,e.1 b (by rw [ae hba];exact hb),ae hba]
 refine⟨h1,λ K b xs h=>?_⟩
 rcases h with (h|⟨o,h⟩)|h
 ·exact .inl (.inl (by rw [h1 b (by rw [h];rfl)];exact h))
 ·exact .inl (.inr ⟨o,by rw [h1 b (by rw [h];rfl)];exact h⟩)
 ·exact .inr h
section
variable {k:Nat}{g:TG}{tt:TT}{te:TE}{σ:St}{Q:VK}{H:Hp}
def DY{a:Addr}{kvs:List (Key × V)}(c:Key × V->Bool)(f:Key × V->V)(ha:H a=some (.dK kvs))(hl:kvs.length<=sizeLine)
  (hs:∀ D ob z H' N1 N0,z∈kvs->H D=none->Ext (upd H a (.frz ob (.dK kvs))) H'->H' a=some (.frz ob (.dK kvs))->(c z=true->∀ ar,Ext H' ar->N1 (f z) ar)->(c z=false->∀ ar,Ext H' ar->N0 ar)->g (kV z.1) (List.replicate k none++σ) H' (kCm k tt te σ N1 N0))
  (hd:∀ D H',H D=none->Ext H H'->H' D=some (.lst ((kvs.filter c).map f))->Q (.ref D) H'):Mw (rP k g tt te σ (rM H Q)) (.ref a) H:=by
 refine⟨a,kvs,rfl,ha,λ ob=>?_⟩;have aq:upd H a (.frz ob (.dK kvs)) a=some (.frz ob (.dK kvs)):=af;refine bK kvs c f (λ z x H'=>x=kV z.1/\H' a=some (.frz ob (.dK kvs))) (λ i z H' hz e=>?_) (λ H' e=>?_) hl (λ D z x H' N1 N0 hz hD e p k1 k0=>?_) λ D H' hD e a4=>?_
 ·have h1:H' a=some (.frz ob (.dK kvs)):=by rw [e.1 a (by rw [aq];rfl)];exact aq
  refine⟨⟨h1,(Qh.mp hz).1⟩,λ x ar ⟨e1,p,hp,ex⟩=>?_⟩;rw [hz] at hp;cases hp;subst e1;exact⟨Ext.refl _,ex,h1⟩
 ·exact⟨by rw [e.1 a (by rw [aq];rfl)];exact aq,Qi _⟩
 ·obtain⟨rfl,hp⟩:=p;exact hs D ob z H' N1 N0 hz (by rwa [ae (λ z=>by rw [z,aq] at hD;cases hD)] at hD) e hp k1 k0
 ·have a3:D ≠ a:=λ z=>by rw [z,aq] at hD;cases hD
  refine⟨a,ob,kvs,kvs,ha,by rw [e.1 a (by rw [aq];rfl)];exact aq,hd D _ (by rwa [ae a3] at hD) (Ext.thaw ha e) (by rw [ae a3];exact a4)⟩
end
structure IsC(K:W.Frag)(C:Addr):Prop where
 cl:Cls K C
 fc:W.findIn K (.ref C) "__class__"=some (some (.builtin "object.__class__"))
 ocs:W.specialIn K (.builtin "object.__class__") "__get__"=some (some (.builtin "getset_descriptor.__get__"))
 oct:W.takesIn K (.builtin "object.__class__")=some true
 mo:W.mroIn K C (.type "object")=some true
section
variable {X:Cx}
end
section
variable {prog:Program}{w:World}{A:Around}{E:Value->Shared->Prop}{K:Frag}{x C dx:Addr}{s:Shared}{name:Str}{v:Value}
end
section
variable {X:Cx}{e o value:Expr}{ta tv:TE}{f:Str}{pos pos':Pos}
end
open Sem (wp)
open AutoSeq1 (wpAny_loadPart')
section
variable {X:Cx}
end
def BE(o:Obj):Prop:=∃ vs,o.data=.fields vs/\vs[2]? = some .none
section
variable {prog:Program}{w:World}{A:Around}{E:Value->Shared->Prop}{s:Shared}
end
def Pr(X:Cx):Prop:=∃ (e:Addr) (oe:Obj) (u:HO),X.A.handled=some (.ref e)/\X.H₀ e=some (.frz oe u)/\BE oe
structure Qc(P:Program)(w:World)(K:W.Frag)(tg:Expr)(J:It)(fp:List Addr)(it:Addr)(tn:Nat->Heap->Prop):Prop where
 mem:it∈fp
 obj:∀ i h,tn i h->∀ b∈fp,∃ o,h.get? b=some o/\∀ v,o.data ≠ .cell v
 keep:∀ i h h',tn i h->(∀ b∈fp,∀ o,h.get? b=some o->h'.get? b=some o)->tn i h'
 item:∀ (X:Cx),X.prog=P->X.w=w->X.K=K->Pr X->∀ (i:Nat) (pins:List (Addr × Obj)) (s:Shared) (σ:St) (H:Hp) (E:Value->Shared->Prop),Inv X pins σ H s->(∀ b∈fp,mi X pins H b)->tn i s.heap->J.go i H →
  wpAny (model P w) X.A (pyNext (.ref it)) (λ r s1=>∃ u,r=some u /\
   wpAny (model P w) X.A (letOwnedTupleGo tg (.ref it) u) (λ _ s2=>∃ x H',Inv X pins σ H' s2/\bA x u/\J.yld i H x H'/\tn (i+1) s2.heap/\∀ b∈fp,H' b=none) E s1) E s
 done:∀ (X:Cx),X.prog=P->X.w=w->X.K=K->Pr X->∀ (i:Nat) (pins:List (Addr × Obj)) (s:Shared) (σ:St) (H:Hp) (E:Value->Shared->Prop),Inv X pins σ H s->(∀ b∈fp,mi X pins H b)->tn i s.heap->J.stop i H →
  wpAny (model P w) X.A (pyNext (.ref it)) (λ r s1=>r=none/\Inv X pins σ H s1) E s
section
variable {X:Cx}{tg:Expr}
end
structure OG(k:Nat)(e:Addr)(A:Around):Prop where
 hd:A.handled=some (.ref e)
 dp:A.depth+3 * k+5 < recursionLimit
 un:A.units+16 * k+200 < cLine
structure Qd(P:Program)(w:World)(K:W.Frag)(mg:Str->Option Value)(base:Heap)(CX:CXT)(k:Nat)(f:Addr)(fd:FuncData)(ps:List Str)(sp:Sp):Prop where
 len:∀ vs H Q E,sp vs H Q E->vs.length=ps.length
 run:∀ (A:Around) (outer:List Env) (s:Shared) (H:Hp) (args:Args) (us:List Value) (vs:List V) (Q:VK) (E:XK) (e:Addr) (oe:Obj) (u:HO),OG k e A->H e=some (.frz oe u)->BE oe->xc P w K mg base A outer s H->BindsTo s fd args (ps.zip us)->bf vs us->sp vs H Q E →
  codeAny (model P w) A (.call (.ref f) args) (CR CX outer P w H s Q E) s
section
variable {X:Cx}
end
section
variable {prog:Program}{w:World}{A:Around}{E:Value->Shared->Prop}{s:Shared}
structure Pz(z TI TO i j l:Addr)(f g e:List Addr):Prop where
 ti:TI ≠ z/\TI ≠ TO/\TI ≠ i/\TI ≠ j/\TI ≠ l
 zt:z ≠ TO
 zf:z ∉ f
 zg:z ∉ g
 ze:z ∉ e
 tf:TO ∉ f
 tg:TO ∉ g
 te:TO ∉ e
 ig:i ∉ g
 ie:i ∉ e
 jf:j ∉ f
 je:j ∉ e
 lf:l ∉ f
 lg:l ∉ g
variable {z TI TO i j l:Addr}{f g e:List Addr}{ti tj tl:Nat->Heap->Prop}{vi vj vl:Nat->Option Value}{k m n:Nat}{x y u a b c:Value}
end
section
variable {prog:Program}{w:World}{A:Around}{E:Value->Shared->Prop}{s:Shared}
end
section
variable {X:Cx}
end
section
variable {X:Cx}
end
def Ew(X:Cx)(f:Value)(ks:List Str)(r:List V->List V->Hp->VK->Prop):Prop:=∀ pins s σ H vs us zs ws Q,Inv X pins σ H s->bf vs us->bf zs ws->r vs zs H Q->wpAny (model X.prog X.w) X.A (call f us (ks.zip ws)) (EP X pins σ Q) X.xe s
def Nh(r:List V->List V->Hp->VK->Prop)(Q:VK)(vs:List V):List V->Hp->Prop:=λ zs H=>r vs zs H Q
def LN(r:List V->List V->Hp->VK->Prop)(Q:VK)(vs zs:List V)(H:Hp):Nh r Q vs zs H=r vs zs H Q:=rfl
def Ni(r:List V->List V->Hp->VK->Prop)(tk:TA)(σ:St)(Q:VK):List V->Hp->Prop:=λ vs H=>tk σ H (Nh r Q vs)
def LO(r:List V->List V->Hp->VK->Prop)(tk:TA)(σ:St)(Q:VK)(vs:List V)(H:Hp):Ni r tk σ Q vs H=tk σ H (Nh r Q vs):=rfl
def OQ(r:List V->List V->Hp->VK->Prop)(t tk:TA):TE:=λ σ H Q=>t σ H (Ni r tk σ Q)
def K5(r:List V->List V->Hp->VK->Prop)(t tk:TA)(σ:St)(H:Hp)(Q:VK):OQ r t tk σ H Q=t σ H (Ni r tk σ Q):=rfl
def pS{X:Cx}{id:String}{x:Str}{p pos:Pos}{e:Expr}{es:List Expr}{kws:List Keyword}{ks:List Str}{r:List V->List V->Hp->VK->Prop}{t tk:TA}(hc:Ew X (.builtin id) ks r)(hg:Gl X x)(hm:X.mg x=none)(hv:bootBuiltins x=some (.builtin id))(ha:PA X (e::es) t)(hk:PK X kws tk)(hn:x ≠ "__name__":=by decide)(aq:(x == ("__debug__":Str))=false:=by decide)
  (ar:(backToKw pos (keywordEach kws X.env)).filterMap (·.1)=ks:=by rfl)
  (h1:backTo pos (starEach (e::es) X.env)=(false,eval e X.env)::backTo pos (starEach es X.env):=by rfl)
  (h2:(backTo pos (starEach (e::es) X.env)).any (·.1)=false:=by rfl)
  (h3:(backToKw pos (keywordEach kws X.env)).all (·.1.isSome)=true:=by rfl)
  (h4:(backToKw pos (keywordEach kws X.env)).any (·.1.isNone)=false:=by rfl):PE X (.Call (.Name x p) (e::es) kws pos) (OQ r t tk):=by
 intro pins s σ H Q I h;refine Rg (iC I hg hm hv ?_ hn aq);refine callWith_kw (thn (ha pos pins s σ H _ I h) λ us s1 ⟨vs,H1,I1,r1,q1⟩=>thn (hk pos pins s1 σ H1 _ I1 q1) λ ws s2 ⟨zs,H2,I2,r2,q2⟩=>?_) h1 h2 h3 h4;rw [ar];exact hc pins s2 σ H2 vs us zs ws Q I2 r1 r2 q2
def mL{prog:Program}{w:World}{A:Around}{E:Value->Shared->Prop}{s:Shared}{id:String}{b:Builtin}{xs:List Value}{kv:List (Str × Value)}{Q:Value->Shared->Prop}(hk:builtinKind id=none)(hp:plainId id=true)
  (hb:entryFor table id=some b) (ha:argsOk id ⟨xs,kv⟩)
  (hc:wpAny (model prog w) A.in1 (b ⟨xs,kv⟩) (λ fin z=>match fin with
   | .done f=>(match (Except.ok f:Result) with | .ok (.ret v)=>Q v z | .ok _=>False | .error e=>E e z)
   | .again c=>c.quiet=true/\codeAny (model prog w) A c (λ r z=>match r with | .ok (.ret v)=>Q v z | .ok _=>False | .error e=>E e z) z) E s) :
  wpAny (model prog w) A (call (.builtin id) xs kv) Q E s:=by
 refine RP (RC (args:=⟨xs,kv⟩) hp hb ?_);simp only [checkBuiltinCall,hk]
 cases hs:Manifest.signature? id with
 | none=>exact Ql hc
 | some sg=>
  simp only [argsOk,hs] at ha;have h2:Bind.checkArgs id sg ⟨xs,kv⟩=pure ():=ha;simp only [h2];exact Ql hc
section
variable {prog:Program}{w:World}{A:Around}{R:Result->Shared->Prop}{J:Addr}{fp wr:List Addr}{G:Array GenState->Array GenState->Prop}{n:Nat}{P:Nat->Value->Prop}{St:Nat->Shared->Prop}
end
section
variable {prog:Program}{w:World}{A:Around}{R:Result->Shared->Prop}{J:Addr}{fp wr:List Addr}{G:Array GenState->Array GenState->Prop}{n:Nat}{P:Nat->Value->Prop}{St:Nat->Shared->Prop}
def Cp(kv:List (Str × Value))(W:WalksS prog w A.in1 J fp wr G n P St)(bt:Nat->Nat->Bool)(a5:CmpOf prog w A.in1 .Gt P bt)(D:Addr)(hD:D ∉ fp) :
  ∀ (k j:Nat) (s:Shared) (b:Value) (c:Nat),n - (j+1)=k->j+1<=n->St (j+1) s->P (argBest bt j) b->s.heap.get? D=some { cls:=.type "list",dict:=none,data:=.seq #[b,b] c,slots:=#[] } →
  (∀ v z,P (argBest bt (n - 1)) v->Moved (D::wr) G s z->R (.ok (.ret v)) z)->codeAny (model prog w) A (.builtin "max.loop" ⟨[.ref J,.none,.ref D],kv⟩) R s:=by
 have a6:D ∉ wr:=λ h=>hD (W.sub _ h);have sub:∀ a∈wr,a∈D::wr:=λ a ha=>Qt _ ha;have nm:(toString "max" ++ toString ".loop":String) = "max.loop":=by decide
 have nD:∀ {a:Addr},a ∉ D::wr->D ≠ a:=λ ha h=>ha (by rw [h];exact Qv);intro k
 induction k with
 | zero=>
  intro j s b c hk hj st hb hg hR;have a7:j+1=n:=by omega
  refine(So Sj ?_);rw [(RD QT _)]
  show wpAny _ A.in1 ((seqItems? (.ref D)) >>= _) _ _ s
  refine My (Q0 hg rfl ?_)
  show wpAny _ A.in1 ((tryCatch (pyNext (.ref J)) _) >>= _) _ _ s
  refine My (Q5 (W.done s _ _ (a7 ▸ st) λ z mv=>?_));have aq:=mv.heap D _ a6 hg
  show wpAny _ A.in1 ((updateSeq D (λ _=>#[])) >>= _) _ _ _
  refine My ?_;refine(Sm aq rfl (My (RJ (Ql ?_))));exact hR b _ (by rw [←a7];exact hb) ((mv.mono sub).then_heap (tk:=z.toks) (Qi _) λ a o ha e=>(QO _ _ (nD ha)).trans e)
 | succ k ih=>
  intro j s b c hk hj st hb hg hR;have ar:j+1 < n:=by omega
  refine(So Sj ?_);rw [(RD QT _)]
  show wpAny _ A.in1 ((seqItems? (.ref D)) >>= _) _ _ s
  refine My (Q0 hg rfl ?_)
  show wpAny _ A.in1 ((tryCatch (pyNext (.ref J)) _) >>= _) _ _ s
  refine My (Q5 (W.item (j+1) s _ _ ar st λ v z hP a8 mv=>?_));have aq:=mv.heap D _ a6 hg
  show wpAny _ A.in1 ((tryCatch (holding [v,v] (richCompare .Gt v b >>= _)) _) >>= _) _ _ _
  refine My (Q5 (QU (My (a5 (j+1) (argBest bt j) v b _ _ _ hP hb ?_))));refine(My (QU (Rm ?_)));refine(My (RJ (Ql ?_)))
  cases hbt:bt (j+1) (argBest bt j) with
  | true=>
   simp only [S0];refine My ?_;refine(Sm aq rfl (My (RJ ?_)));rw [nm];refine Ql ⟨R5 QT _,ih (j+1) _ v _ (by omega) ar (W.frame _ z _ z.toks a8 (Qi _) λ a ha o e=>?_) (by simp only [argBest,hbt,S0];exact hP) (QM _ aq rfl) λ v' z' a3 a4=>?_⟩
   ·exact(QO _ _ (λ h:D=a=>hD (by rw [h];exact ha))).trans e
   ·exact hR v' z' a3 (Moved.trans W.gtrans ((mv.mono sub).then_heap (by first|exact Qi _|exact Rq _|omega) λ a o ha e=>(QO _ _ (nD ha)).trans e) a4)
  | false=>
   simp only [Ta,S6];refine(My (RJ ?_));rw [nm];refine Ql ⟨R5 QT _,ih (j+1) _ b c (by omega) ar a8 (by simp only [argBest,hbt,Ta,S6];exact hb) aq λ v' z' a3 a4=>?_⟩;exact hR v' z' a3 (Moved.trans W.gtrans (mv.mono sub) a4)
def zC(d:Value)(W:WalksS prog w A.in1 J fp wr G n P St)(bt:Nat->Nat->Bool)(aq:CmpOf prog w A.in1 .Gt P bt)(D:Addr)(hD:D ∉ fp){s:Shared}{c:Nat}(st:St 0 s)
  (hg:s.heap.get? D=some { cls:=.type "list",dict:=none,data:=.seq #[] c,slots:=#[] })
  (h0:n=0->∀ z,Moved (D::wr) G s z->R (.ok (.ret d)) z) (hR:0 < n->∀ v z,P (argBest bt (n - 1)) v->Moved (D::wr) G s z->R (.ok (.ret v)) z):codeAny (model prog w) A (.builtin "max.loop" ⟨[.ref J,.none,.ref D],[("default",d)]⟩) R s:=by
 have a3:D ∉ wr:=λ h=>hD (W.sub _ h);have sub:∀ a∈wr,a∈D::wr:=λ a ha=>Qt _ ha;have nm:(toString "max" ++ toString ".loop":String) = "max.loop":=by decide
 have nD:∀ {a:Addr},a ∉ D::wr->D ≠ a:=λ ha h=>ha (by rw [h];exact Qv);refine(So Sj ?_);rw [(RD QT _)]
 show wpAny _ A.in1 ((seqItems? (.ref D)) >>= _) _ _ s
 refine My (Q0 hg rfl ?_)
 show wpAny _ A.in1 ((tryCatch (pyNext (.ref J)) _) >>= _) _ _ s
 by_cases hn:n=0
 ·refine My (Q5 (W.done s _ _ (by rw [hn];exact st) λ z mv=>?_));refine My (wpAny_rule (Ql ?_));exact h0 hn z (mv.mono sub)
 ·refine My (Q5 (W.item 0 s _ _ (by omega) st λ v z hP a4 mv=>?_));have ar:=mv.heap D _ a3 hg
  show wpAny _ A.in1 ((updateSeq D (λ _=>#[v,v])) >>= _) _ _ _
  refine My ?_;refine(Sm ar rfl ?_);rw [nm];refine Ql ⟨R5 QT _,Cp _ W bt aq D hD _ 0 _ v _ rfl (by omega) (W.frame _ z _ z.toks a4 (Qi _) λ a ha o e=>?_) hP (QM _ ar rfl) λ v' z' a5 a6=>?_⟩
  ·exact(QO _ _ (λ h:D=a=>hD (by rw [h];exact ha))).trans e
  ·exact hR (by omega) v' z' a5 (Moved.trans W.gtrans ((mv.mono sub).then_heap (by first|exact Qi _|exact Rq _|omega) λ a o ha e=>(QO _ _ (nD ha)).trans e) a6)
end
def Be(a d:Value):argsOk "max" ⟨[a],[("default",d)]⟩:=by unfold argsOk;kernel_rfl
def AV{prog:Program}{w:World}{A:Around}{E:Value->Shared->Prop}{s:Shared}{x d:Value}{Q:Value->Shared->Prop}
  (h:wpAny (model prog w) A.in1 (pyIter x) (λ it z=>∃ J fp wr G n P St bt,it=.ref J/\WalksS prog w A.in1 J fp wr G n P St/\St 0 z/\(∀ b∈fp,b < z.heap.objs.size)/\CmpOf prog w A.in1 .Gt P bt /\
   (n=0->∀ z',Moved wr G z z'->Q d z')/\(0 < n->∀ v z',P (argBest bt (n - 1)) v->Moved wr G z z'->Q v z')) E s) :
  wpAny (model prog w) A (call (.builtin "max") [x] [("default",d)]) Q E s:=by
 have nm:(toString "max" ++ toString ".loop":String) = "max.loop":=by decide
 refine mL F.kind_max F.plain_max F.entry_max (Be x d) ?_
 show wpAny _ A.in1 (Builtin.Builtins.bindParams "max" ["key", "default"] 0 ⟨[],[("default",d)]⟩ >>= _) _ _ s
 refine My (wpAny_of_eq (show Builtin.Builtins.bindParams "max" ["key", "default"] 0 ⟨[],[("default",d)]⟩=pure [none,some d] from rfl) ?_);refine My (Ql ?_);refine My (thn h λ it z hz=>?_);obtain⟨J,fp,wr,G,n,P,St,bt,rfl,W,st,ar,aq,h0,hQ⟩:=hz;refine My (R3 ?_);have hD:z.heap.objs.size ∉ fp:=λ hm=>Q4 _ (ar _ hm);rw [nm];refine Ql ⟨R5 QT _,zC d W bt aq z.heap.objs.size hD (W.frame 0 z _ z.toks st (Qi _) λ b _ o e=>Qg _ e) (Qp _ rfl) (λ hn z' mv=>?_) λ hn v z' hP mv=>?_⟩
 ·exact h0 hn z' (Moved.drop_new (tk:=z.toks) mv (Qi _))
 ·exact hQ hn v z' hP (Moved.drop_new (tk:=z.toks) mv (Qi _))
def x4(d:Int)(H:Hp)(Q:VK):List Int->Prop:=λ ns=>(ns=[]->Q (.int d) H)/\∀ M,M∈ns->(∀ a∈ns,a<=M)->Q (.int M) H
def EF:List V->List V->Hp->VK->Prop:=λ vs zs H Q=>match vs,zs with
 | [.ref p],[.int d]=>aX (aP H p) (rO (x4 d H Q))
 | _,_=>False
def GF(p:Addr)(d:Int)(H:Hp)(Q:VK):EF [.ref p] [.int d] H Q=aX (aP H p) (rO (x4 d H Q)):=rfl
def mM{X:Cx}(hc:X.calm=true):Ew X (.builtin "max") ["default"] EF:=by
 intro pins s σ H vs us zs ws Q I r rz h;unfold EF at h;split at h
 ·rename_i p d;obtain⟨xs,e,ns,rfl,h0,q⟩:=ak h
  cases rz with
  | cons rd rz'=>
  cases rz'
  cases r with
  | cons r rr=>
   cases rr;cases r;obtain⟨its,rv,pl,hz⟩:=I.list (SqL.of (cC e));have ar:p < s.heap.objs.size:=by obtain⟨_,e,_⟩:=pl.isList;exact Qm e
   have hlen:its.length=ns.length:=by have:=rv.length;simpa using this.symm
   have hsz:its.toArray.size=ns.length:=by simp [hlen]
   have hP:∀ (i:Nat) (v:Value),its.toArray[i]? = some v->∃ t,v=.int (ns.getD i 0) t:=λ i v hP=>by
    have hv:its[i]? = some v:=by simpa using hP
    have hi:i < ns.length:=by rw [←hlen];exact(Qh.mp hv).1
    obtain⟨u,hu,ru⟩:=rv.get (i:=i) (x:=.int (ns.getD i 0)) (by rw [Qq,Qf hi];simp [List.getD,Qf hi]);rw [hv] at hu;cases hu;exact ru
   refine AV (R0 pl.isList ⟨s.heap.objs.size,_,_,_,_,_,_,λ i j=>decide (ns.getD i 0 > ns.getD j 0),rfl,(Walks.list (show X.A.in1.handled=none from I.ok.hd hc) _ p (Qy ar) its.toArray).toS,⟨⟨_,Qp _ rfl,rfl,rfl⟩,pl.isList.push _⟩,λ b hb=>?_,CmpOf.ints_gt (λ i=>ns.getD i 0) λ i v h=>hP i v h,λ hn s' hm=>?_,λ hn v s' hv hm=>?_⟩)
   ·rw [QR]
    rcases QG.mp hb with rfl|hb
    ·exact RZ _
    ·rw [Qo.mp hb];exact Nat.lt_succ_of_lt ar
   ·obtain⟨hp,g,d',tk,os⟩:=s'
    have kp:∀ b o,s.heap.get? b=some o->hp.get? b=some o:=λ b o e=>hm.heap b o (λ aq=>by
     have:b=s.heap.objs.size:=by simpa using aq
     subst this;exact absurd (Qm e) (Q4 _)) (Qg _ e)
    have e1:g=s.gens:=hm.gens;have e2:d'=s.drawn:=hm.drawn;have e3:os=s.os:=hm.os;subst e1 e2 e3;exact⟨.int d,H,I.kept (t':=tk) kp,rd,h0 (List.eq_nil_of_length_eq_zero (by rw [←hsz];exact hn))⟩
   ·obtain⟨hp,g,d',tk,os⟩:=s'
    have kp:∀ b o,s.heap.get? b=some o->hp.get? b=some o:=λ b o e=>hm.heap b o (λ aq=>by
     have:b=s.heap.objs.size:=by simpa using aq
     subst this;exact absurd (Qm e) (Q4 _)) (Qg _ e)
    have e1:g=s.gens:=hm.gens;have e2:d'=s.drawn:=hm.drawn;have e3:os=s.os:=hm.os;subst e1 e2 e3;obtain⟨b1,b2⟩:=argBest_gt (λ i=>ns.getD i 0) (its.toArray.size - 1);have a3:=hP _ v hv;generalize argBest (λ i j=>decide (ns.getD i 0 > ns.getD j 0)) (its.toArray.size - 1)=k at b1 b2 a3;rw [hsz] at b1 b2 hn;have hk:k < ns.length:=by omega
    refine⟨.int (ns.getD k 0),H,I.kept (t':=tk) kp,a3,q _ ?_ λ a ha=>?_⟩
    ·rw [List.getD,Qf hk];exact RH hk
    ·obtain⟨j,hj,rfl⟩:=Rk ha;have:=b2 j (by omega);rw [show ns.getD j 0=ns[j] by rw [List.getD,Qf hj];rfl] at this;exact this
 ·exact h.elim
def bB(kv:List (Int × Int))(c:Int):Option Int:=(kv.find? λ p=>decide (p.1=c)).map λ p=>p.2
def cb(kv:List (Int × Int)):List (Key × V):=kv.map λ p=>(Sum.inl p.1,V.int p.2)
def Ad{p:Int × Int}{r:List (Int × Int)}{c:Int}(e:p.1=c):bB (p::r) c=some p.2:=by simp [bB,Ss,e]
def Ae{p:Int × Int}{r:List (Int × Int)}{c:Int}(e:¬ p.1=c):bB (p::r) c=bB r c:=by simp [bB,Ss,e]
def x8{a c:Int}(h:¬ a=c):¬ (Sum.inl a:Key)=Sum.inl c:=λ e=>h (Sum.inl.inj e)
def bC:∀ (kv:List (Int × Int)) (c:Int),fD (cb kv) (.inl c)=(bB kv c).map V.int
 | [],c=>rfl
 | p::r,c=>by
  by_cases h:p.1=c
  ·rw [Ad h];exact bH (p:=(Sum.inl p.1,V.int p.2)) (r:=cb r) (RS Sum.inl h)
  ·rw [Ae h,←bC r c];exact bI (p:=(Sum.inl p.1,V.int p.2)) (r:=cb r) (x8 h)
def Fw{kv:List (Int × Int)}{c:Int}(v:Int)(h:bB kv c=none):lR (cb kv) (.inl c) (.int v)=cb (kv++[(c,v)]):=by
 rw [B2 _ (by rw [bC,h];rfl)];unfold cb;rw [map_append];rfl
abbrev PKy:=List Int × List Int
section
variable {prog:Program}{w:World}
end
section
variable {P:Program}{w:World}{H:Hp}{h:Heap}{a:Addr}
end
section
variable {X:Cx}{pins:List (Addr × Obj)}{σ:St}{H:Hp}{s:Shared}{d b:Addr}{k:PKy}{Z:List PKy}{A:Around}{E:Value->Shared->Prop}
end
section
variable {X:Cx}
end
section
variable {X:Cx}{e st:Expr}{te tst:TE}{pos p2:Pos}
end
section
variable {X:Cx}
end
section
variable {X:Cx}{a b:Expr}{ta tb:TE}{pos:Pos}{cB:List Expr}
end
open PySem.SeqAt
section
variable {X:Cx}
def oh(k:Bool):∀ {bs:List Bool}{vs:List Value},bf (bs.map V.bl) vs->∀ y,y∈vs->∀ (A:Around) (s:Shared),EqAt A s y (.bool k) (isBoolOf k y)
 | [],_,.nil,y,hy,_,_=>absurd hy QC
 | b::bs,_,.cons (b:=u) r rr,y,hy,A,s=>by
  rcases QG.mp hy with e|hy
  ·have e2:u=.bool b:=r;rw [e,e2];exact EqAt.bool_bool b k
  ·exact oh k rr y hy A s
def qe(k:Bool):∀ {bs:List Bool}{vs:List Value},bf (bs.map V.bl) vs->vs.countP (isBoolOf k)=bs.count k
 | [],_,.nil=>rfl
 | b::bs,_,.cons (b:=u) r rr=>by
  have e2:u=.bool b:=r;rw [List.countP_cons,List.count_cons,qe k rr,e2];rfl
def oz(k:Bool):∀ {bs:List Bool}{vs:List Value},bf (bs.map V.bl) vs->∀ (j:Nat) (h:j < vs.length) (h':j < bs.length),isBoolOf k vs[j]=(bs[j] == k)
 | b::bs,_,.cons (b:=u) r rr,0,_,_=>by
  have e2:u=.bool b:=r;subst e2;rfl
 | b::bs,_,.cons (b:=u) r rr,j+1,h,h'=>oz k rr j (by simpa using h) (by simpa using h')
def E3(k:Bool)(H:Hp)(Q:VK):List Bool->Prop:=λ bs=>Q (.int (bs.count k:Nat)) H
def Hn(k:Bool)(H:Hp)(Q:VK)(bs:List Bool):E3 k H Q bs=Q (.int (bs.count k:Nat)) H:=rfl
def EO:V->List V->Hp->VK->Prop:=λ x vs H Q=>match x,vs with
 | .ref l,[.bl k]=>aX (aP H l) (Ez (E3 k H Q))
 | _,_=>False
def GQ(l:Addr)(k:Bool)(H:Hp)(Q:VK):EO (.ref l) [.bl k] H Q=aX (aP H l) (Ez (E3 k H Q)):=rfl
def Co:MtM X "list.count" EO:=by
 intro pins s σ H x vs v us Q I rx rv h;unfold EO at h;split at h
 ·rename_i l k;obtain⟨xs,hx,bs,rfl,q⟩:=ak h;replace hx:=cC hx;cases rx
  cases rv with
  | cons rk rr=>
   cases rr;cases rk;obtain⟨z,its,n,r,hl,e⟩:=I.lstM hx;refine Tb F.slot_list_count ⟨_,e,rfl⟩ F.entry_list_count (F.args_list_count_2 _ _) (list_countAt l its.toArray n _ _ (.bool k) (isBoolOf k)) ⟨e,λ y hy=>oh k r y (by simpa using hy) _ _,?_⟩;rw [show its.toArray.toList.countP (isBoolOf k)=bs.count k from qe k r];exact⟨.int (bs.count k:Nat),H,I.tok _,⟨_,rfl⟩,q⟩
 ·exact h.elim
def EZ(k:Bool)(H:Hp)(Q:VK):List Bool->Prop:=λ bs=>k∈bs/\Q (.int (bs.idxOf k:Nat)) H
def Hg(k:Bool)(H:Hp)(Q:VK)(bs:List Bool):EZ k H Q bs=(k∈bs/\Q (.int (bs.idxOf k:Nat)) H):=rfl
def EN:V->List V->Hp->VK->Prop:=λ x vs H Q=>match x,vs with
 | .ref l,[.bl k]=>aX (aP H l) (Ez (EZ k H Q))
 | _,_=>False
def GO(l:Addr)(k:Bool)(H:Hp)(Q:VK):EN (.ref l) [.bl k] H Q=aX (aP H l) (Ez (EZ k H Q)):=rfl
def Cn:MtM X "list.index" EN:=by
 intro pins s σ H x vs v us Q I rx rv h;unfold EN at h;split at h
 ·rename_i l k;obtain⟨xs,hx,bs,rfl,hk,q⟩:=ak h;replace hx:=cC hx;cases rx
  cases rv with
  | cons rk rr=>
   cases rr;cases rk;obtain⟨z,its,n,r,hl,e⟩:=I.lstM hx;have hs:sizeLine=16777216:=sizeLine_eq;rw [Qk] at hl z;have hj:bs.idxOf k < bs.length:=List.idxOf_lt_length_iff.mpr hk;refine Tb F.slot_list_index ⟨_,e,rfl⟩ F.entry_list_index (F.args_list_index_2 _ _) (list_indexAt l its.toArray n _ _ (.bool k) (isBoolOf k) (bs.idxOf k) (by simpa [←hl] using hj) (by omega) ?_ ?_) ⟨e,λ y hy=>oh k r y (by simpa using hy) _ _,?_⟩
   ·show isBoolOf k its[bs.idxOf k]=true
    rw [oz k r _ (by omega) hj,List.getElem_idxOf hj];exact RY k
   ·intro j aq ar
    show isBoolOf k its[j]=false
    rw [oz k r j (by simpa using aq) (by omega)];exact eq_false_of_ne_true (by simpa using List.not_of_lt_findIdx ar)
   ·exact⟨.int (bs.idxOf k:Nat),H,I.tok _,⟨_,rfl⟩,q⟩
 ·exact h.elim
end
structure Mk0(K:W.Frag)(C:Addr):Prop where
 makes:W.makesIn K C=true
 init:W.findIn K (.ref C) "__init__"=some (some (.builtin "object.__init__"))
 kp:W.keepIn K (.ref C)=true
def OY(C:Addr):TE:=λ _ H Q=>∀ x dx H',H x=none->H dx=none->dx ≠ x->Ext H H'->H' x=some (.ins C dx [])->H' dx=some (.own x)->Q (.ref x) H'
def Li(C:Addr)(σ:St)(H:Hp)(Q:VK):OY C σ H Q=∀ x dx H',H x=none->H dx=none->dx ≠ x->Ext H H'->H' x=some (.ins C dx [])->H' dx=some (.own x)->Q (.ref x) H':=rfl
def kj{X:Cx}{C:Addr}{x:Str}{p pos:Pos}(M:Mk0 X.K C)(hg:Gl X x)(hm:X.mg x=some (.ref C))(aq:(x == ("__debug__":Str))=false:=by decide):PE X (.Call (.Name x p) [] [] pos) (OY C):=by
 intro pins s σ H Q I h;refine Rg (eY I hg hm ?_ aq);refine W.callWith_K0 I.kIn M.kp ?_;have hx:H (s.heap.objs.size+1)=none:=I.hok.fresh (Rq _);have hd:H s.heap.objs.size=none:=I.hok.fresh (Qi _);have ne:s.heap.objs.size ≠ s.heap.objs.size+1:=Qy (RZ _);have hq:=h (s.heap.objs.size+1) s.heap.objs.size (upd (upd H s.heap.objs.size (.own (s.heap.objs.size+1))) (s.heap.objs.size+1) (.ins C s.heap.objs.size [])) hx hd ne ((Ext.new hd).put hx) af (by rw [ae ne,af]);have I2:=Inv.made (C:=C) I;refine RP (zF I.kIn M.makes M.init (λ self=>W.Looks.of_pure (W.oi_bind self)) ?_);have Y:=W.makes_of (M:=model X.prog X.w) I.kIn M.makes
 have e2:((s.heap.push W.emptyDict).push (W.instObj C s.heap.objs.size)).get? (s.heap.objs.size+1)=some (W.instObj C s.heap.objs.size):=by
  have:=Qp (s.heap.push W.emptyDict) (o:=W.instObj C s.heap.objs.size) rfl
  rwa [QR] at this
 have t1:W.Looks (model X.prog X.w) ((s.heap.push W.emptyDict).push (W.instObj C s.heap.objs.size)) (typeOf (.ref (s.heap.objs.size+1))) (.ref C):=(W.Looks.ld e2).andThen .now;have t2:W.Looks (model X.prog X.w) ((s.heap.push W.emptyDict).push (W.instObj C s.heap.objs.size)) (isInstance (.ref (s.heap.objs.size+1)) (.type "object")) true:=t1.andThen (Y.top.keeps λ b o e=>Qg _ (Qg _ e));refine RC W.oi_plain W.entry_oi (@W.check_slot (model X.prog X.w) _ _ _ "object.__init__" "object" "__init__" (.ref (s.heap.objs.size+1)) [] [] _ W.oi_kind W.oi_split t2 (W.oi_args (.ref (s.heap.objs.size+1))) ?_);rw [W.oi_run];exact Ql (And.intro rfl ⟨V.ref (s.heap.objs.size+1),_,I2,rfl,hq⟩)
structure MD(P:Program)(w:World)(K:W.Frag)(mg:Str->Option Value)(base:Heap)(CX:CXT)(k:Nat)(m:Str)(C:Addr)(sp:Sp):Prop where
 c:Cls K C
 ex:∃ f fd ps,gN K C m f/\aM P w K mg base CX k f fd ps sp/\au K fd ps []
def um(n:Nat)(cl:Nat->Addr)(m:Str)(sp:Nat->Sp)(E:XK)(Q:VK):VK:=λ x H=>∃ a i dx fs,x=.ref a/\i < n/\H a=some (.ins (cl i) dx fs)/\fs.lookup m=none/\sp i [.ref a] H Q E
def Eb(n:Nat)(cl:Nat->Addr)(m:Str)(sp:Nat->Sp)(E:XK)(ta:TE):TE:=λ σ H Q=>ta σ H (um n cl m sp E Q)
def Cv(n:Nat)(cl:Nat->Addr)(m:Str)(sp:Nat->Sp)(E:XK)(ta:TE)(σ:St)(H:Hp)(Q:VK):Eb n cl m sp E ta σ H Q=ta σ H (um n cl m sp E Q):=rfl
def zu{X:Cx}{CX:CXT}{n k:Nat}{cl:Nat->Addr}{m:Str}{sp:Nat->Sp}{E:XK}{pos apos:Pos}{o:Expr}{ta:TE}{pl:Sem Bool}(he:PE X o ta)(hT:∀ i,i < n->MD X.prog X.w X.K X.mg X.base CX k m (cl i) (sp i))(hr:fG k X.A)(hx:gS CX X E)
  (ht:eval (.Call (.Attribute o m apos) [] [] pos) X.env=(do
   let ov ←eval o X.env
   standAt apos.atName
   let (f,first) ←holding [ov] (getMethod ov m pl)
   callWith pos f first (backTo pos (starEach [] X.env)) (backToKw pos (keywordEach [] X.env))):=by rfl) :
  PE X (.Call (.Attribute o m apos) [] [] pos) (Eb n cl m sp E ta):=by
 intro pins s σ H Q I h;refine SH (pl:=pl) (thn (he pins s σ H _ I h) λ u s1 ⟨x,H1,I1,rx,q0⟩=>?_) ht;obtain⟨a,i,dx,fs,ex,hi,ea,l,q⟩:=q0;obtain⟨c,f,fd,ps,hm,F,hb⟩:=hT i hi;subst ex;obtain rfl:u=Value.ref a:=rx;refine gF I1 ea c hm l ?_;refine W.callWith_K0 (first:=[.ref a]) I1.kIn hm.kp ?_;exact pC (us:=[.ref a]) (vs:=[.ref a]) F hr hb .nil hx I1 (.cons rfl .nil) q
section
variable {k:Nat}{g:TG}{tt:TT}{te:TE}{σ:St}{Q:VK}{H:Hp}
end
section
variable {X:Cx}
def uo(i:Nat)(tb:Addr->TS)(tr:Value->Option Addr->TS)(cls:Value)(d:Option Addr)(D:iw)(σ:St)(H:Hp):Bool->Prop:=λ b=>if b=true then ∀ (e:Addr) (oe:Obj),H e=none->oe.cls=cls->oe.dict=d->BE oe->cE i (.ref e) σ (upd H e (jC oe)) (EU i (tb e) (D.del i)) else tr cls d D σ H
def CD(i:Nat)(tb:Addr->TS)(tr:Value->Option Addr->TS)(cls:Value)(d:Option Addr)(D:iw)(σ:St)(H:Hp)(b:Bool):uo i tb tr cls d D σ H b=(if b=true then ∀ (e:Addr) (oe:Obj),H e=none->oe.cls=cls->oe.dict=d->BE oe->cE i (.ref e) σ (upd H e (jC oe)) (EU i (tb e) (D.del i)) else tr cls d D σ H):=rfl
def D0(K:W.Frag)(C:Value)(i:Nat)(tb:Addr->TS)(tr:Value->Option Addr->TS):Value->Option Addr->TS:=λ cls d D σ H=>aX (W.exmOne K cls C) (uo i tb tr cls d D σ H)
def Cs(K:W.Frag)(C:Value)(i:Nat)(tb:Addr->TS)(tr:Value->Option Addr->TS)(cls:Value)(d:Option Addr)(D:iw)(σ:St)(H:Hp):D0 K C i tb tr cls d D σ H=aX (W.exmOne K cls C) (uo i tb tr cls d D σ H):=rfl
def FF{x n:Str}{i:Nat}{np pos:Pos}{b₀:Stmt}{body:List Stmt}{cB:List ExceptHandler}{C:Value}{tb:Addr->TS}{tr:Value->Option Addr->TS}(hN:X.N.Nodup)(hi:X.N[i]? = some n)(hk:X.env.scope.names.lookup n=some .local)(hg:Gl X x)(hm:X.mg x=some C\/(X.mg x=none/\bootBuiltins x=some C/\x ≠ "__name__"))(hb:∀ e,PSs (X.mark e) (b₀::body) (tb e))(hr:PHs X cB tr)
  (aq:(x == ("__debug__":Str))=false:=by decide):PHs X (.ExceptHandler (some (.Name x np)) (some n) (b₀::body) pos::cB) (D0 X.K C i tb tr):=by
 intro pins s σ H D e T cls d I N hn ex h;obtain⟨b,hx,h⟩:=ak h;have Im:=I.mark e
 have ld:∀ {Q:Value->Shared->Prop} {E:Value->Shared->Prop},Q C s->wpAny (model X.prog X.w) (X.A.mark (some (.ref e))) (eval (.Name x np) X.env) Q E s:=λ {Q E} q=>by
  rcases hm with z|⟨z1,z2,z3⟩
  ·exact eY (X:=X.mark e) Im hg z q aq
  ·exact iC (X:=X.mark e) Im hg z1 z2 q z3 aq
 refine PySem.wpAny_handleBy_cons (PySem.codeAny_handlers_test (ld ((W.exm_one I.kIn (Ma ex) hx).here ?_))) (by intro q;cases q);unfold uo at h
 cases b with
 | false=>
  rw [QB Qx] at h;exact hr pins s σ H D e T cls d I N hn ex h
 | true=>
  rw [QE rfl] at h;refine PySem.codeAny_handlers_suite_as (Iy ex λ h' kp=>?_);obtain⟨oe,vs,oT,ts,he,hc,hd,ar,_,_,_,_,_,a3⟩:=ex;have N':pz (X.mark e) pins e:=⟨N.s0,N.loc,N.cel,N.fs,N.pin⟩;have I':Inv (X.mark e) pins σ (upd H e (jC oe)) { s with heap:=h' }:=(Im.kept (t':=s.toks) kp).track N' (kp _ _ he) hn;refine nM (X:=X.mark e) I' hN hi (.inl hk) (show bA (.ref e) (.ref e) from rfl) (λ s1 I1=>?_) (.inr hk);have hh:tb e (D.del i) (σ.set i (some (.ref e))) (upd H e (jC oe)):=h e oe hn hc hd ⟨vs,ar,a3⟩;refine Rf (hb e pins s1 _ _ (D.del i) I1 hh) (λ f s2 q=>?_) λ _ _ z=>z.elim
  show wpAny _ X.A _ _ _ s2
  have q':=SP.unmark I.ok q
  cases f with
  | next=>obtain⟨σ',H',J,q⟩:=q';exact nE J hi hk hN λ s3 J3=>⟨_,H',J3,q⟩
  | brk=>obtain⟨σ',H',J,q⟩:=q';exact nE J hi hk hN λ s3 J3=>⟨_,H',J3,q⟩
  | cont=>obtain⟨σ',H',J,q⟩:=q';exact nE J hi hk hN λ s3 J3=>⟨_,H',J3,q⟩
  | ret u=>obtain⟨v,σ',H',J,r,q⟩:=q';exact nE J hi hk hN λ s3 J3=>⟨v,_,H',J3,r,q⟩
end
def yG(n:Nat)(cl:Nat->Addr)(m:Str)(sp:Nat->Sp)(E:XK)(t:TA)(σ:St)(Q:VK):VK:=λ x H=>∃ a i dx fs,x=.ref a/\i < n/\H a=some (.ins (cl i) dx fs)/\fs.lookup m=none/\t σ H (λ vs H2=>sp i (.ref a::vs) H2 Q E)
def yE(n:Nat)(cl:Nat->Addr)(m:Str)(sp:Nat->Sp)(E:XK)(ta:TE)(t:TA):TE:=λ σ H Q=>ta σ H (yG n cl m sp E t σ Q)
def zK(n:Nat)(cl:Nat->Addr)(m:Str)(sp:Nat->Sp)(E:XK)(ta:TE)(t:TA)(σ:St)(H:Hp)(Q:VK):yE n cl m sp E ta t σ H Q=ta σ H (yG n cl m sp E t σ Q):=rfl
section
variable {X:Cx}{CX:CXT}{n k:Nat}{cl:Nat->Addr}{m:Str}{sp:Nat->Sp}{pos apos:Pos}{o e:Expr}{es:List Expr}{ta:TE}{t:TA}
def vJ{E:XK}{pl:Sem Bool}(he:PE X o ta)(hT:∀ i,i < n->MD X.prog X.w X.K X.mg X.base CX k m (cl i) (sp i))(hr:fG k X.A)(hx:gS CX X E)(ha:PA X (e::es) t)
  (aq:starEach (e::es) X.env=(false,eval e X.env)::starEach es X.env:=by rfl) (ar:(backTo pos (starEach es X.env)).any (·.1)=false:=by rfl)
  (ht:eval (.Call (.Attribute o m apos) (e::es) [] pos) X.env=(do
   let ov ←eval o X.env
   standAt apos.atName
   let (f,first) ←holding [ov] (getMethod ov m pl)
   callWith pos f first (backTo pos (starEach (e::es) X.env)) (backToKw pos (keywordEach [] X.env))):=by rfl) :
  PE X (.Call (.Attribute o m apos) (e::es) [] pos) (yE n cl m sp E ta t):=by
 intro pins s σ H Q I h;refine SH (pl:=pl) (thn (he pins s σ H _ I h) λ u s1 ⟨x,H1,I1,rx,q0⟩=>?_) ht;obtain⟨a,i,dx,fs,ex,hi,ea,l,q⟩:=q0;obtain⟨c,f,fd,ps,hm,F,hb⟩:=hT i hi;subst ex;obtain rfl:u=Value.ref a:=rx;refine gF I1 ea c hm l ?_;refine S7 (first:=[.ref a]) (h₀:=X.base) I.ok.mod.kin hm.kp (thn (ha pos pins s1 σ H1 _ I1 q) λ us s2 ⟨vs,H2,I2,r,q2⟩=>⟨I2.kIn,?_⟩) aq ar;exact pC (us:=.ref a::us) (vs:=.ref a::vs) (ds:=[]) (dvs:=[]) F hr hb .nil hx I2 (.cons rfl r) (by rw [Su];exact q2)
end
section
variable {X:Cx}{CX:CXT}{k:Nat}{f C:Addr}{fd:FuncData}{ps:List Str}{sp:Sp}{dvs:List V}{ds:List Value}{E:St->XK}{x:Str}{p pos:Pos}{e:Expr}{es:List Expr}{t:TA}
end
section
variable {X:Cx}
end
section
variable {X:Cx}
end
section
variable {X:Cx}
end
section
variable {X:Cx}{tg:Expr}
end
section
variable {X:Cx}
end
end L2
namespace HT
open PySem PySem.Spec PyProof.Rows
section
variable {prog:Program}{w:World}{A:Around}{E:Value->Shared->Prop}{s:Shared}
end
end HT
namespace L2
open PySem PySem.Spec PyProof.Rows
section
variable {X:Cx}
end
section
variable {prog:Program}{w:World}{A:Around}{E:Value->Shared->Prop}{s:Shared}
end
section
variable {prog:Program}{w:World}{A:Around}{E:Value->Shared->Prop}{s:Shared}{a₀:Array Keyed}
end
section
variable {X:Cx}
end
section
variable {X:Cx}{k:Nat}{f:Addr}{fd:FuncData}{ps:List Str}{sp:Sp}
end
section
variable {n:Nat}(h0:0 < n)
include h0
end
section
variable {prog:Program}{w:World}{A:Around}{E:Value->Shared->Prop}{s:Shared}
end
def Ms(H:Hp)(nx:St->Hp->Prop):St->Hp->Prop:=λ σ' H'=>∃ a ob kvs aq,H a=some (.dK aq)/\H' a=some (.frz ob (.dK kvs))/\nx σ' (upd H' a (.dK kvs))
def Jv(t:TS):TS:=λ D σ H=>t ⟨Ms H D.nx,rM H D.rt,D.bk,D.ct⟩ σ H
def Gz(t:TS)(nx:St->Hp->Prop)(rt:VK)(bk ct:St->Hp->Prop)(σ:St)(H:Hp):Jv t ⟨nx,rt,bk,ct⟩ σ H=t ⟨Ms H nx,rM H rt,bk,ct⟩ σ H:=rfl
def sF{X:Cx}{st:Stmt}{t:TS}(h:PS X st t):PS X st (Jv t):=by
 intro pins s σ H D I hh;refine thn (h pins s σ H _ I hh) λ f s1 hs=>?_
 cases f with
 | next=>
  obtain⟨σ',H',I1,a,ob,kvs,aq,h0,hf,q⟩:=hs;exact⟨σ',_,I1.thaw hf λ o w z=>(by have:=I.base.frzs a o w z;rw [h0] at this;cases this),q⟩
 | brk=>exact hs
 | cont=>exact hs
 | ret u=>
  obtain⟨v,σ',H',I1,r1,a,ob,kvs,aq,h0,hf,q⟩:=hs;exact⟨v,σ',_,I1.thaw hf λ o w z=>(by have:=I.base.frzs a o w z;rw [h0] at this;cases this),r1,q⟩
section
variable {g:TG}{tb:TS}{nx:St->Hp->Prop}{rt:VK}{bk ct:St->Hp->Prop}{σ:St}{H:Hp}
def jS{a:Addr}{kvs:List (Key × V)}(Pv:Obj->Nat->St->Hp->Prop)(ha:H a=some (.dK kvs))(h0:∀ ob,Pv ob 0 σ (upd H a (.frz ob (.dK kvs))))(hl:∀ ob i σ' H',Pv ob i σ' H'->H' a=some (.frz ob (.dK kvs)))
  (hs:∀ ob i z σ' H',kvs[i]? = some z->Pv ob i σ' H'->H' a=some (.frz ob (.dK kvs))->g (kV z.1) σ' H' (vD tb ⟨Pv ob (i+1),rM H rt,Ms H nx,Pv ob (i+1)⟩)) (hd:∀ ob σ' H',Pv ob kvs.length σ' H'->nx σ' (upd H' a (.dK kvs))) :
  Mw (Jb g tb ⟨Ms H nx,rM H rt,bk,ct⟩ σ) (.ref a) H:=by
 refine⟨a,kvs,rfl,ha,λ ob=>?_⟩;refine⟨λ i m σ' H'=>m=kvs.length - i/\i<=kvs.length/\Pv ob i σ' H',⟨kvs.length,by simp,QK _,h0 ob⟩,?_⟩;rintro i m σ' H' ⟨rfl,hi,p⟩;have qa:=hl ob i σ' H' p
 by_cases hlt:i < kvs.length
 ·refine .inr ⟨⟨qa,hlt⟩,Pv ob (i+1),λ ar aq p'=>⟨kvs.length - (i+1),by omega,rfl,hlt,p'⟩,λ x aq y=>?_⟩;obtain⟨rfl,z,hz,rfl⟩:=y;exact hs ob i z σ' _ hz p qa
 ·have e:i=kvs.length:=by omega
  subst e;exact .inl ⟨⟨qa,Qi _⟩,a,ob,kvs,kvs,ha,qa,hd ob σ' H' p⟩
end
section
variable {prog:Program}{w:World}{A:Around}{E:Value->Shared->Prop}{s:Shared}
end
section
variable {g:TG}{tb:TS}{nx:St->Hp->Prop}{rt:VK}{bk ct:St->Hp->Prop}{σ:St}{H:Hp}
end
def lP(kv:List (Int × Int))(c v:Int):List (Int × Int):=if (bB kv c).isSome=true then kv.map (λ p=>if p.1=c then (p.1,v) else p) else kv++[(c,v)]
def cQ(kv:List (Int × Int))(c v:Int):lR (cb kv) (.inl c) (.int v)=cb (lP kv c v):=by
 unfold lP
 cases h:bB kv c with
 | none=>rw [QB (by simp)];exact Fw v h
 | some j=>
  rw [if_pos (show (some j).isSome=true from rfl)];unfold lR;rw [gy,bC,h,Option.map_some,if_pos (show (some (V.int j)).isSome=true from rfl)];unfold cb;rw [map_map,map_map];refine List.map_congr_left λ p _=>?_
  show (if (Sum.inl p.1:Key)=Sum.inl c then _ else _)=_
  by_cases e:p.1=c
  ·rw [QE (RS Sum.inl e)];simp [e]
  ·rw [QB (x8 e)];simp [e]
def uR(kv:List (Int × Int))(c v x:Int):bB (lP kv c v) x=if x=c then some v else bB kv x:=by
 have h:=BH (cb kv) (.inl c:Key) (.inl x) (.int v);rw [cQ,bC,bC] at h
 by_cases e:x=c
 ·rw [QE (RS Sum.inl e)] at h;rw [QE e]
  cases hl:bB (lP kv c v) x with
  | none=>rw [hl] at h;cases h
  | some j=>rw [hl] at h;simp only [Ri,Option.some.injEq,V.int.injEq] at h;rw [h]
 ·rw [QB (x8 e)] at h;rw [QB e]
  cases hl:bB (lP kv c v) x with
  | none=>
   cases hr:bB kv x with
   | none=>rfl
   | some j=>rw [hl,hr] at h;cases h
  | some i=>
   cases hr:bB kv x with
   | none=>rw [hl,hr] at h;cases h
   | some j=>rw [hl,hr] at h;simp only [Ri,Option.some.injEq,V.int.injEq] at h;rw [h]
def gz(kv:List (Int × Int))(c v:Int):(lP kv c v).length<=kv.length+1:=by
 unfold lP;split
 ·rw [Qk];omega
 ·simp
def fL(kv:List (Int × Int)):(cb kv).length=kv.length:=by unfold cb;rw [length_map]
def lU(K:W.Frag)(c Pt:Addr):Prop:=∃ (od:Option Addr) (sl:Array (Option Value)) (vs:Array Value) (file:Str) (tf:Tok) (flags:Int) (tg:Tok) (aq:Bool) (text:Int) (tt:Tok),K.lookup c=some ⟨.type "code",od,.fields vs,sl⟩/\vs[11]? = some (.ref Pt)/\vs.getD 11 .none=.ref Pt/\vs.getD 18 .none=.str file tf/\vs.getD 7 .none=.int flags tg/\vs.getD 9 .none=.bool aq/\vs.getD 10 .none=.int text tt/\c ≠ Pt
def MH{K:W.Frag}{c Pt:Addr}{od:Option Addr}{sl:Array (Option Value)}{vs:Array Value}{file:Str}{tf:Tok}{flags:Int}{tg:Tok}{aq:Bool}{text:Int}{tt:Tok}(h1:K.lookup c=some ⟨.type "code",od,.fields vs,sl⟩)(h2:vs[11]? = some (.ref Pt))(h3:vs.getD 11 .none=.ref Pt)(h4:vs.getD 18 .none=.str file tf)(h5:vs.getD 7 .none=.int flags tg)(h6:vs.getD 9 .none=.bool aq)(h7:vs.getD 10 .none=.int text tt)(h8:c ≠ Pt):lU K c Pt:=⟨_,_,_,_,_,_,_,_,_,_,h1,h2,h3,h4,h5,h6,h7,h8⟩
def lU.hd{K:W.Frag}{c Pt:Addr}{h:Heap}(k:lU K c Pt)(i:K.In h):W.CodeHd h c Pt:=by
 obtain⟨od,sl,vs,file,tf,flags,tg,aq,text,tt,h1,h2,h3,h4,h5,h6,h7,h8⟩:=k;exact⟨_,vs,file,tf,flags,tg,aq,text,tt,i _ _ h1,rfl,rfl,h2,h3,h4,h5,h6,h7,h8⟩
def lU.tab{K:W.Frag}{c Pt:Addr}{h:Heap}(k:lU K c Pt)(i:K.In h):isCodeTable h Pt:=by
 obtain⟨od,sl,vs,file,tf,flags,tg,aq,text,tt,h1,h2,_⟩:=k;exact⟨c,_,vs,i _ _ h1,rfl,rfl,h2⟩
def ME(K:W.Frag)(cdv:Value)(Pt:Addr):Prop:=(∃ c,cdv=.ref c/\lU K c Pt)/\mainGlobals ≠ Pt
def BmH(mg:Str->Option Value)(H:Hp):Prop:=∃ (bm:Addr) (ob:Obj),mg "__builtins__"=some (.ref bm)/\bm ≠ builtinsNs/\H bm=some (.frz ob (.own 0))/\ob.cls=.type "module" /\ ob.dict=some builtinsNs/\ob.data=.plain
def TbH(mg:Str->Option Value)(H:Hp)(Pt:Addr)(q:Str):Prop:=(∃ tk:Tok,H Pt=some (.tbl #[.str q tk]))/\BmH mg H
def TbH.ext{mg:Str->Option Value}{H H':Hp}{Pt:Addr}{q:Str}(h:TbH mg H Pt q)(e:Ext H H'):TbH mg H' Pt q:=by
 obtain⟨⟨tk,h1⟩,bm,ob,h2,h3,h4,h5⟩:=h;exact⟨⟨tk,e.at h1⟩,bm,ob,h2,h3,e.at h4,h5⟩
def wV(pos:Pos)(a b:Int)(c:Value):∀ (n:Nat) (l:List Value),l.length<=n->TriplesOk l->∀ cv,codeAmong pos (l++[rawInt a,rawInt b,c])=some cv->codeAmong pos l=some cv\/cv=c:=by
 have base:∀ cv,codeAmong pos [rawInt a,rawInt b,c]=some cv->cv=c:=λ cv h=>by
  simp only [rawInt,codeAmong] at h;split at h
  ·exact(QL h).symm
  ·cases h
 intro n
 induction n with
 | zero=>
  intro l hl _ cv h
  cases l with
  | nil=>exact .inr (base cv h)
  | cons x l=>simp at hl
 | succ n ih=>
  intro l hl ht cv h;unfold TriplesOk at ht;split at ht
  ·exact .inr (base cv h)
  ·rename_i x t y u d l';have aq:=ih l' (by simp at hl;omega) ht cv;simp only [SS,codeAmong] at h ⊢;split at h
   ·rename_i hc;rw [QE hc];exact .inl h
   ·rename_i hc;rw [QB hc];exact aq h
  ·exact ht.elim
def OC{x y:Str}{sc:Scope}{env:Env}{cf:Addr}(hn:sc.names=[(x,.local),(y,.free)])(h:env.cells.lookup y=some cf):closureFor sc env=pure [(y,cf)]:=by
 unfold closureFor;rw [hn];simp [cellOf,h]
abbrev pk(X:Cx):Str:=X.env.qual++Str.ofString "<lambda>"
section
variable {X:Cx}{pins:List (Addr × Obj)}{σ:St}{H:Hp}{s:Shared}
def LY{la:Arguments}{lb:Expr}{ls:Scope}{lp:Pos}{Pt:Addr}{ar:List (Str × Addr)}{E:Value->Shared->Prop}{Q:Value->Shared->Prop}(I:Inv X pins σ H s)(hT:ME X.K X.env.code Pt)(hH:TbH X.mg H Pt (pk X))(a9:closureFor ls X.env=pure ar)(bb:defaultsOf la X.env=([],[]))
  (k:∀ (f c':Addr) (a3 pm:Value) (H':Hp) (s':Shared),Inv X pins σ H' s'->Ext H H'->mi X pins H' f->s'.heap.get? f=some (W.kla_obj "<lambda>" (pk X) la lb ls ar pm c' a3)->H' c'=some (.cod (pk X))->Q (.ref f) s'):wpAny (model X.prog X.w) X.A (eval (.Lambda la lb ls lp) X.env) Q E s:=by
 obtain⟨⟨c,hc,hk⟩,cc⟩:=hT;obtain⟨⟨ck,hP⟩,bm,ob,b1,b2,b3,b4,b5,b6⟩:=hH;obtain⟨q,t,qs,e0,et,tr,bp⟩:=I.hok Pt _ hP
 have bt:pk X=q:=by
  have:=RS (λ a:Array Value=>a[0]?) e0;simp at this;exact this.1
 have a7:s.heap.Ns mainGlobals X.mg:=by
  obtain⟨o,es,ep,e,r⟩:=I.ok.mod.glob;exact⟨o,es,ep,I.bk _ _ e,r⟩
 have a4:s.heap.get? bm=some ob:=(I.hok bm _ b3).1
 have a5:s.heap.BuiltinsAt X.mg Pt:=by
  refine⟨bm,ob,b1,b2,?_,?_,a4,b4,b5,b6⟩
  ·intro z;obtain⟨o,es,ep,e,d,_⟩:=a7;rw [←z,a4] at e;cases e;rw [b6] at d;cases d
  ·intro z;rw [z,et] at a4;cases a4;cases b6
 have cf:Pt ≠ X.env.locals:=λ z=>by rw [z,I.free] at hP;cases hP
 cases hca:codeAmong lp qs.toList with
 | some cv=>
  obtain⟨c',rfl,cg⟩:=bp lp cv hca;refine W.kla_eval bb (W.kla_makeFunctionHit a9 I.ok.glob a7 hc (hk.hd I.kIn) et tr hca a5 λ a3 h' tk keep sz=>?_);refine k _ c' a3 _ H _ (I.kept (t':=tk) λ b o e=>Qg _ (keep b o e)) (Ext.refl _) (I.fpOk sz (I.hok.fresh sz)) (Qp _ rfl) (by rw [bt];exact cg)
 | none=>
  refine W.kla_eval bb (W.kla_makeFunction a9 I.ok.glob a7 hc (hk.hd I.kIn) et tr hca cc a5 λ c' a3 h' tk ext sz lt rc tab=>?_);have aq:H c'=none:=I.hok.fresh sz;have a8:∀ b,H b=none->b ≠ Pt:=λ b n z=>by rw [z,hP] at n;cases n
  have cm:c' ≠ Pt:=a8 c' aq;have kp:∀ b o,b ≠ Pt->s.heap.get? b=some o->(h'.push (W.kla_obj "<lambda>" (pk X) la lb ls ar ((X.mg (Str.ofString "__name__")).getD .none) c' a3)).get? b=some o:=λ b o hb e=>Qg _ (ext b o hb e);have hsz:s.heap.objs.size<=h'.objs.size:=QP sz (RO lt);have a6:(h'.push (W.kla_obj "<lambda>" (pk X) la lb ls ar ((X.mg (Str.ofString "__name__")).getD .none) c' a3)).get? Pt=some (W.tabObj (qs ++ #[rawInt lp.line,rawInt lp.col,.ref c'])):=Qg _ tab
  have I':Inv X pins σ (upd H c' (.cod (pk X))) { s with heap:=h'.push (W.kla_obj "<lambda>" (pk X) la lb ls ar ((X.mg (Str.ofString "__name__")).getD .none) c' a3),toks:=tk }:=by
   refine I.step (g':=s.gens) (d':=s.drawn) (t':=tk) (ch:=[]) (λ _ z=>nomatch z) (λ b o _ _ _ e n=>kp b o (a8 b n) e) (λ b o _ _ _ e n=>⟨o.slots,kp b o (a8 b n) e⟩) (λ b o _ e n=>?_) (λ b o _ e=>?_) (λ b xs e=>?_) (λ b o u e=>?_) (λ b ps e=>?_) (λ m hm=>?_) (λ b u e=>?_) I.bare
   ·rw [ae (Qy (Qs (Qm e) sz))];exact n
   ·by_cases hb:b=Pt
    ·exact⟨_,by rw [hb];exact a6⟩
    ·exact⟨o,kp b o hb e⟩
   ·rw [ae (ag e aq)];exact e
   ·rw [ae (ag e aq)];exact e
   ·exact⟨#[],by rw [ae (ag e aq),e];simp⟩
   ·obtain⟨o,es,ep,ho,r⟩:=hm;exact⟨o,es,ep,kp _ o (QS cf) ho,r⟩
   ·by_cases hb:b=c'
    ·subst hb;rw [af] at e;cases e;obtain⟨c2,o,vs,t2,z1,z2,z3,z4⟩:=rc;cases z1;exact⟨o,vs,t2,Qg _ z2,z3,z4⟩
    ·rw [ae hb] at e
     by_cases hbP:b=Pt
     ·subst hbP;rw [hP] at e;cases e;refine⟨q,t,_,e0,a6,?_,λ pos cv b7=>?_⟩
      ·rw [Array.toList_append];exact TriplesOk_snoc _ _ _ _ tr
      ·rw [Array.toList_append] at b7
       rcases wV pos _ _ _ _ _ (Qi _) tr cv b7 with z|z
       ·obtain⟨d,r1,r2⟩:=bp pos cv z;exact⟨d,r1,by rw [ae (ag r2 aq)];exact r2⟩
       ·exact⟨c',z,by rw [af,bt]⟩
     ·refine(I.hok b u e).stay (λ d v hd r=>kp d v ?_ r) (λ d r=>by rw [ae (ag r aq)];exact r) (λ d y r=>by rw [ae (ag r aq)];exact r) λ d xs r=>by rw [ae (ag r aq)];exact r
      rcases hd with z|z
      ·rw [z];exact hbP
      ·intro z2;rw [z2,hP] at z;cases z
  refine k _ c' a3 _ _ _ I' (Ext.new aq) (I.fpOk hsz ?_) (Qp _ rfl) af;rw [ae (RN lt)];exact I.hok.fresh hsz
def Bk(X:Cx)(A:Around)(N:List Str)(ls:Scope)(f c':Addr)(cl:List (Str × Addr))(s:Shared)(H:Hp):Cx where
 prog:=X.prog
 w:=X.w
 K:=X.K
 mg:=X.mg
 base:=X.base
 A:=A.deeper (W.envX (pk X) ls s.heap.objs.size f (.ref c') cl)
 N:=N
 s₀:=s
 H₀:=H
 env:=W.envX (pk X) ls s.heap.objs.size f (.ref c') cl
 outer:=X.stack
 stack:=W.envX (pk X) ls s.heap.objs.size f (.ref c') cl::X.stack
 ex:=[]
 calm:=true
 fn:=λ _=>false
 pn:=[]
 xe:=λ _ _=>False
def HW{A:Around}{k:Nat}{x y:Str}{la:Arguments}{lb:Expr}{ls:Scope}{f c' cf:Addr}{pm ar xu fu:Value}{xv fv:V}{t:TE}{Q:VK}{E':Value->Shared->Prop}(I:Inv X pins σ H s)(hr:fG k A)(e0:xc X.prog X.w X.K X.mg X.base A X.stack s H)
  (hf:s.heap.get? f=some (W.kla_obj "<lambda>" (pk X) la lb ls [(y,cf)] pm c' ar)) (hc:H c'=some (.cod (pk X))) (a5:X.env.cells.lookup y=some cf) (hv:s.heap.IsCell cf (some fu)) (rf:bA fv fu) (rx:bA xv xu)
  (hn:ls.names=[(x,.local),(y,.free)]) (a6:x ≠ y) (hk:ls.kind=.function) (hg:ls.isGenerator=false) (a7:ls.isCoroutine=false) (hb:∀ (u:Value) (a4:List (Str × Addr)) (pm:Value) (c':Addr) (ar:Value),bindArgs (W.kla_fn "<lambda>" (pk X) la lb ls a4 pm (.ref c') ar) ⟨[u],[]⟩=pure [(x,u)])
  (ht:PE (Bk X A [x,y] ls f c' [(y,cf)] s H) lb t) (h:t [some xv,some fv] H Q):wpAny (model X.prog X.w) A (call (.ref f) [xu]) (EP X pins σ Q) E' s:=by
 have lim:s.heap.NoLimit:=e0.mod.nolimit.keeps λ b o e=>(e0.bs b o e).1;have yx:y ≠ x:=QS a6;have lx:ls.names.lookup x=some .local:=by rw [hn];simp
 have ly:ls.names.lookup y=some .free:=by rw [hn];simp [List.lookup,Sh yx]
 obtain⟨oc,vs,tc,g1,g2,g3⟩:=I.hok c' _ hc;refine RP (W.kla_callFunE hr.depth hf rfl a7 hg rfl ⟨c',oc,vs,tc,rfl,g1,g2,g3⟩ ?_);rw [hb];refine Ql ?_;refine wpAny_newFunctionEnv (λ z hz=>?_) (λ z hz=>?_) (λ h' ns sb=>?_) hk
 ·have hz':z∈ls.names:=hz;rw [hn] at hz'
  rcases QG.mp hz' with rfl|hz'
  ·exact λ q=>by cases q
  ·rw [Qo.mp hz'];exact λ q=>by cases q
 ·rw [Qo.mp hz];exact lx
 have kp:∀ b o,s.heap.get? b=some o->h'.get? b=some o:=λ b o e=>(sb.2 b (Qy (Qm e))).trans (Qg _ e);refine⟨lim.keeps kp,W.kla_codeExpr ?_⟩
 have aq:∀ z c,([(y,cf)]:List (Str × Addr)).lookup z=some c->z=y/\c=cf:=λ z c e=>by
  by_cases hz:z=y
  ·subst hz;simp at e;exact⟨rfl,e.symm⟩
  ·simp [List.lookup,Sh hz] at e
 have J:Inv (Bk X A [x,y] ls f c' [(y,cf)] s H) [] [some xv,some fv] H { s with heap:=h',toks:=s.toks+1 }:=by
  have a3:∀ b:Addr,b ∉ (Bk X A [x,y] ls f c' [(y,cf)] s H).ex:=λ b z=>absurd (show b∈([]:List Addr) from z) (by simp)
  refine⟨⟨e0.mod,hk,rfl,rfl,Qi _,λ a b c h1 h2=>?_,λ z hz=>?_,λ z c h=>?_,λ _=>hr.hd,Around.frames_deeper e0.frames,.inr ⟨rfl,rfl⟩,λ b z=>absurd z (a3 b),e0.bs,e0.bsz,λ b _ _=>a3 b,λ b z=>absurd z (a3 b),e0.funs,e0.frf⟩,
   rfl,e0.bare,Un.kept kp,⟨_,ns,λ i z v h1 h2 h3=>?_⟩,λ z c h=>?_,e0.hok.fresh (Qi _),λ z c h=>?_,λ p hp=>absurd (show p∈([]:List (Addr × Obj)) from hp) (by simp),e0.hok.kept kp,rfl⟩
  ·rw [(aq a c h1).1,(aq b c h2).1]
  ·have hz':ls.names.lookup z=some .cell\/ls.names.lookup z=some .free:=hz
   by_cases hzy:z=y
   ·exact⟨cf,by rw [hzy];simp [Bk]⟩
   ·rw [hn] at hz'
    by_cases hzx:z=x
    ·subst hzx;simp [List.lookup] at hz'
    ·simp [List.lookup,Sh hzx,Sh hzy] at hz'
  ·cases h
  ·match i with
   | 0=>
    have e1:x=z:=by simpa [Bk] using h1
    have e2:xv=v:=by simpa using h2
    subst e1 e2;exact⟨xu,rx,.inl ⟨lx,by simp⟩⟩
   | 1=>
    have e1:y=z:=by simpa [Bk] using h1
    have e2:fv=v:=by simpa using h2
    subst e1 e2;obtain⟨o,ho,hd⟩:=hv;exact⟨fu,rf,.inr ⟨.inr ly,cf,by simp [Bk],o,kp _ _ ho,hd⟩⟩
   | i+2=>simp [Bk] at h1
  ·obtain⟨rfl,rfl⟩:=aq z c h;obtain⟨o,ho,hd⟩:=hv;exact⟨_,o,kp _ _ ho,hd⟩
  ·obtain⟨rfl,rfl⟩:=aq z c h;exact I.freeC _ _ a5
 refine Rf (ht [] _ _ H Q J h) (λ v s' ⟨v',H',J',rv,q⟩=>?_) λ e s' z=>False.elim z;exact I.after ⟨v',H',J'.os,J'.bare,J'.base,J'.hok,rv,q⟩
def lsO(xs:Array Value)(c:Nat):Obj:={ cls:=.type "list",dict:=none,data:=.seq xs c,slots:=#[] }
def zD{p f D J:Addr}{xs:List Int}{kf:Int->Int}{kw:List (Str × Value)}{R:Result->Shared->Prop}(hc:X.calm=true)(hp:H p=some (.lst (xs.map V.int)))(bp:mi X pins H D)(bt:mi X pins H J)(a4:D ≠ J)
  (a5:∀ (pl:List (Addr × Obj)) (s:Shared) (x:Int) (xu:Value),x∈xs->Inv X (pins++pl) σ H s->bA (.int x) xu->wpAny (model X.prog X.w) X.A.in1 (call (.ref f) [xu]) (EP X (pins++pl) σ λ v H'=>v=.int (kf x)/\H'=H) (λ _ _=>False) s)
  (hR:∀ x v s',x∈xs->(∀ y∈xs,kf y<=kf x)->bA (.int x) v->Inv X pins σ H s'->R (.ok (.ret v)) s') :
  ∀ (k j:Nat) (s:Shared) (x:Int) (b:Value) (tb:Tok) (c:Nat) (oJ:Obj),xs.length - j=k->Inv X (pins++[(D,lsO #[b,.int (kf x) tb] c),(J,oJ)]) σ H s->s.heap.IsListIter J p j->bA (.int x) b->x∈xs->(∀ y∈xs.take j,kf y<=kf x) →
   codeAny (model X.prog X.w) X.A (.builtin "max.loop" ⟨[.ref J,.ref f,.ref D],kw⟩) R s:=by
 have nm:(toString "max" ++ toString ".loop":String) = "max.loop":=by decide
 obtain⟨d0,d1,d2,d3,d4,d5⟩:=bp;obtain⟨j0,j1,j2,j3,j4,j5⟩:=bt;have b4:X.A.in1.handled=none->X.A.handled=none:=λ h=>h;intro k
 induction k with
 | zero=>
  intro j s x b tb c oJ hk I st rb hx hle;have gD:=(I.pin (D,lsO #[b,.int (kf x) tb] c) (Qn _ (Qn _ (.head _)))).1;have I0:=I.unpinned;obtain⟨its,rv,pl,hz⟩:=I.list (SqL.of hp);have hl:=rv.length;rw [Qk] at hl;refine(So Sj ?_);rw [(RD QT _)]
  show wpAny _ X.A.in1 ((seqItems? (.ref D)) >>= _) _ _ s
  refine My (Q0 gD rfl ?_)
  show wpAny _ X.A.in1 ((tryCatch (pyNext (.ref J)) _) >>= _) _ _ s
  refine My (Q5 (S4 (show X.A.in1.handled=none from I.ok.hd hc) st pl.isList (by simp;omega) λ h' eb=>?_));have a6:h'.get? D=some (lsO #[b,.int (kf x) tb] c):=eb D _ a4 gD;have I1:Inv X pins σ H { s with heap:=h' }:=I0.turned (t':=s.toks) (λ b o hb e=>eb b o hb e) j0 j1 j3 j4 j5
  show wpAny _ X.A.in1 ((updateSeq D (λ _=>#[])) >>= _) _ _ _
  refine My ?_;refine(Sm a6 rfl (My (RJ (Ql ?_))));refine hR x b _ hx (λ y hy=>hle y (by rw [RF (by omega)];exact hy)) rb ?_;exact I1.turned (t':=s.toks) (it:=D) (h':=h'.update D (Obj.mapSeq λ _=>(#[]:Array Value))) (λ b o hb q=>by rw [Rp _ _ _ _ hb];exact q) d0 d1 d3 d4 d5
 | succ k ih=>
  intro j s x b tb c oJ hk I st rb hx hle;have gD:=(I.pin (D,lsO #[b,.int (kf x) tb] c) (Qn _ (Qn _ (.head _)))).1;have I0:=I.unpinned;obtain⟨its,rv,pl,hz⟩:=I.list (SqL.of hp);have hl:=rv.length;rw [Qk] at hl;obtain⟨y,hy⟩:∃ y,xs[j]? = some y:=⟨_,Qf (by omega)⟩;obtain⟨u,hu,ru⟩:=rv.get (i:=j) (x:=.int y) (by rw [Qq,hy];rfl);have a8:y∈xs:=Qr hy;refine(So Sj ?_);rw [(RD QT _)]
  show wpAny _ X.A.in1 ((seqItems? (.ref D)) >>= _) _ _ s
  refine My (Q0 gD rfl ?_)
  show wpAny _ X.A.in1 ((tryCatch (pyNext (.ref J)) _) >>= _) _ _ s
  refine My (Q5 (SY st pl.isList (x:=u) (by simpa using hu) λ h' b1 sb=>?_));have a6:h'.get? D=some (lsO #[b,.int (kf x) tb] c):=(sb.2 D a4).trans gD;have I1:Inv X pins σ H { s with heap:=h' }:=I0.turned (t':=s.toks) (λ b o hb e=>(sb.2 b hb).trans e) j0 j1 j3 j4 j5;obtain⟨aq,eJ,cJ,dJ⟩:=id b1
  have pin:∀ {s':Shared} {bb:Value} {tt:Tok} {xx:Int} {cc:Nat},Inv X pins σ H s'->s'.heap.get? D=some (lsO #[bb,.int xx tt] cc)->s'.heap.get? J=some aq->Inv X (pins++[(D,lsO #[bb,.int xx tt] cc),(J,aq)]) σ H s':=λ {s' bb tt xx cc} I' g1 g2=>
   I'.pins_of λ p hp=>by
    rcases QF.mp hp with hp|hp
    ·exact I'.pin p (Qn _ hp)
    ·rcases QG.mp hp with rfl|hp
     ·exact⟨g1,d0,d1,d2,λ v z=>by cases z⟩
     ·rw [Qo.mp hp];exact⟨g2,j0,j1,j2,λ v z=>by rw [dJ] at z;cases z⟩
  have I2:=pin I1 a6 eJ
  show wpAny _ X.A.in1 ((tryCatch (holding [u] (call (.ref f) [u])) _) >>= _) _ _ _
  refine My (Q5 (QU (Rf (a5 _ _ y u a8 I2 ru) (λ v ar he=>?_) λ _ _ hF=>hF.elim)));obtain⟨v',H',I3,b2,rfl,rfl⟩:=he;obtain⟨t2,rfl⟩:=(show ∃ t,v=.int (kf y) t from b2);have nD:=(I3.pin (D,lsO #[b,.int (kf x) tb] c) (Qn _ (Qn _ (.head _)))).1;have nJ:=(I3.pin (J,aq) (Qn _ (Qn _ (.tail _ (.head _))))).1;have I4:=I3.unpinned;have b3:ar.heap.IsListIter J p (j+1):=⟨aq,nJ,cJ,dJ⟩
  have a3:∀ z∈xs.take (j+1),z∈xs.take j\/z=y:=λ z hz=>by
   rw [QQ,hy] at hz
   rcases QF.mp hz with q|q
   ·exact .inl q
   ·exact .inr (by simpa using q)
  show wpAny _ X.A.in1 ((tryCatch (holding [u,.int (kf y) t2] (richCompare .Gt (.int (kf y) t2) (.int (kf x) tb) >>= _)) _) >>= _) _ _ _
  refine My (Q5 (QU (My (CmpOf.ints_gt (P:=λ i v=>∃ t,v=.int ((λ i=>if i=0 then kf y else kf x) i) t) (λ i=>if i=0 then kf y else kf x) (λ i v h=>h) 0 1 _ _ _ _ _ ⟨t2,rfl⟩ ⟨tb,rfl⟩ ?_))));refine(My (QU (Rm ?_)));refine(My (RJ (Ql ?_)))
  by_cases hb:kf y > kf x
  ·rw [QE (by simpa using hb)];refine My ?_;refine(Sm nD rfl (My (RJ ?_)));rw [nm];have a7:∃ c2,(ar.heap.update D (Obj.mapSeq λ _=>#[u,.int (kf y) t2])).get? D=some (lsO #[u,.int (kf y) t2] c2):=⟨_,QM _ nD rfl⟩;obtain⟨c2,a7⟩:=a7;have I5:=I4.turned (t':=ar.toks) (it:=D) (h':=ar.heap.update D (Obj.mapSeq λ _=>#[u,.int (kf y) t2])) (λ b o hb q=>by rw [Rp _ _ _ _ hb];exact q) d0 d1 d3 d4 d5;have a9:(ar.heap.update D (Obj.mapSeq λ _=>#[u,.int (kf y) t2])).get? J=some aq:=by rw [Rp _ _ _ _ a4.symm];exact nJ
   refine Ql ⟨R5 QT _,ih (j+1) _ y u t2 c2 aq (by omega) (pin I5 a7 a9) ⟨aq,a9,cJ,dJ⟩ ru a8 λ z hz=>?_⟩
   rcases a3 z hz with q|q
   ·have:=hle z q;omega
   ·rw [q];omega
  ·rw [QB (by simpa using hb)];refine(My (RJ ?_));rw [nm];refine Ql ⟨R5 QT _,ih (j+1) _ x b tb c aq (by omega) (pin I4 nD nJ) b3 rb hx λ z hz=>?_⟩
   rcases a3 z hz with q|q
   ·exact hle z q
   ·rw [q];omega
def wU(a k d:Value):argsOk "max" ⟨[a],[("key",k),("default",d)]⟩:=by unfold argsOk;kernel_rfl
def zE{p f:Addr}{xs:List Int}{kf:Int->Int}{d:Value}{dv:V}{Q:VK}(hc:X.calm=true)(I:Inv X pins σ H s)(hp:H p=some (.lst (xs.map V.int)))(rd:bA dv d)
  (a3:∀ (pl:List (Addr × Obj)) (s:Shared) (x:Int) (xu:Value),x∈xs->Inv X (pins++pl) σ H s->bA (.int x) xu->wpAny (model X.prog X.w) X.A.in1 (call (.ref f) [xu]) (EP X (pins++pl) σ λ v H'=>v=.int (kf x)/\H'=H) (λ _ _=>False) s)
  (h0:xs=[]->Q dv H) (h1:∀ x∈xs,(∀ y∈xs,kf y<=kf x)->Q (.int x) H):wpAny (model X.prog X.w) X.A (call (.builtin "max") [.ref p] [("key",.ref f),("default",d)]) (EP X pins σ Q) X.xe s:=by
 have nm:(toString "max" ++ toString ".loop":String) = "max.loop":=by decide
 obtain⟨its,rv,pl,hz⟩:=I.list (SqL.of hp);have hl:=rv.length;rw [Qk] at hl;have bb:p < s.heap.objs.size:=by obtain⟨_,e,_⟩:=pl.isList;exact Qm e
 refine mL F.kind_max F.plain_max F.entry_max (wU _ _ d) ?_
 show wpAny _ X.A.in1 (Builtin.Builtins.bindParams "max" ["key", "default"] 0 ⟨[],[("key",.ref f),("default",d)]⟩ >>= _) _ _ s
 refine My (wpAny_of_eq (show Builtin.Builtins.bindParams "max" ["key", "default"] 0 ⟨[],[("key",.ref f),("default",d)]⟩=pure [some (.ref f),some d] from rfl) ?_);refine My (Ql ?_);refine My (R0 pl.isList ?_);refine My (R3 ?_);rw [nm];refine Ql ⟨R5 QT _,?_⟩;rw [QR];have kp:∀ b o,s.heap.get? b=some o->((s.heap.push { cls:=.type "list_iterator",data:=.fields #[.ref p,.int 0 0] }).push { cls:=.type "list",dict:=none,data:=.seq #[] }).get? b=some o:=λ b o e=>Qg _ (Qg _ e);have gJ:((s.heap.push { cls:=.type "list_iterator",data:=.fields #[.ref p,.int 0 0] }).push { cls:=.type "list",dict:=none,data:=.seq #[] }).get? s.heap.objs.size=some { cls:=.type "list_iterator",data:=.fields #[.ref p,.int 0 0] }:=Qg _ (Qp _ rfl)
 have gD:((s.heap.push { cls:=.type "list_iterator",data:=.fields #[.ref p,.int 0 0] }).push { cls:=.type "list",dict:=none,data:=.seq #[] }).get? (s.heap.objs.size+1)=some (lsO #[] 0):=by
  have:=Qp (s.heap.push { cls:=.type "list_iterator",data:=.fields #[.ref p,.int 0 0] }) (o:={ cls:=.type "list",dict:=none,data:=.seq #[] }) rfl;rw [QR] at this;exact this
 have I1:=I.kept (t':=s.toks) kp;have a6:mi X pins H s.heap.objs.size:=I.fpOk (Qi _) (I.hok.fresh (Qi _));have a7:mi X pins H (s.heap.objs.size+1):=I.fpOk (Rq _) (I.hok.fresh (Rq _));have a4:s.heap.objs.size+1 ≠ s.heap.objs.size:=Nat.succ_ne_self _;generalize (s.heap.push { cls:=.type "list_iterator",data:=.fields #[.ref p,.int 0 0] }).push { cls:=.type "list",dict:=none,data:=.seq #[] }=hh at gJ gD I1;clear kp bb pl;generalize s.heap.objs.size+1=D at gD a7 a4;generalize s.heap.objs.size=J at gJ a6 a4;obtain⟨d0,d1,d2,d3,d4,d5⟩:=id a7;obtain⟨j0,j1,j2,j3,j4,j5⟩:=id a6;obtain⟨its,rv,pl,hz⟩:=I1.list (SqL.of hp);have hl:=rv.length;rw [Qk] at hl;have st:hh.IsListIter J p 0:=⟨_,gJ,rfl,rfl⟩;refine(So Sj ?_);rw [(RD QT _)]
 show wpAny _ X.A.in1 ((seqItems? (.ref D)) >>= _) _ _ _
 refine My (Q0 gD rfl ?_)
 show wpAny _ X.A.in1 ((tryCatch (pyNext (.ref J)) _) >>= _) _ _ _
 cases hxs:xs with
 | nil=>
  subst hxs;refine My (Q5 (S4 (show X.A.in1.handled=none from I.ok.hd hc) st pl.isList (by simp;simpa using hl.symm) λ h' eb=>?_));refine My (wpAny_rule (Ql ?_));exact⟨dv,H,I1.turned (t':=s.toks) (λ b o hb e=>eb b o hb e) j0 j1 j3 j4 j5,rd,h0 rfl⟩
 | cons y ys=>
  have hy:xs[0]? = some y:=by rw [hxs];rfl
  have a8:y∈xs:=Qr hy;obtain⟨u,hu,ru⟩:=rv.get (i:=0) (x:=.int y) (by rw [Qq,hy];rfl);refine My (Q5 (SY st pl.isList (x:=u) (by simpa using hu) λ h' bp sb=>?_));have bt:h'.get? D=some (lsO #[] 0):=(sb.2 D a4).trans gD;have I2:Inv X pins σ H { s with heap:=h' }:=I1.turned (t':=s.toks) (λ b o hb e=>(sb.2 b hb).trans e) j0 j1 j3 j4 j5;obtain⟨aq,eJ,cJ,dJ⟩:=id bp
  have pin:∀ {s':Shared} {ar:Array Value} {cc:Nat},Inv X pins σ H s'->s'.heap.get? D=some (lsO ar cc)->s'.heap.get? J=some aq->Inv X (pins++[(D,lsO ar cc),(J,aq)]) σ H s':=λ {s' ar cc} I' g1 g2=>
   I'.pins_of λ p hp=>by
    rcases QF.mp hp with hp|hp
    ·exact I'.pin p (Qn _ hp)
    ·rcases QG.mp hp with rfl|hp
     ·exact⟨g1,d0,d1,d2,λ v z=>by cases z⟩
     ·rw [Qo.mp hp];exact⟨g2,j0,j1,j2,λ v z=>by rw [dJ] at z;cases z⟩
  have I3:=pin I2 bt eJ
  show wpAny _ X.A.in1 ((tryCatch (holding [u] (call (.ref f) [u])) _) >>= _) _ _ _
  refine My (Q5 (QU (Rf (a3 _ _ y u a8 I3 ru) (λ v a5 he=>?_) λ _ _ hF=>hF.elim)));obtain⟨v',H',I4,b1,rfl,rfl⟩:=he;obtain⟨t2,rfl⟩:=(show ∃ t,v=.int (kf y) t from b1);have nD:=(I4.pin (D,lsO #[] 0) (Qn _ (Qn _ (.head _)))).1;have nJ:=(I4.pin (J,aq) (Qn _ (Qn _ (.tail _ (.head _))))).1;have I5:=I4.unpinned
  show wpAny _ X.A.in1 ((updateSeq D (λ _=>#[u,.int (kf y) t2])) >>= _) _ _ _
  refine My ?_;refine(Sm nD rfl ?_);rw [nm];obtain⟨c2,gD2⟩:∃ c2,(a5.heap.update D (Obj.mapSeq λ _=>#[u,.int (kf y) t2])).get? D=some (lsO #[u,.int (kf y) t2] c2):=⟨_,QM _ nD rfl⟩;have I6:=I5.turned (t':=a5.toks) (it:=D) (h':=a5.heap.update D (Obj.mapSeq λ _=>#[u,.int (kf y) t2])) (λ b o hb q=>by rw [Rp _ _ _ _ hb];exact q) d0 d1 d3 d4 d5;have a9:(a5.heap.update D (Obj.mapSeq λ _=>#[u,.int (kf y) t2])).get? J=some aq:=by rw [Rp _ _ _ _ a4.symm];exact nJ
  refine Ql ⟨R5 QT _,zD hc hp a7 a6 a4 a3 (λ x v s' hx hle rb I'=>⟨.int x,_,I',rb,h1 x hx hle⟩) _ 1 _ y u t2 c2 aq rfl (pin I6 gD2 a9) ⟨aq,a9,cJ,dJ⟩ ru a8 λ z hz=>?_⟩;rw [hxs] at hz;have:z=y:=by simpa using hz
  rw [this];exact Int.le_refl _
def Bv(i:Nat)(Pt:Addr)(mg:Str->Option Value)(q:Str)(t:TE)(σ:St)(Q:VK):List V->Hp->Prop:=λ vs H=>∃ (p:Addr) (xs:List Int) (kf:Int->Int) (fv:V),vs=[.ref p]/\H p=some (.lst (xs.map V.int))/\σ[i]? = some (some fv)/\TbH mg H Pt q/\(∀ x∈xs,∀ H',Ext H H'->∀ Q':VK,Q' (.int (kf x)) H'->t [some (.int x),some fv] H' Q')/\(xs=[]->∀ H',Ext H H'->Q .non H')/\∀ x∈xs,(∀ y∈xs,kf y<=kf x)->∀ H',Ext H H'->Q (.int x) H'
def Jq(i:Nat)(Pt:Addr)(mg:Str->Option Value)(q:Str)(t:TE)(ta:TA):TE:=λ σ H Q=>ta σ H (Bv i Pt mg q t σ Q)
def Gs(i:Nat)(Pt:Addr)(mg:Str->Option Value)(q:Str)(t:TE)(ta:TA)(σ:St)(H:Hp)(Q:VK):Jq i Pt mg q t ta σ H Q=ta σ H (Bv i Pt mg q t σ Q):=rfl
def BI{i:Nat}{Pt:Addr}{mg:Str->Option Value}{q:Str}{t:TE}{σ:St}{Q:VK}{H:Hp}{p:Addr}{xs:List Int}(kf:Int->Int){fv:V}(hp:H p=some (.lst (xs.map V.int)))(hi:σ[i]? = some (some fv))(hT:TbH mg H Pt q)(ht:∀ x∈xs,∀ H',Ext H H'->∀ Q':VK,Q' (.int (kf x)) H'->t [some (.int x),some fv] H' Q')(h0:xs=[]->∀ H',Ext H H'->Q .non H')(h1:∀ x∈xs,(∀ y∈xs,kf y<=kf x)->∀ H',Ext H H'->Q (.int x) H'):Bv i Pt mg q t σ Q [.ref p] H:=⟨p,xs,kf,fv,rfl,hp,hi,hT,ht,h0,h1⟩
def FL{i k:Nat}{x y:Str}{p pos kp dp lp cp:Pos}{cn:Nat}{e:Expr}{ta:TA}{la:Arguments}{lb:Expr}{ls:Scope}{Pt:Addr}{t:TE}(hc:X.calm=true)(hr:fG (k+1) X.A)(hg:Gl X "max")(hm:X.mg "max"=none)(ha:PA X [e] ta)(hT:ME X.K X.env.code Pt)(hv:bootBuiltins "max"=some (.builtin "max"))
  (ht:∀ (A:Around) (f c':Addr) (cl:List (Str × Addr)) (s:Shared) (H:Hp),PE (Bk X A [x,y] ls f c' cl s H) lb t) (a8:X.N[i]? = some y:=by rfl) (aq:X.env.kindOf y=some .cell:=by rfl) (a5:ls.names=[(x,.local),(y,.free)]:=by rfl) (a9:x ≠ y:=by decide) (hk:ls.kind=.function:=by rfl) (bb:ls.isGenerator=false:=by rfl) (bp:ls.isCoroutine=false:=by rfl)
  (bt:defaultsOf la X.env=([],[]):=by rfl) (hb:∀ (u:Value) (a6:List (Str × Addr)) (pm:Value) (c':Addr) (ar:Value),bindArgs (W.kla_fn "<lambda>" (pk X) la lb ls a6 pm (.ref c') ar) ⟨[u],[]⟩=pure [(x,u)]:=by intros;rfl)
  (b1:(backToKw pos (keywordEach [⟨some "key",.Lambda la lb ls lp,kp⟩,⟨some "default",.Constant .none cn cp,dp⟩] X.env)).filterMap (·.1)=[Str.ofString "key",Str.ofString "default"]:=by rfl) (h1:backTo pos (starEach [e] X.env)=(false,eval e X.env)::backTo pos (starEach [] X.env):=by rfl)
  (h2:(backTo pos (starEach [e] X.env)).any (·.1)=false:=by rfl)
  (h3:(backToKw pos (keywordEach [⟨some "key",.Lambda la lb ls lp,kp⟩,⟨some "default",.Constant .none cn cp,dp⟩] X.env)).all (·.1.isSome)=true:=by rfl)
  (h4:(backToKw pos (keywordEach [⟨some "key",.Lambda la lb ls lp,kp⟩,⟨some "default",.Constant .none cn cp,dp⟩] X.env)).any (·.1.isNone)=false:=by rfl) :
  PE X (.Call (.Name "max" p) [e] [⟨some "key",.Lambda la lb ls lp,kp⟩,⟨some "default",.Constant .none cn cp,dp⟩] pos) (Jq i Pt X.mg (pk X) t ta):=by
 intro pins s σ H Q I h;refine Rg (iC I hg hm hv ?_ (by decide) (by decide));refine callWith_kw (thn (ha pos pins s σ H _ I h) λ us s1 ⟨vs,H1,I1,r1,q1⟩=>?_) h1 h2 h3 h4;obtain⟨pp,xs,kf,fv,rfl,hp,hi,b2,b3,q0,qx⟩:=q1
 cases r1 with
 | cons r1 rr=>
 cases rr;cases r1;obtain⟨cf,a3⟩:=I1.ok.has y (.inl aq);have b4:closureFor ls X.env=pure [(y,cf)]:=OC a5 a3;rw [b1]
 show wpAny _ _ (evalAll ((do let v ←eval (.Lambda la lb ls lp) X.env;standAt pos;pure v)::(do let v ←eval (.Constant .none cn cp) X.env;standAt pos;pure v)::[])) _ _ s1
 refine Tw (My (LY I1 hT b2 b4 bt λ f c' ar pm H2 s2 I2 e2 b5 gf b6=>My (RI (Ql ?_))));refine Tw (My (wpAny_of_eq (show eval (.Constant .none cn cp) X.env=pure .none from rfl) (My (RI (Ql ?_)))));refine wpAny_evalAll_nil ?_;have b7:=e2.at hp;obtain⟨f0,f1,f2,f3,f4,f5⟩:=id b5
 have I3:Inv X (pins++[(f,W.kla_obj "<lambda>" (pk X) la lb ls [(y,cf)] pm c' ar)]) σ H2 s2:=I2.pins_of λ p hp=>by
  rcases QF.mp hp with hp|hp
  ·exact I2.pin p (Qn _ hp)
  ·rw [Qo.mp hp];exact⟨gf,f0,f1,f2,λ v z=>by cases z⟩
 show wpAny _ _ (call (.builtin "max") [.ref pp] [("key",.ref f),("default",.none)]) _ _ _
 refine Rf (zE (dv:=.non) (Q:=Q) (kf:=kf) hc I3 b7 rfl (λ pl s x xu hx J rx=>?_) (λ z=>q0 z H2 e2) λ x hx hle=>qx x hx hle H2 e2) (λ v s' ⟨v',H',J,rv,q⟩=>⟨v',H',J.unpinned,rv,q⟩) λ _ _ z=>z;have cc:=(J.pin (f,_) (Qn _ (Qz _ (Qn _ (.head _))))).1;obtain⟨m,cg,a7⟩:=J.loc;obtain⟨fu,rf,lk⟩:=a7 i y fv a8 hi (.inr (.inl aq))
 have a4:s.heap.IsCell cf (some fu):=by
  rcases lk with ⟨z,_⟩|⟨_,c2,z,w⟩
  ·rw [aq] at z;cases z
  ·rw [a3] at z;cases z;exact w
 exact HW J hr.in1 J.env0.in1 cc b6 a3 a4 rf rx a5 a9 hk bb bp hb (ht _ _ _ _ _ _) (b3 x hx H2 e2 _ ⟨rfl,rfl⟩)
end
abbrev xf(f:Str):Str:=(f++Str.ofString ".<locals>.")++Str.ofString "<lambda>"
def Ed:∀ {l:List (Addr × Str)}{b:Addr}{q:Str},l.lookup b=some q->(b,q)∈l
 | [],b,q,h=>by cases h
 | z::l,b,q,h=>by
  by_cases hz:b=z.1
  ·subst hz;simp [List.lookup] at h;rw [←h];exact Qv
  ·simp only [List.lookup,Sh hz] at h;exact Qt _ (Ed h)
def Fun.okC{P:Program}{w:World}{K:W.Frag}{mg:Str->Option Value}{base:Heap}{x qual:Str}{st:Stmt}{f:Addr}{fd:FuncData}{N ps:List Str}{k:Nat}{sp:Sp}(F:Fun K x qual st f fd)(S:ah N ps (aa st))(len:∀ vs H Q E,sp vs H Q E->vs.length=ps.length)
  (aq:∀ (cdv:Value) (A:Around) (outer:List Env) (s:Shared) (H:Hp) (vs:List V) (Q:VK) (E:XK),cdv=fd.code->fG k (A.deeper (envOfC qual (aa st) s.heap.objs.size f cdv))->sp vs H Q E →
   ∃ t,PSs (w9 CX0 P w K mg base N qual (aa st) f cdv A outer s H E).nox (cX st) t/\t { nx:=λ _ H'=>Q .non H',rt:=Q } (ao N vs) H):aM P w K mg base CX0 (k+1) f fd ps sp:=by
 obtain⟨oc,od,kV,doc,pm,an,cdv,ct,osl,rfl,lk,ar⟩:=F.ex;refine E5 lk ar S len λ A outer s H vs Q E hr a3=>?_;obtain⟨t,h,q⟩:=aq cdv A outer s H vs Q E rfl hr a3;exact⟨t,h.nox,q⟩
def Af{P:Program}{w:World}{K:W.Frag}{mg mb:Str->Option Value}{CX:CXT}{k:Nat}{fa a:Addr}{fd:FuncData}{x:Str}{sp:Sp}{s₁:Shared}{vs:List Value}{ns:List Int}(tq:List (Addr × Str))
  (KX:K.In s₁.heap) (a9:s₁.heap.Ns mainGlobals mg) (hb:s₁.heap.Ns builtinsNs mb) (a3:∀ x:Str,x ≠ "__name__" → mb x=bootBuiltins x) (bb:s₁.heap.NoLimit) (hg:s₁.gens=#[])
  (ha:s₁.heap.get? a=some { cls:=.type "list",data:=.seq vs.toArray }) (hi:IntsAre vs ns) (hl:ns.length<=sizeLine) (hr:fG k callerA)
  (F:∀ base:Heap,K.In base->base.Ns mainGlobals mg->aM P w K mg base CX k fa fd [x] sp) (a6:∀ (s:Shared) (u:Value),BindsTo s fd ⟨[u],[]⟩ [(x,u)])
  (aq:∀ p∈tq,s₁.heap.get? p.1=some (W.tabObj #[])) (bp:∀ p∈tq,K.lookup p.1=none) (bt:∀ p∈tq,isCodeTable s₁.heap p.1)
  (b7:∃ (bm:Addr) (ob:Obj),mg "__builtins__"=some (.ref bm)/\bm ≠ builtinsNs/\s₁.heap.get? bm=some ob/\ob.cls=.type "module" /\ ob.dict=some builtinsNs/\ob.data=.plain) (cc:∀ bm,mg "__builtins__"=some (.ref bm)->K.lookup bm=none) (a7:(tq.map (·.1)).Nodup)
  (b1:∀ H:Hp,SqL K H a (ns.map V.int)->(∀ p∈tq,TbH mg H p.1 p.2)->sp [.ref a] H (λ v _=>v=.bl true) λ _ _ _=>False)
  (cf:∀ H e s',CX [] H s₁ (λ _ _ _=>False) e s'->False) :
  codeAny (model P w) callerA (.call (.ref fa) ⟨[.ref a],[]⟩) (λ r s'=>r=.ok (.ret (.bool true))/\OldK s₁.heap s'.heap/\s'.os=s₁.os/\AllBare s'.gens) s₁:=by
 have rv:=pM hi;have b2:=hi.length
 have core:∀ H:Hp,SqL K H a (ns.map V.int)->(∀ p∈tq,TbH mg H p.1 p.2)->HOk P w H s₁.heap->(∀ b u,H b=some u->(∃ o v,u=.frz o v/\s₁.heap.get? b=some o/\∀ es ep,o.data ≠ .dict es ep)\/(∃ q t,u=.tbl #[.str q t]/\s₁.heap.get? b=some (W.tabObj #[])/\isCodeTable s₁.heap b))->(∀ b,H b ≠ none->K.lookup b=none) →
   codeAny (model P w) callerA (.call (.ref fa) ⟨[.ref a],[]⟩) (λ r s'=>r=.ok (.ret (.bool true))/\OldK s₁.heap s'.heap/\s'.os=s₁.os/\AllBare s'.gens) s₁:=by
  intro H hS hT hok hA hK;have ar:∀ {b:Addr} {o:Obj},s₁.heap.get? b=some o->H b=none->(Bm s₁.heap H).get? b=some o:=λ e n=>Dm e n
  have cg:∀ {b:Addr} {o:Obj} {es:Array DictEntry} {ep:Nat},s₁.heap.get? b=some o->o.data=.dict es ep->H b=none:=λ {b o es ep} e d=>by
   cases q:H b with
   | none=>rfl
   | some u=>
    rcases hA b u q with ⟨o',v,_,e',nd⟩|⟨q',t,_,e',_⟩
    ·rw [e] at e';cases e';exact absurd d (nd es ep)
    ·rw [e] at e';cases e';cases d
  have a4:∀ {b:Addr} {m:Str->Option Value},s₁.heap.Ns b m->(Bm s₁.heap H).Ns b m:=λ {b m} ⟨o,es,ep,e,d,r⟩=>⟨o,es,ep,ar e (cg e d),d,r⟩
  have b3:K.In (Bm s₁.heap H):=λ b o e=>ar (KX b o e) (by
   cases q:H b with
   | none=>rfl
   | some u=>rw [hK b (by rw [q];simp)] at e;cases e)
  have hM:Mod K mg (Bm s₁.heap H):=⟨b3,a4 a9,⟨mb,a4 hb,a3⟩,let ⟨mc,h1,h2⟩:=bb;⟨mc,a4 h1,h2⟩⟩;have e0:xc P w K mg (Bm s₁.heap H) callerA [] s₁ H:=⟨rfl,hM,λ b o e=>FY e,SE (AG _ _),trivial,λ b hb=>absurd (show b∈([]:List Addr) from hb) (by simp),hok,.of_eq hg⟩;refine Rt ((F _ b3 (a4 a9)).run callerA [] s₁ H ⟨[.ref a],[]⟩ [.ref a] [.ref a] _ _ hr e0 (a6 s₁ (.ref a)) (.cons rfl .nil) (b1 H hS hT)) λ r s' h=>?_
  cases r with
  | error e=>exact(cf H e s' h).elim
  | ok fl=>
   cases fl with
   | next=>exact False.elim h
   | brk=>exact False.elim h
   | cont=>exact False.elim h
   | ret u=>
    obtain⟨v,H',os,bare,un,a5,r',q⟩:=h;have q':v=.bl true:=q;subst q';obtain rfl:u=Value.bool true:=r'
    have old:∀ b o,s₁.heap.get? b=some o->asItWas s₁.heap s'.heap b o:=λ b o e=>by
     cases q:H b with
     | none=>exact .inl (un.keep b o e q (by intro z;exact absurd (show b∈([]:List Addr) from z) (by simp)) (by simp))
     | some u=>
      rcases hA b u q with ⟨o',v,rfl,e',_⟩|⟨q',t,rfl,e',hc⟩
      ·obtain⟨e2,_⟩:=a5 b _ (un.frzs b o' _ q);rw [e] at e';cases e';exact .inl e2
      ·obtain⟨more,e1⟩:=un.tbls b _ q;obtain⟨_,_,qs,_,e2,_⟩:=a5 b _ e1;rw [e] at e';cases e';exact .inr (.inl ⟨hc,rfl,#[],qs,rfl,by rw [e2];simp⟩)
    refine⟨rfl,⟨old,λ b o e=>un.there b o e (by simp)⟩,os,bare⟩
 obtain⟨bm,ob,m1,m2,m3,m4,m5,m6⟩:=b7;have ck:a ≠ bm:=λ z=>by rw [←z,ha] at m3;cases m3;cases m6
 have a8:∀ p∈tq,p.1 ≠ a/\p.1 ≠ bm:=λ p hp=>⟨(λ z=>by have:=aq p hp;rw [z,ha] at this;cases this),(λ z=>by have:=aq p hp;rw [z,m3] at this;cases this;cases m6)⟩
 let H1:Hp:=λ b=>if b=bm then some (.frz ob (.own 0)) else (tq.lookup b).map λ q=>.tbl #[.str q 0]
 have lk:∀ p∈tq,tq.lookup p.1=some p.2:=by
  clear b1 aq bp bt core a8 H1
  induction tq with
  | nil=>intro p hp;cases hp
  | cons z l ih=>
   intro p hp;rw [Rj,Rb] at a7
   rcases QG.mp hp with rfl|hp
   ·simp [List.lookup]
   ·have cm:p.1 ≠ z.1:=λ e=>a7.1 (e ▸ Sy hp);have:=ih a7.2 p hp;simp only [List.lookup,Sh cm];exact this
 have h1:∀ b u,H1 b=some u->(b=bm/\u=.frz ob (.own 0))\/∃ p∈tq,p.1=b/\u=.tbl #[.str p.2 0]:=λ b u e=>by
  by_cases a3:b=bm
  ·have e2:H1 b=some (.frz ob (.own 0)):=QE a3;rw [e2] at e;cases e;exact .inl ⟨a3,rfl⟩
  ·have e2:H1 b=(tq.lookup b).map λ q=>.tbl #[.str q 0]:=QB a3;rw [e2] at e;obtain⟨q,e3,rfl⟩:=Qj.mp e;exact .inr ⟨(b,q),Ed e3,rfl,rfl⟩
 have cn:H1 a=none:=by
  cases q:H1 a with
  | none=>rfl
  | some u=>
   rcases h1 a u q with ⟨z,_⟩|⟨p,hp,z,_⟩
   ·exact absurd z ck
   ·exact absurd z (a8 p hp).1
 have b4:∀ (H:Hp),(∀ b u,H1 b=some u->bg P w H s₁.heap b u):=λ H b u e=>by
  rcases h1 b u e with ⟨rfl,rfl⟩|⟨p,hp,rfl,rfl⟩
  ·exact⟨m3,ob,m3⟩
  ·exact⟨p.2,0,#[],rfl,aq p hp,trivial,λ pos cv h=>by cases h⟩
 have b5:∀ (H:Hp),(∀ b u,H1 b=some u->H b=some u)->∀ p∈tq,TbH mg H p.1 p.2:=λ H hH p hp=>by
  refine⟨⟨0,hH _ _ ?_⟩,bm,ob,m1,m2,hH _ _ (QE rfl),m4,m5,m6⟩
  show (if p.1=bm then _ else _)=_
  rw [QB (a8 p hp).2,lk p hp];rfl
 have b6:∀ b u,H1 b=some u->(∃ o v,u=.frz o v/\s₁.heap.get? b=some o/\∀ es ep,o.data ≠ .dict es ep)\/(∃ q t,u=.tbl #[.str q t]/\s₁.heap.get? b=some (W.tabObj #[])/\isCodeTable s₁.heap b):=λ b u e=>by
  rcases h1 b u e with ⟨rfl,rfl⟩|⟨p,hp,rfl,rfl⟩
  ·exact .inl ⟨ob,_,rfl,m3,λ es ep z=>by rw [m6] at z;cases z⟩
  ·exact .inr ⟨p.2,0,rfl,aq p hp,bt p hp⟩
 have k1:∀ b,H1 b ≠ none->K.lookup b=none:=λ b n=>by
  cases q:H1 b with
  | none=>exact absurd q n
  | some u=>
   rcases h1 b u q with ⟨rfl,_⟩|⟨p,hp,rfl,_⟩
   ·exact cc _ m1
   ·exact bp p hp
 cases hk:K.lookup a with
 | some o=>
  have e:=KX a o hk;rw [ha] at e;cases e;exact core H1 (.inr ⟨_,vs.toArray,_,hk,rfl,rfl,rfl,by rw [QH,b2];exact hl,by simpa using rv⟩) (b5 H1 λ _ _ e=>e) (b4 H1) b6 k1
 | none=>
  have h2:∀ b u,upd H1 a (.frz { cls:=.type "list",data:=.seq vs.toArray } (.lst (ns.map V.int))) b=some u->(b=a/\u=.frz { cls:=.type "list",data:=.seq vs.toArray } (.lst (ns.map V.int)))\/H1 b=some u:=λ b u e=>by
   by_cases hb:b=a
   ·subst hb;rw [af] at e;cases e;exact .inl ⟨rfl,rfl⟩
   ·rw [ae hb] at e;exact .inr e
  refine core (upd H1 a (.frz { cls:=.type "list",data:=.seq vs.toArray } (.lst (ns.map V.int)))) (.inl (.inr ⟨_,af⟩)) (b5 _ λ b u e=>by rw [ae (ag e cn)];exact e) (λ b u e=>?_) (λ b u e=>?_) λ b n=>?_
  ·rcases h2 b u e with ⟨rfl,rfl⟩|e
   ·exact⟨ha,by rw [Qk];exact hl,vs,_,rv,ha⟩
   ·exact b4 _ b u e
  ·rcases h2 b u e with ⟨rfl,rfl⟩|e
   ·exact .inl ⟨_,_,rfl,ha,λ es ep z=>by cases z⟩
   ·exact b6 b u e
  ·cases q:upd H1 a (.frz { cls:=.type "list",data:=.seq vs.toArray } (.lst (ns.map V.int))) b with
   | none=>exact absurd q n
   | some u=>
    rcases h2 b u q with ⟨rfl,_⟩|e
    ·exact hk
    ·exact k1 b (by rw [e];simp)
def MF{l:W.OpenLaw}{n k:Nat}{q:Program}{loose:List Str}{XP:(Str->Option Value)->Heap->Prop}{YP:World->Heap->Prop}{d:DefRec}{K:Params->W.Frag}{CX:World->CXT}{sp:World->(Str->Option Value)->Sp}{x:Str}(tq:List (Addr × Str))
  (hn:l.most=some n) (ar:n<=sizeLine) (a3:d.params.defaults=[]) (hr:fG k callerA)
  (hY:∀ (w:World) (h:Heap),YP w h->(K w.params).In h) (a4:∀ (w:World) (h:Heap),YP w h->∀ p∈tq,h.get? p.1=some (W.tabObj #[])) (a5:(tq.map (·.1)).Nodup)
  (F:∀ (w:World) (mg:Str->Option Value) (fa:Addr) (h:Heap),(K w.params).In h->h.Ns mainGlobals mg->mg d.name=some (.ref fa) →
   (∀ p∈tq,(K w.params).lookup p.1=none/\∃ c,lU (K w.params) c p.1)/\(∀ bm,mg "__builtins__"=some (.ref bm)->(K w.params).lookup bm=none)/\∃ fd:FuncData,(∀ (s:Shared) (u:Value),BindsTo s fd ⟨[u],[]⟩ [(x,u)]) /\
    ∀ base:Heap,(K w.params).In base->base.Ns mainGlobals mg->aM l.prog w (K w.params) mg base (CX w) k fa fd [x] (sp w mg))
  (a6:∀ (w:World) (mg:Str->Option Value) (H:Hp) (a:Addr) (ns:List Int),ns.length<=n->SqL (K w.params) H a (ns.map V.int)->(∀ p∈tq,TbH mg H p.1 p.2)->sp w mg [.ref a] H (λ v _=>v=.bl true) λ _ _ _=>False)
  (a7:∀ (w:World) (H:Hp) (s:Shared) (e:Value) (s':Shared),CX w [] H s (λ _ _ _=>False) e s'->False) :
  W.WalkO q loose XP YP l.row.toRowW d [] (λ f vs=>PySem.call f vs):=by
 refine Att.attach_call hn a3 λ w s₀ s₁ mg mb fa o pm cd doc a vs ns G Y ho hd a9 a8 aq hints hlen hg=>?_;have KX:=hY w _ Y;obtain⟨hT,hB,fd,hb,hF⟩:=F w mg fa _ KX G.T.g a8;exact Af tq KX G.T.g G.T.b G.T.builtins G.T.nolimit hg aq hints (QP hlen ar) hr hF hb (a4 w _ Y) (λ p hp=>(hT p hp).1) (λ p hp=>let ⟨_,c⟩:=(hT p hp).2;c.tab KX) G.T.bmain hB a5 (λ H hS ht=>a6 w mg H a ns hlen hS ht) λ H e s'=>a7 w H s₁ e s'
def OX:R2:=λ x y H Q=>∃ (a b:Addr) (xs:List V),x=.ref a/\y=.ref b/\H a=some (.lst xs)/\H b=some (.lst xs)/\(∀ v∈xs,∃ q,v=V.ref q)/\Q (.bl false) H
def Fd{a b:Addr}{xs:List V}{H:Hp}{Q:VK}(ha:H a=some (.lst xs))(hb:H b=some (.lst xs))(h:∀ v∈xs,∃ q,v=V.ref q)(q:Q (.bl false) H):OX (.ref a) (.ref b) H Q:=⟨a,b,xs,rfl,rfl,ha,hb,h,q⟩
def uw:∀ {xs:List V}{us ws:List Value},(∀ v∈xs,∃ q,v=V.ref q)->bf xs us->bf xs ws->us=ws
 | _,_,_,_,.nil,.nil=>rfl
 | _,_,_,h,.cons r t,.cons r' t'=>by
  obtain⟨q,rfl⟩:=h _ Qv;cases (show _=Value.ref q from r);cases (show _=Value.ref q from r');rw [uw (λ v hv=>h v (Qt _ hv)) t t']
def Ky{X:Cx}(hu:X.A.units+64 < cLine):OpR X (compareOp .NotEq) OX:=by
 intro pins s σ H x y v u Q I rx ry h;obtain⟨a,b,xs,rfl,rfl,ha,hb,hr,q⟩:=h;cases (show _=Value.ref a from rx);cases (show _=Value.ref b from ry);obtain⟨its,rv,pa,_⟩:=I.list (SqL.of ha);obtain⟨its',aq,pb,_⟩:=I.list (SqL.of hb);have e:=uw hr rv aq;subst e;have key:=SeqAt.RcNeAt.lists (A:=X.A) (e:=λ _=>true) pa.isList pb.isList rfl (by omega) (λ j h1 h2=>SeqAt.EqAt.same _);have ea:(List.range its.toArray.size).all (λ _=>true)=true:=by simp
 rw [ea] at key;exact key X.prog X.w _ _ ⟨.bl false,H,I,rfl,q⟩
end L2
namespace PH
def px(ns:List Int):Prop:=ns.length<=8/\∀ n∈ns,1<=n/\n<=1000000000
def aj:List Int->Int
 | []=>1
 | n::r=>n * aj r
def gm:∀ ns ms:List Int,aj (ns++ms)=aj ns * aj ms
 | [],ms=>by simp [aj]
 | n::r,ms=>by simp only [SS,aj,gm r ms,Int.mul_assoc]
def gB(ns:List Int)(i:Nat)(z:Int)(h:ns[i]? = some z):aj (ns.take (i+1))=aj (ns.take i) * z:=by
 rw [QQ,h,gm];simp [aj]
def pR:∀ ns:List Int,(∀ n∈ns,1<=n/\n<=1000000000)->1<=aj ns/\aj ns<=1000000000 ^ ns.length
 | [],_=>by simp [aj]
 | n::r,h=>by
  obtain⟨h1,h2⟩:=pR r λ m hm=>h m (Qt _ hm);obtain⟨g1,g2⟩:=h n Qv;refine⟨?_,?_⟩
  ·show 1<=n * aj r
   exact Int.le_trans (by omega) (SX g1 h1 (by decide) (by omega):1 * 1<=n * aj r)
  ·show n * aj r<=1000000000 ^ (r.length+1)
   rw [Int.pow_succ,Int.mul_comm];exact SX h2 g2 (by omega) (Int.le_trans (by omega) h2)
def FC:∀ {k:Nat},k<=8->(1000000000:Int) ^ k<=1000000000 ^ 8
 | 0,_=>by decide
 | 1,_=>by decide
 | 2,_=>by decide
 | 3,_=>by decide
 | 4,_=>by decide
 | 5,_=>by decide
 | 6,_=>by decide
 | 7,_=>by decide
 | 8,_=>by decide
 | k+9,h=>by omega
def px.prod{ns:List Int}(h:px ns):1<=aj ns/\aj ns<=1000000000 ^ 8:=by
 obtain⟨a,b⟩:=pR ns h.2;exact⟨a,Int.le_trans b (FC h.1)⟩
def px.take{ns:List Int}(h:px ns)(i:Nat):px (ns.take i):=⟨by have:=h.1;simp;omega,λ n hn=>h.2 n (RV hn)⟩
def InR:List Int->List Int->Prop
 | [],[]=>True
 | n::r,x::xs=>(0<=x/\x < n)/\InR r xs
 | _,_=>False
open PySem L2
def vi:V->Int
 | .int i=>i
 | _=>0
def rH{α:Type}(l:List α):(l.filter λ _=>true)=l:=List.filter_eq_self.mpr λ _ _=>rfl
def ba(a:Int × Int):Int × Int:=(a.1,if a.1 > 1 then a.2 else 0)
def axL(axs:List (Int × Int)):List (List Int):=axs.map λ a=>[a.1,a.2]
def bj(axs:List (Int × Int)):Int:=(axs.map λ a=>min 0 ((a.1 - 1) * a.2)).sum
def br(axs:List (Int × Int)):Int:=(axs.map λ a=>max 0 ((a.1 - 1) * a.2)).sum
def dD(axs:List (Int × Int)):Prop:=axs.length<=8/\∀ a∈axs,1<=a.1/\a.1<=1000000000
structure kh(room first:Int)(axs:List (Int × Int)):Prop where
 ax:dD axs
 r1:1<=room
 r2:room<=1000000000000000000
 lo:0<=first+bj (axs.map ba)
 hi:first+br (axs.map ba) < room
def dD.kept{axs:List (Int × Int)}(h:dD axs):dD (axs.map ba):=⟨by rw [Qk];exact h.1,λ a ha=>by
 obtain⟨b,hb,rfl⟩:=QN.mp ha;exact h.2 b hb⟩
def dD.sizes{axs:List (Int × Int)}(h:dD axs):px (axs.map λ a=>a.1):=⟨by rw [Qk];exact h.1,λ n hn=>by
 obtain⟨b,hb,rfl⟩:=QN.mp hn;exact h.2 b hb⟩
def cO(room first:Int)(l:Addr):List (Str × V):=fF "axes" (.ref l) (fF "first" (.int first) (fF "room" (.int room) []))
def NL:¬ (("room":Str) = "axes"):=by decide +kernel
def NK:¬ (("room":Str) = "first"):=by decide +kernel
def NN:¬ (("first":Str) = "axes"):=by decide +kernel
def bS(room first:Int)(l:Addr):(cO room first l).lookup ("room":Str)=some (.int room):=by
 unfold cO;rw [aI,if_neg NL,aI,if_neg NK,aI,if_pos rfl]
def df(room first:Int)(l:Addr):(cO room first l).lookup ("first":Str)=some (.int first):=by
 unfold cO;rw [aI,if_neg NN,aI,if_pos rfl]
def cU(room first:Int)(l:Addr):(cO room first l).lookup ("axes":Str)=some (.ref l):=by
 unfold cO;rw [aI,if_pos rfl]
def BG(room first:Int)(l:Addr){m:Str}(h1:¬ m = "axes")(h2:¬ m = "first")(h3:¬ m = "room"):(cO room first l).lookup m=none:=by
 unfold cO;rw [aI,if_neg h1,aI,if_neg h2,aI,if_neg h3];rfl
def kD:∀ ns:List Int,(∀ n∈ns,(1:Int)<=n)->1<=aj ns
 | [],_=>by simp [aj]
 | n::ns,h=>by
  have h1:=h n Qv;have h2:=kD ns λ m hm=>h m (Qt _ hm)
  show 1<=n * aj ns
  have:=SX h1 h2 (by decide) (by omega);omega
def ik(a:Int × Int)(l:List (Int × Int)):bj (a::l)=min 0 ((a.1 - 1) * a.2)+bj l:=by unfold bj;simp
def il(a:Int × Int)(l:List (Int × Int)):br (a::l)=max 0 ((a.1 - 1) * a.2)+br l:=by unfold br;simp
def wZ(xs ps:List Int):Int:=(List.zipWith (λ x p=>x * p) xs ps).sum
def tu{x p s:Int}(h0:0<=x)(h1:x<=s - 1):min 0 ((s - 1) * p)<=x * p/\x * p<=max 0 ((s - 1) * p):=by
 rcases Int.le_total 0 p with hp|hp
 ·have a:=Int.mul_nonneg h0 hp;have b:=Tq h1 hp;omega
 ·have a:=Int.mul_nonneg h0 (show 0<=-p by omega);have b:=Tq h1 (show 0<=-p by omega);rw [Int.mul_neg] at a b;rw [Int.mul_neg] at b;omega
def k8:∀ (axs:List (Int × Int)) (xs:List Int),InR (axs.map λ a=>a.1) xs->bj axs<=wZ xs (axs.map λ a=>a.2)/\wZ xs (axs.map λ a=>a.2)<=br axs
 | [],[],_=>by decide
 | [],_::_,h=>h.elim
 | _::_,[],h=>h.elim
 | a::r,x::xs,⟨⟨h0,h1⟩,h⟩=>by
  obtain⟨b1,b2⟩:=k8 r xs h
  have e:wZ (x::xs) ((a::r).map λ a=>a.2)=x * a.2+wZ xs (r.map λ a=>a.2):=by
   unfold wZ;rw [map_cons,List.zipWith_cons_cons,List.sum_cons]
  rw [ik,il,e];have aq:x < a.1:=h1;obtain⟨c1,c2⟩:=tu (p:=a.2) h0 (show x<=a.1 - 1 by omega);omega
def iN(ns:List Int)(h:∀ n∈ns,(1:Int)<=n)(i:Nat):aj (ns.take i)<=aj ns:=by
 have e:aj ns=aj (ns.take i) * aj (ns.drop i):=by rw [←gm,List.take_append_drop]
 have a:=kD (ns.take i) λ n hn=>h n (RV hn);have b:=kD (ns.drop i) λ n hn=>h n (List.mem_of_mem_drop hn);rw [e];have:=Int.mul_le_mul_of_nonneg_left b (show 0<=aj (ns.take i) by omega);omega
def b8(cs:List Int)(a:Int × Int):List Int:=cs.flatMap λ c=>(List.range a.1.toNat).map λ (n:Nat)=>c+(n:Int) * a.2
def ai(first:Int)(axs:List (Int × Int)):List Int:=axs.foldl b8 [first]
def km(cs:List Int)(a:Int × Int):(b8 cs a).length=cs.length * a.1.toNat:=by
 unfold b8
 induction cs with
 | nil=>simp
 | cons c r ih=>rw [List.flatMap_cons,Qw,ih,Qk,Q8,RA,Nat.add_mul];omega
def k9(first:Int)(axs:List (Int × Int))(a:Int × Int):ai first (axs++[a])=b8 (ai first axs) a:=by
 unfold ai;rw [foldl_append];rfl
def p9:∀ (axs:List (Int × Int)) (cs:List Int),(∀ a∈axs,(1:Int)<=a.1)->((axs.foldl b8 cs).length:Int)=cs.length * aj (axs.map λ a=>a.1)
 | [],cs,_=>by simp [aj]
 | a::r,cs,h=>by
  have ha:=h a Qv;rw [RK,p9 r (b8 cs a) λ b hb=>h b (Qt _ hb),km,TB,R7 (by omega),Int.mul_assoc];rfl
def aB(first:Int)(axs:List (Int × Int))(h:∀ a∈axs,(1:Int)<=a.1):((ai first axs).length:Int)=aj (axs.map λ a=>a.1):=by
 unfold ai;rw [p9 axs [first] h];simp
def p8:∀ (axs:List (Int × Int)) (cs:List Int) (M:Int),M∈axs.foldl b8 cs ↔ ∃ c∈cs,∃ xs,InR (axs.map λ a=>a.1) xs/\M=c+wZ xs (axs.map λ a=>a.2)
 | [],cs,M=>by
  refine⟨λ h=>⟨M,h,[],trivial,by simp [wZ]⟩,λ ⟨c,hc,xs,hx,e⟩=>?_⟩
  match xs,hx with
  | [],_=>rw [e];simpa [wZ] using hc
 | a::r,cs,M=>by
  rw [RK,p8 r (b8 cs a) M]
  have de:∀ (x:Int) (xs:List Int),wZ (x::xs) ((a::r).map λ a=>a.2)=x * a.2+wZ xs (r.map λ a=>a.2):=λ x xs=>by
   unfold wZ;rw [map_cons,List.zipWith_cons_cons,List.sum_cons]
  constructor
  ·rintro ⟨c,hc,xs,hx,e⟩;unfold b8 at hc;obtain⟨c0,aq,ar⟩:=List.mem_flatMap.mp hc;obtain⟨n,hn,rfl⟩:=List.mem_map.mp ar;have a3:=List.mem_range.mp hn;refine⟨c0,aq,(n:Int)::xs,⟨⟨by omega,?_⟩,hx⟩,by rw [de,e];omega⟩
   show (n:Int) < a.1
   omega
  ·rintro ⟨c,hc,xs,hx,e⟩
   match xs,hx with
   | x::xs,⟨⟨h0,h1⟩,hx⟩=>
    have a4:x < a.1:=h1;refine⟨c+x * a.2,?_,xs,hx,by rw [e,de];omega⟩;unfold b8;refine List.mem_flatMap.mpr ⟨c,hc,List.mem_map.mpr ⟨x.toNat,List.mem_range.mpr (by omega),?_⟩⟩;rw [Int.toNat_of_nonneg h0]
def wF(first:Int)(axs:List (Int × Int))(M:Int):M∈ai first axs ↔ ∃ xs,InR (axs.map λ a=>a.1) xs/\M=first+wZ xs (axs.map λ a=>a.2):=by
 unfold ai;rw [p8];refine⟨λ ⟨c,hc,xs,hx,e⟩=>⟨xs,hx,by rw [e,List.mem_singleton.mp hc]⟩,λ ⟨xs,hx,e⟩=>⟨first,List.mem_singleton.mpr rfl,xs,hx,e⟩⟩
def top(i:Nat):Stmt:=PySem.Challenge.pw_pacehall_k84_whole_any_order_in_rounds.main.body.getD i (.Pass ⟨0,0,0,0⟩)
abbrev bY:Stmt:=aA (top 8) 0
local macro_rules | `(nofun) => `(by decide +kernel)
local macro_rules | `(∅) => `(⟨rfl,rfl,rfl,nofun,rfl,nofun,nofun⟩)
def iT:ah ["self", "number"] ["self", "number"] (aa bY):=∅
abbrev i9:Stmt:=top 10
def wN:ah ["thing"] ["thing"] (aa i9):=∅
abbrev ja:Stmt:=top 13
def gI:ah ["sizes", "count", "size"] ["sizes"] (aa ja):=∅
abbrev eR:Stmt:=top 14
abbrev mC:Stmt:=top 15
abbrev fj:Stmt:=top 16
def iQ:ah ["count"] ["count"] (aa fj):=∅
abbrev g9:Stmt:=top 21
def t7:ah ["thing", "low", "high"] ["thing", "low", "high"] (aa g9):=∅
abbrev kB:Stmt:=top 22
def Bc:ah ["thing"] ["thing"] (aa kB):=∅
abbrev kC:Stmt:=top 23
def Bd:ah ["thing"] ["thing"] (aa kC):=∅
abbrev gA:Stmt:=top 24
def wO:ah ["thing"] ["thing"] (aa gA):=∅
abbrev gZ:Stmt:=top 25
def t5:ah ["axis"] ["axis"] (aa gZ):=∅
abbrev bX:Stmt:=aA (top 26) 0
def lI:ah ["self", "room", "first", "axes"] ["self", "room", "first", "axes"] (aa bX):=∅
abbrev dO:Stmt:=aA (top 26) 1
def rA:ah ["self"] ["self"] (aa dO):=∅
abbrev jt:Stmt:=aA (top 26) 2
abbrev fZ:Stmt:=aA (top 26) 3
def rC:ah ["self"] ["self"] (aa fZ):=∅
abbrev kP:Stmt:=aA (top 26) 4
abbrev gb:Stmt:=aA (top 26) 6
def aT:ah ["self", "found", "size", "pace"] ["self"] (aa gb):=∅
abbrev dP:Stmt:=aA (top 26) 7
def rB:ah ["self"] ["self"] (aa dP):=∅
abbrev bW:Stmt:=aA (top 26) 8
def lH:ah ["self"] ["self"] (aa bW):=∅
abbrev iI:Stmt:=top 27
def kM:ah ["cells", "size", "pace", "found", "cell"] ["cells", "size", "pace"] (aa iI):=∅
abbrev ei:Stmt:=top 29
def gT:ah ["one", "other"] ["one", "other"] (aa ei):=∅
abbrev ej:Stmt:=top 31
def me:ah ["view", "many"] ["view", "many"] (aa ej):=∅
abbrev cH:Stmt:=aA (top 32) 0
def jI:ah ["self", "values"] ["self", "values"] (aa cH):=∅
abbrev bZ:Stmt:=aA (top 32) 1
def iU:ah ["self"] ["self"] (aa bZ):=∅
abbrev bQ:Stmt:=aA (top 32) 2
def dC:ah ["self", "view"] ["self", "view"] (aa bQ):=∅
abbrev dQ:Stmt:=aA (top 32) 3
def rE:ah ["self", "view"] ["self", "view"] (aa dQ):=∅
abbrev ib:Stmt:=aA (top 32) 4
def iq:ah ["self", "view", "values", "cell", "value"] ["self", "view", "values"] (aa ib):=∅
abbrev gi:Stmt:=aA (top 32) 5
def dW:ah ["self", "view", "value", "cell"] ["self", "view", "value"] (aa gi):=∅
abbrev eo:Stmt:=aA (top 32) 6
def mf:ah ["self", "to", "source"] ["self", "to", "source"] (aa eo):=∅
abbrev fW:Stmt:=top 34
def rp:ah ["one", "other"] ["one", "other"] (aa fW):=∅
abbrev b0:Stmt:=aA (top 35) 0
def iV:ah ["self"] ["self"] (aa b0):=∅
abbrev cx:Stmt:=aA (top 35) 1
def eX:ah ["self"] ["self"] (aa cx):=∅
abbrev di:Stmt:=aA (top 35) 2
def lK:ah ["self", "store"] ["self", "store"] (aa di):=∅
abbrev dj:Stmt:=aA (top 36) 0
def lL:ah ["self", "to", "value"] ["self", "to", "value"] (aa dj):=∅
abbrev ft:Stmt:=aA (top 36) 1
def o7:ah ["self"] ["self"] (aa ft):=∅
abbrev jd:Stmt:=aA (top 36) 2
def mR:ah ["self", "store"] ["self", "store"] (aa jd):=∅
abbrev dk:Stmt:=aA (top 37) 0
def lM:ah ["self", "to", "source"] ["self", "to", "source"] (aa dk):=∅
abbrev fw:Stmt:=aA (top 37) 1
def o8:ah ["self"] ["self"] (aa fw):=∅
abbrev gj:Stmt:=aA (top 37) 2
def rF:ah ["self"] ["self"] (aa gj):=∅
abbrev jg:Stmt:=aA (top 37) 3
def wQ:ah ["self", "store"] ["self", "store"] (aa jg):=∅
abbrev dh:Stmt:=aA (top 38) 0
def lJ:ah ["self", "one", "other"] ["self", "one", "other"] (aa dh):=∅
abbrev fm:Stmt:=aA (top 38) 1
def o1:ah ["self"] ["self"] (aa fm):=∅
abbrev gh:Stmt:=aA (top 38) 2
def rD:ah ["self"] ["self"] (aa gh):=∅
abbrev jc:Stmt:=aA (top 38) 3
def jl:ah ["self", "store", "ours", "theirs"] ["self", "store"] (aa jc):=∅
abbrev cI:Stmt:=aA (top 39) 0
def jJ:ah ["self", "to", "source"] ["self", "to", "source"] (aa cI):=∅
abbrev eu:Stmt:=aA (top 39) 1
def mh:ah ["self"] ["self"] (aa eu):=∅
abbrev fq:Stmt:=aA (top 39) 2
def o6:ah ["self"] ["self"] (aa fq):=∅
abbrev fg:Stmt:=aA (top 39) 3
def ll:ah ["self", "store", "more"] ["self", "store"] (aa fg):=∅
abbrev i8:Stmt:=top 40
def wH:ah ["statement"] ["statement"] (aa i8):=∅
abbrev eh:Stmt:=top 41
def bw:ah ["views", "view"] ["views"] (aa eh):=∅
abbrev jb:Stmt:=top 42
def gK:ah ["views", "found", "view", "cell"] ["views"] (aa jb):=∅
abbrev bP:Stmt:=top 45
def aK:ah ["statements", "views", "statement"] ["statements"] (aa bP):=∅
abbrev fM:Stmt:=top 46
def cu:ah ["statements", "found", "wrote", "touched", "number", "statement", "written", "read", "rivals", "before", "at", "cell"] ["statements"] (aa fM):=∅
abbrev eZ:Stmt:=top 47
def bJ:ah ["statements", "found", "many", "told", "number", "row"] ["statements"] (aa eZ):=∅
abbrev kA:Stmt:=top 48
def bV:ah ["store", "statements", "numbers", "number"] ["store", "statements"] (aa kA):=∅
abbrev hZ:Stmt:=top 50
def fi:ah ["_law_script", "_law_k", "_law_many", "_law_number", "_law_cell"] ["_law_script", "_law_k", "_law_many"] (aa hZ):=∅
abbrev fX:Stmt:=top 51
def rq:ah ["_law_found"] ["_law_found"] (aa fX):=∅
abbrev ff:Stmt:=top 52
def ua:ah ["_law_found", "_law_due"] ["_law_found", "_law_due"] (aa ff):=∅
abbrev dM:Stmt:=top 53
def bE:ah ["_law_first", "_law_axes", "_law_cells_here", "_law_size", "_law_pace", "_law_more", "_law_cell"] ["_law_first", "_law_axes"] (aa dM):=∅
abbrev dg:Stmt:=top 54
def aZ:ah ["_law_script", "_law_at", "_law_room", "_law_views", "_law_k", "_law_cell", "_law_size", "_law_pace", "_law_axes", "_law_low", "_law_high"] ["_law_script", "_law_at", "_law_room"] (aa dg):=∅
abbrev dI:Stmt:=top 55
def dU:ah ["_law_views", "_law_cell", "_law_one", "_law_same", "_law_other"] ["_law_views", "_law_cell"] (aa dI):=∅
abbrev fY:Stmt:=top 56
def cD:ah ["_law_view", "_law_count_here", "_law_size", "_law_pace"] ["_law_view"] (aa fY):=∅
abbrev hV:Stmt:=top 57
def bO:ah ["_law_drawn_here", "_law_room", "_law_way", "_law_one", "_law_other", "_law_value", "_law_to", "_law_source"] ["_law_drawn_here", "_law_room"] (aa hV):=∅
abbrev ia:Stmt:=top 58
def aJ:ah ["_law_values", "_law_drawn_here", "_law_way", "_law_one", "_law_other", "_law_value", "_law_here", "_law_there", "_law_found", "_law_cell", "_law_ahead"] ["_law_values", "_law_drawn_here"] (aa ia):=∅
abbrev fk:Stmt:=top 59
def cS:ah ["_law_row", "_law_cell", "_law_found", "_law_k", "_law_at"] ["_law_row", "_law_cell"] (aa fk):=∅
abbrev hU:Stmt:=top 60
def bN:ah ["_law_store", "_law_statements", "_law_word", "e", "_law_some_here"] ["_law_store", "_law_statements"] (aa hU):=∅
abbrev cz:Stmt:=top 61
def aE:ah ["_law_script", "_law_room", "_law_good", "_law_first", "_law_far", "_law_size", "_law_many", "_law_rows", "_law_statements", "_law_due", "_law_store", "_law_wide"] ["_law_script", "_law_room", "_law_good"] (aa cz):=∅
abbrev jD:Stmt:=top 62
def dY:ah ["_law_script", "_law_room", "_law_views", "_law_drawn_here", "_law_built", "_law_first", "_law_due", "_law_one", "_law_store", "_law_handed", "_law_good", "_law_told_here", "_law_way", "_law_beside", "_law_row", "_law_order", "_law_k"] ["_law_script"] (aa jD):=∅
set_option genInjectivity false in
structure Adr where
 a_CU:Addr
 a_Uw:Addr
 a_Ux:Addr
 a_UB:Addr
 a_Uy:Addr
 a_UC:Addr
 a_Uz:Addr
 a_UH:Addr
 a_UE:Addr
 a_CW:Addr
 a_UI:Addr
 a_UJ:Addr
 a_UK:Addr
 a_UG:Addr
 a_pH:Addr
 d_pH:FuncData
 a_CY:Addr
 d_CY:FuncData
 a_CZ:Addr
 d_CZ:FuncData
 a_qY:Addr
 d_qY:FuncData
 a_Dc:Addr
 d_Dc:FuncData
 a_wt:Addr
 d_wt:FuncData
 a_Av:Addr
 d_Av:FuncData
 a_Us:Addr
 d_Us:FuncData
 a_Ut:Addr
 d_Ut:FuncData
 a_De:Addr
 d_De:FuncData
 a_Aw:Addr
 d_Aw:FuncData
 a_tI:Addr
 d_tI:FuncData
 a_wB:Addr
 d_wB:FuncData
 a_Ag:Addr
 d_Ag:FuncData
 a_Ah:Addr
 d_Ah:FuncData
 a_Ax:Addr
 d_Ax:FuncData
 a_Ai:Addr
 d_Ai:FuncData
 a_Aj:Addr
 d_Aj:FuncData
 a_tJ:Addr
 d_tJ:FuncData
 a_Uu:Addr
 d_Uu:FuncData
 a_wc:Addr
 d_wc:FuncData
 a_we:Addr
 d_we:FuncData
 a_rg:Addr
 d_rg:FuncData
 a_pI:Addr
 d_pI:FuncData
 a_nB:Addr
 d_nB:FuncData
 a_Ak:Addr
 d_Ak:FuncData
 a_Ay:Addr
 d_Ay:FuncData
 a_Am:Addr
 d_Am:FuncData
 a_wg:Addr
 d_wg:FuncData
 a_An:Addr
 d_An:FuncData
 a_pV:Addr
 d_pV:FuncData
 a_qZ:Addr
 d_qZ:FuncData
 a_tK:Addr
 d_tK:FuncData
 a_tL:Addr
 d_tL:FuncData
 a_wu:Addr
 d_wu:FuncData
 a_Df:Addr
 d_Df:FuncData
 a_tM:Addr
 d_tM:FuncData
 a_wx:Addr
 d_wx:FuncData
 a_Ao:Addr
 d_Ao:FuncData
 a_Dg:Addr
 d_Dg:FuncData
 a_tN:Addr
 d_tN:FuncData
 a_wy:Addr
 d_wy:FuncData
 a_Ap:Addr
 d_Ap:FuncData
 a_HX:Addr
 d_HX:FuncData
 a_tH:Addr
 d_tH:FuncData
 a_wj:Addr
 d_wj:FuncData
 a_wz:Addr
 d_wz:FuncData
 a_CL:Addr
 d_CL:FuncData
 a_HY:Addr
 d_HY:FuncData
 a_wm:Addr
 d_wm:FuncData
 a_HZ:Addr
 d_HZ:FuncData
 a_oX:Addr
 d_oX:FuncData
 a_UD:Addr
 d_UD:FuncData
 a_UA:Addr
 d_UA:FuncData
 a_Uv:Addr
 d_Uv:FuncData
 a_CM:Addr
 d_CM:FuncData
 a_Aq:Addr
 d_Aq:FuncData
 a_CN:Addr
 d_CN:FuncData
 a_Ar:Addr
 d_Ar:FuncData
 a_CO:Addr
 d_CO:FuncData
 a_As:Addr
 d_As:FuncData
 a_Au:Addr
 d_Au:FuncData
 a_CP:Addr
 d_CP:FuncData
 a_CQ:Addr
 d_CQ:FuncData
 a_wA:Addr
 d_wA:FuncData
 a_CT:Addr
 d_CT:FuncData
 a_wq:Addr
 d_wq:FuncData
 a_law:Addr
 d_law:FuncData
structure Tx(K:W.Frag)(mg:Str->Option Value)(t:Adr):Prop where
 m_CU:mg "PaceError"=some (.ref t.a_CU)
 m_Uw:mg "NoPlace"=some (.ref t.a_Uw)
 m_Ux:mg "NoCells"=some (.ref t.a_Ux)
 m_UB:mg "NoView"=some (.ref t.a_UB)
 m_Uy:mg "NoCount"=some (.ref t.a_Uy)
 m_UC:mg "NoPair"=some (.ref t.a_UC)
 m_Uz:mg "TooMany"=some (.ref t.a_Uz)
 m_UH:mg "View"=some (.ref t.a_UH)
 m_UE:mg "Store"=some (.ref t.a_UE)
 m_CW:mg "Statement"=some (.ref t.a_CW)
 m_UI:mg "Fill"=some (.ref t.a_UI)
 m_UJ:mg "Copy"=some (.ref t.a_UJ)
 m_UK:mg "Swap"=some (.ref t.a_UK)
 m_UG:mg "Raise"=some (.ref t.a_UG)
 qCo:W.excIn K t.a_UC [.type "ValueError",.type "Exception",.type "BaseException",.type "object"] "ValueError.__new__"=true
 qCp:W.excIn K t.a_UB [.type "ValueError",.type "Exception",.type "BaseException",.type "object"] "ValueError.__new__"=true
 qAf:W.exmOne K (.ref t.a_UC) (.ref t.a_CU)=some true
 qAg:W.exmOne K (.ref t.a_UB) (.ref t.a_CU)=some true
 qAc:W.exmOne K (.ref t.a_Uz) (.ref t.a_CU)=some true
 ocs:W.specialIn K (.builtin "object.__class__") "__get__"=some (some (.builtin "getset_descriptor.__get__"))
 oct:W.takesIn K (.builtin "object.__class__")=some true
 qC9:W.findIn K (.ref t.a_UC) "__getattribute__"=some (some (.builtin "BaseException.__getattribute__"))
 qCa:W.findIn K (.ref t.a_UC) "__getattr__"=some none
 qCb:W.mroIn K t.a_UC (.type "BaseException")=some true
 qCc:W.mroIn K t.a_UC (.type "object")=some true
 qCd:W.findIn K (.ref t.a_UC) "__class__"=some (some (.builtin "object.__class__"))
 qCe:W.hasDictIn K t.a_UC=true
 qCf:W.findIn K (.ref t.a_UB) "__getattribute__"=some (some (.builtin "BaseException.__getattribute__"))
 qCg:W.findIn K (.ref t.a_UB) "__getattr__"=some none
 qCh:W.mroIn K t.a_UB (.type "BaseException")=some true
 qCi:W.mroIn K t.a_UB (.type "object")=some true
 qCj:W.findIn K (.ref t.a_UB) "__class__"=some (some (.builtin "object.__class__"))
 qCk:W.hasDictIn K t.a_UB=true
 qBx:W.findIn K (.ref t.a_Uz) "__getattribute__"=some (some (.builtin "BaseException.__getattribute__"))
 qBy:W.findIn K (.ref t.a_Uz) "__getattr__"=some none
 qBz:W.mroIn K t.a_Uz (.type "BaseException")=some true
 qC0:W.mroIn K t.a_Uz (.type "object")=some true
 qC1:W.findIn K (.ref t.a_Uz) "__class__"=some (some (.builtin "object.__class__"))
 qC2:W.hasDictIn K t.a_Uz=true
 qB1:W.hasDictIn K t.a_UC=true
 qB2:W.typeIn K (.ref t.a_UC)=some (.type "type")
 qB3:W.subIn K (.ref t.a_UC) (.ref t.a_UC)=some true
 qB4:W.hasDictIn K t.a_UB=true
 qB5:W.typeIn K (.ref t.a_UB)=some (.type "type")
 qB6:W.subIn K (.ref t.a_UC) (.ref t.a_UB)=some false
 qB7:(t.a_UC == t.a_UB)=false
 qAl:W.hasDictIn K t.a_Uz=true
 qAm:W.typeIn K (.ref t.a_Uz)=some (.type "type")
 qAn:W.subIn K (.ref t.a_UC) (.ref t.a_Uz)=some false
 qAo:(t.a_UC == t.a_Uz)=false
 qB8:W.hasDictIn K t.a_UC=true
 qB9:W.typeIn K (.ref t.a_UC)=some (.type "type")
 qBa:W.subIn K (.ref t.a_UB) (.ref t.a_UC)=some false
 qBb:(t.a_UB == t.a_UC)=false
 qBc:W.hasDictIn K t.a_UB=true
 qBd:W.typeIn K (.ref t.a_UB)=some (.type "type")
 qBe:W.subIn K (.ref t.a_UB) (.ref t.a_UB)=some true
 qAp:W.hasDictIn K t.a_Uz=true
 qAq:W.typeIn K (.ref t.a_Uz)=some (.type "type")
 qAr:W.subIn K (.ref t.a_UB) (.ref t.a_Uz)=some false
 qAs:(t.a_UB == t.a_Uz)=false
 qAt:W.hasDictIn K t.a_UC=true
 qAu:W.typeIn K (.ref t.a_UC)=some (.type "type")
 qAv:W.subIn K (.ref t.a_Uz) (.ref t.a_UC)=some false
 qAw:(t.a_Uz == t.a_UC)=false
 qAx:W.hasDictIn K t.a_UB=true
 qAy:W.typeIn K (.ref t.a_UB)=some (.type "type")
 qAz:W.subIn K (.ref t.a_Uz) (.ref t.a_UB)=some false
 qB0:(t.a_Uz == t.a_UB)=false
 qAh:W.hasDictIn K t.a_Uz=true
 qAi:W.typeIn K (.ref t.a_Uz)=some (.type "type")
 qAj:W.subIn K (.ref t.a_Uz) (.ref t.a_Uz)=some true
 qAa:W.subIn K (.ref t.a_UC) (.type "ValueError")=some true
 qAb:W.subIn K (.ref t.a_UB) (.type "ValueError")=some true
 qA8:W.subIn K (.ref t.a_Uz) (.type "ValueError")=some true
 m_MOST_TOLD:∃ tk,mg "MOST_TOLD"=some (.int 4096 tk)
 m_MOST_ROOM:∃ tk,mg "MOST_ROOM"=some (.int 1000000000000000000 tk)
 m_MOST_SIZE:∃ tk,mg "MOST_SIZE"=some (.int 1000000000 tk)
 m_MOST_AXES:∃ tk,mg "MOST_AXES"=some (.int 8 tk)
 m_MOST_STATEMENTS:∃ tk,mg "MOST_STATEMENTS"=some (.int 60 tk)
 oi_TooMany:Jk K t.a_Uz t.a_pH
 tk_TooMany_number:W.takerIn K t.a_Uz "number"=some none
 qCm:bz K t.a_Uz "number"
 bi_PaceError:JV K t.a_CU
 qA1:Cls K t.a_UH
 qBl:bz K t.a_UH "axes"
 qBn:bz K t.a_UH "first"
 qBr:bz K t.a_UH "room"
 qC5:Mk K t.a_UH t.a_tI
 qDq:gN K t.a_UH "sizes" t.a_wB
 qEm:gN K t.a_UH "paces" t.a_Ag
 qAk:gN K t.a_UH "count" t.a_Ah
 qEn:gN K t.a_UH "cell" t.a_Ax
 qBo:gN K t.a_UH "cells" t.a_Ai
 qDr:gN K t.a_UH "least" t.a_Aj
 qD7:gN K t.a_UH "greatest" t.a_tJ
 qA0:Cls K t.a_UE
 qA9:bz K t.a_UE "floor"
 qCq:Mk K t.a_UE t.a_rg
 qA6:gN K t.a_UE "all_values" t.a_pI
 qA7:gN K t.a_UE "refuse_room" t.a_nB
 qBp:gN K t.a_UE "read" t.a_Ak
 qC3:gN K t.a_UE "put" t.a_Ay
 qCu:gN K t.a_UE "fill" t.a_Am
 qDe:gN K t.a_UE "copied" t.a_wg
 qBm:Cls K t.a_CW
 qBq:Mk0 K t.a_CW
 qCv:gN K t.a_CW "writes" t.a_pV
 qCy:gN K t.a_CW "reads" t.a_qZ
 qCr:gN K t.a_CW "run" t.a_tK
 qBt:Cls K t.a_UI
 qCn:bz K t.a_UI "to"
 qCl:bz K t.a_UI "value"
 qDi:gN K t.a_UI "writes" t.a_wu
 qDs:gN K t.a_UI "reads" t.a_qZ
 qD4:gN K t.a_UI "run" t.a_Df
 qD1:Mk K t.a_UI t.a_tL
 qBv:Cls K t.a_UJ
 qC6:bz K t.a_UJ "source"
 qCs:bz K t.a_UJ "to"
 qDj:gN K t.a_UJ "writes" t.a_wx
 qDt:gN K t.a_UJ "reads" t.a_Ao
 qD5:gN K t.a_UJ "run" t.a_Dg
 qEc:Mk K t.a_UJ t.a_tM
 qBw:Cls K t.a_UK
 qC7:bz K t.a_UK "one"
 qBu:bz K t.a_UK "other"
 qDk:gN K t.a_UK "writes" t.a_wy
 qDu:gN K t.a_UK "reads" t.a_Ap
 qD6:gN K t.a_UK "run" t.a_HX
 qEh:Mk K t.a_UK t.a_tN
 qBs:Cls K t.a_UG
 qC4:bz K t.a_UG "source"
 qC8:bz K t.a_UG "to"
 qDf:gN K t.a_UG "writes" t.a_wj
 qDl:gN K t.a_UG "reads" t.a_wz
 qCz:gN K t.a_UG "run" t.a_CL
 qEe:Mk K t.a_UG t.a_tH
 F_pH:Fun K "__init__" "TooMany.__init__" bY t.a_pH t.d_pH
 b_pH:au K t.d_pH ["self", "number"] []
 F_CY:Fun K "is_whole" "is_whole" i9 t.a_CY t.d_CY
 m_CY:mg "is_whole"=some (.ref t.a_CY)
 b_CY:au K t.d_CY ["thing"] []
 F_CZ:Fun K "count_of" "count_of" ja t.a_CZ t.d_CZ
 m_CZ:mg "count_of"=some (.ref t.a_CZ)
 b_CZ:au K t.d_CZ ["sizes"] []
 F_qY:Fun K "is_number_below" "is_number_below" eR t.a_qY t.d_qY
 m_qY:mg "is_number_below"=some (.ref t.a_qY)
 b_qY:au K t.d_qY ["thing", "bound"] []
 F_Dc:Fun K "is_place" "is_place" mC t.a_Dc t.d_Dc
 m_Dc:mg "is_place"=some (.ref t.a_Dc)
 b_Dc:au K t.d_Dc ["sizes", "thing"] []
 F_wt:Fun K "refuse_long" "refuse_long" fj t.a_wt t.d_wt
 m_wt:mg "refuse_long"=some (.ref t.a_wt)
 b_wt:au K t.d_wt ["count"] []
 F_Av:Fun K "is_within" "is_within" g9 t.a_Av t.d_Av
 m_Av:mg "is_within"=some (.ref t.a_Av)
 b_Av:au K t.d_Av ["thing", "low", "high"] []
 F_Us:Fun K "is_size" "is_size" kB t.a_Us t.d_Us
 m_Us:mg "is_size"=some (.ref t.a_Us)
 b_Us:au K t.d_Us ["thing"] []
 F_Ut:Fun K "is_axis" "is_axis" kC t.a_Ut t.d_Ut
 m_Ut:mg "is_axis"=some (.ref t.a_Ut)
 b_Ut:au K t.d_Ut ["thing"] []
 F_De:Fun K "are_axes" "are_axes" gA t.a_De t.d_De
 m_De:mg "are_axes"=some (.ref t.a_De)
 b_De:au K t.d_De ["thing"] []
 F_Aw:Fun K "kept_axis" "kept_axis" gZ t.a_Aw t.d_Aw
 m_Aw:mg "kept_axis"=some (.ref t.a_Aw)
 b_Aw:au K t.d_Aw ["axis"] []
 F_tI:Fun K "__init__" "View.__init__" bX t.a_tI t.d_tI
 b_tI:au K t.d_tI ["self", "room", "first", "axes"] []
 F_wB:Fun K "sizes" "View.sizes" dO t.a_wB t.d_wB
 b_wB:au K t.d_wB ["self"] []
 F_Ag:Fun K "paces" "View.paces" jt t.a_Ag t.d_Ag
 b_Ag:au K t.d_Ag ["self"] []
 F_Ah:Fun K "count" "View.count" fZ t.a_Ah t.d_Ah
 b_Ah:au K t.d_Ah ["self"] []
 F_Ax:Fun K "cell" "View.cell" kP t.a_Ax t.d_Ax
 b_Ax:au K t.d_Ax ["self", "place"] []
 F_Ai:Fun K "cells" "View.cells" gb t.a_Ai t.d_Ai
 b_Ai:au K t.d_Ai ["self"] []
 F_Aj:Fun K "least" "View.least" dP t.a_Aj t.d_Aj
 b_Aj:au K t.d_Aj ["self"] []
 F_tJ:Fun K "greatest" "View.greatest" bW t.a_tJ t.d_tJ
 b_tJ:au K t.d_tJ ["self"] []
 F_Uu:Fun K "widened" "widened" iI t.a_Uu t.d_Uu
 m_Uu:mg "widened"=some (.ref t.a_Uu)
 b_Uu:au K t.d_Uu ["cells", "size", "pace"] []
 F_wc:Fun K "refuse_rooms" "refuse_rooms" ei t.a_wc t.d_wc
 m_wc:mg "refuse_rooms"=some (.ref t.a_wc)
 b_wc:au K t.d_wc ["one", "other"] []
 F_we:Fun K "refuse_count" "refuse_count" ej t.a_we t.d_we
 m_we:mg "refuse_count"=some (.ref t.a_we)
 b_we:au K t.d_we ["view", "many"] []
 F_rg:Fun K "__init__" "Store.__init__" cH t.a_rg t.d_rg
 b_rg:au K t.d_rg ["self", "values"] []
 F_pI:Fun K "all_values" "Store.all_values" bZ t.a_pI t.d_pI
 b_pI:au K t.d_pI ["self"] []
 F_nB:Fun K "refuse_room" "Store.refuse_room" bQ t.a_nB t.d_nB
 b_nB:au K t.d_nB ["self", "view"] []
 F_Ak:Fun K "read" "Store.read" dQ t.a_Ak t.d_Ak
 b_Ak:au K t.d_Ak ["self", "view"] []
 F_Ay:Fun K "put" "Store.put" ib t.a_Ay t.d_Ay
 b_Ay:au K t.d_Ay ["self", "view", "values"] []
 F_Am:Fun K "fill" "Store.fill" gi t.a_Am t.d_Am
 b_Am:au K t.d_Am ["self", "view", "value"] []
 F_wg:Fun K "copied" "Store.copied" eo t.a_wg t.d_wg
 b_wg:au K t.d_wg ["self", "to", "source"] []
 F_An:Fun K "refuse_two" "refuse_two" fW t.a_An t.d_An
 m_An:mg "refuse_two"=some (.ref t.a_An)
 b_An:au K t.d_An ["one", "other"] []
 F_pV:Fun K "writes" "Statement.writes" b0 t.a_pV t.d_pV
 b_pV:au K t.d_pV ["self"] []
 F_qZ:Fun K "reads" "Statement.reads" cx t.a_qZ t.d_qZ
 b_qZ:au K t.d_qZ ["self"] []
 F_tK:Fun K "run" "Statement.run" di t.a_tK t.d_tK
 b_tK:au K t.d_tK ["self", "store"] []
 F_tL:Fun K "__init__" "Fill.__init__" dj t.a_tL t.d_tL
 b_tL:au K t.d_tL ["self", "to", "value"] []
 F_wu:Fun K "writes" "Fill.writes" ft t.a_wu t.d_wu
 b_wu:au K t.d_wu ["self"] []
 F_Df:Fun K "run" "Fill.run" jd t.a_Df t.d_Df
 b_Df:au K t.d_Df ["self", "store"] []
 F_tM:Fun K "__init__" "Copy.__init__" dk t.a_tM t.d_tM
 b_tM:au K t.d_tM ["self", "to", "source"] []
 F_wx:Fun K "writes" "Copy.writes" fw t.a_wx t.d_wx
 b_wx:au K t.d_wx ["self"] []
 F_Ao:Fun K "reads" "Copy.reads" gj t.a_Ao t.d_Ao
 b_Ao:au K t.d_Ao ["self"] []
 F_Dg:Fun K "run" "Copy.run" jg t.a_Dg t.d_Dg
 b_Dg:au K t.d_Dg ["self", "store"] []
 F_tN:Fun K "__init__" "Swap.__init__" dh t.a_tN t.d_tN
 b_tN:au K t.d_tN ["self", "one", "other"] []
 F_wy:Fun K "writes" "Swap.writes" fm t.a_wy t.d_wy
 b_wy:au K t.d_wy ["self"] []
 F_Ap:Fun K "reads" "Swap.reads" gh t.a_Ap t.d_Ap
 b_Ap:au K t.d_Ap ["self"] []
 F_HX:Fun K "run" "Swap.run" jc t.a_HX t.d_HX
 b_HX:au K t.d_HX ["self", "store"] []
 F_tH:Fun K "__init__" "Raise.__init__" cI t.a_tH t.d_tH
 b_tH:au K t.d_tH ["self", "to", "source"] []
 F_wj:Fun K "writes" "Raise.writes" eu t.a_wj t.d_wj
 b_wj:au K t.d_wj ["self"] []
 F_wz:Fun K "reads" "Raise.reads" fq t.a_wz t.d_wz
 b_wz:au K t.d_wz ["self"] []
 F_CL:Fun K "run" "Raise.run" fg t.a_CL t.d_CL
 b_CL:au K t.d_CL ["self", "store"] []
 F_HY:Fun K "views_of" "views_of" i8 t.a_HY t.d_HY
 m_HY:mg "views_of"=some (.ref t.a_HY)
 b_HY:au K t.d_HY ["statement"] []
 F_wm:Fun K "refuse_views" "refuse_views" eh t.a_wm t.d_wm
 m_wm:mg "refuse_views"=some (.ref t.a_wm)
 b_wm:au K t.d_wm ["views"] []
 F_HZ:Fun K "cells_of" "cells_of" jb t.a_HZ t.d_HZ
 m_HZ:mg "cells_of"=some (.ref t.a_HZ)
 b_HZ:au K t.d_HZ ["views"] []
 F_oX:Fun K "refuse_statements" "refuse_statements" bP t.a_oX t.d_oX
 m_oX:mg "refuse_statements"=some (.ref t.a_oX)
 b_oX:au K t.d_oX ["statements"] []
 F_UD:Fun K "dealt" "dealt" fM t.a_UD t.d_UD
 m_UD:mg "dealt"=some (.ref t.a_UD)
 b_UD:au K t.d_UD ["statements"] []
 F_UA:Fun K "rounds" "rounds" eZ t.a_UA t.d_UA
 m_UA:mg "rounds"=some (.ref t.a_UA)
 b_UA:au K t.d_UA ["statements"] []
 F_Uv:Fun K "run_all" "run_all" kA t.a_Uv t.d_Uv
 m_Uv:mg "run_all"=some (.ref t.a_Uv)
 b_Uv:au K t.d_Uv ["store", "statements"] []
 F_CM:Fun K "_law_draw" "_law_draw" hZ t.a_CM t.d_CM
 m_CM:mg "_law_draw"=some (.ref t.a_CM)
 b_CM:au K t.d_CM ["_law_script", "_law_k", "_law_many"] []
 F_Aq:Fun K "_law_whole" "_law_whole" fX t.a_Aq t.d_Aq
 m_Aq:mg "_law_whole"=some (.ref t.a_Aq)
 b_Aq:au K t.d_Aq ["_law_found"] []
 F_CN:Fun K "_law_list" "_law_list" ff t.a_CN t.d_CN
 m_CN:mg "_law_list"=some (.ref t.a_CN)
 b_CN:au K t.d_CN ["_law_found", "_law_due"] []
 F_Ar:Fun K "_law_cells" "_law_cells" dM t.a_Ar t.d_Ar
 m_Ar:mg "_law_cells"=some (.ref t.a_Ar)
 b_Ar:au K t.d_Ar ["_law_first", "_law_axes"] []
 F_CO:Fun K "_law_some" "_law_some" dg t.a_CO t.d_CO
 m_CO:mg "_law_some"=some (.ref t.a_CO)
 b_CO:au K t.d_CO ["_law_script", "_law_at", "_law_room"] []
 F_As:Fun K "_law_drawn" "_law_drawn" dI t.a_As t.d_As
 m_As:mg "_law_drawn"=some (.ref t.a_As)
 b_As:au K t.d_As ["_law_views", "_law_cell"] []
 F_Au:Fun K "_law_count" "_law_count" fY t.a_Au t.d_Au
 m_Au:mg "_law_count"=some (.ref t.a_Au)
 b_Au:au K t.d_Au ["_law_view"] []
 F_CP:Fun K "_law_made" "_law_made" hV t.a_CP t.d_CP
 m_CP:mg "_law_made"=some (.ref t.a_CP)
 b_CP:au K t.d_CP ["_law_drawn_here", "_law_room"] []
 F_CQ:Fun K "_law_done" "_law_done" ia t.a_CQ t.d_CQ
 m_CQ:mg "_law_done"=some (.ref t.a_CQ)
 b_CQ:au K t.d_CQ ["_law_values", "_law_drawn_here"] []
 F_wA:Fun K "_law_turned" "_law_turned" fk t.a_wA t.d_wA
 m_wA:mg "_law_turned"=some (.ref t.a_wA)
 b_wA:au K t.d_wA ["_law_row", "_law_cell"] []
 F_CT:Fun K "_law_told" "_law_told" hU t.a_CT t.d_CT
 m_CT:mg "_law_told"=some (.ref t.a_CT)
 b_CT:au K t.d_CT ["_law_store", "_law_statements"] []
 F_wq:Fun K "_law_refused" "_law_refused" cz t.a_wq t.d_wq
 m_wq:mg "_law_refused"=some (.ref t.a_wq)
 b_wq:au K t.d_wq ["_law_script", "_law_room", "_law_good"] []
 F_law:Fun K "law" "law" jD t.a_law t.d_law
 m_law:mg "law"=some (.ref t.a_law)
 b_law:au K t.d_law ["_law_script"] []
 z_ValueError:mg "ValueError"=none
 z_all:mg "all"=none
 z_bool:mg "bool"=none
 z_enumerate:mg "enumerate"=none
 z_int:mg "int"=none
 z_isinstance:mg "isinstance"=none
 z_len:mg "len"=none
 z_list:mg "list"=none
 z_max:mg "max"=none
 z_min:mg "min"=none
 z_range:mg "range"=none
 z_sum:mg "sum"=none
 z_tuple:mg "tuple"=none
 z_zip:mg "zip"=none
 lt_dealt:ME K t.d_UD.code 547
def Tx.e_NoPair{K:W.Frag}{mg:Str->Option Value}{t:Adr}(T:Tx K mg t):ue K t.a_UC:=⟨T.qC9,T.qCa,T.qCb,T.qCc,T.qCd,T.ocs,T.oct,T.qCe⟩
def Tx.e_NoView{K:W.Frag}{mg:Str->Option Value}{t:Adr}(T:Tx K mg t):ue K t.a_UB:=⟨T.qCf,T.qCg,T.qCh,T.qCi,T.qCj,T.ocs,T.oct,T.qCk⟩
def Tx.e_TooMany{K:W.Frag}{mg:Str->Option Value}{t:Adr}(T:Tx K mg t):ue K t.a_Uz:=⟨T.qBx,T.qBy,T.qBz,T.qC0,T.qC1,T.ocs,T.oct,T.qC2⟩
def Tx.qBh{K:W.Frag}{mg:Str->Option Value}{t:Adr}(T:Tx K mg t):W.kitOne K (.ref t.a_UC) (.ref t.a_UC)=some true:=sL T.qB1 T.qB2 T.qB3
def Tx.qBi{K:W.Frag}{mg:Str->Option Value}{t:Adr}(T:Tx K mg t):W.kitOne K (.ref t.a_UC) (.ref t.a_UB)=some false:=mr T.qB7 T.qB4 T.qB5 T.qB6
def Tx.qBf{K:W.Frag}{mg:Str->Option Value}{t:Adr}(T:Tx K mg t):W.kitOne K (.ref t.a_UC) (.ref t.a_Uz)=some false:=mr T.qAo T.qAl T.qAm T.qAn
def Tx.qBj{K:W.Frag}{mg:Str->Option Value}{t:Adr}(T:Tx K mg t):W.kitOne K (.ref t.a_UB) (.ref t.a_UC)=some false:=mr T.qBb T.qB8 T.qB9 T.qBa
def Tx.qBk{K:W.Frag}{mg:Str->Option Value}{t:Adr}(T:Tx K mg t):W.kitOne K (.ref t.a_UB) (.ref t.a_UB)=some true:=sL T.qBc T.qBd T.qBe
def Tx.qBg{K:W.Frag}{mg:Str->Option Value}{t:Adr}(T:Tx K mg t):W.kitOne K (.ref t.a_UB) (.ref t.a_Uz)=some false:=mr T.qAs T.qAp T.qAq T.qAr
def Tx.qA4{K:W.Frag}{mg:Str->Option Value}{t:Adr}(T:Tx K mg t):W.kitOne K (.ref t.a_Uz) (.ref t.a_UC)=some false:=mr T.qAw T.qAt T.qAu T.qAv
def Tx.qA5{K:W.Frag}{mg:Str->Option Value}{t:Adr}(T:Tx K mg t):W.kitOne K (.ref t.a_Uz) (.ref t.a_UB)=some false:=mr T.qB0 T.qAx T.qAy T.qAz
def Tx.qA3{K:W.Frag}{mg:Str->Option Value}{t:Adr}(T:Tx K mg t):W.kitOne K (.ref t.a_Uz) (.ref t.a_Uz)=some true:=sL T.qAh T.qAi T.qAj
def Tx.qAd{K:W.Frag}{mg:Str->Option Value}{t:Adr}(T:Tx K mg t):W.kitOne K (.ref t.a_UC) (.type "ValueError")=some true:=x3 (by decide +kernel) T.qAa
def Tx.qAe{K:W.Frag}{mg:Str->Option Value}{t:Adr}(T:Tx K mg t):W.kitOne K (.ref t.a_UB) (.type "ValueError")=some true:=x3 (by decide +kernel) T.qAb
def Tx.qA2{K:W.Frag}{mg:Str->Option Value}{t:Adr}(T:Tx K mg t):W.kitOne K (.ref t.a_Uz) (.type "ValueError")=some true:=x3 (by decide +kernel) T.qA8
def tqs:List (Addr × Str):=[(547,xf "dealt")]
local macro_rules | `(tactic| trivial) => `(tactic| first | exact Or.inl rfl | exact Or.inr rfl | exact Or.inr (Or.inl rfl) | exact Or.inr (Or.inr rfl) | assumption)
local macro_rules | `(tactic| simp! only [$xs,*]) => do
  let ys := xs.getElems.map λ x => (⟨x.raw⟩ : Lean.TSyntax `Lean.Parser.Tactic.simpLemma)
  let zs ← ("!reduceIte !pT !Iv !Iu !Ir !Iq !Ip !Io !Il !Ik !Ij !Ii !Dv !Du !Dt !Ds !Dr !Dq !Dp !Ee !Oc !NU !PV !N6 !NR !vQ !tE !vR !Lu !K2 !LR !K7 !Ob !NT !Ly !NV !LK !K3 !CH !Hm !Gw !Ac !Ab !Aa !Gy !Ol !NW !Gr !KZ !K1 !Hl !Gu !Lx !xZ !LP !K6 !Of !Lv !Le !Lw !Oe !NY !Lc !Lb !vS !tG !qV !tF !zY !zX !zW !zU !zT !zQ !zS !zR !zP !zO !zV !LM !Oq !NX !LQ !zJ !G8 !Lq !GD !CB !CC !LV !Og !NZ !aw !K4 !N8 !Hv !zZ !Lz !LU !Ct !Lm !KY !Cz !Cr !GX !Ot !LF !CI !qX !qW !N5 !ES !Oh !Oi !Oj !Lf !Om !Oo !Hs !KI !Gx !GY !Gp !LW !wb !vZ !wa !mH !mG !oW !md !CF !CG !LB !vT !oV !oS !oU !Hf !Ln !Lo !Lp !NS !zH !Ha !Gq !N9 !Oa !K9 !Ld !PZ !GN !Od !N2 !GP !GV !La !LL !Hu !Lg !GS !GU !N4 !LS !aU !aN !iZ !GC !GB !Hh !Hi !LA !Lj !GW !GZ !G0 !GI !vW !vV !vU !CA !Hc !GK !Hd !zN !zM !zL !GL !NP !FZ !Ll !zG !NQ !Cu !Hj !Hk !zI !LC !LD !Hw !G9 !Lr !K0 !LJ !Gv !LG !LH !GA !KW !KU !KS !KR !KQ !KP !KO !KN !KL !KJ !Gn !Gm !Gk !Gj !Gi !Gh !Gg !N3 !PY !PX !Cy !GH !Ht !GR !Hb !GJ !Ho !Hq !Hr !Cw !Hz !CJ !Ls !Lh !Hy !GG !LN !LO !K5 !GF !Hn !GQ !Hg !GO !Li !Cv !CD !Cs !zK !Gz !Gs pT ef aP xi BR BQ CK BM wR af Fe Fg Ff Fj Kc Fl Fh Fi BK Dk P7 BY DE IH OF OE OD yL IC AK Dz mJ k7 kZ jw IZ Mg IX Option.isSome_some Option.isSome_none Option.map_some List.length_cons List.length_nil List.length_map List.map_cons List.map_nil and_true true_and and_self implies_true reduceCtorEq decide_true decide_false Bool.not_true Bool.not_false if_true if_false decide_eq_true_eq Bool.false_eq_true Bool.not_eq_true' decide_eq_false_iff_not Bool.and_true Bool.true_and Bool.and_self Bool.and_eq_true Int.reduceToNat Int.reducePow Int.reduceMul Int.reduceAdd Int.reduceSub Int.reduceNeg Int.reduceLT Int.reduceLE Int.reduceEq Int.reduceNe Int.reduceDiv Int.reduceMod Nat.reduceAdd Nat.reduceLeDiff Nat.reduceLT Nat.reduceMul Nat.reducePow gt_iff_lt ge_iff_le ne_eq false_implies true_implies eq_self String.reduceEq Int.cast_ofNat_Int not_true_eq_false not_false_eq_true false_and and_false List.cons_append List.nil_append List.append_nil Ou".splitOn " ").toArray.mapM λ s => if s.startsWith "!" then `(Lean.Parser.Tactic.simpLemma| ↓ $(Lean.mkIdent (s.replace "!" "").toName):ident) else `(Lean.Parser.Tactic.simpLemma| $(Lean.mkIdent s.toName):ident)
  `(tactic| simp (config := { failIfUnchanged := false, maxDischargeDepth := 30, maxSteps := 10000000 }) only [$zs,*, $ys,*, *])
local macro_rules | `(%[$xs,*|$k:num]) => do
  let a := xs.getElems
  let s (i : Nat) : String := a[i]!.raw.getId.toString
  let I (n : String) : Lean.TSyntax `term := ⟨(Lean.mkIdent n.toName).raw⟩
  match k.getNat with
  | 43 => `($(a[0]!) (P := $(I "P")) (w := $(I "w")) (base := $(I "base")) $(I "T"))
  | 0 => `(@pvN _ $(a[0]!) _ _ (by rfl) (by trivial) (by decide) (by decide))
  | 1 => if a.size = 1 then `(@Je _ _ _ _ _ $(a[0]!) (@cq _) (by rfl)) else `(@Je _ _ _ _ _ $(a[0]!) $(a[1]!) (by rfl))
  | 2 => `(@fJ _ _ _ _)
  | 7 => `(by trivial)
  | 8 => `(by omega)
  | 3 => `(@yy _ _ _ _ _ _ _ _ _ _ _ _ _ _ _ _ $(I ("G_" ++ s 0)) ($(I "hr.mono") (by decide)) (by rfl) $(I ("T.m_" ++ s 0)) $(I ("T.F_" ++ s 0 ++ ".kp")) $(I ("T.b_" ++ s 0)) .nil aC $(a[1]!) (by decide) (by rfl) (by rfl))
  | 4 => `(@gQ _ _ $(a[0]!) _ _ _ _ ($(a[1]!)).nd rfl (Or.inl rfl) $(a[2]!) (by rfl) (by trivial))
  | 5 => `(@yu _ _ $(a[0]!) _ ($(a[1]!)).nd rfl (Or.inl rfl) (by trivial))
  | 6 => `(@jQ _ _ _ _ _ _ _ $(Lean.Syntax.mkStrLit (s 0)) _ $(a[1]!) (by rfl) $(I ("T.z_" ++ s 0)) (by decide +kernel) $(a[2]!) (by decide) (by decide) (by rfl) (by rfl))
  | 9 => `(@nv _ _ _ $(a)*)
  | 10 => `(@iD _ _ _ _ _ $(a)*)
  | 11 => `(@fH _ _ _ _ _ _ _ _ $(a)*)
  | 12 => `(@xV _ _ _ _ $(a)*)
  | 13 => `(@FK _ _ _ _ $(a)*)
  | 14 => `(@EH _ _ _ _ _ _ _ $(a)*)
  | 15 => `(@FA _ _ _ _ $(a)*)
  | 16 => `(@yw _ _ _ _ _ $(a)*)
  | 17 => `(@zr _ _ _ _ _ $(a)*)
  | 18 => `(@Kn _ _ _ _ $(a)*)
  | 19 => `(@Kl _ _ _ _ _ _ _ _ $(a)*)
  | 20 => `(@B3 _ _ _ _ _ _ _ _ $(a)*)
  | 21 => `(@yu _ _ $(a)*)
  | 22 => `(@FJ _ _ _ _ _ $(a)*)
  | 23 => `(@EG _ _ _ _ _ _ _ _ $(a)*)
  | 24 => `(@zv _ _ _ _ _ _ _ _ _ _ _ _ _ _ _ _ _ $(a)*)
  | 25 => `(@Ko _ _ _ _ _ $(a)*)
  | 26 => `(@Cb _ _ _ _ _ _ _ _ _ _ _ _ _ _ _ _ _ $(a)*)
  | 27 => `(@Ca _ _ _ _ _ _ _ _ _ _ _ _ _ _ _ _ _ _ _ _ $(a)*)
  | 28 => `(@cj _ _ _ $(a)*)
  | 29 => `(@FN _ _ _ _ _ _ _ _ _ _ _ $(a)*)
  | 30 => `(@zx _ _ _ _ _ _ _ _ _ $(a)*)
  | 31 => `(@B4 _ _ _ _ _ _ _ _ $(a)*)
  | 32 => `(@FP _ _ _ _ _ _ _ $(a)*)
  | 33 => `(@NC _ _ _ _ _ _ _ _ _ _ _ _ $(a)*)
  | 34 => `(@NB _ _ _ _ _ _ _ $(a)*)
  | 35 => `(@zq _ _ _ _ _ _ $(a)*)
  | 36 => `(@Km _ _ _ _ _ _ $(a)*)
  | 37 => `(@Kp _ _ _ _ _ _ _ $(a)*)
  | 38 => `(@Fy _ _ _ _ _ _ _ _ _ _ _ _ _ $(a)*)
  | 39 => `(@FO _ _ _ _ _ _ _ _ $(a)*)
  | 40 => `(@yy _ _ _ _ _ _ _ _ _ _ _ _ _ _ _ _ $(a)*)
  | 41 => `(@zu _ _ _ _ _ _ _ _ _ _ _ _ _ $(a)*)
  | 42 => `(@vJ _ _ _ _ _ _ _ _ _ _ _ _ _ _ _ _ $(a)*)
  | 51 => `(%[$(a[0]!),_,(show List.Nodup (($(a[1]!)) : List Str) from by decide +kernel),rfl,(Or.inl rfl),%[0|7]|21])
  | 45 => `(some (.ref $(a[0]!)))
  | 46 => `(some (.lst (List.map V.int $(a[0]!))))
  | 47 => `(some (.int $(a[0]!)))
  | 48 => `(List (Int × Int))
  | 49 => `(aM $(I "P") $(I "w") $(I "K") $(I "mg") $(I "base") CX0 $(a[0]!) $(I ("t.a_" ++ s 1)) $(I ("t.d_" ++ s 1)))
  | 50 => do
    let J (n : String) : Lean.Ident := Lean.mkIdent n.toName
    `(fun $(J "c"):ident $(J "A"):ident $(J "o"):ident $(J "s"):ident $(J "H"):ident $(J "vs"):ident $(J "Q"):ident $(J "E"):ident $(J "hr"):ident $(J "h"):ident => ?_)
  | 53 => do
    let vs ← match a[1]! with | `([$v,*]) => pure v.getElems | _ => pure #[]
    let ws ← vs.mapM λ x => `(some ($x))
    let ns ← (List.replicate (a[2]!.raw.isNatLit?.getD 0) 0).toArray.mapM λ _ => `(none)
    let us := ws ++ ns
    `(show ao $(a[0]!) $(a[1]!) = [$us,*] from rfl)
  | 100 => `(["_law_script", "_law_room", "_law_views", "_law_drawn_here", "_law_built", "_law_first", "_law_due", "_law_one", "_law_store", "_law_handed", "_law_good", "_law_told_here", "_law_way", "_law_beside", "_law_row", "_law_order", "_law_k"])
  | 101 => `(["_law_one", "_law_script", "_law_at", "_law_room", "_law_views", "_law_k", "_law_cell", "_law_size", "_law_pace", "_law_axes", "_law_low", "_law_high"])
  | 102 => `(["cell", "statements", "found", "wrote", "touched", "number", "statement", "written", "read", "rivals", "before", "at", "!cell"])
  | 103 => `(["_law_cell", "_law_script", "_law_room", "_law_views", "_law_drawn_here", "_law_built", "_law_first", "_law_due", "_law_one", "_law_store", "_law_handed", "_law_good", "_law_told_here", "_law_way", "_law_beside", "_law_row", "_law_order", "_law_k"])
  | 104 => `(["_law_one", "_law_script", "_law_room", "_law_views", "_law_drawn_here", "_law_built", "_law_first", "_law_due", "!_law_one", "_law_store", "_law_handed", "_law_good", "_law_told_here", "_law_way", "_law_beside", "_law_row", "_law_order", "_law_k"])
  | 105 => `(["_law_k", "_law_script", "_law_room", "_law_views", "_law_drawn_here", "_law_built", "_law_first", "_law_due", "_law_one", "_law_store", "_law_handed", "_law_good", "_law_told_here", "_law_way", "_law_beside", "_law_row", "_law_order", "!_law_k"])
  | 106 => `(["at", "before", "statements", "found", "many", "told", "number", "row"])
  | 107 => `(["_law_script", "_law_at", "_law_room", "_law_views", "_law_k", "_law_cell", "_law_size", "_law_pace", "_law_axes", "_law_low", "_law_high"])
  | 108 => `(["self"])
  | 109 => `(["statements", "found", "wrote", "touched", "number", "statement", "written", "read", "rivals", "before", "at", "cell"])
  | 110 => `(["_law_k", "_law_script", "_law_room", "_law_good", "_law_first", "_law_far", "_law_size", "_law_many", "_law_rows", "_law_statements", "_law_due", "_law_store", "_law_wide"])
  | 111 => `(["statements", "found", "many", "told", "number", "row"])
  | 112 => `(["_law_script", "_law_room", "_law_good", "_law_first", "_law_far", "_law_size", "_law_many", "_law_rows", "_law_statements", "_law_due", "_law_store", "_law_wide"])
  | 113 => `(["self", "store"])
  | 114 => `(["at", "statements", "found", "many", "told", "number", "row"])
  | 115 => `(["size", "pace", "self"])
  | 116 => `(["self", "to", "source"])
  | 117 => `(["_law_k", "_law_first", "_law_axes", "_law_cells_here", "_law_size", "_law_pace", "_law_more", "_law_cell"])
  | 118 => `(["_law_first", "_law_axes", "_law_cells_here", "_law_size", "_law_pace", "_law_more", "_law_cell"])
  | 119 => `(["_law_other", "_law_views", "_law_cell", "_law_one", "_law_same", "!_law_other"])
  | 120 => `(["self", "view"])
  | 121 => `(["self", "room", "first", "axes"])
  | 122 => `(["_law_views", "_law_cell", "_law_one", "_law_same", "_law_other"])
  | 123 => `(["store", "statements", "numbers", "number"])
  | 124 => `(["value", "other", "self", "store", "more"])
  | 125 => `(["one", "other"])
  | 126 => `(["store", "statements"])
  | 127 => `(["statements"])
  | 128 => `(["number", "cells", "size", "pace", "found", "cell"])
  | 129 => `(["_law_found", "_law_due"])
  | _ => Lean.Macro.throwUnsupported
local macro_rules | `(∅) => `(by rfl)
local macro_rules | `(⋯) => `(by decide)
local macro_rules | `(tactic| ac_rfl) => `(tactic| simp! only [and_true])
local macro_rules | `(tactic| exists $xs,*) => do
  let a := xs.getElems
  let e := a.back!
  let mut r ← `(tactic| skip)
  for x in a.pop do
    let i : Lean.Ident := ⟨x.raw⟩
    r ← `(tactic| ($r; replace $i := λ (_ : Unit) => ($i ()).ext $e))
  return r
local macro_rules | `(tactic| exists $x:ident) => `(tactic| replace $x := λ (_ : Unit) => $x)
section
variable {P:Program}{w:World}{K:PySem.W.Frag}{mg:Str->Option Value}{base:Heap}{t:Adr}
def xR(K:W.Frag)(a:Addr)(ns:List Int):Sp:=λ vs H Q E=>∃ (k:Int) (m:Int),vs=[.ref a,.int k,.int m]/\(SqL K H a (ns.map V.int)/\ns.length<=63/\(0<=k/\k < 1000)/\0 < m/\∀ z:Int,0<=z->z < m->Q (.int z) H)
def dH(K:W.Frag)(a:Addr)(ns:List Int)(k:Int)(m:Int)(H:Hp)(Q:VK)(E:XK):xR K a ns [.ref a,.int k,.int m] H Q E=(SqL K H a (ns.map V.int)/\ns.length<=63/\(0<=k/\k < 1000)/\0 < m/\∀ z:Int,0<=z->z < m->Q (.int z) H):=lN (f:=λ (k:Int) (m:Int)=>[.ref a,.int k,.int m]) (λ _ _ _ _ h=>by cases h;exact⟨rfl,rfl⟩) k m
def gq(T:Tx K mg t)(a:Addr)(ns:List Int):%[1,CM|49] ["_law_script", "_law_k", "_law_many"] (xR K a ns):=by
 refine T.F_CM.ok fi (λ _ _ _ _ h=>lO h λ _ _=>rfl) %[0|50]
 ·obtain⟨k,m,rfl,hS,hl,⟨aq,ar⟩,hm,kk⟩:=h;have fin:∀ z:Int,Q (.int (z % m)) H:=λ z=>kk _ (Ry _ %[0|8]) (Ro _ hm)
  refine⟨_,(iD (EG (sE JC (pv 1) (jQ (id := "len") dR ∅ T.z_len nofun (Je (pv 0) cq)) (aG _))
   (nv (xV (fH j8 (EH sM (pv 0) (pv 1) (λ _ _=>rfl)) (pv 2))))
   aF)
  (iD (gQ (i:=3) fi.nd rfl (Or.inl rfl) (fH ui (fH jr (fH jr (pv 1) (pv 1)) fJ) fJ))
  (iD (EG (sE JD (jQ (id := "len") dR ∅ T.z_len nofun (Je (pv 0) cq)) fJ (aG _))
   (iD (gQ (i:=4) fi.nd rfl (Or.inl rfl) (fH j8 (EH sM (pv 0) (fH j8 (pv 1) (jQ (id := "len") dR ∅ T.z_len nofun (Je (pv 0) cq))) (λ _ _=>rfl)) fJ))
   (nv (gQ (i:=3) fi.nd rfl (Or.inl rfl) (fH ui (fH jr (pv 4) (fH ui fJ (fH jr (fH jr fJ (pv 1)) (pv 1)))) (fH jr (pv 1) fJ)))))
   aF)
  (nv (xV (fH j8 (fH j8 (fH jr (fH j8 (pv 3) fJ) fJ) fJ) (pv 2))))))),?_⟩
  refine⟨_,rfl,_,rfl,a,_,rfl,.inl hS,_,_,rfl,rfl,_,rfl,?_⟩;refine Ph (λ h=>?_) (λ h=>?_)
  ·have h1:k < (ns.length:Int):=by simpa using h
   obtain⟨z,hz,_⟩:=u4 ns k aq h1;exact⟨_,rfl,_,rfl,a,_,k,_,rfl,rfl,hS,hz,_,rfl,_,_,rfl,rfl,hm,fin _⟩
  ·refine⟨_,rfl,_,rfl,_,_,rfl,rfl,.inl ⟨by omega,by omega⟩,_,_,rfl,rfl,.inr ⟨by decide,by decide⟩,_,_,rfl,rfl,?_⟩;refine⟨_,rfl,a,_,rfl,.inl hS,_,_,rfl,rfl,_,rfl,?_⟩;refine Ph (λ h2=>?_) (λ h2=>?_)
   ·have h3:0 < (ns.length:Int):=by simpa using h2
    have h4:(0:Int) < ((ns.map V.int).length:Int):=by simpa using h3
    obtain⟨z,hz,_⟩:=u4 ns (k % ((ns.map V.int).length:Int)) (Ry _ %[0|8]) (by have:=Ro k h4;simpa using this);refine⟨_,rfl,_,rfl,_,rfl,a,_,rfl,.inl hS,_,_,rfl,rfl,h4,a,_,_,_,rfl,rfl,hS,hz,_,_,rfl,rfl,(by first|decide|(show (0:Int) < _;decide)),?_⟩;refine⟨_,rfl,_,rfl,_,_,rfl,rfl,.inl ⟨by decide,by decide⟩,_,rfl,_,_,rfl,rfl,.inr ⟨by omega,by omega⟩,_,_,rfl,rfl,_,_,rfl,rfl,?_,?_⟩
    ·refine .inl ⟨?_,?_⟩
     ·have:=Ry z (show (999999937:Int) ≠ 0 by decide);omega
     ·have:=Ro z (show (0:Int) < 999999937 by decide);omega
    refine⟨_,rfl,_,_,rfl,rfl,.inr ⟨by decide,by decide⟩,_,_,rfl,rfl,?_⟩;exact⟨_,rfl,_,_,rfl,rfl,(by first|decide|(show (0:Int) < _;decide)),_,_,rfl,rfl,.inr ⟨by decide,by decide⟩,_,_,rfl,rfl,(by first|decide|(show (0:Int) < _;decide)),_,rfl,_,_,rfl,rfl,hm,fin _⟩
   ·exact⟨_,rfl,_,_,rfl,rfl,(by first|decide|(show (0:Int) < _;decide)),_,_,rfl,rfl,.inr ⟨by decide,by decide⟩,_,_,rfl,rfl,(by first|decide|(show (0:Int) < _;decide)),_,rfl,_,_,rfl,rfl,hm,fin _⟩
def nk  : Sp:=λ vs H Q E=>∃ (x:V),vs=[x]/\(aX (isW H x) (kE4 H Q))
def fU  (x:V) (H:Hp) (Q:VK) (E:XK):nk  [x] H Q E=(aX (isW H x) (kE4 H Q)):=jB (f:=λ (x:V)=>[x]) (λ _ _ h=>by cases h;exact rfl) x
def oF(T:Tx K mg t):%[1,Aq|49] ["_law_found"] nk:=by
 refine T.F_Aq.ok rq (λ _ _ _ _ h=>iW h λ _=>rfl) %[0|50]
 ·obtain⟨x,rfl,h⟩:=h;obtain⟨b,hb,k⟩:=ak h;clear h;rw [ES] at k;refine⟨_,%[%[%[%[isinstance,cY,%[%[0|0],%[(@fN _ _ (.ty "int") (.type "int") _ ∅ T.z_int nofun rfl ⋯ ⋯)|1]|1]|6],(@jZ _ _ _ _ _ (@yv _ _ _ _ %[isinstance,cY,%[%[0|0],%[(@fN _ _ (.ty "bool") (.type "bool") _ ∅ T.z_bool nofun rfl ⋯ ⋯)|1]|1]|6]))|32]|12]|9],?_⟩;rw [%[["_law_found"],[x],0|53]]
  cases x with
  | int i=>cases hb;ac_rfl
  | bl i=>cases hb;ac_rfl
  | non=>cases hb;ac_rfl
  | str i=>cases hb;ac_rfl
  | ref p=>
   obtain⟨rfl,o,ho,ht⟩:=yJ hb
   rcases ht with ht|ht|ht<;>ac_rfl
  | _=>cases hb
def ic(T:Tx K mg t):%[1,CY|49] ["thing"] nk:=by
 refine T.F_CY.ok wN (λ _ _ _ _ h=>iW h λ _=>rfl) %[0|50]
 ·obtain⟨x,rfl,h⟩:=h;obtain⟨b,hb,k⟩:=ak h;clear h;rw [ES] at k;refine⟨_,%[%[%[%[isinstance,cY,%[%[0|0],%[(@fN _ _ (.ty "int") (.type "int") _ ∅ T.z_int nofun rfl ⋯ ⋯)|1]|1]|6],(@jZ _ _ _ _ _ (@yv _ _ _ _ %[isinstance,cY,%[%[0|0],%[(@fN _ _ (.ty "bool") (.type "bool") _ ∅ T.z_bool nofun rfl ⋯ ⋯)|1]|1]|6]))|32]|12]|9],?_⟩;rw [%[["thing"],[x],0|53]]
  cases x with
  | int i=>cases hb;ac_rfl
  | bl i=>cases hb;ac_rfl
  | non=>cases hb;ac_rfl
  | str i=>cases hb;ac_rfl
  | ref p=>
   obtain⟨rfl,o,ho,ht⟩:=yJ hb
   rcases ht with ht|ht|ht<;>ac_rfl
  | _=>cases hb
def kSz(F:List Int->Prop):List Int->Prop:=λ ns=>px ns/\F ns
def N7(F:List Int->Prop)(ns:List Int):kSz F ns=(px ns/\F ns):=rfl
def Nd(H:Hp)(Q:VK):List Int->Prop:=λ ns=>Q (.int (aj ns)) H
def DU(H:Hp)(Q:VK)(ns:List Int):Nd H Q ns=Q (.int (aj ns)) H:=rfl
def su  : Sp:=λ vs H Q E=>∃ (p:Addr),vs=[.ref p]/\(aX (aP H p) (rO (kSz (Nd H Q))))
def Bb  (p:Addr) (H:Hp) (Q:VK) (E:XK):su  [.ref p] H Q E=(aX (aP H p) (rO (kSz (Nd H Q)))):=jB (f:=λ (p:Addr)=>[.ref p]) (λ _ _ h=>by cases h;exact rfl) p
def sS(T:Tx K mg t):%[1,CZ|49] ["sizes"] su:=by
 refine T.F_CZ.ok gI (λ _ _ _ _ h=>iW h λ _=>rfl) %[0|50]
 ·obtain⟨p,rfl,h⟩:=h;obtain⟨xs,hp,ns,rfl,hs,k⟩:=ak h;replace hp:=cC hp;rw [DU] at k;refine⟨_,%[%[1,gI,%[0|2]|4],%[%[Qu,rfl,%[%[0|0]|18],%[2,gI|5],%[%[1,gI,%[FX,%[1|0],%[2|0]|11]|4]|9],(by intros;rfl)|19],%[%[%[1|0]|12]|9]|10]|10],?_⟩;rw [%[["sizes", "count", "size"],[.ref p],2|53]];ac_rfl;refine aR (xs:=ns.map V.int) (λ i σ H'=>∃ v:Option V,σ=[%[p|45],some (.int (aj (ns.take i))),v]/\H'=H) ⟨_,rfl,rfl⟩ (λ i σ H' _ ⟨_,_,e⟩=>by subst e;exact hp) ?_ ?_
  ·rintro i x _ _ hi ⟨v,rfl,rfl⟩;rw [Qq] at hi;obtain⟨z,hz,rfl⟩:=Qj.mp hi;have e:=gB ns i z hz;have b1:=(hs.take i).prod;have b2:=hs.2 z (Qr hz)
   have c1:(aj (ns.take i)).natAbs < 2 ^ 256:=by
    generalize aj (ns.take i)=y at b1;have:(1000000000:Int) ^ 8 < 2 ^ 256:=by decide
    omega
   have c2:z.natAbs < 2 ^ 256:=by omega
   clear b1 b2;simp! only [↓aw,DO];exact⟨_,rfl⟩
  ·rintro _ _ ⟨v,rfl,rfl⟩;rw [Qk,QD];ac_rfl
def nN  : Sp:=λ vs H Q E=>∃ (i:Int) (lo:Int) (hi:Int),vs=[.int i,.int lo,.int hi]/\(Q (.bl (decide (lo<=i) && decide (i<=hi))) H)
def mO  (i:Int) (lo:Int) (hi:Int) (H:Hp) (Q:VK) (E:XK):nN  [.int i,.int lo,.int hi] H Q E=(Q (.bl (decide (lo<=i) && decide (i<=hi))) H):=wX (f:=λ (i:Int) (lo:Int) (hi:Int)=>[.int i,.int lo,.int hi]) (λ _ _ _ _ _ _ h=>by cases h;exact⟨rfl,rfl,rfl⟩) i lo hi
def ju(T:Tx K mg t):%[2,Av|49] ["thing", "low", "high"] nN:=by
 have G_CY:=%[ic|43];refine T.F_Av.ok t7 (λ _ _ _ _ h=>wY h λ _ _ _=>rfl) %[0|50]
 ·obtain⟨i,lo,hi,rfl,k⟩:=h;refine⟨_,%[%[%[%[CY,%[%[0|0]|1]|3],(@jZ _ _ _ _ _ (@zw _ _ _ _ _ _ _ _ _ _ _ _ EI EI %[1|0] %[0|0] %[2|0] ∅))|32]|12]|9],?_⟩;rw [%[["thing", "low", "high"],[.int i,.int lo,.int hi],0|53]]
  by_cases h0:lo<=i
  ·rw [Rh h0,Bool.true_and] at k;simp! only [↓fU]
  ·rw [QW h0,Bool.false_and] at k;simp! only [↓fU]
def xH  : Sp:=λ vs H Q E=>∃ (i:Int),vs=[.int i]/\(Q (.bl (decide (1<=i) && decide (i<=1000000000))) H)
def DG  (i:Int) (H:Hp) (Q:VK) (E:XK):xH  [.int i] H Q E=(Q (.bl (decide (1<=i) && decide (i<=1000000000))) H):=jB (f:=λ (i:Int)=>[.int i]) (λ _ _ h=>by cases h;exact rfl) i
def vK(T:Tx K mg t):%[3,Us|49] ["thing"] xH:=by
 have G_Av:=%[ju|43];refine T.F_Us.ok Bc (λ _ _ _ _ h=>iW h λ _=>rfl) %[0|50]
 ·obtain⟨i,rfl,k⟩:=h;refine⟨_,%[%[%[Av,%[%[0|0],%[%[0|2],%[(@ed _ _ (.int 1000000000) _ _ ∅ T.m_MOST_SIZE.choose_spec ⟨_,rfl⟩ ⋯)|1]|1]|1]|3]|12]|9],?_⟩;rw [%[["thing"],[.int i],0|53]];simp! only [↓mO]
abbrev vg  (p:Addr) (H:Hp) (Q:VK) (E:XK):Prop:=∃ a:Int × Int,H p=some (.tup [.int a.1,.int a.2])/\1<=a.1/\a.1<=1000000000/\Q (.bl true) H
def xS  : Sp:=λ vs H Q E=>∃ (p:Addr),vs=[.ref p]/\(vg  p H Q E)
def DL  (p:Addr) (H:Hp) (Q:VK) (E:XK):xS  [.ref p] H Q E=(vg  p H Q E):=jB (f:=λ (p:Addr)=>[.ref p]) (λ _ _ h=>by cases h;exact rfl) p
def vL(T:Tx K mg t):%[4,Ut|49] ["thing"] xS:=by
 have G_Us:=%[vK|43];have G_CY:=%[ic|43];refine T.F_Ut.ok Bd (λ _ _ _ _ h=>iW h λ _=>rfl) %[0|50]
 ·obtain⟨p,rfl,a,hp,h1,h2,k⟩:=h;refine⟨_,%[%[%[%[isinstance,cY,%[%[0|0],%[(@fN _ _ (.ty "tuple") (.type "tuple") _ ∅ T.z_tuple nofun rfl ⋯ ⋯)|1]|1]|6],%[%[(cM hr.units),%[len,bh,%[%[0|0]|1]|6],%[0|2],(aG _)|39],%[%[Us,%[%[cW,%[0|0],%[0|2],(λ _ _=>rfl)|14]|1]|3],(@jZ _ _ _ _ _ %[CY,%[%[cW,%[0|0],%[0|2],(λ _ _=>rfl)|14]|1]|3])|32]|32]|32]|12]|9],?_⟩;rw [%[["thing"],[.ref p],0|53]];simp! only [↓DG,↓fU]
abbrev ve  (p:Addr) (H:Hp) (Q:VK) (E:XK):Prop:=∃ a:Int × Int,H p=some (.tup [.int a.1,.int a.2])/\∀ (r:Addr) (H':Hp),H r=none->Ext H H'->H' r=some (.tup [.int (ba a).1,.int (ba a).2])->Q (.ref r) H'
def xP  : Sp:=λ vs H Q E=>∃ (p:Addr),vs=[.ref p]/\(ve  p H Q E)
def DJ  (p:Addr) (H:Hp) (Q:VK) (E:XK):xP  [.ref p] H Q E=(ve  p H Q E):=jB (f:=λ (p:Addr)=>[.ref p]) (λ _ _ h=>by cases h;exact rfl) p
def qK(T:Tx K mg t):%[1,Aw|49] ["axis"] xP:=by
 refine T.F_Aw.ok t5 (λ _ _ _ _ h=>iW h λ _=>rfl) %[0|50]
 ·obtain⟨p,rfl,a,hp,k⟩:=h;refine⟨_,%[%[%[%[%[cW,%[0|0],%[0|2],(λ _ _=>rfl)|14],%[(@uI _ _ _ _ _ _ _ _ %[vt,%[cW,%[0|0],%[0|2],(λ _ _=>rfl)|14],%[0|2],(aG _)|20] %[cW,%[0|0],%[0|2],(λ _ _=>rfl)|14] %[0|2])|1]|1]|22]|12]|9],?_⟩;rw [%[["axis"],[.ref p],0|53]];have e1:(ba a).1=a.1:=rfl
  by_cases h1:1 < a.1
  ·have e2:(ba a).2=a.2:=QE h1;rw [e1,e2] at k;ac_rfl;exact λ r H' h e h'=>k r H' h e h'
  ·have e2:(ba a).2=0:=QB h1;rw [e1,e2] at k;ac_rfl;exact λ r H' h e h'=>k r H' h e h'
abbrev vh  (p:Addr) (H:Hp) (Q:VK) (E:XK):Prop:=∃ axs:%[0|48],aH H p (axL axs)/\dD axs/\∀ H',Ext H H'->Q (.bl true) H'
def xT  : Sp:=λ vs H Q E=>∃ (p:Addr),vs=[.ref p]/\(vh  p H Q E)
def DM  (p:Addr) (H:Hp) (Q:VK) (E:XK):xT  [.ref p] H Q E=(vh  p H Q E):=jB (f:=λ (p:Addr)=>[.ref p]) (λ _ _ h=>by cases h;exact rfl) p
def sU(T:Tx K mg t):%[5,De|49] ["thing"] xT:=by
 have G_Ut:=%[vL|43];refine T.F_De.ok wO (λ _ _ _ _ h=>iW h λ _=>rfl) %[0|50]
 ·obtain⟨p,rfl,axs,⟨ys,hp,al⟩,ha,k⟩:=h;refine⟨_,%[%[%[%[isinstance,cY,%[%[0|0],%[(@fN _ _ (.ty "list") (.type "list") _ ∅ T.z_list nofun rfl ⋯ ⋯)|1]|1]|6],%[%[EI,%[len,bh,%[%[0|0]|1]|6],(@ed _ _ (.int 8) _ _ ∅ T.m_MOST_AXES.choose_spec ⟨_,rfl⟩ ⋯),(aG _)|39],(@jZ _ _ _ _ _ %[all,(AS rfl),%[%[(["axis", "thing"]),(1),(aV (aa gA) ["thing"] rfl rfl nofun),rfl,%[%[0|0]|18],(λ _ _ _ _ _=>%[(0),["axis", "thing"]|51]),(λ _ _ _ _ _=>(@bo _)),(λ _ _ _ _ _=>%[Ut,%[%[0|0]|1]|3]),(by intros;rfl)|29]|1]|6])|32]|32]|12]|9],?_⟩;rw [%[["thing"],[.ref p],0|53]];have hl:ys.length=axs.length:=by rw [al.1];unfold axL;rw [length_map]
  have a7:(axs.length:Int)<=8:=by have:=ha.1;omega
  ac_rfl;refine bK ys (λ _=>true) (λ _=>.bl true) (λ z x H'=>x=z/\H' p=some (.lst ys)) (xD hp).1 (xD hp).2 (az %[0|8]) ?_ ?_
  ·intro D z x H' N1 N0 hz hD e ⟨hx,_⟩ k1 _;subst hx;obtain⟨i,hi,rfl⟩:=Rk hz;have aq:i < axs.length:=by rw [←hl];exact hi
   obtain⟨q,a3,a4⟩:=al.2 i [axs[i].1,axs[i].2] ys[i] (by unfold axL;rw [getElem?_map,getElem?_eq_getElem aq];rfl) (getElem?_eq_getElem hi);have hb:=ha.2 _ (getElem_mem aq);have a5:=k1 rfl H' (Ext.refl _);have a6:=e.at a4;rw [a3];clear k1 k hp al;simp! only [↓aN,↓aU];rw [DL];exact⟨axs[i],a6,hb.1,hb.2,a5⟩
  ·intro D H' hD e ar;have a8:H' D=some (.lst ((ys.map λ _=>true).map V.bl)):=by rw [ar,rH,RQ];rfl
   have e2:((ys.map λ _=>true).all id)=true:=by rw [List.all_map];simp
   have k2:=k H' e;clear k ar;ac_rfl
def tO{zs:List (List Int)}{ys:List V}{H:Hp}(al:Al (ud H) zs ys){i:Nat}{y:V}(h:ys[i]? = some y):∃ z,zs[i]? = some z/\ud H z y:=by
 have hi:i < ys.length:=(Qh.mp h).1;have hz:zs[i]? = some (zs[i]'(by rw [←al.1];exact hi)):=Qf _;exact⟨_,hz,al.2 i _ y hz h⟩
abbrev vc(cT:Addr)(n:Int)(H:Hp)(Q:VK)(E:XK):Prop:=(n<=4096->Q .non H)/\¬ 4096 < n
def xN(cT:Addr):Sp:=λ vs H Q E=>∃ (n:Int),vs=[.int n]/\(vc cT n H Q E)
def oy(cT:Addr)(n:Int)(H:Hp)(Q:VK)(E:XK):xN cT [.int n] H Q E=(vc cT n H Q E):=jB (f:=λ (n:Int)=>[.int n]) (λ _ _ h=>by cases h;exact rfl) n
def eA(T:Tx K mg t):%[3,wt|49] ["count"] (xN t.a_Uz):=by
 refine T.F_wt.ok iQ (λ _ _ _ _ h=>iW h λ _=>rfl) %[0|50]
 ·obtain⟨n,rfl,k1,hn⟩:=h;refine⟨_,%[%[%[vt,%[0|0],(@ed _ _ (.int 4096) _ _ ∅ T.m_MOST_TOLD.choose_spec ⟨_,rfl⟩ ⋯),(aG _)|20],%[(@dG _ _)|9],(@aF _)|23]|9],?_⟩;rw [%[["count"],[.int n],0|53]];have aq:=k1 %[0|8];clear k1;ac_rfl
def OZ(x:Int):min 0 x=if x < 0 then x else 0:=by split<;>omega
def O0(x:Int):max 0 x=if 0 < x then x else 0:=by split<;>omega
structure av(C:Addr)(H:Hp)(v:Addr)(room first:Int)(axs:%[0|48]):Prop where
 ob:∃ dx l,H v=some (.ins C dx (cO room first l))/\aH H l (axL axs)
def av.ext{C:Addr}{H H':Hp}{v:Addr}{room first:Int}{axs:%[0|48]}(h:av C H v room first axs)(e:Ext H H'):av C H' v room first axs:=by
 obtain⟨dx,l,h1,h2⟩:=h.ob;exact⟨⟨dx,l,e.at h1,h2.ext e⟩⟩
def EJ{m:Str}(h:m∈([("sizes":Str), "paces", "count", "cell", "cell_at", "cells", "least", "greatest"]:List Str)):¬ m = "axes" /\ ¬ m = "first" /\ ¬ m = "room":=by
 revert m
 decide +kernel
def vn(room first:Int)(l:Addr){m:Str}(h:m∈([("sizes":Str), "paces", "count", "cell", "cell_at", "cells", "least", "greatest"]:List Str)):(cO room first l).lookup m=none:=BG room first l (EJ h).1 (EJ h).2.1 (EJ h).2.2
def E6{H:Hp}{axs:%[0|48]}{ys:List V}(al:Al (ud H) (axL axs) ys){i:Nat}{y:V}(h:ys[i]? = some y):∃ a q,axs[i]? = some a/\y=.ref q/\H q=some (.tup [.int a.1,.int a.2]):=by
 obtain⟨z,hz,q,hq,aq⟩:=tO al h;unfold axL at hz;rw [getElem?_map] at hz;obtain⟨a,ha,rfl⟩:=Option.map_eq_some_iff.mp hz;exact⟨a,q,ha,hq,aq⟩
abbrev qw(C:Addr)(v:Addr)(H:Hp)(Q:VK)(E:XK):Prop:=∃ (room first:Int) (axs:%[0|48]),av C H v room first axs/\dD axs/\∀ H',Ext H H'->Q (.int (first+bj axs)) H'
def nr(C:Addr):Sp:=λ vs H Q E=>∃ (v:Addr),vs=[.ref v]/\(qw C v H Q E)
def A4(C:Addr)(v:Addr)(H:Hp)(Q:VK)(E:XK):nr C [.ref v] H Q E=(qw C v H Q E):=jB (f:=λ (v:Addr)=>[.ref v]) (λ _ _ h=>by cases h;exact rfl) v
def oM(T:Tx K mg t):%[1,Aj|49] %[|108] (nr t.a_UH):=by
 refine T.F_Aj.ok rB (λ _ _ _ _ h=>iW h λ _=>rfl) %[0|50]
 ·obtain⟨v,rfl,room,first,axs,vo,aq,k⟩:=h;obtain⟨dx,l,hv,ys,hl,al⟩:=vo.ob;have c1:=T.qA1;have c2:=T.qBn;have c3:=T.qBl
  have f1:=df room first l
  have f2:=cU room first l
  refine⟨_,%[%[%[bF,%[%[0|0],rfl|16],%[sum,(iK rfl),%[%[(%[|115]),(2),(aV (aa dP) %[|108] rfl rfl nofun),rfl,%[%[%[0|0],rfl|16]|18],(λ _ _ _ _ _=>(%[(2),rfl,%[%[(0),%[|115]|51],%[%[(1),%[|115]|51],(@aO _),∅|17],∅|17],∅,∅|25].mono λ _ _ _ _ h=>bR h)),(λ _ _ _ _ _=>(@bo _)),(λ _ _ _ _ _=>%[min,(qf rfl),%[%[0|2],%[%[gR,%[js,%[0|0],%[0|2]|11],%[1|0]|11]|1]|1]|6]),(by intros;rfl)|29]|1]|6]|11]|12]|9],?_⟩;rw [%[%[|108],[.ref v],0|53]];ac_rfl;have wk:=jV (K:=K) (R:=axP) (λ _ _ _ _ h e=>h.ext e) hl (my al);refine bK axs (λ _=>true) (λ a=>.int (min 0 ((a.1 - 1) * a.2))) axP wk.1 wk.2 (az (by have:=aq.1;omega)) ?_ ?_
  ·intro D a x H' N1 N0 ha hD e ⟨q,hx,hq⟩ k1 _;subst hx;have hb:=aq.2 a ha;have a3:=k1 rfl H' (Ext.refl _);have a4:rJ (a.1 - 1) a.2:=.inl ⟨by omega,by omega⟩;rw [OZ] at a3;clear k1 k;simp! only [↓iZ,↓aU]
  ·intro D H' hD e ar;have a5:H' D=some (.lst ((axs.map λ a=>min 0 ((a.1 - 1) * a.2)).map V.int)):=by rw [ar,rH,RQ];rfl
   have k2:Q (.int (first+(axs.map λ a=>min 0 ((a.1 - 1) * a.2)).sum)) H':=k H' e;clear k ar;ac_rfl
abbrev jy(C:Addr)(v:Addr)(H:Hp)(Q:VK)(E:XK):Prop:=∃ (room first:Int) (axs:%[0|48]),av C H v room first axs/\dD axs/\∀ H',Ext H H'->Q (.int (first+br axs)) H'
def i6(C:Addr):Sp:=λ vs H Q E=>∃ (v:Addr),vs=[.ref v]/\(jy C v H Q E)
def rn(C:Addr)(v:Addr)(H:Hp)(Q:VK)(E:XK):i6 C [.ref v] H Q E=(jy C v H Q E):=jB (f:=λ (v:Addr)=>[.ref v]) (λ _ _ h=>by cases h;exact rfl) v
def jE(T:Tx K mg t):%[1,tJ|49] %[|108] (i6 t.a_UH):=by
 refine T.F_tJ.ok lH (λ _ _ _ _ h=>iW h λ _=>rfl) %[0|50]
 ·obtain⟨v,rfl,room,first,axs,vo,aq,k⟩:=h;obtain⟨dx,l,hv,ys,hl,al⟩:=vo.ob;have c1:=T.qA1;have c2:=T.qBn;have c3:=T.qBl
  have f1:=df room first l
  have f2:=cU room first l
  refine⟨_,%[%[%[bF,%[%[0|0],rfl|16],%[sum,(iK rfl),%[%[(%[|115]),(2),(aV (aa bW) %[|108] rfl rfl nofun),rfl,%[%[%[0|0],rfl|16]|18],(λ _ _ _ _ _=>(%[(2),rfl,%[%[(0),%[|115]|51],%[%[(1),%[|115]|51],(@aO _),∅|17],∅|17],∅,∅|25].mono λ _ _ _ _ h=>bR h)),(λ _ _ _ _ _=>(@bo _)),(λ _ _ _ _ _=>%[max,(qg rfl),%[%[0|2],%[%[gR,%[js,%[0|0],%[0|2]|11],%[1|0]|11]|1]|1]|6]),(by intros;rfl)|29]|1]|6]|11]|12]|9],?_⟩;rw [%[%[|108],[.ref v],0|53]];ac_rfl;have wk:=jV (K:=K) (R:=axP) (λ _ _ _ _ h e=>h.ext e) hl (my al);refine bK axs (λ _=>true) (λ a=>.int (max 0 ((a.1 - 1) * a.2))) axP wk.1 wk.2 (az (by have:=aq.1;omega)) ?_ ?_
  ·intro D a x H' N1 N0 ha hD e ⟨q,hx,hq⟩ k1 _;subst hx;have hb:=aq.2 a ha;have a3:=k1 rfl H' (Ext.refl _);have a4:rJ (a.1 - 1) a.2:=.inl ⟨by omega,by omega⟩;rw [O0] at a3;clear k1 k;simp! only [↓iZ,↓aU]
  ·intro D H' hD e ar;have a5:H' D=some (.lst ((axs.map λ a=>max 0 ((a.1 - 1) * a.2)).map V.int)):=by rw [ar,rH,RQ];rfl
   have k2:Q (.int (first+(axs.map λ a=>max 0 ((a.1 - 1) * a.2)).sum)) H':=k H' e;clear k ar;ac_rfl
def O3(H:Hp)(Q:VK)(f:Int × Int->Int)(axs:%[0|48]):Prop:=∀ (r:Addr) (H':Hp),H r=none->Ext H H'->H' r=some (.lst ((axs.map f).map V.int))->Q (.ref r) H'
abbrev mS(C:Addr)(v:Addr)(H:Hp)(Q:VK)(E:XK):Prop:=∃ (room first:Int) (axs:%[0|48]),av C H v room first axs/\axs.length<=8/\O3 H Q (λ a=>a.1) axs
def nO(C:Addr):Sp:=λ vs H Q E=>∃ (v:Addr),vs=[.ref v]/\(mS C v H Q E)
def wI(C:Addr)(v:Addr)(H:Hp)(Q:VK)(E:XK):nO C [.ref v] H Q E=(mS C v H Q E):=jB (f:=λ (v:Addr)=>[.ref v]) (λ _ _ h=>by cases h;exact rfl) v
def oK(T:Tx K mg t):%[1,wB|49] %[|108] (nO t.a_UH):=by
 refine T.F_wB.ok rA (λ _ _ _ _ h=>iW h λ _=>rfl) %[0|50]
 ·obtain⟨v,rfl,room,first,axs,vo,ar,k⟩:=h;obtain⟨dx,l,hv,ys,hl,al⟩:=vo.ob;have c1:=T.qA1;have c3:=T.qBl
  have f2:=cU room first l
  refine⟨_,%[%[%[(%[|115]),(2),(aV (aa dO) %[|108] rfl rfl nofun),rfl,%[%[%[0|0],rfl|16]|18],(λ _ _ _ _ _=>(%[(2),rfl,%[%[(0),%[|115]|51],%[%[(1),%[|115]|51],(@aO _),∅|17],∅|17],∅,∅|25].mono λ _ _ _ _ h=>bR h)),(λ _ _ _ _ _=>(@bo _)),(λ _ _ _ _ _=>%[0|0]),(by intros;rfl)|29]|12]|9],?_⟩;rw [%[%[|108],[.ref v],0|53]];ac_rfl;have wk:=jV (K:=K) (R:=axP) (λ _ _ _ _ h e=>h.ext e) hl (my al);refine bK axs (λ _=>true) (λ a=>.int a.1) axP wk.1 wk.2 (az %[0|8]) ?_ ?_
  ·intro D a x H' N1 N0 ha hD e ⟨q,hx,hq⟩ k1 _;subst hx;have a3:=k1 rfl H' (Ext.refl _);clear k1 k;simp! only [↓iZ,↓aU]
  ·intro D H' hD e aq;exact k D H' hD e (by rw [aq,rH,RQ];rfl)
abbrev wW(C:Addr)(v:Addr)(H:Hp)(Q:VK)(E:XK):Prop:=∃ (room first:Int) (axs:%[0|48]),av C H v room first axs/\axs.length<=8/\O3 H Q (λ a=>a.2) axs
def MG(C:Addr):Sp:=λ vs H Q E=>∃ (v:Addr),vs=[.ref v]/\(wW C v H Q E)
abbrev mU(C:Addr)(v:Addr)(H:Hp)(Q:VK)(E:XK):Prop:=∃ (room first:Int) (axs:%[0|48]),av C H v room first axs/\dD axs/\∀ H',Ext H H'->Q (.int (aj (axs.map λ a=>a.1))) H'
def nP(C:Addr):Sp:=λ vs H Q E=>∃ (v:Addr),vs=[.ref v]/\(mU C v H Q E)
def cw(C:Addr)(v:Addr)(H:Hp)(Q:VK)(E:XK):nP C [.ref v] H Q E=(mU C v H Q E):=jB (f:=λ (v:Addr)=>[.ref v]) (λ _ _ h=>by cases h;exact rfl) v
def bq(T:Tx K mg t):%[2,Ah|49] %[|108] (nP t.a_UH):=by
 have G_wB:=%[oK|43];have G_CZ:=%[sS|43];refine T.F_Ah.ok rC (λ _ _ _ _ h=>iW h λ _=>rfl) %[0|50]
 ·obtain⟨v,rfl,room,first,axs,vo,aq,k⟩:=h;obtain⟨dx,l,hv,_⟩:=vo.ob
  have f3:=vn room first l (m := "sizes") nofun
  refine⟨_,%[%[%[CZ,%[%[%[0|0],T.qA1,T.qDq,G_wB,(hr.mono ⋯),T.b_wB,.nil,aC,∅|24]|1]|3]|12]|9],?_⟩;rw [%[%[|108],[.ref v],0|53]];ac_rfl;rw [wI];refine⟨room,first,axs,vo,aq.1,λ r H' ar e h'=>?_⟩;have k':=k H' e;have hsz:=aq.sizes;clear k;simp! only [↓Bb,↓N7,↓DU]
def rR(C:Addr):Sp:=λ vs H Q E=>∃ (x:Addr) (room:Int) (first:Int) (l:Addr),vs=[.ref x,.int room,.int first,.ref l]/\(∃ (dx:Addr) (axs:%[0|48]),H x=some (.ins C dx [])/\aH H l (axL axs)/\kh room first axs/\∀ (H':Hp) (D:Addr),(∀ H0,Ext H0 H->H0 x=none->Ext H0 H')->H D=none->H' x=some (.ins C dx (cO room first D))->aH H' D (axL (axs.map ba))->Q .non H')
def cZ(C:Addr)(x:Addr)(room:Int)(first:Int)(l:Addr)(H:Hp)(Q:VK)(E:XK):rR C [.ref x,.int room,.int first,.ref l] H Q E=(∃ (dx:Addr) (axs:%[0|48]),H x=some (.ins C dx [])/\aH H l (axL axs)/\kh room first axs/\∀ (H':Hp) (D:Addr),(∀ H0,Ext H0 H->H0 x=none->Ext H0 H')->H D=none->H' x=some (.ins C dx (cO room first D))->aH H' D (axL (axs.map ba))->Q .non H'):=PC (f:=λ (x:Addr) (room:Int) (first:Int) (l:Addr)=>[.ref x,.int room,.int first,.ref l]) (λ _ _ _ _ _ _ _ _ h=>by cases h;exact⟨rfl,rfl,rfl,rfl⟩) x room first l
def cK(T:Tx K mg t):%[6,tI|49] %[|121] (rR t.a_UH):=by
 have G_Av:=%[ju|43];have G_CY:=%[ic|43];have G_De:=%[sU|43];have G_Aw:=%[qK|43];have G_Aj:=%[oM|43];have G_tJ:=%[jE|43];refine T.F_tI.ok lI (λ _ _ _ _ h=>PD h λ _ _ _ _=>rfl) %[0|50]
 ·obtain⟨x,room,first,l,rfl,dx,axs,hx,tl,vok,k⟩:=h;have c1:=T.qA1;have c2:=T.qBn;have c3:=T.qBl;have c4:=T.qBr;refine⟨_,%[%[(PW.pt %[(@iA _ _ _ _ (@dZ _ _ _ %[Av,%[%[1|0],%[%[0|2],%[(@ed _ _ (.int 1000000000000000000) _ _ ∅ T.m_MOST_ROOM.choose_spec ⟨_,rfl⟩ ⋯)|1]|1]|1]|3] (by intros;rfl))),%[(@iA _ _ _ _ (@dZ _ _ _ %[CY,%[%[2|0]|1]|3] (by intros;rfl))),(@jY _ _ _ _ (@iA _ _ _ _ (@dZ _ _ _ %[De,%[%[3|0]|1]|3] (by intros;rfl))))|34]|34]),%[(@dG _ _)|9],(@aF _)|23],%[%[%[0|0],%[1|0],rfl|31],%[%[%[0|0],%[2|0],rfl|31],%[%[%[0|0],%[(["axis", "self", "room", "first", "axes"]),(1),(aV (aa bX) %[|121] rfl rfl nofun),rfl,%[%[3|0]|18],(λ _ _ _ _ _=>%[(0),["axis", "self", "room", "first", "axes"]|51]),(λ _ _ _ _ _=>(@bo _)),(λ _ _ _ _ _=>%[Aw,%[%[0|0]|1]|3]),(by intros;rfl)|29],rfl|31],%[%[(PW.pt %[%[JE,%[%[0|0],T.qA1,T.qDr,G_Aj,(hr.mono ⋯),T.b_Aj,.nil,aC,∅|24],%[0|2],(aG _)|20],(@jY _ _ _ _ %[NI,%[%[0|0],T.qA1,T.qD7,G_tJ,(hr.mono ⋯),T.b_tJ,.nil,aC,∅|24],%[1|0],(aG _)|20])|34]),%[(@dG _ _)|9],(@aF _)|23]|9]|10]|10]|10]|10],?_⟩;rw [%[%[|121],[.ref x,.int room,.int first,.ref l],0|53]];have r1:=vok.r1;have r2:=vok.r2;simp! only [↓mO,↓fU];rw [DM];refine⟨axs,tl,vok.ax,λ H1 e1=>?_⟩;have ar:=e1.at hx;have b1:=tl.ext e1;clear hx tl;ac_rfl;refine⟨(show (1:Nat) < 1000 by decide),?_⟩;obtain⟨ys,aq,a7⟩:=b1;have b5:l ≠ x:=λ z=>by rw [z,ar] at aq;cases aq
  have a3:(upd H1 x (HO.ins t.a_UH dx (fF "first" (V.int first) (fF "room" (V.int room) [])))) x=some (HO.ins t.a_UH dx (fF "first" (V.int first) (fF "room" (V.int room) []))):=af
  have a8:(upd H1 x (HO.ins t.a_UH dx (fF "first" (V.int first) (fF "room" (V.int room) [])))) l=some (.lst ys):=by rw [ae b5];exact aq
  have a9:Al (λ a y=>axP a y (upd H1 x (HO.ins t.a_UH dx (fF "first" (V.int first) (fF "room" (V.int room) []))))) axs ys:=(my a7).imp λ a y ⟨q,hy,hq⟩=>⟨q,hy,by rw [ae (λ z=>by rw [z,ar] at hq;cases hq)];exact hq⟩;have b2:∀ H0,Ext H0 H->H0 x=none->Ext H0 (upd H1 x (HO.ins t.a_UH dx (fF "first" (V.int first) (fF "room" (V.int room) [])))):=λ H0 q0 q1=>(q0.trans e1).put q1
  have b3:∀ b,b ≠ x->(upd H1 x (HO.ins t.a_UH dx (fF "first" (V.int first) (fF "room" (V.int room) [])))) b=none->H b=none:=λ b hb q=>by rw [ae hb] at q;exact e1.free q
  generalize upd H1 x (HO.ins t.a_UH dx (fF "first" (V.int first) (fF "room" (V.int room) [])))=H2 at a3 a8 a9 b2 b3;clear aq a7 ar;ac_rfl;have wk:=jV (K:=K) (R:=axP) (λ _ _ _ _ h e=>h.ext e) a8 a9;refine uX axs (λ _=>true) axP (λ D a y H'=>∃ q,y=.ref q/\q ≠ D/\H' q=some (.tup [.int (ba a).1,.int (ba a).2])) wk.1 wk.2 (λ D _ y H1 H2 ⟨q,h1,h2,h3⟩ e=>⟨q,h1,h2,e.at h3⟩) (λ D _ y H1 o ⟨q,h1,h2,h3⟩=>⟨q,h1,h2,by rw [ae h2];exact h3⟩) (az (by have:=vok.ax.1;omega)) ?_ ?_
  ·intro D a y H' N1 N0 ha hD e ⟨cm,bb⟩ ⟨q,hy,hq⟩ k1 _;subst hy;have b6:=k1 rfl;clear k1 k;simp! only [↓aN,↓aU];rw [DJ];exact⟨a,hq,λ r b7 bp e' h'=>b6 _ b7 e' ⟨r,rfl,(λ z=>by rw [z,bb] at bp;cases bp),h'⟩⟩
  ·intro D zs H3 hD e3 cc a4;rw [rH] at a4;have cf:=e3.at a3;have bt:D ≠ x:=λ z=>by rw [z,a3] at hD;cases hD
   clear wk;ac_rfl;refine⟨(show (2:Nat) < 1000 by decide),?_⟩
   have tt:aH (upd H3 x (HO.ins t.a_UH dx (cO room first D))) D (axL (axs.map ba)):=by
    refine⟨zs,by rw [ae bt];exact cc,?_,λ i z y hz hy=>?_⟩
    ·rw [a4.1];unfold axL;rw [length_map,length_map]
    ·unfold axL at hz;rw [map_map,getElem?_map] at hz;obtain⟨a,ha,rfl⟩:=Option.map_eq_some_iff.mp hz;obtain⟨q,cg,_,a5⟩:=a4.2 i a y ha hy;exact⟨q,cg,by rw [ae (λ z=>by rw [z,cf] at a5;cases a5)];exact a5⟩
   have b4:∀ H0,Ext H0 H->H0 x=none->Ext H0 (upd H3 x (HO.ins t.a_UH dx (cO room first D))):=λ H0 q0 q1=>((b2 H0 q0 q1).trans e3).put q1;have a6:(upd H3 x (HO.ins t.a_UH dx (cO room first D))) x=some (HO.ins t.a_UH dx (cO room first D)):=af
   have f1:=vn room first D (m := "least") nofun
   have f2:=vn room first D (m := "greatest") nofun
   refine⟨f1,?_⟩
   show nr t.a_UH [V.ref x] (upd H3 x (HO.ins t.a_UH dx (cO room first D))) _ _
   generalize upd H3 x (HO.ins t.a_UH dx (cO room first D))=H4 at tt b4 a6
   have vo:av t.a_UH H4 x room first (axs.map ba):=⟨dx,D,a6,tt⟩
   rw [A4];refine⟨room,first,axs.map ba,vo,vok.ax.kept,λ H5 e5=>?_⟩
   have cn:¬ first+bj (axs.map ba) < 0:=by have:=vok.lo;omega
   have ck:=e5.at a6;ac_rfl;rw [rn];refine⟨room,first,axs.map ba,vo.ext e5,vok.ax.kept,λ H6 e6=>?_⟩
   have cp:¬ room<=first+br (axs.map ba):=by have:=vok.hi;omega
   have k':=k H6 D (λ H0 q0 q1=>((b4 H0 q0 q1).trans e5).trans e6) (b3 D bt hD) (e6.at ck) ((tt.ext e5).ext e6);clear k;ac_rfl
def mB(cs:List Int)(a:Int × Int)(i:Nat)(c:Int)(h:cs[i]? = some c):b8 (cs.take (i+1)) a=b8 (cs.take i) a++(List.range a.1.toNat).map λ (n:Nat)=>c+(n:Int) * a.2:=by
 unfold b8;rw [take_add_one,h,List.flatMap_append];simp
abbrev lq  (p:Addr) (z:Int) (pc:Int) (H:Hp) (Q:VK) (E:XK):Prop:=∃ cs:List Int,H p=%[cs|46]/\1<=z/\cs.length * z.toNat<=4096/\z<=1000000000/\∀ (r:Addr) (H':Hp),H r=none->Ext H H'->H' r=some (.lst ((b8 cs (z,pc)).map V.int))->Q (.ref r) H'
def ko  : Sp:=λ vs H Q E=>∃ (p:Addr) (z:Int) (pc:Int),vs=[.ref p,.int z,.int pc]/\(lq  p z pc H Q E)
def tU  (p:Addr) (z:Int) (pc:Int) (H:Hp) (Q:VK) (E:XK):ko  [.ref p,.int z,.int pc] H Q E=(lq  p z pc H Q E):=wX (f:=λ (p:Addr) (z:Int) (pc:Int)=>[.ref p,.int z,.int pc]) (λ _ _ _ _ _ _ h=>by cases h;exact⟨rfl,rfl,rfl⟩) p z pc
def mE(T:Tx K mg t):%[1,Uu|49] ["cells", "size", "pace"] ko:=by
 refine T.F_Uu.ok kM (λ _ _ _ _ h=>wY h λ _ _ _=>rfl) %[0|50]
 ·obtain⟨p,z,pc,rfl,cs,hp,hz,a5,a6,k⟩:=h;refine⟨_,%[%[3,kM,%[(@cq _)|13]|4],%[%[Qu,rfl,%[%[0|0]|18],%[(4),_,kM.nd,rfl,(Or.inr rfl),%[0|7]|21],%[%[%[QJ,Rv,Ru,fS,%[3|0],%[%[(%[|128]),(1),(aV (aa iI) ["cells", "size", "pace", "found", "cell"] rfl rfl nofun),rfl,%[∅,T.z_range,%[%[1|0]|1],∅|35],(λ _ _ _ _ _=>%[(0),%[|128]|51]),(λ _ _ _ _ _=>(@bo _)),(λ _ _ _ _ _=>%[bF,%[5|0],%[gR,%[0|0],%[3|0]|11]|11]),(by intros;rfl)|29]|1],∅,∅,∅,∅,∅|33],∅|15]|9],(by intros;rfl)|19],%[%[%[3|0]|12]|9]|10]|10],?_⟩;rw [%[["cells", "size", "pace", "found", "cell"],[.ref p,.int z,.int pc],2|53]];ac_rfl;intro r H1 aq e1 h1;have a7:=e1.at hp;ac_rfl;refine aR (xs:=cs.map V.int) (λ i σ H'=>∃ v4:Option V,σ=[%[p|45],%[z|47],%[pc|47],%[r|45],v4]/\Ext H H'/\H' r=some (.lst ((b8 (cs.take i) (z,pc)).map V.int))) ⟨none,rfl,e1,h1⟩ (λ i σ H' _ ⟨_,_,e,_⟩=>e.at hp) ?_ ?_
  ·rintro i x _ H2 hi ⟨v4,rfl,e2,h2⟩;rw [Qq] at hi;obtain⟨c,hc,rfl⟩:=Qj.mp hi;have a8:i < cs.length:=(Qh.mp hc).1
   have a9:z.toNat<=4096:=by
    have:=Sv z.toNat (show 1<=cs.length by omega);omega
   have bb:(b8 (cs.take i) (z,pc)).length+z.toNat<=4096:=by
    rw [km,Rc,show ((z,pc):Int × Int).1=z from rfl];have:(min i cs.length+1) * z.toNat<=cs.length * z.toNat:=Sv _ %[0|8];rw [Nat.add_mul,Nat.one_mul] at this;omega
   simp! only [↓aw];refine⟨by omega,by omega,?_⟩;refine bK (List.range z.toNat) (λ _=>true) (λ j=>.int (c+(j:Int) * pc)) (λ j x H'=>x=.int (0+(j:Nat))) jo.1 jo.2 (az (by rw [Q8];omega)) ?_ ?_
   ·intro D j x H' N1 N0 hj hD e hx k1 _;subst hx;have bp:=Q1.mp hj;have bt:=k1 rfl H' (Ext.refl _);have b1:rJ (j:Int) pc:=.inl %[0|8];have e0:(0:Int)+(j:Int)=(j:Int):=Tp _;clear k1 k hj;simp! only [↓aN,↓aU]
   ·intro D H3 hD e3 ar;have a3:H3 D=some (.lst (((List.range z.toNat).map λ (j:Nat)=>c+(j:Int) * pc).map V.int)):=by rw [ar,rH,RQ];rfl
    have a4:=e3.at h2;have hle:(b8 (cs.take i) (z,pc)).length+(List.range z.toNat).length<=sizeLine:=az (by rw [Q8];omega);clear ar hi;ac_rfl;refine⟨_,rfl,(e2.trans e3).put aq,?_⟩;rw [mB cs (z,pc) i c hc,Rl]
  ·rintro _ H2 ⟨v4,rfl,e2,h2⟩;ac_rfl;rw [Qk,QD] at h2;exact k r H2 aq e2 h2
abbrev qH(C cT:Addr)(v:Addr)(H:Hp)(Q:VK)(E:XK):Prop:=∃ (room first:Int) (axs:%[0|48]),av C H v room first axs/\dD axs/\(aj (axs.map λ a=>a.1)<=4096->∀ (r:Addr) (H':Hp),H r=none->Ext H H'->H' r=some (.lst ((ai first axs).map V.int))->Q (.ref r) H')/\¬ 4096 < aj (axs.map λ a=>a.1)
def sy(C cT:Addr):Sp:=λ vs H Q E=>∃ (v:Addr),vs=[.ref v]/\(qH C cT v H Q E)
def iM(C cT:Addr)(v:Addr)(H:Hp)(Q:VK)(E:XK):sy C cT [.ref v] H Q E=(qH C cT v H Q E):=jB (f:=λ (v:Addr)=>[.ref v]) (λ _ _ h=>by cases h;exact rfl) v
def cR(T:Tx K mg t):%[4,Ai|49] %[|108] (sy t.a_UH t.a_Uz):=by
 have G_Ah:=%[bq|43];have G_wt:=%[eA|43];have G_Uu:=%[mE|43];refine T.F_Ai.ok aT (λ _ _ _ _ h=>iW h λ _=>rfl) %[0|50]
 ·obtain⟨v,rfl,room,first,axs,vo,ar,kQ,kE⟩:=h;obtain⟨dx,l,hv,ys,hl,al⟩:=vo.ob;have c1:=T.qA1;have c2:=T.qBn;have c3:=T.qBl
  have f1:=df room first l
  have f2:=cU room first l
  have f3:=vn room first l (m := "count") nofun
  refine⟨_,%[%[%[wt,%[%[%[0|0],T.qA1,T.qAk,G_Ah,(hr.mono ⋯),T.b_Ah,.nil,aC,∅|24]|1]|3],∅|15],%[%[1,aT,%[%[%[%[0|0],rfl|16]|1]|13]|4],%[%[Qu,rfl,%[%[%[0|0],rfl|16]|18],(%[(2),rfl,%[%[2,aT|5],%[%[3,aT|5],(@aO _),∅|17],∅|17],∅,∅|25].mono λ _ _ _ _ h=>bR h),%[%[1,aT,%[Uu,%[%[1|0],%[%[2|0],%[%[3|0]|1]|1]|1]|3]|4]|9],(by intros;rfl)|19],%[%[%[1|0]|12]|9]|10]|10]|10],?_⟩;rw [%[["self", "found", "size", "pace"],[.ref v],3|53]];clear G_Ah G_wt G_Uu;ac_rfl;rw [cw];refine⟨room,first,axs,vo,ar,λ H1 e1=>?_⟩;have a4:=e1.at hv;have a5:=e1.at hl;ac_rfl;rw [oy];refine⟨λ hc=>?_,kE⟩;have a6:=kQ hc;clear kQ kE;ac_rfl;intro r H2 a7 e2 h2;have bt:=e2.at a4;have b1:=e2.at a5;ac_rfl;have aq:∀ a∈axs,(1:Int)<=a.1:=λ a ha=>(ar.2 a ha).1;refine aR (xs:=ys) (λ i σ H'=>∃ (r:Addr) (v2 v3:Option V),σ=[%[v|45],%[r|45],v2,v3]/\Ext H H'/\H r=none/\H' r=some (.lst ((ai first (axs.take i)).map V.int))) ⟨r,none,none,rfl,e1.trans e2,e1.free a7,h2⟩ (λ i σ H' _ ⟨_,_,_,_,e,_,_⟩=>e.at hl) ?_ ?_
  ·rintro i y _ H3 hi ⟨r3,v2,v3,rfl,e3,a3,h3⟩;obtain⟨a,q,ha,rfl,hq⟩:=E6 al hi;have b2:=e3.at hq;have hm:=ar.2 a (Qr ha);simp! only [↓aw];rw [tU];refine⟨_,h3,hm.1,?_,hm.2,λ r4 H4 a8 e4 h4=>?_⟩
   ·have a9:=aB first (axs.take i) λ b hb=>aq b (RV hb)
    have hp:=iN (axs.map λ a=>a.1) (λ n hn=>by obtain⟨b,hb,rfl⟩:=QN.mp hn;exact aq b hb) (i+1);rw [gB _ i a.1 (by rw [Qq,ha];rfl),←List.map_take,←a9] at hp;have bb:((a.1.toNat:Nat):Int)=a.1:=R7 %[0|8]
    have:(((ai first (axs.take i)).length * a.1.toNat:Nat):Int)<=4096:=by rw [TB,bb];omega
    omega
   ·ac_rfl;refine⟨r4,_,_,rfl,e3.trans e4,e3.free a8,?_⟩;rw [h4,QQ,ha]
    show _=some (HO.lst (List.map V.int (ai first (axs.take i++[a]))))
    rw [k9]
  ·rintro _ H3 ⟨r3,v2,v3,rfl,e3,a3,h3⟩;have bp:ys.length=axs.length:=by rw [al.1];unfold axL;rw [length_map]
   rw [bp,QD] at h3;ac_rfl;exact a6 r3 H3 a3 e3 h3
def ml(l:Addr):List (Str × V):=fF "floor" (V.ref l) []
def bD(l:Addr):(ml l).lookup ("floor":Str)=%[l|45]:=by
 unfold ml;rw [aI,if_pos rfl]
def aD(l:Addr){m:Str}(h:m∈([("all_values":Str), "refuse_room", "read", "put", "copied", "fill"]:List Str)):(ml l).lookup m=none:=by
 have:¬ m = "floor":=by
  revert m
  decide +kernel
 unfold ml;rw [aI,if_neg this];rfl
structure ay(C:Addr)(H:Hp)(s l:Addr)(vals:List Int):Prop where
 ob:∃ dx,H s=some (.ins C dx (ml l))
 fl:H l=%[vals|46]
def ay.ext{C:Addr}{H H':Hp}{s l:Addr}{vals:List Int}(h:ay C H s l vals)(e:Ext H H'):ay C H' s l vals:=by
 obtain⟨dx,h1⟩:=h.ob;exact⟨⟨dx,e.at h1⟩,e.at h.fl⟩
abbrev qq(C:Addr)(x:Addr)(p:Addr)(H:Hp)(Q:VK)(E:XK):Prop:=∃ (dx:Addr) (vals:List Int),H x=some (.ins C dx [])/\H p=%[vals|46]/\1<=vals.length/\vals.length<=4096/\∀ (H':Hp) (l:Addr),(∀ H0,Ext H0 H->H0 x=none->Ext H0 H')->H l=none->H' x=some (.ins C dx (ml l))->H' l=%[vals|46]->Q .non H'
def rS(C:Addr):Sp:=λ vs H Q E=>∃ (x:Addr) (p:Addr),vs=[.ref x,.ref p]/\(qq C x p H Q E)
def fV(C:Addr)(x:Addr)(p:Addr)(H:Hp)(Q:VK)(E:XK):rS C [.ref x,.ref p] H Q E=(qq C x p H Q E):=lN (f:=λ (x:Addr) (p:Addr)=>[.ref x,.ref p]) (λ _ _ _ _ h=>by cases h;exact⟨rfl,rfl⟩) x p
def eV(T:Tx K mg t):%[4,rg|49] ["self", "values"] (rS t.a_UE):=by
 have G_wt:=%[eA|43];refine T.F_rg.ok jI (λ _ _ _ _ h=>lO h λ _ _=>rfl) %[0|50]
 ·obtain⟨x,p,rfl,dx,vals,hx,hp,ar,a3,k⟩:=h;have c1:=T.qA0;have c2:=T.qA9;refine⟨_,%[%[%[(cM hr.units),%[len,bh,%[%[1|0]|1]|6],%[0|2],(aG _)|20],%[(@dG _ _)|9],(@aF _)|23],%[%[%[wt,%[%[len,bh,%[%[1|0]|1]|6]|1]|3],∅|15],%[%[%[0|0],%[aY,∅,T.z_list,nofun,%[%[1|0]|1],⋯,⋯,∅,∅|30],rfl|31]|9]|10]|10],?_⟩;rw [%[["self", "values"],[.ref x,.ref p],0|53]];clear G_wt;have a4:¬ ((vals.length:Int)=0):=by omega
  ac_rfl;rw [oy];refine⟨λ _=>?_,λ h=>absurd h %[0|8]⟩;ac_rfl;intro l H1 hl e1 h1;have a5:=e1.at hx;have aq:l ≠ x:=λ z=>by rw [z,hx] at hl;cases hl
  ac_rfl;exact k _ l (λ H0 q0 q1=>(q0.trans e1).put q1) hl af (by rw [ae aq];exact h1)
def xU(C:Addr):Sp:=λ vs H Q E=>∃ (s:Addr),vs=[.ref s]/\(∃ (l:Addr) (vals:List Int),ay C H s l vals/\vals.length<=4096/\∀ (r:Addr) (H':Hp),H r=none->Ext H H'->H' r=%[vals|46]->Q (.ref r) H')
def fe(C:Addr)(s:Addr)(H:Hp)(Q:VK)(E:XK):xU C [.ref s] H Q E=(∃ (l:Addr) (vals:List Int),ay C H s l vals/\vals.length<=4096/\∀ (r:Addr) (H':Hp),H r=none->Ext H H'->H' r=%[vals|46]->Q (.ref r) H'):=jB (f:=λ (s:Addr)=>[.ref s]) (λ _ _ h=>by cases h;exact rfl) s
def dq(T:Tx K mg t):%[1,pI|49] %[|108] (xU t.a_UE):=by
 refine T.F_pI.ok iU (λ _ _ _ _ h=>iW h λ _=>rfl) (λ c A o s' H vs Q E hr h=>?_)
 ·obtain⟨s,rfl,l,vals,so,ar,k⟩:=h;obtain⟨dx,hs⟩:=so.ob;have a3:=so.fl;have c1:=T.qA0;have c2:=T.qA9;have f1:=bD l;refine⟨_,%[%[%[aY,∅,T.z_list,nofun,%[%[%[0|0],rfl|16]|1],⋯,⋯,∅,∅|30]|12]|9],?_⟩;rw [%[%[|108],[.ref s],0|53]];ac_rfl;intro r H1 aq e1 h1;exact k r H1 aq e1 h1
abbrev u6(CS CV:Addr)(s:Addr)(v:Addr)(H:Hp)(Q:VK)(E:XK):Prop:=∃ (l:Addr) (vals:List Int) (room first:Int) (axs:%[0|48]),ay CS H s l vals/\av CV H v room first axs/\room=vals.length/\Q .non H
def xJ(CS CV:Addr):Sp:=λ vs H Q E=>∃ (s:Addr) (v:Addr),vs=[.ref s,.ref v]/\(u6 CS CV s v H Q E)
def iF(CS CV:Addr)(s:Addr)(v:Addr)(H:Hp)(Q:VK)(E:XK):xJ CS CV [.ref s,.ref v] H Q E=(u6 CS CV s v H Q E):=lN (f:=λ (s:Addr) (v:Addr)=>[.ref s,.ref v]) (λ _ _ _ _ h=>by cases h;exact⟨rfl,rfl⟩) s v
def bc(T:Tx K mg t):%[1,nB|49] %[|120] (xJ t.a_UE t.a_UH):=by
 refine T.F_nB.ok dC (λ _ _ _ _ h=>lO h λ _ _=>rfl) (λ c A o s' H vs Q E hr h=>?_)
 ·obtain⟨s,v,rfl,l,vals,room,first,axs,so,vo,aq,k⟩:=h;obtain⟨dx,hs⟩:=so.ob;obtain⟨dy,D,hv,_⟩:=vo.ob;have ar:=so.fl;have c1:=T.qA0;have c2:=T.qA9;have c3:=T.qA1;have c4:=T.qBr;have f1:=bD l
  have f2:=bS room first D
  refine⟨_,%[%[%[(iB hr.units),%[%[1|0],rfl|16],%[len,bh,%[%[%[0|0],rfl|16]|1]|6],(aG _)|20],%[(@dG _ _)|9],(@aF _)|23]|9],?_⟩;rw [%[%[|120],[.ref s,.ref v],0|53]];subst aq;ac_rfl
def nV(CV:Addr):Sp:=λ vs H Q E=>∃ (v:Addr) (n:Int),vs=[.ref v,.int n]/\(∃ (room first:Int) (axs:%[0|48]),av CV H v room first axs/\dD axs/\n=aj (axs.map λ a=>a.1)/\∀ H',Ext H H'->Q .non H')
def jj(CV:Addr)(v:Addr)(n:Int)(H:Hp)(Q:VK)(E:XK):nV CV [.ref v,.int n] H Q E=(∃ (room first:Int) (axs:%[0|48]),av CV H v room first axs/\dD axs/\n=aj (axs.map λ a=>a.1)/\∀ H',Ext H H'->Q .non H'):=lN (f:=λ (v:Addr) (n:Int)=>[.ref v,.int n]) (λ _ _ _ _ h=>by cases h;exact⟨rfl,rfl⟩) v n
def dm(T:Tx K mg t):%[3,we|49] ["view", "many"] (nV t.a_UH):=by
 have G_Ah:=%[bq|43];refine T.F_we.ok me (λ _ _ _ _ h=>lO h λ _ _=>rfl) (λ c A o s' H vs Q E hr h=>?_)
 ·obtain⟨v,n,rfl,room,first,axs,vo,aq,hn,k⟩:=h;obtain⟨dy,D,hv,_⟩:=vo.ob
  have f3:=vn room first D (m := "count") nofun
  have c3:=T.qA1;refine⟨_,%[%[%[(iB hr.units),%[%[0|0],T.qA1,T.qAk,G_Ah,(hr.mono ⋯),T.b_Ah,.nil,aC,∅|24],%[1|0],(aG _)|20],%[(@dG _ _)|9],(@aF _)|23]|9],?_⟩;rw [%[["view", "many"],[.ref v,.int n],0|53]];clear G_Ah;subst hn;ac_rfl;rw [cw];refine⟨room,first,axs,vo,aq,λ H1 e1=>?_⟩;have k1:=k H1 e1;clear k;ac_rfl
def IP{vals:List Int}{c:Int}(h0:0<=c)(h1:c < vals.length):atI (vals.map V.int) c=some (.int (vals.getD c.toNat 0)):=by
 obtain⟨n,rfl⟩:=Int.eq_ofNat_of_zero_le h0;have hn:n < vals.length:=by omega
 refine bL ?_;rw [Qq,Qf hn];simp [List.getD,Qf hn]
def ni{n:Nat}{c:Int}(h0:0<=c)(h1:c < n):ixN n c=some c.toNat:=by
 unfold ixN;rw [if_pos h0,if_pos %[0|8]]
def nL(cs:List Int):Al (λ (z:Int) (y:V)=>y=.int z) cs (cs.map V.int):=by
 refine⟨by rw [Qk],λ i z y hz hy=>?_⟩;rw [Qq,hz] at hy;cases hy;rfl
def bx(cs:List Int)(n:Nat):Prop:=∀ c∈cs,0<=c/\c < (n:Int)
def aQ(vals cs:List Int):List Int:=cs.map λ c=>vals.getD c.toNat 0
def gU(vals cs ws:List Int):List Int:=(cs.zip ws).foldl (λ vs p=>vs.set p.1.toNat p.2) vals
abbrev u9(CS CV:Addr)(s:Addr)(v:Addr)(H:Hp)(Q:VK)(E:XK):Prop:=∃ (l:Addr) (vals:List Int) (room first:Int) (axs:%[0|48]),ay CS H s l vals/\av CV H v room first axs/\dD axs/\room=vals.length/\aj (axs.map λ a=>a.1)<=4096/\bx (ai first axs) vals.length/\∀ (r:Addr) (H':Hp),H r=none->Ext H H'->H' r=some (.lst ((aQ vals (ai first axs)).map V.int))->Q (.ref r) H'
def xM(CS CV:Addr):Sp:=λ vs H Q E=>∃ (s:Addr) (v:Addr),vs=[.ref s,.ref v]/\(u9 CS CV s v H Q E)
def iG(CS CV:Addr)(s:Addr)(v:Addr)(H:Hp)(Q:VK)(E:XK):xM CS CV [.ref s,.ref v] H Q E=(u9 CS CV s v H Q E):=lN (f:=λ (s:Addr) (v:Addr)=>[.ref s,.ref v]) (λ _ _ _ _ h=>by cases h;exact⟨rfl,rfl⟩) s v
def fy(T:Tx K mg t):%[5,Ak|49] %[|120] (xM t.a_UE t.a_UH):=by
 have G_nB:=%[bc|43];have G_Ai:=%[cR|43];refine T.F_Ak.ok rE (λ _ _ _ _ h=>lO h λ _ _=>rfl) (λ c A o s' H vs Q E hr h=>?_)
 ·obtain⟨s,v,rfl,l,vals,room,first,axs,so,vo,a3,ar,bp,aq,k⟩:=h;subst ar;obtain⟨dx,hs⟩:=so.ob;obtain⟨dy,D,hv,_⟩:=vo.ob;have a5:=so.fl;have c1:=T.qA0;have c2:=T.qA9;have c3:=T.qA1;have f1:=bD l;have f2:=aD l (m := "refuse_room") nofun
  have f3:=vn (vals.length:Int) first D (m := "cells") nofun
  refine⟨_,%[%[%[%[0|0],T.qA0,T.qA7,G_nB,(hr.mono ⋯),T.b_nB,.nil,aC,%[%[1|0]|1],∅,∅,∅|27],∅|15],%[%[%[(["cell", "self", "view"]),(1),(aV (aa dQ) %[|120] rfl rfl nofun),rfl,%[%[%[1|0],T.qA1,T.qBo,G_Ai,(hr.mono ⋯),T.b_Ai,.nil,aC,∅|24]|18],(λ _ _ _ _ _=>%[(0),["cell", "self", "view"]|51]),(λ _ _ _ _ _=>(@bo _)),(λ _ _ _ _ _=>%[cW,(@Cc _ _ _ _ _ (K) rfl %[1|0] rfl),%[0|0],(λ _ _=>rfl)|14]),(by intros;rfl)|29]|12]|9]|10],?_⟩;rw [%[%[|120],[.ref s,.ref v],0|53]];clear G_nB G_Ai;ac_rfl;rw [iF];refine⟨l,vals,_,first,axs,so,vo,rfl,?_⟩;ac_rfl;rw [iM];refine⟨_,first,axs,vo,a3,λ _ r1 H1 bt e1 h1=>?_,λ h=>absurd h %[0|8]⟩
  have a6:=aB first axs λ a ha=>(a3.2 a ha).1
  have a7:=e1.at hs;have a4:=e1.at a5;unfold aQ at k
  generalize ai first axs=cs at h1 aq k a6
  have a9:cs.length<=4096:=by omega
  ac_rfl;have wk:=jV (K:=K) (R:=λ (z:Int) y _=>y=.int z) (λ _ _ _ _ h _=>h) h1 (nL cs);refine bK cs (λ _=>true) (λ c=>.int (vals.getD c.toNat 0)) (λ z y _=>y=.int z) wk.1 wk.2 (az %[0|8]) ?_ ?_
  ·intro D2 c y H' N1 N0 hc hD e hy k1 _;subst hy;have b1:=IP (aq c hc).1 (aq c hc).2;have b2:=k1 rfl H' (Ext.refl _);have b3:=e.at a7;have bb:=e.at a4;clear k1 k aq hc;simp! only [↓aN,↓aU]
  ·intro D2 H2 a8 e2 h2;rw [rH] at h2;have k2:=k D2 H2 (e1.free a8) (e1.trans e2) (by rw [h2,RQ];rfl);clear k aq;ac_rfl
def fR{vals cs ws:List Int}{i:Nat}{c z:Int}(hc:cs[i]? = some c)(hw:ws[i]? = some z):gU vals (cs.take (i+1)) (ws.take (i+1))=(gU vals (cs.take i) (ws.take i)).set c.toNat z:=by
 unfold gU
 have e1:(cs.take (i+1)).zip (ws.take (i+1))=(cs.take i).zip (ws.take i)++[(c,z)]:=by
  rw [QQ,QQ,hc,hw,List.zip_append (by
   have h1:=(Qh.mp hc).1;have h2:=(Qh.mp hw).1;rw [Rc,Rc];omega)]
  rfl
 rw [e1,Sk];rfl
def B1(vals:List Int):∀ (ps:%[0|48]),(ps.foldl (λ vs p=>vs.set p.1.toNat p.2) vals).length=vals.length:=by
 intro ps
 induction ps generalizing vals with
 | nil=>rfl
 | cons p ps ih=>rw [RK,ih,SF]
def bM(vals cs ws:List Int):(gU vals cs ws).length=vals.length:=B1 vals _
def fb(xs:List Int)(j:Nat)(z:Int):(xs.map V.int).set j (.int z)=(xs.set j z).map V.int:=by
 rw [List.map_set]
def EE(CS CV:Addr):Sp:=λ vs H Q E=>∃ (s:Addr) (v:Addr) (p:Addr),vs=[.ref s,.ref v,.ref p]/\(∃ (l:Addr) (vals:List Int) (room first:Int) (axs:%[0|48]) (ws:List Int),ay CS H s l vals/\av CV H v room first axs/\dD axs/\room=vals.length/\vals.length<=4096/\aj (axs.map λ a=>a.1)<=4096/\bx (ai first axs) vals.length/\H p=%[ws|46]/\p ≠ l/\(ws.length:Int)=aj (axs.map λ a=>a.1)/\∀ H',(∀ H0,Ext H0 H->H0 l=none->Ext H0 H')->(∀ b o,b ≠ l->H b=some o->H' b=some o)->H' l=some (.lst ((gU vals (ai first axs) ws).map V.int))->Q .non H')
def nK(CS CV:Addr)(s:Addr)(v:Addr)(p:Addr)(H:Hp)(Q:VK)(E:XK):EE CS CV [.ref s,.ref v,.ref p] H Q E=(∃ (l:Addr) (vals:List Int) (room first:Int) (axs:%[0|48]) (ws:List Int),ay CS H s l vals/\av CV H v room first axs/\dD axs/\room=vals.length/\vals.length<=4096/\aj (axs.map λ a=>a.1)<=4096/\bx (ai first axs) vals.length/\H p=%[ws|46]/\p ≠ l/\(ws.length:Int)=aj (axs.map λ a=>a.1)/\∀ H',(∀ H0,Ext H0 H->H0 l=none->Ext H0 H')->(∀ b o,b ≠ l->H b=some o->H' b=some o)->H' l=some (.lst ((gU vals (ai first axs) ws).map V.int))->Q .non H'):=wX (f:=λ (s:Addr) (v:Addr) (p:Addr)=>[.ref s,.ref v,.ref p]) (λ _ _ _ _ _ _ h=>by cases h;exact⟨rfl,rfl,rfl⟩) s v p
def gr(T:Tx K mg t):%[5,Ay|49] ["self", "view", "values"] (EE t.a_UE t.a_UH):=by
 have G_nB:=%[bc|43];have G_we:=%[dm|43];have G_Ai:=%[cR|43];refine T.F_Ay.ok iq (λ _ _ _ _ h=>wY h λ _ _ _=>rfl) (λ c A o s' H vs Q E hr h=>?_)
 ·obtain⟨s,v,p,rfl,l,vals,room,first,axs,ws,so,vo,a4,a5,cf,cg,a6,hp,b4,b5,k⟩:=h;subst a5;obtain⟨dx,hs⟩:=so.ob;obtain⟨dy,D,hv,_⟩:=vo.ob;have bb:=so.fl;have c1:=T.qA0;have c2:=T.qA9;have c3:=T.qA1;have f1:=bD l;have f2:=aD l (m := "refuse_room") nofun
  have f3:=vn (vals.length:Int) first D (m := "cells") nofun
  refine⟨_,%[%[%[%[0|0],T.qA0,T.qA7,G_nB,(hr.mono ⋯),T.b_nB,.nil,aC,%[%[1|0]|1],∅,∅,∅|27],∅|15],%[%[%[we,%[%[1|0],%[%[len,bh,%[%[2|0]|1]|6]|1]|1]|3],∅|15],%[%[Qu,rfl,(@uh _ _ _ _ _ _ _ _ _ ∅ T.z_zip %[%[%[1|0],T.qA1,T.qBo,G_Ai,(hr.mono ⋯),T.b_Ai,.nil,aC,∅|24],%[%[2|0]|1]|1] ∅ ∅),(%[(2),rfl,%[%[3,iq|5],%[%[4,iq|5],(@aO _),∅|17],∅|17],∅,∅|25].mono λ _ _ _ _ h=>bR h),%[%[%[4|0],%[%[%[0|0],rfl|16],%[3|0],dF,(by intros;rfl)|37],∅,∅,∅|36]|9],(by intros;rfl)|19]|9]|10]|10],?_⟩;rw [%[["self", "view", "values", "cell", "value"],[.ref s,.ref v,.ref p],2|53]];clear G_nB G_we G_Ai;ac_rfl;rw [iF];refine⟨l,vals,_,first,axs,so,vo,rfl,?_⟩;ac_rfl;rw [jj];refine⟨_,first,axs,vo,a4,(by first|rfl|exact b5),λ H1 e1=>?_⟩;have ck:=e1.at hv;have b6:=e1.at hp;ac_rfl;rw [iM];refine⟨_,first,axs,vo.ext e1,a4,λ _ r2 H2 bp e2 h2=>?_,λ h=>absurd h %[0|8]⟩
  have b7:=aB first axs λ a ha=>(a4.2 a ha).1
  generalize ai first axs=cs at h2 a6 k b7
  have bt:cs.length=ws.length:=by omega
  have cc:=e2.at b6;have a7:=(e1.trans e2).at hs;have ar:=(e1.trans e2).at bb;have b1:r2 ≠ l:=λ z=>by rw [z,e1.at bb] at bp;cases bp
  ac_rfl;refine kl (ka:=false) (kb:=false) (xs:=cs.map V.int) (ys:=ws.map V.int) (λ i σ H'=>∃ v3 v4:Option V,σ=[%[s|45],%[v|45],%[p|45],v3,v4]/\(∀ H0,Ext H0 H2->H0 l=none->Ext H0 H')/\(∀ b o,b ≠ l->H2 b=some o->H' b=some o)/\H' l=some (.lst ((gU vals (cs.take i) (ws.take i)).map V.int))) ⟨none,none,rfl,λ _ q _=>q,λ _ _ _ q=>q,ar⟩ (λ i σ H' ⟨_,_,_,_,hk,_⟩=>⟨hk _ _ b1 h2,hk _ _ b4 cc⟩) ?_ ?_
  ·rintro i u x q _ H3 H4 hu hx ⟨v3,v4,rfl,a8,aq,h3⟩ hq e4 h4;rw [Qq] at hu hx;obtain⟨c,hc,rfl⟩:=Qj.mp hu;obtain⟨z,hz,rfl⟩:=Qj.mp hx;have b2:=a6 c (Qr hc);have cm:=e4.at (aq _ _ (λ z=>by rw [z,ar] at a7;cases a7) a7);have b3:=e4.at h3;have hlen:=bM vals (cs.take i) (ws.take i);have a3:=λ (_:Unit)=>fR (vals:=vals) hc hz;generalize gU vals (cs.take i) (ws.take i)=vv at h3 b3 hlen a3;have cn:ixN vv.length c=some c.toNat:=ni b2.1 (by rw [hlen];exact b2.2);clear hu hx hc hz k a6 hlen h3;simp! only [↓aw];refine⟨_,_,rfl,λ H0 q0 q1=>((a8 H0 q0 q1).trans e4).put q1,λ b o hb a9=>by rw [ae hb];exact e4.at (aq b o hb a9),?_⟩;rw [a3 (),←fb]
  ·rintro _ H3 ⟨v3,v4,rfl,a8,aq,h3⟩;have hm:min (cs.map V.int).length (ws.map V.int).length=cs.length:=by rw [Qk,Qk];omega
   rw [hm,QD,bt,QD] at h3;exact k H3 (λ H0 q0 q1=>a8 H0 (q0.trans (e1.trans e2)) q1) (λ b o hb a9=>aq b o hb ((e1.trans e2).at a9)) h3
def xE(x:V):Bool:=match x with
 | .int _=>false
 | _=>true
def tP(xs:List Int):(xs.map V.int).filter xE=[]:=by
 rw [List.filter_eq_nil_iff];intro a ha;obtain⟨i,_,rfl⟩:=QN.mp ha;simp [xE]
abbrev vd  (p:Addr) (q:Addr) (H:Hp) (Q:VK) (E:XK):Prop:=∃ ns:List Int,H p=%[ns|46]/\H q=%[ns|46]/\ns.length<=4096/\∀ H',Ext H H'->Q (.bl true) H'
def xO  : Sp:=λ vs H Q E=>∃ (p:Addr) (q:Addr),vs=[.ref p,.ref q]/\(vd  p q H Q E)
def jU  (p:Addr) (q:Addr) (H:Hp) (Q:VK) (E:XK):xO  [.ref p,.ref q] H Q E=(vd  p q H Q E):=lN (f:=λ (p:Addr) (q:Addr)=>[.ref p,.ref q]) (λ _ _ _ _ h=>by cases h;exact⟨rfl,rfl⟩) p q
def qP(T:Tx K mg t):%[2,CN|49] %[|129] xO:=by
 have G_Aq:=%[oF|43];refine T.F_CN.ok ua (λ _ _ _ _ h=>lO h λ _ _=>rfl) %[0|50]
 ·obtain⟨p,q,rfl,ns,hp,hq,hl,k⟩:=h;refine⟨_,%[%[%[%[isinstance,cY,%[%[0|0],%[(@fN _ _ (.ty "list") (.type "list") _ ∅ T.z_list nofun rfl ⋯ ⋯)|1]|1]|6],%[%[(cM hr.units),%[0|0],%[1|0],(aG _)|39],(@jZ _ _ _ _ _ %[(cM hr.units),%[(["_law_one", "_law_found", "_law_due"]),(1),(aV (aa ff) %[|129] rfl rfl nofun),rfl,%[%[0|0]|18],(λ _ _ _ _ _=>%[(0),["_law_one", "_law_found", "_law_due"]|51]),(λ _ _ _ _ _=>(@nu _ _ _ (@iA _ _ _ _ (@dZ _ _ _ %[Aq,%[%[0|0]|1]|3] (by intros;rfl))))),(λ _ _ _ _ _=>%[0|0]),(by intros;rfl)|29],%[(@cq _)|13],(aG _)|39])|32]|32]|12]|9],?_⟩;rw [%[%[|129],[.ref p,.ref q],0|53]];clear G_Aq;ac_rfl;have wk:=xD (K:=K) hp;refine bK (ns.map V.int) xE id (λ z x H'=>x=z/\H' p=%[ns|46]) wk.1 wk.2 (az (by rw [Qk];omega)) ?_ ?_
  ·intro D z x H' N1 N0 hz hD e ⟨hx,_⟩ k1 k0;subst hx;obtain⟨i,_,rfl⟩:=QN.mp hz;have a3:=k0 rfl H' (Ext.refl _);clear k1 k0 k;simp! only [↓aN,↓aU,↓fU]
  ·intro D H1 hD e1 h1;rw [tP] at h1;have aq:H1 D=some (.lst []):=h1;clear h1 wk;ac_rfl;intro q2 H2 a4 e2 h2;have ar:=e2.at aq;have k1:=k H2 (e1.trans e2);clear k aq;ac_rfl
def iX(vals cs:List Int)(z:Int):List Int:=cs.foldl (λ vs c=>vs.set c.toNat z) vals
def kK(z:Int):∀ (cs vals:List Int),(iX vals cs z).length=vals.length
 | [],vals=>rfl
 | c::cs,vals=>by
  show (iX (vals.set c.toNat z) cs z).length=_
  rw [kK z cs,SF]
def mI{vals cs:List Int}{z:Int}{i:Nat}{c:Int}(hc:cs[i]? = some c):iX vals (cs.take (i+1)) z=(iX vals (cs.take i) z).set c.toNat z:=by
 unfold iX;rw [take_add_one,hc,foldl_append];rfl
abbrev vf(CS CV:Addr)(s:Addr)(v:Addr)(z:Int)(H:Hp)(Q:VK)(E:XK):Prop:=∃ (l:Addr) (vals:List Int) (room first:Int) (axs:%[0|48]),ay CS H s l vals/\av CV H v room first axs/\dD axs/\room=vals.length/\vals.length<=4096/\aj (axs.map λ a=>a.1)<=4096/\bx (ai first axs) vals.length/\∀ H',(∀ H0,Ext H0 H->H0 l=none->Ext H0 H')->(∀ b o,b ≠ l->H b=some o->H' b=some o)->H' l=some (.lst ((iX vals (ai first axs) z).map V.int))->Q .non H'
def xQ(CS CV:Addr):Sp:=λ vs H Q E=>∃ (s:Addr) (v:Addr) (z:Int),vs=[.ref s,.ref v,.int z]/\(vf CS CV s v z H Q E)
def DK(CS CV:Addr)(s:Addr)(v:Addr)(z:Int)(H:Hp)(Q:VK)(E:XK):xQ CS CV [.ref s,.ref v,.int z] H Q E=(vf CS CV s v z H Q E):=wX (f:=λ (s:Addr) (v:Addr) (z:Int)=>[.ref s,.ref v,.int z]) (λ _ _ _ _ _ _ h=>by cases h;exact⟨rfl,rfl,rfl⟩) s v z
def oP(T:Tx K mg t):%[5,Am|49] ["self", "view", "value"] (xQ t.a_UE t.a_UH):=by
 have G_nB:=%[bc|43];have G_Ai:=%[cR|43];refine T.F_Am.ok dW (λ _ _ _ _ h=>wY h λ _ _ _=>rfl) (λ c A o s' H vs Q E hr h=>?_)
 ·obtain⟨s,v,z,rfl,l,vals,room,first,axs,so,vo,b1,a4,b2,b3,a5,k⟩:=h;subst a4;obtain⟨dx,hs⟩:=so.ob;obtain⟨dy,D,hv,_⟩:=vo.ob;have a9:=so.fl;have c1:=T.qA0;have c2:=T.qA9;have c3:=T.qA1;have f1:=bD l;have f2:=aD l (m := "refuse_room") nofun
  have f3:=vn (vals.length:Int) first D (m := "cells") nofun
  refine⟨_,%[%[%[%[0|0],T.qA0,T.qA7,G_nB,(hr.mono ⋯),T.b_nB,.nil,aC,%[%[1|0]|1],∅,∅,∅|27],∅|15],%[%[Qu,rfl,%[%[%[1|0],T.qA1,T.qBo,G_Ai,(hr.mono ⋯),T.b_Ai,.nil,aC,∅|24]|18],%[3,dW|5],%[%[%[2|0],%[%[%[0|0],rfl|16],%[3|0],dF,(by intros;rfl)|37],∅,∅,∅|36]|9],(by intros;rfl)|19]|9]|10],?_⟩;rw [%[["self", "view", "value", "cell"],[.ref s,.ref v,.int z],1|53]];clear G_nB G_Ai;ac_rfl;rw [iF];refine⟨l,vals,_,first,axs,so,vo,rfl,?_⟩;ac_rfl;rw [iM];refine⟨_,first,axs,vo,b1,λ _ r2 H2 bb e2 h2=>?_,λ h=>absurd h %[0|8]⟩
  generalize ai first axs=cs at h2 a5 k
  have a6:=e2.at hs;have ar:=e2.at a9;have bp:r2 ≠ l:=λ z=>by rw [z,a9] at bb;cases bb
  ac_rfl;refine aR (xs:=cs.map V.int) (λ i σ H'=>∃ v3:Option V,σ=[%[s|45],%[v|45],%[z|47],v3]/\(∀ H0,Ext H0 H2->H0 l=none->Ext H0 H')/\(∀ b o,b ≠ l->H2 b=some o->H' b=some o)/\H' l=some (.lst ((iX vals (cs.take i) z).map V.int))) ⟨none,rfl,λ _ q _=>q,λ _ _ _ q=>q,ar⟩ (λ i σ H' _ ⟨_,_,_,hk,_⟩=>hk _ _ bp h2) ?_ ?_
  ·rintro i x _ H3 hx ⟨v3,rfl,a7,aq,h3⟩;rw [Qq] at hx;obtain⟨c,hc,rfl⟩:=Qj.mp hx;have bt:=a5 c (Qr hc);have b4:=aq _ _ (λ z=>by rw [z,ar] at a6;cases a6) a6;have hlen:=kK z (cs.take i) vals;have a3:=λ (_:Unit)=>mI (vals:=vals) (z:=z) hc;generalize iX vals (cs.take i) z=vv at h3 hlen a3;have b5:ixN vv.length c=some c.toNat:=ni bt.1 (by rw [hlen];exact bt.2);clear hx hc k a5 hlen;simp! only [↓aw];refine⟨_,rfl,λ H0 q0 q1=>(a7 H0 q0 q1).put q1,λ b o hb a8=>by rw [ae hb];exact aq b o hb a8,?_⟩;rw [a3 (),←fb]
  ·rintro _ H3 ⟨v3,rfl,a7,aq,h3⟩;rw [Qk,QD] at h3;have k':=k H3 (λ H0 q0 q1=>a7 H0 (q0.trans e2) q1) (λ b o hb a8=>aq b o hb (e2.at a8)) h3;clear k;ac_rfl
abbrev m9(CS CV:Addr)(s:Addr)(v:Addr)(u:Addr)(H:Hp)(Q:VK)(E:XK):Prop:=∃ (l:Addr) (vals:List Int) (f1 f2:Int) (a1 a2:%[0|48]),ay CS H s l vals/\av CV H v vals.length f1 a1/\av CV H u vals.length f2 a2/\dD a1/\dD a2/\vals.length<=4096/\aj (a1.map λ a=>a.1)<=4096/\aj (a2.map λ a=>a.1)=aj (a1.map λ a=>a.1)/\bx (ai f1 a1) vals.length/\bx (ai f2 a2) vals.length/\∀ H',(∀ H0,Ext H0 H->H0 l=none->Ext H0 H')->(∀ b o,b ≠ l->H b=some o->H' b=some o)->H' l=some (.lst ((gU vals (ai f1 a1) (aQ vals (ai f2 a2))).map V.int))->Q .non H'
def nZ(CS CV:Addr):Sp:=λ vs H Q E=>∃ (s:Addr) (v:Addr) (u:Addr),vs=[.ref s,.ref v,.ref u]/\(m9 CS CV s v u H Q E)
def wL(CS CV:Addr)(s:Addr)(v:Addr)(u:Addr)(H:Hp)(Q:VK)(E:XK):nZ CS CV [.ref s,.ref v,.ref u] H Q E=(m9 CS CV s v u H Q E):=wX (f:=λ (s:Addr) (v:Addr) (u:Addr)=>[.ref s,.ref v,.ref u]) (λ _ _ _ _ _ _ h=>by cases h;exact⟨rfl,rfl,rfl⟩) s v u
def lE(T:Tx K mg t):%[6,wg|49] %[|116] (nZ t.a_UE t.a_UH):=by
 have G_nB:=%[bc|43];have G_we:=%[dm|43];have G_Ah:=%[bq|43];have G_Ak:=%[fy|43];have G_Ay:=%[gr|43];refine T.F_wg.ok mf (λ _ _ _ _ h=>wY h λ _ _ _=>rfl) (λ c A o s' H vs Q E hr h=>?_)
 ·obtain⟨s,v,u,rfl,l,vals,f1,f2,a1,a2,so,vo,wo,a5,a4,a8,a6,ar,a9,bb,k⟩:=h;obtain⟨dx,hs⟩:=so.ob;obtain⟨dy,D,hv,_⟩:=vo.ob;obtain⟨dz,D2,hu,_⟩:=wo.ob;have bp:=so.fl;have c1:=T.qA0;have c3:=T.qA1;have g1:=aD l (m := "refuse_room") nofun;have g2:=aD l (m := "read") nofun;have g3:=aD l (m := "put") nofun;have g4:=vn (vals.length:Int) f2 D2 (m := "count") nofun;refine⟨_,%[%[%[%[0|0],T.qA0,T.qA7,G_nB,(hr.mono ⋯),T.b_nB,.nil,aC,%[%[1|0]|1],∅,∅,∅|27],∅|15],%[%[%[%[0|0],T.qA0,T.qA7,G_nB,(hr.mono ⋯),T.b_nB,.nil,aC,%[%[2|0]|1],∅,∅,∅|27],∅|15],%[%[%[we,%[%[1|0],%[%[%[2|0],T.qA1,T.qAk,G_Ah,(hr.mono ⋯),T.b_Ah,.nil,aC,∅|24]|1]|1]|3],∅|15],%[%[%[%[0|0],T.qA0,T.qC3,G_Ay,(hr.mono ⋯),T.b_Ay,.nil,aC,%[%[1|0],%[%[%[0|0],T.qA0,T.qBp,G_Ak,(hr.mono ⋯),T.b_Ak,.nil,aC,%[%[2|0]|1],∅,∅,∅|27]|1]|1],∅,∅,∅|27],∅|15]|9]|10]|10]|10],?_⟩;rw [%[%[|116],[.ref s,.ref v,.ref u],0|53]];clear G_nB G_we G_Ah G_Ak G_Ay;ac_rfl;rw [iF];refine⟨l,vals,_,f1,a1,so,vo,rfl,?_⟩;ac_rfl;rw [iF];refine⟨l,vals,_,f2,a2,so,wo,rfl,?_⟩;ac_rfl;rw [cw];refine⟨_,f2,a2,wo,a4,λ H1 e1=>?_⟩;exists ar;ac_rfl;rw [jj];refine⟨_,f1,a1,vo.ext e1,a5,ar (),λ H2 e2=>?_⟩;have aq:=e1.trans e2;have b2:=aq.at hs;ac_rfl;rw [iG];refine⟨l,vals,_,f2,a2,so.ext aq,wo.ext aq,a4,rfl,by rw [ar ()];exact a6,bb,λ r H3 a7 e3 h3=>?_⟩;have bt:r ≠ l:=λ z=>by rw [z,aq.at bp] at a7;cases a7
  have a3:=aq.trans e3;ac_rfl;rw [nK];refine⟨l,vals,_,f1,a1,_,so.ext a3,vo.ext a3,a5,rfl,a8,a6,a9,h3,bt,?_,λ H4 q1 q2 q3=>?_⟩
  ·unfold aQ;rw [length_map,←ar ()];exact aB f2 a2 λ a ha=>(a4.2 a ha).1
  ·have k1:=k H4 (λ H0 x0 x1=>q1 H0 (x0.trans a3) x1) (λ b o hb b1=>q2 b o hb (a3.at b1)) q3;clear k;ac_rfl
def pq(t:Adr):Nat->Addr
 | 0=>t.a_CW
 | 1=>t.a_UI
 | 2=>t.a_UJ
 | 3=>t.a_UK
 | _=>t.a_UG
def vm:Nat->Addr->Addr->V->List (Str × V)
 | 0,_,_,_=>[]
 | 1,u,_,x=>[("to",.ref u),("value",x)]
 | 2,u,v,_=>[("to",.ref u),("source",.ref v)]
 | 3,u,v,_=>[("one",.ref u),("other",.ref v)]
 | _,u,v,_=>[("to",.ref u),("source",.ref v)]
def wrs:Nat->Addr->Addr->List Addr
 | 0,_,_=>[]
 | 3,u,v=>[u,v]
 | _,u,_=>[u]
def rds:Nat->Addr->Addr->List Addr
 | 0,_,_=>[]
 | 1,_,_=>[]
 | 2,_,v=>[v]
 | _,u,v=>[u,v]
def Bj(t:Adr)(H:Hp)(s:Addr)(w:Nat)(u v:Addr):Prop:=w < 5/\∃ dx x,H s=some (.ins (pq t w) dx (vm w u v x))
def Bj.ext{t:Adr}{H H':Hp}{s:Addr}{w:Nat}{u v:Addr}(h:Bj t H s w u v)(e:Ext H H'):Bj t H' s w u v:=by
 obtain⟨h1,dx,x,h2⟩:=h;exact⟨h1,dx,x,e.at h2⟩
abbrev Mh(t:Adr)(i:Nat)(s:Addr)(H:Hp)(Q:VK)(E:XK):Prop:=∃ (u v dx:Addr) (x:V),H s=some (.ins (pq t i) dx (vm i u v x))/\∀ (r:Addr) (H':Hp),Ext H H'->H' r=some (.lst ((wrs i u v).map V.ref))->Q (.ref r) H'
def DP(t:Adr)(i:Nat):Sp:=λ vs H Q E=>∃ (s:Addr),vs=[.ref s]/\(Mh t i s H Q E)
abbrev Mi(t:Adr)(i:Nat)(s:Addr)(H:Hp)(Q:VK)(E:XK):Prop:=∃ (u v dx:Addr) (x:V),H s=some (.ins (pq t i) dx (vm i u v x))/\∀ (r:Addr) (H':Hp),Ext H H'->H' r=some (.lst ((rds i u v).map V.ref))->Q (.ref r) H'
def DQ(t:Adr)(i:Nat):Sp:=λ vs H Q E=>∃ (s:Addr),vs=[.ref s]/\(Mi t i s H Q E)
def ir(T:Tx K mg t):%[1,pV|49] %[|108] (DP t 0):=by
 refine T.F_pV.ok iV (λ _ _ _ _ h=>iW h λ _=>rfl) (λ cdv A outer s0 H vs Q E hr h=>?_)
 ·obtain⟨s,rfl,u,v,dx,x,hs,k⟩:=h;have aq:H s=some (.ins t.a_CW dx []):=hs;clear hs;have c9:=T.qBm;refine⟨_,%[%[%[(@cq _)|13]|12]|9],?_⟩;rw [%[%[|108],[.ref s],0|53]];exists k;ac_rfl;intro r H1 _ e1 h1;exact k () r H1 e1 h1
def iS(T:Tx K mg t):%[1,qZ|49] %[|108] (DQ t 0):=by
 refine T.F_qZ.ok eX (λ _ _ _ _ h=>iW h λ _=>rfl) (λ cdv A outer s0 H vs Q E hr h=>?_)
 ·obtain⟨s,rfl,u,v,dx,x,hs,k⟩:=h;have aq:H s=some (.ins t.a_CW dx []):=hs;clear hs;have c9:=T.qBm;refine⟨_,%[%[%[(@cq _)|13]|12]|9],?_⟩;rw [%[%[|108],[.ref s],0|53]];exists k;ac_rfl;intro r H1 _ e1 h1;exact k () r H1 e1 h1
def lZ(T:Tx K mg t):%[1,wu|49] %[|108] (DP t 1):=by
 refine T.F_wu.ok o7 (λ _ _ _ _ h=>iW h λ _=>rfl) (λ cdv A outer s0 H vs Q E hr h=>?_)
 ·obtain⟨s,rfl,u,v,dx,x,hs,k⟩:=h;have aq:H s=some (.ins t.a_UI dx [("to",V.ref u),("value",x)]):=hs;clear hs;have c0:=T.qCn;have l0:([("to",V.ref u),("value",x)]:List (Str × V)).lookup (Str.ofString "to")=some (V.ref u):=by rfl
  have c9:=T.qBt;refine⟨_,%[%[%[%[%[%[0|0],rfl|16]|1]|13]|12]|9],?_⟩;rw [%[%[|108],[.ref s],0|53]];exists k;ac_rfl;intro r H1 _ e1 h1;exact k () r H1 e1 h1
def l6(T:Tx K mg t):%[1,wx|49] %[|108] (DP t 2):=by
 refine T.F_wx.ok o8 (λ _ _ _ _ h=>iW h λ _=>rfl) (λ cdv A outer s0 H vs Q E hr h=>?_)
 ·obtain⟨s,rfl,u,v,dx,x,hs,k⟩:=h;have aq:H s=some (.ins t.a_UJ dx [("to",V.ref u),("source",V.ref v)]):=hs;clear hs;have c0:=T.qCs;have l0:([("to",V.ref u),("source",V.ref v)]:List (Str × V)).lookup (Str.ofString "to")=some (V.ref u):=by rfl
  have c9:=T.qBv;refine⟨_,%[%[%[%[%[%[0|0],rfl|16]|1]|13]|12]|9],?_⟩;rw [%[%[|108],[.ref s],0|53]];exists k;ac_rfl;intro r H1 _ e1 h1;exact k () r H1 e1 h1
def oQ(T:Tx K mg t):%[1,Ao|49] %[|108] (DQ t 2):=by
 refine T.F_Ao.ok rF (λ _ _ _ _ h=>iW h λ _=>rfl) (λ cdv A outer s0 H vs Q E hr h=>?_)
 ·obtain⟨s,rfl,u,v,dx,x,hs,k⟩:=h;have aq:H s=some (.ins t.a_UJ dx [("to",V.ref u),("source",V.ref v)]):=hs;clear hs;have c0:=T.qC6;have l0:([("to",V.ref u),("source",V.ref v)]:List (Str × V)).lookup (Str.ofString "source")=some (V.ref v):=by rfl
  have c9:=T.qBv;refine⟨_,%[%[%[%[%[%[0|0],rfl|16]|1]|13]|12]|9],?_⟩;rw [%[%[|108],[.ref s],0|53]];exists k;ac_rfl;intro r H1 _ e1 h1;exact k () r H1 e1 h1
def lX(T:Tx K mg t):%[1,wy|49] %[|108] (DP t 3):=by
 refine T.F_wy.ok o1 (λ _ _ _ _ h=>iW h λ _=>rfl) (λ cdv A outer s0 H vs Q E hr h=>?_)
 ·obtain⟨s,rfl,u,v,dx,x,hs,k⟩:=h;have aq:H s=some (.ins t.a_UK dx [("one",V.ref u),("other",V.ref v)]):=hs;clear hs;have c0:=T.qC7;have l0:([("one",V.ref u),("other",V.ref v)]:List (Str × V)).lookup (Str.ofString "one")=some (V.ref u):=by rfl
  have c1:=T.qBu;have l1:([("one",V.ref u),("other",V.ref v)]:List (Str × V)).lookup (Str.ofString "other")=some (V.ref v):=by rfl
  have c9:=T.qBw;refine⟨_,%[%[%[%[%[%[0|0],rfl|16],%[%[%[0|0],rfl|16]|1]|1]|13]|12]|9],?_⟩;rw [%[%[|108],[.ref s],0|53]];exists k;ac_rfl;intro r H1 _ e1 h1;exact k () r H1 e1 h1
def oO(T:Tx K mg t):%[1,Ap|49] %[|108] (DQ t 3):=by
 refine T.F_Ap.ok rD (λ _ _ _ _ h=>iW h λ _=>rfl) (λ cdv A outer s0 H vs Q E hr h=>?_)
 ·obtain⟨s,rfl,u,v,dx,x,hs,k⟩:=h;have aq:H s=some (.ins t.a_UK dx [("one",V.ref u),("other",V.ref v)]):=hs;clear hs;have c0:=T.qC7;have l0:([("one",V.ref u),("other",V.ref v)]:List (Str × V)).lookup (Str.ofString "one")=some (V.ref u):=by rfl
  have c1:=T.qBu;have l1:([("one",V.ref u),("other",V.ref v)]:List (Str × V)).lookup (Str.ofString "other")=some (V.ref v):=by rfl
  have c9:=T.qBw;refine⟨_,%[%[%[%[%[%[0|0],rfl|16],%[%[%[0|0],rfl|16]|1]|1]|13]|12]|9],?_⟩;rw [%[%[|108],[.ref s],0|53]];exists k;ac_rfl;intro r H1 _ e1 h1;exact k () r H1 e1 h1
def lF(T:Tx K mg t):%[1,wj|49] %[|108] (DP t 4):=by
 refine T.F_wj.ok mh (λ _ _ _ _ h=>iW h λ _=>rfl) (λ cdv A outer s0 H vs Q E hr h=>?_)
 ·obtain⟨s,rfl,u,v,dx,x,hs,k⟩:=h;have aq:H s=some (.ins t.a_UG dx [("to",V.ref u),("source",V.ref v)]):=hs;clear hs;have c0:=T.qC8;have l0:([("to",V.ref u),("source",V.ref v)]:List (Str × V)).lookup (Str.ofString "to")=some (V.ref u):=by rfl
  have c9:=T.qBs;refine⟨_,%[%[%[%[%[%[0|0],rfl|16]|1]|13]|12]|9],?_⟩;rw [%[%[|108],[.ref s],0|53]];exists k;ac_rfl;intro r H1 _ e1 h1;exact k () r H1 e1 h1
def lY(T:Tx K mg t):%[1,wz|49] %[|108] (DQ t 4):=by
 refine T.F_wz.ok o6 (λ _ _ _ _ h=>iW h λ _=>rfl) (λ cdv A outer s0 H vs Q E hr h=>?_)
 ·obtain⟨s,rfl,u,v,dx,x,hs,k⟩:=h;have aq:H s=some (.ins t.a_UG dx [("to",V.ref u),("source",V.ref v)]):=hs;clear hs;have c0:=T.qC4;have l0:([("to",V.ref u),("source",V.ref v)]:List (Str × V)).lookup (Str.ofString "source")=some (V.ref v):=by rfl
  have c1:=T.qC8;have l1:([("to",V.ref u),("source",V.ref v)]:List (Str × V)).lookup (Str.ofString "to")=some (V.ref u):=by rfl
  have c9:=T.qBs;refine⟨_,%[%[%[%[%[%[0|0],rfl|16],%[%[%[0|0],rfl|16]|1]|1]|13]|12]|9],?_⟩;rw [%[%[|108],[.ref s],0|53]];exists k;ac_rfl;intro r H1 _ e1 h1;exact k () r H1 e1 h1
def iu(T:Tx K mg t):%[1,qZ|49] %[|108] (DQ t 1):=by
 refine T.F_qZ.ok eX (λ _ _ _ _ h=>iW h λ _=>rfl) (λ cdv A outer s0 H vs Q E hr h=>?_)
 ·obtain⟨s,rfl,u,v,dx,x,hs,k⟩:=h;have aq:H s=some (.ins t.a_UI dx [("to",V.ref u),("value",x)]):=hs;clear hs;have c9:=T.qBt;refine⟨_,%[%[%[(@cq _)|13]|12]|9],?_⟩;rw [%[%[|108],[.ref s],0|53]];exists k;ac_rfl;intro r H1 _ e1 h1;exact k () r H1 e1 h1
def MDw{P:Program}{w:World}{K:W.Frag}{mg:Str->Option Value}{base:Heap}{t:Adr}(T:Tx K mg t):∀ i,i < 5->MD P w K mg base CX0 1 "writes" (pq t i) (DP t i)
 | 0,_=>⟨T.qBm,_,_,_,T.qCv,ir T,T.b_pV⟩
 | 1,_=>⟨T.qBt,_,_,_,T.qDi,lZ T,T.b_wu⟩
 | 2,_=>⟨T.qBv,_,_,_,T.qDj,l6 T,T.b_wx⟩
 | 3,_=>⟨T.qBw,_,_,_,T.qDk,lX T,T.b_wy⟩
 | 4,_=>⟨T.qBs,_,_,_,T.qDf,lF T,T.b_wj⟩
 | n+5,h=>absurd h %[0|8]
def MDr{P:Program}{w:World}{K:W.Frag}{mg:Str->Option Value}{base:Heap}{t:Adr}(T:Tx K mg t):∀ i,i < 5->MD P w K mg base CX0 1 "reads" (pq t i) (DQ t i)
 | 0,_=>⟨T.qBm,_,_,_,T.qCy,iS T,T.b_qZ⟩
 | 1,_=>⟨T.qBt,_,_,_,T.qDs,iu T,T.b_qZ⟩
 | 2,_=>⟨T.qBv,_,_,_,T.qDt,oQ T,T.b_Ao⟩
 | 3,_=>⟨T.qBw,_,_,_,T.qDu,oO T,T.b_Ap⟩
 | 4,_=>⟨T.qBs,_,_,_,T.qDl,lY T,T.b_wz⟩
 | n+5,h=>absurd h %[0|8]
def El{w:Nat}{u v:Addr}{x:V}(hw:w < 5):(vm w u v x).lookup (Str.ofString "writes")=none/\(vm w u v x).lookup (Str.ofString "reads")=none:=by
 match w,hw with
 | 0,_=>exact⟨rfl,rfl⟩
 | 1,_=>exact⟨rfl,rfl⟩
 | 2,_=>exact⟨rfl,rfl⟩
 | 3,_=>exact⟨rfl,rfl⟩
 | 4,_=>exact⟨rfl,rfl⟩
def DW{t:Adr}{H:Hp}{s:Addr}{w:Nat}{u v:Addr}{E:XK}{Q:VK}(h:Bj t H s w u v)(q:∀ (r:Addr) (H':Hp),Ext H H'->H' r=some (.lst ((wrs w u v).map V.ref))->Q (.ref r) H'):um 5 (pq t) "writes" (DP t) E Q (.ref s) H:=by
 obtain⟨h1,dx,x,h2⟩:=h;exact⟨s,w,dx,_,rfl,h1,h2,(El h1).1,s,rfl,u,v,dx,x,h2,q⟩
def DX{t:Adr}{H:Hp}{s:Addr}{w:Nat}{u v:Addr}{E:XK}{Q:VK}(h:Bj t H s w u v)(q:∀ (r:Addr) (H':Hp),Ext H H'->H' r=some (.lst ((rds w u v).map V.ref))->Q (.ref r) H'):um 5 (pq t) "reads" (DQ t) E Q (.ref s) H:=by
 obtain⟨h1,dx,x,h2⟩:=h;exact⟨s,w,dx,_,rfl,h1,h2,(El h1).2,s,rfl,u,v,dx,x,h2,q⟩
abbrev lr(t:Adr)(s:Addr)(H:Hp)(Q:VK)(E:XK):Prop:=∃ (w:Nat) (u v:Addr),Bj t H s w u v/\∀ (r:Addr) (H':Hp),Ext H H'->H' r=some (.lst ((wrs w u v++rds w u v).map V.ref))->Q (.ref r) H'
def kq(t:Adr):Sp:=λ vs H Q E=>∃ (s:Addr),vs=[.ref s]/\(lr t s H Q E)
def lh(t:Adr)(s:Addr)(H:Hp)(Q:VK)(E:XK):kq t [.ref s] H Q E=(lr t s H Q E):=jB (f:=λ (s:Addr)=>[.ref s]) (λ _ _ h=>by cases h;exact rfl) s
def uf(w:Nat)(u v:Addr):(wrs w u v).length<=2/\(rds w u v).length<=2:=by
 match w with
 | 0=>exact⟨QK _,QK _⟩
 | 1=>exact⟨Rq _,QK _⟩
 | 2=>exact⟨Rq _,Rq _⟩
 | 3=>exact⟨Qi _,Qi _⟩
 | n+4=>exact⟨Rq _,Qi _⟩
def cF{l b:Addr}{xs ys:List V}{H:Hp}{Q:VK}(h:H l=some (.lst xs))(h':H b=some (.lst ys))(hl:xs.length+ys.length<=sizeLine)(q:pd (.lst (xs++ys)) H Q):Mu Mq (.ref l) Q (.ref b) H:=by
 rw [Ee,Lk,aP,h]
 show aX (aP H b) (O7 xs H Q)
 rw [aP,h'];exact⟨hl,q⟩
def kW(T:Tx K mg t):%[2,HY|49] ["statement"] (kq t):=by
 have aq:=MDw (P:=P) (w:=w) (base:=base) T;have ar:=MDr (P:=P) (w:=w) (base:=base) T;refine T.F_HY.ok wH (λ _ _ _ _ h=>iW h λ _=>rfl) (λ cdv A outer s0 H vs Q E hr h=>?_)
 ·obtain⟨s,rfl,w',u,v,hs,k⟩:=h;refine⟨_,%[%[%[cG,%[%[0|0],aq,(hr.mono ⋯),aC,∅|41],%[%[0|0],ar,(hr.mono ⋯),aC,∅|41]|11]|12]|9],?_⟩;rw [%[["statement"],[.ref s],0|53]];clear aq ar;exists k;ac_rfl;refine DW hs λ r1 H1 e1 h1=>?_;ac_rfl;refine DX (hs.ext e1) λ r2 H2 e2 h2=>?_;have a3:=e2.at h1;refine cF a3 h2 (az (by rw [Qk,Qk];have:=uf w' u v;omega)) ?_;rw [←Rl];intro r3 H3 _ e3 h3;have k2:=k () r3 H3 (e1.trans (e2.trans e3)) h3;clear k a3 h2 h1 hs;ac_rfl
abbrev qr(C:Addr)(u:Addr)(v:Addr)(H:Hp)(Q:VK)(E:XK):Prop:=∃ (r f1 f2:Int) (A B:%[0|48]),av C H u r f1 A/\av C H v r f2 B/\Q .non H
def rT(C:Addr):Sp:=λ vs H Q E=>∃ (u:Addr) (v:Addr),vs=[.ref u,.ref v]/\(qr C u v H Q E)
def qh(C:Addr)(u:Addr)(v:Addr)(H:Hp)(Q:VK)(E:XK):rT C [.ref u,.ref v] H Q E=(qr C u v H Q E):=lN (f:=λ (u:Addr) (v:Addr)=>[.ref u,.ref v]) (λ _ _ _ _ h=>by cases h;exact⟨rfl,rfl⟩) u v
def gs(T:Tx K mg t):%[1,wc|49] %[|125] (rT t.a_UH):=by
 refine T.F_wc.ok gT (λ _ _ _ _ h=>lO h λ _ _=>rfl) %[0|50]
 ·obtain⟨u,v,rfl,ra,f1,f2,A,B,vu,vv,k⟩:=h;obtain⟨dx,D,hu,_⟩:=vu.ob;obtain⟨dy,D2,hv,_⟩:=vv.ob;have c1:=T.qA1;have c4:=T.qBr;have g1:=bS ra f1 D;have g2:=bS ra f2 D2;refine⟨_,%[%[%[(iB hr.units),%[%[0|0],rfl|16],%[%[1|0],rfl|16],(aG _)|20],%[(@dG _ _)|9],(@aF _)|23]|9],?_⟩;rw [%[%[|125],[.ref u,.ref v],0|53]];ac_rfl
abbrev za(C:Addr)(u:Addr)(v:Addr)(H:Hp)(Q:VK)(E:XK):Prop:=∃ (r f1 f2:Int) (A B:%[0|48]),av C H u r f1 A/\av C H v r f2 B/\dD A/\dD B/\aj (A.map λ a=>a.1)=aj (B.map λ a=>a.1)/\∀ H',Ext H H'->Q .non H'
def ED(C:Addr):Sp:=λ vs H Q E=>∃ (u:Addr) (v:Addr),vs=[.ref u,.ref v]/\(za C u v H Q E)
def sQ(C:Addr)(u:Addr)(v:Addr)(H:Hp)(Q:VK)(E:XK):ED C [.ref u,.ref v] H Q E=(za C u v H Q E):=lN (f:=λ (u:Addr) (v:Addr)=>[.ref u,.ref v]) (λ _ _ _ _ h=>by cases h;exact⟨rfl,rfl⟩) u v
def fx(T:Tx K mg t):%[4,An|49] %[|125] (ED t.a_UH):=by
 have G_wc:=%[gs|43];have G_Ah:=%[bq|43];have G_we:=%[dm|43];refine T.F_An.ok rp (λ _ _ _ _ h=>lO h λ _ _=>rfl) %[0|50]
 ·obtain⟨u,v,rfl,ra,f1,f2,A,B,vu,vv,hA,hB,hc,k⟩:=h;obtain⟨dy,D2,hv,_⟩:=vv.ob;have f3:=vn ra f2 D2 (m := "count") nofun;have c1:=T.qA1;refine⟨_,%[%[%[wc,%[%[0|0],%[%[1|0]|1]|1]|3],∅|15],%[%[%[we,%[%[0|0],%[%[%[1|0],T.qA1,T.qAk,G_Ah,(hr.mono ⋯),T.b_Ah,.nil,aC,∅|24]|1]|1]|3],∅|15]|9]|10],?_⟩;rw [%[%[|125],[.ref u,.ref v],0|53]];clear G_wc G_Ah G_we;exists k;ac_rfl;rw [qh];refine⟨ra,f1,f2,A,B,vu,vv,?_⟩;ac_rfl;rw [cw];refine⟨ra,f2,B,vv,hB,λ H1 e1=>?_⟩;ac_rfl;rw [jj];refine⟨ra,f1,A,vu.ext e1,hA,hc.symm,λ H2 e2=>?_⟩;have k2:=k () H2 (e1.trans e2);clear k;ac_rfl
abbrev qE(C:Addr)(x:Addr)(u:Addr)(y:V)(H:Hp)(Q:VK)(E:XK):Prop:=∃ dx:Addr,H x=some (.ins C dx [])/\∀ H':Hp,(∀ H0,Ext H0 H->H0 x=none->Ext H0 H')->H' x=some (.ins C dx [("to",.ref u),("value",y)])->Q .non H'
def sm(C:Addr):Sp:=λ vs H Q E=>∃ (x:Addr) (u:Addr) (y:V),vs=[.ref x,.ref u,y]/\(qE C x u y H Q E)
def iL(C:Addr)(x:Addr)(u:Addr)(y:V)(H:Hp)(Q:VK)(E:XK):sm C [.ref x,.ref u,y] H Q E=(qE C x u y H Q E):=wX (f:=λ (x:Addr) (u:Addr) (y:V)=>[.ref x,.ref u,y]) (λ _ _ _ _ _ _ h=>by cases h;exact⟨rfl,rfl,rfl⟩) x u y
def cL(T:Tx K mg t):%[1,tL|49] ["self", "to", "value"] (sm t.a_UI):=by
 refine T.F_tL.ok lL (λ _ _ _ _ h=>wY h λ _ _ _=>rfl) %[0|50]
 ·obtain⟨x,u,y,rfl,dx,hx,k⟩:=h;have c1:=T.qBt;have c2:=T.qCn;have c3:=T.qCl;refine⟨_,%[%[%[0|0],%[1|0],rfl|31],%[%[%[0|0],%[2|0],rfl|31]|9]|10],?_⟩;rw [%[["self", "to", "value"],[.ref x,.ref u,y],0|53]];have k2:=λ (_:Unit)=>k (upd H x (.ins t.a_UI dx [("to",.ref u),("value",y)])) (λ H0 q0 q1=>q0.put q1) af;clear k;ac_rfl;refine⟨(show (1:Nat) < 1000 by decide),?_⟩;ac_rfl;exact k2 ()
abbrev jA(C CV:Addr)(x:Addr)(u:Addr)(v:Addr)(H:Hp)(Q:VK)(E:XK):Prop:=∃ (dx:Addr) (r f1 f2:Int) (A B:%[0|48]),H x=some (.ins C dx [])/\av CV H u r f1 A/\av CV H v r f2 B/\dD A/\dD B/\aj (A.map λ a=>a.1)=aj (B.map λ a=>a.1)/\∀ H':Hp,(∀ H0,Ext H0 H->H0 x=none->Ext H0 H')->H' x=some (.ins C dx [("to",.ref u),("source",.ref v)])->Q .non H'
def i7(C CV:Addr):Sp:=λ vs H Q E=>∃ (x:Addr) (u:Addr) (v:Addr),vs=[.ref x,.ref u,.ref v]/\(jA C CV x u v H Q E)
def jv(C CV:Addr)(x:Addr)(u:Addr)(v:Addr)(H:Hp)(Q:VK)(E:XK):i7 C CV [.ref x,.ref u,.ref v] H Q E=(jA C CV x u v H Q E):=wX (f:=λ (x:Addr) (u:Addr) (v:Addr)=>[.ref x,.ref u,.ref v]) (λ _ _ _ _ _ _ h=>by cases h;exact⟨rfl,rfl,rfl⟩) x u v
def fC(T:Tx K mg t):%[5,tM|49] %[|116] (i7 t.a_UJ t.a_UH):=by
 have G_An:=%[fx|43];refine T.F_tM.ok lM (λ _ _ _ _ h=>wY h λ _ _ _=>rfl) (λ cdv A' outer s H vs Q E hr h=>?_)
 ·obtain⟨x,u,v,rfl,dx,r,f1,f2,A,B,hx,vu,vv,hA,hB,hc,k⟩:=h;have c1:=T.qBv;have c2:=T.qCs;have c3:=T.qC6;refine⟨_,%[%[%[An,%[%[1|0],%[%[2|0]|1]|1]|3],∅|15],%[%[%[0|0],%[1|0],rfl|31],%[%[%[0|0],%[2|0],rfl|31]|9]|10]|10],?_⟩;rw [%[%[|116],[.ref x,.ref u,.ref v],0|53]];clear G_An;exists k;ac_rfl;rw [sQ];refine⟨r,f1,f2,A,B,vu,vv,hA,hB,hc,λ H1 e1=>?_⟩;have aq:=e1.at hx;have k2:=λ (_:Unit)=>k () (upd H1 x (.ins t.a_UJ dx [("to",.ref u),("source",.ref v)])) (λ H0 q0 q1=>(q0.trans e1).put q1) af;clear k hx;ac_rfl;refine⟨(show (1:Nat) < 1000 by decide),?_⟩;ac_rfl;exact k2 ()
abbrev jx(C CV:Addr)(x:Addr)(u:Addr)(v:Addr)(H:Hp)(Q:VK)(E:XK):Prop:=∃ (dx:Addr) (r f1 f2:Int) (A B:%[0|48]),H x=some (.ins C dx [])/\av CV H u r f1 A/\av CV H v r f2 B/\dD A/\dD B/\aj (A.map λ a=>a.1)=aj (B.map λ a=>a.1)/\∀ H':Hp,(∀ H0,Ext H0 H->H0 x=none->Ext H0 H')->H' x=some (.ins C dx [("one",.ref u),("other",.ref v)])->Q .non H'
def i4(C CV:Addr):Sp:=λ vs H Q E=>∃ (x:Addr) (u:Addr) (v:Addr),vs=[.ref x,.ref u,.ref v]/\(jx C CV x u v H Q E)
def rl(C CV:Addr)(x:Addr)(u:Addr)(v:Addr)(H:Hp)(Q:VK)(E:XK):i4 C CV [.ref x,.ref u,.ref v] H Q E=(jx C CV x u v H Q E):=wX (f:=λ (x:Addr) (u:Addr) (v:Addr)=>[.ref x,.ref u,.ref v]) (λ _ _ _ _ _ _ h=>by cases h;exact⟨rfl,rfl,rfl⟩) x u v
def jF(T:Tx K mg t):%[5,tN|49] ["self", "one", "other"] (i4 t.a_UK t.a_UH):=by
 have G_An:=%[fx|43];refine T.F_tN.ok lJ (λ _ _ _ _ h=>wY h λ _ _ _=>rfl) (λ cdv A' outer s H vs Q E hr h=>?_)
 ·obtain⟨x,u,v,rfl,dx,r,f1,f2,A,B,hx,vu,vv,hA,hB,hc,k⟩:=h;have c1:=T.qBw;have c2:=T.qC7;have c3:=T.qBu;refine⟨_,%[%[%[An,%[%[1|0],%[%[2|0]|1]|1]|3],∅|15],%[%[%[0|0],%[1|0],rfl|31],%[%[%[0|0],%[2|0],rfl|31]|9]|10]|10],?_⟩;rw [%[["self", "one", "other"],[.ref x,.ref u,.ref v],0|53]];clear G_An;exists k;ac_rfl;rw [sQ];refine⟨r,f1,f2,A,B,vu,vv,hA,hB,hc,λ H1 e1=>?_⟩;have aq:=e1.at hx;have k2:=λ (_:Unit)=>k () (upd H1 x (.ins t.a_UK dx [("one",.ref u),("other",.ref v)])) (λ H0 q0 q1=>(q0.trans e1).put q1) af;clear k hx;ac_rfl;refine⟨(show (1:Nat) < 1000 by decide),?_⟩;ac_rfl;exact k2 ()
abbrev iR(C CV:Addr)(x:Addr)(u:Addr)(v:Addr)(H:Hp)(Q:VK)(E:XK):Prop:=∃ (dx:Addr) (r f1 f2:Int) (A B:%[0|48]),H x=some (.ins C dx [])/\av CV H u r f1 A/\av CV H v r f2 B/\dD A/\dD B/\aj (A.map λ a=>a.1)=aj (B.map λ a=>a.1)/\∀ H':Hp,(∀ H0,Ext H0 H->H0 x=none->Ext H0 H')->H' x=some (.ins C dx [("to",.ref u),("source",.ref v)])->Q .non H'
def gY(C CV:Addr):Sp:=λ vs H Q E=>∃ (x:Addr) (u:Addr) (v:Addr),vs=[.ref x,.ref u,.ref v]/\(iR C CV x u v H Q E)
def oZ(C CV:Addr)(x:Addr)(u:Addr)(v:Addr)(H:Hp)(Q:VK)(E:XK):gY C CV [.ref x,.ref u,.ref v] H Q E=(iR C CV x u v H Q E):=wX (f:=λ (x:Addr) (u:Addr) (v:Addr)=>[.ref x,.ref u,.ref v]) (λ _ _ _ _ _ _ h=>by cases h;exact⟨rfl,rfl,rfl⟩) x u v
def jm(T:Tx K mg t):%[5,tH|49] %[|116] (gY t.a_UG t.a_UH):=by
 have G_An:=%[fx|43];refine T.F_tH.ok jJ (λ _ _ _ _ h=>wY h λ _ _ _=>rfl) (λ cdv A' outer s H vs Q E hr h=>?_)
 ·obtain⟨x,u,v,rfl,dx,r,f1,f2,A,B,hx,vu,vv,hA,hB,hc,k⟩:=h;have c1:=T.qBs;have c2:=T.qC8;have c3:=T.qC4;refine⟨_,%[%[%[An,%[%[1|0],%[%[2|0]|1]|1]|3],∅|15],%[%[%[0|0],%[1|0],rfl|31],%[%[%[0|0],%[2|0],rfl|31]|9]|10]|10],?_⟩;rw [%[%[|116],[.ref x,.ref u,.ref v],0|53]];clear G_An;exists k;ac_rfl;rw [sQ];refine⟨r,f1,f2,A,B,vu,vv,hA,hB,hc,λ H1 e1=>?_⟩;have aq:=e1.at hx;have k2:=λ (_:Unit)=>k () (upd H1 x (.ins t.a_UG dx [("to",.ref u),("source",.ref v)])) (λ H0 q0 q1=>(q0.trans e1).put q1) af;clear k hx;ac_rfl;refine⟨(show (1:Nat) < 1000 by decide),?_⟩;ac_rfl;exact k2 ()
def Fun.x{K:W.Frag}{x qual:Str}{st:Stmt}{f:Addr}{fd:FuncData}(F:Fun K x qual st f fd):Nr K x qual st f fd:=by
 obtain⟨oc,od,kV,doc,pm,an,cdv,ct,osl,e,lk,aq⟩:=F.ex;exact⟨⟨oc,od,.none,kV,doc,pm,an,cdv,ct,osl,e,lk,aq⟩,F.kp⟩
abbrev mX(C cN:Addr)(u:Addr)(v:Addr)(H:Hp)(Q:VK)(E:XK):Prop:=∃ (r1 r2 f1 f2:Int) (A B:%[0|48]),av C H u r1 f1 A/\av C H v r2 f2 B/\(r1=r2->Q .non H)/\(r1 ≠ r2->∀ H',Ext H H'->E (.ref cN) none H')
def nR(C cN:Addr):Sp:=λ vs H Q E=>∃ (u:Addr) (v:Addr),vs=[.ref u,.ref v]/\(mX C cN u v H Q E)
def wJ(C cN:Addr)(u:Addr)(v:Addr)(H:Hp)(Q:VK)(E:XK):nR C cN [.ref u,.ref v] H Q E=(mX C cN u v H Q E):=lN (f:=λ (u:Addr) (v:Addr)=>[.ref u,.ref v]) (λ _ _ _ _ h=>by cases h;exact⟨rfl,rfl⟩) u v
def jH(T:Tx K mg t):aM P w K mg base (CX1 P  w) 1 t.a_wc t.d_wc %[|125] (nR t.a_UH t.a_UC):=by
 refine(Fun.x T.F_wc).ok gT (λ _ _ _ _ h=>lO h λ _ _=>rfl) %[0|50]
 ·obtain⟨u,v,rfl,ra,rb,f1,f2,A,B,vu,vv,kQ,kE⟩:=h;obtain⟨dx,D,hu,_⟩:=vu.ob;obtain⟨dy,D2,hv,_⟩:=vv.ob;have c1:=T.qA1;have c4:=T.qBr;have g1:=bS ra f1 D;have g2:=bS rb f2 D2;refine⟨_,%[%[%[(iB hr.units),%[%[0|0],rfl|16],%[%[1|0],rfl|16],(aG _)|20],%[(@uG _ _ _ _ _ _ _ _ _ _ rfl ∅ T.m_UC ⟨T.qCo⟩ (λ σ=>mD) %[(@cj _ _ _ _)|1] ∅ ∅ ⋯)|9],(@aF _)|23]|9],?_⟩;rw [%[%[|125],[.ref u,.ref v],0|53]]
  by_cases he:ra=rb
  ·subst he;have k':=kQ rfl;clear kQ kE;ac_rfl
  ·have k':=kE he H (Ext.refl _);clear kQ kE;ac_rfl
def dn(T:Tx K mg t):%[1,pH|49] ["self", "number"] (MM t.a_Uz "number"):=by
 refine T.F_pH.ok iT (λ vs H Q E h=>LZ _ _ h) %[0|50]
 ·obtain⟨e,x,rfl,he,k⟩:=h;refine⟨_,%[%[(@B8 _ _ _ _ _ _ _ _ _ _ ∅ T.m_CU T.bi_PaceError %[%[0|0],%[%[1|0]|1]|1] ⋯ ∅ ∅ ∅),∅|15],%[(@Fx _ _ _ _ _ _ _ _ %[0|0] %[1|0] rfl)|9]|10],?_⟩;rw [%[["self", "number"],[.ref e,x],0|53]];ac_rfl;refine⟨e,_,_,_,[x],rfl,he,T.oi_TooMany,(show 1<=sizeLine by decide),?_⟩;ac_rfl;exact⟨e,_,rfl,he,T.oi_TooMany.st,T.tk_TooMany_number,λ dx H' h1 h2 h3 h4 h5=>k dx H' h1 h2 h3 h4 h5⟩
abbrev qv(cT:Addr)(n:Int)(H:Hp)(Q:VK)(E:XK):Prop:=(n<=4096->Q .non H)/\(4096 < n->∀ dx H',Ext H H'->H' dx=some (.xd [("number",.int n)])->E (.ref cT) (some dx) H')
def rX(cT:Addr):Sp:=λ vs H Q E=>∃ (n:Int),vs=[.int n]/\(qv cT n H Q E)
def qi(cT:Addr)(n:Int)(H:Hp)(Q:VK)(E:XK):rX cT [.int n] H Q E=(qv cT n H Q E):=jB (f:=λ (n:Int)=>[.int n]) (λ _ _ h=>by cases h;exact rfl) n
def gu(T:Tx K mg t):aM P w K mg base (CX1 P  w) 3 t.a_wt t.d_wt ["count"] (rX t.a_Uz):=by
 have G_pH:=%[dn|43];refine(Fun.x T.F_wt).ok iQ (λ _ _ _ _ h=>iW h λ _=>rfl) %[0|50]
 ·obtain⟨n,rfl,k1,k2⟩:=h;refine⟨_,%[%[%[vt,%[0|0],(@ed _ _ (.int 4096) _ _ ∅ T.m_MOST_TOLD.choose_spec ⟨_,rfl⟩ ⋯),(aG _)|20],%[(@pQ _ _ _ _ _ _ _ _ _ _ _ _ _ _ _ rfl ∅ T.m_Uz T.oi_TooMany G_pH (hr.mono ⋯) T.b_pH (λ σ=>kS) %[%[0|0]|1] ∅ ∅ ⋯)|9],(@aF _)|23]|9],?_⟩;rw [%[["count"],[.int n],0|53]]
  by_cases hn:4096 < n
  ·have aq:=k2 hn;clear k1 k2;ac_rfl;exact Eh aq
  ·have ar:=k1 %[0|8];clear k1 k2;ac_rfl
def aM.up{P:Program}{w:World}{K:W.Frag}{mg:Str->Option Value}{base:Heap}{CX:CXT}{k:Nat}{f:Addr}{fd:FuncData}{ps:List Str}{sp:Sp}(F:aM P w K mg base CX0 k f fd ps sp):aM P w K mg base CX k f fd ps sp:=
 ⟨F.len,λ A outer s H args us vs Q E hr he hb hv hs=>Rt (F.run A outer s H args us vs Q E hr he hb hv hs) λ r s' h=>by
  cases r with
  | error e=>exact h.elim
  | ok c=>cases c<;>exact h⟩
def aM.both{P:Program}{w:World}{K:W.Frag}{mg:Str->Option Value}{base:Heap}{CX:CXT}{k:Nat}{f:Addr}{fd:FuncData}{ps:List Str}{sp aq sp2:Sp}(F:aM P w K mg base CX k f fd ps sp)(F':aM P w K mg base CX k f fd ps aq)(h:∀ vs H Q E,sp2 vs H Q E->sp vs H Q E\/aq vs H Q E):aM P w K mg base CX k f fd ps sp2:=
 ⟨λ vs H Q E q=>(h _ _ _ _ q).elim (F.len vs H Q E) (F'.len vs H Q E),λ A outer s H args us vs Q E hr he hb hv hs=>(h _ _ _ _ hs).elim (F.run A outer s H args us vs Q E hr he hb hv) (F'.run A outer s H args us vs Q E hr he hb hv)⟩
def VwN(C:Addr)(H:Hp)(x:Addr)(room n:Int):Prop:=∃ f A,av C H x room f A/\dD A/\aj (A.map λ a=>a.1)=n
def VwN.ext{C:Addr}{H H':Hp}{x:Addr}{room n:Int}(h:VwN C H x room n)(e:Ext H H'):VwN C H' x room n:=by
 obtain⟨f,A,h1,h2⟩:=h;exact⟨f,A,h1.ext e,h2⟩
abbrev qt(CS CV cV:Addr)(s:Addr)(v:Addr)(H:Hp)(Q:VK)(E:XK):Prop:=∃ (l:Addr) (vals:List Int) (room n:Int),ay CS H s l vals/\VwN CV H v room n/\(room=vals.length->Q .non H)/\(room ≠ vals.length->∀ H',Ext H H'->E (.ref cV) none H')
def rV(CS CV cV:Addr):Sp:=λ vs H Q E=>∃ (s:Addr) (v:Addr),vs=[.ref s,.ref v]/\(qt CS CV cV s v H Q E)
def AZ(CS CV cV:Addr)(s:Addr)(v:Addr)(H:Hp)(Q:VK)(E:XK):rV CS CV cV [.ref s,.ref v] H Q E=(qt CS CV cV s v H Q E):=lN (f:=λ (s:Addr) (v:Addr)=>[.ref s,.ref v]) (λ _ _ _ _ h=>by cases h;exact⟨rfl,rfl⟩) s v
def gw(T:Tx K mg t):aM P w K mg base (CX1 P  w) 1 t.a_nB t.d_nB %[|120] (rV t.a_UE t.a_UH t.a_UB):=by
 refine(Fun.x T.F_nB).ok dC (λ _ _ _ _ h=>lO h λ _ _=>rfl) (λ c A o s' H vs Q E hr h=>?_)
 ·obtain⟨s,v,rfl,l,vals,room,n,so,⟨first,axs,vo,_⟩,kQ,kE⟩:=h;obtain⟨dx,hs⟩:=so.ob;obtain⟨dy,D,hv,_⟩:=vo.ob;have aq:=so.fl;have c1:=T.qA0;have c2:=T.qA9;have c3:=T.qA1;have c4:=T.qBr;have f1:=bD l
  have f2:=bS room first D
  refine⟨_,%[%[%[(iB hr.units),%[%[1|0],rfl|16],%[len,bh,%[%[%[0|0],rfl|16]|1]|6],(aG _)|20],%[(@uG _ _ _ _ _ _ _ _ _ _ rfl ∅ T.m_UB ⟨T.qCp⟩ (λ σ=>mD) %[(@cj _ _ _ _)|1] ∅ ∅ ⋯)|9],(@aF _)|23]|9],?_⟩;rw [%[%[|120],[.ref s,.ref v],0|53]]
  by_cases he:room=(vals.length:Int)
  ·have k':=kQ he;subst he;clear kQ kE;ac_rfl
  ·have k':=kE he H (Ext.refl _);clear kQ kE;ac_rfl
abbrev nc(C cT:Addr)(v:Addr)(H:Hp)(Q:VK)(E:XK):Prop:=∃ (room n:Int),VwN C H v room n/\4096 < n/\∀ dx H',Ext H H'->H' dx=some (.xd [("number",.int n)])->E (.ref cT) (some dx) H'
def n6(C cT:Addr):Sp:=λ vs H Q E=>∃ (v:Addr),vs=[.ref v]/\(nc C cT v H Q E)
def wM(C cT:Addr)(v:Addr)(H:Hp)(Q:VK)(E:XK):n6 C cT [.ref v] H Q E=(nc C cT v H Q E):=jB (f:=λ (v:Addr)=>[.ref v]) (λ _ _ h=>by cases h;exact rfl) v
def l9(T:Tx K mg t):aM P w K mg base (CX1 P  w) 4 t.a_Ai t.d_Ai %[|108] (n6 t.a_UH t.a_Uz):=by
 have G_Ah:=%[bq|43];have G_wt:=%[gu|43];have G_Uu:=%[mE|43];refine(Fun.x T.F_Ai).ok aT (λ _ _ _ _ h=>iW h λ _=>rfl) %[0|50]
 ·obtain⟨v,rfl,room,n,⟨first,axs,vo,aq,hn⟩,ar,k⟩:=h;obtain⟨dx,l,hv,_⟩:=vo.ob;have c1:=T.qA1;have c2:=T.qBn;have c3:=T.qBl
  have f3:=vn room first l (m := "count") nofun
  refine⟨_,%[%[%[G_wt,(hr.mono ⋯),∅,T.m_wt,T.F_wt.kp,T.b_wt,.nil,bu,%[%[%[0|0],T.qA1,T.qAk,G_Ah,(hr.mono ⋯),T.b_Ah,.nil,aC,∅|24]|1],⋯,∅,∅|40],∅|15],%[%[1,aT,%[%[%[%[0|0],rfl|16]|1]|13]|4],%[%[Q3,rfl,%[%[%[0|0],rfl|16]|18],(%[(2),rfl,%[%[2,aT|5],%[%[3,aT|5],(@aO _),∅|17],∅|17],∅,∅|25].mono λ _ _ _ _ h=>bR h),%[%[1,aT,%[Uu,%[%[1|0],%[%[2|0],%[%[3|0]|1]|1]|1]|3]|4]|9],(by intros;rfl)|19],%[%[%[1|0]|12]|9]|10]|10]|10],?_⟩;rw [%[["self", "found", "size", "pace"],[.ref v],3|53]];clear G_Ah G_wt G_Uu;exists k;ac_rfl;rw [cw];refine⟨room,first,axs,vo,aq,λ H1 e1=>?_⟩;rw [hn];ac_rfl;rw [qi];exact⟨λ h=>absurd h %[0|8],λ _ dx H' e' h'=>k () dx H' (e1.trans e') h'⟩
abbrev qC(CS CV cV cT:Addr)(s:Addr)(v:Addr)(z:V)(H:Hp)(Q:VK)(E:XK):Prop:=∃ (l:Addr) (vals:List Int) (room n:Int),ay CS H s l vals/\VwN CV H v room n/\(room ≠ vals.length\/4096 < n)/\(room ≠ vals.length->∀ H',Ext H H'->E (.ref cV) none H')/\(room=vals.length->∀ dx H',Ext H H'->H' dx=some (.xd [("number",.int n)])->E (.ref cT) (some dx) H')
def sk(CS CV cV cT:Addr):Sp:=λ vs H Q E=>∃ (s:Addr) (v:Addr) (z:V),vs=[.ref s,.ref v,z]/\(qC CS CV cV cT s v z H Q E)
def A9(CS CV cV cT:Addr)(s:Addr)(v:Addr)(z:V)(H:Hp)(Q:VK)(E:XK):sk CS CV cV cT [.ref s,.ref v,z] H Q E=(qC CS CV cV cT s v z H Q E):=wX (f:=λ (s:Addr) (v:Addr) (z:V)=>[.ref s,.ref v,z]) (λ _ _ _ _ _ _ h=>by cases h;exact⟨rfl,rfl,rfl⟩) s v z
def ma(T:Tx K mg t):aM P w K mg base (CX1 P  w) 5 t.a_Am t.d_Am ["self", "view", "value"] (sk t.a_UE t.a_UH t.a_UB t.a_Uz):=by
 have G_nB:=%[gw|43];have G_Ai:=%[l9|43];refine(Fun.x T.F_Am).ok dW (λ _ _ _ _ h=>wY h λ _ _ _=>rfl) (λ c A o s' H vs Q E hr h=>?_)
 ·obtain⟨s,v,z,rfl,l,vals,room,n,so,vv,aq,kV,kT⟩:=h;obtain⟨dx,hs⟩:=so.ob;have a4:=so.fl;have c1:=T.qA0;have c2:=T.qA9;have f1:=bD l;have m1:=aD l (m := "refuse_room") nofun;have m2:=aD l (m := "read") nofun;have m3:=aD l (m := "put") nofun;obtain⟨f0,A0,vo,a5,a6⟩:=id vv;obtain⟨dy,D,hv,_⟩:=vo.ob;have c3:=T.qA1;have f2:=vn room f0 D (m := "cells") nofun;have f3:=vn room f0 D (m := "count") nofun;refine⟨_,%[%[%[%[0|0],T.qA0,T.qA7,G_nB,(hr.mono ⋯),T.b_nB,.nil,bu,%[%[1|0]|1],∅,∅,∅|27],∅|15],%[%[Q3,rfl,%[%[%[1|0],T.qA1,T.qBo,G_Ai,(hr.mono ⋯),T.b_Ai,.nil,bu,∅|24]|18],%[3,dW|5],%[%[%[2|0],%[%[%[0|0],rfl|16],%[3|0],dF,(by intros;rfl)|37],∅,∅,∅|36]|9],(by intros;rfl)|19]|9]|10],?_⟩;rw [%[["self", "view", "value", "cell"],[.ref s,.ref v,z],1|53]];clear G_nB G_Ai;exists kV;exists kT;ac_rfl;rw [AZ];refine⟨l,vals,room,n,so,vv,λ he=>?_,λ a3=>kV () a3⟩;have kt:=λ (_:Unit)=>kT () he;have ar:4096 < n:=aq.elim (λ h=>absurd he h) id;exists he;clear kV kT aq;ac_rfl;rw [wM];exact⟨room,n,vv,ar,kt ()⟩
def pB(t:Adr)(i:Nat):Sp:=λ vs H Q E=>∃ (s:Addr) (st:Addr),vs=[.ref s,.ref st]/\(∃ (u dx l:Addr) (x:V) (vals:List Int) (room n:Int),1<=i/\H s=some (.ins (pq t i) dx (vm i u u x))/\ay t.a_UE H st l vals/\VwN t.a_UH H u room n/\(room ≠ vals.length\/4096 < n)/\(room ≠ vals.length->∀ H',Ext H H'->E (.ref t.a_UB) none H')/\(room=vals.length->∀ dx H',Ext H H'->H' dx=some (.xd [("number",.int n)])->E (.ref t.a_Uz) (some dx) H'))
def DH(t:Adr)(i:Nat)(s:Addr)(st:Addr)(H:Hp)(Q:VK)(E:XK):pB t i [.ref s,.ref st] H Q E=(∃ (u dx l:Addr) (x:V) (vals:List Int) (room n:Int),1<=i/\H s=some (.ins (pq t i) dx (vm i u u x))/\ay t.a_UE H st l vals/\VwN t.a_UH H u room n/\(room ≠ vals.length\/4096 < n)/\(room ≠ vals.length->∀ H',Ext H H'->E (.ref t.a_UB) none H')/\(room=vals.length->∀ dx H',Ext H H'->H' dx=some (.xd [("number",.int n)])->E (.ref t.a_Uz) (some dx) H')):=lN (f:=λ (s:Addr) (st:Addr)=>[.ref s,.ref st]) (λ _ _ _ _ h=>by cases h;exact⟨rfl,rfl⟩) s st
def qT(T:Tx K mg t):aM P w K mg base (CX1 P  w) 7 t.a_Df t.d_Df %[|113] (pB t 1):=by
 have G_Am:=%[ma|43];refine(Fun.x T.F_Df).ok mR (λ _ _ _ _ h=>lO h λ _ _=>rfl) (λ cdv A outer s0 H vs Q E hr h=>?_)
 ·obtain⟨s,st,rfl,u,dx,l,x,vals,room,n,_,hs,so,vv,aq,kV,kT⟩:=h;have ar:H s=some (.ins t.a_UI dx [("to",V.ref u),("value",x)]):=hs;obtain⟨ds,a3⟩:=so.ob;have m1:=aD l (m := "fill") nofun;have c8:=T.qBt;have c9:=T.qA0;have c0:=T.qCn;have l0:([("to",V.ref u),("value",x)]:List (Str × V)).lookup (Str.ofString "to")=some (V.ref u):=by rfl
  have c1:=T.qCl;have l1:([("to",V.ref u),("value",x)]:List (Str × V)).lookup (Str.ofString "value")=some (x):=by rfl
  refine⟨_,%[%[%[%[1|0],T.qA0,T.qCu,G_Am,(hr.mono ⋯),T.b_Am,.nil,bu,%[%[%[0|0],rfl|16],%[%[%[0|0],rfl|16]|1]|1],∅,∅,∅|27],∅|15]|9],?_⟩;rw [%[%[|113],[.ref s,.ref st],0|53]];clear G_Am hs;ac_rfl;rw [A9];exact⟨l,vals,room,n,so,vv,aq,kV,kT⟩
def ViZ(C:Addr)(l:Addr)(H:Hp)(u:Addr)(room f:Int)(A:%[0|48]):Prop:=∃ dx D,H u=some (.ins C dx (cO room f D))/\D ≠ l/\aH H D (axL A)
def ViZ.at{C l:Addr}{H:Hp}{u:Addr}{room f:Int}{A:%[0|48]}(h:ViZ C l H u room f A):av C H u room f A:=by
 obtain⟨dx,D,h1,_,h3⟩:=h;exact⟨dx,D,h1,h3⟩
def ViZ.ext{C l:Addr}{H H':Hp}{u:Addr}{room f:Int}{A:%[0|48]}(h:ViZ C l H u room f A)(e:Ext H H'):ViZ C l H' u room f A:=by
 obtain⟨dx,D,h1,h2,h3⟩:=h;exact⟨dx,D,e.at h1,h2,h3.ext e⟩
def KpL(l:Addr)(H H':Hp):Prop:=∀ b o,b ≠ l->H b=some o->H' b=some o
def KpL.trans{l:Addr}{H H' aq:Hp}(h:KpL l H H')(h':KpL l H' aq):KpL l H aq:=λ b o hb q=>h' b o hb (h b o hb q)
def Ext.kp{l:Addr}{H H':Hp}(h:Ext H H'):KpL l H H':=λ _ _ _ q=>h.at q
def ViZ.kp{C l:Addr}{H H':Hp}{u:Addr}{room f:Int}{A:%[0|48]}{xs:List V}(h:ViZ C l H u room f A)(hl:H l=some (.lst xs))(k:KpL l H H'):ViZ C l H' u room f A:=by
 obtain⟨dx,D,h1,h2,ys,h3,h4⟩:=h;exact⟨dx,D,k _ _ (λ e=>by rw [e,hl] at h1;cases h1) h1,h2,ys,k _ _ h2 h3,h4.imp λ _ _ ⟨q,a1,a2⟩=>⟨q,a1,k _ _ (λ e=>by rw [e,hl] at a2;cases a2) a2⟩⟩
def o9(i:Nat)(vals c1 c2:List Int)(z:Int):List Int:=match i with
 | 0=>vals
 | 1=>iX vals c1 z
 | 2=>gU vals c1 (aQ vals c2)
 | 3=>gU (gU vals c1 (aQ vals c2)) c2 (aQ vals c1)
 | _=>gU vals c1 (List.zipWith (· + ·) (aQ vals c1) (aQ vals c2))
structure Ji(CV l:Addr)(H:Hp)(u:Addr)(vals:List Int)(f:Int)(A:%[0|48]):Prop where
 v:ViZ CV l H u vals.length f A
 ax:dD A
 pr:aj (A.map λ a=>a.1)<=4096
 on:bx (ai f A) vals.length
def rK(t:Adr)(i:Nat):Sp:=λ vs H Q E=>∃ (s:Addr) (st:Addr),vs=[.ref s,.ref st]/\(∃ (u v dx l:Addr) (z:Int) (vals:List Int) (f1:Int) (A1:%[0|48]) (f2:Int) (A2:%[0|48]),H s=some (.ins (pq t i) dx (vm i u v (.int z)))/\ay t.a_UE H st l vals/\vals.length<=4096/\Ji t.a_UH l H u vals f1 A1/\Ji t.a_UH l H v vals f2 A2/\aj (A2.map λ a=>a.1)=aj (A1.map λ a=>a.1)/\∀ H',(∀ H0,Ext H0 H->H0 l=none->Ext H0 H')->KpL l H H'->H' l=some (.lst ((o9 i vals (ai f1 A1) (ai f2 A2) z).map V.int))->Q .non H')
def IK(t:Adr)(i:Nat)(s:Addr)(st:Addr)(H:Hp)(Q:VK)(E:XK):rK t i [.ref s,.ref st] H Q E=(∃ (u v dx l:Addr) (z:Int) (vals:List Int) (f1:Int) (A1:%[0|48]) (f2:Int) (A2:%[0|48]),H s=some (.ins (pq t i) dx (vm i u v (.int z)))/\ay t.a_UE H st l vals/\vals.length<=4096/\Ji t.a_UH l H u vals f1 A1/\Ji t.a_UH l H v vals f2 A2/\aj (A2.map λ a=>a.1)=aj (A1.map λ a=>a.1)/\∀ H',(∀ H0,Ext H0 H->H0 l=none->Ext H0 H')->KpL l H H'->H' l=some (.lst ((o9 i vals (ai f1 A1) (ai f2 A2) z).map V.int))->Q .non H'):=lN (f:=λ (s:Addr) (st:Addr)=>[.ref s,.ref st]) (λ _ _ _ _ h=>by cases h;exact⟨rfl,rfl⟩) s st
def DT:∀ a b:List Int,List.zipWith (· + ·) a b=(a.zip b).map λ z=>z.1+z.2
 | [],_=>rfl
 | _::_,[]=>rfl
 | x::a,y::b=>by
  show (x+y)::List.zipWith (· + ·) a b=(x+y)::(a.zip b).map λ z=>z.1+z.2
  rw [DT a b]
def mn(vals cs:List Int):(aQ vals cs).length=cs.length:=by unfold aQ;rw [length_map]
def sW(T:Tx K mg t):%[7,Df|49] %[|113] (rK t 1):=by
 have G_Am:=%[oP|43];refine T.F_Df.ok mR (λ _ _ _ _ h=>lO h λ _ _=>rfl) (λ cdv A outer s0 H vs Q E hr h=>?_)
 ·obtain⟨s,st,rfl,u,v,dx,l,z,vals,f1,A1,f2,A2,hs,so,hv,w1,w2,aq,k⟩:=h;have ar:H s=some (.ins t.a_UI dx [("to",V.ref u),("value",V.int z)]):=hs;obtain⟨ds,a3⟩:=so.ob;have a4:=so.fl;have c8:=T.qBt;have c9:=T.qA0;have m0:=aD l (m := "fill") nofun;have c0:=T.qCn;have l0:([("to",V.ref u),("value",V.int z)]:List (Str × V)).lookup (Str.ofString "to")=some (V.ref u):=by rfl
  have c1:=T.qCl;have l1:([("to",V.ref u),("value",V.int z)]:List (Str × V)).lookup (Str.ofString "value")=some (V.int z):=by rfl
  refine⟨_,%[%[%[%[1|0],T.qA0,T.qCu,G_Am,(hr.mono ⋯),T.b_Am,.nil,aC,%[%[%[0|0],rfl|16],%[%[%[0|0],rfl|16]|1]|1],∅,∅,∅|27],∅|15]|9],?_⟩;rw [%[%[|113],[.ref s,.ref st],0|53]];clear G_Am hs;exists k;ac_rfl;rw [DK];refine⟨l,vals,vals.length,f1,A1,so,w1.v.at,w1.ax,rfl,hv,w1.pr,w1.on,λ H' q1 q2 q3=>?_⟩;have k2:=k () H' q1 q2 q3;clear k;ac_rfl
def sX(T:Tx K mg t):%[7,Dg|49] %[|113] (rK t 2):=by
 have G_wg:=%[lE|43];refine T.F_Dg.ok wQ (λ _ _ _ _ h=>lO h λ _ _=>rfl) (λ cdv A outer s0 H vs Q E hr h=>?_)
 ·obtain⟨s,st,rfl,u,v,dx,l,z,vals,f1,A1,f2,A2,hs,so,hv,w1,w2,aq,k⟩:=h;have ar:H s=some (.ins t.a_UJ dx [("to",V.ref u),("source",V.ref v)]):=hs;obtain⟨ds,a3⟩:=so.ob;have a4:=so.fl;have c8:=T.qBv;have c9:=T.qA0;have m0:=aD l (m := "copied") nofun;have c0:=T.qCs;have l0:([("to",V.ref u),("source",V.ref v)]:List (Str × V)).lookup (Str.ofString "to")=some (V.ref u):=by rfl
  have c1:=T.qC6;have l1:([("to",V.ref u),("source",V.ref v)]:List (Str × V)).lookup (Str.ofString "source")=some (V.ref v):=by rfl
  refine⟨_,%[%[%[%[1|0],T.qA0,T.qDe,G_wg,(hr.mono ⋯),T.b_wg,.nil,aC,%[%[%[0|0],rfl|16],%[%[%[0|0],rfl|16]|1]|1],∅,∅,∅|27],∅|15]|9],?_⟩;rw [%[%[|113],[.ref s,.ref st],0|53]];clear G_wg hs;exists k;ac_rfl;rw [wL];refine⟨l,vals,f1,f2,A1,A2,so,w1.v.at,w2.v.at,w1.ax,w2.ax,hv,w1.pr,aq,w1.on,w2.on,λ H' q1 q2 q3=>?_⟩;have k2:=k () H' q1 q2 q3;clear k;ac_rfl
def sV(T:Tx K mg t):%[7,HX|49] %[|113] (rK t 3):=by
 have G_Ak:=%[fy|43];have G_Ay:=%[gr|43];refine T.F_HX.ok jl (λ _ _ _ _ h=>lO h λ _ _=>rfl) (λ cdv A outer s0 H vs Q E hr h=>?_)
 ·obtain⟨s,st,rfl,u,v,dx,l,z,vals,f1,A1,f2,A2,hs,so,hv,w1,w2,cm,k⟩:=h;have bp:H s=some (.ins t.a_UK dx [("one",V.ref u),("other",V.ref v)]):=hs;obtain⟨ds,bt⟩:=so.ob;have a8:=so.fl;have c8:=T.qBw;have c9:=T.qA0;have m0:=aD l (m := "read") nofun;have m1:=aD l (m := "put") nofun;have c0:=T.qC7;have l0:([("one",V.ref u),("other",V.ref v)]:List (Str × V)).lookup (Str.ofString "one")=some (V.ref u):=by rfl
  have c1:=T.qBu;have l1:([("one",V.ref u),("other",V.ref v)]:List (Str × V)).lookup (Str.ofString "other")=some (V.ref v):=by rfl
  refine⟨_,%[%[2,jl,%[%[1|0],T.qA0,T.qBp,G_Ak,(hr.mono ⋯),T.b_Ak,.nil,aC,%[%[%[0|0],rfl|16]|1],∅,∅,∅|27]|4],%[%[3,jl,%[%[1|0],T.qA0,T.qBp,G_Ak,(hr.mono ⋯),T.b_Ak,.nil,aC,%[%[%[0|0],rfl|16]|1],∅,∅,∅|27]|4],%[%[%[%[1|0],T.qA0,T.qC3,G_Ay,(hr.mono ⋯),T.b_Ay,.nil,aC,%[%[%[0|0],rfl|16],%[%[3|0]|1]|1],∅,∅,∅|27],∅|15],%[%[%[%[1|0],T.qA0,T.qC3,G_Ay,(hr.mono ⋯),T.b_Ay,.nil,aC,%[%[%[0|0],rfl|16],%[%[2|0]|1]|1],∅,∅,∅|27],∅|15]|9]|10]|10]|10],?_⟩;rw [%[["self", "store", "ours", "theirs"],[.ref s,.ref st],2|53]];clear G_Ak G_Ay hs;exists k;have cn:=w1.pr;have cp:=w2.pr;have cv:=aB f1 A1 λ a ha=>(w1.ax.2 a ha).1;have cA:=aB f2 A2 λ a ha=>(w2.ax.2 a ha).1;ac_rfl;rw [iG];refine⟨l,vals,vals.length,f1,A1,so,w1.v.at,w1.ax,rfl,w1.pr,w1.on,λ r1 H1 a9 e1 h1=>?_⟩;have b1:r1 ≠ l:=λ e=>by rw [e,a8] at a9;cases a9
  have b2:=e1.at bp;have a6:=e1.at bt;clear bp bt a9;ac_rfl;rw [iG];refine⟨l,vals,vals.length,f2,A2,so.ext e1,w2.v.at.ext e1,w2.ax,rfl,w2.pr,w2.on,λ r2 H2 bb e2 h2=>?_⟩;have ar:=e1.trans e2;have b5:r2 ≠ l:=λ e=>by rw [e,e1.at a8] at bb;cases bb
  have a4:=e2.at b2;have aq:=e2.at a6;have a7:=e2.at h1;have a3:=ar.at a8;clear b2 a6 bb h1;ac_rfl;rw [nK];refine⟨l,vals,vals.length,f1,A1,_,so.ext ar,w1.v.at.ext ar,w1.ax,rfl,hv,w1.pr,w1.on,h2,b5,by rw [mn];omega,λ H3 q1 q2 q3=>?_⟩;have kp:KpL l H2 H3:=q2;have cJ:=kp _ _ (λ e=>by rw [e,a3] at a4;cases a4) a4;have b3:=kp _ _ (λ e=>by rw [e,a3] at aq;cases aq) aq;have b4:=kp _ _ b1 a7;have b6:=(w2.v.ext ar).kp a3 kp;have a5:=bM vals (ai f1 A1) (aQ vals (ai f2 A2));have b7:ay t.a_UE H3 st l (gU vals (ai f1 A1) (aQ vals (ai f2 A2))):=⟨⟨ds,b3⟩,q3⟩;have cc:((aQ vals (ai f1 A1)).length:Int)=aj (A2.map λ a=>a.1):=by rw [mn];omega
  have cf:bx (ai f2 A2) (gU vals (ai f1 A1) (aQ vals (ai f2 A2))).length:=by rw [a5];exact w2.on
  have cg:(gU vals (ai f1 A1) (aQ vals (ai f2 A2))).length<=4096:=by rw [a5];exact hv
  have ck:av t.a_UH H3 v (gU vals (ai f1 A1) (aQ vals (ai f2 A2))).length f2 A2:=by rw [a5];exact b6.at
  clear a4 aq a7 h2 q2 a5;exists q1;ac_rfl;rw [nK];refine⟨l,_,_,f2,A2,_,b7,ck,w2.ax,rfl,cg,w2.pr,cf,b4,b1,cc,λ H4 p1 p2 p3=>?_⟩;have k2:=k () H4 (λ H0 e0 h0=>p1 H0 (q1 () H0 (e0.trans ar) h0) h0) ((Ext.kp ar).trans (kp.trans p2)) p3;clear k q1;ac_rfl
def qS(T:Tx K mg t):%[7,CL|49] %[|113] (rK t 4):=by
 have G_Ak:=%[fy|43];have G_Ay:=%[gr|43];refine T.F_CL.ok ll (λ _ _ _ _ h=>lO h λ _ _=>rfl) (λ cdv A outer s0 H vs Q E hr h=>?_)
 ·obtain⟨s,st,rfl,u,v,dx,l,z,vals,f1,A1,f2,A2,hs,so,hv,w1,w2,b2,k⟩:=h;have a4:H s=some (.ins t.a_UG dx [("to",V.ref u),("source",V.ref v)]):=hs;obtain⟨ds,a5⟩:=so.ob;have a9:=so.fl;have c8:=T.qBs;have c9:=T.qA0;have m0:=aD l (m := "read") nofun;have m1:=aD l (m := "put") nofun;have c0:=T.qC8;have l0:([("to",V.ref u),("source",V.ref v)]:List (Str × V)).lookup (Str.ofString "to")=some (V.ref u):=by rfl
  have c1:=T.qC4;have l1:([("to",V.ref u),("source",V.ref v)]:List (Str × V)).lookup (Str.ofString "source")=some (V.ref v):=by rfl
  refine⟨_,%[%[2,ll,%[%[1|0],T.qA0,T.qBp,G_Ak,(hr.mono ⋯),T.b_Ak,.nil,aC,%[%[%[0|0],rfl|16]|1],∅,∅,∅|27]|4],%[%[%[%[1|0],T.qA0,T.qC3,G_Ay,(hr.mono ⋯),T.b_Ay,.nil,aC,%[%[%[0|0],rfl|16],%[%[(%[|124]),(2),(aV (aa fg) ["self", "store", "more"] rfl rfl nofun),rfl,(@uh _ _ _ _ _ _ _ _ _ ∅ T.z_zip %[%[%[1|0],T.qA0,T.qBp,G_Ak,(hr.mono ⋯),T.b_Ak,.nil,aC,%[%[%[0|0],rfl|16]|1],∅,∅,∅|27],%[%[2|0]|1]|1] ∅ ∅),(λ _ _ _ _ _=>(%[(2),rfl,%[%[(0),%[|124]|51],%[%[(1),%[|124]|51],(@aO _),∅|17],∅|17],∅,∅|25].mono λ _ _ _ _ h=>bR h)),(λ _ _ _ _ _=>(@bo _)),(λ _ _ _ _ _=>%[bF,%[0|0],%[1|0]|11]),(by intros;rfl)|29]|1]|1],∅,∅,∅|27],∅|15]|9]|10],?_⟩;rw [%[["self", "store", "more"],[.ref s,.ref st],1|53]];clear G_Ak G_Ay hs;exists k;have b3:=w1.pr;have b4:=w2.pr;have b5:=aB f1 A1 λ a ha=>(w1.ax.2 a ha).1;have b6:=aB f2 A2 λ a ha=>(w2.ax.2 a ha).1;ac_rfl;rw [iG];refine⟨l,vals,vals.length,f2,A2,so,w2.v.at,w2.ax,rfl,w2.pr,w2.on,λ r1 H1 bb e1 h1=>?_⟩;have a6:=e1.at a4;have ar:=e1.at a5;clear a4 a5 bb;ac_rfl;rw [iG];refine⟨l,vals,vals.length,f1,A1,so.ext e1,w1.v.at.ext e1,w1.ax,rfl,w1.pr,w1.on,λ r2 H2 bp e2 h2=>?_⟩;have a7:=e1.trans e2;have b7:=e2.at a6;have b1:=e2.at ar;have a3:=e2.at h1;have a8:=a7.at a9;clear a6 ar bp h1;ac_rfl;have wk:=Fc (R1:=λ (z:Int) y _=>y=V.int z) (R2:=λ (z:Int) y _=>y=V.int z) (λ _ _ _ _ h _=>h) (λ _ _ _ _ h _=>h) h2 a3 (nL _) (nL _);refine bK ((aQ vals (ai f1 A1)).zip (aQ vals (ai f2 A2))) (λ _=>true) (λ z=>.int (z.1+z.2)) (OI (λ (z:Int) y _=>y=V.int z) (λ (z:Int) y _=>y=V.int z)) wk.1 wk.2 (az (by rw [SO,mn,mn];omega)) ?_ ?_
  ·intro D z y H' N1 N0 hz hD e ⟨p,q1,q2,hu,cc,ha,hb⟩ k1 _;subst hu ha hb;have cf:=k1 rfl H' (Ext.refl _);clear k1 k wk hz;simp! only [↓iZ,↓aU]
  intro D H3 hD e3 h3
  have bt:H3 D=some (.lst ((List.zipWith (· + ·) (aQ vals (ai f1 A1)) (aQ vals (ai f2 A2))).map V.int)):=by
   rw [h3,rH,DT,RQ];rfl
  have nD:D ≠ l:=λ e=>by rw [e,a8] at hD;cases hD
  have aq:=a7.trans e3;clear h3 wk hD a3 h2;ac_rfl;rw [nK];refine⟨l,vals,vals.length,f1,A1,_,so.ext aq,w1.v.at.ext aq,w1.ax,rfl,hv,w1.pr,w1.on,bt,nD,by rw [S2,mn,mn];omega,λ H4 p1 p2 p3=>?_⟩;have k2:=k () H4 (λ H0 e0 h0=>p1 H0 (e0.trans aq) h0) ((Ext.kp aq).trans p2) p3;clear k;ac_rfl
def nA{n:Nat}(h:n<=100000):n<=sizeLine:=QP h ⋯
def VwC(C:Addr)(H:Hp)(x:Addr)(room:Int)(cs:List Int):Prop:=∃ f A,av C H x room f A/\dD A/\aj (A.map λ a=>a.1)<=4096/\ai f A=cs
def VwC.ext{C:Addr}{H H':Hp}{x:Addr}{room:Int}{cs:List Int}(h:VwC C H x room cs)(e:Ext H H'):VwC C H' x room cs:=by
 obtain⟨f,A,h1,h2⟩:=h;exact⟨f,A,h1.ext e,h2⟩
def VwC.len{C:Addr}{H:Hp}{x:Addr}{room:Int}{cs:List Int}(h:VwC C H x room cs):cs.length<=4096:=by
 obtain⟨f,A,_,h2,h3,rfl⟩:=h;have:=aB f A λ a ha=>(h2.2 a ha).1;omega
def VwL(C:Addr)(H:Hp)(room:Int)(cel:Addr->List Int)(xs:List Addr):Prop:=∀ x∈xs,VwC C H x room (cel x)
def VwL.ext{C:Addr}{H H':Hp}{room:Int}{cel:Addr->List Int}{xs:List Addr}(h:VwL C H room cel xs)(e:Ext H H'):VwL C H' room cel xs:=λ x hx=>(h x hx).ext e
def yV{xs:List Addr}{x:Addr}{ys:List Addr}(h:xs=x::ys):atI (xs.map V.ref) 0=%[x|45]:=by rw [h];exact bL (show ((x::ys).map V.ref)[0]? = %[x|45] from rfl)
abbrev mY(C:Addr)(p:Addr)(H:Hp)(Q:VK)(E:XK):Prop:=∃ (xs:List Addr) (room:Int) (cel:Addr->List Int),H p=some (.lst (xs.map V.ref))/\VwL C H room cel xs/\∀ H',Ext H H'->Q .non H'
def nS(C:Addr):Sp:=λ vs H Q E=>∃ (p:Addr),vs=[.ref p]/\(mY C p H Q E)
def wK(C:Addr)(p:Addr)(H:Hp)(Q:VK)(E:XK):nS C [.ref p] H Q E=(mY C p H Q E):=jB (f:=λ (p:Addr)=>[.ref p]) (λ _ _ h=>by cases h;exact rfl) p
def lC(T:Tx K mg t):%[4,wm|49] ["views"] (nS t.a_UH):=by
 have G_wc:=%[gs|43];have G_Ah:=%[bq|43];have G_wt:=%[eA|43];refine T.F_wm.ok bw (λ _ _ _ _ h=>iW h λ _=>rfl) %[0|50]
 ·obtain⟨p,rfl,xs,room,cel,hp,hv,k⟩:=h;have c1:=T.qA1;refine⟨_,%[%[Qu,rfl,%[%[0|0]|18],%[1,bw|5],%[%[%[wc,%[%[cW,%[0|0],%[0|2],(λ _ _=>rfl)|14],%[%[1|0]|1]|1]|3],∅|15]|9],(by intros;rfl)|19],%[%[Qu,rfl,%[%[0|0]|18],%[1,bw|5],%[%[%[wt,%[%[%[1|0],T.qA1,T.qAk,G_Ah,(hr.mono ⋯),T.b_Ah,.nil,aC,∅|24]|1]|3],∅|15]|9],(by intros;rfl)|19]|9]|10],?_⟩;rw [%[["views", "view"],[.ref p],1|53]];clear G_wc G_Ah G_wt;exists k;exists hv;ac_rfl;refine aR (xs:=xs.map V.ref) (λ i σ H'=>∃ v:Option V,σ=[%[p|45],v]/\Ext H H') ⟨none,rfl,Ext.refl _⟩ (λ i σ H' _ ⟨_,_,e⟩=>e.at hp) ?_ ?_
  ·rintro i y _ H1 hi ⟨v,rfl,e1⟩;obtain⟨x,hx,rfl⟩:=QN.mp (Qr hi)
   obtain⟨x0,ys,hxs⟩:∃ x0 ys,xs=x0::ys:=by
    cases xs with
    | nil=>cases hx
    | cons a b=>exact⟨a,b,rfl⟩
   have a4:=yV hxs;have aq:=e1.at hp;obtain⟨f0,A0,w0,_⟩:=hv () x0 (by rw [hxs];exact Qv);obtain⟨f1,A1,w1,_⟩:=hv () x hx;clear hi hxs hp;simp! only [↓aw];rw [qh];refine⟨room,f0,f1,A0,A1,w0.ext e1,w1.ext e1,?_⟩;ac_rfl;exact⟨_,rfl,e1⟩
  ·rintro _ H1 ⟨v,rfl,e1⟩;have aq:=e1.at hp;ac_rfl;refine aR (xs:=xs.map V.ref) (λ i σ H'=>∃ v:Option V,σ=[%[p|45],v]/\Ext H H') ⟨_,rfl,e1⟩ (λ i σ H' _ ⟨_,_,e⟩=>e.at hp) ?_ ?_
   ·clear e1 aq;rintro i y _ H2 hi ⟨v,rfl,e2⟩;obtain⟨x,hx,rfl⟩:=QN.mp (Qr hi);obtain⟨f1,A1,w1,hA,hn,_⟩:=hv () x hx;have w2:=w1.ext e2;obtain⟨dy,D,ar,_⟩:=w2.ob;have f3:=vn room f1 D (m := "count") nofun;clear hi hp;simp! only [↓aw];rw [cw];refine⟨room,f1,A1,w2,hA,λ H3 e3=>?_⟩;ac_rfl;rw [oy];refine⟨λ _=>?_,by omega⟩;have a3:=e2.trans e3;clear w1 w2 ar;ac_rfl;exact⟨_,rfl,a3⟩
   ·rintro _ H2 ⟨v,rfl,e2⟩;have k2:=k () H2 e2;clear k;ac_rfl
def bT(ks:List Int):List (Key × V):=ks.map λ k=>(.inl k,.bl true)
def Bl(ks:List Int)(c:Int):List Int:=if c∈ks then ks else ks++[c]
def yj:∀ (ks:List Int) (c:Int),((bT ks).any λ kv=>decide (kv.1=(.inl c:Key)))=decide (c∈ks)
 | [],c=>by simp [bT]
 | k::ks,c=>by
  have ih:=yj ks c
  show (decide ((.inl k:Key)=.inl c) || ((bT ks).any λ kv=>decide (kv.1=(.inl c:Key))))=_
  rw [ih]
  by_cases h:k=c
  ·subst h;simp
  ·have h1:¬ (.inl k:Key)=.inl c:=λ e=>h (Sum.inl.inj e);rw [QW h1,S9]
   by_cases h2:c∈ks
   ·rw [Rh h2,Rh (Qt _ h2)]
   ·rw [QW h2,QW (λ z=>(QG.mp z).elim (λ e=>h e.symm) h2)]
def B0(ks:List Int)(c:Int):lR (bT ks) (.inl c:Key) (.bl true)=bT (Bl ks c):=by
 unfold lR Bl;rw [yj]
 by_cases h:c∈ks
 ·rw [if_pos (decide_eq_true h),if_pos h];unfold bT;rw [map_map];refine List.map_congr_left λ k _=>?_
  show (if (.inl k:Key)=.inl c then _ else _)=_
  split<;>rfl
 ·rw [if_neg (by rw [decide_eq_false h];decide),if_neg h];unfold bT;rw [map_append];rfl
def Ic(ks:List Int)(c x:Int):x∈Bl ks c ↔ x∈ks\/x=c:=by
 unfold Bl
 by_cases h:c∈ks
 ·rw [QE h];exact⟨.inl,λ z=>z.elim id λ e=>by rw [e];exact h⟩
 ·rw [QB h,QF,Qo]
def Ie(ks:List Int)(c:Int):(Bl ks c).length<=ks.length+1:=by
 unfold Bl;split
 ·omega
 ·rw [Qw,QV];omega
def cP(ks:List Int):(bT ks).length=ks.length:=by unfold bT;rw [length_map]
def CoI(H H':Hp)(d:Addr)(S:List Int)(n:Nat):Prop:=∃ ks,Ext H H'/\H' d=some (.dK (bT ks))/\(∀ c,c∈ks ↔ c∈S)/\ks.length<=n
abbrev lB(C:Addr)(p:Addr)(H:Hp)(Q:VK)(E:XK):Prop:=∃ (xs:List Addr) (room:Int) (cel:Addr->List Int),H p=some (.lst (xs.map V.ref))/\xs.length<=8/\VwL C H room cel xs/\∀ (d:Addr) (H':Hp),H d=none->CoI H H' d (xs.flatMap cel) 40000->Q (.ref d) H'
def kz(C:Addr):Sp:=λ vs H Q E=>∃ (p:Addr),vs=[.ref p]/\(lB C p H Q E)
def lj(C:Addr)(p:Addr)(H:Hp)(Q:VK)(E:XK):kz C [.ref p] H Q E=(lB C p H Q E):=jB (f:=λ (p:Addr)=>[.ref p]) (λ _ _ h=>by cases h;exact rfl) p
def sT(T:Tx K mg t):%[5,HZ|49] ["views"] (kz t.a_UH):=by
 have G_Ai:=%[cR|43];refine T.F_HZ.ok gK (λ _ _ _ _ h=>iW h λ _=>rfl) %[0|50]
 ·obtain⟨p,rfl,xs,room,cel,hp,b5,hv,k⟩:=h;have c1:=T.qA1;refine⟨_,%[%[1,gK,(@n9 _ _)|4],%[%[Qu,rfl,%[%[0|0]|18],%[2,gK|5],%[%[Qu,rfl,%[%[%[2|0],T.qA1,T.qBo,G_Ai,(hr.mono ⋯),T.b_Ai,.nil,aC,∅|24]|18],%[3,gK|5],%[(@ny _ _ _ _ _ _ _ _ _ (gP hr.units) %[1|0] %[3|0] (@jW _ _ _ _) rfl)|9],(by intros;rfl)|19]|9],(by intros;rfl)|19],%[%[%[1|0]|12]|9]|10]|10],?_⟩;rw [%[["views", "found", "view", "cell"],[.ref p],3|53]];clear G_Ai;exists k;exists hv;ac_rfl;intro d H1 hd e1 h1;have b1:=e1.at hp;have ar:CoI H H1 d ((xs.take 0).flatMap cel) (4096 * 0):=⟨[],e1,h1,(λ c=>by simp),QK _⟩;clear h1 e1;ac_rfl;refine aR (xs:=xs.map V.ref) (λ i σ H'=>∃ v2 v3:Option V,σ=[%[p|45],%[d|45],v2,v3]/\CoI H H' d ((xs.take i).flatMap cel) (4096 * i)) ⟨none,none,rfl,ar⟩ (λ i σ H' _ ⟨_,_,_,_,e,_⟩=>e.at hp) ?_ ?_
  ·clear ar b1;rintro i y _ H2 hi ⟨v2,v3,rfl,ks,e2,h2,aq,a5⟩;rw [Qq] at hi;obtain⟨x,a6,rfl⟩:=Qj.mp hi;have hx:=Qr a6;have b6:i < xs.length:=(Qh.mp a6).1;have a7:=hv () x hx;have b7:=a7.len;obtain⟨f1,A1,w1,hA,hn,a9⟩:=a7.ext e2;obtain⟨dy,D,b2,_⟩:=w1.ob;have f3:=vn room f1 D (m := "cells") nofun;exists aq;clear hi a7;simp! only [↓aw];rw [iM];refine⟨room,f1,A1,w1,hA,λ _ r H3 bb e3 h3=>?_,by omega⟩;rw [a9] at h3;have a3:=e3.at h2;have b3:r ≠ d:=λ e=>by rw [e,h2] at bb;cases bb
   have hS:(xs.take (i+1)).flatMap cel=(xs.take i).flatMap cel++cel x:=by rw [QQ,a6,List.flatMap_append];simp
   have ar:CoI H H3 d ((xs.take i).flatMap cel++(cel x).take 0) (4096 * i+0):=⟨ks,e2.trans e3,a3,(λ c=>by rw [Sg,Su];exact aq () c),a5⟩;exists hS;clear w1 b2 aq h2 a3 a9;ac_rfl;refine aR (xs:=(cel x).map V.int) (λ j σ H'=>∃ v3:Option V,σ=[%[p|45],%[d|45],%[x|45],v3]/\H' r=some (.lst ((cel x).map V.int))/\CoI H H' d ((xs.take i).flatMap cel++(cel x).take j) (4096 * i+j)) ⟨_,rfl,h3,ar⟩ (λ j σ H' _ ⟨_,_,h,_⟩=>h) ?_ ?_
   ·clear ar h3;rintro j y _ H4 hj ⟨v3,rfl,a8,ks,e4,h4,aq,a4⟩;rw [Qq] at hj;obtain⟨c,bp,rfl⟩:=Qj.mp hj;have cc:j < (cel x).length:=(Qh.mp bp).1
    have fin:CoI H (upd H4 d (.dK (bT (Bl ks c)))) d ((xs.take i).flatMap cel++(cel x).take (j+1)) (4096 * i+(j+1)):=⟨Bl ks c,e4.put hd,af,(λ z=>by
     rw [Ic,aq z,QQ,bp,QF,QF,QF]
     show _\/z=c ↔ _\/_\/z∈[c]
     rw [Qo,or_assoc]),by have:=Ie ks c;omega⟩
    have b4:upd H4 d (.dK (bT (Bl ks c))) r=some (.lst ((cel x).map V.int)):=by rw [ae b3];exact a8
    have bt:(bT ks).length < sizeLine:=by rw [cP];exact nA %[0|8]
    exists aq;clear hj;simp! only [↓aw];refine iy (k:=.inl c) h4 bt ?_;rw [B0];exact⟨_,rfl,b4,fin⟩
   ·rintro _ H4 ⟨v3,rfl,a8,ks,e4,h4,aq,a4⟩;rw [Qk] at aq a4;rw [QD,←hS ()] at aq;have fin:CoI H H4 d ((xs.take (i+1)).flatMap cel) (4096 * (i+1)):=⟨ks,e4,h4,aq,by omega⟩;clear aq h4 e4 a8;ac_rfl
    first|exact⟨_,_,rfl,fin⟩|exact⟨_,_,rfl⟩
  ·rintro _ H2 ⟨v2,v3,rfl,ks,e2,h2,aq,a5⟩;rw [Qk] at aq a5;rw [QD] at aq;have k2:=k () d H2 hd ⟨ks,e2,h2,aq,by omega⟩;clear k aq;ac_rfl
def VwX(C:Addr)(H:Hp)(rm cn:Addr->Int)(xs:List Addr):Prop:=∀ x∈xs,∃ f A,av C H x (rm x) f A/\dD A/\aj (A.map λ a=>a.1)=cn x
def RmE(rm:Addr->Int)(x0:Addr)(xs:List Addr):Prop:=∀ x∈xs,rm x=rm x0
def CnE(cn:Addr->Int)(xs:List Addr):Prop:=∀ x∈xs,cn x<=4096
def iO{xs:List Addr}{i:Nat}{x y:Addr}(h:xs[i]? = some x)(hy:y∈xs.take (i+1)):y∈xs.take i\/y=x:=by
 rw [QQ,h] at hy
 rcases QF.mp hy with q|q
 ·exact .inl q
 ·exact .inr (by simpa using q)
abbrev lA(C cN cT:Addr)(p:Addr)(H:Hp)(Q:VK)(E:XK):Prop:=∃ (x0:Addr) (ys:List Addr) (rm cn:Addr->Int),H p=some (.lst ((x0::ys).map V.ref))/\VwX C H rm cn (x0::ys)/\(¬ RmE rm x0 (x0::ys)\/¬ CnE cn (x0::ys))/\(¬ RmE rm x0 (x0::ys)->∀ H',Ext H H'->E (.ref cN) none H')/\(RmE rm x0 (x0::ys)->∀ n,(∃ x∈x0::ys,cn x=n/\4096 < n)->∀ dx H',Ext H H'->H' dx=some (.xd [("number",.int n)])->E (.ref cT) (some dx) H')
def ky(C cN cT:Addr):Sp:=λ vs H Q E=>∃ (p:Addr),vs=[.ref p]/\(lA C cN cT p H Q E)
def tZ(C cN cT:Addr)(p:Addr)(H:Hp)(Q:VK)(E:XK):ky C cN cT [.ref p] H Q E=(lA C cN cT p H Q E):=jB (f:=λ (p:Addr)=>[.ref p]) (λ _ _ h=>by cases h;exact rfl) p
def jG(T:Tx K mg t):aM P w K mg base (CX1 P  w) 4 t.a_wm t.d_wm ["views"] (ky t.a_UH t.a_UC t.a_Uz):=by
 have G_wc:=%[jH|43];have G_Ah:=%[bq|43];have G_wt:=%[gu|43];refine(Fun.x T.F_wm).ok bw (λ _ _ _ _ h=>iW h λ _=>rfl) %[0|50]
 ·obtain⟨p,rfl,x0,ys,rm,cn,hp,hv,aq,kN,kT⟩:=h;have c1:=T.qA1;refine⟨_,%[%[Q3,rfl,%[%[0|0]|18],%[1,bw|5],%[%[%[G_wc,(hr.mono ⋯),∅,T.m_wc,T.F_wc.kp,T.b_wc,.nil,bu,%[%[cW,%[0|0],%[0|2],(λ _ _=>rfl)|14],%[%[1|0]|1]|1],⋯,∅,∅|40],∅|15]|9],(by intros;rfl)|19],%[%[Q3,rfl,%[%[0|0]|18],%[1,bw|5],%[%[%[G_wt,(hr.mono ⋯),∅,T.m_wt,T.F_wt.kp,T.b_wt,.nil,bu,%[%[%[1|0],T.qA1,T.qAk,G_Ah,(hr.mono ⋯),T.b_Ah,.nil,aC,∅|24]|1],⋯,∅,∅|40],∅|15]|9],(by intros;rfl)|19]|9]|10],?_⟩;rw [%[["views", "view"],[.ref p],1|53]];clear G_wc G_Ah G_wt;obtain⟨xs,hxs⟩:∃ xs,x0::ys=xs:=⟨_,rfl⟩;rw [hxs] at hp hv aq kN kT;have b1:=yV hxs.symm;have a7:x0∈xs:=by rw [←hxs];exact Qv
  exists kN;exists kT;exists hv;exists aq;exists a7;clear hxs;ac_rfl;refine aR (xs:=xs.map V.ref) (λ i σ H'=>∃ v:Option V,σ=[%[p|45],v]/\H'=H/\RmE rm x0 (xs.take i)) ⟨none,rfl,rfl,λ y hy=>absurd hy (by rw [Sg];exact QC)⟩ (λ i σ H' _ ⟨_,_,e,_⟩=>e ▸ hp) ?_ ?_
  ·rintro i y _ _ hi ⟨v,rfl,rfl,a8⟩;rename_i H;rw [Qq] at hi;obtain⟨x,ar,rfl⟩:=Qj.mp hi;have hx:=Qr ar;obtain⟨f0,A0,w0,_⟩:=hv () x0 (a7 ());obtain⟨f1,A1,w1,_⟩:=hv () x hx;have a3:rm x=rm x0->RmE rm x0 (xs.take (i+1)):=λ e y hy=>(iO ar hy).elim (a8 y) λ q=>by rw [q];exact e
   have kn:rm x0 ≠ rm x->∀ H',Ext H H'->E (.ref t.a_UC) none H':=λ ne=>kN () λ h=>ne (h x hx).symm;exists a3;exists kn;clear hi ar a8 kN kT aq;simp! only [↓aw];rw [wJ];refine⟨rm x0,rm x,f0,f1,A0,A1,w0,w1,λ e=>?_,λ ne=>kn () ne⟩;have st:=a3 () e.symm;clear a3 kn w0 w1;ac_rfl
   first|exact⟨_,rfl,rfl,st⟩|exact⟨_,rfl,st⟩|exact⟨_,rfl⟩
  ·rintro _ _ ⟨v,rfl,rfl,a4⟩;rename_i H;rw [Qk,QD] at a4;have a5:¬ CnE cn xs:=(aq ()).elim (λ h=>absurd a4 h) id;have kt:=kT () a4;exists kt;exists a5;clear kN kT aq a4;ac_rfl;refine aR (xs:=xs.map V.ref) (λ i σ H'=>∃ v:Option V,σ=[%[p|45],v]/\Ext H H'/\CnE cn (xs.take i)) ⟨_,rfl,Ext.refl _,λ y hy=>absurd hy (by rw [Sg];exact QC)⟩ (λ i σ H' _ ⟨_,_,e,_⟩=>e.at hp) ?_ ?_
   ·rintro i y _ H2 hi ⟨v,rfl,e2,a9⟩;rw [Qq] at hi;obtain⟨x,ar,rfl⟩:=Qj.mp hi;have hx:=Qr ar;obtain⟨f1,A1,w1,hA,hn⟩:=hv () x hx;have w2:=w1.ext e2;obtain⟨dy,D,bp,_⟩:=w2.ob;have f3:=vn (rm x) f1 D (m := "count") nofun;have a3:cn x<=4096->CnE cn (xs.take (i+1)):=λ e y hy=>(iO ar hy).elim (a9 y) λ q=>by rw [q];exact e
    exists a3;clear hi ar a9 a5;simp! only [↓aw];rw [cw];refine⟨rm x,f1,A1,w2,hA,λ H3 e3=>?_⟩;rw [hn];have a6:=e2.trans e3;ac_rfl;rw [qi];refine⟨λ hle=>?_,λ bt dx H' e' h'=>kt () _ ⟨x,hx,rfl,bt⟩ dx H' (a6.trans e') h'⟩;have st:=a3 () hle;clear a3 w1 w2 bp kt;ac_rfl
    first|exact⟨_,rfl,a6,st⟩|exact⟨_,rfl,a6⟩
   ·rintro _ H2 ⟨v,rfl,e2,bb⟩;rw [Qk,QD] at bb;exact absurd bb (a5 ())
def zh(cs:List Int)(a:Int × Int)(h:1<=a.1):b8 cs (ba a)=b8 cs a:=by
 unfold b8
 show (cs.flatMap λ c=>(List.range a.1.toNat).map λ (n:Nat)=>c+(n:Int) * (if a.1 > 1 then a.2 else 0))=_
 by_cases h1:a.1 > 1
 ·rw [QE h1]
 ·rw [QB h1];have e:a.1.toNat=1:=by omega
  rw [e];refine RS (λ f=>cs.flatMap f) (funext λ c=>?_);simp
def p7:∀ (axs:%[0|48]) (cs:List Int),(∀ a∈axs,(1:Int)<=a.1)->(axs.map ba).foldl b8 cs=axs.foldl b8 cs
 | [],cs,_=>rfl
 | a::r,cs,h=>by
  rw [Rj,RK,RK,zh cs a (h a Qv),p7 r _ λ b hb=>h b (Qt _ hb)]
def jh(f:Int)(axs:%[0|48])(h:∀ a∈axs,(1:Int)<=a.1):ai f (axs.map ba)=ai f axs:=p7 axs [f] h
def eO(axs:%[0|48]):(axs.map ba).map (λ a=>a.1)=axs.map λ a=>a.1:=by rw [RQ];rfl
def iH:∀ l:%[0|48],(∀ a∈l,(1:Int)<=a.1)->bj (l.map ba)=bj l/\br (l.map ba)=br l
 | [],_=>⟨rfl,rfl⟩
 | a::r,h=>by
  obtain⟨i1,i2⟩:=iH r λ b hb=>h b (Qt _ hb);have ha:=h a Qv
  have e:((ba a).1 - 1) * (ba a).2=(a.1 - 1) * a.2:=by
   show (a.1 - 1) * (if a.1 > 1 then a.2 else 0)=_
   split
   ·rfl
   ·have:a.1=1:=by omega
    rw [this];simp
  rw [Rj,ik,il,ik,il,e,i1,i2];exact⟨rfl,rfl⟩
def yY{H:Hp}:∀ {A A':%[0|48]}{ys:List V},Al (ud H) (axL A) ys->Al (ud H) (axL A') ys->A=A'
 | [],[],_,_,_=>rfl
 | [],a::A',ys,h,h'=>by have h1:ys.length=0:=h.1;have h2:ys.length=(axL (a::A')).length:=h'.1;rw [h1] at h2;simp [axL] at h2
 | a::A,[],ys,h,h'=>by have h1:ys.length=0:=h'.1;have h2:ys.length=(axL (a::A)).length:=h.1;rw [h1] at h2;simp [axL] at h2
 | a::A,b::A',[],h,h'=>by have:=h.1;simp [axL] at this
 | a::A,b::A',y::ys,h,h'=>by
  obtain⟨q,rfl,hq⟩:=h.2 0 [a.1,a.2] y rfl rfl;obtain⟨q',e,aq⟩:=h'.2 0 [b.1,b.2] (.ref q) rfl rfl;cases e;rw [hq] at aq;have e:=HO.tup.inj (QL aq)
  have e1:a.1=b.1:=by injection e with e _;injection e
  have e2:a.2=b.2:=by injection e with _ e;injection e with e _;injection e
  have ih:=yY (A:=A) (A':=A') (ys:=ys) ⟨by have:=h.1;simpa [axL] using this,λ i z x hz hx=>h.2 (i+1) z x (by simpa [axL] using hz) (by simpa using hx)⟩ ⟨by have:=h'.1;simpa [axL] using this,λ i z x hz hx=>h'.2 (i+1) z x (by simpa [axL] using hz) (by simpa using hx)⟩;rw [ih,Prod.ext e1 e2]
def av.uniq{C:Addr}{H:Hp}{x:Addr}{r f r' f':Int}{A A':%[0|48]}(h:av C H x r f A)(h':av C H x r' f' A'):r=r'/\f=f'/\A=A':=by
 obtain⟨dx,l,hx,ys,hl,al⟩:=h.ob;obtain⟨a6,l',aq,a4,ar,a5⟩:=h'.ob;rw [hx] at aq
 have e:cO r f l=cO r' f' l':=by injection aq with e;injection e
 have a1:=bS r f l;have a2:=df r f l;have a3:=cU r f l;rw [e,bS] at a1;rw [e,df] at a2;rw [e,cU] at a3
 have b1:r'=r:=by injection a1 with a;injection a
 have b2:f'=f:=by injection a2 with a;injection a
 have b3:l'=l:=by injection a3 with a;injection a
 subst b3;rw [hl] at ar
 have b4:ys=a4:=by injection ar with a;injection a
 subst b4;exact⟨b1.symm,b2.symm,yY al a5⟩
open Classical in
noncomputable def vwH (C:Addr) (H:Hp) (x:Addr):Int × Int × %[0|48]:=if h:∃ p:Int × Int × %[0|48],av C H x p.1 p.2.1 p.2.2 then h.choose else (0,0,[])
def DV{C:Addr}{H:Hp}{x:Addr}{r f:Int}{A:%[0|48]}(h:av C H x r f A):vwH C H x=(r,f,A):=by
 have hh:∃ p:Int × Int × %[0|48],av C H x p.1 p.2.1 p.2.2:=⟨(r,f,A),h⟩;unfold vwH;rw [dif_pos hh];obtain⟨a,b,c⟩:=hh.choose_spec.uniq h;exact Prod.ext a (Prod.ext b c)
noncomputable def vp (C:Addr) (H:Hp) (x:Addr):List Int:=ai (vwH C H x).2.1 (vwH C H x).2.2
noncomputable def rmH (C:Addr) (H:Hp) (x:Addr):Int:=(vwH C H x).1
noncomputable def cnH (C:Addr) (H:Hp) (x:Addr):Int:=aj ((vwH C H x).2.2.map λ a=>a.1)
def WrC:Nat->List Int->List Int->List Int
 | 0,_,_=>[]
 | 3,a,b=>a++b
 | _,a,_=>a
def RdC:Nat->List Int->List Int->List Int
 | 0,_,_=>[]
 | 1,_,_=>[]
 | 2,_,b=>b
 | _,a,b=>a++b
def MtP(S R:List Int):Prop:=∃ c,c∈S/\c∈R
def ClC(w:Nat)(a b:List Int)(w':Nat)(a' b':List Int):Prop:=MtP (WrC w a b) (WrC w' a' b'++RdC w' a' b')\/MtP (WrC w' a' b') (RdC w a b)
def JX(cel:Addr->List Int)(w:Nat)(u v:Addr):(wrs w u v).flatMap cel=WrC w (cel u) (cel v)/\(rds w u v).flatMap cel=RdC w (cel u) (cel v):=by
 match w with
 | 0=>exact⟨rfl,rfl⟩
 | 1=>exact⟨by simp [wrs,WrC],rfl⟩
 | 2=>exact⟨by simp [wrs,WrC],by simp [rds,RdC]⟩
 | 3=>exact⟨by simp [wrs,WrC],by simp [rds,RdC]⟩
 | n+4=>exact⟨by simp [wrs,WrC],by simp [rds,RdC]⟩
def JW{w:Nat}{a b a' b':List Int}(h1:1<=w->a=a')(h2:2<=w->b=b'):WrC w a b=WrC w a' b'/\RdC w a b=RdC w a' b':=by
 match w with
 | 0=>exact⟨rfl,rfl⟩
 | 1=>rw [h1 ⋯];exact⟨rfl,rfl⟩
 | 2=>rw [h1 ⋯,h2 ⋯];exact⟨rfl,rfl⟩
 | 3=>rw [h1 ⋯,h2 ⋯];exact⟨rfl,rfl⟩
 | n+4=>rw [h1 %[0|8],h2 %[0|8]];exact⟨rfl,rfl⟩
def xC{w:Nat}{u v x:Addr}(h:x∈wrs w u v++rds w u v):(1<=w/\x=u)\/(2<=w/\x=v):=by
 match w,h with
 | 0,h=>cases h
 | 1,h=>exact .inl ⟨by decide,by simpa [wrs,rds] using h⟩
 | 2,h=>
  rcases (by simpa [wrs,rds] using h:x=u\/x=v) with e|e
  ·exact .inl ⟨by decide,e⟩
  ·exact .inr ⟨by decide,e⟩
 | 3,h=>
  rcases (by simpa [wrs,rds] using h:x=u\/x=v\/x=u\/x=v) with e|e|e|e
  ·exact .inl ⟨by decide,e⟩
  ·exact .inr ⟨by decide,e⟩
  ·exact .inl ⟨by decide,e⟩
  ·exact .inr ⟨by decide,e⟩
 | n+4,h=>
  rcases (by simpa [wrs,rds] using h:x=u\/x=v) with e|e
  ·exact .inl ⟨by omega,e⟩
  ·exact .inr ⟨by omega,e⟩
def StV(t:Adr)(H:Hp)(s:Addr)(w:Nat)(room:Int)(a b:List Int):Prop:=∃ u v,Bj t H s w u v/\(1<=w->VwC t.a_UH H u room a)/\(2<=w->VwC t.a_UH H v room b)
def VwC.cel{C:Addr}{H:Hp}{x:Addr}{room:Int}{cs:List Int}(h:VwC C H x room cs):vp C H x=cs/\VwC C H x room (vp C H x):=by
 have h0:=h;obtain⟨f,A,h1,h2,h3,h4⟩:=h;have e:vp C H x=cs:=by unfold vp;rw [DV h1];exact h4
 exact⟨e,by rw [e];exact h0⟩
def StX(t:Adr)(H:Hp)(s:Addr)(w:Nat)(room n:Int):Prop:=∃ u v,Bj t H s w u v/\(1<=w->VwN t.a_UH H u room n)/\(2<=w->VwN t.a_UH H v room n)
def StX.ext{t:Adr}{H H':Hp}{s:Addr}{w:Nat}{room n:Int}(h:StX t H s w room n)(e:Ext H H'):StX t H' s w room n:=by
 obtain⟨u,v,h1,h2,h3⟩:=h;exact⟨u,v,h1.ext e,λ q=>(h2 q).ext e,λ q=>(h3 q).ext e⟩
def VwN.fn{C:Addr}{H:Hp}{x:Addr}{room n:Int}(h:VwN C H x room n):rmH C H x=room/\cnH C H x=n:=by
 obtain⟨f,A,h1,_,h3⟩:=h;unfold rmH cnH;rw [DV h1];exact⟨rfl,h3⟩
def Nx{w:Nat}(u v:Addr)(h:1<=w):u∈wrs w u v++rds w u v:=by
 match w,h with
 | 1,_=>simp [wrs]
 | 2,_=>simp [wrs]
 | 3,_=>simp [wrs]
 | n+4,_=>simp [wrs]
abbrev mZ  (first:Int) (l:Addr) (H:Hp) (Q:VK) (E:XK):Prop:=∃ axs:%[0|48],aH H l (axL axs)/\dD axs/\aj (axs.map λ a=>a.1)<=4096/\∀ (r:Addr) (H':Hp),H r=none->Ext H H'->H' r=some (.lst ((ai first axs).map V.int))->Q (.ref r) H'
def nW  : Sp:=λ vs H Q E=>∃ (first:Int) (l:Addr),vs=[.int first,.ref l]/\(mZ  first l H Q E)
def mP  (first:Int) (l:Addr) (H:Hp) (Q:VK) (E:XK):nW  [.int first,.ref l] H Q E=(mZ  first l H Q E):=lN (f:=λ (first:Int) (l:Addr)=>[.int first,.ref l]) (λ _ _ _ _ h=>by cases h;exact⟨rfl,rfl⟩) first l
def oI(T:Tx K mg t):%[1,Ar|49] ["_law_first", "_law_axes"] nW:=by
 refine T.F_Ar.ok bE (λ _ _ _ _ h=>lO h λ _ _=>rfl) %[0|50]
 ·obtain⟨first,l,rfl,axs,⟨ys,hl,al⟩,ar,b6,k⟩:=h;refine⟨_,%[%[2,bE,%[%[%[0|0]|1]|13]|4],%[%[Qu,rfl,%[%[1|0]|18],(%[(2),rfl,%[%[3,bE|5],%[%[(4),_,bE.nd,rfl,(Or.inr rfl),%[0|7]|21],(@aO _),∅|17],∅|17],∅,∅|25].mono λ _ _ _ _ h=>bR h),%[%[5,bE,%[(@cq _)|13]|4],%[%[Qu,rfl,%[%[2|0]|18],%[(6),_,bE.nd,rfl,(Or.inr rfl),%[0|7]|21],%[%[%[QJ,Rv,Ru,fS,%[5|0],%[%[(%[|117]),(1),(aV (aa dM) %[|118] rfl rfl nofun),rfl,%[∅,T.z_range,%[%[3|0]|1],∅|35],(λ _ _ _ _ _=>%[(0),%[|117]|51]),(λ _ _ _ _ _=>(@bo _)),(λ _ _ _ _ _=>%[bF,%[7|0],%[gR,%[0|0],%[5|0]|11]|11]),(by intros;rfl)|29]|1],∅,∅,∅,∅,∅|33],∅|15]|9],(by intros;rfl)|19],%[%[2,bE,%[5|0]|4]|9]|10]|10],(by intros;rfl)|19],%[%[%[2|0]|12]|9]|10]|10],?_⟩;rw [%[%[|118],[.int first,.ref l],5|53]];ac_rfl;intro r H1 a9 e1 h1;have b7:=e1.at hl;have aq:∀ a∈axs,(1:Int)<=a.1:=λ a ha=>(ar.2 a ha).1;ac_rfl;refine aR (xs:=ys) (λ i σ H'=>∃ (r:Addr) (v3 v4 v5 v6:Option V),σ=[%[first|47],%[l|45],%[r|45],v3,v4,v5,v6]/\Ext H H'/\H r=none/\H' r=some (.lst ((ai first (axs.take i)).map V.int))) ⟨r,none,none,none,none,rfl,e1,a9,h1⟩ (λ i σ H' _ ⟨_,_,_,_,_,_,e,_,_⟩=>e.at hl) ?_ ?_
  ·rintro i y _ H3 hi ⟨r3,v3,v4,v5,v6,rfl,e3,a3,h3⟩;obtain⟨a,q,ha,rfl,hq⟩:=E6 al hi;have cc:=e3.at hq;have hm:=ar.2 a (Qr ha)
   have hlen:(ai first (axs.take i)).length * a.1.toNat<=4096:=by
    have bb:=aB first (axs.take i) λ b hb=>aq b (RV hb)
    have hp:=iN (axs.map λ a=>a.1) (λ n hn=>by obtain⟨b,hb,rfl⟩:=QN.mp hn;exact aq b hb) (i+1);rw [gB _ i a.1 (by rw [Qq,ha];rfl),←List.map_take,←bb] at hp;have bp:((a.1.toNat:Nat):Int)=a.1:=R7 %[0|8]
    have:(((ai first (axs.take i)).length * a.1.toNat:Nat):Int)<=4096:=by rw [TB,bp];omega
    omega
   have a4:ai first (axs.take (i+1))=b8 (ai first (axs.take i)) a:=by
    rw [QQ,ha]
    show ai first (axs.take i++[a])=_
    rw [k9]
   rw [a4]
   generalize ai first (axs.take i)=cs at hlen h3
   clear a4 hi k;simp! only [↓aw];intro g H4 a5 e4 h4;have b4:=e4.at h3;have a6:H g=none:=e3.free a5;ac_rfl;refine aR (xs:=cs.map V.int) (λ j σ H'=>∃ v6:Option V,σ=[%[first|47],%[l|45],%[r3|45],some (.int a.1),some (.int a.2),%[g|45],v6]/\Ext H H'/\Ext H3 H'/\H' g=some (.lst ((b8 (cs.take j) a).map V.int))) ⟨_,rfl,e3.trans e4,e4,h4⟩ (λ j σ H' _ ⟨_,_,_,e,_⟩=>e.at h3) ?_ ?_
   ·rintro j x _ H5 hj ⟨bt,rfl,e5,a7,h5⟩;rw [Qq] at hj;obtain⟨c,hc,rfl⟩:=Qj.mp hj;have cf:j < cs.length:=(Qh.mp hc).1
    have cg:a.1.toNat<=4096:=by
     have:=Sv a.1.toNat (show 1<=cs.length by omega);omega
    have b1:(b8 (cs.take j) a).length+a.1.toNat<=4096:=by
     rw [km,Rc];have:(min j cs.length+1) * a.1.toNat<=cs.length * a.1.toNat:=Sv _ %[0|8];rw [Nat.add_mul,Nat.one_mul] at this;omega
    rw [mB cs a j c hc];generalize b8 (cs.take j) a=ws at h5 b1;clear hj;simp! only [↓aw];refine⟨by omega,by omega,?_⟩;refine bK (List.range a.1.toNat) (λ _=>true) (λ m=>.int (c+(m:Int) * a.2)) (λ j x H'=>x=.int (0+(j:Nat))) jo.1 jo.2 (az (by rw [Q8];omega)) ?_ ?_
    ·intro D m x H' N1 N0 a8 hD e hx k1 _;subst hx;have ck:=Q1.mp a8;have b2:=k1 rfl H' (Ext.refl _);rw [show c+(m:Int) * a.2=c+(0+(m:Int)) * a.2 by rw [Tp]] at b2;have cm:rJ (0+(m:Int)) a.2:=.inl ⟨by omega,by omega⟩;clear k1 a8;simp! only [↓aN,↓aU]
    ·intro D H6 hD e6 h6;rw [rH] at h6;have b5:=e6.at h5;have cn:ws.length+(List.range a.1.toNat).length<=sizeLine:=az (by rw [Q8];omega);clear h5;ac_rfl;refine⟨_,rfl,(e5.trans e6).put a6,(a7.trans e6).put a5,?_⟩;rw [Rl,RQ];rfl
   ·rintro _ H5 ⟨bt,rfl,e5,a7,h5⟩;rw [Qk,QD] at h5;ac_rfl;exact⟨g,_,_,_,_,rfl,e5,a6,h5⟩
  ·rintro _ H3 ⟨r3,v3,v4,v5,v6,rfl,e3,a3,h3⟩;have b3:ys.length=axs.length:=by rw [al.1];unfold axL;rw [length_map]
   rw [b3,QD] at h3;ac_rfl;exact k r3 H3 a3 e3 h3
structure SmV(room f:Int)(A:%[0|48]):Prop where
 len:A.length<=2
 sz:∀ a∈A,(1<=a.1/\a.1<=4)/\(-5<=a.2/\a.2<=5)
 pr:aj (A.map λ a=>a.1)<=16
 lo:0<=f+bj A
 hi:f+br A < room
def DvA(H:Hp)(p:Addr)(f:Int)(A:%[0|48]):Prop:=∃ l,H p=some (.tup [.int f,.ref l])/\aH H l (axL A)
def DvA.ext{H H':Hp}{p:Addr}{f:Int}{A:%[0|48]}(h:DvA H p f A)(e:Ext H H'):DvA H' p f A:=by
 obtain⟨l,h1,h2⟩:=h;exact⟨l,e.at h1,h2.ext e⟩
def SmV.axes{room f:Int}{A:%[0|48]}(h:SmV room f A):dD A:=⟨by have:=h.len;omega,λ a ha=>by have:=(h.sz a ha).1;omega⟩
def DrA(H:Hp)(d:Addr)(room:Int)(w:Nat)(x:Int)(f1:Int)(A1:%[0|48])(f2:Int)(A2:%[0|48]):Prop:=w < 5/\SmV room f1 A1/\SmV room f2 A2/\aj (A1.map λ a=>a.1)=aj (A2.map λ a=>a.1)/\∃ p1 p2,H d=some (.tup [.int (w:Int),.ref p1,.ref p2,.int x])/\DvA H p1 f1 A1/\DvA H p2 f2 A2
def DrA.ext{H H':Hp}{d:Addr}{room:Int}{w:Nat}{x f1:Int}{A1:%[0|48]}{f2:Int}{A2:%[0|48]}(h:DrA H d room w x f1 A1 f2 A2)(e:Ext H H'):DrA H' d room w x f1 A1 f2 A2:=by
 obtain⟨h1,h2,h3,h4,p1,p2,h5,h6,h7⟩:=h;exact⟨h1,h2,h3,h4,p1,p2,e.at h5,h6.ext e,h7.ext e⟩
abbrev m8  (p:Addr) (H:Hp) (Q:VK) (E:XK):Prop:=∃ (f room:Int) (A:%[0|48]),DvA H p f A/\SmV room f A/\Q (.int (aj (A.map λ a=>a.1))) H
def nY  : Sp:=λ vs H Q E=>∃ (p:Addr),vs=[.ref p]/\(m8  p H Q E)
def mQ  (p:Addr) (H:Hp) (Q:VK) (E:XK):nY  [.ref p] H Q E=(m8  p H Q E):=jB (f:=λ (p:Addr)=>[.ref p]) (λ _ _ h=>by cases h;exact rfl) p
def oH(T:Tx K mg t):%[1,Au|49] ["_law_view"] nY:=by
 refine T.F_Au.ok cD (λ _ _ _ _ h=>iW h λ _=>rfl) (λ cdv A' outer s H vs Q E hr h=>?_)
 ·obtain⟨p,rfl,f,room,A,⟨l,hp,ys,hl,al⟩,sv,k⟩:=h;refine⟨_,%[%[1,cD,%[0|2]|4],%[%[Qu,rfl,%[%[cW,%[0|0],%[0|2],(λ _ _=>rfl)|14]|18],(%[(2),rfl,%[%[2,cD|5],%[%[3,cD|5],(@aO _),∅|17],∅|17],∅,∅|25].mono λ _ _ _ _ h=>bR h),%[%[1,cD,%[gR,%[1|0],%[2|0]|11]|4]|9],(by intros;rfl)|19],%[%[%[1|0]|12]|9]|10]|10],?_⟩;rw [%[["_law_view", "_law_count_here", "_law_size", "_law_pace"],[.ref p],3|53]];exists al;exists k;ac_rfl;refine aR (xs:=ys) (λ i σ H'=>∃ v2 v3:Option V,σ=[%[p|45],some (.int (aj ((A.map λ a=>a.1).take i))),v2,v3]/\H'=H) ⟨none,none,rfl,rfl⟩ (λ i σ H' _ ⟨_,_,_,e⟩=>e ▸ hl) ?_ ?_
  ·rintro i y _ _ hi ⟨v2,v3,rfl,rfl⟩;rename_i H;obtain⟨a,q,ha,rfl,hq⟩:=E6 (al ()) hi;have hs:=sv.sz a (Qr ha);have e:=gB (A.map λ a=>a.1) i a.1 (by rw [Qq,ha];rfl);have cm:rJ (aj ((A.map λ a=>a.1).take i)) a.1:=.inr ⟨by omega,by omega⟩;rw [e];generalize aj ((A.map λ a=>a.1).take i)=pp at *;clear hi ha e k;simp! only [↓aw];exact⟨_,_,rfl⟩
  ·rintro _ _ ⟨v2,v3,rfl,rfl⟩;rename_i H;have aq:ys.length=(A.map λ a=>a.1).length:=by rw [(al ()).1];unfold axL;rw [length_map,length_map]
   rw [aq,QD];have k2:=k ();clear k;ac_rfl
def kF{xs:List V}{i:Int}{k:V->Prop}(P:V->Prop)(h0:0<=i)(h1:i < xs.length)(ha:∀ v∈xs,P v)(hk:∀ v,P v->k v):aX (atI xs i) k:=FR h0 h1 λ v hv=>hk v (ha v hv)
def Al.cons'{α:Type}{R:α->V->Prop}{z:α}{y:V}{zs:List α}{ys:List V}(r:R z y)(h:Al R zs ys):Al R (z::zs) (y::ys):=⟨by simp [h.1],λ i z' y' a b=>by
 cases i with
 | zero=>cases a;cases b;exact r
 | succ n=>exact h.2 n z' y' (by simpa using a) (by simpa using b)⟩
abbrev Vz:=Addr × Int × %[0|48]
def VsZ(H:Hp)(room:Int)(r:Addr)(zs:List Vz):Prop:=∀ z∈zs,SmV room z.2.1 z.2.2/\∃ l,l ≠ r/\H z.1=some (.tup [.int z.2.1,.ref l])/\aH H l (axL z.2.2)
def VsZ.ext{H H':Hp}{room:Int}{r:Addr}{zs:List Vz}(h:VsZ H room r zs)(e:Ext H H'):VsZ H' room r zs:=λ z hz=>by
 obtain⟨h1,l,h2,h3,h4⟩:=h z hz;exact⟨h1,l,h2,e.at h3,h4.ext e⟩
def aH.up{H:Hp}{l r:Addr}{zs:List (List Int)}{xs:List V}{o:HO}(h:aH H l zs)(aq:l ≠ r)(hr:H r=some (.lst xs)):aH (upd H r o) l zs:=by
 obtain⟨ys,h1,h2⟩:=h;exact⟨ys,by rw [ae aq];exact h1,h2.imp λ _ _ t=>t.upd hr⟩
def VsZ.upd{H:Hp}{room:Int}{r:Addr}{zs:List Vz}{xs:List V}{o:HO}(h:VsZ H room r zs)(hr:H r=some (.lst xs)):VsZ (upd H r o) room r zs:=λ z hz=>by
 obtain⟨h1,l,h2,h3,h4⟩:=h z hz;exact⟨h1,l,h2,by rw [ae (λ e=>by rw [e,hr] at h3;cases h3)];exact h3,aH.up h4 h2 hr⟩
def VsZ.dv{H:Hp}{room:Int}{r:Addr}{zs:List Vz}(h:VsZ H room r zs){z:Vz}(hz:z∈zs):DvA H z.1 z.2.1 z.2.2/\SmV room z.2.1 z.2.2:=by
 obtain⟨h1,l,_,h3,h4⟩:=h z hz;exact⟨⟨l,h3,h4⟩,h1⟩
structure AxD(A:%[0|48]):Prop where
 len:A.length<=2
 sz:∀ a∈A,(1<=a.1/\a.1<=4)/\(-5<=a.2/\a.2<=5)
 pr:aj (A.map λ a=>a.1)<=16
 sp:br A - bj A<=18
 lo:bj A<=0
 hi:0<=br A
def uK{s p:Int}(h:1<=s/\s<=4)(hp:-3<=p/\p<=5):max 0 ((s - 1) * p) - min 0 ((s - 1) * p)<=15:=by
 have hs:s=1\/s=2\/s=3\/s=4:=by omega
 rcases hs with rfl|rfl|rfl|rfl
 ·show max 0 (0 * p) - min 0 (0 * p)<=15;omega
 ·show max 0 (1 * p) - min 0 (1 * p)<=15;omega
 ·show max 0 (2 * p) - min 0 (2 * p)<=15;omega
 ·show max 0 (3 * p) - min 0 (3 * p)<=15;omega
def IM{s p:Int}(h:1<=s/\s<=4)(hp:-3<=p/\p<=5):AxD [(s,p)]:=by
 have e1:bj [(s,p)]=min 0 ((s - 1) * p):=by show min 0 ((s - 1) * p)+0=_;omega
 have e2:br [(s,p)]=max 0 ((s - 1) * p):=by show max 0 ((s - 1) * p)+0=_;omega
 have:=uK h hp;refine⟨by simp,λ a ha=>?_,?_,by rw [e1,e2];omega,by rw [e1];omega,by rw [e2];omega⟩
 ·rw [Qo.mp ha];exact⟨h,by show -5<=p/\p<=5;omega⟩
 ·show aj [s]<=16
  have:aj [s]=s:=by simp [aj]
  omega
def IL{s p q:Int}(h:1<=s/\s<=4)(hp:-3<=p/\p<=5)(hq:-3<=q/\q<=3):AxD [(2,q),(s,p)]:=by
 have e1:bj [(2,q),(s,p)]=min 0 ((2 - 1) * q)+min 0 ((s - 1) * p):=by show min 0 ((2 - 1) * q)+(min 0 ((s - 1) * p)+0)=_;omega
 have e2:br [(2,q),(s,p)]=max 0 ((2 - 1) * q)+max 0 ((s - 1) * p):=by show max 0 ((2 - 1) * q)+(max 0 ((s - 1) * p)+0)=_;omega
 have:=uK h hp;refine⟨by simp,λ a ha=>?_,?_,by rw [e1,e2];omega,by rw [e1];omega,by rw [e2];omega⟩
 ·rcases QG.mp ha with rfl|ha
  ·exact⟨by show (1:Int)<=2/\(2:Int)<=4;omega,by show -5<=q/\q<=5;omega⟩
  ·rw [Qo.mp ha];exact⟨h,by show -5<=p/\p<=5;omega⟩
 ·show aj [2,s]<=16
  have:aj [2,s]=2 * s:=by simp [aj]
  omega
def SoI(H H':Hp)(room:Int)(r:Addr)(n:Nat):Prop:=Ext H H'/\∃ zs:List Vz,H' r=some (.lst (zs.map λ z=>V.ref z.1))/\zs.length=n/\VsZ H' room r zs
abbrev qz(K:PySem.W.Frag)(a:Addr)(ns:List Int)(s:Addr)(i:Int)(room:Int)(H:Hp)(Q:VK)(E:XK):Prop:=s=a/\SqL K H a (ns.map V.int)/\ns.length<=63/\0<=i/\i<=60/\20<=room/\room<=60/\∀ (r:Addr) (H':Hp),SoI H H' room r 4->Q (.ref r) H'
def rZ(K:W.Frag)(a:Addr)(ns:List Int):Sp:=λ vs H Q E=>∃ (s:Addr) (i:Int) (room:Int),vs=[.ref s,.int i,.int room]/\(qz K a ns s i room H Q E)
def A6(K:W.Frag)(a:Addr)(ns:List Int)(s:Addr)(i:Int)(room:Int)(H:Hp)(Q:VK)(E:XK):rZ K a ns [.ref s,.int i,.int room] H Q E=(qz K a ns s i room H Q E):=wX (f:=λ (s:Addr) (i:Int) (room:Int)=>[.ref s,.int i,.int room]) (λ _ _ _ _ _ _ h=>by cases h;exact⟨rfl,rfl,rfl⟩) s i room
def qM(T:Tx K mg t)(a:Addr)(ns:List Int):%[2,CO|49] ["_law_script", "_law_at", "_law_room"] (rZ K a ns):=by
 have G_CM:=%[gq|43] a ns;refine T.F_CO.ok aZ (λ _ _ _ _ h=>wY h λ _ _ _=>rfl) (λ cdv A' outer s H vs Q E hr h=>?_)
 ·obtain⟨_,i0,room,rfl,rfl,hS,hl,dc,de,dr,du,k⟩:=h;rename_i a;refine⟨_,%[%[3,aZ,%[(@cq _)|13]|4],%[%[Qu,rfl,%[∅,T.z_range,%[%[0|2]|1],∅|35],%[4,aZ|5],%[%[5,aZ,%[CM,%[%[0|0],%[%[bF,%[1|0],%[4|0]|11],%[%[kd,%[0|2],%[0|2]|11]|1]|1]|1]|3]|4],%[%[6,aZ,%[bF,%[0|2],%[fA,%[5|0],%[0|2]|11]|11]|4],%[%[7,aZ,%[cW,%[%[%[0|2],%[%[0|2],%[%[0|2],%[%[0|2],%[%[0|2],%[(@Bs _ _ _ _ _ _ nj %[0|2]),%[(@Bs _ _ _ _ _ _ nj %[0|2]),%[(@Bs _ _ _ _ _ _ nj %[0|2])|1]|1]|1]|1]|1]|1]|1]|1]|13],%[fA,%[gX,%[5|0],%[0|2]|11],%[0|2]|11],(λ _ _=>rfl)|14]|4],%[%[8,aZ,%[%[%[%[%[6|0],%[%[7|0]|1]|1]|22]|1]|13]|4],%[%[%[(cM hr.units),%[fA,%[gX,%[5|0],%[0|2]|11],%[0|2]|11],%[0|2],(aG _)|20],%[%[8,aZ,%[cG,%[%[%[%[%[0|2],%[%[js,%[fA,%[gX,%[5|0],%[0|2]|11],%[0|2]|11],%[0|2]|11]|1]|1]|22]|1]|13],%[8|0]|11]|4]|9],(@aF _)|23],%[%[9,aZ,%[sum,(iK rfl),%[%[(%[|101]),(1),(aV (aa dg) %[|107] rfl rfl nofun),rfl,%[%[8|0]|18],(λ _ _ _ _ _=>%[(0),%[|101]|51]),(λ _ _ _ _ _=>(@bo _)),(λ _ _ _ _ _=>%[min,(qf rfl),%[%[0|2],%[%[gR,%[cW,%[0|0],%[0|2],(λ _ _=>rfl)|14],%[js,%[cW,%[0|0],%[0|2],(λ _ _=>rfl)|14],%[0|2]|11]|11]|1]|1]|6]),(by intros;rfl)|29]|1]|6]|4],%[%[10,aZ,%[sum,(iK rfl),%[%[(%[|101]),(1),(aV (aa dg) %[|107] rfl rfl nofun),rfl,%[%[8|0]|18],(λ _ _ _ _ _=>%[(0),%[|101]|51]),(λ _ _ _ _ _=>(@bo _)),(λ _ _ _ _ _=>%[max,(qg rfl),%[%[0|2],%[%[gR,%[cW,%[0|0],%[0|2],(λ _ _=>rfl)|14],%[js,%[cW,%[0|0],%[0|2],(λ _ _=>rfl)|14],%[0|2]|11]|11]|1]|1]|6]),(by intros;rfl)|29]|1]|6]|4],%[%[%[QJ,Sa,R9,fT,%[3|0],%[%[%[%[js,%[fA,%[gX,%[5|0],%[0|2]|11],%[bF,%[js,%[2|0],%[10|0]|11],%[9|0]|11]|11],%[9|0]|11],%[%[8|0]|1]|1]|22]|1],∅,∅,∅,∅,∅|33],∅|15]|9]|10]|10]|10]|10]|10]|10]|10],(by intros;rfl)|19],%[%[%[3|0]|12]|9]|10]|10],?_⟩;rw [%[%[|107],[.ref a,.int i0,.int room],8|53]];clear G_CM;exists k;ac_rfl;intro r H1 b4 e1 h1;have b5:SoI H H1 room r 0:=⟨e1,[],h1,rfl,λ z hz=>absurd hz QC⟩;clear h1 e1;ac_rfl;refine sN (λ j σ H'=>∃ v5 v6 v7 v8 v9 v10 v11:Option V,σ=[%[a|45],%[i0|47],%[room|47],%[r|45],v5,v6,v7,v8,v9,v10,v11]/\SoI H H' room r j) ⟨none,none,none,none,none,none,none,rfl,b5⟩ ?_ ?_
  ·clear b5 k;rintro j _ H2 hj ⟨v5,v6,v7,v8,v9,v10,v11,rfl,e2,zs,h2,cv,vz⟩;have dy:j < 4:=hj;have cA:=e2.2 K a _ hS;exists vz;clear hj;simp! only [↓aw];rw [dH];refine⟨cA,hl,⟨by omega,by omega⟩,by decide,λ c c0 c1=>?_⟩;ac_rfl;intro l3 H3 _ e3 h3;ac_rfl;refine kF (λ v=>∃ p:Int,v=.int p/\-3<=p/\p<=5) %[0|8] (by show _ < (8:Int);omega) (λ v hv=>?_) λ v hv=>?_
   ·simp only [QG,QC,Rr] at hv
    rcases hv with rfl|rfl|rfl|rfl|rfl|rfl|rfl|rfl<;>exact⟨_,rfl,by decide,by decide⟩
   obtain⟨pc,rfl,b6,b7⟩:=hv;clear h3;obtain⟨sz,hsz⟩:∃ sz,1+c % 4=sz:=⟨_,rfl⟩;have cc:1<=sz/\sz<=4:=by omega
   ac_rfl;intro t4 H4 _ e4 h4;ac_rfl;intro l5 H5 a6 e5 h5;have tA:aH H5 l5 (axL [(sz,pc)]):=⟨_,h5,Al.cons' ⟨t4,rfl,e5.at h4⟩ Al.nil⟩;have cf:=e3.trans (e4.trans e5);have cJ:l5 ≠ r:=λ e=>by rw [e] at a6;rw [(e3.trans e4).at h2] at a6;cases a6
   exists tA;clear h4 hsz e3 e4 e5 a6;simp! only [-xZ];refine Ej (λ σ' H'=>∃ (l:Addr) (A:%[0|48]),σ'=[%[a|45],%[i0|47],%[room|47],%[r|45],some (.int (0+(j:Int))),%[c|47],%[sz|47],%[pc|47],%[l|45],v10,v11]/\Ext H5 H'/\l ≠ r/\aH H' l (axL A)/\AxD A) (λ dz hn=>?_) ?_
   ·exists hn
    by_cases hb:c / 32 % 2=1
    ·ac_rfl;intro t6 H6 _ e6 h6;ac_rfl;intro l7 H7 _ e7 h7;have a9:=(e6.trans e7).at h5;refine cF h7 a9 (az (by simp)) ?_;intro l8 H8 a7 e8 h8;have cg:=e6.trans (e7.trans e8);have cN:l8 ≠ r:=λ e=>by rw [e] at a7;rw [(cf.trans (e6.trans e7)).at h2] at a7;cases a7
     have ck:∃ ys,H8 l8=some (.lst (.ref t6::ys))/\Al (ud H8) (axL [(sz,pc)]) ys:=by
      obtain⟨ys,hy,al⟩:=tA ();rw [h5] at hy;cases hy;exact⟨_,h8,al.imp λ _ _ t=>t.ext cg⟩
     obtain⟨ys,hy,al⟩:=ck;have tB:aH H8 l8 (axL [(2,c / 64 % 7 - 3),(sz,pc)]):=⟨_,hy,Al.cons' ⟨t6,rfl,(e7.trans e8).at h6⟩ al⟩;exists tB;clear h6 h7 a9 h8 a7 al hy e6 e7 e8;ac_rfl;exact hn () _ _ ⟨l8,_,rfl,cg,cN,tB (),IL cc ⟨b6,b7⟩ ⟨by omega,by omega⟩⟩
    ·ac_rfl;exact hn () _ _ ⟨l5,_,rfl,Ext.refl _,cJ,tA (),IM cc ⟨b6,b7⟩⟩
   clear tA h5;rintro _ H6 ⟨l,A,rfl,e6,nl,⟨ys,hy,al⟩,ad⟩;have cT:=cf.trans e6;have a2:=ad.len;have bp:=λ (_:Unit)=>ad.sz;have wk:=jV (K:=K) (R:=axP) (λ _ _ _ _ h e=>h.ext e) hy (my al);exists al;ac_rfl;refine bK A (λ _=>true) (λ a=>.int (min 0 ((a.1 - 1) * a.2))) axP wk.1 wk.2 (az %[0|8]) ?_ ?_
   ·intro D2 z x H7 M1 M0 hz cV e7 ⟨aq,hx,c2⟩ k2 _;subst hx;have bt:M1 (.int (min 0 ((z.1 - 1) * z.2))) H7:=k2 rfl H7 (Ext.refl _);have c3:=bp () z hz;have cm:rJ z.2 (z.1 - 1):=.inr ⟨by omega,by omega⟩;rw [OZ,Int.mul_comm] at bt;clear k2 hz wk;simp! only [↓aN,↓aU]
   intro D7 H7 c4 e7 h7;have c5:H7 D7=some (.lst ((A.map λ a=>min 0 ((a.1 - 1) * a.2)).map V.int)):=by rw [h7,rH,RQ];rfl
   have ar:(A.map λ a=>min 0 ((a.1 - 1) * a.2)).sum=bj A:=rfl;have b1:=e7.at hy;have a8:=jV (K:=K) (R:=axP) (λ _ _ _ _ h e=>h.ext e) b1 ((my (al ())).imp λ _ _ t=>axP.ext t e7);clear h7 c4 wk hy;ac_rfl;clear ar c5;refine bK A (λ _=>true) (λ a=>.int (max 0 ((a.1 - 1) * a.2))) axP a8.1 a8.2 (az %[0|8]) ?_ ?_
   ·intro D2 z x H8 M1 M0 hz cV e8 ⟨aq,hx,c2⟩ k2 _;subst hx;have bt:M1 (.int (max 0 ((z.1 - 1) * z.2))) H8:=k2 rfl H8 (Ext.refl _);have c3:=bp () z hz;have cm:rJ z.2 (z.1 - 1):=.inr ⟨by omega,by omega⟩;rw [O0,Int.mul_comm] at bt;clear k2 hz a8;simp! only [↓aN,↓aU]
   intro D8 H8 c6 e8 h8;have c7:H8 D8=some (.lst ((A.map λ a=>max 0 ((a.1 - 1) * a.2)).map V.int)):=by rw [h8,rH,RQ];rfl
   have ar:(A.map λ a=>max 0 ((a.1 - 1) * a.2)).sum=br A:=rfl;have cn:=e7.trans e8;have b2:=cT.trans cn;have bb:=b2.at h2;have b3:aH H8 l (axL A):=⟨ys,e8.at b1,(al ()).imp λ _ _ t=>t.ext cn⟩;have ap:=ad.sp;have a3:=ad.lo;have a4:=ad.hi;have c8:=ad.pr;have hm:0 < room - br A+bj A:=by omega
   exists b3;clear h8 c6 a8 b1;ac_rfl;clear ar c7;intro t9 H9 _ e9 h9;have a5:=e9.at bb;have q1:=Ry (c / 1000) (show room - br A+bj A ≠ 0 by omega);have q2:=Ro (c / 1000) hm;have sv:SmV room (c / 1000 % (room - br A+bj A) - bj A) A:=⟨a2,bp (),c8,by omega,by omega⟩
   have fin:SoI H (upd H9 r (.lst ((zs.map λ z=>V.ref z.1)++[.ref t9]))) room r (j+1):=by
    refine⟨(e2.trans (b2.trans e9)).put b4,zs++[(t9,c / 1000 % (room - br A+bj A) - bj A,A)],by rw [Rl];exact af,by rw [Qw,cv];rfl,λ z hz=>?_⟩
    rcases QF.mp hz with hz|hz
    ·exact(((vz ()).ext (b2.trans e9)).upd a5) z hz
    ·rw [Qo.mp hz];exact⟨sv,l,nl,by show upd H9 r _ t9=_;rw [ae (λ e=>by rw [e,a5] at h9;cases h9)];exact h9,aH.up ((b3 ()).ext e9) nl a5⟩
   have da:zs.length < sizeLine:=Ef %[0|8];have c9:j < sizeLine:=Ef %[0|8];clear sv q1 q2 b3 h9 bb vz;ac_rfl
   first|exact⟨_,_,_,_,_,_,_,rfl,fin⟩|exact⟨_,_,_,_,_,_,_,rfl⟩
  ·rintro _ H2 ⟨v5,v6,v7,v8,v9,v10,v11,rfl,so⟩;have cp:SoI H H2 room r 4:=so;have k2:=k () r H2 cp;clear k so cp;ac_rfl
abbrev Dd:=Addr × Nat × Int × Vz × Vz
def DrD(zs:List Vz)(H:Hp)(d:Dd)(y:V):Prop:=y=.ref d.1/\d.2.1 < 5/\d.2.2.2.1∈zs/\d.2.2.2.2∈zs/\aj (d.2.2.2.1.2.2.map λ a=>a.1)=aj (d.2.2.2.2.2.2.map λ a=>a.1)/\H d.1=some (.tup [.int (d.2.1:Int),.ref d.2.2.2.1.1,.ref d.2.2.2.2.1,.int d.2.2.1])
def DrD.ext{zs:List Vz}{H H':Hp}{d:Dd}{y:V}(h:DrD zs H d y)(e:Ext H H'):DrD zs H' d y:=by
 obtain⟨h1,h2,h3,h4,h5,h6⟩:=h;exact⟨h1,h2,h3,h4,h5,e.at h6⟩
def DrD.upd{zs:List Vz}{H:Hp}{d:Dd}{y:V}{r:Addr}{xs:List V}{o:HO}(h:DrD zs H d y)(hr:H r=some (.lst xs)):DrD zs (upd H r o) d y:=by
 obtain⟨h1,h2,h3,h4,h5,h6⟩:=h;exact⟨h1,h2,h3,h4,h5,by rw [ae (λ e=>by rw [e,hr] at h6;cases h6)];exact h6⟩
def DrD.a{zs:List Vz}{H:Hp}{room:Int}{r:Addr}{d:Dd}{y:V}(h:DrD zs H d y)(vz:VsZ H room r zs):DrA H d.1 room d.2.1 d.2.2.1 d.2.2.2.1.2.1 d.2.2.2.1.2.2 d.2.2.2.2.2.1 d.2.2.2.2.2.2:=by
 obtain⟨_,h2,h3,h4,h5,h6⟩:=h;exact⟨h2,(vz.dv h3).2,(vz.dv h4).2,h5,_,_,h6,(vz.dv h3).1,(vz.dv h4).1⟩
abbrev m7  (p:Addr) (c:Int) (H:Hp) (Q:VK) (E:XK):Prop:=∃ (room:Int) (r0:Addr) (zs:List Vz),H p=some (.lst (zs.map λ z=>V.ref z.1))/\VsZ H room r0 zs/\zs.length=4/\0<=c/\∀ (d:Dd) (H':Hp),Ext H H'->DrD zs H' d (.ref d.1)->Q (.ref d.1) H'
def nX  : Sp:=λ vs H Q E=>∃ (p:Addr) (c:Int),vs=[.ref p,.int c]/\(m7  p c H Q E)
def jk  (p:Addr) (c:Int) (H:Hp) (Q:VK) (E:XK):nX  [.ref p,.int c] H Q E=(m7  p c H Q E):=lN (f:=λ (p:Addr) (c:Int)=>[.ref p,.int c]) (λ _ _ _ _ h=>by cases h;exact⟨rfl,rfl⟩) p c
def oG(T:Tx K mg t):%[2,As|49] ["_law_views", "_law_cell"] nX:=by
 have G_Au:=%[oH|43];refine T.F_As.ok dU (λ _ _ _ _ h=>lO h λ _ _=>rfl) (λ cdv A' outer s H vs Q E hr h=>?_)
 ·obtain⟨p,c,rfl,room,r0,zs,hp,vz,b3,b4,k⟩:=h;refine⟨_,%[(@gQ _ _ (2) _ _ _ _ dU.nd rfl (Or.inr rfl) %[cW,%[0|0],%[fA,%[gX,%[1|0],%[0|2]|11],%[len,bh,%[%[0|0]|1]|6]|11],(λ _ _=>rfl)|14] ∅ %[0|7]),%[%[(%[|119]),(1),(3),_,dU.nd,rfl,(Or.inl rfl),(aV (aa dI) %[|122] rfl rfl nofun),rfl,%[%[0|0]|18],(λ _ _ _ _ _=>%[(0),%[|119]|51]),(λ _ _ _ _ _=>(@nu _ _ _ %[(cM hr.units),%[Au,%[%[0|0]|1]|3],%[Au,%[%[3|0]|1]|3],(aG _)|20])),(λ _ _ _ _ _=>%[0|0]),∅,(by intros;rfl),%[0|7]|38],%[%[4,dU,%[cW,%[3|0],%[fA,%[gX,%[1|0],%[0|2]|11],%[len,bh,%[%[3|0]|1]|6]|11],(λ _ _=>rfl)|14]|4],%[%[%[%[%[fA,%[1|0],%[0|2]|11],%[%[2|0],%[%[4|0],%[%[fA,%[gX,%[1|0],%[0|2]|11],%[0|2]|11]|1]|1]|1]|1]|22]|12]|9]|10]|10]|10],?_⟩;rw [%[%[|122],[.ref p,.int c],3|53]];clear G_Au;exists k;exists vz;have b2:0 < (zs.length:Int):=by omega
  ac_rfl;refine kF (λ v=>∃ z∈zs,v=.ref z.1) %[0|8] (by rw [Qk];omega) (λ v hv=>?_) λ v hv=>?_
  ·obtain⟨z,hz,rfl⟩:=QN.mp hv;exact⟨z,hz,rfl⟩
  obtain⟨z1,a4,rfl⟩:=hv;obtain⟨a8,a9⟩:=(vz ()).dv a4
  have al:Al (λ (z:Vz) y=>y=V.ref z.1/\z∈zs) zs (zs.map λ z=>V.ref z.1):=⟨by rw [Qk],λ i z y hz hy=>by
   rw [Qq,hz] at hy;cases hy;exact⟨rfl,Qr hz⟩⟩
  have wk:=jV (K:=K) (R:=λ (z:Vz) y _=>y=V.ref z.1/\z∈zs) (λ _ _ _ _ h e=>h) hp al;clear al;ac_rfl;refine bK zs (λ z=>decide (aj (z.2.2.map λ a=>a.1)=aj (z1.2.2.map λ a=>a.1))) (λ z=>.ref z.1) (λ z y H'=>y=V.ref z.1/\z∈zs) wk.1 wk.2 (az %[0|8]) ?_ ?_
  ·intro D z y H' N1 N0 hz hD e ⟨hy,_⟩ k1 k0;subst hy;obtain⟨dv,sv⟩:=(vz ()).dv hz;have bb:=dv.ext e;have a5:=a8.ext e;clear hz wk k;simp! only [↓aN,↓aU];rw [mQ];refine⟨z.2.1,room,z.2.2,bb,sv,?_⟩;simp! only [↓aN,↓aU];rw [mQ];refine⟨z1.2.1,room,z1.2.2,a5,a9,?_⟩
   by_cases ar:aj (z.2.2.map λ a=>a.1)=aj (z1.2.2.map λ a=>a.1)
   ·have b5:N1 (.ref z.1) H':=k1 (Rh ar) H' (Ext.refl _);clear k1 k0;simp! only [↓aN,↓aU]
   ·have b6:N0 H':=k0 (QW ar) H' (Ext.refl _);clear k1 k0;simp! only [↓aN,↓aU]
  intro D1 H1 bp e1 h1;have a6:z1∈zs.filter λ z=>decide (aj (z.2.2.map λ a=>a.1)=aj (z1.2.2.map λ a=>a.1)):=Rx.mpr ⟨a4,Rh rfl⟩;have aq:∀ z∈zs.filter (λ z=>decide (aj (z.2.2.map λ a=>a.1)=aj (z1.2.2.map λ a=>a.1))),z∈zs/\aj (z.2.2.map λ a=>a.1)=aj (z1.2.2.map λ a=>a.1):=λ z hz=>⟨(Rx.mp hz).1,of_decide_eq_true (Rx.mp hz).2⟩;generalize (zs.filter λ z=>decide (aj (z.2.2.map λ a=>a.1)=aj (z1.2.2.map λ a=>a.1)))=F at *
  have bt:0 < (F.length:Int):=by
   cases F with
   | nil=>cases a6
   | cons a b=>rw [RA];omega
  exists aq;clear wk bp a6;ac_rfl;refine kF (λ v=>∃ z∈F,v=.ref z.1) (Ry _ %[0|8]) (by rw [Qk];exact Ro _ bt) (λ v hv=>?_) λ v hv=>?_
  ·obtain⟨z,hz,rfl⟩:=QN.mp hv;exact⟨z,hz,rfl⟩
  obtain⟨z2,a7,rfl⟩:=hv;obtain⟨a3,ar⟩:=aq () z2 a7;obtain⟨b7,cc⟩:=(vz ()).dv a3;obtain⟨w',hw'⟩:∃ w':Nat,c % 5=(w':Int):=⟨(c % 5).toNat,by omega⟩;have b1:w' < 5:=by omega
  clear a7 aq;ac_rfl;intro d H2 _ e2 h2;exact k () (d,w',_,z1,z2) H2 (e1.trans e2) ⟨rfl,b1,a4,a3,ar.symm,h2⟩
def SmV.vok{room f:Int}{A:%[0|48]}(h:SmV room f A)(h1:1<=room)(h2:room<=1000000):kh room f A:=by
 obtain⟨s1,s2⟩:=iH A λ a ha=>(h.axes.2 a ha).1;have:=h.lo;have:=h.hi;exact⟨h.axes,h1,by omega,by rw [s1];omega,by rw [s2];omega⟩
def at3{x0 x1 x2:Addr}{w:Nat}(h2:2<=w)(hw:w < 5):∃ x,atI [V.ref x0,V.ref x1,V.ref x2] ((w:Int) - 2)=%[x|45]/\((w=2/\x=x0)\/(w=3/\x=x1)\/(w=4/\x=x2)):=by
 match w,h2,hw with
 | 2,_,_=>exact⟨x0,bL (j:=0) rfl,.inl ⟨rfl,rfl⟩⟩
 | 3,_,_=>exact⟨x1,bL (j:=1) rfl,.inr (.inl ⟨rfl,rfl⟩)⟩
 | 4,_,_=>exact⟨x2,bL (j:=2) rfl,.inr (.inr ⟨rfl,rfl⟩)⟩
def VwF(C:Addr)(H0 H:Hp)(x:Addr)(room:Int)(cs:List Int):Prop:=∃ f A dx l,H x=some (.ins C dx (cO room f l))/\H0 l=none/\aH H l (axL A)/\dD A/\aj (A.map λ a=>a.1)<=4096/\ai f A=cs
def VwF.ext{C:Addr}{H0 H H':Hp}{x:Addr}{room:Int}{cs:List Int}(h:VwF C H0 H x room cs)(e:Ext H H'):VwF C H0 H' x room cs:=by
 obtain⟨f,A,dx,l,h1,h2,h3,h4⟩:=h;exact⟨f,A,dx,l,e.at h1,h2,h3.ext e,h4⟩
def VwZ(C:Addr)(z:Addr)(H:Hp)(x:Addr)(room:Int)(cs:List Int):Prop:=∃ f A dx l,H x=some (.ins C dx (cO room f l))/\l ≠ z/\aH H l (axL A)/\dD A/\aj (A.map λ a=>a.1)<=4096/\ai f A=cs
def VwF.z{C:Addr}{H0 H:Hp}{x z:Addr}{room:Int}{cs:List Int}{o:HO}(h:VwF C H0 H x room cs)(hz:H0 z=some o):VwZ C z H x room cs:=by
 obtain⟨f,A,dx,l,h1,h2,h3⟩:=h;exact⟨f,A,dx,l,h1,(λ e=>by rw [e,hz] at h2;cases h2),h3⟩
def VwZ.ext{C z:Addr}{H H':Hp}{x:Addr}{room:Int}{cs:List Int}(h:VwZ C z H x room cs)(e:Ext H H'):VwZ C z H' x room cs:=by
 obtain⟨f,A,dx,l,h1,h2,h3,h4⟩:=h;exact⟨f,A,dx,l,e.at h1,h2,h3.ext e,h4⟩
def VwZ.upd{C z:Addr}{H:Hp}{x:Addr}{room:Int}{cs:List Int}{xs:List V}{o:HO}(h:VwZ C z H x room cs)(hz:H z=some (.lst xs)):VwZ C z (upd H z o) x room cs:=by
 obtain⟨f,A,dx,l,h1,h2,h3,h4⟩:=h;exact⟨f,A,dx,l,by rw [ae (λ e=>by rw [e,hz] at h1;cases h1)];exact h1,h2,aH.up h3 h2 hz,h4⟩
def VwZ.c{C z:Addr}{H:Hp}{x:Addr}{room:Int}{cs:List Int}(h:VwZ C z H x room cs):VwC C H x room cs:=by
 obtain⟨f,A,dx,l,h1,_,h3,h4⟩:=h;exact⟨f,A,⟨dx,l,h1,h3⟩,h4⟩
def StW(t:Adr)(H:Hp)(s:Addr)(w:Nat)(u v:Addr)(z:Int):Prop:=w < 5/\∃ dx,H s=some (.ins (pq t w) dx (vm w u v (.int z)))
def StW.ext{t:Adr}{H H':Hp}{s:Addr}{w:Nat}{u v:Addr}{z:Int}(h:StW t H s w u v z)(e:Ext H H'):StW t H' s w u v z:=by
 obtain⟨h1,dx,h2⟩:=h;exact⟨h1,dx,e.at h2⟩
def StW.at{t:Adr}{H:Hp}{s:Addr}{w:Nat}{u v:Addr}{z:Int}(h:StW t H s w u v z):Bj t H s w u v:=by
 obtain⟨h1,dx,h2⟩:=h;exact⟨h1,dx,_,h2⟩
def StF(t:Adr)(H0 H:Hp)(s:Addr)(w:Nat)(x:Int)(room:Int)(a b:List Int):Prop:=∃ u v,StW t H s w u v x/\(1<=w->VwF t.a_UH H0 H u room a)/\(2<=w->VwF t.a_UH H0 H v room b)
def StZ(t:Adr)(z:Addr)(H:Hp)(s:Addr)(w:Nat)(x:Int)(room:Int)(a b:List Int):Prop:=∃ u v,StW t H s w u v x/\(1<=w->VwZ t.a_UH z H u room a)/\(2<=w->VwZ t.a_UH z H v room b)
def StF.z{t:Adr}{H0 H:Hp}{s z:Addr}{w:Nat}{x room:Int}{a b:List Int}{o:HO}(h:StF t H0 H s w x room a b)(hz:H0 z=some o):StZ t z H s w x room a b:=by
 obtain⟨u,v,h1,h2,h3⟩:=h;exact⟨u,v,h1,λ q=>(h2 q).z hz,λ q=>(h3 q).z hz⟩
def StZ.ext{t:Adr}{z:Addr}{H H':Hp}{s:Addr}{w:Nat}{x room:Int}{a b:List Int}(h:StZ t z H s w x room a b)(e:Ext H H'):StZ t z H' s w x room a b:=by
 obtain⟨u,v,h1,h2,h3⟩:=h;exact⟨u,v,h1.ext e,λ q=>(h2 q).ext e,λ q=>(h3 q).ext e⟩
def StZ.upd{t:Adr}{z:Addr}{H:Hp}{s:Addr}{w:Nat}{x room:Int}{a b:List Int}{xs:List V}{o:HO}(h:StZ t z H s w x room a b)(hz:H z=some (.lst xs)):StZ t z (upd H z o) s w x room a b:=by
 obtain⟨u,v,⟨h0,dx,h1⟩,h2,h3⟩:=h;exact⟨u,v,⟨h0,dx,by rw [ae (λ e=>by rw [e,hz] at h1;cases h1)];exact h1⟩,λ q=>(h2 q).upd hz,λ q=>(h3 q).upd hz⟩
def SmV.vwf{C:Addr}{H0 H:Hp}{x dx l:Addr}{room f:Int}{A:%[0|48]}(h:SmV room f A)(hx:H x=some (.ins C dx (cO room f l)))(hl:H0 l=none)(tt:aH H l (axL (A.map ba))):VwF C H0 H x room (ai f A):=⟨f,_,dx,l,hx,hl,tt,h.axes.kept,by rw [eO];have:=h.pr;omega,jh f A λ a ha=>(h.axes.2 a ha).1⟩
def si(t:Adr):Sp:=λ vs H Q E=>∃ (d:Addr) (room:Int),vs=[.ref d,.int room]/\(∃ (w:Nat) (x f1:Int) (A1:%[0|48]) (f2:Int) (A2:%[0|48]),DrA H d room w x f1 A1 f2 A2/\1<=room/\room<=1000000/\∀ (s:Addr) (H':Hp),Ext H H'->StF t H H' s w x room (ai f1 A1) (ai f2 A2)->Q (.ref s) H')
def A8(t:Adr)(d:Addr)(room:Int)(H:Hp)(Q:VK)(E:XK):si t [.ref d,.int room] H Q E=(∃ (w:Nat) (x f1:Int) (A1:%[0|48]) (f2:Int) (A2:%[0|48]),DrA H d room w x f1 A1 f2 A2/\1<=room/\room<=1000000/\∀ (s:Addr) (H':Hp),Ext H H'->StF t H H' s w x room (ai f1 A1) (ai f2 A2)->Q (.ref s) H'):=lN (f:=λ (d:Addr) (room:Int)=>[.ref d,.int room]) (λ _ _ _ _ h=>by cases h;exact⟨rfl,rfl⟩) d room
def qN(T:Tx K mg t):%[8,CP|49] ["_law_drawn_here", "_law_room"] (si t):=by
 have G_tI:=%[cK|43];have G_tL:=%[cL|43];have G_tM:=%[fC|43];have G_tN:=%[jF|43];have G_tH:=%[jm|43];refine T.F_CP.ok bO (λ _ _ _ _ h=>lO h λ _ _=>rfl) (λ cdv A' outer s H vs Q E hr h=>?_)
 ·obtain⟨d,room,rfl,w',x,f1,A1,f2,A2,⟨hw,s1,s2,b4,p1,p2,hd,⟨l1,dB,t1⟩,⟨l2,b5,t2⟩⟩,b6,b7,k⟩:=h;refine⟨_,%[%[%[0|0],(%[(4),rfl,%[%[2,bO|5],%[%[3,bO|5],%[%[4,bO|5],%[%[5,bO|5],(@aO _),∅|17],∅|17],∅|17],∅|17],∅,∅|25].mono λ _ _ _ _ h=>bR h),∅,∅,∅|36],%[%[6,bO,%[T.qC5,G_tI,(hr.mono ⋯),∅,T.m_UH,T.b_tI,.nil,aC,%[%[1|0],%[%[cW,%[3|0],%[0|2],(λ _ _=>rfl)|14],%[%[aY,∅,T.z_list,nofun,%[%[cW,%[3|0],%[0|2],(λ _ _=>rfl)|14]|1],⋯,⋯,∅,∅|30]|1]|1]|1],⋯,∅,∅|26]|4],%[%[7,bO,%[T.qC5,G_tI,(hr.mono ⋯),∅,T.m_UH,T.b_tI,.nil,aC,%[%[1|0],%[%[cW,%[4|0],%[0|2],(λ _ _=>rfl)|14],%[%[aY,∅,T.z_list,nofun,%[%[cW,%[4|0],%[0|2],(λ _ _=>rfl)|14]|1],⋯,⋯,∅,∅|30]|1]|1]|1],⋯,∅,∅|26]|4],%[%[%[(cM hr.units),%[2|0],%[0|2],(aG _)|20],%[%[(@kj _ _ _ _ _ T.qBq ∅ T.m_CW ⋯)|12]|9],(@aF _)|23],%[%[%[(cM hr.units),%[2|0],%[0|2],(aG _)|20],%[%[%[T.qD1,G_tL,(hr.mono ⋯),∅,T.m_UI,T.b_tL,.nil,aC,%[%[6|0],%[%[5|0]|1]|1],⋯,∅,∅|26]|12]|9],(@aF _)|23],%[%[%[cW,%[%[%[T.qEc,G_tM,(hr.mono ⋯),∅,T.m_UJ,T.b_tM,.nil,aC,%[%[6|0],%[%[7|0]|1]|1],⋯,∅,∅|26],%[%[T.qEh,G_tN,(hr.mono ⋯),∅,T.m_UK,T.b_tN,.nil,aC,%[%[6|0],%[%[7|0]|1]|1],⋯,∅,∅|26],%[%[T.qEe,G_tH,(hr.mono ⋯),∅,T.m_UG,T.b_tH,.nil,aC,%[%[6|0],%[%[7|0]|1]|1],⋯,∅,∅|26]|1]|1]|1]|13],%[js,%[2|0],%[0|2]|11],(λ _ _=>rfl)|14]|12]|9]|10]|10]|10]|10]|10],?_⟩;rw [%[["_law_drawn_here", "_law_room", "_law_way", "_law_one", "_law_other", "_law_value", "_law_to", "_law_source"],[.ref d,.int room],6|53]];clear G_tI G_tL G_tM G_tN G_tH;exists k;have vA:=s1.vok b6 b7;have vB:=s2.vok b6 b7;obtain⟨y1,dJ,cc⟩:=t1;obtain⟨y2,cf,cg⟩:=t2;exists cc;exists cg;ac_rfl;intro q6 H6 _ e6 h6;have ck:aH H6 q6 (axL A1):=⟨y1,h6,(cc ()).imp λ _ _ t=>t.ext e6⟩;have a3:=e6.at b5;have a4:=e6.at cf;clear hd dB b5 dJ cf;ac_rfl;intro u cm G1 cn cp cv g1 k1 dN;rw [cZ];refine⟨cm,A1,k1,aH.ext ck g1,vA,λ G2 D2 cA cJ ar a8=>?_⟩;have eg:=cA H6 g1 cn;have cN:av t.a_UH G2 u room f1 (A1.map ba):=⟨cm,D2,ar,a8⟩;have cT:=s1.vwf (H0:=H) ar ((e6.trans g1).free cJ) a8;exists cT;have a9:=eg.at a3;have bb:=eg.at a4;have a6:=e6.trans eg;clear h6 ck a3 a4 k1 dN cn cp cv g1 cA cJ ar a8 eg e6;ac_rfl;intro q8 G3 _ e8 h8;have cV:aH G3 q8 (axL A2):=⟨y2,h8,(cg ()).imp λ _ _ t=>t.ext (a6.trans e8)⟩;clear a9 bb;ac_rfl;intro v c0 G4 ar c1 c2 g4 k4 dS;rw [cZ];refine⟨c0,A2,k4,aH.ext cV g4,vB,λ G5 d0 c3 c4 bp bt=>?_⟩;have a7:=e8.trans (c3 G3 g4 ar);have b1:av t.a_UH G5 v room f2 (A2.map ba):=⟨c0,d0,bp,bt⟩;have w2:=s2.vwf (H0:=H) bp ((a6.trans (e8.trans g4)).free c4) bt;have w1:=(cT ()).ext a7;have a5:=cN.ext a7;have b2:=a6.trans a7;clear h8 cV k4 dS ar c1 c2 g4 c3 c4 bp bt cN a6 e8 a7;have aq:aj ((A1.map ba).map λ a=>a.1)=aj ((A2.map ba).map λ a=>a.1):=by rw [eO,eO];exact b4
  have xA:=s1.axes.kept;have xB:=s2.axes.kept;exists w1;exists w2;exists aq;clear b4
  by_cases hw0:w'=0
  ·subst hw0;ac_rfl;intro sx dx G6 _ _ _ e6 h6 _;have kf:=k () sx G6 (b2.trans e6) ⟨u,v,⟨by decide,dx,h6⟩,λ h=>absurd h ⋯,λ h=>absurd h ⋯⟩;clear k;ac_rfl
  by_cases hw1:w'=1
  ·subst hw1;ac_rfl;intro sx dx G6 d1 _ _ g6 k6 _;rw [iL];refine⟨dx,k6,λ G7 d2 h7=>?_⟩;have c5:=d2 G5 g6 d1;have kf:=k () sx G7 (b2.trans c5) ⟨u,v,⟨by decide,dx,h7⟩,λ _=>(w1 ()).ext c5,λ h=>absurd h ⋯⟩;clear k;ac_rfl
  have d4:¬ (w':Int)=0:=by omega
  have d5:¬ (w':Int)=1:=by omega
  ac_rfl;intro sa da Ga c6 _ _ ga ka _;rw [jv];refine⟨da,room,f1,f2,_,_,ka,a5.ext ga,b1.ext ga,xA,xB,aq (),λ Gb c7 hb=>?_⟩;have e1:=c7 G5 ga c6;clear ka c6 ga c7;ac_rfl;intro sb db Gc c8 _ _ gc kc _;rw [rl];refine⟨db,room,f1,f2,_,_,kc,a5.ext (e1.trans gc),b1.ext (e1.trans gc),xA,xB,aq (),λ Gd c9 hd=>?_⟩;have e2:=c9 Gb gc c8;have de:=e2.at hb;clear kc c8 gc c9 hb;ac_rfl;intro sc dc Ge dr _ _ ge ke _;rw [oZ];refine⟨dc,room,f1,f2,_,_,ke,a5.ext (e1.trans (e2.trans ge)),b1.ext (e1.trans (e2.trans ge)),xA,xB,aq (),λ Gf du hf=>?_⟩;have e3:=du Gd ge dr;have dy:=e3.at de;have dz:=e3.at hd;have d3:=e1.trans (e2.trans e3);clear ke dr ge du de hd;ac_rfl;intro L H8 _ e8 h8;obtain⟨sx,d6,dA⟩:=at3 (x0:=sa) (x1:=sb) (x2:=sc) (by omega:2<=w') hw;have b3:=d3.trans e8
  have st:StF t H H8 sx w' x room (ai f1 A1) (ai f2 A2):=by
   refine⟨u,v,?_,λ _=>(w1 ()).ext b3,λ _=>(w2 ()).ext b3⟩
   rcases dA with ⟨rfl,rfl⟩|⟨rfl,rfl⟩|⟨rfl,rfl⟩
   ·exact⟨hw,da,e8.at dy⟩
   ·exact⟨hw,db,e8.at dz⟩
   ·exact⟨hw,dc,e8.at hf⟩
  have kf:=k () sx H8 (b2.trans b3) st;clear k st dA dy dz hf;ac_rfl
def ph(ps:List (Nat × Int))(vals:List Int):List Int:=ps.foldl (λ vs p=>vs.set p.1 p.2) vals
def uz:∀ (ps:List (Nat × Int)) (vals:List Int),(ph ps vals).length=vals.length
 | [],_=>rfl
 | p::ps,vals=>by
  show (ph ps (vals.set p.1 p.2)).length=_
  rw [uz ps,SF]
def jN{k:Nat}:∀ {ps:List (Nat × Int)}{vals:List Int},(∀ p∈ps,p.1 ≠ k)->(ph ps vals)[k]? = vals[k]?
 | [],_,_=>rfl
 | p::ps,vals,h=>by
  show (ph ps (vals.set p.1 p.2))[k]? = _
  rw [jN λ q hq=>h q (Qt _ hq),Sw (h p Qv)]
def yo{k:Nat}:∀ {ps:List (Nat × Int)}{vals vals':List Int},vals.length=vals'.length->(∃ p∈ps,p.1=k)->(ph ps vals)[k]? = (ph ps vals')[k]?
 | [],_,_,_,⟨p,hp,_⟩=>by cases hp
 | p::ps,vals,vals',hl,h=>by
  show (ph ps (vals.set p.1 p.2))[k]? = (ph ps (vals'.set p.1 p.2))[k]?
  by_cases h':∃ q∈ps,q.1=k
  ·exact yo (by rw [SF,SF,hl]) h'
  ·have hn:∀ q∈ps,q.1 ≠ k:=λ q hq e=>h' ⟨q,hq,e⟩;rw [jN hn,jN hn];obtain⟨q,hq,rfl⟩:=h
   rcases QG.mp hq with rfl|hq
   ·rw [List.getElem?_set,List.getElem?_set,QE rfl,QE rfl,hl]
   ·exact absurd rfl (hn q hq)
def Bh(ps:%[0|48]):List (Nat × Int):=ps.map λ p=>(p.1.toNat,p.2)
def jP(vals cs ws:List Int):gU vals cs ws=ph (Bh (cs.zip ws)) vals:=by
 unfold gU ph Bh;rw [List.foldl_map]
def AI(vals cs:List Int)(z:Int):iX vals cs z=ph (cs.map λ c=>(c.toNat,z)) vals:=by
 unfold iX ph;rw [List.foldl_map]
def BP(ps qs:List (Nat × Int))(vals:List Int):ph qs (ph ps vals)=ph (ps++qs) vals:=by
 unfold ph;rw [foldl_append]
def rps(i:Nat)(vals c1 c2:List Int)(z:Int):List (Nat × Int):=match i with
 | 0=>[]
 | 1=>c1.map λ c=>(c.toNat,z)
 | 2=>Bh (c1.zip (aQ vals c2))
 | 3=>Bh (c1.zip (aQ vals c2))++Bh (c2.zip (aQ vals c1))
 | _=>Bh (c1.zip (List.zipWith (· + ·) (aQ vals c1) (aQ vals c2)))
def jO(i:Nat)(vals c1 c2:List Int)(z:Int):o9 i vals c1 c2 z=ph (rps i vals c1 c2 z) vals:=by
 match i with
 | 0=>rfl
 | 1=>exact AI _ _ _
 | 2=>exact jP _ _ _
 | 3=>
  show gU (gU vals c1 (aQ vals c2)) c2 (aQ vals c1)=_
  rw [jP,jP,BP];rfl
 | n+4=>exact jP _ _ _
def uB(i:Nat)(vals c1 c2:List Int)(z:Int):(o9 i vals c1 c2 z).length=vals.length:=by rw [jO,uz]
def jR{cs ws:List Int}{p:Nat × Int}(h:p∈Bh (cs.zip ws)):∃ c∈cs,p.1=c.toNat:=by
 obtain⟨q,hq,rfl⟩:=QN.mp h;exact⟨q.1,(SQ (show (q.1,q.2)∈cs.zip ws from hq)).1,rfl⟩
def iE{c:Int}:∀ {cs ws:List Int},ws.length=cs.length->c∈cs->∃ p∈Bh (cs.zip ws),p.1=c.toNat
 | [],_,_,h=>by cases h
 | x::cs,[],hl,h=>by cases hl
 | x::cs,y::ws,hl,h=>by
  rcases QG.mp h with rfl|h
  ·exact⟨_,Qv,rfl⟩
  ·obtain⟨p,hp,e⟩:=iE (cs:=cs) (ws:=ws) (by simpa using hl) h;exact⟨p,Qt _ hp,e⟩
def Ft{i:Nat}{vals c1 c2:List Int}{z:Int}{p:Nat × Int}(h:p∈rps i vals c1 c2 z):∃ c∈WrC i c1 c2,p.1=c.toNat:=by
 match i,h with
 | 0,h=>cases h
 | 1,h=>
  obtain⟨c,hc,rfl⟩:=QN.mp h;exact⟨c,hc,rfl⟩
 | 2,h=>exact jR h
 | 3,h=>
  rcases QF.mp h with h|h
  ·obtain⟨c,hc,e⟩:=jR h;exact⟨c,Qz _ hc,e⟩
  ·obtain⟨c,hc,e⟩:=jR h;exact⟨c,Qn _ hc,e⟩
 | n+4,h=>exact jR h
def iY(vals cs:List Int):(aQ vals cs).length=cs.length:=by unfold aQ;rw [length_map]
def Fu{i:Nat}{vals c1 c2:List Int}{z c:Int}(hl:2<=i->c1.length=c2.length)(h:c∈WrC i c1 c2):∃ p∈rps i vals c1 c2 z,p.1=c.toNat:=by
 match i,h with
 | 0,h=>cases h
 | 1,h=>exact⟨_,Sy h,rfl⟩
 | 2,h=>exact iE (by rw [iY];exact(hl ⋯).symm) h
 | 3,h=>
  rcases QF.mp h with h|h
  ·obtain⟨p,hp,e⟩:=iE (ws:=aQ vals c2) (by rw [iY];exact(hl ⋯).symm) h;exact⟨p,Qz _ hp,e⟩
  ·obtain⟨p,hp,e⟩:=iE (ws:=aQ vals c1) (by rw [iY];exact hl ⋯) h;exact⟨p,Qn _ hp,e⟩
 | n+4,h=>exact iE (by rw [S2,iY,iY,←hl %[0|8],SD]) h
def pE{vals vals' cs:List Int}(h:∀ c∈cs,vals.getD c.toNat 0=vals'.getD c.toNat 0):aQ vals cs=aQ vals' cs:=by
 unfold aQ;exact List.map_congr_left h
def Kg{i:Nat}{vals vals' c1 c2:List Int}{z:Int}(h:∀ c∈RdC i c1 c2,vals.getD c.toNat 0=vals'.getD c.toNat 0):rps i vals c1 c2 z=rps i vals' c1 c2 z:=by
 match i,h with
 | 0,h=>rfl
 | 1,h=>rfl
 | 2,h=>
  show Bh (c1.zip (aQ vals c2))=Bh (c1.zip (aQ vals' c2))
  rw [pE (vals:=vals) (vals':=vals') (cs:=c2) h]
 | 3,h=>unfold rps;rw [pE λ c hc=>h c (mem_append_left _ hc),pE λ c hc=>h c (mem_append_right _ hc)]
 | n+4,h=>unfold rps;rw [pE λ c hc=>h c (mem_append_left _ hc),pE λ c hc=>h c (mem_append_right _ hc)]
def Jj(i:Nat)(c1 c2:List Int):Prop:=∀ c∈WrC i c1 c2++RdC i c1 c2,0<=c
def ur{i j:Nat}{a b a' b':List Int}(h:ClC i a b j a' b'):ClC j a' b' i a b:=by
 rcases h with ⟨c,h1,h2⟩|⟨c,h1,h2⟩
 ·rcases QF.mp h2 with h2|h2
  ·exact .inl ⟨c,h2,Qz _ h1⟩
  ·exact .inr ⟨c,h1,h2⟩
 ·exact .inl ⟨c,h1,Qn _ h2⟩
def mm{i:Nat}{c1 c2:List Int}{z:Int}{k:Nat}(hk:∀ c∈WrC i c1 c2,c.toNat ≠ k)(vals:List Int):(o9 i vals c1 c2 z)[k]? = vals[k]?:=by
 rw [jO];refine jN λ p hp=>?_;obtain⟨c,hc,e⟩:=Ft hp;rw [e];exact hk c hc
def BV{i j:Nat}{c1 c2 e1 e2 vals:List Int}{z z':Int}(hn:¬ ClC i c1 c2 j e1 e2)(hl:2<=i->c1.length=c2.length)(ar:2<=j->e1.length=e2.length)(hp:Jj i c1 c2)(aq:Jj j e1 e2) :
  o9 i (o9 j vals e1 e2 z') c1 c2 z=o9 j (o9 i vals c1 c2 z) e1 e2 z':=by
 have half:∀ {i j:Nat} {c1 c2 e1 e2:List Int} {z z':Int} {k:Nat},¬ ClC i c1 c2 j e1 e2->(2<=i->c1.length=c2.length)->Jj i c1 c2->Jj j e1 e2->(∃ c∈WrC i c1 c2,c.toNat=k)->(o9 i (o9 j vals e1 e2 z') c1 c2 z)[k]? = (o9 j (o9 i vals c1 c2 z) e1 e2 z')[k]?:=by
  intro i j c1 c2 e1 e2 z z' k hn hl hp aq ⟨c,hc,hk⟩
  have nw:∀ d∈WrC j e1 e2,d.toNat ≠ k:=λ d hd e=>by
   have h1:=hp c (Qz _ hc);have h2:=aq d (Qz _ hd);have:d=c:=by omega
   subst this;exact hn (.inl ⟨d,hc,Qz _ hd⟩)
  rw [mm nw,jO i,jO i,Kg (vals':=vals)]
  ·refine yo (uB j vals e1 e2 z') ?_;obtain⟨p,a3,a4⟩:=Fu (vals:=vals) (z:=z) hl hc;exact⟨p,a3,a4.trans hk⟩
  ·intro d hd
   have:(o9 j vals e1 e2 z')[d.toNat]? = vals[d.toNat]?:=mm (λ f hf e=>by
    have h1:=hp d (Qn _ hd);have h2:=aq f (Qz _ hf);have:f=d:=by omega
    subst this;exact hn (.inr ⟨f,hf,hd⟩)) vals
   rw [QA,QA,this]
 refine Tf λ k=>?_
 by_cases h1:∃ c∈WrC i c1 c2,c.toNat=k
 ·exact half hn hl hp aq h1
 ·by_cases h2:∃ c∈WrC j e1 e2,c.toNat=k
  ·exact(half (λ h=>hn (ur h)) ar aq hp h2).symm
  ·have n1:∀ c∈WrC i c1 c2,c.toNat ≠ k:=λ c hc e=>h1 ⟨c,hc,e⟩;have n2:∀ c∈WrC j e1 e2,c.toNat ≠ k:=λ c hc e=>h2 ⟨c,hc,e⟩;rw [mm n1,mm n2,mm n2,mm n1]
abbrev Sd:=Nat × Int × List Int × List Int
def rnD(vals:List Int)(d:Sd):List Int:=o9 d.1 vals d.2.2.1 d.2.2.2 d.2.1
def xb(n:Nat)(d:Sd):Prop:=d.1 < 5/\(1<=d.1->bx d.2.2.1 n)/\(2<=d.1->bx d.2.2.2 n/\d.2.2.1.length=d.2.2.2.length)
def ClD(d d':Sd):Prop:=ClC d.1 d.2.2.1 d.2.2.2 d'.1 d'.2.2.1 d'.2.2.2
def xb.pos{n:Nat}{d:Sd}(h:xb n d):Jj d.1 d.2.2.1 d.2.2.2:=by
 obtain⟨w,z,c1,c2⟩:=d;obtain⟨_,h1,h2⟩:=h;replace h1:1<=w->bx c1 n:=h1;replace h2:2<=w->bx c2 n/\c1.length=c2.length:=h2;intro c hc
 match w,h1,h2,hc with
 | 0,_,_,hc=>cases hc
 | 1,h1,_,hc=>exact(h1 ⋯ c (by simpa [WrC,RdC] using hc)).1
 | 2,h1,h2,hc=>
  rcases (by simpa [WrC,RdC] using hc:c∈c1\/c∈c2) with q|q
  ·exact(h1 ⋯ c q).1
  ·exact((h2 ⋯).1 c q).1
 | 3,h1,h2,hc=>
  rcases (by simpa [WrC,RdC] using hc:c∈c1\/c∈c2\/c∈c1\/c∈c2) with q|q|q|q
  ·exact(h1 ⋯ c q).1
  ·exact((h2 ⋯).1 c q).1
  ·exact(h1 ⋯ c q).1
  ·exact((h2 ⋯).1 c q).1
 | n+4,h1,h2,hc=>
  rcases (by simpa [WrC,RdC] using hc:c∈c1\/c∈c2) with q|q
  ·exact(h1 %[0|8] c q).1
  ·exact((h2 %[0|8]).1 c q).1
def sD(vals:List Int)(d:Sd):(rnD vals d).length=vals.length:=uB _ _ _ _ _
def BW{n:Nat}{vals:List Int}{d d':Sd}(h:xb n d)(h':xb n d')(hn:¬ ClD d d'):rnD (rnD vals d') d=rnD (rnD vals d) d':=
 BV hn (λ q=>(h.2.2 q).2) (λ q=>(h'.2.2 q).2) h.pos h'.pos
def qc(ds:List Sd):∀ vals:List Int,(ds.foldl rnD vals).length=vals.length:=by
 induction ds with
 | nil=>intro _;rfl
 | cons d ds ih=>intro vals;rw [RK,ih,sD]
def p0{S:Type}(f:S->Nat->S)(C:Nat->Nat->Prop)(hC:∀ a b s,C a b->f (f s b) a=f (f s a) b)(hs:∀ a b,C a b->C b a):∀ (l1 l2:List Nat),l1.Perm l2->l1.Pairwise (λ a b=>¬ C a b->a < b)->l2.Pairwise (λ a b=>¬ C a b->a < b)->∀ s,l1.foldl f s=l2.foldl f s
 | [],l2,h,_,_,s=>by rw [List.nil_perm.mp h]
 | a::l1,l2,h,h1,h2,s=>by
  obtain⟨p,q,rfl⟩:=List.append_of_mem (h.mem_iff.mp Qv);have hp:l1.Perm (p++q):=(List.perm_cons a).mp (h.trans List.perm_middle);rw [List.pairwise_cons] at h1
  have hc:∀ x∈p,C a x:=λ x hx=>RX λ n=>by
   have g1:=h1.1 x (hp.mem_iff.mpr (Qz _ hx)) n;have g2:=(List.pairwise_append.mp h2).2.2 x hx a Qv λ z=>n (hs _ _ z);omega
  have mv:∀ (p:List Nat) (s:S),(∀ x∈p,C a x)->(p++a::q).foldl f s=(p++q).foldl f (f s a):=by
   intro p
   induction p with
   | nil=>intro s _;rfl
   | cons x p ih=>
    intro s hx;rw [SS,RK,ih _ λ y hy=>hx y (Qt _ hy),SS,RK,hC a x s (hx x Qv)]
  rw [RK,mv p s hc];refine p0 f C hC hs l1 (p++q) hp h1.2 ?_ _;refine h2.sublist ?_;exact List.Sublist.append_left (List.sublist_cons_self a q) p
def atD(ds:List Sd)(k:Nat):Sd:=ds.getD k (0,0,[],[])
def wD(ds:List Sd)(vals:List Int):(List.range ds.length).foldl (λ vs k=>rnD vs (atD ds k)) vals=ds.foldl rnD vals:=by
 have:ds=(List.range ds.length).map (atD ds):=by
  refine List.ext_getElem (by simp) λ i h1 h2=>?_;simp [atD,QA,Qf h1]
 conv=>rhs;rw [this]
 rw [List.foldl_map]
structure E7(ds:List Sd)(rows:List (List Nat)):Prop where
 perm:rows.flatten.Perm (List.range ds.length)
 same:∀ A∈rows,∀ i∈A,∀ j∈A,i ≠ j->¬ ClD (atD ds i) (atD ds j)
 ahead:rows.Pairwise λ A B=>∀ i∈A,∀ j∈B,ClD (atD ds i) (atD ds j)->i < j
def E7.run{n:Nat}{ds:List Sd}{rows aq:List (List Nat)}(h:E7 ds rows)(hd:∀ d∈ds,xb n d)(hr:aq.length=rows.length)(hp:∀ (i:Nat) (A B:List Nat),rows[i]? = some A->aq[i]? = some B->B.Perm A)(vals:List Int):aq.flatten.foldl (λ vs k=>rnD vs (atD ds k)) vals=ds.foldl rnD vals:=by
 have a5:∀ (r r':List (List Nat)),r'.length=r.length->(∀ (i:Nat) (A B:List Nat),r[i]? = some A->r'[i]? = some B->B.Perm A)->r'.flatten.Perm r.flatten:=by
  intro r
  induction r with
  | nil=>
   intro r' hl _;have e:r'=[]:=List.length_eq_zero_iff.mp hl;rw [e]
  | cons A r ih=>
   intro r' hl hh
   cases r' with
   | nil=>cases hl
   | cons B r'=>
    rw [RE,RE];exact(hh 0 A B rfl rfl).append (ih r' (by simpa using hl) λ i A B h1 h2=>hh (i+1) A B (by simpa using h1) (by simpa using h2))
 have hq:=(a5 rows aq hr hp).trans h.perm;have a7:aq.flatten.Nodup:=hq.nodup_iff.mpr Ts;rw [←wD];refine p0 (λ vs k=>rnD vs (atD ds k)) (λ a b=>(a < ds.length/\b < ds.length/\¬ ClD (atD ds a) (atD ds b))\/a=b\/ds.length<=a\/ds.length<=b) ?_ ?_ _ _ hq ?_ ?_ vals
 ·rintro a b s (⟨ha,hb,hn⟩|rfl|ha|hb)
  ·have m:∀ k,k < ds.length->xb n (atD ds k):=λ k hk=>hd _ (by unfold atD;rw [getD_eq_getElem?_getD,getElem?_eq_getElem hk];exact getElem_mem hk);exact BW (m a ha) (m b hb) hn
  ·rfl
  ·have e:atD ds a=(0,0,[],[]):=by unfold atD;rw [getD_eq_getElem?_getD,getElem?_eq_none ha];rfl
   show rnD (rnD s (atD ds b)) (atD ds a)=rnD (rnD s (atD ds a)) (atD ds b)
   rw [e];rfl
  ·have e:atD ds b=(0,0,[],[]):=by unfold atD;rw [getD_eq_getElem?_getD,getElem?_eq_none hb];rfl
   show rnD (rnD s (atD ds b)) (atD ds a)=rnD (rnD s (atD ds a)) (atD ds b)
   rw [e];rfl
 ·rintro a b (⟨ha,hb,hn⟩|rfl|ha|hb)
  ·exact .inl ⟨hb,ha,λ z=>hn (ur z)⟩
  ·exact .inr (.inl rfl)
  ·exact .inr (.inr (.inr ha))
  ·exact .inr (.inr (.inl hb))
 ·have key:∀ (A B:List Nat),A∈aq->B∈aq->True:=λ _ _ _ _=>trivial;rw [List.pairwise_flatten]
  have back:∀ B∈aq,∃ A∈rows,B.Perm A:=λ B hB=>by
   obtain⟨i,hi,rfl⟩:=Rk hB;have ar:i < rows.length:=by omega
   exact⟨rows[i],RH ar,hp i _ _ (Qf ar) (Qf hi)⟩
  refine⟨λ B hB=>?_,?_⟩
  ·obtain⟨A,hA,a3⟩:=back B hB;refine List.Pairwise.imp_of_mem (R:=λ _ _=>True) (λ {x y} hx hy _ hn=>?_) (List.pairwise_of_forall λ _ _=>trivial)
   by_cases hxy:x=y
   ·exact absurd (.inr (.inl hxy)) hn
   ·by_cases hxl:ds.length<=x
    ·exact absurd (.inr (.inr (.inl hxl))) hn
    ·by_cases hyl:ds.length<=y
     ·exact absurd (.inr (.inr (.inr hyl))) hn
     ·exact absurd (.inl ⟨by omega,by omega,h.same A hA x (a3.mem_iff.mp hx) y (a3.mem_iff.mp hy) hxy⟩) hn
  ·rw [List.pairwise_iff_getElem];intro i j hi hj a6 x hx y hy hn;have ar:i < rows.length:=by omega
   have a4:j < rows.length:=by omega
   have pi:=hp i _ _ (Qf ar) (Qf hi);have pj:=hp j _ _ (Qf a4) (Qf hj)
   by_cases hxl:ds.length<=x
   ·exact absurd (.inr (.inr (.inl hxl))) hn
   ·by_cases hyl:ds.length<=y
    ·exact absurd (.inr (.inr (.inr hyl))) hn
    ·refine(List.pairwise_iff_getElem.mp h.ahead) i j ar a4 a6 x (pi.mem_iff.mp hx) y (pj.mem_iff.mp hy) (RX λ z=>hn (.inl ⟨by omega,by omega,z⟩))
 ·refine Tg (R:=λ a b=>a < b) (λ {a b} h=>?_) SM;intro _;exact h
def jn(S:List Addr)(H:Hp):Hp:=λ b=>if b∈S then none else H b
def yQ(S:List Addr)(H:Hp):Ext (jn S H) H:=lQ.ext λ b o h=>by
 unfold jn at h
 by_cases hb:b∈S
 ·rw [QE hb] at h;cases h
 ·rwa [QB hb] at h
def nH{S:List Addr}{H:Hp}{b:Addr}(h:b∈S):jn S H b=none:=QE h
def ya{S:List Addr}{H:Hp}{b:Addr}{o:HO}(hb:b ∉ S)(h:H b=some o):jn S H b=some o:=by
 unfold jn;rw [if_neg hb];exact h
def Ep{S:List Addr}{H0 H:Hp}(e:Ext H0 H)(hS:∀ b∈S,H0 b=none):Ext H0 (jn S H):=lQ.ext λ b o h=>ya (λ hb=>by rw [hS b hb] at h;cases h) (e.at h)
def StR(t:Adr)(H:Hp)(room:Int)(d:Sd)(s:Addr):Prop:=∃ u v,StW t H s d.1 u v d.2.1/\(1<=d.1->VwC t.a_UH H u room d.2.2.1)/\(2<=d.1->VwC t.a_UH H v room d.2.2.2)
def StR.ext{t:Adr}{H H':Hp}{room:Int}{d:Sd}{s:Addr}(h:StR t H room d s)(e:Ext H H'):StR t H' room d s:=by
 obtain⟨u,v,h1,h2,h3⟩:=h;exact⟨u,v,h1.ext e,λ q=>(h2 q).ext e,λ q=>(h3 q).ext e⟩
def StR.v{t:Adr}{H:Hp}{room:Int}{d:Sd}{s:Addr}(h:StR t H room d s):StV t H s d.1 room d.2.2.1 d.2.2.2:=by
 obtain⟨u,v,h1,h2,h3⟩:=h;exact⟨u,v,h1.at,h2,h3⟩
def StV.cells{t:Adr}{H:Hp}{s:Addr}{w:Nat}{room:Int}{a b:List Int}(h:StV t H s w room a b):∃ u v,Bj t H s w u v/\VwL t.a_UH H room (vp t.a_UH H) (wrs w u v)/\VwL t.a_UH H room (vp t.a_UH H) (rds w u v)/\(wrs w u v).flatMap (vp t.a_UH H)=WrC w a b/\(rds w u v).flatMap (vp t.a_UH H)=RdC w a b:=by
 obtain⟨u,v,p1,p2,p3⟩:=h
 have all:∀ x∈wrs w u v++rds w u v,VwC t.a_UH H x room (vp t.a_UH H x):=λ x hx=>by
  rcases xC hx with ⟨hw,rfl⟩|⟨hw,rfl⟩
  ·exact(p2 hw).cel.2
  ·exact(p3 hw).cel.2
 obtain⟨m1,m2⟩:=JX (vp t.a_UH H) w u v;obtain⟨m3,m4⟩:=JW (w:=w) (λ q=>(p2 q).cel.1) (λ q=>(p3 q).cel.1);exact⟨u,v,p1,λ x hx=>all x (Qz _ hx),λ x hx=>all x (Qn _ hx),by rw [m1,m3],by rw [m2,m4]⟩
def StY(t:Adr)(H:Hp)(room:Int)(d:Sd)(y:V):Prop:=∃ s,y=.ref s/\StR t H room d s
def StY.ext{t:Adr}{H H':Hp}{room:Int}{d:Sd}{y:V}(h:StY t H room d y)(e:Ext H H'):StY t H' room d y:=by
 obtain⟨s,h1,h2⟩:=h;exact⟨s,h1,h2.ext e⟩
def StL(t:Adr)(H:Hp)(room:Int)(p:Addr)(ds:List Sd):Prop:=∃ ys,H p=some (.lst ys)/\Al (StY t H room) ds ys
def StL.ext{t:Adr}{H H':Hp}{room:Int}{p:Addr}{ds:List Sd}(h:StL t H room p ds)(e:Ext H H'):StL t H' room p ds:=by
 obtain⟨ys,h1,h2⟩:=h;exact⟨ys,e.at h1,h2.imp λ _ _ q=>q.ext e⟩
def yb{ds:List Sd}{k:Nat}{d:Sd}(h:ds[k]? = some d):atD ds k=d:=by unfold atD;rw [getD_eq_getElem?_getD,h];rfl
def RsI(t:Adr)(H H':Hp)(room:Int)(v:Addr)(n:Nat):Prop:=∃ xs:List Addr,Ext H H'/\H' v=some (.lst (xs.map V.ref))/\xs.length<=n/\∀ x∈xs,∃ cs,VwC t.a_UH H x room cs
abbrev u7(t:Adr)(p:Addr)(H:Hp)(Q:VK)(E:XK):Prop:=∃ (room:Int) (ds:List Sd),StL t H room p ds/\ds.length<=60/\∀ H',Ext H H'->Q .non H'
def xK(t:Adr):Sp:=λ vs H Q E=>∃ (p:Addr),vs=[.ref p]/\(u7 t p H Q E)
def DI(t:Adr)(p:Addr)(H:Hp)(Q:VK)(E:XK):xK t [.ref p] H Q E=(u7 t p H Q E):=jB (f:=λ (p:Addr)=>[.ref p]) (λ _ _ h=>by cases h;exact rfl) p
def gM(T:Tx K mg t):%[5,oX|49] %[|127] (xK t):=by
 have G_HY:=%[kW|43];have G_wm:=%[lC|43];refine T.F_oX.ok aK (λ _ _ _ _ h=>iW h λ _=>rfl) %[0|50]
 ·obtain⟨p,rfl,room,ds,⟨ys,hp,al⟩,hl,k⟩:=h;refine⟨_,%[%[%[vt,%[len,bh,%[%[0|0]|1]|6],(@ed _ _ (.int 60) _ _ ∅ T.m_MOST_STATEMENTS.choose_spec ⟨_,rfl⟩ ⋯),(aG _)|20],%[(@dG _ _)|9],(@aF _)|23],%[%[1,aK,%[(@cq _)|13]|4],%[%[Qu,rfl,%[%[0|0]|18],%[2,aK|5],%[%[%[QJ,Rv,Ru,fS,%[1|0],%[%[HY,%[%[2|0]|1]|3]|1],∅,∅,∅,∅,∅|33],∅|15]|9],(by intros;rfl)|19],%[%[%[wm,%[%[1|0]|1]|3],∅|15]|9]|10]|10]|10],?_⟩;rw [%[["statements", "views", "statement"],[.ref p],2|53]];clear G_HY G_wm;exists k;exists al;have bp:ys.length<=60:=by rw [(al ()).1];exact hl
  have bt:¬ (60:Int) < (ys.length:Int):=by omega
  ac_rfl;intro v H1 hv e1 h1;have ar:RsI t H H1 room v (4 * 0):=⟨[],e1,h1,QK _,λ x hx=>by cases hx⟩;have a3:=e1.at hp;clear h1 e1;ac_rfl;refine aR (xs:=ys) (λ i σ H'=>∃ v2:Option V,σ=[%[p|45],%[v|45],v2]/\RsI t H H' room v (4 * i)) ⟨none,rfl,ar⟩ (λ i σ H' _ ⟨_,_,_,e,_⟩=>e.at hp) ?_ ?_
  ·clear ar a3;rintro i y _ H2 hi ⟨v2,rfl,xs,e2,h2,a4,hx⟩;obtain⟨d,hd⟩:∃ d,ds[i]? = some d:=⟨_,Qf (by rw [←(al ()).1];exact(Qh.mp hi).1)⟩;obtain⟨s,rfl,hs⟩:=(al ()).2 i d y hd hi;have b1:i < 60:=by have:=(Qh.mp hi).1;omega
   obtain⟨u,w',a5,a6,a7⟩:=hs.v;have aq:=λ (_:Unit)=>hx;have wl:=uf d.1 u w';clear hi hd hx;simp! only [↓aw];rw [lh];refine⟨d.1,u,w',a5.ext e2,λ r H3 e3 h3=>?_⟩;have a9:=e3.at h2;have a8:=e2.trans e3;have hlen:(xs++(wrs d.1 u w'++rds d.1 u w')).length<=4 * (i+1):=by rw [Qw,Qw];omega
   have fin:RsI t H (upd H3 v (.lst ((xs++(wrs d.1 u w'++rds d.1 u w')).map V.ref))) room v (4 * (i+1)):=by
    refine⟨_,a8.put hv,af,hlen,λ x hx=>?_⟩
    rcases QF.mp hx with hx|hx
    ·exact aq () x hx
    ·rcases xC hx with ⟨hw,rfl⟩|⟨hw,rfl⟩
     ·exact⟨_,a6 hw⟩
     ·exact⟨_,a7 hw⟩
   have bb:(xs.map V.ref).length+((wrs d.1 u w'++rds d.1 u w').map V.ref).length<=sizeLine:=az (by rw [Qk,Qk,Qw];omega);rw [Rl] at fin;generalize (wrs d.1 u w'++rds d.1 u w').map V.ref=ws at *;generalize xs.map V.ref=xv at *;clear aq e3 e2 h2;simp! only [↓aw];exact⟨_,rfl⟩
  ·rintro _ H2 ⟨v2,rfl,xs,e2,h2,a4,hx⟩;exists hx;ac_rfl;rw [wK];refine⟨xs,room,vp t.a_UH H,h2,λ x aq=>?_,λ H3 e3=>?_⟩
   ·obtain⟨cs,hc⟩:=hx () x aq;exact hc.cel.2.ext e2
   ·have k2:=k () H3 (e2.trans e3);clear k;ac_rfl
def aL(fs:List (Nat × Option Nat))(k:Nat):Nat:=(fs.getD k (0,none)).1
def vq(fs:List (Nat × Option Nat))(k:Nat):Option Nat:=(fs.getD k (0,none)).2
def Tch(d:Sd):List Int:=WrC d.1 d.2.2.1 d.2.2.2++RdC d.1 d.2.2.1 d.2.2.2
def WrD(d:Sd):List Int:=WrC d.1 d.2.2.1 d.2.2.2
def RdD(d:Sd):List Int:=RdC d.1 d.2.2.1 d.2.2.2
def MxI(aq:Nat->Nat)(T:Int->Nat->Prop)(tc:%[0|48]):Prop:=(∀ c j,bB tc c=some j->∃ k:Nat,j=(k:Int)/\T c k/\∀ i,T c i->aq i<=aq k)/\∀ c i,T c i->∃ j,bB tc c=some j
def MxI.iff{aq:Nat->Nat}{T T':Int->Nat->Prop}{tc:%[0|48]}(h:MxI aq T tc)(e:∀ c k,T c k ↔ T' c k):MxI aq T' tc:=by
 refine⟨λ c j hj=>?_,λ c i hi=>h.2 c i ((e c i).mpr hi)⟩;obtain⟨k,h1,h2,h3⟩:=h.1 c j hj;exact⟨k,h1,(e c k).mp h2,λ i hi=>h3 i ((e c i).mpr hi)⟩
def MxI.put{aq:Nat->Nat}{T:Int->Nat->Prop}{tc:%[0|48]}(h:MxI aq T tc)(c0:Int)(n:Nat)(hn:∀ i,T c0 i->aq i<=aq n):MxI aq (λ c k=>T c k\/(k=n/\c=c0)) (lP tc c0 n):=by
 refine⟨λ c j hj=>?_,λ c i hi=>?_⟩
 ·rw [uR] at hj
  by_cases hc:c=c0
  ·rw [QE hc] at hj;cases hj;refine⟨n,rfl,.inr ⟨rfl,hc⟩,λ i hi=>?_⟩
   rcases hi with hi|⟨rfl,_⟩
   ·exact hn i (hc ▸ hi)
   ·exact Qi _
  ·rw [QB hc] at hj;obtain⟨k,h1,h2,h3⟩:=h.1 c j hj;refine⟨k,h1,.inl h2,λ i hi=>?_⟩
   rcases hi with hi|⟨_,hi⟩
   ·exact h3 i hi
   ·exact absurd hi hc
 ·rw [uR]
  by_cases hc:c=c0
  ·exact⟨n,QE hc⟩
  ·rw [QB hc]
   rcases hi with hi|⟨_,hi⟩
   ·exact h.2 c i hi
   ·exact absurd hi hc
def MxI.skip{aq:Nat->Nat}{T:Int->Nat->Prop}{tc:%[0|48]}(h:MxI aq T tc)(c0:Int)(n:Nat){j:Int}(hj:bB tc c0=some j)(hn:aq n<=aq j.toNat):MxI aq (λ c k=>T c k\/(k=n/\c=c0)) tc:=by
 refine⟨λ c j' ar=>?_,λ c i hi=>?_⟩
 ·obtain⟨k,h1,h2,h3⟩:=h.1 c j' ar;refine⟨k,h1,.inl h2,λ i hi=>?_⟩
  rcases hi with hi|⟨rfl,rfl⟩
  ·exact h3 i hi
  ·rw [hj] at ar;cases ar;rw [h1] at hn;exact hn
 ·rcases hi with hi|⟨_,rfl⟩
  ·exact h.2 c i hi
  ·exact⟨j,hj⟩
structure DlP(ds:List Sd)(fs:List (Nat × Option Nat)):Prop where
 up:∀ k,k < fs.length->∀ i,i < k->ClD (atD ds i) (atD ds k)->aL fs i < aL fs k
 bef:∀ k,k < fs.length->(vq fs k=none->aL fs k=0)/\∀ j,vq fs k=some j->j < k/\ClD (atD ds j) (atD ds k)/\aL fs k=aL fs j+1
 lt:∀ k,k < fs.length->aL fs k<=k
def cy{fs:List (Nat × Option Nat)}{x:Nat × Option Nat}{k:Nat}(h:k < fs.length):aL (fs++[x]) k=aL fs k/\vq (fs++[x]) k=vq fs k:=by
 unfold aL vq;rw [getD_eq_getElem?_getD,getD_eq_getElem?_getD,getElem?_append_left h];exact⟨rfl,rfl⟩
def og(fs:List (Nat × Option Nat))(x:Nat × Option Nat):aL (fs++[x]) fs.length=x.1/\vq (fs++[x]) fs.length=x.2:=by
 unfold aL vq;rw [getD_eq_getElem?_getD,getElem?_append_right (Nat.le_refl _),Nat.sub_self];exact⟨rfl,rfl⟩
def DlP.step{ds:List Sd}{fs:List (Nat × Option Nat)}{a:Nat}{b:Option Nat}(h:DlP ds fs)(h1:∀ i,i < fs.length->ClD (atD ds i) (atD ds fs.length)->aL fs i < a)(h2:b=none->a=0)(h3:∀ j,b=some j->j < fs.length/\ClD (atD ds j) (atD ds fs.length)/\a=aL fs j+1):DlP ds (fs++[(a,b)]):=by
 have nw:=og fs (a,b)
 have cs:∀ k,k < (fs++[(a,b)]).length->k < fs.length\/k=fs.length:=λ k hk=>by
  rw [Qw,QV] at hk;omega
 refine⟨λ k hk i hi hc=>?_,λ k hk=>?_,λ k hk=>?_⟩
 ·rcases cs k hk with hk|rfl
  ·rw [(cy hk).1,(cy (Se hi hk)).1];exact h.up k hk i hi hc
  ·rw [nw.1,(cy hi).1];exact h1 i hi hc
 ·rcases cs k hk with hk|rfl
  ·rw [(cy hk).1,(cy hk).2];refine⟨(h.bef k hk).1,λ j hj=>?_⟩;obtain⟨q1,q2,q3⟩:=(h.bef k hk).2 j hj;exact⟨q1,q2,by rw [(cy (Se q1 hk)).1];exact q3⟩
  ·rw [nw.1,nw.2];refine⟨h2,λ j hj=>?_⟩;obtain⟨q1,q2,q3⟩:=h3 j hj;exact⟨q1,q2,by rw [(cy q1).1];exact q3⟩
 ·rcases cs k hk with hk|rfl
  ·rw [(cy hk).1];exact h.lt k hk
  ·rw [nw.1]
   cases hb:b with
   | none=>rw [h2 hb];exact QK _
   | some j=>
    obtain⟨q1,_,q3⟩:=h3 j hb;have:=h.lt j q1;omega
def Ex:Option Nat->V
 | none=>.non
 | some j=>.int (j:Int)
def FnT(H:Hp)(f:Nat × Option Nat)(y:V):Prop:=∃ q,y=.ref q/\H q=some (.tup [.int (f.1:Int),Ex f.2])
def FnT.ext{H H':Hp}{f:Nat × Option Nat}{y:V}(h:FnT H f y)(e:Ext H H'):FnT H' f y:=by
 obtain⟨q,h1,h2⟩:=h;exact⟨q,h1,e.at h2⟩
def Kh{ds:List Sd}{fs:List (Nat × Option Nat)}{tc wr:%[0|48]}{rs:List Int}{n:Nat}(hn:fs.length=n)(mt:MxI (aL fs) (λ c k=>k < n/\c∈Tch (atD ds k)) tc)(mw:MxI (aL fs) (λ c k=>k < n/\c∈WrD (atD ds k)) wr)
  (hr:∀ r,r∈rs ↔ (∃ c∈WrD (atD ds n),bB tc c=some r)\/∃ c∈RdD (atD ds n),bB wr c=some r):(∀ r∈rs,∃ k:Nat,r=(k:Int)/\k < n/\ClD (atD ds k) (atD ds n))/\∀ i,i < n->ClD (atD ds i) (atD ds n)->∃ r∈rs,aL fs i<=aL fs r.toNat:=by
 refine⟨λ r h=>?_,λ i hi hc=>?_⟩
 ·rcases (hr r).mp h with ⟨c,hc,hl⟩|⟨c,hc,hl⟩
  ·obtain⟨k,rfl,⟨hk,ht⟩,_⟩:=mt.1 c r hl;refine⟨k,rfl,hk,?_⟩
   rcases QF.mp ht with q|q
   ·exact .inl ⟨c,q,Qz _ hc⟩
   ·exact .inr ⟨c,hc,q⟩
  ·obtain⟨k,rfl,⟨hk,ht⟩,_⟩:=mw.1 c r hl;exact⟨k,rfl,hk,.inl ⟨c,ht,Qn _ hc⟩⟩
 ·have aq:∀ c,c∈Tch (atD ds i)->c∈WrD (atD ds n)->∃ r∈rs,aL fs i<=aL fs r.toNat:=λ c h1 h2=>by
   obtain⟨j,hj⟩:=mt.2 c i ⟨hi,h1⟩;obtain⟨k,rfl,_,hk⟩:=mt.1 c j hj;exact⟨_,(hr _).mpr (.inl ⟨c,h2,hj⟩),hk i ⟨hi,h1⟩⟩
  rcases hc with ⟨c,h1,h2⟩|⟨c,h1,h2⟩
  ·rcases QF.mp h2 with q|q
   ·exact aq c (Qz _ h1) q
   ·obtain⟨j,hj⟩:=mw.2 c i ⟨hi,h1⟩;obtain⟨k,rfl,_,hk⟩:=mw.1 c j hj;exact⟨_,(hr _).mpr (.inr ⟨c,q,hj⟩),hk i ⟨hi,h1⟩⟩
  ·exact aq c (Qn _ h2) h1
def Bi{n:Nat}(h:n<=5000000):n < sizeLine:=Nat.lt_of_le_of_lt h ⋯
def yi{ks:List Int}{z:Key × V}(h:z∈bT ks):∃ c:Int,c∈ks/\z=(.inl c,.bl true):=by
 obtain⟨c,hc,rfl⟩:=QN.mp h;exact⟨c,hc,rfl⟩
def Mr(z:Key × V):Int:=match z.1 with
 | .inl c=>c
 | _=>0
def Nj(tc:%[0|48])(z:Key × V):Bool:=(bB tc (Mr z)).isSome
def Jg(tc:%[0|48])(z:Key × V):V:=.int ((bB tc (Mr z)).getD 0)
def jK(tc:%[0|48])(ks:List Int):List Int:=(ks.filter λ c=>(bB tc c).isSome).map λ c=>(bB tc c).getD 0
def uE(tc:%[0|48])(ks:List Int):((bT ks).filter (Nj tc)).map (Jg tc)=(jK tc ks).map V.int:=by
 unfold jK bT;rw [List.filter_map,map_map,map_map];rfl
def yp{tc:%[0|48]}{ks S:List Int}(hk:∀ c,c∈ks ↔ c∈S)(r:Int):r∈jK tc ks ↔ ∃ c∈S,bB tc c=some r:=by
 unfold jK;rw [List.mem_map];constructor
 ·rintro ⟨c,hc,rfl⟩;obtain⟨h1,h2⟩:=Rx.mp hc;obtain⟨j,hj⟩:=Sb.mp h2;exact⟨c,(hk c).mp h1,by rw [hj];rfl⟩
 ·rintro ⟨c,hc,hj⟩;exact⟨c,Rx.mpr ⟨(hk c).mpr hc,by rw [hj];rfl⟩,by rw [hj];rfl⟩
def uF(tc:%[0|48])(ks:List Int):(jK tc ks).length<=ks.length:=by
 unfold jK;rw [length_map];exact List.length_filter_le _ _
def BJ{i:Nat}{Pt:Addr}{mg:Str->Option Value}{q:Str}{t:TE}{σ:St}{Q:VK}{H:Hp}{p:Addr}{xs:List Int}(kf:Int->Int){fv:V}(hp:H p=%[xs|46])(hi:σ[i]? = some (some fv))(hT:TbH mg H Pt q)(hn:∀ x∈xs,0<=x)(ht:∀ x∈xs,∀ H',Ext H H'->∀ Q':VK,Q' (.int (kf x)) H'->t [%[x|47],some fv] H' Q')
  (h:∀ b:Option Nat,(b=none->xs=[])->(∀ j:Nat,b=some j->(j:Int)∈xs/\∀ y∈xs,kf y<=kf (j:Int))->∀ H',Ext H H'->Q (Ex b) H'):Bv i Pt mg q t σ Q [.ref p] H:=by
 refine BI kf hp hi hT ht (λ h0 H' e=>h none (λ _=>h0) (λ j hj=>by cases hj) H' e) λ x hx hm H' e=>?_;have aq:=hn x hx;have ex:((x.toNat:Nat):Int)=x:=R7 aq;have:=h (some x.toNat) (λ z=>by cases z) (λ j hj=>by cases hj;rw [ex];exact⟨hx,hm⟩) H' e;rw [←ex];exact this
def BD{H:Hp}{fs:List (Nat × Option Nat)}{ys:List V}(al:Al (FnT H) fs ys){k:Nat}(hk:k < fs.length):∃ q,atI ys (k:Int)=%[q|45]/\H q=some (.tup [.int (aL fs k:Int),Ex (vq fs k)]):=by
 have hy:k < ys.length:=by rw [al.1];exact hk
 obtain⟨q,h1,h2⟩:=al.2 k _ _ (getElem?_eq_getElem hk) (getElem?_eq_getElem hy);refine⟨q,bL (by rw [getElem?_eq_getElem hy,h1]),?_⟩;unfold aL vq;rw [getD_eq_getElem?_getD,getElem?_eq_getElem hk];exact h2
structure DoI(H H':Hp)(ds:List Sd)(fl dw dt:Addr)(n:Nat)(fs:List (Nat × Option Nat))(wr tc:%[0|48])(ys:List V):Prop where
 ex:Ext H H'
 f:H' fl=some (.lst ys)
 al:Al (FnT H') fs ys
 nn:fs.length=n
 dl:DlP ds fs
 w:H' dw=some (.dK (cb wr))
 mw:MxI (aL fs) (λ c k=>k < n/\c∈WrD (atD ds k)) wr
 wl:wr.length<=80000 * n
 t:H' dt=some (.dK (cb tc))
 mt:MxI (aL fs) (λ c k=>k < n/\c∈Tch (atD ds k)) tc
 tl:tc.length<=80000 * n
def Ec(aq:Nat->Nat)(T:Int->Nat->Prop)(h:∀ c k,¬ T c k):MxI aq T []:=⟨(λ c j hj=>by cases hj),λ c i hi=>absurd hi (h c i)⟩
def nF{H H1:Hp}(e:Ext H H1)(d:Addr)(o:HO):Ext (upd H d o) (upd H1 d o):=lQ.ext λ b u h=>by
 by_cases hb:b=d
 ·rw [hb,af] at h ⊢;exact h
 ·rw [ae hb] at h ⊢;exact e.at h
structure DiI(B H':Hp)(dw dt:Addr)(fs:List (Nat × Option Nat))(T S:Int->Nat->Prop)(n m:Nat)(wr tc:%[0|48]):Prop where
 ex:Ext B H'
 w:H' dw=some (.dK (cb wr))
 mw:MxI (aL fs) S wr
 wl:wr.length<=n
 t:H' dt=some (.dK (cb tc))
 mt:MxI (aL fs) T tc
 tl:tc.length<=m
def uj{fs:List (Nat × Option Nat)}{x:Nat × Option Nat}{n:Nat}(hn:fs.length=n){T:Int->Nat->Prop}(hT:∀ c k,T c k->k < n){tc:%[0|48]}(h:MxI (aL fs) T tc):MxI (aL (fs++[x])) T tc:=by
 refine⟨λ c j hj=>?_,h.2⟩;obtain⟨k,h1,h2,h3⟩:=h.1 c j hj;refine⟨k,h1,h2,λ i hi=>?_⟩;rw [(cy (by rw [hn];exact hT c i hi)).1,(cy (by rw [hn];exact hT c k h2)).1];exact h3 i hi
def OH(ds:List Sd)(H:Hp)(r:Addr):Prop:=∃ fs ys,H r=some (.lst ys)/\Al (FnT H) fs ys/\fs.length=ds.length/\DlP ds fs
abbrev qG(mg:Str->Option Value)(t:Adr)(p:Addr)(H:Hp)(Q:VK)(E:XK):Prop:=∃ (room:Int) (ds:List Sd),StL t H room p ds/\ds.length<=60/\TbH mg H 547 (xf "dealt")/\∀ (r:Addr) (H':Hp),Ext H H'->OH ds H' r->Q (.ref r) H'
def sr(mg:Str->Option Value)(t:Adr):Sp:=λ vs H Q E=>∃ (p:Addr),vs=[.ref p]/\(qG mg t p H Q E)
def Ba(mg:Str->Option Value)(t:Adr)(p:Addr)(H:Hp)(Q:VK)(E:XK):sr mg t [.ref p] H Q E=(qG mg t p H Q E):=jB (f:=λ (p:Addr)=>[.ref p]) (λ _ _ h=>by cases h;exact rfl) p
def uL(T:Tx K mg t):%[6,UD|49] %[|127] (sr mg t):=by
 have c0:=MDw (P:=P) (w:=w) (base:=base) T;have da:=MDr (P:=P) (w:=w) (base:=base) T;have G_HZ:=%[sT|43];refine T.F_UD.okC cu (λ _ _ _ _ h=>iW h λ _=>rfl) (λ cdv A outer s H vs Q E hO hr h=>?_)
 ·obtain⟨p,rfl,room,ds,⟨ss,hp,al⟩,hl,hP,k⟩:=h;have gD:ME K cdv 547:=by rw [hO];exact T.lt_dealt
  refine⟨_,%[(@gQ _ _ (1) _ _ _ _ cu.nd rfl (Or.inr rfl) %[(@cq _)|13] ∅ %[0|7]),%[(@gQ _ _ (2) _ _ _ _ cu.nd rfl (Or.inr rfl) (@n9 _ _) ∅ %[0|7]),%[(@gQ _ _ (3) _ _ _ _ cu.nd rfl (Or.inr rfl) (@n9 _ _) ∅ %[0|7]),%[%[Qu,rfl,(@sH _ _ _ _ _ _ _ _ ∅ T.z_enumerate %[%[0|0]|1] ∅),(%[(2),rfl,%[%[4,cu|5],%[%[5,cu|5],(@aO _),∅|17],∅|17],∅,∅|25].mono λ _ _ _ _ h=>bR h),%[%[6,cu,%[HZ,%[%[%[5|0],c0,(hr.mono ⋯),aC,∅|41]|1]|3]|4],%[%[7,cu,%[HZ,%[%[%[5|0],da,(hr.mono ⋯),aC,∅|41]|1]|3]|4],%[(@sF _ _ _ %[(%[|102]),(1),(8),_,cu.nd,rfl,(Or.inl rfl),(aV (aa fM) %[|109] rfl rfl nofun),rfl,(@nz _ _ _ _ %[6|0]),(λ _ _ _ _ _=>%[(0),%[|102]|51]),(λ _ _ _ _ _=>(@nu _ _ _ %[(Ea (gP hr.units)),%[0|0],%[4|0],(by with_unfolding_all rfl)|20])),(λ _ _ _ _ _=>(@sI _ _ _ _ _ _ (gP hr.units) %[4|0] %[0|0] (λ _ _=>rfl))),∅,(by intros;rfl),%[0|7]|38]),%[%[%[QJ,Rv,Ru,fS,%[8|0],%[(@FI _ _ _ %[(%[|102]),(1),(aV (aa fM) %[|109] rfl rfl nofun),rfl,(@nz _ _ _ _ %[7|0]),(λ _ _ _ _ _=>%[(0),%[|102]|51]),(λ _ _ _ _ _=>(@nu _ _ _ %[(Ea (gP hr.units)),%[0|0],%[3|0],(by with_unfolding_all rfl)|20])),(λ _ _ _ _ _=>(@sI _ _ _ _ _ _ (gP hr.units) %[3|0] %[0|0] (λ _ _=>rfl))),(by intros;rfl)|29])|1],∅,∅,∅,∅,∅|33],∅|15],%[%[9,cu,(@FL _ (1) (0) ("rival") _ _ _ _ _ _ _ _ _ _ _ _ _ _ _ rfl (hr.mono ⋯) ∅ T.z_max %[%[8|0]|1] gD nofun (λ A' f' c' la s' H'=>%[cW,%[cW,%[1|0],%[0|0],(λ _ _=>rfl)|14],%[0|2],(λ _ _=>rfl)|14]) ∅ ∅ ∅ ⋯ ∅ ∅ ∅ ∅ (by intros;rfl) ∅ ∅ ∅ ∅ ∅)|4],%[%[10,cu,(@uI _ _ _ _ _ _ _ _ %[Kw,%[9|0],(@xW _ _ _),(aG _)|20] %[0|2] %[bF,%[cW,%[cW,%[1|0],%[9|0],(λ _ _=>rfl)|14],%[0|2],(λ _ _=>rfl)|14],%[0|2]|11])|4],%[%[%[QJ,Sa,R9,fT,%[1|0],%[%[%[%[10|0],%[%[9|0]|1]|1]|22]|1],∅,∅,∅,∅,∅|33],∅|15],%[(@sF _ _ _ %[Qu,rfl,(@nz _ _ _ _ %[7|0]),%[11,cu|5],%[%[(PW.pt %[%[(zy (gP hr.units)),%[11|0],%[3|0],(by with_unfolding_all rfl)|20],(@jY _ _ _ _ %[JE,%[cW,%[cW,%[1|0],(@sI _ _ _ _ _ _ (gP hr.units) %[3|0] %[11|0] (λ _ _=>rfl)),(λ _ _=>rfl)|14],%[0|2],(λ _ _=>rfl)|14],%[10|0],(aG _)|20])|34]),%[(@ny _ _ _ _ _ _ _ _ _ (gP hr.units) %[3|0] %[11|0] %[4|0] rfl)|9],(@aF _)|23]|9],(by intros;rfl)|19]),%[(@sF _ _ _ %[Qu,rfl,(@nz _ _ _ _ %[6|0]),%[11,cu|5],%[(@ny _ _ _ _ _ _ _ _ _ (gP hr.units) %[3|0] %[11|0] %[4|0] rfl),%[(@ny _ _ _ _ _ _ _ _ _ (gP hr.units) %[2|0] %[11|0] %[4|0] rfl)|9]|10],(by intros;rfl)|19])|9]|10]|10]|10]|10]|10]|10]|10]|10],(by intros;rfl)|19],%[%[%[1|0]|12]|9]|10]|10]|10]|10],?_⟩;rw [%[%[|109],[.ref p],11|53]];clear G_HZ c0 da gD hO;exists k;exists al;exists hP;have lb:ss.length<=60:=by rw [(al ()).1];exact hl
  have ho:ss.length=ds.length:=(al ()).1;exists ho;ac_rfl;intro fl H1 hQ e1 h1;ac_rfl;intro dw H2 gf e2 h2;ac_rfl;intro dt H3 ey e3 h3;have hS:H fl=none:=hQ;have hX:H dw=none:=e1.free gf;have hY:H dt=none:=(e1.trans e2).free ey;have gg:fl ≠ dw:=λ e=>by rw [←e,h1] at gf;cases gf
  have gk:fl ≠ dt:=λ e=>by rw [←e,e2.at h1] at ey;cases ey
  have ez:dw ≠ dt:=λ e=>by rw [←e,h2] at ey;cases ey
  have h4:DoI H H3 ds fl dw dt 0 [] [] [] []:=⟨e1.trans (e2.trans e3),(e2.trans e3).at h1,Al.nil,rfl,⟨λ k hk=>absurd hk (RM _),λ k hk=>absurd hk (RM _),λ k hk=>absurd hk (RM _)⟩,e3.at h2,Ec _ _ (λ c k h=>absurd h.1 (RM _)),QK _,h3,Ec _ _ (λ c k h=>absurd h.1 (RM _)),QK _⟩;have j3:=(e1.trans (e2.trans e3)).at hp;clear h1 h2 h3 e1 e2 e3 hQ gf ey;ac_rfl;refine uV (l:=p) (xs:=ss) (λ i σ H'=>∃ (v4 v5 v6 v7 v8 v9 v10 v11:Option V) (fs:List (Nat × Option Nat)) (wr tc:%[0|48]) (ys:List V),σ=[%[p|45],%[fl|45],%[dw|45],%[dt|45],v4,v5,v6,v7,v8,v9,v10,v11]/\DoI H H' ds fl dw dt i fs wr tc ys) ⟨none,none,none,none,none,none,none,none,[],[],[],[],rfl,h4⟩ (λ i σ H' ⟨_,_,_,_,_,_,_,_,_,_,_,_,_,h⟩=>h.ex.at hp) ?_ ?_
  ·clear h4 j3 k;rintro n y q0 _ H4 H5 hi ⟨v4,v5,v6,v7,v8,v9,v10,v11,fs,wr,tc,ys,rfl,I4⟩ j4 e5 j5;have j6:n < ss.length:=(Qh.mp hi).1;obtain⟨d,hd⟩:∃ d,ds[n]? = some d:=⟨_,Qf (by rw [←ho ()];exact j6)⟩;obtain⟨s0,rfl,hs⟩:=(al ()).2 n d y hd hi;have eD:=yb hd;have eJ:=I4.ex.trans e5;have h5:=(hs.ext eJ).v;obtain⟨u,v,hq,ht,hu,hW,hR⟩:=h5.cells;have wl:=uf d.1 u v;have kv:n < 60:=by omega
   exists I4;exists ht;exists hu;exists hW;exists hR;exists eD;clear hi hd hs h5 al;simp! only [↓aw];refine DW hq λ r1 H6 e6 h6=>?_;ac_rfl;rw [lj];refine⟨wrs d.1 u v,room,vp t.a_UH H5,h6,by omega,(ht ()).ext e6,λ a6 H7 eK ⟨kw,e7,h7,a9,kx⟩=>?_⟩;rw [hW ()] at a9;exists a9;have dJ:=e6.trans e7;have dN:dw ≠ a6:=ag ((e5.trans e6).at (I4 ()).w) eK;have dc:dt ≠ a6:=ag ((e5.trans e6).at (I4 ()).t) eK;have ih:fl ≠ a6:=ag ((e5.trans e6).at (I4 ()).f) eK;have kE:H a6=none:=(eJ.trans e6).free eK;clear h6 e6 e7 eK;ac_rfl;refine DX (hq.ext dJ) λ r2 H8 e8 h8=>?_;ac_rfl;rw [lj];refine⟨rds d.1 u v,room,vp t.a_UH H5,h8,by omega,(hu ()).ext (dJ.trans e8),λ a3 H9 eB ⟨kr,e9,h9,b2,kQ⟩=>?_⟩;rw [hR ()] at b2;exists b2;have eC:=dJ.trans (e8.trans e9);have el:=(e8.trans e9).at h7;have lp:a6 ≠ a3:=ag (e8.at h7) eB;have d8:dw ≠ a3:=ag ((e5.trans (dJ.trans e8)).at (I4 ()).w) eB;have dS:dt ≠ a3:=ag ((e5.trans (dJ.trans e8)).at (I4 ()).t) eB;have gn:fl ≠ a3:=ag ((e5.trans (dJ.trans e8)).at (I4 ()).f) eB;have kT:H a3=none:=(eJ.trans (dJ.trans e8)).free eB;have hy:=(e5.trans eC).at (I4 ()).f;have hA:=(e5.trans eC).at (I4 ()).w;have gp:=(e5.trans eC).at (I4 ()).t
   have lx:(cb tc).length<=5000000/\(cb wr).length<=5000000:=by
    have g1:=(I4 ()).tl;have g2:=(I4 ()).wl;rw [fL,fL];omega
   have hB:=eJ.trans eC;have hC:=e5.trans eC;clear h7 h8 eB e8 e9 dJ hq ht hu hW hR j5 j4 e5 eC eJ;ac_rfl;refine DY (Nj tc) (Jg tc) el (nA (by rw [cP];omega)) ?_ ?_
   ·intro D ob z H' N1 N0 hz hD e eL k1 k0;obtain⟨c,hc,rfl⟩:=yi hz;have d9:H' dt=some (.dK (cb tc)):=e.at (by rw [ae dc];exact gp)
    show cE _ (V.int c) _ _ _
    cases hlk:bB tc c with
    | none=>
     have j7:N0 H':=k0 (by show (bB tc c).isSome=false;rw [hlk];rfl) H' (Ext.refl _);have hv:(fD (cb tc) (.inl c)).isSome=false:=by rw [bC,hlk];rfl
     clear k1 k0 hz eL I4 a9 b2 hc;simp! only [↓aN,↓aU];refine gO (k:=.inl c) d9 ?_;rw [hv];simp! only [↓aN,↓aU]
    | some j=>
     have hE:N1 (.int j) H':=by
      have:=k1 (by show (bB tc c).isSome=true;rw [hlk];rfl) H' (Ext.refl _);unfold Jg at this;rw [show Mr ((Sum.inl c:Key),V.bl true)=c from rfl,hlk] at this;exact this
     have hv:(fD (cb tc) (.inl c)).isSome=true:=by rw [bC,hlk];rfl
     have de:fD (cb tc) (.inl c)=%[j|47]:=by rw [bC,hlk];rfl
     clear k1 k0 hz eL I4 a9 b2 hc;simp! only [↓aN,↓aU];refine gO (k:=.inl c) d9 ?_;rw [hv];simp! only [↓aN,↓aU];exact mj (k:=.inl c) d9 de hE
   intro D1 ly dr d0 hF;rw [uE] at hF;have ea:=d0.at h9;have eM:=d0.at hA;have gJ:=d0.at gp;have g0:=d0.at hy;have eN:=d0.at el;have l0:D1 ≠ a3:=(ag h9 dr).symm;have ij:fl ≠ D1:=ag hy dr;have iv:dw ≠ D1:=ag hA dr;have iz:dt ≠ D1:=ag gp dr;have i0:a6 ≠ D1:=ag el dr;have i1:a3 ≠ D1:=ag h9 dr;have g5:=hC.trans d0;have g6:=hB.trans d0;have i2:H4 D1=none:=hC.free dr;have i3:H D1=none:=hB.free dr;clear h9 hA gp hy el dr hC hB d0;simp only [List.set_cons_succ,List.set_cons_zero];ac_rfl;refine DY (Nj wr) (Jg wr) ea (nA (by rw [cP];omega)) ?_ ?_
   ·intro D ob z H' N1 N0 hz hD e eL k1 k0;obtain⟨c,hc,rfl⟩:=yi hz;have d9:H' dw=some (.dK (cb wr)):=e.at (by rw [ae d8];exact eM)
    show cE _ (V.int c) _ _ _
    cases hlk:bB wr c with
    | none=>
     have j7:N0 H':=k0 (by show (bB wr c).isSome=false;rw [hlk];rfl) H' (Ext.refl _);have hv:(fD (cb wr) (.inl c)).isSome=false:=by rw [bC,hlk];rfl
     clear k1 k0 hz eL I4 a9 b2 hc;simp! only [↓aN,↓aU];refine gO (k:=.inl c) d9 ?_;rw [hv];simp! only [↓aN,↓aU]
    | some j=>
     have hE:N1 (.int j) H':=by
      have:=k1 (by show (bB wr c).isSome=true;rw [hlk];rfl) H' (Ext.refl _);unfold Jg at this;rw [show Mr ((Sum.inl c:Key),V.bl true)=c from rfl,hlk] at this;exact this
     have hv:(fD (cb wr) (.inl c)).isSome=true:=by rw [bC,hlk];rfl
     have de:fD (cb wr) (.inl c)=%[j|47]:=by rw [bC,hlk];rfl
     clear k1 k0 hz eL I4 a9 b2 hc;simp! only [↓aN,↓aU];refine gO (k:=.inl c) d9 ?_;rw [hv];simp! only [↓aN,↓aU];exact mj (k:=.inl c) d9 de hE
   intro D2 eE j9 du i5;rw [uE] at i5;have gx:=du.at hF
   have bt:((jK tc kw).map V.int).length+((jK wr kr).map V.int).length<=sizeLine:=nA (by
    have g1:=uF tc kw;have g2:=uF wr kr;rw [Qk,Qk];omega)
   have eG:∀ b o,b ≠ D1->eE b=some o->upd eE D1 (.lst ((jK tc kw).map V.int++(jK wr kr).map V.int)) b=some o:=λ b o hb h=>by rw [ae hb];exact h
   have eP:=eG _ _ i1 (du.at ea);have g7:=eG _ _ iv (du.at eM);have g8:=eG _ _ iz (du.at gJ);have en:=eG _ _ ij (du.at g0);have eQ:=eG _ _ i0 (du.at eN);have hg:Ext H4 (upd eE D1 (.lst ((jK tc kw).map V.int++(jK wr kr).map V.int))):=(g5.trans du).put i2;have eS:Ext H (upd eE D1 (.lst ((jK tc kw).map V.int++(jK wr kr).map V.int))):=(g6.trans du).put i3;have hh:upd eE D1 (.lst ((jK tc kw).map V.int++(jK wr kr).map V.int)) D1=some (.lst ((jK tc kw++jK wr kr).map V.int)):=by rw [af,Rl]
   have eT:∀ r,r∈jK tc kw++jK wr kr ↔ (∃ c∈WrD (atD ds n),bB tc c=some r)\/∃ c∈RdD (atD ds n),bB wr c=some r:=λ r=>by
    rw [QF,yp (a9 ()),yp (b2 ()),eD ()];exact Iff.rfl
   have dy:=Kh (I4 ()).nn (I4 ()).mt (I4 ()).mw eT;have eH:=(I4 ()).al.imp λ _ _ q=>FnT.ext q hg;exists eT;exists dy;exists eH;clear hF ea eM gJ g0 eN g5 g6 i2 i3 hg eG;ac_rfl;refine⟨by rw [Qk,Qk] at bt;exact bt,?_⟩;generalize upd eE D1 (.lst ((jK tc kw).map V.int++(jK wr kr).map V.int))=l1 at *;clear i5 gx du j9 bt;generalize jK tc kw++jK wr kr=rs at *;have kc:ys.length=n:=by rw [(eH ()).1];exact(I4 ()).nn
   have l2:ys.length < sizeLine:=Bi %[0|8];have bp:=(I4 ()).nn;exists kc;exists bp;refine BJ (xs:=rs) (λ x=>(aL fs x.toNat:Int)) hh ∅ ((hP ()).ext eS) (λ x hx=>?_) (λ x hx H' e' Q' q'=>?_) (λ b hG eU jz d1=>?_)
   ·obtain⟨k,rfl,_⟩:=(dy ()).1 x hx;exact Int.natCast_nonneg _
   ·obtain⟨k,rfl,hk,_⟩:=(dy ()).1 x hx;obtain⟨q,j0,cv⟩:=BD (eH ()) (by rw [bp ()];exact hk);have l3:=e'.at en;have l4:=e'.at cv;rw [QX] at q';clear hx dy eT eH I4 cv en;ac_rfl
   have ep:∀ i,i < n->ClD (atD ds i) (atD ds n)->∃ r∈rs,aL fs i<=aL fs r.toNat:=(dy ()).2;have cV:=d1.at en;have er:=d1.at g7;have et:=d1.at g8;have dz:=d1.at eQ;have dA:=d1.at eP;have ew:=eS.trans d1;have cN:=(eH ()).imp λ _ _ q=>FnT.ext q d1;exists cN;clear en g7 g8 eQ eP eS d1 eH hh
   cases b with
   | none=>
    have b5:DlP ds (fs++[(0,none)]):=by
     refine(I4 ()).dl.step (λ i hi hc=>?_) (λ h=>?_) (λ j' h=>?_)
     ·obtain⟨r,hr,_⟩:=ep i (by rw [←bp ()];exact hi) (by rw [←bp ()];exact hc);rw [hG rfl] at hr;cases hr
     ·rfl
     ·cases h
    have hle:∀ i,i < n->ClD (atD ds i) (atD ds n)->aL (fs++[(0,none)]) i<=aL (fs++[(0,none)]) n:=λ i hi hc=>RO (b5.up n (by rw [Qw,QV,bp ()];omega) i hi hc);have cg:aL (fs++[(0,none)]) n=0:=by have:=(og fs (0,none)).1;rw [bp ()] at this;exact this
    have ck:=uj (x:=(0,none)) (bp ()) (λ c k h=>h.1) (I4 ()).mt;have cm:=uj (x:=(0,none)) (bp ()) (λ c k h=>h.1) (I4 ()).mw;have hI:=(I4 ()).tl;have e0:=(I4 ()).wl;exists b5;exists hle;exists cg;exists ck;exists cm;clear hG eU ep dy eT;rw [show Ex none=V.non from rfl];ac_rfl;intro q b6 d2 b7 e4;have fa:=b7.at cV;have d3:=b7.at er;have d4:=b7.at et;have c1:=b7.at dz;have c2:=b7.at dA;have nq:∀ b o,jz b=some o->b ≠ q:=λ b o h=>ag h d2;have fo:q ≠ fl:=(nq _ _ cV).symm;have fu:Ext H (upd b6 fl (.lst (ys++[.ref q]))):=(ew.trans b7).put hS;have c3:upd b6 fl (.lst (ys++[.ref q])) fl=some (.lst (ys++[.ref q])):=af;have c4:upd b6 fl (.lst (ys++[.ref q])) dw=some (.dK (cb wr)):=by rw [ae gg.symm];exact d3
    have c5:upd b6 fl (.lst (ys++[.ref q])) dt=some (.dK (cb tc)):=by rw [ae gk.symm];exact d4
    have c6:upd b6 fl (.lst (ys++[.ref q])) a6=some (.dK (bT kw)):=by rw [ae ih.symm];exact c1
    have cn:upd b6 fl (.lst (ys++[.ref q])) a3=some (.dK (bT kr)):=by rw [ae gn.symm];exact c2
    have c7:Al (FnT (upd b6 fl (.lst (ys++[.ref q])))) (fs++[(0,none)]) (ys++[.ref q]):=by
     refine Al.snoc ((cN ()).imp λ f y ⟨q1,z1,z2⟩=>⟨q1,z1,?_⟩) ⟨q,rfl,?_⟩
     ·rw [ae (λ e=>by rw [e,cV] at z2;cases z2)];exact b7.at z2
     ·rw [ae fo];exact e4
    exists c7;clear cV er et dz dA cN ew;ac_rfl;generalize upd b6 fl (.lst (ys++[.ref q]))=a8 at *;clear fa d3 d4 c1 c2 e4 b7 d2 nq fo
    have cT:Ext H (jn [dw,dt] a8):=Ep fu λ b hb=>by
     rcases QG.mp hb with rfl|hb
     ·exact hX
     ·rw [Qo.mp hb];exact hY
    have cc:∀ b o,b ≠ dw->b ≠ dt->a8 b=some o->jn [dw,dt] a8 b=some o:=λ b o h1 h2 h=>ya (by simp [h1,h2]) h;have cf:Al (FnT (jn [dw,dt] a8)) (fs++[(0,none)]) (ys++[.ref q]):=(c7 ()).imp λ f y ⟨q1,z1,z2⟩=>⟨q1,z1,cc _ _ (λ e=>by rw [e,c4] at z2;cases z2) (λ e=>by rw [e,c5] at z2;cases z2) z2⟩;have fv:jn [dw,dt] a8 fl=some (.lst (ys++[.ref q])):=cc _ _ gg gk c3;have fz:jn [dw,dt] a8 a6=some (.dK (bT kw)):=cc _ _ dN.symm dc.symm c6;have eb:jn [dw,dt] a8 a3=some (.dK (bT kr)):=cc _ _ d8.symm dS.symm cn;have hJ:jn [dw,dt] a8 dw=none:=nH (by simp);have f3:jn [dw,dt] a8 dt=none:=nH (by simp);have b1:Ext (jn [dw,dt] a8) a8:=yQ _ _;exists cf;generalize jn [dw,dt] a8=B at *;clear cc c7 c3 c6;refine jS (a:=a3) (kvs:=bT kr) (λ ob i σ H'=>∃ (v11:Option V) (a4:%[0|48]),σ=[%[p|45],%[fl|45],%[dw|45],%[dt|45],some (.int (n:Int)),%[s0|45],%[a6|45],%[a3|45],%[D1|45],some .non,some (.int 0),v11]/\DiI (upd B a3 (.frz ob (.dK (bT kr)))) H' dw dt (fs++[(0,none)]) (λ c k=>(k < n/\c∈Tch (atD ds k))\/(k=n/\c∈kr.take i)) (λ c k=>k < n/\c∈WrD (atD ds k)) (80000 * n) (80000 * n+i) wr a4) cn (λ ob=>⟨v11,tc,rfl,⟨nF b1 _ _,by rw [ae d8];exact c4,cm (),e0,by rw [ae dS];exact c5,(ck ()).iff (λ c k=>⟨.inl,λ z=>z.elim id λ z=>absurd z.2 (by rw [Sg];exact QC)⟩),hI⟩⟩) (λ ob i σ' H' ⟨_,_,_,h⟩=>h.ex.at af) ?_ ?_
    ·rintro ob i z _ b3 hz ⟨d5,a4,rfl,aq⟩ ec
     obtain⟨c,hc,rfl⟩:∃ c,kr[i]? = some c/\z=((Sum.inl c:Key),V.bl true):=by
      unfold bT at hz;rw [getElem?_map] at hz;obtain⟨y,h1,h2⟩:=Option.map_eq_some_iff.mp hz;exact⟨y,h1,h2.symm⟩
     rw [show kV ((Sum.inl c:Key),V.bl true).1=V.int c from rfl];have hK:i < kr.length:=(Qh.mp hc).1
     have htk:∀ c' k,((k < n/\c'∈Tch (atD ds k))\/(k=n/\c'∈kr.take i))\/(k=n/\c'=c) ↔ (k < n/\c'∈Tch (atD ds k))\/(k=n/\c'∈kr.take (i+1)):=λ c' k=>by
      rw [QQ,hc,QF];constructor
      ·rintro ((h|⟨h,h'⟩)|⟨h,h'⟩)
       ·exact .inl h
       ·exact .inr ⟨h,.inl h'⟩
       ·exact .inr ⟨h,.inr (by simp [h'])⟩
      ·rintro (h|⟨h,h'|h'⟩)
       ·exact .inl (.inl h)
       ·exact .inl (.inr ⟨h,h'⟩)
       ·exact .inr ⟨h,by simpa using h'⟩
     have bb:=aq.t;have bt:(cb a4).length < sizeLine:=Bi (by rw [fL];have:=aq.tl;omega);have c8:upd B a3 (.frz ob (.dK (bT kr))) dt=none:=by rw [ae dS];exact f3
     have a7:(∀ i',(i' < n/\c∈Tch (atD ds i'))\/(i'=n/\c∈kr.take i)->aL (fs++[(0,none)]) i'<=aL (fs++[(0,none)]) n)->DiI (upd B a3 (.frz ob (.dK (bT kr)))) (upd b3 dt (.dK (cb (lP a4 c n)))) dw dt (fs++[(0,none)]) (λ c k=>(k < n/\c∈Tch (atD ds k))\/(k=n/\c∈kr.take (i+1))) (λ c k=>k < n/\c∈WrD (atD ds k)) (80000 * n) (80000 * n+(i+1)) wr (lP a4 c n):=λ hn=>⟨aq.ex.put c8,by rw [ae ez];exact aq.w,aq.mw,aq.wl,af,(aq.mt.put c n hn).iff htk,by have:=gz a4 c n;have:=aq.tl;omega⟩;exists a7;exists htk
     cases hlk:bB a4 c with
     | none=>
      have hv:(fD (cb a4) (.inl c)).isSome=false:=by rw [bC,hlk];rfl
      have fin:=a7 () λ i' cp=>(by obtain⟨j,hj⟩:=aq.mt.2 c i' cp;rw [hlk] at hj;cases hj);exists fin;clear hz hc aq I4 a9 b2 b5 hle ck cm cf b1 cT ec htk a7;ac_rfl;refine gO (k:=.inl c) bb ?_;rw [hv];ac_rfl;refine iy (k:=.inl c) bb bt ?_;rw [cQ];exact⟨_,_,rfl,fin ()⟩
     | some j=>
      have hv:(fD (cb a4) (.inl c)).isSome=true:=by rw [bC,hlk];rfl
      have de:fD (cb a4) (.inl c)=%[j|47]:=by rw [bC,hlk];rfl
      obtain⟨k,rfl,hk,ee⟩:=aq.mt.1 c j hlk
      have eI:k < (fs++[(0,none)]).length:=by
       rw [Qw,QV,bp ()]
       rcases hk with ⟨h,_⟩|⟨h,_⟩<;>omega
      obtain⟨q1,j0,cv⟩:=BD (cf ()) eI;have hL:q1 ≠ a3:=λ e=>by rw [e,eb] at cv;cases cv
      have j1:b3 q1=some (.tup [.int (aL (fs++[(0,none)]) k:Int),Ex (vq (fs++[(0,none)]) k)]):=aq.ex.at (by rw [ae hL];exact cv);have j2:b3 fl=some (.lst (ys++[.ref q])):=aq.ex.at (by rw [ae gn];exact fv)
      by_cases hlt:aL (fs++[(0,none)]) k < 0
      ·have fin:=a7 () λ i' cp=>(by have:=ee i' cp;rw [cg ()];omega);have f5:(aL (fs++[(0,none)]) k:Int) < 0:=by omega
       exists fin;generalize (aL (fs++[(0,none)]) k:Int)=lk at *;clear hz hc aq I4 a9 b2 b5 hle ck cm cf b1 cT ec htk a7 ee cv hlt hk;ac_rfl;refine gO (k:=.inl c) bb ?_;rw [hv];ac_rfl;refine mj (k:=.inl c) bb de ?_;ac_rfl;refine iy (k:=.inl c) bb bt ?_;rw [cQ];exact⟨_,_,rfl,fin ()⟩
      ·have fin:DiI (upd B a3 (.frz ob (.dK (bT kr)))) b3 dw dt (fs++[(0,none)]) (λ c k=>(k < n/\c∈Tch (atD ds k))\/(k=n/\c∈kr.take (i+1))) (λ c k=>k < n/\c∈WrD (atD ds k)) (80000 * n) (80000 * n+(i+1)) wr a4:=⟨aq.ex,aq.w,aq.mw,aq.wl,aq.t,(aq.mt.skip c n hlk (by rw [cg (),QX];omega)).iff (htk ()),by have:=aq.tl;omega⟩;have f5:¬ (aL (fs++[(0,none)]) k:Int) < 0:=by omega
       exists fin;generalize (aL (fs++[(0,none)]) k:Int)=lk at *;clear hz hc aq I4 a9 b2 b5 hle ck cm cf b1 cT ec htk a7 ee cv hlt hk;ac_rfl;refine gO (k:=.inl c) bb ?_;rw [hv];ac_rfl;refine mj (k:=.inl c) bb de ?_;ac_rfl;exact⟨_,_,rfl,fin ()⟩
    ·rintro ob _ b3 ⟨d5,a4,rfl,aq⟩
     have hT:MxI (aL (fs++[(0,none)])) (λ c k=>(k < n/\c∈Tch (atD ds k))\/(k=n/\c∈kr)) a4:=by
      have:=aq.mt;rw [cP,QD] at this;exact this
     have d6:=aq.tl;rw [cP] at d6;have d7:Ext B (upd b3 a3 (.dK (bT kr))):=Ext.thaw eb aq.ex;have f6:upd b3 a3 (.dK (bT kr)) dw=some (.dK (cb wr)):=by rw [ae d8];exact aq.w
     have f7:upd b3 a3 (.dK (bT kr)) dt=some (.dK (cb a4)):=by rw [ae dS];exact aq.t
     have eg:=d7.at fz;have cA:=aq.mw;exists hT;exists cA;generalize upd b3 a3 (.dK (bT kr))=ke at *;clear aq eb c4 c5 cn;ac_rfl;refine jS (a:=a6) (kvs:=bT kw) (λ ob i σ H'=>∃ (v11:Option V) (b4 a5:%[0|48]),σ=[%[p|45],%[fl|45],%[dw|45],%[dt|45],some (.int (n:Int)),%[s0|45],%[a6|45],%[a3|45],%[D1|45],some .non,some (.int 0),v11]/\DiI (upd B a6 (.frz ob (.dK (bT kw)))) H' dw dt (fs++[(0,none)]) (λ c k=>((k < n/\c∈Tch (atD ds k))\/(k=n/\c∈kr))\/(k=n/\c∈kw.take i)) (λ c k=>(k < n/\c∈WrD (atD ds k))\/(k=n/\c∈kw.take i)) (80000 * n+i) (80000 * n+kr.length+i) b4 a5) eg (λ ob=>⟨d5,wr,a4,rfl,⟨nF d7 _ _,by rw [ae dN];exact f6,(cA ()).iff (λ c k=>⟨.inl,λ z=>z.elim id λ z=>absurd z.2 (by rw [Sg];exact QC)⟩),e0,by rw [ae dc];exact f7,(hT ()).iff (λ c k=>⟨.inl,λ z=>z.elim id λ z=>absurd z.2 (by rw [Sg];exact QC)⟩),d6⟩⟩) (λ ob i σ' H' ⟨_,_,_,_,h⟩=>h.ex.at af) ?_ ?_
     ·rintro ob i z _ c9 hz ⟨hM,b4,a5,rfl,ar⟩ hN
      obtain⟨c,hc,rfl⟩:∃ c,kw[i]? = some c/\z=((Sum.inl c:Key),V.bl true):=by
       unfold bT at hz;rw [getElem?_map] at hz;obtain⟨y,h1,h2⟩:=Option.map_eq_some_iff.mp hz;exact⟨y,h1,h2.symm⟩
      rw [show kV ((Sum.inl c:Key),V.bl true).1=V.int c from rfl];have hK:i < kw.length:=(Qh.mp hc).1
      have dB:c∈WrD (atD ds n):=by
       rw [eD ()];exact(a9 () c).mp (Qr hc)
      have htk:∀ (T:Int->Nat->Prop) c' k,(T c' k\/(k=n/\c'∈kw.take i))\/(k=n/\c'=c) ↔ T c' k\/(k=n/\c'∈kw.take (i+1)):=λ T c' k=>by
       rw [QQ,hc,QF];constructor
       ·rintro ((h|⟨h,h'⟩)|⟨h,h'⟩)
        ·exact .inl h
        ·exact .inr ⟨h,.inl h'⟩
        ·exact .inr ⟨h,.inr (by simp [h'])⟩
       ·rintro (h|⟨h,h'|h'⟩)
        ·exact .inl (.inl h)
        ·exact .inl (.inr ⟨h,h'⟩)
        ·exact .inr ⟨h,by simpa using h'⟩
      have f9:=ar.t;have gc:upd c9 dt (.dK (cb (lP a5 c n))) dw=some (.dK (cb b4)):=by rw [ae ez];exact ar.w
      have bt:(cb a5).length < sizeLine:=Bi (by rw [fL];have:=ar.tl;omega);have ek:(cb b4).length < sizeLine:=Bi (by rw [fL];have:=ar.wl;omega);have c8:upd B a6 (.frz ob (.dK (bT kw))) dt=none:=by rw [ae dc];exact f3
      have gd:upd B a6 (.frz ob (.dK (bT kw))) dw=none:=by rw [ae dN];exact hJ
      have mT:=(ar.mt.put c n λ i' cp=>by
       rcases cp with (⟨h,h'⟩|⟨rfl,_⟩)|⟨rfl,_⟩
       ·refine hle () i' h ?_
        rcases QF.mp h' with q|q
        ·exact .inl ⟨c,q,Qz _ dB⟩
        ·exact .inr ⟨c,dB,q⟩
       ·exact Qi _
       ·exact Qi _).iff (htk λ c k=>(k < n/\c∈Tch (atD ds k))\/(k=n/\c∈kr))
      have mW:=(ar.mw.put c n λ i' cp=>by
       rcases cp with ⟨h,h'⟩|⟨rfl,_⟩
       ·exact hle () i' h (.inl ⟨c,h',Qz _ dB⟩)
       ·exact Qi _).iff (htk λ c k=>k < n/\c∈WrD (atD ds k))
      have fin:DiI (upd B a6 (.frz ob (.dK (bT kw)))) (upd (upd c9 dt (.dK (cb (lP a5 c n)))) dw (.dK (cb (lP b4 c n)))) dw dt (fs++[(0,none)]) (λ c k=>((k < n/\c∈Tch (atD ds k))\/(k=n/\c∈kr))\/(k=n/\c∈kw.take (i+1))) (λ c k=>(k < n/\c∈WrD (atD ds k))\/(k=n/\c∈kw.take (i+1))) (80000 * n+(i+1)) (80000 * n+kr.length+(i+1)) (lP b4 c n) (lP a5 c n):=⟨(ar.ex.put c8).put gd,af,mW,by have:=gz b4 c n;have:=ar.wl;omega,by rw [ae ez.symm];exact af,mT,by have:=gz a5 c n;have:=ar.tl;omega⟩;exists fin;clear hz hc ar I4 a9 b2 b5 hle ck cm cf b1 cT hN htk mT mW dB hT cA;ac_rfl;refine iy (k:=.inl c) f9 bt ?_;rw [cQ];ac_rfl;refine iy (k:=.inl c) gc ek ?_;rw [cQ];exact⟨_,_,_,rfl,fin ()⟩
     ·rintro ob _ c9 ⟨hM,b4,a5,rfl,ar⟩;have cJ:Ext B (upd c9 a6 (.dK (bT kw))):=Ext.thaw fz ar.ex;have g1:=ar.wl;have g2:=ar.tl;have g3:=ar.mw;have g4:=ar.mt;rw [cP] at g1 g2 g3 g4;rw [QD] at g3 g4
      have lst:∀ {P:Nat->Prop} (k:Nat),(k < n/\P k)\/(k=n/\P n) ↔ k < n+1/\P k:=λ {P} k=>by
       constructor
       ·rintro (⟨h,h'⟩|⟨rfl,h'⟩)
        ·exact⟨by omega,h'⟩
        ·exact⟨by omega,h'⟩
       ·rintro ⟨h,h'⟩
        by_cases hk:k=n
        ·subst hk;exact .inr ⟨rfl,h'⟩
        ·exact .inl ⟨by omega,h'⟩
      have fin:DoI H (upd c9 a6 (.dK (bT kw))) ds fl dw dt (n+1) (fs++[(0,none)]) b4 a5 (ys++[.ref q]):=by
       refine⟨cT.trans cJ,cJ.at fv,(cf ()).imp λ _ _ h=>h.ext cJ,by rw [Qw,QV,bp ()],b5 (),by rw [ae dN];exact ar.w,g3.iff λ c k=>?_,by omega,by rw [ae dc];exact ar.t,g4.iff λ c k=>?_,by omega⟩
       ·rw [←lst (P:=λ k=>c∈WrD (atD ds k)) k,a9 () c,eD ()];exact Iff.rfl
       ·rw [←lst (P:=λ k=>c∈Tch (atD ds k)) k,a9 () c,b2 () c,eD ()];constructor
        ·rintro ((h|⟨h,h'⟩)|⟨h,h'⟩)
         ·exact .inl h
         ·exact .inr ⟨h,Qn _ h'⟩
         ·exact .inr ⟨h,Qz _ h'⟩
        ·rintro (h|⟨h,h'⟩)
         ·exact .inl (.inl h)
         ·rcases QF.mp h' with h'|h'
          ·exact .inr ⟨h,h'⟩
          ·exact .inl (.inr ⟨h,h'⟩)
      clear ar g1 g2 g3 g4 I4 a9 b2 b5 hle ck cm cf b1 cT hT cA cJ;exact⟨_,_,_,_,_,_,_,_,_,_,_,_,rfl,fin⟩
   | some j=>
    have b5:DlP ds (fs++[(aL fs j+1,some j)]):=by
     refine(I4 ()).dl.step (λ i hi hc=>?_) (λ h=>?_) (λ j' h=>?_)
     ·obtain⟨r,hr,hle⟩:=ep i (by rw [←bp ()];exact hi) (by rw [←bp ()];exact hc);have:=(eU j rfl).2 r hr;rw [QX] at this;omega
     ·cases h
     ·cases h;obtain⟨k,hk,eI,kk⟩:=(dy ()).1 _ (eU j rfl).1;have:j=k:=by omega
      subst this;exact⟨by rw [bp ()];exact eI,by rw [bp ()];exact kk,rfl⟩
    have hle:∀ i,i < n->ClD (atD ds i) (atD ds n)->aL (fs++[(aL fs j+1,some j)]) i<=aL (fs++[(aL fs j+1,some j)]) n:=λ i hi hc=>RO (b5.up n (by rw [Qw,QV,bp ()];omega) i hi hc);have cg:aL (fs++[(aL fs j+1,some j)]) n=aL fs j+1:=by have:=(og fs (aL fs j+1,some j)).1;rw [bp ()] at this;exact this
    have ck:=uj (x:=(aL fs j+1,some j)) (bp ()) (λ c k h=>h.1) (I4 ()).mt;have cm:=uj (x:=(aL fs j+1,some j)) (bp ()) (λ c k h=>h.1) (I4 ()).mw;have hI:=(I4 ()).tl;have e0:=(I4 ()).wl;exists b5;exists hle;exists cg;exists ck;exists cm
    have kn:j < n:=by
     obtain⟨k,hk,eI,_⟩:=(dy ()).1 _ (eU j rfl).1;omega
    clear hG eU ep dy eT;obtain⟨qj,k4,k6⟩:=BD (cN ()) (k:=j) (by rw [bp ()];exact kn);rw [show Ex (some j)=V.int (j:Int) from rfl];ac_rfl;intro q b6 d2 b7 e4;have fa:=b7.at cV;have d3:=b7.at er;have d4:=b7.at et;have c1:=b7.at dz;have c2:=b7.at dA;have nq:∀ b o,jz b=some o->b ≠ q:=λ b o h=>ag h d2;have fo:q ≠ fl:=(nq _ _ cV).symm;have fu:Ext H (upd b6 fl (.lst (ys++[.ref q]))):=(ew.trans b7).put hS;have c3:upd b6 fl (.lst (ys++[.ref q])) fl=some (.lst (ys++[.ref q])):=af;have c4:upd b6 fl (.lst (ys++[.ref q])) dw=some (.dK (cb wr)):=by rw [ae gg.symm];exact d3
    have c5:upd b6 fl (.lst (ys++[.ref q])) dt=some (.dK (cb tc)):=by rw [ae gk.symm];exact d4
    have c6:upd b6 fl (.lst (ys++[.ref q])) a6=some (.dK (bT kw)):=by rw [ae ih.symm];exact c1
    have cn:upd b6 fl (.lst (ys++[.ref q])) a3=some (.dK (bT kr)):=by rw [ae gn.symm];exact c2
    have c7:Al (FnT (upd b6 fl (.lst (ys++[.ref q])))) (fs++[(aL fs j+1,some j)]) (ys++[.ref q]):=by
     refine Al.snoc ((cN ()).imp λ f y ⟨q1,z1,z2⟩=>⟨q1,z1,?_⟩) ⟨q,rfl,?_⟩
     ·rw [ae (λ e=>by rw [e,cV] at z2;cases z2)];exact b7.at z2
     ·rw [ae fo];exact e4
    exists c7;clear cV er et dz dA cN ew;ac_rfl;generalize upd b6 fl (.lst (ys++[.ref q]))=a8 at *;clear fa d3 d4 c1 c2 e4 b7 d2 nq fo
    have cT:Ext H (jn [dw,dt] a8):=Ep fu λ b hb=>by
     rcases QG.mp hb with rfl|hb
     ·exact hX
     ·rw [Qo.mp hb];exact hY
    have cc:∀ b o,b ≠ dw->b ≠ dt->a8 b=some o->jn [dw,dt] a8 b=some o:=λ b o h1 h2 h=>ya (by simp [h1,h2]) h;have cf:Al (FnT (jn [dw,dt] a8)) (fs++[(aL fs j+1,some j)]) (ys++[.ref q]):=(c7 ()).imp λ f y ⟨q1,z1,z2⟩=>⟨q1,z1,cc _ _ (λ e=>by rw [e,c4] at z2;cases z2) (λ e=>by rw [e,c5] at z2;cases z2) z2⟩;have fv:jn [dw,dt] a8 fl=some (.lst (ys++[.ref q])):=cc _ _ gg gk c3;have fz:jn [dw,dt] a8 a6=some (.dK (bT kw)):=cc _ _ dN.symm dc.symm c6;have eb:jn [dw,dt] a8 a3=some (.dK (bT kr)):=cc _ _ d8.symm dS.symm cn;have hJ:jn [dw,dt] a8 dw=none:=nH (by simp);have f3:jn [dw,dt] a8 dt=none:=nH (by simp);have b1:Ext (jn [dw,dt] a8) a8:=yQ _ _;exists cf;generalize jn [dw,dt] a8=B at *;clear cc c7 c3 c6;refine jS (a:=a3) (kvs:=bT kr) (λ ob i σ H'=>∃ (v11:Option V) (a4:%[0|48]),σ=[%[p|45],%[fl|45],%[dw|45],%[dt|45],some (.int (n:Int)),%[s0|45],%[a6|45],%[a3|45],%[D1|45],some (.int (j:Int)),some (.int ((aL fs j:Int)+1)),v11]/\DiI (upd B a3 (.frz ob (.dK (bT kr)))) H' dw dt (fs++[(aL fs j+1,some j)]) (λ c k=>(k < n/\c∈Tch (atD ds k))\/(k=n/\c∈kr.take i)) (λ c k=>k < n/\c∈WrD (atD ds k)) (80000 * n) (80000 * n+i) wr a4) cn (λ ob=>⟨v11,tc,rfl,⟨nF b1 _ _,by rw [ae d8];exact c4,cm (),e0,by rw [ae dS];exact c5,(ck ()).iff (λ c k=>⟨.inl,λ z=>z.elim id λ z=>absurd z.2 (by rw [Sg];exact QC)⟩),hI⟩⟩) (λ ob i σ' H' ⟨_,_,_,h⟩=>h.ex.at af) ?_ ?_
    ·rintro ob i z _ b3 hz ⟨d5,a4,rfl,aq⟩ ec
     obtain⟨c,hc,rfl⟩:∃ c,kr[i]? = some c/\z=((Sum.inl c:Key),V.bl true):=by
      unfold bT at hz;rw [getElem?_map] at hz;obtain⟨y,h1,h2⟩:=Option.map_eq_some_iff.mp hz;exact⟨y,h1,h2.symm⟩
     rw [show kV ((Sum.inl c:Key),V.bl true).1=V.int c from rfl];have hK:i < kr.length:=(Qh.mp hc).1
     have htk:∀ c' k,((k < n/\c'∈Tch (atD ds k))\/(k=n/\c'∈kr.take i))\/(k=n/\c'=c) ↔ (k < n/\c'∈Tch (atD ds k))\/(k=n/\c'∈kr.take (i+1)):=λ c' k=>by
      rw [QQ,hc,QF];constructor
      ·rintro ((h|⟨h,h'⟩)|⟨h,h'⟩)
       ·exact .inl h
       ·exact .inr ⟨h,.inl h'⟩
       ·exact .inr ⟨h,.inr (by simp [h'])⟩
      ·rintro (h|⟨h,h'|h'⟩)
       ·exact .inl (.inl h)
       ·exact .inl (.inr ⟨h,h'⟩)
       ·exact .inr ⟨h,by simpa using h'⟩
     have bb:=aq.t;have bt:(cb a4).length < sizeLine:=Bi (by rw [fL];have:=aq.tl;omega);have c8:upd B a3 (.frz ob (.dK (bT kr))) dt=none:=by rw [ae dS];exact f3
     have a7:(∀ i',(i' < n/\c∈Tch (atD ds i'))\/(i'=n/\c∈kr.take i)->aL (fs++[(aL fs j+1,some j)]) i'<=aL (fs++[(aL fs j+1,some j)]) n)->DiI (upd B a3 (.frz ob (.dK (bT kr)))) (upd b3 dt (.dK (cb (lP a4 c n)))) dw dt (fs++[(aL fs j+1,some j)]) (λ c k=>(k < n/\c∈Tch (atD ds k))\/(k=n/\c∈kr.take (i+1))) (λ c k=>k < n/\c∈WrD (atD ds k)) (80000 * n) (80000 * n+(i+1)) wr (lP a4 c n):=λ hn=>⟨aq.ex.put c8,by rw [ae ez];exact aq.w,aq.mw,aq.wl,af,(aq.mt.put c n hn).iff htk,by have:=gz a4 c n;have:=aq.tl;omega⟩;exists a7;exists htk
     cases hlk:bB a4 c with
     | none=>
      have hv:(fD (cb a4) (.inl c)).isSome=false:=by rw [bC,hlk];rfl
      have fin:=a7 () λ i' cp=>(by obtain⟨j,hj⟩:=aq.mt.2 c i' cp;rw [hlk] at hj;cases hj);exists fin;clear hz hc aq I4 a9 b2 b5 hle ck cm cf b1 cT ec htk a7;ac_rfl;refine gO (k:=.inl c) bb ?_;rw [hv];ac_rfl;refine iy (k:=.inl c) bb bt ?_;rw [cQ];exact⟨_,_,rfl,fin ()⟩
     | some j=>
      have hv:(fD (cb a4) (.inl c)).isSome=true:=by rw [bC,hlk];rfl
      have de:fD (cb a4) (.inl c)=%[j|47]:=by rw [bC,hlk];rfl
      obtain⟨k,rfl,hk,ee⟩:=aq.mt.1 c j hlk
      have eI:k < (fs++[(aL fs j+1,some j)]).length:=by
       rw [Qw,QV,bp ()]
       rcases hk with ⟨h,_⟩|⟨h,_⟩<;>omega
      obtain⟨q1,j0,cv⟩:=BD (cf ()) eI;have hL:q1 ≠ a3:=λ e=>by rw [e,eb] at cv;cases cv
      have j1:b3 q1=some (.tup [.int (aL (fs++[(aL fs j+1,some j)]) k:Int),Ex (vq (fs++[(aL fs j+1,some j)]) k)]):=aq.ex.at (by rw [ae hL];exact cv);have j2:b3 fl=some (.lst (ys++[.ref q])):=aq.ex.at (by rw [ae gn];exact fv)
      by_cases hlt:aL (fs++[(aL fs j+1,some j)]) k < aL fs j+1
      ·have fin:=a7 () λ i' cp=>(by have:=ee i' cp;rw [cg ()];omega);have f5:(aL (fs++[(aL fs j+1,some j)]) k:Int) < ((aL fs j:Int)+1):=by omega
       exists fin;generalize (aL (fs++[(aL fs j+1,some j)]) k:Int)=lk at *;clear hz hc aq I4 a9 b2 b5 hle ck cm cf b1 cT ec htk a7 ee cv hlt hk;ac_rfl;refine gO (k:=.inl c) bb ?_;rw [hv];ac_rfl;refine mj (k:=.inl c) bb de ?_;ac_rfl;refine iy (k:=.inl c) bb bt ?_;rw [cQ];exact⟨_,_,rfl,fin ()⟩
      ·have fin:DiI (upd B a3 (.frz ob (.dK (bT kr)))) b3 dw dt (fs++[(aL fs j+1,some j)]) (λ c k=>(k < n/\c∈Tch (atD ds k))\/(k=n/\c∈kr.take (i+1))) (λ c k=>k < n/\c∈WrD (atD ds k)) (80000 * n) (80000 * n+(i+1)) wr a4:=⟨aq.ex,aq.w,aq.mw,aq.wl,aq.t,(aq.mt.skip c n hlk (by rw [cg (),QX];omega)).iff (htk ()),by have:=aq.tl;omega⟩;have f5:¬ (aL (fs++[(aL fs j+1,some j)]) k:Int) < ((aL fs j:Int)+1):=by omega
       exists fin;generalize (aL (fs++[(aL fs j+1,some j)]) k:Int)=lk at *;clear hz hc aq I4 a9 b2 b5 hle ck cm cf b1 cT ec htk a7 ee cv hlt hk;ac_rfl;refine gO (k:=.inl c) bb ?_;rw [hv];ac_rfl;refine mj (k:=.inl c) bb de ?_;ac_rfl;exact⟨_,_,rfl,fin ()⟩
    ·rintro ob _ b3 ⟨d5,a4,rfl,aq⟩
     have hT:MxI (aL (fs++[(aL fs j+1,some j)])) (λ c k=>(k < n/\c∈Tch (atD ds k))\/(k=n/\c∈kr)) a4:=by
      have:=aq.mt;rw [cP,QD] at this;exact this
     have d6:=aq.tl;rw [cP] at d6;have d7:Ext B (upd b3 a3 (.dK (bT kr))):=Ext.thaw eb aq.ex;have f6:upd b3 a3 (.dK (bT kr)) dw=some (.dK (cb wr)):=by rw [ae d8];exact aq.w
     have f7:upd b3 a3 (.dK (bT kr)) dt=some (.dK (cb a4)):=by rw [ae dS];exact aq.t
     have eg:=d7.at fz;have cA:=aq.mw;exists hT;exists cA;generalize upd b3 a3 (.dK (bT kr))=ke at *;clear aq eb c4 c5 cn;ac_rfl;refine jS (a:=a6) (kvs:=bT kw) (λ ob i σ H'=>∃ (v11:Option V) (b4 a5:%[0|48]),σ=[%[p|45],%[fl|45],%[dw|45],%[dt|45],some (.int (n:Int)),%[s0|45],%[a6|45],%[a3|45],%[D1|45],some (.int (j:Int)),some (.int ((aL fs j:Int)+1)),v11]/\DiI (upd B a6 (.frz ob (.dK (bT kw)))) H' dw dt (fs++[(aL fs j+1,some j)]) (λ c k=>((k < n/\c∈Tch (atD ds k))\/(k=n/\c∈kr))\/(k=n/\c∈kw.take i)) (λ c k=>(k < n/\c∈WrD (atD ds k))\/(k=n/\c∈kw.take i)) (80000 * n+i) (80000 * n+kr.length+i) b4 a5) eg (λ ob=>⟨d5,wr,a4,rfl,⟨nF d7 _ _,by rw [ae dN];exact f6,(cA ()).iff (λ c k=>⟨.inl,λ z=>z.elim id λ z=>absurd z.2 (by rw [Sg];exact QC)⟩),e0,by rw [ae dc];exact f7,(hT ()).iff (λ c k=>⟨.inl,λ z=>z.elim id λ z=>absurd z.2 (by rw [Sg];exact QC)⟩),d6⟩⟩) (λ ob i σ' H' ⟨_,_,_,_,h⟩=>h.ex.at af) ?_ ?_
     ·rintro ob i z _ c9 hz ⟨hM,b4,a5,rfl,ar⟩ hN
      obtain⟨c,hc,rfl⟩:∃ c,kw[i]? = some c/\z=((Sum.inl c:Key),V.bl true):=by
       unfold bT at hz;rw [getElem?_map] at hz;obtain⟨y,h1,h2⟩:=Option.map_eq_some_iff.mp hz;exact⟨y,h1,h2.symm⟩
      rw [show kV ((Sum.inl c:Key),V.bl true).1=V.int c from rfl];have hK:i < kw.length:=(Qh.mp hc).1
      have dB:c∈WrD (atD ds n):=by
       rw [eD ()];exact(a9 () c).mp (Qr hc)
      have htk:∀ (T:Int->Nat->Prop) c' k,(T c' k\/(k=n/\c'∈kw.take i))\/(k=n/\c'=c) ↔ T c' k\/(k=n/\c'∈kw.take (i+1)):=λ T c' k=>by
       rw [QQ,hc,QF];constructor
       ·rintro ((h|⟨h,h'⟩)|⟨h,h'⟩)
        ·exact .inl h
        ·exact .inr ⟨h,.inl h'⟩
        ·exact .inr ⟨h,.inr (by simp [h'])⟩
       ·rintro (h|⟨h,h'|h'⟩)
        ·exact .inl (.inl h)
        ·exact .inl (.inr ⟨h,h'⟩)
        ·exact .inr ⟨h,by simpa using h'⟩
      have f9:=ar.t;have gc:upd c9 dt (.dK (cb (lP a5 c n))) dw=some (.dK (cb b4)):=by rw [ae ez];exact ar.w
      have bt:(cb a5).length < sizeLine:=Bi (by rw [fL];have:=ar.tl;omega);have ek:(cb b4).length < sizeLine:=Bi (by rw [fL];have:=ar.wl;omega);have c8:upd B a6 (.frz ob (.dK (bT kw))) dt=none:=by rw [ae dc];exact f3
      have gd:upd B a6 (.frz ob (.dK (bT kw))) dw=none:=by rw [ae dN];exact hJ
      have mT:=(ar.mt.put c n λ i' cp=>by
       rcases cp with (⟨h,h'⟩|⟨rfl,_⟩)|⟨rfl,_⟩
       ·refine hle () i' h ?_
        rcases QF.mp h' with q|q
        ·exact .inl ⟨c,q,Qz _ dB⟩
        ·exact .inr ⟨c,dB,q⟩
       ·exact Qi _
       ·exact Qi _).iff (htk λ c k=>(k < n/\c∈Tch (atD ds k))\/(k=n/\c∈kr))
      have mW:=(ar.mw.put c n λ i' cp=>by
       rcases cp with ⟨h,h'⟩|⟨rfl,_⟩
       ·exact hle () i' h (.inl ⟨c,h',Qz _ dB⟩)
       ·exact Qi _).iff (htk λ c k=>k < n/\c∈WrD (atD ds k))
      have fin:DiI (upd B a6 (.frz ob (.dK (bT kw)))) (upd (upd c9 dt (.dK (cb (lP a5 c n)))) dw (.dK (cb (lP b4 c n)))) dw dt (fs++[(aL fs j+1,some j)]) (λ c k=>((k < n/\c∈Tch (atD ds k))\/(k=n/\c∈kr))\/(k=n/\c∈kw.take (i+1))) (λ c k=>(k < n/\c∈WrD (atD ds k))\/(k=n/\c∈kw.take (i+1))) (80000 * n+(i+1)) (80000 * n+kr.length+(i+1)) (lP b4 c n) (lP a5 c n):=⟨(ar.ex.put c8).put gd,af,mW,by have:=gz b4 c n;have:=ar.wl;omega,by rw [ae ez.symm];exact af,mT,by have:=gz a5 c n;have:=ar.tl;omega⟩;exists fin;clear hz hc ar I4 a9 b2 b5 hle ck cm cf b1 cT hN htk mT mW dB hT cA;ac_rfl;refine iy (k:=.inl c) f9 bt ?_;rw [cQ];ac_rfl;refine iy (k:=.inl c) gc ek ?_;rw [cQ];exact⟨_,_,_,rfl,fin ()⟩
     ·rintro ob _ c9 ⟨hM,b4,a5,rfl,ar⟩;have cJ:Ext B (upd c9 a6 (.dK (bT kw))):=Ext.thaw fz ar.ex;have g1:=ar.wl;have g2:=ar.tl;have g3:=ar.mw;have g4:=ar.mt;rw [cP] at g1 g2 g3 g4;rw [QD] at g3 g4
      have lst:∀ {P:Nat->Prop} (k:Nat),(k < n/\P k)\/(k=n/\P n) ↔ k < n+1/\P k:=λ {P} k=>by
       constructor
       ·rintro (⟨h,h'⟩|⟨rfl,h'⟩)
        ·exact⟨by omega,h'⟩
        ·exact⟨by omega,h'⟩
       ·rintro ⟨h,h'⟩
        by_cases hk:k=n
        ·subst hk;exact .inr ⟨rfl,h'⟩
        ·exact .inl ⟨by omega,h'⟩
      have fin:DoI H (upd c9 a6 (.dK (bT kw))) ds fl dw dt (n+1) (fs++[(aL fs j+1,some j)]) b4 a5 (ys++[.ref q]):=by
       refine⟨cT.trans cJ,cJ.at fv,(cf ()).imp λ _ _ h=>h.ext cJ,by rw [Qw,QV,bp ()],b5 (),by rw [ae dN];exact ar.w,g3.iff λ c k=>?_,by omega,by rw [ae dc];exact ar.t,g4.iff λ c k=>?_,by omega⟩
       ·rw [←lst (P:=λ k=>c∈WrD (atD ds k)) k,a9 () c,eD ()];exact Iff.rfl
       ·rw [←lst (P:=λ k=>c∈Tch (atD ds k)) k,a9 () c,b2 () c,eD ()];constructor
        ·rintro ((h|⟨h,h'⟩)|⟨h,h'⟩)
         ·exact .inl h
         ·exact .inr ⟨h,Qn _ h'⟩
         ·exact .inr ⟨h,Qz _ h'⟩
        ·rintro (h|⟨h,h'⟩)
         ·exact .inl (.inl h)
         ·rcases QF.mp h' with h'|h'
          ·exact .inr ⟨h,h'⟩
          ·exact .inl (.inr ⟨h,h'⟩)
      clear ar g1 g2 g3 g4 I4 a9 b2 b5 hle ck cm cf b1 cT hT cA cJ;exact⟨_,_,_,_,_,_,_,_,_,_,_,_,rfl,fin⟩
  ·rintro _ H4 ⟨v4,v5,v6,v7,v8,v9,v10,v11,fs,wr,tc,ys,rfl,I4⟩;have k2:=k () fl H4 I4.ex ⟨fs,ys,I4.f,I4.al,I4.nn.trans (ho ()),I4.dl⟩;clear k;ac_rfl
def E8(fs:List (Nat × Option Nat))(M:Nat):Prop:=(∀ k,k < fs.length->aL fs k < M)/\(M=0\/∃ k,k < fs.length/\aL fs k+1=M)
def sJ{fs:List (Nat × Option Nat)}{k:Nat}{f:Nat × Option Nat}(h:fs[k]? = some f):aL fs k=f.1:=by unfold aL;rw [getD_eq_getElem?_getD,h];rfl
def uQ{fs:List (Nat × Option Nat)}{Q:VK}{H:Hp}(q:∀ M:Nat,E8 fs M->Q (.int (M:Int)) H):x4 0 H Q (fs.map λ f=>(f.1:Int)+1):=by
 refine⟨λ h=>?_,λ M hM hle=>?_⟩
 ·have e:fs=[]:=List.map_eq_nil_iff.mp h;subst e;exact q 0 ⟨λ k hk=>absurd hk (RM _),.inl rfl⟩
 ·obtain⟨f,hf,rfl⟩:=QN.mp hM;obtain⟨k,hk,ek⟩:=Rk hf;have aq:fs[k]? = some f:=by rw [Qf hk,ek]
  have:=q (f.1+1) ⟨λ j hj=>?_,.inr ⟨k,hk,by rw [sJ aq]⟩⟩
  ·exact this
  ·have h1:=hle _ (Sy (RH hj));rw [sJ (Qf hj)];omega
def ix(fs:List (Nat × Option Nat))(n a:Nat):List Nat:=(List.range n).filter λ k=>decide (aL fs k=a)
def pP(fs:List (Nat × Option Nat))(n a:Nat):ix fs (n+1) a=if aL fs n=a then ix fs n a++[n] else ix fs n a:=by
 unfold ix;rw [List.range_succ,List.filter_append]
 by_cases h:aL fs n=a
 ·rw [QE h];simp [h]
 ·rw [QB h];simp [h]
def uD(fs:List (Nat × Option Nat))(n a:Nat):(ix fs n a).length<=n:=by
 have:=Sq (λ k=>decide (aL fs k=a)) (List.range n);rw [Q8] at this;exact this
def fE(A:List Nat):List V:=A.map λ (k:Nat)=>V.int (k:Int)
structure TdI(G H':Hp)(tl:Addr)(qs:List Addr)(fs:List (Nat × Option Nat))(n:Nat):Prop where
 ex:Ext G H'
 t:H' tl=some (.lst (qs.map V.ref))
 nd:(tl::qs).Nodup
 fr:∀ q∈tl::qs,G q=none
 ro:∀ (a:Nat) (q:Addr),qs[a]? = some q->H' q=some (.lst (fE (ix fs n a)))
def Mf(ds:List Sd)(G H:Hp)(r:Addr):Prop:=∃ (fs:List (Nat × Option Nat)) (qs:List Addr),fs.length=ds.length/\DlP ds fs/\E8 fs qs.length/\TdI G H r qs fs ds.length
abbrev mV(mg:Str->Option Value)(t:Adr)(p:Addr)(H:Hp)(Q:VK)(E:XK):Prop:=∃ (room:Int) (ds:List Sd),StL t H room p ds/\ds.length<=60/\TbH mg H 547 (xf "dealt")/\∀ (r:Addr) (H':Hp),Mf ds H H' r->Q (.ref r) H'
def nQ(mg:Str->Option Value)(t:Adr):Sp:=λ vs H Q E=>∃ (p:Addr),vs=[.ref p]/\(mV mg t p H Q E)
def ji(mg:Str->Option Value)(t:Adr)(p:Addr)(H:Hp)(Q:VK)(E:XK):nQ mg t [.ref p] H Q E=(mV mg t p H Q E):=jB (f:=λ (p:Addr)=>[.ref p]) (λ _ _ h=>by cases h;exact rfl) p
def kG(T:Tx K mg t):%[7,UA|49] %[|127] (nQ mg t):=by
 have G_oX:=%[gM|43];have G_UD:=%[uL|43];refine T.F_UA.ok bJ (λ _ _ _ _ h=>iW h λ _=>rfl) %[0|50]
 ·obtain⟨p,rfl,room,ds,a8,hl,bp,k⟩:=h;refine⟨_,%[%[%[oX,%[%[0|0]|1]|3],∅|15],%[%[1,bJ,%[UD,%[%[0|0]|1]|3]|4],%[%[2,bJ,(@pS _ ("max") _ _ _ _ _ _ _ _ _ _ (mM rfl) ∅ T.z_max nofun %[%[(%[|106]),(2),(aV (aa eZ) %[|111] rfl rfl nofun),rfl,%[%[1|0]|18],(λ _ _ _ _ _=>(%[(2),rfl,%[%[(0),%[|106]|51],%[%[(1),%[|106]|51],(@aO _),∅|17],∅|17],∅,∅|25].mono λ _ _ _ _ h=>bR h)),(λ _ _ _ _ _=>(@bo _)),(λ _ _ _ _ _=>%[bF,%[0|0],%[0|2]|11]),(by intros;rfl)|29]|1] (@yt _ _ _ _ _ _ _ %[0|2] (@D9 _)) ⋯ ⋯ ∅ ∅ ∅ ∅ ∅)|4],%[%[(%[|114]),(1),(3),_,bJ.nd,rfl,(Or.inl rfl),(aV (aa eZ) %[|111] rfl rfl nofun),rfl,%[∅,T.z_range,%[%[2|0]|1],∅|35],(λ _ _ _ _ _=>%[(0),%[|114]|51]),(λ _ _ _ _ _=>(@bo _)),(λ _ _ _ _ _=>%[(@cq _)|13]),∅,(by intros;rfl),%[0|7]|38],%[%[Qu,rfl,(@sH _ _ _ _ _ _ _ _ ∅ T.z_enumerate %[%[1|0]|1] ∅),(%[(2),rfl,%[%[4,bJ|5],%[%[5,bJ|5],(@aO _),∅|17],∅|17],∅,∅|25].mono λ _ _ _ _ h=>bR h),%[%[%[QJ,Sa,R9,fT,%[cW,%[3|0],%[cW,%[5|0],%[0|2],(λ _ _=>rfl)|14],(λ _ _=>rfl)|14],%[%[4|0]|1],∅,∅,∅,∅,∅|33],∅|15]|9],(by intros;rfl)|19],%[%[%[3|0]|12]|9]|10]|10]|10]|10]|10],?_⟩;rw [%[%[|111],[.ref p],5|53]];clear G_oX G_UD;exists k;exists bp;exists a8;ac_rfl;rw [DI];refine⟨room,ds,a8 (),hl,λ H1 e1=>?_⟩;ac_rfl;rw [Ba];refine⟨room,ds,(a8 ()).ext e1,hl,(bp ()).ext e1,λ fl H2 e2 ⟨fs,ys,bt,a5,a6,dl⟩=>?_⟩;have b3:=e1.trans e2;have c1:ys.length<=60:=by rw [a5.1,a6];exact hl
  have cn:fs.length<=60:=by rw [a6];exact hl
  exists a5;exists dl;exists a6;clear e1 e2 a8 bp;ac_rfl;have wk:=jV (K:=K) (R:=λ (f:Nat × Option Nat) y H=>FnT H f y) (λ _ _ _ _ h e=>h.ext e) bt (a5 ());refine bK fs (λ _=>true) (λ f=>.int ((f.1:Int)+1)) (λ f y H'=>FnT H' f y) wk.1 wk.2 (az %[0|8]) ?_ ?_
  ·intro D f y H' N1 N0 hz hD e ⟨q,hy,hq⟩ k1 _;subst hy;have c2:=k1 rfl H' (Ext.refl _);clear k1 k wk hz a5;simp! only [↓iZ,↓aU]
  intro D3 H3 c3 e3 h3;rw [rH,show fs.map (λ f=>V.int ((f.1:Int)+1))=(fs.map λ f=>(f.1:Int)+1).map V.int by rw [RQ];rfl] at h3;have b4:=e3.at bt;have b5:=b3.trans e3;have a9:=λ (_:Unit)=>(a5 ()).imp λ _ _ h=>FnT.ext h e3;clear wk bt a5 b3;ac_rfl
  first
   | refine uQ λ M hM=>?_
   | refine⟨_,rfl,uQ λ M hM=>?_⟩
  have c0:M<=60:=by
   rcases hM.2 with h|⟨k',hk,h⟩
   ·omega
   ·have:=(dl ()).lt k' hk;omega
  exists hM;clear h3;ac_rfl;refine⟨by omega,by omega,?_⟩;rw [QX];refine DD (λ D i zs H'=>∃ qs:List Addr,zs=qs.map V.ref/\qs.length=i/\Ext H3 H'/\H' D=some (.lst zs)/\(D::qs).Nodup/\(∀ q∈D::qs,H3 q=none)/\∀ q∈qs,H' q=some (.lst [])) (λ D hD=>⟨[],rfl,rfl,Ext.new hD,af,by simp,λ q hq=>(by rw [Qo.mp hq];exact hD),λ q hq=>by cases hq⟩) ?_ ?_
  ·rintro D i zs H4 hi ⟨qs,rfl,b1,e4,a7,ar,aq,a3⟩;have cp:(qs.map V.ref).length < sizeLine:=Bi (by rw [Qk];omega);exists ar;exists aq;exists a3;clear k a9;ac_rfl;intro q H5 bb e5 h5;have c4:=e5.at a7;have b6:q ≠ D:=(ag a7 bb).symm;have cv:q ∉ qs:=λ h=>by rw [a3 () q h] at bb;cases bb
   have fin:∃ a4:List Addr,qs.map V.ref++[V.ref q]=a4.map V.ref/\a4.length=i+1/\Ext H3 (upd H5 D (.lst (qs.map V.ref++[.ref q])))/\upd H5 D (.lst (qs.map V.ref++[.ref q])) D=some (.lst (qs.map V.ref++[.ref q]))/\(D::a4).Nodup/\(∀ x∈D::a4,H3 x=none)/\∀ x∈a4,upd H5 D (.lst (qs.map V.ref++[.ref q])) x=some (.lst []):=by
    have hn:=Rb.mp (ar ());refine⟨qs++[q],by rw [Rl];rfl,by rw [Qw,QV,b1],(e4.trans e5).put (aq () D Qv),af,?_,λ x hx=>?_,λ x hx=>?_⟩
    ·rw [Rb,QF,Qo];refine⟨λ h=>h.elim hn.1 λ h=>b6 h.symm,?_⟩;rw [List.nodup_append];exact⟨hn.2,by simp,λ a ha b hb=>by rw [Qo.mp hb];exact λ e=>cv (e ▸ ha)⟩
    ·rcases QG.mp hx with rfl|hx
     ·exact aq () _ Qv
     ·rcases QF.mp hx with hx|hx
      ·exact aq () x (Qt _ hx)
      ·rw [Qo.mp hx];exact e4.free bb
    ·rcases QF.mp hx with hx|hx
     ·rw [ae (λ (e:x=D)=>hn.1 (e ▸ hx))];exact e5.at (a3 () x hx)
     ·rw [Qo.mp hx,ae b6];exact h5
   exists fin;clear ar aq a3;ac_rfl;obtain⟨a4,f1,f2,f3,f4,f5,f6,f7⟩:=fin ();exact⟨Bi %[0|8],a4,f1,f2,f3,f5,f6,f7⟩
  rintro tl _ H4 ⟨qs,rfl,b1,e4,a7,ar,aq,a3⟩;subst b1;have b7:TdI H3 H4 tl qs fs 0:=⟨e4,a7,ar,aq,λ a q hq=>by rw [a3 q (Qr hq)];rfl⟩;have cA:=e4.at b4;clear a3 e4 a7;ac_rfl;refine uV (l:=fl) (xs:=ys) (λ i σ H'=>∃ v4 v5:Option V,σ=[%[p|45],%[fl|45],some (.int (qs.length:Int)),%[tl|45],v4,v5]/\TdI H3 H' tl qs fs i) ⟨none,none,rfl,b7⟩ (λ i σ H' ⟨_,_,_,h⟩=>h.ex.at b4) ?_ ?_
  ·clear b7 cA k;rintro i y q0 _ H5 H6 hi ⟨v4,v5,rfl,I5⟩ cJ e6 c5;have cN:i < ys.length:=(Qh.mp hi).1;have b2:i < fs.length:=by rw [←(a9 ()).1];exact cN
   obtain⟨q,rfl,hq⟩:=(a9 ()).2 i _ y (Qf b2) hi;have cc:=sJ (Qf b2);have cf:=(I5.ex.trans e6).at hq;have cg:=(hM ()).1 i b2;obtain⟨r,hr⟩:∃ r,qs[aL fs i]? = some r:=⟨_,Qf cg⟩;have ck:r∈qs:=Qr hr;have cm:=e6.at I5.t;have c6:=e6.at (I5.ro _ _ hr);have c7:atI (qs.map V.ref) (aL fs i:Int)=%[r|45]:=bL (by rw [Qq,hr];rfl);have hn:=Rb.mp ar;have cT:r ≠ tl:=λ e=>hn.1 (e ▸ ck)
   have fin:TdI H3 (upd H6 r (.lst (fE (ix fs i (aL fs i))++[.int (i:Int)]))) tl qs fs (i+1):=by
    refine⟨(I5.ex.trans e6).put (aq r (Qt _ ck)),by rw [ae cT.symm];exact cm,ar,aq,λ a x hx=>?_⟩;rw [pP]
    by_cases ha:aL fs i=a
    ·subst ha;rw [hr] at hx;cases hx;rw [af,if_pos rfl];unfold fE;rw [map_append];rfl
    ·have cV:x ≠ r:=λ e=>ha (by
      subst e;have h1:aL fs i < qs.length:=cg;have h2:a < qs.length:=(Qh.mp hx).1;exact(List.getElem?_inj h1 hn.2).mp (hr.trans hx.symm))
     rw [ae cV,QB ha];exact e6.at (I5.ro a x hx)
   have cp:(fE (ix fs i (aL fs i))).length < sizeLine:=Bi (by unfold fE;rw [length_map];have:=uD fs i (aL fs i);omega);rw [←cc] at cf;exists fin;generalize fE (ix fs i (aL fs i))=zs at *;generalize (aL fs i:Int)=lv at *;clear hi I5 e6 cJ hq cc hr hM hn ar aq;ac_rfl;exact⟨_,_,rfl,fin ()⟩
  ·rintro _ H5 ⟨v4,v5,rfl,I5⟩;have hn:ys.length=ds.length:=by rw [(a9 ()).1];exact a6 ()
   rw [hn] at I5;have k2:=k () tl H5 ⟨fs,qs,a6 (),dl (),hM (),⟨b5.trans I5.ex,I5.t,I5.nd,λ q hq=>b5.free (I5.fr q hq),I5.ro⟩⟩;clear k;ac_rfl
def D6{ds:List Sd}{fs:List (Nat × Option Nat)}{M:Nat}(hf:fs.length=ds.length)(dl:DlP ds fs)(hM:E8 fs M):E7 ds ((List.range M).map (ix fs ds.length)):=by
 have mem:∀ {k a:Nat},k∈ix fs ds.length a ↔ k < ds.length/\aL fs k=a:=λ {k a}=>by
  unfold ix;rw [List.mem_filter,List.mem_range];exact⟨λ h=>⟨h.1,of_decide_eq_true h.2⟩,λ h=>⟨h.1,decide_eq_true h.2⟩⟩
 refine⟨?_,λ A hA i hi j hj a3=>?_,?_⟩
 ·refine(List.perm_ext_iff_of_nodup ?_ Ts).mpr λ k=>?_
  ·rw [List.nodup_iff_pairwise_ne,List.pairwise_flatten];refine⟨λ A hA=>?_,?_⟩
   ·obtain⟨a,_,rfl⟩:=QN.mp hA;exact List.nodup_iff_pairwise_ne.mp (Ts.filter _)
   ·rw [List.pairwise_map];refine Tg (R:=λ a b=>a < b) (λ {a b} a4 x hx y hy e=>?_) SM;have h1:=(mem.mp hx).2;have h2:=(mem.mp hy).2;rw [e,h2] at h1;omega
  ·rw [List.mem_flatten,Q1];constructor
   ·rintro ⟨A,hA,hk⟩;obtain⟨a,_,rfl⟩:=QN.mp hA;exact(mem.mp hk).1
   ·intro hk;exact⟨_,Sy (Q1.mpr (hM.1 k (by rw [hf];exact hk))),mem.mpr ⟨hk,rfl⟩⟩
 ·obtain⟨a,_,rfl⟩:=QN.mp hA;obtain⟨aq,a5⟩:=mem.mp hi;obtain⟨ar,a6⟩:=mem.mp hj;intro hc
  rcases Nat.lt_or_gt_of_ne a3 with h|h
  ·have:=dl.up j (by rw [hf];exact ar) i h hc;omega
  ·have:=dl.up i (by rw [hf];exact aq) j h (ur hc);omega
 ·rw [List.pairwise_map];refine Tg (R:=λ a b=>a < b) (λ {a b} a4 i hi j hj hc=>?_) SM;obtain⟨aq,a5⟩:=mem.mp hi;obtain⟨ar,a6⟩:=mem.mp hj
  rcases Nat.lt_trichotomy i j with h|h|h
  ·exact h
  ·subst h;omega
  ·have:=dl.up i (by rw [hf];exact aq) j h (ur hc);omega
def yC{H:Hp}{p l:Addr}{ys:List V}{vals:List Int}(hp:H p=some (.lst ys))(hl:H l=%[vals|46])(hv:1<=vals.length)(h:∀ y∈ys,∃ q,y=V.ref q):p ≠ l:=by
 rintro rfl;rw [hp] at hl;have e:ys=vals.map V.int:=HO.lst.inj (QL hl)
 cases vals with
 | nil=>simp at hv
 | cons z vals=>
  obtain⟨q,hq⟩:=h (V.int z) (by rw [e];simp);cases hq
def VwC.z{C:Addr}{H:Hp}{u l:Addr}{room:Int}{cs vals:List Int}(h:VwC C H u room cs)(hl:H l=%[vals|46])(hv:1<=vals.length):∃ f A,ViZ C l H u room f A/\dD A/\aj (A.map λ a=>a.1)<=4096/\ai f A=cs:=by
 obtain⟨f,A,⟨dx,D,h1,ys,h2,h3⟩,h4,h5,h6⟩:=h;refine⟨f,A,⟨dx,D,h1,yC h2 hl hv λ y hy=>?_,ys,h2,h3⟩,h4,h5,h6⟩;obtain⟨i,hi,rfl⟩:=Rk hy;obtain⟨q,hq,_⟩:=h3.2 i _ _ (Qf (by rw [←h3.1];exact hi)) (Qf hi);exact⟨q,hq⟩
def VwC.kp{C:Addr}{H H':Hp}{u l:Addr}{room:Int}{cs vals:List Int}(h:VwC C H u room cs)(hl:H l=%[vals|46])(hv:1<=vals.length)(k:KpL l H H'):VwC C H' u room cs:=by
 obtain⟨f,A,h1,h2⟩:=h.z hl hv;exact⟨f,A,(h1.kp hl k).at,h2⟩
def StR.kp{t:Adr}{H H':Hp}{room:Int}{d:Sd}{s l:Addr}{vals:List Int}(h:StR t H room d s)(hl:H l=%[vals|46])(hv:1<=vals.length)(k:KpL l H H'):StR t H' room d s:=by
 obtain⟨u,v,⟨h1,dx,h2⟩,h3,h4⟩:=h;exact⟨u,v,⟨h1,dx,k _ _ (λ e=>by rw [e,hl] at h2;cases h2) h2⟩,λ q=>(h3 q).kp hl hv k,λ q=>(h4 q).kp hl hv k⟩
def StL.kp{t:Adr}{H H':Hp}{room:Int}{p l:Addr}{ds:List Sd}{vals:List Int}(h:StL t H room p ds)(hl:H l=%[vals|46])(hv:1<=vals.length)(k:KpL l H H'):StL t H' room p ds:=by
 obtain⟨ys,h1,h2⟩:=h
 have np:p ≠ l:=yC h1 hl hv λ y hy=>by
  obtain⟨i,hi,rfl⟩:=Rk hy;obtain⟨s,hs,_⟩:=h2.2 i _ _ (Qf (by rw [←h2.1];exact hi)) (Qf hi);exact⟨s,hs⟩
 exact⟨ys,k _ _ np h1,h2.imp λ d y ⟨s,a1,a2⟩=>⟨s,a1,a2.kp hl hv k⟩⟩
def jq(t:Adr)(i:Nat):Sp:=λ vs H Q E=>∃ (s:Addr) (st:Addr),vs=[.ref s,.ref st]/\(∃ (u v dx l:Addr) (z:Int) (vals c1 c2:List Int),H s=some (.ins (pq t i) dx (vm i u v (.int z)))/\ay t.a_UE H st l vals/\1<=vals.length/\vals.length<=4096/\(1<=i->VwC t.a_UH H u vals.length c1/\bx c1 vals.length)/\(2<=i->VwC t.a_UH H v vals.length c2/\bx c2 vals.length/\c1.length=c2.length)/\∀ H',(∀ H0,Ext H0 H->H0 l=none->Ext H0 H')->KpL l H H'->H' l=some (.lst ((o9 i vals c1 c2 z).map V.int))->Q .non H')
def u3(t:Adr)(i:Nat)(s:Addr)(st:Addr)(H:Hp)(Q:VK)(E:XK):jq t i [.ref s,.ref st] H Q E=(∃ (u v dx l:Addr) (z:Int) (vals c1 c2:List Int),H s=some (.ins (pq t i) dx (vm i u v (.int z)))/\ay t.a_UE H st l vals/\1<=vals.length/\vals.length<=4096/\(1<=i->VwC t.a_UH H u vals.length c1/\bx c1 vals.length)/\(2<=i->VwC t.a_UH H v vals.length c2/\bx c2 vals.length/\c1.length=c2.length)/\∀ H',(∀ H0,Ext H0 H->H0 l=none->Ext H0 H')->KpL l H H'->H' l=some (.lst ((o9 i vals c1 c2 z).map V.int))->Q .non H'):=lN (f:=λ (s:Addr) (st:Addr)=>[.ref s,.ref st]) (λ _ _ _ _ h=>by cases h;exact⟨rfl,rfl⟩) s st
def eW(T:Tx K mg t):%[7,tK|49] %[|113] (jq t 0):=by
 refine T.F_tK.ok lK (λ _ _ _ _ h=>lO h λ _ _=>rfl) (λ cdv A outer s0 H vs Q E hr h=>?_)
 ·obtain⟨s,st,rfl,u,v,dx,l,z,vals,c1,c2,hs,so,aq,hv,w1,w2,k⟩:=h;refine⟨_,%[(@Fz _ _)|9],?_⟩;rw [%[%[|113],[.ref s,.ref st],0|53]];have k2:=k H (λ _ e _=>e) (λ _ _ _ q=>q) so.fl;clear k hs;ac_rfl
def II{C:Addr}{H:Hp}{l u v:Addr}{r1 r2 f1 f2:Int}{A1 A2:%[0|48]}(h1:dD A1)(h2:dD A2)(h:(ai f1 A1).length=(ai f2 A2).length):aj (A2.map λ a=>a.1)=aj (A1.map λ a=>a.1):=by
 have e1:=aB f1 A1 λ a ha=>(h1.2 a ha).1;have e2:=aB f2 A2 λ a ha=>(h2.2 a ha).1;omega
def nt{t:Adr}{i:Nat}(hi:1<=i)(vs:List V)(H:Hp)(Q:VK)(E:XK)(h:jq t i vs H Q E):rK t i vs H Q E:=by
 obtain⟨s,st,rfl,u,v,dx,l,z,vals,c1,c2,hs,so,aq,hv,w1,w2,k⟩:=h;rw [IK];obtain⟨f1,A1,z1,a1,p1,rfl⟩:=(w1 hi).1.z so.fl aq;have r1:Ji t.a_UH l H u vals f1 A1:=⟨z1,a1,p1,(w1 hi).2⟩
 by_cases h2:2<=i
 ·obtain⟨f2,A2,z2,a2,p2,rfl⟩:=(w2 h2).1.z so.fl aq;exact⟨u,v,dx,l,z,vals,f1,A1,f2,A2,hs,so,hv,r1,⟨z2,a2,p2,(w2 h2).2.1⟩,II (C:=t.a_UH) (H:=H) (l:=l) (u:=u) (v:=v) (r1:=0) (r2:=0) a1 a2 (w2 h2).2.2,k⟩
 ·have e:i=1:=by omega
  subst e;exact⟨u,u,dx,l,z,vals,f1,A1,f1,A1,hs,so,hv,r1,r1,rfl,k⟩
def Nq{P:Program}{w:World}{K:W.Frag}{mg:Str->Option Value}{base:Heap}{t:Adr}(T:Tx K mg t):∀ i,i < 5->MD P w K mg base CX0 7 "run" (pq t i) (jq t i)
 | 0,_=>⟨T.qBm,_,_,_,T.qCr,eW T,T.b_tK⟩
 | 1,_=>⟨T.qBt,_,_,_,T.qD4,(sW T).imp (nt ⋯),T.b_Df⟩
 | 2,_=>⟨T.qBv,_,_,_,T.qD5,(sX T).imp (nt ⋯),T.b_Dg⟩
 | 3,_=>⟨T.qBw,_,_,_,T.qD6,(sV T).imp (nt ⋯),T.b_HX⟩
 | 4,_=>⟨T.qBs,_,_,_,T.qCz,(qS T).imp (nt ⋯),T.b_CL⟩
 | n+5,h=>absurd h %[0|8]
def Iz{w:Nat}{u v:Addr}{x:V}(hw:w < 5):(vm w u v x).lookup (Str.ofString "run")=none:=by
 match w,hw with
 | 0,_=>rfl
 | 1,_=>rfl
 | 2,_=>rfl
 | 3,_=>rfl
 | 4,_=>rfl
def Jx{ds:List Sd}{rows:List (List Nat)}{i k:Nat}{A:List Nat}(hp:rows.flatten.Perm (List.range ds.length))(hA:rows[i]? = some A)(hk:k∈A):k < ds.length:=
 Q1.mp (hp.mem_iff.mp (List.mem_flatten.mpr ⟨A,Qr hA,hk⟩))
def rnK(ds:List Sd)(vals:List Int)(l:List Nat):List Int:=l.foldl (λ vs k=>rnD vs (atD ds k)) vals
def sA(ds:List Sd)(l:List Nat):∀ vals:List Int,(rnK ds vals l).length=vals.length:=by
 induction l with
 | nil=>intro _;rfl
 | cons k l ih=>intro vals;show (rnK ds (rnD vals (atD ds k)) l).length=_;rw [ih,sD]
def sC(ds:List Sd)(vals:List Int)(l l':List Nat):rnK ds vals (l++l')=rnK ds (rnK ds vals l) l':=by unfold rnK;rw [foldl_append]
structure RaI(t:Adr)(G H':Hp)(st l:Addr)(vals:List Int):Prop where
 ex:∀ H0,Ext H0 G->H0 l=none->Ext H0 H'
 kp:KpL l G H'
 fl:H' l=%[vals|46]
def Br{t:Adr}{H:Hp}{room:Int}{ds:List Sd}{ss:List V}(al:Al (StY t H room) ds ss){k:Nat}(hk:k < ds.length):∃ s,atI ss (k:Int)=%[s|45]/\StR t H room (atD ds k) s:=by
 have hy:k < ss.length:=by rw [al.1];exact hk
 obtain⟨s,h1,h2⟩:=al.2 k _ _ (Qf hk) (Qf hy);exact⟨s,bL (by rw [Qf hy,h1]),by rw [yb (Qf hk)];exact h2⟩
def uC{t:Adr}{H:Hp}{s st l:Addr}{d:Sd}{vals:List Int}{Q:VK}{E:XK}(h:StR t H vals.length d s)(hd:xb vals.length d)(so:ay t.a_UE H st l vals)(h1:1<=vals.length)(h4:vals.length<=4096):∃ dx fs,d.1 < 5/\H s=some (.ins (pq t d.1) dx fs)/\fs.lookup (Str.ofString "run")=none/\((∀ H',(∀ H0,Ext H0 H->H0 l=none->Ext H0 H')->KpL l H H'->H' l=some (.lst ((rnD vals d).map V.int))->Q .non H')->jq t d.1 [.ref s,.ref st] H Q E):=by
 obtain⟨u,v,⟨hw,dx,hs⟩,h2,h3⟩:=h;refine⟨dx,_,hw,hs,Iz hw,λ q=>?_⟩;rw [u3];exact⟨u,v,dx,l,d.2.1,vals,d.2.2.1,d.2.2.2,hs,so,h1,h4,λ z=>⟨h2 z,hd.2.1 z⟩,λ z=>⟨h3 z,hd.2.2 z⟩,q⟩
def RaI.so{t:Adr}{G H':Hp}{st l:Addr}{vals vs:List Int}(I:RaI t G H' st l vs)(so:ay t.a_UE G st l vals):ay t.a_UE H' st l vs:=by
 obtain⟨dx,h⟩:=so.ob;exact⟨⟨dx,I.kp _ _ (λ e=>by rw [e,so.fl] at h;cases h) h⟩,I.fl⟩
def RaI.step{t:Adr}{G H' aq:Hp}{st l:Addr}{vs ar:List Int}(I:RaI t G H' st l vs)(q1:∀ H0,Ext H0 H'->H0 l=none->Ext H0 aq)(q2:KpL l H' aq)(q3:aq l=%[ar|46]):RaI t G aq st l ar:=⟨λ H0 e0 h0=>q1 H0 (I.ex H0 e0 h0) h0,I.kp.trans q2,q3⟩
def yX{ds:List Sd}{k:Nat}(h:k < ds.length):atD ds k∈ds:=by
 rw [yb (Qf h)];exact RH h
def jM(mg:Str->Option Value)(t:Adr):Sp:=λ vs H Q E=>∃ (st:Addr) (p:Addr),vs=[.ref st,.ref p]/\(∃ (l:Addr) (vals:List Int) (ds:List Sd),ay t.a_UE H st l vals/\1<=vals.length/\vals.length<=4096/\StL t H vals.length p ds/\ds.length<=60/\(∀ d∈ds,xb vals.length d)/\TbH mg H 547 (xf "dealt")/\∀ H',(∀ H0,Ext H0 H->H0 l=none->Ext H0 H')->KpL l H H'->H' l=some (.lst ((ds.foldl rnD vals).map V.int))->Q .non H')
def gH(mg:Str->Option Value)(t:Adr)(st:Addr)(p:Addr)(H:Hp)(Q:VK)(E:XK):jM mg t [.ref st,.ref p] H Q E=(∃ (l:Addr) (vals:List Int) (ds:List Sd),ay t.a_UE H st l vals/\1<=vals.length/\vals.length<=4096/\StL t H vals.length p ds/\ds.length<=60/\(∀ d∈ds,xb vals.length d)/\TbH mg H 547 (xf "dealt")/\∀ H',(∀ H0,Ext H0 H->H0 l=none->Ext H0 H')->KpL l H H'->H' l=some (.lst ((ds.foldl rnD vals).map V.int))->Q .non H'):=lN (f:=λ (st:Addr) (p:Addr)=>[.ref st,.ref p]) (λ _ _ _ _ h=>by cases h;exact⟨rfl,rfl⟩) st p
def mF(T:Tx K mg t):%[8,Uv|49] %[|126] (jM mg t):=by
 have G_UA:=%[kG|43];have aq:=Nq (P:=P) (w:=w) (base:=base) T;refine T.F_Uv.ok bV (λ _ _ _ _ h=>lO h λ _ _=>rfl) %[0|50]
 ·obtain⟨st,p,rfl,l,vals,ds,so,bp,cg,a3,hl,hok,bt,k⟩:=h;refine⟨_,%[%[Qu,rfl,%[%[UA,%[%[1|0]|1]|3]|18],%[2,bV|5],%[%[Qu,rfl,%[%[2|0]|18],%[3,bV|5],%[%[%[%[cW,%[1|0],%[3|0],(λ _ _=>rfl)|14],aq,(hr.mono ⋯),aC,%[%[0|0]|1],∅,∅,∅|42],∅|15]|9],(by intros;rfl)|19]|9],(by intros;rfl)|19]|9],?_⟩;rw [%[%[|123],[.ref st,.ref p],2|53]];clear G_UA aq;exists k;exists a3;exists hok;exists so;ac_rfl;rw [ji];refine⟨vals.length,ds,a3 (),hl,bt,λ r H1 ⟨fs,qs,b1,dl,hM,td⟩=>?_⟩;have a6:=D6 b1 dl hM;have a4:=(so ()).ext td.ex;have a5:=a4.fl;have ck:r ≠ l:=(ag (so ()).fl (td.fr r Qv)).symm;have a7:∀ q∈qs,q ≠ l:=λ q hq=>(ag (so ()).fl (td.fr q (Qt _ hq))).symm
  have ar:∀ i q,qs[i]? = some q->((List.range qs.length).map (ix fs ds.length))[i]? = some (ix fs ds.length i):=λ i q hq=>by
   have hi:=(Qh.mp hq).1;rw [Qq,S3 hi];rfl
  have b2:((List.range qs.length).map (ix fs ds.length)).length=qs.length:=by rw [Qk,Q8]
  generalize hrw:(List.range qs.length).map (ix fs ds.length)=rows at *;have a8:=(a3 ()).ext td.ex;have b3:RaI t H1 H1 st l (rnK ds vals (rows.take 0).flatten):=⟨λ H0 e _=>e,λ _ _ _ h=>h,a5⟩;have cm:=td.t;exists td;exists a6;exists a8;exists a4;exists ar;exists a7;exists b2;clear hrw a3 bt dl hM b1;ac_rfl;refine aR (xs:=qs.map V.ref) (λ i σ H'=>∃ v2 v3:Option V,σ=[%[st|45],%[p|45],v2,v3]/\RaI t H1 H' st l (rnK ds vals (rows.take i).flatten)) ⟨none,none,rfl,b3⟩ (λ i σ H' _ ⟨_,_,_,h⟩=>h.kp _ _ ck (td ()).t) ?_ ?_
  ·clear b3 cm k;rintro i y _ H2 hi ⟨v2,v3,rfl,I2⟩;rw [Qq] at hi;obtain⟨q,hq,rfl⟩:=Qj.mp hi;have hA:=ar () i q hq;have cn:=I2.kp _ _ (a7 () q (Qr hq)) ((td ()).ro i q hq);have a9:(rows.take (i+1)).flatten=(rows.take i).flatten++ix fs ds.length i:=by rw [QQ,hA,List.flatten_append];simp
   have nq:=a7 () q (Qr hq);have cp:=(td ()).ro i q hq;have kin:∀ k∈ix fs ds.length i,k < ds.length:=λ k hk=>Jx (a6 ()).perm hA hk;exists a9;exists kin;exists I2;generalize ix fs ds.length i=A at *;clear hi hA hq;simp! only [↓aw];refine aR (xs:=fE A) (λ j σ H'=>∃ v3:Option V,σ=[%[st|45],%[p|45],%[q|45],v3]/\RaI t H1 H' st l (rnK ds vals ((rows.take i).flatten++A.take j))) ⟨v3,rfl,by rw [Sg,Su];exact I2 ()⟩ (λ j σ H' _ ⟨_,_,h⟩=>h.kp _ _ nq cp) ?_ ?_
   ·clear cn I2;rintro j y _ H3 hj ⟨cv,rfl,I3⟩;unfold fE at hj;rw [getElem?_map] at hj;obtain⟨kk,hk,rfl⟩:=Option.map_eq_some_iff.mp hj;have b4:=kin () kk (mem_of_getElem? hk);have b5:A.take (j+1)=A.take j++[kk]:=by rw [take_add_one,hk];rfl
    have hlen:=sA ds ((rows.take i).flatten++A.take j) vals;obtain⟨ss,cN,b6⟩:=(a8 ()).kp a5 bp I3.kp;obtain⟨s',cT,bb⟩:=Br b6 b4;have b7:=I3.so (a4 ());have cc:=hok () _ (yX b4);have cf:rnK ds vals ((rows.take i).flatten++A.take (j+1))=rnD (rnK ds vals ((rows.take i).flatten++A.take j)) (atD ds kk):=by rw [b5,←List.append_assoc,sC];rfl
    rw [cf];rw [←hlen] at bb cc;have cA:1<=(rnK ds vals ((rows.take i).flatten++A.take j)).length:=by rw [hlen];exact bp
    have cJ:(rnK ds vals ((rows.take i).flatten++A.take j)).length<=4096:=by rw [hlen];exact cg
    generalize rnK ds vals ((rows.take i).flatten++A.take j)=vs at *;exists I3;clear hj hk b5 b6 cf hlen a8 a4 hok;simp! only [↓aw];obtain⟨dx,fs',g1,g2,g3,g4⟩:=uC (Q:=_) (E:=_) bb cc b7 cA cJ;refine⟨s',_,dx,fs',rfl,g1,g2,g3,?_⟩;ac_rfl;refine g4 λ H4 q1 q2 q3=>?_;have I4:=(I3 ()).step q1 q2 q3;clear I3 g4 g2 bb b7 q1 q2 q3;ac_rfl;exact⟨_,rfl⟩
   ·rintro _ H3 ⟨cv,rfl,I3⟩;rw [show (fE A).length=A.length by unfold fE;rw [length_map],take_length,←a9 ()] at I3;clear I2 a9;ac_rfl;exact⟨_,_,rfl⟩
  ·rintro _ H2 ⟨v2,v3,rfl,I2⟩;rw [Qk,←b2 (),QD] at I2;have er:rnK ds vals rows.flatten=ds.foldl rnD vals:=(a6 ()).run (n:=vals.length) (hok ()) rfl (λ i A B h1 h2=>by rw [h1] at h2;cases h2;exact List.Perm.refl _) vals;rw [er] at I2;have k2:=k () H2 (λ H0 e0 h0=>I2.ex H0 (e0.trans (td ()).ex) h0) ((Ext.kp (td ()).ex).trans I2.kp) I2.fl;clear k;ac_rfl
def tS{f room:Int}{axs:%[0|48]}(h0:0<=f+bj axs)(h1:f+br axs < room){n:Nat}(hn:room<=(n:Int)):bx (ai f axs) n:=λ c hc=>by
 obtain⟨xs,hx,e⟩:=(wF f axs c).mp hc;have:=k8 axs xs hx;omega
def SmV.on{room f:Int}{A:%[0|48]}(h:SmV room f A){n:Nat}(hn:room=(n:Int)):bx (ai f A) n:=tS h.lo h.hi %[0|8]
def kg{vals:List Int}{c:Int}(h0:0<=c)(h1:c < (vals.length:Int)):atI (vals.map V.int) c=some (.int (vals.getD c.toNat 0)):=by
 obtain⟨k,rfl⟩:=Int.eq_ofNat_of_zero_le h0;have hk:k < vals.length:=by omega
 rw [QX];exact bL (by rw [Qq,Qf hk,QA,Qf hk];rfl)
def pw(b:Int)(vals c1 c2:List Int):List Int:=List.zipWith (λ c e=>vals.getD e.toNat 0+b * vals.getD c.toNat 0) c1 c2
def sR{b:Int}{vals c1 c2:List Int}{i:Nat}{c e:Int}(h1:c1[i]? = some c)(h2:c2[i]? = some e):(pw b vals c1 c2)[i]? = some (vals.getD e.toNat 0+b * vals.getD c.toNat 0):=by
 unfold pw;rw [List.getElem?_zipWith,h1,h2]
def oA{b:Int}{vals c1 c2:List Int}(h:c1.length=c2.length):(pw b vals c1 c2).length=c1.length:=by
 unfold pw;rw [List.length_zipWith,←h,Nat.min_self]
def ye{vals:List Int}:∀ {c1 c2:List Int},c1.length=c2.length->pw 0 vals c1 c2=aQ vals c2
 | [],[],_=>rfl
 | [],_::_,h=>by cases h
 | _::_,[],h=>by cases h
 | c::c1,e::c2,h=>by
  show (vals.getD e.toNat 0+0 * vals.getD c.toNat 0)::pw 0 vals c1 c2=vals.getD e.toNat 0::aQ vals c2
  rw [ye (by simpa using h),Int.zero_mul,Int.add_zero]
def Et{vals:List Int}:∀ {c1 c2:List Int},c1.length=c2.length->pw 1 vals c1 c2=List.zipWith (· + ·) (aQ vals c1) (aQ vals c2)
 | [],[],_=>rfl
 | [],_::_,h=>by cases h
 | _::_,[],h=>by cases h
 | c::c1,e::c2,h=>by
  show (vals.getD e.toNat 0+1 * vals.getD c.toNat 0)::pw 1 vals c1 c2=(vals.getD c.toNat 0+vals.getD e.toNat 0)::List.zipWith (· + ·) (aQ vals c1) (aQ vals c2)
  rw [Et (by simpa using h),Int.one_mul,Int.add_comm]
abbrev qB  (p:Addr) (d:Addr) (H:Hp) (Q:VK) (E:XK):Prop:=∃ (vals:List Int) (room:Int) (w:Nat) (x f1:Int) (A1:%[0|48]) (f2:Int) (A2:%[0|48]),H p=%[vals|46]/\DrA H d room w x f1 A1 f2 A2/\room=vals.length/\vals.length<=4096/\∀ (r:Addr) (H':Hp),H r=none->Ext H H'->H' r=some (.lst ((o9 w vals (ai f1 A1) (ai f2 A2) x).map V.int))->Q (.ref r) H'
def sj  : Sp:=λ vs H Q E=>∃ (p:Addr) (d:Addr),vs=[.ref p,.ref d]/\(qB  p d H Q E)
def qk  (p:Addr) (d:Addr) (H:Hp) (Q:VK) (E:XK):sj  [.ref p,.ref d] H Q E=(qB  p d H Q E):=lN (f:=λ (p:Addr) (d:Addr)=>[.ref p,.ref d]) (λ _ _ _ _ h=>by cases h;exact⟨rfl,rfl⟩) p d
def qQ(T:Tx K mg t):%[5,CQ|49] ["_law_values", "_law_drawn_here"] sj:=by
 have G_Ar:=%[oI|43];refine T.F_CQ.ok aJ (λ _ _ _ _ h=>lO h λ _ _=>rfl) (λ cdv A' outer s H vs Q E hr h=>?_)
 ·obtain⟨p,d,rfl,vals,room,w',x,f1,A1,f2,A2,hp,⟨hw,s1,s2,c3,p1,p2,hd,⟨l1,c4,t1⟩,⟨l2,cN,t2⟩⟩,b5,dz,k⟩:=h;refine⟨_,%[%[%[1|0],(%[(4),rfl,%[%[2,aJ|5],%[%[3,aJ|5],%[%[4,aJ|5],%[%[5,aJ|5],(@aO _),∅|17],∅|17],∅|17],∅|17],∅,∅|25].mono λ _ _ _ _ h=>bR h),∅,∅,∅|36],%[%[6,aJ,%[Ar,%[%[cW,%[3|0],%[0|2],(λ _ _=>rfl)|14],%[%[cW,%[3|0],%[0|2],(λ _ _=>rfl)|14]|1]|1]|3]|4],%[%[7,aJ,%[Ar,%[%[cW,%[4|0],%[0|2],(λ _ _=>rfl)|14],%[%[cW,%[4|0],%[0|2],(λ _ _=>rfl)|14]|1]|1]|3]|4],%[%[8,aJ,%[aY,∅,T.z_list,nofun,%[%[0|0]|1],⋯,⋯,∅,∅|30]|4],%[%[%[(cM hr.units),%[2|0],%[0|2],(aG _)|20],%[%[Qu,rfl,%[%[6|0]|18],%[9,aJ|5],%[%[%[5|0],%[%[8|0],%[9|0],dF,(by intros;rfl)|37],∅,∅,∅|36]|9],(by intros;rfl)|19]|9],(@aF _)|23],%[%[%[vt,%[2|0],%[0|2],(aG _)|20],%[%[Qu,rfl,(@uh _ _ _ _ _ _ _ _ _ ∅ T.z_zip %[%[6|0],%[%[7|0]|1]|1] ∅ ∅),(%[(2),rfl,%[%[9,aJ|5],%[%[10,aJ|5],(@aO _),∅|17],∅|17],∅,∅|25].mono λ _ _ _ _ h=>bR h),%[%[%[bF,%[cW,%[0|0],%[10|0],(λ _ _=>rfl)|14],%[gR,%[AR,∅,T.z_int,nofun,%[%[(cM hr.units),%[2|0],%[0|2],(aG _)|39]|1],⋯,⋯,∅,∅|30],%[cW,%[0|0],%[9|0],(λ _ _=>rfl)|14]|11]|11],%[%[8|0],%[9|0],dF,(by intros;rfl)|37],∅,∅,∅|36]|9],(by intros;rfl)|19]|9],(@aF _)|23],%[%[%[(cM hr.units),%[2|0],%[0|2],(aG _)|20],%[%[Qu,rfl,(@uh _ _ _ _ _ _ _ _ _ ∅ T.z_zip %[%[7|0],%[%[6|0]|1]|1] ∅ ∅),(%[(2),rfl,%[%[9,aJ|5],%[%[10,aJ|5],(@aO _),∅|17],∅|17],∅,∅|25].mono λ _ _ _ _ h=>bR h),%[%[%[cW,%[0|0],%[10|0],(λ _ _=>rfl)|14],%[%[8|0],%[9|0],dF,(by intros;rfl)|37],∅,∅,∅|36]|9],(by intros;rfl)|19]|9],(@aF _)|23],%[%[%[8|0]|12]|9]|10]|10]|10]|10]|10]|10]|10],?_⟩;rw [%[["_law_values", "_law_drawn_here", "_law_way", "_law_one", "_law_other", "_law_value", "_law_here", "_law_there", "_law_found", "_law_cell", "_law_ahead"],[.ref p,.ref d],9|53]];clear G_Ar;exists k;have b4:=s1.on b5;have b6:=s2.on b5;have c5:=s1.pr;have c6:=s2.pr;have c7:=aB f1 A1 λ a ha=>(s1.axes.2 a ha).1;have c8:=aB f2 A2 λ a ha=>(s2.axes.2 a ha).1;exists t1;exists t2;ac_rfl;rw [mP];refine⟨A1,t1 (),s1.axes,by omega,λ r1 H1 c9 e1 h1=>?_⟩;have cv:=e1.at cN;have cp:=e1.at hp;clear hd c4;ac_rfl;rw [mP];refine⟨A2,(t2 ()).ext e1,s2.axes,by omega,λ r2 H2 da e2 h2=>?_⟩;have b7:=e2.at h1;have cc:=e2.at cp;have cA:=e1.trans e2;have a9:(ai f1 A1).length=(ai f2 A2).length:=by omega
  clear h1 cp cv cN hp c9 da e1 e2 t1 t2 c7 c8 c5 c6 s1 s2 c3;generalize ai f1 A1=c1 at *;generalize ai f2 A2=c2 at *;ac_rfl;intro r H3 cf e3 h3;have a4:=e3.at b7;have a7:=e3.at h2;have a8:=e3.at cc;have bp:H r=none:=cA.free cf;have n1:r1 ≠ r:=ag b7 cf;have n2:r2 ≠ r:=ag h2 cf;have np:p ≠ r:=ag cc cf;have cg:=cA.trans e3;exists b4;exists b6;exists a9;clear b7 h2 cc cf e3 cA
  match w',hw with
  | 0,_=>
   have k2:=k () r H3 bp cg h3;clear k;ac_rfl
  | 1,_=>
   ac_rfl;refine aR (xs:=c1.map V.int) (λ i σ H'=>∃ v9 v10:Option V,σ=[%[p|45],%[d|45],some (.int 1),%[p1|45],%[p2|45],%[x|47],%[r1|45],%[r2|45],%[r|45],v9,v10]/\Ext H H'/\H' r1=%[c1|46]/\H' r=some (.lst ((iX vals (c1.take i) x).map V.int))) ⟨none,none,rfl,cg,a4,h3⟩ (λ i σ H' _ ⟨_,_,_,_,h,_⟩=>h) ?_ ?_
   ·rintro i y _ H4 hi ⟨v9,v10,rfl,e4,a3,h4⟩;rw [Qq] at hi;obtain⟨c,hc,rfl⟩:=Qj.mp hi;have ar:=b4 () c (Qr hc);have hlen:=kK x (c1.take i) vals;have aq:=λ (_:Unit)=>mI (vals:=vals) (z:=x) hc;generalize iX vals (c1.take i) x=vv at h4 hlen aq;have cn:ixN vv.length c=some c.toNat:=ni ar.1 (by rw [hlen];exact ar.2);clear hi hc k hlen a4 a7 a8 h3;simp! only [↓aw];refine⟨_,_,rfl,e4.put bp,by rw [ae n1];exact a3,?_⟩;rw [aq (),←fb]
   ·rintro _ H4 ⟨v9,v10,rfl,e4,a3,h4⟩;rw [Qk,QD] at h4;have k2:=k () r H4 bp e4 h4;clear k;ac_rfl
  | 2,_=>
   ac_rfl;refine kl (ka:=false) (kb:=false) (xs:=c1.map V.int) (ys:=c2.map V.int) (λ i σ H'=>∃ v9 v10:Option V,σ=[%[p|45],%[d|45],some (.int 2),%[p1|45],%[p2|45],%[x|47],%[r1|45],%[r2|45],%[r|45],v9,v10]/\Ext H H'/\H' p=%[vals|46]/\H' r1=%[c1|46]/\H' r2=%[c2|46]/\H' r=some (.lst ((gU vals (c1.take i) ((pw 0 vals c1 c2).take i)).map V.int))) ⟨none,none,rfl,cg,a8,a4,a7,h3⟩ (λ i σ H' ⟨_,_,_,_,_,h,h',_⟩=>⟨h,h'⟩) ?_ ?_
   ·rintro i u y q _ H4 H5 hu hy ⟨v9,v10,rfl,e4,a5,a3,a6,h4⟩ hq e5 h5;rw [Qq] at hu hy;obtain⟨c,hc,rfl⟩:=Qj.mp hu;obtain⟨e,he,rfl⟩:=Qj.mp hy;have ar:=b4 () c (Qr hc);have bb:=b6 () e (Qr he);have gc:=kg ar.1 ar.2;have ge:=kg bb.1 bb.2;have hlen:=bM vals (c1.take i) ((pw 0 vals c1 c2).take i);have aq:=λ (_:Unit)=>fR (vals:=vals) hc (sR (b:=0) (vals:=vals) hc he);have b3:=e5.at h4;have bt:=e5.at a5;have b1:=e5.at a3;have b2:=e5.at a6;have ck:=e4.trans e5;generalize gU vals (c1.take i) ((pw 0 vals c1 c2).take i)=vv at b3 hlen aq;have cn:ixN vv.length c=some c.toNat:=ni ar.1 (by rw [hlen];exact ar.2);generalize vals.getD c.toNat 0=zc at *;generalize vals.getD e.toNat 0=ze at *;have cm:rJ 0 zc:=.inl ⟨by decide,by decide⟩;clear hu hy hc he k hlen a4 a7 a8 h3 h4 a5 a3 a6 hq e5;simp! only [↓aw];refine⟨_,_,rfl,ck.put bp,by rw [ae np];exact bt,by rw [ae n1];exact b1,by rw [ae n2];exact b2,?_⟩;rw [aq (),←fb]
   ·rintro _ H4 ⟨v9,v10,rfl,e4,a5,a3,a6,h4⟩;have hm:min (c1.map V.int).length (c2.map V.int).length=c1.length:=by rw [Qk,Qk,←a9 (),SD]
    rw [hm,QD,RF (by rw [oA (a9 ())];exact Qi _)] at h4;rw [ye (a9 ())] at h4;have k2:=k () r H4 bp e4 h4;clear k;ac_rfl
  | 3,_=>
   ac_rfl;refine kl (ka:=false) (kb:=false) (xs:=c1.map V.int) (ys:=c2.map V.int) (λ i σ H'=>∃ v9 v10:Option V,σ=[%[p|45],%[d|45],some (.int 3),%[p1|45],%[p2|45],%[x|47],%[r1|45],%[r2|45],%[r|45],v9,v10]/\Ext H H'/\H' p=%[vals|46]/\H' r1=%[c1|46]/\H' r2=%[c2|46]/\H' r=some (.lst ((gU vals (c1.take i) ((pw 0 vals c1 c2).take i)).map V.int))) ⟨none,none,rfl,cg,a8,a4,a7,h3⟩ (λ i σ H' ⟨_,_,_,_,_,h,h',_⟩=>⟨h,h'⟩) ?_ ?_
   ·rintro i u y q _ H4 H5 hu hy ⟨v9,v10,rfl,e4,a5,a3,a6,h4⟩ hq e5 h5;rw [Qq] at hu hy;obtain⟨c,hc,rfl⟩:=Qj.mp hu;obtain⟨e,he,rfl⟩:=Qj.mp hy;have ar:=b4 () c (Qr hc);have bb:=b6 () e (Qr he);have gc:=kg ar.1 ar.2;have ge:=kg bb.1 bb.2;have hlen:=bM vals (c1.take i) ((pw 0 vals c1 c2).take i);have aq:=λ (_:Unit)=>fR (vals:=vals) hc (sR (b:=0) (vals:=vals) hc he);have b3:=e5.at h4;have bt:=e5.at a5;have b1:=e5.at a3;have b2:=e5.at a6;have ck:=e4.trans e5;generalize gU vals (c1.take i) ((pw 0 vals c1 c2).take i)=vv at b3 hlen aq;have cn:ixN vv.length c=some c.toNat:=ni ar.1 (by rw [hlen];exact ar.2);generalize vals.getD c.toNat 0=zc at *;generalize vals.getD e.toNat 0=ze at *;have cm:rJ 0 zc:=.inl ⟨by decide,by decide⟩;clear hu hy hc he k hlen a4 a7 a8 h3 h4 a5 a3 a6 hq e5;simp! only [↓aw];refine⟨_,_,rfl,ck.put bp,by rw [ae np];exact bt,by rw [ae n1];exact b1,by rw [ae n2];exact b2,?_⟩;rw [aq (),←fb]
   ·rintro _ H4 ⟨v9,v10,rfl,e4,a5,a3,a6,h4⟩;have hm:min (c1.map V.int).length (c2.map V.int).length=c1.length:=by rw [Qk,Qk,←a9 (),SD]
    rw [hm,QD,RF (by rw [oA (a9 ())];exact Qi _)] at h4;rw [ye (a9 ())] at h4;have cT:(gU vals c1 (aQ vals c2)).length=vals.length:=bM _ _ _;obtain⟨va,cJ⟩:∃ va,va=gU vals c1 (aQ vals c2):=⟨_,rfl⟩;rw [←cJ] at h4 cT;exists cJ;clear a4 a7 a8 h3;ac_rfl;refine kl (ka:=false) (kb:=false) (xs:=c2.map V.int) (ys:=c1.map V.int) (λ i σ H'=>∃ v9 v10:Option V,σ=[%[p|45],%[d|45],some (.int 3),%[p1|45],%[p2|45],%[x|47],%[r1|45],%[r2|45],%[r|45],v9,v10]/\Ext H H'/\H' p=%[vals|46]/\H' r1=%[c1|46]/\H' r2=%[c2|46]/\H' r=some (.lst ((gU va (c2.take i) ((aQ vals c1).take i)).map V.int))) ⟨_,_,rfl,e4,a5,a3,a6,h4⟩ (λ i σ H' ⟨_,_,_,_,_,h,h',_⟩=>⟨h',h⟩) ?_ ?_
    ·rintro i u y q _ H5 H6 hu hy ⟨dc,cV,rfl,e5,bt,b1,b2,h5⟩ hq e6 h6;rw [getElem?_map] at hu hy;obtain⟨c,hc,rfl⟩:=Option.map_eq_some_iff.mp hu;obtain⟨e,he,rfl⟩:=Option.map_eq_some_iff.mp hy;have ar:=b6 () c (mem_of_getElem? hc);have bb:=b4 () e (mem_of_getElem? he);have ge:=kg bb.1 bb.2;have hlen:=bM va (c2.take i) ((aQ vals c1).take i);have aq:=λ (_:Unit)=>fR (vals:=va) hc (show (aQ vals c1)[i]? = some (vals.getD e.toNat 0) by unfold aQ;rw [getElem?_map,he];rfl);have c0:=e6.at h5;have de:=e6.at bt;have dr:=e6.at b1;have du:=e6.at b2;have dy:=e5.trans e6;generalize gU va (c2.take i) ((aQ vals c1).take i)=vv at c0 hlen aq;have cn:ixN vv.length c=some c.toNat:=ni ar.1 (by rw [hlen,cT];exact ar.2);generalize vals.getD e.toNat 0=ze at *;clear hu hy hc he k hlen h5 bt b1 b2 hq e6 h4 a5 a3 a6;simp! only [↓aw];refine⟨_,_,rfl,dy.put bp,by rw [ae np];exact de,by rw [ae n1];exact dr,by rw [ae n2];exact du,?_⟩;rw [aq (),←fb]
    ·rintro _ H5 ⟨dc,cV,rfl,e5,bt,b1,b2,h5⟩;have hm:min (c2.map V.int).length (c1.map V.int).length=c2.length:=by rw [Qk,Qk,a9 (),SD]
     rw [hm,QD,RF (by rw [iY,a9 ()];exact Qi _)] at h5;rw [cJ ()] at h5;have k2:=k () r H5 bp e5 h5;clear k;ac_rfl
  | 4,_=>
   ac_rfl;refine kl (ka:=false) (kb:=false) (xs:=c1.map V.int) (ys:=c2.map V.int) (λ i σ H'=>∃ v9 v10:Option V,σ=[%[p|45],%[d|45],some (.int 4),%[p1|45],%[p2|45],%[x|47],%[r1|45],%[r2|45],%[r|45],v9,v10]/\Ext H H'/\H' p=%[vals|46]/\H' r1=%[c1|46]/\H' r2=%[c2|46]/\H' r=some (.lst ((gU vals (c1.take i) ((pw 1 vals c1 c2).take i)).map V.int))) ⟨none,none,rfl,cg,a8,a4,a7,h3⟩ (λ i σ H' ⟨_,_,_,_,_,h,h',_⟩=>⟨h,h'⟩) ?_ ?_
   ·rintro i u y q _ H4 H5 hu hy ⟨v9,v10,rfl,e4,a5,a3,a6,h4⟩ hq e5 h5;rw [Qq] at hu hy;obtain⟨c,hc,rfl⟩:=Qj.mp hu;obtain⟨e,he,rfl⟩:=Qj.mp hy;have ar:=b4 () c (Qr hc);have bb:=b6 () e (Qr he);have gc:=kg ar.1 ar.2;have ge:=kg bb.1 bb.2;have hlen:=bM vals (c1.take i) ((pw 1 vals c1 c2).take i);have aq:=λ (_:Unit)=>fR (vals:=vals) hc (sR (b:=1) (vals:=vals) hc he);have b3:=e5.at h4;have bt:=e5.at a5;have b1:=e5.at a3;have b2:=e5.at a6;have ck:=e4.trans e5;generalize gU vals (c1.take i) ((pw 1 vals c1 c2).take i)=vv at b3 hlen aq;have cn:ixN vv.length c=some c.toNat:=ni ar.1 (by rw [hlen];exact ar.2);generalize vals.getD c.toNat 0=zc at *;generalize vals.getD e.toNat 0=ze at *;have cm:rJ 1 zc:=.inl ⟨by decide,by decide⟩;clear hu hy hc he k hlen a4 a7 a8 h3 h4 a5 a3 a6 hq e5;simp! only [↓aw];refine⟨_,_,rfl,ck.put bp,by rw [ae np];exact bt,by rw [ae n1];exact b1,by rw [ae n2];exact b2,?_⟩;rw [aq (),←fb]
   ·rintro _ H4 ⟨v9,v10,rfl,e4,a5,a3,a6,h4⟩;have hm:min (c1.map V.int).length (c2.map V.int).length=c1.length:=by rw [Qk,Qk,←a9 (),SD]
    rw [hm,QD,RF (by rw [oA (a9 ())];exact Qi _)] at h4;rw [Et (a9 ())] at h4;have k2:=k () r H4 bp e4 h4;clear k;ac_rfl
  | n+5,h=>exact absurd h %[0|8]
def ML(A:List Nat)(i j:Nat):List Nat:=(A.set i (A.getD j 0)).set j (A.getD i 0)
def BN{A:List Nat}{i j:Nat}(hi:i < A.length)(hj:j < A.length):(ML A i j).Perm A:=by
 unfold ML;rw [getD_eq_getElem?_getD,getD_eq_getElem?_getD,getElem?_eq_getElem hi,getElem?_eq_getElem hj];exact List.set_set_perm hi hj
abbrev qy  (p:Addr) (c:Int) (H:Hp) (Q:VK) (E:XK):Prop:=∃ A:List Nat,H p=some (.lst (fE A))/\A.length<=60/\0<=c/\∀ (r:Addr) (H':Hp) (B:List Nat),H r=none->Ext H H'->B.Perm A->H' r=some (.lst (fE B))->Q (.ref r) H'
def rY  : Sp:=λ vs H Q E=>∃ (p:Addr) (c:Int),vs=[.ref p,.int c]/\(qy  p c H Q E)
def A5  (p:Addr) (c:Int) (H:Hp) (Q:VK) (E:XK):rY  [.ref p,.int c] H Q E=(qy  p c H Q E):=lN (f:=λ (p:Addr) (c:Int)=>[.ref p,.int c]) (λ _ _ _ _ h=>by cases h;exact⟨rfl,rfl⟩) p c
def uO(A:List Nat)(i x:Nat):(fE A).set i (.int (x:Int))=fE (A.set i x):=by unfold fE;rw [List.map_set]
def yD{A:List Nat}{i:Nat}(h:i < A.length):atI (fE A) (i:Int)=some (.int ((A.getD i 0:Nat):Int)):=bL (by unfold fE;rw [getElem?_map,getElem?_eq_getElem h,getD_eq_getElem?_getD,getElem?_eq_getElem h];rfl)
def lW(T:Tx K mg t):%[1,wA|49] ["_law_row", "_law_cell"] rY:=by
 refine T.F_wA.ok cS (λ _ _ _ _ h=>lO h λ _ _=>rfl) (λ cdv A' outer s H vs Q E hr h=>?_)
 ·obtain⟨p,c,rfl,A,hp,hl,hc,k⟩:=h;refine⟨_,%[%[2,cS,%[aY,∅,T.z_list,nofun,%[%[0|0]|1],⋯,⋯,∅,∅|30]|4],%[%[PassesOwn.never,rfl,%[∅,T.z_range,%[%[len,bh,%[%[2|0]|1]|6]|1],∅|35],%[3,cS|5],%[%[4,cS,%[fA,%[Cj,%[1|0],%[bF,%[0|2],%[gR,%[3|0],%[3|0]|11]|11]|11],%[bF,%[3|0],%[0|2]|11]|11]|4],%[%[%[%[%[cW,%[2|0],%[4|0],(λ _ _=>rfl)|14],%[%[cW,%[2|0],%[3|0],(λ _ _=>rfl)|14]|1]|1]|22],(%[(2),rfl,%[%[%[2|0],%[3|0],dF,(by intros;rfl)|37],%[%[%[2|0],%[4|0],dF,(by intros;rfl)|37],(@aO _),∅|17],∅|17],∅,∅|25].mono λ _ _ _ _ h=>bR h),∅,∅,∅|36]|9]|10],(by intros;rfl)|19],%[%[%[2|0]|12]|9]|10]|10],?_⟩;rw [%[["_law_row", "_law_cell", "_law_found", "_law_k", "_law_at"],[.ref p,.int c],3|53]];exists k;have a3:(fE A).length=A.length:=by unfold fE;rw [length_map]
  ac_rfl;intro r H1 aq e1 h1;have bt:-4611686018427387904<=(A.length:Int)/\(A.length:Int) < 4611686018427387904:=⟨by omega,by omega⟩;ac_rfl;refine sN (λ i σ H'=>∃ (v3 v4:Option V) (B:List Nat),σ=[%[p|45],%[c|47],%[r|45],v3,v4]/\Ext H H'/\B.Perm A/\H' r=some (.lst (fE B))) ⟨none,none,A,rfl,e1,List.Perm.refl _,h1⟩ ?_ ?_
  ·rintro i _ H2 hi ⟨v3,v4,B,rfl,e2,hB,h2⟩;simp only [Tp];have b1:i < A.length:=by simpa using hi
   have a4:=hB.length_eq;have bb:i < 60:=by omega
   have hd:0 < 3+(i:Int) * (i:Int):=by have:(0:Int)<=(i:Int) * (i:Int):=Int.mul_nonneg %[0|8] %[0|8];omega
   have a5:0<=c / (3+(i:Int) * (i:Int)):=Int.ediv_nonneg hc (Int.le_of_lt hd);obtain⟨j,hj⟩:∃ j:Nat,c / (3+(i:Int) * (i:Int)) % ((i:Int)+1)=(j:Int):=⟨(c / (3+(i:Int) * (i:Int)) % ((i:Int)+1)).toNat,by have:=Ry (c / (3+(i:Int) * (i:Int))) (show ((i:Int)+1) ≠ 0 by omega);omega⟩;have b2:j < i+1:=by have:=Ro (c / (3+(i:Int) * (i:Int))) (show 0 < ((i:Int)+1) by omega);omega
   have b3:(i:Int) * (i:Int)<=3600:=SX (show (i:Int)<=60 by omega) (show (i:Int)<=60 by omega) %[0|8] ⋯;have b4:Fb c (3+(i:Int) * (i:Int)):=⟨by omega,by omega⟩;have b5:0 < (i:Int)+1:=by omega
   have b6:c.fdiv (3+(i:Int) * (i:Int)) % ((i:Int)+1)=(j:Int):=by rw [Int.fdiv_eq_ediv_of_nonneg _ (Int.le_of_lt hd)];exact hj
   have cm:rJ (i:Int) (i:Int):=.inl ⟨by omega,by omega⟩;have b7:=yD (A:=B) (i:=i) %[0|8];have cc:=yD (A:=B) (i:=j) %[0|8];have a6:(fE B).length=B.length:=by unfold fE;rw [length_map]
   have cf:ixN (fE B).length (i:Int)=some i:=(by rw [ni %[0|8] %[0|8],Int.toNat_natCast]);have cg:=uO B i (B.getD j 0);have ck:ixN (fE (B.set i (B.getD j 0))).length (j:Int)=some j:=(by rw [ni %[0|8] (by unfold fE;rw [length_map,length_set];omega),Int.toNat_natCast]);have ar:=uO (B.set i (B.getD j 0)) j (B.getD i 0);have fin:∃ (B':List Nat),B'.Perm A/\(fE (B.set i (B.getD j 0))).set j (.int ((B.getD i 0:Nat):Int))=fE B':=⟨ML B i j,(BN %[0|8] %[0|8]).trans hB,ar⟩;exists fin;exists hB;clear ar k h1 hi hj a5 hd a6 a4 a3;simp! only [↓aw];intro q H3 hq e3 h3;have bp:=e3.at h2;have a7:=e2.trans e3;clear h2 hq e3 e2;ac_rfl;obtain⟨B',a8,a9⟩:=fin ();rw [a9];exact⟨_,_,B',rfl,a7.put aq,a8,rfl⟩
  ·rintro _ H2 ⟨v3,v4,B,rfl,e2,hB,h2⟩;have k2:=k () r H2 B aq e2 hB h2;clear k;ac_rfl
abbrev Ex3:=Nat × Int × Int
def SxY(t:Adr)(H:Hp)(e:Ex3)(y:V):Prop:=∃ s,y=.ref s/\StX t H s e.1 e.2.1 e.2.2
def SxL(t:Adr)(H:Hp)(p:Addr)(es:List Ex3):Prop:=∃ ys,H p=some (.lst ys)/\Al (SxY t H) es ys
def SxY.ext{t:Adr}{H H':Hp}{e:Ex3}{y:V}(h:SxY t H e y)(x:Ext H H'):SxY t H' e y:=by
 obtain⟨s,h1,h2⟩:=h;exact⟨s,h1,h2.ext x⟩
def SxL.ext{t:Adr}{H H':Hp}{p:Addr}{es:List Ex3}(h:SxL t H p es)(x:Ext H H'):SxL t H' p es:=by
 obtain⟨ys,h1,h2⟩:=h;exact⟨ys,x.at h1,h2.imp λ _ _ q=>q.ext x⟩
def NoP(es:List Ex3):Prop:=∃ a∈es,∃ b∈es,1<=a.1/\1<=b.1/\a.2.1 ≠ b.2.1
def Lng(es:List Ex3)(n:Int):Prop:=∃ a∈es,1<=a.1/\a.2.2=n/\4096 < n
structure RfX(t:Adr)(H:Hp)(es:List Ex3)(E:XK):Prop where
 bad:60 < es.length\/NoP es\/∃ n,Lng es n
 big:60 < es.length->∀ dx H',Ext H H'->H' dx=some (.xd [("number",.int (es.length:Int))])->E (.ref t.a_Uz) (some dx) H'
 pr:es.length<=60->NoP es->∀ H',Ext H H'->E (.ref t.a_UC) none H'
 lg:es.length<=60->¬ NoP es->∀ n,Lng es n->∀ dx H',Ext H H'->H' dx=some (.xd [("number",.int n)])->E (.ref t.a_Uz) (some dx) H'
def RxI(t:Adr)(H H':Hp)(v:Addr)(es:List Ex3)(n:Nat):Prop:=∃ xs:List Addr,Ext H H'/\H' v=some (.lst (xs.map V.ref))/\xs.length<=4 * n/\(∀ x∈xs,∃ e∈es,1<=e.1/\VwN t.a_UH H x e.2.1 e.2.2)/\∀ e∈es.take n,1<=e.1->∃ x∈xs,VwN t.a_UH H x e.2.1 e.2.2
def RxI.ok{t:Adr}{H:Hp}{es:List Ex3}{xs:List Addr}(h1:∀ x∈xs,∃ e∈es,1<=e.1/\VwN t.a_UH H x e.2.1 e.2.2)(h2:∀ e∈es,1<=e.1->∃ x∈xs,VwN t.a_UH H x e.2.1 e.2.2){x0:Addr}(h0:x0∈xs):(RmE (rmH t.a_UH H) x0 xs ↔ ¬ NoP es)/\(CnE (cnH t.a_UH H) xs ↔ ¬ ∃ n,Lng es n)/\∀ n,(∃ x∈xs,cnH t.a_UH H x=n/\4096 < n)->Lng es n:=by
 refine⟨⟨λ h=>?_,λ h x hx=>?_⟩,⟨λ h=>?_,λ h x hx=>?_⟩,λ n hn=>?_⟩
 ·rintro ⟨a,ha,b,hb,aq,ar,a4⟩;obtain⟨x,hx,vx⟩:=h2 a ha aq;obtain⟨y,hy,vy⟩:=h2 b hb ar;have e1:=h x hx;have e2:=h y hy;rw [vx.fn.1] at e1;rw [vy.fn.1] at e2;exact a4 (e1.trans e2.symm)
 ·obtain⟨a,ha,aq,va⟩:=h1 x hx;obtain⟨b,hb,ar,vb⟩:=h1 x0 h0;rw [va.fn.1,vb.fn.1];exact RX λ q=>h ⟨a,ha,b,hb,aq,ar,q⟩
 ·rintro ⟨n,a,ha,aq,rfl,hn⟩;obtain⟨x,hx,vx⟩:=h2 a ha aq;have:=h x hx;rw [vx.fn.2] at this;omega
 ·obtain⟨a,ha,aq,va⟩:=h1 x hx;rw [va.fn.2];exact Int.not_lt.mp λ q=>h ⟨_,a,ha,aq,rfl,q⟩
 ·obtain⟨x,hx,a3,a5⟩:=hn;obtain⟨a,ha,aq,va⟩:=h1 x hx;rw [va.fn.2] at a3;exact⟨a,ha,aq,a3,a5⟩
abbrev qu(t:Adr)(p:Addr)(H:Hp)(Q:VK)(E:XK):Prop:=∃ es:List Ex3,SxL t H p es/\es.length<=1000/\RfX t H es E
def rW(t:Adr):Sp:=λ vs H Q E=>∃ (p:Addr),vs=[.ref p]/\(qu t p H Q E)
def A3(t:Adr)(p:Addr)(H:Hp)(Q:VK)(E:XK):rW t [.ref p] H Q E=(qu t p H Q E):=jB (f:=λ (p:Addr)=>[.ref p]) (λ _ _ h=>by cases h;exact rfl) p
def gv(T:Tx K mg t):aM P w K mg base (CX1 P  w) 5 t.a_oX t.d_oX %[|127] (rW t):=by
 have G_HY:=%[kW|43];have G_wm:=%[jG|43];have G_pH:=%[dn|43];refine(Fun.x T.F_oX).ok aK (λ _ _ _ _ h=>iW h λ _=>rfl) %[0|50]
 ·obtain⟨p,rfl,es,⟨ys,hp,al⟩,hl,rx⟩:=h;refine⟨_,%[%[%[vt,%[len,bh,%[%[0|0]|1]|6],(@ed _ _ (.int 60) _ _ ∅ T.m_MOST_STATEMENTS.choose_spec ⟨_,rfl⟩ ⋯),(aG _)|20],%[(@pQ _ _ _ _ _ _ _ _ _ _ _ _ _ _ _ rfl ∅ T.m_Uz T.oi_TooMany G_pH (hr.mono ⋯) T.b_pH (λ σ=>kS) %[%[len,bh,%[%[0|0]|1]|6]|1] ∅ ∅ ⋯)|9],(@aF _)|23],%[%[1,aK,%[(@cq _)|13]|4],%[%[Q3,rfl,%[%[0|0]|18],%[2,aK|5],%[%[%[QJ,Rv,Ru,fS,%[1|0],%[%[HY,%[%[2|0]|1]|3]|1],∅,∅,∅,∅,∅|33],∅|15]|9],(by intros;rfl)|19],%[%[%[G_wm,(hr.mono ⋯),∅,T.m_wm,T.F_wm.kp,T.b_wm,.nil,bu,%[%[1|0]|1],⋯,∅,∅|40],∅|15]|9]|10]|10]|10],?_⟩;rw [%[["statements", "views", "statement"],[.ref p],2|53]];clear G_HY G_wm G_pH;exists rx;exists al;have a3:ys.length=es.length:=(al ()).1
  by_cases hlt:60 < es.length
  ·have kb:=(rx ()).big hlt;rw [←a3] at kb;have bp:(60:Int) < (ys.length:Int):=by omega
   clear rx al a3;ac_rfl;exact Eh kb
  have bp:¬ (60:Int) < (ys.length:Int):=by omega
  have a7:es.length<=60:=by omega
  exists a3;ac_rfl;intro v H1 hv e1 h1;have a8:RxI t H H1 v es 0:=⟨[],e1,h1,QK _,λ x hx=>(by cases hx),λ e he=>absurd he (by rw [Sg];exact QC)⟩;have bt:=e1.at hp;clear h1 e1;ac_rfl;refine aR (xs:=ys) (λ i σ H'=>∃ v2:Option V,σ=[%[p|45],%[v|45],v2]/\RxI t H H' v es i) ⟨none,rfl,a8⟩ (λ i σ H' _ ⟨_,_,_,e,_⟩=>e.at hp) ?_ ?_
  ·clear a8 bt;rintro i y _ H2 hi ⟨v2,rfl,xs,e2,h2,b1,ar,aq⟩;obtain⟨d,hd⟩:∃ d,es[i]? = some d:=⟨_,Qf (by rw [←(al ()).1];exact(Qh.mp hi).1)⟩;obtain⟨s,rfl,u,w',b2,a9,b3⟩:=(al ()).2 i d y hd hi;have b7:i < 60:=by have:=(Qh.mp hi).1;have:=a3 ();omega
   have wl:=uf d.1 u w';have bb:=Qr hd;exists ar;exists aq;exists hd;clear hi;simp! only [↓aw];rw [lh];refine⟨d.1,u,w',b2.ext e2,λ r H3 e3 h3=>?_⟩;have b5:=e3.at h2;have b4:=e2.trans e3;have hlen:(xs++(wrs d.1 u w'++rds d.1 u w')).length<=4 * (i+1):=by rw [Qw,Qw];omega
   have fin:RxI t H (upd H3 v (.lst ((xs++(wrs d.1 u w'++rds d.1 u w')).map V.ref))) v es (i+1):=by
    refine⟨_,b4.put hv,af,hlen,λ x hx=>?_,λ e he a6=>?_⟩
    ·rcases QF.mp hx with hx|hx
     ·exact ar () x hx
     ·rcases xC hx with ⟨hw,rfl⟩|⟨hw,rfl⟩
      ·exact⟨d,bb,hw,a9 hw⟩
      ·exact⟨d,bb,by omega,b3 hw⟩
    ·rw [QQ,hd ()] at he
     rcases QF.mp he with he|he
     ·obtain⟨x,hx,vx⟩:=aq () e he a6;exact⟨x,Qz _ hx,vx⟩
     ·have:e=d:=by simpa using he
      subst this;exact⟨u,Qn _ (Nx u w' a6),a9 a6⟩
   have b6:(xs.map V.ref).length+((wrs d.1 u w'++rds d.1 u w').map V.ref).length<=sizeLine:=az (by rw [Qk,Qk,Qw];omega);rw [Rl] at fin;generalize (wrs d.1 u w'++rds d.1 u w').map V.ref=ws at *;generalize xs.map V.ref=xv at *;clear ar aq e3 e2 h2 rx al;simp! only [↓aw];exact⟨_,rfl⟩
  ·rintro _ H2 ⟨v2,rfl,xs,e2,h2,b1,ar,aq⟩;rw [a3 (),QD] at aq;have a4:NoP es\/∃ n,Lng es n:=(rx ()).bad.elim (λ h=>absurd h %[0|8]) id
   obtain⟨x0,zs,hxs⟩:∃ x0 zs,xs=x0::zs:=by
    obtain⟨a,ha,a5⟩:∃ a∈es,1<=a.1:=by
     rcases a4 with ⟨a,ha,b,hb,a5,_⟩|⟨n,a,ha,a5,_⟩
     ·exact⟨a,ha,a5⟩
     ·exact⟨a,ha,a5⟩
    obtain⟨x,hx,_⟩:=aq a ha a5
    cases xs with
    | nil=>cases hx
    | cons a b=>exact⟨a,b,rfl⟩
   subst hxs;obtain⟨i1,i2,i3⟩:=RxI.ok ar aq Qv;exists a4;exists ar;exists i1;exists i2;exists i3;clear aq;ac_rfl;rw [tZ];refine⟨x0,zs,rmH t.a_UH H,cnH t.a_UH H,h2,λ x hx=>?_,?_,λ h H3 e3=>?_,λ h n hn dx H3 e3 h3=>?_⟩
   ·obtain⟨e,_,_,vx⟩:=ar () x hx;obtain⟨f,A,g1,g2,g3⟩:=id vx;exact⟨f,A,by rw [vx.fn.1];exact g1.ext e2,g2,by rw [vx.fn.2];exact g3⟩
   ·rcases a4 () with h|h
    ·exact .inl λ q=>(i1 ()).mp q h
    ·exact .inr λ q=>(i2 ()).mp q h
   ·exact(rx ()).pr a7 (RX λ q=>h ((i1 ()).mpr q)) H3 (e2.trans e3)
   ·exact(rx ()).lg a7 ((i1 ()).mp h) n (i3 () n hn) dx H3 (e2.trans e3) h3
abbrev lz(t:Adr)(p:Addr)(H:Hp)(Q:VK)(E:XK):Prop:=∃ es:List Ex3,SxL t H p es/\es.length<=1000/\RfX t H es E
def ku(t:Adr):Sp:=λ vs H Q E=>∃ (p:Addr),vs=[.ref p]/\(lz t p H Q E)
def tY(t:Adr)(p:Addr)(H:Hp)(Q:VK)(E:XK):ku t [.ref p] H Q E=(lz t p H Q E):=jB (f:=λ (p:Addr)=>[.ref p]) (λ _ _ h=>by cases h;exact rfl) p
def vM(T:Tx K mg t):aM P w K mg base (CX1 P  w) 7 t.a_UA t.d_UA %[|127] (ku t):=by
 have G_oX:=%[gv|43];have G_UD:=%[uL|43];refine(Fun.x T.F_UA).ok bJ (λ _ _ _ _ h=>iW h λ _=>rfl) %[0|50]
 ·obtain⟨p,rfl,es,hx,hl,rx⟩:=h;refine⟨_,%[%[%[G_oX,(hr.mono ⋯),∅,T.m_oX,T.F_oX.kp,T.b_oX,.nil,bu,%[%[0|0]|1],⋯,∅,∅|40],∅|15],%[%[1,bJ,%[UD,%[%[0|0]|1]|3]|4],%[%[2,bJ,(@pS _ ("max") _ _ _ _ _ _ _ _ _ _ (mM rfl) ∅ T.z_max nofun %[%[(%[|106]),(2),(aV (aa eZ) %[|111] rfl rfl nofun),rfl,%[%[1|0]|18],(λ _ _ _ _ _=>(%[(2),rfl,%[%[(0),%[|106]|51],%[%[(1),%[|106]|51],(@aO _),∅|17],∅|17],∅,∅|25].mono λ _ _ _ _ h=>bR h)),(λ _ _ _ _ _=>(@bo _)),(λ _ _ _ _ _=>%[bF,%[0|0],%[0|2]|11]),(by intros;rfl)|29]|1] (@yt _ _ _ _ _ _ _ %[0|2] (@D9 _)) ⋯ ⋯ ∅ ∅ ∅ ∅ ∅)|4],%[%[(%[|114]),(1),(3),_,bJ.nd,rfl,(Or.inl rfl),(aV (aa eZ) %[|111] rfl rfl nofun),rfl,%[∅,T.z_range,%[%[2|0]|1],∅|35],(λ _ _ _ _ _=>%[(0),%[|114]|51]),(λ _ _ _ _ _=>(@bo _)),(λ _ _ _ _ _=>%[(@cq _)|13]),∅,(by intros;rfl),%[0|7]|38],%[%[Q3,rfl,(@sH _ _ _ _ _ _ _ _ ∅ T.z_enumerate %[%[1|0]|1] ∅),(%[(2),rfl,%[%[4,bJ|5],%[%[5,bJ|5],(@aO _),∅|17],∅|17],∅,∅|25].mono λ _ _ _ _ h=>bR h),%[%[%[QJ,Sa,R9,fT,%[cW,%[3|0],%[cW,%[5|0],%[0|2],(λ _ _=>rfl)|14],(λ _ _=>rfl)|14],%[%[4|0]|1],∅,∅,∅,∅,∅|33],∅|15]|9],(by intros;rfl)|19],%[%[%[3|0]|12]|9]|10]|10]|10]|10]|10],?_⟩;rw [%[%[|111],[.ref p],5|53]];clear G_oX G_UD;ac_rfl;rw [A3];exact⟨es,hx,hl,rx⟩
def fP(t:Adr):Sp:=λ vs H Q E=>∃ (st:Addr) (p:Addr),vs=[.ref st,.ref p]/\(∃ es:List Ex3,SxL t H p es/\es.length<=1000/\RfX t H es E)
def tW(t:Adr)(st:Addr)(p:Addr)(H:Hp)(Q:VK)(E:XK):fP t [.ref st,.ref p] H Q E=(∃ es:List Ex3,SxL t H p es/\es.length<=1000/\RfX t H es E):=lN (f:=λ (st:Addr) (p:Addr)=>[.ref st,.ref p]) (λ _ _ _ _ h=>by cases h;exact⟨rfl,rfl⟩) st p
def sY(T:Tx K mg t):aM P w K mg base (CX1 P  w) 8 t.a_Uv t.d_Uv %[|126] (fP t):=by
 have G_UA:=%[vM|43];have aq:=Nq (P:=P) (w:=w) (base:=base) T;refine(Fun.x T.F_Uv).ok bV (λ _ _ _ _ h=>lO h λ _ _=>rfl) %[0|50]
 ·obtain⟨st,p,rfl,es,hx,hl,rx⟩:=h;refine⟨_,%[%[Q3,rfl,%[%[G_UA,(hr.mono ⋯),∅,T.m_UA,T.F_UA.kp,T.b_UA,.nil,bu,%[%[1|0]|1],⋯,∅,∅|40]|18],%[2,bV|5],%[%[Q3,rfl,%[%[2|0]|18],%[3,bV|5],%[%[%[%[cW,%[1|0],%[3|0],(λ _ _=>rfl)|14],aq,(hr.mono ⋯),aC,%[%[0|0]|1],∅,∅,∅|42],∅|15]|9],(by intros;rfl)|19]|9],(by intros;rfl)|19]|9],?_⟩;rw [%[%[|123],[.ref st,.ref p],2|53]];clear G_UA aq;ac_rfl;rw [tY];exact⟨es,hx,hl,rx⟩
def xI(t:Adr)(i:Nat):Sp:=λ vs H Q E=>match i with
 | 0=>jq t 0 vs H Q E
 | 1=>pB t 1 vs H Q E
 | _=>False
def MDX{P:Program}{w:World}{K:W.Frag}{mg:Str->Option Value}{base:Heap}{t:Adr}(T:Tx K mg t):∀ i,i < 5->MD P w K mg base (CX1 P  w) 7 "run" (pq t i) (xI t i)
 | 0,_=>⟨T.qBm,_,_,_,T.qCr,aM.up (eW T),T.b_tK⟩
 | 1,_=>⟨T.qBt,_,_,_,T.qD4,qT T,T.b_Df⟩
 | 2,_=>⟨T.qBv,_,_,_,T.qD5,⟨λ _ _ _ _ h=>h.elim,λ _ _ _ _ _ _ _ _ _ _ _ _ _ h=>h.elim⟩,T.b_Dg⟩
 | 3,_=>⟨T.qBw,_,_,_,T.qD6,⟨λ _ _ _ _ h=>h.elim,λ _ _ _ _ _ _ _ _ _ _ _ _ _ h=>h.elim⟩,T.b_HX⟩
 | 4,_=>⟨T.qBs,_,_,_,T.qCz,⟨λ _ _ _ _ h=>h.elim,λ _ _ _ _ _ _ _ _ _ _ _ _ _ h=>h.elim⟩,T.b_CL⟩
 | n+5,h=>absurd h %[0|8]
def Nt(ds:List Sd):Prop:=(atD ds 0).1=0/\(atD ds 1).1=1/\2<=ds.length/\∀ k,2<=k->k < ds.length->ClD (atD ds 1) (atD ds k)
def Iw{ds:List Sd}{fs:List (Nat × Option Nat)}(h:Nt ds)(hf:fs.length=ds.length)(dl:DlP ds fs):ix fs ds.length 0=[0,1]/\aL fs 0=0:=by
 obtain⟨h0,h1,h2,h3⟩:=h
 have z:∀ d:Sd,¬ ClD (atD ds 0) d:=λ d hc=>by
  unfold ClD at hc;rw [h0] at hc
  rcases hc with ⟨c,q,_⟩|⟨c,_,q⟩<;>cases q
 have l0:aL fs 0=0:=by
  cases hb:vq fs 0 with
  | none=>exact(dl.bef 0 %[0|8]).1 hb
  | some j=>exact absurd ((dl.bef 0 %[0|8]).2 j hb).1 (RM _)
 have l1:aL fs 1=0:=by
  cases hb:vq fs 1 with
  | none=>exact(dl.bef 1 %[0|8]).1 hb
  | some j=>
   obtain⟨q1,q2,_⟩:=(dl.bef 1 %[0|8]).2 j hb;have:j=0:=by omega
   subst this;exact absurd q2 (z _)
 refine⟨?_,l0⟩;obtain⟨n,hn⟩:∃ n,ds.length=2+n:=⟨ds.length - 2,by omega⟩
 have lk:∀ k,k < n->aL fs (2+k) ≠ 0:=λ k hk e=>by
  have:=dl.up (2+k) %[0|8] 1 %[0|8] (h3 (2+k) %[0|8] %[0|8]);omega
 have:∀ m,m<=n->ix fs (2+m) 0=[0,1]:=by
  intro m
  induction m with
  | zero=>intro _;unfold ix;simp [List.range_succ,l0,l1]
  | succ m ih=>
   intro hm;rw [show 2+(m+1)=(2+m)+1 by omega,pP,QB (lk m %[0|8]),ih %[0|8]]
 rw [hn];exact this n (Qi _)
def uW{H H':Hp}{l:Addr}{o:HO}(k:KpL l H H')(h:H l=some o)(h':H' l=some o):Ext H H':=lQ.ext λ b u e=>by
 by_cases hb:b=l
 ·subst hb;rw [h] at e;cases e;exact h'
 ·exact k b u hb e
abbrev lu(mg:Str->Option Value)(t:Adr)(st:Addr)(p:Addr)(H:Hp)(Q:VK)(E:XK):Prop:=∃ (l:Addr) (vals:List Int) (room:Int) (ds:List Sd),ay t.a_UE H st l vals/\1<=vals.length/\vals.length<=4096/\StL t H room p ds/\ds.length<=60/\Nt ds/\room ≠ vals.length/\TbH mg H 547 (xf "dealt")/\∀ H',Ext H H'->E (.ref t.a_UB) none H'
def fQ(mg:Str->Option Value)(t:Adr):Sp:=λ vs H Q E=>∃ (st:Addr) (p:Addr),vs=[.ref st,.ref p]/\(lu mg t st p H Q E)
def tX(mg:Str->Option Value)(t:Adr)(st:Addr)(p:Addr)(H:Hp)(Q:VK)(E:XK):fQ mg t [.ref st,.ref p] H Q E=(lu mg t st p H Q E):=lN (f:=λ (st:Addr) (p:Addr)=>[.ref st,.ref p]) (λ _ _ _ _ h=>by cases h;exact⟨rfl,rfl⟩) st p
def sZ(T:Tx K mg t):aM P w K mg base (CX1 P  w) 8 t.a_Uv t.d_Uv %[|126] (fQ mg t):=by
 have G_UA:=%[kG|43];have ar:=MDX (P:=P) (w:=w) (base:=base) T;refine(Fun.x T.F_Uv).ok bV (λ _ _ _ _ h=>lO h λ _ _=>rfl) %[0|50]
 ·obtain⟨st,p,rfl,l,vals,room,ds,so,ck,cm,a8,hl,aq,a4,b6,kE⟩:=h;refine⟨_,%[%[Q3,rfl,%[%[UA,%[%[1|0]|1]|3]|18],%[2,bV|5],%[%[Q3,rfl,%[%[2|0]|18],%[3,bV|5],%[%[%[%[cW,%[1|0],%[3|0],(λ _ _=>rfl)|14],ar,(hr.mono ⋯),bu,%[%[0|0]|1],∅,∅,∅|42],∅|15]|9],(by intros;rfl)|19]|9],(by intros;rfl)|19]|9],?_⟩;rw [%[%[|123],[.ref st,.ref p],2|53]];clear G_UA ar;exists kE;exists a8;exists so;exists aq;ac_rfl;rw [ji];refine⟨room,ds,a8 (),hl,b6,λ r H1 ⟨fs,qs,b3,dl,hM,td⟩=>?_⟩;obtain⟨a3,cn⟩:=Iw (aq ()) b3 dl;have cN:1<=qs.length:=by have:=hM.1 0 (by rw [b3];have:=(aq ()).2.2.1;omega);omega
  have a9:=(a8 ()).ext td.ex;have bb:=(so ()).ext td.ex;have cp:=td.t;exists td;exists a9;exists bb;exists a3;clear a8 b6 dl hM b3 cn;ac_rfl;refine aR (xs:=qs.map V.ref) (λ i σ H'=>∃ v2 v3:Option V,σ=[%[st|45],%[p|45],v2,v3]/\H'=H1/\i=0) ⟨none,none,rfl,rfl,rfl⟩ (λ i σ H' _ ⟨_,_,_,h,_⟩=>by rw [h];exact(td ()).t) ?_ ?_
  ·rintro i y _ Hx hi ⟨v2,v3,rfl,hH,rfl⟩;rw [hH];clear hH;rw [Qq] at hi;obtain⟨q,hq,rfl⟩:=Qj.mp hi;have bp:=(td ()).ro 0 q hq;rw [a3 ()] at bp;have hex:=(td ()).ex;clear hi hq cp;simp! only [↓aw];refine aR (xs:=fE [0,1]) (λ j σ H'=>∃ v3:Option V,σ=[%[st|45],%[p|45],%[q|45],v3]/\Ext H1 H'/\j<=1) ⟨v3,rfl,Ext.refl _,QK _⟩ (λ j σ H' _ ⟨_,_,h,_⟩=>h.at bp) ?_ ?_
   ·rintro j y _ H3 hj ⟨cv,rfl,e3,b4⟩;obtain⟨ss,cA,bt⟩:=(a9 ()).ext e3;have b1:=(bb ()).ext e3;have cT:=(aq ()).2.2.1;obtain⟨s0,a5,b7⟩:=Br bt (k:=0) %[0|8];obtain⟨s1,a6,cc⟩:=Br bt (k:=1) %[0|8];replace a5:atI ss 0=%[s0|45]:=a5;replace a6:atI ss 1=%[s1|45]:=a6;obtain⟨u0,v0,⟨cV,cf,a7⟩,_⟩:=b7;obtain⟨u1,v1,⟨c0,cg,b2⟩,hv,_⟩:=cc;have b5:=hv (by rw [(aq ()).2.1];exact Qi _);rw [(aq ()).1] at a7;rw [(aq ()).2.1] at b2;have cJ:=hex.trans e3;exists b5
    match j,b4,hj with
    | 0,_,hj=>
     cases hj;clear bt bp a9 bb hv b5 b2 a6 kE a3;simp! only [↓aw];refine⟨s0,0,cf,_,rfl,by decide,a7,rfl,?_⟩;ac_rfl;rw [show xI t 0=jq t 0 from rfl,u3];refine⟨u0,v0,cf,l,(atD ds 0).2.1,vals,[],[],a7,b1,ck,cm,λ h=>absurd h ⋯,λ h=>absurd h ⋯,λ H4 q1 q2 q3=>?_⟩;have e4:=e3.trans (uW q2 b1.fl q3);clear q1 q2 q3 b1 a7 cA;ac_rfl
     first|exact⟨_,rfl,e4⟩|exact⟨_,rfl⟩
    | 1,_,hj=>
     cases hj;have kf:=λ (_:Unit)=>kE ();clear bt bp a9 bb hv a7 a5 kE a3;simp! only [↓aw];refine⟨s1,1,cg,_,rfl,by decide,b2,rfl,?_⟩;ac_rfl;rw [show xI t 1=pB t 1 from rfl,DH];obtain⟨f,A,g1,g2,g3,g4⟩:=b5 ();exact⟨u1,cg,l,.int (atD ds 1).2.1,vals,room,_,Qi _,b2,b1,⟨f,A,g1,g2,rfl⟩,.inl a4,λ _ H4 e4=>kf () H4 (cJ.trans e4),λ h=>absurd h a4⟩
    | j+2,h,_=>exact absurd h %[0|8]
   ·rintro _ H3 ⟨cv,rfl,e3,b4⟩;exact absurd b4 ⋯
  ·rintro _ H2 ⟨v2,v3,rfl,_,h⟩;rw [Qk] at h;omega
def zl(mg:Str->Option Value)(t:Adr):Sp:=λ vs H Q E=>jM mg t vs H Q E\/fP t vs H Q E\/fQ mg t vs H Q E
def tm(T:Tx K mg t):aM P w K mg base (CX1 P  w) 8 t.a_Uv t.d_Uv %[|126] (zl mg t):=
 aM.both (aM.up (mF T)) (aM.both (sp2:=λ vs H Q E=>fP t vs H Q E\/fQ mg t vs H Q E) (sY T) (sZ T) λ _ _ _ _ h=>h) λ _ _ _ _ h=>h
def xa(t:Adr)(H:Hp)(p:Addr)(wd:Str)(num:Int):Prop:=∃ es:List Ex3,SxL t H p es/\es.length<=1000/\((60 < es.length/\wd = "many" /\ num=(es.length:Int))\/(es.length<=60/\NoP es/\wd = "pair" /\ num=0)\/(es.length<=60/\¬ NoP es/\(∃ n,Lng es n)/\(∀ n,Lng es n->n=num)/\wd = "many"))
def Nm(mg:Str->Option Value)(t:Adr)(H:Hp)(st p:Addr):Prop:=∃ (l:Addr) (vals:List Int) (room:Int) (ds:List Sd),ay t.a_UE H st l vals/\1<=vals.length/\vals.length<=4096/\StL t H room p ds/\ds.length<=60/\Nt ds/\room ≠ vals.length/\TbH mg H 547 (xf "dealt")
def Nn(mg:Str->Option Value)(t:Adr)(H:Hp)(st p:Addr):Prop:=∃ (l:Addr) (vals:List Int) (ds:List Sd),ay t.a_UE H st l vals/\1<=vals.length/\vals.length<=4096/\StL t H vals.length p ds/\ds.length<=60/\(∀ d∈ds,d.1=0)/\TbH mg H 547 (xf "dealt")
def pZ:∀ (ds:List Sd) (vals:List Int),(∀ d∈ds,d.1=0)->ds.foldl rnD vals=vals
 | [],_,_=>rfl
 | d::ds,vals,h=>by
  have e:rnD vals d=vals:=by unfold rnD;rw [h d mem_cons_self];rfl
  rw [RK,e];exact pZ ds vals λ x hx=>h x (Qt _ hx)
def xa.ext{t:Adr}{H H':Hp}{p:Addr}{wd:Str}{num:Int}(h:xa t H p wd num)(e:Ext H H'):xa t H' p wd num:=by
 obtain⟨es,h1,h2⟩:=h;exact⟨es,h1.ext e,h2⟩
def xG(mg:Str->Option Value)(t:Adr):Sp:=λ vs H Q E=>∃ (st:Addr) (p:Addr),vs=[.ref st,.ref p]/\(∃ (wd:Str) (num:Int),(xa t H p wd num\/(Nm mg t H st p/\wd = "view" /\ num=0)\/(Nn mg t H st p/\wd = "none" /\ num=0))/\∀ (r:Addr) (H':Hp),H r=none->Ext H H'->H' r=some (.tup [.str wd,.int num])->Q (.ref r) H')
def ow(mg:Str->Option Value)(t:Adr)(st:Addr)(p:Addr)(H:Hp)(Q:VK)(E:XK):xG mg t [.ref st,.ref p] H Q E=(∃ (wd:Str) (num:Int),(xa t H p wd num\/(Nm mg t H st p/\wd = "view" /\ num=0)\/(Nn mg t H st p/\wd = "none" /\ num=0))/\∀ (r:Addr) (H':Hp),H r=none->Ext H H'->H' r=some (.tup [.str wd,.int num])->Q (.ref r) H'):=lN (f:=λ (st:Addr) (p:Addr)=>[.ref st,.ref p]) (λ _ _ _ _ h=>by cases h;exact⟨rfl,rfl⟩) st p
def qL(T:Tx K mg t):%[9,CT|49] ["_law_store", "_law_statements"] (xG mg t):=by
 have G_Uv:=%[tm|43];refine T.F_CT.ok bN (λ _ _ _ _ h=>lO h λ _ _=>rfl) (λ cdv A' outer s H vs Q E hr h=>?_)
 ·obtain⟨st,p,rfl,wd,num,hc,k⟩:=h;have cn:=T.qAf;have cp:=T.qAc;have cv:=T.qAg;refine⟨_,%[%[2,bN,%[%[(@cj _ _ _ _),%[%[0|2]|1]|1]|22]|4],%[(@Kk _ _ _ _ _ _ _ ⟨rfl,rfl,rfl⟩ (λ EX E pn hx=>%[%[(@Cf _ _ _ _ _ _ _ _ _ _ _ _ _ _ _ _ G_Uv (hr.mono ⋯) ∅ T.m_Uv T.F_Uv.kp T.b_Uv .nil hx %[%[0|0],%[%[1|0]|1]|1] ⋯ ∅ ∅),∅|15]|9]) (@FF _ _ _ (3) _ _ _ _ _ _ _ _ bN.nd rfl rfl ∅ (.inl T.m_CU) (λ ee=>%[%[4,bN,%[%[%[isinstance,(gG (K:=K) rfl),%[%[3|0],%[(@ed _ _ (.ref t.a_UC) _ _ ∅ T.m_UC rfl ⋯)|1]|1]|6],%[%[isinstance,(gG (K:=K) rfl),%[%[3|0],%[(@ed _ _ (.ref t.a_UB) _ _ ∅ T.m_UB rfl ⋯)|1]|1]|6],%[%[isinstance,(gG (K:=K) rfl),%[%[3|0],%[(@ed _ _ (.ref t.a_Uz) _ _ ∅ T.m_Uz rfl ⋯)|1]|1]|6]|1]|1]|1]|13]|4],%[%[2,bN,%[%[(@cj _ _ _ _),%[%[0|2]|1]|1]|22]|4],%[%[(PW.pt (@Ki _ _ _ _ _ _ _ %[(cM hr.units),%[QJ,PySem.F.slot_list_count,PySem.F.type_list_count,Co,%[4|0],%[(@jW _ _ _ _)|1],∅,∅,∅,∅,∅|33],%[0|2],(aG _)|20] (@Fv _ _ _ _ (@dZ _ _ _ %[isinstance,(gG (K:=K) rfl),%[%[3|0],%[(@fN _ _ (.ty "ValueError") (.type "ValueError") _ ∅ T.z_ValueError nofun rfl ⋯ ⋯)|1]|1]|6] (by intros;rfl))))),%[%[2,bN,%[%[%[cW,%[%[(@cj _ _ _ _),%[(@cj _ _ _ _),%[(@cj _ _ _ _)|1]|1]|1]|13],%[QJ,PySem.F.slot_list_index,PySem.F.type_list_index,Cn,%[4|0],%[(@jW _ _ _ _)|1],∅,∅,∅,∅,∅|33],(λ _ _=>rfl)|14],%[%[0|2]|1]|1]|22]|4]|9],(@aF _)|23],%[%[%[(cM hr.units),%[cW,%[2|0],%[0|2],(λ _ _=>rfl)|14],(@cj _ _ _ _),(aG _)|20],%[%[2,bN,%[%[(@cj _ _ _ _),%[(@B9 _ (K) rfl _ _ _ _ %[3|0] rfl)|1]|1]|22]|4]|9],(@aF _)|23]|9]|10]|10]|10]) (@FE _) ⋯)),%[%[%[2|0]|12]|9]|10]|10],?_⟩;rw [%[["_law_store", "_law_statements", "_law_word", "e", "_law_some_here"],[.ref st,.ref p],3|53]];clear G_Uv;exists k;have cA:¬ (Str.ofString "pair"=Str.ofString "many"):=by decide +kernel
  have cJ:¬ (Str.ofString "view"=Str.ofString "many"):=by decide +kernel
  ac_rfl;intro q0 H0 cm e0 h0;ac_rfl
  rcases hc with ⟨es,hx,hl,bp⟩|⟨⟨l,vals,room,ds,g1,g2,g3,g4,g5,g6,g7,g8⟩,rfl,rfl⟩|⟨⟨l,vals,ds,g1,g2,g3,g4,g5,g6,g7⟩,rfl,rfl⟩
  ·refine .inr (.inl ?_);rw [tW];exists k;refine⟨es,hx.ext e0,hl,⟨?_,λ hb dx H1 e1 a9=>?_,λ hb hn H1 e1=>?_,λ hb hn n ck dx H1 e1 a9=>?_⟩⟩
   ·rcases bp with h|h|h
    ·exact .inl h.1
    ·exact .inr (.inl h.2.1)
    ·exact .inr (.inr h.2.2.1)
   ·obtain⟨hwd,hnum⟩:wd = "many" /\ num=(es.length:Int):=by
     rcases bp with h|h|h
     ·exact h.2
     ·exact absurd h.1 %[0|8]
     ·exact absurd h.1 %[0|8]
    subst hwd;rw [←hnum] at a9;clear bp hnum hx hb;ac_rfl;intro e oe a3 b4 b5 bt;have b6:dx ≠ e:=ag a9 a3;have d3:(upd H1 e (jC oe)) dx=some (.xd [("number",.int num)]):=by rw [ae b6];exact a9
    have ar:(upd H1 e (jC oe)) e=some (jC oe):=af;have e2:Ext H (upd H1 e (jC oe)):=e0.trans (e1.trans (Ext.new a3));generalize upd H1 e (jC oe)=H2 at e2 ar d3;have bb:∃ vs,oe.data=.fields vs:=(let ⟨vs,a,_⟩:=bt;⟨vs,a⟩);clear a3 a9 b6;simp! only [T.e_TooMany,T.qA4,T.qA5,T.qA3,T.qA2];intro l3 H3 _ e3 h3;obtain⟨bs,b1,b2,b3,h3'⟩:∃ bs:List Bool,bs.count true=1/\true∈bs/\bs.idxOf true=2/\H3 l3=some (.lst (bs.map V.bl)):=⟨[false,false,true],by decide,by decide,by decide,h3⟩;have a4:=e3.at ar;have d4:=e3.at d3;clear h3 ar d3;simp! only [T.e_TooMany,T.qA4,T.qA5,T.qA3,T.qA2];intro w4 H4 _ e4 h4;have a5:=e4.at a4;have aq:=e4.at h3';have d5:=e4.at d4;clear a4 h3' h4 d4;simp! only [T.e_TooMany,T.qA4,T.qA5,T.qA3,T.qA2];intro l5 H5 _ e5 h5;have a6:=e5.at a5;have b7:=e5.at aq;have d6:=e5.at d5;clear a5 aq d5;simp! only [T.e_TooMany,T.qA4,T.qA5,T.qA3,T.qA2];intro w6 H6 a7 e6 h6;have cc:=e6.at a6;have d7:=e6.at d6;have a8:=e2.trans (e3.trans (e4.trans (e5.trans e6)));clear a6 d6 a7;simp! only [T.e_TooMany,T.qA4,T.qA5,T.qA3,T.qA2];refine⟨e,oe,t.a_Uz,dx,[("number",.int num)],.int num,rfl,cc,b4,b5,bb,d7,T.e_TooMany,T.qCm,rfl,?_⟩;ac_rfl;intro w7 H7 cf e7 h7;have k2:=k () () w7 H7 (a8.free cf) (a8.trans e7) h7;clear k cf;ac_rfl
   ·obtain⟨hwd,hnum⟩:wd = "pair" /\ num=0:=by
     rcases bp with h|h|h
     ·exact absurd h.1 %[0|8]
     ·exact h.2.2
     ·exact absurd hn h.2.1
    subst hwd hnum;clear bp hx hb hn;ac_rfl;intro e oe a3 b4 b5 bt;have ar:(upd H1 e (jC oe)) e=some (jC oe):=af;have e2:Ext H (upd H1 e (jC oe)):=e0.trans (e1.trans (Ext.new a3));generalize upd H1 e (jC oe)=H2 at e2 ar;have bb:∃ vs,oe.data=.fields vs:=(let ⟨vs,a,_⟩:=bt;⟨vs,a⟩);clear a3;simp! only [T.e_NoPair,T.qBh,T.qBi,T.qBf,T.qAd];intro l3 H3 _ e3 h3;obtain⟨bs,b1,b2,b3,h3'⟩:∃ bs:List Bool,bs.count true=1/\true∈bs/\bs.idxOf true=0/\H3 l3=some (.lst (bs.map V.bl)):=⟨[true,false,false],by decide,by decide,by decide,h3⟩;have a4:=e3.at ar;clear h3 ar;simp! only [T.e_NoPair,T.qBh,T.qBi,T.qBf,T.qAd];intro w4 H4 _ e4 h4;have a5:=e4.at a4;have aq:=e4.at h3';clear a4 h3' h4;simp! only [T.e_NoPair,T.qBh,T.qBi,T.qBf,T.qAd];intro l5 H5 _ e5 h5;have a6:=e5.at a5;have b7:=e5.at aq;clear a5 aq;simp! only [T.e_NoPair,T.qBh,T.qBi,T.qBf,T.qAd];intro w6 H6 a7 e6 h6;have a8:=e2.trans (e3.trans (e4.trans (e5.trans e6)));have cg:H w6=none:=(e2.trans (e3.trans (e4.trans e5))).free a7;have cc:=e6.at a6;have k2:=k () () w6 H6 cg a8 h6;clear a6 k a7;simp! only [T.e_NoPair,T.qBh,T.qBi,T.qBf,T.qAd]
   ·obtain⟨hwd,hnum⟩:wd = "many" /\ n=num:=by
     rcases bp with h|h|h
     ·exact absurd h.1 %[0|8]
     ·exact absurd h.2.1 hn
     ·exact⟨h.2.2.2.2,h.2.2.2.1 n ck⟩
    subst hwd hnum;clear bp hx hb hn ck;ac_rfl;intro e oe a3 b4 b5 bt;have b6:dx ≠ e:=ag a9 a3;have d3:(upd H1 e (jC oe)) dx=some (.xd [("number",.int n)]):=by rw [ae b6];exact a9
    have ar:(upd H1 e (jC oe)) e=some (jC oe):=af;have e2:Ext H (upd H1 e (jC oe)):=e0.trans (e1.trans (Ext.new a3));generalize upd H1 e (jC oe)=H2 at e2 ar d3;have bb:∃ vs,oe.data=.fields vs:=(let ⟨vs,a,_⟩:=bt;⟨vs,a⟩);clear a3 a9 b6;simp! only [T.e_TooMany,T.qA4,T.qA5,T.qA3,T.qA2];intro l3 H3 _ e3 h3;obtain⟨bs,b1,b2,b3,h3'⟩:∃ bs:List Bool,bs.count true=1/\true∈bs/\bs.idxOf true=2/\H3 l3=some (.lst (bs.map V.bl)):=⟨[false,false,true],by decide,by decide,by decide,h3⟩;have a4:=e3.at ar;have d4:=e3.at d3;clear h3 ar d3;simp! only [T.e_TooMany,T.qA4,T.qA5,T.qA3,T.qA2];intro w4 H4 _ e4 h4;have a5:=e4.at a4;have aq:=e4.at h3';have d5:=e4.at d4;clear a4 h3' h4 d4;simp! only [T.e_TooMany,T.qA4,T.qA5,T.qA3,T.qA2];intro l5 H5 _ e5 h5;have a6:=e5.at a5;have b7:=e5.at aq;have d6:=e5.at d5;clear a5 aq d5;simp! only [T.e_TooMany,T.qA4,T.qA5,T.qA3,T.qA2];intro w6 H6 a7 e6 h6;have cc:=e6.at a6;have d7:=e6.at d6;have a8:=e2.trans (e3.trans (e4.trans (e5.trans e6)));clear a6 d6 a7;simp! only [T.e_TooMany,T.qA4,T.qA5,T.qA3,T.qA2];refine⟨e,oe,t.a_Uz,dx,[("number",.int n)],.int n,rfl,cc,b4,b5,bb,d7,T.e_TooMany,T.qCm,rfl,?_⟩;ac_rfl;intro w7 H7 cf e7 h7;have k2:=k () () w7 H7 (a8.free cf) (a8.trans e7) h7;clear k cf;ac_rfl
  ·refine .inr (.inr ?_);rw [tX];refine⟨l,vals,room,ds,g1.ext e0,g2,g3,g4.ext e0,g5,g6,g7,g8.ext e0,λ H1 e1=>?_⟩;clear g1 g4 g6 g8;ac_rfl;intro e oe a3 b4 b5 bt;have ar:(upd H1 e (jC oe)) e=some (jC oe):=af;have e2:Ext H (upd H1 e (jC oe)):=e0.trans (e1.trans (Ext.new a3));generalize upd H1 e (jC oe)=H2 at e2 ar;have bb:∃ vs,oe.data=.fields vs:=(let ⟨vs,a,_⟩:=bt;⟨vs,a⟩);clear a3;simp! only [T.e_NoView,T.qBj,T.qBk,T.qBg,T.qAe];intro l3 H3 _ e3 h3;obtain⟨bs,b1,b2,b3,h3'⟩:∃ bs:List Bool,bs.count true=1/\true∈bs/\bs.idxOf true=1/\H3 l3=some (.lst (bs.map V.bl)):=⟨[false,true,false],by decide,by decide,by decide,h3⟩;have a4:=e3.at ar;clear h3 ar;simp! only [T.e_NoView,T.qBj,T.qBk,T.qBg,T.qAe];intro w4 H4 _ e4 h4;have a5:=e4.at a4;have aq:=e4.at h3';clear a4 h3' h4;simp! only [T.e_NoView,T.qBj,T.qBk,T.qBg,T.qAe];intro l5 H5 _ e5 h5;have a6:=e5.at a5;have b7:=e5.at aq;clear a5 aq;simp! only [T.e_NoView,T.qBj,T.qBk,T.qBg,T.qAe];intro w6 H6 a7 e6 h6;have a8:=e2.trans (e3.trans (e4.trans (e5.trans e6)));have cg:H w6=none:=(e2.trans (e3.trans (e4.trans e5))).free a7;have cc:=e6.at a6;have k2:=k () w6 H6 cg a8 h6;clear a6 k a7;simp! only [T.e_NoView,T.qBj,T.qBk,T.qBg,T.qAe]
  ·refine .inl ?_;rw [gH];have fz:=pZ ds vals g6;refine⟨l,vals,ds,g1.ext e0,g2,g3,g4.ext e0,g5,λ d hd=>⟨by rw [g6 d hd];decide,λ h=>absurd h (by rw [g6 d hd];decide),λ h=>absurd h (by rw [g6 d hd];decide)⟩,g7.ext e0,λ H1 _ q2 q3=>?_⟩;rw [fz] at q3;have e1:=uW q2 (e0.at g1.fl) q3;have k2:=k () q0 H1 cm (e0.trans e1) (e1.at h0);clear k g1 g4 g6 g7 q2 q3 fz;ac_rfl
def StX.zero{t:Adr}{H:Hp}{s dx:Addr}{room n:Int}(h:H s=some (.ins t.a_CW dx [])):StX t H s 0 room n:=⟨s,s,⟨by decide,dx,.non,h⟩,(λ q=>absurd q ⋯),λ q=>absurd q ⋯⟩
def uy{t:Adr}{H:Hp}{s dx u:Addr}{x:V}{room n:Int}(h:H s=some (.ins t.a_UI dx [("to",.ref u),("value",x)]))(v:VwN t.a_UH H u room n):StX t H s 1 room n:=⟨u,u,⟨by decide,dx,x,h⟩,(λ _=>v),λ q=>absurd q ⋯⟩
def KG{room f n p:Int}(hr:1<=room/\room<=1000000)(hf:0<=f/\f < room)(hn:1<=n/\n<=1000000000):kh room f [(n,0)]:=by
 have ax:dD [(n,(0:Int))]:=⟨by simp,λ a ha=>by rw [Qo.mp ha];exact⟨by show 1<=n;omega,by show n<=_;omega⟩⟩;have e:[(n,(0:Int))].map ba=[(n,0)]:=by show [(n,if n > 1 then (0:Int) else 0)]=_;rw [ite_self]
 have l:bj [(n,(0:Int))]=0:=by show min 0 ((n - 1) * 0)+0=_;rw [Int.mul_zero];decide
 have g:br [(n,(0:Int))]=0:=by show max 0 ((n - 1) * 0)+0=_;rw [Int.mul_zero];decide
 exact⟨ax,hr.1,by omega,by rw [e,l];omega,by rw [e,g];omega⟩
def FW{C:Addr}{H:Hp}{x:Addr}{room f n:Int}(hn:1<=n/\n<=1000000000)(v:av C H x room f ([(n,(0:Int))].map ba)):VwN C H x room n:=by
 have ax:dD [(n,(0:Int))]:=⟨by simp,λ a ha=>by rw [Qo.mp ha];exact⟨by show 1<=n;omega,by show n<=_;omega⟩⟩;exact⟨f,_,v,ax.kept,by rw [eO];show aj [n]=n;simp [aj]⟩
def uv{α:Type}{R:α->V->Prop}:∀ {zs aq:List α}{ys ar:List V},Al R zs ys->Al R aq ar->Al R (zs++aq) (ys++ar)
 | [],aq,[],ar,_,h'=>h'
 | [],_,y::ys,_,h,_=>by have:=h.1;simp at this
 | z::zs,_,[],_,h,_=>by have:=h.1;simp at this
 | z::zs,aq,y::ys,ar,h,h'=>Al.cons' (h.2 0 z y rfl rfl) (uv ⟨by have:=h.1;simpa using this,λ i a b ha hb=>h.2 (i+1) a b (by simpa using ha) (by simpa using hb)⟩ h')
def yc{α:Type}{R:α->V->Prop}{zs:List α}{ys:List V}(h:Al R zs ys):∀ n:Nat,Al R (List.replicate n zs).flatten (List.replicate n ys).flatten
 | 0=>Al.nil
 | n+1=>by
  rw [Rz,Rz,RE,RE];exact uv h (yc h n)
def gW{α:Type}(zs:List α):∀ n:Nat,(List.replicate n zs).flatten.length=n * zs.length
 | 0=>by simp
 | n+1=>by rw [Rz,RE,Qw,gW zs n,Nat.succ_mul,Nat.add_comm]
def Mb{room:Int}(hr:1<=room/\room<=1000000):kh room 0 []:=⟨⟨by simp,λ a ha=>by cases ha⟩,hr.1,by omega,by show (0:Int)<=0+bj [];decide,by show (0:Int)+br [] < room;have:br []=0:=rfl;omega⟩
def ID{C:Addr}{H:Hp}{x:Addr}{room f:Int}(v:av C H x room f (([]:%[0|48]).map ba)):VwN C H x room 1:=⟨f,_,v,⟨by simp,λ a ha=>by cases ha⟩,rfl⟩
def RwY(t:Adr)(H:Hp)(y:V):Prop:=∃ (r p q:Addr) (wd:Str) (num:Int),y=.ref r/\H r=some (.tup [.ref p,.ref q])/\H q=some (.tup [.str wd,.int num])/\PyData.strOk wd=true/\xa t H p wd num
def RwY.ext{t:Adr}{H H':Hp}{y:V}(h:RwY t H y)(e:Ext H H'):RwY t H' y:=by
 obtain⟨r,p,q,wd,num,h1,h2,h3,h4,h5⟩:=h;exact⟨r,p,q,wd,num,h1,e.at h2,e.at h3,h4,h5.ext e⟩
def RwL(t:Adr)(H:Hp)(ys:List V):Prop:=∀ y∈ys,RwY t H y
def RwL.ext{t:Adr}{H H':Hp}{ys:List V}(h:RwL t H ys)(e:Ext H H'):RwL t H' ys:=λ y hy=>(h y hy).ext e
def RwL.nil{t:Adr}{H:Hp}:RwL t H []:=λ y hy=>absurd hy QC
def RwL.cons{t:Adr}{H:Hp}{y:V}{ys:List V}(h:RwY t H y)(hs:RwL t H ys):RwL t H (y::ys):=λ x hx=>(QG.mp hx).elim (λ e=>e ▸ h) (hs x)
def RwL.app{t:Adr}{H:Hp}{xs ys:List V}(h:RwL t H xs)(hs:RwL t H ys):RwL t H (xs++ys):=λ x hx=>(QF.mp hx).elim (h x) (hs x)
def StR.x{t:Adr}{H:Hp}{room:Int}{d:Sd}{s:Addr}(h:StR t H room d s)(hl:2<=d.1->d.2.2.1.length=d.2.2.2.length):StX t H s d.1 room (d.2.2.1.length:Int):=by
 obtain⟨u,v,h1,h2,h3⟩:=h;have cn:∀ {x:Addr} {cs:List Int},VwC t.a_UH H x room cs->VwN t.a_UH H x room (cs.length:Int):=λ {x cs} ⟨f,A,g1,g2,g3,g4⟩=>⟨f,A,g1,g2,by rw [←g4];have:=aB f A λ a ha=>(g2.2 a ha).1;omega⟩;exact⟨u,v,h1.at,λ q=>cn (h2 q),λ q=>by rw [hl q];exact cn (h3 q)⟩
def uA{ys:List Ex3}{room:Int}(h:∀ e∈ys,e.2.1=room):¬ NoP ys:=λ ⟨a,ha,b,hb,_,_,hn⟩=>hn ((h a ha).trans (h b hb).symm)
def Jh(n:Nat):List Int:=(List.range n).map λ (k:Nat)=>7 * (0+(k:Int))+1
def rQ{t:Adr}{H:Hp}{room:Int}{s dx:Addr}(h:H s=some (.ins t.a_CW dx [])):StR t H room (0,0,[],[]) s:=⟨s,s,⟨by decide,dx,h⟩,(λ q=>absurd q ⋯),λ q=>absurd q ⋯⟩
abbrev qA(mg:Str->Option Value)(t:Adr)(K:PySem.W.Frag)(a:Addr)(ns:List Int)(s:Addr)(room:Int)(p:Addr)(H:Hp)(Q:VK)(E:XK):Prop:=s=a/\SqL K H a (ns.map V.int)/\ns.length<=63/\20<=room/\room<=60/\∃ (g1 g2:Addr) (cA:List Int),H p=some (.lst [.ref g1,.ref g2])/\StR t H room (1,3,cA,[]) g1/\StR t H room (2,0,[0,1],[2,3]) g2/\(0:Int)∈cA/\(cA.length:Int)=room/\TbH mg H 547 (xf "dealt")/\∀ H',Ext H H'->Q (.bl true) H'
def r8(mg:Str->Option Value)(t:Adr)(K:W.Frag)(a:Addr)(ns:List Int):Sp:=λ vs H Q E=>∃ (s:Addr) (room:Int) (p:Addr),vs=[.ref s,.int room,.ref p]/\(qA mg t K a ns s room p H Q E)
def A7(mg:Str->Option Value)(t:Adr)(K:W.Frag)(a:Addr)(ns:List Int)(s:Addr)(room:Int)(p:Addr)(H:Hp)(Q:VK)(E:XK):r8 mg t K a ns [.ref s,.int room,.ref p] H Q E=(qA mg t K a ns s room p H Q E):=wX (f:=λ (s:Addr) (room:Int) (p:Addr)=>[.ref s,.int room,.ref p]) (λ _ _ _ _ _ _ h=>by cases h;exact⟨rfl,rfl,rfl⟩) s room p
def lD(T:Tx K mg t)(a:Addr)(ns:List Int):%[10,wq|49] ["_law_script", "_law_room", "_law_good"] (r8 mg t K a ns):=by
 have G_CM:=%[gq|43] a ns;have G_tI:=%[cK|43];have G_tL:=%[cL|43];have G_CT:=%[qL|43];have G_rg:=%[eV|43];have G_pI:=%[dq|43];refine T.F_wq.ok aE (λ _ _ _ _ h=>wY h λ _ _ _=>rfl) (λ cdv A' outer s H vs Q E hr h=>?_)
 ·obtain⟨_,room,gp,rfl,rfl,hS,hl,z5,kc,g1,g2,cA,hp,a5,a6,nJ,nT,a7,kk⟩:=h;rename_i a;have c1:=T.qA0;refine⟨_,%[%[(%[|110]),(1),(3),_,aE.nd,rfl,(Or.inl rfl),(aV (aa cz) %[|112] rfl rfl nofun),rfl,%[∅,T.z_range,%[%[1|0]|1],∅|35],(λ _ _ _ _ _=>%[(0),%[|110]|51]),(λ _ _ _ _ _=>(@bo _)),(λ _ _ _ _ _=>%[bF,%[gR,%[0|2],%[0|0]|11],%[0|2]|11]),∅,(by intros;rfl),%[0|7]|38],%[%[4,aE,%[T.qD1,G_tL,(hr.mono ⋯),∅,T.m_UI,T.b_tL,.nil,aC,%[%[T.qC5,G_tI,(hr.mono ⋯),∅,T.m_UH,T.b_tI,.nil,aC,%[%[bF,%[bF,%[1|0],%[0|2]|11],%[CM,%[%[0|0],%[%[0|2],%[%[0|2]|1]|1]|1]|3]|11],%[%[0|2],%[%[(@cq _)|13]|1]|1]|1],⋯,∅,∅|26],%[%[0|2]|1]|1],⋯,∅,∅|26]|4],%[%[5,aE,%[bF,%[0|2],%[CM,%[%[0|0],%[%[0|2],%[%[kd,%[0|2],%[0|2]|11]|1]|1]|1]|3]|11]|4],%[%[6,aE,%[T.qD1,G_tL,(hr.mono ⋯),∅,T.m_UI,T.b_tL,.nil,aC,%[%[T.qC5,G_tI,(hr.mono ⋯),∅,T.m_UH,T.b_tI,.nil,aC,%[%[1|0],%[%[0|2],%[%[%[%[%[%[5|0],%[%[0|2]|1]|1]|22]|1]|13]|1]|1]|1],⋯,∅,∅|26],%[%[0|2]|1]|1],⋯,∅,∅|26]|4],%[%[7,aE,%[%[%[%[%[cG,%[2|0],%[%[%[4|0]|1]|13]|11],%[%[%[(@cj _ _ _ _),%[%[0|2]|1]|1]|22]|1]|1]|22],%[%[%[%[cG,%[2|0],%[%[%[6|0]|1]|13]|11],%[%[%[(@cj _ _ _ _),%[%[5|0]|1]|1]|22]|1]|1]|22],%[%[%[%[cG,%[2|0],%[%[%[6|0],%[%[4|0]|1]|1]|13]|11],%[%[%[(@cj _ _ _ _),%[%[0|2]|1]|1]|22]|1]|1]|22]|1]|1]|1]|13]|4],%[%[7,aE,%[cG,%[7|0],%[%[%[%[%[%[%[6|0]|1]|13],%[%[%[(@cj _ _ _ _),%[%[5|0]|1]|1]|22]|1]|1]|22],%[%[%[%[yz,%[%[(@kj _ _ _ _ _ T.qBq ∅ T.m_CW ⋯)|1]|13],%[0|2]|11],%[%[%[(@cj _ _ _ _),%[%[0|2]|1]|1]|22]|1]|1]|22],%[%[%[%[yz,%[2|0],%[0|2]|11],%[%[%[(@cj _ _ _ _),%[%[0|2]|1]|1]|22]|1]|1]|22]|1]|1]|1]|13]|11]|4],%[%[Qu,rfl,%[%[7|0]|18],(%[(2),rfl,%[%[8,aE|5],%[%[9,aE|5],(@aO _),∅|17],∅|17],∅,∅|25].mono λ _ _ _ _ h=>bR h),%[%[10,aE,%[T.qCq,G_rg,(hr.mono ⋯),∅,T.m_UE,T.b_rg,.nil,aC,%[%[aY,∅,T.z_list,nofun,%[%[3|0]|1],⋯,⋯,∅,∅|30]|1],⋯,∅,∅|26]|4],%[%[(PW.pt %[%[(iB hr.units),%[CT,%[%[10|0],%[%[8|0]|1]|1]|3],%[9|0],(aG _)|20],(@jY _ _ _ _ %[(iB hr.units),%[%[10|0],T.qA0,T.qA6,G_pI,(hr.mono ⋯),T.b_pI,.nil,aC,∅|24],%[3|0],(aG _)|20])|34]),%[%[(@jW _ _ _ _)|12]|9],(@aF _)|23]|9]|10],(by intros;rfl)|19],%[%[11,aE,%[T.qCq,G_rg,(hr.mono ⋯),∅,T.m_UE,T.b_rg,.nil,aC,%[%[cG,%[3|0],%[%[%[0|2]|1]|13]|11]|1],⋯,∅,∅|26]|4],%[%[(PW.pt %[%[(iB hr.units),%[CT,%[%[11|0],%[%[cG,%[%[(@kj _ _ _ _ _ T.qBq ∅ T.m_CW ⋯)|1]|13],%[2|0]|11]|1]|1]|3],%[%[(@cj _ _ _ _),%[%[0|2]|1]|1]|22],(aG _)|20],(@jY _ _ _ _ %[(iB hr.units),%[%[11|0],T.qA0,T.qA6,G_pI,(hr.mono ⋯),T.b_pI,.nil,aC,∅|24],%[cG,%[3|0],%[%[%[0|2]|1]|13]|11],(aG _)|20])|34]),%[%[(@jW _ _ _ _)|12]|9],(@aF _)|23],%[%[%[%[(cM hr.units),%[CT,%[%[11|0],%[%[%[(@kj _ _ _ _ _ T.qBq ∅ T.m_CW ⋯),%[(@kj _ _ _ _ _ T.qBq ∅ T.m_CW ⋯)|1]|1]|13]|1]|1]|3],%[%[(@cj _ _ _ _),%[%[0|2]|1]|1]|22],(aG _)|39],(@jZ _ _ _ _ _ %[(cM hr.units),%[%[11|0],T.qA0,T.qA6,G_pI,(hr.mono ⋯),T.b_pI,.nil,aC,∅|24],%[cG,%[3|0],%[%[%[0|2]|1]|13]|11],(aG _)|39])|32]|12]|9]|10]|10]|10]|10]|10]|10]|10]|10]|10],?_⟩;rw [%[%[|112],[.ref a,.int room,.ref gp],9|53]];clear G_CM G_tI G_tL G_CT G_rg G_pI;exists kk;have a3:=a5.x (λ h=>absurd h (show ¬ 2<=1 by decide));have a4:=a6.x (λ _=>rfl);rw [show ((1,3,cA,[]):Sd).2.2.1.length=cA.length from rfl,nT] at a3;exists a5;exists a6;exists a3;exists a4;exists a7;exists nJ;obtain⟨N,hN⟩:∃ N:Nat,room=(N:Int):=⟨room.toNat,by omega⟩;subst hN;have z6:-4611686018427387904<=(N:Int)/\(N:Int) < 4611686018427387904:=⟨by omega,by omega⟩;exists nT;ac_rfl;refine bK (List.range N) (λ _=>true) (λ (k:Nat)=>.int (7 * (0+(k:Int))+1)) (λ (z:Nat) x H'=>x=.int (0+(z:Int))) jo.1 jo.2 (az (by rw [Q8];omega)) ?_ ?_
  ·intro D z y H' N1 N0 hz hD e' hy k1 _;subst hy;have hB:=k1 rfl H' (Ext.refl _);clear k1 hz kk;simp! only [↓aN,↓aU]
  intro fp J0 _ j0 a8;rw [rH,show (List.range N).map (λ (k:Nat)=>V.int (7 * (0+(k:Int))+1))=(Jh N).map V.int by unfold Jh;rw [map_map];rfl] at a8;have eT:(Jh N).length=N:=by unfold Jh;rw [length_map,length_range]
  generalize Jh N=F at *;exists eT;have eb:=Ext.refl H;exists a5,a6,a3,a4,a7,j0;replace hp:=j0.at hp;replace hS:=j0.2 K a _ hS;replace eb:=eb.trans j0;clear j0;ac_rfl;rw [dH];refine⟨hS,hl,⟨by decide,by decide⟩,by decide,λ d1 tT t2=>?_⟩;obtain⟨rb,hrb⟩:∃ rb,(N:Int)+1+d1=rb:=⟨_,rfl⟩;have yx:(N:Int) < rb:=by omega
  have yT:rb<=100:=by omega
  ac_rfl;clear hrb tT t2;intro l1 hP t4 d0 n0;clear t4;exists a5,a6,a3,a4,a7,d0;replace hp:=d0.at hp;replace a8:=d0.at a8;replace hS:=d0.2 K a _ hS;replace eb:=eb.trans d0;clear d0;have tA:aH hP l1 (axL []):=⟨_,n0,Al.nil⟩;clear n0;ac_rfl;intro bv eU y0 e0 ke kn fa hQ kr;rw [cZ];refine⟨eU,[],hQ,aH.ext tA fa,Mb ⟨by omega,by omega⟩,λ hR n1 fo kv eG fu=>?_⟩;have d3:=fo hP fa e0;have fv:av t.a_UH hR bv rb 0 ([].map ba):=⟨eU,n1,eG,fu⟩;exists fv;clear hQ kr e0 ke kn fa fo kv eG fu;exists a5,a6,a3,a4,a7,d3;replace hp:=d3.at hp;replace a8:=d3.at a8;replace hS:=d3.2 K a _ hS;replace eb:=eb.trans d3;clear d3;clear tA;ac_rfl;intro kx kE y1 fz kQ kT hT hW k4;rw [iL];refine⟨kE,hW,λ n2 f3 hX=>?_⟩;have dJ:=f3 hR hT fz;clear hW k4 fz kQ kT hT f3;exists a5,a6,a3,a4,a7,fv,dJ;replace hp:=dJ.at hp;replace a8:=dJ.at a8;replace hS:=dJ.2 K a _ hS;replace eb:=eb.trans dJ;clear dJ;have ar:SxY t n2 (1,rb,1) (.ref kx):=⟨kx,rfl,uy hX (ID (fv ()))⟩;exists ar;clear hX;clear fv;ac_rfl;rw [dH];refine⟨hS,hl,⟨by decide,by decide⟩,by decide,λ d2 t6 t8=>?_⟩;obtain⟨n,hn0⟩:∃ n,4097+d2=n:=⟨_,rfl⟩;have z7:4097<=n:=by omega
  have z8:n<=1100000:=by omega
  ac_rfl;clear hn0 t6 t8;intro t3 y2 t9 dN hC;clear t9;exists a5,a6,a3,a4,a7,ar,dN;replace hp:=dN.at hp;replace a8:=dN.at a8;replace hS:=dN.2 K a _ hS;replace eb:=eb.trans dN;clear dN;ac_rfl;intro l4 hY uu dy hE;clear uu;exists a5,a6,a3,a4,a7,ar,dy;replace hp:=dy.at hp;replace a8:=dy.at a8;replace hC:=dy.at hC;replace hS:=dy.2 K a _ hS;replace eb:=eb.trans dy;clear dy;have tA:aH hY l4 (axL [(n,0)]):=⟨_,hE,Al.cons' ⟨t3,rfl,hC⟩ Al.nil⟩;clear hC hE;ac_rfl;intro mv f5 y3 f6 k6 la f7 ih lb;rw [cZ];refine⟨f5,[(n,0)],ih,aH.ext tA f7,KG (p:=0) ⟨by omega,by omega⟩ ⟨by decide,by omega⟩ ⟨by omega,by omega⟩,λ ij n3 f9 lk eH gc=>?_⟩;have dS:=f9 hY f7 f6;have gd:av t.a_UH ij mv (N:Int) 0 ([(n,0)].map ba):=⟨f5,n3,eH,gc⟩;exists gd;clear ih lb f6 k6 la f7 f9 lk eH gc;exists a5,a6,a3,a4,a7,ar,dS;replace hp:=dS.at hp;replace a8:=dS.at a8;replace hS:=dS.2 K a _ hS;replace eb:=eb.trans dS;clear dS;clear tA;ac_rfl;intro many lp y4 gf lx ly iv iz l2;rw [iL];refine⟨lp,iz,λ n4 gg gk=>?_⟩;have dz:=gg ij iv gf;clear iz l2 gf lx ly iv gg;exists a5,a6,a3,a4,a7,ar,gd,dz;replace hp:=dz.at hp;replace a8:=dz.at a8;replace hS:=dz.2 K a _ hS;replace eb:=eb.trans dz;clear dz;have aq:SxY t n4 (1,(N:Int),n) (.ref many):=⟨many,rfl,uy gk (FW (n:=n) ⟨by omega,by omega⟩ (gd ()))⟩;exists aq;clear gk;clear gd;ac_rfl;intro b1 y5 u0 dA n5;clear u0;exists a5,a6,a3,a4,a7,ar,aq,dA;replace hp:=dA.at hp;replace a8:=dA.at a8;replace hS:=dA.2 K a _ hS;replace eb:=eb.trans dA;clear dA;refine cF hp n5 (az (by simp)) ?_;intro p1 n7 _ dB gn;exists a5,a6,a3,a4,a7,ar,aq,dB;replace hp:=dB.at hp;replace a8:=dB.at a8;replace hS:=dB.2 K a _ hS;replace eb:=eb.trans dB;clear dB;clear n5;have el:xa t n7 p1 "pair" 0:=⟨[(1,(N:Int),(N:Int)),(2,(N:Int),2),(1,rb,1)],⟨_,gn,Al.cons' ⟨g1,rfl,a3 ()⟩ (Al.cons' ⟨g2,rfl,a4 ()⟩ (Al.cons' (ar ()) Al.nil))⟩,by simp,.inr (.inl ⟨by simp,⟨(1,(N:Int),(N:Int)),by simp,(1,rb,1),by simp,Qi 1,Qi 1,(show (N:Int) ≠ rb by omega)⟩,rfl,rfl⟩)⟩;exists el;clear gn;ac_rfl;intro q1 y6 u1 da hF;clear u1;exists a5,a6,a3,a4,a7,ar,aq,el,da;replace hp:=da.at hp;replace a8:=da.at a8;replace hS:=da.2 K a _ hS;replace eb:=eb.trans da;clear da;ac_rfl;intro r1 n8 u2 c4 kc;clear u2;exists a5,a6,a3,a4,a7,ar,aq,el,c4;replace hp:=c4.at hp;replace a8:=c4.at a8;replace hF:=c4.at hF;replace hS:=c4.2 K a _ hS;replace eb:=eb.trans c4;clear c4;have bb:RwY t n8 (.ref r1):=⟨r1,p1,q1, "pair",0,rfl,kc,hF,by decide +kernel,el ()⟩;exists bb;clear hF kc;clear el;ac_rfl;intro b2 y7 va dc oj;clear va;exists a5,a6,a3,a4,a7,ar,aq,bb,dc;replace hp:=dc.at hp;replace a8:=dc.at a8;replace hS:=dc.2 K a _ hS;replace eb:=eb.trans dc;clear dc;refine cF hp oj (az (by simp)) ?_;intro p2 oD _ de oJ;exists a5,a6,a3,a4,a7,ar,aq,bb,de;replace hp:=de.at hp;replace a8:=de.at a8;replace hS:=de.2 K a _ hS;replace eb:=eb.trans de;clear de;clear oj
  have en:xa t oD p2 "many" n:=by
   refine⟨[(1,(N:Int),(N:Int)),(2,(N:Int),2),(1,(N:Int),n)],⟨_,oJ,Al.cons' ⟨g1,rfl,a3 ()⟩ (Al.cons' ⟨g2,rfl,a4 ()⟩ (Al.cons' (aq ()) Al.nil))⟩,by simp,.inr (.inr ⟨by simp,uA (room:=(N:Int)) (by simp),⟨n,(1,(N:Int),n),by simp,Qi 1,rfl,by omega⟩,λ m hm=>?_,rfl⟩)⟩;obtain⟨x,hx,_,d8,vb⟩:=hm;simp only [QG,QC,Rr] at hx
   rcases hx with rfl|rfl|rfl
   ·first|exact d8.symm|(have d4:_=m:=d8;simp only at d4;omega)
   ·first|exact d8.symm|(have d4:_=m:=d8;simp only at d4;omega)
   ·first|exact d8.symm|(have d4:_=m:=d8;simp only at d4;omega)
  exists en;clear oJ;ac_rfl;intro q2 y8 vo c5 ep;clear vo;exists a5,a6,a3,a4,a7,ar,aq,bb,en,c5;replace hp:=c5.at hp;replace a8:=c5.at a8;replace hS:=c5.2 K a _ hS;replace eb:=eb.trans c5;clear c5;ac_rfl;intro r2 oL vr cT oN;clear vr;exists a5,a6,a3,a4,a7,ar,aq,bb,en,cT;replace hp:=cT.at hp;replace a8:=cT.at a8;replace ep:=cT.at ep;replace hS:=cT.2 K a _ hS;replace eb:=eb.trans cT;clear cT;have dr:RwY t oL (.ref r2):=⟨r2,p2,q2, "many",n,rfl,oN,ep,by decide +kernel,en ()⟩;exists dr;clear ep oN;clear en;ac_rfl;intro b3 y9 vu c6 oT;clear vu;exists a5,a6,a3,a4,a7,ar,aq,bb,dr,c6;replace hp:=c6.at hp;replace a8:=c6.at a8;replace hS:=c6.2 K a _ hS;replace eb:=eb.trans c6;clear c6;refine cF hp oT (az (by simp)) ?_;intro p3 o2 _ c7 gx;exists a5,a6,a3,a4,a7,ar,aq,bb,dr,c7;replace hp:=c7.at hp;replace a8:=c7.at a8;replace hS:=c7.2 K a _ hS;replace eb:=eb.trans c7;clear c7;clear oT;have er:xa t o2 p3 "pair" 0:=⟨[(1,(N:Int),(N:Int)),(2,(N:Int),2),(1,(N:Int),n),(1,rb,1)],⟨_,gx,Al.cons' ⟨g1,rfl,a3 ()⟩ (Al.cons' ⟨g2,rfl,a4 ()⟩ (Al.cons' (aq ()) (Al.cons' (ar ()) Al.nil)))⟩,by simp,.inr (.inl ⟨by simp,⟨(1,(N:Int),(N:Int)),by simp,(1,rb,1),by simp,Qi 1,Qi 1,(show (N:Int) ≠ rb by omega)⟩,rfl,rfl⟩)⟩;exists er;clear gx;ac_rfl;intro q3 zc vv cV et;clear vv;exists a5,a6,a3,a4,a7,ar,aq,bb,dr,er,cV;replace hp:=cV.at hp;replace a8:=cV.at a8;replace hS:=cV.2 K a _ hS;replace eb:=eb.trans cV;clear cV;ac_rfl;intro r3 o3 vx cp o4;clear vx;exists a5,a6,a3,a4,a7,ar,aq,bb,dr,er,cp;replace hp:=cp.at hp;replace a8:=cp.at a8;replace et:=cp.at et;replace hS:=cp.2 K a _ hS;replace eb:=eb.trans cp;clear cp;have ea:RwY t o3 (.ref r3):=⟨r3,p3,q3, "pair",0,rfl,o4,et,by decide +kernel,er ()⟩;exists ea;clear et o4;clear er;ac_rfl;intro ra o5 vy c0 b4;clear vy;exists a5,a6,a3,a4,a7,ar,aq,bb,dr,ea,c0;replace hp:=c0.at hp;replace a8:=c0.at a8;replace hS:=c0.2 K a _ hS;replace eb:=eb.trans c0;clear c0;have bp:RwL t o5 [.ref r1,.ref r2,.ref r3]:=RwL.cons (bb ()) (RwL.cons (dr ()) (RwL.cons (ea ()) RwL.nil));exists bp;clear bb dr ea;ac_rfl;intro p4 pa vz c8 gD;clear vz;exists a5,a6,a3,a4,a7,ar,aq,bp,c8;replace hp:=c8.at hp;replace a8:=c8.at a8;replace b4:=c8.at b4;replace hS:=c8.2 K a _ hS;replace eb:=eb.trans c8;clear c8
  have ew:xa t pa p4 "many" n:=by
   refine⟨[(1,(N:Int),n)],⟨_,gD,Al.cons' (aq ()) Al.nil⟩,by simp,.inr (.inr ⟨by simp,uA (room:=(N:Int)) (by simp),⟨n,(1,(N:Int),n),by simp,Qi 1,rfl,by omega⟩,λ m hm=>?_,rfl⟩)⟩;obtain⟨x,hx,_,d8,vb⟩:=hm;simp only [QG,QC,Rr] at hx
   rcases hx with rfl
   ·first|exact d8.symm|(have d4:_=m:=d8;simp only at d4;omega)
  exists ew;clear gD;ac_rfl;intro q4 z0 vA c2 eN;clear vA;exists a5,a6,a3,a4,a7,ar,aq,bp,ew,c2;replace hp:=c2.at hp;replace a8:=c2.at a8;replace b4:=c2.at b4;replace hS:=c2.2 K a _ hS;replace eb:=eb.trans c2;clear c2;ac_rfl;intro r4 pb vB cv pj;clear vB;exists a5,a6,a3,a4,a7,ar,aq,bp,ew,cv;replace hp:=cv.at hp;replace a8:=cv.at a8;replace b4:=cv.at b4;replace eN:=cv.at eN;replace hS:=cv.2 K a _ hS;replace eb:=eb.trans cv;clear cv;have a9:RwY t pb (.ref r4):=⟨r4,p4,q4, "many",n,rfl,pj,eN,by decide +kernel,ew ()⟩;exists a9;clear eN pj;clear ew;ac_rfl;intro st v3 pD l3 l5 l7 c3 qa l8;clear l3 l5 l7 l8;exists a5,a6,a3,a4,a7,ar,aq,bp,a9,c3;replace hp:=c3.at hp;replace a8:=c3.at a8;replace b4:=c3.at b4;replace hS:=c3.2 K a _ hS;replace eb:=eb.trans c3;clear c3;have c9:SxY t pD (0,0,0) (.ref st):=⟨st,rfl,StX.zero qa⟩;exists c9;clear qa;ac_rfl;intro b5 z1 v5 cJ v7;clear v5;exists a5,a6,a3,a4,a7,ar,aq,bp,a9,c9,cJ;replace hp:=cJ.at hp;replace a8:=cJ.at a8;replace b4:=cJ.at b4;replace hS:=cJ.2 K a _ hS;replace eb:=eb.trans cJ;clear cJ;ac_rfl;clear v7;intro p5 qb _ cN gJ;exists a5,a6,a3,a4,a7,ar,aq,bp,a9,c9,cN;replace hp:=cN.at hp;replace a8:=cN.at a8;replace b4:=cN.at b4;replace hS:=cN.2 K a _ hS;replace eb:=eb.trans cN;clear cN;have ey:xa t qb p5 "many" 61:=⟨(List.replicate 61 [(0,0,0)]).flatten,⟨_,gJ,yc (Al.cons' (c9 ()) Al.nil) 61⟩,by rw [gW];decide,.inl ⟨by rw [gW];decide,rfl,by rw [gW];rfl⟩⟩;exists ey;clear gJ;ac_rfl;intro q5 z2 wh cm hG;clear wh;exists a5,a6,a3,a4,a7,ar,aq,bp,a9,c9,ey,cm;replace hp:=cm.at hp;replace a8:=cm.at a8;replace b4:=cm.at b4;replace hS:=cm.2 K a _ hS;replace eb:=eb.trans cm;clear cm;ac_rfl;intro r5 qj wi cc qn;clear wi;exists a5,a6,a3,a4,a7,ar,aq,bp,a9,c9,ey,cc;replace hp:=cc.at hp;replace a8:=cc.at a8;replace b4:=cc.at b4;replace hG:=cc.at hG;replace hS:=cc.2 K a _ hS;replace eb:=eb.trans cc;clear cc;have du:RwY t qj (.ref r5):=⟨r5,p5,q5, "many",61,rfl,qn,hG,by decide +kernel,ey ()⟩;exists du;clear hG qn;clear ey;ac_rfl;intro p6 qx _ cn g0;exists a5,a6,a3,a4,a7,ar,aq,bp,a9,c9,du,cn;replace hp:=cn.at hp;replace a8:=cn.at a8;replace b4:=cn.at b4;replace hS:=cn.2 K a _ hS;replace eb:=eb.trans cn;clear cn;have ez:xa t qx p6 "many" 62:=⟨(List.replicate 31 [(1,(N:Int),(N:Int)),(2,(N:Int),2)]).flatten,⟨_,g0,yc (Al.cons' ⟨g1,rfl,a3 ()⟩ (Al.cons' ⟨g2,rfl,a4 ()⟩ Al.nil)) 31⟩,by rw [gW];show 31 * 2<=1000;decide,.inl ⟨by rw [gW];show 60 < 31 * 2;decide,rfl,by rw [gW];rfl⟩⟩;exists ez;clear g0;ac_rfl;intro q6 z3 wk cf hI;clear wk;exists a5,a6,a3,a4,a7,ar,aq,bp,a9,c9,du,ez,cf;replace hp:=cf.at hp;replace a8:=cf.at a8;replace b4:=cf.at b4;replace hS:=cf.2 K a _ hS;replace eb:=eb.trans cf;clear cf;ac_rfl;intro r6 qD wo bt qF;clear wo;exists a5,a6,a3,a4,a7,ar,aq,bp,a9,c9,du,ez,bt;replace hp:=bt.at hp;replace a8:=bt.at a8;replace b4:=bt.at b4;replace hI:=bt.at hI;replace hS:=bt.2 K a _ hS;replace eb:=eb.trans bt;clear bt;have d5:RwY t qD (.ref r6):=⟨r6,p6,q6, "many",62,rfl,qF,hI,by decide +kernel,ez ()⟩;exists d5;clear hI qF;clear ez;ac_rfl;intro z9 z4 qJ cg i0;clear qJ;exists a5,a6,a3,a4,a7,ar,aq,bp,a9,c9,du,d5,cg;replace hp:=cg.at hp;replace a8:=cg.at a8;replace b4:=cg.at b4;replace hS:=cg.2 K a _ hS;replace eb:=eb.trans cg;clear cg;refine cF b4 i0 (az (by simp)) ?_;intro rs g4 _ ck qO;exists a5,a6,a3,a4,a7,ar,aq,bp,a9,c9,du,d5,ck;replace hp:=ck.at hp;replace a8:=ck.at a8;replace b4:=ck.at b4;replace hS:=ck.2 K a _ hS;replace eb:=eb.trans ck;clear ck;obtain⟨ys,hys,hJ⟩:∃ ys:List V,g4 rs=some (.lst ys)/\RwL t g4 ys:=⟨_,qO,(bp ()).app (RwL.cons (a9 ()) (RwL.cons (du ()) (RwL.cons (d5 ()) RwL.nil)))⟩;exists hJ;clear qO i0 b4 bp a9 du d5 c9 aq ar a3 a4;have w0:1<=F.length:=by rw [eT ()];omega
  have qR:F.length<=4096:=by rw [eT ()];omega
  have A0:PyData.strOk (Str.ofString "view")=true:=by decide +kernel
  have A1:PyData.strOk (Str.ofString "none")=true:=by decide +kernel
  have A2:(Str.ofString "view" == Str.ofString "view")=true:=RY _;have B5:(Str.ofString "none" == Str.ofString "none")=true:=RY _;ac_rfl;refine aR (xs:=ys) (λ i σ H'=>∃ v8 v9 v10:Option V,σ=[%[a|45],some (.int (N:Int)),%[gp|45],%[fp|45],%[kx|45],%[n|47],%[many|45],%[rs|45],v8,v9,v10,none]/\Ext g4 H') ⟨none,none,none,rfl,Ext.refl _⟩ (λ i σ H' _ ⟨_,_,_,_,e⟩=>e.at hys) ?_ ?_
  ·rintro i y _ H1 hi ⟨v8,v9,v10,rfl,e1⟩;obtain⟨r,p,q,wd,num,rfl,w1,q0,CS,mc⟩:=(hJ () y (Qr hi)).ext e1;have ec:=e1.at a8;have sq:(wd == wd)=true:=RY wd;exists mc;clear hi hJ hys hp a8 a5 a6 a7 kk hS eb;simp! only [↓aw];intro lc H2 _ e2 h2;have ep:=e2.at q0;have d7:=e2.at ec;clear w1 q0 ec;ac_rfl;intro so g5 G hx mu mT g k1 hB;rw [fV];refine⟨g5,F,k1,g.at h2,w0,qR,λ H3 l q3 w2 mW i1=>?_⟩;have hK:=q3 H2 g hx;have ee:ay t.a_UE H3 so l F:=⟨⟨g5,mW⟩,i1⟩;have et:=hK.at ep;have eg:=hK.at d7;have m1:=aD l (m := "all_values") nofun;exists ee;clear ep d7 k1 hB hx mu mT g q3 w2 i1 h2;ac_rfl;rw [ow];refine⟨wd,num,.inl ((mc ()).ext (e2.trans hK)),λ rt H4 w3 e4 h4=>?_⟩;have eN:=e4.at et;have ek:=e4.at eg;have g6:=e4.at mW;clear et eg mW mc w3;ac_rfl;rw [fe];refine⟨l,F,(ee ()).ext e4,qR,λ rv H5 w4 e5 h5=>?_⟩;have g7:=e5.at ek;have eB:=e1.trans (e2.trans (hK.trans (e4.trans e5)));clear eN ek g6 ee h4 w4;ac_rfl
   first|exact⟨_,_,_,rfl,eB⟩|exact⟨_,_,_,rfl⟩
  ·rintro _ H1 ⟨v8,v9,v10,rfl,e1⟩;have w6:=eb.trans e1;have ec:=e1.at a8;have gn:=e1.at hp;have q7:=λ (_:Unit)=>(a5 ()).ext e1;have q8:=λ (_:Unit)=>(a6 ()).ext e1;have m2:=λ (_:Unit)=>(a7 ()).ext e1;clear hys hJ hp a8 a5 a6 a7 eb hS e1;ac_rfl;intro l0 H2 _ e2 h2;have d7:=e2.at ec;refine cF d7 h2 (az (by rw [Qk];simp;omega)) ?_;intro wl H3 _ e3 h3;rw [show F.map V.int++[V.int 0]=(F++[0]).map V.int by rw [Rl];rfl] at h3;have eg:=e3.at d7;have gx:=(e2.trans e3).at gn;have eP:=e2.trans e3;have m3:1<=(F++[0]).length:=by rw [Qw];simp
   have g8:(F++[0]).length<=4096:=by rw [Qw];simp;have:=eT ();omega
   clear ec d7 h2 gn e2 e3;ac_rfl;intro ws g5 G hx mu mT g k1 hB;rw [fV];refine⟨g5,F++[0],k1,g.at h3,m3,g8,λ H4 l q4 hE g6 i2=>?_⟩;have hL:=q4 H3 g hx;have ee:ay t.a_UE H4 ws l (F++[0]):=⟨⟨g5,g6⟩,i2⟩;have ek:=hL.at eg;have gD:=hL.at gx;have d6:=eP.trans hL;have m1:=aD l (m := "all_values") nofun;exists ee;clear eg gx k1 hB hx mu mT g q4 hE i2 h3 hL eP;ac_rfl;intro s0 C0 H5 w7 w8 xu e5 h5 xv;clear w7 w8 xu xv;have gJ:=e5.at gD;have g7:=e5.at ek;have rf:=e5.at g6;clear gD ek g6;ac_rfl;intro b6 H6 _ e6 h6;have g0:=e6.at gJ;have i3:=e6.at g7;have ri:=e6.at rf;refine cF h6 g0 (az (by simp)) ?_;intro b7 H7 _ e7 h7;have i5:=e7.at i3;have rk:=e7.at ri;have eC:=e5.trans (e6.trans e7);have rm:StL t H7 (N:Int) b7 [(0,0,[],[]),(1,3,cA,[]),(2,0,[0,1],[2,3])]:=⟨_,h7,Al.cons' ⟨s0,rfl,rQ ((e6.trans e7).at h5)⟩ (Al.cons' ⟨g1,rfl,(q7 ()).ext (d6.trans eC)⟩ (Al.cons' ⟨g2,rfl,(q8 ()).ext (d6.trans eC)⟩ Al.nil))⟩
   have m4:Nm mg t H7 ws b7:=⟨l,F++[0],(N:Int),_,(ee ()).ext eC,m3,g8,rm,by simp,⟨rfl,rfl,by simp,λ k h2 h3=>by
    have:k=2:=by simp at h3;omega
    subst this;exact .inl ⟨0,nJ (),Qz _ (show (0:Int)∈[0,1] by decide)⟩⟩,by rw [Qw,eT ()];simp;omega,(m2 ()).ext (d6.trans eC)⟩
   have rr:=λ (_:Unit)=>(ee ()).ext eC;have eD:=d6.trans eC;exists m4;clear h5 h6 h7 gJ g0 g7 i3 rf ri rm ee q7 q8 e5 e6 e7 eC d6;ac_rfl;rw [ow];refine⟨"view",0,.inr (.inl ⟨m4 (),rfl,rfl⟩),λ rt H8 _ e8 h8=>?_⟩;have jz:=e8.at i5;have ru:=e8.at rk;clear i5 rk m4;ac_rfl;intro q9 H9 _ e9 h9;have rx:=e9.at h8;have j1:=e9.at jz;have ry:=e9.at ru;clear h8 jz ru;ac_rfl;rw [fe];have m5:=λ (_:Unit)=>(rr ()).ext (e8.trans e9);refine⟨l,F++[0],m5 (),g8,λ C1 C2 _ hb rz=>?_⟩;have hc:=hb.at j1;have j2:=hb.at ry;have j3:=λ (_:Unit)=>(m5 ()).ext hb;have hg:=eD.trans (e8.trans (e9.trans hb));clear rx h9 j1 ry m5 rr e8 e9 hb eD;ac_rfl;intro C3 C4 _ eQ r0;have eE:=eQ.at hc;have eI:=eQ.at rz;refine cF eE r0 (az (by rw [Qk];simp;omega)) ?_;intro C5 C6 _ eS m6;rw [show F.map V.int++[V.int 0]=(F++[0]).map V.int by rw [Rl];rfl] at m6;have hh:=eS.at eE;have eJ:=eS.at eI;have j4:=(eQ.trans eS).at j2;have hj:=λ (_:Unit)=>(j3 ()).ext (eQ.trans eS);have hk:=hg.trans (eQ.trans eS);have xx:∀ x:Int,True:=λ _=>trivial;obtain⟨F0,nf⟩:∃ F0,F0=F++[0]:=⟨_,rfl⟩;rw [←nf] at eJ m6;exists nf;clear xx hc eE rz eI r0 j2 j3 eQ eS hg;ac_rfl;intro s1 C7 C8 r7 r9 sb eP sd se;clear r7 r9 sb se;have ho:=eP.at hh;have j5:=eP.at j4;clear hh j4 eJ m6;ac_rfl;intro s2 C9 D1 sf sg sh d6 sv sx;clear sf sg sh sx;have hq:=d6.at ho;have j6:=d6.at j5;have eK:=d6.at sd;clear ho j5 sd;ac_rfl;intro xA xB _ eB s6;have hs:=eB.at hq;have j7:=eB.at j6;have d9:=eP.trans (d6.trans eB);have ng:Nn mg t xB ws xA:=⟨l,F++[0],[(0,0,[],[]),(0,0,[],[])],(hj ()).ext d9,m3,g8,⟨_,s6,Al.cons' ⟨s1,rfl,rQ (eB.at eK)⟩ (Al.cons' ⟨s2,rfl,rQ (eB.at sv)⟩ Al.nil)⟩,by decide,by simp,(m2 ()).ext (hk.trans d9)⟩;exists ng;clear eK sv s6 hq j6;ac_rfl;rw [ow];refine⟨"none",0,.inr (.inr ⟨ng (),rfl,rfl⟩),λ D2 D3 _ nq s7=>?_⟩;have ht:=nq.at hs;have j9:=nq.at j7;clear hs j7 ng;ac_rfl;intro D7 D8 _ eD x7;have hM:=eD.at s7;have hu:=eD.at ht;have s8:=eD.at j9;have eL:=d9.trans (nq.trans eD);clear s7 ht j9;ac_rfl;rw [fe];refine⟨l,F++[0],(hj ()).ext eL,g8,λ EX Fn _ s9 tp=>?_⟩;have hv:=s9.at hu;clear hM x7 hu s8;ac_rfl;intro F1 F2 _ nD tq;have hA:=nD.at hv;have eM:=nD.at tp;refine cF hA tq (az (by rw [Qk];simp;omega)) ?_;intro F3 yd _ tr ts;rw [show F.map V.int++[V.int 0]=(F++[0]).map V.int by rw [Rl];rfl] at ts;have hO:=tr.at eM;have k2:=kk () yd (w6.trans (hk.trans (eL.trans (s9.trans (nD.trans tr)))));rw [←nf ()] at hO ts;clear kk hv hA tp eM tq m2 hj;ac_rfl
def kO{α β:Type}{S:β->V->Prop}:∀ {zs:List α}{ys:List V},Al (λ (_:α) y=>∃ d,S d y) zs ys->∃ ds,Al S ds ys/\ds.length=zs.length
 | [],ys,h=>⟨[],by rw [List.length_eq_zero_iff.mp (show ys.length=0 from h.1)];exact Al.nil,rfl⟩
 | z::zs,[],h=>by have:=h.1;simp at this
 | z::zs,y::ys,h=>by
  obtain⟨d,hd⟩:=h.2 0 z y rfl rfl;obtain⟨ds,h1,h2⟩:=kO (zs:=zs) (ys:=ys) ⟨by have:=h.1;simpa using this,λ i a b ha hb=>h.2 (i+1) a b (by simpa using ha) (by simpa using hb)⟩;exact⟨d::ds,Al.cons' hd h1,by rw [RA,RA,h2]⟩
def DR(d:Dd):Sd:=(d.2.1,d.2.2.1,ai d.2.2.2.1.2.1 d.2.2.2.1.2.2,ai d.2.2.2.2.2.1 d.2.2.2.2.2.2)
def Md{ns:List Int}(h:ns.length<=63):∃ ms:List Int,ub (ns.map V.int) (some 11) (some 63)=ms.map V.int/\ms.length<=52:=by
 refine⟨(ns.drop (HT.sIx ns.length 0 (some 11))).take (HT.sIx ns.length ns.length (some 63) - HT.sIx ns.length 0 (some 11)),?_,?_⟩
 ·unfold ub;rw [length_map,List.map_take,List.map_drop]
 ·rw [Rc,List.length_drop,show (some 11:Option Int)=some ((11:Nat):Int) from rfl,HT.sIx_nat];omega
def NA{zs:List Vz}{H:Hp}{room:Int}{r:Addr}{d:Dd}{y:V}{n:Nat}(h:DrD zs H d y)(vz:VsZ H room r zs)(hn:room=(n:Int)):xb n (DR d):=by
 obtain⟨_,h2,h3,h4,h5,_⟩:=h;have s1:=(vz.dv h3).2;have s2:=(vz.dv h4).2;refine⟨h2,λ _=>s1.on hn,λ _=>⟨s2.on hn,?_⟩⟩;have e1:=aB d.2.2.2.1.2.1 d.2.2.2.1.2.2 λ a ha=>(s1.axes.2 a ha).1;have e2:=aB d.2.2.2.2.2.1 d.2.2.2.2.2.2 λ a ha=>(s2.axes.2 a ha).1
 show (ai d.2.2.2.1.2.1 d.2.2.2.1.2.2).length=(ai d.2.2.2.2.2.1 d.2.2.2.2.2.2).length
 omega
def StZ.r{t:Adr}{z:Addr}{H:Hp}{s:Addr}{w:Nat}{x room:Int}{a b:List Int}(h:StZ t z H s w x room a b):StR t H room (w,x,a,b) s:=by
 obtain⟨u,v,h1,h2,h3⟩:=h;exact⟨u,v,h1,λ q=>(h2 q).c,λ q=>(h3 q).c⟩
def Me{α β:Type}{R:β->V->Prop}{f:α->β}{zs:List α}{ys:List V}(h:Al (λ z y=>R (f z) y) zs ys):Al R (zs.map f) ys:=⟨by rw [Qk];exact h.1,λ i z y hz hy=>by
 rw [Qq] at hz;obtain⟨x,hx,rfl⟩:=Qj.mp hz;exact h.2 i x y hx hy⟩
def IS{n:Int}(h1:1<=n)(h2:n<=1000):kh n 0 [(n,1)]:=by
 have ax:dD [(n,(1:Int))]:=⟨by simp,λ a ha=>by rw [Qo.mp ha];exact⟨by show 1<=n;omega,by show n<=_;omega⟩⟩;obtain⟨s1,s2⟩:=iH [(n,(1:Int))] λ a ha=>(ax.2 a ha).1;have l:bj [(n,(1:Int))]=0:=by show min 0 ((n - 1) * 1)+0=_;omega
 have g:br [(n,(1:Int))]=n - 1:=by show max 0 ((n - 1) * 1)+0=_;omega
 exact⟨ax,h1,by omega,by rw [s1,l];omega,by rw [s2,g];omega⟩
def IQ{C:Addr}{H:Hp}{x:Addr}{n:Int}(h1:1<=n)(h2:n<=1000)(v:av C H x n 0 ([(n,(1:Int))].map ba)):VwC C H x n (ai 0 [(n,1)]):=by
 have ax:dD [(n,(1:Int))]:=⟨by simp,λ a ha=>by rw [Qo.mp ha];exact⟨by show 1<=n;omega,by show n<=_;omega⟩⟩;exact⟨0,_,v,ax.kept,by rw [eO];show n * 1<=4096;omega,jh 0 _ λ a ha=>(ax.2 a ha).1⟩
def IT{n:Int}(h1:1<=n):((ai 0 [(n,(1:Int))]).length:Int)=n:=by
 have:=aB 0 [(n,(1:Int))] λ a ha=>by rw [Qo.mp ha];exact h1
 rw [this]
 show n * 1=n
 omega
def xF:dD ([((2:Int),(1:Int))].map ba):=dD.kept ⟨by simp,λ a ha=>by rw [Qo.mp ha];exact⟨by decide,by decide⟩⟩
def yh{n f:Int}(h1:20<=n)(h2:n<=1000)(hf:0<=f)(aq:f<=5):kh n f [(2,1)]:=by
 obtain⟨s1,s2⟩:=iH [((2:Int),(1:Int))] λ a ha=>by rw [Qo.mp ha];decide
 have l:bj [((2:Int),(1:Int))]=0:=by decide
 have g:br [((2:Int),(1:Int))]=1:=by decide
 exact⟨⟨by simp,λ a ha=>by rw [Qo.mp ha];exact⟨by decide,by decide⟩⟩,by omega,by omega,by rw [s1,l];omega,by rw [s2,g];omega⟩
def yg{C:Addr}{H:Hp}{x:Addr}{n f:Int}{cs:List Int}(hc:ai f [((2:Int),(1:Int))]=cs)(v:av C H x n f ([((2:Int),(1:Int))].map ba)):VwC C H x n cs:=
 ⟨f,_,v,xF,by decide,by rw [←hc];exact jh f _ λ a ha=>by rw [Qo.mp ha];decide⟩
def IV{α:Type}{R:α->V->Prop}{zs:List α}{ys:List V}(h:Al R zs ys)(n:Nat):Al R (zs.take n) (ys.take n):=⟨by rw [Rc,Rc,h.1],λ i z y hz hy=>by
 by_cases hi:i < n
 ·rw [List.getElem?_take_of_lt hi] at hz hy;exact h.2 i z y hz hy
 ·rw [Q9 (by rw [Rc];omega)] at hz;cases hz⟩
def IF(ss:List V):ub ss none (some 1)=ss.take 1:=by
 unfold ub;rw [show (some 1:Option Int)=some ((1:Nat):Int) from rfl,HT.sIx_nat,HT.sIx_none,List.drop_zero,Nat.sub_zero]
 cases ss with
 | nil=>rfl
 | cons x ss=>simp
def DN{n:Int}(h1:1<=n):(0:Int)∈ai 0 [(n,(1:Int))]:=by
 obtain⟨m,rfl⟩:∃ m:Nat,n=(m:Int)+1:=⟨(n - 1).toNat,by omega⟩
 show (0:Int)∈b8 [0] ((m:Int)+1,1)
 unfold b8;simp
 first|done|exact⟨0,by omega,by simp⟩|(refine⟨0,?_,?_⟩<;>simp<;>omega)
def Np(rows aq:List (List Nat)):Prop:=∀ (k:Nat) (A B:List Nat),rows[k]? = some A->aq[k]? = some B->B.Perm A
def B6{rows aq:List (List Nat)}{A B:List Nat}{j:Nat}(h:Np rows aq)(hl:aq.length=j)(hA:rows[j]? = some A)(hB:B.Perm A):Np rows (aq++[B]):=λ k A' B' h1 h2=>by
 by_cases hk:k < aq.length
 ·rw [Q6 hk] at h2;exact h k A' B' h1 h2
 ·have ar:k=j:=by
   have:=(Qh.mp h2).1;rw [Qw,QV] at this;omega
  subst ar;rw [QY %[0|8],hl,Nat.sub_self] at h2;rw [hA] at h1;cases h1;cases h2;exact hB
abbrev Ja(K:PySem.W.Frag)(mg:Str->Option Value)(a:Addr)(H:Hp)(Q:VK)(E:XK):Prop:=∃ ns:List Int,SqL K H a (ns.map V.int)/\ns.length<=63/\(∀ p∈tqs,TbH mg H p.1 p.2)/\∀ H',Q (.bl true) H'
def xj(K:W.Frag)(mg:Str->Option Value):Sp:=λ vs H Q E=>∃ (a:Addr),vs=[.ref a]/\(Ja K mg a H Q E)
def KH(T:Tx K mg t):%[11,law|49] ["_law_script"] (xj K mg):=by
 refine T.F_law.ok dY (λ _ _ _ _ h=>iW h λ _=>rfl) (λ cdv A' outer s H vs Q E hr h=>?_)
 ·obtain⟨a,rfl,ns,hS,hl,j3,kk⟩:=h;have oN:TbH mg H 547 (xf "dealt"):=j3 (547,xf "dealt") Qv;have G_CM:=%[gq|43] a ns;have G_CO:=%[qM|43] a ns;have G_As:=%[oG|43];have G_CP:=%[qN|43];have G_CQ:=%[qQ|43];have G_wA:=%[lW|43];have G_wq:=%[lD|43] a ns;have G_CN:=%[qP|43];have G_Uv:=%[mF|43];have G_UA:=%[kG|43];have G_rg:=%[eV|43];have G_pI:=%[dq|43];have G_tI:=%[cK|43];have G_tL:=%[cL|43];have G_tM:=%[fC|43];have cV:=Nq (P:=P) (w:=w) (base:=base) T;have c9:=T.qA0;refine⟨_,%[(@gQ _ _ (1) _ _ _ _ dY.nd rfl (Or.inr rfl) %[bF,%[0|2],%[CM,%[%[0|0],%[%[0|2],%[%[0|2]|1]|1]|1]|3]|11] ∅ %[0|7]),%[(@gQ _ _ (2) _ _ _ _ dY.nd rfl (Or.inr rfl) %[CO,%[%[0|0],%[%[0|2],%[%[1|0]|1]|1]|1]|3] ∅ %[0|7]),%[%[(%[|103]),(1),(3),_,dY.nd,rfl,(Or.inl rfl),(aV (aa jD) %[|100] rfl rfl nofun),rfl,%[(@uH _ _ _ _ _ _ _ _ _ _ yn %[0|0] (@sG _ _ _ %[0|2]) (@sG _ _ _ %[0|2]))|18],(λ _ _ _ _ _=>%[(0),%[|103]|51]),(λ _ _ _ _ _=>(@bo _)),(λ _ _ _ _ _=>%[As,%[%[3|0],%[%[fA,%[0|0],%[kd,%[0|2],%[0|2]|11]|11]|1]|1]|3]),∅,(by intros;rfl),%[0|7]|38],%[%[3,dY,%[cG,%[3|0],%[%[%[As,%[%[2|0],%[%[CM,%[%[0|0],%[%[0|2],%[%[kd,%[0|2],%[0|2]|11]|1]|1]|1]|3]|1]|1]|3],%[%[As,%[%[2|0],%[%[CM,%[%[0|0],%[%[0|2],%[%[kd,%[0|2],%[0|2]|11]|1]|1]|1]|3]|1]|1]|3]|1]|1]|13]|11]|4],%[%[(%[|104]),(1),(4),_,dY.nd,rfl,(Or.inl rfl),(aV (aa jD) %[|100] rfl rfl nofun),rfl,%[%[3|0]|18],(λ _ _ _ _ _=>%[(0),%[|104]|51]),(λ _ _ _ _ _=>(@bo _)),(λ _ _ _ _ _=>%[CP,%[%[0|0],%[%[2|0]|1]|1]|3]),∅,(by intros;rfl),%[0|7]|38],%[%[(%[|105]),(1),(5),_,dY.nd,rfl,(Or.inl rfl),(aV (aa jD) %[|100] rfl rfl nofun),rfl,%[∅,T.z_range,%[%[1|0]|1],∅|35],(λ _ _ _ _ _=>%[(0),%[|105]|51]),(λ _ _ _ _ _=>(@bo _)),(λ _ _ _ _ _=>%[bF,%[CM,%[%[1|0],%[%[bF,%[0|2],%[fA,%[0|0],%[0|2]|11]|11],%[%[kd,%[0|2],%[0|2]|11]|1]|1]|1]|3],%[0|0]|11]),∅,(by intros;rfl),%[0|7]|38],%[%[6,dY,%[aY,∅,T.z_list,nofun,%[%[5|0]|1],⋯,⋯,∅,∅|30]|4],%[%[Qu,rfl,%[%[3|0]|18],%[7,dY|5],%[%[6,dY,%[CQ,%[%[6|0],%[%[7|0]|1]|1]|3]|4]|9],(by intros;rfl)|19],%[%[8,dY,%[T.qCq,G_rg,(hr.mono ⋯),∅,T.m_UE,T.b_rg,.nil,aC,%[%[aY,∅,T.z_list,nofun,%[%[5|0]|1],⋯,⋯,∅,∅|30]|1],⋯,∅,∅|26]|4],%[%[9,dY,%[aY,∅,T.z_list,nofun,%[%[4|0]|1],⋯,⋯,∅,∅|30]|4],%[%[(PW.pt %[%[uJ,%[Uv,%[%[8|0],%[%[9|0]|1]|1]|3],(@xW _ _ _),(aG _)|20],%[(@iA _ _ _ _ (@dZ _ _ _ %[CN,%[%[%[8|0],T.qA0,T.qA6,G_pI,(hr.mono ⋯),T.b_pI,.nil,aC,∅|24],%[%[6|0]|1]|1]|3] (by intros;rfl))),(@jY _ _ _ _ %[(Ky hr.units),%[9|0],%[4|0],(aG _)|20])|34]|34]),%[%[(@jW _ _ _ _)|12]|9],(@aF _)|23],%[%[(PW.pt %[%[uJ,%[Uv,%[%[8|0],%[%[(@cq _)|13]|1]|1]|3],(@xW _ _ _),(aG _)|20],(@jY _ _ _ _ (@iA _ _ _ _ (@dZ _ _ _ %[CN,%[%[%[8|0],T.qA0,T.qA6,G_pI,(hr.mono ⋯),T.b_pI,.nil,aC,∅|24],%[%[6|0]|1]|1]|3] (by intros;rfl))))|34]),%[%[(@jW _ _ _ _)|12]|9],(@aF _)|23],%[%[10,dY,%[%[%[T.qD1,G_tL,(hr.mono ⋯),∅,T.m_UI,T.b_tL,.nil,aC,%[%[T.qC5,G_tI,(hr.mono ⋯),∅,T.m_UH,T.b_tI,.nil,aC,%[%[1|0],%[%[0|2],%[%[%[%[%[%[1|0],%[%[0|2]|1]|1]|22]|1]|13]|1]|1]|1],⋯,∅,∅|26],%[%[0|2]|1]|1],⋯,∅,∅|26],%[%[T.qEc,G_tM,(hr.mono ⋯),∅,T.m_UJ,T.b_tM,.nil,aC,%[%[T.qC5,G_tI,(hr.mono ⋯),∅,T.m_UH,T.b_tI,.nil,aC,%[%[1|0],%[%[0|2],%[%[%[%[%[%[0|2],%[%[0|2]|1]|1]|22]|1]|13]|1]|1]|1],⋯,∅,∅|26],%[%[T.qC5,G_tI,(hr.mono ⋯),∅,T.m_UH,T.b_tI,.nil,aC,%[%[1|0],%[%[0|2],%[%[%[%[%[%[0|2],%[%[0|2]|1]|1]|22]|1]|13]|1]|1]|1],⋯,∅,∅|26]|1]|1],⋯,∅,∅|26]|1]|1]|13]|4],%[%[(@iA _ _ _ _ (@dZ _ _ _ %[wq,%[%[0|0],%[%[1|0],%[%[10|0]|1]|1]|1]|3] (by intros;rfl))),%[%[(@jW _ _ _ _)|12]|9],(@aF _)|23],%[%[8,dY,%[T.qCq,G_rg,(hr.mono ⋯),∅,T.m_UE,T.b_rg,.nil,aC,%[%[aY,∅,T.z_list,nofun,%[%[5|0]|1],⋯,⋯,∅,∅|30]|1],⋯,∅,∅|26]|4],%[%[%[Uv,%[%[8|0],%[%[cG,%[4|0],(@uH _ _ _ _ _ _ _ _ _ _ PJ %[4|0] (@FD _) (@sG _ _ _ %[0|2]))|11]|1]|1]|3],∅|15],%[%[(@iA _ _ _ _ (@dZ _ _ _ %[CN,%[%[%[8|0],T.qA0,T.qA6,G_pI,(hr.mono ⋯),T.b_pI,.nil,aC,∅|24],%[%[CQ,%[%[6|0],%[%[cW,%[3|0],%[0|2],(λ _ _=>rfl)|14]|1]|1]|3]|1]|1]|3] (by intros;rfl))),%[%[(@jW _ _ _ _)|12]|9],(@aF _)|23],%[%[11,dY,%[UA,%[%[4|0]|1]|3]|4],%[%[Qu,rfl,%[∅,T.z_range,%[%[0|2]|1],∅|35],%[12,dY|5],%[%[13,dY,%[T.qCq,G_rg,(hr.mono ⋯),∅,T.m_UE,T.b_rg,.nil,aC,%[%[aY,∅,T.z_list,nofun,%[%[5|0]|1],⋯,⋯,∅,∅|30]|1],⋯,∅,∅|26]|4],%[%[Qu,rfl,%[%[11|0]|18],%[14,dY|5],%[%[15,dY,%[wA,%[%[14|0],%[%[CM,%[%[0|0],%[%[bF,%[0|2],%[12|0]|11],%[%[kd,%[0|2],%[0|2]|11]|1]|1]|1]|3]|1]|1]|3]|4],%[%[%[(cM hr.units),%[12|0],%[0|2],(aG _)|20],%[%[15,dY,(@Kr _ _ _ _ _ _ _ %[14|0] (@Bs _ _ _ _ _ _ nj %[0|2]) (λ _ _ _ h=>h))|4]|9],(@aF _)|23],%[%[Qu,rfl,%[%[15|0]|18],%[16,dY|5],%[%[%[%[cW,%[4|0],%[16|0],(λ _ _=>rfl)|14],cV,(hr.mono ⋯),aC,%[%[13|0]|1],∅,∅,∅|42],∅|15]|9],(by intros;rfl)|19]|9]|10]|10],(by intros;rfl)|19],%[%[(@iA _ _ _ _ (@dZ _ _ _ %[CN,%[%[%[13|0],T.qA0,T.qA6,G_pI,(hr.mono ⋯),T.b_pI,.nil,aC,∅|24],%[%[6|0]|1]|1]|3] (by intros;rfl))),%[%[(@jW _ _ _ _)|12]|9],(@aF _)|23]|9]|10]|10],(by intros;rfl)|19],%[%[(@jW _ _ _ _)|12]|9]|10]|10]|10]|10]|10]|10]|10]|10]|10]|10]|10]|10]|10]|10]|10]|10]|10]|10]|10],?_⟩;rw [%[%[|100],[.ref a],16|53]];clear G_CM G_CO G_As G_CP G_CQ G_wA G_wq G_CN G_Uv G_UA G_rg G_pI G_tI G_tL G_tM cV j3;exists kk;exists oN;ac_rfl;rw [dH];refine⟨hS,hl,⟨by decide,by decide⟩,by decide,λ d1 G6 G7=>?_⟩;obtain⟨room,hro⟩:∃ room,20+d1=room:=⟨_,rfl⟩;have He:20<=room:=by omega
  have Hx:room<=60:=by omega
  ac_rfl;clear hro G6 G7;rw [A6];refine⟨rfl,hS,hl,by decide,by decide,He,Hx,λ vr H1 ⟨e1,zs,h1,oT,vz⟩=>?_⟩;have o2:=e1.2 K a _ hS;exists vz;clear hS;ac_rfl;obtain⟨ms,vy,Uc⟩:=Md hl;refine⟨a,_,rfl,o2,λ sl vA=>?_⟩;have e2:Ext H1 (upd H1 sl (.lst (ub (ns.map V.int) (some 11) (some 63)))):=Ext.new vA;have d5:upd H1 sl (.lst (ub (ns.map V.int) (some 11) (some 63))) sl=%[ms|46]:=by rw [af,vy]
  generalize upd H1 sl (.lst (ub (ns.map V.int) (some 11) (some 63)))=H2 at e2 d5 ⊢;have o3:=e2.2 K a _ o2;have c2:=e2.at h1;have ho:=λ (_:Unit)=>(vz ()).ext e2;have o4:=λ (_:Unit)=>(oN ()).ext (e1.trans e2);clear vy vA o2 h1 vz oN e1 e2;ac_rfl;have wk:=jV (K:=K) (R:=λ (m:Int) y _=>y=V.int m) (λ _ _ _ _ h _=>h) d5 (nL ms);refine kL ms (λ _=>true) (λ (m:Int) y H'=>y=V.int m) (λ D (z:Int) y H'=>∃ d:Dd,DrD zs H' d y) wk.1 wk.2 (λ D z y H1 H2 h e=>(let ⟨d,q⟩:=h;⟨d,q.ext e⟩)) (λ D z y H1 xs o h hD=>(let ⟨d,q⟩:=h;⟨d,q.upd hD⟩)) (az %[0|8]) ?_ ?_
  ·intro D m y H' N1 N0 hz hD e' _ hy k1 _;subst hy;have o5:=e'.at c2;have Im:=λ (_:Unit)=>(ho ()).ext e';have a4:=k1 rfl;have vB:0<=m % 1000000000:=Ry _ ⋯;clear k1 hz kk c2 ho wk o4 o3;simp! only [↓aN,↓aU];rw [jk];refine⟨room,vr,zs,o5,Im (),oT,vB,λ d H2 e2 hd=>?_⟩;exact a4 _ H2 e2 ⟨d,hd⟩
  intro D1 IY H3 pa e3 h3 pb;rw [rH] at pb;obtain⟨I0,d6,TY⟩:=kO pb;have pj:=e3.2 K a _ o3;have d7:=e3.at c2;have pD:=λ (_:Unit)=>(ho ()).ext e3;have v5:=λ (_:Unit)=>(o4 ()).ext e3;exists d6;clear pb wk d5 o3 c2 ho o4 e3 pa;ac_rfl;rw [dH];refine⟨pj,hl,⟨by decide,by decide⟩,by decide,λ dA v8 I1=>?_⟩;ac_rfl;rw [jk];refine⟨room,vr,zs,d7,pD (),oT,v8,λ xA H4 e4 p1=>?_⟩;have dy:=e4.2 K a _ pj;have j4:=e4.at d7;have kc:=e4.at h3;have p3:=λ (_:Unit)=>(pD ()).ext e4;have v9:=λ (_:Unit)=>(v5 ()).ext e4;have ke:=λ (_:Unit)=>(d6 ()).imp λ _ _ q=>DrD.ext q e4;exists p1;clear pj d7 h3 pD v5 d6 e4 v8 I1;ac_rfl;rw [dH];refine⟨dy,hl,⟨by decide,by decide⟩,by decide,λ dB wd I2=>?_⟩;ac_rfl;rw [jk];refine⟨room,vr,zs,j4,p3 (),oT,wd,λ xB H5 e5 p4=>?_⟩;have wh:=e5.2 K a _ dy;have kn:=e5.at kc;have wo:=λ (_:Unit)=>(p3 ()).ext e5;have w0:=λ (_:Unit)=>(v9 ()).ext e5;have d8:=λ (_:Unit)=>(ke ()).imp λ _ _ q=>DrD.ext q e5;have kr:=λ (_:Unit)=>(p1 ()).ext e5;exists p4;clear dy j4 kc p3 v9 ke e5 wd I2 p1;ac_rfl;intro b6 H6 _ e6 h6;have kv:=e6.at kn;have w1:IY.length<=52:=by rw [(d8 ()).1];omega
  refine cF kv h6 (az (by simp;omega)) ?_;intro dp H7 _ e7 h7;have cJ:=e6.trans e7;have w2:=cJ.2 K a _ wh;have p5:=λ (_:Unit)=>(wo ()).ext cJ;have w3:=λ (_:Unit)=>(w0 ()).ext cJ;obtain⟨ds,ys,p6,c3,I3,w4⟩:∃ (ds:List Dd) (ys:List V),H7 dp=some (.lst ys)/\Al (λ d y=>DrD zs H7 d y) ds ys/\ds.length<=54/\1<=ds.length:=⟨I0++[xA,xB],_,h7,uv ((d8 ()).imp λ _ _ q=>DrD.ext q cJ) (Al.cons' ((kr ()).ext cJ) (Al.cons' ((p4 ()).ext cJ) Al.nil)),by rw [Qw];simp;omega,by rw [Qw];simp⟩;have wk:=jV (K:=K) (R:=λ d y H'=>DrD zs H' d y) (λ _ _ _ _ h e=>h.ext e) p6 c3;exists c3;clear wh kn wo w0 d8 kr p4 e6 e7 cJ h6 kv h7 w1;ac_rfl;refine kL ds (λ _=>true) (λ d y H'=>DrD zs H' d y) (λ D (d:Dd) y H'=>∃ s,y=.ref s/\StZ t D H' s d.2.1 d.2.2.1 room (ai d.2.2.2.1.2.1 d.2.2.2.1.2.2) (ai d.2.2.2.2.2.1 d.2.2.2.2.2.2)) wk.1 wk.2 (λ D z y H1 H2 h e=>(let ⟨s,a1,q⟩:=h;⟨s,a1,q.ext e⟩)) (λ D z y H1 xs o h hD=>(let ⟨s,a1,q⟩:=h;⟨s,a1,q.upd hD⟩)) (az %[0|8]) ?_ ?_
  ·intro D d y H' N1 N0 hz hD e' ht hy k1 _;have hu:=hy.a ((p5 ()).ext e');obtain⟨rfl,_⟩:=hy;have a4:=k1 rfl;clear k1 hz kk wk;simp! only [↓aN,↓aU];rw [A8];refine⟨_,_,_,_,_,_,hu,by omega,by omega,λ s H3 e3 sf=>?_⟩;obtain⟨_,w6⟩:=ht;exact a4 _ H3 e3 ⟨s,rfl,sf.z w6⟩
  intro bp ss H8 _ e8 h8 qa;rw [rH] at qa;have hB:=e8.2 K a _ w2;have hL:=λ (_:Unit)=>(p5 ()).ext e8;have qb:=λ (_:Unit)=>(w3 ()).ext e8;have d9:=e8.at p6;have b5:=λ (_:Unit)=>(c3 ()).imp λ _ _ q=>DrD.ext q e8;have hO:Al (StY t H8 room) (ds.map DR) ss:=Me (qa.imp λ d y ⟨s,q1,q2⟩=>⟨s,q1,q2.r⟩);obtain⟨N,hN⟩:∃ N:Nat,room=(N:Int):=⟨room.toNat,by omega⟩
  have hok:∀ d∈ds.map DR,xb N d:=λ d hd=>by
   obtain⟨x,hx,rfl⟩:=QN.mp hd;obtain⟨i,hi,rfl⟩:=Rk hx;exact NA ((b5 ()).2 i _ _ (Qf hi) (Qf (by rw [(b5 ()).1];exact hi))) (hL ()) hN
  subst hN;have Ud:-4611686018427387904<=(N:Int)/\(N:Int) < 4611686018427387904:=⟨by omega,by omega⟩;exists hO;exists hok;clear wk qa w2 p5 w3 p6 c3 e8;ac_rfl;refine kL (List.range N) (λ _=>true) (λ (z:Nat) x H'=>x=.int (0+(z:Int))) (λ D (z:Nat) y H'=>∃ i:Int,y=V.int i) jo.1 jo.2 (λ D z y H1 H2 h e=>h) (λ D z y H1 xs o h hD=>h) (az (by rw [Q8];omega)) ?_ ?_
  ·intro D z y H' N1 N0 hz hD e' _ hy k1 _;subst hy;have I5:=e'.2 K a _ hB;have a4:=k1 rfl;have Ue:=Q1.mp hz;have vB:0<=(0+(z:Int)) % 50:=Ry _ ⋯;have Ug:(0+(z:Int)) % 50 < 50:=Ro _ ⋯;clear k1 hz kk hL qb b5 hO hok hB h8 d9;simp! only [↓aN,↓aU];rw [dH];refine⟨I5,hl,⟨by omega,by omega⟩,by decide,λ c c0 c1=>?_⟩;simp! only [↓aN,↓aU];exact a4 _ H' (Ext.refl _) ⟨_,rfl⟩
  intro fp fv H9 _ e9 h9 qj;rw [rH] at qj;obtain⟨F,w7,a8⟩:=kO qj;rw [Q8] at a8;rw [w7.map] at h9;have qn:=e9.2 K a _ hB;have hP:=λ (_:Unit)=>(hL ()).ext e9;have qx:=λ (_:Unit)=>(qb ()).ext e9;have b7:=e9.at d9;have ea:=e9.at h8;have a9:=λ (_:Unit)=>(b5 ()).imp λ _ _ q=>DrD.ext q e9;have c4:=λ (_:Unit)=>(hO ()).imp λ _ _ q=>StY.ext q e9;exists a8;clear qj w7 hB hL qb d9 h8 b5 hO e9;ac_rfl;intro I6 Uh _ hT q0;have ec:=hT.at b7;obtain⟨dS,dz⟩:∃ dS,dS=ds.map DR:=⟨_,rfl⟩;rw [←dz] at c4 hok;exists dz;ac_rfl;refine aR (xs:=ys) (λ i σ H'=>∃ (du:Addr) (v7:Option V),σ=[%[a|45],some (.int (N:Int)),%[vr|45],%[dp|45],%[bp|45],%[fp|45],%[du|45],v7,none,none,none,none,none,none,none,none,none]/\Ext H9 H'/\H' du=some (.lst (((dS.take i).foldl rnD F).map V.int))) ⟨I6,none,rfl,hT,q0⟩ (λ i σ H' _ ⟨_,_,_,e,_⟩=>e.at b7) ?_ ?_
  ·rintro i y _ Ui hi ⟨du,v7,rfl,q4,w8⟩;have xu:i < ds.length:=by rw [←(a9 ()).1];exact(Qh.mp hi).1
   have xv:=((a9 ()).2 i _ y (Qf xu) hi).ext q4;have hu:=xv.a ((hP ()).ext q4);obtain⟨rfl,_⟩:=xv
   have kx:(dS.take (i+1)).foldl rnD F=rnD ((dS.take i).foldl rnD F) (DR ds[i]):=by
    rw [QQ,dz (),Qq,Qf xu,Sk];rfl
   have I7:((dS.take i).foldl rnD F).length=N:=by rw [qc,a8 ()]
   rw [kx];generalize (dS.take i).foldl rnD F=vals at *;exists hu;clear hi kk qn hP qx b7 ea a9 c4 hok kx ec q0 hT;simp! only [↓aw];rw [qk];refine⟨vals,(N:Int),_,_,_,_,_,_,w8,hu (),by rw [I7],by omega,λ r Uj _ J0 KX=>?_⟩;have xx:=q4.trans J0;clear w8;ac_rfl;exact⟨_,_,rfl,xx,KX⟩
  rintro _ HB ⟨du,v7,rfl,eB,dJ⟩;have kE:ys.length=dS.length:=by rw [(a9 ()).1,dz (),Qk]
  rw [kE,QD] at dJ;obtain⟨D,hD⟩:∃ D,D=dS.foldl rnD F:=⟨_,rfl⟩;rw [←hD] at dJ;have ht:D.length=N:=by rw [hD,qc,a8 ()]
  have x7:=eB.2 K a _ qn;have LI:=λ (_:Unit)=>(hP ()).ext eB;have ee:=λ (_:Unit)=>(qx ()).ext eB;have yd:=eB.at b7;have cc:=eB.at ea;have kQ:=eB.at h9;have kT:=λ (_:Unit)=>(a9 ()).imp λ _ _ q=>DrD.ext q eB;have a5:=λ (_:Unit)=>(c4 ()).imp λ _ _ q=>StY.ext q eB;have yx:dS.length<=54:=by rw [dz (),Qk];exact I3
  have eg:1<=F.length:=by rw [a8 ()];omega
  have ek:F.length<=4096:=by rw [a8 ()];omega
  have pa:1<=D.length:=by omega
  have b4:D.length<=4096:=by omega
  exists hD;exists ht;exists kE;clear qn hP qx b7 ea h9 a9 c4 eB ec q0 hT;ac_rfl;intro lc HC _ eC hC;ac_rfl;intro st hW G hx el en g k1 a4;rw [fV];refine⟨hW,F,k1,g.at hC,eg,ek,λ HD l qD y1 q5 k4=>?_⟩;have q6:=eC.trans (qD HC g hx);have q7:HB l=none:=(eC.trans g).free y1;have hX:ay t.a_UE HD st l F:=⟨⟨hW,q5⟩,k4⟩;have y2:=q6.at cc;have m1:=aD l (m := "all_values") nofun;exists hX;clear k1 a4 hx el en g qD y1 k4 hC eC;ac_rfl;intro hp HE k6 eE hE;have hY:=q6.trans eE;have q8:=λ (_:Unit)=>(hX ()).ext eE;have y3:hp ≠ l:=(ag (hX ()).fl k6).symm;have q9:=λ (_:Unit)=>(a5 ()).imp λ _ _ q=>StY.ext q hY;have ih:=eE.at q5;clear y2 q5 k6;ac_rfl;rw [gH];rw [←a8 ()] at q9 hok;refine⟨l,F,dS,q8 (),eg,ek,⟨ss,hE,q9 ()⟩,by omega,hok (),(ee ()).ext hY,λ HF qF ra hF=>?_⟩;rw [←hD ()] at hF;have ij:=qF HB hY q7;have y4:=ra _ _ y3 hE;have rb:st ≠ l:=λ e=>by rw [e,(q8 ()).fl] at ih;cases ih
  have rf:=ra _ _ rb ih;have la:=ij.at dJ;have lb:=ij.at cc;have iv:ay t.a_UE HF st l D:=⟨⟨hW,rf⟩,hF⟩;exists iv;clear q8 hX q9 ih hE qF ra hY q6 eE hF;ac_rfl;rw [fe];refine⟨l,D,iv (),b4,λ rv HG L0 eG hG=>?_⟩;have y5:=eG.at y4;have lk:=eG.at lb;have ep:=eG.at la;have y6:=eG.at rf;have y7:=ij.trans eG;have y8:=λ (_:Unit)=>(iv ()).ext eG;clear y4 lb la rf iv ij L0;ac_rfl;rw [jU];refine⟨D,hG,ep,b4,λ HH eH=>?_⟩;have y9:=eH.at y5;have lp:=eH.at lk;have lx:=eH.at ep;have zc:=eH.at y6;have z0:=y7.trans eH;have z1:=λ (_:Unit)=>(y8 ()).ext eH;clear y5 lk ep y6 y8 y7 hG;ac_rfl;refine Fd y9 lp (λ v hv=>?_) ?_
  ·obtain⟨i,hi,rfl⟩:=Rk hv;obtain⟨s,hs,_⟩:=(a5 ()).2 i _ _ (Qf (by rw [←(a5 ()).1];exact hi)) (Qf hi);exact⟨s,hs⟩
  clear y9;ac_rfl;intro em HI _ eI hI;have z2:=eI.at lx;have z3:=eI.at zc;have ri:=z0.trans eI;have z4:=λ (_:Unit)=>(z1 ()).ext eI;clear lx zc z0 z1 lp;ac_rfl;rw [gH];refine⟨l,D,[],z4 (),pa,b4,⟨[],hI,Al.nil⟩,by decide,λ d hd=>absurd hd QC,(ee ()).ext ri,λ HJ qJ z5 hJ=>?_⟩;have rk:=qJ HB ri q7;have z6:=z5 _ _ rb z3;have ly:=rk.at dJ;have rm:ay t.a_UE HJ st l D:=⟨⟨hW,z6⟩,hJ⟩;exists rm;clear hI z3 z4 ri qJ z5 hJ z2;ac_rfl;rw [fe];refine⟨l,D,rm (),b4,λ Uk HK _ eK hK=>?_⟩;have l0:=eK.at ly;clear rm z6 ly;ac_rfl;rw [jU];refine⟨D,hK,l0,b4,λ HL eL=>?_⟩;have eb:=rk.trans (eK.trans eL);have tb:=λ (_:Unit)=>(ee ()).ext eb;have hS:=eb.2 K a _ x7;clear hK l0 eK eL rk q7 y3 rb m1;ac_rfl;intro t1 TZ L1 c5 dN;clear L1;exists tb,c5;replace hS:=c5.2 K a _ hS;replace eb:=eb.trans c5;clear c5;ac_rfl;intro l1 l4 L2 cf z7;clear L2;exists tb,cf;replace dN:=cf.at dN;replace hS:=cf.2 K a _ hS;replace eb:=eb.trans cf;clear cf;have tA:aH l4 l1 (axL [((N:Int),1)]):=⟨_,z7,Al.cons' ⟨t1,rfl,dN⟩ Al.nil⟩;clear dN z7;ac_rfl;intro v1 er T1 et ru rx ew l5 ry;rw [cZ];refine⟨er,[((N:Int),1)],l5,aH.ext tA ew,IS %[0|8] %[0|8],λ l7 z8 ey rz c6 ez=>?_⟩;have c7:=ey l4 ew et;have eD:av t.a_UH l7 v1 (N:Int) 0 ([((N:Int),1)].map ba):=⟨er,z8,c6,ez⟩;exists eD;clear l5 ry et ru rx ew ey rz c6 ez;exists tb,c7;replace hS:=c7.2 K a _ hS;replace eb:=eb.trans c7;clear c7;clear tA;ac_rfl;intro g1 eJ T2 fa r0 r7 l8 mc sd;rw [iL];refine⟨eJ,mc,λ z9 fo A0=>?_⟩;have cg:=fo l7 l8 fa;clear mc sd fa r0 r7 l8 fo;exists tb,eD,cg;replace hS:=cg.2 K a _ hS;replace eb:=eb.trans cg;clear cg;have ar:StR t z9 (N:Int) (1,3,ai 0 [((N:Int),1)],[]) g1:=⟨v1,v1,⟨(show (1:Nat) < 5 by decide),eJ,A0⟩,(λ _=>IQ %[0|8] %[0|8] (eD ())),λ q=>absurd q (show ¬ (2:Nat)<=1 by decide)⟩;exists ar;clear A0;clear eD;ac_rfl;intro t2 T3 L3 ck iz;clear L3;exists tb,ar,ck;replace hS:=ck.2 K a _ hS;replace eb:=eb.trans ck;clear ck;ac_rfl;intro l2 mu M0 bt i0;clear M0;exists tb,ar,bt;replace iz:=bt.at iz;replace hS:=bt.2 K a _ hS;replace eb:=eb.trans bt;clear bt;have tA:aH mu l2 (axL [(2,1)]):=⟨_,i0,Al.cons' ⟨t2,rfl,iz⟩ Al.nil⟩;clear iz i0;ac_rfl;intro v2 fu T4 fz se sg f3 mv sh;rw [cZ];refine⟨fu,[(2,1)],mv,aH.ext tA f3,yh %[0|8] %[0|8] ⋯ ⋯,λ A1 A2 f5 sv c8 f6=>?_⟩;have cm:=f5 mu f3 fz;have a3:av t.a_UH A1 v2 (N:Int) 0 ([(2,1)].map ba):=⟨fu,A2,c8,f6⟩;exists a3;clear mv sh fz se sg f3 f5 sv c8 f6;exists tb,ar,cm;replace hS:=cm.2 K a _ hS;replace eb:=eb.trans cm;clear cm;clear tA;ac_rfl;intro t3 T5 Pt b1 cN;clear Pt;exists tb,ar,a3,b1;replace hS:=b1.2 K a _ hS;replace eb:=eb.trans b1;clear b1;ac_rfl;intro l3 mT PH a6 f7;clear PH;exists tb,ar,a3,a6;replace cN:=a6.at cN;replace hS:=a6.2 K a _ hS;replace eb:=eb.trans a6;clear a6;have tA:aH mT l3 (axL [(2,1)]):=⟨_,f7,Al.cons' ⟨t3,rfl,cN⟩ Al.nil⟩;clear cN f7;ac_rfl;intro v3 f9 T6 gc sx s6 gd mW s7;rw [cZ];refine⟨f9,[(2,1)],mW,aH.ext tA gd,yh %[0|8] %[0|8] ⋯ ⋯,λ m4 CS gf s8 da gg=>?_⟩;have b2:=gf mT gd gc;have d0:av t.a_UH m4 v3 (N:Int) 2 ([(2,1)].map ba):=⟨f9,CS,da,gg⟩;exists d0;clear mW s7 gc sx s6 gd gf s8 da gg;exists tb,ar,a3,b2;replace hS:=b2.2 K a _ hS;replace eb:=eb.trans b2;clear b2;clear tA;ac_rfl;intro g2 gk T7 gn s9 tp dc m5 tq;rw [jv];refine⟨gk,(N:Int),0,2,_,_,m5,(a3 ()).ext dc,(d0 ()).ext dc,xF,xF,rfl,λ C0 gx C1=>?_⟩;have a7:=gx m4 dc gn;clear m5 tq gn s9 tp dc gx;exists tb,ar,a3,d0,a7;replace hS:=a7.2 K a _ hS;replace eb:=eb.trans a7;clear a7;have gD:StR t C0 (N:Int) (2,0,[0,1],[2,3]) g2:=⟨v2,v3,⟨by decide,gk,C1⟩,(λ _=>yg (cs:=[0,1]) ⋯ (a3 ())),λ _=>yg (cs:=[2,3]) ⋯ (d0 ())⟩;exists gD;clear C1;clear a3 d0;ac_rfl;intro gp T8 TC b3 C2;clear TC;exists tb,ar,gD,b3;replace hS:=b3.2 K a _ hS;replace eb:=eb.trans b3;clear b3;ac_rfl;rw [A7];refine⟨rfl,hS,hl,by omega,by omega,g1,g2,_,C2,ar (),gD (),DN %[0|8],IT %[0|8],tb (),λ HM eM=>?_⟩;have i1:=eb.trans eM;clear C2 ar gD tb hS eb eM;have C3:=i1.at kQ;ac_rfl;intro Ul HN _ eN C4;ac_rfl;intro cT tr G hx el en g k1 a4;rw [fV];refine⟨tr,F,k1,g.at C4,eg,ek,λ HO l2 qO C5 ts m6=>?_⟩;have C6:=i1.trans (eN.trans (qO HN g hx));have nf:HB l2=none:=(i1.trans (eN.trans g)).free C5;have tT:ay t.a_UE HO cT l2 F:=⟨⟨tr,ts⟩,m6⟩;have ng:=C6.at cc;have m2:=aD l2 (m := "all_values") nofun;exists tT;clear k1 a4 hx el en g qO C5 m6 C4 eN C3 i1;ac_rfl;intro Um HP _ eP gJ;rw [IF] at gJ;have nq:=eP.at ng;have C7:=eP.at ts;have T9:ss.length<=54:=by rw [(a5 ()).1];exact yx
  clear ng ts;refine cF nq gJ (az (by rw [Rc];omega)) ?_;intro bb HQ _ eQ hQ;have i2:=C6.trans (eP.trans eQ);have t4:=λ (_:Unit)=>(tT ()).ext (eP.trans eQ);have i3:=eQ.at C7
  have t6:Al (StY t HQ (F.length:Int)) (dS++dS.take 1) (ss++ss.take 1):=by
   rw [a8 ()];have q:=(a5 ()).imp λ _ _ h=>StY.ext h i2;exact uv q (IV q 1)
  have t8:∀ d∈dS++dS.take 1,xb F.length d:=λ d hd=>(QF.mp hd).elim (hok () d) λ h=>hok () d (RV h);exists t6;exists t8;clear nq gJ C7 eP eQ tT;ac_rfl;rw [gH];refine⟨l2,F,dS++dS.take 1,t4 (),eg,ek,⟨_,hQ,t6 ()⟩,by rw [Qw,Rc];omega,t8 (),(ee ()).ext i2,λ HR qR C8 hR=>?_⟩;have d2:=qR HB i2 nf;have nD:cT ≠ l2:=λ e=>by rw [e,(t4 ()).fl] at i3;cases i3
  have C9:=C8 _ _ nD i3
  obtain⟨x0,dT,i5⟩:∃ x0 dT,ds=x0::dT:=by
   cases ds with
   | nil=>simp at w4
   | cons x0 dT=>exact⟨x0,dT,rfl⟩
  have D2:(dS++dS.take 1).foldl rnD F=rnD D (DR x0):=by
   rw [Sk,←hD (),dz (),i5];rfl
  rw [D2] at hR;have t9:ay t.a_UE HR cT l2 (rnD D (DR x0)):=⟨⟨tr,C9⟩,hR⟩;have nJ:=d2.at dJ;have nT:=d2.at yd;have D3:(rnD D (DR x0)).length<=4096:=by rw [sD];exact b4
  obtain⟨y0,yT,uu⟩:∃ y0 yT,ys=y0::yT:=by
   have:=(kT ()).1
   cases ys with
   | nil=>rw [i5] at this;simp at this
   | cons y0 yT=>exact⟨y0,yT,rfl⟩
  have n0:=(kT ()).2 0 x0 y0 (by rw [i5];rfl) (by rw [uu];rfl);have n1:=n0.ext d2;have g0:=n1.a ((LI ()).ext d2);obtain⟨rfl,_⟩:=n0;have D7:atI ys 0=some (.ref x0.1):=by rw [uu];exact bL (j:=0) rfl
  exists t9;exists g0;exists i5;exists uu;clear hR i3 t4 t6 t8 hQ qR C8 i2 D2 n1;ac_rfl;rw [fe];refine⟨l2,_,t9 (),D3,λ r3 HS _ eS h3=>?_⟩;have n2:=eS.at nJ;have D8:=eS.at nT;clear t9 nJ nT C9;ac_rfl;rw [qk];refine⟨D,(N:Int),_,_,_,_,_,_,n2,(g0 ()).ext eS,by rw [ht ()],b4,λ r4 HT _ eT h4=>?_⟩;have EX:=eT.at h3;clear h3 n2 D8 g0;ac_rfl;rw [jU];refine⟨_,EX,h4,D3,λ HU eU=>?_⟩;have g4:=d2.trans (eS.trans (eT.trans eU));clear EX h4 d2 eS eT eU nf nD m2 D7;have n3:=g4.at cc;ac_rfl;rw [ji];refine⟨(N:Int),dS,⟨ss,n3,(a5 ()).imp λ _ _ h=>StY.ext h g4⟩,by omega,(ee ()).ext g4,λ rr HV ⟨fs,qs,Fn,dl,hM,td⟩=>?_⟩;have cn:=D6 Fn dl hM;have g5:=g4.trans td.ex
  have g6:∀ i q,qs[i]? = some q->((List.range qs.length).map (ix fs dS.length))[i]? = some (ix fs dS.length i):=λ i q hq=>by
   have hi:=(Qh.mp hq).1;rw [Qq,S3 hi];rfl
  have F0:((List.range qs.length).map (ix fs dS.length)).length=qs.length:=by rw [Qk,Q8]
  generalize (List.range qs.length).map (ix fs dS.length)=rows at *;have dN:=td.t;exists td;exists cn;exists g6;exists F0;clear dl hM Fn g4 n3;ac_rfl;refine sN (λ i σ H'=>∃ u0 u1 d3 d4 cp:Option V,σ=[%[a|45],some (.int (N:Int)),%[vr|45],%[dp|45],%[bp|45],%[fp|45],%[du|45],v7,%[cT|45],%[hp|45],%[gp|45],%[rr|45],u0,u1,d3,d4,cp]/\Ext HV H') ⟨none,none,none,none,none,rfl,Ext.refl _⟩ ?_ ?_
  ·rintro wi _ J1 F1 ⟨u0,u1,d3,d4,cp,rfl,j1⟩;simp only [Tp];have Uo:wi < 3:=F1;have F2:=(g5.trans j1).at kQ;clear F1 kk dN;simp! only [↓aw];intro lc J2 _ j2 h2;ac_rfl;intro sb F3 G hx el en g k1 a4;rw [fV];refine⟨F3,F,k1,g.at h2,eg,ek,λ J3 l3 q3 f7 F4 n4=>?_⟩;have g7:Ext HV J3:=j1.trans (j2.trans (q3 J2 g hx));have jz:HV l3=none:=(j1.trans (j2.trans g)).free f7;have n5:HB l3=none:=g5.free jz;have g8:ay t.a_UE J3 sb l3 F:=⟨⟨F3,F4⟩,n4⟩;have m3:=aD l3 (m := "all_values") nofun;have cN:=g7.at (td ()).t;exists g8;clear k1 a4 hx el en g q3 f7 n4 h2 j1 j2 F2;ac_rfl;refine aR (xs:=qs.map V.ref) (λ j σ H'=>∃ (d3 d4 cp:Option V) (aq:List (List Nat)),σ=[%[a|45],some (.int (N:Int)),%[vr|45],%[dp|45],%[bp|45],%[fp|45],%[du|45],v7,%[cT|45],%[hp|45],%[gp|45],%[rr|45],some (.int (wi:Int)),%[sb|45],d3,d4,cp]/\aq.length=j/\Np rows aq/\RaI t J3 H' sb l3 (rnK dS F aq.flatten)) ⟨d3,d4,cp,[],rfl,rfl,λ k A B h1 h2=>(by cases h2),⟨λ H0 e _=>e,λ _ _ _ h=>h,(g8 ()).fl⟩⟩ (λ j σ H' _ ⟨_,_,_,_,_,_,_,h⟩=>(h.ex HV g7 jz).at (td ()).t) ?_ ?_
   ·rintro j y _ J4 hj ⟨F5,F6,n7,aq,rfl,cv,cA,I4⟩;rw [Qq] at hj;obtain⟨q,hq,rfl⟩:=Qj.mp hj;have hA:=g6 () j q hq;have hb:=I4.ex HV g7 jz;have u2:=hb.at ((td ()).ro j q hq);have dy:=(g5.trans hb).2 K a _ x7;have TF:(ix fs dS.length j).length<=60:=by have:=uD fs dS.length j;omega
    have n8:∀ k∈ix fs dS.length j,k < dS.length:=λ k hk=>Jx (cn ()).perm hA hk;exists hA;exists n8;exists cA;exists I4;generalize ix fs dS.length j=A at *;clear hj hq cN;simp! only [↓aw];rw [dH];refine⟨dy,hl,⟨by omega,by omega⟩,by decide,λ c c0 c1=>?_⟩;ac_rfl;rw [A5];refine⟨A,u2,TF,c0,λ r5 J5 B5 F7 j5 va h5=>?_⟩;have TH:=j5.at u2;have de:=(I4 ()).fl;have F8:r5 ≠ l3:=(ag de F7).symm;exists va;clear u2 dy c0 c1 F7;simp! only [-xZ];refine Ej (λ σ' H'=>∃ (od:Addr) (B:List Nat),σ'=[%[a|45],some (.int (N:Int)),%[vr|45],%[dp|45],%[bp|45],%[fp|45],%[du|45],v7,%[cT|45],%[hp|45],%[gp|45],%[rr|45],some (.int (wi:Int)),%[sb|45],%[q|45],%[od|45],n7]/\Ext J5 H'/\od ≠ l3/\H' od=some (.lst (fE B))/\B.Perm A) (λ N1 hn=>?_) ?_
    ·exists hn
     by_cases hw2:wi=2
     ·subst hw2;clear I4 td cn;ac_rfl;intro r6 J6 F9 j6 h6;have TJ:r6 ≠ l3:=(ag (j5.at de) F9).symm;rw [show (fE A).reverse=fE A.reverse by unfold fE;rw [List.map_reverse]] at h6;clear F9;ac_rfl;exact hn () _ _ ⟨r6,A.reverse,rfl,j6,TJ,h6,List.reverse_perm A⟩
     ·have Ua:¬ (wi:Int)=2:=by omega
      clear I4 td cn;ac_rfl;exact hn () _ _ ⟨r5,B5,rfl,Ext.refl _,F8,h5,va ()⟩
    clear h5 F8 va TH;rintro _ J7 ⟨od,B,rfl,j7,TK,vb,vo⟩;have hc:=j5.trans j7;have dr:=hc.at de;have TL:Ext HB J7:=((I4 ()).ex HB (g5.trans g7) n5).trans hc;have hg:=((I4 ()).so (g8 ())).ext hc;have oj:∀ k∈B,k < dS.length:=λ k hk=>n8 () k (vo.mem_iff.mp hk);have vu:=sA dS aq.flatten F;exists hg;exists oj;exists vo;obtain⟨vj,hh⟩:∃ vj,vj=rnK dS F aq.flatten:=⟨_,rfl⟩;rw [←hh] at hg dr vu I4;rw [a8 ()] at vu;exists hh;clear de j5 j7;ac_rfl;refine aR (xs:=fE B) (λ m σ H'=>∃ cp:Option V,σ=[%[a|45],some (.int (N:Int)),%[vr|45],%[dp|45],%[bp|45],%[fp|45],%[du|45],v7,%[cT|45],%[hp|45],%[gp|45],%[rr|45],some (.int (wi:Int)),%[sb|45],%[q|45],%[od|45],cp]/\RaI t J7 H' sb l3 (rnK dS vj (B.take m))) ⟨_,rfl,⟨λ H0 e _=>e,λ _ _ _ h=>h,dr⟩⟩ (λ m σ H' _ ⟨_,_,h⟩=>h.kp _ _ TK vb) ?_ ?_
    ·rintro m y _ J8 hm ⟨vv,rfl,I8⟩;unfold fE at hm;rw [getElem?_map] at hm;obtain⟨Ga,hk,rfl⟩:=Option.map_eq_some_iff.mp hm;have Gb:=oj () Ga (mem_of_getElem? hk);have Gd:=I8.ex HB TL n5;have Ub:=Gd.at cc;obtain⟨s',Up,vx⟩:=Br ((a5 ()).imp λ _ _ h=>StY.ext h Gd) Gb;have Ge:=I8.so (hg ());have Gf:=hok () _ (yX Gb);have hlen:=sA dS (B.take m) vj;rw [vu] at hlen;have G1:rnK dS vj (B.take (m+1))=rnD (rnK dS vj (B.take m)) (atD dS Ga):=by rw [take_add_one,hk,sC];rfl
     rw [G1];rw [←hlen] at vx;rw [a8 (),←hlen] at Gf;have o5:1<=(rnK dS vj (B.take m)).length:=by rw [hlen];omega
     have TM:(rnK dS vj (B.take m)).length<=4096:=by rw [hlen];omega
     generalize rnK dS vj (B.take m)=vs at *;exists I8;clear hm hk G1 hlen td cn I4 hg hh vb dr;simp! only [↓aw];obtain⟨TN,TQ,TR,G2,TU,G3⟩:=uC (Q:=_) (E:=_) vx Gf Ge o5 TM;refine⟨s',_,TN,TQ,rfl,TR,G2,TU,?_⟩;ac_rfl;refine G3 λ J9 q1 q2 q3=>?_;have I9:=(I8 ()).step q1 q2 q3;clear I8 G3 G2 vx Ge q1 q2 q3;ac_rfl
     first|exact⟨_,rfl,I9⟩|exact⟨_,rfl⟩
    ·rintro _ J8 ⟨vv,rfl,I8⟩;rw [show (fE B).length=B.length by unfold fE;rw [length_map],take_length] at I8
     have fin:RaI t J3 J8 sb l3 (rnK dS F (aq++[B]).flatten):=by
      rw [show (aq++[B]).flatten=aq.flatten++B by rw [List.flatten_append];simp,sC,←hh ()];exact⟨λ H0 e0 h0=>I8.ex H0 (((I4 ()).ex H0 e0 h0).trans hc) h0,(I4 ()).kp.trans ((Ext.kp hc).trans I8.kp),I8.fl⟩
     have G4:=B6 (cA ()) cv (hA ()) (vo ());have i0:(aq++[B]).length=j+1:=by rw [Qw,QV,cv]
     exists fin;exists G4;clear I8 td cn I4 hg hh vb dr;ac_rfl;exact⟨_,_,_,aq++[B],rfl,i0,G4 (),fin ()⟩
   ·rintro _ J4 ⟨F5,F6,n7,aq,rfl,cv,cA,I4⟩;rw [Qk,←F0 ()] at cv
    have oD:rnK dS F aq.flatten=D:=by
     rw [hD ()];exact(cn ()).run (n:=F.length) (hok ()) cv cA F
    rw [oD] at I4;have j0:=I4.so (g8 ());have hb:=I4.ex HV g7 jz;have oJ:=(g5.trans hb).at dJ;obtain⟨Uq,TV⟩:=j0.ob;exists j0;clear I4 td cn g8 oD cA cN F4;ac_rfl;rw [fe];refine⟨l3,D,j0 (),b4,λ r9 J9 _ j9 h9=>?_⟩;have oL:=j9.at oJ;clear oJ j0 TV;ac_rfl;rw [jU];refine⟨D,h9,oL,b4,λ Ur TX=>?_⟩;have G5:=hb.trans (j9.trans TX);clear h9 oL;ac_rfl
    first|exact⟨_,_,_,_,_,rfl,G5⟩|exact⟨_,_,_,_,_,rfl⟩
  ·rintro _ J1 ⟨u0,u1,d3,d4,cp,rfl,j1⟩;have k2:=kk () J1;clear kk;ac_rfl
end
def Py{l:W.OpenLaw}{w:World}{K:W.Frag}{h:Heap}{mg:Str->Option Value}{fa:Addr}(X:K.In h)(G:h.Ns mainGlobals mg)(r6:mg "law"=%[fa|45])
  {C0:Addr} (y0:W.nsIn K mainGlobals "PaceError"=some (%[C0|45]))
  {C1:Addr} (y1:W.nsIn K mainGlobals "NoPlace"=some (%[C1|45]))
  {C2:Addr} (y2:W.nsIn K mainGlobals "NoCells"=some (%[C2|45]))
  {C3:Addr} (y3:W.nsIn K mainGlobals "NoView"=some (%[C3|45]))
  {C4:Addr} (y4:W.nsIn K mainGlobals "NoCount"=some (%[C4|45]))
  {C5:Addr} (y5:W.nsIn K mainGlobals "NoPair"=some (%[C5|45]))
  {C6:Addr} (y6:W.nsIn K mainGlobals "TooMany"=some (%[C6|45]))
  {C7:Addr} (y7:W.nsIn K mainGlobals "View"=some (%[C7|45]))
  {C8:Addr} (y8:W.nsIn K mainGlobals "Store"=some (%[C8|45]))
  {C9:Addr} (y9:W.nsIn K mainGlobals "Statement"=some (%[C9|45]))
  {cg:Addr} (r7:W.nsIn K mainGlobals "Fill"=some (%[cg|45]))
  {ck:Addr} (r9:W.nsIn K mainGlobals "Copy"=some (%[ck|45]))
  {cm:Addr} (sb:W.nsIn K mainGlobals "Swap"=some (%[cm|45]))
  {cn:Addr} (sd:W.nsIn K mainGlobals "Raise"=some (%[cn|45]))
  (qCo:W.excIn K C5 [.type "ValueError",.type "Exception",.type "BaseException",.type "object"] "ValueError.__new__"=true)
  (qCp:W.excIn K C3 [.type "ValueError",.type "Exception",.type "BaseException",.type "object"] "ValueError.__new__"=true)
  (qAf:W.exmOne K (.ref C5) (.ref C0)=some true)
  (qAg:W.exmOne K (.ref C3) (.ref C0)=some true)
  (qAc:W.exmOne K (.ref C6) (.ref C0)=some true)
  (ocs:W.specialIn K (.builtin "object.__class__") "__get__"=some (some (.builtin "getset_descriptor.__get__")))
  (oct:W.takesIn K (.builtin "object.__class__")=some true)
  (qC9:W.findIn K (.ref C5) "__getattribute__"=some (some (.builtin "BaseException.__getattribute__")))
  (qCa:W.findIn K (.ref C5) "__getattr__"=some none)
  (qCb:W.mroIn K C5 (.type "BaseException")=some true)
  (qCc:W.mroIn K C5 (.type "object")=some true)
  (qCd:W.findIn K (.ref C5) "__class__"=some (some (.builtin "object.__class__")))
  (qCe:W.hasDictIn K C5=true)
  (qCf:W.findIn K (.ref C3) "__getattribute__"=some (some (.builtin "BaseException.__getattribute__")))
  (qCg:W.findIn K (.ref C3) "__getattr__"=some none)
  (qCh:W.mroIn K C3 (.type "BaseException")=some true)
  (qCi:W.mroIn K C3 (.type "object")=some true)
  (qCj:W.findIn K (.ref C3) "__class__"=some (some (.builtin "object.__class__")))
  (qCk:W.hasDictIn K C3=true)
  (qBx:W.findIn K (.ref C6) "__getattribute__"=some (some (.builtin "BaseException.__getattribute__")))
  (qBy:W.findIn K (.ref C6) "__getattr__"=some none)
  (qBz:W.mroIn K C6 (.type "BaseException")=some true)
  (qC0:W.mroIn K C6 (.type "object")=some true)
  (qC1:W.findIn K (.ref C6) "__class__"=some (some (.builtin "object.__class__")))
  (qC2:W.hasDictIn K C6=true)
  (qB1:W.hasDictIn K C5=true)
  (qB2:W.typeIn K (.ref C5)=some (.type "type"))
  (qB3:W.subIn K (.ref C5) (.ref C5)=some true)
  (qB4:W.hasDictIn K C3=true)
  (qB5:W.typeIn K (.ref C3)=some (.type "type"))
  (qB6:W.subIn K (.ref C5) (.ref C3)=some false)
  (qB7:(C5 == C3)=false)
  (qAl:W.hasDictIn K C6=true)
  (qAm:W.typeIn K (.ref C6)=some (.type "type"))
  (qAn:W.subIn K (.ref C5) (.ref C6)=some false)
  (qAo:(C5 == C6)=false)
  (qB8:W.hasDictIn K C5=true)
  (qB9:W.typeIn K (.ref C5)=some (.type "type"))
  (qBa:W.subIn K (.ref C3) (.ref C5)=some false)
  (qBb:(C3 == C5)=false)
  (qBc:W.hasDictIn K C3=true)
  (qBd:W.typeIn K (.ref C3)=some (.type "type"))
  (qBe:W.subIn K (.ref C3) (.ref C3)=some true)
  (qAp:W.hasDictIn K C6=true)
  (qAq:W.typeIn K (.ref C6)=some (.type "type"))
  (qAr:W.subIn K (.ref C3) (.ref C6)=some false)
  (qAs:(C3 == C6)=false)
  (qAt:W.hasDictIn K C5=true)
  (qAu:W.typeIn K (.ref C5)=some (.type "type"))
  (qAv:W.subIn K (.ref C6) (.ref C5)=some false)
  (qAw:(C6 == C5)=false)
  (qAx:W.hasDictIn K C3=true)
  (qAy:W.typeIn K (.ref C3)=some (.type "type"))
  (qAz:W.subIn K (.ref C6) (.ref C3)=some false)
  (qB0:(C6 == C3)=false)
  (qAh:W.hasDictIn K C6=true)
  (qAi:W.typeIn K (.ref C6)=some (.type "type"))
  (qAj:W.subIn K (.ref C6) (.ref C6)=some true)
  (qAa:W.subIn K (.ref C5) (.type "ValueError")=some true)
  (qAb:W.subIn K (.ref C3) (.type "ValueError")=some true)
  (qA8:W.subIn K (.ref C6) (.type "ValueError")=some true)
  {f0:Addr} {d0:FuncData} (F0:Fun K "__init__" "TooMany.__init__" bY f0 d0)
  {f1:Addr} {d1:FuncData} (a1:W.nsIn K mainGlobals "is_whole"=some (%[f1|45])) (F1:Fun K "is_whole" "is_whole" i9 f1 d1)
  {f2:Addr} {d2:FuncData} (a2:W.nsIn K mainGlobals "count_of"=some (%[f2|45])) (F2:Fun K "count_of" "count_of" ja f2 d2)
  {f3:Addr} {d3:FuncData} (a3:W.nsIn K mainGlobals "is_number_below"=some (%[f3|45])) (F3:Fun K "is_number_below" "is_number_below" eR f3 d3)
  {f4:Addr} {d4:FuncData} (a4:W.nsIn K mainGlobals "is_place"=some (%[f4|45])) (F4:Fun K "is_place" "is_place" mC f4 d4)
  {f5:Addr} {d5:FuncData} (a5:W.nsIn K mainGlobals "refuse_long"=some (%[f5|45])) (F5:Fun K "refuse_long" "refuse_long" fj f5 d5)
  {f6:Addr} {d6:FuncData} (a6:W.nsIn K mainGlobals "is_within"=some (%[f6|45])) (F6:Fun K "is_within" "is_within" g9 f6 d6)
  {f7:Addr} {d7:FuncData} (a7:W.nsIn K mainGlobals "is_size"=some (%[f7|45])) (F7:Fun K "is_size" "is_size" kB f7 d7)
  {f8:Addr} {d8:FuncData} (a8:W.nsIn K mainGlobals "is_axis"=some (%[f8|45])) (F8:Fun K "is_axis" "is_axis" kC f8 d8)
  {f9:Addr} {d9:FuncData} (a9:W.nsIn K mainGlobals "are_axes"=some (%[f9|45])) (F9:Fun K "are_axes" "are_axes" gA f9 d9)
  {k6:Addr} {se:FuncData} (sf:W.nsIn K mainGlobals "kept_axis"=some (%[k6|45])) (pa:Fun K "kept_axis" "kept_axis" gZ k6 se)
  {hW:Addr} {sg:FuncData} (pb:Fun K "__init__" "View.__init__" bX hW sg)
  {hX:Addr} {sh:FuncData} (la:Fun K "sizes" "View.sizes" dO hX sh)
  {hY:Addr} {sv:FuncData} (lb:Fun K "paces" "View.paces" jt hY sv)
  {h3:Addr} {sx:FuncData} (lk:Fun K "count" "View.count" fZ h3 sx)
  {h4:Addr} {s6:FuncData} (lp:Fun K "cell" "View.cell" kP h4 s6)
  {h5:Addr} {s7:FuncData} (lx:Fun K "cells" "View.cells" gb h5 s7)
  {h6:Addr} {s8:FuncData} (ly:Fun K "least" "View.least" dP h6 s8)
  {h7:Addr} {s9:FuncData} (l0:Fun K "greatest" "View.greatest" bW h7 s9)
  {l1:Addr} {tp:FuncData} (tq:W.nsIn K mainGlobals "widened"=some (%[l1|45])) (pj:Fun K "widened" "widened" iI l1 tp)
  {l2:Addr} {tr:FuncData} (ts:W.nsIn K mainGlobals "refuse_rooms"=some (%[l2|45])) (pD:Fun K "refuse_rooms" "refuse_rooms" ei l2 tr)
  {l3:Addr} {tT:FuncData} (t2:W.nsIn K mainGlobals "refuse_count"=some (%[l3|45])) (p1:Fun K "refuse_count" "refuse_count" ej l3 tT)
  {h8:Addr} {t4:FuncData} (p3:Fun K "__init__" "Store.__init__" cH h8 t4)
  {h9:Addr} {t6:FuncData} (l4:Fun K "all_values" "Store.all_values" bZ h9 t6)
  {ih:Addr} {t8:FuncData} (l5:Fun K "refuse_room" "Store.refuse_room" bQ ih t8)
  {ij:Addr} {t9:FuncData} (l7:Fun K "read" "Store.read" dQ ij t9)
  {iv:Addr} {uu:FuncData} (l8:Fun K "put" "Store.put" ib iv uu)
  {iz:Addr} {u0:FuncData} (mc:Fun K "fill" "Store.fill" gi iz u0)
  {i0:Addr} {u1:FuncData} (mu:Fun K "copied" "Store.copied" eo i0 u1)
  {mv:Addr} {u2:FuncData} (va:W.nsIn K mainGlobals "refuse_two"=some (%[mv|45])) (p4:Fun K "refuse_two" "refuse_two" fW mv u2)
  {i1:Addr} {vb:FuncData} (mT:Fun K "writes" "Statement.writes" b0 i1 vb)
  {g4:Addr} {vo:FuncData} (i2:Fun K "reads" "Statement.reads" cx g4 vo)
  {i3:Addr} {vr:FuncData} (mW:Fun K "run" "Statement.run" di i3 vr)
  {i5:Addr} {vu:FuncData} (p5:Fun K "__init__" "Fill.__init__" dj i5 vu)
  {jz:Addr} {vv:FuncData} (m1:Fun K "writes" "Fill.writes" ft jz vv)
  {j0:Addr} {vx:FuncData} (m2:Fun K "run" "Fill.run" jd j0 vx)
  {j1:Addr} {vy:FuncData} (p6:Fun K "__init__" "Copy.__init__" dk j1 vy)
  {j2:Addr} {vz:FuncData} (m3:Fun K "writes" "Copy.writes" fw j2 vz)
  {j3:Addr} {vA:FuncData} (m4:Fun K "reads" "Copy.reads" gj j3 vA)
  {j4:Addr} {vB:FuncData} (m5:Fun K "run" "Copy.run" jg j4 vB)
  {j5:Addr} {v3:FuncData} (qa:Fun K "__init__" "Swap.__init__" dh j5 v3)
  {j6:Addr} {v5:FuncData} (m6:Fun K "writes" "Swap.writes" fm j6 v5)
  {j7:Addr} {v7:FuncData} (nf:Fun K "reads" "Swap.reads" gh j7 v7)
  {j9:Addr} {v8:FuncData} (ng:Fun K "run" "Swap.run" jc j9 v8)
  {kc:Addr} {v9:FuncData} (qb:Fun K "__init__" "Raise.__init__" cI kc v9)
  {ke:Addr} {wd:FuncData} (nq:Fun K "writes" "Raise.writes" eu ke wd)
  {kk:Addr} {wh:FuncData} (nD:Fun K "reads" "Raise.reads" fq kk wh)
  {kn:Addr} {wi:FuncData} (nJ:Fun K "run" "Raise.run" fg kn wi)
  {nT:Addr} {wk:FuncData} (wo:W.nsIn K mainGlobals "views_of"=some (%[nT|45])) (qj:Fun K "views_of" "views_of" i8 nT wk)
  {n0:Addr} {w6:FuncData} (w7:W.nsIn K mainGlobals "refuse_views"=some (%[n0|45])) (qn:Fun K "refuse_views" "refuse_views" eh n0 w6)
  {n1:Addr} {w8:FuncData} (xu:W.nsIn K mainGlobals "cells_of"=some (%[n1|45])) (qx:Fun K "cells_of" "cells_of" jb n1 w8)
  {n2:Addr} {xv:FuncData} (xx:W.nsIn K mainGlobals "refuse_statements"=some (%[n2|45])) (qD:Fun K "refuse_statements" "refuse_statements" bP n2 xv)
  {kr:Addr} {qF qJ:Option Addr} {qO:Array (Option Value)} {qR q0 q1 q2 q3:Value} {g0:Addr}
  (xA:W.nsIn K mainGlobals "dealt"=some (%[kr|45])) (xB:K.lookup kr=some ⟨qR,qF,.func (W.fnOf "dealt" "dealt" (fO fM) (cX fM) (aa fM) .none q0 q1 q2 qJ (.ref g0) q3),qO⟩)
  (x7:W.codeIn K (.ref g0) "dealt"=true) (yd:W.keepIn K (.ref kr)=true)
  (q4:lU K g0 547) (yx:K.lookup 547=none)
  {n3:Addr} {yT:FuncData} (zc:W.nsIn K mainGlobals "rounds"=some (%[n3|45])) (q5:Fun K "rounds" "rounds" eZ n3 yT)
  {n4:Addr} {A0:FuncData} (A1:W.nsIn K mainGlobals "run_all"=some (%[n4|45])) (q6:Fun K "run_all" "run_all" kA n4 A0)
  {n5:Addr} {A2:FuncData} (B5:W.nsIn K mainGlobals "_law_draw"=some (%[n5|45])) (q7:Fun K "_law_draw" "_law_draw" hZ n5 A2)
  {n7:Addr} {CS:FuncData} (D1:W.nsIn K mainGlobals "_law_whole"=some (%[n7|45])) (q8:Fun K "_law_whole" "_law_whole" fX n7 CS)
  {n8:Addr} {D2:FuncData} (D3:W.nsIn K mainGlobals "_law_list"=some (%[n8|45])) (q9:Fun K "_law_list" "_law_list" ff n8 D2)
  {oj:Addr} {D7:FuncData} (D8:W.nsIn K mainGlobals "_law_cells"=some (%[oj|45])) (ra:Fun K "_law_cells" "_law_cells" dM oj D7)
  {oD:Addr} {EX:FuncData} (Fn:W.nsIn K mainGlobals "_law_some"=some (%[oD|45])) (rb:Fun K "_law_some" "_law_some" dg oD EX)
  {oJ:Addr} {Ga:FuncData} (Gb:W.nsIn K mainGlobals "_law_drawn"=some (%[oJ|45])) (rf:Fun K "_law_drawn" "_law_drawn" dI oJ Ga)
  {oL:Addr} {Gd:FuncData} (Ge:W.nsIn K mainGlobals "_law_count"=some (%[oL|45])) (ri:Fun K "_law_count" "_law_count" fY oL Gd)
  {oN:Addr} {Gf:FuncData} (G1:W.nsIn K mainGlobals "_law_made"=some (%[oN|45])) (rk:Fun K "_law_made" "_law_made" hV oN Gf)
  {oT:Addr} {G2:FuncData} (G3:W.nsIn K mainGlobals "_law_done"=some (%[oT|45])) (rm:Fun K "_law_done" "_law_done" ia oT G2)
  {o2:Addr} {G4:FuncData} (G5:W.nsIn K mainGlobals "_law_turned"=some (%[o2|45])) (rr:Fun K "_law_turned" "_law_turned" fk o2 G4)
  {o3:Addr} {G6:FuncData} (G7:W.nsIn K mainGlobals "_law_told"=some (%[o3|45])) (ru:Fun K "_law_told" "_law_told" hU o3 G6)
  {o4:Addr} {He:FuncData} (Hx:W.nsIn K mainGlobals "_law_refused"=some (%[o4|45])) (rv:Fun K "_law_refused" "_law_refused" cz o4 He)
  {o5:Addr} {rx kv:Option Addr} {ry:Array (Option Value)} {rz kx kE kQ hs kT:Value}
  (r0:W.nsIn K mainGlobals "law"=some (%[o5|45])) (HB:K.lookup o5=some ⟨rz,rx,.func (W.fnOf "law" "law" (fO jD) (cX jD) (aa jD) .none kx kE kQ kv hs kT),ry⟩)
  (HC:W.codeIn K hs "law"=true) (HD:W.keepIn K (.ref o5)=true)
  (k4:W.findIn K (.ref C6) "__init__"=some (%[f0|45]))
  (gg:Em K C6 f0 [.type "ValueError",.type "Exception",.type "BaseException",.type "object"] "ValueError.__new__"=true)
  (gk:W.typeIn K (.ref f0)=some (.type "function"))
  (gn:sO K C6=true)
  (gp:W.findIn K (.ref C6) "__setattr__"=some (some (.builtin "object.__setattr__")))
  (gx:W.hasDictIn K C6=true)
  (b4:W.takerIn K C6 "number"=some none)
  (b5:W.findIn K (.ref C6) "number"=some none)
  (eK:W.specialIn K (.ref C0) "__getattribute__"=some (some (.builtin "type.__getattribute__")))
  (eL:W.readsIn K C0 (.type "type")=true)
  (eM:W.findCls K (.ref C0) (.type "type") "__init__"=some (.val (.builtin "ValueError.__init__")))
  (ht:W.plainGet K C7 Str.empty=true)
  (hu:W.hasDictIn K C7=true)
  (hv:W.plainOver K C7=true)
  (hy:W.findIn K (.ref C7) "__setattr__"=some (some (.builtin "object.__setattr__")))
  (eN:W.findIn K (.ref C7) "axes"=some none)
  (dN:W.findIn K (.ref C7) "first"=some none)
  (eP:W.findIn K (.ref C7) "room"=some none)
  (cp:W.findIn K (.ref C7) "__init__"=some (%[hW|45]))
  (cv:W.isFn K (.ref hW)=true)
  (hz:W.makesIn K C7=true)
  (hA:W.keepIn K (.ref C7)=true)
  (dS:W.findIn K (.ref C7) "sizes"=some (%[hX|45]))
  (ea:W.isFn K (.ref hX)=true)
  (eb:W.findIn K (.ref C7) "paces"=some (%[hY|45]))
  (ec:W.isFn K (.ref hY)=true)
  (ee:W.findIn K (.ref C7) "count"=some (%[h3|45]))
  (eg:W.isFn K (.ref h3)=true)
  (eQ:W.findIn K (.ref C7) "cell"=some (%[h4|45]))
  (eS:W.isFn K (.ref h4)=true)
  (ek:W.findIn K (.ref C7) "cells"=some (%[h5|45]))
  (el:W.isFn K (.ref h5)=true)
  (en:W.findIn K (.ref C7) "least"=some (%[h6|45]))
  (ep:W.isFn K (.ref h6)=true)
  (cA:W.findIn K (.ref C7) "greatest"=some (%[h7|45]))
  (cJ:W.isFn K (.ref h7)=true)
  (g5:W.plainGet K C8 Str.empty=true)
  (g6:W.hasDictIn K C8=true)
  (g7:W.plainOver K C8=true)
  (g8:W.findIn K (.ref C8) "__setattr__"=some (some (.builtin "object.__setattr__")))
  (da:W.findIn K (.ref C8) "floor"=some none)
  (b6:W.findIn K (.ref C8) "__init__"=some (%[h8|45]))
  (b7:W.isFn K (.ref h8)=true)
  (hc:W.makesIn K C8=true)
  (hg:W.keepIn K (.ref C8)=true)
  (bb:W.findIn K (.ref C8) "all_values"=some (%[h9|45]))
  (bp:W.isFn K (.ref h9)=true)
  (aq:W.findIn K (.ref C8) "refuse_room"=some (%[ih|45]))
  (ar:W.isFn K (.ref ih)=true)
  (er:W.findIn K (.ref C8) "read"=some (%[ij|45]))
  (et:W.isFn K (.ref ij)=true)
  (eT:W.findIn K (.ref C8) "put"=some (%[iv|45]))
  (eU:W.isFn K (.ref iv)=true)
  (ew:W.findIn K (.ref C8) "fill"=some (%[iz|45]))
  (ey:W.isFn K (.ref iz)=true)
  (c5:W.findIn K (.ref C8) "copied"=some (%[i0|45]))
  (c6:W.isFn K (.ref i0)=true)
  (e0:W.plainGet K C9 Str.empty=true)
  (e1:W.hasDictIn K C9=true)
  (e3:W.plainOver K C9=true)
  (e4:W.findIn K (.ref C9) "__setattr__"=some (some (.builtin "object.__setattr__")))
  (e5:W.makesIn K C9=true)
  (e6:W.keepIn K (.ref C9)=true)
  (ez:W.findIn K (.ref C9) "__init__"=some (some (.builtin "object.__init__")))
  (bt:W.findIn K (.ref C9) "writes"=some (%[i1|45]))
  (b1:W.isFn K (.ref i1)=true)
  (b2:W.findIn K (.ref C9) "reads"=some (%[g4|45]))
  (b3:W.isFn K (.ref g4)=true)
  (cN:W.findIn K (.ref C9) "run"=some (%[i3|45]))
  (cT:W.isFn K (.ref i3)=true)
  (hB:W.plainGet K cg Str.empty=true)
  (hC:W.hasDictIn K cg=true)
  (hD:W.plainOver K cg=true)
  (hE:W.findIn K (.ref cg) "__setattr__"=some (some (.builtin "object.__setattr__")))
  (gD:W.findIn K (.ref cg) "to"=some none)
  (eB:W.findIn K (.ref cg) "value"=some none)
  (dc:W.findIn K (.ref cg) "writes"=some (%[jz|45]))
  (de:W.isFn K (.ref jz)=true)
  (eC:W.findIn K (.ref cg) "reads"=some (%[g4|45]))
  (eD:W.isFn K (.ref g4)=true)
  (e9:W.findIn K (.ref cg) "run"=some (%[j0|45]))
  (fo:W.isFn K (.ref j0)=true)
  (cV:W.findIn K (.ref cg) "__init__"=some (%[i5|45]))
  (c0:W.isFn K (.ref i5)=true)
  (hF:W.makesIn K cg=true)
  (hG:W.keepIn K (.ref cg)=true)
  (hI:W.plainGet K ck Str.empty=true)
  (hJ:W.hasDictIn K ck=true)
  (hK:W.plainOver K ck=true)
  (hL:W.findIn K (.ref ck) "__setattr__"=some (some (.builtin "object.__setattr__")))
  (dr:W.findIn K (.ref ck) "source"=some none)
  (gJ:W.findIn K (.ref ck) "to"=some none)
  (du:W.findIn K (.ref ck) "writes"=some (%[j2|45]))
  (dy:W.isFn K (.ref j2)=true)
  (eE:W.findIn K (.ref ck) "reads"=some (%[j3|45]))
  (eG:W.isFn K (.ref j3)=true)
  (fu:W.findIn K (.ref ck) "run"=some (%[j4|45]))
  (fv:W.isFn K (.ref j4)=true)
  (c1:W.findIn K (.ref ck) "__init__"=some (%[j1|45]))
  (c2:W.isFn K (.ref j1)=true)
  (hM:W.makesIn K ck=true)
  (hN:W.keepIn K (.ref ck)=true)
  (hO:W.plainGet K cm Str.empty=true)
  (hP:W.hasDictIn K cm=true)
  (hQ:W.plainOver K cm=true)
  (hR:W.findIn K (.ref cm) "__setattr__"=some (some (.builtin "object.__setattr__")))
  (fz:W.findIn K (.ref cm) "one"=some none)
  (eH:W.findIn K (.ref cm) "other"=some none)
  (dz:W.findIn K (.ref cm) "writes"=some (%[j6|45]))
  (dA:W.isFn K (.ref j6)=true)
  (eI:W.findIn K (.ref cm) "reads"=some (%[j7|45]))
  (eJ:W.isFn K (.ref j7)=true)
  (gc:W.findIn K (.ref cm) "run"=some (%[j9|45]))
  (gd:W.isFn K (.ref j9)=true)
  (c3:W.findIn K (.ref cm) "__init__"=some (%[j5|45]))
  (c4:W.isFn K (.ref j5)=true)
  (hS:W.makesIn K cm=true)
  (hT:W.keepIn K (.ref cm)=true)
  (hh:W.plainGet K cn Str.empty=true)
  (hj:W.hasDictIn K cn=true)
  (hk:W.plainOver K cn=true)
  (hl:W.findIn K (.ref cn) "__setattr__"=some (some (.builtin "object.__setattr__")))
  (c7:W.findIn K (.ref cn) "source"=some none)
  (gf:W.findIn K (.ref cn) "to"=some none)
  (c8:W.findIn K (.ref cn) "writes"=some (%[ke|45]))
  (c9:W.isFn K (.ref ke)=true)
  (dB:W.findIn K (.ref cn) "reads"=some (%[kk|45]))
  (dJ:W.isFn K (.ref kk)=true)
  (e7:W.findIn K (.ref cn) "run"=some (%[kn|45]))
  (e8:W.isFn K (.ref kn)=true)
  (cc:W.findIn K (.ref cn) "__init__"=some (%[kc|45]))
  (cf:W.isFn K (.ref kc)=true)
  (ho:W.makesIn K cn=true)
  (hq:W.keepIn K (.ref cn)=true)
  {HE:Tok} (w0:W.nsIn K mainGlobals "MOST_TOLD"=some (some (.int 4096 HE)))
  {HF:Tok} (w1:W.nsIn K mainGlobals "MOST_ROOM"=some (some (.int 1000000000000000000 HF)))
  {HG:Tok} (w2:W.nsIn K mainGlobals "MOST_SIZE"=some (some (.int 1000000000 HG)))
  {HH:Tok} (w3:W.nsIn K mainGlobals "MOST_AXES"=some (some (.int 8 HH)))
  {HI:Tok} (w4:W.nsIn K mainGlobals "MOST_STATEMENTS"=some (some (.int 60 HI)))
  (z0:W.nsIn K mainGlobals "ValueError"=some none)
  (z1:W.nsIn K mainGlobals "all"=some none)
  (z2:W.nsIn K mainGlobals "bool"=some none)
  (z3:W.nsIn K mainGlobals "enumerate"=some none)
  (z4:W.nsIn K mainGlobals "int"=some none)
  (z5:W.nsIn K mainGlobals "isinstance"=some none)
  (z6:W.nsIn K mainGlobals "len"=some none)
  (z7:W.nsIn K mainGlobals "list"=some none)
  (z8:W.nsIn K mainGlobals "max"=some none)
  (z9:W.nsIn K mainGlobals "min"=some none)
  (HJ:W.nsIn K mainGlobals "range"=some none)
  (HK:W.nsIn K mainGlobals "sum"=some none)
  (HL:W.nsIn K mainGlobals "tuple"=some none)
  (HM:W.nsIn K mainGlobals "zip"=some none)
  {r3:Addr} (HN:W.nsIn K mainGlobals "__builtins__"=some (%[r3|45])) (HP:K.lookup r3=none)
  : (∀ p∈tqs,K.lookup p.1=none/\∃ c,lU K c p.1)/\(∀ bm,mg "__builtins__"=%[bm|45]->K.lookup bm=none)/\∃ fd:FuncData,(∀ (s:Shared) (v:Value),BindsTo s fd ⟨[v],[]⟩ [("_law_script",v)])/\∀ base:Heap,K.In base->base.Ns mainGlobals mg->aM l.prog w K mg base CX0 11 fa fd ["_law_script"] (xj K mg):=by
 have e:=r6.symm.trans (QI X G r0);cases e;have r4:=Ek (st:=fM) xB x7 yd;have r5:=Ek (st:=jD) HB HC HD;have T:Tx K mg ⟨C0,C1,C2,C3,C4,C5,C6,C7,C8,C9,cg,ck,cm,cn,f0,_,f1,_,f2,_,f3,_,f4,_,f5,_,f6,_,f7,_,f8,_,f9,_,k6,_,hW,_,hX,_,hY,_,h3,_,h4,_,h5,_,h6,_,h7,_,l1,_,l2,_,l3,_,h8,_,h9,_,ih,_,ij,_,iv,_,iz,_,i0,_,mv,_,i1,_,g4,_,i3,_,i5,_,jz,_,j0,_,j1,_,j2,_,j3,_,j4,_,j5,_,j6,_,j7,_,j9,_,kc,_,ke,_,kk,_,kn,_,nT,_,n0,_,n1,_,n2,_,kr,_,n3,_,n4,_,n5,_,n7,_,n8,_,oj,_,oD,_,oJ,_,oL,_,oN,_,oT,_,o2,_,o3,_,o4,_,fa,_⟩:=⟨QI X G y0,QI X G y1,QI X G y2,QI X G y3,QI X G y4,QI X G y5,QI X G y6,QI X G y7,QI X G y8,QI X G y9,QI X G r7,QI X G r9,QI X G sb,QI X G sd,qCo,qCp,qAf,qAg,qAc,ocs,oct,qC9,qCa,qCb,qCc,qCd,qCe,qCf,qCg,qCh,qCi,qCj,qCk,qBx,qBy,qBz,qC0,qC1,qC2,qB1,qB2,qB3,qB4,qB5,qB6,qB7,qAl,qAm,qAn,qAo,qB8,qB9,qBa,qBb,qBc,qBd,qBe,qAp,qAq,qAr,qAs,qAt,qAu,qAv,qAw,qAx,qAy,qAz,qB0,qAh,qAi,qAj,qAa,qAb,qA8,⟨_,QI X G w0⟩,⟨_,QI X G w1⟩,⟨_,QI X G w2⟩,⟨_,QI X G w3⟩,⟨_,QI X G w4⟩,⟨gg,gk,⟨gn,gp,gx⟩⟩,b4,b5,⟨eK,eL,eM⟩,⟨ht,hu,hv,hy⟩,eN,dN,eP,⟨hz,cp,cv,hA⟩,⟨dS,ea,la.kp⟩,⟨eb,ec,lb.kp⟩,⟨ee,eg,lk.kp⟩,⟨eQ,eS,lp.kp⟩,⟨ek,el,lx.kp⟩,⟨en,ep,ly.kp⟩,⟨cA,cJ,l0.kp⟩,⟨g5,g6,g7,g8⟩,da,⟨hc,b6,b7,hg⟩,⟨bb,bp,l4.kp⟩,⟨aq,ar,l5.kp⟩,⟨er,et,l7.kp⟩,⟨eT,eU,l8.kp⟩,⟨ew,ey,mc.kp⟩,⟨c5,c6,mu.kp⟩,⟨e0,e1,e3,e4⟩,⟨e5,ez,e6⟩,⟨bt,b1,mT.kp⟩,⟨b2,b3,i2.kp⟩,⟨cN,cT,mW.kp⟩,⟨hB,hC,hD,hE⟩,gD,eB,⟨dc,de,m1.kp⟩,⟨eC,eD,i2.kp⟩,⟨e9,fo,m2.kp⟩,⟨hF,cV,c0,hG⟩,⟨hI,hJ,hK,hL⟩,dr,gJ,⟨du,dy,m3.kp⟩,⟨eE,eG,m4.kp⟩,⟨fu,fv,m5.kp⟩,⟨hM,c1,c2,hN⟩,⟨hO,hP,hQ,hR⟩,fz,eH,⟨dz,dA,m6.kp⟩,⟨eI,eJ,nf.kp⟩,⟨gc,gd,ng.kp⟩,⟨hS,c3,c4,hT⟩,⟨hh,hj,hk,hl⟩,c7,gf,⟨c8,c9,nq.kp⟩,⟨dB,dJ,nD.kp⟩,⟨e7,e8,nJ.kp⟩,⟨ho,cc,cf,hq⟩,F0,F0.binds (ps:=["self", "number"]) (λ _ _ _ _ _ _=>jL (λ _ _=>rfl)),F1,QI X G a1,F1.binds (ps:=["thing"]) (λ _ _ _ _ _ _=>gL (λ _=>rfl)),F2,QI X G a2,F2.binds (ps:=["sizes"]) (λ _ _ _ _ _ _=>gL (λ _=>rfl)),F3,QI X G a3,F3.binds (ps:=["thing", "bound"]) (λ _ _ _ _ _ _=>jL (λ _ _=>rfl)),F4,QI X G a4,F4.binds (ps:=["sizes", "thing"]) (λ _ _ _ _ _ _=>jL (λ _ _=>rfl)),F5,QI X G a5,F5.binds (ps:=["count"]) (λ _ _ _ _ _ _=>gL (λ _=>rfl)),F6,QI X G a6,F6.binds (ps:=["thing", "low", "high"]) (λ _ _ _ _ _ _=>vk (λ _ _ _=>rfl)),F7,QI X G a7,F7.binds (ps:=["thing"]) (λ _ _ _ _ _ _=>gL (λ _=>rfl)),F8,QI X G a8,F8.binds (ps:=["thing"]) (λ _ _ _ _ _ _=>gL (λ _=>rfl)),F9,QI X G a9,F9.binds (ps:=["thing"]) (λ _ _ _ _ _ _=>gL (λ _=>rfl)),pa,QI X G sf,pa.binds (ps:=["axis"]) (λ _ _ _ _ _ _=>gL (λ _=>rfl)),pb,pb.binds (ps:=%[|121]) (λ _ _ _ _ _ _=>P0 (λ _ _ _ _=>rfl)),la,la.binds (ps:=%[|108]) (λ _ _ _ _ _ _=>gL (λ _=>rfl)),lb,lb.binds (ps:=%[|108]) (λ _ _ _ _ _ _=>gL (λ _=>rfl)),lk,lk.binds (ps:=%[|108]) (λ _ _ _ _ _ _=>gL (λ _=>rfl)),lp,lp.binds (ps:=["self", "place"]) (λ _ _ _ _ _ _=>jL (λ _ _=>rfl)),lx,lx.binds (ps:=%[|108]) (λ _ _ _ _ _ _=>gL (λ _=>rfl)),ly,ly.binds (ps:=%[|108]) (λ _ _ _ _ _ _=>gL (λ _=>rfl)),l0,l0.binds (ps:=%[|108]) (λ _ _ _ _ _ _=>gL (λ _=>rfl)),pj,QI X G tq,pj.binds (ps:=["cells", "size", "pace"]) (λ _ _ _ _ _ _=>vk (λ _ _ _=>rfl)),pD,QI X G ts,pD.binds (ps:=%[|125]) (λ _ _ _ _ _ _=>jL (λ _ _=>rfl)),p1,QI X G t2,p1.binds (ps:=["view", "many"]) (λ _ _ _ _ _ _=>jL (λ _ _=>rfl)),p3,p3.binds (ps:=["self", "values"]) (λ _ _ _ _ _ _=>jL (λ _ _=>rfl)),l4,l4.binds (ps:=%[|108]) (λ _ _ _ _ _ _=>gL (λ _=>rfl)),l5,l5.binds (ps:=%[|120]) (λ _ _ _ _ _ _=>jL (λ _ _=>rfl)),l7,l7.binds (ps:=%[|120]) (λ _ _ _ _ _ _=>jL (λ _ _=>rfl)),l8,l8.binds (ps:=["self", "view", "values"]) (λ _ _ _ _ _ _=>vk (λ _ _ _=>rfl)),mc,mc.binds (ps:=["self", "view", "value"]) (λ _ _ _ _ _ _=>vk (λ _ _ _=>rfl)),mu,mu.binds (ps:=%[|116]) (λ _ _ _ _ _ _=>vk (λ _ _ _=>rfl)),p4,QI X G va,p4.binds (ps:=%[|125]) (λ _ _ _ _ _ _=>jL (λ _ _=>rfl)),mT,mT.binds (ps:=%[|108]) (λ _ _ _ _ _ _=>gL (λ _=>rfl)),i2,i2.binds (ps:=%[|108]) (λ _ _ _ _ _ _=>gL (λ _=>rfl)),mW,mW.binds (ps:=%[|113]) (λ _ _ _ _ _ _=>jL (λ _ _=>rfl)),p5,p5.binds (ps:=["self", "to", "value"]) (λ _ _ _ _ _ _=>vk (λ _ _ _=>rfl)),m1,m1.binds (ps:=%[|108]) (λ _ _ _ _ _ _=>gL (λ _=>rfl)),m2,m2.binds (ps:=%[|113]) (λ _ _ _ _ _ _=>jL (λ _ _=>rfl)),p6,p6.binds (ps:=%[|116]) (λ _ _ _ _ _ _=>vk (λ _ _ _=>rfl)),m3,m3.binds (ps:=%[|108]) (λ _ _ _ _ _ _=>gL (λ _=>rfl)),m4,m4.binds (ps:=%[|108]) (λ _ _ _ _ _ _=>gL (λ _=>rfl)),m5,m5.binds (ps:=%[|113]) (λ _ _ _ _ _ _=>jL (λ _ _=>rfl)),qa,qa.binds (ps:=["self", "one", "other"]) (λ _ _ _ _ _ _=>vk (λ _ _ _=>rfl)),m6,m6.binds (ps:=%[|108]) (λ _ _ _ _ _ _=>gL (λ _=>rfl)),nf,nf.binds (ps:=%[|108]) (λ _ _ _ _ _ _=>gL (λ _=>rfl)),ng,ng.binds (ps:=%[|113]) (λ _ _ _ _ _ _=>jL (λ _ _=>rfl)),qb,qb.binds (ps:=%[|116]) (λ _ _ _ _ _ _=>vk (λ _ _ _=>rfl)),nq,nq.binds (ps:=%[|108]) (λ _ _ _ _ _ _=>gL (λ _=>rfl)),nD,nD.binds (ps:=%[|108]) (λ _ _ _ _ _ _=>gL (λ _=>rfl)),nJ,nJ.binds (ps:=%[|113]) (λ _ _ _ _ _ _=>jL (λ _ _=>rfl)),qj,QI X G wo,qj.binds (ps:=["statement"]) (λ _ _ _ _ _ _=>gL (λ _=>rfl)),qn,QI X G w7,qn.binds (ps:=["views"]) (λ _ _ _ _ _ _=>gL (λ _=>rfl)),qx,QI X G xu,qx.binds (ps:=["views"]) (λ _ _ _ _ _ _=>gL (λ _=>rfl)),qD,QI X G xx,qD.binds (ps:=%[|127]) (λ _ _ _ _ _ _=>gL (λ _=>rfl)),r4,QI X G xA,r4.binds (ps:=%[|127]) (λ _ _ _ _ _ _=>gL (λ _=>rfl)),q5,QI X G zc,q5.binds (ps:=%[|127]) (λ _ _ _ _ _ _=>gL (λ _=>rfl)),q6,QI X G A1,q6.binds (ps:=%[|126]) (λ _ _ _ _ _ _=>jL (λ _ _=>rfl)),q7,QI X G B5,q7.binds (ps:=["_law_script", "_law_k", "_law_many"]) (λ _ _ _ _ _ _=>vk (λ _ _ _=>rfl)),q8,QI X G D1,q8.binds (ps:=["_law_found"]) (λ _ _ _ _ _ _=>gL (λ _=>rfl)),q9,QI X G D3,q9.binds (ps:=%[|129]) (λ _ _ _ _ _ _=>jL (λ _ _=>rfl)),ra,QI X G D8,ra.binds (ps:=["_law_first", "_law_axes"]) (λ _ _ _ _ _ _=>jL (λ _ _=>rfl)),rb,QI X G Fn,rb.binds (ps:=["_law_script", "_law_at", "_law_room"]) (λ _ _ _ _ _ _=>vk (λ _ _ _=>rfl)),rf,QI X G Gb,rf.binds (ps:=["_law_views", "_law_cell"]) (λ _ _ _ _ _ _=>jL (λ _ _=>rfl)),ri,QI X G Ge,ri.binds (ps:=["_law_view"]) (λ _ _ _ _ _ _=>gL (λ _=>rfl)),rk,QI X G G1,rk.binds (ps:=["_law_drawn_here", "_law_room"]) (λ _ _ _ _ _ _=>jL (λ _ _=>rfl)),rm,QI X G G3,rm.binds (ps:=["_law_values", "_law_drawn_here"]) (λ _ _ _ _ _ _=>jL (λ _ _=>rfl)),rr,QI X G G5,rr.binds (ps:=["_law_row", "_law_cell"]) (λ _ _ _ _ _ _=>jL (λ _ _=>rfl)),ru,QI X G G7,ru.binds (ps:=["_law_store", "_law_statements"]) (λ _ _ _ _ _ _=>jL (λ _ _=>rfl)),rv,QI X G Hx,rv.binds (ps:=["_law_script", "_law_room", "_law_good"]) (λ _ _ _ _ _ _=>vk (λ _ _ _=>rfl)),r5,QI X G r0,r5.binds (ps:=["_law_script"]) (λ _ _ _ _ _ _=>gL (λ _=>rfl)),Ra X G z0,Ra X G z1,Ra X G z2,Ra X G z3,Ra X G z4,Ra X G z5,Ra X G z6,Ra X G z7,Ra X G z8,Ra X G z9,Ra X G HJ,Ra X G HK,Ra X G HL,Ra X G HM,⟨⟨g0,rfl,q4⟩,by decide⟩⟩;refine⟨λ p hp=>?_,λ bm hb=>?_,?_⟩
 ·simp only [tqs,QG,QC,Rr] at hp
  rcases hp with rfl
  ·exact⟨yx,_,q4⟩
 ·have e2:=hb.symm.trans (QI X G HN);cases e2;exact HP
 exact⟨W.fnOf "law" "law" (fO jD) (cX jD) (aa jD) .none kx kE kQ kv hs kT,λ s v=>.of_eq rfl,λ base _ _=>KH T⟩
def Qe{l:W.OpenLaw}{q:Program}{loose:List Str}{XP:(Str->Option Value)->Heap->Prop}{YP:World->Heap->Prop}{d:DefRec}{K:Params->W.Frag}(hn:l.most=some 63)(aq:d.params.defaults=[])
  (hY:∀ (w:World) (h:Heap),YP w h->(K w.params).In h) (ar:∀ (w:World) (h:Heap),YP w h->∀ p∈tqs,h.get? p.1=some (W.tabObj #[]))
  (F:∀ (w:World) (mg:Str->Option Value) (fa:Addr) (h:Heap),(K w.params).In h->h.Ns mainGlobals mg->mg d.name=%[fa|45] →
   (∀ p∈tqs,(K w.params).lookup p.1=none/\∃ c,lU (K w.params) c p.1)/\(∀ bm,mg "__builtins__"=%[bm|45]->(K w.params).lookup bm=none)/\∃ fd:FuncData,(∀ (s:Shared) (u:Value),BindsTo s fd ⟨[u],[]⟩ [("_law_script",u)])/\∀ base:Heap,(K w.params).In base->base.Ns mainGlobals mg->aM l.prog w (K w.params) mg base CX0 11 fa fd ["_law_script"] (xj (K w.params) mg)) :
  W.WalkO q loose XP YP l.row.toRowW d [] (λ f vs=>PySem.call f vs):=
 L2.MF tqs (n:=63) (k:=11) (x := "_law_script") (CX:=λ _=>CX0) (sp:=λ w mg=>xj (K w.params) mg) hn ⋯ aq ⟨rfl,by decide,by decide⟩ hY ar ⋯ F (λ _ _ _ a ns hl hS hT=>⟨a,rfl,ns,hS,hl,hT,λ _=>rfl⟩) λ _ _ _ _ _ z=>z
end PH
namespace PySem.W.Fast
def tw10206537576822824358:=0
def tw3092418170009489510:=0
def tw4384172008607038135:=0
def tw12428037799707535171:=0
def tw2417444155591548244:=0
def tw9895768543313194149:=0
def tw13767705293812850184:=0
def tw13232111929216585451:=0
def tw16021495123958050756:=0
def tw3380540318321749122:=0
def tw17681652120335336874:=0
def tw9108913367128912799:=0
def tw6597895942318203918:=0
def tw6973359820465747967:=0
def tw11074568294289085188:=0
def tw16813934467075956107:=0
def tw15106864613703240663:=0
def tw16735984426601875992:=0
def tw15768660140708090749:=0
def tw7238202534790594083:=0
def tw4040174527431084180:=0
def tw9741437600216727420:=0
def tw1961486721494673535:=0
def tw15476489162851645115:=0
def tw18345543809898533513:=0
def tw1019294071106752592:=0
def tw8790955580001151519:=0
def tw12535193776066672528:=0
def tw18079856202399480182:=0
def tw6982818464439051600:=0
def tw11071587454147322613:=0
def tw9093801334965604494:=0
def tw17076389179130861134:=0
def tw15985320647094805516:=0
def tw13735646884522754671:=0
def tw7034987806174473234:=0
def tw12869531955246919245:=0
def tw10999661094823385360:=0
def tw8019582711803121255:=0
def tw6173311300626531290:=0
def tw12009700933197020816:=0
def tw10421952215979813452:=0
def tw2551735392672259983:=0
def tw18098392508942436584:=0
def tw9441172011121769796:=0
def tw14005115950795325446:=0
def tw1844072390147790926:=0
def tw14098333374270661168:=0
def tw16062045393270947662:=0
def tw8801519656457872869:=0
def tw18344453391071796844:=0
def tw6881041584296556590:=0
def tw787411119242639812:=0
def tw12998879221611803384:=0
def tw14096488288380997452:=0
def tw5784412036515383478:=0
def tw3213760555192436534:=0
def tw5922378629045186021:=0
def tw8140100258972865118:=0
def tw13612228606179577881:=0
def tw5727885329206105478:=0
def tw17346718533348558586:=0
def tw16518629504010969172:=0
def tw16900494088461315221:=0
def tw10730663520610853753:=0
def tw18033665000462898497:=0
def tw3653277777210157224:=0
def tw4687396032137611529:=0
def tw14791681841593431178:=0
def tw16090141260991983463:=0
def tw10352843695251646127:=0
def tw5382062954730087536:=0
def tw3988175768582661880:=0
def tw756881903259525883:=0
def tw2730972828837872664:=0
def tw16139753809622428914:=0
def tw7023690867599946889:=0
def tw10568498696088328243:=0
def tw2357387832741844442:=0
def tw5285665298634972473:=0
def tw1513271762711999410:=0
def tw12362185161319636901:=0
def tw2400954566449544281:=0
def tw13887483395844019281:=0
def tw10489662976860855896:=0
def tw16001423417272975661:=0
def tw9185521039329978432:=0
def tw5528183704717864790:=0
def tw2419875650415457461:=0
def tw5598559686862380903:=0
def tw1858707437422178022:=0
def tw18163580743338486007:=0
def tw1735719849151052873:=0
def tw18310633561919028992:=0
def tw15022855288122130234:=0
def tw4975856105115210692:=0
def tw18413897190950724458:=0
def tw2004148441562918418:=0
def tw7153287947965091099:=0
def tw15832591227213165906:=0
def tw9393083391512198861:=0
def tw1265950923765916023:=0
def tw3418523643510746607:=0
def tw9849800165561028185:=0
def tw8433078652885925452:=0
end PySem.W.Fast
open PySem PySem.W PyProof.Rows
local macro_rules | `(tactic| infer_instance) => `(tactic| first|k_is|k_exc|kts_exm|decide|rfl|decide +kernel|kernel_rfl)
theorem PySem.Challenge.cw_pacehall_k84_whole_any_order_in_rounds_holds : PySem.Challenge.rw_pacehall_k84_whole_any_order_in_rounds.Holds := by
 w_on;o_law;k_head;(case hw=>w_witness2)
 k_fill
 refine PH.Qe (l:=PySem.Challenge.rw_pacehall_k84_whole_any_order_in_rounds) rfl rfl (λ w h Y=>PySem.W.km_in_of Y) (λ w h Y p hp=>PySem.W.km_tabs_of Y p.1 ((show ∀ p∈PH.tqs,p.1∈[547] by decide) p hp)) ?F
 case F=>
  intro w mg fa h KX G hmg
  refine' PH.Py KX G hmg ?y0 ?y1 ?y2 ?y3 ?y4 ?y5 ?y6 ?y7 ?y8 ?y9 ?y10 ?y11 ?y12 ?y13 ?qCo ?qCp ?qAf ?qAg ?qAc ?ocs ?oct ?qC9 ?qCa ?qCb ?qCc ?qCd ?qCe ?qCf ?qCg ?qCh ?qCi ?qCj ?qCk ?qBx ?qBy ?qBz ?qC0 ?qC1 ?qC2 ?qB1 ?qB2 ?qB3 ?qB4 ?qB5 ?qB6 ?qB7 ?qAl ?qAm ?qAn ?qAo ?qB8 ?qB9 ?qBa ?qBb ?qBc ?qBd ?qBe ?qAp ?qAq ?qAr ?qAs ?qAt ?qAu ?qAv ?qAw ?qAx ?qAy ?qAz ?qB0 ?qAh ?qAi ?qAj ?qAa ?qAb ?qA8 ?F0 ?a1 ?F1 ?a2 ?F2 ?a3 ?F3 ?a4 ?F4 ?a5 ?F5 ?a6 ?F6 ?a7 ?F7 ?a8 ?F8 ?a9 ?F9 ?a10 ?F10 ?F11 ?F12 ?F13 ?F14 ?F15 ?F16 ?F17 ?F18 ?a19 ?F19 ?a20 ?F20 ?a21 ?F21 ?F22 ?F23 ?F24 ?F25 ?F26 ?F27 ?F28 ?a29 ?F29 ?F30 ?F31 ?F32 ?F33 ?F34 ?F35 ?F36 ?F37 ?F38 ?F39 ?F40 ?F41 ?F42 ?F43 ?F44 ?F45 ?F46 ?F47 ?a48 ?F48 ?a49 ?F49 ?a50 ?F50 ?a51 ?F51 ?a52 ?l52 ?c52 ?k52 ?u52 ?v52 ?a53 ?F53 ?a54 ?F54 ?a55 ?F55 ?a56 ?F56 ?a57 ?F57 ?a58 ?F58 ?a59 ?F59 ?a60 ?F60 ?a61 ?F61 ?a62 ?F62 ?a63 ?F63 ?a64 ?F64 ?a65 ?F65 ?a66 ?F66 ?a67 ?l67 ?c67 ?k67 ?qEd ?xe_TooMany ?xf_TooMany ?xo_TooMany ?xs_TooMany ?xh_TooMany ?nt_TooMany_number ?nf_TooMany_number ?bs_PaceError ?br_PaceError ?bf_PaceError ?pg_View ?qEi ?po_View ?sa_View ?nf_View_axes ?nf_View_first ?nf_View_room ?qD8 ?fn_View___init__ ?mm_View ?ck_View ?qDv ?fn_View_sizes ?qDw ?fn_View_paces ?qDx ?fn_View_count ?qE5 ?fn_View_cell ?qDy ?fn_View_cells ?qDz ?fn_View_least ?qD9 ?fn_View_greatest ?pg_Store ?qEf ?po_Store ?sa_Store ?nf_Store_floor ?qD2 ?fn_Store___init__ ?mm_Store ?ck_Store ?qCw ?fn_Store_all_values ?qCt ?fn_Store_refuse_room ?qE0 ?fn_Store_read ?qE6 ?fn_Store_put ?qE1 ?fn_Store_fill ?qDg ?fn_Store_copied ?pg_Statement ?qE7 ?po_Statement ?sa_Statement ?mm_Statement ?ck_Statement ?fi0_Statement ?qCx ?fn_Statement_writes ?qD0 ?fn_Statement_reads ?qDa ?fn_Statement_run ?pg_Fill ?qEj ?po_Fill ?sa_Fill ?nf_Fill_to ?nf_Fill_value ?qDm ?fn_Fill_writes ?qE2 ?fn_Fill_reads ?qE9 ?fn_Fill_run ?qDb ?fn_Fill___init__ ?mm_Fill ?ck_Fill ?pg_Copy ?qEk ?po_Copy ?sa_Copy ?nf_Copy_source ?nf_Copy_to ?qDn ?fn_Copy_writes ?qE3 ?fn_Copy_reads ?qEa ?fn_Copy_run ?qDc ?fn_Copy___init__ ?mm_Copy ?ck_Copy ?pg_Swap ?qEl ?po_Swap ?sa_Swap ?nf_Swap_one ?nf_Swap_other ?qDo ?fn_Swap_writes ?qE4 ?fn_Swap_reads ?qEb ?fn_Swap_run ?qDd ?fn_Swap___init__ ?mm_Swap ?ck_Swap ?pg_Raise ?qEg ?po_Raise ?sa_Raise ?nf_Raise_source ?nf_Raise_to ?qDh ?fn_Raise_writes ?qDp ?fn_Raise_reads ?qE8 ?fn_Raise_run ?qD3 ?fn_Raise___init__ ?mm_Raise ?ck_Raise ?w0 ?w1 ?w2 ?w3 ?w4 ?z0 ?z1 ?z2 ?z3 ?z4 ?z5 ?z6 ?z7 ?z8 ?z9 ?z10 ?z11 ?z12 ?z13 ?wb0 ?wb1
  (case y0|y1|y2|y3|y4|y5|y6|y7|y8|y9|y10|y11=>infer_instance)
  (case y12|y13|qEd|qD8|qDv|qDw|qDx|qE5|qDy|qDz|qD9|qD2=>infer_instance)
  (case qCw|qCt|qE0|qE6|qE1|qDg|qCx|qD0|qDa|qDm|qE2|qE9=>infer_instance)
  (case qDb|qDn|qE3|qEa|qDc|qDo|qE4|qEb|qDd|qDh|qDp|qE8=>infer_instance)
  (case qD3|a1|a2|a3|a4|a5|a6|a7|a8|a9|a10|a19=>infer_instance)
  (case a20|a21|a29|a48|a49|a50|a51|a52|a53|a54|a55|a56=>infer_instance)
  (case a57|a58|a59|a60|a61|a62|a63|a64|a65|a66|a67=>infer_instance)
  (case F0|F1|F2|F3|F4|F5|F6|F7|F8|F9|F10|F11=>(refine' L2.Ek ?l ?c ?k;(case l|c|k=>infer_instance)))
  (case F12|F13|F14|F15|F16|F17|F18|F19|F20|F21|F22|F23=>(refine' L2.Ek ?l ?c ?k;(case l|c|k=>infer_instance)))
  (case F24|F25|F26|F27|F28|F29|F30|F31|F32|F33|F34|F35=>(refine' L2.Ek ?l ?c ?k;(case l|c|k=>infer_instance)))
  (case F36|F37|F38|F39|F40|F41|F42|F43|F44|F45|F46|F47=>(refine' L2.Ek ?l ?c ?k;(case l|c|k=>infer_instance)))
  (case F48|F49|F50|F51|F53|F54|F55|F56|F57|F58|F59|F60=>(refine' L2.Ek ?l ?c ?k;(case l|c|k=>infer_instance)))
  (case F61|F62|F63|F64|F65|F66=>(refine' L2.Ek ?l ?c ?k;(case l|c|k=>infer_instance)))
  (case qCo|qCp|qAf|qAg|qAc|ocs|oct|qC9|qCa|qCb|qCc|qCd=>infer_instance)
  (case qCe|qCf|qCg|qCh|qCi|qCj|qCk|qBx|qBy|qBz|qC0|qC1=>infer_instance)
  (case qC2|qB1|qB2|qB3|qB4|qB5|qB6|qB7|qAl|qAm|qAn|qAo=>infer_instance)
  (case qB8|qB9|qBa|qBb|qBc|qBd|qBe|qAp|qAq|qAr|qAs|qAt=>infer_instance)
  (case qAu|qAv|qAw|qAx|qAy|qAz|qB0|qAh|qAi|qAj|qAa|qAb=>infer_instance)
  (case qA8|l52|c52|k52|v52|l67|c67|k67|xe_TooMany|xf_TooMany|xo_TooMany|xs_TooMany=>infer_instance)
  (case xh_TooMany|nt_TooMany_number|nf_TooMany_number|bs_PaceError|br_PaceError|bf_PaceError|pg_View|qEi|po_View|sa_View|nf_View_axes|nf_View_first=>infer_instance)
  (case nf_View_room|fn_View___init__|mm_View|ck_View|fn_View_sizes|fn_View_paces|fn_View_count|fn_View_cell|fn_View_cells|fn_View_least|fn_View_greatest|pg_Store=>infer_instance)
  (case qEf|po_Store|sa_Store|nf_Store_floor|fn_Store___init__|mm_Store|ck_Store|fn_Store_all_values|fn_Store_refuse_room|fn_Store_read|fn_Store_put|fn_Store_fill=>infer_instance)
  (case fn_Store_copied|pg_Statement|qE7|po_Statement|sa_Statement|mm_Statement|ck_Statement|fi0_Statement|fn_Statement_writes|fn_Statement_reads|fn_Statement_run|pg_Fill=>infer_instance)
  (case qEj|po_Fill|sa_Fill|nf_Fill_to|nf_Fill_value|fn_Fill_writes|fn_Fill_reads|fn_Fill_run|fn_Fill___init__|mm_Fill|ck_Fill|pg_Copy=>infer_instance)
  (case qEk|po_Copy|sa_Copy|nf_Copy_source|nf_Copy_to|fn_Copy_writes|fn_Copy_reads|fn_Copy_run|fn_Copy___init__|mm_Copy|ck_Copy|pg_Swap=>infer_instance)
  (case qEl|po_Swap|sa_Swap|nf_Swap_one|nf_Swap_other|fn_Swap_writes|fn_Swap_reads|fn_Swap_run|fn_Swap___init__|mm_Swap|ck_Swap|pg_Raise=>infer_instance)
  (case qEg|po_Raise|sa_Raise|nf_Raise_source|nf_Raise_to|fn_Raise_writes|fn_Raise_reads|fn_Raise_run|fn_Raise___init__|mm_Raise|ck_Raise|w0=>infer_instance)
  (case w1|w2|w3|w4|z0|z1|z2|z3|z4|z5|z6|z7=>infer_instance)
  (case z8|z9|z10|z11|z12|z13|wb0|wb1=>infer_instance)
  (case u52=>(refine' L2.MH ?l ?h2 ?h3 ?h4 ?h5 ?h6 ?h7 ?h8;(case l=>k_is);(case h2|h3|h4|h5|h6|h7=>rfl);(case h8=>decide)))
#print axioms PySem.Challenge.cw_pacehall_k84_whole_any_order_in_rounds_holds