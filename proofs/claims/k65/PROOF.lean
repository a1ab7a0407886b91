import PyProof.Rows.All
import Wide.All
import OpenK.AllK
import Wide.FinOn
import Lean
import PyProof.EqAt
import PyProof.EqKinds
import PyProof.TupleCall
import PySem.Challenge.RW_pacehall_k65_rows_leave_the_copy
set_option Elab.async false
set_option linter.all false
set_option maxRecDepth 100000
set_option maxHeartbeats 0
open List (mem_cons_self mem_cons_of_mem mem_append_left mem_append_right length_cons map_cons length_map append_nil length_take getElem?_append_right getElem?_append_left getElem?_map mem_of_getElem? length_append size_toArray length_singleton map_nil find?_cons cons_append getElem_mem getElem?_eq_getElem forIn_cons lookup_cons mem_cons not_mem_nil take_of_length_le take_length all_eq_true getElem_of_mem nodup_cons nodup_nil nodup_append getElem_map map_append map_map ext_getElem take_add_one pairwise_map mem_singleton length_range append_of_mem mem_append getD_eq_getElem?_getD take_zero filter_cons eq_nil_or_concat)
namespace QL
def K0:=@PySem.wpAny_bind
def K1:=@List.getElem?_eq_getElem
def K2:=@PySem.Heap.get?_push_of_some
def La:=@PySem.Heap.lt_size
def Lb:=@List.getElem?_eq_some_iff
def Lc:=@List.length_map
def Ld:=@List.not_mem_nil
def Le:=@List.mem_map
def Lf:=@PySem.wpAny_pure
def Lg:=@List.mem_cons_of_mem
def Lh:=@PySem.Heap.get?_push_size
def Li:=@Nat.le_refl
def Lj:=@List.mem_cons_self
def Lk:=@Option.map_eq_some_iff
def Ll:=@Nat.ne_of_lt
def Lm:=@if_neg
def Ln:=@List.length_append
def Lo:=@if_pos
def Lq:=@List.mem_singleton
def Lr:=@List.getElem?_map
def Ls:=@PySem.F.plainAttrs_list
def Lu:=@Option.some.inj
def Lv:=@Ne.symm
def Lw:=@List.mem_append_right
def Lx:=@Bool.false_ne_true
def Ly:=@List.mem_of_getElem?
def Lz:=@List.mem_cons
def LA:=@Nat.lt_of_lt_of_le
def LB:=@PySem.PassesOwn.never
def LC:=@List.size_toArray
def LD:=@Nat.zero_le
def LF:=@List.mem_range
def LG:=@List.map_append
def LH:=@List.map_cons
def LI:=@Int.toNat_natCast
def LJ:=@List.mem_append
def LK:=@PySem.W.mg_of
def LL:=@List.getD_eq_getElem?_getD
def LM:=@PySem.F.type_list_append
def LN:=@PySem.F.slot_list_append
def LO:=@List.nodup_cons
def LP:=@List.getElem?_append_right
def LQ:=@Nat.lt_irrefl
def LR:=@List.length_cons
def LS:=@Nat.ne_of_gt
def LU:=@Nat.le_trans
def LV:=@List.map_map
def LW:=@List.take_add_one
def LX:=@PySem.Heap.get?_update_self
def LY:=@Nat.lt_succ_of_lt
def LZ:=@Int.emod_lt_of_pos
def L0:=@Bool.false_eq_true
def L3:=@List.getElem?_append_left
def L4:=@PySem.Heap.size_push
def L5:=@PySem.Heap.get?_update_other
def L6:=@PyProof.Rows.callWith_type1
def L7:=@List.filter_eq_self
def L8:=@or_false
def L9:=@List.nodup_append
def Ma:=@List.mem_append_left
def Mb:=@PySem.W.mg_none_of
def Mc:=@PySem.wpAny_holding
def Md:=@Int.emod_nonneg
def Me:=@List.take_length
def Mf:=@PySem.wpAny_field
def Mg:=@List.nodup_nil
def Mh:=@PySem.Heap.size_update
def Mi:=@List.length_take
def Mj:=@PySem.Heap.get?_update_ne
def Ml:=@List.cons.inj
def Mm:=@PySem.wpAny_seqItems
def Mn:=@List.nodup_iff_pairwise_ne
def Mo:=@List.length_range
def Mp:=@Array.length_toList
def Mq:=@decide_eq_false
def Mr:=@List.getElem_of_mem
def Ms:=@List.pairwise_map
def Mt:=@congrArg
def Mu:=@PySem.wpAny_call_entry
def Mv:=@Option.map_some
def Mw:=@PySem.wpAny_callSpecial?_slot
def Mx:=@List.take_of_length_le
def My:=@PySem.Heap.get?_push_ne
def Mz:=@PySem.F.slot_dict_get
def MB:=@Nat.le_succ
def MF:=@List.getElem?_zip_eq_some
def MG:=@List.length_singleton
def MH:=@List.eq_nil_or_concat
def MI:=@PySem.wpAny_setField_rec
def MJ:=@PySem.Paired.length
def MK:=@List.getElem_mem
def ML:=@Int.zero_add
def MM:=@beq_eq_false_iff_ne
def MN:=@PySem.wpAny_truthy_bool
def MO:=@PySem.wpAny_pyIter_list
def MP:=@Nat.le_add_right
def MQ:=@PySem.F.slot_zip_next
def MS:=@List.pairwise_cons
def MU:=@List.take_append_drop
def MV:=@List.mem_filter
def MW:=@List.concat_eq_append
def MX:=@Bool.eq_iff_iff
def MY:=@PySem.wpAny_Call_Name_kw
def MZ:=@PySem.tupleKind_room_in1
def M3:=@List.lookup_cons
def M4:=@PyProof.Rows.listUpdate_at
def M5:=@List.cons_append
def M6:=@PySem.wpAny_updateSeq
def M7:=@PySem.wpAny_passesOwn
def M8:=@decide_eq_true
def M9:=@PySem.F.plain_extend_loop
def Na:=@Array.getElem?_eq_getElem
def Nb:=@if_false
def Nc:=@List.find?_cons
def Nd:=@List.append_of_mem
def Nf:=@Nat.lt_succ_self
def Ng:=@PySem.wpAny_mono
def Nh:=@PySem.mem_of_lookup
def Ni:=@List.map_congr_left
def Nj:=@PySem.F.slot_tuple_iterator_next
def Nk:=@decide_eq_false_iff_not
def Nl:=@List.filter_append
def Nm:=@Int.natCast_nonneg
def Nn:=@Int.eq_ofNat_of_zero_le
def Np:=@PySem.F.entry_dict_get
def Nq:=@not_false_eq_true
def Nr:=@Bool.not_eq_true'
def Nt:=@PySem.W.kia_one
def Nu:=@Nat.le_of_lt
def Nv:=@List.perm_append_comm
def Nw:=@List.getElem?_eq_none
def Nx:=@PySem.Calls.spliced_cons
def Ny:=@List.mem_flatMap
def Nz:=@List.eq_nil_of_length_eq_zero
def NA:=@List.any_eq_true
def NB:=@List.append_nil
def NC:=@PySem.Calls.callWith_builtin
def ND:=@PySem.codeAny_mono
def NF:=@Int.toNat_of_nonneg
def NG:=@Int.le_refl
def NH:=@Array.Perm.refl
def NI:=@PyProof.Rows.wpS_bind
def NJ:=@Array.perm_iff_toList_perm
def NK:=@Nat.lt_trans
def NL:=@List.getElem?_drop
def NM:=@PySem.wpAny_newList
def NN:=@List.take_zero
def NO:=@List.filter_cons
def NP:=@not_or
def NQ:=@bne_self_eq_false
def NR:=@PySem.F.type_list_extend
def NS:=@PySem.F.slot_list_extend
def NT:=@Option.isSome_map
def NU:=@Option.isSome_iff_exists
def NV:=@List.flatMap_cons
def NW:=@PySem.F.type_list_index
def NX:=@PySem.F.slot_list_index
def NY:=@List.length_eq_zero_iff
def NZ:=@List.getElem?_replicate
def N2:=@Bool.and_eq_true
def N3:=@PySem.wpAny_newTuple
def N4:=@List.pairwise_lt_range
def N5:=@List.getElem?_set_self
def N6:=@List.drop_of_length_le
def N7:=@PySem.wpAny_rule
def N8:=@PySem.call_meets
def N9:=@Nat.add_zero
def Oa:=@List.of_mem_zip
def Ob:=@List.length_zip
def Oc:=@List.length_filter_le
def Od:=@List.foldl_cons
def Oe:=@PySem.F.args_zip_next_1
def Of:=@PySem.Calls.spliced_nil
def Og:=@PyProof.Rows.seqEpoch_at
def Oh:=@List.getElem_map
def Oi:=@PyProof.Rows.get?_update_seq
def Oj:=@List.ext_getElem
def Ol:=@List.all_eq_true
def Om:=@PySem.wpAny_letGo
def Oo:=@PySem.wpAny_attempt
def Oq:=@List.mem_of_mem_take
def Ot:=@List.getElem?_set_ne
def Ou:=@List.forIn_nil
def Ov:=@PySem.F.entry_zip_next
def Ow:=@List.sum_append_nat
def Ox:=@List.length_pos_iff
def Oy:=@List.filterMap_cons
def Oz:=@PySem.wpAny_specialOf
def OA:=@PySem.wpAny_execs_nil
def OB:=@List.forIn_cons
def OC:=@List.forIn_toArray
def OD:=@PyProof.Rows.size_push'
def OE:=@PySem.wpAny_updateSeq_pair
def OF:=@if_true
def OG:=@decide_eq_true_eq
def OH:=@beq_iff_eq
def OI:=@List.append_assoc
def OJ:=@PySem.Heap.get?_none_of_le
def OK:=@PySem.Calls.evalArgs_plain
def OL:=@List.map_nil
def OM:=@PySem.wpAny_comprehension_free
def ON:=@Nat.succ.inj
def OO:=@Nat.le_of_eq
def OP:=@Int.le_trans
def OQ:=@beq_self_eq_true
def OR:=@Nat.le_of_not_lt
def OS:=@List.map_fst_zip
def OT:=@PySem.wpAny_standAt
def OU:=@PySem.wpAny_onRaise
def OV:=@List.range_succ
def OW:=@List.length_set
def OX:=@List.length_nil
def OY:=@List.drop_left'
end QL
open QL
namespace L2
open PySem PySem.Spec PyProof.Rows
abbrev Key:=Sum Int Str
def lh:Key->Value->Bool
 | .inl k,v=>Value.isInt k v
 | .inr x,v=>Value.isStrOf x v
def KJ(w:World):Key->Int
 | .inl k=>hashInt k
 | .inr x=>hashStr w x
theorem aE:∀ {k:Key}{v:Value},lh k v=true->(∃ i t,k=Sum.inl i/\v=Value.int i t)\/(∃ x t,k=Sum.inr x/\v=Value.str x t)
 | .inl i,v,h=>by
  obtain⟨t,e⟩:=Value.isInt_shape (k:=i) (v:=v) h;exact .inl ⟨i,t,rfl,e⟩
 | .inr x,v,h=>by
  obtain⟨t,e⟩:=Value.isStrOf_shape (x:=x) (v:=v) h;exact .inr ⟨x,t,rfl,e⟩
theorem uY(i:Int)(t:Tok):lh (.inl i) (.int i t)=true:=by simp [lh,Value.isInt]
theorem uX(x:Str)(t:Tok):lh (.inr x) (.str x t)=true:=by simp [lh,Value.isStrOf]
theorem GC(a b:Int):decide ((Sum.inl a:Key)=Sum.inl b)=(a == b):=by
 by_cases e:a=b
 ·subst e;simp
 ·have h:¬ (Sum.inl a:Key)=Sum.inl b:=λ q=>e (Sum.inl.inj q);rw [Mq h];exact(MM.mpr e).symm
theorem Gz(a b:Str):decide ((Sum.inr a:Key)=Sum.inr b)=decide (a=b):=by
 by_cases e:a=b
 ·subst e;simp
 ·have h:¬ (Sum.inr a:Key)=Sum.inr b:=λ q=>e (Sum.inr.inj q);rw [Mq h,Mq e]
theorem GB(a:Int)(b:Str):decide ((Sum.inl a:Key)=Sum.inr b)=false:=Mq (λ q=>nomatch q)
theorem GA(a:Str)(b:Int):decide ((Sum.inr a:Key)=Sum.inl b)=false:=Mq (λ q=>nomatch q)
def aw(prog:Program)(w:World):PySem.KeyKind prog w Key where
 is:=lh
 hash:=KJ w
 inj:=λ v a b ha hb=>by
  rcases aE ha with ⟨i,t,rfl,rfl⟩|⟨x,t,rfl,rfl⟩
  ·rcases aE hb with ⟨j,u,rfl,e⟩|⟨y,u,rfl,e⟩
   ·injection e with e1 _;rw [e1]
   ·exact nomatch e
  ·rcases aE hb with ⟨j,u,rfl,e⟩|⟨y,u,rfl,e⟩
   ·exact nomatch e
   ·injection e with e1 _;rw [e1]
 byValue:=λ k v h=>by
  rcases aE h with ⟨i,t,rfl,rfl⟩|⟨x,t,rfl,rfl⟩<;>rfl
 pyHash:=λ hv h=>by
  rcases aE hv with ⟨i,t,rfl,rfl⟩|⟨x,t,rfl,rfl⟩
  ·exact wpAny_pyHash_int h
  ·exact wpAny_pyHash_str h
 eqBool:=λ hu hv h=>by
  rcases aE hu with ⟨i,t,rfl,rfl⟩|⟨x,t,rfl,rfl⟩
  ·rcases aE hv with ⟨j,u,rfl,rfl⟩|⟨y,u,rfl,rfl⟩
   ·rw [GC] at h;exact wpAny_eqBool_int h
   ·rw [GB] at h;exact SeqAt.EqAt.int_str i t y u _ _ _ _ h
  ·rcases aE hv with ⟨j,u,rfl,rfl⟩|⟨y,u,rfl,rfl⟩
   ·rw [GA] at h;exact SeqAt.EqAt.str_int x t j u _ _ _ _ h
   ·rw [Gz] at h;exact wpAny_eqBool_str h
 «strs»:=λ k x t v h=>by
  rcases aE h with ⟨i,u,rfl,e⟩|⟨y,u,rfl,e⟩
  ·exact nomatch e
  ·injection e with e1 _
   subst e1
   cases v<;>rfl
theorem oa(prog:Program)(w:World)(i:Int)(t:Tok):(aw prog w).is (.inl i) (.int i t)=true:=uY i t
theorem n9(prog:Program)(w:World)(x:Str)(t:Tok):(aw prog w).is (.inr x) (.str x t)=true:=uX x t
inductive V where
 | non|bl (b:Bool)|int (i:Int)|str (x:Str)|byt (b:Array UInt8)|flt (b:UInt64)|ref (a:Addr)|ty (n:String)
 deriving DecidableEq
def aU:V->Value->Prop
 | .non,u=>u=Value.none
 | .bl b,u=>u=Value.bool b
 | .int i,u=>∃ t,u=Value.int i t
 | .str x,u=>∃ t,u=Value.str x t
 | .byt b,u=>∃ t,u=Value.bytes b t
 | .flt b,u=>∃ t,u=Value.float b t
 | .ref a,u=>u=Value.ref a
 | .ty n,u=>u=Value.type n
abbrev aL:List V->List Value->Prop:=Paired aU
theorem aL.length{xs:List V}{us:List Value}(r:aL xs us):xs.length=us.length:=MJ r
theorem aL.get:∀ {xs:List V}{us:List Value}{i:Nat}{x:V},aL xs us->xs[i]? = some x->∃ u,us[i]? = some u/\aU x u
 | _,_,_,_,.nil,e=>by simp at e
 | _,_,0,_,.cons r _,e=>by simp at e;subst e;exact⟨_,rfl,r⟩
 | _,_,i+1,x,.cons _ t,e=>by
  obtain⟨u,h1,h2⟩:=aL.get (i:=i) (x:=x) t (by simpa using e);exact⟨u,by simpa using h1,h2⟩
theorem aL.set{x:V}{u:Value}(r:aU x u):∀ {xs:List V}{us:List Value}(i:Nat),aL xs us->aL (xs.set i x) (us.set i u)
 | _,_,_,.nil=>.nil
 | _,_,0,.cons _ t=>.cons r t
 | _,_,i+1,.cons q t=>.cons q (aL.set r i t)
theorem aL.append:∀ {xs ys:List V}{us ws:List Value},aL xs us->aL ys ws->aL (xs++ys) (us++ws)
 | _,_,_,_,.nil,s=>s
 | _,_,_,_,.cons r t,s=>.cons r (aL.append t s)
theorem aL.take:∀ {xs:List V}{us:List Value}(n:Nat),aL xs us->aL (xs.take n) (us.take n)
 | _,_,0,_=>.nil
 | _,_,_+1,.nil=>.nil
 | _,_,n+1,.cons r t=>.cons r (aL.take n t)
theorem aL.drop:∀ {xs:List V}{us:List Value}(n:Nat),aL xs us->aL (xs.drop n) (us.drop n)
 | _,_,0,r=>r
 | _,_,_+1,.nil=>.nil
 | _,_,n+1,.cons _ t=>aL.drop n t
def k7:Option V->Option Value->Prop
 | some v,some u=>aU v u
 | none,none=>True
 | _,_=>False
def KV{κ:Type}:List (κ × V)->List (κ × Value)->Prop:=Paired λ (p:κ × V) (q:κ × Value)=>p.1=q.1/\aU p.2 q.2
def kV:Key->V
 | .inl i=>.int i
 | .inr x=>.str x
inductive HO where
 | lst (xs:List V)
 | tup (xs:List V)
 | dK (kvs:List (Key × V))|dT (kvs:List (List Key × V))
 | set (S:Int->Bool) (n:Nat)
 | ins (C dx:Addr) (fs:List (Str × V))
 | own (x:Addr)
 | xd (fs:List (Str × V))
 | met (f x:Addr)
 | rng (lo hi:Int)
 | frz (o:Obj) (u:HO)
 | tbl (ps:Array Value)
 | ext (φ:Heap->Prop)
abbrev Hp:=Addr->Option HO
def upd(H:Hp)(a:Addr)(o:HO):Hp:=λ b=>if b=a then some o else H b
theorem ag{H:Hp}{a:Addr}{o:HO}:upd H a o a=some o:=by unfold upd;rw [if_pos rfl]
theorem af{H:Hp}{a b:Addr}{o:HO}(h:b ≠ a):upd H a o b=H b:=by unfold upd;rw [if_neg h]
theorem Au{H:Hp}{a:Addr}{o u:HO}:upd (upd H a o) a u=upd H a u:=by
 funext b;unfold upd;split<;>rfl
theorem IH{H:Hp}{a b:Addr}{o u:HO}(h:H a=some o)(h':H b=some u)(d:o ≠ u):a ≠ b:=by
 intro e;subst e;rw [h] at h';exact d (Lu h')
theorem bD{H:Hp}{a b:Addr}{o:HO}(h:H a=some o)(h':H b=none):a ≠ b:=by
 intro e;subst e;rw [h] at h';cases h'
section
variable (P:Program)(w:World)
def aM(H:Hp)(h:Heap)(a:Addr):HO->Prop
 | .lst xs=>xs.length<=sizeLine/\∃ (its:List Value) (n:Nat),aL xs its/\h.get? a=some { cls:=.type "list",data:=.seq its.toArray n }
 | .tup xs=>xs.length<=sizeLine/\∃ its:List Value,aL xs its/\IsTup h a its.toArray
 | .dK kvs=>kvs.length<=sizeLine/\(a == sysModules)=false/\∃ vs,KV kvs vs/\h.DictOf (aw P w) a vs
 | .dT kvs=>kvs.length<=sizeLine/\(a == sysModules)=false/\∃ xs:List (List Key × Addr × Value),
   Paired (λ (p:List Key × V) (q:List Key × Addr × Value)=>p.1=q.1/\H q.2.1=some (.tup (p.1.map kV))/\aU p.2 q.2.2) kvs xs /\
   ∃ o es ep,h.get? a=some o/\o.ExactDict/\o.data=.dict es ep/\es.toList=xs.map (entryOfKey (tupleKind (aw P w)))/\(xs.map (·.1)).Nodup
 | .set S n=>h.SetOf (intKind P w) a S n
 | .ins C dx fs=>H dx=some (.own a)/\fs.length<=1000/\dx ≠ a/\h.get? a=some (W.instObj C dx) /\
   ∃ mA,h.Ns1 dx mA/\(∀ f,k7 (fs.lookup f) (mA f))/\PySem.Within mA (fs.map (·.1))
 | .own _=>∃ o,h.get? a=some o
 | .xd fs=>∃ mA,h.Ns1 a mA/\∀ f,k7 (fs.lookup f) (mA f)
 | .rng lo hi=>∃ t u v,h.get? a=some { cls:=.type "range",data:=.fields #[.int lo t,.int hi u,.int 1 v] }
 | .frz o u=>h.get? a=some o/\aM H h a u
 | .tbl ps=>h.get? a=some { cls:=.none,data:=.fields ps }
 | .met f x=>h.get? a=some (W.methodObj (.ref f) (.ref x))
 | .ext φ=>φ h/\(∃ o,h.get? a=some o)/\∀ h1 h2:Heap,φ h1->(∀ o,h1.get? a=some o->h2.get? a=some o)->φ h2
def HOk(H:Hp)(h:Heap):Prop:=∀ a o,H a=some o->aM P w H h a o
end
section
variable {P:Program}{w:World}{H H':Hp}{h h':Heap}{a:Addr}{o:HO}
theorem aM.lt(x:aM P w H h a o):a < h.objs.size:=by
 cases o with
 | lst xs=>obtain⟨_,_,_,_,e⟩:=x;exact La e
 | tup xs=>obtain⟨_,_,_,p⟩:=x;exact p.lt
 | dK kvs=>obtain⟨_,_,_,_,o,_,_,e,_⟩:=x;exact La e
 | dT kvs=>obtain⟨_,_,_,_,o,_,_,e,_⟩:=x;exact La e
 | set S n=>obtain⟨o,_,_,_,e,_⟩:=x;exact La e
 | ins C dx fs=>obtain⟨_,_,_,e,_⟩:=x;exact La e
 | own y=>obtain⟨_,e⟩:=x;exact La e
 | xd fs=>obtain⟨_,⟨_,_,_,e,_⟩,_⟩:=x;exact La e
 | rng lo hi=>obtain⟨_,_,_,e⟩:=x;exact La e
 | frz ob u=>obtain⟨e,_⟩:=x;exact La e
 | tbl ps=>exact La (show h.get? a=some _ from x)
 | met f y=>exact La (show h.get? a=some _ from x)
 | ext φ=>obtain⟨_,⟨_,e⟩,_⟩:=x;exact La e
theorem Paired.mapP{α β:Type}{F G:α->β->Prop}:∀ {l₁:List α}{l₂:List β},Paired F l₁ l₂->(∀ a b,F a b->G a b)->Paired G l₁ l₂
 | _,_,.nil,_=>.nil
 | _,_,.cons r t,f=>.cons (f _ _ r) (Paired.mapP t f)
theorem aM.stay(x:aM P w H h a o)(k:∀ b u,(b=a\/H b=some (.own a))->h.get? b=some u->h'.get? b=some u)
  (ho:∀ b,H b=some (.own a)->H' b=some (.own a)) (ht:∀ b xs,H b=some (.tup xs)->H' b=some (.tup xs)):aM P w H' h' a o:=by
 induction o with
 | lst xs=>obtain⟨z,its,n,r,e⟩:=x;exact⟨z,its,n,r,k _ _ (.inl rfl) e⟩
 | tup xs=>obtain⟨z,its,r,ob,e,c⟩:=x;exact⟨z,its,r,ob,k _ _ (.inl rfl) e,c⟩
 | dK kvs=>obtain⟨z,y,vs,r,ob,es,ep,e,c⟩:=x;exact⟨z,y,vs,r,ob,es,ep,k _ _ (.inl rfl) e,c⟩
 | dT kvs=>
  obtain⟨z,y,xs,r,ob,es,ep,e,c⟩:=x;exact⟨z,y,xs,Paired.mapP r λ p q z=>⟨z.1,ht _ _ z.2.1,z.2.2⟩,ob,es,ep,k _ _ (.inl rfl) e,c⟩
 | set S n=>obtain⟨ob,es,ep,t,e,c⟩:=x;exact⟨ob,es,ep,t,k _ _ (.inl rfl) e,c⟩
 | ins C dx fs=>
  obtain⟨d,z,ne,e,mA,⟨od,es,ep,e2,c⟩,r⟩:=x;exact⟨ho _ d,z,ne,k _ _ (.inl rfl) e,mA,⟨od,es,ep,k _ _ (.inr d) e2,c⟩,r⟩
 | own y=>obtain⟨ob,e⟩:=x;exact⟨ob,k _ _ (.inl rfl) e⟩
 | xd fs=>obtain⟨mA,⟨od,es,ep,e,c⟩,r⟩:=x;exact⟨mA,⟨od,es,ep,k _ _ (.inl rfl) e,c⟩,r⟩
 | rng lo hi=>obtain⟨t,u,v,e⟩:=x;exact⟨t,u,v,k _ _ (.inl rfl) e⟩
 | frz ob u ih=>obtain⟨e,q⟩:=x;exact⟨k _ _ (.inl rfl) e,ih q⟩
 | tbl ps=>
  have e:h.get? a=some { cls:=.none,data:=.fields ps }:=x
  show h'.get? a=some { cls:=.none,data:=.fields ps }
  exact k a _ (.inl rfl) e
 | met f y=>
  have e:h.get? a=some (W.methodObj (.ref f) (.ref y)):=x
  show h'.get? a=some (W.methodObj (.ref f) (.ref y))
  exact k a _ (.inl rfl) e
 | ext φ=>obtain⟨p,⟨o,e⟩,st⟩:=x;exact⟨st _ _ p λ o q=>k _ _ (.inl rfl) q,⟨o,k _ _ (.inl rfl) e⟩,st⟩
theorem HOk.lt(x:HOk P w H h)(e:H a=some o):a < h.objs.size:=(x a o e).lt
theorem HOk.fresh(x:HOk P w H h)(e:h.objs.size<=a):H a=none:=by
 cases q:H a with
 | none=>rfl
 | some u=>exact absurd (LA (x.lt q) e) (LQ _)
theorem HOk.kept(x:HOk P w H h)(k:∀ b u,h.get? b=some u->h'.get? b=some u):HOk P w H h':=λ a o e=>
 (x a o e).stay (λ b u _ q=>k b u q) (λ _ q=>q) λ _ _ q=>q
theorem HOk.laid(x:HOk P w H h)(k:∀ b u,h.get? b=some u->h'.get? b=some u)(hp:h.objs.size<=a)(new:aM P w (upd H a o) h' a o):HOk P w (upd H a o) h':=λ b u e=>by
 have hn:=x.fresh hp
 by_cases hb:b=a
 ·subst hb;rw [ag] at e;cases e;exact new
 ·rw [af hb] at e;exact(x b u e).stay (λ c v _ q=>k c v q) (λ c q=>by rw [af (bD q hn)];exact q) λ c xs q=>by rw [af (bD q hn)];exact q
end
def Rd(H:Hp)(a:Addr)(u:HO):Prop:=H a=some u\/∃ o,H a=some (.frz o u)
theorem Rd.ok{P:Program}{w:World}{H:Hp}{h:Heap}{a:Addr}{u:HO}(r:Rd H a u)(x:HOk P w H h):aM P w H h a u:=by
 rcases r with r|⟨o,r⟩
 ·exact x a u r
 ·obtain⟨_,q⟩:=x a _ r;exact q
def Mut:Option HO->Prop
 | some (.lst _)=>True
 | some (.dK _)=>True
 | some (.dT _)=>True
 | some (.set _ _)=>True
 | some (.ins _ _ _)=>True
 | some (.ext _)=>True
 | _=>False
section
variable {P:Program}{w:World}{H:Hp}{h h':Heap}{x e:Addr}{o':HO}
theorem HOk.write(ok:HOk P w H h)(mu:Mut (H x))(he:e=x\/H e=some (.own x))(k:∀ b u,b ≠ e->h.get? b=some u->h'.get? b=some u)(heo:∃ u,h'.get? e=some u)
  (new:aM P w (upd H x o') h' x o'):HOk P w (upd H x o') h':=λ b u q=>by
 have nown:∀ c y,H c=some (.own y)->c ≠ x:=λ c y r z=>by subst z;rw [r] at mu;exact mu
 have ntup:∀ c xs,H c=some (.tup xs)->c ≠ x:=λ c xs r z=>by subst z;rw [r] at mu;exact mu
 by_cases hb:b=x
 ·subst hb;rw [ag] at q;cases q;exact new
 ·rw [af hb] at q
  by_cases hbe:b=e
  ·have q':H b=some (.own x):=by
    rcases he with z|z
    ·exact absurd (hbe.trans z) hb
    ·rw [hbe];exact z
   rw [q] at q';cases q';obtain⟨v,hv⟩:=heo;exact⟨v,by rw [hbe];exact hv⟩
  ·refine(ok b u q).stay (λ c v hc r=>k c v ?_ r) (λ c r=>by rw [af (nown c b r)];exact r) λ c xs r=>by rw [af (ntup c xs r)];exact r
   rcases hc with rfl|hc
   ·exact hbe
   ·rintro rfl
    rcases he with z|z
    ·exact nown c b hc z
    ·rw [hc] at z;cases z;exact hb rfl
end
structure Un(fs ex:List Addr)(H H':Hp)(h h':Heap):Prop where
 keep:∀ b o,h.get? b=some o->H b=none->b ∉ fs->b ∉ ex->h'.get? b=some o
 slot:∀ b o,h.get? b=some o->H b=none->b∈fs->b ∉ ex->∃ sl,h'.get? b=some { o with slots:=sl }
 free:∀ b o,h.get? b=some o->H b=none->b ∉ ex->H' b=none
 there:∀ b o,h.get? b=some o->b ∉ ex->∃ o',h'.get? b=some o'
 tups:∀ b xs,H b=some (.tup xs)->H' b=some (.tup xs)
 frzs:∀ b o u,H b=some (.frz o u)->H' b=some (.frz o u)
 tbls:∀ b ps,H b=some (.tbl ps)->∃ more,H' b=some (.tbl (ps++more))
section
variable {fs fs' ex ex':List Addr}{H H1 H2:Hp}{h h1 h2 h':Heap}{a x e:Addr}{o:HO}
theorem Un.any(u:Un fs ex H H1 h h1){b:Addr}{ob:Obj}(q:h.get? b=some ob)(n:H b=none)(hx:b ∉ ex):∃ sl,h1.get? b=some { ob with slots:=sl }:=by
 by_cases hb:b∈fs
 ·exact u.slot b ob q n hb hx
 ·exact⟨ob.slots,u.keep b ob q n hb hx⟩
theorem Un.trans(a:Un fs ex H H1 h h1)(b:Un fs ex H1 H2 h1 h2):Un fs ex H H2 h h2 where
 keep:=λ c ob q n hc hx=>b.keep c ob (a.keep c ob q n hc hx) (a.free c ob q n hx) hc hx
 slot:=λ c ob q n hc hx=>by
  obtain⟨sl,e1⟩:=a.slot c ob q n hc hx;obtain⟨sl',e2⟩:=b.slot c _ e1 (a.free c ob q n hx) hc hx;exact⟨sl',e2⟩
 free:=λ c ob q n hx=>by
  obtain⟨o',e1⟩:=a.there c ob q hx;exact b.free c o' e1 (a.free c ob q n hx) hx
 there:=λ c ob q hx=>by
  obtain⟨o',e1⟩:=a.there c ob q hx;exact b.there c o' e1 hx
 tups:=λ c xs q=>b.tups c xs (a.tups c xs q)
 frzs:=λ c ob xs q=>b.frzs c ob xs (a.frzs c ob xs q)
 tbls:=λ c ps q=>by
  obtain⟨m1,e1⟩:=a.tbls c ps q;obtain⟨m2,e2⟩:=b.tbls c _ e1;exact⟨m1++m2,by rw [e2,Array.append_assoc]⟩
theorem Un.kept(k:∀ b u,h.get? b=some u->h'.get? b=some u):Un fs ex H H h h':=
 ⟨λ b ob q _ _ _=>k b ob q,λ b ob q _ _ _=>⟨ob.slots,k b ob q⟩,λ _ _ _ n _=>n,λ b ob q _=>⟨ob,k b ob q⟩,λ _ _ q=>q,λ _ _ _ q=>q,λ _ ps q=>⟨#[],by rw [q];simp⟩⟩
theorem Un.refl:Un fs ex H H h h:=Un.kept λ _ _ q=>q
theorem Un.laid(k:∀ b u,h.get? b=some u->h'.get? b=some u)(hp:h.objs.size<=a)(hn:H a=none):Un fs ex H (upd H a o) h h' where
 keep:=λ b u q _ _ _=>k b u q
 slot:=λ b u q _ _ _=>⟨u.slots,k b u q⟩
 free:=λ b u q n _=>by rw [af (Ll (LA (La q) hp))];exact n
 there:=λ b u q _=>⟨u,k b u q⟩
 tups:=λ b xs q=>by rw [af (bD q hn)];exact q
 frzs:=λ b u xs q=>by rw [af (bD q hn)];exact q
 tbls:=λ b ps q=>⟨#[],by rw [af (bD q hn),q];simp⟩
theorem Un.write(mu:Mut (H x))(he:e=x\/H e=some (.own x))(k:∀ b u,b ≠ e->h.get? b=some u->h'.get? b=some u)(heo:∃ u,h'.get? e=some u):Un fs ex H (upd H x o) h h':=by
 have hx:∀ b,H b=none->b ≠ x:=λ b n z=>by subst z;rw [n] at mu;exact mu
 have hb:∀ b,H b=none->b ≠ e:=λ b n z=>by
  subst z
  rcases he with r|r
  ·exact hx b n r
  ·rw [n] at r;cases r
 have hm:∀ b u,H b=some u->¬ Mut (some u)->b ≠ x:=λ b u q nm z=>by subst z;rw [q] at mu;exact nm mu
 refine⟨λ b u q n _ _=>k b u (hb b n) q,λ b u q n _ _=>⟨u.slots,k b u (hb b n) q⟩,λ b u q n _=>by rw [af (hx b n)];exact n,λ b u q _=>?_,
  λ b xs q=>by rw [af (hm b _ q λ z=>z)];exact q,λ b u xs q=>by rw [af (hm b _ q λ z=>z)];exact q,λ b ps q=>⟨#[],by rw [af (hm b _ q λ z=>z),q];simp⟩⟩
 by_cases hbe:b=e
 ·subst hbe;exact heo
 ·exact⟨u,k b u hbe q⟩
end
def trk(h:Heap)(H:Hp):List Addr:=(List.range h.objs.size).filter λ a=>(H a).isSome
def vH(h:Heap)(H:Hp):Heap:=W.hideAll h (trk h H)
theorem u7(h:Heap)(H:Hp):(vH h H).objs.size=h.objs.size:=W.hideAll_size _ _
theorem xX{h:Heap}{H:Hp}{b:Addr}{o:Obj}(e:h.get? b=some o)(n:H b=none):(vH h H).get? b=some o:=
 W.hideAll_get _ e λ hm=>by
  have q:(H b).isSome=true:=(MV.mp hm).2;rw [n] at q;simp at q
theorem Bh{h:Heap}{H:Hp}{b:Addr}{o:Obj}(e:(vH h H).get? b=some o):h.get? b=some o/\H b=none:=by
 have e':h.get? b=some o:=W.of_hideAll (trk h H) e;refine⟨e',?_⟩
 cases q:H b with
 | none=>rfl
 | some x=>
  have hm:b∈trk h H:=MV.mpr ⟨LF.mpr (La e'),by simp [q]⟩;have z:(vH h H).get? b=none:=W.hideAll_none (trk h H) hm;rw [z] at e;cases e
def CT(g h:Heap)(L:Addr):List (Addr × Obj):=(List.range h.objs.size).filterMap λ a=>if a=L\/(g.get? a).isSome=true then none else (h.get? a).map λ o=>(a,o)
def eO(g h:Heap)(L d:Addr):List (Addr × Obj):=(CT g h L).filter λ p=>decide (p.1 ≠ d)
structure Mod(K:W.Frag)(mg:Str->Option Value)(base:Heap):Prop where
 kin:K.In base
 glob:base.Ns mainGlobals mg
 blt:∃ mb,base.Ns builtinsNs mb/\∀ x:Str,x ≠ "__name__" → mb x=bootBuiltins x
 nolimit:base.NoLimit
structure Cx where
 prog:Program
 w:World
 K:W.Frag
 mg:Str->Option Value
 base:Heap
 A:Around
 N:List Str
 s₀:Shared
 H₀:Hp
 env:Env
 outer:List Env
 stack:List Env
 ex:List Addr
 fn:Str->Bool
 calm:Bool
 pn:List (Addr × Obj)
 xe:Value->Shared->Prop
def frs(l:List Env):List Addr:=l.filterMap (·.frame)
abbrev Cx.fs(X:Cx):List Addr:=frs X.outer
def Vis(sc:Scope)(x:Str):Prop:=sc.names.lookup x=some .local\/sc.names.lookup x=some .cell\/sc.names.lookup x=some .free
def Loc(sc:Scope)(x:Str):Prop:=sc.names.lookup x=some .local\/sc.names.lookup x=some .cell
def KW(env:Env)(h:Heap)(m:Str->Option Value)(x:Str)(u:Value):Prop:=
 (env.kindOf x=some .local/\m x=some u)\/((env.kindOf x=some .cell\/env.kindOf x=some .free)/\∃ c,env.cells.lookup x=some c/\h.IsCell c (some u))
structure Cx.Ok(X:Cx):Prop where
 mod:Mod X.K X.mg X.base
 kind:X.env.scope.kind=.function
 glob:X.env.globals=mainGlobals
 blt:X.env.builtins=builtinsNs
 above:X.s₀.heap.objs.size<=X.env.locals
 inj:∀ x y c,X.env.cells.lookup x=some c->X.env.cells.lookup y=some c->x=y
 has:∀ x,(X.env.kindOf x=some .cell\/X.env.kindOf x=some .free)->∃ c,X.env.cells.lookup x=some c
 cab:∀ x c,X.fn x=true->X.env.cells.lookup x=some c->X.s₀.heap.objs.size<=c
 hd:X.calm=true->X.A.handled=none
 frames:X.A.frames=some X.stack
 stk:X.stack=X.outer\/(X.stack=X.env::X.outer/\X.env.frame=some X.env.locals)
 exf:∀ b∈X.ex,b ≠ X.env.locals/\∀ x c,X.env.cells.lookup x=some c->c ≠ b
 bs:∀ b o,X.base.get? b=some o->X.s₀.heap.get? b=some o/\X.H₀ b=none
 bsz:X.base.objs.size<=X.s₀.heap.objs.size
 noex:∀ b o,X.base.get? b=some o->b ∉ X.ex
 exfs:∀ b∈X.ex,b ∉ X.fs
 funs:X.s₀.heap.FunFrames X.base X.outer
 frf:∀ b∈X.fs,X.H₀ b=none
structure Inv(X:Cx)(pins:List (Addr × Obj))(σ:List (Option V))(H:Hp)(s:Shared):Prop where
 ok:X.Ok
 os:s.os=X.s₀.os
 bare:AllBare s.gens
 base:Un X.fs X.ex X.H₀ H X.s₀.heap s.heap
 loc:∃ m,s.heap.Ns X.env.locals m/\∀ (i:Nat) (x:Str) (v:V),X.N[i]? = some x->σ[i]? = some (some v)->Vis X.env.scope x->∃ u,aU v u/\KW X.env s.heap m x u
 cell:∀ x c,X.env.cells.lookup x=some c->∃ v,s.heap.IsCell c v
 free:H X.env.locals=none
 freeC:∀ x c,X.env.cells.lookup x=some c->H c=none
 pin:∀ p∈X.pn++pins,s.heap.get? p.1=some p.2/\H p.1=none/\p.1 ≠ X.env.locals/\p.1 ∉ X.fs/\∀ v,p.2.data ≠ .cell v
 hok:HOk X.prog X.w H s.heap
 len:σ.length=X.N.length
section
variable {X:Cx}{pins:List (Addr × Obj)}{σ:List (Option V)}{H H':Hp}{s:Shared}{h':Heap}
theorem Cx.Ok.nofr(ok:X.Ok){b:Addr}{o:Obj}(e:X.base.get? b=some o):b ∉ X.fs:=λ hb=>by
 have:=(ok.funs.mem hb).1;rw [e] at this;cases this
theorem Inv.bs(I:Inv X pins σ H s):∀ b o,X.base.get? b=some o->s.heap.get? b=some o/\H b=none:=λ b o e=>
 ⟨I.base.keep b o (I.ok.bs b o e).1 (I.ok.bs b o e).2 (I.ok.nofr e) (I.ok.noex b o e),I.base.free b o (I.ok.bs b o e).1 (I.ok.bs b o e).2 (I.ok.noex b o e)⟩
theorem Inv.bk(I:Inv X pins σ H s):∀ b o,X.base.get? b=some o->s.heap.get? b=some o:=λ b o e=>(I.bs b o e).1
theorem Inv.mod(I:Inv X pins σ H s):Mod X.K X.mg X.base:=I.ok.mod
theorem Inv.kIn(I:Inv X pins σ H s):X.K.In s.heap:=I.ok.mod.kin.keeps I.bk
theorem Inv.lt(I:Inv X pins σ H s):X.env.locals < s.heap.objs.size:=let ⟨_,hn,_⟩:=I.loc;hn.lt
theorem Inv.sz(I:Inv X pins σ H s):X.s₀.heap.objs.size<=s.heap.objs.size:=LU I.ok.above (Nu I.lt)
theorem Inv.nofs(I:Inv X pins σ H s){a:Addr}(h:s.heap.objs.size<=a):a ∉ X.fs:=λ hb=>by
 obtain⟨_,o,ho,_⟩:=I.ok.funs.mem hb;exact absurd (LA (La ho) (LU I.sz h)) (LQ _)
theorem Inv.cne(I:Inv X pins σ H s):∀ x c,X.env.cells.lookup x=some c->c ≠ X.env.locals:=λ x c e z=>by
 obtain⟨v,o,ho,hd⟩:=I.cell x c e;obtain⟨m,⟨o',es,ep,ho',hd',_⟩,_⟩:=I.loc;rw [z,ho'] at ho;cases ho;rw [hd'] at hd;cases hd
theorem Inv.funs(I:Inv X pins σ H s):s.heap.FunFrames X.base X.outer:=by
 have all:∀ (l:List Env),(∀ b∈frs l,b∈X.fs)->X.s₀.heap.FunFrames X.base l->s.heap.FunFrames X.base l:=by
  intro l
  induction l with
  | nil=>intro _ _;trivial
  | cons env r ih=>
   intro hs hl;obtain⟨hk,⟨L,o,hf,hn,ho,hd⟩,hr⟩:=hl;have hL:L∈X.fs:=hs L (by unfold frs;rw [List.filterMap_cons,hf];exact mem_cons_self);obtain⟨sl,e⟩:=I.base.slot L o ho (I.ok.frf L hL) hL λ z=>I.ok.exfs L z hL;exact⟨hk,⟨L,_,hf,hn,e,hd⟩,ih (λ b hb=>hs b (by unfold frs;rw [List.filterMap_cons,hf];exact mem_cons_of_mem _ hb)) hr⟩
 exact all X.outer (λ _ hb=>hb) I.ok.funs
theorem Inv.stack(I:Inv X pins σ H s):s.heap.FunFrames X.base X.stack:=by
 rcases I.ok.stk with e|⟨e,hf⟩
 ·rw [e];exact I.funs
 ·rw [e];obtain⟨m,hn,_⟩:=I.loc;refine .cons (by rw [I.ok.kind];decide) hf hn ?_ I.funs;exact OJ (LU I.ok.bsz I.ok.above)
theorem Inv.stkSub(I:Inv X pins σ H s):∀ b∈frs X.stack,b∈X.env.locals::X.fs:=λ b hb=>by
 rcases I.ok.stk with e|⟨e,hf⟩
 ·rw [e] at hb;exact Lg _ hb
 ·rw [e] at hb;unfold frs at hb;rw [List.filterMap_cons,hf] at hb;exact hb
theorem Inv.stkFree(I:Inv X pins σ H s):∀ b∈frs X.stack,H b=none:=λ b hb=>by
 rcases Lz.mp (I.stkSub b hb) with e|hb
 ·rw [e];exact I.free
 ·obtain⟨_,o,ho,_⟩:=I.ok.funs.mem hb;exact I.base.free b o ho (I.ok.frf b hb) λ z=>I.ok.exfs b z hb
theorem Inv.step{g':Array GenState}{t':Nat}{d':Drawn}{ch:List Addr}(I:Inv X pins σ H s)
  (hch:∀ b∈ch,(b∈X.ex\/X.s₀.heap.objs.size<=b)/\b ≠ X.env.locals/\(∀ x c,X.env.cells.lookup x=some c->c ≠ b)/\∀ p∈X.pn++pins,p.1 ≠ b)
  (keep:∀ b o,b ≠ X.env.locals->b ∉ X.fs->b ∉ ch->s.heap.get? b=some o->H b=none->h'.get? b=some o)
  (slot:∀ b o,b ≠ X.env.locals->b∈X.fs->b ∉ ch->s.heap.get? b=some o->H b=none->∃ sl,h'.get? b=some { o with slots:=sl }) (free:∀ b o,b ∉ ch->s.heap.get? b=some o->H b=none->H' b=none)
  (there:∀ b o,b ∉ ch->s.heap.get? b=some o->∃ o',h'.get? b=some o')
  (tups:∀ b xs,H b=some (.tup xs)->H' b=some (.tup xs)) (frzs:∀ b o u,H b=some (.frz o u)->H' b=some (.frz o u)) (tbls:∀ b ps,H b=some (.tbl ps)->∃ more,H' b=some (.tbl (ps++more)))
  (ns:∀ m,s.heap.Ns X.env.locals m->h'.Ns X.env.locals m) (hok:HOk X.prog X.w H' h') (hg:AllBare g') :
  Inv X pins σ H' { s with heap:=h',gens:=g',drawn:=d',toks:=t' }:=by
 have neL:∀ b o,X.s₀.heap.get? b=some o->b ≠ X.env.locals:=λ b o e=>Ll (LA (La e) I.ok.above)
 have neC:∀ b o,X.s₀.heap.get? b=some o->b ∉ X.ex->b ∉ ch:=λ b o e hx hb=>by
  rcases (hch b hb).1 with z|z
  ·exact hx z
  ·exact absurd (LA (La e) z) (LQ _)
 have cellK:∀ x c,X.env.cells.lookup x=some c->∀ v,s.heap.IsCell c v->h'.IsCell c v:=λ x c e v ⟨o,ho,hd⟩=>by
  have nch:c ∉ ch:=λ z=>(hch c z).2.2.1 x c e rfl
  by_cases hc:c∈X.fs
  ·obtain⟨sl,q⟩:=slot c o (I.cne x c e) hc nch ho (I.freeC x c e);exact⟨_,q,hd⟩
  ·exact⟨o,keep c o (I.cne x c e) hc nch ho (I.freeC x c e),hd⟩
 refine⟨I.ok,I.os,hg,⟨λ b o e n hb hx=>?_,λ b o e n hb hx=>?_,λ b o e n hx=>?_,λ b o e hx=>?_,λ b xs e=>tups b xs (I.base.tups b xs e),λ b o xs e=>frzs b o xs (I.base.frzs b o xs e),λ b ps e=>?_⟩,?_,λ x c e=>?_,?_,λ x c e=>?_,λ p hp=>?_,hok,I.len⟩
 ·exact keep b o (neL b o e) hb (neC b o e hx) (I.base.keep b o e n hb hx) (I.base.free b o e n hx)
 ·obtain⟨sl,e1⟩:=I.base.slot b o e n hb hx;obtain⟨sl',e2⟩:=slot b _ (neL b o e) hb (neC b o e hx) e1 (I.base.free b o e n hx);exact⟨sl',e2⟩
 ·obtain⟨o',e1⟩:=I.base.there b o e hx;exact free b o' (neC b o e hx) e1 (I.base.free b o e n hx)
 ·obtain⟨o',e1⟩:=I.base.there b o e hx;exact there b o' (neC b o e hx) e1
 ·obtain⟨m1,e1⟩:=I.base.tbls b ps e;obtain⟨m2,e2⟩:=tbls b _ e1;exact⟨m1++m2,by rw [e2,Array.append_assoc]⟩
 ·obtain⟨m,hn,hl⟩:=I.loc;refine⟨m,ns m hn,λ i x v e1 e2 e3=>?_⟩;obtain⟨u,r,l⟩:=hl i x v e1 e2 e3;refine⟨u,r,?_⟩
  rcases l with l|⟨k,c,e,z⟩
  ·exact .inl l
  ·exact .inr ⟨k,c,e,cellK x c e _ z⟩
 ·obtain⟨v,z⟩:=I.cell x c e;exact⟨v,cellK x c e v z⟩
 ·obtain⟨m,⟨o,_,_,ho,_⟩,_⟩:=I.loc;exact free _ o (λ z=>(hch _ z).2.1 rfl) ho I.free
 ·obtain⟨v,o,ho,hd⟩:=I.cell x c e;exact free c o (λ z=>(hch c z).2.2.1 x c e rfl) ho (I.freeC x c e)
 ·obtain⟨e,n,ne,nf,d⟩:=I.pin p hp;have nch:p.1 ∉ ch:=λ z=>(hch p.1 z).2.2.2 p hp rfl;exact⟨keep p.1 p.2 ne nf nch e n,free p.1 p.2 nch e n,ne,nf,d⟩
theorem Inv.un{t':Nat}(I:Inv X pins σ H s)(u:Un X.fs [] H H' s.heap h')(hok:HOk X.prog X.w H' h'):Inv X pins σ H' { s with heap:=h',toks:=t' }:=by
 obtain⟨m,⟨o,es,ep,ho,r⟩,_⟩:=id I.loc;obtain⟨sl,hL⟩:=u.any ho I.free (by simp)
 exact I.step (g':=s.gens) (d':=s.drawn) (ch:=[]) (λ _ z=>nomatch z) (λ b o _ hb _ e n=>u.keep b o e n hb (by simp)) (λ b o _ hb _ e n=>u.slot b o e n hb (by simp)) (λ b o _ e n=>u.free b o e n (by simp)) (λ b o _ e=>u.there b o e (by simp)) u.tups u.frzs u.tbls (λ m' hm=>by
  obtain⟨o',es',ep',ho',r'⟩:=hm;rw [ho] at ho';cases ho';exact⟨_,es',ep',hL,r'⟩) hok I.bare
theorem Inv.call{g':Array GenState}{t':Nat}{d':Drawn}{ch:List Addr}(I:Inv X pins σ H s)(u:Un (frs X.stack) ch H H' s.heap h')(hok:HOk X.prog X.w H' h')(hg:AllBare g')
  (hch:∀ b∈ch,(b∈X.ex\/X.s₀.heap.objs.size<=b)/\b ≠ X.env.locals/\(∀ x c,X.env.cells.lookup x=some c->c ≠ b)/\∀ p∈X.pn++pins,p.1 ≠ b) :
  Inv X pins σ H' { s with heap:=h',gens:=g',drawn:=d',toks:=t' }:=by
 obtain⟨m,⟨o,es,ep,ho,r⟩,_⟩:=id I.loc;obtain⟨sl,hL⟩:=u.any ho I.free λ z=>(hch _ z).2.1 rfl
 exact I.step (ch:=ch) hch (λ b o hL hb hc e n=>u.keep b o e n (λ z=>(Lz.mp (I.stkSub b z)).elim hL hb) hc) (λ b o _ _ hc e n=>u.any e n hc) (λ b o hc e n=>u.free b o e n hc) (λ b o hc e=>u.there b o e hc) u.tups u.frzs u.tbls (λ m' hm=>by
  obtain⟨o',es',ep',ho',r'⟩:=hm;rw [ho] at ho';cases ho';exact⟨_,es',ep',hL,r'⟩) hok hg
theorem Inv.turned{t':Nat}{it:Addr}(I:Inv X pins σ H s)(k:∀ b o,b ≠ it->s.heap.get? b=some o->h'.get? b=some o)(hn:H it=none)(hL:it ≠ X.env.locals)
  (h1:it∈X.ex\/X.s₀.heap.objs.size<=it) (h2:∀ x c,X.env.cells.lookup x=some c->c ≠ it) (h3:∀ p∈X.pn++pins,p.1 ≠ it):Inv X pins σ H { s with heap:=h',toks:=t' }:=by
 have nit:∀ b u,H b=some u->b ≠ it:=λ b u e z=>by rw [z,hn] at e;cases e
 refine I.step (g':=s.gens) (d':=s.drawn) (ch:=[it]) (λ b hb=>?_) (λ b o _ _ hc e _=>k b o (λ z=>hc (by simp [z])) e) (λ b o _ _ hc e _=>⟨o.slots,k b o (λ z=>hc (by simp [z])) e⟩) (λ _ _ _ _ n=>n)
  (λ b o hc e=>⟨o,k b o (λ z=>hc (by simp [z])) e⟩) (λ _ _ e=>e) (λ _ _ _ e=>e) (λ b ps e=>⟨#[],by rw [e];simp⟩) (λ m hm=>?_) (λ b u e=>?_) I.bare
 ·have e:b=it:=by simpa using hb
  subst e;exact⟨h1,hL,h2,h3⟩
 ·obtain⟨o,es,ep,ho,r⟩:=hm;exact⟨o,es,ep,k _ o (Lv hL) ho,r⟩
 ·refine(I.hok b u e).stay (λ c v hc q=>k c v ?_ q) (λ _ q=>q) λ _ _ q=>q
  rcases hc with z|z
  ·rw [z];exact nit b u e
  ·exact nit c _ z
theorem Inv.tok(I:Inv X pins σ H s)(t:Nat):Inv X pins σ H { s with toks:=t }:=I.un (h':=s.heap) (t':=t) Un.refl I.hok
theorem Inv.kept{t':Nat}(I:Inv X pins σ H s)(k:∀ b u,s.heap.get? b=some u->h'.get? b=some u):Inv X pins σ H { s with heap:=h',toks:=t' }:=I.un (Un.kept k) (I.hok.kept k)
theorem Inv.laid{a:Addr}{o:HO}{t':Nat}(I:Inv X pins σ H s)(k:∀ b u,s.heap.get? b=some u->h'.get? b=some u)(hp:s.heap.objs.size<=a)(new:aM X.prog X.w (upd H a o) h' a o) :
  Inv X pins σ (upd H a o) { s with heap:=h',toks:=t' }:=I.un (Un.laid k hp (I.hok.fresh hp)) (I.hok.laid k hp new)
theorem Inv.write{x e:Addr}{o:HO}{t':Nat}(I:Inv X pins σ H s)(mu:Mut (H x))(he:e=x\/H e=some (.own x))(k:∀ b u,b ≠ e->s.heap.get? b=some u->h'.get? b=some u)(heo:∃ u,h'.get? e=some u)
  (new:aM X.prog X.w (upd H x o) h' x o):Inv X pins σ (upd H x o) { s with heap:=h',toks:=t' }:=I.un (Un.write mu he k heo) (I.hok.write mu he k heo new)
theorem Inv.weak{σ':List (Option V)}(I:Inv X pins σ H s)(hl:σ'.length=σ.length)(w:∀ (i:Nat) v,σ'[i]? = some (some v)->σ[i]? = some (some v)):Inv X pins σ' H s:=
 ⟨I.ok,I.os,I.bare,I.base,let ⟨m,hn,hl'⟩:=I.loc;⟨m,hn,λ i x v e1 e2 e3=>hl' i x v e1 (w i v e2) e3⟩,I.cell,I.free,I.freeC,I.pin,I.hok,hl.trans I.len⟩
theorem Inv.pins_of{pins':List (Addr × Obj)}(I:Inv X pins σ H s)(h:∀ p∈pins',s.heap.get? p.1=some p.2/\H p.1=none/\p.1 ≠ X.env.locals/\p.1 ∉ X.fs/\∀ v,p.2.data ≠ .cell v):Inv X pins' σ H s:=
 ⟨I.ok,I.os,I.bare,I.base,I.loc,I.cell,I.free,I.freeC,λ p hp=>(LJ.mp hp).elim (λ z=>I.pin p (Ma _ z)) (h p),I.hok,I.len⟩
theorem ph{N:List Str}(hN:N.Nodup){i j:Nat}{x:Str}(a:N[i]? = some x)(b:N[j]? = some x):i=j:=by
 obtain⟨h1,e1⟩:=Lb.mp a;obtain⟨h2,e2⟩:=Lb.mp b;exact(List.getElem_inj hN).mp (e1.trans e2.symm)
theorem lO{M:Model}{A:Around}{E:Value->Shared->Prop}{i:Nat}{x:Str}{v:V}{u:Value}{Q:Unit->Shared->Prop}(I:Inv X pins σ H s)(hN:X.N.Nodup)(hi:X.N[i]? = some x)(hx:Loc X.env.scope x)(r:aU v u)
  (h:∀ s',Inv X pins (σ.set i (some v)) H s'->(∃ a,Heap.SameBut a s.heap s'.heap/\(a=X.env.locals\/X.env.cells.lookup x=some a))->Q () s') (hf:X.fn x=true\/X.env.scope.names.lookup x=some .local:=by first|exact .inl rfl|exact .inr rfl|assumption):wpAny M A (storeName X.env x u) Q E s:=by
 obtain⟨m,hn,hl⟩:=id I.loc;have hcls:(X.env.scope.kind == .class || (X.env.scope.kind == .module && X.env.locals != X.env.globals))=false:=by rw [I.ok.kind];rfl
 have hiσ:i < σ.length:=by rw [I.len];exact(Lb.mp hi).1
 have cne:=I.cne
 have tracked:∀ {a:Addr} {h':Heap},(∃ o,s.heap.get? a=some o/\H a=none)->Heap.SameBut a s.heap h'->HOk X.prog X.w H h':=λ {a h'} ha hs b ob e=>by
  obtain⟨_,_,hfree⟩:=ha;refine(I.hok b ob e).stay (λ c w' hc q=>(hs.2 c ?_).trans q) (λ _ q=>q) λ _ _ q=>q;rintro rfl
  rcases hc with rfl|hc
  ·rw [hfree] at e;cases e
  ·rw [hfree] at hc;cases hc
 rcases hx with hk|hk
 ·refine wpAny_storeName_local hk hn (λ h' hn' hs=>?_) hcls;obtain⟨oL,_,_,hoL,_⟩:=id hn;refine h _ ⟨I.ok,I.os,I.bare,⟨λ b o e n hb hx=>?_,λ b o e n hb hx=>?_,I.base.free,λ b o e hx=>?_,I.base.tups,I.base.frzs,I.base.tbls⟩,⟨_,hn',λ j y v' e1 e2 e3=>?_⟩,λ y c e=>?_,I.free,I.freeC,λ p hp=>?_,tracked ⟨oL,hoL,I.free⟩ hs,by simpa using I.len⟩ ⟨_,hs,.inl rfl⟩
  ·exact(hs.2 b (Ll (LA (La e) I.ok.above))).trans (I.base.keep b o e n hb hx)
  ·obtain⟨sl,e1⟩:=I.base.slot b o e n hb hx;exact⟨sl,(hs.2 b (Ll (LA (La e) I.ok.above))).trans e1⟩
  ·obtain⟨o',e1⟩:=I.base.there b o e hx;exact⟨o',(hs.2 b (Ll (LA (La e) I.ok.above))).trans e1⟩
  ·by_cases hj:j=i
   ·subst hj;rw [hi] at e1;cases e1;rw [N5 hiσ] at e2;cases e2;exact⟨u,r,.inl ⟨hk,by simp⟩⟩
   ·rw [Ot (Lv hj)] at e2;obtain⟨u',r',q⟩:=hl j y v' e1 e2 e3;refine⟨u',r',?_⟩
    rcases q with ⟨k,e⟩|⟨k,c,e,z⟩
    ·refine .inl ⟨k,?_⟩;have:y ≠ x:=λ e=>hj (ph hN e1 (e ▸ hi));simp [this,e]
    ·exact .inr ⟨k,c,e,z.sameBut hs (cne y c e)⟩
  ·obtain⟨w',z⟩:=I.cell y c e;exact⟨w',z.sameBut hs (cne y c e)⟩
  ·obtain⟨e,n,ne,nf,d⟩:=I.pin p hp;exact⟨(hs.2 p.1 ne).trans e,n,ne,nf,d⟩
 ·have hfn:X.fn x=true:=by
   rcases hf with z|z
   ·exact z
   ·rw [z] at hk;cases hk
  obtain⟨c,hc⟩:=I.ok.has x (.inl hk);obtain⟨w',z⟩:=I.cell x c hc;refine wpAny_storeName_cell I.ok.kind hk hc z (λ h' hc' hs=>?_);obtain⟨oc,hoc,hocd⟩:=id z;refine h { s with heap:=h' } ⟨I.ok,I.os,I.bare,⟨λ b o e n hb hx=>?_,λ b o e n hb hx=>?_,I.base.free,λ b o e hx=>?_,I.base.tups,I.base.frzs,I.base.tbls⟩,⟨m,hn.sameBut hs (Lv (cne x c hc)),λ j y v' e1 e2 e3=>?_⟩,λ y c' e=>?_,I.free,I.freeC,λ p hp=>?_,tracked ⟨oc,hoc,I.freeC x c hc⟩ hs,by simpa using I.len⟩ ⟨c,hs,.inr hc⟩
  ·exact(hs.2 b (Ll (LA (La e) (I.ok.cab x c hfn hc)))).trans (I.base.keep b o e n hb hx)
  ·obtain⟨sl,e1⟩:=I.base.slot b o e n hb hx;exact⟨sl,(hs.2 b (Ll (LA (La e) (I.ok.cab x c hfn hc)))).trans e1⟩
  ·obtain⟨o',e1⟩:=I.base.there b o e hx;exact⟨o',(hs.2 b (Ll (LA (La e) (I.ok.cab x c hfn hc)))).trans e1⟩
  ·by_cases hj:j=i
   ·subst hj;rw [hi] at e1;cases e1;rw [N5 hiσ] at e2;cases e2;exact⟨u,r,.inr ⟨.inl hk,c,hc,hc'⟩⟩
   ·rw [Ot (Lv hj)] at e2;obtain⟨u',r',q⟩:=hl j y v' e1 e2 e3;refine⟨u',r',?_⟩
    rcases q with q|⟨k,c',e,z'⟩
    ·exact .inl q
    ·refine .inr ⟨k,c',e,z'.sameBut hs ?_⟩;rintro rfl;exact hj (ph hN e1 (I.ok.inj _ _ _ e hc ▸ hi))
  ·by_cases hcc:c'=c
   ·subst hcc;exact⟨_,hc'⟩
   ·obtain⟨w2,z2⟩:=I.cell y c' e;exact⟨w2,z2.sameBut hs hcc⟩
  ·obtain⟨e,n,ne,nf,d⟩:=I.pin p hp;refine⟨(hs.2 p.1 ?_).trans e,n,ne,nf,d⟩;intro q;rw [q,hoc] at e;have q':oc=p.2:=Lu e;exact d w' (by rw [←q'];exact hocd)
theorem oW{M:Model}{A:Around}{E:Value->Shared->Prop}{i:Nat}{x:Str}{v:V}{u:Value}{Q:Unit->Shared->Prop}(I:Inv X pins σ H s)(hN:X.N.Nodup)(hi:X.N[i]? = some x)(hx:Loc X.env.scope x)(r:aU v u)
  (h:∀ s',Inv X pins (σ.set i (some v)) H s'->Q () s') (hf:X.fn x=true\/X.env.scope.names.lookup x=some .local:=by first|exact .inl rfl|exact .inr rfl|assumption):wpAny M A (storeName X.env x u) Q E s:=
 lO I hN hi hx r (λ s' I' _=>h s' I') hf
theorem Inv.call'{s':Shared}{ch:List Addr}(I:Inv X pins σ H s)(ho:s'.os=s.os)(u:Un (frs X.stack) ch H H' s.heap s'.heap)(hok:HOk X.prog X.w H' s'.heap)(hg:AllBare s'.gens)
  (hch:∀ b∈ch,(b∈X.ex\/X.s₀.heap.objs.size<=b)/\b ≠ X.env.locals/\(∀ x c,X.env.cells.lookup x=some c->c ≠ b)/\∀ p∈X.pn++pins,p.1 ≠ b):Inv X pins σ H' s':=by
 obtain⟨h',g',d',t',o'⟩:=s';have e:o'=s.os:=ho;subst e;exact I.call (g':=g') (t':=t') (d':=d') u hok hg hch
end
abbrev XK:=Value->Option Addr->Hp->Prop
abbrev St:=List (Option V)
abbrev VK:=V->Hp->Prop
abbrev TE:=St->Hp->VK->Prop
abbrev TT:=St->Hp->(Bool->Hp->Prop)->Prop
abbrev TA:=St->Hp->(List V->Hp->Prop)->Prop
structure m7 where
 nx:St->Hp->Prop
 rt:VK
 bk:St->Hp->Prop:=λ _ _=>False
 ct:St->Hp->Prop:=λ _ _=>False
abbrev TS:=m7->St->Hp->Prop
def EP(X:Cx)(pins:List (Addr × Obj))(σ:St)(Q:VK)(u:Value)(s':Shared):Prop:=∃ v H',Inv X pins σ H' s'/\aU v u/\Q v H'
def TP(X:Cx)(pins:List (Addr × Obj))(σ:St)(Q:Bool->Hp->Prop)(b:Bool)(s':Shared):Prop:=∃ H',Inv X pins σ H' s'/\Q b H'
def AP(X:Cx)(pins:List (Addr × Obj))(σ:St)(Q:List V->Hp->Prop)(us:List Value)(s':Shared):Prop:=∃ vs H',Inv X pins σ H' s'/\aL vs us/\Q vs H'
def SP(X:Cx)(pins:List (Addr × Obj))(D:m7)(f:Flow)(s':Shared):Prop:=
 match f with
 | .next=>∃ σ' H',Inv X pins σ' H' s'/\D.nx σ' H'
 | .brk=>∃ σ' H',Inv X pins σ' H' s'/\D.bk σ' H'
 | .cont=>∃ σ' H',Inv X pins σ' H' s'/\D.ct σ' H'
 | .ret u=>∃ v σ' H',Inv X pins σ' H' s'/\aU v u/\D.rt v H'
def PE(X:Cx)(e:Expr)(t:TE):Prop:=
 ∀ (pins:List (Addr × Obj)) (s:Shared) (σ:St) (H:Hp) (Q:VK),Inv X pins σ H s->t σ H Q->wpAny (model X.prog X.w) X.A (eval e X.env) (EP X pins σ Q) X.xe s
def PT(X:Cx)(e:Expr)(t:TT):Prop:=
 ∀ (pins:List (Addr × Obj)) (s:Shared) (σ:St) (H:Hp) (Q:Bool->Hp->Prop),Inv X pins σ H s->t σ H Q->wpAny (model X.prog X.w) X.A (isTrue e X.env (eval e X.env)) (TP X pins σ Q) X.xe s
def PW(X:Cx)(e:Expr)(t:TT):Prop:=
 ∀ (whole:Sem Value) (pins:List (Addr × Obj)) (s:Shared) (σ:St) (H:Hp) (Q:Bool->Hp->Prop),Inv X pins σ H s->t σ H Q->wpAny (model X.prog X.w) X.A (isTrue e X.env whole) (TP X pins σ Q) X.xe s
theorem PW.pt{X:Cx}{e:Expr}{t:TT}(h:PW X e t):PT X e t:=h _
def PA(X:Cx)(es:List Expr)(t:TA):Prop:=
 ∀ (pos:Pos) (pins:List (Addr × Obj)) (s:Shared) (σ:St) (H:Hp) (Q:List V->Hp->Prop),Inv X pins σ H s->t σ H Q->wpAny (model X.prog X.w) X.A (spliced (backTo pos (starEach es X.env))) (AP X pins σ Q) X.xe s
def PS(X:Cx)(st:Stmt)(t:TS):Prop:=
 ∀ (pins:List (Addr × Obj)) (s:Shared) (σ:St) (H:Hp) (D:m7),Inv X pins σ H s->t D σ H->wpAny (model X.prog X.w) X.A (exec st X.env) (SP X pins D) X.xe s
def PSs(X:Cx)(st:List Stmt)(t:TS):Prop:=
 ∀ (pins:List (Addr × Obj)) (s:Shared) (σ:St) (H:Hp) (D:m7),Inv X pins σ H s->t D σ H->wpAny (model X.prog X.w) X.A (execs st X.env) (SP X pins D) X.xe s
theorem thn{α:Type}{t:Sem α}{Q Q':α->Shared->Prop}{M:Model}{A:Around}{E:Value->Shared->Prop}{s:Shared}(h:wpAny M A t Q E s)(hQ:∀ a s,Q a s->Q' a s):wpAny M A t Q' E s:=Ng h hQ λ _ _ x=>x
section
variable {X:Cx}
def G3(i:Nat):TE:=λ σ H Q=>∃ v,σ[i]? = some (some v)/\Q v H
def tC(v:V):TE:=λ _ H Q=>Q v H
theorem Ew{i:Nat}{x:Str}{pos:Pos}(hN:X.N[i]? = some x)(hv:Vis X.env.scope x)(hd:(x == ("__debug__":Str))=false:=by decide)(hcd:(x == ("__classdict__":Str))=false:=by decide):PE X (.Name x pos) (G3 i):=by
 intro pins s σ H Q I h;obtain⟨v,e,h⟩:=h;obtain⟨m,hn,hl⟩:=I.loc;obtain⟨u,r,l⟩:=hl i x v hN e hv;have fin:EP X pins σ Q u s:=⟨v,H,I,r,h⟩
 rcases l with ⟨hk,hm⟩|⟨hk,c,hc,hcell⟩
 ·exact wpAny_Name (wpAny_loadName_local I.ok.kind hk hn hm fin) hd
 ·rcases hk with hk|hk
  ·exact wpAny_Name (wpAny_loadName_cell I.ok.kind hk hc hcell fin) hd
  ·exact wpAny_Name (wpAny_loadName_free I.ok.kind hk hc hcell fin hcd) hd
theorem dB{i j pos}:PE X (.Constant (.int i) j pos) (tC (.int i)):=λ _ _ _ H _ I h=>wpAny_Constant_int ⟨.int i,H,I.tok _,⟨_,rfl⟩,h⟩
theorem eu{b j pos}:PE X (.Constant (.bool b) j pos) (tC (.bl b)):=λ _ _ _ H _ I h=>Constant_bool ⟨.bl b,H,I,rfl,h⟩
theorem rX{j pos}:PE X (.Constant .none j pos) (tC .non):=λ _ _ _ H _ I h=>Constant_none ⟨.non,H,I,rfl,h⟩
def Gl(X:Cx)(x:Str):Prop:=X.env.kindOf x=some .globalImplicit
theorem nN{E:Value->Shared->Prop}{pins:List (Addr × Obj)}{s:Shared}{σ:St}{H:Hp}{x:Str}{u:Value}{pos:Pos}{Q:Value->Shared->Prop}(I:Inv X pins σ H s)(hg:Gl X x)(hm:X.mg x=some u)(h:Q u s)
  (hd:(x == ("__debug__":Str))=false:=by decide):wpAny (model X.prog X.w) X.A (eval (.Name x pos) X.env) Q E s:=
 Calls.Name_function_global I.ok.kind hg (Calls.loadGlobal_global (by rw [I.ok.glob];exact I.mod.glob.keeps I.bk) hm h) hd
theorem eJ{E:Value->Shared->Prop}{pins:List (Addr × Obj)}{s:Shared}{σ:St}{H:Hp}{x:Str}{u:Value}{pos:Pos}{Q:Value->Shared->Prop}(I:Inv X pins σ H s)(hg:Gl X x)(hm:X.mg x=none)(hv:bootBuiltins x=some u)(h:Q u s)
  (hn:x ≠ "__name__":=by decide) (hd:(x == ("__debug__":Str))=false:=by decide):wpAny (model X.prog X.w) X.A (eval (.Name x pos) X.env) Q E s:=by
 obtain⟨mb,h1,h2⟩:=I.mod.blt;exact Calls.Name_function_global I.ok.kind hg (Calls.loadGlobal_builtin (by rw [I.ok.glob];exact I.mod.glob.keeps I.bk) hm (by rw [I.ok.blt];exact h1.keeps I.bk) ((h2 x hn).trans hv) h) hd
theorem eU{x:Str}{v:V}{u:Value}{pos:Pos}(hg:Gl X x)(hm:X.mg x=some u)(r:aU v u)(hd:(x == ("__debug__":Str))=false:=by decide):PE X (.Name x pos) (tC v):=
 λ _ _ _ H _ I h=>nN I hg hm ⟨v,H,I,r,h⟩ hd
theorem dD{x:Str}{v:V}{u:Value}{pos:Pos}(hg:Gl X x)(hm:X.mg x=none)(hv:bootBuiltins x=some u)(r:aU v u)(hn:x ≠ "__name__":=by decide)(hd:(x == ("__debug__":Str))=false:=by decide):PE X (.Name x pos) (tC v):=
 λ _ _ _ H _ I h=>eJ I hg hm hv ⟨v,H,I,r,h⟩ hn hd
variable {a b:Expr}{ta tb:TE}{pos:Pos}
def tB(t:TE):TT:=λ σ H Q=>t σ H λ x H1=>∃ c,x=.bl c/\Q c H1
theorem Eo{e:Expr}{t:TE}(h:PE X e t)(he:∀ whole,isTrue e X.env whole=(do let v ←whole;standAt e.pos;holding [v] (truthy v)):=by intro _;rfl):PT X e (tB t):=by
 intro pins s σ H Q I hw;refine isTrue_plain (thn (h pins s σ H _ I hw) λ v s1 ⟨x,H1,I1,r1,q1⟩=>?_) (he _);obtain⟨d,rfl,q⟩:=q1;cases r1;exact MN ⟨H1,I1,q⟩
variable {tA tB':TT}{eO:List Expr}
def Hn(t u:TT):TT:=λ σ H Q=>t σ H λ c H1=>if c=true then u σ H1 Q else Q false H1
def tOr(t u:TT):TT:=λ σ H Q=>t σ H λ c H1=>if c=true then Q true H1 else u σ H1 Q
def JH(t:TT):TT:=λ σ H Q=>t σ H λ c H1=>Q (!c) H1
theorem hV(ha:PT X a tA):PW X (.BoolOp .And [a] pos) tA:=by
 intro wh pins s σ H Q I h;refine isTrue_and (thn (ha pins s σ H Q I h) λ c s1 e=>?_)
 cases c with
 | true=>exact isTrue_and_nil e
 | false=>exact e
theorem gq(ha:PT X a tA):PW X (.BoolOp .Or [a] pos) tA:=by
 intro wh pins s σ H Q I h;refine isTrue_or (thn (ha pins s σ H Q I h) λ c s1 e=>?_)
 cases c with
 | false=>exact isTrue_or_nil e
 | true=>exact e
theorem lp(ha:PT X a tA)(hb:PW X (.BoolOp .And (b::eO) pos) tB'):PW X (.BoolOp .And (a::b::eO) pos) (Hn tA tB'):=by
 intro wh pins s σ H Q I h;refine isTrue_and (thn (ha pins s σ H _ I h) λ c s1 ⟨H1,I1,q1⟩=>?_)
 cases c with
 | true=>exact hb wh pins s1 σ H1 Q I1 q1
 | false=>exact⟨H1,I1,q1⟩
theorem Iy(ha:PT X a tA)(hb:PW X (.BoolOp .Or (b::eO) pos) tB'):PW X (.BoolOp .Or (a::b::eO) pos) (tOr tA tB'):=by
 intro wh pins s σ H Q I h;refine isTrue_or (thn (ha pins s σ H _ I h) λ c s1 ⟨H1,I1,q1⟩=>?_)
 cases c with
 | true=>exact⟨H1,I1,q1⟩
 | false=>exact hb wh pins s1 σ H1 Q I1 q1
theorem Ep(ha:PT X a tA):PT X (.UnaryOp .Not a pos) (JH tA):=by
 intro pins s σ H Q I h;exact isTrue_not (ha pins s σ H (λ c H1=>Q (!c) H1) I h)
def Dz(ta tb:TE):TE:=λ σ H Q=>ta σ H λ x H1=>∃ c,x=.bl c/\if c=true then tb σ H1 Q else Q (.bl false) H1
def Du(ta:TE):TE:=λ σ H Q=>ta σ H λ x H1=>∃ c,x=.bl c/\Q (.bl (!c)) H1
theorem lr{op}{t:TE}(h:PE X a t):PE X (.BoolOp op [a] pos) t:=λ pins s σ H Q I hw=>BoolOp_one (h pins s σ H Q I hw)
theorem Ey(ha:PE X a ta)(hb:PE X (.BoolOp .And (b::eO) pos) tb):PE X (.BoolOp .And (a::b::eO) pos) (Dz ta tb):=by
 intro pins s σ H Q I h;refine BoolOp_and (thn (ha pins s σ H _ I h) λ v s1 ⟨x,H1,I1,r1,q1⟩=>?_);obtain⟨c,rfl,q1⟩:=q1;cases r1;refine MN ?_
 cases c with
 | true=>exact hb pins s1 σ H1 Q I1 q1
 | false=>exact⟨.bl false,H1,I1,rfl,q1⟩
theorem Ex(ha:PE X a ta):PE X (.UnaryOp .Not a pos) (Du ta):=by
 intro pins s σ H Q I h;refine UnaryOp_ (thn (ha pins s σ H _ I h) λ v s1 ⟨x,H1,I1,r1,q1⟩=>?_);obtain⟨c,rfl,q1⟩:=q1;cases r1;exact not_of (MN ⟨.bl (!c),H1,I1,rfl,q1⟩)
def tIf(t:TT)(ta tb:TE):TE:=λ σ H Q=>t σ H λ c H1=>if c=true then ta σ H1 Q else tb σ H1 Q
theorem pd{c:Expr}(hc:PT X c tA)(ha:PE X a ta)(hb:PE X b tb):PE X (.IfExp c a b pos) (tIf tA ta tb):=by
 intro pins s σ H Q I h;refine wpAny_IfExp (thn (hc pins s σ H _ I h) λ d s1 ⟨H1,I1,q1⟩=>?_)
 cases d with
 | true=>exact ha pins s1 σ H1 Q I1 q1
 | false=>exact hb pins s1 σ H1 Q I1 q1
end
def SqL(K:W.Frag)(H:Hp)(a:Addr)(xs:List V):Prop:=
 Rd H a (.lst xs) \/
  ∃ (o:Obj) (its:Array Value) (n:Nat),K.lookup a=some o/\o.cls=.type "list" /\ o.dict=none/\o.data=.seq its n/\its.size<=sizeLine/\aL xs its.toList
def SqT(K:W.Frag)(H:Hp)(a:Addr)(xs:List V):Prop:=
 Rd H a (.tup xs) \/
  ∃ (o:Obj) (its:Array Value) (n:Nat),K.lookup a=some o/\o.cls=.type "tuple" /\ o.data=.seq its n/\its.size<=sizeLine/\aL xs its.toList
def KR:Value->Option V
 | .none=>some .non
 | .bool b=>some (.bl b)
 | .int i _=>some (.int i)
 | .str x _=>some (.str x)
 | .bytes b _=>some (.byt b)
 | .float b _=>some (.flt b)
 | .ref a=>some (.ref a)
 | .type n=>some (.ty n)
 | _=>none
theorem aU.abs{x:V}{u:Value}(r:aU x u):KR u=some x:=by
 cases x with
 | non=>cases r;rfl
 | bl _=>cases r;rfl
 | int _=>obtain⟨t,rfl⟩:=r;rfl
 | str _=>obtain⟨t,rfl⟩:=r;rfl
 | byt _=>obtain⟨t,rfl⟩:=r;rfl
 | flt _=>obtain⟨t,rfl⟩:=r;rfl
 | ref _=>cases r;rfl
 | ty _=>cases r;rfl
theorem aU.inj{x y:V}{u:Value}(r:aU x u)(q:aU y u):x=y:=Lu (r.abs.symm.trans q.abs)
theorem aL.inj:∀ {xs ys:List V}{us:List Value},aL xs us->aL ys us->xs=ys
 | _,_,_,.nil,.nil=>rfl
 | _,_,_,.cons r t,.cons r' t'=>by rw [r.inj r',aL.inj t t']
section
variable {X:Cx}{pins:List (Addr × Obj)}{σ:St}{H:Hp}{s:Shared}{a:Addr}{xs ys:List V}
theorem SqL.of{K:W.Frag}(h:H a=some (.lst xs)):SqL K H a xs:=.inl (.inl h)
theorem SqT.of{K:W.Frag}(h:H a=some (.tup xs)):SqT K H a xs:=.inl (.inl h)
theorem Inv.list(I:Inv X pins σ H s)(h:SqL X.K H a xs):∃ its:List Value,aL xs its/\PlainL s.heap a its.toArray/\xs.length<=sizeLine:=by
 rcases h with h|⟨o,its,n,hk,hc,hd,hs,hz,r⟩
 ·obtain⟨z,its,n,r,e⟩:=h.ok I.hok;exact⟨its,r,⟨_,n,e,rfl,rfl,rfl⟩,z⟩
 ·refine⟨its.toList,r,⟨o,n,I.kIn a o hk,hc,hd,by simpa using hs⟩,?_⟩;have e:=r.length;simp only [Mp] at e;omega
theorem Inv.tuple(I:Inv X pins σ H s)(h:SqT X.K H a xs):∃ its:List Value,aL xs its/\IsTup s.heap a its.toArray/\xs.length<=sizeLine:=by
 rcases h with h|⟨o,its,n,hk,hc,hs,hz,r⟩
 ·obtain⟨z,its,r,p⟩:=h.ok I.hok;exact⟨its,r,p,z⟩
 ·refine⟨its.toList,r,⟨o,I.kIn a o hk,hc,n,by simpa using hs⟩,?_⟩;have e:=r.length;simp only [Mp] at e;omega
theorem Inv.list_inj(I:Inv X pins σ H s)(h:SqL X.K H a xs)(h':SqL X.K H a ys):xs=ys:=by
 obtain⟨its,r,⟨o,n,e,_,_,d⟩,_⟩:=I.list h;obtain⟨its',r',⟨o',n',e',_,_,d'⟩,_⟩:=I.list h';rw [e] at e';cases e';rw [d] at d'
 injection d' with d1 _
 have:its=its':=by simpa using Mt Array.toList d1
 subst this;exact r.inj r'
theorem Inv.tuple_inj(I:Inv X pins σ H s)(h:SqT X.K H a xs)(h':SqT X.K H a ys):xs=ys:=by
 obtain⟨its,r,⟨o,e,_,n,d⟩,_⟩:=I.tuple h;obtain⟨its',r',⟨o',e',_,n',d'⟩,_⟩:=I.tuple h';rw [e] at e';cases e';rw [d] at d'
 injection d' with d1 _
 have:its=its':=by simpa using Mt Array.toList d1
 subst this;exact r.inj r'
end
abbrev Cx.wish(X:Cx)(E:Value->Shared->Prop):Cx:={ X with xe:=E }
abbrev Cx.nox(X:Cx):Cx:=X.wish λ _ _=>False
theorem Cx.Ok.wish{X:Cx}(ok:X.Ok)(E:Value->Shared->Prop):(X.wish E).Ok:=
 ⟨ok.mod,ok.kind,ok.glob,ok.blt,ok.above,ok.inj,ok.has,ok.cab,ok.hd,ok.frames,ok.stk,ok.exf,ok.bs,ok.bsz,ok.noex,ok.exfs,ok.funs,ok.frf⟩
theorem Cx.Ok.unwish{X:Cx}{E:Value->Shared->Prop}(ok:(X.wish E).Ok):X.Ok:=
 ⟨ok.mod,ok.kind,ok.glob,ok.blt,ok.above,ok.inj,ok.has,ok.cab,ok.hd,ok.frames,ok.stk,ok.exf,ok.bs,ok.bsz,ok.noex,ok.exfs,ok.funs,ok.frf⟩
section
variable {X:Cx}{pins:List (Addr × Obj)}{σ:St}{H:Hp}{s:Shared}{E:Value->Shared->Prop}
theorem Inv.wish(I:Inv X pins σ H s)(E:Value->Shared->Prop):Inv (X.wish E) pins σ H s:=⟨I.ok.wish E,I.os,I.bare,I.base,I.loc,I.cell,I.free,I.freeC,I.pin,I.hok,I.len⟩
theorem Inv.unwish(I:Inv (X.wish E) pins σ H s):Inv X pins σ H s:=⟨I.ok.unwish,I.os,I.bare,I.base,I.loc,I.cell,I.free,I.freeC,I.pin,I.hok,I.len⟩
theorem SP.unwish{D:m7}{f:Flow}{s':Shared}(h:SP (X.wish E) pins D f s'):SP X pins D f s':=by
 cases f with
 | next=>obtain⟨σ',H',I,q⟩:=h;exact⟨σ',H',I.unwish,q⟩
 | brk=>obtain⟨σ',H',I,q⟩:=h;exact⟨σ',H',I.unwish,q⟩
 | cont=>obtain⟨σ',H',I,q⟩:=h;exact⟨σ',H',I.unwish,q⟩
 | ret u=>obtain⟨v,σ',H',I,r,q⟩:=h;exact⟨v,σ',H',I.unwish,r,q⟩
theorem PSs.nox{st:List Stmt}{t:TS}(h:PSs X.nox st t):PSs X st t:=λ pins s σ H D I hw=>
 Ng (h pins s σ H D (I.wish _) hw) (λ _ _ q=>q.unwish) λ _ _ z=>False.elim z
end
section
variable {X:Cx}{st:Stmt}{eO:List Stmt}{t u:TS}{e:Expr}{te:TE}{pos:Pos}
def Dv:TS:=λ D σ H=>D.nx σ H
def JF(t u:TS):TS:=λ D σ H=>t { D with nx:=u D } σ H
theorem av:PSs X [] Dv:=λ _ _ σ H _ I h=>OA ⟨σ,H,I,h⟩
theorem fF(h1:PS X st t)(h2:PSs X eO u):PSs X (st::eO) (JF t u):=by
 intro pins s σ H D I h;refine wpAny_execs_cons (thn (h1 pins s σ H { D with nx:=u D } I h) λ f s1 q=>?_)
 cases f with
 | next=>
  obtain⟨σ',H',I',q⟩:=q;exact h2 pins s1 σ' H' D I' q
 | ret v=>exact q
 | brk=>exact q
 | cont=>exact q
theorem jL(h1:PS X st t):PSs X [st] t:=by
 intro pins s σ H D I h;refine wpAny_execs_cons (thn (h1 pins s σ H D I h) λ f s1 q=>?_)
 cases f with
 | next=>exact OA q
 | ret v=>exact q
 | brk=>exact q
 | cont=>exact q
theorem Inv.quiet{pins:List (Addr × Obj)}{σ:St}{H:Hp}{s:Shared}(I:Inv X pins σ H s):interactive X.env=false:=by simp [interactive,I.ok.kind]
def Dw(te:TE):TS:=λ D σ H=>te σ H λ _ H1=>D.nx σ H1
theorem AS(he:PE X e te)(hs:swapsWith e none pos.line X.env=pure false:=by rfl):PS X (.Expr e pos) (Dw te):=by
 intro pins s σ H D I h;exact wpAny_Expr_any (thn (he pins s σ H _ I h) λ v s1 ⟨x,H1,I1,r1,q1⟩=>⟨σ,H1,I1,q1⟩) I.quiet hs
def JG(te:TE):TS:=λ D σ H=>te σ H D.rt
theorem rW(he:PE X e te):PS X (.Return (some e) pos) (JG te):=by
 intro pins s σ H D I h;exact wpAny_Return_some (thn (he pins s σ H _ I h) λ v s1 ⟨x,H1,I1,r1,q1⟩=>⟨x,σ,H1,I1,r1,q1⟩)
def Dg(c:TT)(t u:TS):TS:=λ D σ H=>c σ H λ b H1=>if b=true then t D σ H1 else u D σ H1
theorem zN{c:Expr}{a b:List Stmt}{tc:TT}(hc:PT X c tc)(ha:PSs X a t)(hb:PSs X b u):PS X (.If c a b pos) (Dg tc t u):=by
 intro pins s σ H D I h;refine wpAny_If (thn (hc pins s σ H _ I h) λ d s1 ⟨H1,I1,q1⟩=>?_)
 cases d with
 | true=>exact ha pins s1 σ H1 D I1 q1
 | false=>exact hb pins s1 σ H1 D I1 q1
def El:TS:=λ _ _ _=>False
theorem dZ:PS X st El:=λ _ _ _ _ _ _ h=>h.elim
end
abbrev TG:=V->St->Hp->(St->Hp->Prop)->Prop
abbrev TGs:=List V->St->Hp->(St->Hp->Prop)->Prop
def PG(X:Cx)(target:Expr)(t:TG):Prop:=
 ∀ (pins:List (Addr × Obj)) (s:Shared) (σ:St) (H:Hp) (v:V) (u:Value) (Q:St->Hp->Prop),Inv X pins σ H s->aU v u->t v σ H Q →
  wpAny (model X.prog X.w) X.A (assign target X.env u) (λ _ s'=>∃ σ' H',Inv X pins σ' H' s'/\Q σ' H') X.xe s
def PGs(X:Cx)(ts:List Expr)(t:TGs):Prop:=
 ∀ (pins:List (Addr × Obj)) (s:Shared) (σ:St) (H:Hp) (vs:List V) (us:List Value) (Q:St->Hp->Prop),Inv X pins σ H s->aL vs us->t vs σ H Q →
  wpAny (model X.prog X.w) X.A (assignInOrder ((assignEach ts X.env).map (·.2)) us) (λ _ s'=>∃ σ' H',Inv X pins σ' H' s'/\Q σ' H') X.xe s
abbrev yq:=V->V->V->Hp->(Hp->Prop)->Prop
def Kh(X:Cx)(t:yq):Prop:=
 ∀ (pins:List (Addr × Obj)) (s:Shared) (σ:St) (H:Hp) (o i v:V) (ov iv u:Value) (Q:Hp->Prop),Inv X pins σ H s->aU o ov->aU i iv->aU v u->t o i v H Q →
  wpAny (model X.prog X.w) X.A (setItem ov iv u) (λ _ s'=>∃ H',Inv X pins σ H' s'/\Q H') X.xe s
section
variable {X:Cx}{pos:Pos}
def fS(i:Nat):TG:=λ v σ H Q=>Q (σ.set i (some v)) H
theorem sF{i:Nat}{x:Str}(hN:X.N.Nodup)(hi:X.N[i]? = some x)(hx:Loc X.env.scope x)(hf:X.fn x=true\/X.env.scope.names.lookup x=some .local:=by first|exact .inl rfl|exact .inr rfl|assumption):PG X (.Name x pos) (fS i):=by
 intro pins s σ H v u Q I r h;exact wpAny_assign_Name (oW I hN hi hx r (λ s' I'=>⟨_,H,I',h⟩) hf)
def Kg:TGs:=λ vs σ H Q=>vs=[]/\Q σ H
def D9(t:TG)(u:TGs):TGs:=λ vs σ H Q=>∃ v r,vs=v::r/\t v σ H λ σ' H'=>u r σ' H' Q
theorem AY:PGs X [] Kg:=by
 intro pins s σ H vs us Q I r h;obtain⟨e,h⟩:=h;subst e;cases r;exact assignInOrder_nil ⟨σ,H,I,h⟩
theorem wL{e:Expr}{es:List Expr}{t:TG}{u:TGs}(h1:PG X e t)(h2:PGs X es u)
  (hs:(assignEach (e::es) X.env).map (·.2)=assign e X.env::(assignEach es X.env).map (·.2):=by rfl):PGs X (e::es) (D9 t u):=by
 intro pins s σ H vs us Q I r h;obtain⟨v,vr,e1,h⟩:=h;subst e1
 cases r with
 | cons r rr=>
  rw [hs];refine assignInOrder_cons (thn (h1 pins s σ H _ _ _ I r h) λ _ s1 ⟨σ1,H1,I1,q1⟩=>?_);exact h2 pins s1 σ1 H1 _ _ Q I1 rr q1
def Ke(K:W.Frag)(n:Nat)(t:TGs):TG:=λ v σ H Q=>∃ a xs,v=.ref a/\SqT K H a xs/\xs.length=n/\t xs σ H Q
theorem Eu{es:List Expr}{k:Nat}{t:TGs}{n:Nat}(hc:X.calm=true)(h:PGs X es t)
  (hn:(assignEach es X.env).length=n:=by rfl) (hst:(assignEach es X.env).findIdx? (·.1)=none:=by rfl):PG X (.Tuple es k pos) (Ke X.K n t):=by
 intro pins s σ H v u Q I r hw;obtain⟨a,xs,e1,hq,hl,hw⟩:=hw;subst e1;cases r;obtain⟨its,rv,ht,hz⟩:=I.tuple hq;refine assign_Tuple_tuple (I.ok.hd hc) ht (by simp [hn,←hl,rv.length]) hst λ h' hx=>?_;have I1:Inv X pins σ H { s with heap:=h' }:=I.kept (t':=s.toks) λ b o e=>hx b o (Ll (La e)) e;exact h pins _ σ H xs _ Q I1 (by simpa using rv) hw
def Kf(to ti:TE)(t:yq):TG:=λ v σ H Q=>to σ H λ o H1=>ti σ H1 λ i H2=>t o i v H2 λ H3=>Q σ H3
theorem yG{o i:Expr}{to ti:TE}{t:yq}(ho:PE X o to)(hi:PE X i ti)(hs:Kh X t)
  (ha:∀ v,assign (.Subscript o i pos) X.env v=(do
   let ov ←holding [v] (eval o X.env)
   let iv ←holding [v,ov] (eval i X.env)
   standAt pos
   holding [v,ov,iv] (setItem ov iv v)
   release [v,ov,iv] []):=by intro _;rfl):PG X (.Subscript o i pos) (Kf to ti t):=by
 intro pins s σ H v u Q I r h;rw [ha];refine K0 (Mc (thn (ho pins s σ H _ I h) λ ov s1 ⟨x,H1,I1,r1,q1⟩=>?_));refine K0 (Mc (thn (hi pins s1 σ H1 _ I1 q1) λ iv s2 ⟨y,H2,I2,r2,q2⟩=>?_));refine K0 (OT (K0 (Mc (thn (hs pins s2 σ H2 x y v ov iv u _ I2 r1 r2 r q2) λ _ s3 ⟨H3,I3,q3⟩=>?_))));exact wpAny_release ⟨σ,H3,I3,q3⟩
def Hm(te:TE)(g:TG):TS:=λ D σ H=>te σ H λ x H1=>g x σ H1 D.nx
theorem yD{tg e:Expr}{te:TE}{g:TG}(he:PE X e te)(hg:PG X tg g)(hs:swapsWithSole [tg] e pos.line X.env=pure false:=by rfl)(hw:swappedStores [tg] e X.env=pure none:=by rfl)
  (h1:(assignEach [tg] X.env).map (·.2)=[assign tg X.env]:=by rfl):PS X (.Assign [tg] e pos) (Hm te g):=by
 intro pins s σ H D I h;refine wpAny_Assign_stores (thn (he pins s σ H _ I h) λ v s1 ⟨x,H1,I1,r1,q1⟩=>?_) hs hw;rw [h1];exact thn (hg pins s1 σ H1 x v _ I1 r1 q1) λ _ s2 q=>q
theorem b8{i:Nat}{x:Str}{e:Expr}{te:TE}{pos':Pos}(hN:X.N.Nodup)(hi:X.N[i]? = some x)(hx:Loc X.env.scope x)(he:PE X e te)(hs:swapsWith e (some (.Name x pos')) pos.line X.env=pure false:=by rfl)(hf:X.fn x=true\/X.env.scope.names.lookup x=some .local:=by first|exact .inl rfl|exact .inr rfl|assumption) :
  PS X (.Assign [.Name x pos'] e pos) (Hm te (fS i)):=by
 intro pins s σ H D I h;refine wpAny_Assign_Name (thn (he pins s σ H _ I h) λ v s1 ⟨y,H1,I1,r1,q1⟩=>?_) hs;exact oW I1 hN hi hx r1 (λ s2 I2=>⟨_,H1,I2,q1⟩) hf
end
section
variable {X:Cx}{pos:Pos}
def rJ(c:TT)(tb:TS):TS:=λ D σ H=>∃ W:Nat->St->Hp->Prop,(∃ m,W m σ H)/\∀ m σ H,W m σ H →
 c σ H λ b H1=>if b=true then ∃ N:St->Hp->Prop,(∀ σ' H',N σ' H'->∃ m',m' < m/\W m' σ' H')/\tb { D with nx:=N,ct:=N,bk:=D.nx } σ H1 else D.nx σ H1
theorem kc{c:Expr}{body:List Stmt}{tc:TT}{tb:TS}(hp:PassesOwn (model X.prog X.w) X.A X.env X.xe)(hc:PT X c tc)(hb:PSs X body tb):PS X (.While c body [] pos) (rJ tc tb):=by
 intro pins s σ H D I h;obtain⟨W,⟨m0,w0⟩,turn⟩:=h;refine wpAny_While (codeAny_whileLoop (λ n s'=>∃ σ' H',Inv X pins σ' H' s'/\W n σ' H') ?_ m0 ⟨σ,H,I,w0⟩);rintro n s1 ⟨σ1,H1,I1,w1⟩;refine M7 hp (thn (hc pins s1 σ1 H1 _ I1 (turn n σ1 H1 w1)) λ b s2 ⟨H2,I2,q2⟩=>?_)
 cases b with
 | true=>
  obtain⟨N,hN,q2⟩:=q2;rw [Lo rfl];refine M7 hp (thn (hb pins s2 σ1 H2 _ I2 q2) λ f s3 q3=>?_)
  cases f with
  | next=>
   obtain⟨σ3,H3,I3,n3⟩:=q3;obtain⟨m',hm,w3⟩:=hN σ3 H3 n3;exact⟨m',hm,σ3,H3,I3,w3⟩
  | cont=>
   obtain⟨σ3,H3,I3,n3⟩:=q3;obtain⟨m',hm,w3⟩:=hN σ3 H3 n3;exact⟨m',hm,σ3,H3,I3,w3⟩
  | brk=>exact q3
  | ret v=>exact q3
 | false=>
  rw [Lm Lx];exact OA ⟨σ1,H2,I2,q2⟩
end
structure It where
 go:Nat->Hp->Prop
 yld:Nat->Hp->V->Hp->Prop
 stop:Nat->Hp->Prop
def k9(X:Cx)(pins:List (Addr × Obj))(H:Hp)(b:Addr):Prop:=
 H b=none/\b ≠ X.env.locals/\b ∉ X.fs/\(b∈X.ex\/X.s₀.heap.objs.size<=b)/\(∀ x c,X.env.cells.lookup x=some c->c ≠ b)/\∀ p∈X.pn++pins,p.1 ≠ b
theorem Inv.fpOk{X:Cx}{pins:List (Addr × Obj)}{σ:St}{H H':Hp}{s:Shared}{b:Addr}(I:Inv X pins σ H s)(hb:s.heap.objs.size<=b)(hn:H' b=none):k9 X pins H' b:=by
 refine⟨hn,LS (LA I.lt hb),I.nofs hb,.inr (LU I.sz hb),λ x c e z=>?_,λ p hp z=>?_⟩
 ·obtain⟨v,q⟩:=I.cell x c e;exact absurd (LA q.lt (by rw [z];exact hb)) (LQ _)
 ·exact absurd (LA (La (I.pin p hp).1) (by rw [z];exact hb)) (LQ _)
structure vG(P:Program)(w:World)(K:W.Frag)(tg:Expr)(J:It)(fp:List Addr)(it:Addr)(tn:Nat->Heap->Prop):Prop where
 mem:it∈fp
 obj:∀ i h,tn i h->∀ b∈fp,∃ o,h.get? b=some o/\∀ v,o.data ≠ .cell v
 keep:∀ i h h',tn i h->(∀ b∈fp,∀ o,h.get? b=some o->h'.get? b=some o)->tn i h'
 item:∀ (X:Cx),X.prog=P->X.w=w->X.K=K->X.calm=true->∀ (i:Nat) (pins:List (Addr × Obj)) (s:Shared) (σ:St) (H:Hp) (E:Value->Shared->Prop),Inv X pins σ H s->(∀ b∈fp,k9 X pins H b)->tn i s.heap->J.go i H →
  wpAny (model P w) X.A (pyNext (.ref it)) (λ r s1=>∃ u,r=some u /\
   wpAny (model P w) X.A (letOwnedTupleGo tg (.ref it) u) (λ _ s2=>∃ x H',Inv X pins σ H' s2/\aU x u/\J.yld i H x H'/\tn (i+1) s2.heap/\∀ b∈fp,H' b=none) E s1) E s
 done:∀ (X:Cx),X.prog=P->X.w=w->X.K=K->X.calm=true->∀ (i:Nat) (pins:List (Addr × Obj)) (s:Shared) (σ:St) (H:Hp) (E:Value->Shared->Prop),Inv X pins σ H s->(∀ b∈fp,k9 X pins H b)->tn i s.heap->J.stop i H →
  wpAny (model P w) X.A (pyNext (.ref it)) (λ r s1=>r=none/\Inv X pins σ H s1) E s
 self:∀ (A:Around) (i:Nat) (s:Shared) (Q:Value->Shared->Prop) (E:Value->Shared->Prop),tn i s.heap->Q (.ref it) s->wpAny (model P w) A (pyIter (.ref it)) Q E s
abbrev TI:=St->Hp->(It->Hp->Prop)->Prop
def PIE(X:Cx)(pins:List (Addr × Obj))(σ:St)(tg:Expr)(R:It->Hp->Prop)(itv:Value)(s2:Shared):Prop:=
 ∃ (it:Addr) (fp:List Addr) (tn:Nat->Heap->Prop) (J:It) (H':Hp),itv=.ref it/\Inv X pins σ H' s2/\vG X.prog X.w X.K tg J fp it tn/\tn 0 s2.heap/\(∀ b∈fp,k9 X pins H' b)/\R J H'
def PI(X:Cx)(tg iter:Expr)(wi:TI):Prop:=
 ∀ (pins:List (Addr × Obj)) (s:Shared) (σ:St) (H:Hp) (R:It->Hp->Prop),Inv X pins σ H s->wi σ H R →
  wpAny (model X.prog X.w) X.A (eval iter X.env) (λ v s1=>wpAny (model X.prog X.w) X.A (pyIter v) (PIE X pins σ tg R) X.xe s1) X.xe s
theorem rD{M:Model}{A:Around}{E:Value->Shared->Prop}{s:Shared}{tg:Expr}{it:Addr}{u:Value}{o:Obj}{n:String}{vs:Array Value}{Q:Unit->Shared->Prop}(ho:s.heap.get? it=some o)(hc:o.cls=.type n)(hd:o.data=.fields vs)
    (hn:["enumerate", "zip", "dict_itemiterator", "dict_reverseitemiterator", "odict_iterator", "itertools.zip_longest", "itertools.pairwise"].contains n=false) (hQ:Q () s):wpAny M A (letOwnedTupleGo tg (.ref it) u) Q E s:=by
  unfold letOwnedTupleGo
  cases tg<;>first
    | exact Lf hQ
    | (cases u<;>first
        | exact Lf hQ
        | (refine K0 (wpAny_load ho ?_)
           rw [hc,hd]
           show wpAny M A (if (["enumerate", "zip", "dict_itemiterator", "dict_reverseitemiterator", "odict_iterator", "itertools.zip_longest", "itertools.pairwise"].contains n && vs[0]? == some (rawInt _))=true then _ else _) Q E s
           rw [Lm (by intro h;rw [hn,Bool.false_and] at h;cases h)];exact Lf hQ))
def Itl(K:W.Frag)(a:Addr):It:=
 ⟨λ i H=>∃ xs x,SqL K H a xs/\xs[i]? = some x,λ i H x H'=>H'=H/\∀ xs,SqL K H a xs->xs[i]? = some x,λ i H=>∃ xs,SqL K H a xs/\xs.length<=i⟩
def Itt(K:W.Frag)(a:Addr):It:=
 ⟨λ i H=>∃ xs x,SqT K H a xs/\xs[i]? = some x,λ i H x H'=>H'=H/\∀ xs,SqT K H a xs->xs[i]? = some x,λ i H=>∃ xs,SqT K H a xs/\xs.length<=i⟩
def Itr(lo:Int)(n:Nat):It:=⟨λ i _=>i < n,λ i H x H'=>H'=H/\x=.int (lo+i),λ i _=>n<=i⟩
theorem tZ{P:Program}{w:World}{K:W.Frag}{tg:Expr}(a it:Addr):vG P w K tg (Itl K a) [it] it (λ i h=>h.IsListIter it a i) where
 mem:=by simp
 obj:=λ i h st b hb=>by
  have e:b=it:=by simpa using hb
  subst e;obtain⟨o,e,c,d⟩:=st;exact⟨o,e,λ v z=>by rw [d] at z;cases z⟩
 keep:=λ i h h' st k=>st.at λ o e=>k it (by simp) o e
 item:=by
  intro X hP hw hK hc i pins s σ H E I hf st hg;subst hP hw hK;obtain⟨xs,x,hq,hx⟩:=hg;obtain⟨its,rv,p,hz⟩:=I.list hq;obtain⟨u,hu,ru⟩:=rv.get hx;obtain⟨f0,f1,f2,f3,f4,f5⟩:=hf it (by simp);refine wpAny_pyNext_list_item st p.isList (x:=u) (by simpa using hu) λ h' st' sb=>?_;have I1:Inv X pins σ H { s with heap:=h' }:=I.turned (t':=s.toks) (λ b o hb e=>(sb.2 b hb).trans e) f0 f1 f3 f4 f5;obtain⟨o,e,c,d⟩:=id st';exact⟨u,rfl,rD (s:={ s with heap:=h' }) e c d (by decide) ⟨x,H,I1,ru,⟨rfl,λ ys hy=>by rw [I.list_inj hy hq];exact hx⟩,st',λ b hb=>(hf b hb).1⟩⟩
 done:=by
  intro X hP hw hK hc i pins s σ H E I hf st hg;subst hP hw hK;obtain⟨xs,hq,hx⟩:=hg;obtain⟨its,rv,p,hz⟩:=I.list hq;obtain⟨f0,f1,f2,f3,f4,f5⟩:=hf it (by simp);have hl:=rv.length;exact wpAny_pyNext_list_end (I.ok.hd hc) st p.isList (by simp;omega) λ h' eb=>⟨rfl,I.turned (t':=s.toks) (λ b o hb e=>eb b o hb e) f0 f1 f3 f4 f5⟩
 self:=λ _ _ _ _ _ st h=>wpAny_pyIter_listiter st h
theorem p4{P:Program}{w:World}{K:W.Frag}{tg:Expr}(a it:Addr):vG P w K tg (Itt K a) [it] it (λ i h=>h.IsTupleIter it a i) where
 mem:=by simp
 obj:=λ i h st b hb=>by
  have e:b=it:=by simpa using hb
  subst e;obtain⟨o,e,c,d⟩:=st;exact⟨o,e,λ v z=>by rw [d] at z;cases z⟩
 keep:=λ i h h' st k=>st.at λ o e=>k it (by simp) o e
 item:=by
  intro X hP hw hK hc i pins s σ H E I hf st hg;subst hP hw hK;obtain⟨xs,x,hq,hx⟩:=hg;obtain⟨its,rv,p,hz⟩:=I.tuple hq;obtain⟨u,hu,ru⟩:=rv.get hx;obtain⟨f0,f1,f2,f3,f4,f5⟩:=hf it (by simp);refine wpAny_pyNext_tuple_item st (show s.heap.IsTuple a its.toArray from p) (x:=u) (by simpa using hu) λ h' st' sb=>?_;have I1:Inv X pins σ H { s with heap:=h' }:=I.turned (t':=s.toks) (λ b o hb e=>(sb.2 b hb).trans e) f0 f1 f3 f4 f5;obtain⟨o,e,c,d⟩:=id st';exact⟨u,rfl,rD (s:={ s with heap:=h' }) e c d (by decide) ⟨x,H,I1,ru,⟨rfl,λ ys hy=>by rw [I.tuple_inj hy hq];exact hx⟩,st',λ b hb=>(hf b hb).1⟩⟩
 done:=by
  intro X hP hw hK hc i pins s σ H E I hf st hg;subst hP hw hK;obtain⟨xs,hq,hx⟩:=hg;obtain⟨its,rv,p,hz⟩:=I.tuple hq;obtain⟨f0,f1,f2,f3,f4,f5⟩:=hf it (by simp);have hl:=rv.length;exact wpAny_pyNext_tuple_end (I.ok.hd hc) st (show s.heap.IsTuple a its.toArray from p) (by simp;omega) λ h' eb=>⟨rfl,I.turned (t':=s.toks) (λ b o hb e=>eb b o hb e) f0 f1 f3 f4 f5⟩
 self:=λ _ _ _ _ _ st h=>wpAny_pyIter_tupleiter st h
theorem p5{P:Program}{w:World}{K:PySem.W.Frag}{tg:Expr}(it:Addr)(lo:Int)(n:Nat):vG P w K tg (Itr lo n) [it] it (λ i h=>IsRangeIter h it (lo+(i:Nat) * 1) ((n:Int) - (i:Nat)) 1) where
 mem:=by simp
 obj:=λ i h st b hb=>by
  have e:b=it:=by simpa using hb
  subst e
  exact⟨_,st,λ v z=>by
   have z':Data.fields _=Data.cell v:=z;cases z'⟩
 keep:=λ i h h' st k=>k it (by simp) _ st
 item:=by
  intro X hP hw hK hc i pins s σ H E I hf st hg;subst hP hw hK;obtain⟨f0,f1,f2,f3,f4,f5⟩:=hf it (by simp);have W:=Walks.range (prog:=X.prog) (w:=X.w) (I.ok.hd hc) it lo 1 n;refine W.item i s _ _ hg st λ v h' tk hv st' kk=>?_;obtain⟨t,rfl⟩:=hv;have I1:Inv X pins σ H { s with heap:=h',toks:=tk }:=I.turned (λ b o hb e=>kk b o (by simpa using hb) e) f0 f1 f3 f4 f5;refine⟨_,rfl,rD (s:={ s with heap:=h',toks:=tk }) (n := "range_iterator") st' rfl rfl (by decide) ⟨.int (lo+i),H,I1,⟨t,?_⟩,⟨rfl,rfl⟩,st',λ b hb=>(hf b hb).1⟩⟩;rw [Int.mul_one]
 done:=by
  intro X hP hw hK hc i pins s σ H E I hf st hg;subst hP hw hK;obtain⟨f0,f1,f2,f3,f4,f5⟩:=hf it (by simp);exact wpAny_pyNext_range_end (I.ok.hd hc) st (by have:n<=i:=hg;omega) λ h' eb=>⟨rfl,I.turned (t':=s.toks) (λ b o hb e=>eb b o hb e) f0 f1 f3 f4 f5⟩
 self:=λ _ _ _ _ _ st h=>wpAny_pyIter_rangeiter st h
section
variable {X:Cx}{tg:Expr}
theorem oZ{pins:List (Addr × Obj)}{σ:St}{H:Hp}{s:Shared}{R:It->Hp->Prop}{E:Value->Shared->Prop}{lo hi:Int}{t u v:Tok}{tk:Nat}(I:Inv X pins σ H s)(h1:-(2 ^ 62)<=lo)(h2:lo < 2 ^ 62)(h3:-(2 ^ 62)<=hi)(h4:hi < 2 ^ 62)
  (q:R (Itr lo (hi - lo).toNat) H):wpAny (model X.prog X.w) X.A (pyIter (.ref s.heap.objs.size)) (PIE X pins σ tg R) E { s with heap:=s.heap.push { cls:=.type "range",data:=.fields #[.int lo t,.int hi u,.int 1 v] },toks:=tk }:=by
 refine wpAny_pyIter_range (IsRange.new ..) (small_one h1 h2 h3 h4) ?_;have I1:Inv X pins σ H { s with heap:=s.heap.push { cls:=.type "range",data:=.fields #[.int lo t,.int hi u,.int 1 v] },toks:=tk }:=I.kept λ b o e=>K2 _ e
 refine⟨(s.heap.push { cls:=.type "range",data:=.fields #[.int lo t,.int hi u,.int 1 v] }).objs.size,[(s.heap.push { cls:=.type "range",data:=.fields #[.int lo t,.int hi u,.int 1 v] }).objs.size],_,_,H,rfl,
  I1.kept (t':=tk) λ b o e=>K2 _ e,p5 _ lo (hi - lo).toNat,?_,λ b hb=>?_,q⟩
 ·have e1:lo+((0:Nat):Int) * 1=lo:=by simp
  have e2:(((hi - lo).toNat:Nat):Int) - ((0:Nat):Int)=Builtin.Range.rangeSize lo hi 1:=by rw [rangeSize_one];split<;>omega
  show IsRangeIter _ _ (lo+((0:Nat):Int) * 1) ((((hi - lo).toNat:Nat):Int) - ((0:Nat):Int)) 1
  rw [e1,e2];exact Lh _ rfl
 ·have e:b=(s.heap.push { cls:=.type "range",data:=.fields #[.int lo t,.int hi u,.int 1 v] }).objs.size:=by simpa using hb
  subst e;exact I1.fpOk (Li _) (I1.hok.fresh (Li _))
def D7(ta:TA):TI:=λ σ H R=>ta σ H λ vs H1=>∃ j:Int,vs=[.int j]/\-(2 ^ 62)<=j/\j < 2 ^ 62/\R (Itr 0 j.toNat) H1
def DZ(ta:TA):TI:=λ σ H R=>ta σ H λ vs H1=>∃ i j:Int,vs=[.int i,.int j]/\(-(2 ^ 62)<=i/\i < 2 ^ 62/\-(2 ^ 62)<=j/\j < 2 ^ 62)/\R (Itr i (j - i).toNat) H1
theorem ue{a:Expr}{ta:TA}{p pos:Pos}(hg:Gl X "range")(hm:X.mg "range"=none)(ha:PA X [a] ta)(hs:starEach [a] X.env=[(false,eval a X.env)]:=by rfl):PI X tg (.Call (.Name "range" p) [a] [] pos) (D7 ta):=by
 intro pins s σ H R I h;refine Call_ (eJ I hg hm boot_range (L6 (thn (ha pos pins s σ H _ I h) λ us s1 ⟨vs,H1,I1,r1,q1⟩=>?_) hs rfl));obtain⟨j,e,q1,q2,q⟩:=q1;subst e
 cases r1 with
 | cons r rr=>
  cases rr;obtain⟨t,rfl⟩:=r;exact call_range_1 (oZ I1 (by omega) (by omega) q1 q2 (by simpa using q))
theorem ud{a b:Expr}{ta:TA}{p pos:Pos}(hg:Gl X "range")(hm:X.mg "range"=none)(ha:PA X [a,b] ta)(hs:starEach [a,b] X.env=[(false,eval a X.env),(false,eval b X.env)]:=by rfl)(hs2:starEach [b] X.env=[(false,eval b X.env)]:=by rfl) :
  PI X tg (.Call (.Name "range" p) [a,b] [] pos) (DZ ta):=by
 intro pins s σ H R I h;refine Call_ (eJ I hg hm boot_range (L6 (thn (ha pos pins s σ H _ I h) λ us s1 ⟨vs,H1,I1,r1,q1⟩=>?_) (by rw [hs,hs2]) (by rw [hs2];rfl)));obtain⟨i,j,e,⟨q1,q2,q3,q4⟩,q⟩:=q1;subst e
 cases r1 with
 | cons r rr=>
  cases rr with
  | cons r' rr=>
   cases rr;obtain⟨t,rfl⟩:=r;obtain⟨t',rfl⟩:=r';exact call_range_2 (oZ I1 q1 q2 q3 q4 q)
def JI(wi:TI)(g:TG)(tb:TS):TS:=λ D σ H=>wi σ H λ J H1=>∃ W:Nat->Nat->St->Hp->Prop,(∃ m,W 0 m σ H1)/\∀ i m σ H,W i m σ H →
 (J.stop i H/\D.nx σ H)\/(J.go i H/\∃ N:St->Hp->Prop,(∀ σ' H',N σ' H'->∃ m',m' < m/\W (i+1) m' σ' H')/\∀ x H',J.yld i H x H'->g x σ H' λ σ2 H2=>tb { D with nx:=N,ct:=N,bk:=D.nx } σ2 H2)
def lq(fp:List Addr)(h:Heap):List (Addr × Obj):=fp.filterMap λ b=>(h.get? b).map λ o=>(b,o)
theorem ei{fp:List Addr}{h:Heap}{b:Addr}{o:Obj}(hb:b∈fp)(e:h.get? b=some o):(b,o)∈lq fp h:=List.mem_filterMap.mpr ⟨b,hb,by rw [e];rfl⟩
theorem uk{fp:List Addr}{h:Heap}{p:Addr × Obj}(hp:p∈lq fp h):p.1∈fp/\h.get? p.1=some p.2:=by
 obtain⟨b,hb,e⟩:=List.mem_filterMap.mp hp
 cases q:h.get? b with
 | none=>rw [q] at e;cases e
 | some o=>
  rw [q] at e;have e':(b,o)=p:=Lu e;subst e';exact⟨hb,q⟩
theorem Inv.pinned{pins:List (Addr × Obj)}{σ:St}{H:Hp}{s:Shared}{fp:List Addr}(I:Inv X pins σ H s)(hf:∀ b∈fp,k9 X pins H b)(ho:∀ b∈fp,∃ o,s.heap.get? b=some o/\∀ v,o.data ≠ .cell v):Inv X (pins++lq fp s.heap) σ H s:=
 I.pins_of λ p hp=>(LJ.mp hp).elim (λ z=>I.pin p (Lw _ z)) λ z=>by
  obtain⟨hb,e⟩:=uk z;obtain⟨f0,f1,f2,_⟩:=hf p.1 hb;obtain⟨o,e',d⟩:=ho p.1 hb;rw [e] at e';cases e';exact⟨e,f0,f1,f2,d⟩
theorem Inv.unpinned{pins pl:List (Addr × Obj)}{σ:St}{H:Hp}{s:Shared}(I:Inv X (pins++pl) σ H s):Inv X pins σ H s:=I.pins_of λ p hp=>I.pin p (Lw _ (Ma _ hp))
theorem Er{iter:Expr}{body:List Stmt}{wi:TI}{g:TG}{tb:TS}{pos:Pos}(hp:PassesOwn (model X.prog X.w) X.A X.env X.xe)(hc:X.calm=true)(hi:PI X tg iter wi)(hg:PG X tg g)(hb:PSs X body tb)
  (hs:∀ x,foldedSetIterable iter X.env x=pure x:=by intro _;rfl):PS X (.For tg iter body [] pos) (JI wi g tb):=by
 intro pins s σ H D I h;refine wpAny_For (thn (hi pins s σ H _ I h) λ v s1 h1=>thn h1 λ itv s2 h2=>?_) hs;obtain⟨it,fp,tn,J,H2,e,I2,T,st2,f2,W,⟨m0,w0⟩,turn⟩:=h2;subst e;have stat:∀ {H':Hp},(∀ b∈fp,H' b=none)->∀ b∈fp,k9 X pins H' b:=λ hn b hb=>⟨hn b hb,(f2 b hb).2⟩;refine codeAny_forLoop_any (λ n s'=>∃ i σ' H',Inv X pins σ' H' s'/\tn i s'.heap/\(∀ b∈fp,H' b=none)/\W i n σ' H') ?_ m0 ⟨0,σ,H2,I2,st2,λ b hb=>(f2 b hb).1,w0⟩;rintro n s3 ⟨i,σ3,H3,I3,st3,fr3,w3⟩
 rcases turn i n σ3 H3 w3 with ⟨stop,qn⟩|⟨go,N,hN,step⟩
 ·refine M7 hp (thn (T.done X rfl rfl rfl hc i pins s3 σ3 H3 X.xe I3 (stat fr3) st3 stop) λ r s4 ⟨hr,I4⟩=>?_);subst hr;exact OA ⟨σ3,H3,I4,qn⟩
 ·refine M7 hp (thn (T.item X rfl rfl rfl hc i pins s3 σ3 H3 X.xe I3 (stat fr3) st3 go) λ r s4 ⟨u,hr,h4⟩=>?_);subst hr;refine M7 hp (thn h4 λ _ s5 ⟨x,H5,I5,r5,y5,st5,fr5⟩=>?_);have I5':=I5.pinned (stat fr5) (T.obj _ _ st5);refine M7 hp (thn (hg _ s5 σ3 H5 x u _ I5' r5 (step x H5 y5)) λ _ s6 ⟨σ6,H6,I6,q6⟩=>?_);refine M7 hp (thn (hb _ s6 σ6 H6 _ I6 q6) λ f s7 q7=>?_)
  have again:∀ {σ7:St} {H7:Hp},Inv X (pins++lq fp s5.heap) σ7 H7 s7->N σ7 H7->∃ m,m < n/\∃ i σ' H',Inv X pins σ' H' s7/\tn i s7.heap/\(∀ b∈fp,H' b=none)/\W i m σ' H':=λ {σ7 H7} I7 n7=>by
   obtain⟨m',hm,w7⟩:=hN σ7 H7 n7;refine⟨m',hm,i+1,σ7,H7,I7.unpinned,T.keep _ _ _ st5 λ b hb o e=>(I7.pin (b,o) (Lw _ (Lw _ (ei hb e)))).1,λ b hb=>?_,w7⟩;obtain⟨o,e,d⟩:=T.obj _ _ st5 b hb;exact(I7.pin (b,o) (Lw _ (Lw _ (ei hb e)))).2.1
  cases f with
  | next=>obtain⟨σ7,H7,I7,n7⟩:=q7;exact again I7 n7
  | cont=>obtain⟨σ7,H7,I7,n7⟩:=q7;exact again I7 n7
  | brk=>obtain⟨σ7,H7,I7,q7⟩:=q7;exact⟨σ7,H7,I7.unpinned,q7⟩
  | ret v=>obtain⟨x7,σ7,H7,I7,r7,q7⟩:=q7;exact⟨x7,σ7,H7,I7.unpinned,r7,q7⟩
end
theorem x4{K:PySem.W.Frag}{a:Addr}{xs:List V}{g:TG}{tb:TS}{D:m7}{σ:St}{H:Hp}(Pv:Nat->St->Hp->Prop)(h0:Pv 0 σ H)(hl:∀ i σ H,i<=xs.length->Pv i σ H->SqL K H a xs)
  (hs:∀ i x σ H,xs[i]? = some x->Pv i σ H->g x σ H λ σ2 H2=>tb { D with nx:=Pv (i+1),ct:=Pv (i+1),bk:=D.nx } σ2 H2) (hd:∀ σ H,Pv xs.length σ H->D.nx σ H) :
  ∃ W:Nat->Nat->St->Hp->Prop,(∃ m,W 0 m σ H)/\∀ i m σ H,W i m σ H →
   ((Itl K a).stop i H/\D.nx σ H)\/((Itl K a).go i H/\∃ N:St->Hp->Prop,(∀ σ' H',N σ' H'->∃ m',m' < m/\W (i+1) m' σ' H')/\∀ x H',(Itl K a).yld i H x H'->g x σ H' λ σ2 H2=>tb { D with nx:=N,ct:=N,bk:=D.nx } σ2 H2):=by
 refine⟨λ i m σ H=>m=xs.length - i/\i<=xs.length/\Pv i σ H,⟨xs.length,by simp,LD _,h0⟩,?_⟩;rintro i m σ H ⟨rfl,hi,p⟩;have q:=hl i σ H hi p
 by_cases hlt:i < xs.length
 ·refine .inr ⟨⟨xs,xs[i],q,by simp [hlt]⟩,Pv (i+1),λ σ' H' p'=>⟨xs.length - (i+1),by omega,rfl,hlt,p'⟩,λ x H' y=>?_⟩;obtain⟨e,y⟩:=y;subst e;exact hs i x σ _ (y xs q) p
 ·have e:i=xs.length:=by omega
  subst e;exact .inl ⟨⟨xs,q,Li _⟩,hd σ H p⟩
theorem va{lo:Int}{n:Nat}{g:TG}{tb:TS}{D:m7}{σ:St}{H:Hp}(Pv:Nat->St->Hp->Prop)(h0:Pv 0 σ H)
  (hs:∀ i σ H,i < n->Pv i σ H->g (.int (lo+i)) σ H λ σ2 H2=>tb { D with nx:=Pv (i+1),ct:=Pv (i+1),bk:=D.nx } σ2 H2) (hd:∀ σ H,Pv n σ H->D.nx σ H) :
  ∃ W:Nat->Nat->St->Hp->Prop,(∃ m,W 0 m σ H)/\∀ i m σ H,W i m σ H →
   ((Itr lo n).stop i H/\D.nx σ H)\/((Itr lo n).go i H/\∃ N:St->Hp->Prop,(∀ σ' H',N σ' H'->∃ m',m' < m/\W (i+1) m' σ' H')/\∀ x H',(Itr lo n).yld i H x H'->g x σ H' λ σ2 H2=>tb { D with nx:=N,ct:=N,bk:=D.nx } σ2 H2):=by
 refine⟨λ i m σ H=>m=n - i/\i<=n/\Pv i σ H,⟨n,by simp,LD _,h0⟩,?_⟩;rintro i m σ H ⟨rfl,hi,p⟩
 by_cases hlt:i < n
 ·refine .inr ⟨hlt,Pv (i+1),λ σ' H' p'=>⟨n - (i+1),by omega,rfl,hlt,p'⟩,λ x H' y=>?_⟩;obtain⟨e,y⟩:=y;subst e y;exact hs i σ _ hlt p
 ·have e:i=n:=by omega
  subst e;exact .inl ⟨Li _,hd σ H p⟩
abbrev R2:=V->V->Hp->VK->Prop
def OpR(X:Cx)(f:Value->Value->Sem Value)(r:R2):Prop:=
 ∀ (pins:List (Addr × Obj)) (s:Shared) (σ:St) (H:Hp) (x y:V) (v u:Value) (Q:VK),Inv X pins σ H s->aU x v->aU y u->r x y H Q →
  wpAny (model X.prog X.w) X.A (f v u) (EP X pins σ Q) X.xe s
def UnR(X:Cx)(f:Value->Sem Value)(r:V->Hp->VK->Prop):Prop:=
 ∀ (pins:List (Addr × Obj)) (s:Shared) (σ:St) (H:Hp) (x:V) (v:Value) (Q:VK),Inv X pins σ H s->aU x v->r x H Q →
  wpAny (model X.prog X.w) X.A (f v) (EP X pins σ Q) X.xe s
def bG(X:Cx)(f:Value)(r:List V->Hp->VK->Prop):Prop:=
 ∀ (pins:List (Addr × Obj)) (s:Shared) (σ:St) (H:Hp) (xs:List V) (us:List Value) (Q:VK),Inv X pins σ H s->aL xs us->r xs H Q →
  wpAny (model X.prog X.w) X.A (call f us) (EP X pins σ Q) X.xe s
def tOp(r:R2)(ta tb:TE):TE:=λ σ H Q=>ta σ H λ x H1=>tb σ H1 λ y H2=>r x y H2 Q
def tUn(r:V->Hp->VK->Prop)(ta:TE):TE:=λ σ H Q=>ta σ H λ x H1=>r x H1 Q
def rI(C:Int->Int->Prop)(g:Int->Int->V):R2:=λ x y H Q=>∃ i j,x=.int i/\y=.int j/\C i j/\Q (g i j) H
def rI0(g:Int->Int->V):R2:=λ x y H Q=>∃ i j,x=.int i/\y=.int j/\Q (g i j) H
def rU(g:Int->V):V->Hp->VK->Prop:=λ x H Q=>∃ i,x=.int i/\Q (g i) H
section
variable {X:Cx}{a b c:Expr}{ta tb tc:TE}{pos:Pos}
theorem Ip(ha:PE X a ta)(hb:PE X b tb){pins:List (Addr × Obj)}{s:Shared}{σ:St}{H:Hp}{R:V->V->Hp->Prop}(I:Inv X pins σ H s)
  (h:ta σ H λ x H1=>tb σ H1 λ y H2=>R x y H2) {Q:Value->Shared->Prop} {f:Value->Value->Sem Value}
  (hf:∀ v u s2 x y H2,Inv X pins σ H2 s2->aU x v->aU y u->R x y H2->wpAny (model X.prog X.w) X.A (f v u) Q X.xe s2) :
  wpAny (model X.prog X.w) X.A (eval a X.env) (λ v s₁=>wpAny (model X.prog X.w) X.A (eval b X.env) (λ u s₂=>wpAny (model X.prog X.w) X.A (f v u) Q X.xe s₂) X.xe s₁) X.xe s:=by
 refine thn (ha pins s σ H _ I h) λ v s1 ⟨x,H1,I1,r1,q1⟩=>?_;refine thn (hb pins s1 σ H1 _ I1 q1) λ u s2 ⟨y,H2,I2,r2,q2⟩=>?_;exact hf v u s2 x y H2 I2 r1 r2 q2
theorem dA{op:Operator}{r:R2}(ho:OpR X (binaryOp op) r)(ha:PE X a ta)(hb:PE X b tb):PE X (.BinOp a op b pos) (tOp r ta tb):=by
 intro pins s σ H Q I h;exact wpAny_BinOp (Ip ha hb I h λ v u s2 x y H2 I2 rx ry q=>ho pins s2 σ H2 x y v u Q I2 rx ry q)
theorem m8{op:UnaryOp}{r:V->Hp->VK->Prop}(ho:UnR X (unaryOp op) r)(ha:PE X a ta):PE X (.UnaryOp op a pos) (tUn r ta):=by
 intro pins s σ H Q I h;exact UnaryOp_ (thn (ha pins s σ H _ I h) λ v s1 ⟨x,H1,I1,r1,q1⟩=>ho pins s1 σ H1 x v Q I1 r1 q1)
theorem opI{f:Value->Value->Sem Value}{C:Int->Int->Prop}{g:Int->Int->Int}
  (rule:∀ (i j:Int) (t u:Tok) (s:Shared) (Q:Value->Shared->Prop) (E:Value->Shared->Prop),C i j->Q (.int (g i j) s.toks) { s with toks:=s.toks+1 }->wpAny (model X.prog X.w) X.A (f (.int i t) (.int j u)) Q E s) :
  OpR X f (rI C λ i j=>.int (g i j)):=by
 intro pins s σ H x y v u Q I rx ry h;obtain⟨i,j,rfl,rfl,hc,q⟩:=h;obtain⟨t,rfl⟩:=rx;obtain⟨t',rfl⟩:=ry;exact rule i j t t' s _ _ hc ⟨.int (g i j),H,I.tok _,⟨_,rfl⟩,q⟩
theorem JR{f:Value->Value->Sem Value}{g:Int->Int->Int}
  (rule:∀ (i j:Int) (t u:Tok) (s:Shared) (Q:Value->Shared->Prop) (E:Value->Shared->Prop),Q (.int (g i j) s.toks) { s with toks:=s.toks+1 }->wpAny (model X.prog X.w) X.A (f (.int i t) (.int j u)) Q E s) :
  OpR X f (rI0 λ i j=>.int (g i j)):=by
 intro pins s σ H x y v u Q I rx ry h;obtain⟨i,j,rfl,rfl,q⟩:=h;obtain⟨t,rfl⟩:=rx;obtain⟨t',rfl⟩:=ry;exact rule i j t t' s _ _ ⟨.int (g i j),H,I.tok _,⟨_,rfl⟩,q⟩
theorem G6{f:Value->Value->Sem Value}{g:Int->Int->Bool}
  (rule:∀ (i j:Int) (t u:Tok) (s:Shared) (Q:Value->Shared->Prop) (E:Value->Shared->Prop),Q (.bool (g i j)) s->wpAny (model X.prog X.w) X.A (f (.int i t) (.int j u)) Q E s) :
  OpR X f (rI0 λ i j=>.bl (g i j)):=by
 intro pins s σ H x y v u Q I rx ry h;obtain⟨i,j,rfl,rfl,q⟩:=h;obtain⟨t,rfl⟩:=rx;obtain⟨t',rfl⟩:=ry;exact rule i j t t' s _ _ ⟨.bl (g i j),H,I,rfl,q⟩
def Iu(i j:Int):Prop:=0 < j/\j < 1073741824
def Ir(i j:Int):Prop:=0<=j/\j<=1000000/\i.natAbs < 2 ^ 64
def zC(i j:Int):Prop:=(-(2 ^ 64) < i/\i < 2 ^ 64)\/(-(2 ^ 64) < j/\j < 2 ^ 64)
theorem zC.ok{i j:Int}(h:zC i j):IntMulOk i j:=by
 rcases h with ⟨h1,h2⟩|⟨h1,h2⟩
 ·exact .of_left (intBits_le_64 h1 h2)
 ·exact .of_right (intBits_le_64 h1 h2)
theorem oG:OpR X (binaryOp .Add) (rI0 λ i j=>.int (i+j)):=JR λ _ _ _ _ _ _ _ q=>add_int q
theorem EA:OpR X (binaryOp .Sub) (rI0 λ i j=>.int (i - j)):=JR λ _ _ _ _ _ _ _ q=>sub_int q
theorem gr:OpR X (binaryOp .Mult) (rI zC λ i j=>.int (i * j)):=opI λ _ _ _ _ _ _ _ hc q=>mul_int q hc.ok
theorem Bf:OpR X (binaryOp .FloorDiv) (rI Iu λ i j=>.int (i / j)):=opI λ i j _ _ _ _ _ hc q=>by
 have h1:(0:Int) < j:=hc.1;have h2:j < 1073741824:=hc.2;exact floordiv_int (by omega) (by rw [Int.fdiv_eq_ediv_of_nonneg i (by omega)];exact q) (.inl (PyProof.noPylong_small (by omega)))
theorem g7:OpR X (binaryOp .Mod) (rI (λ _ j=>0 < j) λ i j=>.int (i % j)):=opI λ i j _ _ _ _ _ hc q=>by
 have h1:(0:Int) < j:=hc;exact mod_int' (by omega) (by rw [Int.fmod_eq_emod_of_nonneg i (by omega)];exact q)
theorem EC:OpR X (binaryOp .Pow) (rI Ir λ i j=>.int (i ^ j.toNat)):=opI λ _ _ _ _ _ _ _ hc q=>pow_int_small hc.1 hc.2.1 hc.2.2 q
theorem unI{f:Value->Sem Value}{g:Int->Int}
  (rule:∀ (i:Int) (t:Tok) (s:Shared) (Q:Value->Shared->Prop) (E:Value->Shared->Prop),Q (.int (g i) s.toks) { s with toks:=s.toks+1 }->wpAny (model X.prog X.w) X.A (f (.int i t)) Q E s) :
  UnR X f (rU λ i=>.int (g i)):=by
 intro pins s σ H x v Q I rx h;obtain⟨i,rfl,q⟩:=h;obtain⟨t,rfl⟩:=rx;exact rule i t s _ _ ⟨.int (g i),H,I.tok _,⟨_,rfl⟩,q⟩
theorem Ef:UnR X (unaryOp .USub) (rU λ i=>.int (-i)):=unI λ _ _ _ _ _ q=>neg_int q
end
def Dj:V->V->Bool
 | .non,.non=>true | .non,.int _=>true | .int _,.non=>true | .non,.bl _=>true | .bl _,.non=>true | .non,.str _=>true | .str _,.non=>true
 | .int _,.int _=>true | .bl _,.bl _=>true | .str _,.str _=>true | .byt _,.byt _=>true
 | .int _,.str _=>true | .str _,.int _=>true | .bl _,.str _=>true | .str _,.bl _=>true
 | _,_=>false
def rEq:R2:=λ x y H Q=>Dj x y=true/\Q (.bl (decide (x=y))) H
def rNe:R2:=λ x y H Q=>Dj x y=true/\Q (.bl (!decide (x=y))) H
theorem sZ{i j:Int}:decide (V.int i=V.int j)=(i == j):=by
 rw [MX];simp
theorem yP{i j:Bool}:decide (V.bl i=V.bl j)=(i == j):=by
 rw [MX];simp
theorem sY{i j:Str}:decide (V.str i=V.str j)=(i == j):=by
 rw [MX];simp
theorem tm{i j:Array UInt8}:decide (V.byt i=V.byt j)=(i.toList == j.toList):=by
 rw [MX];cases i;cases j;simp
section
variable {X:Cx}{a b c:Expr}{ta tb tc:TE}{pos:Pos}
theorem aF{pins:List (Addr × Obj)}{σ:St}{H:Hp}{s:Shared}{Q:VK}{k k':Bool}(I:Inv X pins σ H s)(q:Q (.bl k) H)(e:k=k'):EP X pins σ Q (.bool k') s:=by
 subst e;exact⟨.bl k,H,I,rfl,q⟩
theorem ID:OpR X (compareOp .Eq) rEq:=by
 intro pins s σ H x y v u Q I rx ry h;obtain⟨hs,q⟩:=h
 cases x with
 | non=>
  cases rx
  cases y with
  | non=>cases ry;exact PySem.EqNone.eq_none_none (aF I q (by simp))
  | bl j=>cases ry;exact PySem.EqNone.eq_none_bool (aF I q (by simp))
  | int j=>obtain⟨t',rfl⟩:=ry;exact PySem.EqNone.eq_none_int (aF I q (by simp))
  | str j=>obtain⟨t',rfl⟩:=ry;exact PySem.EqNone.eq_none_str (aF I q (by simp))
  | _=>exact absurd (show false=true from hs) Lx
 | bl i=>
  cases rx
  cases y with
  | non=>cases ry;exact PySem.EqNone.eq_bool_none (aF I q (by simp))
  | bl j=>cases ry;exact eq_bool (aF I q yP)
  | str j=>obtain⟨t',rfl⟩:=ry;exact PySem.EqMixed.eq_bool_str (aF I q (by simp))
  | _=>exact absurd (show false=true from hs) Lx
 | int i=>
  obtain⟨t,rfl⟩:=rx
  cases y with
  | non=>cases ry;exact PySem.EqNone.eq_int_none (aF I q (by simp))
  | int j=>obtain⟨t',rfl⟩:=ry;exact eq_int (aF I q sZ)
  | str j=>obtain⟨t',rfl⟩:=ry;exact PySem.EqMixed.eq_int_str (aF I q (by simp))
  | _=>exact absurd (show false=true from hs) Lx
 | str i=>
  obtain⟨t,rfl⟩:=rx
  cases y with
  | non=>cases ry;exact PySem.EqNone.eq_str_none (aF I q (by simp))
  | bl j=>cases ry;exact PySem.EqMixed.eq_str_bool (aF I q (by simp))
  | int j=>obtain⟨t',rfl⟩:=ry;exact PySem.EqMixed.eq_str_int (aF I q (by simp))
  | str j=>obtain⟨t',rfl⟩:=ry;exact eq_str (aF I q sY)
  | _=>exact absurd (show false=true from hs) Lx
 | byt i=>
  obtain⟨t,rfl⟩:=rx
  cases y with
  | byt j=>obtain⟨t',rfl⟩:=ry;exact W.eq_bytes (aF I q tm)
  | _=>exact absurd (show false=true from hs) Lx
 | _=>cases y<;>exact absurd (show false=true from hs) Lx
theorem IA:OpR X (compareOp .NotEq) rNe:=by
 intro pins s σ H x y v u Q I rx ry h;obtain⟨hs,q⟩:=h
 cases x with
 | non=>
  cases rx
  cases y with
  | non=>cases ry;exact PySem.EqNone.ne_none_none (aF I q (by simp))
  | bl j=>cases ry;exact PySem.EqNone.ne_none_bool (aF I q (by simp))
  | int j=>obtain⟨t',rfl⟩:=ry;exact PySem.EqNone.ne_none_int (aF I q (by simp))
  | str j=>obtain⟨t',rfl⟩:=ry;exact PySem.EqNone.ne_none_str (aF I q (by simp))
  | _=>exact absurd (show false=true from hs) Lx
 | bl i=>
  cases rx
  cases y with
  | non=>cases ry;exact PySem.EqNone.ne_bool_none (aF I q (by simp))
  | bl j=>cases ry;exact ne_bool (aF I q (Mt not yP))
  | str j=>obtain⟨t',rfl⟩:=ry;exact PySem.EqMixed.ne_bool_str (aF I q (by simp))
  | _=>exact absurd (show false=true from hs) Lx
 | int i=>
  obtain⟨t,rfl⟩:=rx
  cases y with
  | non=>cases ry;exact PySem.EqNone.ne_int_none (aF I q (by simp))
  | int j=>obtain⟨t',rfl⟩:=ry;exact ne_int (aF I q (Mt not sZ))
  | str j=>obtain⟨t',rfl⟩:=ry;exact PySem.EqMixed.ne_int_str (aF I q (by simp))
  | _=>exact absurd (show false=true from hs) Lx
 | str i=>
  obtain⟨t,rfl⟩:=rx
  cases y with
  | non=>cases ry;exact PySem.EqNone.ne_str_none (aF I q (by simp))
  | bl j=>cases ry;exact PySem.EqMixed.ne_str_bool (aF I q (by simp))
  | int j=>obtain⟨t',rfl⟩:=ry;exact PySem.EqMixed.ne_str_int (aF I q (by simp))
  | str j=>obtain⟨t',rfl⟩:=ry;exact ne_str (aF I q (Mt not sY))
  | _=>exact absurd (show false=true from hs) Lx
 | byt i=>
  obtain⟨t,rfl⟩:=rx
  cases y with
  | byt j=>obtain⟨t',rfl⟩:=ry;exact W.ne_bytes (aF I q (Mt not tm))
  | _=>exact absurd (show false=true from hs) Lx
 | _=>cases y<;>exact absurd (show false=true from hs) Lx
theorem DK:OpR X (compareOp .Lt) (rI0 λ i j=>.bl (decide (i < j))):=G6 λ _ _ _ _ _ _ _ q=>lt_int q
theorem IB:OpR X (compareOp .LtE) (rI0 λ i j=>.bl (decide (i<=j))):=G6 λ _ _ _ _ _ _ _ q=>le_int q
theorem DL:OpR X (compareOp .Gt) (rI0 λ i j=>.bl (decide (j < i))):=G6 λ _ _ _ _ _ _ _ q=>gt_int q
theorem IC:OpR X (compareOp .GtE) (rI0 λ i j=>.bl (decide (j<=i))):=G6 λ _ _ _ _ _ _ _ q=>ge_int q
theorem EE:OpR X (compareOp .Is) (λ x y H Q=>y=.non/\Q (.bl (decide (x=.non))) H):=by
 intro pins s σ H x y v u Q I rx ry h;obtain⟨rfl,q⟩:=h;cases ry;refine is_none_gen (aF I q ?_)
 cases x<;>first
  | (cases rx;rfl)
  | (obtain⟨t,rfl⟩:=rx;rfl)
theorem Bc:OpR X (compareOp .IsNot) (λ x y H Q=>y=.non/\Q (.bl (!decide (x=.non))) H):=by
 intro pins s σ H x y v u Q I rx ry h;obtain⟨rfl,q⟩:=h;cases ry;refine isnot_none_gen (aF I q ?_)
 cases x<;>first
  | (cases rx;rfl)
  | (obtain⟨t,rfl⟩:=rx;rfl)
theorem OpR.or{f:Value->Value->Sem Value}{r r':R2}(h:OpR X f r)(h':OpR X f r'):OpR X f (λ x y H Q=>r x y H Q\/r' x y H Q):=by
 intro pins s σ H x y v u Q I rx ry q
 rcases q with q|q
 ·exact h pins s σ H x y v u Q I rx ry q
 ·exact h' pins s σ H x y v u Q I rx ry q
theorem ar(b:Expr){op:CmpOp}(h:op ≠ .In:=by decide)(h2:op ≠ .NotIn:=by decide):behindInMarks op b=false:=by
 have e1:(op == CmpOp.In)=false:=by cases op<;>first|rfl|exact absurd rfl h
 have e2:(op == CmpOp.NotIn)=false:=by cases op<;>first|rfl|exact absurd rfl h2
 cases b<;>simp [behindInMarks,e1,e2]
theorem A8{op:CmpOp}{r:R2}(ho:OpR X (compareOp op) r)(ha:PE X a ta)(hb:PE X b tb)(hm:behindInMarks op b=false):PE X (.Compare a [op] [b] pos) (tOp r ta tb):=by
 intro pins s σ H Q I h;exact wpAny_Compare1 (Ip ha hb I h λ v u s2 x y H2 I2 rx ry q=>ho pins s2 σ H2 x y v u Q I2 rx ry q) hm
def zF(t:TE):TT:=λ σ H Q=>t σ H λ x H'=>∃ k,x=.bl k/\Q k H'
theorem nE{op:CmpOp}{r:R2}(ho:OpR X (compareOp op) r)(ha:PE X a ta)(hb:PE X b tb)(hm:behindInMarks op b=false):PT X (.Compare a [op] [b] pos) (zF (tOp r ta tb)):=by
 intro pins s σ H Q I h
 refine wpAny_isTrue_Compare1 (thn (ha pins s σ H _ I h) λ v s1 ⟨x,H1,I1,r1,q1⟩=>thn (hb pins s1 σ H1 _ I1 q1) λ u s2 ⟨y,H2,I2,r2,q2⟩=>
  thn (ho pins s2 σ H2 x y v u _ I2 r1 r2 q2) λ c s3 ⟨z,H3,I3,r3,k,e,q3⟩=>?_) hm
 subst e;cases r3;exact MN ⟨H3,I3,q3⟩
def yz(r r':R2)(ta tb tc:TE):TE:=λ σ H Q=>ta σ H λ x H1=>tb σ H1 λ y H2=>r x y H2 λ z H3=>∃ k,z=.bl k /\
 (if k=true then tc σ H3 λ w' H4=>r' y w' H4 Q else Q (.bl false) H3)
theorem wR{op op':CmpOp}{r r':R2}(ho:OpR X (compareOp op) r)(ho':OpR X (compareOp op') r')(ha:PE X a ta)(hb:PE X b tb)(hc:PE X c tc)
  (hm:lastMarks [op,op'] [b,c]=false:=by with_unfolding_all rfl):PE X (.Compare a [op,op'] [b,c] pos) (yz r r' ta tb tc):=by
 intro pins s σ H Q I h
 refine Compare_chain (thn (ha pins s σ H _ I h) λ v s1 ⟨x,H1,I1,r1,q1⟩=>chain_link (thn (hb pins s1 σ H1 _ I1 q1) λ u s2 ⟨y,H2,I2,r2,q2⟩=>
  thn (ho pins s2 σ H2 x y v u _ I2 r1 r2 q2) λ d s3 ⟨z,H3,I3,r3,k,e,q3⟩=>?_)) hm
 subst e;cases r3;refine MN ?_
 cases k with
 | false=>exact ite_ff ⟨.bl false,H3,I3,rfl,q3⟩
 | true=>exact ite_tt (chain_last (thn (hc pins s3 σ H3 _ I3 q3) λ w' s4 ⟨z',H4,I4,r4,q4⟩=>ho' pins s4 σ H4 y z' u w' Q I4 r2 r4 q4))
theorem lC:(sizeLine:Nat) < 2 ^ 63:=by rw [sizeLine_eq];decide
theorem zE{x:V}{us:List Value}(r:aL [x] us):∃ u,us=[u]/\aU x u:=by
 cases r with
 | cons r1 r2=>cases r2;exact⟨_,rfl,r1⟩
theorem zD{x y:V}{us:List Value}(r:aL [x,y] us):∃ u w',us=[u,w']/\aU x u/\aU y w':=by
 cases r with
 | cons r1 r2=>
  cases r2 with
  | cons r3 r4=>cases r4;exact⟨_,_,rfl,r1,r3⟩
theorem vk(hc:X.calm=true):bG X (.builtin "max") (λ xs H Q=>∃ i j,xs=[.int i,.int j]/\Q (.int (if j > i then j else i)) H):=by
 intro pins s σ H xs us Q I r h;obtain⟨i,j,rfl,q⟩:=h;obtain⟨u,w',rfl,⟨t,rfl⟩,⟨t',rfl⟩⟩:=zD r;refine max_two_ints (I.ok.hd hc) λ h' tk k=>⟨_,H,I.kept k,?_,q⟩
 by_cases hj:j > i
 ·rw [Lo hj,Lo hj];exact⟨_,rfl⟩
 ·rw [Lm hj,Lm hj];exact⟨_,rfl⟩
theorem vh(hc:X.calm=true):bG X (.builtin "min") (λ xs H Q=>∃ i j,xs=[.int i,.int j]/\Q (.int (if j < i then j else i)) H):=by
 intro pins s σ H xs us Q I r h;obtain⟨i,j,rfl,q⟩:=h;obtain⟨u,w',rfl,⟨t,rfl⟩,⟨t',rfl⟩⟩:=zD r;refine min_two_ints (I.ok.hd hc) λ h' tk k=>⟨_,H,I.kept k,?_,q⟩
 by_cases hj:j < i
 ·rw [Lo hj,Lo hj];exact⟨_,rfl⟩
 ·rw [Lm hj,Lm hj];exact⟨_,rfl⟩
end
structure zB(h:Heap)(x dx C:Addr)(mA:Str->Option Value):Prop where
 obj:h.get? x=some (W.instObj C dx)
 ns:h.Ns1 dx mA
 ne:dx ≠ x
theorem uN{h:Heap}{dx:Addr}{mA:Str->Option Value}(n:h.Ns1 dx mA):∃ od,h.get? dx=some od/\∀ name,W.lookIn name od=some (mA name):=by
 obtain⟨o,es,ep,ho,hd,hk,_,hm⟩:=n;refine⟨o,ho,λ name=>?_⟩;have e:=hm name;unfold nsFind findBy at e;rw [←Array.find?_toList] at e;unfold W.lookIn;rw [hd];dsimp only;split
 ·rename_i y q;rw [q] at e;exact Mt some e
 ·rename_i q;rw [q] at e
  have a:es.toList.any (·.refKey)=false:=by
   rw [List.any_eq_false];intro y hy;obtain⟨z,t,hkey⟩:=hk y (Array.mem_toList_iff.mp hy);simp [DictEntry.refKey,hkey]
  have a':¬ es.toList.any (·.refKey)=true:=by rw [a];exact Lx
  rw [Lm a'];exact Mt some e
theorem zB.look{h:Heap}{x dx C:Addr}{mA:Str->Option Value}(I:zB h x dx C mA):∃ od,W.InstAt h x (W.instObj C dx) C (some od)/\∀ name,W.lookIn name od=some (mA name):=
 let ⟨od,ho,hl⟩:=uN I.ns
 ⟨od,⟨I.obj,rfl,rfl,ho⟩,hl⟩
section
variable {prog:Program}{w:World}{A:Around}{E:Value->Shared->Prop}{s:Shared}{K:PySem.W.Frag}{x dx C f:Addr}{mA:Str->Option Value}{name:Str}{v:Value}
theorem Ct{expr:Bool}{Q:Value->Shared->Prop}(X:K.In s.heap)(I:zB s.heap x dx C mA)(hg:W.plainGet K C name=true)(hh:W.hasDictIn K C=true)
  (ha:W.findIn K (.ref C) name=some none) (hv:mA name=some v) (hv':W.handedIn v=true) (h:Q v { s with toks:=s.toks+1 }) :
  wpAny (model prog w) A (getAttr (.ref x) name expr) Q E s:=by
 obtain⟨od,J,hl⟩:=I.look;exact W.get_value X J (W.plainGet_of hg).1 (W.findObj_own hh ha rfl (by rw [hl,hv])) hv' h
theorem xY{pl:Sem Bool}{Q:Value × List Value->Shared->Prop}(X:K.In s.heap)(I:zB s.heap x dx C mA)(hg:W.plainGet K C name=true)
  (hf:W.findIn K (.ref C) name=some (some (.ref f))) (ht:W.isFn K (.ref f)=true) (hv:mA name=none) (h:Q (.ref f,[.ref x]) s) :
  wpAny (model prog w) A (getMethod (.ref x) name pl) Q E s:=by
 obtain⟨od,J,hl⟩:=I.look;exact W.method_fn X J (W.plainGet_of hg).1 (W.plainGet_of hg).2 hf (OH.mp ht) (by show (W.lookIn name od).map (·.isSome)=some false;rw [hl,hv];rfl) h
theorem AL{ns:List Str}{Q:Unit->Shared->Prop}(X:K.In s.heap)(I:zB s.heap x dx C mA)
  (hs:W.findIn K (.ref C) "__setattr__"=some (some (.builtin "object.__setattr__"))) (hp:W.plainOver K C=true) (ht:W.takerIn K C name=some none) (hh:W.hasDictIn K C=true)
  (hw:PySem.Within mA ns) (hsz:ns.length<=sizeLine)
  (h:∀ h',zB h' x dx C (λ y=>if y=name then some v else mA y)->Heap.SameBut dx s.heap h'->Q () { s with heap:=h',toks:=s.toks+2 }) :
  wpAny (model prog w) A (setAttr (.ref x) name v) Q E s:=by
 obtain⟨od,J,hl⟩:=I.look;refine W.set_plain X J hs (W.osa_open (s:={ s with toks:=s.toks+1 }) (r:=none) X J hp ht λ b=>?_);obtain⟨cd,hc,hd'⟩:=W.any_some hh;have hx:s.heap.get? x=some ⟨.ref C,some dx,.plain,#[]⟩:=I.obj;refine K0 (Lf (K0 (K0 (wpAny_loadPart hx (K0 (W.Looks.here (s:={ s with toks:=s.toks+1 }) (W.looks_clsIn X hc) ?_))))));rw [hd'];refine Lf (a:=some dx) (K0 (Lf (K0 ?_)));refine wpAny_nsSet1 (s:={ s with toks:=s.toks+1 }) I.ns λ h' hn2 hs2=>?_;obtain⟨oD,esD,epD,hoD,hdD,hcD⟩:=hn2.count (PySem.Within.cons name v hw);refine K0 (wpAny_lookBehind hoD (by rw [hdD];exact pastItsLine_dict (LU hcD (by rw [LR];omega))) ?_);exact Lf (h _ ⟨(hs2.2 _ (Lv I.ne)).trans I.obj,hn2,I.ne⟩ hs2)
theorem xc{R:Result->Shared->Prop}{vs:List Value}{kw:List (Str × Value)}(X:K.In s.heap)(hm:W.makesIn K C=true)
  (hi:W.findIn K (.ref C) "__init__"=some (some (.ref f))) (hf:W.typeIn K (.ref f)=some (.type "function"))
  (h:codeAny (model prog w) (A.under (.builtin "type.__call__" ⟨.ref C::vs,kw⟩)) (.call (.ref f) ⟨.ref (s.heap.objs.size+1)::vs,kw⟩) (W.InitBack (s.heap.objs.size+1) R)
   { s with heap:=(s.heap.push W.emptyDict).push (W.instObj C s.heap.objs.size) }) :
  codeAny (model prog w) A (.call (.ref C) ⟨vs,kw⟩) R s:=by
 obtain⟨hh,g,d,t,os⟩:=s;exact W.make_core (W.makes_of X hm) (W.looks_findIn X hi) (λ self=>W.bind_fn X self hf) (.inl rfl) h
end
def dw(f:Str)(v:V):List (Str × V)->List (Str × V)
 | []=>[(f,v)]
 | (g,x)::r=>if g=f then (g,v)::r else (g,x)::dw f v r
theorem aB(f g:Str)(v:V):∀ fs:List (Str × V),(dw f v fs).lookup g=if g=f then some v else fs.lookup g
 | []=>by
  show List.lookup g [(f,v)]=_
  by_cases h:g=f
  ·have hb:(g == f)=true:=OH.mpr h;simp only [List.lookup,hb,Lo h]
  ·have hb:(g == f)=false:=MM.mpr h;simp only [List.lookup,hb,Lm h]
 | (k,x)::r=>by
  have ih:=aB f g v r;rw [show dw f v ((k,x)::r)=(if k=f then (k,v)::r else (k,x)::dw f v r) from rfl]
  by_cases hk:k=f
  ·rw [Lo hk]
   by_cases h:g=k
   ·have hb:(g == k)=true:=OH.mpr h;simp only [List.lookup,hb,Lo (h.trans hk)]
   ·have hb:(g == k)=false:=MM.mpr h;simp only [List.lookup,hb,Lm (λ e:g=f=>h (e.trans hk.symm))]
  ·rw [Lm hk]
   by_cases h:g=k
   ·have hb:(g == k)=true:=OH.mpr h;simp only [List.lookup,hb,Lm (λ e:g=f=>hk (h.symm.trans e))]
   ·have hb:(g == k)=false:=MM.mpr h;simp only [List.lookup,hb];exact ih
theorem iy(f:Str)(v:V):∀ fs:List (Str × V),f∈(dw f v fs).map (·.1)/\∀ g,g∈fs.map (·.1)->g∈(dw f v fs).map (·.1)
 | []=>⟨by simp [dw],λ g h=>by simp at h⟩
 | (k,x)::r=>by
  obtain⟨i1,i2⟩:=iy f v r;rw [show dw f v ((k,x)::r)=(if k=f then (k,v)::r else (k,x)::dw f v r) from rfl]
  by_cases hk:k=f
  ·rw [Lo hk];subst hk;exact⟨by simp,λ g h=>by simpa using h⟩
  ·rw [Lm hk];refine⟨?_,λ g h=>?_⟩
   ·rw [LH];exact Lg _ i1
   ·rw [LH] at h ⊢
    rcases Lz.mp h with e|e
    ·exact Lz.mpr (.inl e)
    ·exact Lg _ (i2 g e)
theorem iJ(f:Str)(v:V):∀ fs:List (Str × V),(dw f v fs).length<=fs.length+1
 | []=>by simp [dw]
 | (k,x)::r=>by
  have ih:=iJ f v r;rw [show dw f v ((k,x)::r)=(if k=f then (k,v)::r else (k,x)::dw f v r) from rfl]
  by_cases hk:k=f
  ·rw [Lo hk,LR,LR];omega
  ·rw [Lm hk,LR,LR];omega
theorem k7.some_of{v:V}{o:Option Value}(r:k7 (some v) o):∃ u,o=some u/\aU v u:=by
 cases o with
 | none=>exact(show False from r).elim
 | some u=>exact⟨u,rfl,r⟩
theorem k7.none_of{o:Option Value}(r:k7 none o):o=none:=by
 cases o with
 | none=>rfl
 | some u=>exact(show False from r).elim
theorem u9{v:V}{u:Value}(r:aU v u):W.handedIn u=true:=by
 cases v with
 | non=>cases (show u=Value.none from r);rfl
 | bl b=>cases (show u=Value.bool b from r);rfl
 | int i=>obtain⟨t,e⟩:=(show ∃ t,u=Value.int i t from r);cases e;rfl
 | str x=>obtain⟨t,e⟩:=(show ∃ t,u=Value.str x t from r);cases e;rfl
 | byt b=>obtain⟨t,e⟩:=(show ∃ t,u=Value.bytes b t from r);cases e;rfl
 | flt b=>obtain⟨t,e⟩:=(show ∃ t,u=Value.float b t from r);cases e;rfl
 | ref a=>cases (show u=Value.ref a from r);rfl
 | ty n=>cases (show u=Value.type n from r);rfl
section
variable {P:Program}{w:World}{H H':Hp}{h h':Heap}{a C dx:Addr}{fs fs':List (Str × V)}
theorem jR(hok:HOk P w H h)(e:H a=some (.ins C dx fs)):∃ mA,zB h a dx C mA/\(∀ f,k7 (fs.lookup f) (mA f))/\PySem.Within mA (fs.map (·.1))/\fs.length<=1000/\H dx=some (.own a):=by
 obtain⟨d,z,ne,ob,mA,n,r,q⟩:=(show aM P w H h a (.ins C dx fs) from hok a _ e);exact⟨mA,⟨ob,n,ne⟩,r,q,z,d⟩
end
structure Cls(K:W.Frag)(C:Addr):Prop where
 pg:W.plainGet K C Str.empty=true
 hd:W.hasDictIn K C=true
 po:W.plainOver K C=true
 sa:W.findIn K (.ref C) "__setattr__"=some (some (.builtin "object.__setattr__"))
theorem Cls.get{K:W.Frag}{C:Addr}(c:Cls K C)(f:Str):W.plainGet K C f=true:=c.pg
def cp(K:W.Frag)(C:Addr)(f:Str):Prop:=W.findIn K (.ref C) f=some none
theorem cp.taker{K:W.Frag}{C:Addr}{f:Str}(n:cp K C f):W.takerIn K C f=some none:=by
 unfold W.takerIn;rw [show W.findIn K (.ref C) f=some none from n];rfl
structure m6(K:W.Frag)(C:Addr)(m:Str)(f:Addr):Prop where
 at_:W.findIn K (.ref C) m=some (some (.ref f))
 fn:W.isFn K (.ref f)=true
 kp:W.keepIn K (.ref f)=true
section
variable {X:Cx}{pins:List (Addr × Obj)}{σ:St}{H:Hp}{s:Shared}{a C dx:Addr}{fs:List (Str × V)}{f:Str}{v:V}{A:Around}{E:Value->Shared->Prop}
theorem qF{b:Bool}{Q:Value->Shared->Prop}(I:Inv X pins σ H s)(e:H a=some (.ins C dx fs))(c:Cls X.K C)(n:cp X.K C f)(l:fs.lookup f=some v)
  (h:∀ u s',Inv X pins σ H s'->aU v u->Q u s'):wpAny (model X.prog X.w) A (getAttr (.ref a) f b) Q E s:=by
 obtain⟨mA,O,r,_,_,_⟩:=jR I.hok e;obtain⟨u,hu,ru⟩:=k7.some_of (v:=v) (o:=mA f) (by rw [←l];exact r f);exact Ct I.kIn O (c.get f) c.hd n hu (u9 ru) (h u _ (I.tok _) ru)
theorem js{m:Str}{g:Addr}{pl:Sem Bool}{Q:Value × List Value->Shared->Prop}(I:Inv X pins σ H s)(e:H a=some (.ins C dx fs))(c:Cls X.K C)(k:m6 X.K C m g)(l:fs.lookup m=none)
  (h:Q (.ref g,[.ref a]) s):wpAny (model X.prog X.w) A (getMethod (.ref a) m pl) Q E s:=by
 obtain⟨mA,O,r,_,_,_⟩:=jR I.hok e;have hn:mA m=none:=k7.none_of (by rw [←l];exact r m);exact xY I.kIn O (c.get m) k.at_ k.fn hn h
theorem p8{y:V}{u:Value}{Q:Unit->Shared->Prop}(I:Inv X pins σ H s)(e:H a=some (.ins C dx fs))(c:Cls X.K C)(n:cp X.K C f)(hl:fs.length < 1000)(ry:aU y u)
  (h:∀ s',Inv X pins σ (upd H a (.ins C dx (dw f y fs))) s'->Q () s'):wpAny (model X.prog X.w) A (setAttr (.ref a) f u) Q E s:=by
 obtain⟨mA,O,r,wi,_,ho⟩:=jR I.hok e;have hz:(fs.map (·.1)).length<=sizeLine:=by rw [Lc,sizeLine_eq];omega
 refine AL I.kIn O c.sa c.po n.taker c.hd wi hz λ h' O' sb=>h _ ?_;have hd:∃ o,h'.get? dx=some o:=let ⟨o,_,_,e',_⟩:=O'.ns;⟨o,e'⟩;refine I.write (x:=a) (e:=dx) (by rw [e];exact True.intro) (.inr ho) (λ b q hb z=>(sb.2 b hb).trans z) hd ?_;refine⟨by rw [af O.ne];exact ho,?_,O.ne,O'.obj,_,O'.ns,λ g=>?_,λ g hg=>?_⟩
 ·have:=iJ f y fs;omega
 ·show k7 ((dw f y fs).lookup g) (if g=f then some u else mA g)
  rw [aB]
  by_cases q:g=f
  ·rw [Lo q,Lo q];exact ry
  ·rw [Lm q,Lm q];exact r g
 ·by_cases q:g=f
  ·rw [q];exact(iy f y fs).1
  ·refine(iy f y fs).2 g (wi g λ z=>hg ?_)
   show (if g=f then some u else mA g)=none
   rw [Lm q];exact z
theorem Inv.made(I:Inv X pins σ H s):Inv X pins σ (upd (upd H s.heap.objs.size (.own (s.heap.objs.size+1))) (s.heap.objs.size+1) (.ins C s.heap.objs.size []))
  { s with heap:=(s.heap.push W.emptyDict).push (W.instObj C s.heap.objs.size) }:=by
 have e1:(s.heap.push W.emptyDict).get? s.heap.objs.size=some W.emptyDict:=Lh s.heap rfl
 have e2:((s.heap.push W.emptyDict).push (W.instObj C s.heap.objs.size)).get? (s.heap.objs.size+1)=some (W.instObj C s.heap.objs.size):=by
  have:=Lh (s.heap.push W.emptyDict) (o:=W.instObj C s.heap.objs.size) rfl
  rwa [L4] at this
 have e3:(s.heap.push W.emptyDict).Ns s.heap.objs.size (λ _=>none):=⟨W.emptyDict,#[],_,e1,rfl,(λ e he=>absurd he (by simp)),λ _=>rfl⟩;have I1:=I.laid (a:=s.heap.objs.size) (o:=.own (s.heap.objs.size+1)) (h':=s.heap.push W.emptyDict) (t':=s.toks) (λ b u q=>K2 _ q) (Li _) ⟨_,e1⟩;refine I1.laid (a:=s.heap.objs.size+1) (o:=.ins C s.heap.objs.size []) (t':=s.toks) (λ b u q=>K2 _ q) (OO (L4 _ _)) ?_;have ne:s.heap.objs.size ≠ s.heap.objs.size+1:=Ll (Nf _);refine⟨by rw [af ne,ag],LD _,ne,e2,λ _=>none,(Heap.Ns1.of_empty e3).at λ o q=>K2 _ q,λ _=>True.intro,λ y hy=>absurd rfl hy⟩
theorem CQ{prog:Program}{w:World}{env:Env}{e:Expr}{f:Str}{pos:Pos}{s:Shared}{Q:Value->Shared->Prop}(hb:attributeBase e f env (eval e env)=eval e env)
  (h:wpAny (model prog w) A (eval e env) (λ o s₁=>wpAny (model prog w) A (getAttr o f true) Q E s₁) E s):wpAny (model prog w) A (eval (.Attribute e f pos) env) Q E s:=
 Attribute_any_ h (by rw [arm_eval_Attribute,hb])
end
section
variable {X:Cx}{o e value:Expr}{f:Str}{pos pos' tpos:Pos}{ta tv:TE}
end
section
variable {X:Cx}{pins:List (Addr × Obj)}{σ:St}{H:Hp}{s:Shared}{A:Around}{E:Value->Shared->Prop}{Q:Value->Shared->Prop}{c:Value}{b:Bool}
inductive oC (K:PySem.W.Frag) (H:Hp):V->Value->Prop where
 | non:oC K H .non (.type "NoneType")
 | bl (x:Bool):oC K H (.bl x) (.type "bool")
 | int (i:Int):oC K H (.int i) (.type "int")
 | str (x:Str):oC K H (.str x) (.type "str")
 | flt (x:UInt64):oC K H (.flt x) (.type "float")
 | lst {a:Addr} {xs:List V} (e:H a=some (.lst xs)):oC K H (.ref a) (.type "list")
 | frz {a:Addr} {o:Obj} {xs:List V} (e:H a=some (.frz o (.lst xs))):oC K H (.ref a) (.type "list")
 | tup {a:Addr} {xs:List V} (e:H a=some (.tup xs)):oC K H (.ref a) (.type "tuple")
 | dK {a:Addr} {kvs:List (Key × V)} (e:H a=some (.dK kvs)):oC K H (.ref a) (.type "dict")
 | dT {a:Addr} {kvs:List (List Key × V)} (e:H a=some (.dT kvs)):oC K H (.ref a) (.type "dict")
 | ins {a C dx:Addr} {fs:List (Str × V)} (e:H a=some (.ins C dx fs)) (cl:Cls K C) (ha:PySem.W.findIn K (.ref C) "__class__"=some (some (.builtin "object.__class__")))
   (hn:PySem.W.specialIn K (.builtin "object.__class__") "__get__"=some (some (.builtin "getset_descriptor.__get__"))) (htk:PySem.W.takesIn K (.builtin "object.__class__")=some true)
   (hm:PySem.W.mroIn K C (.type "object")=some true):oC K H (.ref a) (.ref C)
theorem u4{x:V}{u t:Value}(I:Inv X pins σ H s)(rx:aU x u)(ty:oC X.K H x t)(e:W.kitOne X.K t c=some b)(h:∀ tk,Q (.bool b) { s with toks:=tk }) :
  wpAny (model X.prog X.w) A (call (.builtin "isinstance") [u,c]) Q E s:=by
 cases ty with
 | non=>cases (show u=Value.none from rx);exact Nt W.kitx_none I.kIn True.intro e (λ z=>nomatch z) h
 | bl y=>cases (show u=Value.bool y from rx);exact Nt W.kitx_bool I.kIn True.intro e (λ z=>nomatch z) h
 | int i=>obtain⟨t,q⟩:=(show ∃ t,u=Value.int i t from rx);cases q;exact Nt W.kitx_int I.kIn True.intro e (λ z=>nomatch z) h
 | str y=>obtain⟨t,q⟩:=(show ∃ t,u=Value.str y t from rx);cases q;exact Nt W.kitx_str I.kIn True.intro e (λ z=>nomatch z) h
 | flt y=>obtain⟨t,q⟩:=(show ∃ t,u=Value.float y t from rx);cases q;exact Nt W.kitx_float I.kIn True.intro e (λ z=>nomatch z) h
 | @lst a xs ea=>
  cases (show u=Value.ref a from rx);obtain⟨_,_,n,_,h1⟩:=(show aM X.prog X.w H s.heap a (.lst xs) from I.hok a _ ea);exact Nt W.kitx_list I.kIn ⟨_,h1,rfl⟩ e (λ z=>nomatch z) h
 | @frz a ob xs ea=>
  cases (show u=Value.ref a from rx);obtain⟨_,_,_,n,_,h1⟩:=(show aM X.prog X.w H s.heap a (.frz ob (.lst xs)) from I.hok a _ ea);exact Nt W.kitx_list I.kIn ⟨_,h1,rfl⟩ e (λ z=>nomatch z) h
 | @tup a xs ea=>
  cases (show u=Value.ref a from rx);obtain⟨_,_,_,p⟩:=(show aM X.prog X.w H s.heap a (.tup xs) from I.hok a _ ea);obtain⟨o,h1,h2,_⟩:=p;exact Nt W.kitx_tuple I.kIn ⟨o,h1,h2⟩ e (λ z=>nomatch z) h
 | @dK a kvs ea=>
  cases (show u=Value.ref a from rx);obtain⟨_,_,vs,_,p⟩:=(show aM X.prog X.w H s.heap a (.dK kvs) from I.hok a _ ea);obtain⟨o,es,ep,h1,h2,_⟩:=p;exact Nt W.kitx_dict I.kIn ⟨o,h1,h2.1⟩ e (λ z=>nomatch z) h
 | @dT a kvs ea=>
  cases (show u=Value.ref a from rx);obtain⟨_,_,xs,_,o,es,ep,h1,h2,_⟩:=(show aM X.prog X.w H s.heap a (.dT kvs) from I.hok a _ ea);exact Nt W.kitx_dict I.kIn ⟨o,h1,h2.1⟩ e (λ z=>nomatch z) h
 | @ins a C dx fs ea cl ha hn htk hm=>
  cases (show u=Value.ref a from rx);obtain⟨mA,O,_⟩:=jR I.hok ea;obtain⟨od,J,_⟩:=O.look;exact Nt (W.kitx_own (cl.get _) cl.hd ha hn htk hm) I.kIn J e (λ z=>nomatch z) h
end
structure fA(k:Nat)(A:Around):Prop where
 hd:A.handled=none
 dp:A.depth+3 * k+5 < recursionLimit
 un:A.units+16 * k+200 < cLine
theorem fA.mono{j k:Nat}{A:Around}(r:fA k A)(h:j<=k):fA j A:=⟨r.hd,by have:=r.dp;omega,by have:=r.un;omega⟩
theorem fA.deeper{k:Nat}{A:Around}(r:fA (k+1) A)(env:Env):fA k (A.deeper env):=
 ⟨r.hd,by have:=r.dp;show A.depth+1+3 * k+5 < _;omega,by have:=r.un;show A.units+3+16 * k+200 < _;omega⟩
theorem fA.in1{k:Nat}{A:Around}(r:fA (k+1) A):fA k A.in1:=
 ⟨r.hd,by have:=r.dp;show A.depth+3 * k+5 < _;omega,by have:=r.un;show A.units+1+16 * k+200 < _;omega⟩
theorem qp{A:Around}{C:Addr}{us:List Value}{kw:List (Str × Value)}:(A.under (.builtin "type.__call__" ⟨.ref C::us,kw⟩)).depth=A.depth+1:=by
 first|rfl|simp [Around.under,Code.weight,Code.isCreation,Code.isGuard,Code.isCaller,Code.frames,Code.isFrame,guardIds]
theorem qo{A:Around}{C:Addr}{us:List Value}{kw:List (Str × Value)}:(A.under (.builtin "type.__call__" ⟨.ref C::us,kw⟩)).units=A.units+1:=by
 first|rfl|simp [Around.under,Code.cUnits,Code.frames,Code.isFrame]
theorem fA.make{k:Nat}{A:Around}(r:fA (k+1) A)(C:Addr)(us:List Value)(kw:List (Str × Value)):fA k (A.under (.builtin "type.__call__" ⟨.ref C::us,kw⟩)):=
 ⟨r.hd,by have:=r.dp;rw [qp];omega,by have:=r.un;rw [qo];omega⟩
theorem fA.depth{k:Nat}{A:Around}(r:fA k A):A.depth < recursionLimit:=by have:=r.dp;omega
theorem fA.units{k:Nat}{A:Around}(r:fA k A):A.units+64 < cLine:=by have:=r.un;omega
def Df:TA:=λ _ H Q=>Q [] H
def rm(ta:TE)(tr:TA):TA:=λ σ H Q=>ta σ H λ x H1=>tr σ H1 λ xs H2=>Q (x::xs) H2
section
variable {X:Cx}{e:Expr}{es:List Expr}{te:TE}{t:TA}{pos:Pos}
theorem cM:PA X [] Df:=λ _ _ _ _ H Q I h=>Of ⟨[],H,I,.nil,h⟩
theorem Ba(ha:PE X e te)(hr:PA X es t)(hs:starEach (e::es) X.env=(false,eval e X.env)::starEach es X.env:=by rfl):PA X (e::es) (rm te t):=by
 intro pos pins s σ H Q I h;rw [hs]
 show wpAny _ _ (spliced ((false,eval e X.env)::backTo pos (starEach es X.env))) _ _ s
 refine Nx (thn (ha pins s σ H _ I h) λ u s1 ⟨x,H1,I1,r1,q1⟩=>?_);exact thn (hr pos pins s1 σ H1 _ I1 q1) λ us s2 ⟨xs,H2,I2,r2,q2⟩=>⟨x::xs,H2,I2,.cons r1 r2,q2⟩
end
abbrev Sp:=List V->Hp->VK->XK->Prop
abbrev CXT:=List Env->Hp->Shared->XK->Value->Shared->Prop
structure qX(P:Program)(w:World)(K:W.Frag)(mg:Str->Option Value)(base:Heap)(A:Around)(outer:List Env)(s:Shared)(H:Hp):Prop where
 frames:A.frames=some outer
 mod:Mod K mg base
 bs:∀ b o,base.get? b=some o->s.heap.get? b=some o/\H b=none
 bsz:base.objs.size<=s.heap.objs.size
 funs:s.heap.FunFrames base outer
 frf:∀ b∈frs outer,H b=none
 hok:HOk P w H s.heap
 bare:AllBare s.gens
def CE(outer:List Env)(P:Program)(w:World)(H:Hp)(s:Shared)(Q:VK)(u:Value)(s':Shared):Prop:=
 ∃ v H',s'.os=s.os/\AllBare s'.gens/\Un (frs outer) [] H H' s.heap s'.heap/\HOk P w H' s'.heap/\aU v u/\Q v H'
def CR(CX:CXT)(outer:List Env)(P:Program)(w:World)(H:Hp)(s:Shared)(Q:VK)(E:XK)(r:Result)(s':Shared):Prop:=
 match r with
 | .ok (.ret u)=>CE outer P w H s Q u s'
 | .ok _=>False
 | .error e=>CX outer H s E e s'
structure bj(P:Program)(w:World)(K:W.Frag)(mg:Str->Option Value)(base:Heap)(CX:CXT)(k:Nat)(f:Addr)(fd:FuncData)(ps:List Str)(sp:Sp):Prop where
 len:∀ vs H Q E,sp vs H Q E->vs.length=ps.length
 run:∀ (A:Around) (outer:List Env) (s:Shared) (H:Hp) (args:Args) (us:List Value) (vs:List V) (Q:VK) (E:XK),fA k A->qX P w K mg base A outer s H->BindsTo s fd args (ps.zip us)->aL vs us->sp vs H Q E →
  codeAny (model P w) A (.call (.ref f) args) (CR CX outer P w H s Q E) s
theorem bj.imp{P:Program}{w:World}{K:W.Frag}{mg:Str->Option Value}{base:Heap}{CX:CXT}{k:Nat}{f:Addr}{fd:FuncData}{ps:List Str}{sp sp':Sp}(F:bj P w K mg base CX k f fd ps sp)
  (h:∀ vs H Q E,sp' vs H Q E->sp vs H Q E):bj P w K mg base CX k f fd ps sp':=
 ⟨λ vs H Q E q=>F.len vs H Q E (h _ _ _ _ q),λ A outer s H args us vs Q E hr he hb hv hs=>F.run A outer s H args us vs Q E hr he hb hv (h _ _ _ _ hs)⟩
theorem qX.make{P:Program}{w:World}{K:W.Frag}{mg:Str->Option Value}{base:Heap}{A:Around}{outer:List Env}{s:Shared}{H:Hp}(e:qX P w K mg base A outer s H)(C:Addr)(us:List Value)(kw:List (Str × Value)) :
  qX P w K mg base (A.under (.builtin "type.__call__" ⟨.ref C::us,kw⟩)) outer s H:=⟨by first|exact e.frames|(simpa [Around.under,Code.envs,Code.isFrame,pushEnvs] using e.frames),e.mod,e.bs,e.bsz,e.funs,e.frf,e.hok,e.bare⟩
theorem qX.in1{P:Program}{w:World}{K:W.Frag}{mg:Str->Option Value}{base:Heap}{A:Around}{outer:List Env}{s:Shared}{H:Hp}(e:qX P w K mg base A outer s H) :
  qX P w K mg base A.in1 outer s H:=⟨e.frames,e.mod,e.bs,e.bsz,e.funs,e.frf,e.hok,e.bare⟩
section
variable {X:Cx}{pins:List (Addr × Obj)}{σ:St}{H:Hp}{s s':Shared}
theorem Inv.env0(I:Inv X pins σ H s):qX X.prog X.w X.K X.mg X.base X.A X.stack s H:=
 ⟨I.ok.frames,I.ok.mod,I.bs,LU I.ok.bsz I.sz,I.stack,I.stkFree,I.hok,I.bare⟩
theorem Inv.after{Q:VK}{u:Value}(I:Inv X pins σ H s)(h:CE X.stack X.prog X.w H s Q u s'):EP X pins σ Q u s':=by
 obtain⟨v,H',os,bare,un,hok,r,q⟩:=h;obtain⟨hh,g,d,t,os'⟩:=s';obtain rfl:os'=s.os:=os;exact⟨v,H',I.call (h':=hh) (g':=g) (d':=d) (t':=t) (ch:=[]) un hok bare (λ b z=>absurd z (by simp)),r,q⟩
end
def Dy(sp:Sp)(dvs:List V)(E:XK)(t:TA):TE:=λ σ H Q=>t σ H λ vs H1=>sp (vs++dvs) H1 Q E
def au(K:W.Frag)(fd:FuncData)(ps:List Str)(ds:List Value):Prop:=
 ∀ (s:Shared) (us:List Value),K.In s.heap->(us++ds).length=ps.length->BindsTo s fd ⟨us,[]⟩ (ps.zip (us++ds))
theorem au.all{K:W.Frag}{fd:FuncData}{ps:List Str}(h:∀ us:List Value,us.length=ps.length->bindArgs fd ⟨us,[]⟩=pure (ps.zip us)):au K fd ps []:=λ s us _ hl=>by
 rw [NB] at hl ⊢;exact .of_eq (h us hl)
def hG(CX:CXT)(X:Cx)(E:XK):Prop:=∀ (pins:List (Addr × Obj)) (σ:St) (H:Hp) (s:Shared) (e:Value) (s':Shared),Inv X pins σ H s->CX X.stack H s E e s'->X.xe e s'
section
variable {X:Cx}{CX:CXT}{k:Nat}{f C:Addr}{fd:FuncData}{ps:List Str}{sp:Sp}{dvs:List V}{ds:List Value}{E:XK}{x m:Str}{p pos apos:Pos}{e o:Expr}{es:List Expr}{ta:TE}{t:TA}
theorem rR{pins:List (Addr × Obj)}{σ:St}{H:Hp}{s:Shared}{Q:VK}{us:List Value}{vs:List V}(F:bj X.prog X.w X.K X.mg X.base CX k f fd ps sp)(hr:fA k X.A)(hb:au X.K fd ps ds)(hd:aL dvs ds)(hx:hG CX X E)
  (I:Inv X pins σ H s) (r:aL vs us) (h:sp (vs++dvs) H Q E):wpAny (model X.prog X.w) X.A (call (.ref f) us) (EP X pins σ Q) X.xe s:=by
 have r2:aL (vs++dvs) (us++ds):=r.append hd;have hl:(us++ds).length=ps.length:=by rw [←r2.length];exact F.len _ _ _ _ h
 refine wpAny_call (ND (F.run X.A X.stack s H ⟨us,[]⟩ (us++ds) (vs++dvs) Q E hr I.env0 (hb s us I.kIn hl) r2 h) λ r s' hq=>?_)
 cases r with
 | error e=>exact hx pins σ H s e s' I hq
 | ok fl=>
  cases fl with
  | ret u=>exact I.after hq
  | next=>exact False.elim hq
  | brk=>exact False.elim hq
  | cont=>exact False.elim hq
theorem sG(F:bj X.prog X.w X.K X.mg X.base CX k f fd ps sp)(hr:fA k X.A)(hg:Gl X x)(hm:X.mg x=some (.ref f))(hk:W.keepIn X.K (.ref f)=true)(hb:au X.K fd ps ds)(hd:aL dvs ds)(hx:hG CX X E)
  (ha:PA X (e::es) t) (hdb:(x == ("__debug__":Str))=false:=by decide) (he:starEach (e::es) X.env=(false,eval e X.env)::starEach es X.env:=by rfl) (hpl:(backTo pos (starEach es X.env)).any (·.1)=false:=by rfl) :
  PE X (.Call (.Name x p) (e::es) [] pos) (Dy sp dvs E t):=by
 intro pins s σ H Q I h;refine MY (nN I hg hm ?_ hdb);refine W.callWith_K (h₀:=X.base) I.ok.mod.kin hk (thn (ha pos pins s σ H _ I h) λ us s1 ⟨vs,H1,I1,r,q⟩=>⟨I1.kIn,?_⟩) he hpl;exact rR F hr hb hd hx I1 r q
structure Mk(K:W.Frag)(C f:Addr):Prop where
 makes:W.makesIn K C=true
 init:W.findIn K (.ref C) "__init__"=some (some (.ref f))
 fn:W.isFn K (.ref f)=true
 kp:W.keepIn K (.ref C)=true
theorem wC{pins:List (Addr × Obj)}{σ:St}{H:Hp}{s:Shared}{Q:VK}{us:List Value}{vs:List V}(M:Mk X.K C f)(F:bj X.prog X.w X.K X.mg X.base CX k f fd ps sp)(hr:fA (k+1) X.A)(hb:au X.K fd ps ds)(hd:aL dvs ds)
  (hx:hG CX X E) (I:Inv X pins σ H s) (r:aL vs us)
  (h:∀ x dx,H x=none->H dx=none->dx ≠ x->sp (.ref x::(vs++dvs)) (upd (upd H dx (.own x)) x (.ins C dx [])) (λ v H2=>v=.non/\Q (.ref x) H2) E) :
  wpAny (model X.prog X.w) X.A (call (.ref C) us) (EP X pins σ Q) X.xe s:=by
 have hq:=h (s.heap.objs.size+1) s.heap.objs.size (I.hok.fresh (MB _)) (I.hok.fresh (Li _)) (Ll (Nf _));have I2:=Inv.made (C:=C) I;have r2:aL (V.ref (s.heap.objs.size+1)::(vs++dvs)) (Value.ref (s.heap.objs.size+1)::(us++ds)):=.cons rfl (r.append hd)
 have hl:(Value.ref (s.heap.objs.size+1)::us++ds).length=ps.length:=by
  have e:=r2.length;rw [F.len _ _ _ _ hq] at e;exact e.symm
 refine wpAny_call (xc (f:=f) I.kIn M.makes M.init (OH.mp M.fn) (ND (F.run _ X.stack _ _ ⟨Value.ref (s.heap.objs.size+1)::us,[]⟩ (Value.ref (s.heap.objs.size+1)::(us++ds)) _ _ E (hr.make C us [])
  (I2.env0.make C us []) (hb _ (Value.ref (s.heap.objs.size+1)::us) I2.kIn hl) r2 hq) λ r s' hq'=>?_))
 cases r with
 | error e=>exact hx pins σ _ _ e s' I2 hq'
 | ok fl=>
  cases fl with
  | ret u=>
   obtain⟨v,H',I3,rv,ev,q3⟩:=I2.after hq';subst ev;exact⟨rv,⟨V.ref (s.heap.objs.size+1),H',I3,rfl,q3⟩⟩
  | next=>exact False.elim hq'
  | brk=>exact False.elim hq'
  | cont=>exact False.elim hq'
end
def PK(X:Cx)(kws:List Keyword)(t:TA):Prop:=
 ∀ (pos:Pos) (pins:List (Addr × Obj)) (s:Shared) (σ:St) (H:Hp) (Q:List V->Hp->Prop),Inv X pins σ H s->t σ H Q->wpAny (model X.prog X.w) X.A (evalAll ((backToKw pos (keywordEach kws X.env)).map (·.2))) (AP X pins σ Q) X.xe s
section
variable {X:Cx}{CX:CXT}{k:Nat}{f C:Addr}{fd:FuncData}{ps ks:List Str}{sp:Sp}{E:XK}{x m:Str}{p pos apos kpos:Pos}{e o:Expr}{es:List Expr}{kws:List Keyword}{te ta:TE}{t tk:TA}{nm:Option Str}
theorem Es:PK X [] Df:=λ _ _ _ _ H Q I h=>wpAny_evalAll_nil ⟨[],H,I,.nil,h⟩
theorem AW(ha:PE X e te)(hr:PK X kws t):PK X (⟨nm,e,kpos⟩ :: kws) (rm te t):=by
 intro pos pins s σ H Q I h
 show wpAny _ _ (evalAll ((do let v ←eval e X.env;standAt pos;pure v)::(backToKw pos (keywordEach kws X.env)).map (·.2))) _ _ s
 refine wpAny_evalAll_cons (K0 (thn (ha pins s σ H _ I h) λ u s1 ⟨x,H1,I1,r1,q1⟩=>K0 (OT (Lf ?_))));exact thn (hr pos pins s1 σ H1 _ I1 q1) λ us s2 ⟨xs,H2,I2,r2,q2⟩=>⟨x::xs,H2,I2,.cons r1 r2,q2⟩
variable {g:List Value->List Value->List Value}{gV:List V->List V->List V}
end
structure ah(N P:List Str)(sc:Scope):Prop where
 kind:sc.kind=.function
 co:sc.isCoroutine=false
 gen:sc.isGenerator=false
 nd:N.Nodup
 pre:N.take P.length=P
 par:∀ x∈P,sc.names.lookup x=some .local\/sc.names.lookup x=some .cell
 nofree:∀ y∈sc.names,y.2 ≠ .free
theorem mB{kindOf:Str->Option NameKind}{x:Str}:∀ {binds:List (Str × Value)}{m:Str->Option Value},(∀ v,(x,v) ∉ binds)->bindL kindOf binds m x=m x
 | [],_,_=>rfl
 | (n,v)::r,m,h=>by
  unfold bindL;rw [mB λ w hw=>h w (mem_cons_of_mem _ hw)];split
  ·have:x ≠ n:=by rintro rfl;exact h v Lj
   simp [this]
  ·rfl
theorem mD{kindOf:Str->Option NameKind}{x:Str}:∀ {binds:List (Str × Value)}{m:Str->Option Value},(∀ v,(x,v) ∉ binds)->bindC kindOf binds m x=m x
 | [],_,_=>rfl
 | (n,v)::r,m,h=>by
  unfold bindC;rw [mD λ w hw=>h w (mem_cons_of_mem _ hw)];split
  ·rfl
  ·have:x ≠ n:=by rintro rfl;exact h v Lj
   simp [this]
theorem mC{kindOf:Str->Option NameKind}{x:Str}{v:Value}:∀ {P:List Str}{vs:List Value}{i:Nat}{m:Str->Option Value},P.Nodup->P[i]? = some x->vs[i]? = some v->kindOf x=some .local →
  bindL kindOf (P.zip vs) m x=some v
 | [],_,_,_,_,h,_,_=>by simp at h
 | _::_,[],_,_,_,_,h,_=>by simp at h
 | p::P,w::vs,0,m,nd,h1,h2,hk=>by
  simp at h1 h2;subst h1;subst h2
  show bindL kindOf ((p,w)::P.zip vs) m p=_
  unfold bindL;rw [mB λ v hv=>(nodup_cons.mp nd).1 (List.of_mem_zip hv).1,if_pos hk];simp
 | p::P,w::vs,i+1,m,nd,h1,h2,hk=>by
  show bindL kindOf ((p,w)::P.zip vs) m x=_
  unfold bindL;exact mC (i:=i) (nodup_cons.mp nd).2 (by simpa using h1) (by simpa using h2) hk
theorem mE{kindOf:Str->Option NameKind}{x:Str}{v:Value}:∀ {P:List Str}{vs:List Value}{i:Nat}{m:Str->Option Value},P.Nodup->P[i]? = some x->vs[i]? = some v->kindOf x ≠ some .local →
  bindC kindOf (P.zip vs) m x=some v
 | [],_,_,_,_,h,_,_=>by simp at h
 | _::_,[],_,_,_,_,h,_=>by simp at h
 | p::P,w::vs,0,m,nd,h1,h2,hk=>by
  simp at h1 h2;subst h1;subst h2
  show bindC kindOf ((p,w)::P.zip vs) m p=_
  unfold bindC;rw [mD λ v hv=>(nodup_cons.mp nd).1 (List.of_mem_zip hv).1,if_neg hk];simp
 | p::P,w::vs,i+1,m,nd,h1,h2,hk=>by
  show bindC kindOf ((p,w)::P.zip vs) m x=_
  unfold bindC;exact mE (i:=i) (nodup_cons.mp nd).2 (by simpa using h1) (by simpa using h2) hk
def start(N:List Str)(vs:List V):St:=vs.map some++List.replicate (N.length - vs.length) none
def yp(CX:CXT)(P:Program)(w:World)(K:W.Frag)(mg:Str->Option Value)(base:Heap)(N:List Str)(qual:Str)(scope:Scope)(f:Addr)(cd:Value)(A:Around)(outer:List Env)(s:Shared)(H:Hp)(E:XK):Cx where
 prog:=P
 w:=w
 K:=K
 mg:=mg
 base:=base
 A:=A.deeper (envOfC qual scope s.heap.objs.size f cd)
 N:=N
 s₀:=s
 H₀:=H
 env:=envOfC qual scope s.heap.objs.size f cd
 outer:=outer
 stack:=envOfC qual scope s.heap.objs.size f cd::outer
 ex:=[]
 calm:=true
 fn:=λ _=>true
 pn:=[]
 xe:=λ e s'=>wpAny (model P w) (A.deeper (envOfC qual scope s.heap.objs.size f cd)) (leaving (envOfC qual scope s.heap.objs.size f cd) e) (λ _ s''=>CX outer H s E e s'') (λ e' s''=>CX outer H s E e' s'') s'
theorem pH{sc:Scope}{n:Nat}{x:Str}(h:sc.names.lookup x=some .cell):∃ c,(cellsFrom n sc.names []).lookup x=some c:=by
 have q:=W.cellsFrom_some sc.names n [] (.inl h);exact NU.mp q
theorem u5{CX:CXT}{P:Program}{w:World}{K:W.Frag}{mg:Str->Option Value}{base:Heap}{N ps:List Str}{qual:Str}{scope:Scope}{f:Addr}{cd:Value}{A:Around}{outer:List Env}{s s1:Shared}{H:Hp}{E:XK}{us:List Value}{vs:List V}
  (S:ah N ps scope) (hd:A.handled=none) (e0:qX P w K mg base A outer s H) (hl:vs.length=ps.length) (r:aL vs us)
  (x:InCallC s s.heap.objs.size (bindL (envOfC qual scope s.heap.objs.size f cd).kindOf (ps.zip us) λ _=>none) (cellsFrom (s.heap.objs.size+1) scope.names []) (bindC (envOfC qual scope s.heap.objs.size f cd).kindOf (ps.zip us) λ _=>none) s1) :
  Inv (yp CX P w K mg base N qual scope f cd A outer s H E) [] (start N vs) H s1:=by
 have hpl:ps.length<=N.length:=by have:=Mt List.length S.pre;rw [Mi] at this;omega
 obtain⟨h1,tk,rfl,hk⟩:=x.done;have noA:∀ b:Addr,b ∉ (yp CX P w K mg base N qual scope f cd A outer s H E).ex:=λ b z=>absurd (show b∈([]:List Addr) from z) (by simp)
 refine⟨⟨e0.mod,S.kind,rfl,rfl,Li _,λ y z c h1 h2=>?_,λ y hy=>?_,λ y c _ h=>?_,λ _=>hd,Around.frames_deeper e0.frames,.inr ⟨rfl,rfl⟩,λ b z=>absurd z (noA b),e0.bs,e0.bsz,λ b _ _=>noA b,λ b z=>absurd z (noA b),e0.funs,e0.frf⟩,
  rfl,e0.bare,Un.kept hk,⟨_,x.toInCall.ns,λ i y v h1 h2 h3=>?_⟩,λ y c h=>⟨_,x.cell y c h⟩,e0.hok.fresh (Li _),λ y c h=>?_,λ p hp=>absurd (show p∈([]:List (Addr × Obj)) from hp) (by simp),e0.hok.kept hk,?_⟩
 ·exact name_of_addr x.apart (Nh h1) (Nh h2)
 ·have hy:scope.names.lookup y=some .cell\/scope.names.lookup y=some .free:=hy
  rcases hy with hy|hy
  ·exact pH hy
  ·exact absurd rfl (S.nofree _ (Nh hy))
 ·exact Nu (x.above y c (Nh h))
 ·have hi:i < vs.length:=by
   unfold start at h2
   by_cases hi:i < vs.length
   ·exact hi
   ·rw [LP (by simpa using hi)] at h2;rw [NZ] at h2
    split at h2<;>cases h2
  have ha:vs[i]? = some v:=by
   unfold start at h2;rw [getElem?_append_left (by simpa using hi),getElem?_map] at h2
   cases e:vs[i]? with
   | none=>rw [e] at h2;cases h2
   | some a=>rw [e] at h2;cases h2;rfl
  obtain⟨u,hu,rv⟩:=r.get ha
  have hp:ps[i]? = some y:=by
   rw [←S.pre,List.getElem?_take_of_lt (by omega)];exact h1
  have ndP:ps.Nodup:=by rw [←S.pre];exact S.nd.sublist (List.take_sublist _ _)
  refine⟨u,rv,?_⟩
  rcases S.par y (Ly hp) with k|k
  ·exact .inl ⟨k,mC ndP hp hu k⟩
  ·obtain⟨c,e⟩:=pH (n:=s.heap.objs.size+1) k;refine .inr ⟨.inl k,c,e,?_⟩;have q:=x.cell y c e;rw [mE ndP hp hu (by show scope.names.lookup y ≠ _;rw [k];decide)] at q;exact q
 ·exact e0.hok.fresh (Nu (x.above y c (Nh h)))
 ·unfold start
  show _=N.length
  rw [Ln,Lc,List.length_replicate];omega
theorem Ea{CX:CXT}{P:Program}{w:World}{K:W.Frag}{mg:Str->Option Value}{base:Heap}{k:Nat}{f:Addr}{name qual:Str}{params:Arguments}{body:List Stmt}{scope:Scope}{dV kV doc pm cdv ct oc:Value}{an od:Option Addr}
  {osl:Array (Option Value)} {N ps:List Str} {sp:Sp} (lk:K.lookup f=some ⟨oc,od,.func (W.fnOf name qual params body scope dV kV doc pm an cdv ct),osl⟩) (hcd:W.codeIn K cdv qual=true) (S:ah N ps scope)
  (len:∀ vs H Q E,sp vs H Q E->vs.length=ps.length)
  (hbody:∀ (A:Around) (outer:List Env) (s:Shared) (H:Hp) (vs:List V) (Q:VK) (E:XK),fA k (A.deeper (envOfC qual scope s.heap.objs.size f cdv))->sp vs H Q E →
   ∃ t,PSs (yp CX P w K mg base N qual scope f cdv A outer s H E) body t/\t { nx:=λ _ H'=>Q .non H',rt:=Q } (start N vs) H) :
  bj P w K mg base CX (k+1) f (W.fnOf name qual params body scope dV kV doc pm an cdv ct) ps sp:=by
 refine⟨len,λ A outer s H args us vs Q E hr e0 hb r hsp=>?_⟩;have hl:=len _ _ _ _ hsp;have KX:K.In s.heap:=e0.mod.kin.keeps λ b o e=>(e0.bs b o e).1;have lim:s.heap.NoLimit:=e0.mod.nolimit.keeps λ b o e=>(e0.bs b o e).1
 have hkind:∀ y∈ps.zip us,scope.names.lookup y.1=some .local\/(scope.names.lookup y.1=some .cell/\((cellsFrom (s.heap.objs.size+1) scope.names []).lookup y.1).isSome=true):=λ ⟨n,v⟩ hy=>by
  rcases S.par n (Oa hy).1 with q|q
  ·exact .inl q
  ·exact .inr ⟨q,W.cellsFrom_some _ _ _ (.inl q)⟩
 refine codeAny_call_function hr.depth (KX _ _ lk) rfl S.co S.gen rfl (W.codeRec_of KX hcd) (hb _ _ _ _ ?_);refine wpAny_newFunctionEnv_cells S.kind hkind λ env he s1 x=>?_;subst he;refine⟨lim.keeps x.toInCall.keep,codeAny_func ?_⟩;obtain⟨t,ht,hq⟩:=hbody A outer s H vs Q E (hr.deeper _) hsp;have I:Inv (yp CX P w K mg base N qual scope f cdv A outer s H E) [] (start N vs) H s1:=u5 S hr.hd e0 hl r x;refine Ng (ht [] s1 (start N vs) H _ I hq) (λ fl s' hs=>?_) λ e s' hs=>hs
 have fin:∀ {σ':St} {H':Hp} {v:V} {u:Value},Inv (yp CX P w K mg base N qual scope f cdv A outer s H E) [] σ' H' s'->aU v u->Q v H'->CE outer P w H s Q u s':=
  λ {σ' H' v u} J rv q=>⟨v,H',J.os,J.bare,J.base,J.hok,rv,q⟩
 cases fl with
 | ret u=>
  obtain⟨v,σ',H',J,rv,q⟩:=hs;exact fin J rv q
 | next=>
  obtain⟨σ',H',J,q⟩:=hs;exact fin (v:=V.non) (u:=Value.none) J rfl q
 | brk=>
  obtain⟨_,_,_,q⟩:=hs;exact False.elim q
 | cont=>
  obtain⟨_,_,_,q⟩:=hs;exact False.elim q
section
variable {X:Cx}{x:Str}{p pos:Pos}{e:Expr}{es:List Expr}{t:TA}{id T:String}{r:List V->Hp->VK->Prop}
def tCB(r:List V->Hp->VK->Prop)(t:TA):TE:=λ σ H Q=>t σ H λ vs H1=>r vs H1 Q
theorem gR(hc:bG X (.builtin id) r)(hg:Gl X x)(hm:X.mg x=none)(hv:bootBuiltins x=some (.builtin id))(ha:PA X (e::es) t)(hn:x ≠ "__name__":=by decide)(hdb:(x == ("__debug__":Str))=false:=by decide)
  (he:starEach (e::es) X.env=(false,eval e X.env)::starEach es X.env:=by rfl) (hpl:(backTo pos (starEach es X.env)).any (·.1)=false:=by rfl):PE X (.Call (.Name x p) (e::es) [] pos) (tCB r t):=by
 intro pins s σ H Q I h;refine MY (eJ I hg hm hv ?_ hn hdb);exact PyProof.Rows.callWith_builtin1 (thn (ha pos pins s σ H _ I h) λ us s1 ⟨vs,H1,I1,r1,q1⟩=>hc pins s1 σ H1 vs us Q I1 r1 q1) he hpl
theorem ui(hc:bG X (.type T) r)(hg:Gl X x)(hm:X.mg x=none)(hv:bootBuiltins x=some (.type T))(ha:PA X (e::es) t)(hn:x ≠ "__name__":=by decide)(hdb:(x == ("__debug__":Str))=false:=by decide)
  (he:starEach (e::es) X.env=(false,eval e X.env)::starEach es X.env:=by rfl) (hpl:(backTo pos (starEach es X.env)).any (·.1)=false:=by rfl):PE X (.Call (.Name x p) (e::es) [] pos) (tCB r t):=by
 intro pins s σ H Q I h;refine MY (eJ I hg hm hv ?_ hn hdb);exact L6 (thn (ha pos pins s σ H _ I h) λ us s1 ⟨vs,H1,I1,r1,q1⟩=>hc pins s1 σ H1 vs us Q I1 r1 q1) he hpl
end
end L2
namespace HT
open PySem PyProof.Rows
section
open PySem.SeqAt
open PySem.AutoSeq1 (wpAny_loadPart')
open PySem.MeetsSeq PySem.MeetsSeq2 PySem.MeetsSeq3
end
section
variable {prog:Program}{w:World}{A:Around}{E:Value->Shared->Prop}{s:Shared}
def sIx(n d:Nat):Option Int->Nat
 | none=>d
 | some v=>if v < 0 then (v+(n:Int)).toNat else min v.toNat n
theorem sIx_none(n d:Nat):sIx n d none=d:=rfl
theorem sIx_nat(n d k:Nat):sIx n d (some (k:Int))=min k n:=by
 show (if (k:Int) < 0 then ((k:Int)+(n:Int)).toNat else min (k:Int).toNat n)=min k n
 rw [Lm (by omega),LI]
end
end HT
namespace L2
open PySem PySem.Spec PyProof.Rows
abbrev TO:=St->Hp->(Option Int->Hp->Prop)->Prop
def PO(X:Cx)(e:Option Expr)(t:TO):Prop:=
 ∀ (pins:List (Addr × Obj)) (s:Shared) (σ:St) (H:Hp) (Q:Option Int->Hp->Prop),Inv X pins σ H s->t σ H Q →
  wpAny (model X.prog X.w) X.A (evalPart e X.env) (λ u s'=>∃ o H',Inv X pins σ H' s'/\IsPart u o/\Q o H') X.xe s
def sx:TO:=λ _ H Q=>Q none H
def Dt(t:TE):TO:=λ σ H Q=>t σ H λ x H1=>∃ i,x=.int i/\Q (some i) H1
section
variable {X:Cx}{e:Expr}{te:TE}{lo hi:Option Expr}{tl th:TO}{pos p2:Pos}
theorem eT:PO X none sx:=by
 intro pins s σ H Q I h;rw [evalPart_none];exact Lf ⟨none,H,I,.none,h⟩
theorem eS(h:PE X e te):PO X (some e) (Dt te):=by
 intro pins s σ H Q I hw;rw [evalPart_some];refine thn (h pins s σ H _ I hw) λ u s1 ⟨x,H1,I1,r1,q1⟩=>?_;obtain⟨i,rfl,q⟩:=q1;obtain⟨t,rfl⟩:=r1;exact⟨some i,H1,I1,.int i t,q⟩
def SlR(X:Cx)(r:V->Option Int->Option Int->Hp->VK->Prop):Prop:=
 ∀ (pins:List (Addr × Obj)) (s:Shared) (σ:St) (H:Hp) (x:V) (v vl vu:Value) (lo hi:Option Int) (sl:Addr) (Q:VK),Inv X pins σ H s->aU x v->s.heap.IsSliceOf sl vl vu .none->IsPart vl lo->IsPart vu hi->r x lo hi H Q →
  ∃ T id,typeLookup (.type T) "__getitem__"=pure (some (.builtin id))/\s.TypeIs v T/\wpAny (model X.prog X.w) X.A (getItem v (.ref sl)) (EP X pins σ Q) X.xe s
def tSl(r:V->Option Int->Option Int->Hp->VK->Prop)(te:TE)(tl th:TO):TE:=λ σ H Q=>te σ H λ x H1=>tl σ H1 λ l H2=>th σ H2 λ u H3=>r x l u H3 Q
theorem wM{r:V->Option Int->Option Int->Hp->VK->Prop}(hr:SlR X r)(he:PE X e te)(hl:PO X lo tl)(hu:PO X hi th):PE X (.Subscript e (.Slice lo hi none p2) pos) (tSl r te tl th):=by
 intro pins s σ H Q I h;refine Subscript_ (thn (he pins s σ H _ I h) λ v s1 ⟨x,H1,I1,r1,q1⟩=>?_);refine wpAny_Slice (thn (hl pins s1 σ H1 _ I1 q1) λ vl s2 ⟨l,H2,I2,pl,q2⟩=>thn (hu pins s2 σ H2 _ I2 q2) λ vu s3 ⟨u,H3,I3,pu,q3⟩=>?_);rw [evalPart_none];refine Lf ?_;have I4:Inv X pins σ H3 { s3 with heap:=s3.heap.push { cls:=.type "slice",data:=.fields #[vl,vu,.none] } }:=I3.kept (t':=s3.toks) λ b ob q=>K2 _ q;obtain⟨T,id,hT,ht,hg⟩:=hr pins { s3 with heap:=s3.heap.push { cls:=.type "slice",data:=.fields #[vl,vu,.none] } } σ H3 x v vl vu l u s3.heap.objs.size Q I4 r1 (Heap.IsSliceOf.new ..) pl pu q3
 show wpAny (model X.prog X.w) X.A (subscriptTail e (.Slice lo hi none p2) v (.ref s3.heap.objs.size)) (EP X pins σ Q) X.xe { s3 with heap:=s3.heap.push { cls:=.type "slice",data:=.fields #[vl,vu,.none] } }
 exact tail_any (ops:=[.ref s3.heap.objs.size,v]) ht hT hg (by with_unfolding_all rfl)
def qY(xs:List V)(lo hi:Option Int):List V:=(xs.drop (HT.sIx xs.length 0 lo)).take (HT.sIx xs.length xs.length hi - HT.sIx xs.length 0 lo)
theorem ow(xs:List V)(lo hi:Option Int):(qY xs lo hi).length<=xs.length:=by
 unfold qY;rw [length_take,List.length_drop];omega
end
def ixN(n:Nat)(i:Int):Option Nat:=if 0<=i then (if i < n then some i.toNat else none) else if -(n:Int)<=i then some (i+n).toNat else none
def atI{α:Type}(xs:List α)(i:Int):Option α:=(ixN xs.length i).bind λ j=>xs[j]?
theorem sP{n:Nat}{i:Int}{j:Nat}(h:ixN n i=some j):seqIndex? i n=some j/\j < n/\-(n:Int)<=i/\i < n:=by
 unfold ixN at h
 by_cases h0:0<=i
 ·rw [Lo h0] at h
  by_cases h1:i < n
  ·rw [Lo h1] at h;have e:i.toNat=j:=Lu h;exact⟨by rw [seqIndex_of h0 h1,e],by omega,by omega,h1⟩
  ·rw [Lm h1] at h;cases h
 ·rw [Lm h0] at h
  by_cases h1:-(n:Int)<=i
  ·rw [Lo h1] at h;have e:(i+n).toNat=j:=Lu h;exact⟨by rw [seqIndex_neg (by omega) h1,e],by omega,h1,by omega⟩
  ·rw [Lm h1] at h;cases h
theorem tL{α:Type}{xs:List α}{i:Int}{v:α}(h:atI xs i=some v):∃ j,seqIndex? i xs.length=some j/\xs[j]? = some v/\j < xs.length/\-(xs.length:Int)<=i/\i < xs.length:=by
 unfold atI at h
 cases e:ixN xs.length i with
 | none=>rw [e] at h;cases h
 | some j=>
  rw [e] at h;obtain⟨h1,h2,h3,h4⟩:=sP e;exact⟨j,h1,h,h2,h3,h4⟩
theorem eV{α:Type}{xs:List α}{j:Nat}{v:α}(h:xs[j]? = some v):atI xs (j:Int)=some v:=by
 have hj:j < xs.length:=(Lb.mp h).1
 have e:ixN xs.length (j:Int)=some j:=by
  unfold ixN;rw [if_pos (by omega),if_pos (by omega)];simp
 unfold atI;rw [e];exact h
theorem pJ{α:Type}(xs:List α)(v:α):atI (xs++[v]) (-1)=some v:=by
 have hl:(xs++[v]).length=xs.length+1:=by simp
 have e:ixN (xs++[v]).length (-1)=some xs.length:=by
  unfold ixN;rw [hl,if_neg (by decide),if_pos (by omega)];congr 1;omega
 unfold atI;rw [e]
 show (xs++[v])[xs.length]? = some v
 simp
def CU(b:Expr):Prop:=∀ o i,subscripted b false o i=operate [o,i] (getItem o i)
def IxR(X:Cx)(r:R2):Prop:=
 ∀ (value slice:Expr) (pins:List (Addr × Obj)) (s:Shared) (σ:St) (H:Hp) (x y:V) (v u:Value) (Q:VK),Inv X pins σ H s->aU x v->aU y u->r x y H Q →
  subscripted slice false v u=operate [v,u] (getItem v u)->wpAny (model X.prog X.w) X.A (subscriptTail value slice v u) (EP X pins σ Q) X.xe s
def MtR(X:Cx)(id:String)(r:V->List V->Hp->VK->Prop):Prop:=
 ∀ (pins:List (Addr × Obj)) (s:Shared) (σ:St) (H:Hp) (x:V) (xs:List V) (v:Value) (us:List Value) (Q:VK),Inv X pins σ H s->aU x v->aL xs us->r x xs H Q →
  wpAny (model X.prog X.w) X.A (call (.builtin id) (v::us)) (EP X pins σ Q) X.xe s
section
variable {X:Cx}{a b:Expr}{ta tb:TE}{pos:Pos}
theorem IxR.or{r r':R2}(h:IxR X r)(h':IxR X r'):IxR X (λ x y H Q=>r x y H Q\/r' x y H Q):=by
 intro value slice pins s σ H x y v u Q I rx ry q hs
 rcases q with q|q
 ·exact h value slice pins s σ H x y v u Q I rx ry q hs
 ·exact h' value slice pins s σ H x y v u Q I rx ry q hs
theorem zO{r:R2}(hr:IxR X r)(ha:PE X a ta)(hb:PE X b tb)(hs:CU b):PE X (.Subscript a b pos) (tOp r ta tb):=by
 intro pins s σ H Q I h;exact Subscript_ (Ip ha hb I h λ v u s2 x y H2 I2 rx ry q=>hr a b pins s2 σ H2 x y v u Q I2 rx ry q (hs _ _))
def Kv(K:W.Frag):R2:=λ x y H Q=>∃ p xs i v,x=.ref p/\y=.int i/\SqL K H p xs/\atI xs i=some v/\Q v H
def Ku(K:W.Frag):R2:=λ x y H Q=>∃ p xs i v,x=.ref p/\y=.int i/\SqT K H p xs/\atI xs i=some v/\Q v H
theorem nO:IxR X (Kv X.K):=by
 intro value slice pins s σ H x y v u Q I rx ry h hs;obtain⟨p,xs,i,z,rfl,rfl,hq,he,q⟩:=h;cases rx;obtain⟨t,rfl⟩:=ry;obtain⟨its,r,pl,hz⟩:=I.list hq;obtain⟨j,h1,h2,h3,h4,h5⟩:=tL he;obtain⟨w,ew,rw'⟩:=r.get h2;have hl:=r.length;have hn:=lC;have fin:EP X pins σ Q w s:=⟨z,H,I,rw',q⟩
 by_cases h0:0<=i
 ·have hj:i.toNat=j:=by
   rw [seqIndex_of h0 h5] at h1;exact Lu h1
  exact item_listR pl.isList h0 (by omega) (by rw [hj];simpa using ew) fin hs
 ·have hj:(i+(its.toArray.size:Int)).toNat=j:=by
   rw [seqIndex_neg (by omega) h4] at h1;rw [LC,←hl];exact Lu h1
  exact subscriptTail_builtinR (x:=w) pl.isList.typeIs slot_list_getitem.lookup
   (wpAny_getItem_list_neg (Q:=λ r s'=>r=w/\EP X pins σ Q r s') pl.isList (by omega) (by rw [LC]<;>omega) (by omega) (by rw [hj];simpa using ew) ⟨rfl,fin⟩) hs
theorem GF:IxR X (Ku X.K):=by
 intro value slice pins s σ H x y v u Q I rx ry h hs;obtain⟨p,xs,i,z,rfl,rfl,hq,he,q⟩:=h;cases rx;obtain⟨t,rfl⟩:=ry;obtain⟨its,r,pl,hz⟩:=I.tuple hq;obtain⟨j,h1,h2,h3,h4,h5⟩:=tL he;obtain⟨w,ew,rw'⟩:=r.get h2;have hl:=r.length;have hn:=lC;have fin:EP X pins σ Q w s:=⟨z,H,I,rw',q⟩
 exact subscriptTail_builtinR (x:=w) pl.typeIs slot_tuple_getitem.lookup
  (getItem_tuple (j:=j) (Q:=λ r s'=>r=w/\EP X pins σ Q r s') pl (by omega) (by omega) (by rw [LC,←hl];exact h1) (by simpa using ew) ⟨rfl,fin⟩) hs
theorem qm(its:List Value)(n j:Nat)(u:Value):Obj.mapSeq (·.setIfInBounds j u) { cls:=.type "list",data:=.seq its.toArray n }={ cls:=.type "list",data:=.seq (its.set j u).toArray n }:=by
 simp [Obj.mapSeq]
theorem Inv.lst{pins:List (Addr × Obj)}{σ:St}{H:Hp}{s:Shared}{p:Addr}{xs:List V}(I:Inv X pins σ H s)(h:H p=some (.lst xs)) :
  ∃ (its:List Value) (n:Nat),aL xs its/\s.heap.get? p=some { cls:=.type "list",data:=.seq its.toArray n }/\xs.length<=sizeLine:=by
 obtain⟨z,its,n,r,e⟩:=I.hok p _ h;exact⟨its,n,r,e,z⟩
theorem Inv.lstUpd{pins:List (Addr × Obj)}{σ:St}{H:Hp}{s:Shared}{p:Addr}{xs ys:List V}{its its':List Value}{n n':Nat}{f:Obj->Obj}(I:Inv X pins σ H s)(h:H p=some (.lst xs))
  (ho:s.heap.get? p=some { cls:=.type "list",data:=.seq its.toArray n }) (hf:f { cls:=.type "list",data:=.seq its.toArray n }={ cls:=.type "list",data:=.seq its'.toArray n' }) (r:aL ys its') (hz:ys.length<=sizeLine) (t:Nat) :
  Inv X pins σ (upd H p (.lst ys)) { s with heap:=s.heap.update p f,toks:=t }:=by
 have e:(s.heap.update p f).get? p=some { cls:=.type "list",data:=.seq its'.toArray n' }:=by
  rw [LX f ho (by rw [hf]<;>rfl),hf]
 refine I.write (x:=p) (e:=p) (by rw [h];trivial) (.inl rfl) (λ b u hb q=>(L5 _ _ (Lv hb)).trans q) ⟨_,e⟩ ?_;exact⟨hz,its',n',r,e⟩
def DD:V->V->V->Hp->(Hp->Prop)->Prop:=λ o i v H Q=>∃ p xs k j,o=.ref p/\i=.int k/\H p=some (.lst xs)/\ixN xs.length k=some j/\Q (upd H p (.lst (xs.set j v)))
theorem oX:Kh X DD:=by
 intro pins s σ H o i v ov iv u Q I ro ri rv h;obtain⟨p,xs,k,j,rfl,rfl,hp,hj,q⟩:=h;cases ro;obtain⟨t,rfl⟩:=ri;obtain⟨its,n,r,ho,hz⟩:=I.lst hp;obtain⟨h1,h2,h3,h4⟩:=sP hj;have hl:=r.length;have hn:=lC
 have I':Inv X pins σ (upd H p (.lst (xs.set j v))) { s with heap:=s.heap.update p (Obj.mapSeq (·.setIfInBounds j u)) }:=
  I.lstUpd hp ho (qm its n j u) (r.set rv j) (by rw [OW];exact hz) s.toks
 by_cases h0:0<=k
 ·have hk:k.toNat=j:=by
   rw [seqIndex_of h0 h4] at h1;exact Lu h1
  exact W.ki_setAt ho h0 (by omega) (by rw [LC,←hl];exact h4) (by rw [hk];exact⟨_,I',q⟩)
 ·have hk:(k+(its.toArray.size:Int)).toNat=j:=by
   rw [seqIndex_neg (by omega) h3] at h1;rw [LC,←hl];exact Lu h1
  exact W.ki_setBack ho (by omega) (by rw [LC,←hl];exact h3) (by omega) (by rw [hk];exact⟨_,I',q⟩)
theorem mK(lo hi:Option Int)(n:Nat):(sliceBounds lo hi none n).1=((HT.sIx n 0 lo:Nat):Int)/\(sliceBounds lo hi none n).2.1=((HT.sIx n n hi:Nat):Int)/\(sliceBounds lo hi none n).2.2=1:=by
 refine⟨?_,?_,rfl⟩
 ·cases lo with
  | none=>simp [sliceBounds,HT.sIx]
  | some i=>
   simp only [sliceBounds,HT.sIx,Option.getD_none,show (1:Int) > 0 by decide,OF]
   by_cases h:i < 0
   ·simp only [h,OF]<;>omega
   ·simp only [h,Nb]<;>omega
 ·cases hi with
  | none=>simp [sliceBounds,HT.sIx]
  | some i=>
   simp only [sliceBounds,HT.sIx,Option.getD_none,show (1:Int) > 0 by decide,OF]
   by_cases h:i < 0
   ·simp only [h,OF]<;>omega
   ·simp only [h,Nb]<;>omega
theorem kz(its:List Value)(lo hi:Option Int):slicePick its.toArray lo hi none=((its.drop (HT.sIx its.length 0 lo)).take (HT.sIx its.length its.length hi - HT.sIx its.length 0 lo)).toArray:=by
 obtain⟨h1,h2,h3⟩:=mK lo hi its.toArray.size;unfold slicePick;rw [h1,h2,h3]
 simp only [sliceRange_one,pick_run,LC]<;>rfl
def Kr(K:W.Frag):V->Option Int->Option Int->Hp->VK->Prop:=λ x lo hi H Q=>∃ a xs,x=.ref a/\SqL K H a xs/\∀ p,H p=none->Q (.ref p) (upd H p (.lst (qY xs lo hi)))
theorem AK:SlR X (Kr X.K):=by
 intro pins s σ H x v vl vu lo hi sl Q I rx hs pl pu h;obtain⟨a,xs,rfl,hx,q⟩:=h;cases rx;obtain⟨its,r,ht,hz⟩:=I.list hx;have hlen:=r.length;refine⟨"list",_,slot_list_getitem.lookup,ht.isList.typeIs,?_⟩;refine wpAny_getItem_list_slice ht.isList hs pl pu .none (by simp) ?_ (by rw [LC]<;>omega);rw [kz,←hlen];refine⟨.ref s.heap.objs.size,_,I.laid (t':=s.toks) (o:=.lst (qY xs lo hi)) (λ b ob q=>K2 _ q) (Li _) ?_,rfl,q _ (I.hok.fresh (Li _))⟩;exact⟨LU (ow xs lo hi) hz,_,0,(r.drop (HT.sIx xs.length 0 lo)).take (HT.sIx xs.length xs.length hi - HT.sIx xs.length 0 lo),Lh _ rfl⟩
theorem cy:bG X (.builtin "len") (λ xs H Q=>∃ p ys,xs=[.ref p]/\(SqL X.K H p ys\/SqT X.K H p ys)/\Q (.int ys.length) H):=by
 intro pins s σ H xs us Q I r h;obtain⟨p,ys,rfl,hq,q⟩:=h;obtain⟨u,rfl,rx⟩:=zE r;cases rx;have hn:=lC
 rcases hq with hq|hq
 ·obtain⟨its,r',pl,hz⟩:=I.list hq;have hlen:=r'.length;exact Calls.call_len_list pl.isList (by simp only [LC]<;>omega) ⟨.int ys.length,H,I.tok _,⟨s.toks+1,by rw [LC,hlen]⟩,q⟩
 ·obtain⟨its,r',pl,hz⟩:=I.tuple hq;have hlen:=r'.length;exact len_tuple pl (by simp only [LC]<;>omega) ⟨.int ys.length,H,I.tok _,⟨s.toks+1,by rw [LC,hlen]⟩,q⟩
theorem mT:bG X (.builtin "len") (λ xs H Q=>∃ z,xs=[.str z]/\z.length<=sizeLine/\Q (.int z.length) H):=by
 intro pins s σ H xs us Q I r h;obtain⟨z,rfl,hz,q⟩:=h;obtain⟨u,rfl,t,rfl⟩:=zE r;have hn:=lC;exact len_str (by omega) ⟨.int z.length,H,I.tok _,⟨_,rfl⟩,q⟩
theorem bG.or{f:Value}{r r':List V->Hp->VK->Prop}(h:bG X f r)(h':bG X f r'):bG X f (λ xs H Q=>r xs H Q\/r' xs H Q):=by
 intro pins s σ H xs us Q I rs q
 rcases q with q|q
 ·exact h pins s σ H xs us Q I rs q
 ·exact h' pins s σ H xs us Q I rs q
theorem mS:bG X (.type "list") (λ xs H Q=>∃ p ys,xs=[.ref p]/\(SqL X.K H p ys\/SqT X.K H p ys)/\∀ l,H l=none->Q (.ref l) (upd H l (.lst ys))):=by
 intro pins s σ H xs us Q I r h;obtain⟨p,ys,rfl,hq,q⟩:=h;obtain⟨u,rfl,rx⟩:=zE r;cases rx
 have fin:∀ (its:List Value),aL ys its->ys.length<=sizeLine->∀ (h':Heap) (c':Nat),(∀ b o',s.heap.get? b=some o'->h'.get? b=some o') →
   h'.get? s.heap.objs.size=some { cls:=.type "list",dict:=none,data:=.seq its.toArray c',slots:=#[] }->EP X pins σ Q (.ref s.heap.objs.size) { s with heap:=h' }:=λ its r' hz h' c' kp e=>
  ⟨.ref s.heap.objs.size,_,I.laid (t':=s.toks) kp (Li _) (show aM X.prog X.w _ h' _ (.lst ys) from ⟨hz,its,c',r',e⟩),rfl,q _ (I.hok.fresh (Li _))⟩
 rcases hq with hq|hq
 ·obtain⟨its,r',pl,hz⟩:=I.list hq;have hlen:=r'.length;obtain⟨o,ho,hc,n,hd⟩:=pl.isList;exact call_list_seq p (.inl rfl) ho hc hd (λ h' c' kp e=>fin its r' hz h' c' kp e) (by simp only [LC]<;>omega)
 ·obtain⟨its,r',pl,hz⟩:=I.tuple hq;have hlen:=r'.length;obtain⟨o,ho,hc,n,hd⟩:=pl;exact call_list_seq p (.inr rfl) ho hc hd (λ h' c' kp e=>fin its r' hz h' c' kp e) (by simp only [LC]<;>omega)
def tyV(K:W.Frag)(T:String)(x:V)(H:Hp):Prop:=match x with
 | .str _=>T = "str"
 | .int _=>T = "int"
 | .ref p=>(T = "list" /\ ∃ xs,SqL K H p xs)\/(T = "tuple" /\ ∃ o,K.lookup p=some o/\o.cls=.type "tuple" /\ o.dict=none) \/
   (T = "dict" /\ ((∃ kvs,H p=some (.dK kvs))\/∃ kvs,H p=some (.dT kvs)))\/(T = "set" /\ ∃ S n,H p=some (.set S n))
 | _=>False
theorem yw{pins:List (Addr × Obj)}{σ:St}{H:Hp}{s:Shared}{T:String}{x:V}{v:Value}(I:Inv X pins σ H s)(r:aU x v)(ty:tyV X.K T x H) :
  s.TypeIs v T/\∀ a,v=.ref a->∃ ob,s.heap.get? a=some ob/\ob.dict=none:=by
 cases x with
 | str z=>
  obtain⟨t,rfl⟩:=r;cases (show T = "str" from ty);exact⟨typeIs_str s z t,λ _ e=>nomatch e⟩
 | int i=>
  obtain⟨t,rfl⟩:=r;cases (show T = "int" from ty);exact⟨typeIs_int s i t,λ _ e=>nomatch e⟩
 | ref p=>
  cases r
  rcases ty with ⟨rfl,xs,hq⟩|⟨rfl,o,hk,hc,hd⟩|⟨rfl,hk⟩|⟨rfl,S,n,hk⟩
  ·obtain⟨its,_,pl,_⟩:=I.list hq;refine⟨pl.isList.typeIs,λ a e=>?_⟩;cases e;obtain⟨o,n,e,c,hd,_⟩:=pl;exact⟨o,e,hd⟩
  ·refine⟨⟨o,I.kIn p o hk,hc⟩,λ a e=>?_⟩;cases e;exact⟨o,I.kIn _ o hk,hd⟩
  ·have z:∃ o,s.heap.get? p=some o/\o.ExactDict:=by
    rcases hk with ⟨kvs,hk⟩|⟨kvs,hk⟩
    ·obtain⟨_,_,_,_,o,_,_,e,ex,_⟩:=I.hok p _ hk;exact⟨o,e,ex⟩
    ·obtain⟨_,_,_,_,o,_,_,e,ex,_⟩:=I.hok p _ hk;exact⟨o,e,ex⟩
   obtain⟨o,e,ex⟩:=z;refine⟨⟨o,e,ex.1⟩,λ a e2=>?_⟩;cases e2;exact⟨o,e,ex.2.1⟩
  ·obtain⟨o,_,_,_,e,ex,_⟩:=I.hok p _ hk;refine⟨⟨o,e,ex.1⟩,λ a e2=>?_⟩;cases e2;exact⟨o,e,ex.2.1⟩
 | _=>exact False.elim ty
def JK(K:W.Frag)(T:String)(r:V->List V->Hp->VK->Prop)(to:TE):TE:=λ σ H Q=>to σ H λ x H1=>tyV K T x H1/\r x [] H1 Q
def tBM(K:W.Frag)(T:String)(r:V->List V->Hp->VK->Prop)(to:TE)(t:TA):TE:=λ σ H Q=>to σ H λ x H1=>tyV K T x H1/\t σ H1 λ xs H2=>r x xs H2 Q
variable {o e:Expr}{es:List Expr}{to:TE}{t:TA}{name:Str}{apos cpos:Pos}{T id:String}{r:V->List V->Hp->VK->Prop}
theorem rY(pa:PlainAttrs T)(slot:Slot T name id)(hty:typeOf (.builtin id)=pure (.type "method_descriptor"))(hm:MtR X id r)(ho:PE X o to)
  (hbase:attributeBase o name X.env (eval o X.env)=eval o X.env:=by rfl) (hline:(apos.endLine == cpos.line)=true:=by rfl):PE X (.Call (.Attribute o name apos) [] [] cpos) (JK X.K T r to):=by
 intro pins s σ H Q I h;refine wpAny_Call_method0_late hbase hline (thn (ho pins s σ H _ I h) λ v s1 ⟨x,H1,I1,r1,ty,q1⟩=>?_);obtain⟨h1,h2⟩:=yw I1 r1 ty;exact⟨T,id,pa,slot,hty,h1,h2,NC rfl (PySem.evalArgs_none (hm pins s1 σ H1 x [] v [] Q I1 r1 .nil q1))⟩
theorem Iz(pa:PlainAttrs T)(slot:Slot T name id)(hty:typeOf (.builtin id)=pure (.type "method_descriptor"))(hm:MtR X id r)(ho:PE X o to)(ha:PA X (e::es) t)
  (hbase:attributeBase o name X.env (eval o X.env)=eval o X.env:=by rfl)
  (hfew:((backTo cpos (starEach (e::es) X.env)).all (λ x=>!x.1) && (backToKw cpos (keywordEach [] X.env)).all (λ x=>x.1.isSome)
   && decide ((e::es).length+([]:List Keyword).length+(if ([]:List Keyword).isEmpty then 0 else 1) < 30))=true:=by rfl)
  (hline:(apos.endLine == cpos.line)=true:=by rfl) (hs:starEach (e::es) X.env=(false,eval e X.env)::starEach es X.env:=by rfl) (hplain:(backTo cpos (starEach es X.env)).any (·.1)=false:=by rfl) :
  PE X (.Call (.Attribute o name apos) (e::es) [] cpos) (tBM X.K T r to t):=by
 intro pins s σ H Q I h;refine wpAny_Call_method_late hbase hfew hline rfl (thn (ho pins s σ H _ I h) λ v s1 ⟨x,H1,I1,r1,ty,q1⟩=>?_);obtain⟨h1,h2⟩:=yw I1 r1 ty;refine⟨T,id,pa,slot,hty,h1,h2,?_⟩;have hA:=ha cpos pins s1 σ H1 _ I1 q1;rw [hs] at hA ⊢;refine NC (by show (false || (backTo cpos (starEach es X.env)).any (·.1))=false;rw [hplain]<;>rfl) (OK ?_);exact thn hA λ us s2 ⟨vs,H2,I2,r2,q2⟩=>hm pins s2 σ H2 x vs v us Q I2 r1 r2 q2
end
def MtM(X:Cx)(id:String)(r:V->List V->Hp->VK->Prop):Prop:=
 ∀ (pins:List (Addr × Obj)) (s:Shared) (σ:St) (H:Hp) (x:V) (xs:List V) (v:Value) (us:List Value) (Q:VK),Inv X pins σ H s->aU x v->aL xs us->r x xs H Q →
  wpAny (model X.prog X.w) X.A (call (.builtin id) (v::us)) (EP X pins σ Q) X.xe s
theorem aL.one:∀ {x:V}{us:List Value},aL [x] us->∃ u,us=[u]/\aU x u
 | _,_,.cons r .nil=>⟨_,rfl,r⟩
theorem aL.zero:∀ {us:List Value},aL [] us->us=[]
 | _,.nil=>rfl
theorem aL.dropLast{xs:List V}{us:List Value}(h:aL xs us):aL xs.dropLast us.dropLast:=by
 induction h with
 | nil=>exact .nil
 | cons r t ih=>
  cases t with
  | nil=>exact .nil
  | cons q t'=>exact .cons r ih
theorem aL.reverse{xs:List V}{us:List Value}(h:aL xs us):aL xs.reverse us.reverse:=by
 induction h with
 | nil=>exact .nil
 | cons r t ih=>rw [List.reverse_cons,List.reverse_cons];exact aL.append ih (.cons r .nil)
theorem qG{α:Type}(l:List α):l.eraseIdx (l.length - 1)=l.dropLast:=by
 induction l with
 | nil=>rfl
 | cons a r ih=>
  cases r with
  | nil=>rfl
  | cons b r=>
   have e:(a::b::r).length - 1=((b::r).length - 1)+1:=by
    have h1:(a::b::r).length=r.length+2:=rfl;have h2:(b::r).length=r.length+1:=rfl;omega
   rw [e,List.eraseIdx_cons_succ,ih]
   all_goals rfl
section
variable {X:Cx}{pins:List (Addr × Obj)}{σ:St}{H:Hp}{s:Shared}{l b:Addr}{xs ys zs:List V}
theorem Inv.lset{its its':List Value}{n:Nat}{f:Array Value->Array Value}{t':Nat}(I:Inv X pins σ H s)(hH:H l=some (.lst xs))
  (e:s.heap.get? l=some { cls:=.type "list",data:=.seq its.toArray n }) (hf:f its.toArray=its'.toArray) (hv:aL ys its') (hz:ys.length<=sizeLine) :
  Inv X pins σ (upd H l (.lst ys)) { s with heap:=s.heap.update l (Obj.mapSeq f),toks:=t' }:=by
 have q:=PySem.IsL.update e f;rw [hf] at q;refine I.write (x:=l) (e:=l) (by rw [hH];exact trivial) (.inl rfl) (λ b' u hb hu=>(L5 s.heap (Obj.mapSeq f) (Lv hb)).trans hu) ⟨_,q⟩ ?_;exact⟨hz,its',_,hv,q⟩
theorem Inv.lnew{its:List Value}{t':Nat}(I:Inv X pins σ H s)(hv:aL ys its)(hz:ys.length<=sizeLine) :
  Inv X pins σ (upd H s.heap.objs.size (.lst ys)) { s with heap:=s.heap.push { cls:=.type "list",data:=.seq its.toArray },toks:=t' }:=
 I.laid (λ _ _ q=>K2 _ q) (Li _) ⟨hz,its,0,hv,Lh _ rfl⟩
theorem Inv.fresh(I:Inv X pins σ H s):H s.heap.objs.size=none:=I.hok.fresh (Li _)
theorem Inv.lstM(I:Inv X pins σ H s)(hH:H l=some (.lst xs)):xs.length<=sizeLine/\∃ (its:List Value) (n:Nat),aL xs its/\xs.length=its.length/\s.heap.get? l=some { cls:=.type "list",data:=.seq its.toArray n }:=by
 obtain⟨z,its,n,r,e⟩:=I.hok l _ hH;exact⟨z,its,n,r,r.length,e⟩
theorem wY{n:Nat}(h:n<=sizeLine):Builtin.List.listTooLong n=false:=by
 unfold Builtin.List.listTooLong;exact decide_eq_false (by omega)
end
section
variable {X:Cx}
def sC:V->List V->Hp->VK->Prop:=λ x vs H Q=>∃ l xs y,x=.ref l/\vs=[y]/\H l=some (.lst xs)/\xs.length < sizeLine/\Q .non (upd H l (.lst (xs++[y])))
theorem aY:MtM X "list.append" sC:=by
 intro pins s σ H x vs v us Q I rx rv h;obtain⟨l,xs,y,rfl,rfl,hH,hz,q⟩:=h;cases rx;obtain⟨u,rfl,ru⟩:=rv.one;obtain⟨z,its,n,r,hl,e⟩:=I.lstM hH;refine N8 F.slot_list_append ⟨_,e,rfl⟩ F.entry_list_append (F.args_list_append_2 _ _) (PySem.list_append l its.toArray n u (by rw [LC];omega)) ⟨e,?_⟩;refine⟨.non,_,I.lset (its':=its++[u]) hH e (by simp) (r.append (.cons ru .nil)) ?_,rfl,q⟩;rw [Ln,MG];omega
def sA:V->List V->Hp->VK->Prop:=λ x vs H Q=>∃ l b xs zs,x=.ref l/\vs=[.ref b]/\H l=some (.lst xs)/\H b=some (.lst zs)/\xs.length+zs.length<=sizeLine/\Q .non (upd H l (.lst (xs++zs)))
theorem ix:MtM X "list.extend" sA:=by
 intro pins s σ H x vs v us Q I rx rv h;obtain⟨l,b,xs,zs,rfl,rfl,hH,hB,hz,q⟩:=h;cases rx;obtain⟨u,rfl,ru⟩:=rv.one;cases ru;obtain⟨z,its,n,r,hl,e⟩:=I.lstM hH;obtain⟨z2,its2,n2,r2,hl2,e2⟩:=I.lstM hB;have hsz:its.toArray.size+its2.toArray.size<=sizeLine:=by rw [LC,LC];omega
 have hlong:¬ (!its.toArray.isEmpty && Builtin.List.listTooLong (its.toArray.size+its2.toArray.size))=true:=by
  rw [wY hsz,Bool.and_false];exact Lx
 refine N8 F.slot_list_extend ⟨_,e,rfl⟩ F.entry_list_extend (F.args_list_extend_2 _ _)
  (AutoSeq1.list_extend_list_list_0 l its.toArray n b its2.toArray n2 hlong (by rw [LC];omega) (by omega)) ⟨e,e2,?_⟩
 refine⟨.non,_,I.lset (its':=its++its2) hH e (by simp) (r.append r2) ?_,rfl,q⟩;rw [Ln];omega
def Ks:V->List V->Hp->VK->Prop:=λ x vs H Q=>∃ l xs y,x=.ref l/\vs=[]/\H l=some (.lst xs)/\xs[xs.length - 1]? = some y/\Q y (upd H l (.lst xs.dropLast))
theorem EI:MtM X "list.pop" Ks:=by
 intro pins s σ H x vs v us Q I rx rv h;obtain⟨l,xs,y,rfl,rfl,hH,hy,q⟩:=h;cases rx;have hus:=rv.zero;subst hus;obtain⟨z,its,n,r,hl,e⟩:=I.lstM hH;obtain⟨u,hu,ru⟩:=r.get hy
 have hy':its.toArray[its.toArray.size - 1]? = some u:=by
  show its.toArray[its.length - 1]? = some u
  rw [←Array.getElem?_toList,←hl];exact hu
 refine N8 F.slot_list_pop ⟨_,e,rfl⟩ F.entry_list_pop (F.args_list_pop_1 _) (MeetsSeq.list_pop_last l its.toArray n u hy' (by rw [LC];omega)) ⟨e,?_⟩;refine⟨y,_,I.lset (its':=its.dropLast) hH e ?_ r.dropLast ?_,ru,q⟩
 ·show its.toArray.eraseIdxIfInBounds (its.toArray.size - 1)=its.dropLast.toArray
  rw [LC,List.eraseIdxIfInBounds_toArray,qG]
 ·rw [List.length_dropLast];omega
def o1:V->List V->Hp->VK->Prop:=λ x vs H Q=>∃ l xs,x=.ref l/\vs=[]/\H l=some (.lst xs)/\Q .non (upd H l (.lst xs.reverse))
theorem ql:MtM X "list.reverse" o1:=by
 intro pins s σ H x vs v us Q I rx rv h;obtain⟨l,xs,rfl,rfl,hH,q⟩:=h;cases rx;have hus:=rv.zero;subst hus;obtain⟨z,its,n,r,hl,e⟩:=I.lstM hH;refine N8 F.slot_list_reverse ⟨_,e,rfl⟩ F.entry_list_reverse (F.args_list_reverse_1 _) (AutoSeq1.list_reverse_list_0 l its.toArray n (by rw [LC];omega)) ⟨e,?_⟩;refine⟨.non,_,I.lset (its':=its.reverse) hH e (by simp) r.reverse ?_,rfl,q⟩;rw [List.length_reverse];omega
def rV:V->List V->Hp->VK->Prop:=λ x vs H Q=>∃ l xs,x=.ref l/\vs=[]/\H l=some (.lst xs)/\Q .non (upd H l (.lst []))
theorem xb:MtM X "list.clear" rV:=by
 intro pins s σ H x vs v us Q I rx rv h;obtain⟨l,xs,rfl,rfl,hH,q⟩:=h;cases rx;have hus:=rv.zero;subst hus;obtain⟨z,its,n,r,hl,e⟩:=I.lstM hH;refine N8 F.slot_list_clear ⟨_,e,rfl⟩ F.entry_list_clear (F.args_list_clear_1 _) (AutoSeq1.list_clear_list_0 l its.toArray n (by rw [LC];omega)) ⟨e,?_⟩;exact⟨.non,_,I.lset (its':=[]) (ys:=[]) hH e rfl .nil (LD _),rfl,q⟩
def JN:R2:=λ x y H Q=>∃ l b xs zs,x=.ref l/\y=.ref b/\H l=some (.lst xs)/\H b=some (.lst zs)/\xs.length+zs.length<=sizeLine/\∀ p,H p=none->Q (.ref p) (upd H p (.lst (xs++zs)))
theorem EG:OpR X (binaryOp .Add) JN:=by
 intro pins s σ H x y v u Q I rx ry h;obtain⟨l,b,xs,zs,rfl,rfl,hH,hB,hz,q⟩:=h;cases rx;cases ry;obtain⟨z,its,n,r,hl,e⟩:=I.lstM hH;obtain⟨z2,its2,n2,r2,hl2,e2⟩:=I.lstM hB;refine PySem.P.add_list e e2 ?_ (by rw [LC,LC];omega);have ea:its.toArray++its2.toArray=(its++its2).toArray:=by simp
 rw [ea];exact⟨.ref _,_,I.lnew (t':=s.toks) (r.append r2) (by rw [Ln];omega),rfl,q _ I.fresh⟩
end
section
variable {prog:Program}{w:World}{A:Around}{E:Value->Shared->Prop}{s:Shared}
end
section
variable {X:Cx}
end
end L2
namespace Att
open PySem PySem.W PySem.Calls PyProof.Rows
theorem iR{P:Params}{h:Heap}:∀ (ns:List Int) (vs:List Value),WellAll P h vs (ns.map WData.int)->IntsAre vs ns:=by
 intro ns
 induction ns with
 | nil=>
  intro vs w;rw [OL] at w;cases w;exact .nil
 | cons n ns ih=>
  intro vs w;rw [LH] at w
  cases w with
  | cons a b=>
   cases a;exact .cons _ _ (ih _ b)
theorem ua{l:OpenLaw}{n:Nat}(hn:l.most=some n){P:Params}{h:Heap}{args:List WData}{vals:List Value}
  (hpre:l.row.toRowW.claim.pre args=true) (hwl:WellAll P h vals args) :
  ∃ a vs ns,vals=[Value.ref a]/\args=[WData.list (ns.map WData.int)]/\h.get? a=some { cls:=.type "list",data:=.seq vs.toArray }/\IntsAre vs ns/\ns.length<=n:=by
 have hsh:WShape.hasAll [] args [.list .int]=true:=(pre_splitW hpre).1;have hc:l.pre.holds [] { args:=args }=true:=(pre_splitW hpre).2;obtain⟨d,r,rfl,h1,h2⟩:=hasAllW_cons hsh;obtain rfl:=hasAllW_nil h2;obtain⟨xs,rfl,h3⟩:=hasW_list h1;obtain⟨ns,rfl⟩:=items_int h3
 have hlen:ns.length<=n:=by
  unfold OpenLaw.pre at hc
  have h4:(WTm.not (.lt (.lit (.int (n:Int))) (.len (.arg 0)))).holds [] { args:=[.list (ns.map .int)] }=true:=by
   have h4:=(holds_andW hc).1;rw [hn] at h4;exact h4
  have h5:=condW_of h4 (w_not (w_lt w_lit (w_len_list (w_arg rfl))));rw [Lc] at h5;refine OR λ q=>?_;have q':(n:Int) < ((ns.length:Nat):Int):=by omega
  first
   | (rw [M8 q'] at h5;exact absurd h5 (by decide))
   | (simp at h5;omega)
 cases hwl with
 | cons w1 w2=>
  cases w2
  cases w1 with
  | list ho hall=>exact⟨_,_,ns,rfl,rfl,ho,iR ns _ hall,hlen⟩
theorem uc(l:OpenLaw)(args:List WData):l.row.toRowW.claim.post args (.bool true) args=true:=
 postW_of (r:=l.row.toRowW) (X:=(true == true))
  (show WShape.has [] (.bool true) .bool=true by first|rfl|decide|simp [WShape.has,WShape.arms,WShape.armsAll])
  (show (WTm.eq .res (.lit (.bool true))).value [] { args:=args,res:=some (.bool true),after:=args }=some (.bool (true == true)) from w_eq_bool (w_res rfl) w_lit) rfl
theorem attach_call{l:OpenLaw}{n:Nat}{q:Program}{loose:List Str}{XP:(Str->Option Value)->Heap->Prop}{YP:World->Heap->Prop}{d:DefRec}
  (hn:l.most=some n) (hdf:d.params.defaults=[])
  (call:∀ (w:World) (s₀ s₁:Shared) (mg mb:Str->Option Value) (fa:Addr) (o:Obj) (pm cd doc:Value) (a:Addr) (vs:List Value) (ns:List Int),
   Ground q loose [] XP w s₀ mg mb s₁.heap->YP w s₁.heap →
   s₁.heap.get? fa=some o->o.data=.func (docDef d.name d.params d.body d.scope pm cd doc)->s₁.heap.CodeRec cd d.name->mg d.name=some (.ref fa) →
   s₁.heap.get? a=some { cls:=.type "list",data:=.seq vs.toArray }->IntsAre vs ns->ns.length<=n->s₁.gens=#[] →
   codeAny (model l.prog w) callerA (.call (.ref fa) ⟨[.ref a],[]⟩) (λ r s'=>r=.ok (.ret (.bool true))/\OldK s₁.heap s'.heap/\s'.os=s₁.os/\AllBare s'.gens) s₁) :
  WalkO q loose XP YP l.row.toRowW d [] (λ f vs=>PySem.call f vs):=by
 intro w s₀ s₁ mg mb G Y fa o pm cd doc dV kV ho hd hcd hD hmg hg args vals as hpre hlay hrd hwl hlo;obtain rfl:dV=.none:=Dflts.none hD hdf;obtain rfl:kV=.none:=Dflts.noKw hD;obtain⟨a,vs,ns,rfl,rfl,hobj,hints,hlen⟩:=ua hn hpre hwl;refine enter_call (ND (call w s₀ s₁ mg mb fa o pm cd doc a vs ns G Y ho (fd_plain hd) hcd hmg hobj hints hlen hg) λ r s' hq=>?_);obtain⟨rfl,h2,h3,h4⟩:=hq;exact⟨.inl ⟨.bool true,.bool true,[],rfl,λ _=>rfl,.bool true,uc l _,λ _=>⟨List.Pairwise.nil,λ _ hm=>(nomatch hm)⟩⟩,h2,h3,h4⟩
section
variable {prog:Program}{w:World}{A:Around}{E:Value->Shared->Prop}{s:Shared}{K:Frag}
def Kl(h:Heap)(L d:Addr):List (Addr × Obj):=(List.range h.objs.size).filterMap λ a=>if a=L\/a=d then none else (h.get? a).map λ o=>(a,o)
end
end Att
namespace L2
open PySem PySem.Spec PyProof.Rows
theorem lJ:∀ {vs:List Value}{ns:List Int},IntsAre vs ns->aL (ns.map V.int) vs
 | _,_,.nil=>.nil
 | _,_,.cons n t h=>.cons ⟨t,rfl⟩ (lJ h)
def Iq(H:Hp):Prop:=∀ b,H b=none\/∃ o xs,H b=some (.frz o (.lst xs))
theorem xI{P:Program}{w:World}{K:W.Frag}{mg mb:Str->Option Value}{CX:CXT}{k:Nat}{fa a:Addr}{fd:FuncData}{x:Str}{sp:Sp}{s₁:Shared}{vs:List Value}{ns:List Int}
  (KX:K.In s₁.heap) (hns:s₁.heap.Ns mainGlobals mg) (hb:s₁.heap.Ns builtinsNs mb) (hbb:∀ x:Str,x ≠ "__name__" → mb x=bootBuiltins x) (hlim:s₁.heap.NoLimit) (hg:s₁.gens=#[])
  (ha:s₁.heap.get? a=some { cls:=.type "list",data:=.seq vs.toArray }) (hi:IntsAre vs ns) (hl:ns.length<=sizeLine) (hr:fA k callerA)
  (F:∀ base:Heap,K.In base->base.Ns mainGlobals mg->bj P w K mg base CX k fa fd [x] sp) (hbind:∀ (s:Shared) (u:Value),BindsTo s fd ⟨[u],[]⟩ [(x,u)])
  (hsp:∀ H:Hp,Iq H->SqL K H a (ns.map V.int)->sp [.ref a] H (λ v _=>v=.bl true) λ _ _ _=>False)
  (hCX:∀ H e s',CX [] H s₁ (λ _ _ _=>False) e s'->False) :
  codeAny (model P w) callerA (.call (.ref fa) ⟨[.ref a],[]⟩) (λ r s'=>r=.ok (.ret (.bool true))/\OldK s₁.heap s'.heap/\s'.os=s₁.os/\AllBare s'.gens) s₁:=by
 have rv:=lJ hi;have lenV:=hi.length
 have core:∀ H:Hp,Iq H->SqL K H a (ns.map V.int)->HOk P w H s₁.heap->(∀ b,H b ≠ none->b=a)->(H a ≠ none->K.lookup a=none) →
   codeAny (model P w) callerA (.call (.ref fa) ⟨[.ref a],[]⟩) (λ r s'=>r=.ok (.ret (.bool true))/\OldK s₁.heap s'.heap/\s'.os=s₁.os/\AllBare s'.gens) s₁:=by
  intro H hO hS hok hA hK;have base_of:∀ {b:Addr} {o:Obj},s₁.heap.get? b=some o->H b=none->(vH s₁.heap H).get? b=some o:=λ e n=>xX e n
  have noA:∀ {b:Addr} {o:Obj} {es:Array DictEntry} {ep:Nat},s₁.heap.get? b=some o->o.data=.dict es ep->H b=none:=λ {b o es ep} e d=>by
   cases q:H b with
   | none=>rfl
   | some u=>
    have e':b=a:=hA b (by rw [q];simp);subst e';rw [ha] at e;cases e;have d':Data.seq vs.toArray _=Data.dict es ep:=d;cases d'
  have nsK:∀ {b:Addr} {m:Str->Option Value},s₁.heap.Ns b m->(vH s₁.heap H).Ns b m:=λ {b m} ⟨o,es,ep,e,d,r⟩=>⟨o,es,ep,base_of e (noA e d),d,r⟩
  have hKb:K.In (vH s₁.heap H):=λ b o e=>base_of (KX b o e) (by
   cases q:H b with
   | none=>rfl
   | some u=>
    have e':b=a:=hA b (by rw [q];simp);subst e';rw [hK (by rw [q];simp)] at e;cases e)
  have hM:Mod K mg (vH s₁.heap H):=⟨hKb,nsK hns,⟨mb,nsK hb,hbb⟩,let ⟨mc,h1,h2⟩:=hlim;⟨mc,nsK h1,h2⟩⟩;have e0:qX P w K mg (vH s₁.heap H) callerA [] s₁ H:=⟨rfl,hM,λ b o e=>Bh e,OO (u7 _ _),trivial,λ b hb=>absurd (show b∈([]:List Addr) from hb) (by simp),hok,.of_eq hg⟩;refine ND ((F _ hKb (nsK hns)).run callerA [] s₁ H ⟨[.ref a],[]⟩ [.ref a] [.ref a] _ _ hr e0 (hbind s₁ (.ref a)) (.cons rfl .nil) (hsp H hO hS)) λ r s' h=>?_
  cases r with
  | error e=>exact(hCX H e s' h).elim
  | ok fl=>
   cases fl with
   | next=>exact False.elim h
   | brk=>exact False.elim h
   | cont=>exact False.elim h
   | ret u=>
    obtain⟨v,H',os,bare,un,hok',r',q⟩:=h;have q':v=.bl true:=q;subst q';obtain rfl:u=Value.bool true:=r';refine⟨rfl,OldK.of_keep λ b o e=>?_,os,bare⟩
    cases q:H b with
    | none=>exact un.keep b o e q (by intro z;exact absurd (show b∈([]:List Addr) from z) (by simp)) (by simp)
    | some u=>
     rcases hO b with z|⟨ob,xs,z⟩
     ·rw [q] at z;cases z
     ·have z2:=un.frzs b ob _ z;obtain⟨e1,_⟩:=hok b _ z;obtain⟨e2,_⟩:=hok' b _ z2;rw [e] at e1;cases e1;exact e2
 cases hk:K.lookup a with
 | some o=>
  have e:=KX a o hk;rw [ha] at e;cases e;refine core (λ _=>none) (λ _=>.inl rfl) (.inr ⟨_,vs.toArray,_,hk,rfl,rfl,rfl,by rw [LC,lenV];exact hl,by simpa using rv⟩) (λ b u z=>by have z':(none:Option HO)=some u:=z;cases z') (λ b z=>absurd rfl z) λ z=>absurd rfl z
 | none=>
  refine core (λ b=>if b=a then some (.frz { cls:=.type "list",data:=.seq vs.toArray } (.lst (ns.map V.int))) else none) (λ b=>?_) (.inl (.inr ⟨{ cls:=.type "list",data:=.seq vs.toArray },Lo rfl⟩)) (λ b u z=>?_) (λ b z=>?_) λ _=>hk
  ·by_cases hb:b=a
   ·exact .inr ⟨_,_,Lo hb⟩
   ·exact .inl (Lm hb)
  ·by_cases hb:b=a
   ·have z':=(Lo hb).symm.trans z;cases z';subst hb;exact⟨ha,by rw [Lc];exact hl,vs,_,rv,ha⟩
   ·have z':=(Lm hb).symm.trans z;cases z'
  ·by_cases hb:b=a
   ·exact hb
   ·exact absurd (Lm hb) z
abbrev KOf{K:PySem.W.Frag}{h:Heap}(_:K.In h):PySem.W.Frag:=K
theorem JD{l:W.OpenLaw}{n k:Nat}{q:Program}{loose:List Str}{XP:(Str->Option Value)->Heap->Prop}{YP:World->Heap->Prop}{d:DefRec}{K:Params->W.Frag}{CX:World->CXT}{sp:World->Sp}{x:Str}
  (hn:l.most=some n) (hn2:n<=sizeLine) (hdf:d.params.defaults=[]) (hr:fA k callerA)
  (hY:∀ (w:World) (h:Heap),YP w h->(K w.params).In h)
  (F:∀ (w:World) (mg:Str->Option Value) (fa:Addr) (h:Heap),(K w.params).In h->h.Ns mainGlobals mg->mg d.name=some (.ref fa) →
   ∃ fd:FuncData,(∀ (s:Shared) (u:Value),BindsTo s fd ⟨[u],[]⟩ [(x,u)]) /\
    ∀ base:Heap,(K w.params).In base->base.Ns mainGlobals mg->bj l.prog w (K w.params) mg base (CX w) k fa fd [x] (sp w))
  (hsp:∀ (w:World) (H:Hp) (a:Addr) (ns:List Int),ns.length<=n->Iq H->SqL (K w.params) H a (ns.map V.int)->sp w [.ref a] H (λ v _=>v=.bl true) λ _ _ _=>False)
  (hCX:∀ (w:World) (H:Hp) (s:Shared) (e:Value) (s':Shared),CX w [] H s (λ _ _ _=>False) e s'->False) :
  W.WalkO q loose XP YP l.row.toRowW d [] (λ f vs=>PySem.call f vs):=by
 refine Att.attach_call hn hdf λ w s₀ s₁ mg mb fa o pm cd doc a vs ns G Y ho hd hcd hmg hobj hints hlen hg=>?_;have KX:=hY w _ Y;obtain⟨fd,hb,hF⟩:=F w mg fa _ KX G.T.g hmg;exact xI KX G.T.g G.T.b G.T.builtins G.T.nolimit hg hobj hints (LU hlen hn2) hr hF hb (λ H hO hS=>hsp w H a ns hlen hO hS) λ H e s'=>hCX w H s₁ e s'
def bJ(s:Stmt)(j:Nat):Stmt:=match s with
 | .ClassDef _ _ _ body _ _ _ _ _ _ _=>body.getD j (.Pass ⟨0,0,0,0⟩)
 | _=>.Pass ⟨0,0,0,0⟩
def cF(s:Stmt):Arguments:=match s with
 | .FunctionDef _ a _ _ _ _ _ _ _ _=>a
 | _=>{ posonlyargs:=[],args:=[],vararg:=none,kwonlyargs:=[],kw_defaults:=[],kwarg:=none,defaults:=[] }
def bW(s:Stmt):List Stmt:=match s with
 | .FunctionDef _ _ b _ _ _ _ _ _ _=>b
 | _=>[]
def ae(s:Stmt):Scope:=match s with
 | .FunctionDef _ _ _ _ _ _ sc _ _ _=>sc
 | _=>{ kind:=.function,names:=[],isGenerator:=false,isCoroutine:=false }
abbrev CX0:CXT:=λ _ _ _ _ _ _=>False
abbrev E0:XK:=λ _ _ _=>False
theorem eA{X:Cx}:hG CX0 X E0:=λ _ _ _ _ _ _ _ h=>h.elim
structure Fun(K:W.Frag)(x qual:Str)(st:Stmt)(f:Addr)(fd:FuncData):Prop where
 ex:∃ (oc:Value) (od:Option Addr) (kV doc pm:Value) (an:Option Addr) (cdv ct:Value) (osl:Array (Option Value)),
  fd=W.fnOf x qual (cF st) (bW st) (ae st) .none kV doc pm an cdv ct/\K.lookup f=some ⟨oc,od,.func fd,osl⟩/\W.codeIn K cdv qual=true
 kp:W.keepIn K (.ref f)=true
section
variable {P:Program}{w:World}{K:PySem.W.Frag}{mg:Str->Option Value}{base:Heap}
theorem Fun.ok{x qual:Str}{st:Stmt}{f:Addr}{fd:FuncData}{N ps:List Str}{k:Nat}{sp:Sp}(F:Fun K x qual st f fd)(S:ah N ps (ae st))(len:∀ vs H Q E,sp vs H Q E->vs.length=ps.length)
  (hbody:∀ (cdv:Value) (A:Around) (outer:List Env) (s:Shared) (H:Hp) (vs:List V) (Q:VK) (E:XK),fA k (A.deeper (envOfC qual (ae st) s.heap.objs.size f cdv))->sp vs H Q E →
   ∃ t,PSs (yp CX0 P w K mg base N qual (ae st) f cdv A outer s H E).nox (bW st) t/\t { nx:=λ _ H'=>Q .non H',rt:=Q } (start N vs) H):bj P w K mg base CX0 (k+1) f fd ps sp:=by
 obtain⟨oc,od,kV,doc,pm,an,cdv,ct,osl,rfl,lk,hcd⟩:=F.ex;refine Ea lk hcd S len λ A outer s H vs Q E hr hsp=>?_;obtain⟨t,h,q⟩:=hbody cdv A outer s H vs Q E hr hsp;exact⟨t,h.nox,q⟩
theorem Fun.binds{x qual:Str}{st:Stmt}{f:Addr}{fd:FuncData}{ps:List Str}(F:Fun K x qual st f fd)
  (h:∀ (kV doc pm:Value) (an:Option Addr) (cdv ct:Value) (us:List Value),us.length=ps.length->bindArgs (W.fnOf x qual (cF st) (bW st) (ae st) .none kV doc pm an cdv ct) ⟨us,[]⟩=pure (ps.zip us)):au K fd ps []:=by
 obtain⟨oc,od,kV,doc,pm,an,cdv,ct,osl,rfl,lk,hcd⟩:=F.ex;exact .all (h kV doc pm an cdv ct)
theorem GH{x qual:Str}{st:Stmt}{f:Addr}{oc:Value}{od an:Option Addr}{osl:Array (Option Value)}{kV doc pm cdv ct:Value}(l:K.lookup f=some ⟨oc,od,.func (W.fnOf x qual (cF st) (bW st) (ae st) .none kV doc pm an cdv ct),osl⟩)
  (c:W.codeIn K cdv qual=true) (k:W.keepIn K (.ref f)=true):Fun K x qual st f (W.fnOf x qual (cF st) (bW st) (ae st) .none kV doc pm an cdv ct):=⟨⟨oc,od,kV,doc,pm,an,cdv,ct,osl,rfl,l,c⟩,k⟩
end
theorem lQ{n:Nat}(h:n<=1000):n < sizeLine:=Nat.lt_of_le_of_lt h (by decide)
section
variable {X:Cx}
theorem pv(i:Nat){x:Str}{pos:Pos}(hN:X.N[i]? = some x:=by rfl)(hv:Vis X.env.scope x:=by first|exact Or.inl rfl|exact Or.inr (Or.inl rfl)|exact Or.inr (Or.inr rfl))(hd:(x == ("__debug__":Str))=false:=by decide)
  (hcd:(x == ("__classdict__":Str))=false:=by decide):PE X (.Name x pos) (G3 i):=Ew hN hv hd hcd
end
theorem Ka{c A B:Prop}[Decidable c](h1:c->A)(h2:¬ c->B):if c then A else B:=by
 by_cases h:c
 ·rw [Lo h];exact h1 h
 ·rw [Lm h];exact h2 h
def iU(H H':Hp):Prop:=∀ b o,H b=some o->H' b=some o
theorem iU.refl(H:Hp):iU H H:=λ _ _ h=>h
theorem iU.trans{H H1 H2:Hp}(a:iU H H1)(b:iU H1 H2):iU H H2:=λ c o h=>b c o (a c o h)
theorem iU.free{H H':Hp}(e:iU H H'){l:Addr}(h:H' l=Option.none):H l=Option.none:=by
 cases q:H l with
 | none=>rfl
 | some o=>
  rw [e l o q] at h;cases h
theorem iU.seq{K:W.Frag}{H H':Hp}{a:Addr}{xs:List V}(e:iU H H')(h:SqL K H a xs):SqL K H' a xs:=by
 rcases h with (h|⟨o,h⟩)|h
 ·exact .inl (.inl (e _ _ h))
 ·exact .inl (.inr ⟨o,e _ _ h⟩)
 ·exact .inr h
section
variable {κ:Type}[DecidableEq κ]
def cJ(kvs:List (κ × V))(k:κ):Option V:=(kvs.find? λ kv=>decide (kv.1=k)).map (·.2)
def eP(kvs:List (κ × V))(k:κ)(v:V):List (κ × V):=
 if (kvs.any λ kv=>decide (kv.1=k))=true then kvs.map (λ kv=>if kv.1=k then (kv.1,v) else kv) else kvs++[(k,v)]
theorem bp{p:κ × V}{r:List (κ × V)}{k:κ}(e:p.1=k):cJ (p::r) k=some p.2:=by simp [cJ,Nc,e]
theorem bq{p:κ × V}{r:List (κ × V)}{k:κ}(e:¬ p.1=k):cJ (p::r) k=cJ r k:=by simp [cJ,Nc,e]
theorem dX(k:κ):∀ kvs:List (κ × V),(kvs.any λ kv=>decide (kv.1=k))=(cJ kvs k).isSome
 | []=>rfl
 | p::r=>by
  rw [List.any_cons]
  by_cases e:p.1=k
  ·simp only [bp e,M8 e,Bool.true_or,Option.isSome_some]
  ·rw [bq e,Mq e,Bool.false_or];exact dX k r
theorem oS(k j:κ)(y:V):∀ kvs:List (κ × V),cJ (kvs.map λ kv=>if kv.1=k then (kv.1,y) else kv) j=(cJ kvs j).map λ x=>if j=k then y else x
 | []=>rfl
 | p::r=>by
  have ih:=oS k j y r;rw [LH]
  by_cases h:p.1=k
  ·rw [Lo h]
   by_cases e:p.1=j
   ·rw [bp (p:=(p.1,y)) e,bp e,Mv,Lo (e.symm.trans h)]
   ·rw [bq (p:=(p.1,y)) e,bq e,ih]
  ·rw [Lm h]
   by_cases e:p.1=j
   ·rw [bp (p:=p) e,bp e,Mv,Lm (λ z=>h (e.trans z))]
   ·rw [bq (p:=p) e,bq e,ih]
theorem lK(k j:κ)(y:V):∀ kvs:List (κ × V),cJ kvs k=none->cJ (kvs++[(k,y)]) j=if j=k then some y else cJ kvs j
 | [],_=>by
  by_cases e:k=j
  ·rw [Lo e.symm];exact bp (p:=(k,y)) e
  ·rw [Lm (λ z=>e z.symm)];exact bq (p:=(k,y)) e
 | p::r,hn=>by
  rw [M5];have hk:¬ p.1=k:=λ z=>by rw [bp z] at hn;cases hn
  rw [bq hk] at hn;have ih:=lK k j y r hn
  by_cases e:p.1=j
  ·rw [bp e,bp e,Lm (λ z=>hk (e.trans z))]
  ·rw [bq e,bq e,ih]
theorem oR(kvs:List (κ × V))(k j:κ)(y:V):cJ (eP kvs k y) j=if j=k then some y else cJ kvs j:=by
 unfold eP
 by_cases a:(kvs.any λ kv=>decide (kv.1=k))=true
 ·rw [Lo a,oS];rw [dX] at a
  by_cases e:j=k
  ·obtain⟨x,hx⟩:=NU.mp a;rw [Lo e,e,hx,Mv,Lo rfl]
  ·rw [Lm e]
   cases cJ kvs j with
   | none=>rfl
   | some x=>rw [Mv,Lm e]
 ·rw [Lm a];refine lK k j y kvs ?_;rw [dX] at a
  cases q:cJ kvs k with
  | none=>rfl
  | some x=>rw [q] at a;exact(a rfl).elim
theorem fj(kvs:List (κ × V))(k:κ)(v:V):(eP kvs k v).length<=kvs.length+1:=by
 unfold eP;split
 ·rw [Lc];omega
 ·rw [Ln,LR,OX];omega
theorem wI{kvs:List (κ × V)}{k:κ}(v:V)(h:cJ kvs k=none):eP kvs k v=kvs++[(k,v)]:=by
 unfold eP;rw [dX,h];exact if_neg (by decide)
theorem k7.isSome_eq{o:Option V}{u:Option Value}(r:k7 o u):o.isSome=u.isSome:=by
 cases o with
 | none=>cases u with
  | none=>rfl
  | some _=>exact(show False from r).elim
 | some _=>cases u with
  | none=>exact(show False from r).elim
  | some _=>rfl
theorem k7.getD{o:Option V}{u:Option Value}{d:V}{d':Value}(r:k7 o u)(rd:aU d d'):aU (o.getD d) (u.getD d'):=by
 cases o with
 | none=>cases u with
  | none=>exact rd
  | some _=>exact(show False from r).elim
 | some _=>cases u with
  | none=>exact(show False from r).elim
  | some _=>exact r
theorem KV.val{kvs:List (κ × V)}{vs:List (κ × Value)}(r:KV kvs vs)(k:κ):k7 (cJ kvs k) (valueAt vs k):=by
 unfold KV at r
 induction r with
 | nil=>exact True.intro
 | @cons p q ps qs h t ih=>
  obtain⟨h1,h2⟩:=h
  by_cases e:p.1=k
  ·have e':q.1=k:=h1.symm.trans e;have b:valueAt (q::qs) k=some q.2:=by simp [valueAt,Nc,e']
   rw [bp e,b];exact h2
  ·have e':¬ q.1=k:=λ z=>e (h1.trans z);have b:valueAt (q::qs) k=valueAt qs k:=by simp [valueAt,Nc,e']
   rw [bq e,b];exact ih
theorem KV.any{kvs:List (κ × V)}{vs:List (κ × Value)}(r:KV kvs vs)(k:κ):(kvs.any λ kv=>decide (kv.1=k))=vs.any λ kv=>decide (kv.1=k):=by
 unfold KV at r
 induction r with
 | nil=>rfl
 | cons h t ih=>rw [List.any_cons,List.any_cons,ih,h.1]
theorem KV.repl{kvs:List (κ × V)}{vs:List (κ × Value)}(r:KV kvs vs)(k:κ){y:V}{u:Value}(ry:aU y u) :
  KV (kvs.map λ kv=>if kv.1=k then (kv.1,y) else kv) (vs.map λ kv=>if kv.1=k then (kv.1,u) else kv):=by
 unfold KV at r ⊢
 induction r with
 | nil=>exact .nil
 | @cons p q ps qs h t ih=>
  rw [LH,LH];refine .cons ?_ ih;obtain⟨h1,h2⟩:=h
  by_cases e:p.1=k
  ·rw [Lo e,Lo (h1.symm.trans e)];exact⟨h1,ry⟩
  ·rw [Lm e,Lm (λ z=>e (h1.trans z))];exact⟨h1,h2⟩
theorem KV.put{kvs:List (κ × V)}{vs:List (κ × Value)}(r:KV kvs vs)(k:κ){y:V}{u:Value}(ry:aU y u):KV (eP kvs k y) (stored vs k u):=by
 unfold eP stored;rw [r.any k]
 by_cases e:(vs.any λ kv=>decide (kv.1=k))=true
 ·rw [Lo e,Lo e];exact r.repl k ry
 ·rw [Lm e,Lm e];exact Paired.snoc r ⟨rfl,ry⟩
theorem KV.length{kvs:List (κ × V)}{vs:List (κ × Value)}(r:KV kvs vs):kvs.length=vs.length:=MJ r
end
theorem ng{P:Program}{w:World}{k:Key}{u:Value}(r:aU (kV k) u):(aw P w).is k u=true:=by
 cases k with
 | inl i=>obtain⟨t,e⟩:=(show ∃ t,u=Value.int i t from r);subst e;exact oa P w i t
 | inr x=>obtain⟨t,e⟩:=(show ∃ t,u=Value.str x t from r);subst e;exact n9 P w x t
theorem ma{P:Program}{w:World}:∀ {ks:List Key}{us:List Value},aL (ks.map kV) us->ItemsAre (aw P w) ks us
 | [],_,r=>by rw [OL] at r;cases r;exact .nil
 | k::ks,_,r=>by
  rw [LH] at r
  cases r with
  | cons h t=>exact .cons (ng h) (ma t)
abbrev KT(H:Hp):List (List Key × V)->List (List Key × Addr × Value)->Prop:=Paired λ p q=>p.1=q.1/\H q.2.1=some (.tup (p.1.map kV))/\aU p.2 q.2.2
theorem KT.val{H:Hp}{kvs:List (List Key × V)}{xs:List (List Key × Addr × Value)}(r:KT H kvs xs)(k:List Key):k7 (cJ kvs k) ((atKey xs k).map (·.2)):=by
 induction r with
 | nil=>exact True.intro
 | @cons p q ps qs h t ih=>
  obtain⟨h1,_,h2⟩:=h
  by_cases e:p.1=k
  ·have e':q.1=k:=h1.symm.trans e;have b:atKey (q::qs) k=some q.2:=by simp [atKey,Nc,e']
   rw [bp e,b];exact h2
  ·have e':¬ q.1=k:=λ z=>e (h1.trans z);have b:atKey (q::qs) k=atKey qs k:=by simp [atKey,Nc,e']
   rw [bq e,b];exact ih
theorem KT.repl{H:Hp}{kvs:List (List Key × V)}{xs:List (List Key × Addr × Value)}(r:KT H kvs xs)(k:List Key){y:V}{u:Value}(ry:aU y u) :
  KT H (kvs.map λ kv=>if kv.1=k then (kv.1,y) else kv) (xs.map (putAt k u)):=by
 induction r with
 | nil=>exact .nil
 | @cons p q ps qs h t ih=>
  rw [map_cons,map_cons];refine .cons ?_ ih;obtain⟨h1,h2,h3⟩:=h;unfold putAt
  by_cases e:p.1=k
  ·rw [Lo e,Lo (h1.symm.trans e)];exact⟨h1,h2,ry⟩
  ·rw [Lm e,Lm (λ z=>e (h1.trans z))];exact⟨h1,h2,h3⟩
theorem KT.put{H:Hp}{kvs:List (List Key × V)}{xs:List (List Key × Addr × Value)}(r:KT H kvs xs)(k:List Key){b:Addr}{y:V}{u:Value}(hb:H b=some (.tup (k.map kV)))(ry:aU y u) :
  KT H (eP kvs k y) (storedH xs k b u):=by
 have e:(kvs.any λ kv=>decide (kv.1=k))=(atKey xs k).isSome:=by
  rw [dX,(r.val k).isSome_eq,NT]
 unfold eP storedH;rw [e]
 by_cases q:(atKey xs k).isSome=true
 ·rw [Lo q,Lo q];exact r.repl k ry
 ·rw [Lm q,Lm q];exact Paired.snoc r ⟨rfl,hb,ry⟩
theorem KT.keeps{H H':Hp}{kvs:List (List Key × V)}{xs:List (List Key × Addr × Value)}(r:KT H kvs xs)(ht:∀ b ys,H b=some (.tup ys)->H' b=some (.tup ys)):KT H' kvs xs:=
 Paired.mapP r λ _ _ z=>⟨z.1,ht _ _ z.2.1,z.2.2⟩
section
variable {P:Program}{w:World}{H:Hp}{h:Heap}{a:Addr}
theorem DC{u:HO}(ok:HOk P w H h)(e:Rd H a u):aM P w H h a u:=e.ok ok
theorem ll{kvs:List (Key × V)}(ok:HOk P w H h)(e:Rd H a (.dK kvs)):kvs.length<=sizeLine/\(a == sysModules)=false/\∃ vs,KV kvs vs/\h.DictOf (aw P w) a vs:=
 show aM P w H h a (.dK kvs) from DC ok e
theorem vU{kvs:List (Key × V)}(ok:HOk P w H h)(e:H a=some (.dK kvs)):kvs.length<=sizeLine/\(a == sysModules)=false/\∃ vs,KV kvs vs/\h.DictOf (aw P w) a vs:=ll ok (.inl e)
theorem g9{ks:List Key}(ok:HOk P w H h)(e:H a=some (.tup (ks.map kV))):(tupleKind (aw P w)).is h ks a:=by
 obtain⟨_,its,r,o,h1,h2,n,h3⟩:=(show aM P w H h a (.tup (ks.map kV)) from ok a _ e);exact⟨o,its.toArray,n,h1,h2,h3,by simpa using ma r⟩
theorem lj{kvs:List (List Key × V)}(ok:HOk P w H h)(e:Rd H a (.dT kvs)):kvs.length<=sizeLine/\(a == sysModules)=false /\
  ∃ xs,KT H kvs xs/\h.DictOfH (tupleKind (aw P w)) a xs:=by
 obtain⟨z,y,xs,r,o,es,ep,h1,h2,h3,h4,h5⟩:=(show aM P w H h a (.dT kvs) from DC ok e);refine⟨z,y,xs,r,o,es,ep,h1,h2,h3,h4,λ x hx=>?_,h5⟩
 have all:∀ {l:List (List Key × V)} {m:List (List Key × Addr × Value)},KT H l m->∀ x∈m,(tupleKind (aw P w)).is h x.1 x.2.1:=by
  intro l m q
  induction q with
  | nil=>intro x hx;exact nomatch hx
  | @cons p q ps qs hq t ih=>
   intro x hx
   rcases Lz.mp hx with e|hx
   ·subst e;exact g9 ok (by rw [←hq.1];exact hq.2.1)
   ·exact ih x hx
 exact all r x hx
theorem Jx{kvs:List (List Key × V)}(ok:HOk P w H h)(e:H a=some (.dT kvs)):kvs.length<=sizeLine/\(a == sysModules)=false /\
  ∃ xs,KT H kvs xs/\h.DictOfH (tupleKind (aw P w)) a xs:=lj ok (.inl e)
end
def jC(H:Hp)(a:Addr)(y:V)(r:Option V):Prop:=
 (∃ kvs k,Rd H a (.dK kvs)/\y=kV k/\r=cJ kvs k)\/∃ kvs k b,Rd H a (.dT kvs)/\y=.ref b/\H b=some (.tup (k.map kV))/\r=cJ kvs k
def De(H:Hp)(a:Addr)(y v:V)(H':Hp):Prop:=
 (∃ kvs k,H a=some (.dK kvs)/\y=kV k/\kvs.length < sizeLine/\H'=upd H a (.dK (eP kvs k v))) \/
 ∃ kvs k b,H a=some (.dT kvs)/\y=.ref b/\H b=some (.tup (k.map kV))/\kvs.length < sizeLine/\H'=upd H a (.dT (eP kvs k v))
theorem jC.k{H:Hp}{a:Addr}{kvs:List (Key × V)}{k:Key}(e:H a=some (.dK kvs)):jC H a (kV k) (cJ kvs k):=.inl ⟨kvs,k,.inl e,rfl,rfl⟩
theorem De.k{H:Hp}{a:Addr}{kvs:List (Key × V)}{k:Key}{v:V}(e:H a=some (.dK kvs))(hl:kvs.length < sizeLine):De H a (kV k) v (upd H a (.dK (eP kvs k v))):=.inl ⟨kvs,k,e,rfl,hl,rfl⟩
section
variable {X:Cx}{pins:List (Addr × Obj)}{σ:St}{H:Hp}{s:Shared}{a:Addr}{y v:V}{u r:Value}{o:Option V}{A:Around}{E:Value->Shared->Prop}
theorem Inv.big(I:Inv X pins σ H s):sysModules < s.heap.objs.size:=by
 have h:mainGlobals < s.heap.objs.size:=(I.mod.glob.keeps I.bk).lt;exact NK (by decide) h
theorem vd{Q:Value->Shared->Prop}(hu:A.units+1 < cLine)(I:Inv X pins σ H s)(g:jC H a y (some v))(ry:aU y u)(h:∀ w' s',Inv X pins σ H s'->aU v w'->Q w' s') :
  wpAny (model X.prog X.w) A (getItem (.ref a) u) Q E s:=by
 rcases g with ⟨kvs,k,e,ey,l⟩|⟨kvs,k,b,e,ey,eb,l⟩
 ·subst ey;obtain⟨z,hd,vs,rel,dd⟩:=ll I.hok e;obtain⟨w',hw,rw'⟩:=k7.some_of (v:=v) (o:=valueAt vs k) (by rw [l];exact rel.val k);exact wpAny_getItem_of (ng ry) dd.mapOf hw (h w' _ (I.tok _) rw')
 ·subst ey;cases (show u=Value.ref b from ry);obtain⟨z,hd,xs,rel,dd⟩:=lj I.hok e;obtain⟨w',hw,rw'⟩:=k7.some_of (v:=v) (o:=(atKey xs k).map (·.2)) (by rw [l];exact rel.val k);obtain⟨p,hp,hp2⟩:=Lk.mp hw;refine wpAny_getItem_heap (MZ hu) (g9 I.hok eb) dd hp ?_;rw [hp2];exact h w' _ (I.tok _) rw'
theorem KO{Q:Value->Shared->Prop}(hu:A.units+1 < cLine)(I:Inv X pins σ H s)(g:jC H a y o)(ry:aU y u)(h:∀ s',Inv X pins σ H s'->Q (.bool o.isSome) s') :
  wpAny (model X.prog X.w) A (compareOp .In u (.ref a)) Q E s:=by
 rcases g with ⟨kvs,k,e,ey,l⟩|⟨kvs,k,b,e,ey,eb,l⟩
 ·subst ey;obtain⟨z,hd,vs,rel,dd⟩:=ll I.hok e;refine wpAny_in_of (ng ry) hd dd.mapOf ?_;rw [←(rel.val k).isSome_eq,←l];exact h _ (I.tok _)
 ·subst ey;cases (show u=Value.ref b from ry);obtain⟨z,hd,xs,rel,dd⟩:=lj I.hok e;refine wpAny_in_heap (MZ hu) (g9 I.hok eb) hd dd ?_;have q:=(rel.val k).isSome_eq;rw [NT] at q;rw [←q,←l];exact h _ (I.tok _)
theorem CM{Q:Value->Shared->Prop}(hu:A.units+1 < cLine)(I:Inv X pins σ H s)(g:jC H a y o)(ry:aU y u)(h:∀ s',Inv X pins σ H s'->Q (.bool (!o.isSome)) s') :
  wpAny (model X.prog X.w) A (compareOp .NotIn u (.ref a)) Q E s:=by
 rcases g with ⟨kvs,k,e,ey,l⟩|⟨kvs,k,b,e,ey,eb,l⟩
 ·subst ey;obtain⟨z,hd,vs,rel,dd⟩:=ll I.hok e;refine wpAny_notIn_of (ng ry) hd dd.mapOf ?_;rw [←(rel.val k).isSome_eq,←l];exact h _ (I.tok _)
 ·subst ey;cases (show u=Value.ref b from ry);obtain⟨z,hd,xs,rel,dd⟩:=lj I.hok e;refine wpAny_notIn_heap (MZ hu) (g9 I.hok eb) hd dd ?_;have q:=(rel.val k).isSome_eq;rw [NT] at q;rw [←q,←l];exact h _ (I.tok _)
theorem tq{h':Heap}{t':Nat}{ob:HO}(I:Inv X pins σ H s)(mu:Mut (H a))(hs:Heap.SameBut a s.heap h')(he:∃ q,h'.get? a=some q)(new:aM X.prog X.w (upd H a ob) h' a ob) :
  Inv X pins σ (upd H a ob) { s with heap:=h',toks:=t' }:=
 I.write (x:=a) (e:=a) mu (.inl rfl) (λ b q hb z=>(hs.2 b hb).trans z) he new
theorem GI{P:Program}{w:World}{H':Hp}{h':Heap}{kvs:List (Key × V)}{vs:List (Key × Value)}(z:kvs.length<=sizeLine)(hd:(a == sysModules)=false)(rel:KV kvs vs)(dd:h'.DictOf (aw P w) a vs) :
  aM P w H' h' a (.dK kvs):=⟨z,hd,vs,rel,dd⟩
theorem vc{H':Hp}{Q:Unit->Shared->Prop}(hu:A.units+1 < cLine)(I:Inv X pins σ H s)(g:De H a y v H')(ry:aU y u)(rv:aU v r)(h:∀ s',Inv X pins σ H' s'->Q () s') :
  wpAny (model X.prog X.w) A (setItem (.ref a) u r) Q E s:=by
 rcases g with ⟨kvs,k,e,ey,l,eH⟩|⟨kvs,k,b,e,ey,eb,l,eH⟩
 ·subst ey eH;obtain⟨z,hd,vs,rel,dd⟩:=vU I.hok e;have hz:vs.length<=sizeLine:=by rw [←rel.length];exact z
  have hl:(eP kvs k v).length<=sizeLine:=by have:=fj kvs k v;omega
  refine wpAny_setItem_pairs (hsz:=hz) (ng ry) dd λ h' dd' hs=>h _ ?_;have he:∃ q,h'.get? a=some q:=let ⟨q,_,_,hq,_⟩:=dd';⟨q,hq⟩;exact tq I (by rw [e];exact True.intro) hs he (GI hl hd (rel.put k rv) dd')
 ·subst ey eH;cases (show u=Value.ref b from ry);obtain⟨z,hd,xs,rel,dd⟩:=Jx I.hok e;have hz:xs.length<=sizeLine:=by rw [←MJ rel];exact z
  have hl:(eP kvs k v).length<=sizeLine:=by have:=fj kvs k v;omega
  refine wpAny_setItem_heap (hsz:=hz) (MZ hu) (g9 I.hok eb) dd λ h' dd' hs=>h _ ?_;obtain⟨q,es,ep,hq,h2,h3,h4,_,h5⟩:=dd';refine tq I (by rw [e];exact True.intro) hs ⟨q,hq⟩ ⟨hl,hd,_,(rel.put k eb rv).keeps λ c ys ec=>?_,q,es,ep,hq,h2,h3,h4,h5⟩;rw [af (IH ec e (λ z=>nomatch z))];exact ec
end
section
variable {X:Cx}{pins:List (Addr × Obj)}{σ:St}{H:Hp}{s:Shared}{a:Addr}{kvs:List (Key × V)}{k:Key}{u:Value}{A:Around}{E:Value->Shared->Prop}
end
def Ki(i:Expr):Prop:=∀ ov iv,subscripted i false ov iv=operate [ov,iv] (getItem ov iv)
theorem AH{prog:Program}{w:World}{A:Around}{E:Value->Shared->Prop}{s:Shared}{env:Env}{value slice:Expr}{pos:Pos}{T id:String}{Q:Value->Shared->Prop}
  (hl:typeLookup (.type T) "__getitem__"=pure (some (.builtin id))) (hs:Ki slice)
  (h:wpAny (model prog w) A (eval value env) (λ o s₁=>wpAny (model prog w) A (eval slice env) (λ i s₂=>s₂.TypeIs o T/\wpAny (model prog w) A (getItem o i) Q E s₂) E s₁) E s) :
  wpAny (model prog w) A (eval (.Subscript value slice pos) env) Q E s:=by
 refine Subscript_ (wpAny_mono h (λ o s₁ h₁=>wpAny_mono h₁ (λ i s₂ h₂=>?_) λ _ _ x=>x) λ _ _ x=>x);obtain⟨hT,h₂⟩:=h₂;unfold subscriptTail;refine wpAny_bind ?_;rw [getitemInPython_of_ne hT.not_modules];refine wpAny_bind (wpAny_specialOf hT hl ?_)
 have fin:wpAny (model prog w) A (subscripted slice false o i) (λ r s₃=>wpAny (model prog w) A (letTemporaryGo value o r >>= λ _=>pure r) Q E s₃) E s₂:=by
  rw [hs o i];exact wpAny_operating (Ng h₂ (λ r s₃ h₃=>K0 (wpAny_letTemporaryGo (Lf h₃))) λ _ _ x=>x)
 first
  | exact Lf (K0 fin)
  | exact K0 (Lf (K0 fin))
  | exact K0 fin
theorem ou{X:Cx}{pins:List (Addr × Obj)}{σ:St}{H:Hp}{s:Shared}{a:Addr}{y:V}{o:Option V}(I:Inv X pins σ H s)(g:jC H a y o):s.TypeIs (.ref a) "dict":=by
 rcases g with ⟨kvs,k,e,_,_⟩|⟨kvs,k,b,e,_,_,_⟩
 ·obtain⟨_,_,vs,_,dd⟩:=ll I.hok e;exact dd.typeIs
 ·obtain⟨_,_,xs,_,dd⟩:=lj I.hok e;exact dd.typeIs
def Dx(td ty:TE):TE:=λ σ H Q=>td σ H λ x H1=>ty σ H1 λ y H2=>∃ a v,x=.ref a/\jC H2 a y (some v)/\Q v H2
def DB(td ty tv:TE):TS:=λ D σ H=>tv σ H λ v H1=>td σ H1 λ x H2=>ty σ H2 λ y H3=>∃ a H4,x=.ref a/\De H3 a y v H4/\D.nx σ H4
section
variable {X:Cx}{o i e value:Expr}{pos pos' tpos:Pos}{td ty tv:TE}
theorem A6(hu:X.A.units+1 < cLine)(ho:PE X o td)(hi:PE X i ty)(hs:Ki i):PE X (.Subscript o i pos) (Dx td ty):=by
 intro pins s σ H Q I h;refine AH PySem.F.slot_dict_getitem.lookup hs (thn (ho pins s σ H _ I h) λ u s1 ⟨x,H1,I1,rx,q1⟩=>thn (hi pins s1 σ H1 _ I1 q1) λ iv s2 ⟨y,H2,I2,ry,a,v,ex,g,q2⟩=>?_);subst ex;obtain rfl:u=Value.ref a:=rx;exact⟨ou I2 g,vd hu I2 g ry λ w' s3 I3 rw'=>⟨v,H2,I3,rw',q2⟩⟩
theorem AU(hu:X.A.units+1 < cLine)(ho:PE X o td)(hi:PE X i ty)(hv:PE X value tv)(hs:swapsWith value (some (.Subscript o i pos')) pos.line X.env=pure false) :
  PS X (.Assign [.Subscript o i pos'] value pos) (DB td ty tv):=by
 intro pins s σ H D I h;refine wpAny_Assign_Subscript (thn (hv pins s σ H _ I h) λ r s1 ⟨v,H1,I1,rv,q1⟩=>thn (ho pins s1 σ H1 _ I1 q1) λ u s2 ⟨x,H2,I2,rx,q2⟩=>thn (hi pins s2 σ H2 _ I2 q2) λ iv s3 ⟨y,H3,I3,ry,a,H4,ex,g,q3⟩=>?_) hs;subst ex;obtain rfl:u=Value.ref a:=rx;exact vc hu I3 g ry rv λ s4 I4=>⟨σ,H4,I4,q3⟩
end
theorem yc{P:Program}{w:World}{H:Hp}(h:Heap)(hb:sysModules < h.objs.size):aM P w H (h.push { cls:=.type "dict",data:=.dict #[] }) h.objs.size (.dK []):=
 ⟨LD _,MM.mpr (Lv (Ll hb)),[],.nil,Heap.DictOf.new h⟩
def Em:TE:=λ _ H Q=>∀ p,H p=none->Q (.ref p) (upd H p (.dK []))
section
variable {X:Cx}{pos:Pos}
theorem wO:PE X (.Dict [] [] pos) Em:=λ pins s σ H Q I h=>
 wpAny_Dict_empty ⟨.ref s.heap.objs.size,_,I.laid (a:=s.heap.objs.size) (o:=.dK []) (t':=s.toks) (λ _ _ q=>K2 _ q) (Li _) (yc s.heap I.big),rfl,h _ (I.hok.fresh (Li _))⟩
end
structure M1(X:Cx)(o:Expr)(m:Str)(apos:Pos)(e:Expr)(cpos:Pos):Prop where
 base:attributeBase o m X.env (eval o X.env)=eval o X.env
 few:((backTo cpos (starEach [e] X.env)).all (λ x=>!x.1) && (backToKw cpos (keywordEach [] X.env)).all (λ x=>x.1.isSome)
  && decide (([e]:List Expr).length+([]:List Keyword).length+(if ([]:List Keyword).isEmpty then 0 else 1) < 30))=true
 line:(apos.endLine == cpos.line)=true
 trees:backTo cpos (starEach [e] X.env)=[(false,eval e X.env)]
structure M2(X:Cx)(o:Expr)(m:Str)(apos:Pos)(e f:Expr)(cpos:Pos):Prop where
 base:attributeBase o m X.env (eval o X.env)=eval o X.env
 few:((backTo cpos (starEach [e,f] X.env)).all (λ x=>!x.1) && (backToKw cpos (keywordEach [] X.env)).all (λ x=>x.1.isSome)
  && decide (([e,f]:List Expr).length+([]:List Keyword).length+(if ([]:List Keyword).isEmpty then 0 else 1) < 30))=true
 line:(apos.endLine == cpos.line)=true
 trees:backTo cpos (starEach [e,f] X.env)=[(false,eval e X.env),(false,eval f X.env)]
def IsD(H:Hp)(a:Addr):Prop:=(∃ kvs,Rd H a (.dK kvs))\/∃ kvs,Rd H a (.dT kvs)
theorem yL{X:Cx}{pins:List (Addr × Obj)}{σ:St}{H:Hp}{s:Shared}{a:Addr}(I:Inv X pins σ H s)(d:IsD H a) :
  s.TypeIs (.ref a) "dict" /\ (∀ b,Value.ref a=.ref b->∃ ob,s.heap.get? b=some ob/\ob.dict=none)/\(a == sysModules)=false:=by
 rcases d with ⟨kvs,e⟩|⟨kvs,e⟩
 ·obtain⟨_,hd,vs,_,dd⟩:=ll I.hok e;refine⟨dd.typeIs,λ b q=>?_,hd⟩;cases q;obtain⟨ob,_,_,h1,h2,_⟩:=dd;exact⟨ob,h1,h2.2.1⟩
 ·obtain⟨_,hd,xs,_,dd⟩:=lj I.hok e;refine⟨dd.typeIs,λ b q=>?_,hd⟩;cases q;obtain⟨ob,_,_,h1,h2,_⟩:=dd;exact⟨ob,h1,h2.2.1⟩
section
variable {X:Cx}{pins:List (Addr × Obj)}{σ:St}{H:Hp}{s:Shared}{a:Addr}{y d:V}{u r:Value}{o:Option V}{A:Around}{E:Value->Shared->Prop}
theorem GK{Q:Value->Shared->Prop}(hu:A.units+1 < cLine)(I:Inv X pins σ H s)(g:jC H a y o)(ry:aU y u)(h:∀ w' s',Inv X pins σ H s'->aU (o.getD .non) w'->Q w' s') :
  wpAny (model X.prog X.w) A (call (.builtin "dict.get") [.ref a,u]) Q E s:=by
 rcases g with ⟨kvs,k,e,ey,l⟩|⟨kvs,k,b,e,ey,eb,l⟩
 ·subst ey;obtain⟨z,hd,vs,rel,dd⟩:=ll I.hok e;refine call_meetsIn Mz dd.typeIs Np (PySem.F.args_dict_get_2 _ _) (meets_dict_get (aw X.prog X.w) a (ng ry) hd) ⟨_,dd.mapOf,h _ _ (I.tok _) ?_⟩;rw [l];exact(rel.val k).getD rfl
 ·subst ey;cases (show u=Value.ref b from ry);obtain⟨z,hd,xs,rel,dd⟩:=lj I.hok e;refine call_meetsIn Mz dd.typeIs Np (PySem.F.args_dict_get_2 _ _) (meetsH_dict_get (tupleKind (aw X.prog X.w)) a b hd) ⟨MZ hu,k,xs,g9 I.hok eb,dd,h _ _ (I.tok _) ?_⟩;rw [l];exact(rel.val k).getD rfl
theorem GJ{Q:Value->Shared->Prop}(hu:A.units+1 < cLine)(I:Inv X pins σ H s)(g:jC H a y o)(ry:aU y u)(rd:aU d r)(h:∀ w' s',Inv X pins σ H s'->aU (o.getD d) w'->Q w' s') :
  wpAny (model X.prog X.w) A (call (.builtin "dict.get") [.ref a,u,r]) Q E s:=by
 rcases g with ⟨kvs,k,e,ey,l⟩|⟨kvs,k,b,e,ey,eb,l⟩
 ·subst ey;obtain⟨z,hd,vs,rel,dd⟩:=ll I.hok e;refine call_meetsIn Mz dd.typeIs Np (PySem.F.args_dict_get_3 _ _ _) (meets_dict_get_default (aw X.prog X.w) a (ng ry) hd r) ⟨_,dd.mapOf,h _ _ (I.tok _) ?_⟩;rw [l];exact(rel.val k).getD rd
 ·subst ey;cases (show u=Value.ref b from ry);obtain⟨z,hd,xs,rel,dd⟩:=lj I.hok e;refine call_meetsIn Mz dd.typeIs Np (PySem.F.args_dict_get_3 _ _ _) (meetsH_dict_get_default (tupleKind (aw X.prog X.w)) a b hd r) ⟨MZ hu,k,xs,g9 I.hok eb,dd,h _ _ (I.tok _) ?_⟩;rw [l];exact(rel.val k).getD rd
end
def yy(td ty:TE):TE:=λ σ H Q=>td σ H λ x H1=>∃ a,x=.ref a/\IsD H1 a/\ty σ H1 λ y H2=>∃ o,jC H2 a y o/\Q (o.getD .non) H2
def yx(td ty tx:TE):TE:=λ σ H Q=>td σ H λ x H1=>∃ a,x=.ref a/\IsD H1 a/\ty σ H1 λ y H2=>tx σ H2 λ z H3=>∃ o,jC H3 a y o/\Q (o.getD z) H3
section
variable {X:Cx}{o e f:Expr}{apos cpos:Pos}{td ty tx:TE}
theorem kd(hu:X.A.units+1 < cLine)(ho:PE X o td)(he:PE X e ty)(m:M1 X o "get" apos e cpos):PE X (.Call (.Attribute o "get" apos) [e] [] cpos) (yy td ty):=by
 intro pins s σ H Q I h;refine wpAny_Call_method m.base m.few m.line PySem.F.plainAttrs_dict Mz PySem.F.type_dict_get (thn (ho pins s σ H _ I h) λ u s1 ⟨x,H1,I1,rx,a,ex,d,q1⟩=>?_);subst ex;obtain rfl:u=Value.ref a:=rx;obtain⟨t1,t2,_⟩:=yL I1 d;refine⟨t1,t2,?_⟩;rw [m.trees];refine NC rfl (OK (Nx (thn (he pins s1 σ H1 _ I1 q1) λ iv s2 ⟨y,H2,I2,ry,ov,g,q2⟩=>Of ?_)));exact GK hu I2 g ry λ w' s3 I3 rw'=>⟨_,H2,I3,rw',q2⟩
theorem wQ(hu:X.A.units+1 < cLine)(ho:PE X o td)(he:PE X e ty)(hf:PE X f tx)(m:M2 X o "get" apos e f cpos):PE X (.Call (.Attribute o "get" apos) [e,f] [] cpos) (yx td ty tx):=by
 intro pins s σ H Q I h;refine wpAny_Call_method m.base m.few m.line PySem.F.plainAttrs_dict Mz PySem.F.type_dict_get (thn (ho pins s σ H _ I h) λ u s1 ⟨x,H1,I1,rx,a,ex,d,q1⟩=>?_);subst ex;obtain rfl:u=Value.ref a:=rx;obtain⟨t1,t2,_⟩:=yL I1 d;refine⟨t1,t2,?_⟩;rw [m.trees]
 refine NC rfl (OK (Nx (thn (he pins s1 σ H1 _ I1 q1) λ iv s2 ⟨y,H2,I2,ry,q2⟩=>
  Nx (thn (hf pins s2 σ H2 _ I2 q2) λ fv s3 ⟨z,H3,I3,rz,ov,g,q3⟩=>Of ?_))))
 exact GJ hu I3 g ry rz λ w' s4 I4 rw'=>⟨_,H3,I4,rw',q3⟩
end
section
variable {X:Cx}{pins:List (Addr × Obj)}{σ:St}{H:Hp}{s:Shared}{a:Addr}{kvs:List (Key × V)}{A:Around}{E:Value->Shared->Prop}
end
section
variable {X:Cx}{pins:List (Addr × Obj)}{σ:St}{H:Hp}{s:Shared}{a:Addr}{y:V}{u:Value}{A:Around}{E:Value->Shared->Prop}
end
section
variable {κ:Type}[DecidableEq κ]
end
section
variable {X:Cx}
def Ak(i j:Int):Prop:=i.natAbs < 2 ^ 256/\j.natAbs < 2 ^ 256
theorem tJ{i:Int}(h:i.natAbs < 2 ^ 256):Builtin.Int.intBits i<=2 ^ 20:=LU (intBits_le h) (by decide)
theorem Be:OpR X (binaryOp .Mult) (rI Ak λ i j=>.int (i * j)):=opI λ _ _ _ _ _ _ _ hc q=>mul_int q (IntMulOk.of_bits (tJ hc.1) (tJ hc.2))
theorem yf:bG X (.builtin "isinstance") (λ xs H Q=>∃ x n ty b,xs=[x,.ty n]/\oC X.K H x ty/\W.kitOne X.K ty (.type n)=some b/\Q (.bl b) H):=by
 intro pins s σ H xs us Q I r h;obtain⟨x,n,ty,b,rfl,hty,hk,q⟩:=h;obtain⟨u,w',rfl,rx,rc⟩:=zD r;cases (show w'=Value.type n from rc);exact u4 I rx hty hk (λ tk=>⟨.bl b,H,I.tok _,rfl,q⟩)
theorem uW(K:W.Frag)(A B:String)(r:Bool)
  (h:(if (Value.type A == Value.type B)=true then some true else if W.kitMeta B=true then (fastBuiltinMro A).map (·.contains (.type B)) else none)=some r):W.kitOne K (.type A) (.type B)=some r:=h
mutual
inductive jB (K:PySem.W.Frag) (H:Hp):V->PyData->Prop
 | non:jB K H .non .none
 | bl (b:Bool):jB K H (.bl b) (.bool b)
 | int (i:Int):jB K H (.int i) (.int i)
 | str (x:Str):jB K H (.str x) (.str x)
 | lst {a:Addr} {xs:List V} {ds:List PyData} (h:SqL K H a xs) (r:gZ K H xs ds):jB K H (.ref a) (.list ds)
 | tup {a:Addr} {xs:List V} {ds:List PyData} (h:SqT K H a xs) (r:gZ K H xs ds):jB K H (.ref a) (.tuple ds)
inductive gZ (K:PySem.W.Frag) (H:Hp):List V->List PyData->Prop
 | nil:gZ K H [] []
 | cons {x:V} {d:PyData} {xs:List V} {ds:List PyData} (h:jB K H x d) (t:gZ K H xs ds):gZ K H (x::xs) (d::ds)
end
mutual
theorem jB.reads{pins:List (Addr × Obj)}{σ:St}{H:Hp}{s:Shared}(I:Inv X pins σ H s):∀ {x:V}{d:PyData}{u:Value},jB X.K H x d->aU x u->∃ as,Reads s.heap u d as
 | _,_,_,.non,r=>by cases (show _=Value.none from r);exact⟨_,.none⟩
 | _,_,_,.bl b,r=>by cases (show _=Value.bool b from r);exact⟨_,.bool b⟩
 | _,_,_,.int i,r=>by obtain⟨t,rfl⟩:=r;exact⟨_,.int i t⟩
 | _,_,_,.str x,r=>by obtain⟨t,rfl⟩:=r;exact⟨_,.str x t⟩
 | _,_,_,@jB.lst _ _ a xs ds h q,r=>by
  cases (show _=Value.ref a from r);obtain⟨its,hv,hp,_⟩:=I.list h;obtain⟨o,n,e,c,_,d⟩:=hp;obtain⟨as,z⟩:=gZ.reads I q hv;exact⟨_,.list e c d (by simpa using z)⟩
 | _,_,_,@jB.tup _ _ a xs ds h q,r=>by
  cases (show _=Value.ref a from r);obtain⟨its,hv,hp,_⟩:=I.tuple h;obtain⟨o,e,c,n,d⟩:=hp;obtain⟨as,z⟩:=gZ.reads I q hv;exact⟨_,.tuple e c d (by simpa using z)⟩
theorem gZ.reads{pins:List (Addr × Obj)}{σ:St}{H:Hp}{s:Shared}(I:Inv X pins σ H s):∀ {xs:List V}{ds:List PyData}{us:List Value},gZ X.K H xs ds->aL xs us->∃ as,ReadsAll s.heap us ds as
 | _,_,_,.nil,.nil=>⟨_,.nil⟩
 | _,_,_,.cons h t,.cons r q=>by
  obtain⟨as,z⟩:=jB.reads I h r;obtain⟨bs,y⟩:=gZ.reads I t q;exact⟨_,.cons z y⟩
end
def Kw(K:W.Frag):R2:=λ x y H Q=>∃ d e,jB K H x d/\jB K H y e/\SeqAt.shaped d=true/\SeqAt.shaped e=true/\Q (.bl (PyData.eqv d e)) H
def Kt(K:W.Frag):R2:=λ x y H Q=>∃ d e,jB K H x d/\jB K H y e/\SeqAt.shaped d=true/\SeqAt.shaped e=true/\Q (.bl (!PyData.eqv d e)) H
theorem EF(hu:X.A.units+64 < cLine):OpR X (compareOp .Eq) (Kw X.K):=by
 intro pins s σ H x y v u Q I rx ry h;obtain⟨d,e,hd,he,sd,se,q⟩:=h;obtain⟨as,z⟩:=hd.reads I rx;obtain⟨bs,z'⟩:=he.reads I ry;exact SeqAt.compareEq_shaped z z' sd se hu ⟨.bl _,H,I,rfl,q⟩
theorem ED(hu:X.A.units+64 < cLine):OpR X (compareOp .NotEq) (Kt X.K):=by
 intro pins s σ H x y v u Q I rx ry h;obtain⟨d,e,hd,he,sd,se,q⟩:=h;obtain⟨as,z⟩:=hd.reads I rx;obtain⟨bs,z'⟩:=he.reads I ry;exact SeqAt.compareNe_shaped z z' sd se hu ⟨.bl _,H,I,rfl,q⟩
end
theorem wB{H:Hp}{p:Addr}{o:HO}(h:H p=none):iU H (upd H p o):=λ b u e=>by
 rw [af (bD e h)];exact e
theorem yT{α:Type}(xs:List α)(i:Int)(h0:0<=i)(h1:i < xs.length):∃ v,atI xs i=some v/\v∈xs:=by
 have hl:i.toNat < xs.length:=by omega
 refine⟨xs[i.toNat],?_,MK hl⟩;have e:((i.toNat:Nat):Int)=i:=by omega
 have:=eV (xs:=xs) (j:=i.toNat) (v:=xs[i.toNat]) (K1 hl);rw [e] at this;exact this
theorem gW(ns:List Int)(i:Int)(h0:0<=i)(h1:i < ns.length):∃ z,atI (ns.map V.int) i=some (.int z)/\z∈ns:=by
 obtain⟨v,e,m⟩:=yT (ns.map V.int) i h0 (by simpa using h1);obtain⟨z,hz,rfl⟩:=Le.mp m;exact⟨z,e,hz⟩
def k6(cells:List (Str × Addr)):List (Str × NameKind)->List (Str × Addr)->List (Str × Addr)
 | [],acc=>acc
 | (n,k)::r,acc=>if (k == .free)=true then k6 cells r ((n,(cells.lookup n).getD 0)::acc) else k6 cells r acc
theorem ft{env:Env}:∀ (names:List (Str × NameKind)) (acc:List (Str × Addr)),(∀ y∈names,y.2=.free->∃ c,env.cells.lookup y.1=some c) →
  (forIn names acc (λ (x:Str × NameKind) (cs:List (Str × Addr))=>match x with
   | (name,kind)=>if (kind == .free)=true then (do let a ←cellOf env name;pure (ForInStep.yield ((name,a)::cs))) else (do pure PUnit.unit;pure (ForInStep.yield cs))):Sem (List (Str × Addr)))=pure (k6 env.cells names acc)
 | [],acc,_=>rfl
 | (n,k)::r,acc,h=>by
  rw [OB];have hr:∀ y∈r,y.2=.free->∃ c,env.cells.lookup y.1=some c:=λ y hy=>h y (Lg _ hy)
  by_cases hk:(k == .free)=true
  ·obtain⟨c,hc⟩:=h (n,k) mem_cons_self (by simpa using hk);have hc':env.cells.lookup n=some c:=hc;simp only [hk,if_true,k6,hc',Option.getD_some];have e:cellOf env n=pure c:=by unfold cellOf;rw [hc']
   rw [e];exact ft r _ hr
  ·simp only [hk,Nb,k6];exact ft r acc hr
theorem fO{scope:Scope}{env:Env}(h:∀ y∈scope.names,y.2=.free->∃ c,env.cells.lookup y.1=some c):closureFor scope env=pure (k6 env.cells scope.names []):=by
 unfold closureFor;have:=ft (env:=env) scope.names [] h
 first
  | exact(Mt (λ m=>m >>= λ cs=>pure cs) this).trans (pure_bind _ _)
  | (simp only [] at this ⊢;rw [this];rfl)
theorem kj{cells:List (Str × Addr)}{x:Str}{c:Addr}:∀ {names:List (Str × NameKind)}{acc:List (Str × Addr)},(∀ y∈names,y.2=.free->∃ c,cells.lookup y.1=some c)->(k6 cells names acc).lookup x=some c->acc.lookup x=some c\/cells.lookup x=some c
 | [],acc,_,h=>.inl h
 | (n,k)::r,acc,hf,h=>by
  have hr:∀ y∈r,y.2=.free->∃ c,cells.lookup y.1=some c:=λ y hy=>hf y (mem_cons_of_mem _ hy);unfold k6 at h
  by_cases hk:(k == .free)=true
  ·rw [Lo hk] at h
   rcases kj hr h with q|q
   ·rw [M3] at q
    cases hx:x == n with
    | true=>
     rw [hx] at q;obtain⟨d,hd⟩:=hf (n,k) Lj (by simpa using hk);have e:x=n:=by simpa using hx
     subst e;have hd':cells.lookup x=some d:=hd;rw [hd'] at q ⊢;exact .inr (by simpa using q)
    | false=>rw [hx] at q;exact .inl q
   ·exact .inr q
  ·rw [Lm hk] at h;exact kj hr h
theorem kl{cells:List (Str × Addr)}{x:Str}:∀ {names:List (Str × NameKind)}{acc:List (Str × Addr)},(∀ y∈names,y.2=.free->∃ c,cells.lookup y.1=some c)->(∃ c,acc.lookup x=some c)->∃ c,(k6 cells names acc).lookup x=some c
 | [],acc,_,h=>h
 | (n,k)::r,acc,hf,h=>by
  have hr:∀ y∈r,y.2=.free->∃ c,cells.lookup y.1=some c:=λ y hy=>hf y (mem_cons_of_mem _ hy);unfold k6
  by_cases hk:(k == .free)=true
  ·rw [Lo hk];refine kl hr ?_;rw [M3]
   cases hx:x == n with
   | true=>exact⟨_,rfl⟩
   | false=>exact h
  ·rw [Lm hk];exact kl hr h
theorem gU{cells:List (Str × Addr)}{x:Str}:∀ {names:List (Str × NameKind)}{acc:List (Str × Addr)},(∀ y∈names,y.2=.free->∃ c,cells.lookup y.1=some c)->names.lookup x=some .free->∃ c,(k6 cells names acc).lookup x=some c
 | [],acc,_,h=>by simp at h
 | (n,k)::r,acc,hf,h=>by
  have hr:∀ y∈r,y.2=.free->∃ c,cells.lookup y.1=some c:=λ y hy=>hf y (mem_cons_of_mem _ hy);rw [lookup_cons] at h;unfold k6
  cases hx:x == n with
  | true=>
   rw [hx] at h;have hk:k=.free:=by simpa using h
   subst hk;rw [Lo (show (NameKind.free == NameKind.free)=true from rfl)];refine kl hr ⟨(cells.lookup n).getD 0,?_⟩;rw [M3,hx]
  | false=>
   rw [hx] at h
   by_cases hk:(k == .free)=true
   ·rw [Lo hk];exact gU hr h
   ·rw [Lm hk];exact gU hr h
theorem eo{x:Str}{k:NameKind}:∀ {names:List (Str × NameKind)},names.lookup x=some k->(x,k)∈names
 | [],h=>by simp at h
 | (n,j)::r,h=>by
  rw [M3] at h
  cases hx:x == n with
  | true=>
   rw [hx] at h;have e:x=n:=by simpa using hx
   have e2:j=k:=by simpa using h
   subst e;subst e2;exact Lj
  | false=>rw [hx] at h;exact Lg _ (eo h)
theorem cI{env:Env}{x:Str}:∀ {names:List (Str × NameKind)},
  (names.map λ (n,k)=>if (k == NameKind.free && env.scope.kind == .function && env.kindOf n == some .cell) then (n,NameKind.cell) else (n,k)).lookup x
   = (names.lookup x).map λ k=>if (k == NameKind.free && env.scope.kind == .function && env.kindOf x == some .cell) then NameKind.cell else k
 | []=>rfl
 | (n,k)::r=>by
  have ih:=@cI env x r
  show List.lookup x ((if (k == NameKind.free && env.scope.kind == .function && env.kindOf n == some .cell)=true then (n,NameKind.cell) else (n,k))::_)=_
  cases hx:x == n with
  | true=>
   have e:x=n:=by simpa using hx
   subst e
   by_cases hc:(k == NameKind.free && env.scope.kind == .function && env.kindOf x == some .cell)=true
   ·rw [Lo hc];simp only [M3,OQ,Mv];rw [Lo hc]
   ·rw [Lm hc];simp only [M3,OQ,Mv];rw [Lm hc]
  | false=>
   by_cases hc:(k == NameKind.free && env.scope.kind == .function && env.kindOf n == some .cell)=true
   ·rw [Lo hc];simp only [M3,hx];exact ih
   ·rw [Lm hc];simp only [M3,hx];exact ih
abbrev cCx(X:Cx)(scope:Scope)(N':List Str)(C:Addr)(s₀:Shared)(H₀:Hp)(ex:List Addr)(pn:List (Addr × Obj)):Cx:=
 { X with N:=N',s₀:=s₀,H₀:=H₀,env:=compEnvC scope (k6 X.env.cells scope.names []) C X.env,outer:=X.stack,stack:=X.stack,ex:=ex,fn:=λ _=>false,pn:=pn,xe:=λ _ _=>False }
def PTs(Y:Cx)(ifs:List Expr)(t:TT):Prop:=
 ∀ (pins:List (Addr × Obj)) (s:Shared) (σ:St) (H:Hp) (Q:Bool->Hp->Prop),Inv Y pins σ H s->t σ H Q →
  wpAny (model Y.prog Y.w) Y.A (forIn ifs true λ c r=>if r=true then do let ok ←isTrue c Y.env (eval c Y.env);pure (ForInStep.yield ok) else pure (ForInStep.yield r)) (TP Y pins σ Q) Y.xe s
def JE:TT:=λ _ H Q=>Q true H
theorem bu{Y:Cx}:PTs Y [] JE:=λ _ _ _ H _ I h=>Lf ⟨H,I,h⟩
theorem AQ{Y:Cx}{c:Expr}{t:TT}(h:PT Y c t):PTs Y [c] t:=λ pins s σ H Q I hw=>PySem.wpAny_tests_one (h pins s σ H Q I hw)
theorem HOk.but{P:Program}{w:World}{H:Hp}{h h':Heap}{C:Addr}(ok:HOk P w H h)(hn:H C=none)(hs:Heap.SameBut C h h'):HOk P w H h':=λ b ob e=>by
 refine(ok b ob e).stay (λ c w' hc q=>(hs.2 c ?_).trans q) (λ _ q=>q) λ _ _ q=>q;rintro rfl
 rcases hc with rfl|hc
 ·rw [hn] at e;cases e
 ·rw [hn] at hc;cases hc
theorem Un.but{fs ex:List Addr}{H H':Hp}{h h1 h2:Heap}{C:Addr}(u:Un fs ex H H' h h1)(hs:Heap.SameBut C h1 h2)(hC:∀ b o,h.get? b=some o->b ≠ C):Un fs ex H H' h h2 where
 keep:=λ b o e n hb hx=>(hs.2 b (hC b o e)).trans (u.keep b o e n hb hx)
 slot:=λ b o e n hb hx=>by
  obtain⟨sl,q⟩:=u.slot b o e n hb hx;exact⟨sl,(hs.2 b (hC b o e)).trans q⟩
 free:=u.free
 there:=λ b o e hx=>by
  obtain⟨o',q⟩:=u.there b o e hx;exact⟨o',(hs.2 b (hC b o e)).trans q⟩
 tups:=u.tups
 frzs:=u.frzs
 tbls:=u.tbls
section
variable {X:Cx}
def zG(k:Nat)(wi:TI)(g:TG)(tt:TT)(te:TE):TE:=λ σ H Q=>wi σ H λ J H1=>∀ D,H1 D=none->∃ W:Nat->Nat->List V->Hp->Prop,(∃ m,W 0 m [] (upd H1 D (.lst [])))/\∀ i m ys H,W i m ys H →
 (J.stop i H/\Q (.ref D) H)\/(J.go i H/\∃ N:List V->Hp->Prop,(∀ ys' H',N ys' H'->∃ m',m' < m/\W (i+1) m' ys' H') /\
  ∀ x H',J.yld i H x H'->g x (List.replicate k none++σ) H' λ σ2 H2=>(∃ vs:St,vs.length=k/\σ2=vs++σ)/\tt σ2 H2 λ b H3=>if b=true then te σ2 H3 λ y H4=>H4 D=some (.lst ys)/\ys.length < sizeLine/\N (ys++[y]) (upd H4 D (.lst (ys++[y]))) else N ys H3)
theorem ve{Y:Cx}{tg elt iter:Expr}{ifs:List Expr}{scope:Scope}{pos:Pos}{it D:Addr}{g:TG}{tt:TT}{te:TE}{J:It}{fp:List Addr}{tn:Nat->Heap->Prop}{k:Nat}{σ:St}{Q:VK}
  (hc:Y.calm=true) (hx:Y.xe=λ _ _=>False) (hg:PG Y tg g) (ht:PTs Y ifs tt) (he:PE Y elt te) (T:vG Y.prog Y.w Y.K tg J fp it tn) (hf:∀ H:Hp,(∀ b∈fp,H b=none)->∀ b∈fp,k9 Y [] H b)
  (W:Nat->Nat->List V->Hp->Prop)
  (turn:∀ i m ys H,W i m ys H->(J.stop i H/\Q (.ref D) H)\/(J.go i H/\∃ N:List V->Hp->Prop,(∀ ys' H',N ys' H'->∃ m',m' < m/\W (i+1) m' ys' H') /\
   ∀ x H',J.yld i H x H'->g x (List.replicate k none++σ) H' λ σ2 H2=>(∃ vs:St,vs.length=k/\σ2=vs++σ)/\tt σ2 H2 λ b H3=>if b=true then te σ2 H3 λ y H4=>H4 D=some (.lst ys)/\ys.length < sizeLine/\N (ys++[y]) (upd H4 D (.lst (ys++[y]))) else N ys H3))
  (n:Nat) (s:Shared) (h:∃ i ys H,Inv Y [] (List.replicate k none++σ) H s/\tn i s.heap/\(∀ b∈fp,H b=none)/\W i n ys H) :
  codeAny (model Y.prog Y.w) Y.A (.compLoop (.ListComp elt [⟨tg,iter,ifs,0⟩] scope pos) 0 (.ref it) (.ref D) Y.env) (λ r s'=>r=.ok .next/\∃ H',Inv Y [] (List.replicate k none++σ) H' s'/\Q (.ref D) H') s:=by
 refine codeAny_loop rfl (λ n s=>∃ i ys H,Inv Y [] (List.replicate k none++σ) H s/\tn i s.heap/\(∀ b∈fp,H b=none)/\W i n ys H) ?_ n h;rintro n s3 ⟨i,ys,H3,I3,st3,fr3,w3⟩
 show wpAny _ Y.A ((compTurn (.ListComp elt [⟨tg,iter,ifs,0⟩] scope pos) 0 (.ref it) (.ref D) Y.env).onRaise (λ x=>do noteFrame x Y.env;theTreesLotGoes x)) _ _ s3
 refine PySem.wpAny_noted ?_;rw [PySem.compTurn_list]
 have no:∀ {α:Type} {m:Sem α} {P:α->Shared->Prop} {E:Value->Shared->Prop} {s:Shared},wpAny (model Y.prog Y.w) Y.A m P Y.xe s->wpAny (model Y.prog Y.w) Y.A m P E s:=λ {α m P E s} h=>
  Ng h (λ _ _ q=>q) λ _ _ q=>by rw [hx] at q;exact q.elim
 refine K0 (OT (K0 ?_))
 rcases turn i n ys H3 w3 with ⟨stop,qn⟩|⟨go,N,hN,step⟩
 ·refine thn (T.done Y rfl rfl rfl hc i [] s3 (List.replicate k none++σ) H3 _ I3 (hf H3 fr3) st3 stop) λ r s4 ⟨hr,I4⟩=>?_;subst hr;exact Lf ⟨rfl,H3,I4,qn⟩
 ·refine thn (T.item Y rfl rfl rfl hc i [] s3 (List.replicate k none++σ) H3 _ I3 (hf H3 fr3) st3 go) λ r s4 ⟨u,hr,h4⟩=>?_;subst hr;refine K0 (thn h4 λ _ s5 ⟨x,H5,I5,r5,y5,st5,fr5⟩=>?_);have I5':=I5.pinned (hf H5 fr5) (T.obj _ _ st5);refine K0 (no (thn (hg _ s5 (List.replicate k none++σ) H5 x u _ I5' r5 (step x H5 y5)) λ _ s6 ⟨σ6,H6,I6,⟨vs,hvs,e6⟩,q6⟩=>?_));subst e6
  have forget:∀ {pins:List (Addr × Obj)} {H:Hp} {s:Shared},Inv Y pins (vs++σ) H s->Inv Y pins (List.replicate k none++σ) H s:=λ {pins H s} I=>I.weak (by simp [hvs]) λ i v e=>by
   by_cases hi:i < k
   ·rw [L3 (by simpa using hi)] at e;simp [NZ,hi] at e
   ·rw [LP (by simpa using OR hi)] at e;rw [LP (by omega)]
    simpa [hvs] using e
  refine K0 (no (thn (ht _ s6 (vs++σ) H6 _ I6 q6) λ b s7 ⟨H7,I7,q7⟩=>?_))
  have again:∀ {H8:Hp} {s8:Shared} {ys':List V},Inv Y ([]++lq fp s5.heap) (vs++σ) H8 s8->N ys' H8->∃ m,m < n/\∃ i ys H,Inv Y [] (List.replicate k none++σ) H s8/\tn i s8.heap/\(∀ b∈fp,H b=none)/\W i m ys H:=λ {H8 s8 ys'} I8 n8=>by
   obtain⟨m',hm,w8⟩:=hN ys' H8 n8;refine⟨m',hm,i+1,ys',H8,forget I8.unpinned,T.keep _ _ _ st5 λ b hb o e=>(I8.pin (b,o) (Lw _ (Lw _ (ei hb e)))).1,λ b hb=>?_,w8⟩;obtain⟨o,e,d⟩:=T.obj _ _ st5 b hb;exact(I8.pin (b,o) (Lw _ (Lw _ (ei hb e)))).2.1
  cases b with
  | false=>
   rw [Lm Lx] at q7;exact Lf ⟨rfl,again I7 q7⟩
  | true=>
   rw [Lo rfl] at q7;refine K0 (K0 (no (thn (he _ s7 (vs++σ) H7 _ I7 q7) λ y s8 ⟨y',H8,I8,ry,q8,l8,n8⟩=>?_)));exact K0 (no (thn (aY _ s8 (vs++σ) H8 (.ref D) [y'] (.ref D) [y] (λ _ H'=>N (ys++[y']) H') I8 rfl (.cons ry .nil) ⟨D,ys,y',rfl,rfl,q8,l8,n8⟩) λ _ s9 ⟨_,H9,I9,_,q9⟩=>Lf (Lf ⟨rfl,again I9 q9⟩)))
structure hJ(X:Cx)(scope:Scope)(N':List Str)(k:Nat):Prop where
 cell:∀ y∈scope.names,y.2 ≠ .cell
 kind:scope.kind=.function
 names:∀ y∈scope.names,y.2=.local->scope.names.lookup y.1=some .local
 free:∀ y∈scope.names,y.2=.free->X.env.scope.names.lookup y.1=some .cell
 len:N'.length=k+X.N.length
 sub:∀ i x,N'[k+i]? = some x->scope.names.lookup x=some .free->X.N[i]? = some x
 loc:∀ i x,N'[k+i]? = some x->scope.names.lookup x ≠ some .local
theorem hJ.cells{scope:Scope}{N':List Str}{k:Nat}{pins:List (Addr × Obj)}{σ:St}{H:Hp}{s:Shared}(c:hJ X scope N' k)(I:Inv X pins σ H s):∀ y∈scope.names,y.2=.free->∃ a,X.env.cells.lookup y.1=some a:=λ y hy e=>
 I.ok.has y.1 (.inl (c.free y hy e))
theorem xV{scope:Scope}{N':List Str}{k:Nat}{pins:List (Addr × Obj)}{σ:St}{H:Hp}{s s₄:Shared}{fp:List Addr}{m:Str->Option Value}(c:hJ X scope N' k)(hc:X.calm=true)(I:Inv X pins σ H s)
  (hf:∀ b∈fp,k9 X pins H b) (hfl:∀ b∈fp,b < s.heap.objs.size) (hb:∀ b∈fp,X.base.get? b=none) (hns:s₄.heap.Ns s.heap.objs.size m) (hk:∀ b o,s.heap.get? b=some o->s₄.heap.get? b=some o) (ho:s₄.os=s.os) (hg:s₄.gens=s.gens) :
  Inv (cCx X scope N' s.heap.objs.size s H fp (X.pn++pins)) [] (List.replicate k none++σ) H s₄:=by
 have hcl:=c.cells I
 have sub:∀ x a,(k6 X.env.cells scope.names []).lookup x=some a->X.env.cells.lookup x=some a:=λ x a e=>by
  rcases kj hcl e with q|q
  ·simp at q
  ·exact q
 have kinds:∀ x,(compEnvC scope (k6 X.env.cells scope.names []) s.heap.objs.size X.env).kindOf x=some .cell\/(compEnvC scope (k6 X.env.cells scope.names []) s.heap.objs.size X.env).kindOf x=some .free->scope.names.lookup x=some .free:=λ x hx=>by
  have e:(compEnvC scope (k6 X.env.cells scope.names []) s.heap.objs.size X.env).kindOf x=(scope.names.lookup x).map λ k=>if (k == NameKind.free && X.env.scope.kind == .function && X.env.kindOf x == some .cell) then NameKind.cell else k:=cI
  rw [e] at hx
  cases q:scope.names.lookup x with
  | none=>rw [q] at hx;simp at hx
  | some j=>
   rw [q] at hx;have hj:j ≠ .cell:=c.cell (x,j) (eo q)
   cases j<;>simp_all
 have fresh:∀ b,s.heap.objs.size<=b->s.heap.get? b=none:=λ b hb=>OJ hb;have ne:∀ b o,s.heap.get? b=some o->b ≠ s.heap.objs.size:=λ b o e=>Ll (La e)
 have cl_lt:∀ x a,X.env.cells.lookup x=some a->a < s.heap.objs.size:=λ x a e=>by
  obtain⟨v,o,h1,_⟩:=I.cell x a e;exact La h1
 refine⟨⟨I.ok.mod,c.kind,I.ok.glob,I.ok.blt,Li _,λ x y a e1 e2=>I.ok.inj x y a (sub x a e1) (sub y a e2),λ x hx=>gU hcl (kinds x hx),(λ _ _ z=>nomatch z),I.ok.hd,I.ok.frames,.inl rfl,λ b hb'=>⟨Ll (hfl b hb'),λ x a e=>(hf b hb').2.2.2.2.1 x a (sub x a e)⟩,
   I.bs,LU I.ok.bsz I.sz,(λ b o e hb'=>by rw [hb b hb'] at e;cases e),λ b hb' hz=>?_,I.stack,I.stkFree⟩,ho,by rw [hg];exact I.bare,Un.kept hk,⟨m,hns,λ i x v e1 e2 e3=>?_⟩,λ x a e=>?_,I.hok.fresh (Li _),λ x a e=>I.freeC x a (sub x a e),λ p hp=>?_,I.hok.kept hk,?_⟩
 ·rcases Lz.mp (I.stkSub b hz) with z|z
  ·exact(hf b hb').2.1 z
  ·exact(hf b hb').2.2.1 z
 ·have hi:k<=i:=by
   refine OR λ hi=>?_;rw [L3 (by simpa using hi)] at e2;simp [NZ,hi] at e2
  obtain⟨j,rfl⟩:∃ j,i=k+j:=⟨i - k,by omega⟩;rw [LP (by simp)] at e2;have e2':σ[j]? = some (some v):=by simpa using e2
  have e:(relabel scope X.env).names.lookup x=(scope.names.lookup x).map λ k=>if (k == NameKind.free && X.env.scope.kind == .function && X.env.kindOf x == some .cell) then NameKind.cell else k:=cI
  have hfree:scope.names.lookup x=some .free:=by
   cases q:scope.names.lookup x with
   | none=>
    rcases e3 with z|z|z
    all_goals (have z':(relabel scope X.env).names.lookup x=some _:=z;rw [e,q] at z';simp at z')
   | some j'=>
    have h1:j' ≠ .cell:=c.cell (x,j') (eo q);have h2:j' ≠ .local:=λ z=>c.loc j x e1 (by rw [q,z])
    rcases e3 with z|z|z
    all_goals (have z':(relabel scope X.env).names.lookup x=some _:=z;rw [e,q] at z';cases j'<;>simp_all)
  have hX:=c.sub j x e1 hfree;have hcellX:=c.free (x,.free) (eo hfree) rfl;obtain⟨m0,hn0,hl0⟩:=I.loc;obtain⟨u,r,l⟩:=hl0 j x v hX e2' (.inr (.inl hcellX));refine⟨u,r,?_⟩
  rcases l with ⟨z,_⟩|⟨_,a,ea,hz⟩
  ·have z':X.env.scope.names.lookup x=some .local:=z;rw [hcellX] at z';cases z'
  ·obtain⟨a',ea'⟩:=gU (acc:=[]) hcl hfree;have e4:=sub x a' ea';rw [ea] at e4;cases e4;refine .inr ⟨.inl ?_,a,ea',?_⟩
   ·show (relabel scope X.env).names.lookup x=some .cell
    rw [e,hfree];have k1:(X.env.scope.kind == .function)=true:=by rw [I.ok.kind];rfl
    have k2:(X.env.kindOf x == some .cell)=true:=by
     have:X.env.kindOf x=some .cell:=hcellX;rw [this];rfl
    simp [k1,k2]
   ·obtain⟨o,h1,h2⟩:=hz;exact⟨o,hk _ _ h1,h2⟩
 ·obtain⟨v,o,h1,h2⟩:=I.cell x a (sub x a e);exact⟨v,o,hk _ _ h1,h2⟩
 ·have hp':p∈X.pn++pins:=by simpa using hp
  obtain⟨e,n,nl,nf,d⟩:=I.pin p hp';refine⟨hk _ _ e,n,ne _ _ e,λ z=>?_,d⟩
  rcases Lz.mp (I.stkSub _ z) with z|z
  ·exact nl z
  ·exact nf z
 ·show (List.replicate k none++σ).length=N'.length
  rw [c.len,Ln,List.length_replicate,I.len]
theorem ju{elt iter tg:Expr}{ifs:List Expr}{scope:Scope}{pos:Pos}{g:TG}{tt:TT}{te:TE}{N':List Str}{k:Nat}{it:Addr}{J:It}{fp:List Addr}{tn:Nat->Heap->Prop}{pins:List (Addr × Obj)}{σ:St}{H:Hp}{s:Shared}{Q:VK}{RR:Value->Addr->Result->Shared->Prop}{E:Value->Shared->Prop}
  (c:hJ X scope N' k) (hc:X.calm=true) (I:Inv X pins σ H s) (T:vG X.prog X.w X.K tg J fp it tn) (st:tn 0 s.heap) (hf:∀ b∈fp,k9 X pins H b)
  (hg:∀ C s₀ H₀ ex pn,PG (cCx X scope N' C s₀ H₀ ex pn) tg g) (ht:∀ C s₀ H₀ ex pn,PTs (cCx X scope N' C s₀ H₀ ex pn) ifs tt) (he:∀ C s₀ H₀ ex pn,PE (cCx X scope N' C s₀ H₀ ex pn) elt te)
  (h:∀ D,H D=none->∃ W:Nat->Nat->List V->Hp->Prop,(∃ m,W 0 m [] (upd H D (.lst [])))/\∀ i m ys H,W i m ys H →
   (J.stop i H/\Q (.ref D) H)\/(J.go i H/\∃ N:List V->Hp->Prop,(∀ ys' H',N ys' H'->∃ m',m' < m/\W (i+1) m' ys' H') /\
    ∀ x H',J.yld i H x H'->g x (List.replicate k none++σ) H' λ σ2 H2=>(∃ vs:St,vs.length=k/\σ2=vs++σ)/\tt σ2 H2 λ b H3=>if b=true then te σ2 H3 λ y H4=>H4 D=some (.lst ys)/\ys.length < sizeLine/\N (ys++[y]) (upd H4 D (.lst (ys++[y]))) else N ys H3))
  (fin:∀ D C s' H' m,s'.heap.Ns C m->C ≠ X.env.locals->(∀ x a,X.env.cells.lookup x=some a->a ≠ C)->(H' C=none/\X.s₀.heap.objs.size<=C/\∀ p∈X.pn++pins,p.1 ≠ C)->(∀ h',Heap.SameBut C s'.heap h'->Inv X pins σ H' { s' with heap:=h' })->Q (.ref D) H'->RR (.ref D) C (.ok .next) s') :
  wpAny (model X.prog X.w) X.A (newList []) (λ acc s₃=>wpAny (model X.prog X.w) X.A (newFunctionEnv scope X.env.globals (k6 X.env.cells scope.names []) [] X.env.qual none .none (some X.env)) (λ cenv s₄=>
   codeAny (model X.prog X.w) X.A (.compStart (.ListComp elt [⟨tg,iter,ifs,0⟩] scope pos) 0 (.ref it) acc { cenv with scope:=relabel scope X.env }) (RR acc cenv.locals) s₄) E s₃) E s:=by
 refine wpAny_newObj_type (wpAny_newFunctionEnv c.cell (by intro y hy;simp at hy) (λ h₁ hns₁ hsb₁=>?_) c.kind);dsimp only at hns₁ hsb₁ ⊢;have I3:Inv X pins σ (upd H s.heap.objs.size (.lst [])) { s with heap:=s.heap.push { cls:=.type "list",data:=.seq ([]:List Value).toArray },toks:=s.toks }:=I.lnew (ys:=[]) (its:=[]) .nil (Nat.zero_le _);generalize hH2:s.heap.push { cls:=.type "list",dict:=none,data:=.seq ([]:List Value).toArray }=hp at hns₁ hsb₁ I3 ⊢;have hlt:∀ b o,s.heap.get? b=some o->hp.get? b=some o:=λ b o e=>by rw [←hH2];exact Heap.get?_push_of_some _ e
 have hnD:H s.heap.objs.size=none:=I.hok.fresh (Li _);have kp:∀ b o,hp.get? b=some o->h₁.get? b=some o:=λ b o e=>hsb₁.extBut b o (Ll (La e)) (K2 _ e)
 have stk:∀ b∈fp,s.heap.get? b ≠ none:=λ b hb z=>by
  obtain⟨o,e,_⟩:=T.obj _ _ st b hb;rw [z] at e;cases e
 have flt:∀ b∈fp,b < s.heap.objs.size:=λ b hb=>by
  obtain⟨o,e,_⟩:=T.obj _ _ st b hb;exact La e
 have fpD:∀ b∈fp,b ≠ s.heap.objs.size:=λ b hb=>Ll (flt b hb)
 have hf3:∀ b∈fp,k9 X pins (upd H s.heap.objs.size (.lst [])) b:=λ b hb=>by
  obtain⟨a1,a2⟩:=hf b hb;exact⟨by rw [af (fpD b hb)];exact a1,a2⟩
 have hnb:∀ b∈fp,X.base.get? b=none:=λ b hb=>by
  cases e:X.base.get? b with
  | none=>rfl
  | some o=>
   rcases (hf b hb).2.2.2.1 with z|z
   ·exact absurd z (I.ok.noex b o e)
   ·have:=La (I.ok.bs b o e).1;exact absurd (LA this z) (LQ _)
 have hsz:s.heap.objs.size < hp.objs.size:=by rw [←hH2,L4];exact Nf _
 have IY:=xV (s₄:={ s with heap:=h₁,toks:=s.toks+([]:List (Str × Value)).length }) (fp:=fp) c hc I3 hf3 (λ b hb=>NK (flt b hb) hsz) hnb hns₁ kp rfl rfl;obtain⟨W,⟨m0,w0⟩,turn⟩:=h s.heap.objs.size hnD
 have run:=ve (Y:=cCx X scope N' hp.objs.size { s with heap:=hp,toks:=s.toks } (upd H s.heap.objs.size (.lst [])) fp (X.pn++pins)) (tg:=tg) (elt:=elt) (iter:=iter) (ifs:=ifs) (scope:=scope) (pos:=pos) (it:=it) (D:=s.heap.objs.size) (k:=k) (σ:=σ) (Q:=Q)
  hc rfl (hg _ _ _ _ _) (ht _ _ _ _ _) (he _ _ _ _ _) T (λ H' hn b hb=>⟨hn b hb,Ll (NK (flt b hb) hsz),λ z=>(IY.ok.exfs b hb) z,.inl hb,λ x a e=>(IY.ok.exf b hb).2 x a e,λ p hp=>by
   have hp':p∈X.pn++pins:=by simpa using hp
   exact(hf b hb).2.2.2.2.2 p hp'⟩) W turn m0
 have st₁:tn 0 h₁:=T.keep _ _ _ st λ b hb o e=>kp b o (hlt b o e);have go:=run { s with heap:=h₁,toks:=s.toks+([]:List (Str × Value)).length } ⟨0,[],_,IY,st₁,λ b hb=>(hf3 b hb).1,w0⟩
 have out:∀ r s',(r=Except.ok Flow.next/\∃ H',Inv (cCx X scope N' hp.objs.size { s with heap:=hp,toks:=s.toks } (upd H s.heap.objs.size (.lst [])) fp (X.pn++pins)) [] (List.replicate k none++σ) H' s'/\Q (.ref s.heap.objs.size) H')->RR (.ref s.heap.objs.size) hp.objs.size r s':=by
  rintro r s' ⟨rfl,H',J',q⟩;obtain⟨m,hn,_⟩:=J'.loc;have hC:hp.objs.size ≠ X.env.locals:=LS (LA I.lt (Nu hsz));refine fin _ _ s' H' m hn hC (λ x a e=>?_) ⟨J'.free,LU I.sz (Nu hsz),λ p hp'=>Ll (NK (La (I.pin p hp').1) hsz)⟩ (λ h' hs'=>?_) q
  ·obtain⟨v,o,h1,_⟩:=I.cell x a e;exact Ll (NK (La h1) hsz)
  ·refine I.call' (ch:=fp) ?_ ?_ ?_ J'.bare λ b hb=>⟨(hf b hb).2.2.2.1,(hf b hb).2.1,(hf b hb).2.2.2.2.1,(hf b hb).2.2.2.2.2⟩
   ·exact J'.os
   ·have u1:Un (frs X.stack) fp H (upd H s.heap.objs.size (.lst [])) s.heap hp:=Un.laid hlt (Li _) hnD;exact(u1.trans J'.base).but hs' λ b o e=>Ll (NK (La e) hsz)
   ·exact J'.hok.but J'.free hs'
 exact codeAny_compStart_list (ND go out) (T.self _ 0 _ _ _ st₁ (ND go out))
theorem A7{elt iter tg:Expr}{ifs:List Expr}{scope:Scope}{pos:Pos}{wi:TI}{g:TG}{tt:TT}{te:TE}{N':List Str}{k:Nat}
  (c:hJ X scope N' k) (hc:X.calm=true) (hi:PI X tg iter wi)
  (hg:∀ C s₀ H₀ ex pn,PG (cCx X scope N' C s₀ H₀ ex pn) tg g) (ht:∀ C s₀ H₀ ex pn,PTs (cCx X scope N' C s₀ H₀ ex pn) ifs tt) (he:∀ C s₀ H₀ ex pn,PE (cCx X scope N' C s₀ H₀ ex pn) elt te)
  (hs:∀ x,foldedSetIterable iter X.env x=pure x:=by intro _;rfl):PE X (.ListComp elt [⟨tg,iter,ifs,0⟩] scope pos) (zG k wi g tt te):=by
 intro pins s σ H Q I h;rw [PySem.eval_ListComp];refine OM (use:=none) rfl hs (fO (c.cells I)) c.kind c.names (thn (hi pins s σ H _ I h) λ v s1 h1=>thn h1 λ itv s2 h2=>?_);obtain⟨it,fp,tn,J,H2,rfl,I2,T,st2,f2,hW⟩:=h2;refine ju (RR:=λ acc C=>PySem.compPost (model X.prog X.w) X.A X.xe none (EP X pins σ Q) acc C) c hc I2 T st2 f2 hg ht he hW ?_;intro D C s' H' m hn _ _ _ hI q;exact⟨m,hn,λ h' hs'=>⟨.ref D,H',hI h' hs',rfl,q⟩⟩
def Ds(i:Nat)(te:TE):TS:=λ D σ H=>te σ H λ x H1=>D.nx (σ.set i (some x)) H1
theorem sE{elt iter tg:Expr}{ifs:List Expr}{scope:Scope}{pos spos py:Pos}{wi:TI}{g:TG}{tt:TT}{te:TE}{N':List Str}{k i:Nat}{y:Str}
  (hN:X.N.Nodup) (hi':X.N[i]? = some y) (hy:Loc X.env.scope y)
  (c:hJ X scope N' k) (hc:X.calm=true) (hi:PI X tg iter wi)
  (hg:∀ C s₀ H₀ ex pn,PG (cCx X scope N' C s₀ H₀ ex pn) tg g) (ht:∀ C s₀ H₀ ex pn,PTs (cCx X scope N' C s₀ H₀ ex pn) ifs tt) (he:∀ C s₀ H₀ ex pn,PE (cCx X scope N' C s₀ H₀ ex pn) elt te)
  (hsw:swapsWith (.ListComp elt [⟨tg,iter,ifs,0⟩] scope pos) (some (.Name y py)) spos.line X.env=pure true:=by rfl)
  (hs:∀ x,foldedSetIterable iter X.env x=pure x:=by intro _;rfl) (hf:X.fn y=true\/X.env.scope.names.lookup y=some .local:=by first|exact .inl rfl|exact .inr rfl|assumption) :
  PS X (.Assign [.Name y py] (.ListComp elt [⟨tg,iter,ifs,0⟩] scope pos) spos) (Ds i (zG k wi g tt te)):=by
 intro pins s σ H D I h;rw [PySem.exec_Assign_Name_used _ _ _ _ hsw];refine K0 (OT (K0 ?_))
 show wpAny _ X.A (do let _ ←comprehension (.ListComp elt [⟨tg,iter,ifs,0⟩] scope pos) scope X.env _ (newList []) false (eval iter X.env) (some (assign (.Name y py) X.env))) _ _ s
 refine K0 (thn (OM (use:=some (assign (.Name y py) X.env)) (Q:=λ _ s'=>SP X pins D .next s') rfl hs (fO (c.cells I)) c.kind c.names (thn (hi pins s σ H _ I h) λ v s1 h1=>thn h1 λ itv s2 h2=>?_)) λ _ s' hq=>Lf (Lf hq));obtain⟨it,fp,tn,J,H2,rfl,I2,T,st2,f2,hW⟩:=h2;refine ju (Q:=λ x H1=>D.nx (σ.set i (some x)) H1) (RR:=λ acc C=>PySem.compPost (model X.prog X.w) X.A X.xe (some (assign (.Name y py) X.env)) (λ _ s'=>SP X pins D .next s') acc C) c hc I2 T st2 f2 hg ht he hW ?_;intro D' C s' H' m hn hCl hCc hCo hI q
 show wpAny _ X.A (assign (.Name y py) X.env (.ref D')) _ _ s'
 have I':Inv X pins σ H' s':=hI s'.heap (Heap.SameBut.refl _ _);refine wpAny_assign_Name (lO I' hN hi' hy (show aU (.ref D') (.ref D') from rfl) (λ s'' I'' ⟨a,sb,ha⟩=>?_) hf)
 have hCa:C ≠ a:=by
  rcases ha with rfl|ha
  ·exact hCl
  ·exact λ z=>hCc _ _ ha z.symm
 refine⟨m,hn.sameBut sb hCa,λ h' hs'=>⟨_,H',?_,q⟩⟩;exact I''.turned (t':=s''.toks) (λ b o hb e=>(hs'.2 b hb).trans e) hCo.1 hCl (.inr hCo.2.1) hCc hCo.2.2
end
section
variable {M:Model}{A:Around}{E:Value->Shared->Prop}{s:Shared}
end
section
variable {X:Cx}
set_option genInjectivity false in
def Ez(K:W.Frag)(C:Addr)(z:Option Value)(bmB:List Value)(newId:String):Bool:=match K.lookup C with
 | some ⟨.type "type",_,.cls dat,slt⟩=>(match dat.mro,slt.toList with
  | .ref C'::up,[_,_,_,_,some (.builtin n),_]=>C' == C && n == newId && !dat.hasDel && W.tailIn K bmB up && W.nsOkIn K dat.ns && W.nsIn K dat.ns "__init__" == some z
  | _,_=>false)
 | _=>false
end
structure Hh(K:W.Frag)(x qual:Str)(st:Stmt)(f:Addr)(fd:FuncData):Prop where
 ex:∃ (oc:Value) (od:Option Addr) (dV kV doc pm:Value) (an:Option Addr) (cdv ct:Value) (osl:Array (Option Value)),
  fd=W.fnOf x qual (cF st) (bW st) (ae st) dV kV doc pm an cdv ct/\K.lookup f=some ⟨oc,od,.func fd,osl⟩/\W.codeIn K cdv qual=true
 kp:W.keepIn K (.ref f)=true
section
variable {P:Program}{w:World}{K:PySem.W.Frag}{mg:Str->Option Value}{base:Heap}
theorem Hh.ok{CX:CXT}{x qual:Str}{st:Stmt}{f:Addr}{fd:FuncData}{N ps:List Str}{k:Nat}{sp:Sp}(F:Hh K x qual st f fd)(S:ah N ps (ae st))(len:∀ vs H Q E,sp vs H Q E->vs.length=ps.length)
  (hbody:∀ (cdv:Value) (A:Around) (outer:List Env) (s:Shared) (H:Hp) (vs:List V) (Q:VK) (E:XK),fA k (A.deeper (envOfC qual (ae st) s.heap.objs.size f cdv))->sp vs H Q E →
   ∃ t,PSs (yp CX P w K mg base N qual (ae st) f cdv A outer s H E) (bW st) t/\t { nx:=λ _ H'=>Q .non H',rt:=Q } (start N vs) H):bj P w K mg base CX (k+1) f fd ps sp:=by
 obtain⟨oc,od,dV,kV,doc,pm,an,cdv,ct,osl,rfl,lk,hcd⟩:=F.ex;exact Ea lk hcd S len λ A outer s H vs Q E hr hsp=>hbody cdv A outer s H vs Q E hr hsp
theorem CG{x qual:Str}{st:Stmt}{f:Addr}{oc:Value}{od an:Option Addr}{osl:Array (Option Value)}{dV kV doc pm cdv ct:Value}(l:K.lookup f=some ⟨oc,od,.func (W.fnOf x qual (cF st) (bW st) (ae st) dV kV doc pm an cdv ct),osl⟩)
  (c:W.codeIn K cdv qual=true) (k:W.keepIn K (.ref f)=true):Hh K x qual st f (W.fnOf x qual (cF st) (bW st) (ae st) dV kV doc pm an cdv ct):=⟨⟨oc,od,dV,kV,doc,pm,an,cdv,ct,osl,rfl,l,c⟩,k⟩
end
open PySem.W
section
variable {prog:Program}{w:World}{A:Around}{E:Value->Shared->Prop}{s:Shared}{K:PySem.W.Frag}{x C:Addr}{ox:Obj}{od:Option Obj}{name:Str}
end
structure rE(X:Cx)(pins:List (Addr × Obj))(e:Addr):Prop where
 s0:X.s₀.heap.get? e=none
 loc:e ≠ X.env.locals
 cel:∀ x c,X.env.cells.lookup x=some c->c ≠ e
 fs:e ∉ X.fs
 pin:∀ p∈X.pn++pins,p.1 ≠ e
section
variable {X:Cx}
end
def yO(K:Frag)(C fI:Addr)(bmB:List Value)(newId:String):Bool:=Ez K C (some (.ref fI)) bmB newId
section
variable {prog:Program}{w:World}{A:Around}{R:Result->Shared->Prop}{h:Heap}{g:Array GenState}{d:Drawn}{t:Nat}{os:OsState}{K:Frag}
variable {nm q:Str}{C N fI:Addr}{bs bm bmB:List Value}{hdct:Bool}{sn:List Str}{sub:List Value}{ab:Bool}{col:Option Bool}{dd:Option Addr}{k0 k1 k2 k3 k5:Option Value}{B Bn newId nid initId inN:String}{bmN:List Value}
end
def pD:List Value->List Value
 | .ref _::r=>pD r
 | l=>l
def Bg(l:List Value):Bool:=pD l == [.type "ValueError",.type "Exception",.type "BaseException",.type "object"]
def sW(K:Frag)(C:Addr):Bool:=(clsIn K C).any λ cd=>Bg cd.mro && cd.mro.contains (.type "object")
structure G2(K:Frag)(C:Addr):Prop where
 ov:sW K C=true
 sa:findIn K (.ref C) "__setattr__"=some (some (.builtin "object.__setattr__"))
 hd:hasDictIn K C=true
section
variable {prog:Program}{w:World}{A:Around}{E:Value->Shared->Prop}{K:Frag}{x C:Addr}{s:Shared}{name:Str}{v:Value}
end
section
variable {prog:Program}{w:World}{A:Around}{E:Value->Shared->Prop}{s:Shared}{K:PySem.W.Frag}{x C dx:Addr}{ox:Obj}{od:Option Obj}{name:Str}{mA:Str->Option Value}{u:Value}
end
section
variable {prog:Program}{w:World}{A:Around}{E:Value->Shared->Prop}{h:Heap}{g:Array GenState}{d:Drawn}{t:Nat}{os:OsState}{e a0:Addr}{dct:Option Addr}
variable {nm q:Str}{C N:Addr}{bs bm bmB:List Value}{hdct:Bool}{sn:List Str}{sub:List Value}{ab:Bool}{col:Option Bool}{dd:Option Addr}{k0 k1 k2 k3 k5:Option Value}{B newId nid initId:String}
end
structure KU(K:W.Frag)(C fI:Addr):Prop where
 ex:yO K C fI [.type "ValueError",.type "Exception",.type "BaseException",.type "object"] "ValueError.__new__"=true
 fn:typeIn K (.ref fI)=some (.type "function")
 st:G2 K C
section
variable {X:Cx}{pins:List (Addr × Obj)}{σ:St}{H:Hp}{s:Shared}
theorem Inv.adopt{a:Addr}{o:HO}(I:Inv X pins σ H s)(N:rE X pins a)(hn:H a=none)(new:aM X.prog X.w (upd H a o) s.heap a o):Inv X pins σ (upd H a o) s:=by
 have ne:∀ {b:Addr} {u:HO},H b=some u->b ≠ a:=λ q z=>by rw [z,hn] at q;cases q
 refine⟨I.ok,I.os,I.bare,⟨I.base.keep,I.base.slot,λ b u q n hx=>?_,I.base.there,λ b xs q=>?_,λ b u v q=>?_,λ b ps q=>?_⟩,I.loc,I.cell,?_,λ x c q=>?_,λ p hp=>?_,λ b u q=>?_,I.len⟩
 ·rw [af (λ z=>by rw [z,N.s0] at q;cases q)];exact I.base.free b u q n hx
 ·have z:=I.base.tups b xs q;rw [af (ne z)];exact z
 ·have z:=I.base.frzs b u v q;rw [af (ne z)];exact z
 ·obtain⟨m,z⟩:=I.base.tbls b ps q;exact⟨m,by rw [af (ne z)];exact z⟩
 ·rw [af (Lv N.loc)];exact I.free
 ·rw [af (N.cel x c q)];exact I.freeC x c q
 ·obtain⟨a1,b1,c1,d1,f1⟩:=I.pin p hp;exact⟨a1,by rw [af (N.pin p hp)];exact b1,c1,d1,f1⟩
 ·by_cases hb:b=a
  ·subst hb;rw [ag] at q;cases q;exact new
  ·rw [af hb] at q;exact(I.hok b u q).stay (λ _ _ _ r=>r) (λ c r=>by rw [af (ne r)];exact r) λ c xs r=>by rw [af (ne r)];exact r
theorem Inv.newAt{a:Addr}(I:Inv X pins σ H s)(ha:s.heap.objs.size<=a):rE X pins a where
 s0:=OJ (LU I.sz ha)
 loc:=LS (LA I.lt ha)
 cel:=λ x c e z=>by
  obtain⟨v,o,q,_⟩:=I.cell x c e;exact absurd (LA (La q) (by rw [z];exact ha)) (LQ _)
 fs:=I.nofs ha
 pin:=λ p hp z=>absurd (LA (La (I.pin p hp).1) (by rw [z];exact ha)) (LQ _)
structure JC(K:W.Frag)(B:Addr):Prop where
 sp:specialIn K (.ref B) "__getattribute__"=some (some (.builtin "type.__getattribute__"))
 rd:readsIn K B (.type "type")=true
 fc:findCls K (.ref B) (.type "type") "__init__"=some (.val (.builtin "ValueError.__init__"))
end
section
variable {X:Cx}{e o value:Expr}{ta tv:TE}{f:Str}{pos pos':Pos}
end
def del(H:Hp)(e:Addr):Hp:=λ b=>if b=e then none else H b
section
variable {X:Cx}
end
theorem CF{a:Option V}{v:V}{σ:St}{H:Hp}{Q:St->Hp->Prop}:fS 0 v (a::σ) H Q=Q (some v::σ) H:=rfl
theorem CD{a0:Option V}{a:Option V}{v:V}{σ:St}{H:Hp}{Q:St->Hp->Prop}:fS 1 v (a0::a::σ) H Q=Q (a0::some v::σ) H:=rfl
theorem CC{a0 a1:Option V}{a:Option V}{v:V}{σ:St}{H:Hp}{Q:St->Hp->Prop}:fS 2 v (a0::a1::a::σ) H Q=Q (a0::a1::some v::σ) H:=rfl
theorem CB{a0 a1 a2:Option V}{a:Option V}{v:V}{σ:St}{H:Hp}{Q:St->Hp->Prop}:fS 3 v (a0::a1::a2::a::σ) H Q=Q (a0::a1::a2::some v::σ) H:=rfl
theorem CA{a0 a1 a2 a3:Option V}{a:Option V}{v:V}{σ:St}{H:Hp}{Q:St->Hp->Prop}:fS 4 v (a0::a1::a2::a3::a::σ) H Q=Q (a0::a1::a2::a3::some v::σ) H:=rfl
theorem Cz{a0 a1 a2 a3 a4:Option V}{a:Option V}{v:V}{σ:St}{H:Hp}{Q:St->Hp->Prop}:fS 5 v (a0::a1::a2::a3::a4::a::σ) H Q=Q (a0::a1::a2::a3::a4::some v::σ) H:=rfl
theorem Cy{a0 a1 a2 a3 a4 a5:Option V}{a:Option V}{v:V}{σ:St}{H:Hp}{Q:St->Hp->Prop}:fS 6 v (a0::a1::a2::a3::a4::a5::a::σ) H Q=Q (a0::a1::a2::a3::a4::a5::some v::σ) H:=rfl
theorem Cw{a0 a1 a2 a3 a4 a5 a6:Option V}{a:Option V}{v:V}{σ:St}{H:Hp}{Q:St->Hp->Prop}:fS 7 v (a0::a1::a2::a3::a4::a5::a6::a::σ) H Q=Q (a0::a1::a2::a3::a4::a5::a6::some v::σ) H:=rfl
theorem Cv{a0 a1 a2 a3 a4 a5 a6 a7:Option V}{a:Option V}{v:V}{σ:St}{H:Hp}{Q:St->Hp->Prop}:fS 8 v (a0::a1::a2::a3::a4::a5::a6::a7::a::σ) H Q=Q (a0::a1::a2::a3::a4::a5::a6::a7::some v::σ) H:=rfl
def aI{α:Type}:Option α->(α->Prop)->Prop
 | some x,k=>k x
 | none,_=>False
theorem iu{α:Type}(x:α)(k:α->Prop):aI (some x) k=k x:=rfl
theorem ai{α:Type}{o:Option α}{k:α->Prop}(h:aI o k):∃ x,o=some x/\k x:=by
 cases o with
 | none=>exact h.elim
 | some x=>exact⟨x,rfl,h⟩
def G4:HO->Option (List V)
 | .lst xs=>some xs
 | .tup xs=>some xs
 | .frz _ (.lst xs)=>some xs
 | _=>none
def HN:HO->Option (List V)
 | .lst xs=>some xs
 | _=>none
def Hl:HO->Option (List V)
 | .tup xs=>some xs
 | _=>none
def cE(H:Hp)(p:Addr):Option (List V):=(H p).bind G4
def ay(H:Hp)(p:Addr):Option (List V):=(H p).bind HN
def rj(H:Hp)(p:Addr):Option (List V):=(H p).bind Hl
theorem wA(xs:List V):G4 (.lst xs)=some xs:=rfl
theorem wz(xs:List V):G4 (.tup xs)=some xs:=rfl
theorem xv(xs:List V):HN (.lst xs)=some xs:=rfl
theorem wt(xs:List V):Hl (.tup xs)=some xs:=rfl
theorem qT{α β:Type}(x:α)(f:α->Option β):(some x).bind f=f x:=rfl
abbrev Ext(H H':Hp):Prop:=(∀ a,(H a).isSome=true->H' a=H a)/\∀ (K:PySem.W.Frag) a xs,SqL K H a xs->SqL K H' a xs
def G9(r:R2)(x:V)(Q:VK):VK:=λ y H=>r x y H Q
theorem Fq(r:R2)(x y:V)(H:Hp)(Q:VK):(G9 r x Q y H)=(r x y H Q):=rfl
def kOp(r:R2)(tb:TE)(σ:St)(Q:VK):VK:=λ x H=>tb σ H (G9 r x Q)
theorem Jh(r:R2)(tb:TE)(σ:St)(Q:VK)(x:V)(H:Hp):(kOp r tb σ Q x H)=(tb σ H (G9 r x Q)):=rfl
theorem IP(r:R2)(ta tb:TE)(σ:St)(H:Hp)(Q:VK):(tOp r ta tb σ H Q)=(ta σ H (kOp r tb σ Q)):=rfl
theorem Kz(v:V)(σ:St)(H:Hp)(Q:VK):(tC v σ H Q)=(Q v H):=rfl
def kUn(r:V->Hp->VK->Prop)(Q:VK):VK:=λ x H=>r x H Q
theorem Jb(r:V->Hp->VK->Prop)(Q:VK)(x:V)(H:Hp):(kUn r Q x H)=(r x H Q):=rfl
theorem IK(r:V->Hp->VK->Prop)(ta:TE)(σ:St)(H:Hp)(Q:VK):(tUn r ta σ H Q)=(ta σ H (kUn r Q)):=rfl
def JM:R2:=λ x y H Q=>y=.non/\Q (.bl (decide (x=.non))) H
def DE:R2:=λ x y H Q=>y=.non/\Q (.bl (!decide (x=.non))) H
theorem qr(H:Hp)(Q:VK):JM (.non) .non H Q=Q (.bl true) H:=propext ⟨λ h=>h.2,λ h=>⟨rfl,h⟩⟩
theorem og(H:Hp)(Q:VK):DE (.non) .non H Q=Q (.bl false) H:=propext ⟨λ h=>h.2,λ h=>⟨rfl,h⟩⟩
def DS(Q:Bool->Hp->Prop):VK:=λ x H=>∃ k,x=.bl k/\Q k H
def JY(Q:Bool->Hp->Prop):Bool->Hp->Prop:=λ c H=>Q (!c) H
theorem Fs(Q:Bool->Hp->Prop)(c:Bool)(H:Hp):(JY Q c H)=(Q (!c) H):=rfl
theorem EY(t:TT)(σ:St)(H:Hp)(Q:Bool->Hp->Prop):(JH t σ H Q)=(t σ H (JY Q)):=rfl
def J9(u:TT)(σ:St)(Q:Bool->Hp->Prop):Bool->Hp->Prop:=λ c H=>if c=true then u σ H Q else Q false H
theorem FT(u:TT)(σ:St)(Q:Bool->Hp->Prop)(c:Bool)(H:Hp):(J9 u σ Q c H)=(if c=true then u σ H Q else Q false H):=rfl
theorem E5(t u:TT)(σ:St)(H:Hp)(Q:Bool->Hp->Prop):(Hn t u σ H Q)=(t σ H (J9 u σ Q)):=rfl
def kOr(u:TT)(σ:St)(Q:Bool->Hp->Prop):Bool->Hp->Prop:=λ c H=>if c=true then Q true H else u σ H Q
theorem Jg(u:TT)(σ:St)(Q:Bool->Hp->Prop)(c:Bool)(H:Hp):(kOr u σ Q c H)=(if c=true then Q true H else u σ H Q):=rfl
theorem IM(t u:TT)(σ:St)(H:Hp)(Q:Bool->Hp->Prop):(tOr t u σ H Q)=(t σ H (kOr u σ Q)):=rfl
def Jv(tb:TE)(σ:St)(Q:VK):VK:=λ x H=>∃ c,x=.bl c/\if c=true then tb σ H Q else Q (.bl false) H
def Jr(Q:VK):VK:=λ x H=>∃ c,x=.bl c/\Q (.bl (!c)) H
def JZ(ta tb:TE)(σ:St)(Q:VK):Bool->Hp->Prop:=λ c H=>if c=true then ta σ H Q else tb σ H Q
theorem Fz(ta tb:TE)(σ:St)(Q:VK)(c:Bool)(H:Hp):(JZ ta tb σ Q c H)=(if c=true then ta σ H Q else tb σ H Q):=rfl
theorem IS(t:TT)(ta tb:TE)(σ:St)(H:Hp)(Q:VK):(tIf t ta tb σ H Q)=(t σ H (JZ ta tb σ Q)):=rfl
def Hg(r':R2)(y:V)(Q:VK):VK:=λ w H=>r' y w H Q
theorem FJ(r':R2)(y w:V)(Q:VK)(H:Hp):(Hg r' y Q w H)=(r' y w H Q):=rfl
def Ij(r':R2)(tc:TE)(σ:St)(y:V)(Q:VK):VK:=λ z H=>∃ k,z=.bl k/\(if k=true then tc σ H (Hg r' y Q) else Q (.bl false) H)
def J5(r r':R2)(tc:TE)(σ:St)(x:V)(Q:VK):VK:=λ y H=>r x y H (Ij r' tc σ y Q)
def KN(r r':R2)(tb tc:TE)(σ:St)(Q:VK):VK:=λ x H=>tb σ H (J5 r r' tc σ x Q)
theorem EZ(σ:St)(H:Hp)(Q:List V->Hp->Prop):(Df σ H Q)=(Q [] H):=rfl
def sm(x:V)(Q:List V->Hp->Prop):List V->Hp->Prop:=λ xs H=>Q (x::xs) H
theorem xr(x:V)(Q:List V->Hp->Prop)(xs:List V)(H:Hp):(sm x Q xs H)=(Q (x::xs) H):=rfl
def DY(tr:TA)(σ:St)(Q:List V->Hp->Prop):VK:=λ x H=>tr σ H (sm x Q)
theorem B4(tr:TA)(σ:St)(Q:List V->Hp->Prop)(x:V)(H:Hp):(DY tr σ Q x H)=(tr σ H (sm x Q)):=rfl
theorem Br(ta:TE)(tr:TA)(σ:St)(H:Hp)(Q:List V->Hp->Prop):(rm ta tr σ H Q)=(ta σ H (DY tr σ Q)):=rfl
def vR(sp:Sp)(dvs:List V)(E:XK)(Q:VK):List V->Hp->Prop:=λ vs H=>sp (vs++dvs) H Q E
theorem uM(v0:V)(sp:Sp)(dvs:List V)(E:XK)(Q:VK)(H:Hp):vR sp dvs E Q [v0] H=sp (v0::dvs) H Q E:=rfl
theorem uL(v0 v1:V)(sp:Sp)(dvs:List V)(E:XK)(Q:VK)(H:Hp):vR sp dvs E Q [v0,v1] H=sp (v0::v1::dvs) H Q E:=rfl
theorem uK(v0 v1 v2:V)(sp:Sp)(dvs:List V)(E:XK)(Q:VK)(H:Hp):vR sp dvs E Q [v0,v1,v2] H=sp (v0::v1::v2::dvs) H Q E:=rfl
theorem Bt(sp:Sp)(dvs:List V)(E:XK)(t:TA)(σ:St)(H:Hp)(Q:VK):(Dy sp dvs E t σ H Q)=(t σ H (vR sp dvs E Q)):=rfl
def kCB(r:List V->Hp->VK->Prop)(Q:VK):List V->Hp->Prop:=λ vs H=>r vs H Q
theorem Jm(r:List V->Hp->VK->Prop)(Q:VK)(vs:List V)(H:Hp):(kCB r Q vs H)=(r vs H Q):=rfl
theorem IT(r:List V->Hp->VK->Prop)(t:TA)(σ:St)(H:Hp)(Q:VK):(tCB r t σ H Q)=(t σ H (kCB r Q)):=rfl
theorem Bo(nx:St->Hp->Prop)(rt:VK)(bk ct:St->Hp->Prop)(σ:St)(H:Hp):(Dv ⟨nx,rt,bk,ct⟩ σ H)=(nx σ H):=rfl
theorem EW(t u:TS)(nx:St->Hp->Prop)(rt:VK)(bk ct:St->Hp->Prop)(σ:St)(H:Hp):(JF t u ⟨nx,rt,bk,ct⟩ σ H)=(t ⟨u ⟨nx,rt,bk,ct⟩,rt,bk,ct⟩ σ H):=rfl
theorem EX(te:TE)(nx:St->Hp->Prop)(rt:VK)(bk ct:St->Hp->Prop)(σ:St)(H:Hp):(JG te ⟨nx,rt,bk,ct⟩ σ H)=(te σ H rt):=rfl
def DX(nx:St->Hp->Prop)(σ:St):VK:=λ x H=>nx σ H
theorem B3(nx:St->Hp->Prop)(σ:St)(x:V)(H:Hp):(DX nx σ x H)=(nx σ H):=rfl
theorem Bp(te:TE)(nx:St->Hp->Prop)(rt:VK)(bk ct:St->Hp->Prop)(σ:St)(H:Hp):(Dw te ⟨nx,rt,bk,ct⟩ σ H)=(te σ H (DX nx σ)):=rfl
def HY(t u:TS)(D:m7)(σ:St):Bool->Hp->Prop:=λ b H=>if b=true then t D σ H else u D σ H
theorem Fy(t u:TS)(D:m7)(σ:St)(b:Bool)(H:Hp):(HY t u D σ b H)=(if b=true then t D σ H else u D σ H):=rfl
theorem jb(c:TT)(t u:TS)(D:m7)(σ:St)(H:Hp):(Dg c t u D σ H)=(c σ H (HY t u D σ)):=rfl
def J7(g:TG)(σ:St)(nx:St->Hp->Prop):VK:=λ x H=>g x σ H nx
theorem FQ(g:TG)(σ:St)(nx:St->Hp->Prop)(x:V)(H:Hp):(J7 g σ nx x H)=(g x σ H nx):=rfl
theorem E4(te:TE)(g:TG)(nx:St->Hp->Prop)(rt:VK)(bk ct:St->Hp->Prop)(σ:St)(H:Hp):(Hm te g ⟨nx,rt,bk,ct⟩ σ H)=(te σ H (J7 g σ nx)):=rfl
def kGs(u:TGs)(r:List V)(Q:St->Hp->Prop):St->Hp->Prop:=λ σ' H'=>u r σ' H' Q
theorem Jk(u:TGs)(r:List V)(Q:St->Hp->Prop)(σ:St)(H:Hp):(kGs u r Q σ H)=(u r σ H Q):=rfl
section
variable {X:Cx}
theorem OpR.mono{f:Value->Value->Sem Value}{r r':R2}(h:OpR X f r)(m:∀ x y H Q,r' x y H Q->r x y H Q):OpR X f r':=λ pins s σ H x y v u Q I rx ry hq=>h pins s σ H x y v u Q I rx ry (m _ _ _ _ hq)
theorem bG.mono{f:Value}{r r':List V->Hp->VK->Prop}(h:bG X f r)(m:∀ xs H Q,r' xs H Q->r xs H Q):bG X f r':=λ pins s σ H xs us Q I rx hq=>h pins s σ H xs us Q I rx (m _ _ _ hq)
theorem IxR.mono{r r':R2}(h:IxR X r)(m:∀ x y H Q,r' x y H Q->r x y H Q):IxR X r':=λ a b pins s σ H x y v u Q I rx ry hq=>h a b pins s σ H x y v u Q I rx ry (m _ _ _ _ hq)
theorem SlR.mono{r r':V->Option Int->Option Int->Hp->VK->Prop}(h:SlR X r)(m:∀ x lo hi H Q,r' x lo hi H Q->r x lo hi H Q):SlR X r':=λ pins s σ H x v vl vu lo hi sl Q I rx a b c hq=>h pins s σ H x v vl vu lo hi sl Q I rx a b c (m _ _ _ _ _ hq)
theorem PG.mono{tg:Expr}{g g':TG}(h:PG X tg g)(m:∀ v σ H Q,g' v σ H Q->g v σ H Q):PG X tg g':=λ pins s σ H v u Q I r hq=>h pins s σ H v u Q I r (m _ _ _ _ hq)
theorem iA{K:W.Frag}{H:Hp}{p:Addr}{ys:List V}(h:cE H p=some ys):SqL K H p ys\/SqT K H p ys:=by
 unfold cE at h
 cases e:H p with
 | none=>rw [e] at h;cases h
 | some o=>
  rw [e] at h;have h':G4 o=some ys:=h
  cases o with
  | lst xs=>cases h';exact .inl (SqL.of e)
  | tup xs=>cases h';exact .inr (SqT.of e)
  | frz ob u=>
   cases u with
   | lst xs=>cases h';exact .inl (.inl (.inr ⟨ob,e⟩))
   | _=>cases h'
  | _=>cases h'
theorem bB{H:Hp}{p:Addr}{ys:List V}(h:ay H p=some ys):H p=some (.lst ys):=by
 unfold ay at h
 cases e:H p with
 | none=>rw [e] at h;cases h
 | some o=>
  rw [e] at h;have h':HN o=some ys:=h
  cases o with
  | lst xs=>cases h';rfl
  | _=>cases h'
theorem Ei{H:Hp}{p:Addr}{ys:List V}(h:rj H p=some ys):H p=some (.tup ys):=by
 unfold rj at h
 cases e:H p with
 | none=>rw [e] at h;cases h
 | some o=>
  rw [e] at h;have h':Hl o=some ys:=h
  cases o with
  | tup xs=>cases h';rfl
  | _=>cases h'
def HW(H:Hp)(Q:VK):List V->Prop:=λ ys=>Q (.int ys.length) H
theorem Fv(H:Hp)(Q:VK)(ys:List V):HW H Q ys=Q (.int ys.length) H:=rfl
def Dk(xs:List V)(H:Hp)(Q:VK):Prop:=match xs with
 | [.ref p]=>aI (cE H p) (HW H Q)
 | [.str z]=>z.length<=sizeLine/\Q (.int z.length) H
 | _=>False
theorem Fd(p:Addr)(H:Hp)(Q:VK):Dk [.ref p] H Q=aI (cE H p) (HW H Q):=rfl
theorem aK:bG X (.builtin "len") Dk:=by
 refine(cy.or mT).mono λ xs H Q h=>?_;unfold Dk at h;split at h
 ·rename_i p;obtain⟨ys,e,q⟩:=ai h;exact .inl ⟨p,ys,rfl,iA e,q⟩
 ·rename_i z;exact .inr ⟨z,rfl,h.1,h.2⟩
 ·exact h.elim
def HX(H:Hp)(Q:VK):V->Prop:=λ v=>Q v H
theorem Fx(H:Hp)(Q:VK)(v:V):HX H Q v=Q v H:=rfl
def kIx(i:Int)(H:Hp)(Q:VK):List V->Prop:=λ ys=>aI (atI ys i) (HX H Q)
theorem Jj(i:Int)(H:Hp)(Q:VK)(ys:List V):kIx i H Q ys=aI (atI ys i) (HX H Q):=rfl
def qIx:R2:=λ x y H Q=>match x,y with
 | .ref p,.int i=>aI (cE H p) (kIx i H Q)
 | _,_=>False
theorem IV(p:Addr)(i:Int)(H:Hp)(Q:VK):qIx (.ref p) (.int i) H Q=aI (cE H p) (kIx i H Q):=rfl
theorem gm:IxR X qIx:=by
 refine(nO.or GF).mono λ x y H Q h=>?_;unfold qIx at h;split at h
 ·rename_i p i;obtain⟨ys,e,q⟩:=ai h;obtain⟨v,e2,q2⟩:=ai q
  rcases iA (K:=X.K) e with z|z
  ·exact .inl ⟨p,ys,i,v,rfl,rfl,z,e2,q2⟩
  ·exact .inr ⟨p,ys,i,v,rfl,rfl,z,e2,q2⟩
 ·exact h.elim
theorem Jz{α:Type}(a:α)(xs:List α):atI (a::xs) 0=some a:=eV (j:=0) rfl
theorem Jy{α:Type}(a b:α)(xs:List α):atI (a::b::xs) 1=some b:=eV (j:=1) rfl
def Js(H:Hp)(Q:VK):List V->Prop:=λ ys=>∀ l,H l=none->Q (.ref l) (upd H l (.lst ys))
def DI(xs:List V)(H:Hp)(Q:VK):Prop:=match xs with
 | [.ref p]=>aI (cE H p) (Js H Q)
 | _=>False
theorem qN:bG X (.type "list") DI:=by
 refine mS.mono λ xs H Q h=>?_;unfold DI at h;split at h
 ·rename_i p;obtain⟨ys,e,q⟩:=ai h;exact⟨p,ys,rfl,iA e,q⟩
 ·exact h.elim
def HI(xs:List V)(H:Hp)(Q:VK):Prop:=match xs with
 | [.int i,.int j]=>Q (.int (if i < j then j else i)) H
 | _=>False
theorem Fb(i j:Int)(H:Hp)(Q:VK):HI [.int i,.int j] H Q=Q (.int (if i < j then j else i)) H:=rfl
theorem mx(hc:X.calm=true):bG X (.builtin "max") HI:=by
 refine(vk hc).mono λ xs H Q h=>?_;unfold HI at h;split at h
 ·rename_i i j;exact⟨i,j,rfl,h⟩
 ·exact h.elim
def HH(xs:List V)(H:Hp)(Q:VK):Prop:=match xs with
 | [.int i,.int j]=>Q (.int (if j < i then j else i)) H
 | _=>False
theorem E9(i j:Int)(H:Hp)(Q:VK):HH [.int i,.int j] H Q=Q (.int (if j < i then j else i)) H:=rfl
theorem mw(hc:X.calm=true):bG X (.builtin "min") HH:=by
 refine(vh hc).mono λ xs H Q h=>?_;unfold HH at h;split at h
 ·rename_i i j;exact⟨i,j,rfl,h⟩
 ·exact h.elim
def tyO:HO->Option String
 | .lst _=>some "list"
 | .tup _=>some "tuple"
 | .frz _ (.lst _)=>some "list"
 | .dK _=>some "dict"
 | .dT _=>some "dict"
 | _=>none
theorem Aw(xs:List V):tyO (.lst xs)=some "list":=rfl
theorem Av(xs:List V):tyO (.tup xs)=some "tuple":=rfl
def tyN(H:Hp):V->Option String
 | .non=>some "NoneType"
 | .bl _=>some "bool"
 | .int _=>some "int"
 | .str _=>some "str"
 | .ref p=>(H p).bind tyO
 | _=>none
theorem Az(H:Hp):tyN H .non=some "NoneType":=rfl
theorem Eh(H:Hp)(b:Bool):tyN H (.bl b)=some "bool":=rfl
theorem AA(H:Hp)(i:Int):tyN H (.int i)=some "int":=rfl
theorem Ax(H:Hp)(x:Str):tyN H (.str x)=some "str":=rfl
theorem Ay(H:Hp)(p:Addr):tyN H (.ref p)=(H p).bind tyO:=rfl
theorem Eg{K:W.Frag}{H:Hp}{x:V}{t:String}(h:tyN H x=some t):oC K H x (.type t):=by
 cases x with
 | non=>cases h;exact .non
 | bl b=>cases h;exact .bl b
 | int i=>cases h;exact .int i
 | str x=>cases h;exact .str x
 | ref p=>
  have h':(H p).bind tyO=some t:=h
  cases e:H p with
  | none=>rw [e] at h';cases h'
  | some o=>
   rw [e] at h';have h2:tyO o=some t:=h'
   cases o with
   | lst xs=>cases h2;exact .lst e
   | tup xs=>cases h2;exact .tup e
   | dK xs=>cases h2;exact .dK e
   | dT xs=>cases h2;exact .dT e
   | frz ob u=>
    cases u with
    | lst xs=>cases h2;exact .frz e
    | _=>cases h2
   | _=>cases h2
 | _=>cases h
def lD:List String:=["NoneType", "bool", "int", "str", "list", "tuple", "dict"]
def Kb(t n:String):Bool:=t == n || (t == "bool" && n == "int")
theorem xR(K:W.Frag):∀ t∈lD,∀ n∈lD,W.kitOne K (.type t) (.type n)=some (Kb t n):=by
 intro t ht n hn;unfold lD at ht hn;simp only [mem_cons,not_mem_nil,or_false] at ht hn
 rcases ht with rfl|rfl|rfl|rfl|rfl|rfl|rfl<;>rcases hn with rfl|rfl|rfl|rfl|rfl|rfl|rfl<;>exact uW K _ _ _ (by decide +kernel)
def m4(n:String)(H:Hp)(Q:VK):String->Prop:=λ t=>t∈lD/\Q (.bl (Kb t n)) H
def vE(xs:List V)(H:Hp)(Q:VK):Prop:=match xs with
 | [x,.ty n]=>n∈lD/\aI (tyN H x) (m4 n H Q)
 | _=>False
theorem bR:bG X (.builtin "isinstance") vE:=by
 refine yf.mono λ xs H Q h=>?_;unfold vE at h;split at h
 ·rename_i x n;obtain⟨hn,h⟩:=h;obtain⟨t,e,ht,q⟩:=ai h;exact⟨x,n,_,_,rfl,Eg e,xR _ t ht n hn,q⟩
 ·exact h.elim
theorem qt(x:V)(H:Hp)(Q:VK):vE [x,.ty "int"] H Q=aI (tyN H x) (m4 "int" H Q):=by
 unfold vE;exact propext ⟨λ h=>h.2,λ h=>⟨by decide,h⟩⟩
theorem oi(x:V)(H:Hp)(Q:VK):vE [x,.ty "bool"] H Q=aI (tyN H x) (m4 "bool" H Q):=by
 unfold vE;exact propext ⟨λ h=>h.2,λ h=>⟨by decide,h⟩⟩
theorem mQ(x:V)(H:Hp)(Q:VK):vE [x,.ty "tuple"] H Q=aI (tyN H x) (m4 "tuple" H Q):=by
 unfold vE;exact propext ⟨λ h=>h.2,λ h=>⟨by decide,h⟩⟩
theorem oh(x:V)(H:Hp)(Q:VK):vE [x,.ty "list"] H Q=aI (tyN H x) (m4 "list" H Q):=by
 unfold vE;exact propext ⟨λ h=>h.2,λ h=>⟨by decide,h⟩⟩
theorem uH(H:Hp)(Q:VK):m4 "int" H Q "NoneType"=Q (.bl false) H:=propext ⟨λ h=>h.2,λ h=>⟨by decide,h⟩⟩
theorem uG(H:Hp)(Q:VK):m4 "bool" H Q "bool"=Q (.bl true) H:=propext ⟨λ h=>h.2,λ h=>⟨by decide,h⟩⟩
theorem uF(H:Hp)(Q:VK):m4 "int" H Q "bool"=Q (.bl true) H:=propext ⟨λ h=>h.2,λ h=>⟨by decide,h⟩⟩
theorem uD(H:Hp)(Q:VK):m4 "bool" H Q "int"=Q (.bl false) H:=propext ⟨λ h=>h.2,λ h=>⟨by decide,h⟩⟩
theorem uC(H:Hp)(Q:VK):m4 "int" H Q "int"=Q (.bl true) H:=propext ⟨λ h=>h.2,λ h=>⟨by decide,h⟩⟩
theorem uz(H:Hp)(Q:VK):m4 "int" H Q "str"=Q (.bl false) H:=propext ⟨λ h=>h.2,λ h=>⟨by decide,h⟩⟩
theorem uB(H:Hp)(Q:VK):m4 "int" H Q "list"=Q (.bl false) H:=propext ⟨λ h=>h.2,λ h=>⟨by decide,h⟩⟩
theorem uA(H:Hp)(Q:VK):m4 "list" H Q "list"=Q (.bl true) H:=propext ⟨λ h=>h.2,λ h=>⟨by decide,h⟩⟩
theorem uy(H:Hp)(Q:VK):m4 "int" H Q "tuple"=Q (.bl false) H:=propext ⟨λ h=>h.2,λ h=>⟨by decide,h⟩⟩
theorem ux(H:Hp)(Q:VK):m4 "tuple" H Q "tuple"=Q (.bl true) H:=propext ⟨λ h=>h.2,λ h=>⟨by decide,h⟩⟩
theorem uE(H:Hp)(Q:VK):m4 "int" H Q "dict"=Q (.bl false) H:=propext ⟨λ h=>h.2,λ h=>⟨by decide,h⟩⟩
def Ik(r:V->List V->Hp->VK->Prop)(x:V)(Q:VK):List V->Hp->Prop:=λ xs H=>r x xs H Q
theorem FN(r:V->List V->Hp->VK->Prop)(x:V)(Q:VK)(xs:List V)(H:Hp):Ik r x Q xs H=r x xs H Q:=rfl
def kBM(K:W.Frag)(T:String)(r:V->List V->Hp->VK->Prop)(t:TA)(σ:St)(Q:VK):VK:=λ x H=>tyV K T x H/\t σ H (Ik r x Q)
theorem Jn(K:W.Frag)(T:String)(r:V->List V->Hp->VK->Prop)(t:TA)(σ:St)(Q:VK)(x:V)(H:Hp):kBM K T r t σ Q x H=(tyV K T x H/\t σ H (Ik r x Q)):=rfl
theorem IU(K:W.Frag)(T:String)(r:V->List V->Hp->VK->Prop)(to:TE)(t:TA)(σ:St)(H:Hp)(Q:VK):tBM K T r to t σ H Q=to σ H (kBM K T r t σ Q):=rfl
def J6(K:W.Frag)(T:String)(r:V->List V->Hp->VK->Prop)(Q:VK):VK:=λ x H=>tyV K T x H/\r x [] H Q
theorem FL(K:W.Frag)(T:String)(r:V->List V->Hp->VK->Prop)(Q:VK)(x:V)(H:Hp):J6 K T r Q x H=(tyV K T x H/\r x [] H Q):=rfl
theorem E3(K:W.Frag)(T:String)(r:V->List V->Hp->VK->Prop)(to:TE)(σ:St)(H:Hp)(Q:VK):JK K T r to σ H Q=to σ H (J6 K T r Q):=rfl
theorem wj(K:W.Frag)(p:Addr)(H:Hp)(h:(ay H p).isSome=true):tyV K "list" (.ref p) H=True:=by
 cases e:ay H p with
 | none=>rw [e] at h;cases h
 | some ys=>exact eq_true (.inl ⟨rfl,ys,SqL.of (bB e)⟩)
def J8(l:Addr)(y:V)(H:Hp)(Q:VK):List V->Prop:=λ xs=>xs.length < sizeLine/\Q .non (upd H l (.lst (xs++[y])))
theorem FR(l:Addr)(y:V)(H:Hp)(Q:VK)(xs:List V):J8 l y H Q xs=(xs.length < sizeLine/\Q .non (upd H l (.lst (xs++[y])))):=rfl
theorem uu(l:Addr)(y:V)(H:Hp)(Q:VK):sC (.ref l) [y] H Q=aI (ay H l) (J8 l y H Q):=by
 refine propext ⟨λ h=>?_,λ h=>?_⟩
 ·obtain⟨_,xs,_,e1,e2,e3,a,b⟩:=h;cases e1;cases e2;have e:ay H l=some xs:=by unfold ay;rw [e3];rfl
  rw [e];exact⟨a,b⟩
 ·obtain⟨xs,e,a,b⟩:=ai h;exact⟨l,xs,y,rfl,rfl,bB e,a,b⟩
def JX(l:Addr)(H:Hp)(Q:VK):List V->Prop:=λ xs=>Q .non (upd H l (.lst xs.reverse))
theorem Fp(l:Addr)(H:Hp)(Q:VK)(xs:List V):JX l H Q xs=Q .non (upd H l (.lst xs.reverse)):=rfl
theorem qq(l:Addr)(H:Hp)(Q:VK):o1 (.ref l) [] H Q=aI (ay H l) (JX l H Q):=by
 refine propext ⟨λ h=>?_,λ h=>?_⟩
 ·obtain⟨_,xs,e1,_,e3,b⟩:=h;cases e1;have e:ay H l=some xs:=by unfold ay;rw [e3];rfl
  rw [e];exact b
 ·obtain⟨xs,e,b⟩:=ai h;exact⟨l,xs,rfl,rfl,bB e,b⟩
def Jt(xs:List V)(H:Hp)(Q:VK):List V->Prop:=λ ys=>xs.length+ys.length<=sizeLine/\∀ p,H p=none->Q (.ref p) (upd H p (.lst (xs++ys)))
def Ju(b:Addr)(H:Hp)(Q:VK):List V->Prop:=λ xs=>aI (ay H b) (Jt xs H Q)
theorem E6(l b:Addr)(H:Hp)(Q:VK):JN (.ref l) (.ref b) H Q=aI (ay H l) (Ju b H Q):=by
 refine propext ⟨λ h=>?_,λ h=>?_⟩
 ·obtain⟨l',b',xs,zs,e1,e2,e3,e4,hz,hq⟩:=h;cases e1;cases e2;have e:ay H l=some xs:=by unfold ay;rw [e3];rfl
  have e':ay H b=some zs:=by unfold ay;rw [e4];rfl
  rw [e]
  show aI (ay H b) _
  rw [e'];exact⟨hz,hq⟩
 ·obtain⟨xs,e,q⟩:=ai h;obtain⟨zs,e',a,q⟩:=ai q;exact⟨l,b,xs,zs,rfl,rfl,bB e,bB e',a,q⟩
def Ac(p:Addr)(xs:List V)(v:V)(H:Hp)(Q:Hp->Prop):Nat->Prop:=λ j=>Q (upd H p (.lst (xs.set j v)))
theorem BS(p:Addr)(xs:List V)(v:V)(H:Hp)(Q:Hp->Prop)(j:Nat):Ac p xs v H Q j=Q (upd H p (.lst (xs.set j v))):=rfl
def JW(p:Addr)(i:Int)(v:V)(H:Hp)(Q:Hp->Prop):List V->Prop:=λ xs=>aI (ixN xs.length i) (Ac p xs v H Q)
theorem Fm(p:Addr)(i:Int)(v:V)(H:Hp)(Q:Hp->Prop)(xs:List V):JW p i v H Q xs=aI (ixN xs.length i) (Ac p xs v H Q):=rfl
theorem By(p:Addr)(i:Int)(v:V)(H:Hp)(Q:Hp->Prop):DD (.ref p) (.int i) v H Q=aI (ay H p) (JW p i v H Q):=by
 refine propext ⟨λ h=>?_,λ h=>?_⟩
 ·obtain⟨_,xs,_,j,e1,e2,e3,e4,b⟩:=h;cases e1;cases e2;have e:ay H p=some xs:=by unfold ay;rw [e3];rfl
  rw [e]
  show aI (ixN xs.length i) _
  rw [e4];exact b
 ·obtain⟨xs,e,q⟩:=ai h;obtain⟨j,e4,q⟩:=ai q;exact⟨p,xs,i,j,rfl,rfl,bB e,e4,q⟩
def sk(t:yq)(o v:V)(σ:St)(Q:St->Hp->Prop):VK:=λ i H=>t o i v H λ H3=>Q σ H3
theorem xn(t:yq)(o v:V)(σ:St)(Q:St->Hp->Prop)(i:V)(H:Hp):sk t o v σ Q i H=t o i v H (Q σ):=rfl
def yI(ti:TE)(t:yq)(v:V)(σ:St)(Q:St->Hp->Prop):VK:=λ o H=>ti σ H (sk t o v σ Q)
theorem xo(ti:TE)(t:yq)(v:V)(σ:St)(Q:St->Hp->Prop)(o:V)(H:Hp):yI ti t v σ Q o H=ti σ H (sk t o v σ Q):=rfl
theorem FX(to ti:TE)(t:yq)(v:V)(σ:St)(H:Hp)(Q:St->Hp->Prop):Kf to ti t v σ H Q=to σ H (yI ti t v σ Q):=rfl
def kGT(n:Nat)(t:TGs)(σ:St)(H:Hp)(Q:St->Hp->Prop):List V->Prop:=λ xs=>xs.length=n/\t xs σ H Q
theorem Jl(n:Nat)(t:TGs)(σ:St)(H:Hp)(Q:St->Hp->Prop)(xs:List V):kGT n t σ H Q xs=(xs.length=n/\t xs σ H Q):=rfl
def qGT(n:Nat)(t:TGs):TG:=λ v σ H Q=>match v with
 | .ref a=>aI (rj H a) (kGT n t σ H Q)
 | _=>False
theorem IW(n:Nat)(t:TGs)(a:Addr)(σ:St)(H:Hp)(Q:St->Hp->Prop):qGT n t (.ref a) σ H Q=aI (rj H a) (kGT n t σ H Q):=rfl
theorem dq{K:W.Frag}{n:Nat}{t:TGs}{v:V}{σ:St}{H:Hp}{Q:St->Hp->Prop}(h:qGT n t v σ H Q):Ke K n t v σ H Q:=by
 unfold qGT at h;split at h
 ·rename_i a;obtain⟨xs,e,hl,q⟩:=ai h;exact⟨a,xs,rfl,SqT.of (Ei e),hl,q⟩
 ·exact h.elim
theorem EB:OpR X (compareOp .Is) JM:=EE
theorem pe:OpR X (compareOp .IsNot) DE:=Bc
def nh(tb:TS)(D:m7):St->Hp->Prop:=λ σ H=>tb D σ H
theorem fV(tb:TS)(D:m7)(σ:St)(H:Hp):nh tb D σ H=tb D σ H:=rfl
def zw(g:TG)(tb:TS)(D:m7)(σ:St)(J:It)(H1:Hp):Prop:=∃ W:Nat->Nat->St->Hp->Prop,(∃ m,W 0 m σ H1)/\∀ i m σ H,W i m σ H →
 (J.stop i H/\D.nx σ H)\/(J.go i H/\∃ N:St->Hp->Prop,(∀ σ' H',N σ' H'->∃ m',m' < m/\W (i+1) m' σ' H')/\∀ x H',J.yld i H x H'->g x σ H' λ σ2 H2=>tb { D with nx:=N,ct:=N,bk:=D.nx } σ2 H2)
theorem E1(wi:TI)(g:TG)(tb:TS)(D:m7)(σ:St)(H:Hp):JI wi g tb D σ H=wi σ H (zw g tb D σ):=rfl
def kR1(R:It->Hp->Prop):List V->Hp->Prop:=λ vs H=>∃ j:Int,vs=[.int j]/\-(2 ^ 62)<=j/\j < 2 ^ 62/\R (Itr 0 j.toNat) H
theorem Jd(R:It->Hp->Prop)(j:Int)(H:Hp):kR1 R [.int j] H=(-(2 ^ 62)<=j/\j < 2 ^ 62/\R (Itr 0 j.toNat) H):=propext ⟨λ ⟨_,e,q⟩=>by cases e;exact q,λ q=>⟨j,rfl,q⟩⟩
theorem Cc(ta:TA)(σ:St)(H:Hp)(R:It->Hp->Prop):D7 ta σ H R=ta σ H (kR1 R):=rfl
def kR2(R:It->Hp->Prop):List V->Hp->Prop:=λ vs H=>∃ i j:Int,vs=[.int i,.int j]/\(-(2 ^ 62)<=i/\i < 2 ^ 62/\-(2 ^ 62)<=j/\j < 2 ^ 62)/\R (Itr i (j - i).toNat) H
theorem Jc(R:It->Hp->Prop)(i j:Int)(H:Hp):kR2 R [.int i,.int j] H=((-(2 ^ 62)<=i/\i < 2 ^ 62/\-(2 ^ 62)<=j/\j < 2 ^ 62)/\R (Itr i (j - i).toNat) H):=propext ⟨λ ⟨_,_,e,q⟩=>by cases e;exact q,λ q=>⟨i,j,rfl,q⟩⟩
theorem Cb(ta:TA)(σ:St)(H:Hp)(R:It->Hp->Prop):DZ ta σ H R=ta σ H (kR2 R):=rfl
def vN(K:W.Frag)(a:Addr)(H:Hp)(R:It->Hp->Prop):HO->Prop:=λ o=>match o with
 | .lst _=>R (Itl K a) H
 | .frz _ (.lst _)=>R (Itl K a) H
 | .tup _=>R (Itt K a) H
 | _=>False
theorem uJ(K:W.Frag)(a:Addr)(H:Hp)(R:It->Hp->Prop)(xs:List V):vN K a H R (.lst xs)=R (Itl K a) H:=rfl
def Hb(K:W.Frag)(R:It->Hp->Prop):VK:=λ x H=>match x with
 | .ref a=>aI (H a) (vN K a H R)
 | _=>False
theorem FA(K:W.Frag)(R:It->Hp->Prop)(a:Addr)(H:Hp):Hb K R (.ref a) H=aI (H a) (vN K a H R):=rfl
def Io(K:W.Frag)(tl:TE):TI:=λ σ H R=>tl σ H (Hb K R)
theorem FV(K:W.Frag)(tl:TE)(σ:St)(H:Hp)(R:It->Hp->Prop):Io K tl σ H R=tl σ H (Hb K R):=rfl
theorem yF{tg l:Expr}{tl:TE}(hl:PE X l tl):PI X tg l (Io X.K tl):=by
 intro pins s σ H R I h;refine thn (hl pins s σ H _ I h) λ v s1 ⟨x,H1,I1,r1,q1⟩=>?_;unfold Hb at q1;split at q1
 ·rename_i a;cases r1;obtain⟨o,e,q⟩:=ai q1
  have fp:∀ b∈[s1.heap.objs.size],k9 X pins H1 b:=λ b hb=>by
   have e:b=s1.heap.objs.size:=by simpa using hb
   subst e;exact I1.fpOk (Li _) (I1.hok.fresh (Li _))
  have lst:∀ xs,SqL X.K H1 a xs->R (Itl X.K a) H1->wpAny (model X.prog X.w) X.A (pyIter (.ref a)) (PIE X pins σ tg R) X.xe s1:=λ xs hq q=>by
   obtain⟨its,rv,p,hz⟩:=I1.list hq;refine MO p.isList ?_;exact⟨s1.heap.objs.size,[s1.heap.objs.size],_,_,H1,rfl,I1.kept (t':=s1.toks) λ b o e=>K2 _ e,tZ a _,⟨_,Lh _ rfl,rfl,rfl⟩,fp,q⟩
  unfold vN at q;split at q
  ·exact lst _ (SqL.of e) q
  ·exact lst _ (.inl (.inr ⟨_,e⟩)) q
  ·obtain⟨its,rv,p,hz⟩:=I1.tuple (SqT.of e);refine wpAny_pyIter_tuple (show s1.heap.IsTuple a its.toArray from p) ?_;exact⟨s1.heap.objs.size,[s1.heap.objs.size],_,_,H1,rfl,I1.kept (t':=s1.toks) λ b o e=>K2 _ e,p4 a _,⟨_,Lh _ rfl,rfl,rfl⟩,fp,q⟩
  ·exact q.elim
 ·exact q1.elim
theorem fW{lo:Int}{n:Nat}{g:TG}{tb:TS}{nx:St->Hp->Prop}{rt:VK}{bk ct:St->Hp->Prop}{σ:St}{H:Hp}(Pv:Nat->St->Hp->Prop)(h0:Pv 0 σ H)
  (hs:∀ i σ H,i < n->Pv i σ H->g (.int (lo+i)) σ H (nh tb ⟨Pv (i+1),rt,nx,Pv (i+1)⟩)) (hd:∀ σ H,Pv n σ H->nx σ H):zw g tb ⟨nx,rt,bk,ct⟩ σ (Itr lo n) H:=va Pv h0 hs hd
theorem b9{K:W.Frag}{a:Addr}{xs:List V}{g:TG}{tb:TS}{nx:St->Hp->Prop}{rt:VK}{bk ct:St->Hp->Prop}{σ:St}{H:Hp}(Pv:Nat->St->Hp->Prop)(h0:Pv 0 σ H)(hl:∀ i σ H,i<=xs.length->Pv i σ H->H a=some (.lst xs))
  (hs:∀ i x σ H,xs[i]? = some x->Pv i σ H->g x σ H (nh tb ⟨Pv (i+1),rt,nx,Pv (i+1)⟩)) (hd:∀ σ H,Pv xs.length σ H->nx σ H):zw g tb ⟨nx,rt,bk,ct⟩ σ (Itl K a) H:=x4 (xs:=xs) Pv h0 (λ i σ H hi p=>SqL.of (hl i σ H hi p)) hs hd
def kWh(tb:TS)(nx:St->Hp->Prop)(rt:VK)(Pv:Nat->St->Hp->Prop)(m:Nat)(σ:St):Bool->Hp->Prop:=λ b H=>if b=true then tb ⟨λ σ' H'=>∃ m',m' < m/\Pv m' σ' H',rt,nx,λ σ' H'=>∃ m',m' < m/\Pv m' σ' H'⟩ σ H else nx σ H
theorem Ja(tb:TS)(nx:St->Hp->Prop)(rt:VK)(Pv:Nat->St->Hp->Prop)(m:Nat)(σ:St)(b:Bool)(H:Hp):kWh tb nx rt Pv m σ b H=(if b=true then tb ⟨λ σ' H'=>∃ m',m' < m/\Pv m' σ' H',rt,nx,λ σ' H'=>∃ m',m' < m/\Pv m' σ' H'⟩ σ H else nx σ H):=rfl
theorem Ap{c:TT}{tb:TS}{nx:St->Hp->Prop}{rt:VK}{bk ct:St->Hp->Prop}{σ:St}{H:Hp}(Pv:Nat->St->Hp->Prop)(m0:Nat)(h0:Pv m0 σ H)
  (mono:∀ σ H Q Q',(∀ b H1,Q b H1->Q' b H1)->c σ H Q->c σ H Q')
  (hs:∀ m σ H,Pv m σ H->c σ H (kWh tb nx rt Pv m σ)):rJ c tb ⟨nx,rt,bk,ct⟩ σ H:=by
 refine⟨Pv,⟨m0,h0⟩,λ m σ H p=>mono σ H _ _ (λ b H1 q=>?_) (hs m σ H p)⟩;unfold kWh at q
 cases b with
 | true=>exact⟨_,λ σ' H' z=>z,q⟩
 | false=>exact q
end
def kE4(H:Hp)(Q:VK):Bool->Prop:=λ b=>Q (.bl b) H
theorem zZ(H:Hp)(Q:VK)(b:Bool):kE4 H Q b=Q (.bl b) H:=rfl
def kC3(D:Addr)(ys:List V)(N:List V->Hp->Prop):VK:=λ y H=>H D=some (.lst ys)/\ys.length < sizeLine/\N (ys++[y]) (upd H D (.lst (ys++[y])))
def kC2(te:TE)(σ2:St)(D:Addr)(ys:List V)(N:List V->Hp->Prop):Bool->Hp->Prop:=λ b H=>if b=true then te σ2 H (kC3 D ys N) else N ys H
def kC1(k:Nat)(tt:TT)(te:TE)(σ:St)(D:Addr)(ys:List V)(N:List V->Hp->Prop):St->Hp->Prop:=λ σ2 H=>(∃ vs:St,vs.length=k/\σ2=vs++σ)/\tt σ2 H (kC2 te σ2 D ys N)
theorem EJ(σ:St)(H:Hp)(Q:Bool->Hp->Prop):JE σ H Q=Q true H:=rfl
def rB(k:Nat)(g:TG)(tt:TT)(te:TE)(σ:St)(Q:VK):It->Hp->Prop:=λ J H1=>∀ D,H1 D=none->∃ W:Nat->Nat->List V->Hp->Prop,(∃ m,W 0 m [] (upd H1 D (.lst [])))/\∀ i m ys H,W i m ys H →
 (J.stop i H/\Q (.ref D) H)\/(J.go i H/\∃ N:List V->Hp->Prop,(∀ ys' H',N ys' H'->∃ m',m' < m/\W (i+1) m' ys' H') /\
  ∀ x H',J.yld i H x H'->g x (List.replicate k none++σ) H' (kC1 k tt te σ D ys N))
theorem Bs(k:Nat)(wi:TI)(g:TG)(tt:TT)(te:TE)(σ:St)(H:Hp)(Q:VK):zG k wi g tt te σ H Q=wi σ H (rB k g tt te σ Q):=rfl
def vK(i:Nat)(σ:St)(nx:St->Hp->Prop):VK:=λ x H=>fS i x σ H nx
theorem BP(i:Nat)(σ:St)(nx:St->Hp->Prop)(x:V)(H:Hp):vK i σ nx x H=fS i x σ H nx:=rfl
theorem Bl(i:Nat)(te:TE)(nx:St->Hp->Prop)(rt:VK)(bk ct:St->Hp->Prop)(σ:St)(H:Hp):Ds i te ⟨nx,rt,bk,ct⟩ σ H=te σ H (vK i σ nx):=rfl
section
variable {k:Nat}{g:TG}{tt:TT}{te:TE}{σ:St}{Q:VK}{H:Hp}{K:PySem.W.Frag}
end
def aP{α:Type}:List (Option α)->Option (List α)
 | []=>some []
 | o::r=>o.bind λ x=>(aP r).map λ xs=>x::xs
def zA(f:V->Option PyData):HO->Option PyData
 | .lst xs=>(aP (xs.map f)).map .list
 | .tup xs=>(aP (xs.map f)).map .tuple
 | _=>none
def i8(H:Hp)(f:V->Option PyData):V->Option PyData
 | .non=>some .none
 | .bl b=>some (.bool b)
 | .int i=>some (.int i)
 | .str z=>if PyData.strOk z=true then some (.str z) else none
 | .ref p=>(H p).bind (zA f)
 | _=>none
def gY(H:Hp):Nat->V->Option PyData
 | 0,_=>none
 | n+1,x=>i8 H (gY H n) x
def noD:V->Option PyData:=λ _=>none
theorem FY(H:Hp)(x:V):gY H 6 x=i8 H (i8 H (i8 H (i8 H (i8 H (i8 H noD))))) x:=rfl
theorem qy(H:Hp)(n:Nat)(z:Str):gY H (n+1) (.str z)=if PyData.strOk z=true then some (.str z) else none:=rfl
theorem qz(H:Hp)(n:Nat)(p:Addr):gY H (n+1) (.ref p)=(H p).bind (zA (gY H n)):=rfl
theorem jr(H:Hp)(f:V->Option PyData)(p:Addr):i8 H f (.ref p)=(H p).bind (zA f):=rfl
theorem jq(f:V->Option PyData)(xs:List V):zA f (.lst xs)=(aP (xs.map f)).map .list:=rfl
theorem jo(f:V->Option PyData)(xs:List V):zA f (.tup xs)=(aP (xs.map f)).map .tuple:=rfl
theorem kW{α:Type}:aP ([]:List (Option α))=some []:=rfl
theorem i4{α:Type}(x:α)(r:List (Option α)):aP (some x::r)=(aP r).map λ xs=>x::xs:=rfl
theorem cC(H:Hp)(f:V->Option PyData):∀ ns:List Int,aP ((ns.map V.int).map (i8 H f))=some (ns.map PyData.int)
 | []=>rfl
 | i::r=>by
  show (aP ((r.map V.int).map (i8 H f))).map _=_
  rw [cC H f r];rfl
theorem gS{K:W.Frag}{H:Hp}{n:Nat}(ih:∀ x d,gY H n x=some d->jB K H x d/\d.canLay0=true/\d.depth<=n):∀ (xs:List V) (ds:List PyData),aP (xs.map (gY H n))=some ds->gZ K H xs ds/\PyData.canLayAll0 ds=true/\PyData.depthAll ds<=n
 | [],ds,h=>by cases h;exact⟨.nil,rfl,LD _⟩
 | x::xs,ds,h=>by
  have h':(gY H n x).bind (λ d=>(aP (xs.map (gY H n))).map λ ds=>d::ds)=some ds:=h
  cases e:gY H n x with
  | none=>rw [e] at h';cases h'
  | some d=>
   rw [e] at h';have h2:(aP (xs.map (gY H n))).map (λ ds=>d::ds)=some ds:=h'
   cases e2:aP (xs.map (gY H n)) with
   | none=>rw [e2] at h2;cases h2
   | some es=>
    rw [e2] at h2;cases h2;obtain⟨a,b,c⟩:=ih x d e;obtain⟨a',b',c'⟩:=gS ih xs es e2;exact⟨.cons a a',by simp [PyData.canLayAll0,b,b'],by simp only [PyData.depthAll];omega⟩
theorem ic{K:W.Frag}{H:Hp}:∀ (n:Nat) (x:V) (d:PyData),gY H n x=some d->jB K H x d/\d.canLay0=true/\d.depth<=n
 | 0,x,d,h=>by cases h
 | n+1,x,d,h=>by
  cases x with
  | non=>cases h;exact⟨.non,rfl,LD _⟩
  | bl b=>cases h;exact⟨.bl b,rfl,LD _⟩
  | int i=>cases h;exact⟨.int i,rfl,LD _⟩
  | str z=>
   rw [qy] at h;split at h
   ·rename_i hz;cases h;exact⟨.str z,by simpa [PyData.canLay0] using hz,LD _⟩
   ·cases h
  | ref p=>
   rw [qz] at h
   cases e:H p with
   | none=>rw [e] at h;cases h
   | some o=>
    rw [e] at h;have h':zA (gY H n) o=some d:=h
    cases o with
    | lst xs=>
     rw [jq] at h'
     cases e2:aP (xs.map (gY H n)) with
     | none=>rw [e2] at h';cases h'
     | some ds=>
      rw [e2] at h';cases h';obtain⟨a,b,c⟩:=gS (K:=K) (ic n) xs ds e2;exact⟨.lst (SqL.of e) a,by simpa [PyData.canLay0] using b,by simp only [PyData.depth];omega⟩
    | tup xs=>
     rw [jo] at h'
     cases e2:aP (xs.map (gY H n)) with
     | none=>rw [e2] at h';cases h'
     | some ds=>
      rw [e2] at h';cases h';obtain⟨a,b,c⟩:=gS (K:=K) (ic n) xs ds e2;exact⟨.tup (SqT.of e) a,by simpa [PyData.canLay0] using b,by simp only [PyData.depth];omega⟩
    | _=>cases h'
  | _=>cases h
theorem cZ{K:W.Frag}{H:Hp}{n:Nat}{x:V}{d:PyData}(hn:n<=64)(h:gY H n x=some d):jB K H x d/\SeqAt.shaped d=true:=by
 obtain⟨a,b,c⟩:=ic (K:=K) n x d h;refine⟨a,?_⟩;unfold SeqAt.shaped;rw [b,decide_eq_true (show d.depth<=64 by omega)];rfl
def Hd(neg:Bool)(H:Hp)(Q:VK)(d:PyData):PyData->Prop:=λ e=>Q (.bl (if neg=true then !PyData.eqv d e else PyData.eqv d e)) H
theorem xp(H:Hp)(Q:VK)(d e:PyData):Hd true H Q d e=Q (.bl (!PyData.eqv d e)) H:=rfl
theorem xq(H:Hp)(Q:VK)(d e:PyData):Hd false H Q d e=Q (.bl (PyData.eqv d e)) H:=rfl
def Ie(neg:Bool)(y:V)(H:Hp)(Q:VK):PyData->Prop:=λ d=>aI (gY H 6 y) (Hd neg H Q d)
theorem FE(neg:Bool)(y:V)(H:Hp)(Q:VK)(d:PyData):Ie neg y H Q d=aI (gY H 6 y) (Hd neg H Q d):=rfl
def qEq(neg:Bool):R2:=λ x y H Q=>if Dj x y=true then Q (.bl (if neg=true then !decide (x=y) else decide (x=y))) H else aI (gY H 6 x) (Ie neg y H Q)
theorem qu(neg:Bool)(p:Addr)(x:V)(H:Hp)(Q:VK):qEq neg x (.ref p) H Q=aI (gY H 6 x) (Ie neg (.ref p) H Q):=by
 show (if Dj x (.ref p)=true then _ else _)=_
 rw [Lm (by cases x<;>exact Lx)]
theorem kR(j:Int)(H:Hp)(Q:VK):qEq true V.non (V.int j) H Q=Q (.bl (!false)) H:=by
 have e:decide ((V.non:V)=(V.int j))=false:=by simp
 show Q (.bl (if true=true then !decide (V.non=(V.int j)) else decide (V.non=(V.int j)))) H=_
 rw [e];rfl
theorem kU(i:Int)(j:Int)(H:Hp)(Q:VK):qEq false (V.int i) (V.int j) H Q=Q (.bl (decide (i=j))) H:=by
 have e:decide (((V.int i):V)=(V.int j))=decide (i=j):=by simp
 show Q (.bl (if false=true then !decide ((V.int i)=(V.int j)) else decide ((V.int i)=(V.int j)))) H=_
 rw [e];rfl
theorem kT(i:Int)(j:Int)(H:Hp)(Q:VK):qEq true (V.int i) (V.int j) H Q=Q (.bl (!decide (i=j))) H:=by
 have e:decide (((V.int i):V)=(V.int j))=decide (i=j):=by simp
 show Q (.bl (if true=true then !decide ((V.int i)=(V.int j)) else decide ((V.int i)=(V.int j)))) H=_
 rw [e];rfl
section
variable {X:Cx}
theorem dm(hu:X.A.units+64 < cLine):OpR X (compareOp .Eq) (qEq false):=by
 refine(ID.or (EF hu)).mono λ x y H Q h=>?_;unfold qEq at h;split at h
 ·rename_i hs;exact .inl ⟨hs,h⟩
 obtain⟨d,e1,h⟩:=ai h;obtain⟨e,e2,h⟩:=ai h;obtain⟨a,b⟩:=cZ (K:=X.K) (by decide) e1;obtain⟨a',b'⟩:=cZ (K:=X.K) (by decide) e2;exact .inr ⟨d,e,a,a',b,b',h⟩
theorem cN(hu:X.A.units+64 < cLine):OpR X (compareOp .NotEq) (qEq true):=by
 refine(IA.or (ED hu)).mono λ x y H Q h=>?_;unfold qEq at h;split at h
 ·rename_i hs;exact .inl ⟨hs,h⟩
 obtain⟨d,e1,h⟩:=ai h;obtain⟨e,e2,h⟩:=ai h;obtain⟨a,b⟩:=cZ (K:=X.K) (by decide) e1;obtain⟨a',b'⟩:=cZ (K:=X.K) (by decide) e2;exact .inr ⟨d,e,a,a',b,b',h⟩
end
theorem nQ(i j:Int):PyData.eqv (.int i) (.int j)=decide (i=j):=Bool.beq_eq_decide_eq i j
theorem vb(xs ys:List PyData):PyData.eqv (.tuple xs) (.tuple ys)=PyData.eqvAll xs ys:=by simp only [PyData.eqv]
theorem x5(xs ys:List PyData):PyData.eqv (.list xs) (.list ys)=PyData.eqvAll xs ys:=by simp only [PyData.eqv]
theorem jt:PyData.eqvAll [] []=true:=by simp only [PyData.eqvAll]
theorem iL(x y:PyData)(xs ys:List PyData):PyData.eqvAll (x::xs) (y::ys)=(PyData.eqv x y && PyData.eqvAll xs ys):=by simp only [PyData.eqvAll]
theorem yb(x:PyData)(xs:List PyData):PyData.eqvAll (x::xs) []=false:=by simp only [PyData.eqvAll]
theorem ya(x:PyData)(xs:List PyData):PyData.eqvAll [] (x::xs)=false:=by simp only [PyData.eqvAll]
theorem fq:∀ ns ms:List Int,PyData.eqvAll (ns.map PyData.int) (ms.map PyData.int)=decide (ns=ms)
 | [],[]=>by rw [OL,jt];rfl
 | [],_::_=>by rw [OL,LH,ya];rfl
 | _::_,[]=>by rw [OL,LH,yb];rfl
 | i::r,j::t=>by
  rw [LH,LH,iL,nQ,fq r t]
  by_cases h:i=j<;>by_cases h2:r=t<;>simp [h,h2]
theorem CY(i j:Int):Iu i j=(0 < j/\j < 1073741824):=rfl
theorem CW(j:Int):Ir 10 j=(0<=j/\j<=1000000):=propext ⟨λ h=>⟨h.1,h.2.1⟩,λ h=>⟨h.1,h.2,by decide⟩⟩
theorem Jq(n:Nat)(h:n<=1000):(n<=sizeLine)=True:=eq_true (Nu (lQ h))
theorem Jp(n:Nat)(h:n<=1000):(n < sizeLine)=True:=eq_true (lQ h)
theorem Ext.of{H H':Hp}(h:∀ a,(H a).isSome=true->H' a=H a):Ext H H':=⟨h,λ K a xs q=>by
 have s:iU H H':=λ b o e=>(h b (by rw [e];rfl)).trans e;exact s.seq q⟩
theorem Ext.same{H H':Hp}(h:Ext H H'):iU H H':=λ b o e=>(h.1 b (by rw [e];rfl)).trans e
theorem iU.ext{H H':Hp}(h:iU H H'):Ext H H':=Ext.of λ a q=>by
 cases e:H a with
 | none=>rw [e] at q;cases q
 | some o=>exact h a o e
theorem Ext.refl(H:Hp):Ext H H:=(iU.refl H).ext
theorem Ext.trans{H H1 H2:Hp}(a:Ext H H1)(b:Ext H1 H2):Ext H H2:=(a.same.trans b.same).ext
theorem Ext.new{H:Hp}{p:Addr}{o:HO}(h:H p=none):Ext H (upd H p o):=(wB h).ext
theorem Ext.put{H H1:Hp}{p:Addr}{o:HO}(a:Ext H H1)(h:H p=none):Ext H (upd H1 p o):=iU.ext λ b u e=>by
 rw [af (bD e h)];exact a.same b u e
theorem Ext.free{H H1:Hp}{p:Addr}(a:Ext H H1)(h:H1 p=none):H p=none:=a.same.free h
theorem Ext.at{H H1:Hp}{p:Addr}{o:HO}(a:Ext H H1)(h:H p=some o):H1 p=some o:=a.same _ _ h
theorem Bb{xs:List V}{i:Int}{k:V->Prop}(h0:0<=i)(h1:i < xs.length)(h:∀ v∈xs,k v):aI (atI xs i) k:=by
 obtain⟨v,e,m⟩:=yT xs i h0 h1;rw [e];exact h v m
theorem KQ(CX:CXT)(P:Program)(w:World)(K:W.Frag)(mg:Str->Option Value)(base:Heap)(N:List Str)(qual:Str)(scope:Scope)(f:Addr)(cd:Value)(A:Around)(outer:List Env)(s:Shared)(H:Hp)(E:XK):(yp CX P w K mg base N qual scope f cd A outer s H E).K=K:=rfl
def isW(H:Hp):V->Option Bool
 | .int _=>some true
 | .bl _=>some false
 | .non=>some false
 | .str _=>some false
 | .ref p=>((H p).bind tyO).map λ _=>false
 | _=>none
theorem xU(H:Hp)(i:Int):isW H (.int i)=some true:=rfl
theorem xT(H:Hp)(p:Addr):isW H (.ref p)=((H p).bind tyO).map λ _=>false:=rfl
theorem sR{H:Hp}{p:Addr}{b:Bool}(h:isW H (.ref p)=some b):b=false/\∃ o,H p=some o/\(tyO o=some "list" \/ tyO o=some "tuple" \/ tyO o=some "dict"):=by
 rw [xT] at h
 cases e:H p with
 | none=>rw [e] at h;cases h
 | some o=>
  rw [e] at h;have h':(tyO o).map (λ _=>false)=some b:=h
  cases e2:tyO o with
  | none=>rw [e2] at h';cases h'
  | some t=>
   rw [e2] at h';cases h';refine⟨rfl,o,rfl,?_⟩
   cases o with
   | lst xs=>exact .inl rfl
   | tup xs=>exact .inr (.inl rfl)
   | dK xs=>exact .inr (.inr rfl)
   | dT xs=>exact .inr (.inr rfl)
   | frz ob u=>cases u with
    | lst xs=>exact .inl rfl
    | _=>cases e2
   | _=>cases e2
def ME(t:TE):Prop:=∀ σ H (Q Q':VK),(∀ v H,Q v H->Q' v H)->t σ H Q->t σ H Q'
def MT(t:TT):Prop:=∀ σ H (Q Q':Bool->Hp->Prop),(∀ b H,Q b H->Q' b H)->t σ H Q->t σ H Q'
def MA(t:TA):Prop:=∀ σ H (Q Q':List V->Hp->Prop),(∀ b H,Q b H->Q' b H)->t σ H Q->t σ H Q'
def MR(r:R2):Prop:=∀ x y H (Q Q':VK),(∀ v H,Q v H->Q' v H)->r x y H Q->r x y H Q'
def MC(r:List V->Hp->VK->Prop):Prop:=∀ x H (Q Q':VK),(∀ v H,Q v H->Q' v H)->r x H Q->r x H Q'
theorem dF{α:Type}{o:Option α}{k k':α->Prop}(m:∀ x,k x->k' x)(h:aI o k):aI o k':=by
 obtain⟨x,e,q⟩:=ai h;rw [e];exact m x q
theorem oH{i:Nat}:ME (G3 i):=λ σ H Q Q' m ⟨v,e,q⟩=>⟨v,e,m _ _ q⟩
theorem HM{v:V}:ME (tC v):=λ σ H Q Q' m q=>m _ _ q
theorem zX{r:R2}{a b:TE}(hr:MR r)(ha:ME a)(hb:ME b):ME (tOp r a b):=λ σ H Q Q' m q=>ha σ H _ _ (λ _ _ q=>hb σ _ _ _ (λ _ _ q=>hr _ _ _ _ _ m q) q) q
theorem oI{g:Int->Int->V}:MR (rI0 g):=λ x y H Q Q' m ⟨i,j,e,e',q⟩=>⟨i,j,e,e',m _ _ q⟩
theorem sf:MA Df:=λ σ H Q Q' m q=>m _ _ q
theorem nK{a:TE}{r:TA}(ha:ME a)(hr:MA r):MA (rm a r):=λ σ H Q Q' m q=>ha σ H _ _ (λ _ _ q=>hr σ _ _ _ (λ _ _ q=>m _ _ q) q) q
theorem zY{r:List V->Hp->VK->Prop}{t:TA}(hr:MC r)(ht:MA t):ME (tCB r t):=λ σ H Q Q' m q=>ht σ H _ _ (λ _ _ q=>hr _ _ _ _ m q) q
theorem nJ:MC Dk:=λ x H Q Q' m q=>by
 unfold Dk at q ⊢;split at q
 ·exact dF (λ _ q=>m _ _ q) q
 ·exact⟨q.1,m _ _ q.2⟩
 ·exact q.elim
theorem jO{t:TE}(h:ME t):MT (zF t):=λ σ H Q Q' m q=>h σ H _ _ (λ _ _ ⟨k,e,q⟩=>⟨k,e,m _ _ q⟩) q
theorem sj{t u:TT}(h:MT t)(h':MT u):MT (Hn t u):=λ σ H Q Q' m q=>h σ H _ _ (λ b _ q=>by
 cases b with
 | true=>rw [Lo rfl] at q ⊢;exact h' _ _ _ _ m q
 | false=>rw [Lm Lx] at q ⊢;exact m _ _ q) q
theorem nj{c:TT}{tb:TS}{nx:St->Hp->Prop}{rt:VK}{bk ct:St->Hp->Prop}{σ:St}{H:Hp}(mono:MT c)(Pv:Nat->St->Hp->Prop)(m0:Nat)(h0:Pv m0 σ H)
  (hs:∀ m σ H,Pv m σ H->c σ H (kWh tb nx rt Pv m σ)):rJ c tb ⟨nx,rt,bk,ct⟩ σ H:=Ap Pv m0 h0 (λ σ H Q Q'=>mono σ H Q Q') hs
theorem pz:∀ {ns ms:List Int},ns.map V.int=ms.map V.int->ns=ms
 | [],[],_=>rfl
 | [],_::_,h=>by cases h
 | _::_,[],h=>by cases h
 | i::r,j::t,h=>by
  simp only [LH,List.cons.injEq,V.int.injEq] at h;rw [h.1,pz h.2]
def gF(F:List Int->Prop):List V->Prop:=λ xs=>∃ ns,xs=ns.map V.int/\F ns
theorem sJ(F:List Int->Prop)(ns:List Int):gF F (ns.map V.int)=F ns:=propext ⟨λ ⟨ms,e,h⟩=>by rw [pz e];exact h,λ h=>⟨ns,rfl,h⟩⟩
theorem uI(F:List Int->Prop)(a:Int):gF F [.int a]=F [a]:=sJ F [a]
theorem iw{xs:List V}{i:Int}{k:V->Prop}(P:Int->Prop)(h0:0<=i)(h1:i < xs.length)(hx:∀ v∈xs,∃ j,v=.int j/\P j)(h:∀ j,P j->k (.int j)):aI (atI xs i) k:=Bb h0 h1 λ v hv=>by
 obtain⟨j,rfl,hj⟩:=hx v hv;exact h j hj
theorem pK(i j:Int)(h:i.natAbs < 2 ^ 256)(h':j.natAbs < 2 ^ 256):Ak i j=True:=eq_true ⟨h,h'⟩
theorem ki(xs:List V)(z:Int)(h:0<=z):qY xs none (some z)=xs.take z.toNat:=by
 unfold qY;rw [HT.sIx_none,List.drop_zero,Nat.sub_zero];obtain⟨n,rfl⟩:=Int.eq_ofNat_of_zero_le h;rw [HT.sIx_nat]
 show _=xs.take n
 rcases Nat.le_total n xs.length with q|q
 ·rw [Nat.min_eq_left q]
 ·rw [Nat.min_eq_right q,Mx (Li _),Mx q]
def KL(lo hi:Option Int)(H:Hp)(Q:VK):List V->Prop:=λ xs=>∀ p,H p=none->Q (.ref p) (upd H p (.lst (qY xs lo hi)))
def JP:V->Option Int->Option Int->Hp->VK->Prop:=λ x lo hi H Q=>match x with
 | .ref a=>aI (ay H a) (KL lo hi H Q)
 | _=>False
theorem Kq{X:Cx}:SlR X JP:=AK.mono λ x lo hi H Q h=>by
 unfold JP at h;split at h
 ·rename_i a;obtain⟨xs,e,q⟩:=ai h;exact⟨a,xs,rfl,SqL.of (bB e),q⟩
 ·exact h.elim
def HP(r:V->Option Int->Option Int->Hp->VK->Prop)(x:V)(l:Option Int)(Q:VK):Option Int->Hp->Prop:=λ u H=>r x l u H Q
theorem Fi(r:V->Option Int->Option Int->Hp->VK->Prop)(x:V)(l:Option Int)(Q:VK)(u:Option Int)(H:Hp):HP r x l Q u H=r x l u H Q:=rfl
def HQ(r:V->Option Int->Option Int->Hp->VK->Prop)(th:TO)(σ:St)(x:V)(Q:VK):Option Int->Hp->Prop:=λ l H=>th σ H (HP r x l Q)
theorem Fj(r:V->Option Int->Option Int->Hp->VK->Prop)(th:TO)(σ:St)(x:V)(Q:VK)(l:Option Int)(H:Hp):HQ r th σ x Q l H=th σ H (HP r x l Q):=rfl
def JV(r:V->Option Int->Option Int->Hp->VK->Prop)(tl th:TO)(σ:St)(Q:VK):VK:=λ x H=>tl σ H (HQ r th σ x Q)
theorem Fl(r:V->Option Int->Option Int->Hp->VK->Prop)(tl th:TO)(σ:St)(Q:VK)(x:V)(H:Hp):JV r tl th σ Q x H=tl σ H (HQ r th σ x Q):=rfl
theorem IL(r:V->Option Int->Option Int->Hp->VK->Prop)(te:TE)(tl th:TO)(σ:St)(H:Hp)(Q:VK):tSl r te tl th σ H Q=te σ H (JV r tl th σ Q):=rfl
theorem uq(σ:St)(H:Hp)(Q:Option Int->Hp->Prop):sx σ H Q=Q none H:=rfl
def DU(Q:Option Int->Hp->Prop):VK:=λ x H=>∃ i,x=.int i/\Q (some i) H
theorem BU(Q:Option Int->Hp->Prop)(i:Int)(H:Hp):DU Q (.int i) H=Q (some i) H:=propext ⟨λ ⟨_,e,q⟩=>by cases e;exact q,λ q=>⟨i,rfl,q⟩⟩
theorem Bm(t:TE)(σ:St)(H:Hp)(Q:Option Int->Hp->Prop):Dt t σ H Q=t σ H (DU Q):=rfl
def gN(o:HO)(H:Hp)(Q:VK):Prop:=∀ (p:Addr) (H':Hp),H p=none->Ext H H'->H' p=some o->Q (.ref p) H'
theorem gN.to{o:HO}{H:Hp}{Q:VK}(h:gN o H Q):∀ p,H p=none->Q (.ref p) (upd H p o):=λ p hp=>h p _ hp (Ext.new hp) ag
def kQT(Q:VK):List V->Hp->Prop:=λ xs H=>xs.length<=sizeLine/\gN (.tup xs) H Q
theorem Je(Q:VK)(xs:List V)(H:Hp):kQT Q xs H=(xs.length<=sizeLine/\gN (.tup xs) H Q):=rfl
def kQL(Q:VK):List V->Hp->Prop:=λ xs H=>xs.length<=sizeLine/\gN (.lst xs) H Q
theorem Jf(Q:VK)(xs:List V)(H:Hp):kQL Q xs H=(xs.length<=sizeLine/\gN (.lst xs) H Q):=rfl
def JO(t:TA):TE:=λ σ H Q=>t σ H (kQT Q)
theorem E7(t:TA)(σ:St)(H:Hp)(Q:VK):JO t σ H Q=t σ H (kQT Q):=rfl
def JQ(t:TA):TE:=λ σ H Q=>t σ H (kQL Q)
theorem Fc(t:TA)(σ:St)(H:Hp)(Q:VK):JQ t σ H Q=t σ H (kQL Q):=rfl
section
variable {X:Cx}{es:List Expr}{t:TA}{pos:Pos}
theorem A0{x1}(h:PA X es t):PE X (.Tuple es x1 pos) (JO t):=by
 intro pins s σ H Q I hq;refine wpAny_Tuple_spliced (thn (h pos pins s σ H _ I hq) λ us s1 ⟨xs,H1,I1,r,z,q⟩=>⟨by rw [←r.length];exact z,?_⟩);have hf:H1 s1.heap.objs.size=none:=I1.hok.fresh (Li _);refine⟨.ref s1.heap.objs.size,upd H1 s1.heap.objs.size (.tup xs),I1.laid (t':=s1.toks) (λ b u e=>K2 _ e) (Li _) ?_,rfl,q.to _ hf⟩;exact⟨z,us,r,⟨_,Lh _ rfl,rfl,_,rfl⟩⟩
theorem A1(h:PA X es t):PE X (.List es pos) (JQ t):=by
 intro pins s σ H Q I hq;refine wpAny_List_spliced (thn (h pos pins s σ H _ I hq) λ us s1 ⟨xs,H1,I1,r,z,q⟩=>⟨by rw [←r.length];exact z,?_⟩);have hf:H1 s1.heap.objs.size=none:=I1.hok.fresh (Li _);refine⟨.ref s1.heap.objs.size,upd H1 s1.heap.objs.size (.lst xs),I1.laid (t':=s1.toks) (λ b u e=>K2 _ e) (Li _) ?_,rfl,q.to _ hf⟩;exact⟨z,us,0,r,Lh _ rfl⟩
end
def kN(f:List V->HO)(H:Hp)(Q:VK):List V->Prop:=λ ys=>gN (f ys) H Q
theorem KD(f:List V->HO)(H:Hp)(Q:VK)(ys:List V):kN f H Q ys=gN (f ys) H Q:=rfl
def zT(xs:List V)(H:Hp)(Q:VK):Prop:=match xs with
 | [.ref p]=>aI (cE H p) (kN .lst H Q)
 | _=>False
theorem BH(p:Addr)(H:Hp)(Q:VK):zT [.ref p] H Q=aI (cE H p) (kN .lst H Q):=rfl
theorem bP{X:Cx}:bG X (.type "list") zT:=qN.mono λ xs H Q h=>by
 unfold zT at h;split at h
 ·exact dF (λ _ q=>q.to) h
 ·exact h.elim
def HU(xs:List V)(H:Hp)(Q:VK):List V->Prop:=λ ys=>xs.length+ys.length<=sizeLine/\gN (.lst (xs++ys)) H Q
theorem Ft(xs:List V)(H:Hp)(Q:VK)(ys:List V):HU xs H Q ys=(xs.length+ys.length<=sizeLine/\gN (.lst (xs++ys)) H Q):=rfl
def HV(b:Addr)(H:Hp)(Q:VK):List V->Prop:=λ xs=>aI (ay H b) (HU xs H Q)
theorem Fu(b:Addr)(H:Hp)(Q:VK)(xs:List V):HV b H Q xs=aI (ay H b) (HU xs H Q):=rfl
def HL:R2:=λ x y H Q=>match x,y with
 | .ref l,.ref b=>aI (ay H l) (HV b H Q)
 | _,_=>False
theorem Fh(l b:Addr)(H:Hp)(Q:VK):HL (.ref l) (.ref b) H Q=aI (ay H l) (HV b H Q):=rfl
theorem nH{X:Cx}:OpR X (binaryOp .Add) HL:=EG.mono λ x y H Q h=>by
 unfold HL at h;split at h
 ·rw [E6];exact dF (λ _ q=>dF (λ _ q=>⟨q.1,q.2.to⟩) q) h
 ·exact h.elim
def kNS(lo hi:Option Int)(H:Hp)(Q:VK):List V->Prop:=λ xs=>gN (.lst (qY xs lo hi)) H Q
theorem Ji(lo hi:Option Int)(H:Hp)(Q:VK)(xs:List V):kNS lo hi H Q xs=gN (.lst (qY xs lo hi)) H Q:=rfl
def nSl:V->Option Int->Option Int->Hp->VK->Prop:=λ x lo hi H Q=>match x with
 | .ref a=>aI (ay H a) (kNS lo hi H Q)
 | _=>False
theorem IX(a:Addr)(lo hi:Option Int)(H:Hp)(Q:VK):nSl (.ref a) lo hi H Q=aI (ay H a) (kNS lo hi H Q):=rfl
theorem zr{X:Cx}:SlR X nSl:=Kq.mono λ x lo hi H Q h=>by
 unfold nSl at h;split at h
 ·exact dF (λ _ q=>q.to) h
 ·exact h.elim
theorem PE.mono{X:Cx}{e:Expr}{t t':TE}(h:PE X e t)(m:∀ σ H Q,t' σ H Q->t σ H Q):PE X e t':=λ pins s σ H Q I q=>h pins s σ H Q I (m _ _ _ q)
def DP:TE:=λ _ H Q=>gN (.dK []) H Q
theorem BJ(σ:St)(H:Hp)(Q:VK):DP σ H Q=gN (.dK []) H Q:=rfl
theorem bc{X:Cx}{pos:Pos}:PE X (.Dict [] [] pos) DP:=wO.mono λ _ _ _ h=>h.to
section
variable {prog:Program}{w:World}{A:Around}{E:Value->Shared->Prop}{s:Shared}
end
section
variable {X:Cx}{pos:Pos}
end
def Itv(K:W.Frag)(a:Addr)(xs:List V):It:=
 ⟨λ i H=>SqL K H a xs/\i < xs.length,λ i H x H'=>H'=H/\xs[xs.length - 1 - i]? = some x,λ i _=>i=xs.length⟩
theorem wo{P:Program}{w:World}{K:W.Frag}{tg:Expr}(a it:Addr)(xs:List V):vG P w K tg (Itv K a xs) [it] it (λ i h=>i<=xs.length/\h.IsRevIter it a ((xs.length:Int) - 1 - (i:Int))) where
 mem:=by simp
 obj:=λ i h st b hb=>by
  have e:b=it:=by simpa using hb
  subst e;obtain⟨_,o,e,c,d⟩:=st;exact⟨o,e,λ v z=>by rw [d] at z;cases z⟩
 keep:=λ i h h' st k=>⟨st.1,st.2.at λ o e=>k it (by simp) o e⟩
 item:=by
  intro X hP hw hK hc i pins s σ H E I hf st hg;subst hP hw hK;obtain⟨hq,hlt⟩:=hg;obtain⟨its,rv,p,hz⟩:=I.list hq;have hx:xs[xs.length - 1 - i]? = some (xs[xs.length - 1 - i]'(by omega)):=K1 (by omega);obtain⟨u,hu,ru⟩:=rv.get hx;obtain⟨f0,f1,f2,f3,f4,f5⟩:=hf it (by simp);have st1:=st.2;rw [show ((xs.length:Int) - 1 - (i:Int))=((xs.length - 1 - i:Nat):Int) by omega] at st1;refine wpAny_pyNext_rev_item st1 p.isList (x:=u) (by simpa using hu) λ h' st' sb=>?_;have I1:Inv X pins σ H { s with heap:=h' }:=I.turned (t':=s.toks) (λ b o hb e=>(sb.2 b hb).trans e) f0 f1 f3 f4 f5;obtain⟨o,e,c,d⟩:=id st';rw [show (((xs.length - 1 - i:Nat):Int) - 1)=(xs.length:Int) - 1 - ((i+1:Nat):Int) by omega] at st';exact⟨u,rfl,rD (s:={ s with heap:=h' }) e c d (by decide) ⟨_,H,I1,ru,⟨rfl,hx⟩,⟨hlt,st'⟩,λ b hb=>(hf b hb).1⟩⟩
 done:=by
  intro X hP hw hK hc i pins s σ H E I hf st hg;subst hP hw hK;have e:i=xs.length:=hg;subst e;obtain⟨f0,f1,f2,f3,f4,f5⟩:=hf it (by simp);have st1:=st.2;rw [show ((xs.length:Int) - 1 - (xs.length:Int))=-1 by omega] at st1;exact wpAny_pyNext_rev_end (I.ok.hd hc) st1 λ h' eb=>⟨rfl,I.turned (t':=s.toks) (λ b o hb e=>eb b o hb e) f0 f1 f3 f4 f5⟩
 self:=λ _ _ _ _ _ st h=>wpAny_pyIter_revIter st.2 h
def HR(K:W.Frag)(a:Addr)(H:Hp)(R:It->Hp->Prop):List V->Prop:=λ xs=>R (Itv K a xs) H
theorem Fn(K:W.Frag)(a:Addr)(H:Hp)(R:It->Hp->Prop)(xs:List V):HR K a H R xs=R (Itv K a xs) H:=rfl
def G8(K:W.Frag)(R:It->Hp->Prop):List V->Hp->Prop:=λ vs H=>match vs with
 | [.ref a]=>aI (ay H a) (HR K a H R)
 | _=>False
theorem Fo(K:W.Frag)(R:It->Hp->Prop)(a:Addr)(H:Hp):G8 K R [.ref a] H=aI (ay H a) (HR K a H R):=rfl
def Kd(K:W.Frag)(ta:TA):TI:=λ σ H R=>ta σ H (G8 K R)
theorem FW(K:W.Frag)(ta:TA)(σ:St)(H:Hp)(R:It->Hp->Prop):Kd K ta σ H R=ta σ H (G8 K R):=rfl
section
variable {X:Cx}{tg:Expr}
theorem Et{a:Expr}{ta:TA}{p pos:Pos}(hg:Gl X "reversed")(hm:X.mg "reversed"=none)(ha:PA X [a] ta)(hs:starEach [a] X.env=[(false,eval a X.env)]:=by rfl):PI X tg (.Call (.Name "reversed" p) [a] [] pos) (Kd X.K ta):=by
 intro pins s σ H R I h;refine Call_ (eJ I hg hm (show bootBuiltins "reversed"=some (.type "reversed") by decide +kernel) (PyProof.Rows.callWith_type1 (thn (ha pos pins s σ H _ I h) λ us s1 ⟨vs,H1,I1,r1,q1⟩=>?_) hs rfl));unfold G8 at q1;split at q1
 ·rename_i b;obtain⟨xs,e,q⟩:=ai q1
  cases r1 with
  | cons r rr=>
   cases rr;cases r;obtain⟨its,rv,pl,hz⟩:=I1.list (SqL.of (bB e));refine call_reversed_list pl.isList ?_;have hsz:(its.toArray.size:Int)=(xs.length:Int):=by rw [←rv.length.symm];simp
   have I2:Inv X pins σ H1 { s1 with heap:=s1.heap.push (revObj b ((its.toArray.size:Int) - 1)) }:=I1.kept (t':=s1.toks) λ b o e=>K2 _ e;have hit:(s1.heap.push (revObj b ((its.toArray.size:Int) - 1))).IsRevIter s1.heap.objs.size b ((xs.length:Int) - 1 - ((0:Nat):Int)):=⟨_,Lh _ rfl,rfl,by rw [hsz];simp [revObj]⟩;refine wpAny_pyIter_revIter hit ⟨s1.heap.objs.size,[s1.heap.objs.size],_,_,H1,rfl,I2,wo b _ xs,⟨LD _,hit⟩,λ c hb=>?_,q⟩;have e:c=s1.heap.objs.size:=by simpa using hb
   subst e;exact I1.fpOk (Li _) (I1.hok.fresh (Li _))
 ·exact q1.elim
end
theorem CH{K:W.Frag}{a:Addr}{xs:List V}{g:TG}{tb:TS}{nx:St->Hp->Prop}{rt:VK}{bk ct:St->Hp->Prop}{σ:St}{H:Hp}(Pv:Nat->St->Hp->Prop)(h0:Pv 0 σ H)(hl:∀ i σ H,i<=xs.length->Pv i σ H->SqL K H a xs)
  (hs:∀ i x σ H,i < xs.length->xs[xs.length - 1 - i]? = some x->Pv i σ H->g x σ H (nh tb ⟨Pv (i+1),rt,nx,Pv (i+1)⟩)) (hd:∀ σ H,Pv xs.length σ H->nx σ H):zw g tb ⟨nx,rt,bk,ct⟩ σ (Itv K a xs) H:=by
 refine⟨λ i m σ H=>m=xs.length - i/\i<=xs.length/\Pv i σ H,⟨xs.length,by simp,LD _,h0⟩,?_⟩;rintro i m σ H ⟨rfl,hi,p⟩;have q:=hl i σ H hi p
 by_cases hlt:i < xs.length
 ·refine .inr ⟨⟨q,hlt⟩,Pv (i+1),λ σ' H' p'=>⟨xs.length - (i+1),by omega,rfl,hlt,p'⟩,λ x H' y=>?_⟩;obtain⟨e,y⟩:=y;subst e;exact hs i x σ _ hlt y p
 ·have e:i=xs.length:=by omega
  subst e;exact .inl ⟨rfl,hd σ H p⟩
theorem iF:∀ (n:Nat) (ns:List Int) (val:Nat->Int),(∀ i,val i=ns.getD i 0)->n<=ns.length->preSum val n=(ns.take n).sum
 | 0,ns,val,h,hl=>by simp [preSum]
 | n+1,ns,val,h,hl=>by
  have ih:=iF n ns val h (by omega)
  have e:ns.take (n+1)=ns.take n++[ns.getD n 0]:=by
   rw [List.take_succ,K1 (by omega)];simp [List.getD,K1 (show n < ns.length by omega)]
  rw [preSum,ih,e,List.sum_append,h];simp
def Aa(H:Hp)(Q:VK):List Int->Prop:=λ ns=>Q (.int ns.sum) H
theorem BN(H:Hp)(Q:VK)(ns:List Int):Aa H Q ns=Q (.int ns.sum) H:=rfl
def HG:List V->Hp->VK->Prop:=λ vs H Q=>match vs with
 | [.ref p]=>aI (ay H p) (gF (Aa H Q))
 | _=>False
theorem E8(p:Addr)(H:Hp)(Q:VK):HG [.ref p] H Q=aI (ay H p) (gF (Aa H Q)):=rfl
def zx(F:List Bool->Prop):List V->Prop:=λ xs=>∃ bs,xs=bs.map V.bl/\F bs
theorem tI:∀ {ns ms:List Bool},ns.map V.bl=ms.map V.bl->ns=ms
 | [],[],_=>rfl
 | [],_::_,h=>by cases h
 | _::_,[],h=>by cases h
 | i::r,j::t,h=>by
  simp only [LH,List.cons.injEq,V.bl.injEq] at h;rw [h.1,tI h.2]
theorem FK(F:List Bool->Prop)(bs:List Bool):zx F (bs.map V.bl)=F bs:=propext ⟨λ ⟨ms,e,h⟩=>by rw [tI e];exact h,λ h=>⟨bs,rfl,h⟩⟩
def Ai(H:Hp)(Q:VK):List Bool->Prop:=λ bs=>Q (.bl (bs.all id)) H
theorem Ca(H:Hp)(Q:VK)(bs:List Bool):Ai H Q bs=Q (.bl (bs.all id)) H:=rfl
def HK:List V->Hp->VK->Prop:=λ vs H Q=>match vs with
 | [.ref p]=>aI (ay H p) (zx (Ai H Q))
 | _=>False
theorem Ff(p:Addr)(H:Hp)(Q:VK):HK [.ref p] H Q=aI (ay H p) (zx (Ai H Q)):=rfl
section
variable {X:Cx}
theorem mv(hc:X.calm=true):bG X (.builtin "sum") HG:=by
 intro pins s σ H vs us Q I r h;unfold HG at h;split at h
 ·rename_i p;obtain⟨xs,e,ns,rfl,q⟩:=ai h
  cases r with
  | cons r rr=>
   cases rr;cases r;obtain⟨its,rv,pl,hz⟩:=I.list (SqL.of (bB e));have hlt:p < s.heap.objs.size:=by obtain⟨_,e,_⟩:=pl.isList;exact La e
   have hlen:its.length=ns.length:=by have:=rv.length;simpa using this.symm
   refine call_sum_walkAnyS (MO pl.isList ⟨s.heap.objs.size,_,_,_,_,_,_,λ i=>ns.getD i 0,rfl,(Walks.list (show X.A.in1.handled=none from I.ok.hd hc) _ p (Ll hlt) its.toArray).toS,⟨⟨_,Lh _ rfl,rfl,rfl⟩,pl.isList.push _⟩,λ b hb=>?_,λ i v hP=>?_,λ s' t' hm=>?_⟩)
   ·rw [L4]
    rcases Lz.mp hb with rfl|hb
    ·exact Nf _
    ·rw [Lq.mp hb];exact LY hlt
   ·have hv:its[i]? = some v:=by simpa using hP
    have hi:i < ns.length:=by rw [←hlen];exact(Lb.mp hv).1
    obtain⟨u,hu,ru⟩:=rv.get (i:=i) (x:=.int (ns.getD i 0)) (by rw [Lr,K1 hi];simp [List.getD,K1 hi]);rw [hv] at hu;cases hu;exact ru
   ·obtain⟨hp,g,d,tk,os⟩:=s'
    have kp:∀ b o,s.heap.get? b=some o->hp.get? b=some o:=λ b o e=>hm.heap b o (λ hmem=>by
     have:b=s.heap.objs.size:=by simpa using hmem
     subst this;exact absurd (La e) (LQ _)) (K2 _ e)
    have e1:g=s.gens:=hm.gens;have e2:d=s.drawn:=hm.drawn;have e3:os=s.os:=hm.os;subst e1 e2 e3;refine⟨.int ns.sum,H,I.kept (t':=tk) kp,?_,q⟩;have es:=iF its.toArray.size ns (λ i=>ns.getD i 0) (λ _=>rfl) (by simp [hlen]);rw [show its.toArray.size=ns.length by simp [hlen],Me] at es;rw [show its.toArray.size=ns.length by simp [hlen],es];exact⟨t',rfl⟩
 ·exact h.elim
theorem vD(bs:List Bool):(List.range bs.length).all (λ i=>bs.getD i false)=bs.all id:=by
 rw [MX,Ol,Ol];refine⟨λ h x hx=>?_,λ h i hi=>?_⟩
 ·obtain⟨i,hi,e⟩:=Mr hx;have:=h i (LF.mpr hi)
  simpa [List.getD,K1 hi,e] using this
 ·have hi':=LF.mp hi;have:=h (bs[i]) (MK hi')
  simpa [List.getD,K1 hi'] using this
theorem vg(hc:X.calm=true):bG X (.builtin "all") HK:=by
 intro pins s σ H vs us Q I r h;unfold HK at h;split at h
 ·rename_i p;obtain⟨xs,e,bs,rfl,q⟩:=ai h
  cases r with
  | cons r rr=>
   cases rr;cases r;obtain⟨its,rv,pl,hz⟩:=I.list (SqL.of (bB e));have hlt:p < s.heap.objs.size:=by obtain⟨_,e,_⟩:=pl.isList;exact La e
   have hlen:its.length=bs.length:=by have:=rv.length;simpa using this.symm
   refine call_all_walk (MO pl.isList ⟨s.heap.objs.size,_,_,_,_,_,λ i=>bs.getD i false,rfl,Walks.list (show X.A.in1.handled=none from I.ok.hd hc) _ p (Ll hlt) its.toArray,⟨⟨_,Lh _ rfl,rfl,rfl⟩,pl.isList.push _⟩,λ i v s' Q' E' hP hQ=>?_,λ h' tk hk=>?_⟩)
   ·have hv:its[i]? = some v:=by simpa using hP
    have hi:i < bs.length:=by rw [←hlen];exact(Lb.mp hv).1
    obtain⟨u,hu,ru⟩:=rv.get (i:=i) (x:=.bl (bs.getD i false)) (by rw [Lr,K1 hi];simp [List.getD,K1 hi]);rw [hv] at hu;cases hu;have e2:v=.bool (bs.getD i false):=ru;subst e2;exact MN hQ
   ·have kp:∀ b o,s.heap.get? b=some o->h'.get? b=some o:=λ b o e=>hk b o (λ hmem=>by
     have:b=s.heap.objs.size:=by simpa using hmem
     subst this;exact absurd (La e) (LQ _)) (K2 _ e)
    refine⟨.bl (bs.all id),H,I.kept (t':=tk) kp,?_,q⟩;rw [show its.toArray.size=bs.length by simp [hlen],vD];exact rfl
 ·exact h.elim
end
structure Src(prog:Program)(w:World)(it:Addr)(fr:List Addr)(st:Nat->Heap->Prop)(val:Nat->Option Value):Prop where
 mem:it∈fr
 there:∀ k h,st k h->∀ b∈fr,∃ o,h.get? b=some o
 keep:∀ k h h',st k h->(∀ b∈fr,∀ o,h.get? b=some o->h'.get? b=some o)->st k h'
 item:∀ (A:Around) k s v (Q:Value->Shared->Prop) (E:Value->Shared->Prop),st k s.heap->val k=some v->(∀ h',st (k+1) h'->Heap.SameBut it s.heap h'->Q v { s with heap:=h' })->wpAny (model prog w) A (Builtin.SmallTypes.nextOf (.ref it)) Q E s
 fin:∀ (A:Around) k s (Q:Value->Shared->Prop) (E:Value->Shared->Prop),A.handled=none->st k s.heap->val k=none->(∀ h' e,Heap.ExtBut it s.heap h'->(∃ o,h'.get? e=some o/\o.cls=.type "StopIteration")->E (.ref e) { s with heap:=h' })->wpAny (model prog w) A (Builtin.SmallTypes.nextOf (.ref it)) Q E s
theorem wu{prog:Program}{w:World}(it l:Addr)(hne:l ≠ it)(xs:Array Value):Src prog w it [it,l] (λ k h=>h.IsListIter it l k/\h.IsList l xs) (λ k=>xs[k]?) where
 mem:=Lj
 there:=λ k h st b hb=>by
  rcases Lz.mp hb with e|hb
  ·obtain⟨o,q,_⟩:=st.1;exact⟨o,by rw [e];exact q⟩
  ·obtain⟨o,q,_⟩:=st.2;exact⟨o,by rw [Lq.mp hb];exact q⟩
 keep:=λ k h h' st q=>⟨st.1.at λ o e=>q it (by simp) o e,st.2.at λ o e=>q l (by simp) o e⟩
 item:=λ A k s v Q E st hv hQ=>wpAny_nextOf_list_item st.1 st.2 hv λ h' a b=>hQ h' ⟨a,st.2.extBut b.extBut hne⟩ b
 fin:=λ A k s Q E hh st hv hE=>wpAny_nextOf_list_end hh st.1 st.2 hv hE
section
variable {prog:Program}{w:World}{A:Around}{E:Value->Shared->Prop}{s:Shared}
theorem kP{j t:Addr}{k:Nat}{xs:Array Value}{v:Value}{Q:Value->Shared->Prop}(hj:s.heap.IsTupleIter j t k)(ht:s.heap.IsTuple t xs)(hv:xs[k]? = some v)
  (hQ:∀ g,g.IsTupleIter j t (k+1)->Heap.SameBut j s.heap g->Q v { s with heap:=g }):wpAny (model prog w) A (Builtin.SmallTypes.nextOf (.ref j)) Q E s:=by
 obtain⟨oj,h0,h1,h2⟩:=id hj;obtain⟨ot,g0,_,n,g1⟩:=ht;unfold Builtin.SmallTypes.nextOf;refine wpAny_bind (wpAny_callSpecial?_slot (name:=Str.ofString "__next__") hj.typeIs F.slot_tuple_iterator_next (wpAny_call_entry F.slot_tuple_iterator_next hj.typeIs F.entry_tuple_iterator_next ?_ (F.args_tuple_iterator_next_1 _)));refine wpAny_bind (m:=field (.ref j) 0) (wpAny_field h0 h2 (x:=.ref t) rfl ?_)
 show wpAny _ _ (if (Value.ref t == Value.none)=true then _ else _) _ _ _
 rw [Lm (show ¬ ((.ref t:Value) == .none)=true from Lx)];refine K0 (m:=field (.ref j) 1) (Mf h0 h2 (x:=.int k 0) rfl ?_);refine K0 (m:=seqItems? (.ref t)) (Mm g0 g1 ?_);simp only [LI,hv];refine K0 (wpAny_setField h0 h2 (by simp) (Lf ⟨v,rfl,Lf (hQ _ ⟨_,LX _ h0 (Obj.isFreed_of_fields (Obj.data_mapFields h2 _)),(Obj.cls_mapFields ..).trans h1,?_⟩ (Heap.SameBut.update ..))⟩));rw [Obj.data_mapFields h2];simp [rawInt]
theorem mP{j t:Addr}{k:Nat}{xs:Array Value}{Q:Value->Shared->Prop}(hh:A.handled=none)(hj:s.heap.IsTupleIter j t k)(ht:s.heap.IsTuple t xs)(hv:xs[k]? = none)
  (hE:∀ g e,Heap.ExtBut j s.heap g->(∃ o,g.get? e=some o/\o.cls=.type "StopIteration")->E (.ref e) { s with heap:=g }):wpAny (model prog w) A (Builtin.SmallTypes.nextOf (.ref j)) Q E s:=by
 obtain⟨oj,h0,h1,h2⟩:=id hj;obtain⟨ot,g0,_,n,g1⟩:=ht;unfold Builtin.SmallTypes.nextOf;refine wpAny_bind (wpAny_callSpecial?_slot (name:=Str.ofString "__next__") hj.typeIs F.slot_tuple_iterator_next (wpAny_call_entry F.slot_tuple_iterator_next hj.typeIs F.entry_tuple_iterator_next ?_ (F.args_tuple_iterator_next_1 _)));refine wpAny_bind (m:=field (.ref j) 0) (wpAny_field h0 h2 (x:=.ref t) rfl ?_)
 show wpAny _ _ (if (Value.ref t == Value.none)=true then _ else _) _ _ _
 rw [Lm (show ¬ ((.ref t:Value) == .none)=true from Lx)];refine K0 (m:=field (.ref j) 1) (Mf h0 h2 (x:=.int k 0) rfl ?_);refine K0 (m:=seqItems? (.ref t)) (Mm g0 g1 ?_);simp only [LI,hv];refine K0 (N7 (K0 (wpAny_setField h0 h2 (by simp) (K0 (m:=newExc (.type "StopIteration") []) ?_))));simp only [newExc,newTuple];refine K0 (wpAny_newObj_type (K0 (m:=firstArgMember _ _) (wpAny_of_eq (a:=Value.none) (by first|rfl|(simp only [firstArgMember];rfl)) (wpAny_newObj_type ?_ (by size_fits)))) (by size_fits));simp only [raiseNew]
 refine K0 (wpAny_handled ?_);first|rw [show A.in1.handled=none from hh]|rw [hh]
 exact K0 (Lf (wpAny_throw (hE _ _ (((Heap.SameBut.update ..).extBut.push _).push _) ⟨_,Lh _ rfl,rfl⟩)))
theorem AJ(it l:Addr)(hne:l ≠ it)(xs:Array Value):Src prog w it [it,l] (λ k h=>h.IsTupleIter it l k/\h.IsTuple l xs) (λ k=>xs[k]?) where
 mem:=Lj
 there:=λ k h st b hb=>by
  rcases Lz.mp hb with e|hb
  ·obtain⟨o,q,_⟩:=st.1;exact⟨o,by rw [e];exact q⟩
  ·obtain⟨o,q,_⟩:=st.2;exact⟨o,by rw [Lq.mp hb];exact q⟩
 keep:=λ k h h' st q=>⟨st.1.at λ o e=>q it (by simp) o e,st.2.at λ o e=>q l (by simp) o e⟩
 item:=λ A k s v Q E st hv hQ=>kP st.1 st.2 hv λ h' a b=>hQ h' ⟨a,st.2.extBut b.extBut hne⟩ b
 fin:=λ A k s Q E hh st hv hE=>mP hh st.1 st.2 hv hE
structure dt(z TI TO i j:Addr)(f g:List Addr):Prop where
 ti:TI ≠ z/\TI ≠ TO/\TI ≠ i/\TI ≠ j
 zt:z ≠ TO
 zf:z ∉ f
 zg:z ∉ g
 tf:TO ∉ f
 tg:TO ∉ g
 ig:i ∉ g
 jf:j ∉ f
variable {z TI TO i j:Addr}{f g:List Addr}{ti tj:Nat->Heap->Prop}{vi vj:Nat->Option Value}{k m:Nat}{x y a b:Value}
theorem cm{p q:Addr}{l:List Addr}(hp:p∈l)(hq:q ∉ l):p ≠ q:=λ e=>hq (e ▸ hp)
theorem Src.but{prog:Program}{w:World}{it:Addr}{fr:List Addr}{st:Nat->Heap->Prop}{val:Nat->Option Value}(S:Src prog w it fr st val){k:Nat}{c:Addr}{h h':Heap}(q:st k h)(e:Heap.ExtBut c h h')(hc:c ∉ fr):st k h':=
 S.keep k h h' q λ b hb o ho=>e b o (cm hb hc) ho
theorem tT(S:Src prog w i f ti vi)(T:Src prog w j g tj vj)(D:dt z TI TO i j f g){Q:Value->Shared->Prop}
  (hz:IsZip s.heap z TI TO .none) (hTI:IsPair s.heap TI (.ref i) (.ref j)) (hTO:IsPair s.heap TO a b) (hi:ti k s.heap) (hj:tj m s.heap) (hx:vi k=some x) (hy:vj m=some y)
  (hQ:∀ h',IsZip h' z TI TO (rawInt s.heap.objs.size)->IsPair h' TO x y->ti (k+1) h'->tj (m+1) h'->IsPair h' s.heap.objs.size x y->h'.objs.size=s.heap.objs.size+1->(∀ c o,c ∉ [z,TO,i,j]->s.heap.get? c=some o->h'.get? c=some o)->Q (.ref s.heap.objs.size) { s with heap:=h' }) :
  wpAny (model prog w) A (Builtin.«zip.__next__» ⟨[.ref z],[]⟩) (λ fin s'=>∃ v,fin=.done (.ret v)/\Q v s') E s:=by
 have iz:i ≠ z:=cm S.mem D.zf;have jz:j ≠ z:=cm T.mem D.zg;have iTO:i ≠ TO:=cm S.mem D.tf;have jTO:j ≠ TO:=cm T.mem D.tg;have ij:i ≠ j:=cm S.mem D.jf;refine wpAny_bind (m:=field (.ref z) 2) (wpAny_field hz rfl (x:=.bool false) rfl ?_);refine wpAny_bind (m:=field (.ref z) 3) (wpAny_field hz rfl (x:=.ref TI) rfl (wpAny_bind (wpAny_seqItems hTI rfl ?_)));refine wpAny_bind (m:=Builtin.SmallTypes.ownedTupleIsFree (.ref z)) ?_;unfold Builtin.SmallTypes.ownedTupleIsFree;refine wpAny_bind (wpAny_field hz rfl (x:=.none) rfl (wpAny_pure ?_));simp only [if_true];refine wpAny_bind (wpAny_rule (wpAny_bind (wpAny_field hz rfl (x:=.ref TO) rfl (wpAny_bind (wpAny_setField_rec hz (by simp) λ q1 z1 s1=>?_)))));replace z1:IsZip q1 z TI TO .ellipsis:=z1;refine wpAny_bind ?_;simp only [List.zipIdx_cons,List.zipIdx_nil,forIn_cons,List.forIn_nil];refine wpAny_bind (wpAny_bind (wpAny_onRaise (wpAny_bind (m:=Builtin.SmallTypes.nextOf (.ref i)) (S.item _ k _ x _ _ (S.but hi s1.extBut D.zf) hx λ q2 i2 s2=>wpAny_pure ?_))));have o2:IsPair q2 TO a b:=s2.extBut _ _ iTO.symm (s1.extBut _ _ D.zt.symm hTO);refine wpAny_bind (wpAny_seqItems o2 rfl (wpAny_bind (wpAny_updateSeq_pair o2 λ q3 o3 s3=>wpAny_bind (wpAny_letGo (wpAny_pure ?_)))));replace o3:IsPair q3 TO x b:=o3;have j3:tj m q3:=T.but (T.but (T.but hj s1.extBut D.zg) s2.extBut D.ig) s3.extBut D.tg;refine wpAny_bind (wpAny_bind (wpAny_onRaise (wpAny_bind (m:=Builtin.SmallTypes.nextOf (.ref j)) (T.item _ m _ y _ _ j3 hy λ q4 j4 s4=>wpAny_pure ?_))));have o4:IsPair q4 TO x b:=s4.extBut _ _ jTO.symm o3;refine wpAny_bind (wpAny_seqItems o4 rfl (wpAny_bind (wpAny_updateSeq_pair o4 λ q5 o5 s5=>wpAny_bind (wpAny_letGo (wpAny_pure (wpAny_pure ?_))))));replace o5:IsPair q5 TO x y:=o5;refine wpAny_bind (wpAny_seqItems o5 rfl (wpAny_bind (wpAny_newTuple ?_)));have sz:q5.objs.size=s.heap.objs.size:=by rw [s5.1,s4.1,s3.1,s2.1,s1.1]
 have z5:IsZip q5 z TI TO .ellipsis:=s5.extBut _ _ D.zt (s4.extBut _ _ jz.symm (s3.extBut _ _ D.zt (s2.extBut _ _ iz.symm z1)))
 have k5:∀ c o,c ∉ [z,TO,i,j]->s.heap.get? c=some o->q5.get? c=some o:=λ c o hc e=>by
  simp only [Lz,Ld,L8,NP] at hc;exact s5.extBut _ _ hc.2.1 (s4.extBut _ _ hc.2.2.2 (s3.extBut _ _ hc.2.1 (s2.extBut _ _ hc.2.2.1 (s1.extBut _ _ hc.1 e))))
 have i5:ti (k+1) q5:=S.but (S.but (S.but i2 s3.extBut D.tf) s4.extBut D.jf) s5.extBut D.tf;have j5:tj (m+1) q5:=T.but j4 s5.extBut D.tg;have zlt:z < q5.objs.size:=Heap.lt_size z5;refine wpAny_bind (m:=Builtin.SmallTypes.ownedTupleHandOut (.ref z) (.ref q5.objs.size)) ?_;unfold Builtin.SmallTypes.ownedTupleHandOut;have z6:IsZip (q5.push { cls:=.type "tuple",data:=.seq #[x,y] }) z TI TO .ellipsis:=Heap.get?_push_of_some _ z5;refine wpAny_bind (wpAny_setField_rec z6 (by simp) λ q7 z7 s7=>?_);replace z7:IsZip q7 z TI TO (rawInt q5.objs.size):=z7;refine wpAny_setField_rec z7 (by simp) λ q8 z8 s8=>?_;replace z8:IsZip q8 z TI TO (rawInt q5.objs.size):=z8;have up:∀ c o,c ≠ z->q5.get? c=some o->q8.get? c=some o:=λ c o hc e=>s8.extBut _ _ hc (s7.extBut _ _ hc (Heap.get?_push_of_some _ e));have t8:IsPair q8 q5.objs.size x y:=s8.extBut _ _ (Nat.ne_of_gt zlt) (s7.extBut _ _ (Nat.ne_of_gt zlt) (Heap.get?_push_size _ rfl));have n8:q8.objs.size=q5.objs.size+1:=by rw [s8.1,s7.1,Heap.size_push]
 rw [sz] at z8 t8 n8;refine Lf ⟨_,rfl,?_⟩
 show Q (.ref q5.objs.size) _
 rw [sz];exact hQ q8 z8 (up _ _ D.zt.symm o5) (S.keep _ _ _ i5 λ c hc o e=>up c o (cm hc D.zf) e) (T.keep _ _ _ j5 λ c hc o e=>up c o (cm hc D.zg) e) t8 n8 λ c o hc e=>up c o (λ q=>hc (by simp [q])) (k5 c o hc e)
theorem vZ(hh:A.handled=none)(S:Src prog w i f ti vi)(T:Src prog w j g tj vj)(D:dt z TI TO i j f g){Q:Fin->Shared->Prop}
  (hz:IsZip s.heap z TI TO .none) (hTI:IsPair s.heap TI (.ref i) (.ref j)) (hTO:IsPair s.heap TO a b) (hi:ti k s.heap) (hj:tj m s.heap) (hxy:vi k=none\/vj m=none)
  (hE:∀ h' e,(∀ c o,c ∉ [z,TO,i,j]->s.heap.get? c=some o->h'.get? c=some o)->(∃ o,h'.get? e=some o/\o.cls=.type "StopIteration")->E (.ref e) { s with heap:=h' }) :
  wpAny (model prog w) A (Builtin.«zip.__next__» ⟨[.ref z],[]⟩) Q E s:=by
 have iz:i ≠ z:=cm S.mem D.zf;have jz:j ≠ z:=cm T.mem D.zg;have iTO:i ≠ TO:=cm S.mem D.tf;have jTO:j ≠ TO:=cm T.mem D.tg;refine wpAny_bind (m:=field (.ref z) 2) (wpAny_field hz rfl (x:=.bool false) rfl ?_);refine wpAny_bind (m:=field (.ref z) 3) (wpAny_field hz rfl (x:=.ref TI) rfl (wpAny_bind (wpAny_seqItems hTI rfl ?_)));refine wpAny_bind (m:=Builtin.SmallTypes.ownedTupleIsFree (.ref z)) ?_;unfold Builtin.SmallTypes.ownedTupleIsFree;refine wpAny_bind (wpAny_field hz rfl (x:=.none) rfl (wpAny_pure ?_));simp only [if_true];refine wpAny_bind (wpAny_rule (wpAny_bind (wpAny_field hz rfl (x:=.ref TO) rfl (wpAny_bind (wpAny_setField_rec hz (by simp) λ q1 z1 s1=>?_)))));replace z1:IsZip q1 z TI TO .ellipsis:=z1;refine wpAny_bind ?_;simp only [List.zipIdx_cons,List.zipIdx_nil,forIn_cons,List.forIn_nil];refine wpAny_bind (wpAny_bind (wpAny_onRaise (wpAny_bind (m:=Builtin.SmallTypes.nextOf (.ref i)) ?_)))
 cases hx:vi k with
 | none=>
  refine S.fin _ k _ _ _ hh (S.but hi s1.extBut D.zf) hx λ q2 e s2 ⟨oe,he,hce⟩=>?_;have z2:IsZip q2 z TI TO .ellipsis:=s2 _ _ iz.symm z1;have ez:e ≠ z:=λ q=>by subst q;rw [z2] at he;cases he;simp at hce
  refine MI z2 (by simp) λ q3 _ s3=>hE q3 e (λ c o hc q=>?_) ⟨oe,s3.extBut _ _ ez he,hce⟩;simp only [Lz,Ld,L8,NP] at hc;exact s3.extBut _ _ hc.1 (s2 _ _ hc.2.2.1 (s1.extBut _ _ hc.1 q))
 | some x=>
  have hy:vj m=none:=hxy.resolve_left (by rw [hx];exact Option.some_ne_none x);refine S.item _ k _ x _ _ (S.but hi s1.extBut D.zf) hx λ q2 i2 s2=>Lf ?_;have o2:IsPair q2 TO a b:=s2.extBut _ _ iTO.symm (s1.extBut _ _ D.zt.symm hTO);refine K0 (Mm o2 rfl (K0 (OE o2 λ q3 o3 s3=>K0 (Om (Lf ?_)))));have j3:tj m q3:=T.but (T.but (T.but hj s1.extBut D.zg) s2.extBut D.ig) s3.extBut D.tg;refine K0 (K0 (OU (K0 (m:=Builtin.SmallTypes.nextOf (.ref j)) (T.fin _ m _ _ _ hh j3 hy λ q4 e s4 ⟨oe,he,hce⟩=>?_))));have z4:IsZip q4 z TI TO .ellipsis:=s4 _ _ jz.symm (s3.extBut _ _ D.zt (s2.extBut _ _ iz.symm z1));have ez:e ≠ z:=λ q=>by subst q;rw [z4] at he;cases he;simp at hce
  refine MI z4 (by simp) λ q5 _ s5=>hE q5 e (λ c o hc q=>?_) ⟨oe,s5.extBut _ _ ez he,hce⟩;simp only [Lz,Ld,L8,NP] at hc;exact s5.extBut _ _ hc.1 (s4 _ _ hc.2.2.2 (s3.extBut _ _ hc.2.1 (s2.extBut _ _ hc.2.2.1 (s1.extBut _ _ hc.1 q))))
theorem eM(S:Src prog w i f ti vi)(T:Src prog w j g tj vj)(D:dt z TI TO i j f g){Q:Option Value->Shared->Prop}
  (hz:IsZip s.heap z TI TO .none) (hTI:IsPair s.heap TI (.ref i) (.ref j)) (hTO:IsPair s.heap TO a b) (hi:ti k s.heap) (hj:tj m s.heap) (hx:vi k=some x) (hy:vj m=some y)
  (hQ:∀ h',IsZip h' z TI TO (rawInt s.heap.objs.size)->IsPair h' TO x y->ti (k+1) h'->tj (m+1) h'->IsPair h' s.heap.objs.size x y->h'.objs.size=s.heap.objs.size+1->(∀ c o,c ∉ [z,TO,i,j]->s.heap.get? c=some o->h'.get? c=some o)->Q (some (.ref s.heap.objs.size)) { s with heap:=h' }) :
  wpAny (model prog w) A (pyNext (.ref z)) Q E s:=by
 have ty:s.TypeIs (.ref z) "zip":=⟨_,hz,rfl⟩;unfold pyNext;exact wpAny_bind (wpAny_attempt (wpAny_callSpecial?_slot (name:=Str.ofString "__next__") ty F.slot_zip_next (wpAny_call_entry F.slot_zip_next ty F.entry_zip_next (tT S T D hz hTI hTO hi hj hx hy λ h' c1 c2 c3 c4 c5 c6 c7=>wpAny_pure (hQ h' c1 c2 c3 c4 c5 c6 c7)) (F.args_zip_next_1 _))))
theorem fL(hh:A.handled=none)(S:Src prog w i f ti vi)(T:Src prog w j g tj vj)(D:dt z TI TO i j f g){Q:Option Value->Shared->Prop}
  (hz:IsZip s.heap z TI TO .none) (hTI:IsPair s.heap TI (.ref i) (.ref j)) (hTO:IsPair s.heap TO a b) (hi:ti k s.heap) (hj:tj m s.heap) (hxy:vi k=none\/vj m=none)
  (hQ:∀ h',(∀ c o,c ∉ [z,TO,i,j]->s.heap.get? c=some o->h'.get? c=some o)->Q none { s with heap:=h' }):wpAny (model prog w) A (pyNext (.ref z)) Q E s:=by
 have ty:s.TypeIs (.ref z) "zip":=⟨_,hz,rfl⟩;unfold pyNext;refine wpAny_bind (wpAny_attempt (wpAny_callSpecial?_slot (name:=Str.ofString "__next__") ty F.slot_zip_next (wpAny_call_entry F.slot_zip_next ty F.entry_zip_next (vZ (show A.in1.handled=none from hh) S T D hz hTI hTO hi hj hxy λ h' e kp he=>?_) (F.args_zip_next_1 _))));obtain⟨o,ho,hc⟩:=he;exact wpAny_bind (wpAny_isInstance (T := "StopIteration") (b:=true) ⟨o,ho,hc⟩ isSubtype_stop (wpAny_pure (hQ _ kp)))
end
def SeqAt(h:Heap)(k:Bool)(l:Addr)(xs:Array Value):Prop:=match k with
 | true=>h.IsTuple l xs
 | false=>h.IsList l xs
def b6(h:Heap)(k:Bool)(it l:Addr)(n:Nat):Prop:=match k with
 | true=>h.IsTupleIter it l n
 | false=>h.IsListIter it l n
def vS(k:Bool)(l:Addr):Obj:=match k with
 | true=>{ cls:=.type "tuple_iterator",data:=.fields #[.ref l,.int 0 0] }
 | false=>{ cls:=.type "list_iterator",data:=.fields #[.ref l,.int 0 0] }
theorem SeqAt.at{h h':Heap}{k:Bool}{l:Addr}{xs:Array Value}(q:SeqAt h k l xs)(e:∀ o,h.get? l=some o->h'.get? l=some o):SeqAt h' k l xs:=by
 cases k
 ·exact Heap.IsList.at q e
 ·exact Heap.IsTuple.at q e
theorem SeqAt.obj{h:Heap}{k:Bool}{l:Addr}{xs:Array Value}(q:SeqAt h k l xs):∃ o n,h.get? l=some o/\o.data=.seq xs n:=by
 cases k
 ·obtain⟨o,e,_,n,d⟩:=(show h.IsList l xs from q);exact⟨o,n,e,d⟩
 ·obtain⟨o,e,_,n,d⟩:=(show h.IsTuple l xs from q);exact⟨o,n,e,d⟩
theorem b6.at{h h':Heap}{k:Bool}{it l:Addr}{n:Nat}(q:b6 h k it l n)(e:∀ o,h.get? it=some o->h'.get? it=some o):b6 h' k it l n:=by
 cases k
 ·exact Heap.IsListIter.at q e
 ·exact Heap.IsTupleIter.at q e
theorem b6.obj{h:Heap}{k:Bool}{it l:Addr}{n:Nat}(q:b6 h k it l n):∃ o fs,h.get? it=some o/\o.data=.fields fs:=by
 cases k
 ·obtain⟨o,e,_,d⟩:=(show h.IsListIter it l n from q);exact⟨o,_,e,d⟩
 ·obtain⟨o,e,_,d⟩:=(show h.IsTupleIter it l n from q);exact⟨o,_,e,d⟩
theorem gp{prog:Program}{w:World}(k:Bool)(it l:Addr)(hne:l ≠ it)(xs:Array Value):Src prog w it [it,l] (λ n h=>b6 h k it l n/\SeqAt h k l xs) (λ n=>xs[n]?):=by
 cases k
 ·exact wu it l hne xs
 ·exact AJ it l hne xs
section
variable {prog:Program}{w:World}{A:Around}{E:Value->Shared->Prop}{s:Shared}
theorem sQ{k:Bool}{l:Addr}{xs:Array Value}{Q:Value->Shared->Prop}(h:SeqAt s.heap k l xs)(hQ:Q (.ref s.heap.objs.size) { s with heap:=s.heap.push (vS k l) }):wpAny (model prog w) A (pyIter (.ref l)) Q E s:=by
 cases k
 ·exact MO h hQ
 ·exact wpAny_pyIter_tuple h hQ
abbrev zq1(ka:Bool)(a:Addr)(h:Heap):Heap:=h.push (vS ka a)
abbrev zq2(ka kb:Bool)(a b:Addr)(h:Heap):Heap:=(zq1 ka a h).push (vS kb b)
abbrev zq3(ka kb:Bool)(a b:Addr)(h:Heap):Heap:=(zq2 ka kb a b h).push { cls:=.type "tuple",data:=.seq #[.ref h.objs.size,.ref (zq1 ka a h).objs.size] }
abbrev zq4(ka kb:Bool)(a b:Addr)(h:Heap):Heap:=(zq3 ka kb a b h).push { cls:=.type "tuple",data:=.seq #[.none,.none] }
abbrev zq5(ka kb:Bool)(a b:Addr)(h:Heap):Heap:=(zq4 ka kb a b h).push { cls:=.type "zip",data:=.fields #[.none,.bool false,.bool false,.ref (zq2 ka kb a b h).objs.size,.ref (zq3 ka kb a b h).objs.size] }
theorem tR(ka kb:Bool)(a b:Addr)(xs ys:Array Value):Meets (Builtin.«zip.__new__» ⟨[.type "zip",.ref a,.ref b],[]⟩) (λ _ R s=>SeqAt s.heap ka a xs/\SeqAt s.heap kb b ys/\R (.ok (.ret (.ref (zq4 ka kb a b s.heap).objs.size))) { s with heap:=zq5 ka kb a b s.heap }):=
 .of_wp λ prog w A R s h=>by
  obtain⟨hp,g,d,tk,os⟩:=s;obtain⟨h1,h2,h⟩:=h;have hsub:=sub_zip;have q1:SeqAt (Shared.heap ⟨hp,g,d,tk,os⟩) ka a xs:=h1;have q2:SeqAt (Shared.heap ⟨hp.push (vS ka a),g,d,tk,os⟩) kb b ys:=h2.at λ o e=>K2 _ e
  wp_walk using sQ q1,sQ q2
  exact⟨_,rfl,h⟩
theorem tE{ka kb:Bool}{a b:Addr}{xs ys:Array Value}{Q:Value->Shared->Prop}(h1:SeqAt s.heap ka a xs)(h2:SeqAt s.heap kb b ys)
  (h:∀ h' n,n=s.heap.objs.size->IsZip h' (n+4) (n+2) (n+3) .none->IsPair h' (n+2) (.ref n) (.ref (n+1))->IsPair h' (n+3) .none .none->b6 h' ka n a 0->b6 h' kb (n+1) b 0->h'.objs.size=n+5->(∀ c o,s.heap.get? c=some o->h'.get? c=some o)->Q (.ref (n+4)) { s with heap:=h' }) :
  wpAny (model prog w) A (call (.type "zip") [.ref a,.ref b]) Q E s:=by
 refine callType_new F.called_zip (by decide) (F.typeCall_zip_2 _ _) (F.newCall_zip_2 _ _) (λ ob=>F.args_object_init_3 ob _ _) F.entry_zip_new (tR ka kb a b xs ys) ⟨h1,h2,?_⟩;have n1:(zq1 ka a s.heap).objs.size=s.heap.objs.size+1:=L4 ..;have n2:(zq2 ka kb a b s.heap).objs.size=s.heap.objs.size+2:=by rw [L4,n1]
 have n3:(zq3 ka kb a b s.heap).objs.size=s.heap.objs.size+3:=by rw [L4,n2]
 have n4:(zq4 ka kb a b s.heap).objs.size=s.heap.objs.size+4:=by rw [L4,n3]
 have n5:(zq5 ka kb a b s.heap).objs.size=s.heap.objs.size+5:=by rw [L4,n4]
 have f1:b6 (zq1 ka a s.heap) ka s.heap.objs.size a 0:=by
  cases ka<;>exact⟨_,Lh _ rfl,rfl,rfl⟩
 have f2:b6 (zq2 ka kb a b s.heap) kb (zq1 ka a s.heap).objs.size b 0:=by
  cases kb<;>exact⟨_,Lh _ rfl,rfl,rfl⟩
 have u2:∀ c o,(zq2 ka kb a b s.heap).get? c=some o->(zq5 ka kb a b s.heap).get? c=some o:=λ c o e=>K2 _ (K2 _ (K2 _ e));have g5:(zq5 ka kb a b s.heap).get? (zq4 ka kb a b s.heap).objs.size=some _:=Lh _ rfl;have g4:(zq5 ka kb a b s.heap).get? (zq3 ka kb a b s.heap).objs.size=some _:=K2 _ (Lh _ rfl);have g3:(zq5 ka kb a b s.heap).get? (zq2 ka kb a b s.heap).objs.size=some _:=K2 _ (K2 _ (Lh _ rfl));have e1:b6 (zq5 ka kb a b s.heap) ka s.heap.objs.size a 0:=f1.at λ o e=>u2 _ o (K2 _ e);have e2:b6 (zq5 ka kb a b s.heap) kb (zq1 ka a s.heap).objs.size b 0:=f2.at λ o e=>u2 _ o e
 show _/\_
 rw [n2,n3,n4] at g5;rw [n1,n2] at g3;rw [n3] at g4;rw [n1] at e2;rw [n4];exact⟨⟨_,g5,rfl⟩,h _ _ rfl g5 g3 g4 e1 e2 n5 λ c o e=>u2 c o (K2 _ (K2 _ e))⟩
end
section
variable {X:Cx}{pins:List (Addr × Obj)}{σ:List (Option V)}{H:Hp}{s:Shared}{h':Heap}
theorem Inv.turnNew{t':Nat}{ch:List Addr}{n:Addr}{o:HO}(I:Inv X pins σ H s)(hch:∀ b∈ch,k9 X pins H b)(k:∀ b ob,b ∉ ch->s.heap.get? b=some ob->h'.get? b=some ob)(hn:s.heap.objs.size<=n)(new:aM X.prog X.w (upd H n o) h' n o) :
  Inv X pins σ (upd H n o) { s with heap:=h',toks:=t' }:=by
 have fn:=I.hok.fresh hn;have up:∀ {b u},H b=some u->upd H n o b=some u:=λ {b u} e=>by rw [af (bD e fn)];exact e
 have nch:∀ {b u},H b=some u->b ∉ ch:=λ {b u} e z=>by rw [(hch b z).1] at e;cases e
 refine I.step (g':=s.gens) (d':=s.drawn) (ch:=ch) (λ b hb=>⟨(hch b hb).2.2.2.1,(hch b hb).2.1,(hch b hb).2.2.2.2.1,(hch b hb).2.2.2.2.2⟩) (λ b ob _ _ hc e _=>k b ob hc e) (λ b ob _ _ hc e _=>⟨ob.slots,k b ob hc e⟩)
  (λ b ob _ e q=>?_) (λ b ob hc e=>⟨ob,k b ob hc e⟩) (λ _ _ e=>up e) (λ _ _ _ e=>up e) (λ b ps e=>⟨#[],by rw [up e];simp⟩) (λ m hm=>?_) (λ b u e=>?_) I.bare
 ·rw [af (Ll (LA (La e) hn))];exact q
 ·obtain⟨ol,es,ep,ho,r⟩:=hm;exact⟨ol,es,ep,k _ ol (λ z=>(hch _ z).2.1 rfl) ho,r⟩
 ·by_cases hb:b=n
  ·subst hb;rw [ag] at e;cases e;exact new
  ·rw [af hb] at e;refine(I.hok b u e).stay (λ c v hc q=>k c v ?_ q) (λ c q=>up q) λ c xs q=>up q
   rcases hc with rfl|hc
   ·exact nch e
   ·exact nch hc
theorem Inv.turnL{t':Nat}{ch:List Addr}(I:Inv X pins σ H s)(hch:∀ b∈ch,k9 X pins H b)(k:∀ b ob,b ∉ ch->s.heap.get? b=some ob->h'.get? b=some ob):Inv X pins σ H { s with heap:=h',toks:=t' }:=by
 have nch:∀ {b u},H b=some u->b ∉ ch:=λ {b u} e z=>by rw [(hch b z).1] at e;cases e
 refine I.step (g':=s.gens) (d':=s.drawn) (ch:=ch) (λ b hb=>⟨(hch b hb).2.2.2.1,(hch b hb).2.1,(hch b hb).2.2.2.2.1,(hch b hb).2.2.2.2.2⟩) (λ b ob _ _ hc e _=>k b ob hc e) (λ b ob _ _ hc e _=>⟨ob.slots,k b ob hc e⟩)
  (λ _ _ _ _ q=>q) (λ b ob hc e=>⟨ob,k b ob hc e⟩) (λ _ _ e=>e) (λ _ _ _ e=>e) (λ b ps e=>⟨#[],by rw [e];simp⟩) (λ m hm=>?_) (λ b u e=>?_) I.bare
 ·obtain⟨ol,es,ep,ho,r⟩:=hm;exact⟨ol,es,ep,k _ ol (λ z=>(hch _ z).2.1 rfl) ho,r⟩
 ·refine(I.hok b u e).stay (λ c v hc q=>k c v ?_ q) (λ _ q=>q) λ _ _ q=>q
  rcases hc with rfl|hc
  ·exact nch e
  ·exact nch hc
end
def SqK(k:Bool)(H:Hp)(a:Addr)(xs:List V):Prop:=match k with
 | true=>H a=some (.tup xs)
 | false=>H a=some (.lst xs)
theorem SqK.ne{k:Bool}{H:Hp}{a b:Addr}{xs:List V}(h:SqK k H a xs)(e:H b=none):a ≠ b:=λ z=>by
 subst z;cases k
 ·rw [show H a=some (.lst xs) from h] at e;cases e
 ·rw [show H a=some (.tup xs) from h] at e;cases e
theorem Inv.sq{X:Cx}{pins:List (Addr × Obj)}{σ:St}{H:Hp}{s:Shared}{k:Bool}{a:Addr}{xs:List V}(I:Inv X pins σ H s)(h:SqK k H a xs):∃ its:List Value,aL xs its/\SeqAt s.heap k a its.toArray:=by
 cases k
 ·obtain⟨its,r,p,_⟩:=I.list (SqL.of h);exact⟨its,r,p.isList⟩
 ·obtain⟨its,r,p,_⟩:=I.tuple (SqT.of h);exact⟨its,r,p⟩
def Itz(ka kb:Bool)(a b:Addr)(xs ys:List V):It:=
 ⟨λ i H=>SqK ka H a xs/\SqK kb H b ys/\i < xs.length/\i < ys.length,λ i H x H'=>∃ p u v,H p=none/\x=.ref p/\xs[i]? = some u/\ys[i]? = some v/\H'=upd H p (.tup [u,v]),λ i H=>SqK ka H a xs/\SqK kb H b ys/\(xs.length<=i\/ys.length<=i)⟩
def Tnz(ka kb:Bool)(a b z TI TO p q:Addr)(i:Nat)(h:Heap):Prop:=IsZip h z TI TO .none/\IsPair h TI (.ref p) (.ref q)/\(∃ u v,IsPair h TO u v)/\b6 h ka p a i/\b6 h kb q b i
theorem wm{P:Program}{w:World}{K:W.Frag}{elts:List Expr}{x1}{tp:Pos}(ka kb:Bool)(a b z TI TO p q:Addr)(xs ys:List V)(nd:[z,TI,TO,p,q].Nodup):vG P w K (.Tuple elts x1 tp) (Itz ka kb a b xs ys) [z,TI,TO,p,q] z (Tnz ka kb a b z TI TO p q) where
 mem:=Lj
 obj:=λ i h st c hc=>by
  obtain⟨e1,e2,⟨u,v,e3⟩,e4,e5⟩:=st;simp only [Lz,Ld,L8] at hc
  rcases hc with rfl|rfl|rfl|rfl|rfl
  ·exact⟨_,e1,λ v z=>by cases z⟩
  ·exact⟨_,e2,λ v z=>by cases z⟩
  ·exact⟨_,e3,λ v z=>by cases z⟩
  ·obtain⟨o,fs,e,d⟩:=e4.obj;exact⟨o,e,λ v z=>by rw [d] at z;cases z⟩
  ·obtain⟨o,fs,e,d⟩:=e5.obj;exact⟨o,e,λ v z=>by rw [d] at z;cases z⟩
 keep:=λ i h h' st k=>by
  obtain⟨e1,e2,⟨u,v,e3⟩,e4,e5⟩:=st;exact⟨k z (by simp) _ e1,k TI (by simp) _ e2,⟨u,v,k TO (by simp) _ e3⟩,e4.at λ o e=>k p (by simp) o e,e5.at λ o e=>k q (by simp) o e⟩
 item:=by
  intro X hP hw hK hc i pins s σ H E I hf st hg;subst hP hw hK;obtain⟨e1,e2,⟨u0,v0,e3⟩,e4,e5⟩:=st;obtain⟨ha,hb,l1,l2⟩:=hg;obtain⟨as,ra,sa⟩:=I.sq ha;obtain⟨bs,rb,sb⟩:=I.sq hb;have hx:xs[i]? = some xs[i]:=K1 l1;have hy:ys[i]? = some ys[i]:=K1 l2;obtain⟨u,hu,ru⟩:=ra.get hx;obtain⟨v,hv,rv⟩:=rb.get hy;have free:∀ c∈[z,TI,TO,p,q],H c=none:=λ c h=>(hf c h).1;have naz:∀ c∈[z,TI,TO,p,q],a ≠ c:=λ c h=>ha.ne (free c h);have nbz:∀ c∈[z,TI,TO,p,q],b ≠ c:=λ c h=>hb.ne (free c h);simp only [LO,Lz,Ld,L8,NP,Nq,and_true,Mg] at nd;obtain⟨⟨z1,z2,z3,z4⟩,⟨t1,t2,t3⟩,⟨w1,w2⟩,y1⟩:=nd;have S:=gp (prog:=X.prog) (w:=X.w) ka p a (naz p (by simp)) as.toArray;have T:=gp (prog:=X.prog) (w:=X.w) kb q b (nbz q (by simp)) bs.toArray;have D:dt z TI TO p q [p,a] [q,b]:=⟨⟨Lv z1,t1,t2,t3⟩,z2,by simp [z3,Lv (naz z (by simp))],by simp [z4,Lv (nbz z (by simp))],by simp [w1,Lv (naz TO (by simp))],by simp [w2,Lv (nbz TO (by simp))],by simp [y1,Lv (nbz p (by simp))],by simp [Lv y1,Lv (naz q (by simp))]⟩;refine eM S T D e1 e2 e3 ⟨e4,sa⟩ ⟨e5,sb⟩ (x:=u) (y:=v) (by simpa using hu) (by simpa using hv) λ h1 c1 c2 c3 c4 c5 c6 c7=>?_;refine⟨_,rfl,wpAny_letOwnedTupleGo_zip (s:={ s with heap:=h1 }) c1 λ h2 d1 d2=>?_⟩;have lt:z < s.heap.objs.size:=La e1;have kp:∀ c o,c ∉ [z,TO,p,q]->s.heap.get? c=some o->h2.get? c=some o:=λ c o hc e=>d2.extBut _ _ (λ q=>hc (by simp [q])) (c7 c o hc e);have hn:h2.get? s.heap.objs.size=some { cls:=.type "tuple",data:=.seq #[u,v] }:=d2.extBut _ _ (LS lt) c5;have I2:Inv X pins σ (upd H s.heap.objs.size (.tup [xs[i],ys[i]])) { s with heap:=h2 }:=I.turnNew (t':=s.toks) (ch:=[z,TO,p,q]) (λ c hc=>hf c (by simp only [Lz,Ld,L8] at hc ⊢;rcases hc with h|h|h|h<;>simp [h])) kp (Li _) ⟨(show 2<=sizeLine by decide),[u,v],.cons ru (.cons rv .nil),⟨_,hn,rfl,_,rfl⟩⟩;have fr:H s.heap.objs.size=none:=I.hok.fresh (Li _);refine⟨.ref s.heap.objs.size,_,I2,rfl,⟨_,_,_,fr,rfl,hx,hy,rfl⟩,⟨d1,d2.extBut _ _ (Lv z1) (c7 TI _ (by simp [Lv z1,t1,t2,t3]) e2),⟨u,v,d2.extBut _ _ (Lv z2) c2⟩,c3.1.at λ o e=>d2.extBut _ _ (Lv z3) e,c4.1.at λ o e=>d2.extBut _ _ (Lv z4) e⟩,λ c hc=>?_⟩
  obtain⟨o,ho,_⟩:∃ o,s.heap.get? c=some o/\True:=by
   simp only [Lz,Ld,L8] at hc
   rcases hc with rfl|rfl|rfl|rfl|rfl
   ·exact⟨_,e1,trivial⟩
   ·exact⟨_,e2,trivial⟩
   ·exact⟨_,e3,trivial⟩
   ·obtain⟨o,_,e,_⟩:=e4.obj;exact⟨o,e,trivial⟩
   ·obtain⟨o,_,e,_⟩:=e5.obj;exact⟨o,e,trivial⟩
  rw [af (Ll (La ho))];exact free c hc
 done:=by
  intro X hP hw hK hc i pins s σ H E I hf st hg;subst hP hw hK;obtain⟨e1,e2,⟨u0,v0,e3⟩,e4,e5⟩:=st;obtain⟨ha,hb,l⟩:=hg;obtain⟨as,ra,sa⟩:=I.sq ha;obtain⟨bs,rb,sb⟩:=I.sq hb;have free:∀ c∈[z,TI,TO,p,q],H c=none:=λ c h=>(hf c h).1;have naz:∀ c∈[z,TI,TO,p,q],a ≠ c:=λ c h=>ha.ne (free c h);have nbz:∀ c∈[z,TI,TO,p,q],b ≠ c:=λ c h=>hb.ne (free c h);simp only [LO,Lz,Ld,L8,NP,Nq,and_true,Mg] at nd;obtain⟨⟨z1,z2,z3,z4⟩,⟨t1,t2,t3⟩,⟨w1,w2⟩,y1⟩:=nd;have S:=gp (prog:=X.prog) (w:=X.w) ka p a (naz p (by simp)) as.toArray;have T:=gp (prog:=X.prog) (w:=X.w) kb q b (nbz q (by simp)) bs.toArray;have D:dt z TI TO p q [p,a] [q,b]:=⟨⟨Lv z1,t1,t2,t3⟩,z2,by simp [z3,Lv (naz z (by simp))],by simp [z4,Lv (nbz z (by simp))],by simp [w1,Lv (naz TO (by simp))],by simp [w2,Lv (nbz TO (by simp))],by simp [y1,Lv (nbz p (by simp))],by simp [Lv y1,Lv (naz q (by simp))]⟩;have la:=ra.length;have lb:=rb.length;refine fL (I.ok.hd hc) S T D e1 e2 e3 ⟨e4,sa⟩ ⟨e5,sb⟩ (l.imp (λ h=>by simp;omega) λ h=>by simp;omega) λ h1 kp=>⟨rfl,I.turnL (t':=s.toks) (ch:=[z,TO,p,q]) (λ c hc=>hf c (by simp only [Lz,Ld,L8] at hc ⊢;rcases hc with h|h|h|h<;>simp [h])) kp⟩
 self:=λ _ _ _ _ _ st h=>wpAny_pyIter_zip st.1 h
def kZ2(ka:Bool)(a b:Addr)(xs:List V)(H:Hp)(R:It->Hp->Prop):HO->Prop:=λ o=>match o with
 | .lst ys=>R (Itz ka false a b xs ys) H
 | .tup ys=>R (Itz ka true a b xs ys) H
 | _=>False
theorem BL(ka:Bool)(a b:Addr)(xs ys:List V)(H:Hp)(R:It->Hp->Prop):kZ2 ka a b xs H R (.lst ys)=R (Itz ka false a b xs ys) H:=rfl
def kZ1(a b:Addr)(H:Hp)(R:It->Hp->Prop):HO->Prop:=λ o=>match o with
 | .lst xs=>aI (H b) (kZ2 false a b xs H R)
 | .tup xs=>aI (H b) (kZ2 true a b xs H R)
 | _=>False
theorem BM(a b:Addr)(xs:List V)(H:Hp)(R:It->Hp->Prop):kZ1 a b H R (.lst xs)=aI (H b) (kZ2 false a b xs H R):=rfl
def kZ0(R:It->Hp->Prop):List V->Hp->Prop:=λ vs H=>match vs with
 | [.ref a,.ref b]=>aI (H a) (kZ1 a b H R)
 | _=>False
theorem I0(R:It->Hp->Prop)(a b:Addr)(H:Hp):kZ0 R [.ref a,.ref b] H=aI (H a) (kZ1 a b H R):=rfl
def Kc(ta:TA):TI:=λ σ H R=>ta σ H (kZ0 R)
theorem FU(ta:TA)(σ:St)(H:Hp)(R:It->Hp->Prop):Kc ta σ H R=ta σ H (kZ0 R):=rfl
theorem GD{R:It->Hp->Prop}{vs:List V}{H:Hp}(h:kZ0 R vs H):∃ a b ka kb xs ys,vs=[.ref a,.ref b]/\SqK ka H a xs/\SqK kb H b ys/\R (Itz ka kb a b xs ys) H:=by
 unfold kZ0 at h;split at h
 ·rename_i a b;obtain⟨o,e,h⟩:=ai h;unfold kZ1 at h;split at h
  ·rename_i xs;obtain⟨o',e',h⟩:=ai h;unfold kZ2 at h;split at h
   ·exact⟨a,b,false,false,xs,_,rfl,e,e',h⟩
   ·exact⟨a,b,false,true,xs,_,rfl,e,e',h⟩
   ·exact h.elim
  ·rename_i xs;obtain⟨o',e',h⟩:=ai h;unfold kZ2 at h;split at h
   ·exact⟨a,b,true,false,xs,_,rfl,e,e',h⟩
   ·exact⟨a,b,true,true,xs,_,rfl,e,e',h⟩
   ·exact h.elim
  ·exact h.elim
 ·exact h.elim
section
variable {X:Cx}
theorem yE{a b:Expr}{elts:List Expr}{x1}{tp:Pos}{ta:TA}{p pos:Pos}(hg:Gl X "zip")(hm:X.mg "zip"=none)(ha:PA X [a,b] ta)(hs:starEach [a,b] X.env=[(false,eval a X.env),(false,eval b X.env)]:=by rfl)(hs2:starEach [b] X.env=[(false,eval b X.env)]:=by rfl) :
  PI X (.Tuple elts x1 tp) (.Call (.Name "zip" p) [a,b] [] pos) (Kc ta):=by
 intro pins s σ H R I h;refine Call_ (eJ I hg hm (show bootBuiltins "zip"=some (.type "zip") by decide +kernel) (L6 (thn (ha pos pins s σ H _ I h) λ us s1 ⟨vs,H1,I1,r1,q1⟩=>?_) (by rw [hs,hs2]) (by rw [hs2];rfl)));obtain⟨a,b,ka,kb,xs,ys,rfl,sa,sb,q⟩:=GD q1
 cases r1 with
 | cons r rr=>
  cases rr with
  | cons r' rr=>
   cases rr;cases r;cases r';obtain⟨as,ra,s1a⟩:=I1.sq sa;obtain⟨bs,rb,s1b⟩:=I1.sq sb;refine tE s1a s1b λ h' n hn e1 e2 e3 e4 e5 e6 e7=>?_;have I2:Inv X pins σ H1 { s1 with heap:=h' }:=I1.kept (t':=s1.toks) e7;refine wpAny_pyIter_zip (s:={ s1 with heap:=h' }) e1 ⟨n+4,[n+4,n+2,n+3,n,n+1],_,_,H1,rfl,I2,wm ka kb a b (n+4) (n+2) (n+3) n (n+1) xs ys (by simp),⟨e1,e2,⟨_,_,e3⟩,e4,e5⟩,λ c hc=>?_,q⟩
   have hle:s1.heap.objs.size<=c:=by
    rw [←hn];simp only [Lz,Ld,L8] at hc
    rcases hc with rfl|rfl|rfl|rfl|rfl
    ·exact MP ..
    ·exact MP ..
    ·exact MP ..
    ·exact Li _
    ·exact MP ..
   exact I1.fpOk hle (I1.hok.fresh hle)
end
def Hf(te:TE)(σ2:St)(N1:VK)(N0:Hp->Prop):Bool->Hp->Prop:=λ b H=>if b=true then te σ2 H N1 else N0 H
theorem bo(te:TE)(σ2:St)(N1:VK)(N0:Hp->Prop)(b:Bool)(H:Hp):Hf te σ2 N1 N0 b H=(if b=true then te σ2 H N1 else N0 H):=rfl
def kCm(k:Nat)(tt:TT)(te:TE)(σ:St)(N1:VK)(N0:Hp->Prop):St->Hp->Prop:=λ σ2 H=>(∃ vs:St,vs.length=k/\σ2=vs++σ)/\tt σ2 H (Hf te σ2 N1 N0)
theorem aV(tt:TT)(te:TE)(σ:St)(N1:VK)(N0:Hp->Prop)(a:Option V)(H:Hp):kCm 1 tt te σ N1 N0 (a::σ) H=tt (a::σ) H (Hf te (a::σ) N1 N0):=propext ⟨λ h=>h.2,λ h=>⟨⟨[a],rfl,rfl⟩,h⟩⟩
theorem jP(tt:TT)(te:TE)(σ:St)(N1:VK)(N0:Hp->Prop)(a b:Option V)(H:Hp):kCm 2 tt te σ N1 N0 (a::b::σ) H=tt (a::b::σ) H (Hf te (a::b::σ) N1 N0):=propext ⟨λ h=>h.2,λ h=>⟨⟨[a,b],rfl,rfl⟩,h⟩⟩
theorem Bx(σ:St):List.replicate 1 (none:Option V)++σ=none::σ:=rfl
theorem Bw(σ:St):List.replicate 2 (none:Option V)++σ=none::none::σ:=rfl
def Al{α:Type}(R:α->V->Prop)(zs:List α)(ys:List V):Prop:=ys.length=zs.length/\∀ (i:Nat) z y,zs[i]? = some z->ys[i]? = some y->R z y
theorem Al.nil{α:Type}{R:α->V->Prop}:Al R [] []:=⟨rfl,λ i z y h=>by simp at h⟩
theorem Al.snoc{α:Type}{R:α->V->Prop}{zs:List α}{ys:List V}{z:α}{y:V}(h:Al R zs ys)(r:R z y):Al R (zs++[z]) (ys++[y]):=by
 refine⟨by simp [h.1],λ i z' y' h1 h2=>?_⟩
 by_cases hi:i < zs.length
 ·rw [L3 hi] at h1;rw [L3 (by rw [h.1];exact hi)] at h2;exact h.2 i z' y' h1 h2
 ·rw [LP (by omega)] at h1;rw [LP (by rw [h.1];omega),h.1] at h2
  by_cases h0:i - zs.length=0
  ·rw [h0] at h1 h2;simp at h1 h2;subst h1;subst h2;exact r
  ·rw [Nw (by simp;omega)] at h1;cases h1
theorem Al.imp{α:Type}{R S:α->V->Prop}{zs:List α}{ys:List V}(h:Al R zs ys)(f:∀ z y,R z y->S z y):Al S zs ys:=⟨h.1,λ i z y a b=>f z y (h.2 i z y a b)⟩
theorem Al.map{α:Type}{f:α->V}{zs:List α}{ys:List V}(h:Al (λ z y=>y=f z) zs ys):ys=zs.map f:=by
 apply List.ext_getElem?;intro i;rw [Lr]
 by_cases hi:i < zs.length
 ·have e1:zs[i]? = some zs[i]:=K1 hi;have e2:ys[i]? = some (ys[i]'(by rw [h.1];exact hi)):=K1 _;rw [e1,e2,h.2 i _ _ e1 e2];rfl
 ·have:=h.1;rw [Nw (show ys.length<=i by omega),Nw (show zs.length<=i by omega)];rfl
section
variable {k:Nat}{g:TG}{tt:TT}{te:TE}{σ:St}{Q:VK}{H:Hp}{K:PySem.W.Frag}
theorem pG{α:Type}{J:It}(zs:List α)(c:α->Bool)(P:α->V->Hp->Prop)(R:Addr->α->V->Hp->Prop)
  (hgo:∀ i z H',zs[i]? = some z->Ext H H'->J.go i H'/\∀ x H'',J.yld i H' x H''->Ext H' H''/\P z x H'')
  (hst:∀ H',Ext H H'->J.stop zs.length H')
  (hR1:∀ D z y H1 H2,R D z y H1->Ext H1 H2->R D z y H2) (hR2:∀ D z y H1 o,R D z y H1->R D z y (upd H1 D o))
  (hl:zs.length<=sizeLine)
  (hs:∀ D z x H' N1 N0,z∈zs->H D=none->Ext H H'->(∃ ys,H' D=some (.lst ys))->P z x H'->(c z=true->∀ y H'',Ext H' H''->R D z y H''->N1 y H'')->(c z=false->∀ H'',Ext H' H''->N0 H'')->g x (List.replicate k none++σ) H' (kCm k tt te σ N1 N0))
  (hd:∀ D ys H',H D=none->Ext H H'->H' D=some (.lst ys)->Al (λ z y=>R D z y H') (zs.filter c) ys->Q (.ref D) H'):rB k g tt te σ Q J H:=by
 intro D hD;refine⟨λ i m ys H'=>m=zs.length - i/\i<=zs.length/\Ext H H'/\H' D=some (.lst ys)/\Al (λ z y=>R D z y H') ((zs.take i).filter c) ys,⟨zs.length,by simp,LD _,Ext.new hD,ag,by simpa using Al.nil⟩,?_⟩;rintro i m ys H' ⟨rfl,hi,e,hD',al⟩
 by_cases hlt:i < zs.length
 ·have hz:zs[i]? = some zs[i]:=K1 hlt;obtain⟨go,y⟩:=hgo i zs[i] H' hz e;have tk:zs.take (i+1)=zs.take i++[zs[i]]:=by rw [List.take_succ,hz];rfl
  have ln:ys.length < sizeLine:=by
   have h1:=al.1;have h2:=Oc c (zs.take i);simp only [Mi] at h2;omega
  refine .inr ⟨go,λ ys' H2=>Ext H H2/\H2 D=some (.lst ys')/\Al (λ z y=>R D z y H2) ((zs.take (i+1)).filter c) ys',λ ys' H2 p=>⟨zs.length - (i+1),by omega,rfl,hlt,p⟩,λ x H2 z=>?_⟩;obtain⟨e2,p2⟩:=y x H2 z;refine hs D zs[i] x H2 (kC3 D ys _) _ (MK hlt) hD (e.trans e2) ⟨ys,e2.at hD'⟩ p2 (λ hc y H3 e3 r3=>?_) λ hc H3 e3=>?_
  ·refine⟨e3.at (e2.at hD'),ln,(e.trans (e2.trans e3)).put hD,ag,?_⟩;rw [tk,Nl,show [zs[i]].filter c=[zs[i]] by simp [hc]];exact Al.snoc (al.imp λ z y r=>hR2 _ _ _ _ _ (hR1 _ _ _ _ _ r (e2.trans e3))) (hR2 _ _ _ _ _ r3)
  ·refine⟨e.trans (e2.trans e3),(e2.trans e3).at hD',?_⟩;rw [tk,Nl,show [zs[i]].filter c=[] by simp [hc],NB];exact al.imp λ z y r=>hR1 _ _ _ _ _ r (e2.trans e3)
 ·have e':i=zs.length:=by omega
  subst e';rw [Me] at al;exact .inl ⟨hst H' e,hd D ys H' hD e hD' al⟩
theorem bX{α:Type}{J:It}(zs:List α)(c:α->Bool)(f:α->V)(P:α->V->Hp->Prop)
  (hgo:∀ i z H',zs[i]? = some z->Ext H H'->J.go i H'/\∀ x H'',J.yld i H' x H''->Ext H' H''/\P z x H'')
  (hst:∀ H',Ext H H'->J.stop zs.length H') (hl:zs.length<=sizeLine)
  (hs:∀ D z x H' N1 N0,z∈zs->H D=none->Ext H H'->P z x H'->(c z=true->∀ H'',Ext H' H''->N1 (f z) H'')->(c z=false->∀ H'',Ext H' H''->N0 H'')->g x (List.replicate k none++σ) H' (kCm k tt te σ N1 N0))
  (hd:∀ D H',H D=none->Ext H H'->H' D=some (.lst ((zs.filter c).map f))->Q (.ref D) H'):rB k g tt te σ Q J H:=
 pG zs c P (λ _ z y _=>y=f z) hgo hst (λ _ _ _ _ _ r _=>r) (λ _ _ _ _ _ r=>r) hl (λ D z x H' N1 N0 hz hD e _ p k1 k0=>hs D z x H' N1 N0 hz hD e p (λ hc H'' e'=>k1 hc _ H'' e' rfl) k0) λ D ys H' hD e hD' al=>hd D H' hD e (by rw [←al.map];exact hD')
theorem dj{lo:Int}{n:Nat}:(∀ i z H',(List.range n)[i]? = some z->Ext H H'->(Itr lo n).go i H'/\∀ x H'',(Itr lo n).yld i H' x H''->Ext H' H''/\x=.int (lo+(z:Nat)))/\∀ H',Ext H H'->(Itr lo n).stop (List.range n).length H':=by
 refine⟨λ i z H' hz _=>?_,λ H' _=>by simp [Itr]⟩;obtain⟨h1,h2⟩:=Lb.mp hz;have e:i=z:=by simpa using h2
 subst e;exact⟨(show i < n by simpa using h1),λ x H'' y=>⟨by rw [y.1];exact Ext.refl _,y.2⟩⟩
theorem i9{a:Addr}{xs:List V}(h:H a=some (.lst xs)):(∀ i z H',xs[i]? = some z->Ext H H'->(Itl K a).go i H'/\∀ x H'',(Itl K a).yld i H' x H''->Ext H' H''/\(x=z/\H'' a=some (.lst xs)))/\∀ H',Ext H H'->(Itl K a).stop xs.length H':=
 ⟨λ i z H' hz e=>⟨⟨xs,z,SqL.of (e.at h),hz⟩,λ x H'' y=>⟨by rw [y.1];exact Ext.refl _,Lu ((y.2 xs (SqL.of (e.at h))).symm.trans hz),by rw [y.1];exact e.at h⟩⟩,λ H' e=>⟨xs,SqL.of (e.at h),Li _⟩⟩
def Hk(z:V × V)(x:V)(H:Hp):Prop:=∃ p,x=.ref p/\H p=some (.tup [z.1,z.2])
theorem sV{tb:TS}{nx:St->Hp->Prop}{rt:VK}{bk ct:St->Hp->Prop}{ka kb:Bool}{a b:Addr}{xs ys:List V}(Pv:Nat->St->Hp->Prop)(h0:Pv 0 σ H)(hl:∀ i σ H,Pv i σ H->SqK ka H a xs/\SqK kb H b ys)
  (hs:∀ i u v p σ H H',xs[i]? = some u->ys[i]? = some v->Pv i σ H->H p=none->Ext H H'->H' p=some (.tup [u,v])->g (.ref p) σ H' (nh tb ⟨Pv (i+1),rt,nx,Pv (i+1)⟩)) (hd:∀ σ H,Pv (min xs.length ys.length) σ H->nx σ H):zw g tb ⟨nx,rt,bk,ct⟩ σ (Itz ka kb a b xs ys) H:=by
 refine⟨λ i m σ H=>m=min xs.length ys.length - i/\i<=min xs.length ys.length/\Pv i σ H,⟨min xs.length ys.length,by simp,LD _,h0⟩,?_⟩;rintro i m σ H ⟨rfl,hi,p⟩;obtain⟨qa,qb⟩:=hl i σ H p
 by_cases hlt:i < min xs.length ys.length
 ·refine .inr ⟨⟨qa,qb,by omega,by omega⟩,Pv (i+1),λ σ' H' p'=>⟨min xs.length ys.length - (i+1),by omega,rfl,hlt,p'⟩,λ x H' y=>?_⟩;obtain⟨r,u,v,hr,rfl,hu,hv,rfl⟩:=y;exact hs i u v r σ H _ hu hv p hr (Ext.new hr) ag
 ·have e:i=min xs.length ys.length:=by omega
  subst e;exact .inl ⟨⟨qa,qb,by omega⟩,hd σ H p⟩
end
def Eb(sc:Scope)(N:List Str)(scope:Scope)(N':List Str)(k:Nat):Bool:=
 scope.names.all (λ y=>!(y.2 == .cell)) && (scope.kind == .function) && scope.names.all (λ y=>!(y.2 == .local) || scope.names.lookup y.1 == some .local) && scope.names.all (λ y=>!(y.2 == .free) || sc.names.lookup y.1 == some .cell) && decide (N'.length=k+N.length) &&
  ((N'.drop k).zip N).all (λ p=>(!(scope.names.lookup p.1 == some .free) || decide (p.1=p.2)) && !(scope.names.lookup p.1 == some .local))
theorem bg{X:Cx}{scope:Scope}{N':List Str}{k:Nat}(sc:Scope)(N:List Str)(h1:X.env.scope=sc)(h2:X.N=N)(h:Eb sc N scope N' k=true):hJ X scope N' k:=by
 unfold Eb at h;simp only [Bool.and_eq_true,decide_eq_true_eq] at h;obtain⟨⟨⟨⟨⟨a1,a2⟩,a3⟩,a4⟩,a5⟩,a6⟩:=h;rw [all_eq_true] at a1 a3 a4 a6
 have pr:∀ i x,N'[k+i]? = some x->∃ y,N[i]? = some y/\(x,y)∈(N'.drop k).zip N:=λ i x hx=>by
  have h0:=(Lb.mp hx).1;have hi:i < N.length:=by omega
  have e1:(N'.drop k)[i]? = some x:=by rw [NL];exact hx
  have e2:N[i]? = some N[i]:=K1 hi;refine⟨_,e2,Ly (i:=i) ?_⟩;rw [MF];exact⟨e1,e2⟩
 refine⟨λ y hy e=>?_,by simpa using a2,λ y hy e=>?_,λ y hy e=>?_,by rw [h2];exact a5,λ i x hx hf=>?_,λ i x hx hf=>?_⟩
 ·have:=a1 y hy;rw [e] at this;simp at this
 ·have:=a3 y hy;rw [e] at this;simpa using this
 ·have:=a4 y hy;rw [e] at this;rw [h1];simpa using this
 ·obtain⟨y,hy,hm⟩:=pr i x hx;have:=a6 _ hm;simp only [hf] at this;rw [h2,hy];simp at this;rw [this]
 ·obtain⟨y,hy,hm⟩:=pr i x hx;have:=a6 _ hm;simp [hf] at this
def Af(H:Hp)(Q:VK):V->Prop:=λ v=>Q v H
theorem BZ(H:Hp)(Q:VK)(v:V):Af H Q v=Q v H:=rfl
def vO(K:W.Frag)(f:Str)(H:Hp)(Q:VK):HO->Prop:=λ o=>match o with
 | .ins C dx fs=>Cls K C/\cp K C f/\aI (fs.lookup f) (Af H Q)
 | _=>False
theorem B0(K:W.Frag)(f:Str)(H:Hp)(Q:VK)(C dx:Addr)(fs:List (Str × V)):vO K f H Q (.ins C dx fs)=(Cls K C/\cp K C f/\aI (fs.lookup f) (Af H Q)):=rfl
def Dn(K:W.Frag)(f:Str)(Q:VK):VK:=λ x H=>match x with
 | .ref a=>aI (H a) (vO K f H Q)
 | _=>False
theorem FD(K:W.Frag)(f:Str)(Q:VK)(a:Addr)(H:Hp):Dn K f Q (.ref a) H=aI (H a) (vO K f H Q):=rfl
def JT(K:W.Frag)(ta:TE)(f:Str):TE:=λ σ H Q=>ta σ H (Dn K f Q)
theorem Fg(K:W.Frag)(ta:TE)(f:Str)(σ:St)(H:Hp)(Q:VK):JT K ta f σ H Q=ta σ H (Dn K f Q):=rfl
theorem Cq{K:W.Frag}{f:Str}{Q:VK}{x:V}{H:Hp}(h:Dn K f Q x H):∃ a C dx fs v,x=.ref a/\H a=some (.ins C dx fs)/\Cls K C/\cp K C f/\fs.lookup f=some v/\Q v H:=by
 unfold Dn at h;split at h
 ·obtain⟨o,e,h⟩:=ai h;unfold vO at h;split at h
  ·obtain⟨c,n,h⟩:=h;obtain⟨v,l,q⟩:=ai h;exact⟨_,_,_,_,v,rfl,e,c,n,l,q⟩
  ·exact h.elim
 ·exact h.elim
section
variable {X:Cx}{e o value:Expr}{ta tv:TE}{f:Str}{pos pos':Pos}
theorem A2(he:PE X e ta)(hb:attributeBase e f X.env (eval e X.env)=eval e X.env):PE X (.Attribute e f pos) (JT X.K ta f):=by
 intro pins s σ H Q I h;refine CQ hb (thn (he pins s σ H _ I h) λ u s1 ⟨x,H1,I1,rx,q1⟩=>?_);obtain⟨a,C,dx,fs,v,ex,ea,c,n,l,q⟩:=Cq q1;subst ex;obtain rfl:u=Value.ref a:=rx;exact qF I1 ea c n l λ u' s2 I2 ru=>⟨v,H1,I2,ru,q⟩
def vJ(K:W.Frag)(f:Str)(y:V)(a:Addr)(σ:St)(nx:St->Hp->Prop)(H:Hp):HO->Prop:=λ o=>match o with
 | .ins C dx fs=>Cls K C/\cp K C f/\fs.length < 1000/\nx σ (upd H a (.ins C dx (dw f y fs)))
 | _=>False
theorem BO(K:W.Frag)(f:Str)(y:V)(a:Addr)(σ:St)(nx:St->Hp->Prop)(H:Hp)(C dx:Addr)(fs:List (Str × V)):vJ K f y a σ nx H (.ins C dx fs)=(Cls K C/\cp K C f/\fs.length < 1000/\nx σ (upd H a (.ins C dx (dw f y fs)))):=rfl
def vL(K:W.Frag)(f:Str)(y:V)(σ:St)(nx:St->Hp->Prop):VK:=λ x H=>match x with
 | .ref a=>aI (H a) (vJ K f y a σ nx H)
 | _=>False
theorem BQ(K:W.Frag)(f:Str)(y:V)(σ:St)(nx:St->Hp->Prop)(a:Addr)(H:Hp):vL K f y σ nx (.ref a) H=aI (H a) (vJ K f y a σ nx H):=rfl
def Ab(K:W.Frag)(f:Str)(ta:TE)(σ:St)(nx:St->Hp->Prop):VK:=λ y H=>ta σ H (vL K f y σ nx)
theorem BR(K:W.Frag)(f:Str)(ta:TE)(σ:St)(nx:St->Hp->Prop)(y:V)(H:Hp):Ab K f ta σ nx y H=ta σ H (vL K f y σ nx):=rfl
def DN(K:W.Frag)(ta tv:TE)(f:Str):TS:=λ D σ H=>tv σ H (Ab K f ta σ D.nx)
theorem BD(K:W.Frag)(ta tv:TE)(f:Str)(nx:St->Hp->Prop)(rt:VK)(bk ct:St->Hp->Prop)(σ:St)(H:Hp):DN K ta tv f ⟨nx,rt,bk,ct⟩ σ H=tv σ H (Ab K f ta σ nx):=rfl
theorem gQ(ha:PE X o ta)(hv:PE X value tv)(hs:swapsWith value (some (.Attribute o f pos')) pos.line X.env=pure false):PS X (.Assign [.Attribute o f pos'] value pos) (DN X.K ta tv f):=by
 intro pins s σ H D I h;refine plainObj_wpAny_Assign_Attribute (thn (hv pins s σ H _ I h) λ u s1 ⟨y,H1,I1,ry,q⟩=>thn (ha pins s1 σ H1 _ I1 q) λ ov s2 ⟨x,H2,I2,rx,q1⟩=>?_) hs;unfold vL at q1;split at q1
 ·rename_i a;obtain rfl:ov=Value.ref a:=rx;obtain⟨ob,ea,q1⟩:=ai q1;unfold vJ at q1;split at q1
  ·obtain⟨c,n,l,q2⟩:=q1;exact p8 I2 ea c n l ry λ s3 I3=>⟨σ,_,I3,q2⟩
  ·exact q1.elim
 ·exact q1.elim
end
def lE(sp:Sp)(dvs:List V)(E:XK)(a:Addr)(Q:VK):List V->Hp->Prop:=λ vs H=>sp (.ref a::(vs++dvs)) H Q E
theorem qx(sp:Sp)(dvs:List V)(E:XK)(a:Addr)(Q:VK)(H:Hp):lE sp dvs E a Q [] H=sp (.ref a::dvs) H Q E:=rfl
theorem qw(sp:Sp)(dvs:List V)(E:XK)(a:Addr)(Q:VK)(x:V)(H:Hp):lE sp dvs E a Q [x] H=sp (.ref a::x::dvs) H Q E:=rfl
theorem qv(sp:Sp)(dvs:List V)(E:XK)(a:Addr)(Q:VK)(x y:V)(H:Hp):lE sp dvs E a Q [x,y] H=sp (.ref a::x::y::dvs) H Q E:=rfl
def oK(C:Addr)(m:Str)(sp:Sp)(dvs:List V)(E:XK)(t:TA)(σ:St)(Q:VK)(a:Addr)(H:Hp):HO->Prop:=λ o=>match o with
 | .ins C' dx fs=>C'=C/\fs.lookup m=none/\t σ H (lE sp dvs E a Q)
 | _=>False
theorem xk(C:Addr)(m:Str)(sp:Sp)(dvs:List V)(E:XK)(t:TA)(σ:St)(Q:VK)(a:Addr)(H:Hp)(dx:Addr)(fs:List (Str × V)):oK C m sp dvs E t σ Q a H (.ins C dx fs)=(fs.lookup m=none/\t σ H (lE sp dvs E a Q)):=propext ⟨λ h=>h.2,λ h=>⟨rfl,h⟩⟩
def rA(C:Addr)(m:Str)(sp:Sp)(dvs:List V)(E:XK)(t:TA)(σ:St)(Q:VK):VK:=λ x H=>match x with
 | .ref a=>aI (H a) (oK C m sp dvs E t σ Q a H)
 | _=>False
theorem BW(C:Addr)(m:Str)(sp:Sp)(dvs:List V)(E:XK)(t:TA)(σ:St)(Q:VK)(a:Addr)(H:Hp):rA C m sp dvs E t σ Q (.ref a) H=aI (H a) (oK C m sp dvs E t σ Q a H):=rfl
def zS(C:Addr)(m:Str)(sp:Sp)(dvs:List V)(E:XK)(ta:TE)(t:TA):TE:=λ σ H Q=>ta σ H (rA C m sp dvs E t σ Q)
theorem BF(C:Addr)(m:Str)(sp:Sp)(dvs:List V)(E:XK)(ta:TE)(t:TA)(σ:St)(H:Hp)(Q:VK):zS C m sp dvs E ta t σ H Q=ta σ H (rA C m sp dvs E t σ Q):=rfl
theorem px{C:Addr}{m:Str}{sp:Sp}{dvs:List V}{E:XK}{t:TA}{σ:St}{Q:VK}{x:V}{H:Hp}(h:rA C m sp dvs E t σ Q x H):∃ a dx fs,x=.ref a/\H a=some (.ins C dx fs)/\fs.lookup m=none/\t σ H λ vs H2=>sp (x::(vs++dvs)) H2 Q E:=by
 unfold rA at h;split at h
 ·obtain⟨o,e,h⟩:=ai h;unfold oK at h;split at h
  ·obtain⟨rfl,l,h⟩:=h;exact⟨_,_,_,rfl,e,l,h⟩
  ·exact h.elim
 ·exact h.elim
section
variable {X:Cx}{CX:CXT}{k:Nat}{f C:Addr}{fd:FuncData}{ps:List Str}{sp:Sp}{dvs:List V}{ds:List Value}{E:XK}{x m:Str}{p pos apos:Pos}{e o:Expr}{es:List Expr}{ta:TE}{t:TA}
theorem o8{pl:Sem Bool}(he:PE X o ta)(c:Cls X.K C)(hm:m6 X.K C m f)(F:bj X.prog X.w X.K X.mg X.base CX k f fd ps sp)(hr:fA k X.A)(hb:au X.K fd ps ds)(hd:aL dvs ds)(hx:hG CX X E)(ha:PA X (e::es) t)
  (hst:starEach (e::es) X.env=(false,eval e X.env)::starEach es X.env:=by rfl) (hpl:(backTo pos (starEach es X.env)).any (·.1)=false:=by rfl)
  (ht:eval (.Call (.Attribute o m apos) (e::es) [] pos) X.env=(do
   let ov ←eval o X.env
   standAt apos.atName
   let (f,first) ←holding [ov] (getMethod ov m pl)
   callWith pos f first (backTo pos (starEach (e::es) X.env)) (backToKw pos (keywordEach [] X.env))):=by rfl) :
  PE X (.Call (.Attribute o m apos) (e::es) [] pos) (zS C m sp dvs E ta t):=by
 intro pins s σ H Q I h;refine W.methodCall_KW (pl:=pl) (thn (he pins s σ H _ I h) λ u s1 ⟨x,H1,I1,rx,q0⟩=>?_) ht;obtain⟨a,dx,fs,ex,ea,l,q⟩:=px q0;subst ex;obtain rfl:u=Value.ref a:=rx;refine js I1 ea c hm l ?_;refine W.callWith_K (first:=[.ref a]) (h₀:=X.base) I.ok.mod.kin hm.kp (thn (ha pos pins s1 σ H1 _ I1 q) λ us s2 ⟨vs,H2,I2,r,q2⟩=>⟨I2.kIn,?_⟩) hst hpl;exact rR (us:=.ref a::us) (vs:=.ref a::vs) F hr hb hd hx I2 (.cons rfl r) q2
theorem ug{pl:Sem Bool}(he:PE X o ta)(c:Cls X.K C)(hm:m6 X.K C m f)(F:bj X.prog X.w X.K X.mg X.base CX k f fd ps sp)(hr:fA k X.A)(hb:au X.K fd ps ds)(hd:aL dvs ds)(hx:hG CX X E)
  (ht:eval (.Call (.Attribute o m apos) [] [] pos) X.env=(do
   let ov ←eval o X.env
   standAt apos.atName
   let (f,first) ←holding [ov] (getMethod ov m pl)
   callWith pos f first (backTo pos (starEach [] X.env)) (backToKw pos (keywordEach [] X.env))):=by rfl) :
  PE X (.Call (.Attribute o m apos) [] [] pos) (zS C m sp dvs E ta Df):=by
 intro pins s σ H Q I h;refine W.methodCall_KW (pl:=pl) (thn (he pins s σ H _ I h) λ u s1 ⟨x,H1,I1,rx,q0⟩=>?_) ht;obtain⟨a,dx,fs,ex,ea,l,q⟩:=px q0;subst ex;obtain rfl:u=Value.ref a:=rx;refine js I1 ea c hm l ?_;exact W.callWith_K0 (first:=[.ref a]) I1.kIn hm.kp (rR (us:=[.ref a]) (vs:=[.ref a]) F hr hb hd hx I1 (.cons rfl .nil) q)
end
def vM(x:Addr)(Q:VK):VK:=λ v H=>v=.non/\Q (.ref x) H
theorem BX(x:Addr)(Q:VK)(H:Hp):vM x Q .non H=Q (.ref x) H:=propext ⟨λ h=>h.2,λ h=>⟨rfl,h⟩⟩
def pV(C:Addr)(sp:Sp)(dvs:List V)(E:XK)(Q:VK):List V->Hp->Prop:=λ vs H=>∀ (x dx:Addr) (H':Hp),H x=none->H dx=none->dx ≠ x->Ext H H'->H' x=some (.ins C dx [])->H' dx=some (.own x)->sp (.ref x::(vs++dvs)) H' (vM x Q) E
theorem uw(C:Addr)(sp:Sp)(dvs:List V)(E:XK)(Q:VK)(a:V)(H:Hp):pV C sp dvs E Q [a] H=∀ (x dx:Addr) (H':Hp),H x=none->H dx=none->dx ≠ x->Ext H H'->H' x=some (.ins C dx [])->H' dx=some (.own x)->sp (.ref x::a::dvs) H' (vM x Q) E:=rfl
theorem uv(C:Addr)(sp:Sp)(dvs:List V)(E:XK)(Q:VK)(a b c:V)(H:Hp):pV C sp dvs E Q [a,b,c] H=∀ (x dx:Addr) (H':Hp),H x=none->H dx=none->dx ≠ x->Ext H H'->H' x=some (.ins C dx [])->H' dx=some (.own x)->sp (.ref x::a::b::c::dvs) H' (vM x Q) E:=rfl
def DO(C:Addr)(sp:Sp)(dvs:List V)(E:XK)(t:TA):TE:=λ σ H Q=>t σ H (pV C sp dvs E Q)
theorem BG(C:Addr)(sp:Sp)(dvs:List V)(E:XK)(t:TA)(σ:St)(H:Hp)(Q:VK):DO C sp dvs E t σ H Q=t σ H (pV C sp dvs E Q):=rfl
section
variable {X:Cx}{CX:CXT}{k:Nat}{f C:Addr}{fd:FuncData}{ps:List Str}{sp:Sp}{dvs:List V}{ds:List Value}{E:XK}{x m:Str}{p pos apos:Pos}{e o:Expr}{es:List Expr}{ta:TE}{t:TA}
theorem pV.to{Q:VK}{vs:List V}{H:Hp}(h:pV C sp dvs E Q vs H):∀ x dx,H x=none->H dx=none->dx ≠ x->sp (.ref x::(vs++dvs)) (upd (upd H dx (.own x)) x (.ins C dx [])) (λ v H2=>v=.non/\Q (.ref x) H2) E:=λ x dx hx hd ne=>
 h x dx _ hx hd ne ((Ext.new hd).put hx) ag (by rw [af ne,ag])
theorem wN(M:Mk X.K C f)(F:bj X.prog X.w X.K X.mg X.base CX k f fd ps sp)(hr:fA (k+1) X.A)(hg:Gl X x)(hm:X.mg x=some (.ref C))(hb:au X.K fd ps ds)(hd:aL dvs ds)(hx:hG CX X E)
  (ha:PA X (e::es) t) (hdb:(x == ("__debug__":Str))=false:=by decide) (he:starEach (e::es) X.env=(false,eval e X.env)::starEach es X.env:=by rfl) (hpl:(backTo pos (starEach es X.env)).any (·.1)=false:=by rfl) :
  PE X (.Call (.Name x p) (e::es) [] pos) (DO C sp dvs E t):=by
 intro pins s σ H Q I h;refine MY (nN I hg hm ?_ hdb);refine W.callWith_K (h₀:=X.base) I.ok.mod.kin M.kp (thn (ha pos pins s σ H _ I h) λ us s1 ⟨vs,H1,I1,r,q⟩=>⟨I1.kIn,?_⟩) he hpl;exact wC M F hr hb hd hx I1 r q.to
end
def sI:Expr->Bool
 | .Starred ..=>false
 | _=>true
theorem AI{e:Expr}{es:List Expr}{env:Env}(h:sI e=true):starEach (e::es) env=(false,eval e env)::starEach es env:=by
 cases e<;>first|rfl|cases h
theorem Dl{X:Cx}{e:Expr}{es:List Expr}{te:TE}{t:TA}(ha:PE X e te)(hr:PA X es t)(hn:sI e=true:=by rfl):PA X (e::es) (rm te t):=Ba ha hr (AI hn)
def qZ(H:Hp)(z:List Int)(y:V):Prop:=∃ q,y=.ref q/\H q=some (.tup (z.map V.int))
theorem qZ.ext{H H':Hp}{z:List Int}{y:V}(h:qZ H z y)(e:Ext H H'):qZ H' z y:=by
 obtain⟨q,rfl,hq⟩:=h;exact⟨q,rfl,e.at hq⟩
def dC(H:Hp)(p:Addr)(zs:List (List Int)):Prop:=∃ ys,H p=some (.lst ys)/\Al (qZ H) zs ys
theorem dC.ext{H H':Hp}{p:Addr}{zs:List (List Int)}(h:dC H p zs)(e:Ext H H'):dC H' p zs:=by
 obtain⟨ys,hp,al⟩:=h;exact⟨ys,e.at hp,al.imp λ _ _ r=>r.ext e⟩
theorem oU{H:Hp}{f:V->Option PyData}:∀ {zs:List (List Int)}{ys:List V},Al (qZ H) zs ys->aP (ys.map (i8 H (i8 H f)))=some (zs.map λ z=>PyData.tuple (z.map PyData.int))
 | [],ys,h=>by rw [Nz h.1];rfl
 | z::zs,[],h=>by have:=h.1;simp at this
 | z::zs,y::ys,h=>by
  obtain⟨q,rfl,hq⟩:=h.2 0 z y rfl rfl;have ih:=oU (H:=H) (f:=f) (zs:=zs) (ys:=ys) ⟨by have:=h.1;simpa using this,λ i z y a b=>h.2 (i+1) z y (by simpa using a) (by simpa using b)⟩
  have e1:i8 H (i8 H f) (.ref q)=some (.tuple (z.map PyData.int)):=by
   rw [jr,hq]
   show zA (i8 H f) (.tup (z.map V.int))=_
   rw [jo,cC];rfl
  rw [LH,e1,i4,ih];rfl
theorem aA{n:Nat}(h:n<=5000):n<=sizeLine:=LU h (by decide)
theorem aJ{n:Nat}(h:n < 5000):n < sizeLine:=LA h (by decide)
theorem pT{K:W.Frag}{H:Hp}{α:Type}{R:α->V->Hp->Prop}(hR:∀ z y H H',R z y H->Ext H H'->R z y H'){l:Addr}{ys:List V}{zs:List α}(h:H l=some (.lst ys))(al:Al (λ z y=>R z y H) zs ys) :
  (∀ i z H',zs[i]? = some z->Ext H H'->(Itl K l).go i H'/\∀ x H'',(Itl K l).yld i H' x H''->Ext H' H''/\R z x H'')/\∀ H',Ext H H'->(Itl K l).stop zs.length H':=by
 refine⟨λ i z H' hz e=>?_,λ H' e=>⟨ys,SqL.of (e.at h),by rw [al.1];exact Li _⟩⟩;have hi:i < ys.length:=by rw [al.1];exact(Lb.mp hz).1
 have hy:ys[i]? = some ys[i]:=K1 hi;refine⟨⟨ys,ys[i],SqL.of (e.at h),hy⟩,λ x H'' y=>?_⟩;have hx:x=ys[i]:=Lu ((y.2 ys (SqL.of (e.at h))).symm.trans hy);refine⟨by rw [y.1];exact Ext.refl _,?_⟩;rw [hx,y.1];exact hR _ _ _ _ (al.2 i z _ hz hy) e
def axP(a:Int × Int)(x:V)(H:Hp):Prop:=∃ q,x=.ref q/\H q=some (.tup [.int a.1,.int a.2])
theorem axP.ext{a:Int × Int}{x:V}{H H':Hp}(h:axP a x H)(e:Ext H H'):axP a x H':=by
 obtain⟨q,rfl,hq⟩:=h;exact⟨q,rfl,e.at hq⟩
theorem oQ{H:Hp}{axs:List (Int × Int)}{ys:List V}(al:Al (qZ H) (axs.map λ a=>[a.1,a.2]) ys):Al (λ a y=>axP a y H) axs ys:=by
 refine⟨by rw [al.1,Lc],λ i a y ha hy=>?_⟩;obtain⟨q,hq,h⟩:=al.2 i [a.1,a.2] y (by rw [Lr,ha];rfl) hy;exact⟨q,hq,h⟩
abbrev eL(h:Heap)(z TI TO:Addr)(f0:Value)(f:Bool):Prop:=
 h.get? z=some { cls:=.type "zip",dict:=none,data:=.fields #[f0,.bool f,.bool false,.ref TI,.ref TO],slots:=#[] }
section
variable {prog:Program}{w:World}{A:Around}{E:Value->Shared->Prop}{s:Shared}
theorem ym{a:Addr}{o:Obj}{Q:Option Obj->Shared->Prop}(ho:s.heap.get? a=some o)(h:Q (some o) s):wpAny (model prog w) A (loadIfAlive a) Q E s:=by
 have h':Q (s.heap.get? a) s:=by rw [ho];exact h
 exact λ _ _ _=>h'
variable {z TI TO i j:Addr}{f g:List Addr}{ti tj:Nat->Heap->Prop}{vi vj:Nat->Option Value}{k m:Nat}{x y:Value}{t:Addr}{fl:Bool}{ot:Obj}
theorem lF{Q:Bool->Shared->Prop}(hz:eL s.heap z TI TO (rawInt t) fl)(ht:s.heap.get? t=some ot)
  (hQ:∀ h',eL h' z TI TO (rawInt t) true->Heap.SameBut z s.heap h'->Q false { s with heap:=h' }):wpAny (model prog w) A (Builtin.SmallTypes.ownedTupleIsFree (.ref z)) Q E s:=by
 unfold Builtin.SmallTypes.ownedTupleIsFree;refine wpAny_bind (wpAny_field hz rfl (x:=rawInt t) rfl ?_)
 show wpAny _ _ (loadIfAlive ((t:Int).toNat) >>= _) _ _ _
 rw [LI];refine K0 (ym ht ?_);simp only [Option.isNone_some,L0,Nb];refine K0 (Mf hz rfl (x:=.bool fl) rfl ?_)
 cases fl with
 | true=>
  rw [Lm (show ¬ ((Value.bool true != Value.bool true)=true) from Lx)];exact Lf (hQ s.heap hz (Heap.SameBut.refl _ _))
 | false=>
  rw [Lo (show (Value.bool false != Value.bool true)=true from rfl)];exact K0 (MI hz (by simp) λ h3 z3 s3=>Lf (hQ h3 z3 s3))
theorem tS(S:Src prog w i f ti vi)(T:Src prog w j g tj vj)(D:dt z TI TO i j f g){Q:Value->Shared->Prop}
  (hz:eL s.heap z TI TO (rawInt t) fl) (ht:s.heap.get? t=some ot) (hTI:IsPair s.heap TI (.ref i) (.ref j)) (hi:ti k s.heap) (hj:tj m s.heap) (hx:vi k=some x) (hy:vj m=some y)
  (hQ:∀ h',eL h' z TI TO (rawInt t) true->ti (k+1) h'->tj (m+1) h'->IsPair h' s.heap.objs.size x y->h'.objs.size=s.heap.objs.size+1->(∀ c o,c ∉ [z,i,j]->s.heap.get? c=some o->h'.get? c=some o)->Q (.ref s.heap.objs.size) { s with heap:=h' }) :
  wpAny (model prog w) A (Builtin.«zip.__next__» ⟨[.ref z],[]⟩) (λ fin s'=>∃ v,fin=.done (.ret v)/\Q v s') E s:=by
 have iz:i ≠ z:=cm S.mem D.zf;have jz:j ≠ z:=cm T.mem D.zg;refine K0 (m:=field (.ref z) 2) (Mf hz rfl (x:=.bool false) rfl ?_);refine K0 (m:=field (.ref z) 3) (Mf hz rfl (x:=.ref TI) rfl (K0 (Mm hTI rfl ?_)));refine K0 (m:=Builtin.SmallTypes.ownedTupleIsFree (.ref z)) (lF hz ht λ q1 z1 s1=>?_);simp only [L0,Nb];refine K0 ?_;simp only [OC,OB,Ou];refine K0 (K0 (Mc (K0 (m:=Builtin.SmallTypes.nextOf (.ref i)) (S.item _ k _ x _ _ (S.but hi s1.extBut D.zf) hx λ q2 i2 s2=>Lf ?_))));have j2:tj m q2:=T.but (T.but hj s1.extBut D.zg) s2.extBut D.ig;refine Lf ?_;refine K0 (K0 (Mc (K0 (m:=Builtin.SmallTypes.nextOf (.ref j)) (T.item _ m _ y _ _ j2 hy λ q3 j3 s3=>Lf ?_))));refine Lf (Lf ?_);refine K0 (N3 (hsz:=(show 2<=sizeLine by decide)) ?_);have sz:q3.objs.size=s.heap.objs.size:=by rw [s3.1,s2.1,s1.1]
 have z3:eL q3 z TI TO (rawInt t) true:=s3.extBut _ _ jz.symm (s2.extBut _ _ iz.symm z1);have i3:ti (k+1) q3:=S.but i2 s3.extBut D.jf;refine Lf ⟨_,rfl,?_⟩
 show Q (.ref q3.objs.size) _
 have n3:IsPair (q3.push { cls:=.type "tuple",data:=.seq #[x,y] }) q3.objs.size x y:=Lh _ rfl;have n4:(q3.push { cls:=.type "tuple",data:=.seq #[x,y] }).objs.size=q3.objs.size+1:=L4 ..;rw [sz] at n3 n4;rw [sz];refine hQ _ (K2 _ z3) (S.keep _ _ _ i3 λ c hc o e=>K2 _ e) (T.keep _ _ _ j3 λ c hc o e=>K2 _ e) n3 n4 λ c o hc e=>?_;simp only [Lz,Ld,L8,NP] at hc;exact K2 _ (s3.extBut _ _ hc.2.2 (s2.extBut _ _ hc.2.1 (s1.extBut _ _ hc.1 e)))
theorem vY(hh:A.handled=none)(S:Src prog w i f ti vi)(T:Src prog w j g tj vj)(D:dt z TI TO i j f g){Q:Fin->Shared->Prop}
  (hz:eL s.heap z TI TO (rawInt t) fl) (ht:s.heap.get? t=some ot) (hTI:IsPair s.heap TI (.ref i) (.ref j)) (hi:ti k s.heap) (hj:tj m s.heap) (hxy:vi k=none\/vj m=none)
  (hE:∀ h' e,(∀ c o,c ∉ [z,i,j]->s.heap.get? c=some o->h'.get? c=some o)->(∃ o,h'.get? e=some o/\o.cls=.type "StopIteration")->E (.ref e) { s with heap:=h' }) :
  wpAny (model prog w) A (Builtin.«zip.__next__» ⟨[.ref z],[]⟩) Q E s:=by
 refine K0 (m:=field (.ref z) 2) (Mf hz rfl (x:=.bool false) rfl ?_);refine K0 (m:=field (.ref z) 3) (Mf hz rfl (x:=.ref TI) rfl (K0 (Mm hTI rfl ?_)));refine K0 (m:=Builtin.SmallTypes.ownedTupleIsFree (.ref z)) (lF hz ht λ q1 z1 s1=>?_);simp only [L0,Nb];refine K0 ?_;simp only [OC,OB,Ou];refine K0 (K0 (Mc (K0 (m:=Builtin.SmallTypes.nextOf (.ref i)) ?_)))
 cases hx:vi k with
 | none=>
  refine S.fin _ k _ _ _ hh (S.but hi s1.extBut D.zf) hx λ q2 e s2 he=>hE q2 e (λ c o hc q=>?_) he;simp only [Lz,Ld,L8,NP] at hc;exact s2 _ _ hc.2.1 (s1.extBut _ _ hc.1 q)
 | some x=>
  have hy:vj m=none:=hxy.resolve_left (by rw [hx];exact Option.some_ne_none x);refine S.item _ k _ x _ _ (S.but hi s1.extBut D.zf) hx λ q2 i2 s2=>Lf (Lf ?_);have j2:tj m q2:=T.but (T.but hj s1.extBut D.zg) s2.extBut D.ig;refine K0 (K0 (Mc (K0 (m:=Builtin.SmallTypes.nextOf (.ref j)) (T.fin _ m _ _ _ hh j2 hy λ q3 e s3 he=>hE q3 e (λ c o hc q=>?_) he))));simp only [Lz,Ld,L8,NP] at hc;exact s3 _ _ hc.2.2 (s2.extBut _ _ hc.2.1 (s1.extBut _ _ hc.1 q))
theorem iX(S:Src prog w i f ti vi)(T:Src prog w j g tj vj)(D:dt z TI TO i j f g){Q:Option Value->Shared->Prop}
  (hz:eL s.heap z TI TO (rawInt t) fl) (ht:s.heap.get? t=some ot) (hTI:IsPair s.heap TI (.ref i) (.ref j)) (hi:ti k s.heap) (hj:tj m s.heap) (hx:vi k=some x) (hy:vj m=some y)
  (hQ:∀ h',eL h' z TI TO (rawInt t) true->ti (k+1) h'->tj (m+1) h'->IsPair h' s.heap.objs.size x y->h'.objs.size=s.heap.objs.size+1->(∀ c o,c ∉ [z,i,j]->s.heap.get? c=some o->h'.get? c=some o)->Q (some (.ref s.heap.objs.size)) { s with heap:=h' }) :
  wpAny (model prog w) A (pyNext (.ref z)) Q E s:=by
 have ty:s.TypeIs (.ref z) "zip":=⟨_,hz,rfl⟩;unfold pyNext;exact wpAny_bind (wpAny_attempt (wpAny_callSpecial?_slot (name:=Str.ofString "__next__") ty F.slot_zip_next (wpAny_call_entry F.slot_zip_next ty F.entry_zip_next (tS S T D hz ht hTI hi hj hx hy λ h' c1 c2 c3 c4 c5 c6=>wpAny_pure (hQ h' c1 c2 c3 c4 c5 c6)) (F.args_zip_next_1 _))))
theorem ko(hh:A.handled=none)(S:Src prog w i f ti vi)(T:Src prog w j g tj vj)(D:dt z TI TO i j f g){Q:Option Value->Shared->Prop}
  (hz:eL s.heap z TI TO (rawInt t) fl) (ht:s.heap.get? t=some ot) (hTI:IsPair s.heap TI (.ref i) (.ref j)) (hi:ti k s.heap) (hj:tj m s.heap) (hxy:vi k=none\/vj m=none)
  (hQ:∀ h',(∀ c o,c ∉ [z,i,j]->s.heap.get? c=some o->h'.get? c=some o)->Q none { s with heap:=h' }):wpAny (model prog w) A (pyNext (.ref z)) Q E s:=by
 have ty:s.TypeIs (.ref z) "zip":=⟨_,hz,rfl⟩;unfold pyNext;refine wpAny_bind (wpAny_attempt (wpAny_callSpecial?_slot (name:=Str.ofString "__next__") ty F.slot_zip_next (wpAny_call_entry F.slot_zip_next ty F.entry_zip_next (vY (show A.in1.handled=none from hh) S T D hz ht hTI hi hj hxy λ h' e kp he=>?_) (F.args_zip_next_1 _))));obtain⟨o,ho,hc⟩:=he;exact wpAny_bind (wpAny_isInstance (T := "StopIteration") (b:=true) ⟨o,ho,hc⟩ isSubtype_stop (wpAny_pure (hQ _ kp)))
def Zst(ka kb:Bool)(a b z TI TO p q:Addr)(as bs:Array Value)(n:Nat)(h:Heap):Prop:=
 (IsZip h z TI TO .none\/∃ (t:Addr) (fl:Bool) (ot:Obj),eL h z TI TO (rawInt t) fl/\h.get? t=some ot/\t ∉ [z,TI,TO,p,q])/\IsPair h TI (.ref p) (.ref q)/\(∃ u v,IsPair h TO u v)/\(b6 h ka p a n/\SeqAt h ka a as)/\(b6 h kb q b n/\SeqAt h kb b bs)
theorem Zst.keep{ka kb:Bool}{a b z TI TO p q:Addr}{as bs:Array Value}{n:Nat}{h h':Heap}(st:Zst ka kb a b z TI TO p q as bs n h)(k:∀ c o,h.get? c=some o->h'.get? c=some o):Zst ka kb a b z TI TO p q as bs n h':=by
 obtain⟨e0,e1,⟨u,v,e2⟩,⟨e3,e4⟩,e5,e6⟩:=st;refine⟨e0.imp (λ e=>k _ _ e) (λ ⟨t,fl,ot,x1,x2,x3⟩=>⟨t,fl,ot,k _ _ x1,k _ _ x2,x3⟩),k _ _ e1,⟨u,v,k _ _ e2⟩,⟨e3.at λ o e=>k _ o e,e4.at λ o e=>k _ o e⟩,e5.at λ o e=>k _ o e,e6.at λ o e=>k _ o e⟩
variable {ka kb:Bool}{a b p q:Addr}{as bs:Array Value}{n:Nat}
theorem vV(nd:[z,TI,TO,p,q].Nodup)(na:a ∉ [z,TI,TO,p,q])(nb:b ∉ [z,TI,TO,p,q]){Q:Option Value->Shared->Prop}(st:Zst ka kb a b z TI TO p q as bs n s.heap)(hx:as[n]? = some x)(hy:bs[n]? = some y)
  (hQ:∀ h',Zst ka kb a b z TI TO p q as bs (n+1) h'->IsPair h' s.heap.objs.size x y->h'.objs.size=s.heap.objs.size+1->(∀ c o,c ∉ [z,TI,TO,p,q]->s.heap.get? c=some o->h'.get? c=some o)->Q (some (.ref s.heap.objs.size)) { s with heap:=h' }) :
  wpAny (model prog w) A (pyNext (.ref z)) Q E s:=by
 obtain⟨e0,e1,⟨u,v,e2⟩,e3,e4⟩:=st;simp only [LO,Lz,Ld,L8,NP,Nq,and_true,Mg] at nd na nb;obtain⟨⟨z1,z2,z3,z4⟩,⟨t1,t2,t3⟩,⟨w1,w2⟩,y1⟩:=nd;obtain⟨a1,a2,a3,a4,a5⟩:=na;obtain⟨b1,b2,b3,b4,b5⟩:=nb;have S:=gp (prog:=prog) (w:=w) ka p a a4 as;have T:=gp (prog:=prog) (w:=w) kb q b b5 bs;have D:dt z TI TO p q [p,a] [q,b]:=⟨⟨Lv z1,t1,t2,t3⟩,z2,by simp [z3,Lv a1],by simp [z4,Lv b1],by simp [w1,Lv a3],by simp [w2,Lv b3],by simp [y1,Lv b4],by simp [Lv y1,Lv a5]⟩
 have zl:z < s.heap.objs.size/\TI < s.heap.objs.size/\TO < s.heap.objs.size/\p < s.heap.objs.size/\q < s.heap.objs.size:=by
  refine⟨?_,La e1,La e2,?_,?_⟩
  ·rcases e0 with e|⟨_,_,_,e,_⟩<;>exact La e
  ·obtain⟨o,_,e,_⟩:=e3.1.obj;exact La e
  ·obtain⟨o,_,e,_⟩:=e4.1.obj;exact La e
 have nw:s.heap.objs.size ∉ [z,TI,TO,p,q]:=by
  simp only [Lz,Ld,L8,NP];exact⟨LS zl.1,LS zl.2.1,LS zl.2.2.1,LS zl.2.2.2.1,LS zl.2.2.2.2⟩
 rcases e0 with e0|⟨t,fl,ot,e0,et,nt⟩
 ·refine eM S T D e0 e1 e2 e3 e4 hx hy λ h1 c1 c2 c3 c4 c5 c6 c7=>hQ h1 ⟨.inr ⟨_,false,_,c1,c5,nw⟩,c7 TI _ (by simp [Lv z1,t1,t2,t3]) e1,⟨_,_,c2⟩,c3,c4⟩ c5 c6 λ c o hc e=>c7 c o (λ z=>hc ?_) e;simp only [Lz,Ld,L8] at z ⊢
  rcases z with h|h|h|h<;>simp [h]
 ·refine iX S T D e0 et e1 e3 e4 hx hy λ h1 c1 c3 c4 c5 c6 c7=>hQ h1 ⟨.inr ⟨_,true,_,c1,c7 t _ (λ z=>nt ?_) et,nt⟩,c7 TI _ (by simp [Lv z1,t2,t3]) e1,⟨_,_,c7 TO _ (by simp [Lv z2,w1,w2]) e2⟩,c3,c4⟩ c5 c6 λ c o hc e=>c7 c o (λ z=>hc ?_) e
  all_goals
   simp only [Lz,Ld,L8] at z ⊢
   rcases z with h|h|h<;>simp [h]
theorem Am(hh:A.handled=none)(nd:[z,TI,TO,p,q].Nodup)(na:a ∉ [z,TI,TO,p,q])(nb:b ∉ [z,TI,TO,p,q]){Q:Option Value->Shared->Prop}(st:Zst ka kb a b z TI TO p q as bs n s.heap)(hxy:as[n]? = none\/bs[n]? = none)
  (hQ:∀ h',(∀ c o,c ∉ [z,TI,TO,p,q]->s.heap.get? c=some o->h'.get? c=some o)->Q none { s with heap:=h' }) :
  wpAny (model prog w) A (pyNext (.ref z)) Q E s:=by
 obtain⟨e0,e1,⟨u,v,e2⟩,e3,e4⟩:=st;simp only [LO,Lz,Ld,L8,NP,Nq,and_true,Mg] at nd na nb;obtain⟨⟨z1,z2,z3,z4⟩,⟨t1,t2,t3⟩,⟨w1,w2⟩,y1⟩:=nd;obtain⟨a1,a2,a3,a4,a5⟩:=na;obtain⟨b1,b2,b3,b4,b5⟩:=nb;have S:=gp (prog:=prog) (w:=w) ka p a a4 as;have T:=gp (prog:=prog) (w:=w) kb q b b5 bs;have D:dt z TI TO p q [p,a] [q,b]:=⟨⟨Lv z1,t1,t2,t3⟩,z2,by simp [z3,Lv a1],by simp [z4,Lv b1],by simp [w1,Lv a3],by simp [w2,Lv b3],by simp [y1,Lv b4],by simp [Lv y1,Lv a5]⟩
 rcases e0 with e0|⟨t,fl,ot,e0,et,nt⟩
 ·refine fL hh S T D e0 e1 e2 e3 e4 hxy λ h1 kp=>hQ h1 λ c o hc e=>kp c o (λ z=>hc ?_) e;simp only [Lz,Ld,L8] at z ⊢
  rcases z with h|h|h|h<;>simp [h]
 ·refine ko hh S T D e0 et e1 e3 e4 hxy λ h1 kp=>hQ h1 λ c o hc e=>kp c o (λ z=>hc ?_) e;simp only [Lz,Ld,L8] at z ⊢
  rcases z with h|h|h<;>simp [h]
structure Got(h:Heap)(lo:Nat)(as bs:Array Value)(ts:List Addr):Prop where
 nd:ts.Nodup
 lo:∀ t∈ts,lo<=t
 get:∀ (m:Nat) t,ts[m]? = some t->∃ x y,as[m]? = some x/\bs[m]? = some y/\IsPair h t x y
theorem Got.lt{h:Heap}{lo:Nat}{as bs:Array Value}{ts:List Addr}(G:Got h lo as bs ts):∀ t∈ts,t < h.objs.size:=λ t ht=>by
 obtain⟨m,hm,rfl⟩:=Mr ht;obtain⟨x,y,_,_,e⟩:=G.get m _ (K1 hm);exact La e
theorem vW{R:Result->Shared->Prop}(hh:A.handled=none)(nd:[z,TI,TO,p,q].Nodup)(na:a ∉ [z,TI,TO,p,q])(nb:b ∉ [z,TI,TO,p,q])(S lo:Addr)(hS:S ∉ [z,TI,TO,p,q])(aS:a ≠ S)(bS:b ≠ S)(hlo:∀ c∈[z,TI,TO,p,q],lo<=c)(hlS:lo<=S)(hsz:min as.size bs.size<=sizeLine) :
  ∀ (k n:Nat) (s:Shared) (ts:List Addr) (c:Nat),min as.size bs.size - n=k->n<=min as.size bs.size->Zst ka kb a b z TI TO p q as bs n s.heap->s.heap.get? S=some { cls:=.type "list",dict:=none,data:=.seq (ts.map Value.ref).toArray c,slots:=#[] }->ts.length=n->Got s.heap lo as bs ts->S ∉ ts->(∀ t∈ts,t ∉ [z,TI,TO,p,q])->lo<=s.heap.objs.size →
  (∀ h' ts' c',h'.get? S=some { cls:=.type "list",dict:=none,data:=.seq (ts'.map Value.ref).toArray c',slots:=#[] }->ts'.length=min as.size bs.size->Got h' lo as bs ts'->S ∉ ts'->(∀ d o,d < lo->s.heap.get? d=some o->h'.get? d=some o)->R (.ok (.ret .none)) { s with heap:=h' }) →
  codeAny (model prog w) A (.builtin "list.extend.loop" ⟨[.ref S,.ref z,.none],[]⟩) R s:=by
 intro k
 induction k with
 | zero=>
  intro n s ts c hk hn st hL hl G hSt hts hlz hR;refine codeAny_builtin PySem.F.entry_extend_loop ?_;rw [Around.under_plainId M9 _]
  show wpAny _ A.in1 (pyNext (.ref z) >>= _) _ _ s
  refine K0 (Am (show A.in1.handled=none from hh) nd na nb st ?_ λ h' kp=>?_)
  ·by_cases h1:as.size<=n
   ·exact .inl (Array.getElem?_eq_none h1)
   ·exact .inr (Array.getElem?_eq_none (by omega))
  ·exact Lf (hR h' ts c (kp _ _ hS hL) (by omega) ⟨G.nd,G.lo,λ m t ht=>by
    obtain⟨x,y,e1,e2,e3⟩:=G.get m t ht;exact⟨x,y,e1,e2,kp _ _ (hts t (Ly ht)) e3⟩⟩ hSt λ d o hd e=>kp d o (λ z=>absurd (hlo d z) (Nat.not_le.mpr hd)) e)
 | succ k ih=>
  intro n s ts c hk hn st hL hl G hSt hts hlz hR;have h1:n < as.size:=by omega
  have h2:n < bs.size:=by omega
  refine codeAny_builtin PySem.F.entry_extend_loop ?_;rw [Around.under_plainId M9 _]
  show wpAny _ A.in1 (pyNext (.ref z) >>= _) _ _ s
  refine K0 (vV nd na nb st (Na h1) (Na h2) λ h' st' pr sz kp=>?_);have hL':=kp _ _ hS hL
  show wpAny _ A.in1 (updateSeq S (·.push (.ref s.heap.objs.size)) >>= _) _ _ _
  refine K0 ?_;have Sn:S ≠ s.heap.objs.size:=Ll (La hL);have kp2:∀ d o,d ≠ S->h'.get? d=some o->(h'.update S (Obj.mapSeq (·.push (.ref s.heap.objs.size)))).get? d=some o:=λ d o hd e=>(L5 _ _ (Lv hd)).trans e
  have G':Got (h'.update S (Obj.mapSeq (·.push (.ref s.heap.objs.size)))) lo as bs (ts++[s.heap.objs.size]):=by
   refine⟨?_,λ t ht=>?_,λ m t ht=>?_⟩
   ·rw [L9];refine⟨G.nd,by simp,λ x hx y hy=>?_⟩;rw [Lq.mp hy];exact Ll (G.lt x hx)
   ·rcases LJ.mp ht with ht|ht
    ·exact G.lo t ht
    ·rw [Lq.mp ht];exact hlz
   ·by_cases hm:m < ts.length
    ·rw [L3 hm] at ht;obtain⟨x,y,e1,e2,e3⟩:=G.get m t ht;have hmem:=Ly ht;exact⟨x,y,e1,e2,kp2 _ _ (λ z=>hSt (z ▸ hmem)) (kp _ _ (hts t hmem) e3)⟩
    ·rw [LP (by omega)] at ht
     have h0:m - ts.length=0:=by
      rcases Nat.eq_zero_or_pos (m - ts.length) with h|h
      ·exact h
      ·rw [Nw (by simp;omega)] at ht;cases ht
     rw [h0] at ht;simp at ht;subst ht;have hmn:m=n:=by omega
     subst hmn;exact⟨_,_,Na h1,Na h2,kp2 _ _ (Lv Sn) pr⟩
  have nw:s.heap.objs.size ∉ [z,TI,TO,p,q]:=by
   obtain⟨e0,e1,⟨u,v,e2⟩,e3,e4⟩:=st;simp only [Lz,Ld,L8,NP];refine⟨?_,LS (La e1),LS (La e2),?_,?_⟩
   ·rcases e0 with e|⟨_,_,_,e,_⟩<;>exact LS (La e)
   ·obtain⟨o,_,e,_⟩:=e3.1.obj;exact LS (La e)
   ·obtain⟨o,_,e,_⟩:=e4.1.obj;exact LS (La e)
  have stK:Zst ka kb a b z TI TO p q as bs (n+1) (h'.update S (Obj.mapSeq (·.push (.ref s.heap.objs.size)))):=by
   obtain⟨e0,e1,⟨u,v,e2⟩,⟨e3,e4⟩,e5,e6⟩:=st';simp only [Lz,Ld,L8,NP] at hS;obtain⟨n1,n2,n3,n4,n5⟩:=hS;refine⟨e0.imp (λ e=>kp2 _ _ (Lv n1) e) (λ ⟨t,fl,ot,x1,x2,x3⟩=>?_),kp2 _ _ (Lv n2) e1,⟨u,v,kp2 _ _ (Lv n3) e2⟩,⟨e3.at λ o e=>kp2 _ o (Lv n4) e,e4.at λ o e=>kp2 _ o aS e⟩,e5.at λ o e=>kp2 _ o (Lv n5) e,e6.at λ o e=>kp2 _ o bS e⟩
   by_cases htS:t=S
   ·subst htS;exact⟨t,fl,_,kp2 _ _ (Lv n1) x1,LX _ hL' rfl,x3⟩
   ·exact⟨t,fl,ot,kp2 _ _ (Lv n1) x1,kp2 _ _ htS x2,x3⟩
  have hLn:(h'.update S (Obj.mapSeq (·.push (Value.ref s.heap.objs.size)))).get? S=some { cls:=.type "list",dict:=none,data:=.seq ((ts++[s.heap.objs.size]).map Value.ref).toArray (c+1),slots:=#[] }:=by
   rw [LX (Obj.mapSeq (·.push (Value.ref s.heap.objs.size))) hL' rfl];simp [Obj.mapSeq]
  refine M6 hL' rfl (Lf ⟨plainId_quiet M9 _,ih (n+1) _ (ts++[s.heap.objs.size]) _ (by omega) (by omega) stK hLn (by simp [hl]) G' ?_ ?_ ?_ λ h3 ts3 c3 r1 r2 r3 r4 r5=>hR h3 ts3 c3 r1 r2 r3 r4 λ d o hd e=>r5 d o hd ?_⟩) ?_ ?_
  ·intro hm
   rcases LJ.mp hm with hm|hm
   ·exact hSt hm
   ·exact Sn (Lq.mp hm)
  ·intro t ht
   rcases LJ.mp ht with ht|ht
   ·exact hts t ht
   ·rw [Lq.mp ht];exact nw
  ·show lo<=(h'.update S _).objs.size
   rw [Mh,sz];exact LU hlz (MB _)
  ·exact kp2 _ _ (Ll (LA hd hlS)) (kp d o (λ z=>absurd (hlo d z) (Nat.not_le.mpr hd)) e)
  ·simp;omega
  ·simp;omega
theorem pY:typeLookup (.type "zip") "__len__"=pure none:=by rw [typeLookup_type,builtinLookup_eq_fast];kernel_rfl
theorem nV:typeLookup (.type "zip") "__length_hint__"=pure none:=by rw [typeLookup_type,builtinLookup_eq_fast];kernel_rfl
theorem Zst.ty(st:Zst ka kb a b z TI TO p q as bs n s.heap):s.TypeIs (.ref z) "zip":=by
 rcases st.1 with e|⟨_,_,_,e,_⟩
 ·exact⟨_,e,rfl⟩
 ·exact⟨_,e,rfl⟩
theorem Zst.but{h h':Heap}{S:Addr}(st:Zst ka kb a b z TI TO p q as bs 0 h)(e0:IsZip h z TI TO .none)(hS:S ∉ [z,TI,TO,p,q])(aS:a ≠ S)(bS:b ≠ S)(k:∀ c o,c ≠ S->h.get? c=some o->h'.get? c=some o):Zst ka kb a b z TI TO p q as bs 0 h':=by
 obtain⟨_,e1,⟨u,v,e2⟩,⟨e3,e4⟩,e5,e6⟩:=st;simp only [Lz,Ld,L8,NP] at hS;obtain⟨n1,n2,n3,n4,n5⟩:=hS;exact⟨.inl (k _ _ (Lv n1) e0),k _ _ (Lv n2) e1,⟨u,v,k _ _ (Lv n3) e2⟩,⟨e3.at λ o e=>k _ o (Lv n4) e,e4.at λ o e=>k _ o aS e⟩,e5.at λ o e=>k _ o (Lv n5) e,e6.at λ o e=>k _ o bS e⟩
theorem kY{Q:Value->Shared->Prop}(hh:A.handled=none)(nd:[z,TI,TO,p,q].Nodup)(na:a ∉ [z,TI,TO,p,q])(nb:b ∉ [z,TI,TO,p,q])(lo:Addr)(hlo:∀ c∈[z,TI,TO,p,q],lo<=c)(hsz:min as.size bs.size<=sizeLine)
  (e0:IsZip s.heap z TI TO .none) (st:Zst ka kb a b z TI TO p q as bs 0 s.heap)
  (hQ:∀ h' ts' c',h'.get? s.heap.objs.size=some { cls:=.type "list",dict:=none,data:=.seq (ts'.map Value.ref).toArray c',slots:=#[] }->ts'.length=min as.size bs.size->Got h' lo as bs ts'->s.heap.objs.size ∉ ts'->(∀ d o,d < lo->s.heap.get? d=some o->h'.get? d=some o)->Q (.ref s.heap.objs.size) { s with heap:=h' }) :
  wpAny (model prog w) A (call (.type "list") [.ref z]) Q E s:=by
 have zl:∀ c∈[z,TI,TO,p,q],c < s.heap.objs.size:=by
  obtain⟨_,e1,⟨u,v,e2⟩,⟨e3,e4⟩,e5,e6⟩:=st;intro c hc;simp only [Lz,Ld,L8] at hc
  rcases hc with rfl|rfl|rfl|rfl|rfl
  ·exact La e0
  ·exact La e1
  ·exact La e2
  ·obtain⟨o,_,e,_⟩:=e3.obj;exact La e
  ·obtain⟨o,_,e,_⟩:=e5.obj;exact La e
 have hSf:s.heap.objs.size ∉ [z,TI,TO,p,q]:=λ hm=>LQ _ (zl _ hm);have hSz:s.heap.objs.size ≠ z:=λ e=>hSf (by simp [e]);have al:a < s.heap.objs.size:=by obtain⟨o,_,e,_⟩:=st.2.2.2.1.2.obj;exact La e
 have bl:b < s.heap.objs.size:=by obtain⟨o,_,e,_⟩:=st.2.2.2.2.2.obj;exact La e
 have hlS:lo<=s.heap.objs.size:=Nu (Nat.lt_of_le_of_lt (hlo z (by simp)) (zl z (by simp)))
 refine callType_codes (Q₁:=λ obj s₁=>obj=.ref s.heap.objs.size/\s₁={ s with heap:=s.heap.push { cls:=.type "list",data:=.seq #[] } }) PySem.F.called_list (PySem.F.typeCall_list_1 _) PySem.F.entry_list_init
  (code_list_new _ ⟨rfl,rfl⟩) λ obj s₁ h₁=>?_
 obtain⟨rfl,rfl⟩:=h₁;have hS:(s.heap.push { cls:=.type "list",data:=.seq #[] }).get? s.heap.objs.size=some { cls:=.type "list",data:=.seq #[] }:=Lh _ rfl;refine⟨⟨_,hS,rfl⟩,PySem.F.args_list_init_2 _ _,?_⟩
 show wpAny _ A.in1.in1 (do let old ←Builtin.List.listItems (.ref s.heap.objs.size);Builtin.List.listUpdate (.ref s.heap.objs.size) (λ _=>#[]);letGo old.toList.reverse;Builtin.List.listExtendWith (.ref s.heap.objs.size) (.ref z) .none) _ _ _
 refine wpAny_bind ?_;unfold Builtin.List.listItems;refine wpAny_bind (wpAny_seqItems hS rfl (wpAny_pure ?_))
 show wpAny _ A.in1.in1 (updateSeq s.heap.objs.size (λ _=>#[]) >>= λ _=>letGo (#[]:Array Value).toList.reverse >>= λ _=>Builtin.List.listExtendWith (.ref s.heap.objs.size) (.ref z) .none) _ _ _
 refine K0 (M6 hS rfl ?_);have hS₂:=LX (Obj.mapSeq (λ _=>(#[]:Array Value))) hS rfl;refine K0 (Om ?_);have k1:∀ c o,s.heap.get? c=some o->((s.heap.push { cls:=.type "list",data:=.seq #[] }).update s.heap.objs.size (Obj.mapSeq (λ _=>(#[]:Array Value)))).get? c=some o:=λ c o e=>(L5 _ _ (LS (La e))).trans (K2 _ e);have st1:=st.keep k1;have e1:=k1 _ _ e0;have sz1:((s.heap.push { cls:=.type "list",data:=.seq #[] }).update s.heap.objs.size (Obj.mapSeq (λ _=>(#[]:Array Value)))).objs.size=s.heap.objs.size+1:=by rw [Mh,L4]
 generalize (s.heap.push { cls:=.type "list",data:=.seq #[] }).update s.heap.objs.size (Obj.mapSeq (λ _=>(#[]:Array Value)))=hp at hS₂ k1 st1 e1 sz1;unfold Builtin.List.listExtendWith;have ty1:Shared.TypeIs { s with heap:=hp } (.ref z) "zip":=Zst.ty (s:={ s with heap:=hp }) st1;refine wpAny_bind (wpAny_typeOf ty1 ?_);have h1:Builtin.List.listSameRef (.ref s.heap.objs.size) (.ref z)=false:=by simp [Builtin.List.listSameRef,hSz]
 have h2:(Value.type "zip" == Value.type "list")=false:=by decide
 have h3:(Value.type "zip" == Value.type "tuple")=false:=by decide
 simp only [h1,h2,h3,Bool.or_false,Bool.false_eq_true,if_false];refine wpAny_bind (wpAny_pyIter_zip e1 ?_);refine wpAny_bind (wpAny_holding ?_);unfold Builtin.List.listLengthHint;refine wpAny_bind (wpAny_specialOf ty1 pY ?_)
 show wpAny _ A.in1.in1 (specialOf (Value.ref z) (Str.ofString "__length_hint__") >>= _) _ _ _
 refine K0 (Oz ty1 nV ?_);refine Lf ?_
 show wpAny _ A.in1.in1 (rule "list.extend.makes-room" >>= λ _=>Builtin.List.listTouch (.ref s.heap.objs.size) >>= λ _=>
  again (.builtin "list.extend.loop" ⟨[.ref s.heap.objs.size,.ref z,.none],[]⟩)) _ _ _
 refine K0 (N7 ?_);refine K0 ?_
 show wpAny _ A.in1.in1 (updateSeq s.heap.objs.size (·.push .none) >>= λ _=>updateSeq s.heap.objs.size (·.pop)) _ _ _
 refine K0 (M6 hS₂ rfl ?_);have hS₃:=LX (Obj.mapSeq (·.push Value.none)) hS₂ rfl;refine M6 (hz:=by seq_fits) hS₃ rfl ?_;have hS₄:=LX (Obj.mapSeq (·.pop)) hS₃ rfl
 have oth:∀ c o,c ≠ s.heap.objs.size->hp.get? c=some o->((hp.update s.heap.objs.size (Obj.mapSeq (·.push Value.none))).update s.heap.objs.size (Obj.mapSeq (·.pop))).get? c=some o:=
  λ c o hc e=>(L5 _ _ (Lv hc)).trans ((L5 _ _ (Lv hc)).trans e)
 have st4:=st1.but e1 hSf (Ll al) (Ll bl) oth;refine Lf ⟨plainId_quiet M9 _,vW (A:=A.in1) hh nd na nb s.heap.objs.size lo hSf (Ll al) (Ll bl) hlo hlS hsz _ 0 _ [] _ rfl (LD _) st4 (by exact hS₄) rfl ⟨Mg,λ t h=>absurd h Ld,λ m t h=>by simp at h⟩ (by simp) (λ t h=>absurd h Ld) ?_ λ h' ts' c' r1 r2 r3 r4 r5=>?_⟩
 ·show lo<=((hp.update _ _).update _ _).objs.size
  rw [Mh,Mh,sz1];exact LU hlS (MB _)
 ·refine⟨rfl,hQ h' ts' c' r1 r2 r3 r4 λ d o hd e=>r5 d o hd (oth d o (Ll (La e)) (k1 d o e))⟩
end
section
variable {X:Cx}{pins:List (Addr × Obj)}{σ:St}{s:Shared}
theorem Inv.adoptAll:∀ (ts:List Addr) (zs:List (V × V)){H:Hp},Inv X pins σ H s->ts.length=zs.length->ts.Nodup->(∀ t∈ts,rE X pins t/\H t=none)->(∀ (m:Nat) t z,ts[m]? = some t->zs[m]? = some z->∃ u v,aU z.1 u/\aU z.2 v/\IsPair s.heap t u v) →
  ∃ H',Inv X pins σ H' s/\Ext H H'/\(∀ c,c ∉ ts->H' c=H c)/\∀ (m:Nat) t z,ts[m]? = some t->zs[m]? = some z->H' t=some (.tup [z.1,z.2])
 | [],zs,H,I,_,_,_,_=>⟨H,I,Ext.refl _,λ _ _=>rfl,λ m t z h=>by simp at h⟩
 | t::ts,[],H,I,hl,_,_,_=>by simp at hl
 | t::ts,z::zs,H,I,hl,nd,hn,hp=>by
  rw [LO] at nd;obtain⟨N,ht⟩:=hn t Lj;obtain⟨u,v,ru,rv,pr⟩:=hp 0 t z rfl rfl;have I1:=I.adopt (o:=.tup [z.1,z.2]) N ht ⟨(show 2<=sizeLine by decide),[u,v],.cons ru (.cons rv .nil),⟨_,pr,rfl,_,rfl⟩⟩;have up:∀ c∈ts,c ≠ t:=λ c hc e=>nd.1 (e ▸ hc);obtain⟨H',I',e',q',g'⟩:=Inv.adoptAll ts zs I1 (by simpa using hl) nd.2 (λ c hc=>⟨(hn c (Lg _ hc)).1,by rw [af (up c hc)];exact(hn c (Lg _ hc)).2⟩) λ m t' z' h1 h2=>hp (m+1) t' z' (by simpa using h1) (by simpa using h2);refine⟨H',I',(Ext.new ht).trans e',λ c hc=>?_,λ m t' z' h1 h2=>?_⟩
  ·rw [q' c (λ h=>hc (Lg _ h)),af (λ h=>hc (by rw [h];exact Lj))]
  ·cases m with
   | zero=>
    simp at h1 h2;subst h1;subst h2;rw [q' t nd.1,ag]
   | succ m=>exact g' m t' z' (by simpa using h1) (by simpa using h2)
end
def lzK(xs ys:List V)(H:Hp)(Q:VK):Prop:=∀ (D:Addr) (ts:List V) (H':Hp),H D=none->Ext H H'->H' D=some (.lst ts)->Al (λ z y=>Hk z y H') (xs.zip ys) ts->Q (.ref D) H'
theorem Iv(xs ys:List V)(H:Hp)(Q:VK):lzK xs ys H Q=∀ (D:Addr) (ts:List V) (H':Hp),H D=none->Ext H H'->H' D=some (.lst ts)->Al (λ z y=>Hk z y H') (xs.zip ys) ts->Q (.ref D) H':=rfl
def C9(xs:List V)(H:Hp)(Q:VK):HO->Prop:=λ o=>match o with
 | .lst ys=>lzK xs ys H Q
 | .tup ys=>lzK xs ys H Q
 | _=>False
theorem xl(xs ys:List V)(H:Hp)(Q:VK):C9 xs H Q (.lst ys)=lzK xs ys H Q:=rfl
def Ha(b:Addr)(H:Hp)(Q:VK):HO->Prop:=λ o=>match o with
 | .lst xs=>aI (H b) (C9 xs H Q)
 | .tup xs=>aI (H b) (C9 xs H Q)
 | _=>False
theorem xm(b:Addr)(xs:List V)(H:Hp)(Q:VK):Ha b H Q (.lst xs)=aI (H b) (C9 xs H Q):=rfl
def Dm(Q:VK):List V->Hp->Prop:=λ vs H=>match vs with
 | [.ref a,.ref b]=>aI (H a) (Ha b H Q)
 | _=>False
theorem Fw(Q:VK)(a b:Addr)(H:Hp):Dm Q [.ref a,.ref b] H=aI (H a) (Ha b H Q):=rfl
def tLZ(ta:TA):TE:=λ σ H Q=>ta σ H (Dm Q)
theorem IQ(ta:TA)(σ:St)(H:Hp)(Q:VK):tLZ ta σ H Q=ta σ H (Dm Q):=rfl
theorem Cp{Q:VK}{vs:List V}{H:Hp}(h:Dm Q vs H):∃ a b ka kb xs ys,vs=[.ref a,.ref b]/\SqK ka H a xs/\SqK kb H b ys/\lzK xs ys H Q:=by
 unfold Dm at h;split at h
 ·rename_i a b;obtain⟨o,e,h⟩:=ai h;unfold Ha at h;split at h
  ·rename_i xs;obtain⟨o',e',h⟩:=ai h;unfold C9 at h;split at h
   ·exact⟨a,b,false,false,xs,_,rfl,e,e',h⟩
   ·exact⟨a,b,false,true,xs,_,rfl,e,e',h⟩
   ·exact h.elim
  ·rename_i xs;obtain⟨o',e',h⟩:=ai h;unfold C9 at h;split at h
   ·exact⟨a,b,true,false,xs,_,rfl,e,e',h⟩
   ·exact⟨a,b,true,true,xs,_,rfl,e,e',h⟩
   ·exact h.elim
  ·exact h.elim
 ·exact h.elim
theorem Inv.sqLe{X:Cx}{pins:List (Addr × Obj)}{σ:St}{H:Hp}{s:Shared}{k:Bool}{a:Addr}{xs:List V}(I:Inv X pins σ H s)(h:SqK k H a xs):xs.length<=sizeLine:=by
 cases k
 ·obtain⟨_,_,_,h⟩:=I.list (SqL.of h);exact h
 ·obtain⟨_,_,_,h⟩:=I.tuple (SqT.of h);exact h
section
variable {X:Cx}
theorem lI:∀ ts:List Addr,aL (ts.map V.ref) (ts.map Value.ref)
 | []=>.nil
 | _::ts=>.cons rfl (lI ts)
theorem qe{a b:Expr}{ta:TA}{p p2 pos pos2:Pos}(hc:X.calm=true)(hg:Gl X "list")(hm:X.mg "list"=none)(hg2:Gl X "zip")(hm2:X.mg "zip"=none)(ha:PA X [a,b] ta)(hs:starEach [a,b] X.env=[(false,eval a X.env),(false,eval b X.env)]:=by rfl)(hs2:starEach [b] X.env=[(false,eval b X.env)]:=by rfl)(hs3:starEach [Expr.Call (.Name "zip" p2) [a,b] [] pos2] X.env=[(false,eval (Expr.Call (.Name "zip" p2) [a,b] [] pos2) X.env)]:=by rfl)(hs4:starEach ([]:List Expr) X.env=[]:=by rfl) :
  PE X (.Call (.Name "list" p) [.Call (.Name "zip" p2) [a,b] [] pos2] [] pos) (tLZ ta):=by
 intro pins s σ H Q I h;refine MY (eJ I hg hm (show bootBuiltins "list"=some (.type "list") by decide +kernel) ?_);refine L6 ?_ (by rw [hs3,hs4]) (by rw [hs4];rfl);rw [hs3]
 show wpAny _ _ (spliced ((false,eval _ X.env)::[])) _ _ s
 refine Nx ?_;refine Call_ (eJ I hg2 hm2 (show bootBuiltins "zip"=some (.type "zip") by decide +kernel) (L6 (thn (ha pos2 pins s σ H _ I h) λ us s1 ⟨vs,H1,I1,r1,q1⟩=>?_) (by rw [hs,hs2]) (by rw [hs2];rfl)));obtain⟨a,b,ka,kb,xs,ys,rfl,sa,sb,q⟩:=Cp q1
 cases r1 with
 | cons r rr=>
  cases rr with
  | cons r' rr=>
   cases rr;cases r;cases r';obtain⟨as,ra,s1a⟩:=I1.sq sa;obtain⟨bs,rb,s1b⟩:=I1.sq sb;have la:=ra.length;have lb:=rb.length;have lz:=I1.sqLe sa;have lz2:=I1.sqLe sb;refine tE s1a s1b λ h' n hn e1 e2 e3 e4 e5 e6 e7=>?_;refine Of ?_
   have nn:∀ c∈[n+4,n+2,n+3,n,n+1],n<=c:=λ c hc=>by
    simp only [Lz,Ld,L8] at hc
    rcases hc with rfl|rfl|rfl|rfl|rfl<;>omega
   have al:a < n:=by rw [hn];obtain⟨o,_,e,_⟩:=s1a.obj;exact La e
   have bl:b < n:=by rw [hn];obtain⟨o,_,e,_⟩:=s1b.obj;exact La e
   refine kY (s:={ s1 with heap:=h' }) (I1.ok.hd hc) (by simp) (λ z=>absurd (nn a z) (Nat.not_le.mpr al)) (λ z=>absurd (nn b z) (Nat.not_le.mpr bl)) n nn (by simp;omega) e1 ⟨.inl e1,e2,⟨_,_,e3⟩,⟨e4,s1a.at λ o e=>e7 _ o e⟩,e5,s1b.at λ o e=>e7 _ o e⟩ λ h2 ts c r1 r2 G r4 r5=>?_;have r1':h2.get? (n+5)=some { cls:=.type "list",dict:=none,data:=.seq (ts.map Value.ref).toArray c,slots:=#[] }:=by rw [←e6];exact r1
   have I2:Inv X pins σ H1 { s1 with heap:=h2 }:=I1.kept (t':=s1.toks) λ c o e=>r5 c o (by rw [hn];exact La e) (e7 c o e);have hln:ts.length=(xs.zip ys).length:=by rw [r2,Ob];simp;omega
   have fr:∀ t,n<=t->rE X pins t/\H1 t=none:=λ t ht=>⟨I1.newAt (by rw [←hn];exact ht),I1.hok.fresh (by rw [←hn];exact ht)⟩
   obtain⟨H2,I3,x2,q2,g2⟩:=I2.adoptAll ts (xs.zip ys) hln G.nd (λ t ht=>fr t (G.lo t ht)) λ m t z h1 h2=>by
    obtain⟨u,v,g1,g2,g3⟩:=G.get m t h1;rw [MF] at h2;obtain⟨u',hu,ru⟩:=ra.get h2.1;obtain⟨v',hv,rv⟩:=rb.get h2.2;have hu':as.toArray[m]? = some u':=by simpa using hu
    have hv':bs.toArray[m]? = some v':=by simpa using hv
    rw [g1] at hu';rw [g2] at hv';cases hu';cases hv';exact⟨u,v,ru,rv,g3⟩
   have hD:H2 (n+5)=none:=by
    rw [q2 _ (by rw [←e6];exact r4)];exact(fr (n+5) (MP ..)).2
   have I4:=I3.adopt (o:=.lst (ts.map V.ref)) (fr (n+5) (MP ..)).1 hD ⟨by rw [Lc,r2];simp;omega,ts.map Value.ref,c,lI ts,r1'⟩;refine⟨.ref (n+5),_,I4,by rw [←e6];rfl,q (n+5) (ts.map V.ref) _ (fr (n+5) (MP ..)).2 (x2.trans (Ext.new hD)) ag ⟨by rw [Lc,hln],λ m z y hz hy=>?_⟩⟩;rw [Lr] at hy;obtain⟨t,ht,rfl⟩:=Lk.mp hy;exact⟨t,rfl,by rw [af (λ e=>r4 (by rw [e6,←e];exact Ly ht))];exact g2 m t z ht hz⟩
end
def J4(l:Addr)(H:Hp)(Q:VK):List V->Prop:=λ _=>Q .non (upd H l (.lst []))
theorem FI(l:Addr)(H:Hp)(Q:VK)(xs:List V):J4 l H Q xs=Q .non (upd H l (.lst [])):=rfl
theorem xh(l:Addr)(H:Hp)(Q:VK):rV (.ref l) [] H Q=aI (ay H l) (J4 l H Q):=by
 unfold rV;refine propext ⟨λ h=>?_,λ h=>?_⟩
 ·obtain⟨l',xs,e,_,hl,q⟩:=h;cases e;have e2:ay H l=some xs:=by unfold ay;rw [hl];rfl
  rw [e2,iu];exact q
 ·obtain⟨xs,e,q⟩:=ai h;exact⟨l,xs,rfl,rfl,bB e,q⟩
def Ad(H:Hp)(Q:VK):List Int->Prop:=λ ns=>0 < ns.length/\∀ M,M∈ns->(∀ a∈ns,M<=a)->Q (.int M) H
theorem An(H:Hp)(Q:VK)(ns:List Int):Ad H Q ns=(0 < ns.length/\∀ M,M∈ns->(∀ a∈ns,M<=a)->Q (.int M) H):=rfl
def DV(H:Hp)(Q:VK):List Int->Prop:=λ ns=>0 < ns.length/\∀ M,M∈ns->(∀ a∈ns,a<=M)->Q (.int M) H
def zL:List V->Hp->VK->Prop:=λ vs H Q=>match vs with
 | [.ref p]=>aI (ay H p) (gF (Ad H Q))
 | _=>False
theorem Bz(p:Addr)(H:Hp)(Q:VK):zL [.ref p] H Q=aI (ay H p) (gF (Ad H Q)):=rfl
def zM:List V->Hp->VK->Prop:=λ vs H Q=>match vs with
 | [.ref p]=>aI (ay H p) (gF (DV H Q))
 | _=>False
theorem BA(p:Addr)(H:Hp)(Q:VK):zM [.ref p] H Q=aI (ay H p) (gF (DV H Q)):=rfl
section
variable {X:Cx}
theorem qL(hc:X.calm=true):bG X (.builtin "min") zL:=by
 intro pins s σ H vs us Q I r h;unfold zL at h;split at h
 ·rename_i p;obtain⟨xs,e,ns,rfl,hn,q⟩:=ai h
  cases r with
  | cons r rr=>
   cases rr;cases r;obtain⟨its,rv,pl,hz⟩:=I.list (SqL.of (bB e));have hlt:p < s.heap.objs.size:=by obtain⟨_,e,_⟩:=pl.isList;exact La e
   have hlen:its.length=ns.length:=by have:=rv.length;simpa using this.symm
   have hsz:its.toArray.size=ns.length:=by simp [hlen]
   have hP:∀ (i:Nat) (v:Value),its.toArray[i]? = some v->∃ t,v=.int (ns.getD i 0) t:=λ i v hP=>by
    have hv:its[i]? = some v:=by simpa using hP
    have hi:i < ns.length:=by rw [←hlen];exact(Lb.mp hv).1
    obtain⟨u,hu,ru⟩:=rv.get (i:=i) (x:=.int (ns.getD i 0)) (by rw [Lr,K1 hi];simp [List.getD,K1 hi]);rw [hv] at hu;cases hu;exact ru
   refine call_min_walkS (MO pl.isList ⟨s.heap.objs.size,_,_,_,_,_,_,λ i j=>decide (ns.getD i 0 < ns.getD j 0),rfl,(Walks.list (show X.A.in1.handled=none from I.ok.hd hc) _ p (Ll hlt) its.toArray).toS,⟨⟨_,Lh _ rfl,rfl,rfl⟩,pl.isList.push _⟩,λ b hb=>?_,by rw [hsz];exact hn,CmpOf.ints_lt (λ i=>ns.getD i 0) λ i v h=>hP i v h,λ v s' hv hm=>?_⟩)
   ·rw [L4]
    rcases Lz.mp hb with rfl|hb
    ·exact Nf _
    ·rw [Lq.mp hb];exact LY hlt
   ·obtain⟨hp,g,d,tk,os⟩:=s'
    have kp:∀ b o,s.heap.get? b=some o->hp.get? b=some o:=λ b o e=>hm.heap b o (λ hmem=>by
     have:b=s.heap.objs.size:=by simpa using hmem
     subst this;exact absurd (La e) (LQ _)) (K2 _ e)
    have e1:g=s.gens:=hm.gens;have e2:d=s.drawn:=hm.drawn;have e3:os=s.os:=hm.os;subst e1 e2 e3;obtain⟨b1,b2⟩:=argBest_lt (λ i=>ns.getD i 0) (its.toArray.size - 1);have rv2:=hP _ v hv;generalize argBest (λ i j=>decide (ns.getD i 0 < ns.getD j 0)) (its.toArray.size - 1)=k at b1 b2 rv2;rw [hsz] at b1 b2;have hk:k < ns.length:=by omega
    refine⟨.int (ns.getD k 0),H,I.kept (t':=tk) kp,rv2,q _ ?_ λ a ha=>?_⟩
    ·rw [List.getD,K1 hk];exact MK hk
    ·obtain⟨j,hj,rfl⟩:=Mr ha;have:=b2 j (by omega);rw [show ns.getD j 0=ns[j] by rw [List.getD,K1 hj];rfl] at this;exact this
 ·exact h.elim
theorem qM(hc:X.calm=true):bG X (.builtin "max") zM:=by
 intro pins s σ H vs us Q I r h;unfold zM at h;split at h
 ·rename_i p;obtain⟨xs,e,ns,rfl,hn,q⟩:=ai h
  cases r with
  | cons r rr=>
   cases rr;cases r;obtain⟨its,rv,pl,hz⟩:=I.list (SqL.of (bB e));have hlt:p < s.heap.objs.size:=by obtain⟨_,e,_⟩:=pl.isList;exact La e
   have hlen:its.length=ns.length:=by have:=rv.length;simpa using this.symm
   have hsz:its.toArray.size=ns.length:=by simp [hlen]
   have hP:∀ (i:Nat) (v:Value),its.toArray[i]? = some v->∃ t,v=.int (ns.getD i 0) t:=λ i v hP=>by
    have hv:its[i]? = some v:=by simpa using hP
    have hi:i < ns.length:=by rw [←hlen];exact(Lb.mp hv).1
    obtain⟨u,hu,ru⟩:=rv.get (i:=i) (x:=.int (ns.getD i 0)) (by rw [Lr,K1 hi];simp [List.getD,K1 hi]);rw [hv] at hu;cases hu;exact ru
   refine call_max_walkS (MO pl.isList ⟨s.heap.objs.size,_,_,_,_,_,_,λ i j=>decide (ns.getD i 0 > ns.getD j 0),rfl,(Walks.list (show X.A.in1.handled=none from I.ok.hd hc) _ p (Ll hlt) its.toArray).toS,⟨⟨_,Lh _ rfl,rfl,rfl⟩,pl.isList.push _⟩,λ b hb=>?_,by rw [hsz];exact hn,CmpOf.ints_gt (λ i=>ns.getD i 0) λ i v h=>hP i v h,λ v s' hv hm=>?_⟩)
   ·rw [L4]
    rcases Lz.mp hb with rfl|hb
    ·exact Nf _
    ·rw [Lq.mp hb];exact LY hlt
   ·obtain⟨hp,g,d,tk,os⟩:=s'
    have kp:∀ b o,s.heap.get? b=some o->hp.get? b=some o:=λ b o e=>hm.heap b o (λ hmem=>by
     have:b=s.heap.objs.size:=by simpa using hmem
     subst this;exact absurd (La e) (LQ _)) (K2 _ e)
    have e1:g=s.gens:=hm.gens;have e2:d=s.drawn:=hm.drawn;have e3:os=s.os:=hm.os;subst e1 e2 e3;obtain⟨b1,b2⟩:=argBest_gt (λ i=>ns.getD i 0) (its.toArray.size - 1);have rv2:=hP _ v hv;generalize argBest (λ i j=>decide (ns.getD i 0 > ns.getD j 0)) (its.toArray.size - 1)=k at b1 b2 rv2;rw [hsz] at b1 b2;have hk:k < ns.length:=by omega
    refine⟨.int (ns.getD k 0),H,I.kept (t':=tk) kp,rv2,q _ ?_ λ a ha=>?_⟩
    ·rw [List.getD,K1 hk];exact MK hk
    ·obtain⟨j,hj,rfl⟩:=Mr ha;have:=b2 j (by omega);rw [show ns.getD j 0=ns[j] by rw [List.getD,K1 hj];rfl] at this;exact this
 ·exact h.elim
end
def Ag(l:Addr)(xs:List V)(H:Hp)(Q:VK):List V->Prop:=λ zs=>xs.length+zs.length<=sizeLine/\Q .non (upd H l (.lst (xs++zs)))
theorem B1(l:Addr)(xs:List V)(H:Hp)(Q:VK)(zs:List V):Ag l xs H Q zs=(xs.length+zs.length<=sizeLine/\Q .non (upd H l (.lst (xs++zs)))):=rfl
def DW(l b:Addr)(H:Hp)(Q:VK):List V->Prop:=λ xs=>aI (ay H b) (Ag l xs H Q)
theorem B2(l b:Addr)(H:Hp)(Q:VK)(xs:List V):DW l b H Q xs=aI (ay H b) (Ag l xs H Q):=rfl
theorem ur(l b:Addr)(H:Hp)(Q:VK):sA (.ref l) [.ref b] H Q=aI (ay H l) (DW l b H Q):=by
 refine propext ⟨λ h=>?_,λ h=>?_⟩
 ·obtain⟨l',b',xs,zs,e1,e2,h1,h2,h3,q⟩:=h;cases e1;cases e2;unfold ay;rw [h1]
  show aI (ay H b) _
  unfold ay;rw [h2];exact⟨h3,q⟩
 ·obtain⟨xs,e,h⟩:=ai h;obtain⟨zs,e2,h3,q⟩:=ai h;exact⟨l,b,xs,zs,rfl,rfl,bB e,bB e2,h3,q⟩
section
variable {X:Cx}{a b c d:Expr}{ta tb tc td:TE}{pos:Pos}
end
section
variable {k:Nat}{g:TG}{tt:TT}{te:TE}{σ:St}{Q:VK}{H:Hp}{K:PySem.W.Frag}
theorem mq{α:Type}{J:It}(zs:List α)(c:α->Bool)(P:α->V->Hp->Prop)(R:Addr->α->V->Hp->Prop)
  (hgo:∀ i z H',zs[i]? = some z->Ext H H'->J.go i H'/\∀ x H'',J.yld i H' x H''->Ext H' H''/\P z x H'')
  (hst:∀ H',Ext H H'->J.stop zs.length H')
  (hR1:∀ D z y H1 H2,R D z y H1->Ext H1 H2->R D z y H2) (hR2:∀ D z y H1 xs o,R D z y H1->H1 D=some (.lst xs)->R D z y (upd H1 D o))
  (hl:zs.length<=sizeLine)
  (hs:∀ D z x H' N1 N0,z∈zs->H D=none->Ext H H'->(∃ ys,H' D=some (.lst ys))->P z x H'->(c z=true->∀ y H'',Ext H' H''->R D z y H''->N1 y H'')->(c z=false->∀ H'',Ext H' H''->N0 H'')->g x (List.replicate k none++σ) H' (kCm k tt te σ N1 N0))
  (hd:∀ D ys H',H D=none->Ext H H'->H' D=some (.lst ys)->Al (λ z y=>R D z y H') (zs.filter c) ys->Q (.ref D) H'):rB k g tt te σ Q J H:=by
 intro D hD;refine⟨λ i m ys H'=>m=zs.length - i/\i<=zs.length/\Ext H H'/\H' D=some (.lst ys)/\Al (λ z y=>R D z y H') ((zs.take i).filter c) ys,⟨zs.length,by simp,LD _,Ext.new hD,ag,by simpa using Al.nil⟩,?_⟩;rintro i m ys H' ⟨rfl,hi,e,hD',al⟩
 by_cases hlt:i < zs.length
 ·have hz:zs[i]? = some zs[i]:=K1 hlt;obtain⟨go,y⟩:=hgo i zs[i] H' hz e;have tk:zs.take (i+1)=zs.take i++[zs[i]]:=by rw [List.take_succ,hz];rfl
  have ln:ys.length < sizeLine:=by
   have h1:=al.1;have h2:=Oc c (zs.take i);simp only [Mi] at h2;omega
  refine .inr ⟨go,λ ys' H2=>Ext H H2/\H2 D=some (.lst ys')/\Al (λ z y=>R D z y H2) ((zs.take (i+1)).filter c) ys',λ ys' H2 p=>⟨zs.length - (i+1),by omega,rfl,hlt,p⟩,λ x H2 z=>?_⟩;obtain⟨e2,p2⟩:=y x H2 z;refine hs D zs[i] x H2 (kC3 D ys _) _ (MK hlt) hD (e.trans e2) ⟨ys,e2.at hD'⟩ p2 (λ hc y H3 e3 r3=>?_) λ hc H3 e3=>?_
  ·refine⟨e3.at (e2.at hD'),ln,(e.trans (e2.trans e3)).put hD,ag,?_⟩;rw [tk,Nl,show [zs[i]].filter c=[zs[i]] by simp [hc]];exact Al.snoc (al.imp λ z y r=>hR2 _ _ _ _ _ _ (hR1 _ _ _ _ _ r (e2.trans e3)) (e3.at (e2.at hD'))) (hR2 _ _ _ _ _ _ r3 (e3.at (e2.at hD')))
  ·refine⟨e.trans (e2.trans e3),(e2.trans e3).at hD',?_⟩;rw [tk,Nl,show [zs[i]].filter c=[] by simp [hc],NB];exact al.imp λ z y r=>hR1 _ _ _ _ _ r (e2.trans e3)
 ·have e':i=zs.length:=by omega
  subst e';rw [Me] at al;exact .inl ⟨hst H' e,hd D ys H' hD e hD' al⟩
end
section
variable {X:Cx}
end
section
variable {g:TG}{σ:St}{Q:VK}{H:Hp}{K:PySem.W.Frag}
end
section
variable {X:Cx}{CX:CXT}{k:Nat}{f C:Addr}{fd:FuncData}{ps:List Str}{sp:Sp}{dvs:List V}{ds:List Value}{E:St->XK}{x m:Str}{p pos apos:Pos}{e o:Expr}{es:List Expr}{ta:TE}{t:TA}
end
section
variable {X:Cx}{e st:Expr}{te tst:TE}{pos p2:Pos}
end
theorem cX:∀ {xs:List V}{us:List Value},us.length=xs.length->(∀ (i:Nat) (x:V) (u:Value),xs[i]? = some x->us[i]? = some u->aU x u)->aL xs us
 | [],[],_,_=>.nil
 | [],_::_,h,_=>by cases h
 | _::_,[],h,_=>by cases h
 | x::xs,u::us,h,k=>.cons (k 0 x u rfl rfl) (cX (by simpa using h) λ i y w a b=>k (i+1) y w (by simpa using a) (by simpa using b))
section
variable {X:Cx}
end
theorem aq{n:Nat}(h:n+64 < cLine):n+1 < cLine:=by omega
def He(Q:VK)(x:V):VK:=λ y H=>∃ a v,x=.ref a/\jC H a y (some v)/\Q v H
def J3(ty:TE)(σ:St)(Q:VK):VK:=λ x H=>ty σ H (He Q x)
theorem FH(ty:TE)(σ:St)(Q:VK)(x:V)(H:Hp):J3 ty σ Q x H=ty σ H (He Q x):=rfl
theorem Bq(td ty:TE)(σ:St)(H:Hp)(Q:VK):Dx td ty σ H Q=td σ H (J3 ty σ Q):=rfl
theorem gn{H:Hp}{a:Addr}{kvs:List (Key × V)}{k:Key}{v:V}{Q:VK}(e:H a=some (.dK kvs))(h:cJ kvs k=some v)(q:Q v H):He Q (.ref a) (kV k) H:=⟨a,v,rfl,h ▸ jC.k e,q⟩
def G5(neg:Bool):R2:=λ y x H Q=>∃ a o,x=.ref a/\jC H a y o/\Q (.bl (if neg=true then !o.isSome else o.isSome)) H
theorem eG{neg:Bool}{H:Hp}{a:Addr}{kvs:List (Key × V)}{k:Key}{Q:VK}(e:H a=some (.dK kvs))(q:Q (.bl (if neg=true then !(cJ kvs k).isSome else (cJ kvs k).isSome)) H):G5 neg (kV k) (.ref a) H Q:=⟨a,_,rfl,jC.k e,q⟩
section
variable {X:Cx}
theorem rZ(hu:X.A.units+1 < cLine):OpR X (compareOp .In) (G5 false):=by
 intro pins s σ H x y v u Q I rx ry h;obtain⟨a,o,rfl,g,q⟩:=h;obtain rfl:u=Value.ref a:=ry;exact KO hu I g rx λ s3 I3=>⟨.bl o.isSome,H,I3,rfl,q⟩
theorem lV(hu:X.A.units+1 < cLine):OpR X (compareOp .NotIn) (G5 true):=by
 intro pins s σ H x y v u Q I rx ry h;obtain⟨a,o,rfl,g,q⟩:=h;obtain rfl:u=Value.ref a:=ry;exact CM hu I g rx λ s3 I3=>⟨.bl (!o.isSome),H,I3,rfl,q⟩
end
def Ig(nx:St->Hp->Prop)(σ:St)(v x:V):VK:=λ y H=>∃ a H4,x=.ref a/\De H a y v H4/\nx σ H4
def Ih(ty:TE)(nx:St->Hp->Prop)(σ:St)(v:V):VK:=λ x H=>ty σ H (Ig nx σ v x)
theorem FF(ty:TE)(nx:St->Hp->Prop)(σ:St)(v x:V)(H:Hp):Ih ty nx σ v x H=ty σ H (Ig nx σ v x):=rfl
def J2(td ty:TE)(nx:St->Hp->Prop)(σ:St):VK:=λ v H=>td σ H (Ih ty nx σ v)
theorem FG(td ty:TE)(nx:St->Hp->Prop)(σ:St)(v:V)(H:Hp):J2 td ty nx σ v H=td σ H (Ih ty nx σ v):=rfl
theorem Bv(td ty tv:TE)(nx:St->Hp->Prop)(rt:VK)(bk ct:St->Hp->Prop)(σ:St)(H:Hp):DB td ty tv ⟨nx,rt,bk,ct⟩ σ H=tv σ H (J2 td ty nx σ):=rfl
theorem bH{H:Hp}{a:Addr}{kvs:List (Key × V)}{k:Key}{v:V}{nx:St->Hp->Prop}{σ:St}(e:H a=some (.dK kvs))(hl:kvs.length < sizeLine)(q:nx σ (upd H a (.dK (eP kvs k v)))):Ig nx σ v (.ref a) (kV k) H:=⟨a,_,rfl,De.k e hl,q⟩
theorem iK:∀ {us:List Value}{ns:List Int},us.length=ns.length->(∀ (i:Nat) (u:Value),us[i]? = some u->∃ n t,ns[i]? = some n/\u=.int n t)->IntsAre us ns
 | [],[],_,_=>.nil
 | [],_::_,h,_=>by cases h
 | _::_,[],h,_=>by cases h
 | u::us,n::ns,h,k=>by
  obtain⟨m,t,e1,rfl⟩:=k 0 u rfl;cases e1;exact .cons n t (iK (by simpa using h) λ i u e=>k (i+1) u (by simpa using e))
theorem gv:∀ {us:List Value}{ns:List Int},IntsAre us ns->aL (ns.map V.int) us
 | _,_,.nil=>.nil
 | _,_,.cons n t r=>.cons ⟨t,rfl⟩ (gv r)
theorem jl{α β:Type}{F:α->β->Prop}:∀ {l₁:List α}{l₂:List β},Paired F l₁ l₂->∀ {i:Nat}{a:α},l₁[i]? = some a->∃ b,l₂[i]? = some b/\F a b
 | _,_,.nil,i,a,h=>by simp at h
 | _,_,.cons h₁ t,0,a,h=>by cases h;exact⟨_,rfl,h₁⟩
 | _,_,.cons h₁ t,i+1,a,h=>jl t (i:=i) (by simpa using h)
section
variable {X:Cx}
end
def tV(i:Nat):TE:=λ σ H Q=>match σ[i]? with
 | some (some v)=>Q v H
 | _=>False
theorem Dr(i:Nat):G3 i=tV i:=by
 funext σ H Q;refine propext ⟨λ ⟨v,e,q⟩=>?_,λ h=>?_⟩
 ·unfold tV;rw [e];exact q
 ·unfold tV at h;split at h
  ·rename_i v e;exact⟨v,e,h⟩
  ·exact h.elim
theorem EV{v:V}{σ:St}{H:Hp}{Q:VK}:tV 0 (some v::σ) H Q=Q v H:=rfl
theorem EU{a0:Option V}{v:V}{σ:St}{H:Hp}{Q:VK}:tV 1 (a0::some v::σ) H Q=Q v H:=rfl
theorem ET{a0 a1:Option V}{v:V}{σ:St}{H:Hp}{Q:VK}:tV 2 (a0::a1::some v::σ) H Q=Q v H:=rfl
theorem ES{a0 a1 a2:Option V}{v:V}{σ:St}{H:Hp}{Q:VK}:tV 3 (a0::a1::a2::some v::σ) H Q=Q v H:=rfl
theorem ER{a0 a1 a2 a3:Option V}{v:V}{σ:St}{H:Hp}{Q:VK}:tV 4 (a0::a1::a2::a3::some v::σ) H Q=Q v H:=rfl
theorem EO{a0 a1 a2 a3 a4:Option V}{v:V}{σ:St}{H:Hp}{Q:VK}:tV 5 (a0::a1::a2::a3::a4::some v::σ) H Q=Q v H:=rfl
theorem EN{a0 a1 a2 a3 a4 a5:Option V}{v:V}{σ:St}{H:Hp}{Q:VK}:tV 6 (a0::a1::a2::a3::a4::a5::some v::σ) H Q=Q v H:=rfl
theorem EM{a0 a1 a2 a3 a4 a5 a6:Option V}{v:V}{σ:St}{H:Hp}{Q:VK}:tV 7 (a0::a1::a2::a3::a4::a5::a6::some v::σ) H Q=Q v H:=rfl
theorem EL{a0 a1 a2 a3 a4 a5 a6 a7:Option V}{v:V}{σ:St}{H:Hp}{Q:VK}:tV 8 (a0::a1::a2::a3::a4::a5::a6::a7::some v::σ) H Q=Q v H:=rfl
theorem EK{a0 a1 a2 a3 a4 a5 a6 a7 a8:Option V}{v:V}{σ:St}{H:Hp}{Q:VK}:tV 9 (a0::a1::a2::a3::a4::a5::a6::a7::a8::some v::σ) H Q=Q v H:=rfl
def nI0(g:Int->Int->V):R2:=λ x y H Q=>match x,y with
 | .int i,.int j=>Q (g i j) H
 | _,_=>False
theorem IZ(g:Int->Int->V)(i j:Int)(H:Hp)(Q:VK):nI0 g (.int i) (.int j) H Q=Q (g i j) H:=rfl
theorem g8(g:Int->Int->V):rI0 g=nI0 g:=by
 funext x y H Q;refine propext ⟨λ ⟨i,j,e,e',q⟩=>by subst e e';exact q,λ h=>?_⟩;unfold nI0 at h;split at h
 ·exact⟨_,_,rfl,rfl,h⟩
 ·exact h.elim
def nI(C:Int->Int->Prop)(g:Int->Int->V):R2:=λ x y H Q=>match x,y with
 | .int i,.int j=>C i j/\Q (g i j) H
 | _,_=>False
theorem KC(C:Int->Int->Prop)(g:Int->Int->V)(i j:Int)(H:Hp)(Q:VK):nI C g (.int i) (.int j) H Q=(C i j/\Q (g i j) H):=rfl
theorem rp(C:Int->Int->Prop)(g:Int->Int->V):rI C g=nI C g:=by
 funext x y H Q;refine propext ⟨λ ⟨i,j,e,e',q⟩=>by subst e e';exact q,λ h=>?_⟩;unfold nI at h;split at h
 ·exact⟨_,_,rfl,rfl,h⟩
 ·exact h.elim
def nU(g:Int->V):V->Hp->VK->Prop:=λ x H Q=>match x with
 | .int i=>Q (g i) H
 | _=>False
theorem KA(g:Int->V)(i:Int)(H:Hp)(Q:VK):nU g (.int i) H Q=Q (g i) H:=rfl
theorem IJ(g:Int->V):rU g=nU g:=by
 funext x H Q;refine propext ⟨λ ⟨i,e,q⟩=>by subst e;exact q,λ h=>?_⟩;unfold nU at h;split at h
 ·exact⟨_,rfl,h⟩
 ·exact h.elim
def jc(Q:Bool->Hp->Prop):VK:=λ x H=>match x with
 | .bl k=>Q k H
 | _=>False
theorem xj(Q:Bool->Hp->Prop)(k:Bool)(H:Hp):jc Q (.bl k) H=Q k H:=rfl
theorem xS(Q:Bool->Hp->Prop):DS Q=jc Q:=by
 funext x H;refine propext ⟨λ ⟨k,e,q⟩=>by subst e;exact q,λ h=>?_⟩;unfold jc at h;split at h
 ·exact⟨_,rfl,h⟩
 ·exact h.elim
def pU(t:TE):TT:=λ σ H Q=>t σ H (jc Q)
theorem BC(t:TE)(σ:St)(H:Hp)(Q:Bool->Hp->Prop):pU t σ H Q=t σ H (jc Q):=rfl
theorem ke(t:TE):zF t=pU t:=by
 funext σ H Q
 show t σ H (DS Q)=t σ H (jc Q)
 rw [xS]
theorem um(t:TE):tB t=pU t:=ke t
def rC(tb:TE)(σ:St)(Q:VK):VK:=λ x H=>match x with
 | .bl c=>if c=true then tb σ H Q else Q (.bl false) H
 | _=>False
theorem B9(tb:TE)(σ:St)(Q:VK)(c:Bool)(H:Hp):rC tb σ Q (.bl c) H=(if c=true then tb σ H Q else Q (.bl false) H):=rfl
def zV(ta tb:TE):TE:=λ σ H Q=>ta σ H (rC tb σ Q)
theorem BK(ta tb:TE)(σ:St)(H:Hp)(Q:VK):zV ta tb σ H Q=ta σ H (rC tb σ Q):=rfl
theorem w9(ta tb:TE):Dz ta tb=zV ta tb:=by
 funext σ H Q
 show ta σ H (Jv tb σ Q)=ta σ H (rC tb σ Q)
 congr 1;funext x H;refine propext ⟨λ ⟨k,e,q⟩=>by subst e;exact q,λ h=>?_⟩;unfold rC at h;split at h
 ·exact⟨_,rfl,h⟩
 ·exact h.elim
def rq(Q:VK):VK:=λ x H=>match x with
 | .bl c=>Q (.bl (!c)) H
 | _=>False
theorem BV(Q:VK)(c:Bool)(H:Hp):rq Q (.bl c) H=Q (.bl (!c)) H:=rfl
def zR(ta:TE):TE:=λ σ H Q=>ta σ H (rq Q)
theorem BE(ta:TE)(σ:St)(H:Hp)(Q:VK):zR ta σ H Q=ta σ H (rq Q):=rfl
theorem wZ(ta:TE):Du ta=zR ta:=by
 funext σ H Q
 show ta σ H (Jr Q)=ta σ H (rq Q)
 congr 1;funext x H;refine propext ⟨λ ⟨k,e,q⟩=>by subst e;exact q,λ h=>?_⟩;unfold rq at h;split at h
 ·exact⟨_,rfl,h⟩
 ·exact h.elim
def pW(r':R2)(tc:TE)(σ:St)(y:V)(Q:VK):VK:=λ z H=>match z with
 | .bl k=>if k=true then tc σ H (Hg r' y Q) else Q (.bl false) H
 | _=>False
theorem B5(r':R2)(tc:TE)(σ:St)(y:V)(Q:VK)(k:Bool)(H:Hp):pW r' tc σ y Q (.bl k) H=(if k=true then tc σ H (Hg r' y Q) else Q (.bl false) H):=rfl
theorem Cr(r':R2)(tc:TE)(σ:St)(y:V)(Q:VK):Ij r' tc σ y Q=pW r' tc σ y Q:=by
 funext z H;refine propext ⟨λ ⟨k,e,q⟩=>by subst e;exact q,λ h=>?_⟩;unfold pW at h;split at h
 ·exact⟨_,rfl,h⟩
 ·exact h.elim
def vP(r r':R2)(tc:TE)(σ:St)(x:V)(Q:VK):VK:=λ y H=>r x y H (pW r' tc σ y Q)
theorem B6(r r':R2)(tc:TE)(σ:St)(x y:V)(Q:VK)(H:Hp):vP r r' tc σ x Q y H=r x y H (pW r' tc σ y Q):=rfl
def vQ(r r':R2)(tb tc:TE)(σ:St)(Q:VK):VK:=λ x H=>tb σ H (vP r r' tc σ x Q)
theorem B7(r r':R2)(tb tc:TE)(σ:St)(Q:VK)(x:V)(H:Hp):vQ r r' tb tc σ Q x H=tb σ H (vP r r' tc σ x Q):=rfl
def r6(r r':R2)(ta tb tc:TE):TE:=λ σ H Q=>ta σ H (vQ r r' tb tc σ Q)
theorem xi(r r':R2)(ta tb tc:TE)(σ:St)(H:Hp)(Q:VK):r6 r r' ta tb tc σ H Q=ta σ H (vQ r r' tb tc σ Q):=rfl
theorem uo(r r':R2)(ta tb tc:TE):yz r r' ta tb tc=r6 r r' ta tb tc:=by
 funext σ H Q
 show ta σ H (KN r r' tb tc σ Q)=ta σ H (vQ r r' tb tc σ Q)
 congr 1;funext x H1
 show tb σ H1 (J5 r r' tc σ x Q)=tb σ H1 (vP r r' tc σ x Q)
 congr 1;funext y H2
 show r x y H2 (Ij r' tc σ y Q)=r x y H2 (pW r' tc σ y Q)
 rw [Cr]
def vT:TGs:=λ vs σ H Q=>match vs with
 | []=>Q σ H
 | _=>False
theorem Ce(σ:St)(H:Hp)(Q:St->Hp->Prop):vT [] σ H Q=Q σ H:=rfl
theorem Cu:Kg=vT:=by
 funext vs σ H Q;refine propext ⟨λ ⟨e,q⟩=>by subst e;exact q,λ h=>?_⟩;unfold vT at h;split at h
 ·exact⟨rfl,h⟩
 ·exact h.elim
def oO(t:TG)(u:TGs):TGs:=λ vs σ H Q=>match vs with
 | v::r=>t v σ H (kGs u r Q)
 | _=>False
theorem xu(t:TG)(u:TGs)(v:V)(r:List V)(σ:St)(H:Hp)(Q:St->Hp->Prop):oO t u (v::r) σ H Q=t v σ H (kGs u r Q):=rfl
theorem xZ(t:TG)(u:TGs):D9 t u=oO t u:=by
 funext vs σ H Q;refine propext ⟨λ ⟨v,r,e,q⟩=>by subst e;exact q,λ h=>?_⟩;unfold oO at h;split at h
 ·exact⟨_,_,rfl,h⟩
 ·exact h.elim
theorem gD{α0:Type}{f:α0->List V}{B:α0->Prop}(inj:∀ a a',f a=f a'->a=a')(a:α0):(∃ a',f a=f a'/\B a')=B a:=propext ⟨λ ⟨a',e,q⟩=>by obtain rfl:=inj _ _ e;exact q,λ q=>⟨a,rfl,q⟩⟩
theorem gk{α0:Type}{f:α0->List V}{B:α0->Prop}{vs:List V}{n:Nat}(h:∃ a,vs=f a/\B a)(l:∀ a,(f a).length=n):vs.length=n:=by
 obtain⟨_,rfl,_⟩:=h;exact l _
theorem pR{α0 α1:Type}{f:α0->α1->List V}{B:α0->α1->Prop}(inj:∀ a b a' b',f a b=f a' b'->a=a'/\b=b')(a:α0)(b:α1):(∃ a' b',f a b=f a' b'/\B a' b')=B a b:=propext ⟨λ ⟨a',b',e,q⟩=>by obtain⟨rfl,rfl⟩:=inj _ _ _ _ e;exact q,λ q=>⟨a,b,rfl,q⟩⟩
theorem qV{α0 α1:Type}{f:α0->α1->List V}{B:α0->α1->Prop}{vs:List V}{n:Nat}(h:∃ a b,vs=f a b/\B a b)(l:∀ a b,(f a b).length=n):vs.length=n:=by
 obtain⟨_,_,rfl,_⟩:=h;exact l _ _
theorem Dh{α0 α1 α2:Type}{f:α0->α1->α2->List V}{B:α0->α1->α2->Prop}(inj:∀ a b c a' b' c',f a b c=f a' b' c'->a=a'/\b=b'/\c=c')(a:α0)(b:α1)(c:α2):(∃ a' b' c',f a b c=f a' b' c'/\B a' b' c')=B a b c:=propext ⟨λ ⟨a',b',c',e,q⟩=>by obtain⟨rfl,rfl,rfl⟩:=inj _ _ _ _ _ _ e;exact q,λ q=>⟨a,b,c,rfl,q⟩⟩
theorem Di{α0 α1 α2:Type}{f:α0->α1->α2->List V}{B:α0->α1->α2->Prop}{vs:List V}{n:Nat}(h:∃ a b c,vs=f a b c/\B a b c)(l:∀ a b c,(f a b c).length=n):vs.length=n:=by
 obtain⟨_,_,_,rfl,_⟩:=h;exact l _ _ _
theorem Ko{α0 α1 α2 α3:Type}{f:α0->α1->α2->α3->List V}{B:α0->α1->α2->α3->Prop}(inj:∀ a b c d a' b' c' d',f a b c d=f a' b' c' d'->a=a'/\b=b'/\c=c'/\d=d')(a:α0)(b:α1)(c:α2)(d:α3):(∃ a' b' c' d',f a b c d=f a' b' c' d'/\B a' b' c' d')=B a b c d:=propext ⟨λ ⟨a',b',c',d',e,q⟩=>by obtain⟨rfl,rfl,rfl,rfl⟩:=inj _ _ _ _ _ _ _ _ e;exact q,λ q=>⟨a,b,c,d,rfl,q⟩⟩
theorem Kp{α0 α1 α2 α3:Type}{f:α0->α1->α2->α3->List V}{B:α0->α1->α2->α3->Prop}{vs:List V}{n:Nat}(h:∃ a b c d,vs=f a b c d/\B a b c d)(l:∀ a b c d,(f a b c d).length=n):vs.length=n:=by
 obtain⟨_,_,_,_,rfl,_⟩:=h;exact l _ _ _ _
theorem KI{P:List Value->Prop}(h:P []):∀ us:List Value,us.length=0->P us:=λ us e=>by
 cases us with
 | nil=>exact h
 | cons a r=>cases e
theorem fR{P:List Value->Prop}(h:∀ a,P [a]):∀ us:List Value,us.length=1->P us:=λ us e=>by
 cases us with
 | nil=>cases e
 | cons x r=>exact KI (P:=λ r=>P (x::r)) (h x) r (ON e)
theorem k8{P:List Value->Prop}(h:∀ a b,P [a,b]):∀ us:List Value,us.length=2->P us:=λ us e=>by
 cases us with
 | nil=>cases e
 | cons x r=>exact fR (P:=λ r=>P (x::r)) (h x) r (ON e)
theorem zu{P:List Value->Prop}(h:∀ a b c,P [a,b,c]):∀ us:List Value,us.length=3->P us:=λ us e=>by
 cases us with
 | nil=>cases e
 | cons x r=>exact k8 (P:=λ r=>P (x::r)) (h x) r (ON e)
theorem KH{P:List Value->Prop}(h:∀ a b c d,P [a,b,c,d]):∀ us:List Value,us.length=4->P us:=λ us e=>by
 cases us with
 | nil=>cases e
 | cons x r=>exact zu (P:=λ r=>P (x::r)) (h x) r (ON e)
section
variable {X:Cx}
theorem pvN(i:Nat){x:Str}{pos:Pos}(hN:X.N[i]? = some x:=by rfl)(hv:Vis X.env.scope x:=by first|exact Or.inl rfl|exact Or.inr (Or.inl rfl)|exact Or.inr (Or.inr rfl))(hd:(x == ("__debug__":Str))=false:=by decide)
  (hcd:(x == ("__classdict__":Str))=false:=by decide):PE X (.Name x pos) (tV i):=by rw [←Dr];exact pv i hN hv hd hcd
theorem aN:OpR X (binaryOp .Add) (nI0 λ i j=>.int (i+j)):=by rw [←g8];exact oG
theorem eI:OpR X (binaryOp .Sub) (nI0 λ i j=>.int (i - j)):=by rw [←g8];exact EA
theorem vI:OpR X (compareOp .Lt) (nI0 λ i j=>.bl (decide (i < j))):=by rw [←g8];exact DK
theorem zP:OpR X (compareOp .LtE) (nI0 λ i j=>.bl (decide (i<=j))):=by rw [←g8];exact IB
theorem m9:OpR X (compareOp .Gt) (nI0 λ i j=>.bl (decide (j < i))):=by rw [←g8];exact DL
theorem IE:OpR X (compareOp .GtE) (nI0 λ i j=>.bl (decide (j<=i))):=by rw [←g8];exact IC
theorem lA:OpR X (binaryOp .Mult) (nI zC λ i j=>.int (i * j)):=by rw [←rp];exact gr
theorem sH:OpR X (binaryOp .Mult) (nI Ak λ i j=>.int (i * j)):=by rw [←rp];exact Be
theorem jN:OpR X (binaryOp .FloorDiv) (nI Iu λ i j=>.int (i / j)):=by rw [←rp];exact Bf
theorem ja:OpR X (binaryOp .Mod) (nI (λ _ j=>0 < j) λ i j=>.int (i % j)):=by rw [←rp];exact g7
theorem lu:OpR X (binaryOp .Pow) (nI Ir λ i j=>.int (i ^ j.toNat)):=by rw [←rp];exact EC
theorem eR:UnR X (unaryOp .USub) (nU λ i=>.int (-i)):=by rw [←IJ];exact Ef
variable {a b c d e:Expr}{ta tb tc td t:TE}{pos:Pos}
theorem wK{op:CmpOp}{r:R2}(ho:OpR X (compareOp op) r)(ha:PE X a ta)(hb:PE X b tb)(hm:behindInMarks op b=false):PT X (.Compare a [op] [b] pos) (pU (tOp r ta tb)):=by rw [←ke];exact nE ho ha hb hm
theorem AR(h:PE X e t)(he:∀ whole,isTrue e X.env whole=(do let v ←whole;standAt e.pos;holding [v] (truthy v)):=by intro _;rfl):PT X e (pU t):=by rw [←um];exact Eo h he
theorem uh{op op':CmpOp}{r r':R2}(ho:OpR X (compareOp op) r)(ho':OpR X (compareOp op') r')(ha:PE X a ta)(hb:PE X b tb)(hc:PE X c tc)
  (hm:lastMarks [op,op'] [b,c]=false:=by with_unfolding_all rfl):PE X (.Compare a [op,op'] [b,c] pos) (r6 r r' ta tb tc):=by rw [←uo];exact wR ho ho' ha hb hc hm
variable {eO:List Expr}
theorem A9(ha:PE X a ta)(hb:PE X (.BoolOp .And (b::eO) pos) tb):PE X (.BoolOp .And (a::b::eO) pos) (zV ta tb):=by rw [←w9];exact Ey ha hb
theorem nF(ha:PE X a ta):PE X (.UnaryOp .Not a pos) (zR ta):=by rw [←wZ];exact Ex ha
theorem br:PGs X [] vT:=by rw [←Cu];exact AY
theorem uf{e:Expr}{es:List Expr}{t:TG}{u:TGs}(h1:PG X e t)(h2:PGs X es u)
  (hs:(assignEach (e::es) X.env).map (·.2)=assign e X.env::(assignEach es X.env).map (·.2):=by rfl):PGs X (e::es) (oO t u):=by rw [←xZ];exact wL h1 h2 hs
end
theorem oN{c:TT}{t u:TS}{nx:St->Hp->Prop}{rt:VK}{bk ct:St->Hp->Prop}{σ:St}{H:Hp}(R:St->Hp->Prop)(h:∀ nx':St->Hp->Prop,(∀ σ' H',R σ' H'->nx' σ' H')->Dg c t u ⟨nx',rt,bk,ct⟩ σ H)(k:∀ σ' H',R σ' H'->nx σ' H'):Dg c t u ⟨nx,rt,bk,ct⟩ σ H:=h nx k
theorem zW{i:Nat}:ME (tV i):=by rw [←Dr];exact oH
theorem sg{g:Int->Int->V}:MR (nI0 g):=by rw [←g8];exact oI
theorem kf{t:TE}(h:ME t):MT (pU t):=by rw [←ke];exact jO h
theorem gT(xs:List V)(z:Int)(h:0<=z):qY xs (some z) none=xs.drop z.toNat:=by
 unfold qY;obtain⟨n,rfl⟩:=Int.eq_ofNat_of_zero_le h;rw [HT.sIx_none,HT.sIx_nat]
 show _=xs.drop n
 rcases Nat.le_total n xs.length with q|q
 ·rw [Nat.min_eq_left q];exact Mx (by rw [List.length_drop];omega)
 ·rw [Nat.min_eq_right q,N6 (Li _),N6 q,List.take_nil]
section
variable {X:Cx}
end
section
variable {prog:Program}{w:World}{A:Around}{E:Value->Shared->Prop}{s:Shared}
end
section
variable {X:Cx}
end
def JS:R2:=λ x y H Q=>∃ a b kvs,x=.ref a/\y=.ref b/\H a=some (.dK kvs)/\H b=some (.dK kvs)/\(∀ p∈kvs,∃ i:Int,p.2=V.int i)/\(kvs.map (·.1)).Nodup/\Q (.bl false) H
theorem As{a b:Addr}{kvs:List (Key × V)}{H:Hp}{Q:VK}(ha:H a=some (.dK kvs))(hb:H b=some (.dK kvs))(hi:∀ p∈kvs,∃ i:Int,p.2=V.int i)(hn:(kvs.map (·.1)).Nodup)(q:Q (.bl false) H):G9 JS (.ref a) Q (.ref b) H:=⟨a,b,kvs,rfl,rfl,ha,hb,hi,hn,q⟩
theorem iD:∀ {xs:List (Key × Value)},(xs.map (·.1)).Nodup->∀ {i:Nat}{k:Key}{v:Value},xs[i]? = some (k,v)->valueAt xs k=some v
 | [],_,i,k,v,h=>by simp at h
 | (k0,v0)::r,hn,i,k,v,h=>by
  rw [map_cons,nodup_cons] at hn;unfold valueAt
  cases i with
  | zero=>
   cases h;rw [Nc,M8 rfl];rfl
  | succ i=>
   have h':r[i]? = some (k,v):=by simpa using h
   have hne:¬ k0=k:=λ e=>hn.1 (by rw [e];exact Le.mpr ⟨_,Ly h',rfl⟩);rw [Nc,Mq hne];exact iD hn.2 h'
theorem sO:∀ {kvs:List (Key × V)}{xs:List (Key × Value)},KV kvs xs->xs.map (·.1)=kvs.map (·.1)
 | _,_,.nil=>rfl
 | _,_,.cons h t=>by rw [LH,LH,sO t];exact Mt (· :: _) h.1.symm
theorem yH:∀ {kvs:List (Key × V)}{xs:List (Key × Value)},KV kvs xs->∀ {i:Nat}{q:Key × Value},xs[i]? = some q->∃ p,kvs[i]? = some p/\p.1=q.1/\aU p.2 q.2
 | _,_,.nil,i,q,h=>by simp at h
 | p::_,_::_,.cons h t,0,q,hq=>by cases hq;exact⟨p,rfl,h⟩
 | p::_,_::_,.cons h t,i+1,q,hq=>yH t (i:=i) (by simpa using hq)
theorem ib:∀ {kvs:List (Key × V)}{xs:List (Key × Value)},KV kvs xs->∀ {i:Nat}{p:Key × V},kvs[i]? = some p->∃ q,xs[i]? = some q/\p.1=q.1/\aU p.2 q.2
 | _,_,.nil,i,q,h=>by simp at h
 | _::_,q::_,.cons h t,0,p,hq=>by cases hq;exact⟨q,rfl,h⟩
 | _::_,_::_,.cons h t,i+1,p,hq=>ib t (i:=i) (by simpa using hq)
theorem sS{A:Around}{s:Shared}{kvs:List (Key × V)}{xs:List (Key × Value)}(hx:KV kvs xs)(hn:(kvs.map (·.1)).Nodup)(hi:∀ p∈kvs,∃ i:Int,p.2=V.int i):∀ (ys:List (Key × Value)) (n:Nat),(∀ (i:Nat) (q:Key × Value),ys[i]? = some q->∃ p,kvs[n+i]? = some p/\p.1=q.1/\aU p.2 q.2)->W.KeqHits A s xs ys true
 | [],_,_=>.nil
 | (k,v)::ys,n,h=>by
  obtain⟨p,hp,hk,hr⟩:=h 0 (k,v) rfl;obtain⟨i,e⟩:=hi p (Ly hp);obtain⟨⟨k',v'⟩,hq,hk',hr'⟩:=ib hx hp;rw [e] at hr hr';obtain⟨t,rfl⟩:=hr;obtain⟨t',rfl⟩:=hr';have ek:k'=k:=hk'.symm.trans hk;subst ek;have hva:=iD (by rw [sO hx];exact hn) hq
  have eO:=sS (A:=A) (s:=s) hx hn hi ys (n+1) λ j q hj=>by
   have:=h (j+1) q (by simpa using hj);rw [show n+1+j=n+(j+1) by omega];exact this
  have:=W.KeqHits.hit hva (PySem.SeqAt.EqAt.int_int (A:=A) (s:=s) i t i t') eO
  rwa [show ((i == i) && true)=true by simp] at this
theorem Bd{X:Cx}(hu:X.A.units+1 < cLine):OpR X (compareOp .NotEq) JS:=by
 intro pins s σ H x y v u Q I rx ry h;obtain⟨a,b,kvs,rfl,rfl,ha,hb,hi,hn,q⟩:=h;cases rx;cases ry;obtain⟨_,za,xs,kx,dx⟩:=vU I.hok ha;obtain⟨_,zb,ys,ky,dy⟩:=vU I.hok hb;have lx:xs.length=kvs.length:=(MJ kx).symm;have ly:ys.length=kvs.length:=(MJ ky).symm;refine W.keq_ne (r:=true) za zb dx dy (by omega) (λ _=>sS ky hn hi xs 0 λ i q hq=>by rw [Nat.zero_add];exact yH kx hq) ?_;have e:(xs.length == ys.length && true)=true:=by rw [lx,ly];simp
 rw [e];exact⟨.bl false,H,I,rfl,q⟩
def Itd(a:Addr)(ob:Obj)(kvs:List (Key × V)):It:=
 ⟨λ i H=>H a=some (.frz ob (.dK kvs))/\i < kvs.length,λ i H x H'=>H'=H/\∃ p,kvs[i]? = some p/\x=kV p.1,λ i H=>H a=some (.frz ob (.dK kvs))/\kvs.length<=i⟩
theorem j6:∀ {k:Key}{u:Value},lh k u=true->aU (kV k) u
 | .inl i,u,h=>by
  rcases aE h with ⟨j,t,e1,e2⟩|⟨j,t,e1,e2⟩
  ·cases e1;exact⟨t,e2⟩
  ·cases e1
 | .inr x,u,h=>by
  rcases aE h with ⟨j,t,e1,e2⟩|⟨j,t,e1,e2⟩
  ·cases e1
  ·cases e1;exact⟨t,e2⟩
def Hi(P:Program)(w:World)(ob:Obj)(vs:List (Key × Value))(ep:Nat):Prop:=∀ (h:Heap) (a:Addr),h.get? a=some ob->h.DictAt (aw P w) a vs ep
theorem t4{P:Program}{w:World}{K:W.Frag}{tg:Expr}(a it:Addr)(ob:Obj)(kvs:List (Key × V))(vs:List (Key × Value))(ep:Nat)(kx:KV kvs vs)(dx:Hi P w ob vs ep):vG P w K tg (Itd a ob kvs) [it] it (λ i h=>h.IsKeyIter it a i vs.length ep) where
 mem:=by simp
 obj:=λ i h st b hb=>by
  have e:b=it:=by simpa using hb
  subst e;obtain⟨o,e,c,d⟩:=st;exact⟨o,e,λ v z=>by rw [d] at z;cases z⟩
 keep:=λ i h h' st k=>st.at λ o e=>k it (by simp) o e
 item:=by
  intro X hP hw hK hc i pins s σ H E I hf st hg;subst hP hw hK;obtain⟨ha,hi⟩:=hg;have hob:=(show aM X.prog X.w H s.heap a (.frz ob (.dK kvs)) from I.hok a _ ha).1;have hlen:kvs.length=vs.length:=MJ kx;obtain⟨q,hq,hk,hr⟩:=ib kx (K1 hi);obtain⟨f0,f1,f2,f3,f4,f5⟩:=hf it (by simp);refine wpAny_pyNext_dict_item st (dx _ a hob) hq λ key h' hkey st' hs'=>?_;have I1:Inv X pins σ H { s with heap:=h' }:=I.turned (t':=s.toks) (λ b o hb e=>hs'.extBut b o hb e) f0 f1 f3 f4 f5;obtain⟨o,e,c,d⟩:=id st';refine⟨key,rfl,rD (s:={ s with heap:=h' }) e c d (by decide) ⟨kV kvs[i].1,H,I1,?_,⟨rfl,kvs[i],K1 hi,rfl⟩,st',λ b hb=>(hf b hb).1⟩⟩;rw [hk];exact j6 hkey
 done:=by
  intro X hP hw hK hc i pins s σ H E I hf st hg;subst hP hw hK;obtain⟨ha,hi⟩:=hg;have hob:=(show aM X.prog X.w H s.heap a (.frz ob (.dK kvs)) from I.hok a _ ha).1;have hlen:kvs.length=vs.length:=MJ kx;obtain⟨f0,f1,f2,f3,f4,f5⟩:=hf it (by simp);exact wpAny_pyNext_dict_end (I.ok.hd hc) st (dx _ a hob) (by simp;omega) λ h' eb=>⟨rfl,I.turned (t':=s.toks) (λ b o hb e=>eb b o hb e) f0 f1 f3 f4 f5⟩
 self:=λ _ _ _ _ _ st h=>wpAny_pyIter_keyiter st h
def Hc(R:It->Hp->Prop):VK:=λ x H1=>∃ a kvs,x=.ref a/\H1 a=some (.dK kvs)/\∀ ob,R (Itd a ob kvs) (upd H1 a (.frz ob (.dK kvs)))
def D8(tl:TE):TI:=λ σ H R=>tl σ H (Hc R)
theorem Cd(tl:TE)(σ:St)(H:Hp)(R:It->Hp->Prop):D8 tl σ H R=tl σ H (Hc R):=rfl
theorem jM{X:Cx}{tg l:Expr}{tl:TE}(hl:PE X l tl):PI X tg l (D8 tl):=by
 intro pins s σ H R I h;refine thn (hl pins s σ H _ I h) λ v s1 ⟨x,H1,I1,r1,q1⟩=>?_;obtain⟨a,kvs,e,ha,q⟩:=q1;subst e;cases r1;have hO:aM X.prog X.w H1 s1.heap a (.dK kvs):=I1.hok a _ ha;obtain⟨z0,lo,vs,kx,dd⟩:=id hO;obtain⟨ep,hat⟩:=dd.dictAt;obtain⟨ob,es,ho,eO⟩:=id hat;have dx:Hi X.prog X.w ob vs ep:=λ h b hb=>⟨ob,es,hb,eO⟩;have hO':aM X.prog X.w (upd H1 a (.frz ob (.dK kvs))) s1.heap a (.frz ob (.dK kvs)):=⟨ho,⟨z0,lo,vs,kx,dd⟩⟩;have I2:=I1.write (t':=s1.toks) (x:=a) (e:=a) (o:=.frz ob (.dK kvs)) (h':=s1.heap) (by rw [ha];trivial) (.inl rfl) (λ b u _ e=>e) ⟨ob,ho⟩ hO';refine wpAny_pyIter_dict lo hat ?_;refine⟨s1.heap.objs.size,[s1.heap.objs.size],_,_,_,rfl,I2.kept (t':=s1.toks) λ b o e=>K2 _ e,t4 a _ ob kvs vs ep kx dx,⟨_,Lh _ rfl,rfl,rfl⟩,λ b hb=>?_,q ob⟩;have e:b=s1.heap.objs.size:=by simpa using hb
 subst e;exact I2.fpOk (Li _) (I2.hok.fresh (Li _))
theorem Inv.thaw{X:Cx}{pins:List (Addr × Obj)}{σ:St}{H:Hp}{s:Shared}{a:Addr}{ob:Obj}{kvs:List (Key × V)}(I:Inv X pins σ H s)(ha:H a=some (.frz ob (.dK kvs)))(hn:∀ o u,X.H₀ a ≠ some (.frz o u)):Inv X pins σ (upd H a (.dK kvs)) s:=by
 have ne:∀ b,H b=none->b ≠ a:=λ b e z=>by rw [z,ha] at e;cases e
 have keepN:∀ b,H b=none->upd H a (.dK kvs) b=none:=λ b e=>by rw [af (ne b e)];exact e
 refine⟨I.ok,I.os,I.bare,⟨I.base.keep,I.base.slot,λ b o e n hx=>keepN b (I.base.free b o e n hx),I.base.there,λ b xs e=>?_,λ b o u e=>?_,λ b ps e=>?_⟩,I.loc,I.cell,keepN _ I.free,λ x c e=>keepN _ (I.freeC x c e),λ p hp=>?_,λ b u e=>?_,I.len⟩
 ·have h:=I.base.tups b xs e;rw [af (λ z=>by rw [z,ha] at h;cases h)];exact h
 ·have h:=I.base.frzs b o u e;rw [af (λ z=>hn o u (by rw [←z];exact e))];exact h
 ·obtain⟨m,h⟩:=I.base.tbls b ps e;exact⟨m,by rw [af (λ z=>by rw [z,ha] at h;cases h)];exact h⟩
 ·obtain⟨h1,h2,h3⟩:=I.pin p hp;exact⟨h1,keepN _ h2,h3⟩
 ·have stay:∀ (c:Addr) (v:HO),aM X.prog X.w H s.heap c v->aM X.prog X.w (upd H a (.dK kvs)) s.heap c v:=λ c v x=>x.stay (λ _ _ _ q=>q) (λ d q=>by rw [af (λ z=>by rw [z,ha] at q;cases q)];exact q) λ d xs q=>by rw [af (λ z=>by rw [z,ha] at q;cases q)];exact q
  by_cases hb:b=a
  ·subst hb;rw [ag] at e;cases e;exact stay _ _ (show aM X.prog X.w H s.heap b (.frz ob (.dK kvs)) from I.hok b _ ha).2
  ·rw [af hb] at e;exact stay b u (I.hok b u e)
def iV(H:Hp)(Q:VK):VK:=λ v H'=>∃ a ob kvs kvs0,H a=some (.dK kvs0)/\H' a=some (.frz ob (.dK kvs))/\Q v (upd H' a (.dK kvs))
def DM(t:TE):TE:=λ σ H Q=>t σ H (iV H Q)
theorem BB(t:TE)(σ:St)(H:Hp)(Q:VK):DM t σ H Q=t σ H (iV H Q):=rfl
theorem AZ{X:Cx}{e:Expr}{t:TE}(h:PE X e t):PE X e (DM t):=by
 intro pins s σ H Q I hh;refine thn (h pins s σ H _ I hh) λ u s1 ⟨v,H1,I1,r1,a,ob,kvs,kvs0,h0,hf,q⟩=>?_;exact⟨v,_,I1.thaw hf λ o w z=>(by have:=I.base.frzs a o w z;rw [h0] at this;cases this),r1,q⟩
theorem Ext.thaw{H H1:Hp}{a:Addr}{ob:Obj}{kvs:List (Key × V)}(ha:H a=some (.dK kvs))(e:Ext (upd H a (.frz ob (.dK kvs))) H1):Ext H (upd H1 a (.dK kvs)):=by
 have h1:∀ b,(H b).isSome=true->upd H1 a (.dK kvs) b=H b:=λ b hb=>by
  by_cases hba:b=a
  ·rw [hba,ag,ha]
  ·rw [af hba,e.1 b (by rw [af hba];exact hb),af hba]
 refine⟨h1,λ K b xs h=>?_⟩
 rcases h with (h|⟨o,h⟩)|h
 ·exact .inl (.inl (by rw [h1 b (by rw [h];rfl)];exact h))
 ·exact .inl (.inr ⟨o,by rw [h1 b (by rw [h];rfl)];exact h⟩)
 ·exact .inr h
section
variable {k:Nat}{g:TG}{tt:TT}{te:TE}{σ:St}{Q:VK}{H:Hp}
theorem yv{a:Addr}{kvs:List (Key × V)}(c:Key × V->Bool)(f:Key × V->V)(ha:H a=some (.dK kvs))(hl:kvs.length<=sizeLine)
  (hs:∀ D ob z H' N1 N0,z∈kvs->H D=none->Ext (upd H a (.frz ob (.dK kvs))) H'->H' a=some (.frz ob (.dK kvs))->(c z=true->∀ H'',Ext H' H''->N1 (f z) H'')->(c z=false->∀ H'',Ext H' H''->N0 H'')->g (kV z.1) (List.replicate k none++σ) H' (kCm k tt te σ N1 N0))
  (hd:∀ D H',H D=none->Ext H H'->H' D=some (.lst ((kvs.filter c).map f))->Q (.ref D) H'):Hc (rB k g tt te σ (iV H Q)) (.ref a) H:=by
 refine⟨a,kvs,rfl,ha,λ ob=>?_⟩;have hfr:upd H a (.frz ob (.dK kvs)) a=some (.frz ob (.dK kvs)):=ag;refine bX kvs c f (λ z x H'=>x=kV z.1/\H' a=some (.frz ob (.dK kvs))) (λ i z H' hz e=>?_) (λ H' e=>?_) hl (λ D z x H' N1 N0 hz hD e p k1 k0=>?_) λ D H' hD e hD'=>?_
 ·have h1:H' a=some (.frz ob (.dK kvs)):=by rw [e.1 a (by rw [hfr];rfl)];exact hfr
  refine⟨⟨h1,(Lb.mp hz).1⟩,λ x H'' ⟨e1,p,hp,ex⟩=>?_⟩;rw [hz] at hp;cases hp;subst e1;exact⟨Ext.refl _,ex,h1⟩
 ·exact⟨by rw [e.1 a (by rw [hfr];rfl)];exact hfr,Li _⟩
 ·obtain⟨rfl,hp⟩:=p;exact hs D ob z H' N1 N0 hz (by rwa [af (λ z=>by rw [z,hfr] at hD;cases hD)] at hD) e hp k1 k0
 ·have hDa:D ≠ a:=λ z=>by rw [z,hfr] at hD;cases hD
  refine⟨a,ob,kvs,kvs,ha,by rw [e.1 a (by rw [hfr];rfl)];exact hfr,hd D _ (by rwa [af hDa] at hD) (Ext.thaw ha e) (by rw [af hDa];exact hD')⟩
end
theorem jH{H:Hp}{a:Addr}{ob:Obj}{kvs:List (Key × V)}{k:Key}{v:V}{Q:VK}(e:H a=some (.frz ob (.dK kvs)))(h:cJ kvs k=some v)(q:Q v H):He Q (.ref a) (kV k) H:=⟨a,v,rfl,h ▸ .inl ⟨kvs,k,.inr ⟨ob,e⟩,rfl,rfl⟩,q⟩
structure IsC(K:W.Frag)(C:Addr):Prop where
 cl:Cls K C
 fc:W.findIn K (.ref C) "__class__"=some (some (.builtin "object.__class__"))
 ocs:W.specialIn K (.builtin "object.__class__") "__get__"=some (some (.builtin "getset_descriptor.__get__"))
 oct:W.takesIn K (.builtin "object.__class__")=some true
 mo:W.mroIn K C (.type "object")=some true
section
variable {X:Cx}
end
section
variable {prog:Program}{w:World}{A:Around}{E:Value->Shared->Prop}{K:Frag}{x C dx:Addr}{s:Shared}{name:Str}{v:Value}
end
section
variable {X:Cx}{e o value:Expr}{ta tv:TE}{f:Str}{pos pos':Pos}
end
open Sem (wp)
open AutoSeq1 (wpAny_loadPart')
section
variable {X:Cx}
end
def Ec(o:Obj):Prop:=∃ vs,o.data=.fields vs/\vs[2]? = some .none
section
variable {prog:Program}{w:World}{A:Around}{E:Value->Shared->Prop}{s:Shared}
end
def Kj(X:Cx):Prop:=∃ (e:Addr) (oe:Obj) (u:HO),X.A.handled=some (.ref e)/\X.H₀ e=some (.frz oe u)/\Ec oe
structure KY(P:Program)(w:World)(K:W.Frag)(tg:Expr)(J:It)(fp:List Addr)(it:Addr)(tn:Nat->Heap->Prop):Prop where
 mem:it∈fp
 obj:∀ i h,tn i h->∀ b∈fp,∃ o,h.get? b=some o/\∀ v,o.data ≠ .cell v
 keep:∀ i h h',tn i h->(∀ b∈fp,∀ o,h.get? b=some o->h'.get? b=some o)->tn i h'
 item:∀ (X:Cx),X.prog=P->X.w=w->X.K=K->Kj X->∀ (i:Nat) (pins:List (Addr × Obj)) (s:Shared) (σ:St) (H:Hp) (E:Value->Shared->Prop),Inv X pins σ H s->(∀ b∈fp,k9 X pins H b)->tn i s.heap->J.go i H →
  wpAny (model P w) X.A (pyNext (.ref it)) (λ r s1=>∃ u,r=some u /\
   wpAny (model P w) X.A (letOwnedTupleGo tg (.ref it) u) (λ _ s2=>∃ x H',Inv X pins σ H' s2/\aU x u/\J.yld i H x H'/\tn (i+1) s2.heap/\∀ b∈fp,H' b=none) E s1) E s
 done:∀ (X:Cx),X.prog=P->X.w=w->X.K=K->Kj X->∀ (i:Nat) (pins:List (Addr × Obj)) (s:Shared) (σ:St) (H:Hp) (E:Value->Shared->Prop),Inv X pins σ H s->(∀ b∈fp,k9 X pins H b)->tn i s.heap->J.stop i H →
  wpAny (model P w) X.A (pyNext (.ref it)) (λ r s1=>r=none/\Inv X pins σ H s1) E s
section
variable {X:Cx}{tg:Expr}
end
structure JB(k:Nat)(e:Addr)(A:Around):Prop where
 hd:A.handled=some (.ref e)
 dp:A.depth+3 * k+5 < recursionLimit
 un:A.units+16 * k+200 < cLine
structure KZ(P:Program)(w:World)(K:W.Frag)(mg:Str->Option Value)(base:Heap)(CX:CXT)(k:Nat)(f:Addr)(fd:FuncData)(ps:List Str)(sp:Sp):Prop where
 len:∀ vs H Q E,sp vs H Q E->vs.length=ps.length
 run:∀ (A:Around) (outer:List Env) (s:Shared) (H:Hp) (args:Args) (us:List Value) (vs:List V) (Q:VK) (E:XK) (e:Addr) (oe:Obj) (u:HO),JB k e A->H e=some (.frz oe u)->Ec oe->qX P w K mg base A outer s H->BindsTo s fd args (ps.zip us)->aL vs us->sp vs H Q E →
  codeAny (model P w) A (.call (.ref f) args) (CR CX outer P w H s Q E) s
section
variable {X:Cx}
end
section
variable {prog:Program}{w:World}{A:Around}{E:Value->Shared->Prop}{s:Shared}
structure Kn(z TI TO i j l:Addr)(f g e:List Addr):Prop where
 ti:TI ≠ z/\TI ≠ TO/\TI ≠ i/\TI ≠ j/\TI ≠ l
 zt:z ≠ TO
 zf:z ∉ f
 zg:z ∉ g
 ze:z ∉ e
 tf:TO ∉ f
 tg:TO ∉ g
 te:TO ∉ e
 ig:i ∉ g
 ie:i ∉ e
 jf:j ∉ f
 je:j ∉ e
 lf:l ∉ f
 lg:l ∉ g
variable {z TI TO i j l:Addr}{f g e:List Addr}{ti tj tl:Nat->Heap->Prop}{vi vj vl:Nat->Option Value}{k m n:Nat}{x y u a b c:Value}
end
section
variable {prog:Program}{w:World}{A:Around}{E:Value->Shared->Prop}{s:Shared}
end
section
variable {X:Cx}
end
def Ic(Q:VK)(a:Addr):VK:=λ y H=>∃ o,jC H a y o/\Q (o.getD .non) H
def J1(ty:TE)(σ:St)(Q:VK):VK:=λ x H=>∃ a,x=.ref a/\IsD H a/\ty σ H (Ic Q a)
theorem xg(td ty:TE)(σ:St)(H:Hp)(Q:VK):yy td ty σ H Q=td σ H (J1 ty σ Q):=rfl
theorem fD{ty:TE}{σ:St}{Q:VK}{H:Hp}{a:Addr}{kvs:List (Key × V)}(e:H a=some (.dK kvs))(q:ty σ H (Ic Q a)):J1 ty σ Q (.ref a) H:=⟨a,rfl,.inl ⟨kvs,.inl e⟩,q⟩
theorem hU{Q:VK}{H:Hp}{a:Addr}{kvs:List (Key × V)}{k:Key}(e:H a=some (.dK kvs))(q:Q ((cJ kvs k).getD .non) H):Ic Q a (kV k) H:=⟨_,jC.k e,q⟩
def Ia(Q:VK)(a:Addr)(y:V):VK:=λ z H=>∃ o,jC H a y o/\Q (o.getD z) H
def Ib(tx:TE)(σ:St)(Q:VK)(a:Addr):VK:=λ y H=>tx σ H (Ia Q a y)
theorem FC(tx:TE)(σ:St)(Q:VK)(a:Addr)(y:V)(H:Hp):Ib tx σ Q a y H=tx σ H (Ia Q a y):=rfl
def J0(ty tx:TE)(σ:St)(Q:VK):VK:=λ x H=>∃ a,x=.ref a/\IsD H a/\ty σ H (Ib tx σ Q a)
theorem xf(td ty tx:TE)(σ:St)(H:Hp)(Q:VK):yx td ty tx σ H Q=td σ H (J0 ty tx σ Q):=rfl
theorem eQ{ty tx:TE}{σ:St}{Q:VK}{H:Hp}{a:Addr}{kvs:List (Key × V)}(e:H a=some (.dK kvs))(q:ty σ H (Ib tx σ Q a)):J0 ty tx σ Q (.ref a) H:=⟨a,rfl,.inl ⟨kvs,.inl e⟩,q⟩
theorem g6{Q:VK}{H:Hp}{a:Addr}{kvs:List (Key × V)}{k:Key}{z:V}(e:H a=some (.dK kvs))(q:Q ((cJ kvs k).getD z) H):Ia Q a (kV k) z H:=⟨_,jC.k e,q⟩
section
variable {X:Cx}
def yB:V->List V->Hp->VK->Prop:=λ x vs H Q=>∃ l xs y d ds j,x=.ref l/\vs=[y]/\H l=some (.lst xs)/\gY H 6 y=some d/\aP (xs.map (gY H 5))=some ds/\ds.findIdx? (λ z=>PyData.eqv z d)=some j/\Q (.int (j:Int)) H
theorem pj(hu:X.A.units+64 < cLine):MtM X "list.index" yB:=by
 intro pins s σ H x vs v us Q I rx rv h;obtain⟨l,xs,y,d,ds,j,rfl,rfl,hH,e1,e2,hj,q⟩:=h;cases rx;obtain⟨u,rfl,ru⟩:=rv.one;obtain⟨z,its,n,r,hl,e⟩:=I.lstM hH;obtain⟨a,b,c⟩:=ic (K:=X.K) 6 y d e1;obtain⟨as,zy⟩:=a.reads I ru;obtain⟨a',b',c'⟩:=gS (K:=X.K) (ic 5) xs ds e2;obtain⟨bs,zs⟩:=a'.reads I r;have hm:=SeqAt.readsAll_map ds _ _ b' zs;rw [List.findIdx?_eq_some_iff_getElem] at hj;obtain⟨hjl,hje,hjn⟩:=hj;have hln:ds.length=its.length:=by rw [←hm,Lc]
 have hs:its.length<=sizeLine:=by omega
 rw [sizeLine_eq] at hs;refine N8 F.slot_list_index ⟨_,e,rfl⟩ F.entry_list_index (F.args_list_index_2 _ _) (SeqAt.list_indexAt l its.toArray n none #[] u (λ y=>PyData.eqv (SeqAt.readOf s.heap y) d) j (by rw [LC];omega) (by omega) ?_ ?_) ⟨e,?_,?_⟩
 ·show PyData.eqv (SeqAt.readOf s.heap its.toArray[j]) d=true
  rw [List.getElem_toArray,←hje];congr 1;rw [←Oh (f:=SeqAt.readOf s.heap) (h:=by rw [Lc];omega)];exact List.getElem_of_eq hm _
 ·intro m hm' hlt;have hml:m < ds.length:=by omega
  have h2:=hjn m hlt
  show PyData.eqv (SeqAt.readOf s.heap its.toArray[m]) d=false
  rw [List.getElem_toArray]
  have e3:SeqAt.readOf s.heap (its[m]'(by omega))=ds[m]:=by
   rw [←Oh (f:=SeqAt.readOf s.heap) (h:=by rw [Lc];omega)];exact List.getElem_of_eq hm _
  rw [e3];exact Bool.eq_false_iff.mpr h2
 ·exact SeqAt.items_eqAt (by simpa using zs) zy b' b (by have:=Nat.min_le_right (PyData.depthAll ds) d.depth;omega)
 ·exact⟨.int _,H,I.tok _,⟨_,rfl⟩,q⟩
end
def yU(X:Cx)(f:Value)(ks:List Str)(r:List V->List V->Hp->VK->Prop):Prop:=∀ pins s σ H vs us zs ws Q,Inv X pins σ H s->aL vs us->aL zs ws->r vs zs H Q->wpAny (model X.prog X.w) X.A (call f us (ks.zip ws)) (EP X pins σ Q) X.xe s
def Il(r:List V->List V->Hp->VK->Prop)(Q:VK)(vs:List V):List V->Hp->Prop:=λ zs H=>r vs zs H Q
theorem FO(r:List V->List V->Hp->VK->Prop)(Q:VK)(vs zs:List V)(H:Hp):Il r Q vs zs H=r vs zs H Q:=rfl
def Im(r:List V->List V->Hp->VK->Prop)(tk:TA)(σ:St)(Q:VK):List V->Hp->Prop:=λ vs H=>tk σ H (Il r Q vs)
theorem FP(r:List V->List V->Hp->VK->Prop)(tk:TA)(σ:St)(Q:VK)(vs:List V)(H:Hp):Im r tk σ Q vs H=tk σ H (Il r Q vs):=rfl
def JJ(r:List V->List V->Hp->VK->Prop)(t tk:TA):TE:=λ σ H Q=>t σ H (Im r tk σ Q)
theorem E2(r:List V->List V->Hp->VK->Prop)(t tk:TA)(σ:St)(H:Hp)(Q:VK):JJ r t tk σ H Q=t σ H (Im r tk σ Q):=rfl
theorem uj{X:Cx}{id:String}{x:Str}{p pos:Pos}{e:Expr}{es:List Expr}{kws:List Keyword}{ks:List Str}{r:List V->List V->Hp->VK->Prop}{t tk:TA}(hc:yU X (.builtin id) ks r)(hg:Gl X x)(hm:X.mg x=none)(hv:bootBuiltins x=some (.builtin id))(ha:PA X (e::es) t)(hk:PK X kws tk)(hn:x ≠ "__name__":=by decide)(hdb:(x == ("__debug__":Str))=false:=by decide)
  (hks:(backToKw pos (keywordEach kws X.env)).filterMap (·.1)=ks:=by rfl)
  (h1:backTo pos (starEach (e::es) X.env)=(false,eval e X.env)::backTo pos (starEach es X.env):=by rfl)
  (h2:(backTo pos (starEach (e::es) X.env)).any (·.1)=false:=by rfl)
  (h3:(backToKw pos (keywordEach kws X.env)).all (·.1.isSome)=true:=by rfl)
  (h4:(backToKw pos (keywordEach kws X.env)).any (·.1.isNone)=false:=by rfl):PE X (.Call (.Name x p) (e::es) kws pos) (JJ r t tk):=by
 intro pins s σ H Q I h;refine MY (eJ I hg hm hv ?_ hn hdb);refine callWith_kw (thn (ha pos pins s σ H _ I h) λ us s1 ⟨vs,H1,I1,r1,q1⟩=>thn (hk pos pins s1 σ H1 _ I1 q1) λ ws s2 ⟨zs,H2,I2,r2,q2⟩=>?_) h1 h2 h3 h4;rw [hks];exact hc pins s2 σ H2 vs us zs ws Q I2 r1 r2 q2
section
variable {prog:Program}{w:World}{A:Around}{R:Result->Shared->Prop}{J:Addr}{fp wr:List Addr}{G:Array GenState->Array GenState->Prop}{n:Nat}{P:Nat->Value->Prop}{St:Nat->Shared->Prop}
end
section
variable {prog:Program}{w:World}{A:Around}{R:Result->Shared->Prop}{J:Addr}{fp wr:List Addr}{G:Array GenState->Array GenState->Prop}{n:Nat}{P:Nat->Value->Prop}{St:Nat->Shared->Prop}
end
def aa(kv:List (Int × Int))(c:Int):Option Int:=(kv.find? λ p=>decide (p.1=c)).map λ p=>p.2
def aj(kv:List (Int × Int)):List (Key × V):=kv.map λ p=>(Sum.inl p.1,V.int p.2)
theorem fJ{p:Int × Int}{r:List (Int × Int)}{c:Int}(e:p.1=c):aa (p::r) c=some p.2:=by simp [aa,Nc,e]
theorem fK{p:Int × Int}{r:List (Int × Int)}{c:Int}(e:¬ p.1=c):aa (p::r) c=aa r c:=by simp [aa,Nc,e]
theorem oM{a c:Int}(h:¬ a=c):¬ (Sum.inl a:Key)=Sum.inl c:=λ e=>h (Sum.inl.inj e)
theorem ao:∀ (kv:List (Int × Int)) (c:Int),cJ (aj kv) (.inl c)=(aa kv c).map V.int
 | [],c=>rfl
 | p::r,c=>by
  by_cases h:p.1=c
  ·rw [fJ h];exact bp (p:=(Sum.inl p.1,V.int p.2)) (r:=aj r) (Mt Sum.inl h)
  ·rw [fK h,←ao r c];exact bq (p:=(Sum.inl p.1,V.int p.2)) (r:=aj r) (oM h)
theorem fU{kv:List (Int × Int)}{c:Int}(v:Int)(h:aa kv c=none):eP (aj kv) (.inl c) (.int v)=aj (kv++[(c,v)]):=by
 rw [wI _ (by rw [ao,h];rfl)];unfold aj;rw [map_append];rfl
abbrev PKy:=List Int × List Int
section
variable {prog:Program}{w:World}
end
section
variable {P:Program}{w:World}{H:Hp}{h:Heap}{a:Addr}
end
section
variable {X:Cx}{pins:List (Addr × Obj)}{σ:St}{H:Hp}{s:Shared}{d b:Addr}{k:PKy}{Z:List PKy}{A:Around}{E:Value->Shared->Prop}
end
section
variable {X:Cx}
end
theorem AX{X:Cx}{tg l:Expr}{tl:TE}{K:W.Frag}(hK:X.K=K)(hl:PE X l tl):PI X tg l (Io K tl):=by subst hK;exact yF hl
section
variable {X:Cx}{e st:Expr}{te tst:TE}{pos p2:Pos}
end
section
variable {X:Cx}
end
section
variable {X:Cx}{a b:Expr}{ta tb:TE}{pos:Pos}{eO:List Expr}
end
open PySem.SeqAt
def Ah(H:Hp)(Q:VK):List Bool->Prop:=λ bs=>Q (.bl (bs.any id)) H
theorem B8(H:Hp)(Q:VK)(bs:List Bool):Ah H Q bs=Q (.bl (bs.any id)) H:=rfl
def HJ:List V->Hp->VK->Prop:=λ vs H Q=>match vs with
 | [.ref p]=>aI (ay H p) (zx (Ah H Q))
 | _=>False
theorem Fe(p:Addr)(H:Hp)(Q:VK):HJ [.ref p] H Q=aI (ay H p) (zx (Ah H Q)):=rfl
section
variable {X:Cx}
theorem vC(bs:List Bool):(List.range bs.length).any (λ i=>bs.getD i false)=bs.any id:=by
 rw [MX,NA,NA];refine⟨λ ⟨i,hi,e⟩=>?_,λ ⟨x,hx,e⟩=>?_⟩
 ·have hi':=LF.mp hi;exact⟨bs[i],MK hi',by simpa [List.getD,K1 hi'] using e⟩
 ·obtain⟨i,hi,h⟩:=Mr hx;exact⟨i,LF.mpr hi,by simpa [List.getD,K1 hi,h] using e⟩
theorem vf(hc:X.calm=true):bG X (.builtin "any") HJ:=by
 intro pins s σ H vs us Q I r h;unfold HJ at h;split at h
 ·rename_i p;obtain⟨xs,e,bs,rfl,q⟩:=ai h
  cases r with
  | cons r rr=>
   cases rr;cases r;obtain⟨its,rv,pl,hz⟩:=I.list (SqL.of (bB e));have hlt:p < s.heap.objs.size:=by obtain⟨_,e,_⟩:=pl.isList;exact La e
   have hlen:its.length=bs.length:=by have:=rv.length;simpa using this.symm
   refine call_any_walk (MO pl.isList ⟨s.heap.objs.size,_,_,_,_,_,λ i=>bs.getD i false,rfl,Walks.list (show X.A.in1.handled=none from I.ok.hd hc) _ p (Ll hlt) its.toArray,⟨⟨_,Lh _ rfl,rfl,rfl⟩,pl.isList.push _⟩,λ i v s' Q' E' hP hQ=>?_,λ h' tk hk=>?_⟩)
   ·have hv:its[i]? = some v:=by simpa using hP
    have hi:i < bs.length:=by rw [←hlen];exact(Lb.mp hv).1
    obtain⟨u,hu,ru⟩:=rv.get (i:=i) (x:=.bl (bs.getD i false)) (by rw [Lr,K1 hi];simp [List.getD,K1 hi]);rw [hv] at hu;cases hu;have e2:v=.bool (bs.getD i false):=ru;subst e2;exact MN hQ
   ·have kp:∀ b o,s.heap.get? b=some o->h'.get? b=some o:=λ b o e=>hk b o (λ hmem=>by
     have:b=s.heap.objs.size:=by simpa using hmem
     subst this;exact absurd (La e) (LQ _)) (K2 _ e)
    refine⟨.bl (bs.any id),H,I.kept (t':=tk) kp,?_,q⟩;rw [show its.toArray.size=bs.length by simp [hlen],vC];exact rfl
 ·exact h.elim
theorem pC(k:Bool):∀ {bs:List Bool}{vs:List Value},aL (bs.map V.bl) vs->∀ y,y∈vs->∀ (A:Around) (s:Shared),EqAt A s y (.bool k) (isBoolOf k y)
 | [],_,.nil,y,hy,_,_=>absurd hy Ld
 | b::bs,_,.cons (b:=u) r rr,y,hy,A,s=>by
  rcases Lz.mp hy with e|hy
  ·have e2:u=.bool b:=r;rw [e,e2];exact EqAt.bool_bool b k
  ·exact pC k rr y hy A s
theorem kn(k:Bool):∀ {bs:List Bool}{vs:List Value},aL (bs.map V.bl) vs->∀ (j:Nat) (h:j < vs.length) (h':j < bs.length),isBoolOf k vs[j]=(bs[j] == k)
 | b::bs,_,.cons (b:=u) r rr,0,_,_=>by
  have e2:u=.bool b:=r;subst e2;rfl
 | b::bs,_,.cons (b:=u) r rr,j+1,h,h'=>kn k rr j (by simpa using h) (by simpa using h')
def Ae(k:Bool)(H:Hp)(Q:VK):List Bool->Prop:=λ bs=>k∈bs/\Q (.int (bs.idxOf k:Nat)) H
theorem BY(k:Bool)(H:Hp)(Q:VK)(bs:List Bool):Ae k H Q bs=(k∈bs/\Q (.int (bs.idxOf k:Nat)) H):=rfl
def zU:V->List V->Hp->VK->Prop:=λ x vs H Q=>match x,vs with
 | .ref l,[.bl k]=>aI (ay H l) (zx (Ae k H Q))
 | _,_=>False
theorem BI(l:Addr)(k:Bool)(H:Hp)(Q:VK):zU (.ref l) [.bl k] H Q=aI (ay H l) (zx (Ae k H Q)):=rfl
theorem xa:MtM X "list.index" zU:=by
 intro pins s σ H x vs v us Q I rx rv h;unfold zU at h;split at h
 ·rename_i l k;obtain⟨xs,hx,bs,rfl,hk,q⟩:=ai h;replace hx:=bB hx;cases rx
  cases rv with
  | cons rk rr=>
   cases rr;cases rk;obtain⟨z,its,n,r,hl,e⟩:=I.lstM hx;have hs:sizeLine=16777216:=sizeLine_eq;rw [Lc] at hl z;have hj:bs.idxOf k < bs.length:=List.idxOf_lt_length_iff.mpr hk;refine N8 F.slot_list_index ⟨_,e,rfl⟩ F.entry_list_index (F.args_list_index_2 _ _) (list_indexAt l its.toArray n _ _ (.bool k) (isBoolOf k) (bs.idxOf k) (by simpa [←hl] using hj) (by omega) ?_ ?_) ⟨e,λ y hy=>pC k r y (by simpa using hy) _ _,?_⟩
   ·show isBoolOf k its[bs.idxOf k]=true
    rw [kn k r _ (by omega) hj,List.getElem_idxOf hj];exact OQ k
   ·intro j hjs hlt
    show isBoolOf k its[j]=false
    rw [kn k r j (by simpa using hjs) (by omega)];exact eq_false_of_ne_true (by simpa using List.not_of_lt_findIdx hlt)
   ·exact⟨.int (bs.idxOf k:Nat),H,I.tok _,⟨_,rfl⟩,q⟩
 ·exact h.elim
end
structure Mk0(K:W.Frag)(C:Addr):Prop where
 makes:W.makesIn K C=true
 init:W.findIn K (.ref C) "__init__"=some (some (.builtin "object.__init__"))
 kp:W.keepIn K (.ref C)=true
structure MD(P:Program)(w:World)(K:W.Frag)(mg:Str->Option Value)(base:Heap)(CX:CXT)(k:Nat)(m:Str)(C:Addr)(sp:Sp):Prop where
 c:Cls K C
 ex:∃ f fd ps,m6 K C m f/\bj P w K mg base CX k f fd ps sp/\au K fd ps []
section
variable {k:Nat}{g:TG}{tt:TT}{te:TE}{σ:St}{Q:VK}{H:Hp}
end
section
variable {X:Cx}
end
section
variable {X:Cx}{CX:CXT}{n k:Nat}{cl:Nat->Addr}{m:Str}{sp:Nat->Sp}{pos apos:Pos}{o e:Expr}{es:List Expr}{ta:TE}{t:TA}
end
section
variable {X:Cx}{CX:CXT}{k:Nat}{f C:Addr}{fd:FuncData}{ps:List Str}{sp:Sp}{dvs:List V}{ds:List Value}{E:St->XK}{x:Str}{p pos:Pos}{e:Expr}{es:List Expr}{t:TA}
end
section
variable {X:Cx}
end
section
variable {X:Cx}
end
section
variable {X:Cx}
end
section
variable {X:Cx}{tg:Expr}
end
section
variable {X:Cx}
end
end L2
namespace HT
open PySem PySem.Spec PyProof.Rows
section
variable {prog:Program}{w:World}{A:Around}{E:Value->Shared->Prop}{s:Shared}
end
end HT
namespace L2
open PySem PySem.Spec PyProof.Rows
section
variable {X:Cx}
end
def DT(l:Addr)(H:Hp)(Q:VK):List V->Prop:=λ xs=>∃ y ys,xs=ys++[y]/\Q y (upd H l (.lst ys))
def G7:V->List V->Hp->VK->Prop:=λ x vs H Q=>match x,vs with
 | .ref l,[]=>aI (ay H l) (DT l H Q)
 | _,_=>False
theorem Ee(l:Addr)(H:Hp)(Q:VK):G7 (.ref l) [] H Q=aI (ay H l) (DT l H Q):=rfl
theorem Aq{l:Addr}{H:Hp}{Q:VK}{ys:List V}{y:V}(h:H l=some (.lst (ys++[y])))(q:Q y (upd H l (.lst ys))):G7 (.ref l) [] H Q:=by
 rw [Ee,ay,h];exact⟨y,ys,rfl,q⟩
theorem Bk{X:Cx}:MtM X "list.pop" G7:=λ pins s σ H x vs v us Q I rx rv h=>EI pins s σ H x vs v us Q I rx rv (by
 unfold G7 at h;split at h
 ·rename_i l;obtain⟨xs,e,y,ys,rfl,q⟩:=ai h;exact⟨l,ys++[y],y,rfl,rfl,bB e,by simp,by rw [List.dropLast_concat];exact q⟩
 ·exact h.elim)
section
variable {prog:Program}{w:World}{A:Around}{E:Value->Shared->Prop}{s:Shared}
theorem oq{R:Result->Shared->Prop}{d:Addr}{kvs:List (Key × Value)}{ep:Nat}(hh:A.handled=none)(lo:(d == sysModules)=false)(hd:s.heap.DictAt (aw prog w) d kvs ep)(S:Addr)(res:Value)(c₀:Nat)(hS:s.heap.get? S=some { cls:=.type "list",data:=.seq #[] c₀ })
  (hn:kvs.length<=sizeLine)
  (hR:∀ h' tk acc' c',(∀ b o,b ≠ S->s.heap.get? b=some o->h'.get? b=some o)->h'.get? S=some { cls:=.type "list",dict:=none,data:=.seq acc' c',slots:=#[] } →
   ItemsOf (λ i v=>∃ k x,kvs[i]? = some (k,x)/\(aw prog w).is k v=true) acc' kvs.length->R (.ok (.ret res)) { s with heap:=h',toks:=tk }) :
  wpAny (model prog w) A.in1 (Builtin.List.listExtendWith (.ref S) (.ref d) res)
   (λ fin s'=>match fin with | .done f=>R (.ok f) s' | .again c'=>c'.quiet=true/\codeAny (model prog w) A c' R s') (λ e s'=>R (.error e) s') s:=by
 have hT:s.TypeIs (.ref d) "dict":=hd.dictOf.typeIs
 have hSd:S ≠ d:=λ e=>by
  obtain⟨o,ho,hc⟩:=hT;rw [←e,hS] at ho;cases ho;have:Value.type "list"=Value.type "dict":=hc;exact absurd this (by decide)
 have hSI:S ≠ s.heap.objs.size:=Ll (La hS);have hdlt:d < s.heap.objs.size:=by obtain⟨o,ho,_⟩:=hT;exact La ho
 have hdI:d ≠ s.heap.objs.size:=Ll hdlt
 have hSf:S ∉ [s.heap.objs.size,d]:=λ hm=>by
  rcases Lz.mp hm with e|hm
  ·exact hSI e
  ·exact hSd (Lq.mp hm)
 have W:=(Walks.dictKeys (prog:=prog) (w:=w) (knd:=aw prog w) (A:=A.in1) hh s.heap.objs.size d hdI kvs ep).toS;unfold Builtin.List.listExtendWith;refine wpAny_bind (wpAny_typeOf (T := "dict") hT ?_);have h1:Builtin.List.listSameRef (.ref S) (.ref d)=false:=by simp [Builtin.List.listSameRef,hSd]
 have h2:(Value.type "dict" == Value.type "list")=false:=by decide
 have h3:(Value.type "dict" == Value.type "tuple")=false:=by decide
 simp only [h1,h2,h3,Bool.or_false,Bool.false_eq_true,if_false];refine wpAny_bind (wpAny_pyIter_dict lo hd ?_);have hd₁:(s.heap.push { cls:=.type "dict_keyiterator",data:=.fields #[.ref d,.int 0 0,.int kvs.length 0,.int ep 0] }).DictAt (aw prog w) d kvs ep:=hd.at' λ o e=>Heap.get?_push_of_some _ e;have hit₁:(s.heap.push { cls:=.type "dict_keyiterator",data:=.fields #[.ref d,.int 0 0,.int kvs.length 0,.int ep 0] }).IsKeyIter s.heap.objs.size d 0 kvs.length ep:=⟨_,Heap.get?_push_size _ rfl,rfl,rfl⟩;have hS₁:=Heap.get?_push_of_some { cls:=.type "dict_keyiterator",data:=.fields #[.ref d,.int 0 0,.int kvs.length 0,.int ep 0] } hS;have kp₁:∀ b o,s.heap.get? b=some o->(s.heap.push { cls:=.type "dict_keyiterator",data:=.fields #[.ref d,.int 0 0,.int kvs.length 0,.int ep 0] }).get? b=some o:=λ b o e=>Heap.get?_push_of_some _ e;generalize (s.heap.push { cls:=.type "dict_keyiterator",data:=.fields #[.ref d,.int 0 0,.int kvs.length 0,.int ep 0] })=hp at *;have hT₁:({ s with heap:=hp }:Shared).TypeIs (.ref d) "dict":=hd₁.dictOf.typeIs;refine wpAny_bind (wpAny_holding ?_);unfold Builtin.List.listLengthHint;refine wpAny_bind (wpAny_specialOf (T := "dict") hT₁ PySem.F.slot_dict_len.lookup ?_)
 wp_delta
 refine K0 (wpAny_isInstance (T := "dict") (b:=true) hT₁ (by rw [isSubtype_type];kernel_rfl) ?_)
 show wpAny _ _ (typeOf (Value.ref d) >>= _) _ _ _
 refine K0 (wpAny_typeOf (T := "dict") hT₁ ?_);refine Lf ?_;rw [Lo (by decide)];refine K0 (N7 ?_);refine K0 ?_
 show wpAny _ _ (updateSeq S (·.push .none) >>= λ _=>updateSeq S (·.pop)) _ _ _
 refine K0 (M6 hS₁ rfl ?_);have hS₂:=LX (Obj.mapSeq (·.push Value.none)) hS₁ rfl;refine M6 (hz:=by seq_fits) hS₂ rfl ?_;have hS₃:=LX (Obj.mapSeq (·.pop)) hS₂ rfl;have oth:∀ b o,b ≠ S->hp.get? b=some o->((hp.update S (Obj.mapSeq (·.push Value.none))).update S (Obj.mapSeq (·.pop))).get? b=some o:=λ b o hb e=>(L5 _ _ (Lv hb)).trans ((L5 _ _ (Lv hb)).trans e);refine Lf ⟨plainId_quiet F.plain_extend_loop _,?_⟩;refine codeAny_extend_loopS W hn S hSf res kvs.length 0 _ #[] _ rfl (LD _) ⟨hit₁.at λ o e=>oth _ o (Lv hSI) e,hd₁.at' λ o e=>oth _ o (Lv hSd) e⟩ hS₃ (ItemsOf.nil _) λ s' acc' c' hm hS' hacc=>?_;rw [Moved.eq_with hm];refine hR s'.heap s'.toks acc' c' (λ b o hb e=>hm.heap b o (λ hmem=>?_) (oth b o hb (kp₁ b o e))) hS' hacc
 rcases Lz.mp hmem with e'|hmem
 ·exact hb e'
 ·exact absurd (La e) (by rw [Lq.mp hmem];exact LQ _)
theorem u6{R:Result->Shared->Prop}{d:Addr}{kvs:List (Key × Value)}{ep:Nat}(hh:A.handled=none)(lo:(d == sysModules)=false)(hd:s.heap.DictAt (aw prog w) d kvs ep)(S:Addr)(hSd:S ≠ d)(hS:s.heap.get? S=some { cls:=.type "list",data:=.seq #[] })
  (hn:kvs.length<=sizeLine)
  (hR:∀ h' tk acc' c',(∀ b o,b ≠ S->s.heap.get? b=some o->h'.get? b=some o)->h'.get? S=some { cls:=.type "list",dict:=none,data:=.seq acc' c',slots:=#[] } →
   ItemsOf (λ i v=>∃ k x,kvs[i]? = some (k,x)/\(aw prog w).is k v=true) acc' kvs.length->R (.ok (.ret .none)) { s with heap:=h',toks:=tk }) :
  wpAny (model prog w) A.in1 (Builtin.«list.__init__» ⟨[.ref S,.ref d],[]⟩)
   (λ fin s'=>match fin with | .done f=>R (.ok f) s' | .again c'=>c'.quiet=true/\codeAny (model prog w) A c' R s') (λ e s'=>R (.error e) s') s:=by
 show wpAny _ _ (do let old ←Builtin.List.listItems (.ref S);Builtin.List.listUpdate (.ref S) (λ _=>#[]);letGo old.toList.reverse;Builtin.List.listExtendWith (.ref S) (.ref d) .none) _ _ s
 refine wpAny_bind ?_;unfold Builtin.List.listItems;refine wpAny_bind (wpAny_seqItems hS rfl (wpAny_pure ?_))
 show wpAny _ _ (updateSeq S (λ _=>#[]) >>= λ _=>letGo (#[]:Array Value).toList.reverse >>= λ _=>Builtin.List.listExtendWith (.ref S) (.ref d) .none) _ _ s
 refine K0 (M6 hS rfl ?_);have hS₂:=LX (Obj.mapSeq (λ _=>(#[]:Array Value))) hS rfl
 have oth:∀ b o,b ≠ S->s.heap.get? b=some o->(s.heap.update S (Obj.mapSeq (λ _=>(#[]:Array Value)))).get? b=some o:=
  λ b o hb e=>(L5 _ _ (Lv hb)).trans e
 refine K0 (Om ?_);refine oq hh lo (hd.at' λ o e=>oth _ o (Lv hSd) e) S .none _ hS₂ hn λ h' tk acc' c' hk hS' hacc=>?_;exact hR h' tk acc' c' (λ b o hb e=>hk b o hb (oth b o hb e)) hS' hacc
theorem i6{Q:Value->Shared->Prop}{d:Addr}{kvs:List (Key × Value)}{ep:Nat}(hh:A.handled=none)(lo:(d == sysModules)=false)(hd:s.heap.DictAt (aw prog w) d kvs ep)(hn:kvs.length<=sizeLine)
  (hQ:∀ h' tk acc' c',(∀ b o,s.heap.get? b=some o->h'.get? b=some o) →
   h'.get? s.heap.objs.size=some { cls:=.type "list",dict:=none,data:=.seq acc' c',slots:=#[] }->ItemsOf (λ i v=>∃ k x,kvs[i]? = some (k,x)/\(aw prog w).is k v=true) acc' kvs.length->Q (.ref s.heap.objs.size) { s with heap:=h',toks:=tk }) :
  wpAny (model prog w) A (call (.type "list") [.ref d]) Q E s:=by
 refine callType_codes (Q₁:=λ obj s₁=>obj=.ref s.heap.objs.size/\s₁={ s with heap:=s.heap.push { cls:=.type "list",data:=.seq #[] } }) F.called_list (F.typeCall_list_1 _) F.entry_list_init
  (code_list_new _ ⟨rfl,rfl⟩) λ obj s₁ h₁=>?_
 obtain⟨rfl,rfl⟩:=h₁;have hS:(s.heap.push { cls:=.type "list",data:=.seq #[] }).get? s.heap.objs.size=some { cls:=.type "list",data:=.seq #[] }:=Lh _ rfl;have hSd:s.heap.objs.size ≠ d:=λ e=>by obtain⟨o,es,ho,_⟩:=hd;rw [←e] at ho;exact absurd (La ho) (LQ _)
 refine⟨⟨_,hS,rfl⟩,F.args_list_init_2 _ _,u6 (A:=A.in1) hh lo (hd.at' λ o e=>K2 _ e) _ hSd hS hn λ h' tk acc' c' hk hS' hacc=>?_⟩;exact⟨rfl,hQ h' tk acc' c' (λ b o e=>hk b o (Ll (La e)) (K2 _ e)) hS' hacc⟩
end
def yC:List V->Hp->VK->Prop:=λ vs H Q=>∃ p kvs,vs=[.ref p]/\H p=some (.dK kvs)/\kvs.length<=sizeLine/\gN (.lst (kvs.map λ z=>kV z.1)) H Q
theorem lL{p:Addr}{kvs:List (Key × V)}{H:Hp}{Q:VK}(e:H p=some (.dK kvs))(hl:kvs.length<=sizeLine)(q:gN (.lst (kvs.map λ z=>kV z.1)) H Q):yC [.ref p] H Q:=⟨p,kvs,rfl,e,hl,q⟩
theorem iM{X:Cx}(hc:X.calm=true):bG X (.type "list") yC:=by
 intro pins s σ H vs us Q I r h;obtain⟨p,kvs,rfl,ha,hl,q⟩:=h
 cases r with
 | cons r rr=>
  cases rr;cases r;have hO:aM X.prog X.w H s.heap p (.dK kvs):=I.hok p _ ha;obtain⟨z0,lo,xs,kx,dd⟩:=id hO;obtain⟨ep,hat⟩:=dd.dictAt;refine i6 (I.ok.hd hc) lo hat (by rw [←kx.length];exact hl) λ h' tk acc c kp hget hit=>?_;have fr:=I.hok.fresh (Li _)
  have hv:aL (kvs.map λ z=>kV z.1) acc.toList:=by
   have hlen:kvs.length=xs.length:=MJ kx;refine cX (by rw [Lc,Mp,hit.1,hlen]) λ i x u hx hu=>?_;rw [Lr] at hx;obtain⟨z,hz,rfl⟩:=Lk.mp hx;obtain⟨q',hq',hk',_⟩:=ib kx hz;obtain⟨k,y,hy,his⟩:=hit.2 i u (by simpa using hu);rw [hq'] at hy;cases hy;have hk'':z.1=k:=hk';rw [hk''];exact j6 his
  refine⟨.ref s.heap.objs.size,_,I.laid (t':=tk) (o:=.lst (kvs.map λ z=>kV z.1)) kp (Li _) ⟨by rw [Lc];exact hl,acc.toList,c,hv,hget⟩,rfl,q _ _ fr (Ext.new fr) ag⟩
def dH(xs:Array Keyed)(k:Nat):Prop:=∀ i j,i < j->j < k->K xs j < K xs i
def Ed(xs:Array Keyed)(k:Nat):Prop:=k < 64\/SortedTo xs k\/dH xs k
section
variable {prog:Program}{w:World}{A:Around}{E:Value->Shared->Prop}{s:Shared}{a₀:Array Keyed}
theorem kr{st:SortSt}{n nrem:Nat}{Q:DescSt->SortSt->Prop}(h0:IntKeys a₀)(hn:nrem<=a₀.size)(h1:1<=n)(hnn:n<=nrem)(hB:SBase a₀ st)(hs:dH (arrOf st) nrem)(h:Q (none,nrem,0) st) :
  wpS (model prog w) A E s (descLoop n nrem) Q st:=by
 unfold descLoop;refine wpS_forRange (I:=λ x c st'=>st'=st/\c=(none,x,0)) ?step ?fin ⟨rfl,rfl⟩
 case fin=>
  rintro c st' ⟨rfl,rfl⟩;rw [show max n nrem=nrem by omega];exact h
 case step=>
  rintro x c st' hax hxn ⟨rfl,rfl⟩;dsimp only;refine wpS_bind (wpS_ltK hB h0 (by omega) (by omega) ?_);have hless:=hs (x - 1) x (by omega) hxn;simp only [hless,decide_true,if_true];rw [if_neg (by omega)];exact wpS_pure ⟨rfl,rfl⟩
theorem kq{st:SortSt}{nrem:Nat}{Q:Option Nat->SortSt->Prop}(h0:IntKeys a₀)(hn:nrem<=a₀.size)(hnn:2<=nrem)(hB:SBase a₀ st)(hs:dH (arrOf st) nrem)
  (h:∀ st',SBase a₀ st'->SortedTo (arrOf st') nrem->Q (some nrem) st'):wpS (model prog w) A E s (descPart 1 nrem) Q st:=by
 unfold descPart;refine wpS_bind (wpS_lift (wpAny_rule ⟨rfl,?_⟩));refine wpS_bind (kr h0 hn (by omega) hnn hB hs ?_);dsimp only;rw [if_neg (by omega)];unfold tail3;have hsz:nrem<=(arrOf st).size:=by rw [hB.size];omega
 refine NI (wpS_reverse ?_);have hB':SBase a₀ (setArr st (mirror (arrOf st) 0 nrem ((nrem - 0) / 2))):=hB.setArr (mirror_perm _ _ _ _)
 have so:SortedTo (mirror (arrOf st) 0 nrem ((nrem - 0) / 2)) nrem:=by
  intro i j hij hj;rw [K_mirror hsz,K_mirror hsz,Lo (by omega),Lo (by omega)]
  by_cases e:i=j
  ·rw [e];exact NG _
  ·exact Int.le_of_lt (hs _ _ (by omega) (by omega))
 refine NI (wpS_ascLoop h0 hn (by omega) (Li _) hB' so λ m hm1 hm2 hsm _=>?_);have em:m=nrem:=by omega
 rw [em];exact wpS_pure (h _ hB' so)
theorem ku{st:SortSt}{nrem:Nat}{Q:Option Nat->SortSt->Prop}(h0:IntKeys a₀)(hn:nrem<=a₀.size)(h1:1<=nrem)(hB:SBase a₀ st)(hs:SortedTo (arrOf st) nrem\/dH (arrOf st) nrem)
  (h:∀ st',SBase a₀ st'->SortedTo (arrOf st') nrem->Q (some nrem) st'):wpS (model prog w) A E s (countRun' 0 nrem) Q st:=by
 rw [countRun0_eq];refine wpS_bind (wpS_ascLoop h0 hn (Nat.le_refl 1) h1 hB (λ i j hij hj=>by rw [show i=j by omega];exact Int.le_refl _) λ n hn1 hn2 hsn hor=>?_);dsimp only
 by_cases hnn:n=nrem
 ·rw [Lo (by simpa using hnn),hnn];exact wpS_pure (h st hB (hnn ▸ hsn))
 ·rw [Lm (by simpa using hnn)];have hlt:K (arrOf st) n < K (arrOf st) (n - 1):=hor.resolve_left hnn
  rcases hs with hs|hs
  ·have:=hs (n - 1) n (by omega) (by omega);omega
  ·have n1:n=1:=by
    by_cases h:n=1
    ·exact h
    ·have a:=hsn 0 1 (by omega) (by omega);have b:=hs 0 1 (by omega) (by omega);omega
   subst n1;rw [Lm (by omega)];exact kq h0 hn (by omega) hB hs h
theorem lW:∀ (f n r:Nat),1<=n->n<=f->r<=1->minRun' f n r<=64
 | 0,n,r,h1,h2,_=>by omega
 | f+1,n,r,h1,h2,h3=>by
  rw [minRun'_succ];split
  ·omega
  ·exact lW f (n / 2) (max r (n % 2)) (by omega) (by omega) (by omega)
theorem fM{st:SortSt}{Q:Unit->SortSt->Prop}(h0:IntKeys a₀)(hB:SBase a₀ st)(h2:2<=a₀.size)(hE:Ed (arrOf st) a₀.size)
  (h:∀ st',(arrOf st').Perm a₀->failedOf st'=none->SortedTo (arrOf st') a₀.size->Q () st'):wpS (model prog w) A E s sortRuns' Q st:=by
 rcases Nat.lt_or_ge a₀.size 64 with h64|h64
 ·exact wpS_sortRuns h0 hB h2 h64 h
 have hE:SortedTo (arrOf st) a₀.size\/dH (arrOf st) a₀.size:=hE.resolve_left (by omega);rw [sortRuns'_eq];refine wpS_bind (wpS_get ?_);dsimp only;have hmr:minRun' a₀.size a₀.size 0<=64:=lW _ _ _ (by omega) (Nat.le_refl _) (by omega);simp only [hB.size];generalize minRun' a₀.size a₀.size 0=mr at hmr
 refine NI (wpS_mono (wpS_forRange
  (I:=λ x c st'=>(x=0/\c=(none,0)/\st'=st)\/(1<=x/\c=(none,a₀.size)/\SDone a₀ st'))
  (Q:=λ c st'=>c=(none,a₀.size)/\SDone a₀ st') ?step ?fin (.inl ⟨rfl,rfl,rfl⟩)) ?post)
 case fin=>
  rintro c st' (⟨hx,_,_⟩|⟨_,hc,hD⟩)
  ·omega
  ·exact⟨hc,hD⟩
 case step=>
  rintro x c st' _ hx (⟨rfl,rfl,rfl⟩|⟨hx1,rfl,hD⟩)
  ·dsimp only;rw [if_neg (by omega)];simp only [Nat.sub_zero,Nat.min_self,Nat.zero_add];refine wpS_bind (ku h0 (Nat.le_refl _) (by omega) hB hE λ st2 hB2 hs2=>?_);dsimp only;rw [if_neg (by omega)];refine wpS_bind (wpS_get ?_);have hb:(pendingOf st2).back? = none:=by rw [hB2.pend];rfl
   rw [hb];dsimp only;exact wpS_bind (wpS_modify (wpS_pure (.inr ⟨by omega,rfl,hB2.done hs2⟩)))
  ·dsimp only;rw [if_pos (Nat.le_refl _)];exact wpS_pure ⟨rfl,hD⟩
 case post=>
  rintro c st' ⟨rfl,hD⟩;dsimp only;refine wpS_bind (wpS_mono (wpS_forRange (I:=λ _ c st''=>st''=st'/\c=(none,())) (Q:=λ c st''=>st''=st'/\c=(none,())) ?_ (λ _ _ hh=>hh) ⟨rfl,rfl⟩) ?_)
  ·rintro x c st'' _ _ ⟨rfl,rfl⟩;refine NI (wpS_get ?_);rw [Lo (by rw [hD.2.2.1];exact Li 1)];exact wpS_pure ⟨rfl,rfl⟩
  ·rintro c st'' ⟨rfl,rfl⟩;exact wpS_pure (h _ hD.1 hD.2.1 hD.2.2.2)
def iW(ns:List Int):Prop:=ns.length < 64\/ns.Pairwise (·<=·)\/ns.Pairwise (· > ·)
theorem sX{xs:Array Keyed}{ns:List Int}(hk:xs.toList.map (λ p=>numOf p.1)=ns)(h:iW ns):Ed xs xs.size:=by
 have hl:xs.size=ns.length:=by rw [←hk];simp
 have hK:∀ i (hi:i < ns.length),K xs i=ns[i]:=λ i hi=>by
  rw [K_eq (by omega)];subst hk;simp
 rcases h with h|h|h
 ·exact .inl (by omega)
 ·refine .inr (.inl λ i j hij hj=>?_);rw [hK i (by omega),hK j (by omega)]
  rcases Nat.lt_or_ge i j with l|l
  ·exact List.pairwise_iff_getElem.mp h i j (by omega) (by omega) l
  ·have:i=j:=by omega
   subst this;exact NG _
 ·refine .inr (.inr λ i j hij hj=>?_);rw [hK i (by omega),hK j (by omega)];exact List.pairwise_iff_getElem.mp h i j (by omega) (by omega) hij
theorem iQ{a:Addr}{vs:List Value}{ns:List Int}{n:Nat}{P:Fin->Shared->Prop}(ho:s.heap.get? a=some (seqObj "list" vs.toArray n))
  (hI:IntsAre vs ns) (hz:vs.length<=sizeLine) (hE:iW ns)
  (h:∀ (out:Array Value) (ns':List Int),IntsAre out.toList ns'->ns'.Perm ns->ns'.Pairwise (·<=·)->P (.done (.ret .none)) { s with heap:=sortedHeap s.heap a vs out }) :
  wpAny (model prog w) A (Builtin.«list.sort» ⟨[.ref a],[]⟩) P E s:=by
 rw [list_sort_plain];have ha:a < s.heap.objs.size:=La ho;refine K0 (listItems_at ho rfl ?_);refine K0 (M4 ho rfl ?_ (by simpa using hz) (LD _));obtain⟨e1,ho1⟩:∃ e1,(s.heap.update a (Obj.mapSeq λ _=>#[])).get? a=some (seqObj "list" #[] e1):=⟨_,Oi ho (λ _=>#[])⟩;refine K0 (Og ho1 rfl ?_);refine K0 (N3 ?_ (by simpa using hz));refine K0 (NM ?_ (LD _));refine Mc ?_
 have ho6:(((s.heap.update a (Obj.mapSeq λ _=>#[])).push (seqObj "tuple" vs.toArray 0)).push (seqObj "list" #[] 0)).get? a=some (seqObj "list" #[] e1):=by
  rw [My _ _ _ (by rw [OD,Mh];exact Ll (LY ha)),My _ _ _ (by rw [Mh];exact Ll ha)];exact ho1
 show wpAny (model prog w) A _ P E { s with heap:=((s.heap.update a (Obj.mapSeq λ _=>#[])).push (seqObj "tuple" vs.toArray 0)).push (seqObj "list" #[] 0) }
 dsimp only;have hsz:vs.toArray.size=vs.length:=by simp
 have fin:∀ st':SortSt,(arrOf st').Perm (pairsOf vs)->SortedTo (arrOf st') (pairsOf vs).size →
   P (.done (.ret .none)) { s with heap:=sortedHeap s.heap a vs ((arrOf st').map (·.2)) }:=by
  intro st' hp hs;obtain⟨ns',h1,h2,h3⟩:=sorted_out hI hp hs;exact h _ ns' h1 h2 h3
 by_cases h2:vs.toArray.size < 2
 ·rw [if_pos h2,if_pos h2];refine wpAny_bind (wpAny_pure ?_);rw [StateT.run_pure];refine wpAny_bind (wpAny_pure ?_);dsimp only;refine wpAny_bind (seqEpoch_at ho6 rfl ?_);refine wpAny_bind (listUpdate_at ho6 rfl ?_ (Nat.zero_le _) (hsz2:=by rw [Array.size_map];show (pairsOf vs).size<=_;rw [pairsOf_size];omega));simp only [bne_self_eq_false,Bool.false_eq_true,if_false];refine wpAny_pure (fin (SortSt.mk' general' (vs.toArray.zip vs.toArray) #[] 7 none) (Array.Perm.refl _) ?_);intro i j hij hj;have:i=j:=by rw [pairsOf_size] at hj;omega
  subst this;exact NG _
 ·rw [Lm h2,Lm h2]
  obtain⟨v₁,v₂,eO,rfl⟩:∃ v₁ v₂ eO,vs=v₁::v₂::eO:=by
   match vs,hsz,h2 with
   | [],_,h2=>simp at h2
   | [_],_,h2=>simp at h2
   | v₁::v₂::eO,_,_=>exact⟨v₁,v₂,eO,rfl⟩
  rw [keyKind_ints hI];refine K0 (Lf ?_)
  have hnum:(pairsOf (v₁::v₂::eO)).toList.map (λ p=>numOf p.1)=ns:=by
   rw [pairsOf_toList]
   have e:∀ l:List Value,(l.zip l).map (λ p=>numOf p.1)=l.map numOf:=λ l=>by
    have:(l.zip l).map (λ p=>numOf p.1)=((l.zip l).map Prod.fst).map numOf:=by rw [LV];rfl
    rw [this,OS (Li _)]
   rw [e];exact hI.nums
  refine K0 (Ng (fM (a₀:=pairsOf (v₁::v₂::eO)) (st:=SortSt.mk' oneType' ((v₁::v₂::eO).toArray.zip (v₁::v₂::eO).toArray) #[] 7 none)
   (Q:=λ _ st'=>(arrOf st').Perm (pairsOf (v₁::v₂::eO))/\failedOf st'=none/\SortedTo (arrOf st') (pairsOf (v₁::v₂::eO)).size)
   hI.intKeys ⟨NH _,rfl,rfl,rfl⟩ (by rw [pairsOf_size];simp) (sX hnum hE) λ st' a1 a2 a3=>⟨a1,a2,a3⟩) ?_ λ _ _ e=>e)
  rintro ⟨⟨⟩,st'⟩ s' ⟨rfl,hp,hf,hs⟩;dsimp only;refine wpAny_bind (seqEpoch_at ho6 rfl ?_);refine wpAny_bind (listUpdate_at ho6 rfl ?_ (Nat.zero_le _) (hsz2:=by refine Nat.le_trans (Nat.le_of_eq ((Array.size_map ..).trans (hp.size_eq.trans (pairsOf_size _)))) ?_;omega));rw [hf];simp only [bne_self_eq_false,Bool.false_eq_true,if_false];exact wpAny_pure (fin st' hp hs)
end
def DH:List V->Hp->VK->Prop:=λ vs H Q=>∃ p kvs ns,vs=[.ref p]/\H p=some (.dK kvs)/\kvs.map (·.1)=ns.map (Sum.inl:Int->Key)/\ns.length<=sizeLine/\iW ns/\∀ ms:List Int,ms.Perm ns->ms.Pairwise (·<=·)->gN (.lst (ms.map V.int)) H Q
theorem wd{p:Addr}{kvs:List (Key × V)}{ns:List Int}{H:Hp}{Q:VK}(e:H p=some (.dK kvs))(hk:kvs.map (·.1)=ns.map (Sum.inl:Int->Key))(hl:ns.length<=sizeLine)(hE:iW ns)(q:∀ ms:List Int,ms.Perm ns->ms.Pairwise (·<=·)->gN (.lst (ms.map V.int)) H Q):DH [.ref p] H Q:=⟨p,kvs,ns,rfl,e,hk,hl,hE,q⟩
section
variable {X:Cx}
theorem qK(hc:X.calm=true):bG X (.builtin "sorted") DH:=by
 intro pins s σ H vs us Q I r h;obtain⟨p,kvs,ns,rfl,e,hk,hl,hE,q⟩:=h
 cases r with
 | cons r rr=>
  cases rr;cases r;obtain⟨z,hd,xs,rel,dd⟩:=vU I.hok e;obtain⟨ep,hat⟩:=dd.dictAt;have hlen:kvs.length=xs.length:=MJ rel;have hln:xs.length=ns.length:=by rw [←hlen];have:=Mt List.length hk;simpa using this
  refine Calls.call_function_entry kind_sorted plain_sorted entry_sorted (args_sorted1 _) ?_;unfold Builtin.«sorted»;refine wpAny_bind (m:=checkCount "sorted" 1 1 _) (wpAny_pure ?_);refine wpAny_bind (W.kdu_collect (A:=X.A.in1) (W.kdl_dict (knd:=aw X.prog X.w) (kvs:=xs) (ep:=ep) hd) (show X.A.in1.handled=none from I.ok.hd hc) hat (by omega) λ h' tk acc kp hacc=>?_);have hal:acc.toList.length=ns.length:=by rw [Array.length_toList,hacc.1,hln]
  have hI:IntsAre acc.toList ns:=by
   refine iK hal λ i u hu=>?_;obtain⟨k,x,hx,hku⟩:=hacc.2 i u (by simpa using hu);have hi:i < kvs.length:=by rw [hlen];exact(Lb.mp hx).1
   have h1:kvs[i]? = some kvs[i]:=K1 hi;obtain⟨w',hw',rw'⟩:=jl rel h1;rw [hx] at hw';cases hw';have h2:(kvs.map (·.1))[i]? = some k:=by rw [Lr,h1];exact Mt some rw'.1
   rw [hk,Lr] at h2;obtain⟨n,hn,rfl⟩:=Lk.mp h2
   rcases aE (show lh (Sum.inl n) u=true from hku) with ⟨j,t,e1,e2⟩|⟨j,t,e1,e2⟩
   ·cases e1;exact⟨n,t,hn,e2⟩
   ·cases e1
  refine K0 (NM ?_ (by rw [hal];exact hl));have hoL:(h'.push (seqObj "list" acc.toList.toArray 0)).get? h'.objs.size=some (seqObj "list" acc.toList.toArray 0):=Lh _ rfl;refine K0 (Mc (Mu slot_list_sort ⟨_,hoL,rfl⟩ entry_list_sort (iQ hoL hI (by rw [hal];exact hl) hE λ out ns' a1 a2 a3=>⟨_,rfl,?_⟩) (args_list_sort _)));refine Lf ⟨_,rfl,?_⟩;have I2:Inv X pins σ H { s with heap:=h',toks:=tk }:=I.kept (t':=tk) kp;have fr:=I2.hok.fresh (Li _);obtain⟨e',he'⟩:=sortedHeap_at (out:=out) hoL;refine⟨.ref h'.objs.size,_,I2.laid (t':=tk) (h':=sortedHeap (h'.push (seqObj "list" acc.toList.toArray 0)) h'.objs.size acc.toList out) (o:=.lst (ns'.map V.int)) (λ b u hb=>?_) (Li _) ⟨?_,out.toList,e',gv a1,?_⟩,rfl,q ns' a2 a3 _ _ fr (Ext.new fr) ag⟩
  ·have hb':h'.get? b=some u:=hb;have hlt:=La hb';rw [sortedHeap_old (Ll hlt) (by rw [OD];exact LY hlt)];exact K2 _ hb'
  ·rw [Lc,a2.length_eq];exact hl
  ·rw [Array.toArray_toList];exact he'
end
theorem jk{α β:Type}{f:α->β}{ps l:List β}(h:ps.Perm l):∀ T:List α,l=T.map f->∃ T':List α,T'.Perm T/\ps=T'.map f:=by
 induction h with
 | nil=>intro T e;exact⟨T,.refl _,e⟩
 | cons x _ ih=>
  intro T e
  cases T with
  | nil=>cases e
  | cons y T=>
   rw [LH] at e;obtain⟨rfl,e2⟩:=Ml e;obtain⟨T',p,q⟩:=ih T e2;exact⟨y::T',p.cons y,by rw [q,LH]⟩
 | swap x y l=>
  intro T e
  match T,e with
  | u::v::T,e=>
   rw [LH,LH] at e;obtain⟨rfl,e2⟩:=Ml e;obtain⟨rfl,rfl⟩:=Ml e2;exact⟨v::u::T,.swap u v T,rfl⟩
 | trans _ _ ih1 ih2=>
  intro T e;obtain⟨T1,p1,q1⟩:=ih2 T e;obtain⟨T2,p2,q2⟩:=ih1 T1 q1;exact⟨T2,p2.trans p1,q2⟩
theorem tY{ks:List Int}{xs:List V}{its:List Value}(hv:aL xs its)(hk:ks.length=xs.length){ps:List (Int × Value)}(hp:ps.Perm (ks.zip its)):∃ out:List (Int × V),out.Perm (ks.zip xs)/\out.map (·.1)=ps.map (·.1)/\aL (out.map (·.2)) (ps.map (·.2)):=by
 have hl:=hv.length
 have e1:ks.zip its=(ks.zip (xs.zip its)).map λ t=>(t.1,t.2.2):=by
  refine Oj (by simp;omega) λ i h1 h2=>?_;simp
 have e2:ks.zip xs=(ks.zip (xs.zip its)).map λ t=>(t.1,t.2.1):=by
  refine Oj (by simp;omega) λ i h1 h2=>?_;simp
 obtain⟨T',p1,rfl⟩:=jk hp _ e1;refine⟨T'.map λ t=>(t.1,t.2.1),?_,?_,?_⟩
 ·rw [e2];exact p1.map _
 ·rw [LV,LV];rfl
 ·rw [LV,LV];refine cX (by simp) λ i x u hx hu=>?_;rw [Lr] at hx hu;obtain⟨t,ht,rfl⟩:=Lk.mp hx;rw [ht] at hu;cases hu;have hm:t∈ks.zip (xs.zip its):=p1.mem_iff.mp (Ly ht);have hm2:t.2∈xs.zip its:=(Oa (show (t.1,t.2)∈ks.zip (xs.zip its) from hm)).2;obtain⟨j,hj,ej⟩:=Mr hm2;have hz:(xs.zip its)[j]? = some t.2:=by rw [K1 hj,ej]
  obtain⟨g1,g2⟩:=MF.mp hz;obtain⟨u',hu',ru⟩:=hv.get g1;rw [g2] at hu';cases hu';exact ru
def DG(f:Addr)(sp:Sp):List V->List V->Hp->VK->Prop:=λ vs zs H Q=>∃ (p:Addr) (xs:List V) (ks:List Int),vs=[.ref p]/\zs=[.ref f]/\H p=some (.lst xs)/\ks.length=xs.length/\iW ks/\(∀ (i:Nat) (x:V) (k:Int),xs[i]? = some x->ks[i]? = some k->∀ (Q':VK) (E:XK),Q' (.int k) H->sp [x] H Q' E)/\∀ out:List (Int × V),out.Perm (ks.zip xs)->out.Pairwise (λ a b=>a.1<=b.1)->gN (.lst (out.map (·.2))) H Q
theorem wb{f:Addr}{sp:Sp}{p:Addr}{xs:List V}(ks:List Int){H:Hp}{Q:VK}(e:H p=some (.lst xs))(hk:ks.length=xs.length)(hE:iW ks)(hs:∀ (i:Nat) (x:V) (k:Int),xs[i]? = some x->ks[i]? = some k->∀ (Q':VK) (E:XK),Q' (.int k) H->sp [x] H Q' E)(q:∀ out:List (Int × V),out.Perm (ks.zip xs)->out.Pairwise (λ a b=>a.1<=b.1)->gN (.lst (out.map (·.2))) H Q):DG f sp [.ref p] [.ref f] H Q:=⟨p,xs,ks,rfl,rfl,e,hk,hE,hs,q⟩
section
variable {X:Cx}{k:Nat}{f:Addr}{fd:FuncData}{ps:List Str}{sp:Sp}
theorem En{A:Around}{pins:List (Addr × Obj)}{σ:St}{H:Hp}{s:Shared}{Q:VK}{us:List Value}{vs:List V}{E:XK}{E':Value->Shared->Prop}(F:bj X.prog X.w X.K X.mg X.base CX0 k f fd ps sp)(hr:fA k A)(he:qX X.prog X.w X.K X.mg X.base A X.stack s H)(hb:au X.K fd ps [])
  (I:Inv X pins σ H s) (r:aL vs us) (h:sp vs H Q E):wpAny (model X.prog X.w) A (call (.ref f) us) (EP X pins σ Q) E' s:=by
 have hl:us.length=ps.length:=by rw [←r.length];exact F.len _ _ _ _ h
 have hb':=hb s us I.kIn (by rw [NB];exact hl);rw [NB] at hb';refine wpAny_call (ND (F.run A X.stack s H ⟨us,[]⟩ us vs Q E hr he hb' r h) λ r s' hq=>?_)
 cases r with
 | error e=>exact False.elim hq
 | ok fl=>
  cases fl with
  | ret u=>exact I.after hq
  | next=>exact False.elim hq
  | brk=>exact False.elim hq
  | cont=>exact False.elim hq
theorem qJ(F:bj X.prog X.w X.K X.mg X.base CX0 k f fd ps sp)(hr:fA (k+2) X.A)(hb:au X.K fd ps []):yU X (.builtin "sorted") ["key"] (DG f sp):=by
 intro pins s σ H vs us zs ws Q I r rz h;obtain⟨p,xs,ks,rfl,rfl,e,hkl,hE,hs,q⟩:=h
 cases rz with
 | cons rb rz=>
 cases rz;cases rb
 cases r with
 | cons r rr=>
 cases rr;cases r;obtain⟨hz,its,n,r',hlen,hg⟩:=I.lstM e;have hit:its.length<=sizeLine:=by omega
 show wpAny (model X.prog X.w) X.A (call (.builtin "sorted") [.ref p] [(Str.ofString "key",.ref f)]) _ _ _
 refine call_function_entry_kw kind_sorted plain_sorted entry_sorted (ksk_s1 _ _) ?_;unfold Builtin.«sorted»;refine wpAny_bind (m:=checkCount "sorted" 1 1 _) (wpAny_pure ?_);refine wpAny_bind (collect_list (vs:=its) ⟨_,hg,rfl,n,rfl⟩ ?_ hit);refine wpAny_bind (wpAny_newList ?_ hit)
 have hsz:((s.heap.push (seqObj "list" #[] 0)).update s.heap.objs.size (Obj.mapSeq (· ++ its.toArray))).objs.size=s.heap.objs.size+1:=by
  rw [Mh,OD]
 have hoL:(((s.heap.push (seqObj "list" #[] 0)).update s.heap.objs.size (Obj.mapSeq (· ++ its.toArray))).push (seqObj "list" its.toArray 0)).get? (s.heap.objs.size+1)=some (seqObj "list" its.toArray 0):=by
  rw [←hsz];exact Lh _ rfl
 have keep:∀ b o,s.heap.get? b=some o->(((s.heap.push (seqObj "list" #[] 0)).update s.heap.objs.size (Obj.mapSeq (· ++ its.toArray))).push (seqObj "list" its.toArray 0)).get? b=some o:=λ b o q=>by
  have hlt:b < s.heap.objs.size:=La q;rw [My _ _ _ (by rw [hsz];exact Ll (LY hlt)),Mj _ _ _ _ (Ll hlt),My _ _ _ (Ll hlt)];exact q
 show wpAny _ _ _ _ _ { s with heap:=((s.heap.push (seqObj "list" #[] 0)).update s.heap.objs.size (Obj.mapSeq (· ++ its.toArray))).push (seqObj "list" its.toArray 0) }
 rw [hsz];have fpA:k9 X pins H (s.heap.objs.size+1):=I.fpOk (MB _) (I.hok.fresh (MB _));have nwA:rE X pins (s.heap.objs.size+1):=I.newAt (MB _);have I1:=I.kept (t':=s.toks) keep;generalize ((s.heap.push (seqObj "list" #[] 0)).update s.heap.objs.size (Obj.mapSeq (· ++ its.toArray))).push (seqObj "list" its.toArray 0)=h1 at hoL keep I1;generalize s.heap.objs.size+1=a at hoL fpA nwA;have ha:a < h1.objs.size:=La hoL;refine K0 (Mc (wpAny_call_entry_kw slot_list_sort ⟨_,hoL,rfl⟩ entry_list_sort ?body (ksk_l1 _ _)))
 show wpAny (model X.prog X.w) X.A.in1.in1 (Builtin.«list.sort» ⟨[.ref a],[(Str.ofString "key",.ref f)]⟩) _ _ _
 rw [ksk_t1];unfold ksk_tree;obtain⟨e1,ho1⟩:∃ e1,(h1.update a (Obj.mapSeq λ _=>(#[]:Array Value))).get? a=some (seqObj "list" #[] e1):=⟨_,get?_update_seq hoL λ _=>#[]⟩;refine wpAny_bind (listItems_at hoL rfl ?_);refine wpAny_bind (listUpdate_at hoL rfl ?_ (by rw [size_toArray];exact hit) (Nat.zero_le _));refine wpAny_bind (seqEpoch_at ho1 rfl ?_);refine wpAny_bind (wpAny_newTuple ?_ hit);refine wpAny_bind (wpAny_newList ?_ (Nat.zero_le _));refine wpAny_holding ?_;have kS1:((h1.update a (Obj.mapSeq λ _=>(#[]:Array Value))).push (seqObj "tuple" its.toArray 0)).objs.size=h1.objs.size+1:=by rw [size_push',Heap.size_update]
 have I2:Inv X pins σ H { s with heap:=((h1.update a (Obj.mapSeq λ _=>(#[]:Array Value))).push (seqObj "tuple" its.toArray 0)).push (seqObj "list" #[] 0),toks:=s.toks }:=by
  obtain⟨f0,f1,f2,f3,f4,f5⟩:=fpA;refine Inv.turned (s:={ s with heap:=h1,toks:=s.toks }) (t':=s.toks) (it:=a) I1 (λ b o hb q=>?_) f0 f1 f3 f4 f5;refine K2 _ (K2 _ ?_);rw [Mj _ _ _ _ hb];exact q
 have hoA:(((h1.update a (Obj.mapSeq λ _=>(#[]:Array Value))).push (seqObj "tuple" its.toArray 0)).push (seqObj "list" #[] 0)).get? a=some (seqObj "list" #[] e1):=K2 _ (K2 _ ho1);have hoK:(((h1.update a (Obj.mapSeq λ _=>(#[]:Array Value))).push (seqObj "tuple" its.toArray 0)).push (seqObj "list" #[] 0)).get? (h1.objs.size+1)=some (seqObj "list" #[] 0):=by rw [←kS1];exact Lh _ rfl
 have fpK:k9 X pins H (h1.objs.size+1):=I1.fpOk (MB _) (I1.hok.fresh (MB _));have hka:h1.objs.size+1 ≠ a:=LS (LY ha)
 show wpAny (model X.prog X.w) X.A.in1.in1 (ksk_rest a (.ref f) false its.toArray e1 (.ref ((h1.update a (Obj.mapSeq λ _=>(#[]:Array Value))).push (seqObj "tuple" its.toArray 0)).objs.size)) _ _ { s with heap:=((h1.update a (Obj.mapSeq λ _=>(#[]:Array Value))).push (seqObj "tuple" its.toArray 0)).push (seqObj "list" #[] 0) }
 rw [kS1];generalize ((h1.update a (Obj.mapSeq λ _=>(#[]:Array Value))).push (seqObj "tuple" its.toArray 0)).push (seqObj "list" #[] 0)=h2 at I2 hoA hoK;generalize h1.objs.size+1=kS at fpK hka hoK;clear kS1 ho1 hoL keep I1 ha
 have pin:∀ {s':Shared} {kA:Array Value} {c:Nat},Inv X pins σ H s'->s'.heap.get? kS=some (seqObj "list" kA c)->s'.heap.get? a=some (seqObj "list" #[] e1)->Inv X (pins++[(kS,seqObj "list" kA c),(a,seqObj "list" #[] e1)]) σ H s':=λ {s' kA c} I' g1 g2=>
  I'.pins_of λ p hp=>by
   rcases LJ.mp hp with hp|hp
   ·exact I'.pin p (Lw _ hp)
   ·rcases Lz.mp hp with rfl|hp
    ·exact⟨g1,fpK.1,fpK.2.1,fpK.2.2.1,λ v z=>by cases z⟩
    ·rw [Lq.mp hp];exact⟨g2,fpA.1,fpA.2.1,fpA.2.2.1,λ v z=>by cases z⟩
 unfold ksk_rest;refine wpAny_bind (wpAny_rule ?_)
 first
  | rw [OC]
  | (rw [←Array.forIn_toList];simp only [List.toList_toArray])
  | rw [←Array.forIn_toList]
 refine K0 (ksk_fold (λ i s'=>∃ kA c,Inv X (pins++[(kS,seqObj "list" kA c),(a,seqObj "list" #[] e1)]) σ H s'/\IntsAre kA.toList (ks.take i)) its 0 _ ⟨#[],0,pin I2 hoK hoA,by simpa using IntsAre.nil⟩ ?step ?done)
 case step=>
  rintro j x s' hx ⟨kA,c,I3,hk⟩;simp only [Nat.zero_add] at hk ⊢;have hj:j < its.length:=(Lb.mp hx).1;obtain⟨k,hkj⟩:∃ k,ks[j]? = some k:=⟨_,K1 (by omega)⟩;obtain⟨y,hy⟩:∃ y,xs[j]? = some y:=⟨_,K1 (by omega)⟩;obtain⟨u',hu',ru⟩:=r'.get hy;rw [hx] at hu';cases hu'
  have hzk:kA.size<=its.length:=by
   have h1:=hk.length;rw [Mp,Mi] at h1;omega
  refine wpAny_bind (wpAny_attempt (wpAny_mono (En (A:=X.A.in1.in1) (E:=λ _ _ _=>True) (Q:=λ v H'=>v=.int k/\H'=H) F (hr.in1.in1) I3.env0.in1.in1 hb I3 (.cons ru .nil) (hs j y k hy hkj _ _ ⟨rfl,rfl⟩)) (λ v s'' he=>?_) λ _ _ hF=>hF));obtain⟨v',H',I4,rv,rfl,rfl⟩:=he;obtain⟨t2,rfl⟩:=(show ∃ t,v=.int k t from rv);dsimp only;have nk:=(I4.pin (kS,seqObj "list" kA c) (mem_append_right _ (mem_append_right _ (.head _)))).1;have na:=(I4.pin (a,seqObj "list" #[] e1) (mem_append_right _ (mem_append_right _ (.tail _ (.head _))))).1;have I5:=I4.unpinned;obtain⟨c2,hc2⟩:∃ c2,(s''.heap.update kS (Obj.mapSeq (·.push (.int k t2)))).get? kS=some (seqObj "list" (kA.push (.int k t2)) c2):=⟨_,get?_update_seq nk (·.push (.int k t2))⟩;have ek:ks.take (j+1)=ks.take j++[k]:=by rw [take_add_one,hkj];simp
  have ea:(kA.push (Value.int k t2)).toList=kA.toList++[Value.int k t2]:=by simp
  refine K0 (M4 nk rfl ?_ (by omega) (LU (OO (Array.size_push ..)) (by omega)));obtain⟨f0,f1,f2,f3,f4,f5⟩:=fpK;have I6:=I5.turned (t':=s''.toks) (it:=kS) (h':=s''.heap.update kS (Obj.mapSeq (·.push (.int k t2)))) (λ b o hb q=>by rw [Mj _ _ _ _ hb];exact q) f0 f1 f3 f4 f5;refine Lf ⟨rfl,kA.push (.int k t2),c2,pin I6 hc2 (by show (s''.heap.update kS _).get? a=_;rw [Mj _ _ _ _ hka.symm];exact na),by rw [ea,ek];exact ksk_snoc hk⟩
 case done=>
  rintro s' ⟨kA,c,I3,hk⟩
  have hk':IntsAre kA.toList ks:=by
   have e3:ks.take (0+its.length)=ks:=Mx (by omega);rw [e3] at hk;exact hk
  have nk:=(I3.pin (kS,seqObj "list" kA c) (Lw _ (Lw _ (.head _)))).1;have na:=(I3.pin (a,seqObj "list" #[] e1) (Lw _ (Lw _ (.tail _ (.head _))))).1;have I4:=I3.unpinned
  have hks:kA.size=its.length:=by
   have h1:=hk'.length;rw [Mp] at h1;omega
  have hzs:(kA.zip its.toArray).size=its.length:=by rw [Array.size_zip,hks,LC,Nat.min_self]
  refine K0 (listItems_at nk rfl ?_)
  have fin:∀ (P':PySem.Fin->Shared->Prop) (E':Value->Shared->Prop),(∀ s2,EP X pins σ Q (.ref a) s2->P' (.done (.ret .none)) s2)->∀ st:SortSt,(arrOf st).Perm (kA.zip its.toArray)->SortedTo (arrOf st) (arrOf st).size->failedOf st=none->wpAny (model X.prog X.w) X.A.in1.in1 (ksk_tail a false e1 (.ref kS) st) P' E' s':=by
   intro P' E' hP st hp hso hfl;have ho:=ksk_out (b:=false) hk' hp hso;rw [Lm Lx] at ho;obtain⟨pv,p1,p2,p3⟩:=ho;obtain⟨out,q1,q2,q3⟩:=tY r' hkl p1;have hsz2:(arrOf st).size=its.length:=by rw [hp.size_eq,hzs]
   have hout:((arrOf st).map (·.2)).size=its.length:=by rw [Array.size_map];exact hsz2
   have na1:(s'.heap.update kS (Obj.mapSeq λ _=>(#[]:Array Value))).get? a=some (seqObj "list" #[] e1):=by rw [Mj _ _ _ _ hka.symm];exact na
   obtain⟨c2,hc2⟩:∃ c2,((s'.heap.update kS (Obj.mapSeq λ _=>(#[]:Array Value))).update a (Obj.mapSeq λ _=>(arrOf st).map (·.2))).get? a=some (seqObj "list" ((arrOf st).map (·.2)) c2):=
    ⟨_,Oi na1 λ _=>(arrOf st).map (·.2)⟩
   unfold ksk_tail;dsimp only;refine wpAny_bind (listUpdate_at nk rfl ?_ (by omega) (Nat.zero_le _));refine wpAny_bind (wpAny_letGo ?_);refine wpAny_bind (seqEpoch_at na1 rfl ?_);simp only [Bool.false_eq_true,if_false];refine wpAny_bind (listUpdate_at na1 rfl ?_ (Nat.zero_le _) (by omega));rw [hfl];simp only [bne_self_eq_false,Bool.false_eq_true,if_false];obtain⟨f0,f1,f2,f3,f4,f5⟩:=fpK;have I6:=I4.turned (t':=s'.toks) (it:=kS) (h':=s'.heap.update kS (Obj.mapSeq λ _=>(#[]:Array Value))) (λ b o hb q=>by rw [Heap.get?_update_ne _ _ _ _ hb];exact q) f0 f1 f3 f4 f5;obtain⟨f0,f1,f2,f3,f4,f5⟩:=fpA;have I7:=I6.turned (t':=s'.toks) (it:=a) (h':=(s'.heap.update kS (Obj.mapSeq λ _=>(#[]:Array Value))).update a (Obj.mapSeq λ _=>(arrOf st).map (·.2))) (λ b o hb q=>by rw [Heap.get?_update_ne _ _ _ _ hb];exact q) f0 f1 f3 f4 f5;have hlo:(out.map (·.2)).length<=sizeLine:=by rw [length_map,q1.length_eq,List.length_zip];omega
   refine Lf (hP _ ⟨.ref a,_,I7.adopt nwA f0 (o:=.lst (out.map (·.2))) ⟨hlo,((arrOf st).map (·.2)).toList,c2,by rw [p2];exact q3,by rw [Array.toArray_toList];exact hc2⟩,rfl,q out q1 ?_ _ _ f0 (Ext.new f0) ag⟩);have e4:∀ {α:Type} (l:List (Int × α)),l.Pairwise (λ a b=>a.1<=b.1) ↔ (l.map (·.1)).Pairwise (·<=·):=λ l=>by rw [Ms]
   rw [e4,q2,←e4]
   simpa using p3
  unfold ksk_end;dsimp only;simp only [Bool.false_eq_true,if_false]
  by_cases h2:its.toArray.size < 2
  ·rw [if_pos h2,if_pos h2];refine wpAny_bind (wpAny_pure ?_);rw [StateT.run_pure];refine wpAny_bind (wpAny_pure ?_);dsimp only;refine fin _ _ (λ s2 hq=>⟨_,rfl,wpAny_pure ⟨_,rfl,hq⟩⟩) (SortSt.mk' general' (kA.zip its.toArray) #[] 7 none) (Array.Perm.refl _) ?_ rfl;intro i j hij hj;have hj2:j < (kA.zip its.toArray).size:=hj;rw [hzs] at hj2;rw [size_toArray] at h2;have:i=j:=by omega
   subst this;exact NG _
  ·rw [Lm h2,Lm h2];rw [LC] at h2;rw [ksk_kind hk' (by omega)];refine K0 (Lf ?_)
   have hnum:(kA.zip its.toArray).toList.map (λ p=>numOf p.1)=ks:=by
    rw [ksk_zip];have:(kA.toList.zip its).map (λ p=>numOf p.1)=((kA.toList.zip its).map Prod.fst).map numOf:=by rw [LV];rfl
    rw [this,OS (by rw [Mp];omega)];exact hk'.nums
   refine K0 (Ng (fM (a₀:=kA.zip its.toArray) (st:=SortSt.mk' oneType' (kA.zip its.toArray) #[] 7 none)
    (Q:=λ _ st'=>(arrOf st').Perm (kA.zip its.toArray)/\failedOf st'=none/\SortedTo (arrOf st') (kA.zip its.toArray).size)
    (ksk_intKeys hk') ⟨NH _,rfl,rfl,rfl⟩ (by rw [hzs];omega) (sX hnum hE) λ st' a1 a2 a3=>⟨a1,a2,a3⟩) ?_ λ _ _ e=>e)
   rintro ⟨⟨⟩,st'⟩ s'' ⟨rfl,hp,hf,hso⟩;dsimp only;exact fin _ _ (λ s2 hq=>⟨_,rfl,wpAny_pure ⟨_,rfl,hq⟩⟩) st' hp (by rw [hp.size_eq];exact hso) hf
end
def b7{α:Type}(n:Nat)(R:α->Prop):W.KasT α->Prop
 | .ret a=>R a
 | .ask i j k=>i < n/\j < n/\∀ b,b7 n R (k b)
theorem b7.bind{α β:Type}{n:Nat}{R:α->Prop}{R':β->Prop}{f:α->W.KasT β}(h:∀ a,R a->b7 n R' (f a)):∀ t:W.KasT α,b7 n R t->b7 n R' (t.bind f)
 | .ret a,q=>h a q
 | .ask i j k,q=>⟨q.1,q.2.1,λ b=>b7.bind h (k b) (q.2.2 b)⟩
theorem b7.run{α:Type}{n:Nat}{R:α->Prop}{cmp:Nat->Nat->(Bool->Shared->Prop)->Shared->Prop}{Q:α->Shared->Prop}{s:Shared}(hc:∀ i j C,i < n->j < n->(∀ b,C b s)->cmp i j C s)(hq:∀ a,R a->Q a s):∀ t:W.KasT α,b7 n R t->t.kasWp cmp Q s
 | .ret a,q=>hq a q
 | .ask i j k,q=>hc i j _ q.1 q.2.1 λ b=>b7.run hc hq (k b) (q.2.2 b)
def cj(n:Nat)(p:Array Nat):Prop:=p.Perm (List.toArray (List.range n))
theorem cj.lt{n:Nat}{p:Array Nat}(h:cj n p)(h0:0 < n)(k:Nat):p.getD k 0 < n:=by
 by_cases hk:k < p.size
 ·have e:p.getD k 0=p[k]:=by simp [Array.getD,hk]
  have hm:p[k]∈p.toList:=by simp
  have:=(NJ.mp h).mem_iff.mp hm;rw [e]
  simpa using this
 ·have e:p.getD k 0=0:=by simp [Array.getD,hk]
  rw [e];exact h0
theorem cj.rev{n:Nat}{p:Array Nat}(h:cj n p)(i j:Nat):cj n (W.kas_rev p i j):=(mirror_perm _ _ _ _).trans h
section
variable {n:Nat}(h0:0 < n)
include h0
theorem nS{p:Array Nat}(hp:cj n p):∀ f m:Nat,b7 n (λ _=>True) (W.kas_asc p f m)
 | 0,m=>trivial
 | f+1,m=>⟨hp.lt h0 _,hp.lt h0 _,λ b=>by
  cases b
  ·exact nS hp f (m+1)
  ·exact trivial⟩
theorem gX:∀ (f:Nat) (p:Array Nat) (m q:Nat),cj n p->b7 n (λ r=>cj n r.1) (W.kas_desc f p m q)
 | 0,p,m,q,hp=>hp
 | f+1,p,m,q,hp=>⟨hp.lt h0 _,hp.lt h0 _,λ b=>by
  cases b
  ·exact⟨hp.lt h0 _,hp.lt h0 _,λ d=>by
    cases d
    ·exact gX f p (m+1) (q+1) hp
    ·exact hp⟩
  ·show b7 n _ (if q > 0 then _ else _)
   split
   ·exact gX f _ (m+1) 0 (hp.rev _ _)
   ·exact gX f p (m+1) 0 hp⟩
theorem mF(m k:Nat){p:Array Nat}(hp:cj n p):b7 n (λ r:Nat × Array Nat=>cj n r.2) (W.kas_tail3 m k p):=by
 refine b7.bind (λ a _=>?_) _ (nS h0 (hp.rev 0 m) _ _);exact hp.rev 0 m
theorem gB(m k:Nat){p:Array Nat}(hp:cj n p):b7 n (λ r:Nat × Array Nat=>cj n r.2) (W.kas_descPart m k p):=by
 refine b7.bind (λ r hr=>?_) _ (gX h0 _ _ _ _ hp);split
 ·exact mF h0 _ _ (hr.rev _ _)
 ·exact mF h0 _ _ hr
theorem vB(k:Nat){p:Array Nat}(hp:cj n p):b7 n (λ r:Nat × Array Nat=>cj n r.2) (W.kas_count k p):=by
 refine b7.bind (λ m _=>?_) _ (nS h0 hp _ _);split
 ·exact hp
 ·split
  ·exact⟨hp.lt h0 _,hp.lt h0 _,λ b=>by
    cases b
    ·exact gB h0 _ _ (hp.rev _ _)
    ·exact hp⟩
  ·exact gB h0 _ _ hp
theorem iC{p:Array Nat}(hp:cj n p)(k:Nat):∀ f l r:Nat,b7 n (λ _=>True) (W.kas_place p k f l r)
 | 0,l,r=>trivial
 | f+1,l,r=>by
  unfold W.kas_place;split
  ·exact trivial
  ·exact⟨hp.lt h0 _,hp.lt h0 _,λ b=>by
    cases b
    ·exact iC hp k f _ _
    ·exact iC hp k f _ _⟩
theorem tM:∀ (f:Nat) (p:Array Nat) (k:Nat),cj n p->b7 n (cj n) (W.kas_bin f p k)
 | 0,p,k,hp=>hp
 | f+1,p,k,hp=>b7.bind (λ l _=>tM f _ (k+1) ((bubble_perm _ _ _).trans hp)) _ (iC h0 hp k k 0 k)
theorem yl:b7 n (cj n) (W.kas_sort n):=by
 refine b7.bind (λ r hr=>?_) _ (vB h0 n (NH _));split
 ·exact tM h0 _ _ _ hr
 ·exact hr
end
def ni(h:Heap)(vs:List Value):Prop:=∀ v∈vs,∃ a o n i j t u,v=.ref a/\h.get? a=some o/\o.cls=.type "tuple" /\ o.data=.seq #[.int i t,.int j u] n
theorem ni.kat{h:Heap}:∀ {vs:List Value},ni h vs->∃ fs,W.KatTups h vs fs/\fs.length=vs.length/\∀ v∈fs,∃ i t,v=Value.int i t
 | [],_=>⟨[],.nil,rfl,λ _ h=>absurd h Ld⟩
 | v::vs,q=>by
  obtain⟨fs,k1,k2,k3⟩:=ni.kat (vs:=vs) λ v hv=>q v (Lg _ hv);obtain⟨a,o,n,i,j,t,u,rfl,ho,hc,hd⟩:=q v Lj;refine⟨.int i t::fs,.cons ho hc hd rfl k1,by rw [LR,LR,k2],λ w hw=>?_⟩
  rcases Lz.mp hw with rfl|hw
  ·exact⟨i,t,rfl⟩
  ·exact k3 w hw
section
variable {prog:Program}{w:World}{A:Around}{E:Value->Shared->Prop}{s:Shared}
theorem AB{vs:List Value}(q:ni s.heap vs)(b:Bool)(i j:Nat)(C:Bool->Shared->Prop)(hi:i < vs.length)(hj:j < vs.length)(h:∀ b,C b s):W.kas_ask prog w A (tuples' b) vs i j C s:=by
 unfold W.kas_ask;rw [show vs.getD i Value.none=vs[i] by simp [hi],show vs.getD j Value.none=vs[j] by simp [hj]];obtain⟨a,o,n,x,y,t,u,e1,ho,hc,hd⟩:=q vs[i] (getElem_mem hi);obtain⟨a',o',n',x',y',t',u',e2,ho',hc',hd'⟩:=q vs[j] (getElem_mem hj);rw [e1,e2]
 have one:∀ (c:Bool) (x y:Int) (t u:Tok),wpAny (model prog w) A (oneLt' c (.int x t) (.int y u)) C (λ _ _=>False) s:=by
  intro c x y t u;cases c
  ·exact W.kat_one _ _ (lt_int (show W.BoolBack C (.bool _) s from h _))
  ·exact oneLt_int (h _)
 refine W.kat_lt ho hd ho' hd' ?_
 show W.KatLex prog w A b _ C [(.int x t,.int x' t'),(.int y u,.int y' u')] 0 s
 refine W.kat_cons (wpAny_eqBool_int (W.kat_go (λ _=>W.kat_yes (W.kat_cons (wpAny_eqBool_int (W.kat_go (λ _=>W.kat_yes (W.kat_nil (h _))) λ _=>W.kat_no (one _ _ _ _ _))))) λ _=>W.kat_no (one _ _ _ _ _)))
def nG(H:Hp)(xs:List V):Prop:=∀ x∈xs,∃ a i j,x=.ref a/\H a=some (.tup [.int i,.int j])
def DF:List V->Hp->VK->Prop:=λ vs H Q=>∃ p xs,vs=[.ref p]/\H p=some (.lst xs)/\nG H xs/\2<=xs.length/\xs.length < 64/\∀ ys:List V,ys.Perm xs->gN (.lst ys) H Q
theorem wa{p:Addr}{xs:List V}{H:Hp}{Q:VK}(e:H p=some (.lst xs))(hp:nG H xs)(h2:2<=xs.length)(hl:xs.length < 64)(q:∀ ys:List V,ys.Perm xs->gN (.lst ys) H Q):DF [.ref p] H Q:=⟨p,xs,rfl,e,hp,h2,hl,q⟩
theorem kX{a:Addr}{vs:List Value}{n:Nat}{P:PySem.Fin->Shared->Prop}(ho:s.heap.get? a=some (seqObj "list" vs.toArray n))(hT:ni s.heap vs)(hna:∀ v∈vs,v ≠ .ref a)(h2:2<=vs.length)(h64:vs.length < 64)
  (h:∀ p:Array Nat,cj vs.length p->P (.done (.ret .none)) { s with heap:=sortedHeap s.heap a vs (List.toArray (p.toList.map λ i=>vs.getD i Value.none)) }) :
  wpAny (model prog w) A (Builtin.«list.sort» ⟨[.ref a],[]⟩) P E s:=by
 rw [list_sort_plain];have ha:a < s.heap.objs.size:=La ho;have hz:vs.length<=sizeLine:=aA (by omega);refine K0 (listItems_at ho rfl ?_);refine K0 (M4 ho rfl ?_ (by simpa using hz) (LD _));obtain⟨e1,ho1⟩:∃ e1,(s.heap.update a (Obj.mapSeq λ _=>#[])).get? a=some (seqObj "list" #[] e1):=⟨_,Oi ho (λ _=>#[])⟩;refine K0 (Og ho1 rfl ?_);refine K0 (N3 ?_ (by simpa using hz));refine K0 (NM ?_ (LD _));refine Mc ?_
 have ho6:(((s.heap.update a (Obj.mapSeq λ _=>#[])).push (seqObj "tuple" vs.toArray 0)).push (seqObj "list" #[] 0)).get? a=some (seqObj "list" #[] e1):=by
  rw [My _ _ _ (by rw [OD,Mh];exact Ll (LY ha)),My _ _ _ (by rw [Mh];exact Ll ha)];exact ho1
 have hT6:ni (((s.heap.update a (Obj.mapSeq λ _=>#[])).push (seqObj "tuple" vs.toArray 0)).push (seqObj "list" #[] 0)) vs:=λ v hv=>by
  obtain⟨b,o,n,i,j,t,u,e,hb,hc,hd⟩:=hT v hv;have nb:b ≠ a:=λ z=>hna v hv (by rw [e,z]);exact⟨b,o,n,i,j,t,u,e,K2 _ (K2 _ (by rw [Mj _ _ _ _ nb];exact hb)),hc,hd⟩
 show wpAny (model prog w) A _ P E { s with heap:=((s.heap.update a (Obj.mapSeq λ _=>#[])).push (seqObj "tuple" vs.toArray 0)).push (seqObj "list" #[] 0) }
 dsimp only;have hn2:¬ vs.toArray.size < 2:=by rw [size_toArray];omega
 rw [Lm hn2,Lm hn2];obtain⟨fs,k1,k2,k3⟩:=hT6.kat;refine K0 (W.kat_kind (T:=.type "int") (s:={ s with heap:=((s.heap.update a (Obj.mapSeq λ _=>#[])).push (seqObj "tuple" vs.toArray 0)).push (seqObj "list" #[] 0) }) k1 (by omega) (λ v hv=>?_) rfl ?_)
 ·obtain⟨i,t,rfl⟩:=k3 v hv;exact λ A Q E s k q=>Lf q
 refine K0 (Ng (W.kat_run (Q:=λ st' s'=>∃ p:Array Nat,cj vs.length p/\arrOf st'=p.map (W.kas_item (vs.toArray.zip vs.toArray))/\failedOf st'=none/\s'={ s with heap:=((s.heap.update a (Obj.mapSeq λ _=>#[])).push (seqObj "tuple" vs.toArray 0)).push (seqObj "list" #[] 0) })
  (G:=λ p s'=>cj vs.length p/\s'={ s with heap:=((s.heap.update a (Obj.mapSeq λ _=>#[])).push (seqObj "tuple" vs.toArray 0)).push (seqObj "list" #[] 0) }) rfl h2 h64 (λ p' st' s' a1 a2 a3 a4=>⟨p',a4.1,a2,a3,a4.2⟩)
  (b7.run (λ i j C hi hj hC=>AB hT6 _ i j C hi hj hC) (λ p hp=>⟨hp,rfl⟩) _ (yl (by omega)))) ?_ λ _ _ e=>e)
 rintro ⟨⟨⟩,st'⟩ s' ⟨p,hp,har,hf,rfl⟩;dsimp only;have hout:=W.kat_snds rfl har
 have hsz:(List.toArray (p.toList.map λ i=>vs.getD i Value.none)).size=vs.length:=by
  rw [LC,Lc,Mp];have:=hp.size_eq
  simpa using this
 rw [hout];refine K0 (Og ho6 rfl ?_);refine K0 (M4 ho6 rfl ?_ (LD _) (by omega));rw [hf];simp only [NQ,L0,Nb];exact Lf (h p hp)
end
theorem tX{xs:List V}{vs:List Value}(hv:aL xs vs){p:Array Nat}(hp:cj vs.length p):∃ ys:List V,ys.Perm xs/\aL ys (p.toList.map λ i=>vs.getD i Value.none):=by
 have hl:=hv.length;refine⟨p.toList.map λ i=>xs.getD i .non,?_,?_⟩
 ·have h1:(p.toList.map λ i=>xs.getD i .non).Perm ((List.range vs.length).map λ i=>xs.getD i .non):=(NJ.mp hp).map _;refine h1.trans (List.Perm.of_eq ?_);refine Oj (by simp;omega) λ i g1 g2=>?_;simp [g2]
 ·refine cX (by simp) λ i x u hx hu=>?_;rw [Lr] at hx hu;obtain⟨m,hm,rfl⟩:=Lk.mp hx;rw [hm] at hu;cases hu
  have hlt:m < vs.length:=by
   have:=(NJ.mp hp).mem_iff.mp (Ly hm)
   simpa using this
  have g1:xs[m]? = some xs[m]:=K1 (by omega);obtain⟨u',hu',ru⟩:=hv.get g1;have e1:xs.getD m .non=xs[m]:=by simp [show m < xs.length by omega]
  have e2:vs.getD m Value.none=u':=by
   rw [K1 hlt] at hu';rw [←Lu hu'];simp [hlt]
  show aU (xs.getD m .non) (vs.getD m Value.none)
  rw [e1,e2];exact ru
theorem qI{X:Cx}:bG X (.builtin "sorted") DF:=by
 intro pins s σ H vs us Q I r h;obtain⟨p,xs,rfl,e,hpa,h2,hl,q⟩:=h
 cases r with
 | cons r rr=>
  cases rr;cases r;obtain⟨z,its,n,r',hlen,hg⟩:=I.lstM e;have hit:its.length<=sizeLine:=aA (by omega)
  have hT:ni s.heap its:=λ v hv=>by
   obtain⟨m,hm,em⟩:=Mr hv;have g1:xs[m]? = some (xs[m]'(by omega)):=K1 _;obtain⟨u',hu',ru⟩:=r'.get g1;rw [K1 hm,em] at hu';cases hu';obtain⟨a,i,j,ex,ha⟩:=hpa _ (Ly g1);rw [ex] at ru;cases ru;obtain⟨hz2,ts,tv,ht⟩:=(show aM X.prog X.w H s.heap a (.tup [.int i,.int j]) from I.hok a _ ha);obtain⟨o,ho,hc,n',hd⟩:=ht
   cases tv with
   | cons r1 tv=>
    cases tv with
    | cons r2 tv=>
     cases tv;obtain⟨t1,rfl⟩:=(show ∃ t,_=Value.int i t from r1);obtain⟨t2,rfl⟩:=(show ∃ t,_=Value.int j t from r2);exact⟨a,o,n',i,j,t1,t2,rfl,ho,hc,hd⟩
  refine Calls.call_function_entry kind_sorted plain_sorted entry_sorted (args_sorted1 _) ?_;unfold Builtin.«sorted»;refine wpAny_bind (m:=checkCount "sorted" 1 1 _) (wpAny_pure ?_);refine wpAny_bind (collect_list (vs:=its) ⟨_,hg,rfl,n,rfl⟩ ?_ hit);refine wpAny_bind (wpAny_newList ?_ hit)
  have hsz:((s.heap.push (seqObj "list" #[] 0)).update s.heap.objs.size (Obj.mapSeq (· ++ its.toArray))).objs.size=s.heap.objs.size+1:=by
   rw [Mh,OD]
  have hoL:(((s.heap.push (seqObj "list" #[] 0)).update s.heap.objs.size (Obj.mapSeq (· ++ its.toArray))).push (seqObj "list" its.toArray 0)).get? (s.heap.objs.size+1)=some (seqObj "list" its.toArray 0):=by
   rw [←hsz];exact Lh _ rfl
  have keep:∀ b o,s.heap.get? b=some o->(((s.heap.push (seqObj "list" #[] 0)).update s.heap.objs.size (Obj.mapSeq (· ++ its.toArray))).push (seqObj "list" its.toArray 0)).get? b=some o:=λ b o q=>by
   have hlt:b < s.heap.objs.size:=La q;rw [My _ _ _ (by rw [hsz];exact Ll (LY hlt)),Mj _ _ _ _ (Ll hlt),My _ _ _ (Ll hlt)];exact q
  show wpAny _ _ _ _ _ { s with heap:=((s.heap.push (seqObj "list" #[] 0)).update s.heap.objs.size (Obj.mapSeq (· ++ its.toArray))).push (seqObj "list" its.toArray 0) }
  rw [hsz];refine K0 (Mc (Mu slot_list_sort ⟨_,hoL,rfl⟩ entry_list_sort (kX hoL (λ v hv=>?_) (λ v hv z=>?_) (by omega) (by omega) λ pa hpm=>⟨_,rfl,?_⟩) (args_list_sort _)))
  ·obtain⟨b,o,n,i,j,t,u,e,hb,hc,hd⟩:=hT v hv;exact⟨b,o,n,i,j,t,u,e,keep _ _ hb,hc,hd⟩
  ·obtain⟨b,o,n,i,j,t,u,e,hb,hc,hd⟩:=hT v hv;rw [e] at z;have:=La hb;cases z;exact absurd this (Nat.not_lt.mpr (MB _))
  ·refine Lf ⟨_,rfl,?_⟩;obtain⟨ys,py,vy⟩:=tX r' hpm;have fr:=I.hok.fresh (a:=s.heap.objs.size+1) (MB _);obtain⟨e',he'⟩:=sortedHeap_at (out:=List.toArray (pa.toList.map λ i=>its.getD i Value.none)) hoL;refine⟨.ref (s.heap.objs.size+1),_,I.laid (t':=s.toks) (o:=.lst ys) (λ b u hb=>?_) (MB _) ⟨?_,_,e',vy,he'⟩,rfl,q ys py _ _ fr (Ext.new fr) ag⟩
   ·have hlt:=La hb;rw [sortedHeap_old (Ll (LY hlt)) (by rw [OD,hsz];exact LY (LY hlt))];exact keep _ _ hb
   ·rw [py.length_eq];exact aA (by omega)
def zv(H:Hp)(nx:St->Hp->Prop):St->Hp->Prop:=λ σ' H'=>∃ a ob kvs kvs0,H a=some (.dK kvs0)/\H' a=some (.frz ob (.dK kvs))/\nx σ' (upd H' a (.dK kvs))
def DA(t:TS):TS:=λ D σ H=>t ⟨zv H D.nx,iV H D.rt,D.bk,D.ct⟩ σ H
theorem Bu(t:TS)(nx:St->Hp->Prop)(rt:VK)(bk ct:St->Hp->Prop)(σ:St)(H:Hp):DA t ⟨nx,rt,bk,ct⟩ σ H=t ⟨zv H nx,iV H rt,bk,ct⟩ σ H:=rfl
theorem ia{X:Cx}{st:Stmt}{t:TS}(h:PS X st t):PS X st (DA t):=by
 intro pins s σ H D I hh;refine thn (h pins s σ H _ I hh) λ f s1 hs=>?_
 cases f with
 | next=>
  obtain⟨σ',H',I1,a,ob,kvs,kvs0,h0,hf,q⟩:=hs;exact⟨σ',_,I1.thaw hf λ o w z=>(by have:=I.base.frzs a o w z;rw [h0] at this;cases this),q⟩
 | brk=>exact hs
 | cont=>exact hs
 | ret u=>
  obtain⟨v,σ',H',I1,r1,a,ob,kvs,kvs0,h0,hf,q⟩:=hs;exact⟨v,σ',_,I1.thaw hf λ o w z=>(by have:=I.base.frzs a o w z;rw [h0] at this;cases this),r1,q⟩
section
variable {g:TG}{tb:TS}{nx:St->Hp->Prop}{rt:VK}{bk ct:St->Hp->Prop}{σ:St}{H:Hp}
theorem pB{a:Addr}{kvs:List (Key × V)}(Pv:Obj->Nat->St->Hp->Prop)(ha:H a=some (.dK kvs))(h0:∀ ob,Pv ob 0 σ (upd H a (.frz ob (.dK kvs))))(hl:∀ ob i σ' H',Pv ob i σ' H'->H' a=some (.frz ob (.dK kvs)))
  (hs:∀ ob i z σ' H',kvs[i]? = some z->Pv ob i σ' H'->H' a=some (.frz ob (.dK kvs))->g (kV z.1) σ' H' (nh tb ⟨Pv ob (i+1),iV H rt,zv H nx,Pv ob (i+1)⟩)) (hd:∀ ob σ' H',Pv ob kvs.length σ' H'->nx σ' (upd H' a (.dK kvs))) :
  Hc (zw g tb ⟨zv H nx,iV H rt,bk,ct⟩ σ) (.ref a) H:=by
 refine⟨a,kvs,rfl,ha,λ ob=>?_⟩;refine⟨λ i m σ' H'=>m=kvs.length - i/\i<=kvs.length/\Pv ob i σ' H',⟨kvs.length,by simp,LD _,h0 ob⟩,?_⟩;rintro i m σ' H' ⟨rfl,hi,p⟩;have qa:=hl ob i σ' H' p
 by_cases hlt:i < kvs.length
 ·refine .inr ⟨⟨qa,hlt⟩,Pv ob (i+1),λ σ'' H'' p'=>⟨kvs.length - (i+1),by omega,rfl,hlt,p'⟩,λ x H'' y=>?_⟩;obtain⟨rfl,z,hz,rfl⟩:=y;exact hs ob i z σ' _ hz p qa
 ·have e:i=kvs.length:=by omega
  subst e;exact .inl ⟨⟨qa,Li _⟩,a,ob,kvs,kvs,ha,qa,hd ob σ' H' p⟩
end
def Iti(a:Addr)(ob:Obj)(kvs:List (Key × V)):It:=
 ⟨λ i H=>H a=some (.frz ob (.dK kvs))/\i < kvs.length,λ i H x H'=>∃ p z,H p=none/\x=.ref p/\kvs[i]? = some z/\H'=upd H p (.tup [kV z.1,z.2]),λ i H=>H a=some (.frz ob (.dK kvs))/\kvs.length<=i⟩
section
variable {prog:Program}{w:World}{A:Around}{E:Value->Shared->Prop}{s:Shared}
theorem fy:entryFor table "dict_itemiterator.__iter__"=some Builtin.«dict_keyiterator.__iter__»:=entryFor_alias (id' := "dict_keyiterator.__iter__") (by kernel_rfl) rfl (by decide +kernel) (by kernel_rfl)
theorem iO{it d:Addr}{i n ep:Nat}{ok ov:Value}{Q:Value->Shared->Prop}(hit:IsItemIter s.heap it d i n ep ok ov)(h:Q (.ref it) s):wpAny (model prog w) A (pyIter (.ref it)) Q E s:=by
 have hT:s.TypeIs (.ref it) "dict_itemiterator":=⟨_,hit,rfl⟩;refine wpAny_pyIter_slot hT F.slot_dict_itemiterator_iter (Mu F.slot_dict_itemiterator_iter hT fy ?_ (F.args_dict_itemiterator_iter_1 _))
 show wpAny _ _ (ret (.ref it)) _ _ s
 exact Lf ⟨_,rfl, "dict_itemiterator",_,hT,F.slot_dict_itemiterator_next.lookup,h⟩
end
theorem p7{P:Program}{w:World}{K:W.Frag}{elts:List Expr}{x1}{tp:Pos}(a it:Addr)(ob:Obj)(kvs:List (Key × V))(vs:List (Key × Value))(ep:Nat)(kx:KV kvs vs)(dx:Hi P w ob vs ep):vG P w K (.Tuple elts x1 tp) (Iti a ob kvs) [it] it (λ i h=>∃ ok ov,IsItemIter h it a i vs.length ep ok ov) where
 mem:=by simp
 obj:=λ i h st b hb=>by
  have e:b=it:=by simpa using hb
  subst e;obtain⟨ok,ov,e⟩:=st;exact⟨_,e,λ v z=>by cases z⟩
 keep:=λ i h h' st k=>by
  obtain⟨ok,ov,e⟩:=st;exact⟨ok,ov,k it (by simp) _ e⟩
 item:=by
  intro X hP hw hK hc i pins s σ H E I hf st hg;subst hP hw hK;obtain⟨ha,hi⟩:=hg;obtain⟨ok,ov,st⟩:=st;have hob:=(show aM X.prog X.w H s.heap a (.frz ob (.dK kvs)) from I.hok a _ ha).1;obtain⟨q,hq,hk,hr⟩:=ib kx (K1 hi);have hil:it < s.heap.objs.size:=La st;refine wpAny_pyNext_items_item st (dx _ a hob) (k:=q.1) (v:=q.2) hq λ key h1 hkey heo ht hz hk1=>⟨_,rfl,?_⟩;refine wpAny_letOwnedTupleGo_items heo λ h2 he2 hs2=>?_;replace hs2:Heap.SameBut it h1 h2:=hs2;have hT2:h2.IsTuple s.heap.objs.size #[key,q.2]:=⟨_,(hs2.2 _ (LS hil)).trans ht,rfl,_,rfl⟩;have rk:aU (kV kvs[i].1) key:=by rw [hk];exact j6 hkey
  have I2:Inv X pins σ (upd H s.heap.objs.size (.tup [kV kvs[i].1,kvs[i].2])) { s with heap:=h2,toks:=s.toks }:=I.turnNew (t':=s.toks) (ch:=[it]) hf (λ b o hb e=>hs2.extBut b o (by simpa using hb) (hk1 b o (by simpa using hb) e)) (Li _) ⟨(show 2<=sizeLine by decide),[key,q.2],.cons rk (.cons hr .nil),hT2⟩;have fr:H s.heap.objs.size=none:=I.hok.fresh (Li _);refine⟨.ref s.heap.objs.size,_,I2,rfl,⟨_,_,fr,rfl,K1 hi,rfl⟩,⟨_,_,he2⟩,λ c hc=>?_⟩;have e:c=it:=by simpa using hc
  subst e;rw [af (Ll hil)];exact(hf _ (by simp)).1
 done:=by
  intro X hP hw hK hc i pins s σ H E I hf st hg;subst hP hw hK;obtain⟨ha,hi⟩:=hg;obtain⟨ok,ov,st⟩:=st;have hob:=(show aM X.prog X.w H s.heap a (.frz ob (.dK kvs)) from I.hok a _ ha).1;have hlen:kvs.length=vs.length:=MJ kx;obtain⟨f0,f1,f2,f3,f4,f5⟩:=hf it (by simp);exact wpAny_pyNext_items_end (I.ok.hd hc) st (dx _ a hob) (by simp;omega) λ h' eb=>⟨rfl,I.turned (t':=s.toks) (λ b o hb e=>eb b o hb e) f0 f1 f3 f4 f5⟩
 self:=λ A i s Q E st h=>by
  obtain⟨ok,ov,e⟩:=st;exact iO e h
def HZ(R:It->Hp->Prop):VK:=λ x H1=>∃ a kvs,x=.ref a/\H1 a=some (.dK kvs)/\∀ ob,R (Iti a ob kvs) (upd H1 a (.frz ob (.dK kvs)))
def yM(tl:TE):TI:=λ σ H R=>tl σ H (HZ R)
theorem xt(tl:TE)(σ:St)(H:Hp)(R:It->Hp->Prop):yM tl σ H R=tl σ H (HZ R):=rfl
theorem o7{X:Cx}{elts:List Expr}{x1}{tp apos pos:Pos}{l:Expr}{tl:TE}(hl:PE X l tl)(hbase:attributeBase l "items" X.env (eval l X.env)=eval l X.env:=by rfl)(hline:(apos.endLine == pos.line)=true:=by rfl):PI X (.Tuple elts x1 tp) (.Call (.Attribute l "items" apos) [] [] pos) (yM tl):=by
 intro pins s σ H R I h;refine wpAny_Call_method (T := "dict") (id := "dict.items") hbase rfl hline F.plainAttrs_dict F.slot_dict_items F.type_dict_items (thn (hl pins s σ H _ I h) λ v s1 ⟨x,H1,I1,r1,q1⟩=>?_);obtain⟨a,kvs,e,ha,q⟩:=q1;subst e;cases r1;have hO:aM X.prog X.w H1 s1.heap a (.dK kvs):=I1.hok a _ ha;obtain⟨z0,lo,vs,kx,dd⟩:=id hO;obtain⟨ep,hat⟩:=dd.dictAt;obtain⟨ob,es,ho,eO⟩:=id hat;have dx:Hi X.prog X.w ob vs ep:=λ h b hb=>⟨ob,es,hb,eO⟩;refine⟨hat.dictOf.typeIs,hat.dictOf.mapOf.noDict,?_⟩
 show wpAny _ _ (callWith pos (.builtin "dict.items") [.ref a] [] []) _ _ s1
 refine method_meetsIn F.slot_dict_items F.entry_dict_items rfl (PySem.evalArgs_none ⟨rfl,hat.dictOf.typeIs,F.args_dict_items_1 _,_,meets_dict_items (aw X.prog X.w) a lo,⟨vs,hat.dictOf⟩,?_⟩);refine wpAny_pyIter_items (knd:=aw X.prog X.w) (d:=a) (kvs:=vs) (ep:=ep) ⟨_,Lh _ rfl,rfl,rfl⟩ (hat.push _) ?_;have hO':aM X.prog X.w (upd H1 a (.frz ob (.dK kvs))) s1.heap a (.frz ob (.dK kvs)):=⟨ho,⟨z0,lo,vs,kx,dd⟩⟩;have I2:=I1.write (t':=s1.toks) (x:=a) (e:=a) (o:=.frz ob (.dK kvs)) (h':=s1.heap) (by rw [ha];trivial) (.inl rfl) (λ b u _ e=>e) ⟨ob,ho⟩ hO';have hsz:(s1.heap.push { cls:=.type "dict_items",data:=.fields #[.ref a] }).objs.size=s1.heap.objs.size+1:=L4 ..;refine⟨_,[(s1.heap.push { cls:=.type "dict_items",data:=.fields #[.ref a] }).objs.size],_,_,_,rfl,I2.kept (t':=s1.toks) λ b o e=>K2 _ (K2 _ e),p7 a _ ob kvs vs ep kx dx,⟨_,_,Lh _ rfl⟩,λ b hb=>?_,q ob⟩;have e:b=(s1.heap.push { cls:=.type "dict_items",data:=.fields #[.ref a] }).objs.size:=by simpa using hb
 have hle:s1.heap.objs.size<=b:=by rw [e,hsz];exact MB _
 exact I2.fpOk hle (I2.hok.fresh hle)
section
variable {g:TG}{tb:TS}{nx:St->Hp->Prop}{rt:VK}{bk ct:St->Hp->Prop}{σ:St}{H:Hp}
theorem me{a:Addr}{kvs:List (Key × V)}(Pv:Obj->Nat->St->Hp->Prop)(ha:H a=some (.dK kvs))(h0:∀ ob,Pv ob 0 σ (upd H a (.frz ob (.dK kvs))))(hl:∀ ob i σ' H',Pv ob i σ' H'->H' a=some (.frz ob (.dK kvs)))
  (hs:∀ ob i z p σ' H' H'',kvs[i]? = some z->Pv ob i σ' H'->H' p=none->Ext H' H''->H'' p=some (.tup [kV z.1,z.2])->g (.ref p) σ' H'' (nh tb ⟨Pv ob (i+1),iV H rt,zv H nx,Pv ob (i+1)⟩)) (hd:∀ ob σ' H',Pv ob kvs.length σ' H'->nx σ' (upd H' a (.dK kvs))) :
  HZ (zw g tb ⟨zv H nx,iV H rt,bk,ct⟩ σ) (.ref a) H:=by
 refine⟨a,kvs,rfl,ha,λ ob=>?_⟩;refine⟨λ i m σ' H'=>m=kvs.length - i/\i<=kvs.length/\Pv ob i σ' H',⟨kvs.length,by simp,LD _,h0 ob⟩,?_⟩;rintro i m σ' H' ⟨rfl,hi,p⟩;have qa:=hl ob i σ' H' p
 by_cases hlt:i < kvs.length
 ·refine .inr ⟨⟨qa,hlt⟩,Pv ob (i+1),λ σ'' H'' p'=>⟨kvs.length - (i+1),by omega,rfl,hlt,p'⟩,λ x H'' y=>?_⟩;obtain⟨r,z,hr,rfl,hz,rfl⟩:=y;exact hs ob i z r σ' H' _ hz p hr (Ext.new hr) ag
 ·have e:i=kvs.length:=by omega
  subst e;exact .inl ⟨⟨qa,Li _⟩,a,ob,kvs,kvs,ha,qa,hd ob σ' H' p⟩
end
def DJ:List V->Hp->VK->Prop:=λ vs H Q=>∃ p kvs,vs=[.ref p]/\H p=some (.dK kvs)/\kvs.length<=sizeLine/\gN (.dK kvs) H Q
theorem wg{p:Addr}{kvs:List (Key × V)}{H:Hp}{Q:VK}(e:H p=some (.dK kvs))(hl:kvs.length<=sizeLine)(q:gN (.dK kvs) H Q):DJ [.ref p] H Q:=⟨p,kvs,rfl,e,hl,q⟩
theorem qO{X:Cx}:bG X (.type "dict") DJ:=by
 intro pins s σ H vs us Q I r h;obtain⟨p,kvs,rfl,ha,hl,q⟩:=h
 cases r with
 | cons r rr=>
  cases rr;cases r;have hO:aM X.prog X.w H s.heap p (.dK kvs):=I.hok p _ ha;obtain⟨z0,lo,vs,kx,dd⟩:=id hO;refine kt_call_dict lo dd (by rw [←kx.length];exact hl) λ h' hd hs=>?_;have fr:=I.hok.fresh (Li _);have lo':(s.heap.objs.size == sysModules)=false:=MM.mpr (Lv (Ll I.big));refine⟨.ref s.heap.objs.size,_,I.laid (t':=s.toks) (o:=.dK kvs) (λ b u hb=>?_) (Li _) ⟨z0,lo',vs,kx,hd⟩,rfl,q _ _ fr (Ext.new fr) ag⟩
  ·exact(hs.2 b (Ll (La hb))).trans (K2 _ hb)
theorem si{neg:Bool}:MR (G5 neg):=λ x y H Q Q' m ⟨a,o,e,d,q⟩=>⟨a,o,e,d,m _ _ q⟩
def bh(kv:List (Int × Int))(c v:Int):List (Int × Int):=if (aa kv c).isSome=true then kv.map (λ p=>if p.1=c then (p.1,v) else p) else kv++[(c,v)]
theorem aW(kv:List (Int × Int))(c v:Int):eP (aj kv) (.inl c) (.int v)=aj (bh kv c v):=by
 unfold bh
 cases h:aa kv c with
 | none=>rw [Lm (by simp)];exact fU v h
 | some j=>
  rw [if_pos (show (some j).isSome=true from rfl)];unfold eP;rw [dX,ao,h,Option.map_some,if_pos (show (some (V.int j)).isSome=true from rfl)];unfold aj;rw [map_map,map_map];refine List.map_congr_left λ p _=>?_
  show (if (Sum.inl p.1:Key)=Sum.inl c then _ else _)=_
  by_cases e:p.1=c
  ·rw [Lo (Mt Sum.inl e)];simp [e]
  ·rw [Lm (oM e)];simp [e]
theorem aX(kv:List (Int × Int))(c v x:Int):aa (bh kv c v) x=if x=c then some v else aa kv x:=by
 have h:=oR (aj kv) (.inl c:Key) (.inl x) (.int v);rw [aW,ao,ao] at h
 by_cases e:x=c
 ·rw [Lo (Mt Sum.inl e)] at h;rw [Lo e]
  cases hl:aa (bh kv c v) x with
  | none=>rw [hl] at h;cases h
  | some j=>rw [hl] at h;simp only [Mv,Option.some.injEq,V.int.injEq] at h;rw [h]
 ·rw [Lm (oM e)] at h;rw [Lm e]
  cases hl:aa (bh kv c v) x with
  | none=>
   cases hr:aa kv x with
   | none=>rfl
   | some j=>rw [hl,hr] at h;cases h
  | some i=>
   cases hr:aa kv x with
   | none=>rw [hl,hr] at h;cases h
   | some j=>rw [hl,hr] at h;simp only [Mv,Option.some.injEq,V.int.injEq] at h;rw [h]
theorem bK{kv:List (Int × Int)}{c v:Int}(h:aa kv c=some v):(c,v)∈kv:=by
 unfold aa at h;obtain⟨p,hp,rfl⟩:=Option.map_eq_some_iff.mp h;have e:p.1=c:=by simpa using List.find?_some hp
 rw [←e];exact List.mem_of_find?_eq_some hp
theorem aZ{kv:List (Int × Int)}{c:Int}:aa kv c=none ↔ c ∉ kv.map (·.1):=by
 unfold aa;rw [Option.map_eq_none_iff,List.find?_eq_none];constructor
 ·intro h hm;obtain⟨p,hp,e⟩:=Le.mp hm;exact h p hp (by simpa using e)
 ·intro h p hp e;exact h (Le.mpr ⟨p,hp,by simpa using e⟩)
theorem ak{kv:List (Int × Int)}{c:Int}:(aa kv c).isSome=true ↔ c∈kv.map (·.1):=by
 cases h:aa kv c with
 | none=>simp;exact λ x hx=>aZ.mp h (Le.mpr ⟨(c,x),hx,rfl⟩)
 | some v=>simp;exact⟨v,bK h⟩
theorem aO{kv:List (Int × Int)}(hn:(kv.map (·.1)).Nodup){c v:Int}(h:(c,v)∈kv):aa kv c=some v:=by
 induction kv with
 | nil=>exact absurd h Ld
 | cons p r ih=>
  have hn':=LO.mp (show (p.1::r.map (·.1)).Nodup from hn)
  rcases Lz.mp h with rfl|h
  ·exact fJ rfl
  ·rw [fK λ e=>hn'.1 (by rw [e];exact Le.mpr ⟨(c,v),h,rfl⟩)];exact ih hn'.2 h
theorem lT{kv:List (Int × Int)}{c v:Int}(h:(aa kv c).isSome=true):(bh kv c v).map (·.1)=kv.map (·.1):=by
 unfold bh;rw [if_pos h,map_map];refine List.map_congr_left λ p _=>?_
 show (if p.1=c then (p.1,v) else p).1=p.1
 split<;>rfl
theorem wJ{kv:List (Int × Int)}{c v:Int}(h:aa kv c=none):bh kv c v=kv++[(c,v)]:=by
 unfold bh;rw [h];rfl
theorem bC{kv:List (Int × Int)}(hn:(kv.map (·.1)).Nodup)(c v:Int):((bh kv c v).map (·.1)).Nodup:=by
 cases h:aa kv c with
 | some j=>rw [lT (by rw [h];rfl)];exact hn
 | none=>
  rw [wJ h,LG,L9];refine⟨hn,LO.mpr ⟨Ld,Mg⟩,λ x hx y hy e=>?_⟩;rw [LH,OL,Lq] at hy;rw [e,hy] at hx;exact aZ.mp h hx
theorem dY(kv:List (Int × Int))(c v:Int):(bh kv c v).length<=kv.length+1:=by
 unfold bh;split
 ·rw [Lc];omega
 ·simp
theorem oV(kv:List (Int × Int)):(aj kv).map (·.1)=(kv.map (·.1)).map (Sum.inl:Int->Key):=by unfold aj;rw [map_map,map_map];rfl
theorem az(kv:List (Int × Int)):(aj kv).length=kv.length:=by unfold aj;rw [length_map]
theorem gz:∀ (a b:List Int) (c:Int),c ∉ a->(((a++c::b).map PyData.int).findIdx? λ z=>PyData.eqv z (.int c))=some a.length
 | [],b,c,_=>by
  rw [List.nil_append,LH,List.findIdx?_cons];simp [nQ]
 | x::a,b,c,h=>by
  have ih:=gz a b c λ m=>h (Lg _ m);have e:¬ x=c:=λ e=>h (by rw [e];exact Lj);rw [M5,LH,List.findIdx?_cons,ih];simp [nQ,e]
theorem oT{l:Addr}{a b:List Int}{c:Int}{H:Hp}{Q:VK}(h:H l=some (.lst ((a++c::b).map V.int)))(hc:c ∉ a)(q:Q (.int (a.length:Int)) H):yB (.ref l) [.int c] H Q:=
 ⟨l,_,.int c,.int c,(a++c::b).map PyData.int,a.length,rfl,rfl,h,rfl,cC H _ _,gz a b c hc,q⟩
end L2
namespace PH
def gG(ns:List Int):Prop:=ns.length<=8/\∀ n∈ns,1<=n/\n<=1000000000
def aD:List Int->Int
 | []=>1
 | n::r=>n * aD r
def dk:List Int->List Int
 | []=>[]
 | _::r=>aD r::dk r
theorem dS:∀ ns ms:List Int,aD (ns++ms)=aD ns * aD ms
 | [],ms=>by simp [aD]
 | n::r,ms=>by simp only [M5,aD,dS r ms,Int.mul_assoc]
theorem ji(ns:List Int)(i:Nat)(z:Int)(h:ns[i]? = some z):aD (ns.take (i+1))=aD (ns.take i) * z:=by
 rw [LW,h,dS];simp [aD]
theorem lU:∀ ns:List Int,(∀ n∈ns,1<=n/\n<=1000000000)->1<=aD ns/\aD ns<=1000000000 ^ ns.length
 | [],_=>by simp [aD]
 | n::r,h=>by
  obtain⟨h1,h2⟩:=lU r λ m hm=>h m (Lg _ hm);obtain⟨g1,g2⟩:=h n Lj;refine⟨?_,?_⟩
  ·show 1<=n * aD r
   exact OP (by omega) (Int.mul_le_mul g1 h1 (by decide) (by omega):1 * 1<=n * aD r)
  ·show n * aD r<=1000000000 ^ (r.length+1)
   rw [Int.pow_succ,Int.mul_comm];exact Int.mul_le_mul h2 g2 (by omega) (OP (by omega) h2)
theorem AV:∀ {k:Nat},k<=8->(1000000000:Int) ^ k<=1000000000 ^ 8
 | 0,_=>by decide
 | 1,_=>by decide
 | 2,_=>by decide
 | 3,_=>by decide
 | 4,_=>by decide
 | 5,_=>by decide
 | 6,_=>by decide
 | 7,_=>by decide
 | 8,_=>by decide
 | k+9,h=>by omega
theorem gG.prod{ns:List Int}(h:gG ns):1<=aD ns/\aD ns<=1000000000 ^ 8:=by
 obtain⟨a,b⟩:=lU ns h.2;exact⟨a,OP b (AV h.1)⟩
theorem gG.take{ns:List Int}(h:gG ns)(i:Nat):gG (ns.take i):=⟨by have:=h.1;simp;omega,λ n hn=>h.2 n (Oq hn)⟩
theorem gG.drop{ns:List Int}(h:gG ns)(i:Nat):gG (ns.drop i):=⟨by have:=h.1;simp;omega,λ n hn=>h.2 n (List.mem_of_mem_drop hn)⟩
theorem ml(ns:List Int)(i:Nat)(z:Int)(hi:i < ns.length)(h:ns[ns.length - 1 - i]? = some z):ns.drop (ns.length - (i+1))=z::ns.drop (ns.length - i):=by
 have e:ns.length - (i+1)=ns.length - 1 - i:=by omega
 have e2:ns.length - i=ns.length - 1 - i+1:=by omega
 rw [e,e2];obtain⟨hl,hz⟩:=Lb.mp h;rw [←hz];exact List.drop_eq_getElem_cons hl
theorem qd(ns:List Int)(i:Nat)(z:Int)(hi:i < ns.length)(h:ns[ns.length - 1 - i]? = some z):aD (ns.drop (ns.length - (i+1)))=aD (ns.drop (ns.length - i)) * z:=by
 rw [ml ns i z hi h];exact Int.mul_comm _ _
theorem nY(ns:List Int)(i:Nat)(z:Int)(hi:i < ns.length)(h:ns[ns.length - 1 - i]? = some z):(dk (ns.drop (ns.length - (i+1)))).reverse=(dk (ns.drop (ns.length - i))).reverse++[aD (ns.drop (ns.length - i))]:=by
 rw [ml ns i z hi h];simp [dk]
theorem jm:∀ ns:List Int,(dk ns).length=ns.length
 | []=>rfl
 | _::r=>by simp [dk,jm r]
open PySem L2
def vi:V->Int
 | .int i=>i
 | _=>0
theorem Dc{α:Type}(l:List α):(l.filter λ _=>true)=l:=L7.mpr λ _ _=>rfl
def bF(a:Int × Int):Int × Int:=(a.1,if a.1 > 1 then a.2 else 0)
def axL(axs:List (Int × Int)):List (List Int):=axs.map λ a=>[a.1,a.2]
def gs(axs:List (Int × Int)):Int:=(axs.map λ a=>min 0 ((a.1 - 1) * a.2)).sum
def gu(axs:List (Int × Int)):Int:=(axs.map λ a=>max 0 ((a.1 - 1) * a.2)).sum
def jD(axs:List (Int × Int)):Prop:=axs.length<=8/\∀ a∈axs,1<=a.1/\a.1<=1000000000
structure sv(room first:Int)(axs:List (Int × Int)):Prop where
 ax:jD axs
 r1:1<=room
 r2:room<=1000000000000000000
 lo:0<=first+gs (axs.map bF)
 hi:first+gu (axs.map bF) < room
theorem jD.kept{axs:List (Int × Int)}(h:jD axs):jD (axs.map bF):=⟨by rw [Lc];exact h.1,λ a ha=>by
 obtain⟨b,hb,rfl⟩:=Le.mp ha;exact h.2 b hb⟩
theorem jD.sizes{axs:List (Int × Int)}(h:jD axs):gG (axs.map λ a=>a.1):=⟨by rw [Lc];exact h.1,λ n hn=>by
 obtain⟨b,hb,rfl⟩:=Le.mp hn;exact h.2 b hb⟩
def du(room first:Int)(l:Addr):List (Str × V):=dw "axes" (.ref l) (dw "first" (.int first) (dw "room" (.int room) []))
theorem IG:¬ (("room":Str) = "axes"):=by decide +kernel
theorem IF:¬ (("room":Str) = "first"):=by decide +kernel
theorem II:¬ (("first":Str) = "axes"):=by decide +kernel
theorem p0(room first:Int)(l:Addr):(du room first l).lookup ("room":Str)=some (.int room):=by
 unfold du;rw [aB,if_neg IG,aB,if_neg IF,aB,if_pos rfl]
theorem eW(room first:Int)(l:Addr):(du room first l).lookup ("first":Str)=some (.int first):=by
 unfold du;rw [aB,if_neg II,aB,if_pos rfl]
theorem ed(room first:Int)(l:Addr):(du room first l).lookup ("axes":Str)=some (.ref l):=by
 unfold du;rw [aB,if_pos rfl]
theorem v9(room first:Int)(l:Addr){m:Str}(h1:¬ m = "axes")(h2:¬ m = "first")(h3:¬ m = "room"):(du room first l).lookup m=none:=by
 unfold du;rw [aB,if_neg h1,aB,if_neg h2,aB,if_neg h3];rfl
theorem ir:∀ ns:List Int,(∀ n∈ns,(1:Int)<=n)->1<=aD ns
 | [],_=>by simp [aD]
 | n::ns,h=>by
  have h1:=h n Lj;have h2:=ir ns λ m hm=>h m (Lg _ hm)
  show 1<=n * aD ns
  have:=Int.mul_le_mul h1 h2 (by decide) (by omega);omega
theorem fk(a:Int × Int)(l:List (Int × Int)):gs (a::l)=min 0 ((a.1 - 1) * a.2)+gs l:=by unfold gs;simp
theorem fm(a:Int × Int)(l:List (Int × Int)):gu (a::l)=max 0 ((a.1 - 1) * a.2)+gu l:=by unfold gu;simp
theorem kB(ns:List Int)(h:∀ n∈ns,(1:Int)<=n)(i:Nat):aD (ns.take i)<=aD ns:=by
 have e:aD ns=aD (ns.take i) * aD (ns.drop i):=by rw [←dS,MU]
 have a:=ir (ns.take i) λ n hn=>h n (Oq hn);have b:=ir (ns.drop i) λ n hn=>h n (List.mem_of_mem_drop hn);rw [e];have:=Int.mul_le_mul_of_nonneg_left b (show 0<=aD (ns.take i) by omega);omega
def cL(cs:List Int)(a:Int × Int):List Int:=cs.flatMap λ c=>(List.range a.1.toNat).map λ (n:Nat)=>c+(n:Int) * a.2
def bI(first:Int)(axs:List (Int × Int)):List Int:=axs.foldl cL [first]
theorem lG(cs:List Int)(a:Int × Int):(cL cs a).length=cs.length * a.1.toNat:=by
 unfold cL
 induction cs with
 | nil=>simp
 | cons c r ih=>rw [NV,Ln,ih,Lc,Mo,LR,Nat.add_mul];omega
theorem oy(first:Int)(axs:List (Int × Int))(a:Int × Int):bI first (axs++[a])=cL (bI first axs) a:=by
 unfold bI;rw [List.foldl_append];rfl
theorem mh:∀ (axs:List (Int × Int)) (cs:List Int),(∀ a∈axs,(1:Int)<=a.1)->((axs.foldl cL cs).length:Int)=cs.length * aD (axs.map λ a=>a.1)
 | [],cs,_=>by simp [aD]
 | a::r,cs,h=>by
  have ha:=h a Lj;rw [Od,mh r (cL cs a) λ b hb=>h b (Lg _ hb),lG,Int.natCast_mul,NF (by omega),Int.mul_assoc];rfl
theorem jv(first:Int)(axs:List (Int × Int))(h:∀ a∈axs,(1:Int)<=a.1):((bI first axs).length:Int)=aD (axs.map λ a=>a.1):=by
 unfold bI;rw [mh axs [first] h];simp
def Pth(f:Int->Option Int):List Int->Int->Prop
 | [],_=>True
 | [c],e=>f c=some e
 | c::d::l,e=>f c=some d/\Pth f (d::l) e
def eF(f:Int->Option Int)(l:List Int):Prop:=∃ c t,l=c::t/\Pth f (c::t) c/\(c::t).Nodup
section
variable {f:Int->Option Int}
theorem Pth.cons{c e:Int}{l:List Int}(h:f c=some (l.headD e))(hp:Pth f l e):Pth f (c::l) e:=by
 cases l with
 | nil=>exact h
 | cons d l=>exact⟨h,hp⟩
theorem Pth.head{c e:Int}{l:List Int}(h:Pth f (c::l) e):f c=some (l.headD e):=by
 cases l with
 | nil=>exact h
 | cons d l=>exact h.1
theorem Pth.tail{c e:Int}{l:List Int}(h:Pth f (c::l) e):Pth f l e:=by
 cases l with
 | nil=>trivial
 | cons d l=>exact h.2
theorem Pth.app{d e:Int}:∀ {a:List Int}{b:List Int},Pth f a (b.headD e)->Pth f b e->Pth f (a++b) e
 | [],b,_,h=>h
 | c::a,b,h,hb=>by
  refine Pth.cons ?_ (Pth.app (d:=d) h.tail hb);rw [h.head]
  cases a with
  | nil=>rfl
  | cons x a=>rfl
theorem Pth.left{e:Int}:∀ {a:List Int}{b:List Int},Pth f (a++b) e->Pth f a (b.headD e)
 | [],b,_=>trivial
 | c::a,b,h=>by
  have h1:f c=some ((a++b).headD e):=h.head;have h2:=Pth.left (a:=a) h.tail;refine Pth.cons ?_ h2;rw [show (a++b).headD e=a.headD (b.headD e) by cases a<;>rfl] at h1;exact h1
theorem Pth.right{e:Int}:∀ {a:List Int}{b:List Int},Pth f (a++b) e->Pth f b e
 | [],b,h=>h
 | c::a,b,h=>Pth.right (a:=a) h.tail
theorem Pth.snoc{t:List Int}{c d:Int}(h:Pth f t c)(hd:f c=some d):Pth f (t++[c]) d:=Pth.app (d:=d) h hd
theorem Pth.mem{e:Int}:∀ {l:List Int},Pth f l e->∀ {x:Int},x∈l->∃ d,f x=some d/\(d∈l\/d=e)
 | [],_,x,h=>absurd h Ld
 | c::l,hp,x,h=>by
  rcases Lz.mp h with rfl|h
  ·refine⟨_,hp.head,?_⟩
   cases l with
   | nil=>exact .inr rfl
   | cons d l=>exact .inl (by simp)
  ·obtain⟨d,h1,h2⟩:=Pth.mem hp.tail h;exact⟨d,h1,h2.imp (Lg _) id⟩
theorem eF.mem{l:List Int}(h:eF f l){x:Int}(hx:x∈l):∃ d,f x=some d/\d∈l:=by
 obtain⟨c,t,rfl,hp,hn⟩:=h;obtain⟨d,h1,h2⟩:=hp.mem hx;exact⟨d,h1,h2.elim id λ e=>by rw [e];exact Lj⟩
theorem eF.ne{l:List Int}(h:eF f l):l ≠ []:=by obtain⟨c,t,rfl,_⟩:=h;exact List.cons_ne_nil _ _
theorem eF.nodup{l:List Int}(h:eF f l):l.Nodup:=by obtain⟨c,t,rfl,_,hn⟩:=h;exact hn
theorem eF.rot{a b:List Int}(h:eF f (a++b)):eF f (b++a):=by
 cases b with
 | nil=>simpa using h
 | cons c b=>
  cases a with
  | nil=>simpa using h
  | cons x a=>
   obtain⟨y,t,e,hp,hn⟩:=h;obtain⟨rfl,rfl⟩:=Ml e;have h1:Pth f (x::a++c::b) x:=hp;have h2:=h1.left;have h3:=h1.right;refine⟨c,b++x::a,rfl,?_,?_⟩
   ·exact Pth.app (d:=0) (a:=c::b) (b:=x::a) h3 h2
   ·have:(x::a++c::b).Perm (c::b++x::a):=Nv;exact this.nodup_iff.mp hn
theorem sD{c:Int}:∀ {l1 l2:List Int}{d:Int},Pth f (d::l1) c->Pth f (d::l2) c->c ∉ l1->c ∉ l2->l1=l2
 | [],[],_,_,_,_,_=>rfl
 | [],y::l2,d,h1,h2,n1,n2=>by
  have e1:=h1.head;have e2:=h2.head;rw [e1] at e2;exact absurd (Lu e2) λ e=>n2 (by rw [show c=y from e];exact Lj)
 | x::l1,[],d,h1,h2,n1,n2=>by
  have e1:=h1.head;have e2:=h2.head;rw [e1] at e2;exact absurd (Lu e2) λ e=>n1 (by rw [←show x=c from e];exact Lj)
 | x::l1,y::l2,d,h1,h2,n1,n2=>by
  have e1:=h1.head;have e2:=h2.head;rw [e1] at e2;have e:x=y:=Lu e2;subst e;rw [sD (l1:=l1) (l2:=l2) h1.tail h2.tail (λ h=>n1 (Lg _ h)) (λ h=>n2 (Lg _ h))]
theorem sy{c:Int}{t1 t2:List Int}(h1:eF f (c::t1))(h2:eF f (c::t2)):t1=t2:=by
 obtain⟨_,_,e1,p1,n1⟩:=h1;obtain⟨_,_,e2,p2,n2⟩:=h2;obtain⟨rfl,rfl⟩:=Ml e1;obtain⟨rfl,rfl⟩:=Ml e2;exact sD p1 p2 (LO.mp n1).1 (LO.mp n2).1
theorem eF.from{l:List Int}(h:eF f l){x:Int}(hx:x∈l):∃ t,eF f (x::t)/\(x::t).Perm l:=by
 obtain⟨a,b,rfl⟩:=Nd hx;exact⟨b++a,h.rot,Nv (l₁:=x::b) (l₂:=a)⟩
theorem eh{l1 l2:List Int}(h1:eF f l1)(h2:eF f l2){x:Int}(m1:x∈l1)(m2:x∈l2):l1.Perm l2:=by
 obtain⟨t1,r1,p1⟩:=h1.from m1;obtain⟨t2,r2,p2⟩:=h2.from m2;rw [sy r1 r2] at p1;exact p1.symm.trans p2
theorem eF.within{l:List Int}(h:eF f l){S:Int->Prop}(hs:∀ x d,S x->f x=some d->d∈l->S d){x:Int}(hx:x∈l)(h0:S x):∀ y∈l,S y:=by
 obtain⟨t,r,p⟩:=h.from hx;have hm:∀ y,y∈x::t ↔ y∈l:=λ y=>p.mem_iff;obtain⟨_,_,e,hp,_⟩:=r;obtain⟨rfl,rfl⟩:=Ml e
 have go:∀ (u:List Int) (d:Int),(∀ y∈d::u,y∈l)->Pth f (d::u) x->S d->∀ y∈d::u,S y:=by
  intro u
  induction u with
  | nil=>intro d _ _ hd y hy;rw [Lq.mp hy];exact hd
  | cons z u ih=>
   intro d hl hq hd y hy
   rcases Lz.mp hy with rfl|hy
   ·exact hd
   ·exact ih z (λ y hy=>hl y (Lg _ hy)) hq.2 (hs _ _ hd hq.1 (hl z (by simp))) y hy
 intro y hy;exact go t x (λ y hy=>(hm y).mp hy) hp h0 y ((hm y).mpr hy)
def cU(f:Int->Option Int)(l:List Int):Prop:=eF f l/\2<=l.length/\∀ x∈l,l.headD 0<=x
def fB(f:Int->Option Int)(ks l:List Int):Bool:=ks.all λ c=>decide (c∈l) || !(match f c with|some d=>decide (d∈l)|none=>false)
def bY(f:Int->Option Int)(ks:List Int)(L:List (List Int × Bool)):Prop:=L.Pairwise (λ p q=>p.1.headD 0 < q.1.headD 0)/\(∀ p∈L,cU f p.1/\p.2=fB f ks p.1)/\∀ l,cU f l->∃ b,(l,b)∈L
theorem cU.head_mem{l:List Int}(h:cU f l):l.headD 0∈l:=by
 obtain⟨c,t,rfl,_⟩:=h.1;exact Lj
theorem gP{l1 l2:List Int}(h1:cU f l1)(h2:cU f l2){x:Int}(m1:x∈l1)(m2:x∈l2):l1=l2:=by
 have p:=eh h1.1 h2.1 m1 m2;have a:=h1.2.2 _ (p.mem_iff.mpr h2.head_mem);have b:=h2.2.2 _ (p.mem_iff.mp h1.head_mem);obtain⟨c,t,rfl,hc⟩:=id h1.1;obtain⟨d,u,rfl,hd⟩:=id h2.1;have e:c=d:=Int.le_antisymm a b;subst e;rw [sy h1.1 h2.1]
theorem lN{α:Type}{lt:α->α->Prop}(hi:∀ a,¬ lt a a)(ht:∀ a b c,lt a b->lt b c->lt a c):∀ {l1 l2:List α},l1.Pairwise lt->l2.Pairwise lt->(∀ x,x∈l1 ↔ x∈l2)->l1=l2
 | [],[],_,_,_=>rfl
 | [],y::l2,_,_,h=>absurd ((h y).mpr Lj) Ld
 | x::l1,[],_,_,h=>absurd ((h x).mp Lj) Ld
 | x::l1,y::l2,h1,h2,h=>by
  obtain⟨a1,b1⟩:=MS.mp h1;obtain⟨a2,b2⟩:=MS.mp h2
  have e:x=y:=by
   rcases Lz.mp ((h x).mp Lj) with e|m
   ·exact e
   ·rcases Lz.mp ((h y).mpr Lj) with e|m'
    ·exact e.symm
    ·exact absurd (ht _ _ _ (a1 y m') (a2 x m)) (hi x)
  subst e;refine Mt _ (lN hi ht b1 b2 λ z=>⟨λ m=>?_,λ m=>?_⟩)
  ·rcases Lz.mp ((h z).mp (Lg _ m)) with rfl|m'
   ·exact absurd (a1 _ m) (hi _)
   ·exact m'
  ·rcases Lz.mp ((h z).mpr (Lg _ m)) with rfl|m'
   ·exact absurd (a2 _ m) (hi _)
   ·exact m'
theorem bY.eq{ks:List Int}{L1 L2:List (List Int × Bool)}(h1:bY f ks L1)(h2:bY f ks L2):L1=L2:=by
 refine lN (lt:=λ p q:List Int × Bool=>p.1.headD 0 < q.1.headD 0) (λ _=>Int.lt_irrefl _) (λ _ _ _=>Int.lt_trans) h1.1 h2.1 λ p=>⟨λ m=>?_,λ m=>?_⟩
 ·obtain⟨a,b⟩:=h1.2.1 p m;obtain⟨c,hc⟩:=h2.2.2 p.1 a;have:=(h2.2.1 _ hc).2;rw [show p=(p.1,c) from Prod.ext rfl (b.trans this.symm)];exact hc
 ·obtain⟨a,b⟩:=h2.2.1 p m;obtain⟨c,hc⟩:=h1.2.2 p.1 a;have:=(h1.2.1 _ hc).2;rw [show p=(p.1,c) from Prod.ext rfl (b.trans this.symm)];exact hc
structure yt(f:Int->Option Int)(W:Int->Prop)(Cl:List (List Int)):Prop where
 dom:∀ c,W c->(f c).isSome=true
 clo:∀ c d,W c->f c=some d->(f d).isSome=true->W d
 rng:∀ l∈Cl,cU f l/\∀ x∈l,W x
 all:∀ l,cU f l->W (l.headD 0)->l∈Cl
 nd:(Cl.map λ l=>l.headD 0).Nodup
theorem JL{l:List Int}(h:eF f l)(h2:2<=l.length){a b:List Int}(e:l=a++b){m:Int}(hm:b.head? = some m)(hl:∀ x∈l,m<=x):cU f (b++a):=by
 subst e;refine⟨h.rot,by rw [Ln] at h2 ⊢;omega,λ x hx=>?_⟩;have hx':x∈a++b:=by rw [LJ] at hx ⊢;exact hx.symm
 have:(b++a).headD 0=m:=by
  cases b with
  | nil=>cases hm
  | cons y b=>cases hm;rfl
 rw [this];exact hl x hx'
theorem v8{W:Int->Prop}{Cl:List (List Int)}(S:yt f W Cl){t:List Int}{c:Int}(hp:Pth f t c)(hn:t.Nodup)(hw:∀ x∈t,¬ W x)(hc:c ∉ t)(hs:(f c).isSome=true->W c):yt f (λ x=>W x\/x∈t) Cl:=by
 have no:∀ l,cU f l->∀ h∈l,h∈t->False:=by
  intro l hl h hm ht;obtain⟨a,b,rfl⟩:=Nd ht;have hq:Pth f (h::b) c:=hp.right
  have go:∀ (u:List Int) (d:Int),Pth f (d::u) c->d∈l->c∈l:=by
   intro u
   induction u with
   | nil=>
    intro d hd hdl;obtain⟨e,h1,h2⟩:=hl.1.mem hdl;rw [show f d=some c from hd] at h1;cases h1;exact h2
   | cons z u ih=>
    intro d hd hdl;obtain⟨e,h1,h2⟩:=hl.1.mem hdl;rw [hd.1] at h1;cases h1;exact ih _ hd.2 h2
  have hcl:=go b h hq hm;obtain⟨d,hd,_⟩:=hl.1.mem hcl;have hW:=hs (by rw [hd];rfl);have:=hl.1.within (S:=W) (λ x d hx hfd hdl=>S.clo x d hx hfd (by obtain⟨e,h1,_⟩:=hl.1.mem hdl;rw [h1];rfl)) hcl hW h hm;exact hw h (by simp) this
 refine⟨λ x hx=>hx.elim (S.dom x) λ hx=>?_,λ x d hx hfd hd=>?_,λ l hl=>⟨(S.rng l hl).1,λ x hx=>.inl ((S.rng l hl).2 x hx)⟩,λ l hl hh=>?_,S.nd⟩
 ·obtain⟨d,h1,_⟩:=hp.mem hx;rw [h1];rfl
 ·rcases hx with hx|hx
  ·exact .inl (S.clo x d hx hfd hd)
  ·obtain⟨e,h1,h2⟩:=hp.mem hx;rw [hfd] at h1;cases h1
   rcases h2 with h2|rfl
   ·exact .inr h2
   ·exact .inl (hs hd)
 ·rcases hh with hh|hh
  ·exact S.all l hl hh
  ·exact(no l hl _ hl.head_mem hh).elim
theorem lH{W:Int->Prop}{Cl:List (List Int)}(S:yt f W Cl){a b:List Int}{c:Int}(hp:Pth f (a++c::b) c)(hn:(a++c::b).Nodup)(hw:∀ x∈a++c::b,¬ W x) :
  eF f (c::b)/\(b=[]->yt f (λ x=>W x\/x∈a++c::b) Cl)/\∀ l,cU f l->l.Perm (c::b)->yt f (λ x=>W x\/x∈a++c::b) (Cl++[l]):=by
 have hr:eF f (c::b):=⟨c,b,rfl,hp.right,(L9.mp hn).2.1⟩
 have dom:∀ x,(W x\/x∈a++c::b)->(f x).isSome=true:=λ x hx=>hx.elim (S.dom x) λ hx=>by
  obtain⟨d,h1,_⟩:=hp.mem hx;rw [h1];rfl
 have clo:∀ x d,(W x\/x∈a++c::b)->f x=some d->(f d).isSome=true->(W d\/d∈a++c::b):=by
  intro x d hx hfd hd
  rcases hx with hx|hx
  ·exact .inl (S.clo x d hx hfd hd)
  ·obtain⟨e,h1,h2⟩:=hp.mem hx;rw [hfd] at h1;cases h1
   rcases h2 with h2|rfl
   ·exact .inr h2
   ·exact .inr (by simp)
 have same:∀ l,cU f l->∀ h∈l,h∈a++c::b->c∈l:=by
  intro l hl h hm ht;obtain⟨u,v,e⟩:=Nd ht;have hq:Pth f (h::v) c:=by rw [e] at hp;exact hp.right
  have go:∀ (u:List Int) (d:Int),Pth f (d::u) c->d∈l->c∈l:=by
   intro u
   induction u with
   | nil=>
    intro d hd hdl;obtain⟨e,h1,h2⟩:=hl.1.mem hdl;rw [show f d=some c from hd] at h1;cases h1;exact h2
   | cons z u ih=>
    intro d hd hdl;obtain⟨e,h1,h2⟩:=hl.1.mem hdl;rw [hd.1] at h1;cases h1;exact ih _ hd.2 h2
  exact go v h hq hm
 refine⟨hr,λ hb=>⟨dom,clo,λ l hl=>⟨(S.rng l hl).1,λ x hx=>.inl ((S.rng l hl).2 x hx)⟩,λ l hl hh=>?_,S.nd⟩,λ l hl hlp=>⟨dom,clo,λ l' hl'=>?_,λ l' hl' hh=>?_,?_⟩⟩
 ·rcases hh with hh|hh
  ·exact S.all l hl hh
  ·have hc:=same l hl _ hl.head_mem hh;have p:=eh hl.1 hr hc Lj;have:=p.length_eq;rw [hb] at this;have:=hl.2.1;simp at *;omega
 ·rcases LJ.mp hl' with hl'|hl'
  ·exact⟨(S.rng l' hl').1,λ x hx=>.inl ((S.rng l' hl').2 x hx)⟩
  ·rw [Lq.mp hl'];exact⟨hl,λ x hx=>.inr (Lw _ (hlp.mem_iff.mp hx))⟩
 ·rcases hh with hh|hh
  ·exact Ma _ (S.all l' hl' hh)
  ·have hc:=same l' hl' _ hl'.head_mem hh;rw [gP hl' hl hc (hlp.mem_iff.mpr Lj)];exact Lw _ Lj
 ·rw [LG,L9];refine⟨S.nd,LO.mpr ⟨Ld,Mg⟩,λ x hx y hy e=>?_⟩;obtain⟨l',hl',rfl⟩:=Le.mp hx;rw [LH,OL,Lq] at hy;subst hy;have h1:=(S.rng l' hl').2 _ (S.rng l' hl').1.head_mem;rw [e] at h1;exact hw _ (Lw _ (hlp.mem_iff.mp hl.head_mem)) h1
end
def top(i:Nat):Stmt:=PySem.Challenge.pw_pacehall_k65_rows_leave_the_copy.main.body.getD i (.Pass ⟨0,0,0,0⟩)
abbrev cD:Stmt:=bJ (top 7) 0
abbrev gc:Stmt:=top 9
theorem qR:ah ["thing"] ["thing"] (ae gc):=⟨rfl,rfl,rfl,by decide +kernel,rfl,by decide +kernel,by decide +kernel⟩
abbrev gd:Stmt:=top 12
theorem er:ah ["sizes", "count", "size"] ["sizes"] (ae gd):=⟨rfl,rfl,rfl,by decide +kernel,rfl,by decide +kernel,by decide +kernel⟩
abbrev gb:Stmt:=top 13
theorem cQ:ah ["sizes", "paces", "pace", "size"] ["sizes"] (ae gb):=⟨rfl,rfl,rfl,by decide +kernel,rfl,by decide +kernel,by decide +kernel⟩
abbrev cR:Stmt:=top 14
abbrev jg:Stmt:=top 15
abbrev dc:Stmt:=top 16
theorem kZ:ah ["count"] ["count"] (ae dc):=⟨rfl,rfl,rfl,by decide +kernel,rfl,by decide +kernel,by decide +kernel⟩
abbrev eZ:Stmt:=top 21
theorem oB:ah ["thing", "low", "high"] ["thing", "low", "high"] (ae eZ):=⟨rfl,rfl,rfl,by decide +kernel,rfl,by decide +kernel,by decide +kernel⟩
abbrev ip:Stmt:=top 22
theorem vz:ah ["thing"] ["thing"] (ae ip):=⟨rfl,rfl,rfl,by decide +kernel,rfl,by decide +kernel,by decide +kernel⟩
abbrev iq:Stmt:=top 23
theorem vA:ah ["thing"] ["thing"] (ae iq):=⟨rfl,rfl,rfl,by decide +kernel,rfl,by decide +kernel,by decide +kernel⟩
abbrev eg:Stmt:=top 24
theorem qS:ah ["thing"] ["thing"] (ae eg):=⟨rfl,rfl,rfl,by decide +kernel,rfl,by decide +kernel,by decide +kernel⟩
abbrev eY:Stmt:=top 25
theorem oA:ah ["axis"] ["axis"] (ae eY):=⟨rfl,rfl,rfl,by decide +kernel,rfl,by decide +kernel,by decide +kernel⟩
abbrev bM:Stmt:=bJ (top 26) 0
theorem iT:ah ["self", "room", "first", "axes"] ["self", "room", "first", "axes"] (ae bM):=⟨rfl,rfl,rfl,by decide +kernel,rfl,by decide +kernel,by decide +kernel⟩
abbrev cv:Stmt:=bJ (top 26) 1
theorem mX:ah ["self"] ["self"] (ae cv):=⟨rfl,rfl,rfl,by decide +kernel,rfl,by decide +kernel,by decide +kernel⟩
abbrev gw:Stmt:=bJ (top 26) 2
abbrev dQ:Stmt:=bJ (top 26) 3
theorem mZ:ah ["self"] ["self"] (ae dQ):=⟨rfl,rfl,rfl,by decide +kernel,rfl,by decide +kernel,by decide +kernel⟩
abbrev iE:Stmt:=bJ (top 26) 4
abbrev dR:Stmt:=bJ (top 26) 6
theorem bT:ah ["self", "found", "size", "pace"] ["self"] (ae dR):=⟨rfl,rfl,rfl,by decide +kernel,rfl,by decide +kernel,by decide +kernel⟩
abbrev cw:Stmt:=bJ (top 26) 7
theorem mY:ah ["self"] ["self"] (ae cw):=⟨rfl,rfl,rfl,by decide +kernel,rfl,by decide +kernel,by decide +kernel⟩
abbrev bL:Stmt:=bJ (top 26) 8
theorem iS:ah ["self"] ["self"] (ae bL):=⟨rfl,rfl,rfl,by decide +kernel,rfl,by decide +kernel,by decide +kernel⟩
abbrev fH:Stmt:=top 27
theorem iB:ah ["cells", "size", "pace", "found", "cell"] ["cells", "size", "pace"] (ae fH):=⟨rfl,rfl,rfl,by decide +kernel,rfl,by decide +kernel,by decide +kernel⟩
abbrev fT:Stmt:=top 29
theorem tF:ah ["sizes", "room", "cells"] ["sizes", "room"] (ae fT):=⟨rfl,rfl,rfl,by decide +kernel,rfl,by decide +kernel,by decide +kernel⟩
abbrev cH:Stmt:=top 31
theorem i7:ah ["view", "many"] ["view", "many"] (ae cH):=⟨rfl,rfl,rfl,by decide +kernel,rfl,by decide +kernel,by decide +kernel⟩
abbrev bZ:Stmt:=bJ (top 32) 0
theorem gM:ah ["self", "values"] ["self", "values"] (ae bZ):=⟨rfl,rfl,rfl,by decide +kernel,rfl,by decide +kernel,by decide +kernel⟩
abbrev bN:Stmt:=bJ (top 32) 1
theorem fQ:ah ["self"] ["self"] (ae bN):=⟨rfl,rfl,rfl,by decide +kernel,rfl,by decide +kernel,by decide +kernel⟩
abbrev bz:Stmt:=bJ (top 32) 2
theorem fz:ah ["self", "view"] ["self", "view"] (ae bz):=⟨rfl,rfl,rfl,by decide +kernel,rfl,by decide +kernel,by decide +kernel⟩
abbrev gx:Stmt:=bJ (top 32) 3
abbrev ff:Stmt:=bJ (top 32) 4
theorem fx:ah ["self", "view", "values", "cell", "value"] ["self", "view", "values"] (ae ff):=⟨rfl,rfl,rfl,by decide +kernel,rfl,by decide +kernel,by decide +kernel⟩
abbrev eX:Stmt:=top 34
theorem c8:ah ["found", "start", "walked", "trail", "cell"] ["found", "start", "walked"] (ae eX):=⟨rfl,rfl,rfl,by decide +kernel,rfl,by decide +kernel,by decide +kernel⟩
abbrev df:Stmt:=top 35
theorem fP:ah ["ring", "at"] ["ring"] (ae df):=⟨rfl,rfl,rfl,by decide +kernel,rfl,by decide +kernel,by decide +kernel⟩
abbrev bx:Stmt:=top 36
theorem aT:ah ["found", "ring_of", "drawn", "cell", "origin"] ["found", "ring_of"] (ae bx):=⟨rfl,rfl,rfl,by decide +kernel,rfl,by decide +kernel,by decide +kernel⟩
abbrev jK:Stmt:=top 37
theorem cW:ah ["found", "walked", "ring_of", "closed", "start", "ring", "cell", "drawn", "told"] ["found"] (ae jK):=⟨rfl,rfl,rfl,by decide +kernel,rfl,by decide +kernel,by decide +kernel⟩
abbrev dN:Stmt:=top 38
theorem mV:ah ["ring"] ["ring"] (ae dN):=⟨rfl,rfl,rfl,by decide +kernel,rfl,by decide +kernel,by decide +kernel⟩
abbrev dM:Stmt:=top 41
theorem cA:ah ["found", "readers", "cell", "origin"] ["found"] (ae dM):=⟨rfl,rfl,rfl,by decide +kernel,rfl,by decide +kernel,by decide +kernel⟩
abbrev aR:Stmt:=top 42
theorem aC:ah ["found", "readers", "free", "rows", "cell", "origin"] ["found"] (ae aR):=⟨rfl,rfl,rfl,by decide +kernel,rfl,by decide +kernel,by decide +kernel⟩
abbrev dJ:Stmt:=top 43
theorem cz:ah ["ring", "elsewhere", "rows", "cell", "origin"] ["ring", "elsewhere"] (ae dJ):=⟨rfl,rfl,rfl,by decide +kernel,rfl,by decide +kernel,by decide +kernel⟩
abbrev ef:Stmt:=top 44
theorem bE:ah ["found", "rows", "kept", "origin", "cell", "ring", "bare", "at"] ["found"] (ae ef):=⟨rfl,rfl,rfl,by decide +kernel,rfl,by decide +kernel,by decide +kernel⟩
abbrev fZ:Stmt:=top 45
theorem cP:ah ["store", "rows", "values", "many", "origin", "cell"] ["store", "rows"] (ae fZ):=⟨rfl,rfl,rfl,by decide +kernel,rfl,by decide +kernel,by decide +kernel⟩
abbrev fe:Stmt:=top 47
theorem da:ah ["_law_script", "_law_k", "_law_many", "_law_number", "_law_cell"] ["_law_script", "_law_k", "_law_many"] (ae fe):=⟨rfl,rfl,rfl,by decide +kernel,rfl,by decide +kernel,by decide +kernel⟩
abbrev dO:Stmt:=top 48
theorem mW:ah ["_law_found_here"] ["_law_found_here"] (ae dO):=⟨rfl,rfl,rfl,by decide +kernel,rfl,by decide +kernel,by decide +kernel⟩
abbrev cq:Stmt:=top 49
theorem cB:ah ["_law_script", "_law_by", "_law_first", "_law_apart"] ["_law_script"] (ae cq):=⟨rfl,rfl,rfl,by decide +kernel,rfl,by decide +kernel,by decide +kernel⟩
abbrev dg:Stmt:=top 50
theorem bf:ah ["_law_script", "_law_many", "_law_found_here", "_law_begin", "_law_end", "_law_k"] ["_law_script", "_law_many"] (ae dg):=⟨rfl,rfl,rfl,by decide +kernel,rfl,by decide +kernel,by decide +kernel⟩
abbrev cu:Stmt:=top 51
theorem aG:ah ["_law_script", "_law_many", "_law_way", "_law_order", "_law_found_here", "_law_k", "_law_names_here", "_law_told"] ["_law_script"] (ae cu):=⟨rfl,rfl,rfl,by decide +kernel,rfl,by decide +kernel,by decide +kernel⟩
abbrev fb:Stmt:=top 52
theorem bw:ah ["_law_script", "_law_many", "_law_found_here", "_law_k", "_law_way", "_law_turned"] ["_law_script"] (ae fb):=⟨rfl,rfl,rfl,by decide +kernel,rfl,by decide +kernel,by decide +kernel⟩
abbrev cb:Stmt:=top 53
theorem dW:ah ["_law_rows", "_law_row"] ["_law_rows"] (ae cb):=⟨rfl,rfl,rfl,by decide +kernel,rfl,by decide +kernel,by decide +kernel⟩
abbrev gf:Stmt:=top 54
theorem gg:ah ["_law_rows", "_law_held", "_law_first", "_law_last"] ["_law_rows", "_law_held"] (ae gf):=⟨rfl,rfl,rfl,by decide +kernel,rfl,by decide +kernel,by decide +kernel⟩
abbrev dP:Stmt:=top 55
theorem dU:ah ["_law_rows", "_law_found_here", "_law_held", "_law_cell"] ["_law_rows", "_law_found_here"] (ae dP):=⟨rfl,rfl,rfl,by decide +kernel,rfl,by decide +kernel,by decide +kernel⟩
abbrev cf:Stmt:=top 56
theorem cg:ah ["_law_rows", "_law_values", "_law_due", "_law_store", "_law_handed"] ["_law_rows", "_law_values", "_law_due"] (ae cf):=⟨rfl,rfl,rfl,by decide +kernel,rfl,by decide +kernel,by decide +kernel⟩
abbrev cc:Stmt:=top 57
theorem ba:ah ["_law_script", "_law_room", "_law_rows", "_law_k", "_law_cell", "_law_first"] ["_law_script", "_law_room"] (ae cc):=⟨rfl,rfl,rfl,by decide +kernel,rfl,by decide +kernel,by decide +kernel⟩
abbrev bt:Stmt:=top 58
theorem aH:ah ["_law_own", "_law_values", "_law_store", "_law_held", "_law_cell", "_law_k"] ["_law_own", "_law_values"] (ae bt):=⟨rfl,rfl,rfl,by decide +kernel,rfl,by decide +kernel,by decide +kernel⟩
abbrev gE:Stmt:=top 59
theorem jE:ah ["_law_script", "_law_found_here", "_law_handed", "_law_rows", "_law_kept", "_law_again", "_law_room", "_law_values"] ["_law_script"] (ae gE):=⟨rfl,rfl,rfl,by decide +kernel,rfl,by decide +kernel,by decide +kernel⟩
set_option genInjectivity false in
structure Adr where
 a_PaceError:Addr
 a_NoPlace:Addr
 a_NoCells:Addr
 a_NoView:Addr
 a_NoCount:Addr
 a_TooMany:Addr
 a_View:Addr
 a_Store:Addr
 a_TooMany___init__:Addr
 d_TooMany___init__:FuncData
 a_is_whole:Addr
 d_is_whole:FuncData
 a_count_of:Addr
 d_count_of:FuncData
 a_paces_of:Addr
 d_paces_of:FuncData
 a_is_number_below:Addr
 d_is_number_below:FuncData
 a_is_place:Addr
 d_is_place:FuncData
 a_refuse_long:Addr
 d_refuse_long:FuncData
 a_is_within:Addr
 d_is_within:FuncData
 a_is_size:Addr
 d_is_size:FuncData
 a_is_axis:Addr
 d_is_axis:FuncData
 a_are_axes:Addr
 d_are_axes:FuncData
 a_kept_axis:Addr
 d_kept_axis:FuncData
 a_View___init__:Addr
 d_View___init__:FuncData
 a_View_sizes:Addr
 d_View_sizes:FuncData
 a_View_paces:Addr
 d_View_paces:FuncData
 a_View_count:Addr
 d_View_count:FuncData
 a_View_cell:Addr
 d_View_cell:FuncData
 a_View_cells:Addr
 d_View_cells:FuncData
 a_View_least:Addr
 d_View_least:FuncData
 a_View_greatest:Addr
 d_View_greatest:FuncData
 a_widened:Addr
 d_widened:FuncData
 a_whole:Addr
 d_whole:FuncData
 a_refuse_count:Addr
 d_refuse_count:FuncData
 a_Store___init__:Addr
 d_Store___init__:FuncData
 a_Store_all_values:Addr
 d_Store_all_values:FuncData
 a_Store_refuse_room:Addr
 d_Store_refuse_room:FuncData
 a_Store_read:Addr
 d_Store_read:FuncData
 a_Store_put:Addr
 d_Store_put:FuncData
 a_ring_from:Addr
 d_ring_from:FuncData
 a_least_first:Addr
 d_least_first:FuncData
 a_drawn_from_beyond:Addr
 d_drawn_from_beyond:FuncData
 a_rings:Addr
 d_rings:FuncData
 a_first_cell:Addr
 d_first_cell:FuncData
 a_readers_of:Addr
 d_readers_of:FuncData
 a_rows_beside_rings:Addr
 d_rows_beside_rings:FuncData
 a_rows_round:Addr
 d_rows_round:FuncData
 a_rows_for:Addr
 d_rows_for:FuncData
 a_run_rows:Addr
 d_run_rows:FuncData
 a__law_draw:Addr
 d__law_draw:FuncData
 a__law_whole:Addr
 d__law_whole:FuncData
 a__law_names:Addr
 d__law_names:FuncData
 a__law_blocks:Addr
 d__law_blocks:FuncData
 a__law_found:Addr
 d__law_found:FuncData
 a__law_long:Addr
 d__law_long:FuncData
 a__law_rows_are:Addr
 d__law_rows_are:FuncData
 a__law_run:Addr
 d__law_run:FuncData
 a__law_leave:Addr
 d__law_leave:FuncData
 a__law_on_store:Addr
 d__law_on_store:FuncData
 a__law_own_rows:Addr
 d__law_own_rows:FuncData
 a__law_own_right:Addr
 d__law_own_right:FuncData
 a_law:Addr
 d_law:FuncData
structure Tx(K:W.Frag)(mg:Str->Option Value)(t:Adr):Prop where
 m_PaceError:mg "PaceError"=some (.ref t.a_PaceError)
 m_NoPlace:mg "NoPlace"=some (.ref t.a_NoPlace)
 m_NoCells:mg "NoCells"=some (.ref t.a_NoCells)
 m_NoView:mg "NoView"=some (.ref t.a_NoView)
 m_NoCount:mg "NoCount"=some (.ref t.a_NoCount)
 m_TooMany:mg "TooMany"=some (.ref t.a_TooMany)
 m_View:mg "View"=some (.ref t.a_View)
 m_Store:mg "Store"=some (.ref t.a_Store)
 m_MOST_TOLD:∃ tk,mg "MOST_TOLD"=some (.int 4096 tk)
 m_MOST_ROOM:∃ tk,mg "MOST_ROOM"=some (.int 1000000000000000000 tk)
 m_MOST_SIZE:∃ tk,mg "MOST_SIZE"=some (.int 1000000000 tk)
 m_MOST_AXES:∃ tk,mg "MOST_AXES"=some (.int 8 tk)
 m_SPARE:∃ tk,mg "SPARE"=some (.int (-1) tk)
 oi_TooMany:KU K t.a_TooMany t.a_TooMany___init__
 tk_TooMany_number:W.takerIn K t.a_TooMany "number"=some none
 na_TooMany_number:cp K t.a_TooMany "number"
 bi_PaceError:JC K t.a_PaceError
 cl_View:Cls K t.a_View
 na_View_axes:cp K t.a_View "axes"
 na_View_first:cp K t.a_View "first"
 na_View_room:cp K t.a_View "room"
 mk_View:Mk K t.a_View t.a_View___init__
 mt_View_sizes:m6 K t.a_View "sizes" t.a_View_sizes
 mt_View_paces:m6 K t.a_View "paces" t.a_View_paces
 mt_View_count:m6 K t.a_View "count" t.a_View_count
 mt_View_cell:m6 K t.a_View "cell" t.a_View_cell
 mt_View_cells:m6 K t.a_View "cells" t.a_View_cells
 mt_View_least:m6 K t.a_View "least" t.a_View_least
 mt_View_greatest:m6 K t.a_View "greatest" t.a_View_greatest
 cl_Store:Cls K t.a_Store
 na_Store_floor:cp K t.a_Store "floor"
 mk_Store:Mk K t.a_Store t.a_Store___init__
 mt_Store_all_values:m6 K t.a_Store "all_values" t.a_Store_all_values
 mt_Store_refuse_room:m6 K t.a_Store "refuse_room" t.a_Store_refuse_room
 mt_Store_read:m6 K t.a_Store "read" t.a_Store_read
 mt_Store_put:m6 K t.a_Store "put" t.a_Store_put
 F_TooMany___init__:Fun K "__init__" "TooMany.__init__" cD t.a_TooMany___init__ t.d_TooMany___init__
 b_TooMany___init__:au K t.d_TooMany___init__ ["self", "number"] []
 F_is_whole:Fun K "is_whole" "is_whole" gc t.a_is_whole t.d_is_whole
 m_is_whole:mg "is_whole"=some (.ref t.a_is_whole)
 b_is_whole:au K t.d_is_whole ["thing"] []
 F_count_of:Fun K "count_of" "count_of" gd t.a_count_of t.d_count_of
 m_count_of:mg "count_of"=some (.ref t.a_count_of)
 b_count_of:au K t.d_count_of ["sizes"] []
 F_paces_of:Fun K "paces_of" "paces_of" gb t.a_paces_of t.d_paces_of
 m_paces_of:mg "paces_of"=some (.ref t.a_paces_of)
 b_paces_of:au K t.d_paces_of ["sizes"] []
 F_is_number_below:Fun K "is_number_below" "is_number_below" cR t.a_is_number_below t.d_is_number_below
 m_is_number_below:mg "is_number_below"=some (.ref t.a_is_number_below)
 b_is_number_below:au K t.d_is_number_below ["thing", "bound"] []
 F_is_place:Fun K "is_place" "is_place" jg t.a_is_place t.d_is_place
 m_is_place:mg "is_place"=some (.ref t.a_is_place)
 b_is_place:au K t.d_is_place ["sizes", "thing"] []
 F_refuse_long:Fun K "refuse_long" "refuse_long" dc t.a_refuse_long t.d_refuse_long
 m_refuse_long:mg "refuse_long"=some (.ref t.a_refuse_long)
 b_refuse_long:au K t.d_refuse_long ["count"] []
 F_is_within:Fun K "is_within" "is_within" eZ t.a_is_within t.d_is_within
 m_is_within:mg "is_within"=some (.ref t.a_is_within)
 b_is_within:au K t.d_is_within ["thing", "low", "high"] []
 F_is_size:Fun K "is_size" "is_size" ip t.a_is_size t.d_is_size
 m_is_size:mg "is_size"=some (.ref t.a_is_size)
 b_is_size:au K t.d_is_size ["thing"] []
 F_is_axis:Fun K "is_axis" "is_axis" iq t.a_is_axis t.d_is_axis
 m_is_axis:mg "is_axis"=some (.ref t.a_is_axis)
 b_is_axis:au K t.d_is_axis ["thing"] []
 F_are_axes:Fun K "are_axes" "are_axes" eg t.a_are_axes t.d_are_axes
 m_are_axes:mg "are_axes"=some (.ref t.a_are_axes)
 b_are_axes:au K t.d_are_axes ["thing"] []
 F_kept_axis:Fun K "kept_axis" "kept_axis" eY t.a_kept_axis t.d_kept_axis
 m_kept_axis:mg "kept_axis"=some (.ref t.a_kept_axis)
 b_kept_axis:au K t.d_kept_axis ["axis"] []
 F_View___init__:Fun K "__init__" "View.__init__" bM t.a_View___init__ t.d_View___init__
 b_View___init__:au K t.d_View___init__ ["self", "room", "first", "axes"] []
 F_View_sizes:Fun K "sizes" "View.sizes" cv t.a_View_sizes t.d_View_sizes
 b_View_sizes:au K t.d_View_sizes ["self"] []
 F_View_paces:Fun K "paces" "View.paces" gw t.a_View_paces t.d_View_paces
 b_View_paces:au K t.d_View_paces ["self"] []
 F_View_count:Fun K "count" "View.count" dQ t.a_View_count t.d_View_count
 b_View_count:au K t.d_View_count ["self"] []
 F_View_cell:Fun K "cell" "View.cell" iE t.a_View_cell t.d_View_cell
 b_View_cell:au K t.d_View_cell ["self", "place"] []
 F_View_cells:Fun K "cells" "View.cells" dR t.a_View_cells t.d_View_cells
 b_View_cells:au K t.d_View_cells ["self"] []
 F_View_least:Fun K "least" "View.least" cw t.a_View_least t.d_View_least
 b_View_least:au K t.d_View_least ["self"] []
 F_View_greatest:Fun K "greatest" "View.greatest" bL t.a_View_greatest t.d_View_greatest
 b_View_greatest:au K t.d_View_greatest ["self"] []
 F_widened:Fun K "widened" "widened" fH t.a_widened t.d_widened
 m_widened:mg "widened"=some (.ref t.a_widened)
 b_widened:au K t.d_widened ["cells", "size", "pace"] []
 F_whole:Hh K "whole" "whole" fT t.a_whole t.d_whole
 m_whole:mg "whole"=some (.ref t.a_whole)
 b_whole:au K t.d_whole ["sizes", "room"] []
 b_whole_1:au K t.d_whole ["sizes", "room"] [Value.none]
 F_refuse_count:Fun K "refuse_count" "refuse_count" cH t.a_refuse_count t.d_refuse_count
 m_refuse_count:mg "refuse_count"=some (.ref t.a_refuse_count)
 b_refuse_count:au K t.d_refuse_count ["view", "many"] []
 F_Store___init__:Fun K "__init__" "Store.__init__" bZ t.a_Store___init__ t.d_Store___init__
 b_Store___init__:au K t.d_Store___init__ ["self", "values"] []
 F_Store_all_values:Fun K "all_values" "Store.all_values" bN t.a_Store_all_values t.d_Store_all_values
 b_Store_all_values:au K t.d_Store_all_values ["self"] []
 F_Store_refuse_room:Fun K "refuse_room" "Store.refuse_room" bz t.a_Store_refuse_room t.d_Store_refuse_room
 b_Store_refuse_room:au K t.d_Store_refuse_room ["self", "view"] []
 F_Store_read:Fun K "read" "Store.read" gx t.a_Store_read t.d_Store_read
 b_Store_read:au K t.d_Store_read ["self", "view"] []
 F_Store_put:Fun K "put" "Store.put" ff t.a_Store_put t.d_Store_put
 b_Store_put:au K t.d_Store_put ["self", "view", "values"] []
 F_ring_from:Fun K "ring_from" "ring_from" eX t.a_ring_from t.d_ring_from
 m_ring_from:mg "ring_from"=some (.ref t.a_ring_from)
 b_ring_from:au K t.d_ring_from ["found", "start", "walked"] []
 F_least_first:Fun K "least_first" "least_first" df t.a_least_first t.d_least_first
 m_least_first:mg "least_first"=some (.ref t.a_least_first)
 b_least_first:au K t.d_least_first ["ring"] []
 F_drawn_from_beyond:Fun K "drawn_from_beyond" "drawn_from_beyond" bx t.a_drawn_from_beyond t.d_drawn_from_beyond
 m_drawn_from_beyond:mg "drawn_from_beyond"=some (.ref t.a_drawn_from_beyond)
 b_drawn_from_beyond:au K t.d_drawn_from_beyond ["found", "ring_of"] []
 F_rings:Fun K "rings" "rings" jK t.a_rings t.d_rings
 m_rings:mg "rings"=some (.ref t.a_rings)
 b_rings:au K t.d_rings ["found"] []
 F_first_cell:Fun K "first_cell" "first_cell" dN t.a_first_cell t.d_first_cell
 m_first_cell:mg "first_cell"=some (.ref t.a_first_cell)
 b_first_cell:au K t.d_first_cell ["ring"] []
 F_readers_of:Fun K "readers_of" "readers_of" dM t.a_readers_of t.d_readers_of
 m_readers_of:mg "readers_of"=some (.ref t.a_readers_of)
 b_readers_of:au K t.d_readers_of ["found"] []
 F_rows_beside_rings:Fun K "rows_beside_rings" "rows_beside_rings" aR t.a_rows_beside_rings t.d_rows_beside_rings
 m_rows_beside_rings:mg "rows_beside_rings"=some (.ref t.a_rows_beside_rings)
 b_rows_beside_rings:au K t.d_rows_beside_rings ["found"] []
 F_rows_round:Fun K "rows_round" "rows_round" dJ t.a_rows_round t.d_rows_round
 m_rows_round:mg "rows_round"=some (.ref t.a_rows_round)
 b_rows_round:au K t.d_rows_round ["ring", "elsewhere"] []
 F_rows_for:Fun K "rows_for" "rows_for" ef t.a_rows_for t.d_rows_for
 m_rows_for:mg "rows_for"=some (.ref t.a_rows_for)
 b_rows_for:au K t.d_rows_for ["found"] []
 F_run_rows:Fun K "run_rows" "run_rows" fZ t.a_run_rows t.d_run_rows
 m_run_rows:mg "run_rows"=some (.ref t.a_run_rows)
 b_run_rows:au K t.d_run_rows ["store", "rows"] []
 F__law_draw:Fun K "_law_draw" "_law_draw" fe t.a__law_draw t.d__law_draw
 m__law_draw:mg "_law_draw"=some (.ref t.a__law_draw)
 b__law_draw:au K t.d__law_draw ["_law_script", "_law_k", "_law_many"] []
 F__law_whole:Fun K "_law_whole" "_law_whole" dO t.a__law_whole t.d__law_whole
 m__law_whole:mg "_law_whole"=some (.ref t.a__law_whole)
 b__law_whole:au K t.d__law_whole ["_law_found_here"] []
 F__law_names:Fun K "_law_names" "_law_names" cq t.a__law_names t.d__law_names
 m__law_names:mg "_law_names"=some (.ref t.a__law_names)
 b__law_names:au K t.d__law_names ["_law_script"] []
 F__law_blocks:Fun K "_law_blocks" "_law_blocks" dg t.a__law_blocks t.d__law_blocks
 m__law_blocks:mg "_law_blocks"=some (.ref t.a__law_blocks)
 b__law_blocks:au K t.d__law_blocks ["_law_script", "_law_many"] []
 F__law_found:Fun K "_law_found" "_law_found" cu t.a__law_found t.d__law_found
 m__law_found:mg "_law_found"=some (.ref t.a__law_found)
 b__law_found:au K t.d__law_found ["_law_script"] []
 F__law_long:Fun K "_law_long" "_law_long" fb t.a__law_long t.d__law_long
 m__law_long:mg "_law_long"=some (.ref t.a__law_long)
 b__law_long:au K t.d__law_long ["_law_script"] []
 F__law_rows_are:Fun K "_law_rows_are" "_law_rows_are" cb t.a__law_rows_are t.d__law_rows_are
 m__law_rows_are:mg "_law_rows_are"=some (.ref t.a__law_rows_are)
 b__law_rows_are:au K t.d__law_rows_are ["_law_rows"] []
 F__law_run:Fun K "_law_run" "_law_run" gf t.a__law_run t.d__law_run
 m__law_run:mg "_law_run"=some (.ref t.a__law_run)
 b__law_run:au K t.d__law_run ["_law_rows", "_law_held"] []
 F__law_leave:Fun K "_law_leave" "_law_leave" dP t.a__law_leave t.d__law_leave
 m__law_leave:mg "_law_leave"=some (.ref t.a__law_leave)
 b__law_leave:au K t.d__law_leave ["_law_rows", "_law_found_here"] []
 F__law_on_store:Fun K "_law_on_store" "_law_on_store" cf t.a__law_on_store t.d__law_on_store
 m__law_on_store:mg "_law_on_store"=some (.ref t.a__law_on_store)
 b__law_on_store:au K t.d__law_on_store ["_law_rows", "_law_values", "_law_due"] []
 F__law_own_rows:Fun K "_law_own_rows" "_law_own_rows" cc t.a__law_own_rows t.d__law_own_rows
 m__law_own_rows:mg "_law_own_rows"=some (.ref t.a__law_own_rows)
 b__law_own_rows:au K t.d__law_own_rows ["_law_script", "_law_room"] []
 F__law_own_right:Fun K "_law_own_right" "_law_own_right" bt t.a__law_own_right t.d__law_own_right
 m__law_own_right:mg "_law_own_right"=some (.ref t.a__law_own_right)
 b__law_own_right:au K t.d__law_own_right ["_law_own", "_law_values"] []
 F_law:Fun K "law" "law" gE t.a_law t.d_law
 m_law:mg "law"=some (.ref t.a_law)
 b_law:au K t.d_law ["_law_script"] []
 z_ValueError:mg "ValueError"=none
 z_all:mg "all"=none
 z_any:mg "any"=none
 z_bool:mg "bool"=none
 z_dict:mg "dict"=none
 z_int:mg "int"=none
 z_isinstance:mg "isinstance"=none
 z_len:mg "len"=none
 z_list:mg "list"=none
 z_max:mg "max"=none
 z_min:mg "min"=none
 z_range:mg "range"=none
 z_reversed:mg "reversed"=none
 z_sorted:mg "sorted"=none
 z_sum:mg "sum"=none
 z_tuple:mg "tuple"=none
 z_zip:mg "zip"=none
local macro_rules | `(tactic| trivial) => `(tactic| first | exact Or.inl rfl | exact Or.inr rfl | exact Or.inr (Or.inl rfl) | exact Or.inr (Or.inr rfl) | assumption)
local macro_rules | `(tactic| simp! only [$xs,*]) => do
  let ys := xs.getElems.map λ x => (⟨x.raw⟩ : Lean.TSyntax `Lean.Parser.Tactic.simpLemma)
  let zs ← ("↓reduceIte ↓iu ↓CF ↓CD ↓CC ↓CB ↓CA ↓Cz ↓Cy ↓Cw ↓Cv ↓Fq ↓Jh ↓IP ↓Kz ↓Jb ↓IK ↓qr ↓og ↓Fs ↓EY ↓FT ↓E5 ↓Jg ↓IM ↓Fz ↓IS ↓FJ ↓EZ ↓xr ↓B4 ↓Br ↓uM ↓uL ↓uK ↓Bt ↓Jm ↓IT ↓Bo ↓EW ↓EX ↓B3 ↓Bp ↓Fy ↓jb ↓FQ ↓E4 ↓Jk ↓Fv ↓Fd ↓Fx ↓Jj ↓IV ↓Fb ↓E9 ↓qt ↓oi ↓mQ ↓oh ↓uH ↓uG ↓uF ↓uD ↓uC ↓uz ↓uB ↓uA ↓uy ↓ux ↓uE ↓FN ↓Jn ↓IU ↓FL ↓E3 ↓FR ↓uu ↓Fp ↓qq ↓BS ↓Fm ↓By ↓xn ↓xo ↓FX ↓Jl ↓IW ↓fV ↓E1 ↓Jd ↓Cc ↓Jc ↓Cb ↓uJ ↓FA ↓FV ↓Ja ↓zZ ↓EJ ↓Bs ↓BP ↓Bl ↓FY ↓jr ↓jq ↓kW ↓xp ↓xq ↓FE ↓qu ↓kR ↓kU ↓kT ↓sJ ↓uI ↓Fi ↓Fj ↓Fl ↓IL ↓uq ↓BU ↓Bm ↓Je ↓Jf ↓E7 ↓Fc ↓KD ↓BH ↓Ft ↓Fu ↓Fh ↓Ji ↓IX ↓BJ ↓Fn ↓Fo ↓FW ↓BN ↓E8 ↓FK ↓Ca ↓Ff ↓BL ↓BM ↓I0 ↓FU ↓bo ↓aV ↓jP ↓Bx ↓Bw ↓BZ ↓B0 ↓FD ↓Fg ↓BO ↓BQ ↓BR ↓BD ↓qx ↓qw ↓qv ↓xk ↓BW ↓BF ↓BX ↓uw ↓uv ↓BG ↓xl ↓xm ↓Fw ↓IQ ↓FI ↓xh ↓Bz ↓BA ↓B1 ↓B2 ↓ur ↓FH ↓Bq ↓FF ↓FG ↓Bv ↓EV ↓EU ↓ET ↓ES ↓ER ↓EO ↓EN ↓EM ↓EL ↓EK ↓IZ ↓KC ↓KA ↓xj ↓BC ↓B9 ↓BK ↓BV ↓BE ↓B5 ↓B6 ↓B7 ↓xi ↓Ce ↓xu ↓Cd ↓BB ↓xg ↓FC ↓xf ↓FO ↓FP ↓E2 ↓B8 ↓Fe ↓BY ↓BI ↓Bu ↓xt iu cE ay rj wA wz xv wt qT ag Au Aw Av Az Eh AA Ax Ay wj xU KQ Jz Jy x5 jt fq cC CY CW Option.isSome_some Option.isSome_none Option.map_some List.length_cons List.length_nil List.length_map List.map_cons List.map_nil and_true true_and and_self implies_true reduceCtorEq decide_true decide_false Bool.not_true Bool.not_false if_true if_false decide_eq_true_eq Bool.false_eq_true Bool.not_eq_true' decide_eq_false_iff_not Bool.and_true Bool.true_and Bool.and_self Bool.and_eq_true Int.reduceToNat Int.reducePow Int.reduceMul Int.reduceAdd Int.reduceSub Int.reduceNeg Int.reduceLT Int.reduceLE Int.reduceEq Int.reduceNe Int.reduceDiv Int.reduceMod Nat.reduceAdd Nat.reduceLeDiff Nat.reduceLT Nat.reduceMul Nat.reducePow gt_iff_lt ge_iff_le ne_eq false_implies true_implies eq_self String.reduceEq Int.cast_ofNat_Int not_true_eq_false not_false_eq_true false_and and_false List.cons_append List.nil_append List.append_nil Jq".splitOn " ").toArray.mapM λ s => if s.startsWith "↓" then `(Lean.Parser.Tactic.simpLemma| ↓ $(Lean.mkIdent (s.replace "↓" "").toName):ident) else `(Lean.Parser.Tactic.simpLemma| $(Lean.mkIdent s.toName):ident)
  `(tactic| simp (config := { failIfUnchanged := false, maxDischargeDepth := 30, maxSteps := 10000000 }) only [$zs,*, $ys,*, *])
local macro_rules | `(%[$xs,*|$k:num]) => do
  let a := xs.getElems
  let s (i : Nat) : String := a[i]!.raw.getId.toString
  let I (n : String) : Lean.TSyntax `term := ⟨(Lean.mkIdent n.toName).raw⟩
  match k.getNat with
  | 41 => `($(a[0]!) (P := $(I "P")) (w := $(I "w")) (base := $(I "base")) $(I "T"))
  | 0 => `(@pvN _ $(a[0]!) _ _ (by rfl) (by trivial) (by decide) (by decide))
  | 1 => if a.size = 1 then `(@Dl _ _ _ _ _ $(a[0]!) (@cM _) (by rfl)) else `(@Dl _ _ _ _ _ $(a[0]!) $(a[1]!) (by rfl))
  | 2 => `(@dB _ _ _ _)
  | 7 => `(by trivial)
  | 8 => `(by omega)
  | 3 => `(@sG _ _ _ _ _ _ _ _ _ _ _ _ _ _ _ _ $(I ("G_" ++ s 0)) ($(I "hr.mono") (by decide)) (by rfl) $(I ("T.m_" ++ s 0)) $(I ("T.F_" ++ s 0 ++ ".kp")) $(I ("T.b_" ++ s 0)) .nil eA $(a[1]!) (by decide) (by rfl) (by rfl))
  | 4 => `(@b8 _ _ $(a[0]!) _ _ _ _ ($(a[1]!)).nd rfl (Or.inl rfl) $(a[2]!) (by rfl) (by trivial))
  | 5 => `(@sF _ _ $(a[0]!) _ ($(a[1]!)).nd rfl (Or.inl rfl) (by trivial))
  | 6 => `(@gR _ _ _ _ _ _ _ $(Lean.Syntax.mkStrLit (s 0)) _ $(a[1]!) (by rfl) $(I ("T.z_" ++ s 0)) (by decide +kernel) $(a[2]!) (by decide) (by decide) (by rfl) (by rfl))
  | 9 => `(@fF _ _ _ _ _ $(a)*)
  | 10 => `(@jL _ _ _ $(a)*)
  | 11 => `(@dA _ _ _ _ _ _ _ _ $(a)*)
  | 12 => `(@rW _ _ _ _ $(a)*)
  | 13 => `(@wK _ _ _ _ _ _ _ _ $(a)*)
  | 14 => `(@zN _ _ _ _ _ _ _ _ $(a)*)
  | 15 => `(@zO _ _ _ _ _ _ _ $(a)*)
  | 16 => `(@Er _ _ _ _ _ _ _ _ $(a)*)
  | 17 => `(@uf _ _ _ _ _ $(a)*)
  | 18 => `(@sF _ _ $(a)*)
  | 19 => `(@AS _ _ _ _ $(a)*)
  | 20 => `(@AU _ _ _ _ _ _ _ _ _ $(a)*)
  | 21 => `(@yF _ _ _ _ $(a)*)
  | 22 => `(@Iz _ _ _ _ _ _ _ _ _ _ _ _ $(a)*)
  | 23 => `(@eu _ _ _ $(a)*)
  | 24 => `(@A7 _ _ _ _ _ _ _ _ _ _ _ $(a)*)
  | 25 => `(@A1 _ _ _ _ $(a)*)
  | 26 => `(@Iy _ _ _ _ _ _ _ $(a)*)
  | 27 => `(@AR _ _ _ $(a)*)
  | 28 => `(@Eu _ _ _ _ _ $(a)*)
  | 29 => `(@Ep _ _ _ _ $(a)*)
  | 30 => `(@A2 _ _ _ _ _ $(a)*)
  | 31 => `(@ue _ _ _ _ _ _ $(a)*)
  | 32 => `(@ui _ _ _ _ _ _ _ _ _ $(a)*)
  | 33 => `(@A6 _ _ _ _ _ _ $(a)*)
  | 34 => `(@ug _ _ _ _ _ _ _ _ _ _ _ _ _ _ _ _ _ $(a)*)
  | 35 => `(@A9 _ _ _ _ _ _ _ $(a)*)
  | 36 => `(@A0 _ _ _ _ _ $(a)*)
  | 37 => `(@wM _ _ _ _ _ _ _ _ _ _ $(a)*)
  | 38 => `(@A8 _ _ _ _ _ _ _ _ $(a)*)
  | 39 => `(@wQ _ _ _ _ _ _ _ _ _ $(a)*)
  | 40 => `(@wN _ _ _ _ _ _ _ _ _ _ _ _ _ _ _ _ _ $(a)*)
  | _ => Lean.Macro.throwUnsupported
local macro_rules | `(∅) => `(by rfl)
local macro_rules | `(⋯) => `(by decide)
local macro_rules | `(nofun) => `(by decide +kernel)
local macro_rules | `(tactic| ac_rfl) => `(tactic| simp! only [and_true])
local macro_rules | `(tactic| exists $x:ident) => `(tactic| replace $x := λ (_ : Unit) => $x)
section
variable {P:Program}{w:World}{K:PySem.W.Frag}{mg:Str->Option Value}{base:Heap}{t:Adr}
def bV(ns:List Int)(k m:Int):Int:=(if k < (ns.length:Int) then ns.getD k.toNat 0 else (if 0 < (ns.length:Int) then ns.getD (k % (ns.length:Int)).toNat 0 % 999999937 * (48271+2 * k * k)+k * 69621 else k * k * 7919+104729) % 2147483647 * 16807 % 2147483629) % m
theorem sT{ns:List Int}{k z:Int}(h0:0<=k)(h1:k < (ns.length:Int))(hz:atI (ns.map V.int) k=some (.int z)):ns.getD k.toNat 0=z:=by
 obtain⟨n,rfl⟩:=Nn h0;have hn:n < ns.length:=by omega
 have e:atI (ns.map V.int) (n:Int)=some (.int ns[n]):=eV (by rw [Lr,K1 hn];rfl);rw [hz] at e;have e2:=Lu e;simp only [V.int.injEq] at e2;rw [LI,LL,K1 hn,e2];rfl
theorem CL{ns:List Int}{k m z:Int}(h0:0<=k)(h1:k < (ns.length:Int))(hz:atI (ns.map V.int) k=some (.int z)):bV ns k m=z % m:=by
 unfold bV;rw [if_pos h1,sT h0 h1 hz]
theorem CK{ns:List Int}{k m z:Int}(h1:¬ k < (ns.length:Int))(h2:0 < (ns.length:Int))(hz:atI (ns.map V.int) (k % (ns.length:Int))=some (.int z)):bV ns k m=(z % 999999937 * (48271+2 * k * k)+k * 69621) % 2147483647 * 16807 % 2147483629 % m:=by
 unfold bV;rw [if_neg h1,if_pos h2,sT (Int.emod_nonneg _ %[0|8]) (Int.emod_lt_of_pos _ h2) hz]
theorem CJ{ns:List Int}{k m:Int}(h1:¬ k < (ns.length:Int))(h2:¬ 0 < (ns.length:Int)):bV ns k m=(k * k * 7919+104729) % 2147483647 * 16807 % 2147483629 % m:=by
 unfold bV;rw [if_neg h1,if_neg h2]
def nz(K:W.Frag)(a:Addr)(ns:List Int):Sp:=λ vs H Q E=>∃ (k:Int) (m:Int),vs=[.ref a,.int k,.int m]/\(SqL K H a (ns.map V.int)/\ns.length<=63/\(0<=k/\k < 1000)/\0 < m/\Q (.int (bV ns k m)) H)
theorem cO(K:W.Frag)(a:Addr)(ns:List Int)(k:Int)(m:Int)(H:Hp)(Q:VK)(E:XK):nz K a ns [.ref a,.int k,.int m] H Q E=(SqL K H a (ns.map V.int)/\ns.length<=63/\(0<=k/\k < 1000)/\0 < m/\Q (.int (bV ns k m)) H):=pR (f:=λ (k:Int) (m:Int)=>[.ref a,.int k,.int m]) (λ _ _ _ _ h=>by cases h;exact⟨rfl,rfl⟩) k m
theorem uT(K:W.Frag)(a:Addr)(ns:List Int){vs:List V}{H:Hp}{Q:VK}{E:XK}(h:nz K a ns vs H Q E):vs.length=3:=qV h λ _ _=>rfl
theorem dh(T:Tx K mg t)(a:Addr)(ns:List Int):bj P w K mg base CX0 1 t.a__law_draw t.d__law_draw ["_law_script", "_law_k", "_law_many"] (nz K a ns):=by
 refine T.F__law_draw.ok da (λ vs H Q E h=>uT _ _ _ h) (λ c A o s H vs Q E hr h=>?_)
 ·obtain⟨k,m,rfl,hS,hl,⟨hk0,hk1⟩,hm,kk⟩:=h
  refine⟨_,(fF (zN (nE DK (pv 1) (gR (id := "len") cy ∅ T.z_len nofun (Dl (pv 0) cM)) (ar _))
   (jL (rW (dA g7 (zO nO (pv 0) (pv 1) (λ _ _=>rfl)) (pv 2))))
   av)
  (fF (b8 (i:=3) da.nd rfl (Or.inl rfl) (dA oG (dA gr (dA gr (pv 1) (pv 1)) dB) dB))
  (fF (zN (nE DL (gR (id := "len") cy ∅ T.z_len nofun (Dl (pv 0) cM)) dB (ar _))
   (fF (b8 (i:=4) da.nd rfl (Or.inl rfl) (dA g7 (zO nO (pv 0) (dA g7 (pv 1) (gR (id := "len") cy ∅ T.z_len nofun (Dl (pv 0) cM))) (λ _ _=>rfl)) dB))
   (jL (b8 (i:=3) da.nd rfl (Or.inl rfl) (dA oG (dA gr (pv 4) (dA oG dB (dA gr (dA gr dB (pv 1)) (pv 1)))) (dA gr (pv 1) dB)))))
   av)
  (jL (rW (dA g7 (dA g7 (dA gr (dA g7 (pv 3) dB) dB) dB) (pv 2))))))),?_⟩
  refine⟨_,rfl,_,rfl,a,_,rfl,.inl hS,_,_,rfl,rfl,_,rfl,?_⟩;refine Ka (λ h=>?_) (λ h=>?_)
  ·have h1:k < (ns.length:Int):=by simpa using h
   obtain⟨z,hz,_⟩:=gW ns k hk0 h1;exact⟨_,rfl,_,rfl,a,_,k,_,rfl,rfl,hS,hz,_,rfl,_,_,rfl,rfl,hm,by rw [CL hk0 h1 hz] at kk;exact kk⟩
  ·have h1:¬ k < (ns.length:Int):=by simpa using h
   refine⟨_,rfl,_,rfl,_,_,rfl,rfl,.inl ⟨by omega,by omega⟩,_,_,rfl,rfl,.inr ⟨by decide,by decide⟩,_,_,rfl,rfl,?_⟩;refine⟨_,rfl,a,_,rfl,.inl hS,_,_,rfl,rfl,_,rfl,?_⟩;refine Ka (λ h2=>?_) (λ h2=>?_)
   ·have h3:0 < (ns.length:Int):=by simpa using h2
    have h4:(0:Int) < ((ns.map V.int).length:Int):=by simpa using h3
    obtain⟨z,hz,_⟩:=gW ns (k % ((ns.map V.int).length:Int)) (Md _ %[0|8]) (by have:=LZ k h4;simpa using this);refine⟨_,rfl,_,rfl,_,rfl,a,_,rfl,.inl hS,_,_,rfl,rfl,h4,a,_,_,_,rfl,rfl,hS,hz,_,_,rfl,rfl,(by first|decide|(show (0:Int) < _;decide)),?_⟩;refine⟨_,rfl,_,rfl,_,_,rfl,rfl,.inl ⟨by decide,by decide⟩,_,rfl,_,_,rfl,rfl,.inr ⟨by omega,by omega⟩,_,_,rfl,rfl,_,_,rfl,rfl,?_,?_⟩
    ·refine .inl ⟨?_,?_⟩
     ·have:=Md z (show (999999937:Int) ≠ 0 by decide);omega
     ·have:=LZ z (show (0:Int) < 999999937 by decide);omega
    refine⟨_,rfl,_,_,rfl,rfl,.inr ⟨by decide,by decide⟩,_,_,rfl,rfl,?_⟩;exact⟨_,rfl,_,_,rfl,rfl,(by first|decide|(show (0:Int) < _;decide)),_,_,rfl,rfl,.inr ⟨by decide,by decide⟩,_,_,rfl,rfl,(by first|decide|(show (0:Int) < _;decide)),_,rfl,_,_,rfl,rfl,hm,by rw [CK h1 h3 (show atI (ns.map V.int) (k % (ns.length:Int))=some (.int z) by rw [←hz,Lc])] at kk;exact kk⟩
   ·exact⟨_,rfl,_,_,rfl,rfl,(by first|decide|(show (0:Int) < _;decide)),_,_,rfl,rfl,.inr ⟨by decide,by decide⟩,_,_,rfl,rfl,(by first|decide|(show (0:Int) < _;decide)),_,rfl,_,_,rfl,rfl,hm,by rw [CJ h1 (show ¬ (0:Int) < (ns.length:Int) by simpa using h2)] at kk;exact kk⟩
def yA(K:W.Frag)(a:Addr)(ns:List Int):Sp:=λ vs H Q E=>∃ (k:Int) (m:Int),vs=[.ref a,.int k,.int m]/\(SqL K H a (ns.map V.int)/\ns.length<=63/\(0<=k/\k < 1000)/\0 < m/\∀ z:Int,0<=z->z < m->Q (.int z) H)
theorem aQ(K:W.Frag)(a:Addr)(ns:List Int)(k:Int)(m:Int)(H:Hp)(Q:VK)(E:XK):yA K a ns [.ref a,.int k,.int m] H Q E=(SqL K H a (ns.map V.int)/\ns.length<=63/\(0<=k/\k < 1000)/\0 < m/\∀ z:Int,0<=z->z < m->Q (.int z) H):=pR (f:=λ (k:Int) (m:Int)=>[.ref a,.int k,.int m]) (λ _ _ _ _ h=>by cases h;exact⟨rfl,rfl⟩) k m
theorem cx(T:Tx K mg t)(a:Addr)(ns:List Int):bj P w K mg base CX0 1 t.a__law_draw t.d__law_draw ["_law_script", "_law_k", "_law_many"] (yA K a ns):=(dh (P:=P) (w:=w) (base:=base) T a ns).imp λ vs H Q E h=>by
 obtain⟨k,m,e,hS,hl,hk,hm,kk⟩:=h;exact⟨k,m,e,hS,hl,hk,hm,kk _ (show 0<=bV ns k m from Md _ %[0|8]) (show bV ns k m < m from LZ _ hm)⟩
def jI  : Sp:=λ vs H Q E=>∃ (x:V),vs=[x]/\(aI (isW H x) (kE4 H Q))
theorem dG  (x:V) (H:Hp) (Q:VK) (E:XK):jI  [x] H Q E=(aI (isW H x) (kE4 H Q)):=gD (f:=λ (x:V)=>[x]) (λ _ _ h=>by cases h;exact rfl) x
theorem lZ  {vs:List V}{H:Hp}{Q:VK}{E:XK}(h:jI  vs H Q E):vs.length=1:=gk h λ _=>rfl
theorem kG(T:Tx K mg t):bj P w K mg base CX0 1 t.a__law_whole t.d__law_whole ["_law_found_here"] jI:=by
 refine T.F__law_whole.ok mW (λ vs H Q E h=>lZ h) (λ c A o s H vs Q E hr h=>?_)
 ·obtain⟨x,rfl,h⟩:=h;obtain⟨b,hb,k⟩:=ai h;clear h;rw [zZ] at k;refine⟨_,%[%[%[%[isinstance,bR,%[%[0|0],%[(@dD _ _ (.ty "int") (.type "int") _ ∅ T.z_int nofun rfl ⋯ ⋯)|1]|1]|6],(@lr _ _ _ _ _ (@nF _ _ _ _ %[isinstance,bR,%[%[0|0],%[(@dD _ _ (.ty "bool") (.type "bool") _ ∅ T.z_bool nofun rfl ⋯ ⋯)|1]|1]|6]))|35]|12]|10],?_⟩;rw [show start ["_law_found_here"] [x]=[some (x)] from rfl]
  cases x with
  | int i=>cases hb;ac_rfl
  | bl i=>cases hb;ac_rfl
  | non=>cases hb;ac_rfl
  | str i=>cases hb;ac_rfl
  | ref p=>
   obtain⟨rfl,o,ho,ht⟩:=sR hb
   rcases ht with ht|ht|ht<;>ac_rfl
  | _=>cases hb
theorem fh(T:Tx K mg t):bj P w K mg base CX0 1 t.a_is_whole t.d_is_whole ["thing"] jI:=by
 refine T.F_is_whole.ok qR (λ vs H Q E h=>lZ h) (λ c A o s H vs Q E hr h=>?_)
 ·obtain⟨x,rfl,h⟩:=h;obtain⟨b,hb,k⟩:=ai h;clear h;rw [zZ] at k;refine⟨_,%[%[%[%[isinstance,bR,%[%[0|0],%[(@dD _ _ (.ty "int") (.type "int") _ ∅ T.z_int nofun rfl ⋯ ⋯)|1]|1]|6],(@lr _ _ _ _ _ (@nF _ _ _ _ %[isinstance,bR,%[%[0|0],%[(@dD _ _ (.ty "bool") (.type "bool") _ ∅ T.z_bool nofun rfl ⋯ ⋯)|1]|1]|6]))|35]|12]|10],?_⟩;rw [show start ["thing"] [x]=[some (x)] from rfl]
  cases x with
  | int i=>cases hb;ac_rfl
  | bl i=>cases hb;ac_rfl
  | non=>cases hb;ac_rfl
  | str i=>cases hb;ac_rfl
  | ref p=>
   obtain⟨rfl,o,ho,ht⟩:=sR hb
   rcases ht with ht|ht|ht<;>ac_rfl
  | _=>cases hb
def kSz(F:List Int->Prop):List Int->Prop:=λ ns=>gG ns/\F ns
theorem DQ(F:List Int->Prop)(ns:List Int):kSz F ns=(gG ns/\F ns):=rfl
def Ii(H:Hp)(Q:VK):List Int->Prop:=λ ns=>Q (.int (aD ns)) H
theorem rF(H:Hp)(Q:VK)(ns:List Int):Ii H Q ns=Q (.int (aD ns)) H:=rfl
def nA  : Sp:=λ vs H Q E=>∃ (p:Addr),vs=[.ref p]/\(aI (ay H p) (gF (kSz (Ii H Q))))
theorem mz  (p:Addr) (H:Hp) (Q:VK) (E:XK):nA  [.ref p] H Q E=(aI (ay H p) (gF (kSz (Ii H Q)))):=gD (f:=λ (p:Addr)=>[.ref p]) (λ _ _ h=>by cases h;exact rfl) p
theorem uU  {vs:List V}{H:Hp}{Q:VK}{E:XK}(h:nA  vs H Q E):vs.length=1:=gk h λ _=>rfl
theorem iH(T:Tx K mg t):bj P w K mg base CX0 1 t.a_count_of t.d_count_of ["sizes"] nA:=by
 refine T.F_count_of.ok er (λ vs H Q E h=>uU h) (λ c A o s H vs Q E hr h=>?_)
 ·obtain⟨p,rfl,h⟩:=h;obtain⟨xs,hp,ns,rfl,hs,k⟩:=ai h;replace hp:=bB hp;rw [rF] at k;refine⟨_,%[%[1,er,%[0|2]|4],%[%[LB,rfl,%[%[0|0]|21],%[2,er|5],%[%[1,er,%[sH,%[1|0],%[2|0]|11]|4]|10],(by intros;rfl)|16],%[%[%[1|0]|12]|10]|9]|9],?_⟩;rw [show start ["sizes", "count", "size"] [.ref p]=[some (.ref p),none,none] from rfl];ac_rfl;refine b9 (xs:=ns.map V.int) (λ i σ H'=>∃ v:Option V,σ=[some (.ref p),some (.int (aD (ns.take i))),v]/\H'=H) ⟨_,rfl,rfl⟩ (λ i σ H' _ ⟨_,_,e⟩=>by subst e;exact hp) ?_ ?_
  ·rintro i x _ _ hi ⟨v,rfl,rfl⟩;rw [Lr] at hi;obtain⟨z,hz,rfl⟩:=Lk.mp hi;have e:=ji ns i z hz;have b1:=(hs.take i).prod;have b2:=hs.2 z (Ly hz)
   have c1:(aD (ns.take i)).natAbs < 2 ^ 256:=by
    generalize aD (ns.take i)=y at b1;have:(1000000000:Int) ^ 8 < 2 ^ 256:=by decide
    omega
   have c2:z.natAbs < 2 ^ 256:=by omega
   clear b1 b2;simp! only [↓fV,pK];exact⟨_,rfl⟩
  ·rintro _ _ ⟨v,rfl,rfl⟩;rw [Lc,Me];ac_rfl
def jV  : Sp:=λ vs H Q E=>∃ (i:Int) (lo:Int) (hi:Int),vs=[.int i,.int lo,.int hi]/\(Q (.bl (decide (lo<=i) && decide (i<=hi))) H)
theorem jw  (i:Int) (lo:Int) (hi:Int) (H:Hp) (Q:VK) (E:XK):jV  [.int i,.int lo,.int hi] H Q E=(Q (.bl (decide (lo<=i) && decide (i<=hi))) H):=Dh (f:=λ (i:Int) (lo:Int) (hi:Int)=>[.int i,.int lo,.int hi]) (λ _ _ _ _ _ _ h=>by cases h;exact⟨rfl,rfl,rfl⟩) i lo hi
theorem qA  {vs:List V}{H:Hp}{Q:VK}{E:XK}(h:jV  vs H Q E):vs.length=3:=Di h λ _ _ _=>rfl
theorem gy(T:Tx K mg t):bj P w K mg base CX0 2 t.a_is_within t.d_is_within ["thing", "low", "high"] jV:=by
 have G_is_whole:=%[fh|41];refine T.F_is_within.ok oB (λ vs H Q E h=>qA h) (λ c A o s H vs Q E hr h=>?_)
 ·obtain⟨i,lo,hi,rfl,k⟩:=h;refine⟨_,%[%[%[%[is_whole,%[%[0|0]|1]|3],(@lr _ _ _ _ _ (@uh _ _ _ _ _ _ _ _ _ _ _ _ zP zP %[1|0] %[0|0] %[2|0] ∅))|35]|12]|10],?_⟩;rw [show start ["thing", "low", "high"] [.int i,.int lo,.int hi]=[some (.int i),some (.int lo),some (.int hi)] from rfl]
  by_cases h0:lo<=i
  ·rw [M8 h0,Bool.true_and] at k;simp! only [↓dG]
  ·rw [Mq h0,Bool.false_and] at k;simp! only [↓dG]
def rK  : Sp:=λ vs H Q E=>∃ (i:Int),vs=[.int i]/\(Q (.bl (decide (1<=i) && decide (i<=1000000000))) H)
theorem yg  (i:Int) (H:Hp) (Q:VK) (E:XK):rK  [.int i] H Q E=(Q (.bl (decide (1<=i) && decide (i<=1000000000))) H):=gD (f:=λ (i:Int)=>[.int i]) (λ _ _ h=>by cases h;exact rfl) i
theorem xJ  {vs:List V}{H:Hp}{Q:VK}{E:XK}(h:rK  vs H Q E):vs.length=1:=gk h λ _=>rfl
theorem qg(T:Tx K mg t):bj P w K mg base CX0 3 t.a_is_size t.d_is_size ["thing"] rK:=by
 have G_is_within:=%[gy|41];refine T.F_is_size.ok vz (λ vs H Q E h=>xJ h) (λ c A o s H vs Q E hr h=>?_)
 ·obtain⟨i,rfl,k⟩:=h;refine⟨_,%[%[%[is_within,%[%[0|0],%[%[0|2],%[(@eU _ _ (.int 1000000000) _ _ ∅ T.m_MOST_SIZE.choose_spec ⟨_,rfl⟩ ⋯)|1]|1]|1]|3]|12]|10],?_⟩;rw [show start ["thing"] [.int i]=[some (.int i)] from rfl];simp! only [↓jw]
abbrev pO  (p:Addr) (H:Hp) (Q:VK) (E:XK):Prop:=∃ a:Int × Int,H p=some (.tup [.int a.1,.int a.2])/\1<=a.1/\a.1<=1000000000/\Q (.bl true) H
def rO  : Sp:=λ vs H Q E=>∃ (p:Addr),vs=[.ref p]/\(pO  p H Q E)
theorem yj  (p:Addr) (H:Hp) (Q:VK) (E:XK):rO  [.ref p] H Q E=(pO  p H Q E):=gD (f:=λ (p:Addr)=>[.ref p]) (λ _ _ h=>by cases h;exact rfl) p
theorem xO  {vs:List V}{H:Hp}{Q:VK}{E:XK}(h:rO  vs H Q E):vs.length=1:=gk h λ _=>rfl
theorem qh(T:Tx K mg t):bj P w K mg base CX0 4 t.a_is_axis t.d_is_axis ["thing"] rO:=by
 have G_is_size:=%[qg|41];have G_is_whole:=%[fh|41];refine T.F_is_axis.ok vA (λ vs H Q E h=>xO h) (λ c A o s H vs Q E hr h=>?_)
 ·obtain⟨p,rfl,a,hp,h1,h2,k⟩:=h;refine⟨_,%[%[%[%[isinstance,bR,%[%[0|0],%[(@dD _ _ (.ty "tuple") (.type "tuple") _ ∅ T.z_tuple nofun rfl ⋯ ⋯)|1]|1]|6],%[%[(dm hr.units),%[len,aK,%[%[0|0]|1]|6],%[0|2],(ar _)|38],%[%[is_size,%[%[gm,%[0|0],%[0|2],(λ _ _=>rfl)|15]|1]|3],(@lr _ _ _ _ _ %[is_whole,%[%[gm,%[0|0],%[0|2],(λ _ _=>rfl)|15]|1]|3])|35]|35]|35]|12]|10],?_⟩;rw [show start ["thing"] [.ref p]=[some (.ref p)] from rfl];simp! only [↓yg,↓dG]
abbrev pN  (p:Addr) (H:Hp) (Q:VK) (E:XK):Prop:=∃ a:Int × Int,H p=some (.tup [.int a.1,.int a.2])/\∀ (r:Addr) (H':Hp),H r=none->Ext H H'->H' r=some (.tup [.int (bF a).1,.int (bF a).2])->Q (.ref r) H'
def rN  : Sp:=λ vs H Q E=>∃ (p:Addr),vs=[.ref p]/\(pN  p H Q E)
theorem yi  (p:Addr) (H:Hp) (Q:VK) (E:XK):rN  [.ref p] H Q E=(pN  p H Q E):=gD (f:=λ (p:Addr)=>[.ref p]) (λ _ _ h=>by cases h;exact rfl) p
theorem xN  {vs:List V}{H:Hp}{Q:VK}{E:XK}(h:rN  vs H Q E):vs.length=1:=gk h λ _=>rfl
theorem mM(T:Tx K mg t):bj P w K mg base CX0 1 t.a_kept_axis t.d_kept_axis ["axis"] rN:=by
 refine T.F_kept_axis.ok oA (λ vs H Q E h=>xN h) (λ c A o s H vs Q E hr h=>?_)
 ·obtain⟨p,rfl,a,hp,k⟩:=h;refine⟨_,%[%[%[%[%[gm,%[0|0],%[0|2],(λ _ _=>rfl)|15],%[(@pd _ _ _ _ _ _ _ _ %[m9,%[gm,%[0|0],%[0|2],(λ _ _=>rfl)|15],%[0|2],(ar _)|13] %[gm,%[0|0],%[0|2],(λ _ _=>rfl)|15] %[0|2])|1]|1]|36]|12]|10],?_⟩;rw [show start ["axis"] [.ref p]=[some (.ref p)] from rfl];have e1:(bF a).1=a.1:=rfl
  by_cases h1:1 < a.1
  ·have e2:(bF a).2=a.2:=Lo h1;rw [e1,e2] at k;ac_rfl;exact λ r H' h e h'=>k r H' h e h'
  ·have e2:(bF a).2=0:=Lm h1;rw [e1,e2] at k;ac_rfl;exact λ r H' h e h'=>k r H' h e h'
abbrev pP  (p:Addr) (H:Hp) (Q:VK) (E:XK):Prop:=∃ axs:List (Int × Int),dC H p (axL axs)/\jD axs/\∀ H',Ext H H'->Q (.bl true) H'
def rP  : Sp:=λ vs H Q E=>∃ (p:Addr),vs=[.ref p]/\(pP  p H Q E)
theorem yk  (p:Addr) (H:Hp) (Q:VK) (E:XK):rP  [.ref p] H Q E=(pP  p H Q E):=gD (f:=λ (p:Addr)=>[.ref p]) (λ _ _ h=>by cases h;exact rfl) p
theorem xP  {vs:List V}{H:Hp}{Q:VK}{E:XK}(h:rP  vs H Q E):vs.length=1:=gk h λ _=>rfl
theorem n6(T:Tx K mg t):bj P w K mg base CX0 5 t.a_are_axes t.d_are_axes ["thing"] rP:=by
 have G_is_axis:=%[qh|41];refine T.F_are_axes.ok qS (λ vs H Q E h=>xP h) (λ c A o s H vs Q E hr h=>?_)
 ·obtain⟨p,rfl,axs,⟨ys,hp,al⟩,ha,k⟩:=h;refine⟨_,%[%[%[%[isinstance,bR,%[%[0|0],%[(@dD _ _ (.ty "list") (.type "list") _ ∅ T.z_list nofun rfl ⋯ ⋯)|1]|1]|6],%[%[zP,%[len,aK,%[%[0|0]|1]|6],(@eU _ _ (.int 8) _ _ ∅ T.m_MOST_AXES.choose_spec ⟨_,rfl⟩ ⋯),(ar _)|38],(@lr _ _ _ _ _ %[all,(vg rfl),%[%[(["axis", "thing"]),(1),(bg (ae eg) ["thing"] rfl rfl nofun),rfl,%[%[0|0]|21],(λ C s₀ H₀ ex pn=>%[(0),_,(show List.Nodup (["axis", "thing"]:List Str) from by decide +kernel),rfl,(Or.inl rfl),%[0|7]|18]),(λ C s₀ H₀ ex pn=>(@bu _)),(λ C s₀ H₀ ex pn=>%[is_axis,%[%[0|0]|1]|3]),(by intros;rfl)|24]|1]|6])|35]|35]|12]|10],?_⟩;rw [show start ["thing"] [.ref p]=[some (.ref p)] from rfl];have hl:ys.length=axs.length:=by rw [al.1];unfold axL;rw [length_map]
  have hl8:(axs.length:Int)<=8:=by have:=ha.1;omega
  ac_rfl;refine bX ys (λ _=>true) (λ _=>.bl true) (λ z x H'=>x=z/\H' p=some (.lst ys)) (i9 hp).1 (i9 hp).2 (aA %[0|8]) ?_ ?_
  ·intro D z x H' N1 N0 hz hD e ⟨hx,_⟩ k1 _;subst hx;obtain⟨i,hi,rfl⟩:=Mr hz;have hi':i < axs.length:=by rw [←hl];exact hi
   obtain⟨q,hq1,hq2⟩:=al.2 i [axs[i].1,axs[i].2] ys[i] (by unfold axL;rw [getElem?_map,getElem?_eq_getElem hi'];rfl) (getElem?_eq_getElem hi);have hb:=ha.2 _ (getElem_mem hi');have k1':=k1 rfl H' (Ext.refl _);have hq3:=e.at hq2;rw [hq1];clear k1 k hp al;simp! only [↓aV,↓bo];rw [yj];exact⟨axs[i],hq3,hb.1,hb.2,k1'⟩
  ·intro D H' hD e hD';have hD2:H' D=some (.lst ((ys.map λ _=>true).map V.bl)):=by rw [hD',Dc,LV];rfl
   have e2:((ys.map λ _=>true).all id)=true:=by rw [List.all_map];simp
   have k2:=k H' e;clear k hD';ac_rfl
theorem oo{zs:List (List Int)}{ys:List V}{H:Hp}(al:Al (qZ H) zs ys){i:Nat}{y:V}(h:ys[i]? = some y):∃ z,zs[i]? = some z/\qZ H z y:=by
 have hi:i < ys.length:=(Lb.mp h).1;have hz:zs[i]? = some (zs[i]'(by rw [←al.1];exact hi)):=K1 _;exact⟨_,hz,al.2 i _ y hz h⟩
abbrev pM(cT:Addr)(n:Int)(H:Hp)(Q:VK)(E:XK):Prop:=(n<=4096->Q .non H)/\¬ 4096 < n
def rM(cT:Addr):Sp:=λ vs H Q E=>∃ (n:Int),vs=[.int n]/\(pM cT n H Q E)
theorem pI(cT:Addr)(n:Int)(H:Hp)(Q:VK)(E:XK):rM cT [.int n] H Q E=(pM cT n H Q E):=gD (f:=λ (n:Int)=>[.int n]) (λ _ _ h=>by cases h;exact rfl) n
theorem xM(cT:Addr){vs:List V}{H:Hp}{Q:VK}{E:XK}(h:rM cT vs H Q E):vs.length=1:=gk h λ _=>rfl
theorem eN(T:Tx K mg t):bj P w K mg base CX0 3 t.a_refuse_long t.d_refuse_long ["count"] (rM t.a_TooMany):=by
 refine T.F_refuse_long.ok kZ (λ vs H Q E h=>xM _ h) (λ c A o s H vs Q E hr h=>?_)
 ·obtain⟨n,rfl,k1,hn⟩:=h;refine⟨_,%[%[%[m9,%[0|0],(@eU _ _ (.int 4096) _ _ ∅ T.m_MOST_TOLD.choose_spec ⟨_,rfl⟩ ⋯),(ar _)|13],%[(@dZ _ _)|10],(@av _)|14]|10],?_⟩;rw [show start ["count"] [.int n]=[some (.int n)] from rfl];have k1':=k1 %[0|8];clear k1;ac_rfl
theorem Kx(x:Int):min 0 x=if x < 0 then x else 0:=by split<;>omega
theorem Ky(x:Int):max 0 x=if 0 < x then x else 0:=by split<;>omega
structure bQ(C:Addr)(H:Hp)(v:Addr)(room first:Int)(axs:List (Int × Int)):Prop where
 ob:∃ dx l,H v=some (.ins C dx (du room first l))/\dC H l (axL axs)
theorem bQ.ext{C:Addr}{H H':Hp}{v:Addr}{room first:Int}{axs:List (Int × Int)}(h:bQ C H v room first axs)(e:Ext H H'):bQ C H' v room first axs:=by
 obtain⟨dx,l,h1,h2⟩:=h.ob;exact⟨⟨dx,l,e.at h1,h2.ext e⟩⟩
theorem zQ{m:Str}(h:m∈([("sizes":Str), "paces", "count", "cell", "cell_at", "cells", "least", "greatest"]:List Str)):¬ m = "axes" /\ ¬ m = "first" /\ ¬ m = "room":=by
 revert m
 decide +kernel
theorem vn(room first:Int)(l:Addr){m:Str}(h:m∈([("sizes":Str), "paces", "count", "cell", "cell_at", "cells", "least", "greatest"]:List Str)):(du room first l).lookup m=none:=v9 room first l (zQ h).1 (zQ h).2.1 (zQ h).2.2
theorem JA{H:Hp}{axs:List (Int × Int)}{ys:List V}(al:Al (qZ H) (axL axs) ys){i:Nat}{y:V}(h:ys[i]? = some y):∃ a q,axs[i]? = some a/\y=.ref q/\H q=some (.tup [.int a.1,.int a.2]):=by
 obtain⟨z,hz,q,hq,hq2⟩:=oo al h;unfold axL at hz;rw [getElem?_map] at hz;obtain⟨a,ha,rfl⟩:=Option.map_eq_some_iff.mp hz;exact⟨a,q,ha,hq,hq2⟩
abbrev mI(C:Addr)(v:Addr)(H:Hp)(Q:VK)(E:XK):Prop:=∃ (room first:Int) (axs:List (Int × Int)),bQ C H v room first axs/\jD axs/\∀ H',Ext H H'->Q (.int (first+gs axs)) H'
def jJ(C:Addr):Sp:=λ vs H Q E=>∃ (v:Addr),vs=[.ref v]/\(mI C v H Q E)
theorem vt(C:Addr)(v:Addr)(H:Hp)(Q:VK)(E:XK):jJ C [.ref v] H Q E=(mI C v H Q E):=gD (f:=λ (v:Addr)=>[.ref v]) (λ _ _ h=>by cases h;exact rfl) v
theorem uS(C:Addr){vs:List V}{H:Hp}{Q:VK}{E:XK}(h:jJ C vs H Q E):vs.length=1:=gk h λ _=>rfl
theorem kM(T:Tx K mg t):bj P w K mg base CX0 1 t.a_View_least t.d_View_least ["self"] (jJ t.a_View):=by
 refine T.F_View_least.ok mY (λ vs H Q E h=>uS _ h) (λ c A o s H vs Q E hr h=>?_)
 ·obtain⟨v,rfl,room,first,axs,vo,hax,k⟩:=h;obtain⟨dx,l,hv,ys,hl,al⟩:=vo.ob;have c1:=T.cl_View;have c2:=T.na_View_first;have c3:=T.na_View_axes
  have f1:=eW room first l
  have f2:=ed room first l
  refine⟨_,%[%[%[aN,%[%[0|0],rfl|30],%[sum,(mv rfl),%[%[(["size", "pace", "self"]),(2),(bg (ae cw) ["self"] rfl rfl nofun),rfl,%[%[%[0|0],rfl|30]|21],(λ C s₀ H₀ ex pn=>(%[(2),rfl,%[%[(0),_,(show List.Nodup (["size", "pace", "self"]:List Str) from by decide +kernel),rfl,(Or.inl rfl),%[0|7]|18],%[%[(1),_,(show List.Nodup (["size", "pace", "self"]:List Str) from by decide +kernel),rfl,(Or.inl rfl),%[0|7]|18],(@br _),∅|17],∅|17],∅,∅|28].mono λ _ _ _ _ h=>dq h)),(λ C s₀ H₀ ex pn=>(@bu _)),(λ C s₀ H₀ ex pn=>%[min,(mw rfl),%[%[0|2],%[%[lA,%[eI,%[0|0],%[0|2]|11],%[1|0]|11]|1]|1]|6]),(by intros;rfl)|24]|1]|6]|11]|12]|10],?_⟩;rw [show start ["self"] [.ref v]=[some (.ref v)] from rfl];ac_rfl;have wk:=pT (K:=K) (R:=axP) (λ _ _ _ _ h e=>h.ext e) hl (oQ al);refine bX axs (λ _=>true) (λ a=>.int (min 0 ((a.1 - 1) * a.2))) axP wk.1 wk.2 (aA (by have:=hax.1;omega)) ?_ ?_
  ·intro D a x H' N1 N0 ha hD e ⟨q,hx,hq⟩ k1 _;subst hx;have hb:=hax.2 a ha;have k1':=k1 rfl H' (Ext.refl _);have hcm:zC (a.1 - 1) a.2:=.inl ⟨by omega,by omega⟩;rw [Kx] at k1';clear k1 k;simp! only [↓jP,↓bo]
  ·intro D H' hD e hD';have hD2:H' D=some (.lst ((axs.map λ a=>min 0 ((a.1 - 1) * a.2)).map V.int)):=by rw [hD',Dc,LV];rfl
   have k2:Q (.int (first+(axs.map λ a=>min 0 ((a.1 - 1) * a.2)).sum)) H':=k H' e;clear k hD';ac_rfl
abbrev gC(C:Addr)(v:Addr)(H:Hp)(Q:VK)(E:XK):Prop:=∃ (room first:Int) (axs:List (Int × Int)),bQ C H v room first axs/\jD axs/\∀ H',Ext H H'->Q (.int (first+gu axs)) H'
def fY(C:Addr):Sp:=λ vs H Q E=>∃ (v:Addr),vs=[.ref v]/\(gC C v H Q E)
theorem mU(C:Addr)(v:Addr)(H:Hp)(Q:VK)(E:XK):fY C [.ref v] H Q E=(gC C v H Q E):=gD (f:=λ (v:Addr)=>[.ref v]) (λ _ _ h=>by cases h;exact rfl) v
theorem mR(C:Addr){vs:List V}{H:Hp}{Q:VK}{E:XK}(h:fY C vs H Q E):vs.length=1:=gk h λ _=>rfl
theorem gK(T:Tx K mg t):bj P w K mg base CX0 1 t.a_View_greatest t.d_View_greatest ["self"] (fY t.a_View):=by
 refine T.F_View_greatest.ok iS (λ vs H Q E h=>mR _ h) (λ c A o s H vs Q E hr h=>?_)
 ·obtain⟨v,rfl,room,first,axs,vo,hax,k⟩:=h;obtain⟨dx,l,hv,ys,hl,al⟩:=vo.ob;have c1:=T.cl_View;have c2:=T.na_View_first;have c3:=T.na_View_axes
  have f1:=eW room first l
  have f2:=ed room first l
  refine⟨_,%[%[%[aN,%[%[0|0],rfl|30],%[sum,(mv rfl),%[%[(["size", "pace", "self"]),(2),(bg (ae bL) ["self"] rfl rfl nofun),rfl,%[%[%[0|0],rfl|30]|21],(λ C s₀ H₀ ex pn=>(%[(2),rfl,%[%[(0),_,(show List.Nodup (["size", "pace", "self"]:List Str) from by decide +kernel),rfl,(Or.inl rfl),%[0|7]|18],%[%[(1),_,(show List.Nodup (["size", "pace", "self"]:List Str) from by decide +kernel),rfl,(Or.inl rfl),%[0|7]|18],(@br _),∅|17],∅|17],∅,∅|28].mono λ _ _ _ _ h=>dq h)),(λ C s₀ H₀ ex pn=>(@bu _)),(λ C s₀ H₀ ex pn=>%[max,(mx rfl),%[%[0|2],%[%[lA,%[eI,%[0|0],%[0|2]|11],%[1|0]|11]|1]|1]|6]),(by intros;rfl)|24]|1]|6]|11]|12]|10],?_⟩;rw [show start ["self"] [.ref v]=[some (.ref v)] from rfl];ac_rfl;have wk:=pT (K:=K) (R:=axP) (λ _ _ _ _ h e=>h.ext e) hl (oQ al);refine bX axs (λ _=>true) (λ a=>.int (max 0 ((a.1 - 1) * a.2))) axP wk.1 wk.2 (aA (by have:=hax.1;omega)) ?_ ?_
  ·intro D a x H' N1 N0 ha hD e ⟨q,hx,hq⟩ k1 _;subst hx;have hb:=hax.2 a ha;have k1':=k1 rfl H' (Ext.refl _);have hcm:zC (a.1 - 1) a.2:=.inl ⟨by omega,by omega⟩;rw [Ky] at k1';clear k1 k;simp! only [↓jP,↓bo]
  ·intro D H' hD e hD';have hD2:H' D=some (.lst ((axs.map λ a=>max 0 ((a.1 - 1) * a.2)).map V.int)):=by rw [hD',Dc,LV];rfl
   have k2:Q (.int (first+(axs.map λ a=>max 0 ((a.1 - 1) * a.2)).sum)) H':=k H' e;clear k hD';ac_rfl
def JU(H:Hp)(Q:VK)(f:Int × Int->Int)(axs:List (Int × Int)):Prop:=∀ (r:Addr) (H':Hp),H r=none->Ext H H'->H' r=some (.lst ((axs.map f).map V.int))->Q (.ref r) H'
abbrev jy(C:Addr)(v:Addr)(H:Hp)(Q:VK)(E:XK):Prop:=∃ (room first:Int) (axs:List (Int × Int)),bQ C H v room first axs/\axs.length<=8/\JU H Q (λ a=>a.1) axs
def jW(C:Addr):Sp:=λ vs H Q E=>∃ (v:Addr),vs=[.ref v]/\(jy C v H Q E)
theorem qP(C:Addr)(v:Addr)(H:Hp)(Q:VK)(E:XK):jW C [.ref v] H Q E=(jy C v H Q E):=gD (f:=λ (v:Addr)=>[.ref v]) (λ _ _ h=>by cases h;exact rfl) v
theorem qB(C:Addr){vs:List V}{H:Hp}{Q:VK}{E:XK}(h:jW C vs H Q E):vs.length=1:=gk h λ _=>rfl
theorem kL(T:Tx K mg t):bj P w K mg base CX0 1 t.a_View_sizes t.d_View_sizes ["self"] (jW t.a_View):=by
 refine T.F_View_sizes.ok mX (λ vs H Q E h=>qB _ h) (λ c A o s H vs Q E hr h=>?_)
 ·obtain⟨v,rfl,room,first,axs,vo,hax,k⟩:=h;obtain⟨dx,l,hv,ys,hl,al⟩:=vo.ob;have c1:=T.cl_View;have c3:=T.na_View_axes
  have f2:=ed room first l
  refine⟨_,%[%[%[(["size", "pace", "self"]),(2),(bg (ae cv) ["self"] rfl rfl nofun),rfl,%[%[%[0|0],rfl|30]|21],(λ C s₀ H₀ ex pn=>(%[(2),rfl,%[%[(0),_,(show List.Nodup (["size", "pace", "self"]:List Str) from by decide +kernel),rfl,(Or.inl rfl),%[0|7]|18],%[%[(1),_,(show List.Nodup (["size", "pace", "self"]:List Str) from by decide +kernel),rfl,(Or.inl rfl),%[0|7]|18],(@br _),∅|17],∅|17],∅,∅|28].mono λ _ _ _ _ h=>dq h)),(λ C s₀ H₀ ex pn=>(@bu _)),(λ C s₀ H₀ ex pn=>%[0|0]),(by intros;rfl)|24]|12]|10],?_⟩;rw [show start ["self"] [.ref v]=[some (.ref v)] from rfl];ac_rfl;have wk:=pT (K:=K) (R:=axP) (λ _ _ _ _ h e=>h.ext e) hl (oQ al);refine bX axs (λ _=>true) (λ a=>.int a.1) axP wk.1 wk.2 (aA %[0|8]) ?_ ?_
  ·intro D a x H' N1 N0 ha hD e ⟨q,hx,hq⟩ k1 _;subst hx;have k1':=k1 rfl H' (Ext.refl _);clear k1 k;simp! only [↓jP,↓bo]
  ·intro D H' hD e hD';exact k D H' hD e (by rw [hD',Dc,LV];rfl)
abbrev qU(C:Addr)(v:Addr)(H:Hp)(Q:VK)(E:XK):Prop:=∃ (room first:Int) (axs:List (Int × Int)),bQ C H v room first axs/\axs.length<=8/\JU H Q (λ a=>a.2) axs
def Hj(C:Addr):Sp:=λ vs H Q E=>∃ (v:Addr),vs=[.ref v]/\(qU C v H Q E)
abbrev jA(C:Addr)(v:Addr)(H:Hp)(Q:VK)(E:XK):Prop:=∃ (room first:Int) (axs:List (Int × Int)),bQ C H v room first axs/\jD axs/\∀ H',Ext H H'->Q (.int (aD (axs.map λ a=>a.1))) H'
def jX(C:Addr):Sp:=λ vs H Q E=>∃ (v:Addr),vs=[.ref v]/\(jA C v H Q E)
theorem jx(C:Addr)(v:Addr)(H:Hp)(Q:VK)(E:XK):jX C [.ref v] H Q E=(jA C v H Q E):=gD (f:=λ (v:Addr)=>[.ref v]) (λ _ _ h=>by cases h;exact rfl) v
theorem qC(C:Addr){vs:List V}{H:Hp}{Q:VK}{E:XK}(h:jX C vs H Q E):vs.length=1:=gk h λ _=>rfl
theorem fN(T:Tx K mg t):bj P w K mg base CX0 2 t.a_View_count t.d_View_count ["self"] (jX t.a_View):=by
 have G_View_sizes:=%[kL|41];have G_count_of:=%[iH|41];refine T.F_View_count.ok mZ (λ vs H Q E h=>qC _ h) (λ c A o s H vs Q E hr h=>?_)
 ·obtain⟨v,rfl,room,first,axs,vo,hax,k⟩:=h;obtain⟨dx,l,hv,_⟩:=vo.ob
  have f3:=vn room first l (m := "sizes") nofun
  refine⟨_,%[%[%[count_of,%[%[%[0|0],T.cl_View,T.mt_View_sizes,G_View_sizes,(hr.mono ⋯),T.b_View_sizes,.nil,eA,∅|34]|1]|3]|12]|10],?_⟩;rw [show start ["self"] [.ref v]=[some (.ref v)] from rfl];ac_rfl;rw [qP];refine⟨room,first,axs,vo,hax.1,λ r H' hr' e h'=>?_⟩;have k':=k H' e;have hsz:=hax.sizes;clear k;simp! only [↓mz,↓DQ,↓rF]
def nq(C:Addr):Sp:=λ vs H Q E=>∃ (x:Addr) (room:Int) (first:Int) (l:Addr),vs=[.ref x,.int room,.int first,.ref l]/\(∃ (dx:Addr) (axs:List (Int × Int)),H x=some (.ins C dx [])/\dC H l (axL axs)/\sv room first axs/\∀ (H':Hp) (D:Addr),(∀ H0,Ext H0 H->H0 x=none->Ext H0 H')->H D=none->H' x=some (.ins C dx (du room first D))->dC H' D (axL (axs.map bF))->Q .non H')
theorem vm(C:Addr)(x:Addr)(room:Int)(first:Int)(l:Addr)(H:Hp)(Q:VK)(E:XK):nq C [.ref x,.int room,.int first,.ref l] H Q E=(∃ (dx:Addr) (axs:List (Int × Int)),H x=some (.ins C dx [])/\dC H l (axL axs)/\sv room first axs/\∀ (H':Hp) (D:Addr),(∀ H0,Ext H0 H->H0 x=none->Ext H0 H')->H D=none->H' x=some (.ins C dx (du room first D))->dC H' D (axL (axs.map bF))->Q .non H'):=Ko (f:=λ (x:Addr) (room:Int) (first:Int) (l:Addr)=>[.ref x,.int room,.int first,.ref l]) (λ _ _ _ _ _ _ _ _ h=>by cases h;exact⟨rfl,rfl,rfl,rfl⟩) x room first l
theorem uO(C:Addr){vs:List V}{H:Hp}{Q:VK}{E:XK}(h:nq C vs H Q E):vs.length=4:=Kp h λ _ _ _ _=>rfl
theorem gL(T:Tx K mg t):bj P w K mg base CX0 6 t.a_View___init__ t.d_View___init__ ["self", "room", "first", "axes"] (nq t.a_View):=by
 have G_is_within:=%[gy|41];have G_is_whole:=%[fh|41];have G_are_axes:=%[n6|41];have G_kept_axis:=%[mM|41];have G_View_least:=%[kM|41];have G_View_greatest:=%[gK|41];refine T.F_View___init__.ok iT (λ vs H Q E h=>uO _ h) (λ c A o s H vs Q E hr h=>?_)
 ·obtain⟨x,room,first,l,rfl,dx,axs,hx,tl,vok,k⟩:=h;have c1:=T.cl_View;have c2:=T.na_View_first;have c3:=T.na_View_axes;have c4:=T.na_View_room;refine⟨_,%[%[(PW.pt %[%[%[%[is_within,%[%[1|0],%[%[0|2],%[(@eU _ _ (.int 1000000000000000000) _ _ ∅ T.m_MOST_ROOM.choose_spec ⟨_,rfl⟩ ⋯)|1]|1]|1]|3],(by intros;rfl)|27]|29],%[%[%[%[is_whole,%[%[2|0]|1]|3],(by intros;rfl)|27]|29],(@gq _ _ _ _ %[%[%[are_axes,%[%[3|0]|1]|3],(by intros;rfl)|27]|29])|26]|26]),%[(@dZ _ _)|10],(@av _)|14],%[(@gQ _ _ _ _ _ _ _ _ %[0|0] %[1|0] rfl),%[(@gQ _ _ _ _ _ _ _ _ %[0|0] %[2|0] rfl),%[(@gQ _ _ _ _ _ _ _ _ %[0|0] %[(["axis", "self", "room", "first", "axes"]),(1),(bg (ae bM) ["self", "room", "first", "axes"] rfl rfl nofun),rfl,%[%[3|0]|21],(λ C s₀ H₀ ex pn=>%[(0),_,(show List.Nodup (["axis", "self", "room", "first", "axes"]:List Str) from by decide +kernel),rfl,(Or.inl rfl),%[0|7]|18]),(λ C s₀ H₀ ex pn=>(@bu _)),(λ C s₀ H₀ ex pn=>%[kept_axis,%[%[0|0]|1]|3]),(by intros;rfl)|24] rfl),%[%[(PW.pt %[%[vI,%[%[0|0],T.cl_View,T.mt_View_least,G_View_least,(hr.mono ⋯),T.b_View_least,.nil,eA,∅|34],%[0|2],(ar _)|13],(@gq _ _ _ _ %[IE,%[%[0|0],T.cl_View,T.mt_View_greatest,G_View_greatest,(hr.mono ⋯),T.b_View_greatest,.nil,eA,∅|34],%[1|0],(ar _)|13])|26]),%[(@dZ _ _)|10],(@av _)|14]|10]|9]|9]|9]|9],?_⟩;rw [show start ["self", "room", "first", "axes"] [.ref x,.int room,.int first,.ref l]=[some (.ref x),some (.int room),some (.int first),some (.ref l)] from rfl];have r1:=vok.r1;have r2:=vok.r2;simp! only [↓jw,↓dG];rw [yk];refine⟨axs,tl,vok.ax,λ H1 e1=>?_⟩;have hx1:=e1.at hx;have tl1:=tl.ext e1;clear hx tl;ac_rfl;refine⟨(show (1:Nat) < 1000 by decide),?_⟩;obtain⟨ys,hl1,al1⟩:=tl1;have hlx:l ≠ x:=λ z=>by rw [z,hx1] at hl1;cases hl1
  have hx2:(upd H1 x (HO.ins t.a_View dx (dw "first" (V.int first) (dw "room" (V.int room) [])))) x=some (HO.ins t.a_View dx (dw "first" (V.int first) (dw "room" (V.int room) []))):=ag
  have hl2:(upd H1 x (HO.ins t.a_View dx (dw "first" (V.int first) (dw "room" (V.int room) [])))) l=some (.lst ys):=by rw [af hlx];exact hl1
  have al2:Al (λ a y=>axP a y (upd H1 x (HO.ins t.a_View dx (dw "first" (V.int first) (dw "room" (V.int room) []))))) axs ys:=(oQ al1).imp λ a y ⟨q,hy,hq⟩=>⟨q,hy,by rw [af (λ z=>by rw [z,hx1] at hq;cases hq)];exact hq⟩;have b2:∀ H0,Ext H0 H->H0 x=none->Ext H0 (upd H1 x (HO.ins t.a_View dx (dw "first" (V.int first) (dw "room" (V.int room) [])))):=λ H0 q0 q1=>(q0.trans e1).put q1
  have b3:∀ b,b ≠ x->(upd H1 x (HO.ins t.a_View dx (dw "first" (V.int first) (dw "room" (V.int room) [])))) b=none->H b=none:=λ b hb q=>by rw [af hb] at q;exact e1.free q
  generalize upd H1 x (HO.ins t.a_View dx (dw "first" (V.int first) (dw "room" (V.int room) [])))=H2 at hx2 hl2 al2 b2 b3;clear hl1 al1 hx1;ac_rfl;have wk:=pT (K:=K) (R:=axP) (λ _ _ _ _ h e=>h.ext e) hl2 al2;refine pG axs (λ _=>true) axP (λ D a y H'=>∃ q,y=.ref q/\q ≠ D/\H' q=some (.tup [.int (bF a).1,.int (bF a).2])) wk.1 wk.2 (λ D _ y H1 H2 ⟨q,h1,h2,h3⟩ e=>⟨q,h1,h2,e.at h3⟩) (λ D _ y H1 o ⟨q,h1,h2,h3⟩=>⟨q,h1,h2,by rw [af h2];exact h3⟩) (aA (by have:=vok.ax.1;omega)) ?_ ?_
  ·intro D a y H' N1 N0 ha hD e ⟨ys0,hys0⟩ ⟨q,hy,hq⟩ k1 _;subst hy;have k1':=k1 rfl;clear k1 k;simp! only [↓aV,↓bo];rw [yi];exact⟨a,hq,λ r H'' hr' e' h'=>k1' _ H'' e' ⟨r,rfl,(λ z=>by rw [z,hys0] at hr';cases hr'),h'⟩⟩
  ·intro D zs H3 hD e3 hD3 al3;rw [Dc] at al3;have hx3:=e3.at hx2;have hDx:D ≠ x:=λ z=>by rw [z,hx2] at hD;cases hD
   clear wk;ac_rfl;refine⟨(show (2:Nat) < 1000 by decide),?_⟩
   have tt:dC (upd H3 x (HO.ins t.a_View dx (du room first D))) D (axL (axs.map bF)):=by
    refine⟨zs,by rw [af hDx];exact hD3,?_,λ i z y hz hy=>?_⟩
    ·rw [al3.1];unfold axL;rw [length_map,length_map]
    ·unfold axL at hz;rw [map_map,getElem?_map] at hz;obtain⟨a,ha,rfl⟩:=Option.map_eq_some_iff.mp hz;obtain⟨q,hq1,_,hq3⟩:=al3.2 i a y ha hy;exact⟨q,hq1,by rw [af (λ z=>by rw [z,hx3] at hq3;cases hq3)];exact hq3⟩
   have b4:∀ H0,Ext H0 H->H0 x=none->Ext H0 (upd H3 x (HO.ins t.a_View dx (du room first D))):=λ H0 q0 q1=>((b2 H0 q0 q1).trans e3).put q1;have hx4:(upd H3 x (HO.ins t.a_View dx (du room first D))) x=some (HO.ins t.a_View dx (du room first D)):=ag
   have f1:=vn room first D (m := "least") nofun
   have f2:=vn room first D (m := "greatest") nofun
   refine⟨f1,?_⟩
   show jJ t.a_View [V.ref x] (upd H3 x (HO.ins t.a_View dx (du room first D))) _ _
   generalize upd H3 x (HO.ins t.a_View dx (du room first D))=H4 at tt b4 hx4
   have vo:bQ t.a_View H4 x room first (axs.map bF):=⟨dx,D,hx4,tt⟩
   rw [vt];refine⟨room,first,axs.map bF,vo,vok.ax.kept,λ H5 e5=>?_⟩
   have hlo:¬ first+gs (axs.map bF) < 0:=by have:=vok.lo;omega
   have hx5:=e5.at hx4;ac_rfl;rw [mU];refine⟨room,first,axs.map bF,vo.ext e5,vok.ax.kept,λ H6 e6=>?_⟩
   have hhi:¬ room<=first+gu (axs.map bF):=by have:=vok.hi;omega
   have k':=k H6 D (λ H0 q0 q1=>((b4 H0 q0 q1).trans e5).trans e6) (b3 D hDx hD) (e6.at hx5) ((tt.ext e5).ext e6);clear k;ac_rfl
theorem pZ(cs:List Int)(a:Int × Int)(i:Nat)(c:Int)(h:cs[i]? = some c):cL (cs.take (i+1)) a=cL (cs.take i) a++(List.range a.1.toNat).map λ (n:Nat)=>c+(n:Int) * a.2:=by
 unfold cL;rw [take_add_one,h,List.flatMap_append];simp
abbrev iN  (p:Addr) (z:Int) (pc:Int) (H:Hp) (Q:VK) (E:XK):Prop:=∃ cs:List Int,H p=some (.lst (cs.map V.int))/\1<=z/\cs.length * z.toNat<=4096/\z<=1000000000/\∀ (r:Addr) (H':Hp),H r=none->Ext H H'->H' r=some (.lst ((cL cs (z,pc)).map V.int))->Q (.ref r) H'
def il  : Sp:=λ vs H Q E=>∃ (p:Addr) (z:Int) (pc:Int),vs=[.ref p,.int z,.int pc]/\(iN  p z pc H Q E)
theorem oz  (p:Addr) (z:Int) (pc:Int) (H:Hp) (Q:VK) (E:XK):il  [.ref p,.int z,.int pc] H Q E=(iN  p z pc H Q E):=Dh (f:=λ (p:Addr) (z:Int) (pc:Int)=>[.ref p,.int z,.int pc]) (λ _ _ _ _ _ _ h=>by cases h;exact⟨rfl,rfl,rfl⟩) p z pc
theorem om  {vs:List V}{H:Hp}{Q:VK}{E:XK}(h:il  vs H Q E):vs.length=3:=Di h λ _ _ _=>rfl
theorem qf(T:Tx K mg t):bj P w K mg base CX0 1 t.a_widened t.d_widened ["cells", "size", "pace"] il:=by
 refine T.F_widened.ok iB (λ vs H Q E h=>om h) (λ c A o s H vs Q E hr h=>?_)
 ·obtain⟨p,z,pc,rfl,cs,hp,hz,hln,hz2,k⟩:=h;refine⟨_,%[%[3,iB,%[(@cM _)|25]|4],%[%[LB,rfl,%[%[0|0]|21],%[(4),_,iB.nd,rfl,(Or.inr rfl),%[0|7]|18],%[%[%[Ls,NS,NR,ix,%[3|0],%[%[(["number", "cells", "size", "pace", "found", "cell"]),(1),(bg (ae fH) ["cells", "size", "pace", "found", "cell"] rfl rfl nofun),rfl,%[∅,T.z_range,%[%[1|0]|1],∅|31],(λ C s₀ H₀ ex pn=>%[(0),_,(show List.Nodup (["number", "cells", "size", "pace", "found", "cell"]:List Str) from by decide +kernel),rfl,(Or.inl rfl),%[0|7]|18]),(λ C s₀ H₀ ex pn=>(@bu _)),(λ C s₀ H₀ ex pn=>%[aN,%[5|0],%[lA,%[0|0],%[3|0]|11]|11]),(by intros;rfl)|24]|1],∅,∅,∅,∅,∅|22],∅|19]|10],(by intros;rfl)|16],%[%[%[3|0]|12]|10]|9]|9],?_⟩;rw [show start ["cells", "size", "pace", "found", "cell"] [.ref p,.int z,.int pc]=[some (.ref p),some (.int z),some (.int pc),none,none] from rfl];ac_rfl;intro r H1 hr1 e1 h1;have hp1:=e1.at hp;ac_rfl;refine b9 (xs:=cs.map V.int) (λ i σ H'=>∃ v4:Option V,σ=[some (.ref p),some (.int z),some (.int pc),some (.ref r),v4]/\Ext H H'/\H' r=some (.lst ((cL (cs.take i) (z,pc)).map V.int))) ⟨none,rfl,e1,h1⟩ (λ i σ H' _ ⟨_,_,e,_⟩=>e.at hp) ?_ ?_
  ·rintro i x _ H2 hi ⟨v4,rfl,e2,h2⟩;rw [Lr] at hi;obtain⟨c,hc,rfl⟩:=Lk.mp hi;have hil:i < cs.length:=(Lb.mp hc).1
   have hzn:z.toNat<=4096:=by
    have:=Nat.mul_le_mul_right z.toNat (show 1<=cs.length by omega);omega
   have hwl:(cL (cs.take i) (z,pc)).length+z.toNat<=4096:=by
    rw [lG,Mi,show ((z,pc):Int × Int).1=z from rfl];have:(min i cs.length+1) * z.toNat<=cs.length * z.toNat:=Nat.mul_le_mul_right _ %[0|8];rw [Nat.add_mul,Nat.one_mul] at this;omega
   simp! only [↓fV];refine⟨by omega,by omega,?_⟩;refine bX (List.range z.toNat) (λ _=>true) (λ j=>.int (c+(j:Int) * pc)) (λ j x H'=>x=.int (0+(j:Nat))) dj.1 dj.2 (aA (by rw [Mo];omega)) ?_ ?_
   ·intro D j x H' N1 N0 hj hD e hx k1 _;subst hx;have hj':=LF.mp hj;have k1':=k1 rfl H' (Ext.refl _);have hcm:zC (j:Int) pc:=.inl %[0|8];have e0:(0:Int)+(j:Int)=(j:Int):=ML _;clear k1 k hj;simp! only [↓aV,↓bo]
   ·intro D H3 hD e3 hD3;have hD3':H3 D=some (.lst (((List.range z.toNat).map λ (j:Nat)=>c+(j:Int) * pc).map V.int)):=by rw [hD3,Dc,LV];rfl
    have h2_3:=e3.at h2;have hle:(cL (cs.take i) (z,pc)).length+(List.range z.toNat).length<=sizeLine:=aA (by rw [Mo];omega);clear hD3 hi;ac_rfl;refine⟨_,rfl,(e2.trans e3).put hr1,?_⟩;rw [pZ cs (z,pc) i c hc,LG]
  ·rintro _ H2 ⟨v4,rfl,e2,h2⟩;ac_rfl;rw [Lc,Me] at h2;exact k r H2 hr1 e2 h2
abbrev mJ(C cT:Addr)(v:Addr)(H:Hp)(Q:VK)(E:XK):Prop:=∃ (room first:Int) (axs:List (Int × Int)),bQ C H v room first axs/\jD axs/\(aD (axs.map λ a=>a.1)<=4096->∀ (r:Addr) (H':Hp),H r=none->Ext H H'->H' r=some (.lst ((bI first axs).map V.int))->Q (.ref r) H')/\¬ 4096 < aD (axs.map λ a=>a.1)
def nB(C cT:Addr):Sp:=λ vs H Q E=>∃ (v:Addr),vs=[.ref v]/\(mJ C cT v H Q E)
theorem vw(C cT:Addr)(v:Addr)(H:Hp)(Q:VK)(E:XK):nB C cT [.ref v] H Q E=(mJ C cT v H Q E):=gD (f:=λ (v:Addr)=>[.ref v]) (λ _ _ h=>by cases h;exact rfl) v
theorem uV(C cT:Addr){vs:List V}{H:Hp}{Q:VK}{E:XK}(h:nB C cT vs H Q E):vs.length=1:=gk h λ _=>rfl
theorem kO(T:Tx K mg t):bj P w K mg base CX0 4 t.a_View_cells t.d_View_cells ["self"] (nB t.a_View t.a_TooMany):=by
 have G_View_count:=%[fN|41];have G_refuse_long:=%[eN|41];have G_widened:=%[qf|41];refine T.F_View_cells.ok bT (λ vs H Q E h=>uV _ _ h) (λ c A o s H vs Q E hr h=>?_)
 ·obtain⟨v,rfl,room,first,axs,vo,hax,kQ,kE⟩:=h;obtain⟨dx,l,hv,ys,hl,al⟩:=vo.ob;have c1:=T.cl_View;have c2:=T.na_View_first;have c3:=T.na_View_axes
  have f1:=eW room first l
  have f2:=ed room first l
  have f3:=vn room first l (m := "count") nofun
  refine⟨_,%[%[%[refuse_long,%[%[%[0|0],T.cl_View,T.mt_View_count,G_View_count,(hr.mono ⋯),T.b_View_count,.nil,eA,∅|34]|1]|3],∅|19],%[%[1,bT,%[%[%[%[0|0],rfl|30]|1]|25]|4],%[%[LB,rfl,%[%[%[0|0],rfl|30]|21],(%[(2),rfl,%[%[2,bT|5],%[%[3,bT|5],(@br _),∅|17],∅|17],∅,∅|28].mono λ _ _ _ _ h=>dq h),%[%[1,bT,%[widened,%[%[1|0],%[%[2|0],%[%[3|0]|1]|1]|1]|3]|4]|10],(by intros;rfl)|16],%[%[%[1|0]|12]|10]|9]|9]|9],?_⟩;rw [show start ["self", "found", "size", "pace"] [.ref v]=[some (.ref v),none,none,none] from rfl];clear G_View_count G_refuse_long G_widened;ac_rfl;rw [jx];refine⟨room,first,axs,vo,hax,λ H1 e1=>?_⟩;have hv1:=e1.at hv;have hl1:=e1.at hl;ac_rfl;rw [pI];refine⟨λ hc=>?_,kE⟩;have kQ':=kQ hc;clear kQ kE;ac_rfl;intro r H2 hr2 e2 h2;have hv2:=e2.at hv1;have hl2:=e2.at hl1;ac_rfl;have hpos:∀ a∈axs,(1:Int)<=a.1:=λ a ha=>(hax.2 a ha).1;refine b9 (xs:=ys) (λ i σ H'=>∃ (r:Addr) (v2 v3:Option V),σ=[some (.ref v),some (.ref r),v2,v3]/\Ext H H'/\H r=none/\H' r=some (.lst ((bI first (axs.take i)).map V.int))) ⟨r,none,none,rfl,e1.trans e2,e1.free hr2,h2⟩ (λ i σ H' _ ⟨_,_,_,_,e,_,_⟩=>e.at hl) ?_ ?_
  ·rintro i y _ H3 hi ⟨r3,v2,v3,rfl,e3,hr3,h3⟩;obtain⟨a,q,ha,rfl,hq⟩:=JA al hi;have hq3:=e3.at hq;have hm:=hax.2 a (Ly ha);simp! only [↓fV];rw [oz];refine⟨_,h3,hm.1,?_,hm.2,λ r4 H4 hr4 e4 h4=>?_⟩
   ·have hl4:=jv first (axs.take i) λ b hb=>hpos b (Oq hb)
    have hp:=kB (axs.map λ a=>a.1) (λ n hn=>by obtain⟨b,hb,rfl⟩:=Le.mp hn;exact hpos b hb) (i+1);rw [ji _ i a.1 (by rw [Lr,ha];rfl),←List.map_take,←hl4] at hp;have hza:((a.1.toNat:Nat):Int)=a.1:=NF %[0|8]
    have:(((bI first (axs.take i)).length * a.1.toNat:Nat):Int)<=4096:=by rw [Int.natCast_mul,hza];omega
    omega
   ·ac_rfl;refine⟨r4,_,_,rfl,e3.trans e4,e3.free hr4,?_⟩;rw [h4,LW,ha]
    show _=some (HO.lst (List.map V.int (bI first (axs.take i++[a]))))
    rw [oy]
  ·rintro _ H3 ⟨r3,v2,v3,rfl,e3,hr3,h3⟩;have hyl:ys.length=axs.length:=by rw [al.1];unfold axL;rw [length_map]
   rw [hyl,Me] at h3;ac_rfl;exact kQ' r3 H3 hr3 e3 h3
def fC(l:Addr):List (Str × V):=dw "floor" (V.ref l) []
theorem dI(l:Addr):(fC l).lookup ("floor":Str)=some (.ref l):=by
 unfold fC;rw [aB,if_pos rfl]
theorem dE(l:Addr){m:Str}(h:m∈([("all_values":Str), "refuse_room", "read", "put", "copied", "fill"]:List Str)):(fC l).lookup m=none:=by
 have:¬ m = "floor":=by
  revert m
  decide +kernel
 unfold fC;rw [aB,if_neg this];rfl
structure bO(C:Addr)(H:Hp)(s l:Addr)(vals:List Int):Prop where
 ob:∃ dx,H s=some (.ins C dx (fC l))
 fl:H l=some (.lst (vals.map V.int))
theorem bO.ext{C:Addr}{H H':Hp}{s l:Addr}{vals:List Int}(h:bO C H s l vals)(e:Ext H H'):bO C H' s l vals:=by
 obtain⟨dx,h1⟩:=h.ob;exact⟨⟨dx,e.at h1⟩,e.at h.fl⟩
abbrev mG(C:Addr)(x:Addr)(p:Addr)(H:Hp)(Q:VK)(E:XK):Prop:=∃ (dx:Addr) (vals:List Int),H x=some (.ins C dx [])/\H p=some (.lst (vals.map V.int))/\1<=vals.length/\vals.length<=4096/\∀ (H':Hp) (l:Addr),(∀ H0,Ext H0 H->H0 x=none->Ext H0 H')->H l=none->H' x=some (.ins C dx (fC l))->H' l=some (.lst (vals.map V.int))->Q .non H'
def nu(C:Addr):Sp:=λ vs H Q E=>∃ (x:Addr) (p:Addr),vs=[.ref x,.ref p]/\(mG C x p H Q E)
theorem my(C:Addr)(x:Addr)(p:Addr)(H:Hp)(Q:VK)(E:XK):nu C [.ref x,.ref p] H Q E=(mG C x p H Q E):=pR (f:=λ (x:Addr) (p:Addr)=>[.ref x,.ref p]) (λ _ _ _ _ h=>by cases h;exact⟨rfl,rfl⟩) x p
theorem uP(C:Addr){vs:List V}{H:Hp}{Q:VK}{E:XK}(h:nu C vs H Q E):vs.length=2:=qV h λ _ _=>rfl
theorem cS(T:Tx K mg t):bj P w K mg base CX0 4 t.a_Store___init__ t.d_Store___init__ ["self", "values"] (nu t.a_Store):=by
 have G_refuse_long:=%[eN|41];refine T.F_Store___init__.ok gM (λ vs H Q E h=>uP _ h) (λ c A o s H vs Q E hr h=>?_)
 ·obtain⟨x,p,rfl,dx,vals,hx,hp,hv1,hv2,k⟩:=h;have c1:=T.cl_Store;have c2:=T.na_Store_floor;refine⟨_,%[%[%[(dm hr.units),%[len,aK,%[%[1|0]|1]|6],%[0|2],(ar _)|13],%[(@dZ _ _)|10],(@av _)|14],%[%[%[refuse_long,%[%[len,aK,%[%[1|0]|1]|6]|1]|3],∅|19],%[(@gQ _ _ _ _ _ _ _ _ %[0|0] %[bP,∅,T.z_list,nofun,%[%[1|0]|1],⋯,⋯,∅,∅|32] rfl)|10]|9]|9],?_⟩;rw [show start ["self", "values"] [.ref x,.ref p]=[some (.ref x),some (.ref p)] from rfl];clear G_refuse_long;have hv0:¬ ((vals.length:Int)=0):=by omega
  ac_rfl;rw [pI];refine⟨λ _=>?_,λ h=>absurd h %[0|8]⟩;ac_rfl;intro l H1 hl e1 h1;have hx1:=e1.at hx;have hlx:l ≠ x:=λ z=>by rw [z,hx] at hl;cases hl
  ac_rfl;exact k _ l (λ H0 q0 q1=>(q0.trans e1).put q1) hl ag (by rw [af hlx];exact h1)
abbrev pQ(C:Addr)(s:Addr)(H:Hp)(Q:VK)(E:XK):Prop:=∃ (l:Addr) (vals:List Int),bO C H s l vals/\vals.length<=4096/\∀ (r:Addr) (H':Hp),H r=none->Ext H H'->H' r=some (.lst (vals.map V.int))->Q (.ref r) H'
def rQ(C:Addr):Sp:=λ vs H Q E=>∃ (s:Addr),vs=[.ref s]/\(pQ C s H Q E)
theorem km(C:Addr)(s:Addr)(H:Hp)(Q:VK)(E:XK):rQ C [.ref s] H Q E=(pQ C s H Q E):=gD (f:=λ (s:Addr)=>[.ref s]) (λ _ _ h=>by cases h;exact rfl) s
theorem xQ(C:Addr){vs:List V}{H:Hp}{Q:VK}{E:XK}(h:rQ C vs H Q E):vs.length=1:=gk h λ _=>rfl
theorem bA(T:Tx K mg t):bj P w K mg base CX0 1 t.a_Store_all_values t.d_Store_all_values ["self"] (rQ t.a_Store):=by
 refine T.F_Store_all_values.ok fQ (λ vs H Q E h=>xQ _ h) (λ c A o s' H vs Q E hr h=>?_)
 ·obtain⟨s,rfl,l,vals,so,hv2,k⟩:=h;obtain⟨dx,hs⟩:=so.ob;have hfl:=so.fl;have c1:=T.cl_Store;have c2:=T.na_Store_floor;have f1:=dI l;refine⟨_,%[%[%[bP,∅,T.z_list,nofun,%[%[%[0|0],rfl|30]|1],⋯,⋯,∅,∅|32]|12]|10],?_⟩;rw [show start ["self"] [.ref s]=[some (.ref s)] from rfl];ac_rfl;intro r H1 hr1 e1 h1;exact k r H1 hr1 e1 h1
abbrev pL(CS CV:Addr)(s:Addr)(v:Addr)(H:Hp)(Q:VK)(E:XK):Prop:=∃ (l:Addr) (vals:List Int) (room first:Int) (axs:List (Int × Int)),bO CS H s l vals/\bQ CV H v room first axs/\room=vals.length/\Q .non H
def rL(CS CV:Addr):Sp:=λ vs H Q E=>∃ (s:Addr) (v:Addr),vs=[.ref s,.ref v]/\(pL CS CV s v H Q E)
theorem yh(CS CV:Addr)(s:Addr)(v:Addr)(H:Hp)(Q:VK)(E:XK):rL CS CV [.ref s,.ref v] H Q E=(pL CS CV s v H Q E):=pR (f:=λ (s:Addr) (v:Addr)=>[.ref s,.ref v]) (λ _ _ _ _ h=>by cases h;exact⟨rfl,rfl⟩) s v
theorem xK(CS CV:Addr){vs:List V}{H:Hp}{Q:VK}{E:XK}(h:rL CS CV vs H Q E):vs.length=2:=qV h λ _ _=>rfl
theorem eE(T:Tx K mg t):bj P w K mg base CX0 1 t.a_Store_refuse_room t.d_Store_refuse_room ["self", "view"] (rL t.a_Store t.a_View):=by
 refine T.F_Store_refuse_room.ok fz (λ vs H Q E h=>xK _ _ h) (λ c A o s' H vs Q E hr h=>?_)
 ·obtain⟨s,v,rfl,l,vals,room,first,axs,so,vo,hroom,k⟩:=h;obtain⟨dx,hs⟩:=so.ob;obtain⟨dy,D,hv,_⟩:=vo.ob;have hfl:=so.fl;have c1:=T.cl_Store;have c2:=T.na_Store_floor;have c3:=T.cl_View;have c4:=T.na_View_room;have f1:=dI l
  have f2:=p0 room first D
  refine⟨_,%[%[%[(cN hr.units),%[%[1|0],rfl|30],%[len,aK,%[%[%[0|0],rfl|30]|1]|6],(ar _)|13],%[(@dZ _ _)|10],(@av _)|14]|10],?_⟩;rw [show start ["self", "view"] [.ref s,.ref v]=[some (.ref s),some (.ref v)] from rfl];subst hroom;ac_rfl
def jY(CV:Addr):Sp:=λ vs H Q E=>∃ (v:Addr) (n:Int),vs=[.ref v,.int n]/\(∃ (room first:Int) (axs:List (Int × Int)),bQ CV H v room first axs/\jD axs/\n=aD (axs.map λ a=>a.1)/\∀ H',Ext H H'->Q .non H')
theorem qQ(CV:Addr)(v:Addr)(n:Int)(H:Hp)(Q:VK)(E:XK):jY CV [.ref v,.int n] H Q E=(∃ (room first:Int) (axs:List (Int × Int)),bQ CV H v room first axs/\jD axs/\n=aD (axs.map λ a=>a.1)/\∀ H',Ext H H'->Q .non H'):=pR (f:=λ (v:Addr) (n:Int)=>[.ref v,.int n]) (λ _ _ _ _ h=>by cases h;exact⟨rfl,rfl⟩) v n
theorem qD(CV:Addr){vs:List V}{H:Hp}{Q:VK}{E:XK}(h:jY CV vs H Q E):vs.length=2:=qV h λ _ _=>rfl
theorem iP(T:Tx K mg t):bj P w K mg base CX0 3 t.a_refuse_count t.d_refuse_count ["view", "many"] (jY t.a_View):=by
 have G_View_count:=%[fN|41];refine T.F_refuse_count.ok i7 (λ vs H Q E h=>qD _ h) (λ c A o s' H vs Q E hr h=>?_)
 ·obtain⟨v,n,rfl,room,first,axs,vo,hax,hn,k⟩:=h;obtain⟨dy,D,hv,_⟩:=vo.ob
  have f3:=vn room first D (m := "count") nofun
  have c3:=T.cl_View;refine⟨_,%[%[%[(cN hr.units),%[%[0|0],T.cl_View,T.mt_View_count,G_View_count,(hr.mono ⋯),T.b_View_count,.nil,eA,∅|34],%[1|0],(ar _)|13],%[(@dZ _ _)|10],(@av _)|14]|10],?_⟩;rw [show start ["view", "many"] [.ref v,.int n]=[some (.ref v),some (.int n)] from rfl];clear G_View_count;subst hn;ac_rfl;rw [jx];refine⟨room,first,axs,vo,hax,λ H1 e1=>?_⟩;have k1:=k H1 e1;clear k;ac_rfl
theorem tK{vals:List Int}{c:Int}(h0:0<=c)(h1:c < vals.length):atI (vals.map V.int) c=some (.int (vals.getD c.toNat 0)):=by
 obtain⟨n,rfl⟩:=Nn h0;have hn:n < vals.length:=by omega
 refine eV ?_;rw [Lr,K1 hn];simp [List.getD,K1 hn]
theorem Jw{n:Nat}{c:Int}(h0:0<=c)(h1:c < n):ixN n c=some c.toNat:=by
 unfold ixN;rw [if_pos h0,if_pos %[0|8]]
def nT(cs:List Int)(n:Nat):Prop:=∀ c∈cs,0<=c/\c < (n:Int)
def Iw(vals cs:List Int):List Int:=cs.map λ c=>vals.getD c.toNat 0
def vF(vals cs ws:List Int):List Int:=(cs.zip ws).foldl (λ vs p=>vs.set p.1.toNat p.2) vals
abbrev yn(CS CV:Addr)(s:Addr)(v:Addr)(H:Hp)(Q:VK)(E:XK):Prop:=∃ (l:Addr) (vals:List Int) (room first:Int) (axs:List (Int × Int)),bO CS H s l vals/\bQ CV H v room first axs/\jD axs/\room=vals.length/\aD (axs.map λ a=>a.1)<=4096/\nT (bI first axs) vals.length/\∀ (r:Addr) (H':Hp),H r=none->Ext H H'->H' r=some (.lst ((Iw vals (bI first axs)).map V.int))->Q (.ref r) H'
def Kk(CS CV:Addr):Sp:=λ vs H Q E=>∃ (s:Addr) (v:Addr),vs=[.ref s,.ref v]/\(yn CS CV s v H Q E)
theorem lS{vals cs ws:List Int}{i:Nat}{c z:Int}(hc:cs[i]? = some c)(hw:ws[i]? = some z):vF vals (cs.take (i+1)) (ws.take (i+1))=(vF vals (cs.take i) (ws.take i)).set c.toNat z:=by
 unfold vF
 have e1:(cs.take (i+1)).zip (ws.take (i+1))=(cs.take i).zip (ws.take i)++[(c,z)]:=by
  rw [LW,LW,hc,hw,List.zip_append (by
   have h1:=(Lb.mp hc).1;have h2:=(Lb.mp hw).1;rw [Mi,Mi];omega)]
  rfl
 rw [e1,List.foldl_append];rfl
theorem wH(vals:List Int):∀ (ps:List (Int × Int)),(ps.foldl (λ vs p=>vs.set p.1.toNat p.2) vals).length=vals.length:=by
 intro ps
 induction ps generalizing vals with
 | nil=>rfl
 | cons p ps ih=>rw [Od,ih,OW]
theorem nX(vals cs ws:List Int):(vF vals cs ws).length=vals.length:=wH vals _
theorem pk(xs:List Int)(j:Nat)(z:Int):(xs.map V.int).set j (.int z)=(xs.set j z).map V.int:=by
 rw [List.map_set]
def zK(CS CV:Addr):Sp:=λ vs H Q E=>∃ (s:Addr) (v:Addr) (p:Addr),vs=[.ref s,.ref v,.ref p]/\(∃ (l:Addr) (vals:List Int) (room first:Int) (axs:List (Int × Int)) (ws:List Int),bO CS H s l vals/\bQ CV H v room first axs/\jD axs/\room=vals.length/\vals.length<=4096/\aD (axs.map λ a=>a.1)<=4096/\nT (bI first axs) vals.length/\H p=some (.lst (ws.map V.int))/\p ≠ l/\(ws.length:Int)=aD (axs.map λ a=>a.1)/\∀ H',(∀ H0,Ext H0 H->H0 l=none->Ext H0 H')->(∀ b o,b ≠ l->H b=some o->H' b=some o)->H' l=some (.lst ((vF vals (bI first axs) ws).map V.int))->Q .non H')
theorem CO(CS CV:Addr)(s:Addr)(v:Addr)(p:Addr)(H:Hp)(Q:VK)(E:XK):zK CS CV [.ref s,.ref v,.ref p] H Q E=(∃ (l:Addr) (vals:List Int) (room first:Int) (axs:List (Int × Int)) (ws:List Int),bO CS H s l vals/\bQ CV H v room first axs/\jD axs/\room=vals.length/\vals.length<=4096/\aD (axs.map λ a=>a.1)<=4096/\nT (bI first axs) vals.length/\H p=some (.lst (ws.map V.int))/\p ≠ l/\(ws.length:Int)=aD (axs.map λ a=>a.1)/\∀ H',(∀ H0,Ext H0 H->H0 l=none->Ext H0 H')->(∀ b o,b ≠ l->H b=some o->H' b=some o)->H' l=some (.lst ((vF vals (bI first axs) ws).map V.int))->Q .non H'):=Dh (f:=λ (s:Addr) (v:Addr) (p:Addr)=>[.ref s,.ref v,.ref p]) (λ _ _ _ _ _ _ h=>by cases h;exact⟨rfl,rfl,rfl⟩) s v p
theorem Cn(CS CV:Addr){vs:List V}{H:Hp}{Q:VK}{E:XK}(h:zK CS CV vs H Q E):vs.length=3:=Di h λ _ _ _=>rfl
theorem mO(T:Tx K mg t):bj P w K mg base CX0 5 t.a_Store_put t.d_Store_put ["self", "view", "values"] (zK t.a_Store t.a_View):=by
 have G_Store_refuse_room:=%[eE|41];have G_refuse_count:=%[iP|41];have G_View_cells:=%[kO|41];refine T.F_Store_put.ok fx (λ vs H Q E h=>Cn _ _ h) (λ c A o s' H vs Q E hr h=>?_)
 ·obtain⟨s,v,p,rfl,l,vals,room,first,axs,ws,so,vo,hax,hroom,hv2,hpr,hon,hp,hpl,hwl,k⟩:=h;subst hroom;obtain⟨dx,hs⟩:=so.ob;obtain⟨dy,D,hv,_⟩:=vo.ob;have hfl:=so.fl;have c1:=T.cl_Store;have c2:=T.na_Store_floor;have c3:=T.cl_View;have f1:=dI l;have f2:=dE l (m := "refuse_room") nofun
  have f3:=vn (vals.length:Int) first D (m := "cells") nofun
  refine⟨_,%[%[(@o8 _ _ _ _ _ _ _ _ _ _ _ _ _ _ _ _ _ _ _ _ %[0|0] T.cl_Store T.mt_Store_refuse_room G_Store_refuse_room (hr.mono ⋯) T.b_Store_refuse_room .nil eA %[%[1|0]|1] ∅ ∅ ∅),∅|19],%[%[%[refuse_count,%[%[1|0],%[%[len,aK,%[%[2|0]|1]|6]|1]|1]|3],∅|19],%[%[LB,rfl,(@yE _ _ _ _ _ _ _ _ _ ∅ T.z_zip %[%[%[1|0],T.cl_View,T.mt_View_cells,G_View_cells,(hr.mono ⋯),T.b_View_cells,.nil,eA,∅|34],%[%[2|0]|1]|1] ∅ ∅),(%[(2),rfl,%[%[3,fx|5],%[%[4,fx|5],(@br _),∅|17],∅|17],∅,∅|28].mono λ _ _ _ _ h=>dq h),%[(@yD _ _ _ _ _ _ %[4|0] (@yG _ _ _ _ _ _ _ %[%[0|0],rfl|30] %[3|0] oX (by intros;rfl)) ∅ ∅ ∅)|10],(by intros;rfl)|16]|10]|9]|9],?_⟩;rw [show start ["self", "view", "values", "cell", "value"] [.ref s,.ref v,.ref p]=[some (.ref s),some (.ref v),some (.ref p),none,none] from rfl];clear G_Store_refuse_room G_refuse_count G_View_cells;ac_rfl;rw [yh];refine⟨l,vals,_,first,axs,so,vo,rfl,?_⟩;ac_rfl;rw [qQ];refine⟨_,first,axs,vo,hax,(by first|rfl|exact hwl),λ H1 e1=>?_⟩;have hv1:=e1.at hv;have hp1:=e1.at hp;ac_rfl;rw [vw];refine⟨_,first,axs,vo.ext e1,hax,λ _ r2 H2 hr2 e2 h2=>?_,λ h=>absurd h %[0|8]⟩
  have hcl:=jv first axs λ a ha=>(hax.2 a ha).1
  generalize bI first axs=cs at h2 hon k hcl
  have hcl2:cs.length=ws.length:=by omega
  have hp2:=e2.at hp1;have hs2:=(e1.trans e2).at hs;have hfl2:=(e1.trans e2).at hfl;have hr2l:r2 ≠ l:=λ z=>by rw [z,e1.at hfl] at hr2;cases hr2
  ac_rfl;refine sV (ka:=false) (kb:=false) (xs:=cs.map V.int) (ys:=ws.map V.int) (λ i σ H'=>∃ v3 v4:Option V,σ=[some (.ref s),some (.ref v),some (.ref p),v3,v4]/\(∀ H0,Ext H0 H2->H0 l=none->Ext H0 H')/\(∀ b o,b ≠ l->H2 b=some o->H' b=some o)/\H' l=some (.lst ((vF vals (cs.take i) (ws.take i)).map V.int))) ⟨none,none,rfl,λ _ q _=>q,λ _ _ _ q=>q,hfl2⟩ (λ i σ H' ⟨_,_,_,_,hk,_⟩=>⟨hk _ _ hr2l h2,hk _ _ hpl hp2⟩) ?_ ?_
  ·rintro i u x q _ H3 H4 hu hx ⟨v3,v4,rfl,ha3,hk3,h3⟩ hq e4 h4;rw [Lr] at hu hx;obtain⟨c,hc,rfl⟩:=Lk.mp hu;obtain⟨z,hz,rfl⟩:=Lk.mp hx;have hcb:=hon c (Ly hc);have hs4:=e4.at (hk3 _ _ (λ z=>by rw [z,hfl2] at hs2;cases hs2) hs2);have h3_4:=e4.at h3;have hlen:=nX vals (cs.take i) (ws.take i);have hput:=λ (_:Unit)=>lS (vals:=vals) hc hz;generalize vF vals (cs.take i) (ws.take i)=vv at h3 h3_4 hlen hput;have hix:ixN vv.length c=some c.toNat:=Jw hcb.1 (by rw [hlen];exact hcb.2);clear hu hx hc hz k hon hlen h3;simp! only [↓fV];refine⟨_,_,rfl,λ H0 q0 q1=>((ha3 H0 q0 q1).trans e4).put q1,λ b o hb hbo=>by rw [af hb];exact e4.at (hk3 b o hb hbo),?_⟩;rw [hput (),←pk]
  ·rintro _ H3 ⟨v3,v4,rfl,ha3,hk3,h3⟩;have hm:min (cs.map V.int).length (ws.map V.int).length=cs.length:=by rw [Lc,Lc];omega
   rw [hm,Me,hcl2,Me] at h3;exact k H3 (λ H0 q0 q1=>ha3 H0 (q0.trans (e1.trans e2)) q1) (λ b o hb hbo=>hk3 b o hb ((e1.trans e2).at hbo)) h3
def HS(H:Hp)(Q:VK):List Int->Prop:=λ ns=>∀ (r:Addr) (H':Hp),H r=none->Ext H H'->H' r=some (.lst ((dk ns).map V.int))->Q (.ref r) H'
theorem yu(H:Hp)(Q:VK)(ns:List Int):HS H Q ns=∀ (r:Addr) (H':Hp),H r=none->Ext H H'->H' r=some (.lst ((dk ns).map V.int))->Q (.ref r) H':=rfl
def ny  : Sp:=λ vs H Q E=>∃ (p:Addr),vs=[.ref p]/\(aI (ay H p) (gF (kSz (HS H Q))))
theorem vq  (p:Addr) (H:Hp) (Q:VK) (E:XK):ny  [.ref p] H Q E=(aI (ay H p) (gF (kSz (HS H Q)))):=gD (f:=λ (p:Addr)=>[.ref p]) (λ _ _ h=>by cases h;exact rfl) p
theorem uR  {vs:List V}{H:Hp}{Q:VK}{E:XK}(h:ny  vs H Q E):vs.length=1:=gk h λ _=>rfl
theorem n0(T:Tx K mg t):bj P w K mg base CX0 1 t.a_paces_of t.d_paces_of ["sizes"] ny:=by
 refine T.F_paces_of.ok cQ (λ vs H Q E h=>uR h) (λ c A o s H vs Q E hr h=>?_)
 ·obtain⟨p,rfl,h⟩:=h;obtain⟨xs,hp,ns,rfl,hs,k⟩:=ai h;replace hp:=bB hp;rw [yu] at k;refine⟨_,%[%[1,cQ,%[(@cM _)|25]|4],%[%[2,cQ,%[0|2]|4],%[%[LB,rfl,(@Et _ _ _ _ _ _ ∅ T.z_reversed %[%[0|0]|1] ∅),%[3,cQ|5],%[%[%[Ls,LN,LM,aY,%[1|0],%[%[2|0]|1],∅,∅,∅,∅,∅|22],∅|19],%[%[2,cQ,%[sH,%[2|0],%[3|0]|11]|4]|10]|9],(by intros;rfl)|16],%[%[(@rY _ _ _ _ _ _ _ _ _ Ls PySem.F.slot_list_reverse PySem.F.type_list_reverse ql %[1|0] ∅ ∅),∅|19],%[%[%[1|0]|12]|10]|9]|9]|9]|9],?_⟩;rw [show start ["sizes", "paces", "pace", "size"] [.ref p]=[some (.ref p),none,none,none] from rfl];ac_rfl;intro r H1 hr1 e1 h1;have hp1:=e1.at hp;have hrp:r ≠ p:=λ z=>by rw [z,hp] at hr1;cases hr1
  ac_rfl;refine CH (xs:=ns.map V.int) (λ i σ H'=>∃ v:Option V,σ=[some (.ref p),some (.ref r),some (.int (aD (ns.drop (ns.length - i)))),v]/\Ext H H'/\H' r=some (.lst ((dk (ns.drop (ns.length - i))).reverse.map V.int))) ⟨none,by simp [aD],e1,by simpa [dk] using h1⟩ (λ i σ H' _ ⟨_,_,e,_⟩=>SqL.of (e.at hp)) ?_ ?_
  ·rintro i x _ H2 hi hx ⟨v,rfl,e2,h2⟩;rw [Lc] at hi hx;rw [Lr] at hx;obtain⟨z,hz,rfl⟩:=Lk.mp hx;have e:=qd ns i z hi hz;have e':=nY ns i z hi hz;have b1:=(hs.drop (ns.length - i)).prod;have b2:=hs.2 z (Ly hz)
   have hln:((dk (ns.drop (ns.length - i))).reverse).length < sizeLine:=by
    rw [List.length_reverse,jm];exact of_eq_true (Jp _ (by have:=hs.1;simp;omega))
   have c1:(aD (ns.drop (ns.length - i))).natAbs < 2 ^ 256:=by
    generalize aD (ns.drop (ns.length - i))=y at b1;have:(1000000000:Int) ^ 8 < 2 ^ 256:=by decide
    omega
   have c2:z.natAbs < 2 ^ 256:=by omega
   clear b1 b2;simp! only [↓fV,pK];exact⟨_,rfl,e2.put hr1,by rw [LG];rfl⟩
  ·rintro _ H2 ⟨v,rfl,e2,h2⟩;rw [Lc,Nat.sub_self,List.drop_zero] at h2;ac_rfl;exact k r _ hr1 (e2.put hr1) (by rw [ag,←List.map_reverse,List.reverse_reverse])
abbrev zo  (p:Addr) (H:Hp) (Q:VK) (E:XK):Prop:=∃ (l:Addr) (b:V) (c:Int) (cs:List V),H p=some (.tup [.ref l,b])/\H l=some (.lst (.int c::cs))/\Q (.int c) H
def HD  : Sp:=λ vs H Q E=>∃ (p:Addr),vs=[.ref p]/\(zo  p H Q E)
theorem GX  (p:Addr) (H:Hp) (Q:VK) (E:XK):HD  [.ref p] H Q E=(zo  p H Q E):=gD (f:=λ (p:Addr)=>[.ref p]) (λ _ _ h=>by cases h;exact rfl) p
theorem Gw  {vs:List V}{H:Hp}{Q:VK}{E:XK}(h:HD  vs H Q E):vs.length=1:=gk h λ _=>rfl
theorem kF(T:Tx K mg t):bj P w K mg base CX0 1 t.a_first_cell t.d_first_cell ["ring"] HD:=by
 refine T.F_first_cell.ok mV (λ vs H Q E h=>Gw h) (λ c A o s' H vs Q E hr h=>?_)
 ·obtain⟨p,rfl,l,b,c,cs,hp,hl,k⟩:=h;refine⟨_,%[%[%[gm,%[gm,%[0|0],%[0|2],(λ _ _=>rfl)|15],%[0|2],(λ _ _=>rfl)|15]|12]|10],?_⟩;rw [show start ["ring"] [.ref p]=[some (.ref p)] from rfl];ac_rfl
theorem cY:∀ {l:List Int}{c:Int},c∈l->∃ a b,l=a++c::b/\c ∉ a
 | x::l,c,h=>by
  by_cases e:x=c
  ·exact⟨[],l,by rw [e];rfl,Ld⟩
  ·rcases Lz.mp h with h|h
   ·exact absurd h.symm e
   ·obtain⟨a,b,rfl,hn⟩:=cY h;exact⟨x::a,b,rfl,λ m=>(Lz.mp m).elim (λ z=>e z.symm) hn⟩
abbrev zk  (l:Addr) (H:Hp) (Q:VK) (E:XK):Prop:=∃ ns:List Int,H l=some (.lst (ns.map V.int))/\ns ≠ []/\ns.length<=5000/\∀ (a b:List Int) (m:Int) (r:Addr) (H':Hp),ns=a++b->b.head? = some m->(∀ x∈ns,m<=x)->H r=none->Ext H H'->H' r=some (.lst ((b++a).map V.int))->Q (.ref r) H'
def HB  : Sp:=λ vs H Q E=>∃ (l:Addr),vs=[.ref l]/\(zk  l H Q E)
theorem GV  (l:Addr) (H:Hp) (Q:VK) (E:XK):HB  [.ref l] H Q E=(zk  l H Q E):=gD (f:=λ (l:Addr)=>[.ref l]) (λ _ _ h=>by cases h;exact rfl) l
theorem Gu  {vs:List V}{H:Hp}{Q:VK}{E:XK}(h:HB  vs H Q E):vs.length=1:=gk h λ _=>rfl
theorem iY(T:Tx K mg t):bj P w K mg base CX0 1 t.a_least_first t.d_least_first ["ring"] HB:=by
 refine T.F_least_first.ok fP (λ vs H Q E h=>Gu h) (λ c A o s' H vs Q E hr h=>?_)
 ·obtain⟨l,rfl,ns,hl,hne,h5,k⟩:=h;refine⟨_,%[%[1,fP,%[Ls,NX,NW,(pj hr.units),%[0|0],%[%[min,(qL rfl),%[%[0|0]|1]|6]|1],∅,∅,∅,∅,∅|22]|4],%[%[%[nH,%[zr,%[0|0],(@eS _ _ _ %[1|0]),(@eT _)|37],%[zr,%[0|0],(@eT _),(@eS _ _ _ %[1|0])|37]|11]|12]|10]|9],?_⟩;rw [show start ["ring", "at"] [.ref l]=[some (.ref l),none] from rfl];ac_rfl;rw [An];refine⟨Ox.mpr hne,λ M hM hm=>?_⟩;obtain⟨a,b,rfl,hMa⟩:=cY hM;replace k:=λ (_:Unit)=>k a (M::b) M;exists hm;clear hM hne;ac_rfl;refine oT hl hMa ?_;ac_rfl;rw [gT _ _ (Nm _),LI,show (List.map V.int (a++M::b)).drop a.length=(M::b).map V.int by rw [LG,OY (by simp)]];intro r1 H1 hr1 e1 h1;have hl1:=e1.at hl;clear hl;ac_rfl;rw [ki _ _ (Nm _),LI,show (List.map V.int (a++M::b)).take a.length=a.map V.int by rw [LG,List.take_left' (by simp)]];intro r2 H2 hr2 e2 h2;have h1_2:=e2.at h1;clear h1 hl1;rw [LH] at h1_2;ac_rfl;refine⟨aA (by rw [Ln,LR] at h5;omega),λ r3 H3 hr3 e3 h3=>?_⟩;exact k () r3 H3 rfl rfl (hm ()) (e1.free (e2.free hr3)) (e1.trans (e2.trans e3)) (by rw [h3,LG,LH];rfl)
def NdK(kv:List (Int × Int)):Prop:=(kv.map (·.1)).Nodup
structure RfP(kv wv:List (Int × Int))(st:Int):Prop where
 nd:NdK kv
 len:kv.length<=4200
 wnd:NdK wv
 sub:∀ x,(aa wv x).isSome=true->(aa kv x).isSome=true
 new:∀ x,aa wv x ≠ some st
structure WkE(kv wv:List (Int × Int))(st:Int)(t:List Int)(c:Int):Prop where
 pth:Pth (aa kv) t c
 nd:t.Nodup
 new:∀ x∈t,aa wv x=none
 hd:t.headD c=st
def rgL(t:List Int)(c:Int):List Int:=t.dropWhile λ x=>!(decide (x=c))
theorem rT:∀ {a b:List Int}{c:Int},c ∉ a->rgL (a++c::b) c=c::b
 | [],b,c,_=>by unfold rgL;rw [List.nil_append,List.dropWhile_cons_of_neg (by simp)]
 | x::a,b,c,h=>by
  have e:¬ x=c:=λ e=>h (by rw [e];exact mem_cons_self);unfold rgL;rw [cons_append,List.dropWhile_cons_of_pos (by simp [e])];exact rT λ m=>h (mem_cons_of_mem _ m)
theorem rS{t:List Int}{c:Int}(h:c ∉ t):rgL t c=[]:=by
 unfold rgL
 induction t with
 | nil=>rfl
 | cons x t ih=>
  have e:¬ x=c:=λ e=>h (by rw [e];exact Lj);rw [List.dropWhile_cons_of_pos (by simp [e])];exact ih λ m=>h (Lg _ m)
def wkD(wv:List (Int × Int))(st:Int)(t:List Int):List (Int × Int):=wv++t.map λ x=>(x,st)
theorem jG(wv:List (Int × Int))(st:Int)(t:List Int):(wkD wv st t).map (·.1)=wv.map (·.1)++t:=by
 unfold wkD;rw [map_append,map_map];congr 1;exact List.map_id' t
theorem jF{wv:List (Int × Int)}(hn:NdK wv){st:Int}{t:List Int}(ht:t.Nodup)(hw:∀ x∈t,aa wv x=none)(c:Int):aa (wkD wv st t) c=if c∈t then some st else aa wv c:=by
 have nd:NdK (wkD wv st t):=by
  unfold NdK;rw [jG,nodup_append];exact⟨hn,ht,λ x hx y hy e=>aZ.mp (hw y hy) (by rw [←e];exact hx)⟩
 split
 ·rename_i h;exact aO nd (Lw _ (Le.mpr ⟨c,h,rfl⟩))
 ·rename_i h
  cases hl:aa wv c with
  | some j=>exact aO nd (Ma _ (bK hl))
  | none=>rw [aZ,jG,LJ];exact λ m=>m.elim (aZ.mp hl) h
theorem Dq{kv wv:List (Int × Int)}{st:Int}{t:List Int}{c:Int}(h:WkE kv wv st t c)(hn:NdK wv):NdK (wkD wv st t):=by
 unfold NdK;rw [jG,nodup_append];exact⟨hn,h.nd,λ x hx y hy e=>aZ.mp (h.new y hy) (by rw [←e];exact hx)⟩
theorem rG{kv wv:List (Int × Int)}{st:Int}{t:List Int}{c:Int}(P:RfP kv wv st)(h:WkE kv wv st t c):∀ x∈(wkD wv st t).map (·.1),x∈kv.map (·.1):=λ x hx=>by
 rw [jG,LJ] at hx
 rcases hx with hx|hx
 ·exact ak.mp (P.sub x (ak.mpr hx))
 ·obtain⟨d,e,_⟩:=h.pth.mem hx;exact ak.mp (by rw [e];rfl)
theorem cn:∀ {a b:List Int},a.Nodup->(∀ x∈a,x∈b)->a.length<=b.length
 | [],b,_,_=>LD _
 | x::a,b,hn,h=>by
  have hn':=LO.mp hn;have hx:=h x Lj;have:=cn (a:=a) (b:=b.erase x) hn'.2 λ y hy=>(List.mem_erase_of_ne (λ e=>hn'.1 (by rw [←e];exact hy))).mpr (h y (Lg _ hy));rw [List.length_erase_of_mem hx] at this;have:=List.length_pos_of_mem hx;rw [LR];omega
theorem rH{kv wv:List (Int × Int)}{st:Int}{t:List Int}{c:Int}(P:RfP kv wv st)(h:WkE kv wv st t c):(wkD wv st t).length<=kv.length:=by
 have:=cn (Dq h P.wnd) (rG P h)
 simpa using this
theorem WkE.next{kv wv:List (Int × Int)}{st c d:Int}{t:List Int}(P:RfP kv wv st)(h:WkE kv wv st t c)(hd:aa kv c=some d)(hc:aa (wkD wv st t) c=none):WkE kv wv st (t++[c]) d:=by
 rw [jF P.wnd h.nd h.new] at hc
 by_cases m:c∈t
 ·rw [Lo m] at hc;cases hc
 ·rw [Lm m] at hc;refine⟨h.pth.snoc hd,?_,λ x hx=>?_,?_⟩
  ·rw [L9];exact⟨h.nd,LO.mpr ⟨Ld,Mg⟩,λ x hx y hy e=>m (by rw [←Lq.mp hy,←e];exact hx)⟩
  ·rcases LJ.mp hx with hx|hx
   ·exact h.new x hx
   ·rw [Lq.mp hx];exact hc
  ·rw [←h.hd];cases t<;>rfl
theorem Ao{wv:List (Int × Int)}{st c:Int}{t:List Int}(h:aa (wkD wv st t) c=none):eP (aj (wkD wv st t)) (.inl c) (.int st)=aj (wkD wv st (t++[c])):=by
 rw [fU _ h];unfold wkD;rw [map_append,List.append_assoc];rfl
abbrev yX  (d:Addr) (st:Int) (w:Addr) (H:Hp) (Q:VK) (E:XK):Prop:=∃ (B:Hp) (kv wv:List (Int × Int)),Ext B H/\B w=none/\B d=some (.dK (aj kv))/\H w=some (.dK (aj wv))/\RfP kv wv st/\∀ (t:List Int) (c:Int) (r:Addr) (H':Hp),WkE kv wv st t c->(c ∉ t->(aa kv c).isSome=true->(aa wv c).isSome=true)->B r=none->r ≠ w->Ext B H'->H' w=some (.dK (aj (wkD wv st t)))->H' r=some (.lst ((rgL t c).map V.int))->Q (.ref r) H'
def Hs  : Sp:=λ vs H Q E=>∃ (d:Addr) (st:Int) (w:Addr),vs=[.ref d,.int st,.ref w]/\(yX  d st w H Q E)
theorem GN  (d:Addr) (st:Int) (w:Addr) (H:Hp) (Q:VK) (E:XK):Hs  [.ref d,.int st,.ref w] H Q E=(yX  d st w H Q E):=Dh (f:=λ (d:Addr) (st:Int) (w:Addr)=>[.ref d,.int st,.ref w]) (λ _ _ _ _ _ _ h=>by cases h;exact⟨rfl,rfl,rfl⟩) d st w
theorem Gi  {vs:List V}{H:Hp}{Q:VK}{E:XK}(h:Hs  vs H Q E):vs.length=3:=Di h λ _ _ _=>rfl
theorem mL(T:Tx K mg t):bj P w K mg base CX0 1 t.a_ring_from t.d_ring_from ["found", "start", "walked"] Hs:=by
 refine T.F_ring_from.ok c8 (λ vs H Q E h=>Gi h) (λ c A o s' H vs Q E hr h=>?_)
 ·obtain⟨d,st,w,rfl,B,kv,wv,eB,hBw,hBd,hw,P0,k⟩:=h;refine⟨_,%[%[3,c8,%[(@cM _)|25]|4],%[%[4,c8,%[1|0]|4],%[(@kc _ _ _ _ _ _ LB (PW.pt (@lp _ _ _ _ _ _ _ %[(rZ (aq hr.units)),%[4|0],%[0|0],(by with_unfolding_all rfl)|13] (@hV _ _ _ _ %[(lV (aq hr.units)),%[4|0],%[2|0],(by with_unfolding_all rfl)|13]))) %[%[(aq hr.units),%[2|0],%[4|0],%[1|0],rfl|20],%[%[%[Ls,LN,LM,aY,%[3|0],%[%[4|0]|1],∅,∅,∅,∅,∅|22],∅|19],%[%[4,c8,%[(aq hr.units),%[0|0],%[4|0],(λ _ _=>rfl)|33]|4]|10]|9]|9]),%[%[%[(cN hr.units),(@kd _ _ _ _ _ _ _ (aq hr.units) %[2|0] %[4|0] ⟨by rfl,by rfl,by rfl,by rfl⟩),%[1|0],(ar _)|13],%[%[%[(@cM _)|25]|12]|10],(@av _)|14],%[%[%[zr,%[3|0],(@eS _ _ _ %[Ls,NX,NW,(pj hr.units),%[3|0],%[%[4|0]|1],∅,∅,∅,∅,∅|22]),(@eT _)|37]|12]|10]|9]|9]|9]|9],?_⟩;rw [show start ["found", "start", "walked", "trail", "cell"] [.ref d,.int st,.ref w]=[some (.ref d),some (.int st),some (.ref w),none,none] from rfl];have hd0:=eB.at hBd;ac_rfl;intro l H1 hl1 e1 h1;have nwl:w ≠ l:=λ z=>by rw [←z,hw] at hl1;cases hl1
  have hBl:B l=none:=eB.free hl1;have w1:=e1.at hw;have eB1:=eB.trans e1;have ini:WkE kv wv st [] st:=⟨trivial,nodup_nil,λ _ h=>absurd h not_mem_nil,rfl⟩;have w1':H1 w=some (.dK (aj (wkD wv st []))):=by rw [w1];unfold wkD;rw [map_nil,append_nil]
  exists P0;clear hw w1 hd0;ac_rfl;refine nj (by repeat' first|exact zW|exact sg|exact mo_nI|apply kf|apply mo_unN|exact oH|exact HM|exact oI|exact mo_rI|exact mo_rIsN|exact mo_rNotN|exact mo_qEq|exact mo_qIx|exact sf|exact nJ|exact si|exact mo_qLenD|apply mo_dget2|apply jO|apply mo_tB|apply mo_not|apply sj|apply mo_or|apply zX|apply mo_un|apply nK|apply mo_qLst|apply zY) (λ m σ H'=>∃ (tr:List Int) (c:Int),σ=[some (.ref d),some (.int st),some (.ref w),some (.ref l),some (.int c)]/\m=kv.length - tr.length/\WkE kv wv st tr c/\Ext B H'/\H' w=some (.dK (aj (wkD wv st tr)))/\H' l=some (.lst (tr.map V.int))) _ ⟨[],st,rfl,rfl,ini,eB1,w1',h1⟩ ?_;clear ini w1' h1 eB1;rintro m _ H2 ⟨tr,c,rfl,rfl,we,e2,w2,l2⟩;have d2:=e2.at hBd;have hll:=rH (P0 ()) we;exists we;exists hll;ac_rfl
  cases hwc:aa (wkD wv st tr) c with
  | none=>
   cases hdc:aa kv c with
   | none=>
    have hct:c ∉ tr:=λ m=>by
     obtain⟨e,h1,_⟩:=(we ()).pth.mem m;rw [hdc] at h1;cases h1
    refine eG (k:=.inl c) d2 ?_;rw [ao,hdc];ac_rfl;refine fD w2 ?_;ac_rfl;refine hU (k:=.inl c) w2 ?_;rw [ao,hwc,show ((none:Option Int).map V.int).getD .non=.non from rfl];ac_rfl;intro r H3 hr3 e3 h3;exact k tr c r H3 (we ()) (λ _ z=>by rw [hdc] at z;cases z) (e2.free hr3) (λ z=>by rw [z,w2] at hr3;cases hr3) (e2.trans e3) (e3.at w2) (by rw [h3,rS hct];rfl)
   | some e=>
    have nx:=(we ()).next (P0 ()) hdc hwc;have hput:=λ (_:Unit)=>Ao hwc;have hl5:(aj (wkD wv st tr)).length < sizeLine:=aJ (by rw [az];have:=(P0 ()).len;have:=hll ();omega)
    have hl6:(tr.map V.int).length < sizeLine:=aJ (by
     have h1:=hll ();have h2:=(P0 ()).len;unfold wkD at h1;rw [length_append,length_map] at h1;rw [length_map];omega)
    have hlt:kv.length - (tr++[c]).length < kv.length - tr.length:=by
     have h1:=rH (P0 ()) nx;unfold wkD at h1;rw [length_append,length_map] at h1;rw [length_append] at h1 ⊢;rw [length_singleton] at h1 ⊢;omega
    refine eG (k:=.inl c) d2 ?_;rw [ao,hdc];ac_rfl;refine eG (k:=.inl c) w2 ?_;rw [ao,hwc];ac_rfl;refine bH (k:=.inl c) w2 hl5 ?_;have l3:upd H2 w (.dK (eP (aj (wkD wv st tr)) (.inl c) (.int st))) l=some (.lst (tr.map V.int)):=by rw [af (Lv nwl)];exact l2
    have d3:upd H2 w (.dK (eP (aj (wkD wv st tr)) (.inl c) (.int st))) d=some (.dK (aj kv)):=by rw [af (λ z=>by rw [z,hBw] at hBd;cases hBd)];exact d2
    have e3:Ext B (upd H2 w (.dK (eP (aj (wkD wv st tr)) (.inl c) (.int st)))):=e2.put hBw;have w3:upd H2 w (.dK (eP (aj (wkD wv st tr)) (.inl c) (.int st))) w=some (.dK (aj (wkD wv st (tr++[c])))):=by rw [ag,hput ()]
    generalize upd H2 w (.dK (eP (aj (wkD wv st tr)) (.inl c) (.int st)))=H3 at l3 d3 e3 w3;exists nx;clear w2 l2 d2 hput k;ac_rfl;refine⟨by rw [Lc] at hl6;exact hl6,?_⟩;have d4:upd H3 l (.lst (tr.map V.int++[V.int c])) d=some (.dK (aj kv)):=by rw [af (λ z=>by rw [z,hBl] at hBd;cases hBd)];exact d3
    refine gn (k:=.inl c) (v:=.int e) d4 (by rw [ao,hdc];rfl) ?_;clear d4 l3 d3;simp! only [-ag];exact⟨_,hlt,tr++[c],e,rfl,rfl,nx (),e3.put hBl,by rw [af nwl];exact w3,by rw [ag,LG];rfl⟩
  | some j=>
   obtain⟨e,hdc⟩:∃ e,aa kv c=some e:=by
    have:=ak.mpr (rG (P0 ()) (we ()) c (ak.mp (by rw [hwc];rfl)))
    cases h:aa kv c with
    | none=>rw [h] at this;cases this
    | some e=>exact⟨e,rfl⟩
   have hwl:=jF (P0 ()).wnd (we ()).nd (we ()).new (st:=st) c
   by_cases m:c∈tr
   ·rw [Lo m,hwc] at hwl;obtain rfl:=Lu hwl;obtain⟨a,b,rfl,hca⟩:=cY m;clear hwl m;refine eG (k:=.inl c) d2 ?_;rw [ao,hdc];ac_rfl;refine eG (k:=.inl c) w2 ?_;rw [ao,hwc];ac_rfl;refine fD w2 ?_;ac_rfl;refine hU (k:=.inl c) w2 ?_;rw [ao,hwc,show ((some j:Option Int).map V.int).getD .non=.int j from rfl];ac_rfl;refine oT l2 hca ?_;ac_rfl;rw [gT _ _ (Nm _),LI,show (List.map V.int (a++c::b)).drop a.length=(c::b).map V.int by rw [LG,OY (by simp)]];intro r H3 hr3 e3 h3;exact k _ c r H3 (we ()) (λ z=>absurd (by simp) z) (e2.free hr3) (λ z=>by rw [z,w2] at hr3;cases hr3) (e2.trans e3) (e3.at w2) (by rw [h3,rT hca])
   ·rw [Lm m,hwc] at hwl;have hj:¬ j=st:=λ z=>(P0 ()).new c (by rw [←hwl,z]);exists hwl;refine eG (k:=.inl c) d2 ?_;rw [ao,hdc];ac_rfl;refine eG (k:=.inl c) w2 ?_;rw [ao,hwc];ac_rfl;refine fD w2 ?_;ac_rfl;refine hU (k:=.inl c) w2 ?_;rw [ao,hwc,show ((some j:Option Int).map V.int).getD .non=.int j from rfl];ac_rfl;intro r H3 hr3 e3 h3;exact k tr c r H3 (we ()) (λ _ _=>by rw [←hwl ()];rfl) (e2.free hr3) (λ z=>by rw [z,w2] at hr3;cases hr3) (e2.trans e3) (e3.at w2) (by rw [h3,rS m];rfl)
def ovI(o:Option Int):V:=(o.map V.int).getD .non
theorem Ar{x y:Option Int}{H:Hp}{Q:VK}(q:Q (.bl (!decide (x=y))) H):qEq true (ovI x) (ovI y) H Q:=by
 unfold qEq
 have hs:Dj (ovI x) (ovI y)=true:=by cases x<;>cases y<;>rfl
 have e:decide (ovI x=ovI y)=decide (x=y):=by
  cases x<;>cases y<;>simp [ovI]
 rw [Lo hs,Lo rfl,e];exact q
theorem jT{H H1:Hp}(e:Ext H H1)(d:Addr)(o:HO):Ext (upd H d o) (upd H1 d o):=iU.ext λ b u h=>by
 by_cases hb:b=d
 ·rw [hb,ag] at h ⊢;exact h
 ·rw [af hb] at h ⊢;exact e.at h
def drB(kv rv:List (Int × Int))(x:Int):Bool:=kv.any λ p=>decide (p.2=x) && !decide (aa rv p.1=aa rv p.2)
theorem pE(kv rv:List (Int × Int))(p:Int × Int)(x:Int):drB (kv++[p]) rv x=(drB kv rv x || (decide (p.2=x) && !decide (aa rv p.1=aa rv p.2))):=by
 unfold drB;rw [List.any_append];simp
def DrI(kv rv:List (Int × Int))(dv:List (Key × V)):Prop:=dv.length<=kv.length/\∀ x,(cJ dv (.inl x)).isSome=drB kv rv x
theorem DrI.skip{kv rv:List (Int × Int)}{dv:List (Key × V)}(h:DrI kv rv dv){p:Int × Int}(e:aa rv p.1=aa rv p.2):DrI (kv++[p]) rv dv:=by
 refine⟨by rw [Ln];have:=h.1;omega,λ x=>?_⟩;rw [h.2 x,pE];simp [e]
theorem DrI.put{kv rv:List (Int × Int)}{dv:List (Key × V)}(h:DrI kv rv dv){p:Int × Int}(e:¬ aa rv p.1=aa rv p.2):DrI (kv++[p]) rv (eP dv (.inl p.2) (.bl true)):=by
 refine⟨?_,λ x=>?_⟩
 ·have:=fj dv (.inl p.2:Key) (.bl true);rw [Ln];have:=h.1;simp;omega
 rw [oR,pE,←h.2 x]
 by_cases hx:x=p.2
 ·rw [Lo (Mt Sum.inl hx)];simp [hx,e]
 ·rw [Lm (oM hx)];simp [Lv hx]
abbrev zp  (d:Addr) (ro:Addr) (H:Hp) (Q:VK) (E:XK):Prop:=∃ (kv rv:List (Int × Int)),H d=some (.dK (aj kv))/\H ro=some (.dK (aj rv))/\d ≠ ro/\kv.length<=4200/\∀ (r:Addr) (H':Hp) (dv:List (Key × V)),H r=none->Ext H H'->H' r=some (.dK dv)->DrI kv rv dv->Q (.ref r) H'
def HE  : Sp:=λ vs H Q E=>∃ (d:Addr) (ro:Addr),vs=[.ref d,.ref ro]/\(zp  d ro H Q E)
theorem GY  (d:Addr) (ro:Addr) (H:Hp) (Q:VK) (E:XK):HE  [.ref d,.ref ro] H Q E=(zp  d ro H Q E):=pR (f:=λ (d:Addr) (ro:Addr)=>[.ref d,.ref ro]) (λ _ _ _ _ h=>by cases h;exact⟨rfl,rfl⟩) d ro
theorem Gx  {vs:List V}{H:Hp}{Q:VK}{E:XK}(h:HE  vs H Q E):vs.length=2:=qV h λ _ _=>rfl
theorem eD(T:Tx K mg t):bj P w K mg base CX0 1 t.a_drawn_from_beyond t.d_drawn_from_beyond ["found", "ring_of"] HE:=by
 refine T.F_drawn_from_beyond.ok aT (λ vs H Q E h=>Gx h) (λ c A o s' H vs Q E hr h=>?_)
 ·obtain⟨d,ro,rfl,kv,rv,hd,hro,ndr,hl,k⟩:=h;refine⟨_,%[%[2,aT,(@bc _ _)|4],%[(@ia _ _ _ %[LB,rfl,(@o7 _ _ _ _ _ _ _ _ %[0|0] ∅ ∅),(%[(2),rfl,%[%[3,aT|5],%[%[4,aT|5],(@br _),∅|17],∅|17],∅,∅|28].mono λ _ _ _ _ h=>dq h),%[%[%[(cN hr.units),(@kd _ _ _ _ _ _ _ (aq hr.units) %[1|0] %[3|0] ⟨by rfl,by rfl,by rfl,by rfl⟩),(@kd _ _ _ _ _ _ _ (aq hr.units) %[1|0] %[4|0] ⟨by rfl,by rfl,by rfl,by rfl⟩),(ar _)|13],%[%[(aq hr.units),%[2|0],%[4|0],(@eu _ _ _ _),rfl|20]|10],(@av _)|14]|10],(by intros;rfl)|16]),%[%[%[2|0]|12]|10]|9]|9],?_⟩;rw [show start ["found", "ring_of", "drawn", "cell", "origin"] [.ref d,.ref ro]=[some (.ref d),some (.ref ro),none,none,none] from rfl];ac_rfl;intro l H1 hl1 e1 h1;have d1:=e1.at hd;have ndl:d ≠ l:=λ z=>by rw [z,hl1] at hd;cases hd
  ac_rfl;refine me (λ ob i σ H'=>∃ (v3 v4:Option V) (dv:List (Key × V)),σ=[some (.ref d),some (.ref ro),some (.ref l),v3,v4]/\Ext (upd H d (.frz ob (.dK (aj kv)))) H'/\H' l=some (.dK dv)/\DrI (kv.take i) rv dv) d1 (λ ob=>⟨none,none,[],rfl,jT e1 _ _,by rw [af (Lv ndl)];exact h1,by rw [NN];exact⟨Li _,λ _=>rfl⟩⟩) (λ ob i σ' H' ⟨_,_,_,_,e,_⟩=>e.at ag) ?_ ?_
  ·rintro ob i z p _ H2 H3 hz ⟨v3,v4,dv,rfl,e2,l2,di⟩ hp e3 h3
   obtain⟨y,hy,rfl⟩:∃ y,kv[i]? = some y/\z=((Sum.inl y.1:Key),V.int y.2):=by
    unfold aj at hz;rw [getElem?_map] at hz;obtain⟨y,h1,h2⟩:=Option.map_eq_some_iff.mp hz;exact⟨y,h1,h2.symm⟩
   have ht:kv.take (i+1)=kv.take i++[y]:=by rw [LW,hy];rfl
   obtain⟨c,o⟩:=y;have ro3:H3 ro=some (.dK (aj rv)):=e3.at (e2.at (by rw [af (Lv ndr)];exact hro));have l3:=e3.at l2;have e23:=e2.trans e3;have hlu:upd H d (.frz ob (.dK (aj kv))) l=none:=by rw [af (Lv ndl)];exact hl1
   rw [show kV ((Sum.inl (c,o).1:Key),V.int (c,o).2).1=V.int c from rfl] at h3;have hl5:dv.length < sizeLine:=aJ (by have:=di.1;rw [Mi] at this;omega);exists ht;exists di;clear hz hy d1 h1 k hd hro l2;ac_rfl;refine fD ro3 ?_;ac_rfl;refine hU (k:=.inl c) ro3 ?_;rw [ao];ac_rfl;refine fD ro3 ?_;ac_rfl;refine hU (k:=.inl o) ro3 ?_;rw [ao];refine Ar ?_
   by_cases e:aa rv c=aa rv o
   ·rw [M8 e];ac_rfl;exact⟨_,_,dv,rfl,e23,(by first|exact l3|rfl),by rw [ht ()];exact(di ()).skip e⟩
   ·rw [Mq e];exists e;ac_rfl;refine bH (k:=.inl o) l3 hl5 ?_;exact⟨_,_,_,rfl,e23.put hlu,ag,by rw [ht ()];exact(di ()).put (e ())⟩
  ·rintro ob _ H2 ⟨v3,v4,dv,rfl,e2,l2,di⟩;rw [az,Me] at di;have e4:=Ext.thaw hd e2;have l4:upd H2 d (.dK (aj kv)) l=some (.dK dv):=by rw [af (Lv ndl)];exact l2
   generalize upd H2 d (.dK (aj kv))=H4 at e4 l4;exists di;ac_rfl;exact k l H4 dv hl1 e4 l4 (di ())
structure RoI(Cl:List (List Int))(kv rv:List (Int × Int)):Prop where
 nd:NdK rv
 sub:∀ x,(aa rv x).isSome=true->(aa kv x).isSome=true
 yes:∀ l∈Cl,∀ x∈l,aa rv x=some (l.headD 0)
 no:∀ x h,aa rv x=some h->∃ l∈Cl,x∈l/\h=l.headD 0
structure RoJ(Cl:List (List Int))(kv rv:List (Int × Int))(dn:List Int)(h:Int)(rv':List (Int × Int)):Prop where
 nd:NdK rv'
 sub:∀ x,(aa rv' x).isSome=true->(aa kv x).isSome=true
 val:∀ x,aa rv' x=if x∈dn then some h else aa rv x
theorem RoJ.len{Cl:List (List Int)}{kv rv rv':List (Int × Int)}{dn:List Int}{h:Int}(j:RoJ Cl kv rv dn h rv'):rv'.length<=kv.length:=by
 have:=cn j.nd λ x hx=>ak.mp (j.sub x (ak.mpr hx))
 simpa using this
theorem RoJ.ini{Cl:List (List Int)}{kv rv:List (Int × Int)}(h:RoI Cl kv rv)(hh:Int):RoJ Cl kv rv [] hh rv:=⟨h.nd,h.sub,λ x=>by rw [Lm Ld]⟩
theorem RoJ.put{Cl:List (List Int)}{kv rv rv':List (Int × Int)}{dn:List Int}{h c:Int}(j:RoJ Cl kv rv dn h rv')(hc:(aa kv c).isSome=true):RoJ Cl kv rv (dn++[c]) h (bh rv' c h):=by
 refine⟨bC j.nd c h,λ x hx=>?_,λ x=>?_⟩
 ·rw [aX] at hx
  by_cases e:x=c
  ·rw [e];exact hc
  ·rw [Lm e] at hx;exact j.sub x hx
 ·rw [aX,j.val x]
  by_cases e:x=c
  ·rw [Lo e,Lo (by rw [e];simp)]
  ·rw [Lm e];have:x∈dn++[c] ↔ x∈dn:=by simp [e]
   simp only [this]
theorem RoJ.fin{Cl:List (List Int)}{kv rv rv':List (Int × Int)}{l rg:List Int}(j:RoJ Cl kv rv rg (l.headD 0) rv')(i:RoI Cl kv rv)(hp:l.Perm rg)(hd:∀ l'∈Cl,∀ x∈l',x ∉ rg):RoI (Cl++[l]) kv rv':=by
 refine⟨j.nd,j.sub,λ l' hl' x hx=>?_,λ x h hx=>?_⟩
 ·rw [j.val x]
  rcases LJ.mp hl' with hl'|hl'
  ·rw [Lm (hd l' hl' x hx)];exact i.yes l' hl' x hx
  ·rw [Lq.mp hl'] at hx ⊢;rw [Lo (hp.mem_iff.mp hx)]
 ·rw [j.val x] at hx
  by_cases m:x∈rg
  ·rw [Lo m] at hx;exact⟨l,Lw _ Lj,hp.mem_iff.mpr m,(Lu hx).symm⟩
  ·rw [Lm m] at hx;obtain⟨l',h1,h2,h3⟩:=i.no x h hx;exact⟨l',Ma _ h1,h2,h3⟩
structure RgI(kv:List (Int × Int))(S:List Int)(wv rv:List (Int × Int))(Cl:List (List Int)):Prop where
 wnd:NdK wv
 sub:∀ x,(aa wv x).isSome=true->(aa kv x).isSome=true
 lab:∀ x v,aa wv x=some v->v∈S
 all:∀ x∈S,(aa wv x).isSome=true
 sr:yt (aa kv) (λ x=>(aa wv x).isSome=true) Cl
 ro:RoI Cl kv rv
theorem RgI.nil(kv:List (Int × Int)):RgI kv [] [] [] []:=⟨Mg,(λ _ h=>by cases h),(λ _ _ h=>by cases h),λ _ h=>absurd h Ld,⟨(λ _ h=>by cases h),(λ _ _ h=>by cases h),λ _ h=>absurd h Ld,(λ _ _ h=>by cases h),Mg⟩,⟨Mg,(λ _ h=>by cases h),λ _ h=>absurd h Ld,λ _ _ h=>by cases h⟩⟩
theorem fX{f:Int->Option Int}{W W':Int->Prop}{Cl:List (List Int)}(S:yt f W Cl)(h:∀ x,W' x ↔ W x):yt f W' Cl:=by
 have e:W'=W:=funext λ x=>propext (h x);rw [e];exact S
theorem oF{kv wv:List (Int × Int)}{st:Int}{t:List Int}{c:Int}(P:RfP kv wv st)(h:WkE kv wv st t c)(x:Int):(aa (wkD wv st t) x).isSome=true ↔ ((aa wv x).isSome=true\/x∈t):=by
 rw [jF P.wnd h.nd h.new]
 by_cases m:x∈t
 ·rw [Lo m];simp [m]
 ·rw [Lm m];simp [m]
theorem RgI.rfp{kv wv rv:List (Int × Int)}{S:List Int}{Cl:List (List Int)}{st:Int}(r:RgI kv S wv rv Cl)(hn:NdK kv)(hl:kv.length<=4200)(hs:st ∉ S):RfP kv wv st:=⟨hn,hl,r.wnd,r.sub,λ x e=>hs (r.lab x st e)⟩
theorem RgI.bas{kv wv rv:List (Int × Int)}{S:List Int}{Cl:List (List Int)}{st c:Int}{t:List Int}(r:RgI kv S wv rv Cl)(P:RfP kv wv st)(h:WkE kv wv st t c)(ho:c ∉ t->(aa kv c).isSome=true->(aa wv c).isSome=true)(hst:(aa kv st).isSome=true) :
  NdK (wkD wv st t)/\(∀ x,(aa (wkD wv st t) x).isSome=true->(aa kv x).isSome=true)/\(∀ x v,aa (wkD wv st t) x=some v->v∈S++[st])/\∀ x∈S++[st],(aa (wkD wv st t) x).isSome=true:=by
 refine⟨Dq h P.wnd,λ x hx=>ak.mpr (rG P h x (ak.mp hx)),λ x v e=>?_,λ x hx=>?_⟩
 ·rw [jF P.wnd h.nd h.new] at e
  by_cases m:x∈t
  ·rw [Lo m] at e;rw [←Lu e];simp
  ·rw [Lm m] at e;exact Ma _ (r.lab x v e)
 ·rw [oF P h]
  rcases LJ.mp hx with hx|hx
  ·exact .inl (r.all x hx)
  ·rw [Lq.mp hx]
   cases t with
   | nil=>
    have e:c=st:=h.hd;subst e;exact .inl (ho Ld hst)
   | cons y t=>
    have e:y=st:=h.hd;subst e;exact .inr Lj
theorem RgI.out{kv wv rv:List (Int × Int)}{S:List Int}{Cl:List (List Int)}{st c:Int}{t:List Int}(r:RgI kv S wv rv Cl)(P:RfP kv wv st)(h:WkE kv wv st t c)(ho:c ∉ t->(aa kv c).isSome=true->(aa wv c).isSome=true)(hst:(aa kv st).isSome=true)(hc:c ∉ t):RgI kv (S++[st]) (wkD wv st t) rv Cl:=by
 obtain⟨b1,b2,b3,b4⟩:=r.bas P h ho hst;exact⟨b1,b2,b3,b4,fX (v8 r.sr h.pth h.nd (λ x hx z=>by rw [h.new x hx] at z;cases z) hc (ho hc)) (oF P h),r.ro⟩
theorem RgI.self{kv wv rv:List (Int × Int)}{S:List Int}{Cl:List (List Int)}{st c:Int}{a:List Int}(r:RgI kv S wv rv Cl)(P:RfP kv wv st)(h:WkE kv wv st (a++[c]) c)(hst:(aa kv st).isSome=true):RgI kv (S++[st]) (wkD wv st (a++[c])) rv Cl:=by
 obtain⟨b1,b2,b3,b4⟩:=r.bas P h (λ z=>absurd (by simp) z) hst;exact⟨b1,b2,b3,b4,fX ((lH r.sr (b:=[]) h.pth h.nd (λ x hx z=>by rw [h.new x hx] at z;cases z)).2.1 rfl) (oF P h),r.ro⟩
theorem RgI.ring{kv wv rv rv':List (Int × Int)}{S:List Int}{Cl:List (List Int)}{st c:Int}{a b a' b':List Int}{m:Int}(r:RgI kv S wv rv Cl)(P:RfP kv wv st)(h:WkE kv wv st (a++c::b) c)(hst:(aa kv st).isSome=true)(hb:b ≠ [])
  (e:c::b=a'++b') (hm:b'.head? = some m) (hl:∀ x∈c::b,m<=x) (j:RoJ Cl kv rv (c::b) ((b'++a').headD 0) rv'):RgI kv (S++[st]) (wkD wv st (a++c::b)) rv' (Cl++[b'++a']):=by
 obtain⟨b1,b2,b3,b4⟩:=r.bas P h (λ z=>absurd (by simp) z) hst;have hw:∀ x∈a++c::b,¬ (aa wv x).isSome=true:=λ x hx z=>by rw [h.new x hx] at z;cases z
 obtain⟨w1,_,w3⟩:=lH r.sr h.pth h.nd hw
 have h2:2<=(c::b).length:=by cases b with|nil=>exact absurd rfl hb|cons x b=>simp
 have rl:=JL w1 h2 e hm hl;have pm:(b'++a').Perm (c::b):=by rw [e];exact Nv
 refine⟨b1,b2,b3,b4,fX (w3 _ rl pm) (oF P h),j.fin r.ro pm λ l' hl' x hx hm=>?_⟩;exact hw x (Lw _ hm) ((r.sr.rng l' hl').2 x hx)
theorem CP{kv rv:List (Int × Int)}{Cl:List (List Int)}(hn:NdK kv)(hr:∀ l∈Cl,cU (aa kv) l)(ro:RoI Cl kv rv){l:List Int}(hl:l∈Cl):(!(l.any λ x=>drB kv rv x))=fB (aa kv) (kv.map (·.1)) l:=by
 have key:∀ x,aa rv x=some (l.headD 0) ↔ x∈l:=λ x=>by
  refine⟨λ h=>?_,λ h=>ro.yes l hl x h⟩;obtain⟨l',h1,h2,h3⟩:=ro.no x _ h;have e:l=l':=gP (hr l hl) (hr l' h1) (hr l hl).head_mem (by rw [h3];exact(hr l' h1).head_mem);rw [e];exact h2
 rw [Bool.eq_iff_iff,Bool.not_eq_true',←Bool.not_eq_true,List.any_eq_true];unfold fB;rw [all_eq_true];constructor
 ·intro h c hc;obtain⟨⟨c',d⟩,hp,rfl⟩:=Le.mp hc;rw [aO hn hp]
  by_cases m:c'∈l
  ·simp [m]
  ·by_cases md:d∈l
   ·refine absurd ⟨d,md,?_⟩ h;unfold drB;rw [List.any_eq_true];refine⟨(c',d),hp,?_⟩;have h1:=(key d).mpr md;have h2:¬ aa rv c'=aa rv d:=λ e=>m ((key c').mp (e.trans h1));simp [h2]
   ·simp [md]
 ·rintro h ⟨x,hx,hd⟩;unfold drB at hd;obtain⟨p,hp,hq⟩:=List.any_eq_true.mp hd;simp only [Bool.and_eq_true,decide_eq_true_eq,Bool.not_eq_true',decide_eq_false_iff_not] at hq;have h1:=h p.1 (List.mem_map.mpr ⟨p,hp,rfl⟩);rw [aO hn (show (p.1,p.2)∈kv from hp)] at h1;have m1:p.2∈l:=by rw [hq.1];exact hx
  have m2:p.1 ∉ l:=λ m=>hq.2 (((key _).mpr m).trans ((key _).mpr m1).symm);simp [m1,m2] at h1
theorem ub{kv wv rv:List (Int × Int)}{Cl:List (List Int)}{ms:List Int}(r:RgI kv ms wv rv Cl)(hm:∀ x,x∈ms ↔ x∈kv.map (·.1)){L:List (List Int × Bool)}(hp:L.Perm (Cl.map λ l=>(l,fB (aa kv) (kv.map (·.1)) l)))(hs:L.Pairwise λ p q=>p.1.headD 0<=q.1.headD 0):bY (aa kv) (kv.map (·.1)) L:=by
 have hd:(L.map λ p=>p.1.headD 0).Nodup:=by
  have h1:=hp.map (λ p:List Int × Bool=>p.1.headD 0);rw [LV] at h1;exact h1.nodup_iff.mpr r.sr.nd
 have hs':L.Pairwise λ p q=>p.1.headD 0 < q.1.headD 0:=by
  have h1:L.Pairwise λ p q=>p.1.headD 0 ≠ q.1.headD 0:=Ms.mp hd;refine(hs.and h1).imp λ h=>?_;have h1:=h.1;have h2:=h.2;omega
 refine⟨hs',λ p hpm=>?_,λ l hl=>?_⟩
 ·obtain⟨l,hl,rfl⟩:=Le.mp (hp.mem_iff.mp hpm);exact⟨(r.sr.rng l hl).1,rfl⟩
 ·refine⟨_,hp.mem_iff.mpr (Le.mpr ⟨l,r.sr.all l hl ?_,rfl⟩)⟩;obtain⟨d,h1,_⟩:=hl.1.mem hl.head_mem;exact r.all _ ((hm _).mpr (ak.mp (by rw [h1];rfl)))
def oE(S:List Addr)(H:Hp):Hp:=λ b=>if b∈S then none else H b
theorem tD(S:List Addr)(H:Hp):Ext (oE S H) H:=iU.ext λ b o h=>by
 unfold oE at h
 by_cases hb:b∈S
 ·rw [Lo hb] at h;cases h
 ·rwa [Lm hb] at h
theorem jU(w:Addr)(H:Hp):oE [w] H w=none:=Lo (by simp)
theorem cG{w b:Addr}{H:Hp}{o:HO}(h:H b=some o)(hn:b ≠ w):oE [w] H b=some o:=by
 unfold oE;rw [if_neg (by simpa using hn)];exact h
theorem mn{w b:Addr}{H:Hp}(h:oE [w] H b=none)(hn:b ≠ w):H b=none:=by
 unfold oE at h
 rwa [Lm (by simpa using hn)] at h
theorem pF{w:Addr}{H H5 H6:Hp}(e:Ext H H5)(hw:H w=none)(e6:Ext (oE [w] H5) H6):Ext H H6:=iU.ext λ b o h=>e6.at (cG (e.at h) λ z=>by rw [z,hw] at h;cases h)
def viI:V->Int
 | .int i=>i
 | _=>0
def InL(H0:Hp)(cl:Addr)(l:List Int)(y:V)(H:Hp):Prop:=∃ r,y=.ref r/\H r=some (.lst (l.map V.int))/\r ≠ cl/\H0 r=none
theorem InL.ext{H0 H H':Hp}{cl:Addr}{l:List Int}{y:V}(h:InL H0 cl l y H)(e:Ext H H'):InL H0 cl l y H':=by
 obtain⟨r,h1,h2,h3,h4⟩:=h;exact⟨r,h1,e.at h2,h3,h4⟩
structure RgH(H0 H:Hp)(w ro cl:Addr)(wv rv:List (Int × Int))(Cl:List (List Int))(ys:List V):Prop where
 e:Ext H0 H
 hw:H w=some (.dK (aj wv))
 hro:H ro=some (.dK (aj rv))
 hcl:H cl=some (.lst ys)
 al:Al (λ l y=>InL H0 cl l y H) Cl ys
theorem RgH.ext{H0 H H':Hp}{w ro cl:Addr}{wv rv:List (Int × Int)}{Cl:List (List Int)}{ys:List V}(h:RgH H0 H w ro cl wv rv Cl ys)(e:Ext H H'):RgH H0 H' w ro cl wv rv Cl ys:=⟨h.e.trans e,e.at h.hw,e.at h.hro,e.at h.hcl,h.al.imp λ _ _ q=>q.ext e⟩
theorem RgH.walk{H0 H H':Hp}{w ro cl:Addr}{wv wv' rv:List (Int × Int)}{Cl:List (List Int)}{ys:List V}(h:RgH H0 H w ro cl wv rv Cl ys)(fw:H0 w=none)(nro:ro ≠ w)(e:Ext (oE [w] H) H')(hw:H' w=some (.dK (aj wv'))):RgH H0 H' w ro cl wv' rv Cl ys:=
 ⟨pF h.e fw e,hw,e.at (cG h.hro nro),e.at (cG h.hcl λ z=>by have:=h.hcl;rw [z,h.hw] at this;cases this),h.al.imp λ l y ⟨r,h1,h2,h3,h4⟩=>⟨r,h1,e.at (cG h2 λ z=>by rw [z,h.hw] at h2;cases h2),h3,h4⟩⟩
theorem RgH.app{H0 H:Hp}{w ro cl:Addr}{wv rv:List (Int × Int)}{Cl:List (List Int)}{ys:List V}{l:List Int}{r:Addr}(h:RgH H0 H w ro cl wv rv Cl ys)(fc:H0 cl=none)(hr:H r=some (.lst (l.map V.int)))(nr:r ≠ cl)(fr:H0 r=none):RgH H0 (upd H cl (.lst (ys++[.ref r]))) w ro cl wv rv (Cl++[l]) (ys++[.ref r]):=by
 have nw:w ≠ cl:=λ z=>by have:=h.hw;rw [z,h.hcl] at this;cases this
 have nro:ro ≠ cl:=λ z=>by have:=h.hro;rw [z,h.hcl] at this;cases this
 refine⟨h.e.put fc,by rw [af nw];exact h.hw,by rw [af nro];exact h.hro,ag,(h.al.imp λ l y ⟨r,h1,h2,h3,h4⟩=>⟨r,h1,by rw [af h3];exact h2,h3,h4⟩).snoc ⟨r,rfl,by rw [af nr];exact hr,nr,fr⟩⟩
theorem RgH.put{H0 H:Hp}{w ro cl:Addr}{wv rv rv':List (Int × Int)}{Cl:List (List Int)}{ys:List V}(h:RgH H0 H w ro cl wv rv Cl ys)(fr:H0 ro=none)(nro:ro ≠ w):RgH H0 (upd H ro (.dK (aj rv'))) w ro cl wv rv' Cl ys:=by
 have nc:cl ≠ ro:=λ z=>by have:=h.hcl;rw [z,h.hro] at this;cases this
 exact⟨h.e.put fr,by rw [af (Lv nro)];exact h.hw,ag,by rw [af nc];exact h.hcl,h.al.imp λ l y ⟨r,h1,h2,h3,h4⟩=>⟨r,h1,by rw [af λ z=>by rw [z,h.hro] at h2;cases h2];exact h2,h3,h4⟩⟩
def Few(kv:List (Int × Int)):Prop:=∀ Cl:List (List Int),(∀ l∈Cl,cU (aa kv) l)->(Cl.map λ l=>l.headD 0).Nodup->Cl.length < 64
def RwR(H:Hp)(r:Addr)(p:List Int × Bool)(y:V)(H':Hp):Prop:=∃ q l,y=.ref q/\H' q=some (.tup [.ref l,.bl p.2])/\H' l=some (.lst (p.1.map V.int))/\H l=none/\l ≠ r
def KS(H H':Hp)(r:Addr)(L:List (List Int × Bool)):Prop:=∃ ys,H' r=some (.lst ys)/\H r=none/\Al (λ p y=>RwR H r p y H') L ys
abbrev mH  (d:Addr) (H:Hp) (Q:VK) (E:XK):Prop:=∃ kv:List (Int × Int),H d=some (.dK (aj kv))/\NdK kv/\kv.length<=4200/\iW (kv.map (·.1))/\Few kv/\∀ (L:List (List Int × Bool)) (r:Addr) (H':Hp),bY (aa kv) (kv.map (·.1)) L->Ext H H'->KS H H' r L->Q (.ref r) H'
def nv  : Sp:=λ vs H Q E=>∃ (d:Addr),vs=[.ref d]/\(mH  d H Q E)
theorem vp  (d:Addr) (H:Hp) (Q:VK) (E:XK):nv  [.ref d] H Q E=(mH  d H Q E):=gD (f:=λ (d:Addr)=>[.ref d]) (λ _ _ h=>by cases h;exact rfl) d
theorem uQ  {vs:List V}{H:Hp}{Q:VK}{E:XK}(h:nv  vs H Q E):vs.length=1:=gk h λ _=>rfl
theorem wV(T:Tx K mg t):bj P w K mg base CX0 4 t.a_rings t.d_rings ["found"] nv:=by
 have G_ring_from:=%[mL|41];have G_least_first:=%[iY|41];have G_drawn_from_beyond:=%[eD|41];have G_first_cell:=%[kF|41];refine T.F_rings.ok cW (λ vs H Q E h=>uQ h) (λ c A o s' H vs Q E hr h=>?_)
 ·obtain⟨d,rfl,kv,hd,hnd,h4,hE,hF,k⟩:=h;refine⟨_,%[%[1,cW,(@bc _ _)|4],%[%[2,cW,(@bc _ _)|4],%[%[3,cW,%[(@cM _)|25]|4],%[%[LB,rfl,%[%[sorted,(qK rfl),%[%[0|0]|1]|6]|21],%[4,cW|5],%[%[5,cW,%[ring_from,%[%[0|0],%[%[4|0],%[%[1|0]|1]|1]|1]|3]|4],%[%[%[m9,%[len,aK,%[%[5|0]|1]|6],%[0|2],(ar _)|13],%[%[%[Ls,LN,LM,aY,%[3|0],%[%[least_first,%[%[5|0]|1]|3]|1],∅,∅,∅,∅,∅|22],∅|19],%[%[LB,rfl,%[%[5|0]|21],%[6,cW|5],%[%[(aq hr.units),%[2|0],%[6|0],%[gm,%[gm,%[3|0],(@m8 _ _ _ _ _ _ eR %[0|2]),(λ _ _=>rfl)|15],%[0|2],(λ _ _=>rfl)|15],rfl|20]|10],(by intros;rfl)|16]|10]|9],(@av _)|14]|10]|9],(by intros;rfl)|16],%[(@b8 _ _ (7) _ _ _ _ cW.nd rfl (Or.inr rfl) %[drawn_from_beyond,%[%[0|0],%[%[2|0]|1]|1]|3] ∅ %[0|7]),%[(@sE _ _ _ _ _ _ _ _ _ _ _ _ _ (["ring", "found", "walked", "ring_of", "closed", "start", "!ring", "cell", "drawn", "told"]) (1) (8) _ cW.nd rfl (Or.inl rfl) (bg (ae jK) ["found", "walked", "ring_of", "closed", "start", "ring", "cell", "drawn", "told"] rfl rfl nofun) rfl %[%[3|0]|21] (λ C s₀ H₀ ex pn=>%[(0),_,(show List.Nodup (["ring", "found", "walked", "ring_of", "closed", "start", "!ring", "cell", "drawn", "told"]:List Str) from by decide +kernel),rfl,(Or.inl rfl),%[0|7]|18]) (λ C s₀ H₀ ex pn=>(@bu _)) (λ C s₀ H₀ ex pn=>%[%[%[0|0],%[(@nF _ _ _ _ %[any,(vf rfl),%[%[(["cell", "ring", "found", "walked", "ring_of", "closed", "start", "!ring", "!cell", "drawn", "told"]),(1),(bg _ ["ring", "found", "walked", "ring_of", "closed", "start", "!ring", "cell", "drawn", "told"] rfl rfl (by kernel_rfl)),rfl,(@AX _ _ _ _ (K) rfl %[0|0]),(λ C s₀ H₀ ex pn=>%[(0),_,(show List.Nodup (["cell", "ring", "found", "walked", "ring_of", "closed", "start", "!ring", "!cell", "drawn", "told"]:List Str) from by decide +kernel),rfl,(Or.inl rfl),%[0|7]|18]),(λ C s₀ H₀ ex pn=>(@bu _)),(λ C s₀ H₀ ex pn=>%[(rZ (aq hr.units)),%[0|0],%[9|0],(by with_unfolding_all rfl)|38]),(by intros;rfl)|24]|1]|6])|1]|1]|36]) ∅ (by intros;rfl) %[0|7]),%[%[(@uj _ ("sorted") _ _ _ _ _ _ _ _ _ _ (qJ G_first_cell (hr.mono ⋯) T.b_first_cell) ∅ T.z_sorted nofun %[%[8|0]|1] (@AW _ _ _ _ _ _ _ (@eU _ _ (.ref t.a_first_cell) _ _ ∅ T.m_first_cell rfl ⋯) (@Es _)) ⋯ ⋯ ∅ ∅ ∅ ∅ ∅)|12]|10]|9]|9]|9]|9]|9]|9],?_⟩;rw [show start ["found", "walked", "ring_of", "closed", "start", "ring", "cell", "drawn", "told"] [.ref d]=[some (.ref d),none,none,none,none,none,none,none,none] from rfl];clear G_ring_from G_least_first G_drawn_from_beyond G_first_cell;exists hE;exists hF;exists hnd;ac_rfl;intro w H1 hw1 e1 h1;ac_rfl;intro ro H2 hr2 e2 h2;ac_rfl;intro cl H3 hc3 e3 h3;have e03:=e1.trans (e2.trans e3);have d3:=e03.at hd;have w3:=(e2.trans e3).at h1;have ro3:=e3.at h2;have fw:H w=none:=hw1;have fro:H ro=none:=e1.free hr2;have fcl:H cl=none:=(e1.trans e2).free hc3;have nro:ro ≠ w:=λ z=>by rw [z,h1] at hr2;cases hr2
  clear hw1 h1 hr2 h2 hc3 e1 e2 e3;ac_rfl;refine wd d3 (oV kv) (aA (by rw [Lc];omega)) (hE ()) λ ms hpm _=>?_;intro S H4 hS4 e4 s4;have gh:RgH H H4 w ro cl [] [] [] []:=⟨e03.trans e4,e4.at w3,e4.at ro3,e4.at h3,Al.nil⟩;have nSc:S ≠ cl:=λ z=>by rw [z,h3] at hS4;cases hS4
  have nSw:S ≠ w:=λ z=>by rw [z,w3] at hS4;cases hS4
  have nSr:S ≠ ro:=λ z=>by rw [z,ro3] at hS4;cases hS4
  have hmm:∀ x,x∈ms ↔ x∈kv.map (·.1):=λ x=>hpm.mem_iff;have hmn:ms.Nodup:=hpm.nodup_iff.mpr (hnd ());exists hmm;exists hmn;clear d3 w3 ro3 h3 hS4 e4 e03 hpm;ac_rfl;refine b9 (xs:=ms.map V.int) (λ i σ H'=>∃ (v4 v5 v6:Option V) (wv rv:List (Int × Int)) (Cl:List (List Int)) (ys:List V),σ=[some (.ref d),some (.ref w),some (.ref ro),some (.ref cl),v4,v5,v6,none,none]/\RgH H H' w ro cl wv rv Cl ys/\RgI kv (ms.take i) wv rv Cl/\H' S=some (.lst (ms.map V.int))) ⟨none,none,none,[],[],[],[],rfl,gh,by rw [NN];exact RgI.nil kv,s4⟩ (λ i σ H' _ ⟨_,_,_,_,_,_,_,_,_,_,q⟩=>q) ?_ ?_
  ·rintro i x _ H5 hx ⟨v4,v5,v6,wv,rv,Cl,ys,rfl,gh5,gi,s5⟩;rw [Lr] at hx;obtain⟨st,hst,rfl⟩:=Lk.mp hx;have hsk:(aa kv st).isSome=true:=ak.mpr ((hmm () st).mp (Ly hst));have htk:ms.take (i+1)=ms.take i++[st]:=by rw [LW,hst];rfl
   have hsn:st ∉ ms.take i:=λ hm=>by
    have h1:=hmn ();rw [←MU i ms,L9] at h1;exact h1.2.2 st hm st (Ly (i:=0) (by rw [NL];simpa using hst)) rfl
   have P0:=gi.rfp (hnd ()) h4 hsn;have d5:=cG (w:=w) (gh5.e.at hd) (λ z=>by rw [z,fw] at hd;cases hd);exists P0;exists gi;exists htk;exists hsk;exists gh5;exists d5;clear hx hst hsn gh s4;ac_rfl;rw [GN];refine⟨oE [w] H5,kv,wv,tD _ _,jU _ _,d5 (),(gh5 ()).hw,P0 (),λ tr c r H6 we ho hr6 nrw e6 w6 h6=>?_⟩;have gh6:=(gh5 ()).walk fw nro e6 w6;have s6:=e6.at (cG (w:=w) s5 nSw);exists gh6;exists we;exists ho;clear s5 w6
   by_cases hct:c∈tr
   ·obtain⟨a,b,rfl,hca⟩:=cY hct;rw [rT hca] at h6
    cases b with
    | nil=>
     have gi':=(gi ()).self (P0 ()) (we ()) (hsk ());rw [←htk ()] at gi';exists gi';ac_rfl;exact⟨_,_,_,_,rv,Cl,ys,rfl,gh6 (),gi' ()⟩
    | cons b0 b=>
     have hb1:(1:Int) < ((b.length+1+1:Nat):Int):=by omega
     have h5c:(c::b0::b).length<=4200:=by
      have h1:=rH (P0 ()) (we ());unfold wkD at h1;rw [length_append,length_map,length_append] at h1;omega
     have hys:ys.length<=4200:=by
      have h1:=cn (gi ()).sr.nd (b:=kv.map (·.1)) λ x hx=>by
       obtain⟨l,hl,rfl⟩:=Le.mp hx;obtain⟨d,h1,_⟩:=((gi ()).sr.rng l hl).1.1.mem ((gi ()).sr.rng l hl).1.head_mem;exact ak.mp (by rw [h1];rfl)
      rw [Lc,Lc,←(gh6 ()).al.1] at h1;omega
     have hinr:∀ x∈c::b0::b,(aa kv x).isSome=true:=λ x hx=>by
      obtain⟨d,h1,_⟩:=(we ()).pth.mem (Lw _ hx);rw [h1];rfl
     have nrc:r ≠ cl:=λ z=>by
      have h1:=mn hr6 nrw;rw [z,(gh5 ()).hcl] at h1;cases h1
     have nrr:r ≠ ro:=λ z=>by
      have h1:=mn hr6 nrw;rw [z,(gh5 ()).hro] at h1;cases h1
     exists h5c;exists hys;exists hinr;have c6:=(gh6 ()).hcl;have h6b:=h6;rw [LH,LH] at h6b;exists h6;ac_rfl;rw [GV];refine⟨c::b0::b,h6 (),by simp,by have:=h5c ();omega,λ a' b' m r2 H7 ea hm hle hr7 e7 h7=>?_⟩
     obtain⟨bs,rfl⟩:∃ bs,b'=m::bs:=by
      cases b' with
      | nil=>cases hm
      | cons y bs=>cases hm;exact⟨bs,rfl⟩
     have gh7:=(gh6 ()).ext e7;have c7:=gh7.hcl;have r7:=e7.at (h6 ());have s7:=e7.at s6;have n2:r2 ≠ cl:=λ z=>by rw [z,c6] at hr7;cases hr7
     have n2r:r2 ≠ ro:=λ z=>by rw [z,(gh6 ()).hro] at hr7;cases hr7
     have gh8:=gh7.app fcl h7 n2 ((gh6 ()).e.free hr7);have at1:atI (ys++[V.ref r2]) (-1)=some (.ref r2):=pJ ys _;exists ea;exists hle;clear c6 h6b s6 h6 hr7 gh7;ac_rfl;refine⟨aJ (by have:=hys ();omega),?_⟩;have r8:upd H7 cl (.lst (ys++[V.ref r2])) r=some (.lst ((c::b0::b).map V.int)):=by rw [af nrc];exact r7
     have q8:upd H7 cl (.lst (ys++[V.ref r2])) r2=some (.lst ((m::bs++a').map V.int)):=by rw [af n2];exact h7
     have s8:upd H7 cl (.lst (ys++[V.ref r2])) S=some (.lst (ms.map V.int)):=by rw [af nSc];exact s7
     generalize upd H7 cl (.lst (ys++[V.ref r2]))=H8 at gh8 r8 q8 s8;clear c7 r7 s7 h7 e7;exists gh8;have jn:=RoJ.ini (gi ()).ro m;ac_rfl;refine b9 (xs:=(c::b0::b).map V.int) (λ i2 σ H'=>∃ (v6:Option V) (rv':List (Int × Int)),σ=[some (.ref d),some (.ref w),some (.ref ro),some (.ref cl),some (.int st),some (.ref r),v6,none,none]/\RgH H H' w ro cl (wkD wv st (a++c::b0::b)) rv' (Cl++[m::bs++a']) (ys++[.ref r2])/\RoJ Cl kv rv ((c::b0::b).take i2) m rv'/\H' r=some (.lst ((c::b0::b).map V.int))/\H' r2=some (.lst ((m::bs++a').map V.int))/\H' S=some (.lst (ms.map V.int))) ⟨v6,rv,rfl,gh8 (),jn,r8,q8,s8⟩ (λ i2 σ H' _ ⟨_,_,_,_,_,q,_⟩=>q) ?_ ?_
     ·rintro i2 x _ H9 hx ⟨v6',rv',rfl,gh9,j9,r9,q9,s9⟩;rw [Lr] at hx;obtain⟨ce,hce,rfl⟩:=Lk.mp hx;have htk2:(c::b0::b).take (i2+1)=(c::b0::b).take i2++[ce]:=by rw [LW,hce];rfl
      have j10:=j9.put (hinr () ce (Ly hce));rw [←htk2] at j10;have gh10:=gh9.put (rv':=bh rv' ce m) fro nro;have c9:=gh9.hcl;have o9:=gh9.hro;have hl5:(aj rv').length < sizeLine:=aJ (by rw [az];have:=j9.len;omega);have r10:upd H9 ro (.dK (aj (bh rv' ce m))) r=some (.lst ((c::b0::b).map V.int)):=by rw [af nrr];exact r9
      have q10:upd H9 ro (.dK (aj (bh rv' ce m))) r2=some (.lst ((m::bs++a').map V.int)):=by rw [af n2r];exact q9
      have s10:upd H9 ro (.dK (aj (bh rv' ce m))) S=some (.lst (ms.map V.int)):=by rw [af nSr];exact s9
      have q9':H9 r2=some (.lst (V.int m::(bs++a').map V.int)):=q9;exists gh10;exists j10;exists r10;exists q10;exists s10;clear hx hce htk2 gh9 j9 r9 q9 s9 jn r8 q8 s8;ac_rfl;refine bH (k:=.inl ce) o9 hl5 ?_;rw [aW];exact⟨_,_,rfl,gh10 (),j10 (),r10 (),q10 (),s10 ()⟩
     ·rintro _ H9 ⟨v6',rv',rfl,gh9,j9,r9,q9,s9⟩;rw [Lc,Me] at j9;have gi':=(gi ()).ring (P0 ()) (we ()) (hsk ()) (List.cons_ne_nil _ _) (ea ()) hm (hle ()) j9;rw [←htk ()] at gi';exists gi';exists gh9;exact⟨_,_,_,_,rv',_,_,rfl,gh9 (),gi' (),s9⟩
   ·rw [rS hct] at h6;have gi':=(gi ()).out (P0 ()) (we ()) (ho ()) (hsk ()) hct;rw [←htk ()] at gi';exists gi';ac_rfl;exact⟨_,_,_,_,rv,Cl,ys,rfl,gh6 (),gi' ()⟩
  ·rintro _ H5 ⟨v4,v5,v6,wv,rv,Cl,ys,rfl,gh5,gi,s5⟩;rw [Lc,Me] at gi;have d5:=gh5.e.at hd;have ndr:d ≠ ro:=λ z=>by rw [z,fro] at hd;cases hd
   have hro5:=gh5.hro;exists gi;exists gh5;clear s5 gh s4;ac_rfl;rw [GY];refine⟨kv,rv,d5,hro5,ndr,h4,λ dr H6 dv hr6 e6 h6 di=>?_⟩;have gh6:=(gh5 ()).ext e6;have c6:=gh6.hcl;have al6:=gh6.al
   have hCl:Cl.length<=4200:=by
    have h1:=cn (gi ()).sr.nd (b:=kv.map (·.1)) λ x hx=>by
     obtain⟨l,hl,rfl⟩:=Le.mp hx;obtain⟨d,h1,_⟩:=((gi ()).sr.rng l hl).1.1.mem ((gi ()).sr.rng l hl).1.head_mem;exact ak.mp (by rw [h1];rfl)
    rw [Lc,Lc] at h1;omega
   have hll:∀ l∈Cl,l.length<=4200:=λ l hl=>by
    have h1:=cn ((gi ()).sr.rng l hl).1.1.nodup (b:=kv.map (·.1)) λ x hx=>by
     obtain⟨d,h1,_⟩:=((gi ()).sr.rng l hl).1.1.mem hx;exact ak.mp (by rw [h1];rfl)
    rw [Lc] at h1;omega
   have hbr:∀ l∈Cl,(!(l.any λ x=>(cJ dv (.inl x)).isSome))=fB (aa kv) (kv.map (·.1)) l:=λ l hl=>by
    rw [←CP (hnd ()) (λ l hl=>((gi ()).sr.rng l hl).1) (gi ()).ro hl];congr 2;funext x;exact di.2 x
   exists gh6;exists al6;exists hll;exists hbr;clear d5 hro5 hr6 di;ac_rfl;refine mq Cl (λ _=>true) (λ l x _=>InL H cl l x H6) (λ D l y H'=>∃ q r,y=.ref q/\H' q=some (.tup [.ref r,.bl (fB (aa kv) (kv.map (·.1)) l)])/\H' r=some (.lst (l.map V.int))/\H r=none/\r ≠ D) (pT (R:=λ l y _=>InL H cl l y H6) (λ _ _ _ _ q _=>q) c6 (al6 ())).1 (pT (R:=λ l y _=>InL H cl l y H6) (λ _ _ _ _ q _=>q) c6 (al6 ())).2 (λ D z y H1 H2 ⟨q,r,a1,a2,a3,a4,a5⟩ e=>⟨q,r,a1,e.at a2,e.at a3,a4,a5⟩) (λ D z y H1 xs o ⟨q,r,a1,a2,a3,a4,a5⟩ hD=>⟨q,r,a1,by rw [af λ z=>by rw [z,hD] at a2;cases a2];exact a2,by rw [af a5];exact a3,a4,a5⟩) (aA %[0|8]) ?_ ?_
   ·intro D l x H7 N1 N0 hlm hD e7 _ p k1 _;obtain⟨r,rfl,hr6,_,hrn⟩:=p;have hrD:r ≠ D:=λ z=>by rw [z,hD] at hr6;cases hr6
    have r7:=e7.at hr6;have dr7:=e7.at h6;have hl7:=hll () l hlm;have hb7:=hbr () l hlm;replace k1:=λ (_:Unit)=>k1 rfl;exists hb7;clear hlm hD h6 c6 k;simp! only [↓aV,↓bo];refine bX (l.map V.int) (λ _=>true) (λ z=>.bl (cJ dv (Sum.inl (viI z))).isSome) (λ z x H'=>x=z/\H' r=some (.lst (l.map V.int))) (i9 r7).1 (i9 r7).2 (aA (by rw [Lc];omega)) ?_ ?_
    ·intro L2 z x H' M1 M0 hz hL2 e ⟨hx,_⟩ j1 _;subst hx;obtain⟨c,_,rfl⟩:=Le.mp hz;have dr8:=e.at dr7;have j1':M1 (.bl (cJ dv (Sum.inl c)).isSome) H':=j1 rfl H' (Ext.refl _);clear j1 hz k1;simp! only [↓aV,↓bo];refine eG (k:=Sum.inl c) dr8 ?_;simp! only [↓aV,↓bo]
    intro L2 H8 hL2 e8 h8
    have h8':H8 L2=some (.lst ((l.map λ x=>(cJ dv (Sum.inl x)).isSome).map V.bl)):=by
     rw [h8,LV,L7.mpr (λ _ _=>rfl),LV];rfl
    have hany:(l.map λ x=>(cJ dv (Sum.inl x)).isSome).any id = !(fB (aa kv) (kv.map (·.1)) l):=by
     rw [←hb7 (),List.any_map,Bool.not_not];rfl
    have bl5:(l.map λ x=>(cJ dv (Sum.inl x)).isSome).length<=4200:=by rw [Lc];exact hl7
    have r8:=e8.at r7;generalize (l.map λ x=>(cJ dv (Sum.inl x)).isSome)=bs at h8' hany bl5;clear h8 dr7 r7;ac_rfl;rw [Bool.not_not];intro q H9 hq9 e9 h9;exact k1 () _ H9 (e8.trans e9) ⟨q,r,rfl,h9,e9.at r8,hrn,hrD⟩
   ·intro D ys2 H7 hD e7 h7 al7;rw [L7.mpr (λ _ _=>rfl)] at al7;exists al7;have e07:=(gh6 ()).e.trans e7;clear h6 c6;ac_rfl;refine wb (Cl.map λ l=>l.headD 0) h7 (by rw [Lc];exact((al7 ()).1).symm) (.inl (by rw [Lc];exact hF () Cl (λ l hl=>((gi ()).sr.rng l hl).1) (gi ()).sr.nd)) (λ i x kk hx hk Q' E' hq=>?_) λ out hpo hso=>?_
    ·rw [Lr] at hk;obtain⟨l,hl,rfl⟩:=Lk.mp hk;obtain⟨q,r,rfl,a2,a3,_,_⟩:=(al7 ()).2 i l x hl hx;obtain⟨c,cs,rfl,_⟩:=((gi ()).sr.rng l (Ly hl)).1.1;rw [GX];exact⟨r,_,c,cs.map V.int,a2,a3,hq⟩
    ·intro r9 H9 hr9 e9 h9
     have ez:(Cl.map λ l=>l.headD 0).zip ys2=(Cl.zip ys2).map λ t=>(t.1.headD 0,t.2):=by
      rw [List.zip_map_left];rfl
     obtain⟨T',hT,rfl⟩:=jk hpo _ ez
     have hmem:∀ z∈T',z.1∈Cl/\∃ q r,z.2=.ref q/\H7 q=some (.tup [.ref r,.bl (fB (aa kv) (kv.map (·.1)) z.1)])/\H7 r=some (.lst (z.1.map V.int))/\H r=none/\r ≠ D:=λ z hz=>by
      have h1:=hT.mem_iff.mp hz;obtain⟨j,hj,ej⟩:=Mr h1;have hzz:(Cl.zip ys2)[j]? = some z:=by rw [K1 hj,ej]
      obtain⟨g1,g2⟩:=MF.mp hzz;exact⟨Ly g1,(al7 ()).2 j z.1 z.2 g1 g2⟩
     have hLp:(T'.map λ z=>(z.1,fB (aa kv) (kv.map (·.1)) z.1)).Perm (Cl.map λ l=>(l,fB (aa kv) (kv.map (·.1)) l)):=by
      have h1:=(hT.map Prod.fst).map λ l=>(l,fB (aa kv) (kv.map (·.1)) l);rw [LV,OS (by rw [(al7 ()).1];exact Li _)] at h1;exact h1
     have hLs:(T'.map λ z=>(z.1,fB (aa kv) (kv.map (·.1)) z.1)).Pairwise λ p q=>p.1.headD 0<=q.1.headD 0:=by
      rw [Ms] at hso ⊢;exact hso
     refine k _ r9 H9 (ub (gi ()) (hmm ()) hLp hLs) (e07.trans e9) ⟨_,h9,e07.free hr9,by simp,λ i p y hp hy=>?_⟩;rw [Lr] at hp;obtain⟨z,hz,rfl⟩:=Lk.mp hp;rw [Lr,Lr,hz] at hy;cases hy;obtain⟨_,q,r,a1,a2,a3,a4,_⟩:=hmem z (Ly hz);exact⟨q,r,a1,e9.at a2,e9.at a3,a4,λ zz=>by rw [zz,hr9] at a3;cases a3⟩
def ck(kv:List (Int × Int))(c:Int):Int:=(aa kv c).getD c
theorem cV{kv:List (Int × Int)}{c d:Int}(h:aa kv c=some d):ck kv c=d:=by unfold ck;rw [h];rfl
def WrP(kv:List (Int × Int))(c:Int):Prop:=∃ d,aa kv c=some d/\d ≠ c
def rdL(kv:List (Int × Int))(D:List Int)(o:Int):List (Int × Int):=kv.filter λ p=>decide (p.2=o) && (!decide (p.1=o) && !decide (p.1∈D))
def rdr(kv:List (Int × Int))(D:List Int)(o:Int):Nat:=(rdL kv D o).length
theorem nL{kv:List (Int × Int)}{D:List Int}{o:Int}{p:Int × Int}:p∈rdL kv D o ↔ p∈kv/\p.2=o/\p.1 ≠ o/\p.1 ∉ D:=by
 unfold rdL;rw [List.mem_filter];simp
theorem j7{kv:List (Int × Int)}{D:List Int}{o:Int}:rdr kv D o=0 ↔ ∀ p∈kv,p.2=o->p.1 ≠ o->p.1∈D:=by
 unfold rdr;rw [List.length_eq_zero_iff];constructor
 ·intro h p hp h1 h2
  by_cases m:p.1∈D
  ·exact m
  ·exact absurd (nL.mpr ⟨hp,h1,h2,m⟩) (by rw [h];exact Ld)
 ·intro h
  cases e:rdL kv D o with
  | nil=>rfl
  | cons p r=>
   obtain⟨h1,h2,h3,h4⟩:=nL.mp (show p∈rdL kv D o by rw [e];exact Lj);exact absurd (h p h1 h2 h3) h4
theorem gA{α:Type}[DecidableEq α]{P Q:α->Bool}{a:α}:∀ {l:List α},l.Nodup->a∈l->P a=true->Q a=false->(∀ x∈l,x ≠ a->Q x=P x)->(l.filter Q).length+1=(l.filter P).length
 | [],_,h,_,_,_=>absurd h Ld
 | x::l,hn,h,hp,hq,he=>by
  have hn':=LO.mp hn;rw [NO,NO]
  by_cases e:x=a
  ·subst e;rw [hp,hq];have:l.filter Q=l.filter P:=List.filter_congr λ y hy=>he y (Lg _ hy) λ z=>hn'.1 (by rw [←z];exact hy);simp [this]
  ·have h':a∈l:=(Lz.mp h).resolve_left λ z=>e z.symm;have ih:=gA hn'.2 h' hp hq λ y hy=>he y (Lg _ hy);rw [he x Lj e];split
   ·rw [LR,LR];omega
   ·exact ih
theorem qk{kv:List (Int × Int)}(h:NdK kv):kv.Nodup:=by
 have h1:kv.Pairwise λ p q=>p.1 ≠ q.1:=Ms.mp h;rw [Mn];exact h1.imp λ hn e=>hn (by rw [e])
theorem wG{kv:List (Int × Int)}(hn:NdK kv){D:List Int}{c o:Int}(hc:aa kv c=some o)(hco:o ≠ c)(hD:c ∉ D)(x:Int):rdr kv (D++[c]) x+(if x=o then 1 else 0)=rdr kv D x:=by
 by_cases hx:x=o
 ·subst hx;rw [if_pos rfl];unfold rdr rdL;refine gA (a:=(c,x)) (qk hn) (bK hc) ?_ ?_ λ y hy hne=>?_
  ·have:¬ c=x:=λ e=>hco e.symm;simp [this,hD]
  ·simp
  ·have hyc:y.1 ≠ c:=λ e=>hne (by
    have h1:=aO hn (show (y.1,y.2)∈kv from hy);rw [e,hc] at h1;exact Prod.ext e (Lu h1).symm)
   simp [hyc]
 ·rw [if_neg hx,Nat.add_zero];unfold rdr rdL;congr 1;refine List.filter_congr λ y hy=>?_
  by_cases hy2:y.2=x
  ·have hyc:y.1 ≠ c:=λ e=>hx (by
    have h1:=aO hn (show (y.1,y.2)∈kv from hy);rw [e,hc] at h1;rw [←hy2];exact(Lu h1).symm)
   simp [hyc]
  ·simp [hy2]
structure BsI(kv:List (Int × Int))(D fr:List Int):Prop where
 dn:D.Nodup
 wr:∀ c∈D,WrP kv c
 ord:∀ D0 d D1,D=D0++d::D1->∀ p∈kv,p.2=d->p.1 ≠ d->p.1∈D0
 fn:fr.Nodup
 fi:∀ c,c∈fr ↔ c ∉ D/\WrP kv c/\rdr kv D c=0
theorem BsI.dz{kv:List (Int × Int)}{D fr:List Int}(b:BsI kv D fr){d:Int}(h:d∈D):rdr kv D d=0:=by
 obtain⟨D0,D1,rfl⟩:=Nd h;exact j7.mpr λ p hp h1 h2=>Ma _ (b.ord D0 d D1 rfl p hp h1 h2)
theorem BsI.next{kv:List (Int × Int)}(hn:NdK kv){D fr:List Int}{c o:Int}(b:BsI kv D (fr++[c]))(hc:aa kv c=some o):o ≠ c/\c ∉ D/\o ∉ D/\(∀ x,rdr kv (D++[c]) x+(if x=o then 1 else 0)=rdr kv D x)/\(rdr kv (D++[c]) o=0->WrP kv o->BsI kv (D++[c]) (fr++[o]))/\(¬ (rdr kv (D++[c]) o=0/\WrP kv o)->BsI kv (D++[c]) fr):=by
 obtain⟨hcD,⟨d,hd,hdc⟩,hr0⟩:=(b.fi c).mp (by simp);rw [hc] at hd;obtain rfl:=Lu hd;have st:=wG hn hc hdc hcD;have hro:1<=rdr kv D o:=by have:=st o;rw [Lo rfl] at this;omega
 have hoD:o ∉ D:=λ m=>by have:=b.dz m;omega
 have fnn:=L9.mp b.fn;have hcf:c ∉ fr:=λ m=>fnn.2.2 c m c Lj rfl;have hof:o ∉ fr:=λ m=>by have:=((b.fi o).mp (Ma _ m)).2.2;omega
 have dn':(D++[c]).Nodup:=by
  rw [L9];exact⟨b.dn,LO.mpr ⟨Ld,Mg⟩,λ x hx y hy e=>hcD (by rw [←Lq.mp hy,←e];exact hx)⟩
 have wr':∀ x∈D++[c],WrP kv x:=λ x hx=>(LJ.mp hx).elim (b.wr x) λ z=>by rw [Lq.mp z];exact⟨o,hc,hdc⟩
 have ord':∀ D0 d D1,D++[c]=D0++d::D1->∀ p∈kv,p.2=d->p.1 ≠ d->p.1∈D0:=by
  intro D0 d D1 e
  rcases MH D1 with h|⟨D2,y,h⟩
  ·subst h
   have e2:D=D0/\c=d:=by
    have:=List.append_inj' e rfl;exact⟨this.1,(Ml this.2).1⟩
   obtain⟨rfl,rfl⟩:=e2;exact λ p hp h1 h2=>j7.mp hr0 p hp h1 h2
  ·subst h;have e2:D++[c]=(D0++d::D2)++[y]:=by rw [e];simp
   have:=(List.append_inj' e2 rfl).1;exact b.ord D0 d D2 this
 have key:∀ x,x ≠ o->((x ∉ D++[c]/\WrP kv x/\rdr kv (D++[c]) x=0) ↔ x∈fr):=by
  intro x hx;have h1:=st x;rw [Lm hx,N9] at h1;rw [h1];have h2:=b.fi x;rw [LJ,Lq] at h2;rw [LJ,Lq];constructor
  ·rintro ⟨a1,a2,a3⟩;have:=h2.mpr ⟨λ m=>a1 (.inl m),a2,a3⟩;exact this.resolve_right λ z=>a1 (.inr z)
  ·intro m;obtain⟨a1,a2,a3⟩:=h2.mp (.inl m);exact⟨λ z=>z.elim a1 λ e=>hcf (by rw [←e];exact m),a2,a3⟩
 refine⟨hdc,hcD,hoD,st,λ h0 hw=>⟨dn',wr',ord',?_,λ x=>?_⟩,λ h0=>⟨dn',wr',ord',fnn.1,λ x=>?_⟩⟩
 ·rw [L9];exact⟨fnn.1,LO.mpr ⟨Ld,Mg⟩,λ x hx y hy e=>hof (by rw [←Lq.mp hy,←e];exact hx)⟩
 ·by_cases hx:x=o
  ·subst hx;have:x ∉ D++[c]:=λ m=>(LJ.mp m).elim hoD λ z=>hdc (Lq.mp z);simp only [this,hw,h0,Nq,and_self,iff_true];simp
  ·rw [key x hx,LJ,Lq];exact⟨λ m=>m.resolve_right hx,.inl⟩
 ·by_cases hx:x=o
  ·subst hx;exact⟨λ m=>absurd m hof,λ ⟨_,a2,a3⟩=>absurd ⟨a3,a2⟩ h0⟩
  ·exact(key x hx).symm
theorem BsI.ring{kv:List (Int × Int)}(hn:NdK kv){D fr:List Int}(b:BsI kv D fr){l:List Int}(hl:eF (aa kv) l)(h2:2<=l.length):∀ x∈l,x ∉ D:=by
 have pre:∀ x∈l,∃ p∈l,aa kv p=some x/\p ≠ x:=by
  intro x hx;obtain⟨t,r,pm⟩:=hl.from hx;obtain⟨_,_,e,hp,hnd⟩:=r;obtain⟨rfl,rfl⟩:=Ml e
  have ht:t ≠ []:=λ z=>by
   have:=pm.length_eq;rw [z] at this;simp at this;omega
  obtain⟨t0,z,rfl⟩:=(MH t).resolve_left ht;have h1:Pth (aa kv) [z] x:=(show Pth (aa kv) ((x::t0)++[z]) x by simpa using hp).right;refine⟨z,pm.mem_iff.mp (by simp),h1,λ e=>?_⟩;rw [LO] at hnd;exact hnd.1 (by rw [e];simp)
 have go:∀ n D0 D1,D0.length=n->D=D0++D1->∀ x∈l,x ∉ D0:=by
  intro n
  induction n with
  | zero=>intro D0 D1 h0 _ x _ m;rw [NY.mp h0] at m;exact absurd m Ld
  | succ n ih=>
   intro D0 D1 h0 e x hx m;obtain⟨D2,y,rfl⟩:=(MH D0).resolve_left (λ z=>by rw [z] at h0;simp at h0);have e2:D=D2++y::D1:=by rw [e];simp
   have ih':=ih D2 (y::D1) (by simpa using h0) e2;rw [MW] at m
   rcases LJ.mp m with m|m
   ·exact ih' x hx m
   ·rw [Lq] at m;subst m;obtain⟨p,hp,hpx,hne⟩:=pre x hx;exact ih' p hp (b.ord D2 x D1 e2 (p,x) (bK hpx) rfl hne)
 exact λ x hx m=>go D.length D [] rfl (by simp) x hx m
theorem BsI.left{kv:List (Int × Int)}(hn:NdK kv){D:List Int}(b:BsI kv D []){c:Int}(hw:WrP kv c)(hc:c ∉ D):∃ l,eF (aa kv) l/\2<=l.length/\c∈l:=by
 have pre:∀ x,WrP kv x->x ∉ D->∃ p,aa kv p=some x/\p ≠ x/\WrP kv p/\p ∉ D:=by
  intro x hx hxD;have h0:¬ rdr kv D x=0:=λ h0=>absurd ((b.fi x).mpr ⟨hxD,hx,h0⟩) Ld
  cases e:rdL kv D x with
  | nil=>exact absurd (by unfold rdr;rw [e];rfl) h0
  | cons p r=>
   obtain⟨h1,h2,h3,h4⟩:=nL.mp (show p∈rdL kv D x by rw [e];exact Lj);have h5:=aO hn (show (p.1,p.2)∈kv from h1);rw [h2] at h5;exact⟨p.1,h5,h3,⟨x,h5,λ z=>h3 z.symm⟩,h4⟩
 have go:∀ n (p:Int) (t:List Int),kv.length+1<=(p::t).length+n->Pth (aa kv) (p::t) c->(p::t++[c]).Nodup->WrP kv p->p ∉ D->(∀ x∈p::t++[c],(aa kv x).isSome=true)->∃ l,eF (aa kv) l/\2<=l.length/\c∈l:=by
  intro n
  induction n with
  | zero=>
   intro p t hlen _ hnd _ _ hk;have h1:=cn hnd (b:=kv.map (·.1)) λ x hx=>ak.mp (hk x hx);rw [Lc,Ln] at h1;simp at h1 hlen;omega
  | succ n ih=>
   intro p t hlen hp hnd hwp hpD hk;obtain⟨q,hq,hqp,hwq,hqD⟩:=pre p hwp hpD
   by_cases hqc:q=c
   ·subst hqc;refine⟨p::t++[q],⟨p,t++[q],rfl,?_,hnd⟩,by simp,by simp⟩;exact Pth.snoc (t:=p::t) hp hq
   ·refine ih q (p::t) (by simp at hlen ⊢;omega) ⟨hq,hp⟩ ?_ hwq hqD λ x hx=>?_
    ·rw [M5,LO];refine⟨λ m=>?_,hnd⟩;rw [M5,Lz] at m
     rcases m with m|m
     ·exact hqp m
     ·rcases LJ.mp m with m|m
      ·obtain⟨u,v,huv⟩:=Nd (Lg p m);have hnd2:=hnd;have hpp:Pth (aa kv) (u++q::v) c:=by rw [←huv];exact hp
       have h1:=hpp.right.head;rw [hq] at h1;have h2:p=v.headD c:=Lu h1
       cases u with
       | nil=>
        have e:=(Ml huv).1;exact hqp e.symm
       | cons u0 u=>
        have e:=(Ml huv);rw [M5,LO] at hnd2;refine hnd2.1 ?_;rw [e.2]
        cases v with
        | nil=>rw [h2];simp
        | cons v0 v=>rw [h2];simp
      ·exact hqc (Lq.mp m)
    ·rw [M5,Lz] at hx
     rcases hx with rfl|hx
     ·rw [hq];rfl
     ·exact hk x hx
 obtain⟨p,hp,hpc,hwp,hpD⟩:=pre c hw hc;obtain⟨d,hd,_⟩:=hw;refine go kv.length p [] (by simp;omega) hp ?_ hwp hpD λ x hx=>?_
 ·simp [hpc]
 ·simp at hx
  rcases hx with rfl|rfl
  ·rw [hp];rfl
  ·rw [hd];rfl
def cK(s:Int->Int):List (Int × Int)->Int->Int
 | []=>s
 | (a,b)::r=>cK (λ x=>if x=b then s a else s x) r
theorem gO(r1 r2:List (Int × Int)):∀ s:Int->Int,cK s (r1++r2)=cK (cK s r1) r2:=by
 induction r1 with
 | nil=>intro s;rfl
 | cons p r ih=>intro s;exact ih _
def bU(kv:List (Int × Int))(D:List Int):List (Int × Int):=D.map λ c=>(ck kv c,c)
theorem wx{P:List Int->Prop}(h0:P [])(hs:∀ l x,P l->P (l++[x])):∀ l,P l:=by
 have:∀ n l,l.length=n->P l:=by
  intro n
  induction n with
  | zero=>intro l h;rw [NY.mp h];exact h0
  | succ n ih=>
   intro l h;obtain⟨l0,x,rfl⟩:=(MH l).resolve_left (λ z=>by rw [z] at h;simp at h);rw [MW] at h ⊢;exact hs l0 x (ih l0 (by simpa using h))
 exact λ l=>this _ l rfl
theorem G0{kv:List (Int × Int)}:∀ D:List Int,D.Nodup->(∀ c∈D,WrP kv c)->(∀ D0 d D1,D=D0++d::D1->∀ p∈kv,p.2=d->p.1 ≠ d->p.1∈D0)->∀ x,cK id (bU kv D) x=if x∈D then ck kv x else x:=by
 refine wx (λ _ _ _ x=>by rw [Lm Ld];rfl) λ D c ih hn hw ho x=>?_;have hn':=L9.mp hn;have hcD:c ∉ D:=λ m=>hn'.2.2 c m c Lj rfl;have ih':=ih hn'.1 (λ d hd=>hw d (Ma _ hd)) λ D0 d D1 e=>ho D0 d (D1++[c]) (by rw [e];simp);obtain⟨o,hco,hoc⟩:=hw c (by simp)
 have hoD:o ∉ D:=λ m=>by
  obtain⟨A,B,e⟩:=Nd m;have:=ho A o (B++[c]) (by rw [e];simp) (c,o) (bK hco) rfl (λ z=>hoc z.symm);exact hcD (by rw [e];simp [this])
 have e1:bU kv (D++[c])=bU kv D++[(ck kv c,c)]:=by unfold bU;rw [map_append];rfl
 rw [e1,gO]
 show (if x=c then cK id (bU kv D) (ck kv c) else cK id (bU kv D) x)=_
 rw [ih',ih',cV hco,Lm hoD]
 by_cases hx:x=c
 ·rw [Lo hx,Lo (by rw [hx];simp),hx,cV hco]
 ·rw [Lm hx];have:x∈D++[c] ↔ x∈D:=by simp [hx]
  simp only [this]
def m3:List Int->Int->List (Int × Int)
 | [],_=>[]
 | [c],e=>[(e,c)]
 | c::d::t,e=>(d,c)::m3 (d::t) e
theorem fE(e:Int):∀ l:List Int,(m3 l e).length=l.length
 | []=>rfl
 | [c]=>rfl
 | c::d::t=>by
  show (m3 (d::t) e).length+1=_
  rw [fE e (d::t)];rfl
theorem oY(e:Int):∀ (l:List Int) (z:Int),m3 (l++[z]) e=((l++[z]).zip (l++[z]).tail).map (λ p=>(p.2,p.1))++[(e,z)]
 | [],z=>rfl
 | [c],z=>rfl
 | c::d::t,z=>by
  have ih:=oY e (d::t) z
  show (d,c)::m3 ((d::t)++[z]) e=_
  rw [ih];rfl
theorem nD(e:Int):∀ (l:List Int),∀ p∈m3 l e,(p.1=e\/p.1∈l)/\p.2∈l
 | [],p,h=>absurd h Ld
 | [c],p,h=>by rw [Lq.mp h];simp
 | c::d::t,p,h=>by
  rcases Lz.mp h with rfl|h
  ·simp
  ·obtain⟨h1,h2⟩:=nD e (d::t) p h;exact⟨h1.imp id (Lg _),Lg _ h2⟩
theorem nC{kv:List (Int × Int)}{e z:Int}:∀ (t:List Int) (c:Int) (s:Int->Int),(∀ x∈c::t,s x=x)->(c::t).Nodup->e ∉ c::t->s e=z->Pth (aa kv) (c::t) z->∀ x,cK s (m3 (c::t) e) x=if x∈c::t then ck kv x else s x
 | [],c,s,hs,hn,he,hz,hp,x=>by
  show (if x=c then s e else s x)=_
  have h1:ck kv c=z:=cV hp
  by_cases hx:x=c
  ·rw [Lo hx,Lo (by rw [hx];simp),hz,hx,h1]
  ·rw [Lm hx,Lm (by simpa using hx)]
 | d::t,c,s,hs,hn,he,hz,hp,x=>by
  have hn':=LO.mp hn
  show cK (λ x=>if x=c then s d else s x) (m3 (d::t) e) x=_
  have hec:¬ e=c:=λ z=>he (by rw [z];exact Lj);rw [nC t d _ (λ y hy=>?_) hn'.2 (λ m=>he (Lg _ m)) (by show (if e=c then _ else _)=z;rw [Lm hec];exact hz) hp.2]
  ·by_cases hx:x=c
   ·have h1:x ∉ d::t:=λ m=>hn'.1 (by rw [←hx];exact m);rw [Lm h1]
    show (if x=c then s d else s x)=_
    rw [Lo hx,Lo (by rw [hx];exact Lj),hs d (by simp),hx,cV hp.1]
   ·have h2:x∈c::d::t ↔ x∈d::t:=by rw [Lz];simp [hx]
    simp only [h2,Lm hx]
  ·have hyc:¬ y=c:=λ z=>hn'.1 (by rw [←z];exact hy)
   show (if y=c then s d else s y)=y
   rw [Lm hyc];exact hs y (Lg _ hy)
def pX(kv:List (Int × Int))(D:List Int)(p:List Int × Bool)(rs:List (Int × Int)):Prop:=(p.2=true/\rs=(p.1.headD 0,-1)::m3 p.1 (-1))\/(p.2=false/\∃ a r0 b e,p.1=a++r0::b/\e∈D/\aa kv e=some r0/\rs=m3 (r0::b++a) e)
theorem pX.len{kv:List (Int × Int)}{D:List Int}{p:List Int × Bool}{rs:List (Int × Int)}(h:pX kv D p rs):rs.length=p.1.length+(if p.2=true then 1 else 0):=by
 rcases h with ⟨h1,h2⟩|⟨h1,a,r0,b,e,h2,_,_,h3⟩
 ·rw [h2,LR,fE,Lo h1]
 ·rw [h3,fE,Lm (by rw [h1];exact Lx),h2,Ln,Ln];omega
def InK(kv:List (Int × Int))(x:Int):Prop:=x=-1\/x∈kv.map (·.1)\/x∈kv.map (·.2)
theorem pX.ink{kv:List (Int × Int)}{D:List Int}{p:List Int × Bool}{rs:List (Int × Int)}(h:pX kv D p rs)(hr:cU (aa kv) p.1):∀ q∈rs,InK kv q.1/\InK kv q.2:=by
 have hk:∀ x∈p.1,InK kv x:=λ x hx=>by
  obtain⟨d,h1,_⟩:=hr.1.mem hx;exact .inr (.inl (ak.mp (by rw [h1];rfl)))
 rcases h with ⟨h1,rfl⟩|⟨h1,a,r0,b,e,h2,he,hf,rfl⟩
 ·intro q hq
  rcases Lz.mp hq with rfl|hq
  ·exact⟨hk _ hr.head_mem,.inl rfl⟩
  ·obtain⟨g1,g2⟩:=nD _ _ q hq;exact⟨g1.elim .inl (hk _),hk _ g2⟩
 ·intro q hq;have pm:∀ x,x∈r0::b++a->x∈p.1:=λ x hx=>by rw [h2];rw [LJ] at hx ⊢;exact hx.symm
  obtain⟨g1,g2⟩:=nD _ _ q hq;refine⟨g1.elim (λ z=>?_) λ z=>hk _ (pm _ z),hk _ (pm _ g2)⟩;rw [z];exact .inr (.inl (ak.mp (by rw [hf];rfl)))
def StR(kv:List (Int × Int))(D:List Int)(Lp:List (List Int × Bool))(rows:List (Int × Int)):Prop:=∀ x,x ≠ -1->cK id rows x=if x∈D\/∃ p∈Lp,x∈p.1 then ck kv x else x
theorem StR.add{kv:List (Int × Int)}{D:List Int}{Lp:List (List Int × Bool)}{rows rs:List (Int × Int)}{p:List Int × Bool}(h:StR kv D Lp rows)(hr:cU (aa kv) p.1)(hD:∀ x∈p.1,x ∉ D)(hL:∀ q∈Lp,∀ x∈p.1,x ∉ q.1)(h1:-1 ∉ p.1)(hD1:-1 ∉ D)(hw:pX kv D p rs):StR kv D (Lp++[p]) (rows++rs):=by
 have old:∀ x∈p.1,cK id rows x=x:=λ x hx=>by
  rw [h x (λ z=>h1 (by rw [←z];exact hx)),Lm];rintro (m|⟨q,hq,m⟩)
  ·exact hD x hx m
  ·exact hL q hq x hx m
 have fin:∀ s:Int->Int,(∀ x,s x=if x∈p.1 then ck kv x else cK id rows x)->∀ x,x ≠ -1->s x=if x∈D\/∃ q∈Lp++[p],x∈q.1 then ck kv x else x:=by
  intro s hs x hx;rw [hs x]
  by_cases m:x∈p.1
  ·rw [Lo m,Lo (.inr ⟨p,by simp,m⟩)]
  ·rw [Lm m,h x hx]
   have:(x∈D\/∃ q∈Lp++[p],x∈q.1) ↔ (x∈D\/∃ q∈Lp,x∈q.1):=by
    constructor
    ·rintro (z|⟨q,hq,z⟩)
     ·exact .inl z
     ·rcases LJ.mp hq with hq|hq
      ·exact .inr ⟨q,hq,z⟩
      ·rw [Lq.mp hq] at z;exact absurd z m
    ·rintro (z|⟨q,hq,z⟩)
     ·exact .inl z
     ·exact .inr ⟨q,Ma _ hq,z⟩
   simp only [this]
 rcases hw with ⟨_,rfl⟩|⟨_,a,r0,b,e,hp,he,hf,rfl⟩
 ·intro x hx;rw [gO];obtain⟨c,t,hct,hpth,hnd⟩:=hr.1;have hh:p.1.headD 0=c:=by rw [hct];rfl
  show cK (λ y=>if y=-1 then cK id rows (p.1.headD 0) else cK id rows y) (m3 p.1 (-1)) x=_
  rw [hct,nC (kv:=kv) (z:=c) t c _ (λ y hy=>?_) hnd (by rw [←hct];exact h1) (by show (if (-1:Int)=-1 then _ else _)=c;rw [Lo rfl,←hct,hh];exact old c (by rw [hct];simp)) hpth]
  ·have:=fin (λ x=>if x∈p.1 then ck kv x else cK id rows x) (λ _=>rfl) x hx;rw [←this]
   show (if x∈c::t then ck kv x else if x=-1 then _ else cK id rows x)=(if x∈p.1 then _ else _)
   rw [Lm hx,hct]
  ·have hy':y∈p.1:=by rw [hct];exact hy
   show (if y=-1 then _ else cK id rows y)=y
   rw [Lm λ z=>h1 (by rw [←z];exact hy')];exact old y hy'
 ·intro x hx;rw [gO];have rr:eF (aa kv) (r0::b++a):=by have:=hr.1;rw [hp] at this;exact this.rot
  have pm:∀ x,x∈r0::b++a ↔ x∈p.1:=λ x=>by rw [hp,LJ,LJ];exact Or.comm
  obtain⟨c,t,hct,hpth,hnd⟩:=rr;obtain⟨rfl,rfl⟩:=Ml hct
  have hse:cK id rows e=r0:=by
   rw [h e (λ z=>hD1 (by rw [←z];exact he)),Lo (.inl he),cV hf]
  have hep:e ∉ r0::(b++a):=λ m=>hD e ((pm e).mp m) he
  show cK (cK id rows) (m3 (r0::(b++a)) e) x=_
  rw [nC (kv:=kv) (z:=r0) (b++a) r0 _ (λ y hy=>old y ((pm y).mp hy)) hnd hep hse hpth];have:=fin (λ x=>if x∈p.1 then ck kv x else cK id rows x) (λ _=>rfl) x hx;rw [←this];have e2:x∈r0::(b++a) ↔ x∈p.1:=pm x;simp only [e2]
theorem p9{f:Int->Option Int}{l:List Int}(h:eF f l)(h2:2<=l.length):∃ l',cU f l'/\l'.Perm l:=by
 have hne:l ≠ []:=h.ne
 obtain⟨M,hM,hm⟩:∃ M∈l,∀ x∈l,M<=x:=by
  have:∀ l:List Int,l ≠ []->∃ M∈l,∀ x∈l,M<=x:=by
   intro l
   induction l with
   | nil=>intro h;exact absurd rfl h
   | cons y l ih=>
    intro _
    by_cases e:l=[]
    ·subst e;exact⟨y,by simp,λ x hx=>by rw [Lq.mp hx];exact NG _⟩
    ·obtain⟨M,h1,h2⟩:=ih e
     by_cases hy:y<=M
     ·exact⟨y,by simp,λ x hx=>(Lz.mp hx).elim (λ z=>by rw [z];exact NG _) λ z=>OP hy (h2 x z)⟩
     ·exact⟨M,Lg _ h1,λ x hx=>(Lz.mp hx).elim (λ z=>by rw [z];omega) (h2 x)⟩
  exact this l hne
 obtain⟨a,b,e⟩:=Nd hM;exact⟨(M::b)++a,JL h h2 e rfl hm,by rw [e];exact Nv⟩
def wrN(kv:List (Int × Int)):Nat:=(kv.filter λ p=>!decide (p.2=p.1)).length
def Aj(kv rows:List (Int × Int)):Prop:=(∀ x,x ≠ -1->cK id rows x=ck kv x)/\(∀ q∈rows,InK kv q.1/\InK kv q.2)/\(∀ L,bY (aa kv) (kv.map (·.1)) L->rows.length=wrN kv+(L.filter (·.2)).length)/\∃ L,bY (aa kv) (kv.map (·.1)) L
theorem tU{kv:List (Int × Int)}(hn:NdK kv)(x:Int):x∈(kv.filter λ p=>!decide (p.2=p.1)).map (·.1) ↔ WrP kv x:=by
 constructor
 ·intro h;obtain⟨p,hp,rfl⟩:=Le.mp h;obtain⟨h1,h2⟩:=MV.mp hp;exact⟨p.2,aO hn h1,by simpa using h2⟩
 ·rintro ⟨d,h1,h2⟩;exact Le.mpr ⟨(x,d),MV.mpr ⟨bK h1,by simpa using h2⟩,rfl⟩
theorem nP:∀ {L:List (List Int × Bool)},(∀ p∈L,p.1.Nodup)->L.Pairwise (λ p q=>∀ x∈p.1,x ∉ q.1)->(L.flatMap (·.1)).Nodup
 | [],_,_=>Mg
 | p::L,h1,h2=>by
  obtain⟨a,b⟩:=MS.mp h2;rw [NV,L9];refine⟨h1 p Lj,nP (λ q hq=>h1 q (Lg _ hq)) b,λ x hx y hy e=>?_⟩;obtain⟨q,hq,hyq⟩:=Ny.mp hy;exact a q hq x hx (by rw [e];exact hyq)
theorem fg{kv:List (Int × Int)}{L:List (List Int × Bool)}(h:bY (aa kv) (kv.map (·.1)) L):L.Pairwise (λ p q=>∀ x∈p.1,x ∉ q.1):=by
 have h1:=h.1;have h2:=h.2.1;clear h
 induction L with
 | nil=>exact .nil
 | cons p L ih=>
  obtain⟨a,b⟩:=MS.mp h1;refine MS.mpr ⟨λ q hq x hx hxq=>?_,ih b λ q hq=>h2 q (Lg _ hq)⟩;have e:=gP (h2 p Lj).1 (h2 q (Lg _ hq)).1 hx hxq;have:=a q hq;rw [e] at this;omega
theorem wF{kv rows:List (Int × Int)}(hn:NdK kv){D:List Int}(b:BsI kv D []){L:List (List Int × Bool)}(hL:bY (aa kv) (kv.map (·.1)) L)(st:StR kv D L rows)(ik:∀ q∈rows,InK kv q.1/\InK kv q.2)(hlen:rows.length=D.length+(L.map λ p=>p.1.length+if p.2=true then 1 else 0).sum):Aj kv rows:=by
 have dich:∀ x,WrP kv x ↔ (x∈D\/∃ p∈L,x∈p.1):=by
  intro x;constructor
  ·intro hw
   by_cases m:x∈D
   ·exact .inl m
   ·obtain⟨l,h1,h2,h3⟩:=b.left hn hw m;obtain⟨l',h4,h5⟩:=p9 h1 h2;obtain⟨bb,hb⟩:=hL.2.2 l' h4;exact .inr ⟨(l',bb),hb,h5.mem_iff.mpr h3⟩
  ·rintro (m|⟨p,hp,m⟩)
   ·exact b.wr x m
   ·have rl:=(hL.2.1 p hp).1;obtain⟨d,h1,h2⟩:=rl.1.mem m;refine⟨d,h1,λ e=>?_⟩;subst e;obtain⟨t,r,pm⟩:=rl.1.from m;obtain⟨_,_,e,hpth,hnd⟩:=id r;obtain⟨rfl,rfl⟩:=Ml e
    cases t with
    | nil=>have:=pm.length_eq;have:=rl.2.1;simp at *;omega
    | cons y t=>
     have h3:=hpth.1;rw [h1] at h3;rw [LO] at hnd;exact hnd.1 (by rw [Lu h3];exact Lj)
 refine⟨λ x hx=>?_,ik,λ L2 hL2=>?_,L,hL⟩
 ·rw [st x hx]
  by_cases hw:WrP kv x
  ·rw [Lo ((dich x).mp hw)]
  ·rw [if_neg λ z=>hw ((dich x).mpr z)];unfold ck
   cases e:aa kv x with
   | none=>rfl
   | some d=>
    show x=d
    by_cases hd:d=x
    ·exact hd.symm
    ·exact absurd ⟨d,e,hd⟩ hw
 ·obtain rfl:=hL.eq hL2
  have nd1:(D++L.flatMap (·.1)).Nodup:=by
   rw [L9];refine⟨b.dn,nP (λ p hp=>(hL.2.1 p hp).1.1.nodup) (fg hL),λ x hx y hy e=>?_⟩;obtain⟨p,hp,hyp⟩:=Ny.mp hy;exact b.ring hn (hL.2.1 p hp).1.1 (hL.2.1 p hp).1.2.1 y hyp (by rw [←e];exact hx)
  have nd2:((kv.filter λ p=>!decide (p.2=p.1)).map (·.1)).Nodup:=List.Sublist.nodup (List.Sublist.map _ List.filter_sublist) hn
  have mm:∀ x,x∈D++L.flatMap (·.1) ↔ x∈(kv.filter λ p=>!decide (p.2=p.1)).map (·.1):=λ x=>by
   rw [tU hn,dich,LJ,Ny]
  have l1:=cn nd1 λ x hx=>(mm x).mp hx;have l2:=cn nd2 λ x hx=>(mm x).mpr hx;rw [length_map] at l1 l2;have e1:(D++L.flatMap (·.1)).length=wrN kv:=by unfold wrN;omega
  rw [Ln] at e1
  have e2:∀ L:List (List Int × Bool),(L.map λ p=>p.1.length+if p.2=true then 1 else 0).sum=(L.flatMap (·.1)).length+(L.filter (·.2)).length:=by
   intro L
   induction L with
   | nil=>rfl
   | cons p L ih=>
    rw [LH,List.sum_cons,ih,NV,Ln,NO];split
    ·rename_i h;rw [LR];omega
    ·omega
  rw [hlen,e2];omega
theorem j8(l:List (Int × Int))(p:Int × Int)(o:Int):rdr (l++[p]) [] o=rdr l [] o+(if p.2=o/\p.1 ≠ o then 1 else 0):=by
 unfold rdr rdL;rw [List.filter_append,length_append];congr 1
 by_cases h:p.2=o/\p.1 ≠ o
 ·rw [Lo h];simp [h.1,h.2]
 ·rw [Lm h]
  have:(decide (p.2=o) && (!decide (p.1=o) && !decide (p.1∈([]:List Int))))=false:=by
   by_cases h1:p.2=o
   ·have h2:p.1=o:=Classical.byContradiction λ z=>h ⟨h1,z⟩;simp [h2]
   ·simp [h1]
  rw [NO,this];rfl
def rdV(kv:List (Int × Int))(D:List Int)(o:Int):Option Int:=if rdr kv [] o=0 then none else some (rdr kv D o:Int)
structure RdI(l:List (Int × Int))(rv:List (Int × Int)):Prop where
 nd:NdK rv
 len:rv.length<=l.length
 val:∀ o,aa rv o=rdV l [] o
theorem RdI.nil:RdI [] []:=⟨Mg,Li _,λ o=>rfl⟩
theorem RdI.skip{l rv:List (Int × Int)}(h:RdI l rv){p:Int × Int}(e:p.1=p.2):RdI (l++[p]) rv:=by
 refine⟨h.nd,by rw [Ln];have:=h.len;omega,λ o=>?_⟩;have h0:rdr (l++[p]) [] o=rdr l [] o:=by rw [j8,Lm (show ¬ (p.2=o/\p.1 ≠ o) from λ z=>z.2 (e.trans z.1)),N9]
 rw [h.val o];unfold rdV;rw [h0]
theorem RdI.put{l rv:List (Int × Int)}(h:RdI l rv){p:Int × Int}(e:¬ p.1=p.2):RdI (l++[p]) (bh rv p.2 ((aa rv p.2).getD 0+1)):=by
 refine⟨bC h.nd _ _,?_,λ o=>?_⟩
 ·have:=dY rv p.2 ((aa rv p.2).getD 0+1);rw [Ln];have:=h.len;simp;omega
 ·rw [aX]
  by_cases ho:o=p.2
  ·subst ho;have h0:rdr (l++[p]) [] p.2=rdr l [] p.2+1:=by rw [j8,Lo ⟨rfl,e⟩]
   rw [if_pos rfl,h.val];unfold rdV;rw [h0,if_neg (show ¬ (rdr l [] p.2+1=0) by omega)]
   by_cases hz:rdr l [] p.2=0
   ·rw [Lo hz,hz];rfl
   ·rw [Lm hz]
    show some ((rdr l [] p.2:Int)+1)=some (((rdr l [] p.2+1:Nat)):Int)
    congr 1
  ·have h0:rdr (l++[p]) [] o=rdr l [] o:=by rw [j8,Lm (show ¬ (p.2=o/\p.1 ≠ o) from λ z=>ho z.1.symm),N9]
   rw [if_neg ho,h.val];unfold rdV;rw [h0]
abbrev yW  (d:Addr) (H:Hp) (Q:VK) (E:XK):Prop:=∃ kv:List (Int × Int),H d=some (.dK (aj kv))/\kv.length<=4200/\∀ (rv:List (Int × Int)) (r:Addr) (H':Hp),RdI kv rv->H r=none->Ext H H'->H' r=some (.dK (aj rv))->Q (.ref r) H'
def Hr  : Sp:=λ vs H Q E=>∃ (d:Addr),vs=[.ref d]/\(yW  d H Q E)
theorem GL  (d:Addr) (H:Hp) (Q:VK) (E:XK):Hr  [.ref d] H Q E=(yW  d H Q E):=gD (f:=λ (d:Addr)=>[.ref d]) (λ _ _ h=>by cases h;exact rfl) d
theorem Gh  {vs:List V}{H:Hp}{Q:VK}{E:XK}(h:Hr  vs H Q E):vs.length=1:=gk h λ _=>rfl
theorem kD(T:Tx K mg t):bj P w K mg base CX0 1 t.a_readers_of t.d_readers_of ["found"] Hr:=by
 refine T.F_readers_of.ok cA (λ vs H Q E h=>Gh h) (λ c A o s' H vs Q E hr h=>?_)
 ·obtain⟨d,rfl,kv,hd,hl,k⟩:=h;refine⟨_,%[%[1,cA,(@bc _ _)|4],%[(@ia _ _ _ %[LB,rfl,(@o7 _ _ _ _ _ _ _ _ %[0|0] ∅ ∅),(%[(2),rfl,%[%[2,cA|5],%[%[3,cA|5],(@br _),∅|17],∅|17],∅,∅|28].mono λ _ _ _ _ h=>dq h),%[%[%[(cN hr.units),%[2|0],%[3|0],(ar _)|13],%[%[(aq hr.units),%[1|0],%[3|0],%[aN,%[(aq hr.units),%[1|0],%[3|0],%[0|2],⟨by rfl,by rfl,by rfl,by rfl⟩|39],%[0|2]|11],rfl|20]|10],(@av _)|14]|10],(by intros;rfl)|16]),%[%[%[1|0]|12]|10]|9]|9],?_⟩;rw [show start ["found", "readers", "cell", "origin"] [.ref d]=[some (.ref d),none,none,none] from rfl];ac_rfl;intro l H1 hl1 e1 h1;have d1:=e1.at hd;have ndl:d ≠ l:=λ z=>by rw [z,hl1] at hd;cases hd
  ac_rfl;refine me (λ ob i σ H'=>∃ (v3 v4:Option V) (rv:List (Int × Int)),σ=[some (.ref d),some (.ref l),v3,v4]/\Ext (upd H d (.frz ob (.dK (aj kv)))) H'/\H' l=some (.dK (aj rv))/\RdI (kv.take i) rv) d1 (λ ob=>⟨none,none,[],rfl,jT e1 _ _,by rw [af (Lv ndl)];exact h1,by rw [NN];exact RdI.nil⟩) (λ ob i σ' H' ⟨_,_,_,_,e,_⟩=>e.at ag) ?_ ?_
  ·rintro ob i z p _ H2 H3 hz ⟨v3,v4,rv,rfl,e2,l2,di⟩ hp e3 h3
   obtain⟨y,hy,rfl⟩:∃ y,kv[i]? = some y/\z=((Sum.inl y.1:Key),V.int y.2):=by
    unfold aj at hz;rw [getElem?_map] at hz;obtain⟨y,h1,h2⟩:=Option.map_eq_some_iff.mp hz;exact⟨y,h1,h2.symm⟩
   have ht:kv.take (i+1)=kv.take i++[y]:=by rw [LW,hy];rfl
   obtain⟨c,o⟩:=y;have l3:=e3.at l2;have e23:=e2.trans e3;have hlu:upd H d (.frz ob (.dK (aj kv))) l=none:=by rw [af (Lv ndl)];exact hl1
   rw [show kV ((Sum.inl (c,o).1:Key),V.int (c,o).2).1=V.int c from rfl] at h3;have hl5:(aj rv).length < sizeLine:=aJ (by rw [az];have:=di.len;rw [Mi] at this;omega);exists ht;clear hz hy d1 h1 k hd l2
   by_cases e:c=o
   ·have di2:=di.skip (p:=(c,o)) e;rw [←ht ()] at di2;subst e;exists di;ac_rfl;exact⟨_,_,rv,rfl,e23,rfl,di2⟩
   ·have di2:=di.put (p:=(c,o)) e;rw [←ht ()] at di2;exists di;exists di2;ac_rfl;refine eQ l3 ?_;ac_rfl;refine g6 (k:=.inl o) l3 ?_;rw [ao,show ((aa rv o).map V.int).getD (.int 0)=.int ((aa rv o).getD 0) by cases aa rv o<;>rfl];ac_rfl;refine bH (k:=.inl o) l3 hl5 ?_;rw [aW];exact⟨_,_,_,rfl,e23.put hlu,ag,di2 ()⟩
  ·rintro ob _ H2 ⟨v3,v4,rv,rfl,e2,l2,di⟩;rw [az,Me] at di;have e4:=Ext.thaw hd e2;have l4:upd H2 d (.dK (aj kv)) l=some (.dK (aj rv)):=by rw [af (Lv ndl)];exact l2
   generalize upd H2 d (.dK (aj kv))=H4 at e4 l4;exists di;ac_rfl;exact k rv l H4 (di ()) hl1 e4 l4
theorem t5(i:Nat)(σ:St)(H:Hp)(nx:St->Hp->Prop):vK i σ (zv H nx)=iV H (vK i σ nx):=rfl
def twR(p:Int × Int)(y:V)(H:Hp):Prop:=∃ q,y=.ref q/\H q=some (.tup [.int p.1,.int p.2])
theorem twR.ext{p:Int × Int}{y:V}{H H':Hp}(h:twR p y H)(e:Ext H H'):twR p y H':=by
 obtain⟨q,h1,h2⟩:=h;exact⟨q,h1,e.at h2⟩
theorem twR.upd{p:Int × Int}{y:V}{H:Hp}{r:Addr}{xs ys:List V}(h:twR p y H)(hr:H r=some (.lst xs)):twR p y (upd H r (.lst ys)):=by
 obtain⟨q,h1,h2⟩:=h;exact⟨q,h1,by rw [af λ z=>by rw [z,hr] at h2;cases h2];exact h2⟩
theorem twR.updD{p:Int × Int}{y:V}{H:Hp}{r:Addr}{xs ys:List (Key × V)}(h:twR p y H)(hr:H r=some (.dK xs)):twR p y (L2.upd H r (.dK ys)):=by
 obtain⟨q,h1,h2⟩:=h;exact⟨q,h1,by rw [af λ z=>by rw [z,hr] at h2;cases h2];exact h2⟩
def TwL(H:Hp)(r:Addr)(rows:List (Int × Int)):Prop:=∃ ys,H r=some (.lst ys)/\Al (λ p y=>twR p y H) rows ys
theorem TwL.ext{H H':Hp}{r:Addr}{rows:List (Int × Int)}(h:TwL H r rows)(e:Ext H H'):TwL H' r rows:=by
 obtain⟨ys,h1,h2⟩:=h;exact⟨ys,e.at h1,h2.imp λ _ _ q=>q.ext e⟩
theorem BsI.len{kv:List (Int × Int)}{D fr:List Int}(b:BsI kv D fr):D.length<=kv.length/\fr.length<=kv.length:=by
 have f:∀ l:List Int,l.Nodup->(∀ c∈l,WrP kv c)->l.length<=kv.length:=λ l h1 h2=>by
  have:=cn h1 (b:=kv.map (·.1)) λ x hx=>by
   obtain⟨d,h,_⟩:=h2 x hx;exact ak.mp (by rw [h];rfl)
  simpa using this
 exact⟨f D b.dn b.wr,f fr b.fn λ c hc=>((b.fi c).mp hc).2.1⟩
structure RdJ(kv:List (Int × Int))(D:List Int)(rv:List (Int × Int)):Prop where
 nd:NdK rv
 len:rv.length<=kv.length
 val:∀ o,aa rv o=rdV kv D o
def fr0(kv rv:List (Int × Int)):List Int:=(kv.filter λ p=>!decide (p.2=p.1) && !(aa rv p.1).isSome).map (·.1)
theorem BsI.ini{kv rv:List (Int × Int)}(hn:NdK kv)(h:RdI kv rv):BsI kv [] (fr0 kv rv):=by
 refine⟨Mg,λ _ h=>absurd h Ld,λ D0 d D1 e=>?_,List.Sublist.nodup (List.Sublist.map _ List.filter_sublist) hn,λ c=>?_⟩
 ·have:=Mt List.length e;simp at this
 ·unfold fr0
  have hz:(aa rv c).isSome=false ↔ rdr kv [] c=0:=by
   rw [h.val];unfold rdV
   by_cases z:rdr kv [] c=0
   ·rw [Lo z];simp [z]
   ·rw [Lm z];simp [z]
  constructor
  ·intro hm;obtain⟨p,hp,rfl⟩:=Le.mp hm;obtain⟨h1,h2⟩:=MV.mp hp;simp only [N2,Nr,Nk] at h2;exact⟨Ld,⟨p.2,aO hn h1,h2.1⟩,hz.mp h2.2⟩
  ·rintro ⟨_,⟨d,h1,h2⟩,h3⟩;refine Le.mpr ⟨(c,d),MV.mpr ⟨bK h1,?_⟩,rfl⟩;simp only [N2,Nr,Nk];exact⟨h2,hz.mpr h3⟩
def Dp(rv:List (Int × Int))(z:Key × V):Bool:=match z with
 | (.inl a,.int b)=>!decide (b=a) && !(aa rv a).isSome
 | _=>false
theorem sU(rv:List (Int × Int)):∀ kv:List (Int × Int),((aj kv).filter (Dp rv)).map (λ z=>kV z.1)=(fr0 kv rv).map V.int
 | []=>rfl
 | p::kv=>by
  have ih:=sU rv kv;unfold fr0 at ih ⊢
  show (((Sum.inl p.1,V.int p.2)::aj kv).filter (Dp rv)).map (λ z=>kV z.1)=_
  rw [NO,NO];have e:Dp rv ((Sum.inl p.1:Key),V.int p.2)=(!decide (p.2=p.1) && !(aa rv p.1).isSome):=rfl;rw [e];split
  ·rw [LH,LH,LH,ih];rfl
  ·exact ih
theorem BsI.rd{kv rv:List (Int × Int)}{D fr:List Int}{c o:Int}(j:RdJ kv D rv)(hc:aa kv c=some o)(hco:o ≠ c)(st:∀ x,rdr kv (D++[c]) x+(if x=o then 1 else 0)=rdr kv D x):aa rv o=some ((rdr kv (D++[c]) o:Int)+1)/\RdJ kv (D++[c]) (bh rv o ((rdr kv (D++[c]) o:Int)+1 - 1)):=by
 have h1:¬ rdr kv [] o=0:=λ z=>by
  have:=j7.mp z (c,o) (bK hc) rfl (λ e=>hco e.symm);exact absurd this Ld
 have h2:=st o;rw [Lo rfl] at h2
 have h3:aa rv o=some ((rdr kv (D++[c]) o:Int)+1):=by
  rw [j.val];unfold rdV;rw [if_neg h1,←h2];rfl
 refine⟨h3,bC j.nd _ _,?_,λ x=>?_⟩
 ·have h4:=lT (v:=(rdr kv (D++[c]) o:Int)+1 - 1) (show (aa rv o).isSome=true by rw [h3];rfl);have h5:=Mt List.length h4;rw [Lc,Lc] at h5;rw [h5];exact j.len
 ·rw [aX,j.val];unfold rdV
  by_cases hx:x=o
  ·rw [Lo hx,hx,Lm h1];congr 1;omega
  ·rw [Lm hx];have:=st x;rw [Lm hx,N9] at this;rw [this]
abbrev yY  (d:Addr) (H:Hp) (Q:VK) (E:XK):Prop:=∃ kv:List (Int × Int),H d=some (.dK (aj kv))/\NdK kv/\kv.length<=4200/\∀ (D:List Int) (r:Addr) (H':Hp),BsI kv D []->H r=none->Ext H H'->TwL H' r (bU kv D)->Q (.ref r) H'
def Ht  : Sp:=λ vs H Q E=>∃ (d:Addr),vs=[.ref d]/\(yY  d H Q E)
theorem GO  (d:Addr) (H:Hp) (Q:VK) (E:XK):Ht  [.ref d] H Q E=(yY  d H Q E):=gD (f:=λ (d:Addr)=>[.ref d]) (λ _ _ h=>by cases h;exact rfl) d
theorem Gj  {vs:List V}{H:Hp}{Q:VK}{E:XK}(h:Ht  vs H Q E):vs.length=1:=gk h λ _=>rfl
theorem eC(T:Tx K mg t):bj P w K mg base CX0 2 t.a_rows_beside_rings t.d_rows_beside_rings ["found"] Ht:=by
 have G_readers_of:=%[kD|41];refine T.F_rows_beside_rings.ok aC (λ vs H Q E h=>Gj h) (λ c A o s' H vs Q E hr h=>?_)
 ·obtain⟨d,rfl,kv,hd,hnd,hl,k⟩:=h;refine⟨_,%[(@b8 _ _ (1) _ _ _ _ aC.nd rfl (Or.inr rfl) %[readers_of,%[%[0|0]|1]|3] ∅ %[0|7]),%[(@ia _ _ _ (@sE _ _ _ _ _ _ _ _ _ _ _ _ _ (["cell", "found", "readers", "free", "rows", "!cell", "origin"]) (1) (2) _ aC.nd rfl (Or.inl rfl) (bg (ae aR) ["found", "readers", "free", "rows", "cell", "origin"] rfl rfl nofun) rfl (@jM _ _ _ _ %[0|0]) (λ C s₀ H₀ ex pn=>%[(0),_,(show List.Nodup (["cell", "found", "readers", "free", "rows", "!cell", "origin"]:List Str) from by decide +kernel),rfl,(Or.inl rfl),%[0|7]|18]) (λ C s₀ H₀ ex pn=>(@AQ _ _ _ (PW.pt (@lp _ _ _ _ _ _ _ %[(cN hr.units),%[(aq hr.units),%[1|0],%[0|0],(λ _ _=>rfl)|33],%[0|0],(ar _)|13] (@hV _ _ _ _ %[(lV (aq hr.units)),%[0|0],%[2|0],(by with_unfolding_all rfl)|13]))))) (λ C s₀ H₀ ex pn=>%[0|0]) ∅ (by intros;rfl) %[0|7])),%[%[3,aC,%[(@cM _)|25]|4],%[(@kc _ _ _ _ _ _ LB %[m9,%[len,aK,%[%[2|0]|1]|6],%[0|2],(ar _)|13] %[%[4,aC,(@rY _ _ _ _ _ _ _ _ _ Ls PySem.F.slot_list_pop PySem.F.type_list_pop Bk %[2|0] ∅ ∅)|4],%[%[5,aC,%[(aq hr.units),%[0|0],%[4|0],(λ _ _=>rfl)|33]|4],%[%[%[Ls,LN,LM,aY,%[3|0],%[%[%[%[5|0],%[%[4|0]|1]|1]|36]|1],∅,∅,∅,∅,∅|22],∅|19],%[%[(aq hr.units),%[1|0],%[5|0],%[eI,%[(aq hr.units),%[1|0],%[5|0],(λ _ _=>rfl)|33],%[0|2]|11],rfl|20],%[%[(PW.pt (@lp _ _ _ _ _ _ _ %[(dm hr.units),%[(aq hr.units),%[1|0],%[5|0],(λ _ _=>rfl)|33],%[0|2],(ar _)|13] (@hV _ _ _ _ %[(cN hr.units),%[(aq hr.units),%[0|0],%[5|0],%[5|0],⟨by rfl,by rfl,by rfl,by rfl⟩|39],%[5|0],(ar _)|13]))),%[%[%[Ls,LN,LM,aY,%[2|0],%[%[5|0]|1],∅,∅,∅,∅,∅|22],∅|19]|10],(@av _)|14]|10]|9]|9]|9]|9]),%[%[%[3|0]|12]|10]|9]|9]|9]|9],?_⟩;rw [show start ["found", "readers", "free", "rows", "cell", "origin"] [.ref d]=[some (.ref d),none,none,none,none,none] from rfl];clear G_readers_of;exists hnd;exists k;ac_rfl;rw [GL];refine⟨kv,hd,hl,λ rv R H1 ri hR1 e1 h1=>?_⟩;have d1:=e1.at hd;have nRd:R ≠ d:=λ z=>by rw [z,hd] at hR1;cases hR1
  have b0:=BsI.ini (hnd ()) ri;have j0:RdJ kv [] rv:=⟨ri.nd,ri.len,ri.val⟩;exists b0;exists j0;clear ri;ac_rfl;rw [t5];refine yv (Dp rv) (λ z=>kV z.1) d1 (aA (by rw [az];omega)) ?_ ?_
  ·intro D ob z H2 N1 N0 hz hD e2 f2 k1 k0;obtain⟨p,hp,rfl⟩:=Le.mp hz;have R2:H2 R=some (.dK (aj rv)):=e2.at (by rw [af nRd];exact h1);have hvv:cJ (aj kv) (.inl p.1)=some (.int p.2):=by rw [ao,aO (hnd ()) (show (p.1,p.2)∈kv from hp)];rfl
   rw [show Dp rv ((Sum.inl p.1:Key),V.int p.2)=(!decide (p.2=p.1) && !(aa rv p.1).isSome) from rfl] at k1 k0;rw [show kV ((Sum.inl p.1:Key),V.int p.2).1=V.int p.1 from rfl] at k1 ⊢;generalize p.1=p1 at hvv k1 k0 ⊢;generalize p.2=p2 at hvv k1 k0 ⊢;exists k1;exists k0;clear hz hp h1 d1;simp! only [↓aV,↓bo];refine jH (k:=.inl p1) f2 hvv ?_
   by_cases m1:p2=p1
   ·have jj:=k0 () (by simp [m1]) H2 (Ext.refl _);clear k0 k1;subst m1;simp! only [↓aV,↓bo]
   ·simp! only [↓aV,↓bo];refine eG (k:=.inl p1) R2 ?_;rw [ao]
    cases hlk:aa rv p1 with
    | none=>
     have jj:=k1 () (by simp [m1,hlk]) H2 (Ext.refl _);clear k0 k1;rw [Option.map_none];simp! only [↓aV,↓bo]
    | some v=>
     have jj:=k0 () (by simp [hlk]) H2 (Ext.refl _);clear k0 k1;simp! only [↓aV,↓bo]
  ·intro F H2 hF e2 h2;rw [sU] at h2;have R2:=e2.at h1;have nRF:R ≠ F:=λ z=>by rw [z,hF] at h1;cases h1
   have hF0:H F=none:=e1.free hF;generalize fr0 kv rv=fr at b0 h2;clear d1 h1;ac_rfl;intro W H3 hW e3 h3;have R3:=e3.at R2;have F3:=e3.at h2;have e03:=e1.trans (e2.trans e3);have hW0:H W=none:=e1.free (e2.free hW);have nRW:R ≠ W:=λ z=>by rw [z,hW] at R2;cases R2
   have nFW:F ≠ W:=λ z=>by rw [z,hW] at h2;cases h2
   have tw0:Al (λ p y=>twR p y H3) (bU kv []) []:=Al.nil;clear R2 h2 hF hW e1 e2 e3;ac_rfl;refine nj (by repeat' first|exact zW|exact sg|exact mo_nI|apply kf|apply mo_unN|exact oH|exact HM|exact oI|exact mo_rI|exact mo_rIsN|exact mo_rNotN|exact mo_qEq|exact mo_qIx|exact sf|exact nJ|exact si|exact mo_qLenD|apply mo_dget2|apply jO|apply mo_tB|apply mo_not|apply sj|apply mo_or|apply zX|apply mo_un|apply nK|apply mo_qLst|apply zY) (λ m σ H'=>∃ (D fr:List Int) (rv:List (Int × Int)) (ys:List V) (v4 v5:Option V),σ=[some (.ref d),some (.ref R),some (.ref F),some (.ref W),v4,v5]/\m=kv.length - D.length/\BsI kv D fr/\RdJ kv D rv/\Ext H H'/\H' R=some (.dK (aj rv))/\H' F=some (.lst (fr.map V.int))/\H' W=some (.lst ys)/\Al (λ p y=>twR p y H') (bU kv D) ys) _ ⟨[],fr,rv,[],none,none,rfl,rfl,b0 (),j0 (),e03,R3,F3,h3,tw0⟩ ?_;clear b0 j0 R3 F3 h3 tw0 e03;rintro m _ H4 ⟨D,fr,rv,ys,v4,v5,rfl,rfl,b,j,e4,R4,F4,W4,al4⟩;have d4:=e4.at hd;have hbl:=b.len;have hyl:ys.length<=4200:=by rw [al4.1];unfold bU;rw [length_map];omega
   rcases MH fr with hf|⟨fr',c,hf⟩
   ·subst hf;have k':=k () D W H4 b hW0 e4 ⟨ys,W4,al4⟩;clear k al4;exists b;exists j;ac_rfl
   ·rw [MW] at hf;subst hf
    obtain⟨o,hc⟩:∃ o,aa kv c=some o:=by
     obtain⟨d,h1,_⟩:=((b.fi c).mp (by simp)).2.1;exact⟨d,h1⟩
    obtain⟨hco,hcD,hoD,st,n1,n2⟩:=b.next (hnd ()) hc;obtain⟨hrv,j'⟩:=BsI.rd (fr:=fr') j hc hco st;have F4':H4 F=some (.lst (fr'.map V.int++[V.int c])):=by rw [F4,LG];rfl
    have hfl:fr'.length<=4200:=by have:=hbl.2;rw [Ln] at this;omega
    have hD1:D.length+1<=kv.length:=by
     have h1:(D++[c]).length<=kv.length:=by
      by_cases hz:rdr kv (D++[c]) o=0/\WrP kv o
      ·exact(n1 hz.1 hz.2).len.1
      ·exact(n2 hz).len.1
     rw [Ln] at h1
     simpa using h1
    have ndF:d ≠ F:=λ z=>by rw [z,hF0] at hd;cases hd
    have ndR:d ≠ R:=λ z=>nRd z.symm;have ndW:d ≠ W:=λ z=>by rw [z,hW0] at hd;cases hd
    have hcnt:rdr kv (D++[c]) o<=4200:=by
     unfold rdr rdL;exact Nat.le_trans (List.length_filter_le _ _) hl
    exists b;exists j;exists j';exists st;exists n1;exists n2;exists hbl;exists hcD;exists hoD;have hgt:(0:Int) < (((fr'++[c]).length:Nat):Int):=by rw [Ln,MG];omega
    ac_rfl;refine Aq F4' ?_;have e5:Ext H (upd H4 F (.lst (fr'.map V.int))):=e4.put hF0;have d5:upd H4 F (.lst (fr'.map V.int)) d=some (.dK (aj kv)):=by rw [af ndF];exact d4
    have R5:upd H4 F (.lst (fr'.map V.int)) R=some (.dK (aj rv)):=by rw [af nRF];exact R4
    have W5:upd H4 F (.lst (fr'.map V.int)) W=some (.lst ys):=by rw [af (Lv nFW)];exact W4
    have F5:upd H4 F (.lst (fr'.map V.int)) F=some (.lst (fr'.map V.int)):=ag;have al5:Al (λ p y=>twR p y (upd H4 F (.lst (fr'.map V.int)))) (bU kv D) ys:=al4.imp λ _ _ q=>q.upd F4;generalize upd H4 F (.lst (fr'.map V.int))=H5 at e5 d5 R5 W5 F5 al5;exists al5;clear F4 F4' W4 R4 d4 al4 hgt;ac_rfl;refine gn (k:=.inl c) (v:=.int o) d5 (by rw [ao,hc];rfl) ?_;ac_rfl;intro q H6 hq e6 h6;have d6:=e6.at d5;have R6:=e6.at R5;have W6:=e6.at W5;have F6:=e6.at F5;have e06:=e5.trans e6;have nqW:q ≠ W:=λ z=>by rw [z,W5] at hq;cases hq
    have al6:Al (λ p y=>twR p y (upd H6 W (.lst (ys++[.ref q])))) (bU kv (D++[c])) (ys++[.ref q]):=by
     have e1:bU kv (D++[c])=bU kv D++[(ck kv c,c)]:=by unfold bU;rw [map_append];rfl
     rw [e1];exact((al5 ()).imp λ _ _ z=>(z.ext e6).upd W6).snoc ⟨q,rfl,by rw [af nqW,cV hc];exact h6⟩
    clear d5 R5 W5 F5 hq e6 h6;ac_rfl;refine⟨aJ %[0|8],?_⟩;have e7:Ext H (upd H6 W (.lst (ys++[.ref q]))):=e06.put hW0;have d7:upd H6 W (.lst (ys++[.ref q])) d=some (.dK (aj kv)):=by rw [af ndW];exact d6
    have R7:upd H6 W (.lst (ys++[.ref q])) R=some (.dK (aj rv)):=by rw [af nRW];exact R6
    have F7:upd H6 W (.lst (ys++[.ref q])) F=some (.lst (fr'.map V.int)):=by rw [af nFW];exact F6
    have W7:upd H6 W (.lst (ys++[.ref q])) W=some (.lst (ys++[.ref q])):=ag;generalize upd H6 W (.lst (ys++[.ref q]))=H7 at e7 d7 R7 F7 W7 al6;exists al6;clear d6 R6 W6 F6 al5;have hl5:(aj rv).length < sizeLine:=aJ (by rw [az];have:=(j ()).len;omega);ac_rfl;refine gn (k:=.inl o) (v:=.int ((rdr kv (D++[c]) o:Int)+1)) R7 (by rw [ao,hrv];rfl) ?_;ac_rfl;refine bH (k:=.inl o) R7 hl5 ?_;rw [aW];have hlk8:aa (bh rv o ((rdr kv (D++[c]) o:Int)+1 - 1)) o=some (rdr kv (D++[c]) o:Int):=by rw [aX,Lo rfl];congr 1;omega
    have e8:Ext H (upd H7 R (.dK (aj (bh rv o ((rdr kv (D++[c]) o:Int)+1 - 1))))):=e7.put hR1;have d8:upd H7 R (.dK (aj (bh rv o ((rdr kv (D++[c]) o:Int)+1 - 1)))) d=some (.dK (aj kv)):=by rw [af ndR];exact d7
    have F8:upd H7 R (.dK (aj (bh rv o ((rdr kv (D++[c]) o:Int)+1 - 1)))) F=some (.lst (fr'.map V.int)):=by rw [af (Lv nRF)];exact F7
    have W8:upd H7 R (.dK (aj (bh rv o ((rdr kv (D++[c]) o:Int)+1 - 1)))) W=some (.lst (ys++[.ref q])):=by rw [af (Lv nRW)];exact W7
    have R8:upd H7 R (.dK (aj (bh rv o ((rdr kv (D++[c]) o:Int)+1 - 1)))) R=some (.dK (aj (bh rv o ((rdr kv (D++[c]) o:Int)+1 - 1)))):=ag;have al8:Al (λ p y=>twR p y (upd H7 R (.dK (aj (bh rv o ((rdr kv (D++[c]) o:Int)+1 - 1)))))) (bU kv (D++[c])) (ys++[.ref q]):=(al6 ()).imp λ _ _ z=>z.updD R7;generalize upd H7 R (.dK (aj (bh rv o ((rdr kv (D++[c]) o:Int)+1 - 1))))=H8 at e8 d8 F8 W8 R8 al8;generalize bh rv o ((rdr kv (D++[c]) o:Int)+1 - 1)=rv' at hlk8 R8 j';exists al8;have hlt:kv.length - (D++[c]).length < kv.length - D.length:=by rw [Ln,MG];omega
    clear d7 F7 W7 R7 al6 hrv hl5
    by_cases hz:rdr kv (D++[c]) o=0
    ·rw [hz] at hlk8
     by_cases hwo:WrP kv o
     ·obtain⟨o2,ho2,hne⟩:=id hwo;have b':=n1 () hz hwo;exists b';have hfl':(fr'.map V.int).length < sizeLine:=aJ (by rw [Lc];omega);ac_rfl;refine gn (k:=.inl o) (v:=.int 0) R8 (by rw [ao,hlk8];rfl) ?_;ac_rfl;refine eQ d8 ?_;ac_rfl;refine g6 (k:=.inl o) d8 ?_;rw [ao,ho2,show ((some o2:Option Int).map V.int).getD (.int o)=.int o2 from rfl];ac_rfl;refine⟨aJ %[0|8],_,hlt,D++[c],fr'++[o],rv',ys++[.ref q],_,_,rfl,rfl,b' (),j' (),e8.put hF0,by rw [af nRF];exact R8,?_,by rw [af (Lv nFW)];exact W8,(al8 ()).imp λ _ _ z=>z.upd F8⟩
      first|exact ag.trans (by rw [LG];rfl)|rw [LG];rfl
     ·have b':=n2 () (λ z=>hwo z.2)
      have hgo:((aa kv o).map V.int).getD (.int o)=.int o:=by
       cases e:aa kv o with
       | none=>rfl
       | some o2=>
        show V.int o2=V.int o
        by_cases h:o2=o
        ·rw [h]
        ·exact absurd ⟨o2,e,h⟩ hwo
      exists b';ac_rfl;refine gn (k:=.inl o) (v:=.int 0) R8 (by rw [ao,hlk8];rfl) ?_;ac_rfl;refine eQ d8 ?_;ac_rfl;refine g6 (k:=.inl o) d8 ?_;rw [ao,hgo];ac_rfl;exact⟨_,hlt,D++[c],fr',rv',ys++[.ref q],_,_,rfl,rfl,b' (),j' (),e8,(by first|rfl|exact R8),(by first|rfl|exact F8),(by first|rfl|exact W8),al8 ()⟩
    ·have b':=n2 () (λ z=>hz z.1);have hz':¬ ((rdr kv (D++[c]) o:Int)=0):=by omega
     exists b';ac_rfl;refine gn (k:=.inl o) (v:=.int (rdr kv (D++[c]) o:Int)) R8 (by rw [ao,hlk8];rfl) ?_;ac_rfl;exact⟨_,hlt,D++[c],fr',rv',ys++[.ref q],_,_,rfl,rfl,b' (),j' (),e8,(by first|rfl|exact R8),(by first|rfl|exact F8),(by first|rfl|exact W8),al8 ()⟩
def Hq  : Sp:=λ vs H Q E=>∃ (l:Addr) (e:Int),vs=[.ref l,.int e]/\(∃ (pre:List Int) (z:Int),H l=some (.lst ((pre++[z]).map V.int))/\(pre++[z]).length<=4200/\∀ (r:Addr) (H':Hp),H r=none->Ext H H'->TwL H' r (m3 (pre++[z]) e)->Q (.ref r) H')
theorem yQ  (l:Addr) (e:Int) (H:Hp) (Q:VK) (E:XK):Hq  [.ref l,.int e] H Q E=(∃ (pre:List Int) (z:Int),H l=some (.lst ((pre++[z]).map V.int))/\(pre++[z]).length<=4200/\∀ (r:Addr) (H':Hp),H r=none->Ext H H'->TwL H' r (m3 (pre++[z]) e)->Q (.ref r) H'):=pR (f:=λ (l:Addr) (e:Int)=>[.ref l,.int e]) (λ _ _ _ _ h=>by cases h;exact⟨rfl,rfl⟩) l e
theorem Gg  {vs:List V}{H:Hp}{Q:VK}{E:XK}(h:Hq  vs H Q E):vs.length=2:=qV h λ _ _=>rfl
theorem kC(T:Tx K mg t):bj P w K mg base CX0 1 t.a_rows_round t.d_rows_round ["ring", "elsewhere"] Hq:=by
 refine T.F_rows_round.ok cz (λ vs H Q E h=>Gg h) (λ c A o s' H vs Q E hr h=>?_)
 ·obtain⟨l,e,rfl,pre,z,hl,h42,k⟩:=h;refine⟨_,%[%[2,cz,%[(@cM _)|25]|4],%[%[LB,rfl,(@yE _ _ _ _ _ _ _ _ _ ∅ T.z_zip %[%[0|0],%[%[zr,%[0|0],(@eS _ _ _ %[0|2]),(@eT _)|37]|1]|1] ∅ ∅),(%[(2),rfl,%[%[3,cz|5],%[%[4,cz|5],(@br _),∅|17],∅|17],∅,∅|28].mono λ _ _ _ _ h=>dq h),%[%[%[Ls,LN,LM,aY,%[2|0],%[%[%[%[4|0],%[%[3|0]|1]|1]|36]|1],∅,∅,∅,∅,∅|22],∅|19]|10],(by intros;rfl)|16],%[%[%[Ls,LN,LM,aY,%[2|0],%[%[%[%[1|0],%[%[gm,%[0|0],(@m8 _ _ _ _ _ _ eR %[0|2]),(λ _ _=>rfl)|15]|1]|1]|36]|1],∅,∅,∅,∅,∅|22],∅|19],%[%[%[2|0]|12]|10]|9]|9]|9],?_⟩;rw [show start ["ring", "elsewhere", "rows", "cell", "origin"] [.ref l,.int e]=[some (.ref l),some (.int e),none,none,none] from rfl];have hat:atI ((pre++[z]).map V.int) (-1)=some (.int z):=by rw [LG];exact pJ _ _
  have hzp:=oY e pre z;exists hzp;exists k;have hlp:0 < (pre++[z]).length:=by simp
  generalize pre++[z]=ns at hl h42 k hat hzp hlp;ac_rfl;intro W H1 hW e1 h1;have l1:=e1.at hl;ac_rfl;rw [gT _ _ ⋯,show (1:Int).toNat=1 from rfl,←List.map_drop,List.drop_one];intro S H2 hS e2 h2;have l2:=e2.at l1;have W2:=e2.at h1;have e02:=e1.trans e2;have nSW:S ≠ W:=λ zz=>by rw [zz,h1] at hS;cases hS
  have nlW:l ≠ W:=λ zz=>by rw [zz,hW] at hl;cases hl
  have htl:ns.tail.length=ns.length - 1:=List.length_tail;clear h1 l1 e1 e2 hS;ac_rfl;refine sV (ka:=false) (kb:=false) (xs:=ns.map V.int) (ys:=ns.tail.map V.int) (λ i σ H'=>∃ (v3 v4:Option V) (ys:List V),σ=[some (.ref l),some (.int e),some (.ref W),v3,v4]/\Ext H H'/\H' l=some (.lst (ns.map V.int))/\H' S=some (.lst (ns.tail.map V.int))/\H' W=some (.lst ys)/\Al (λ p y=>twR p y H') (((ns.zip ns.tail).take i).map λ p=>(p.2,p.1)) ys) ⟨none,none,[],rfl,e02,l2,h2,W2,by rw [NN];exact Al.nil⟩ (λ i σ H' ⟨_,_,_,_,_,q1,q2,_⟩=>⟨q1,q2⟩) ?_ ?_
  ·rintro i x y q _ H3 H4 hx hy ⟨v3,v4,ys,rfl,e3,l3,s3,w3,al3⟩ hq e4 h4;rw [Lr] at hx hy;obtain⟨c,hc,rfl⟩:=Lk.mp hx;obtain⟨o,ho,rfl⟩:=Lk.mp hy
   have htk:(ns.zip ns.tail).take (i+1)=(ns.zip ns.tail).take i++[(c,o)]:=by
    rw [LW,(MF (z:=(c,o))).mpr ⟨hc,ho⟩];rfl
   have hi:i < ns.length:=(Lb.mp hc).1;have hyl:ys.length<=4200:=by rw [al3.1,Lc,Mi];omega
   have l4:=e4.at l3;have s4:=e4.at s3;have w4:=e4.at w3;have e04:=e3.trans e4;have al4:Al (λ p y=>twR p y H4) (((ns.zip ns.tail).take i).map λ p=>(p.2,p.1)) ys:=al3.imp λ _ _ z=>z.ext e4;exists al4;exists htk;clear hx hy hc ho l3 s3 w3 al3 l2 h2 W2 k hq e4;ac_rfl;intro q2 H5 hq2 e5 h5;have l5:=e5.at l4;have s5:=e5.at s4;have w5:=e5.at w4;have nqW:q2 ≠ W:=λ zz=>by rw [zz,w4] at hq2;cases hq2
   clear l4 s4 w4 h4 hq2;ac_rfl;refine⟨aJ %[0|8],_,_,ys++[.ref q2],rfl,(e04.trans e5).put hW,by rw [af nlW];exact l5,by rw [af nSW];exact s5,(by first|rfl|exact ag),?_⟩;rw [htk (),LG];exact((al4 ()).imp λ _ _ z=>(z.ext e5).upd w5).snoc ⟨q2,rfl,by rw [af nqW];exact h5⟩
  ·rintro _ H3 ⟨v3,v4,ys,rfl,e3,l3,s3,w3,al3⟩;rw [Mx (by rw [Ob,Lc,Lc];omega)] at al3;have hyl:ys.length<=4200:=by rw [al3.1,Lc,Ob];omega
   exists al3;clear l2 h2 W2;ac_rfl;intro q2 H5 hq2 e5 h5;have w5:=e5.at w3;have nqW:q2 ≠ W:=λ zz=>by rw [zz,w3] at hq2;cases hq2
   clear l3 s3 w3 hq2 hat;ac_rfl;refine⟨aJ %[0|8],?_⟩;refine k () W _ hW ((e3.trans e5).put hW) ⟨ys++[.ref q2],ag,?_⟩;rw [hzp ()];exact((al3 ()).imp λ _ _ z=>(z.ext e5).upd w5).snoc ⟨q2,rfl,by rw [af nqW];exact h5⟩
structure KpI(kv:List (Int × Int))(D:List Int)(kp:List (Int × Int)):Prop where
 nd:NdK kp
 len:kp.length<=D.length
 yes:∀ o e,aa kp o=some e->e∈D/\ck kv e=o
 all:∀ e∈D,(aa kp (ck kv e)).isSome=true
theorem KpI.nil(kv:List (Int × Int)):KpI kv [] []:=⟨Mg,Li _,(λ _ _ h=>by cases h),λ _ h=>absurd h Ld⟩
theorem KpI.put{kv kp:List (Int × Int)}{D:List Int}(h:KpI kv D kp)(c:Int):KpI kv (D++[c]) (bh kp (ck kv c) c):=by
 refine⟨bC h.nd _ _,?_,λ o e he=>?_,λ e he=>?_⟩
 ·have:=dY kp (ck kv c) c;have:=h.len;simp;omega
 ·rw [aX] at he
  by_cases ho:o=ck kv c
  ·rw [Lo ho] at he;rw [←Lu he];exact⟨by simp,ho.symm⟩
  ·rw [Lm ho] at he;obtain⟨h1,h2⟩:=h.yes o e he;exact⟨Ma _ h1,h2⟩
 ·rw [aX]
  by_cases ho:ck kv e=ck kv c
  ·rw [Lo ho];rfl
  ·rw [Lm ho]
   rcases LJ.mp he with he|he
   ·exact h.all e he
   ·exact absurd (by rw [Lq.mp he]) ho
theorem uZ{kv kp:List (Int × Int)}{D:List Int}(hn:NdK kv)(b:BsI kv D [])(kI:KpI kv D kp){L:List (List Int × Bool)}(hL:bY (aa kv) (kv.map (·.1)) L){p:List Int × Bool}(hp:p∈L)(hb:p.2=false):∃ x∈p.1,(aa kp x).isSome=true:=by
 obtain⟨rl,he⟩:=hL.2.1 p hp;rw [hb] at he
 have h1:¬ fB (aa kv) (kv.map (·.1)) p.1=true:=by
  rw [←he];exact Lx
 unfold fB at h1;rw [all_eq_true] at h1;obtain⟨c,hc⟩:=Classical.not_forall.mp h1;obtain⟨hck,hcc⟩:=Classical.not_imp.mp hc;obtain⟨⟨c',d⟩,hm,rfl⟩:=List.mem_map.mp hck;have hlk:=aO hn hm;rw [hlk] at hcc;simp only [Bool.or_eq_true,decide_eq_true_eq,Bool.not_eq_true',decide_eq_false_iff_not,not_or,Classical.not_not] at hcc;obtain⟨n1,n2⟩:=hcc;have hw:WrP kv c':=⟨d,hlk,λ z=>n1 (by rw [←z];exact n2)⟩
 have hD:c'∈D:=by
  refine Classical.byContradiction λ hD=>?_;obtain⟨l,r1,r2,r3⟩:=b.left hn hw hD;obtain⟨d',h3,h4⟩:=r1.mem r3;rw [hlk] at h3;obtain rfl:=Lu h3;have pm:=eh r1 rl.1 h4 n2;exact n1 (pm.mem_iff.mp r3)
 refine⟨d,n2,?_⟩;have:=kI.all c' hD;rw [cV hlk] at this;exact this
theorem mi{kp:List (Int × Int)}:∀ {l:List Int},(∃ x∈l,(aa kp x).isSome=true)->∃ a r0 b,l=a++r0::b/\(aa kp r0).isSome=true/\∀ x∈a,(aa kp x).isSome=false
 | [],⟨x,h,_⟩=>absurd h Ld
 | y::l,⟨x,hx,hs⟩=>by
  by_cases hy:(aa kp y).isSome=true
  ·exact⟨[],y,l,rfl,hy,λ _ h=>absurd h Ld⟩
  ·rcases Lz.mp hx with rfl|hx
   ·exact absurd hs hy
   ·obtain⟨a,r0,b,rfl,h1,h2⟩:=mi ⟨x,hx,hs⟩;exact⟨y::a,r0,b,rfl,h1,λ z hz=>(Lz.mp hz).elim (λ e=>by rw [e];simpa using hy) (h2 z)⟩
theorem Ej{kv:List (Int × Int)}(hn:NdK kv){D:List Int}(b:BsI kv D []){L:List (List Int × Bool)}(hL:bY (aa kv) (kv.map (·.1)) L):D.length+(L.map λ p=>p.1.length+if p.2=true then 1 else 0).sum<=kv.length+L.length:=by
 have nd1:(D++L.flatMap (·.1)).Nodup:=by
  rw [L9];refine⟨b.dn,nP (λ p hp=>(hL.2.1 p hp).1.1.nodup) (fg hL),λ x hx y hy e=>?_⟩;obtain⟨p,hp,hyp⟩:=Ny.mp hy;exact b.ring hn (hL.2.1 p hp).1.1 (hL.2.1 p hp).1.2.1 y hyp (by rw [←e];exact hx)
 have l1:=cn nd1 (b:=kv.map (·.1)) λ x hx=>by
  rcases LJ.mp hx with hx|hx
  ·obtain⟨d,h,_⟩:=b.wr x hx;exact ak.mp (by rw [h];rfl)
  ·obtain⟨p,hp,hxp⟩:=Ny.mp hx;obtain⟨d,h,_⟩:=(hL.2.1 p hp).1.1.mem hxp;exact ak.mp (by rw [h];rfl)
 rw [Lc,Ln] at l1
 have e2:∀ L:List (List Int × Bool),(L.map λ p=>p.1.length+if p.2=true then 1 else 0).sum<=(L.flatMap (·.1)).length+L.length:=by
  intro L
  induction L with
  | nil=>exact Li _
  | cons p L ih=>
   rw [LH,List.sum_cons,NV,Ln,LR]
   split<;>omega
 have:=e2 L;omega
theorem AG{α:Type}(f:α->Nat){L:List α}{i:Nat}{p:α}(h:L[i]? = some p):((L.take i).map f).sum+f p<=(L.map f).sum:=by
 have e:L.take (i+1)=L.take i++[p]:=by rw [LW,h];rfl
 have:(L.map f).sum=((L.take (i+1)).map f).sum+((L.drop (i+1)).map f).sum:=by
  rw [←Ow,←LG,MU]
 rw [this,e,LG,Ow];simp
theorem tN{α:Type}{R:α->V->Prop}{zs ws:List α}{ys us:List V}(h:Al R zs ys)(h':Al R ws us):Al R (zs++ws) (ys++us):=by
 refine⟨by rw [Ln,Ln,h.1,h'.1],λ i z y hz hy=>?_⟩
 by_cases hi:i < zs.length
 ·rw [L3 hi] at hz;rw [L3 (by rw [h.1];exact hi)] at hy;exact h.2 i z y hz hy
 ·rw [LP %[0|8]] at hz;rw [LP (by rw [h.1];omega),h.1] at hy;exact h'.2 _ z y hz hy
theorem pA:∀ {a b:List Bool},(∀ x∈a,x=false)->(a++true::b).idxOf true=a.length
 | [],b,_=>by simp [List.idxOf_cons]
 | x::a,b,h=>by
  have hx:=h x Lj;subst hx;have ih:=pA (a:=a) (b:=b) λ y hy=>h y (Lg _ hy);rw [M5,List.idxOf_cons,ih];rfl
theorem AM{kv:List (Int × Int)}{l:List Int}(h:eF (aa kv) l):l.length<=kv.length:=by
 have h1:=cn h.nodup (b:=kv.map (·.1)) λ x hx=>by
  obtain⟨d,h1,_⟩:=h.mem hx;exact ak.mp (by rw [h1];rfl)
 simpa using h1
structure RfI(kv:List (Int × Int))(D:List Int)(Lp:List (List Int × Bool))(rows:List (Int × Int)):Prop where
 st:StR kv D Lp rows
 ik:∀ q∈rows,InK kv q.1/\InK kv q.2
 len:rows.length=D.length+(Lp.map λ p=>p.1.length+if p.2=true then 1 else 0).sum
theorem RfI.ini{kv:List (Int × Int)}{D fr:List Int}(b:BsI kv D fr):RfI kv D [] (bU kv D):=by
 refine⟨λ x _=>?_,λ q hq=>?_,by unfold bU;simp⟩
 ·rw [G0 D b.dn b.wr b.ord x];have:(x∈D\/∃ p∈([]:List (List Int × Bool)),x∈p.1) ↔ x∈D:=by simp
  simp only [this]
 ·obtain⟨c,hc,rfl⟩:=Le.mp hq;obtain⟨d,h1,_⟩:=b.wr c hc;refine⟨.inr (.inr ?_),.inr (.inl (ak.mp (by rw [h1];rfl)))⟩;rw [cV h1];exact Le.mpr ⟨(c,d),bK h1,rfl⟩
theorem RfI.add{kv:List (Int × Int)}(hn:NdK kv){D:List Int}{L:List (List Int × Bool)}(b:BsI kv D [])(hL:bY (aa kv) (kv.map (·.1)) L)(hnn:∀ c e,aa kv c=some e->0<=c/\0<=e){i:Nat}{p:List Int × Bool}(hi:L[i]? = some p){rows rs:List (Int × Int)}(h:RfI kv D (L.take i) rows)(hw:pX kv D p rs):RfI kv D (L.take (i+1)) (rows++rs):=by
 have e:L.take (i+1)=L.take i++[p]:=by rw [LW,hi];rfl
 have hp:=Ly hi;have rl:=(hL.2.1 p hp).1;rw [e];refine⟨h.st.add rl (b.ring hn rl.1 rl.2.1) (λ q hq x hx hxq=>?_) (λ m=>?_) (λ m=>?_) hw,λ q hq=>?_,?_⟩
 ·have h1:=fg hL;rw [←MU i L,List.pairwise_append] at h1;exact h1.2.2 q hq p (Ly (i:=0) (by rw [NL];simpa using hi)) x hxq hx
 ·obtain⟨d,h1,_⟩:=rl.1.mem m;have:=(hnn _ _ h1).1;omega
 ·obtain⟨d,h1,_⟩:=b.wr _ m;have:=(hnn _ _ h1).1;omega
 ·rcases LJ.mp hq with hq|hq
  ·exact h.ik q hq
  ·exact hw.ink rl q hq
 ·rw [Ln,h.len,hw.len,LG,Ow];simp;omega
abbrev yV  (d:Addr) (H:Hp) (Q:VK) (E:XK):Prop:=∃ kv:List (Int × Int),H d=some (.dK (aj kv))/\NdK kv/\kv.length<=4200/\iW (kv.map (·.1))/\Few kv/\(∀ c e,aa kv c=some e->0<=c/\0<=e)/\∀ (rows:List (Int × Int)) (r:Addr) (H':Hp),Aj kv rows->rows.length<=4300->H r=none->Ext H H'->TwL H' r rows->Q (.ref r) H'
def Ho  : Sp:=λ vs H Q E=>∃ (d:Addr),vs=[.ref d]/\(yV  d H Q E)
theorem su  (d:Addr) (H:Hp) (Q:VK) (E:XK):Ho  [.ref d] H Q E=(yV  d H Q E):=gD (f:=λ (d:Addr)=>[.ref d]) (λ _ _ h=>by cases h;exact rfl) d
theorem Gf  {vs:List V}{H:Hp}{Q:VK}{E:XK}(h:Ho  vs H Q E):vs.length=1:=gk h λ _=>rfl
theorem nZ(T:Tx K mg t):bj P w K mg base CX0 5 t.a_rows_for t.d_rows_for ["found"] Ho:=by
 have G_rows_beside_rings:=%[eC|41];have G_rings:=%[wV|41];have G_rows_round:=%[kC|41];refine T.F_rows_for.ok bE (λ vs H Q E h=>Gf h) (λ c A o s' H vs Q E hr h=>?_)
 ·obtain⟨d,rfl,kv,hd,hnd,hl,hE,hF,hnn,k⟩:=h;refine⟨_,%[%[1,bE,%[rows_beside_rings,%[%[0|0]|1]|3]|4],%[(@b8 _ _ (2) _ _ _ _ bE.nd rfl (Or.inr rfl) (@bc _ _) ∅ %[0|7]),%[%[PassesOwn.never,rfl,%[%[1|0]|21],(%[(2),rfl,%[%[3,bE|5],%[%[4,bE|5],(@br _),∅|17],∅|17],∅,∅|28].mono λ _ _ _ _ h=>dq h),%[%[(aq hr.units),%[2|0],%[3|0],%[4|0],rfl|20]|10],(by intros;rfl)|16],%[%[PassesOwn.never,rfl,%[%[rings,%[%[0|0]|1]|3]|21],(%[(2),rfl,%[%[5,bE|5],%[%[6,bE|5],(@br _),∅|17],∅|17],∅,∅|28].mono λ _ _ _ _ h=>dq h),%[%[%[%[6|0],(by intros;rfl)|27],%[%[%[PySem.F.plainAttrs_list,PySem.F.slot_list_append,PySem.F.type_list_append,aY,%[1|0],%[%[%[%[gm,%[5|0],%[0|2],(λ _ _=>rfl)|15],%[(@eU _ _ (.int (-1)) _ _ ∅ T.m_SPARE.choose_spec ⟨_,rfl⟩ ⋯)|1]|1]|36]|1],∅,∅,∅,∅,∅|22],∅|19],%[%[%[PySem.F.plainAttrs_list,PySem.F.slot_list_extend,PySem.F.type_list_extend,ix,%[1|0],%[%[rows_round,%[%[5|0],%[(@eU _ _ (.int (-1)) _ _ ∅ T.m_SPARE.choose_spec ⟨_,rfl⟩ ⋯)|1]|1]|3]|1],∅,∅,∅,∅,∅|22],∅|19]|10]|9],%[%[7,bE,%[PySem.F.plainAttrs_list,PySem.F.slot_list_index,PySem.F.type_list_index,xa,%[(["cell", "found", "rows", "kept", "origin", "!cell", "ring", "bare", "at"]),(1),(bg (ae ef) ["found", "rows", "kept", "origin", "cell", "ring", "bare", "at"] rfl rfl nofun),rfl,%[%[5|0]|21],(λ C s₀ H₀ ex pn=>%[(0),_,(show List.Nodup (["cell", "found", "rows", "kept", "origin", "!cell", "ring", "bare", "at"]:List Str) from by decide +kernel),rfl,(Or.inl rfl),%[0|7]|18]),(λ C s₀ H₀ ex pn=>(@bu _)),(λ C s₀ H₀ ex pn=>%[(rZ (aq hr.units)),%[0|0],%[3|0],(by with_unfolding_all rfl)|38]),(by intros;rfl)|24],%[(@eu _ _ _ _)|1],∅,∅,∅,∅,∅|22]|4],%[%[%[PySem.F.plainAttrs_list,PySem.F.slot_list_extend,PySem.F.type_list_extend,ix,%[1|0],%[%[rows_round,%[%[nH,%[zr,%[5|0],(@eS _ _ _ %[7|0]),(@eT _)|37],%[zr,%[5|0],(@eT _),(@eS _ _ _ %[7|0])|37]|11],%[%[(aq hr.units),%[2|0],%[gm,%[5|0],%[7|0],(λ _ _=>rfl)|15],(λ _ _=>rfl)|33]|1]|1]|3]|1],∅,∅,∅,∅,∅|22],∅|19]|10]|9]|14]|10],(by intros;rfl)|16],%[%[%[1|0]|12]|10]|9]|9]|9]|9],?_⟩;rw [show start ["found", "rows", "kept", "origin", "cell", "ring", "bare", "at"] [.ref d]=[some (.ref d),none,none,none,none,none,none,none] from rfl];clear G_rows_beside_rings G_rings G_rows_round;exists hnd;exists hE;exists hF;exists hnn;exists k;ac_rfl;rw [GO];refine⟨kv,hd,hnd (),hl,λ D W H1 b hW e1 tw1=>?_⟩;obtain⟨ys,W1,al1⟩:=tw1;have hDl:=b.len.1;have hyl:ys.length=D.length:=by rw [al1.1];unfold bU;rw [length_map]
  exists b;exists al1;ac_rfl;intro KP H2 hK e2 h2;have W2:=e2.at W1;have e02:=e1.trans e2;have hK0:H KP=none:=e1.free hK;have nKW:W ≠ KP:=λ z=>by rw [z,hK] at W1;cases W1
  have al2:Al (λ p y=>twR p y H2) (bU kv D) ys:=(al1 ()).imp λ _ _ z=>z.ext e2;exists al2;clear W1 al1 hK e1 e2;ac_rfl;refine b9 (xs:=ys) (λ i σ H'=>∃ (v3 v4:Option V) (kp:List (Int × Int)),σ=[some (.ref d),some (.ref W),some (.ref KP),v3,v4,none,none,none]/\Ext H H'/\H' W=some (.lst ys)/\Al (λ p y=>twR p y H') (bU kv D) ys/\H' KP=some (.dK (aj kp))/\KpI kv (D.take i) kp) ⟨none,none,[],rfl,e02,W2,al2 (),h2,by rw [NN];exact KpI.nil kv⟩ (λ i σ H' _ ⟨_,_,_,_,_,q,_⟩=>q) ?_ ?_
  ·rintro i y _ H3 hy ⟨v3,v4,kp,rfl,e3,W3,al3,K3,kI⟩;have hi:i < D.length:=by have:=(Lb.mp hy).1;omega
   have hc:D[i]? = some D[i]:=getElem?_eq_getElem hi;obtain⟨q,rfl,hq⟩:=al3.2 i (ck kv D[i],D[i]) y (by unfold bU;rw [getElem?_map,hc];rfl) hy;have kI2:=kI.put D[i];have htk:D.take (i+1)=D.take i++[D[i]]:=by rw [take_add_one,hc];rfl
   rw [←htk] at kI2;have hl5:(aj kp).length < sizeLine:=aJ (by rw [az];have:=kI.len;rw [Mi] at this;omega);replace hq:H3 q=some (.tup [.int (ck kv D[i]),.int D[i]]):=hq;generalize D[i]=c at hq kI2;generalize ck kv c=o at hq kI2;have al4:Al (λ p y=>twR p y (upd H3 KP (.dK (aj (bh kp o c))))) (bU kv D) ys:=al3.imp λ _ _ z=>z.updD K3;exists kI2;exists al4;clear hy hc htk kI al3 W2 h2 k;ac_rfl;refine bH (k:=.inl o) K3 hl5 ?_;rw [aW];exact⟨_,_,_,rfl,e3.put hK0,by rw [af nKW];exact W3,al4 (),ag,kI2 ()⟩
  ·rintro _ H3 ⟨v3,v4,kp,rfl,e3,W3,al3,K3,kI⟩;rw [hyl,Me] at kI;have d3:=e3.at hd;exists al3;exists kI;clear W2 h2 al2;ac_rfl;rw [vp];refine⟨kv,d3,hnd (),hl,hE (),hF (),λ L r H4 hL e4 ra=>?_⟩;obtain⟨ys2,r4,hrn,al4⟩:=ra;have K4:=e4.at K3;have W4:=e4.at W3;have W4':=W3;have nrW:r ≠ W:=λ z=>by rw [z,W3] at hrn;cases hrn
   have alr:Al (λ p y=>twR p y H4) (bU kv D) ys:=(al3 ()).imp λ _ _ z=>z.ext e4
   have hLf:L.length < 64:=by
    have h1:=hF () (L.map (·.1)) (λ l hl=>by obtain⟨p,hp,rfl⟩:=Le.mp hl;exact(hL.2.1 p hp).1) (by rw [LV,Mn,Ms];exact hL.1.imp λ h=>by show ¬ _;intro e;have e':_=_:=e;simp only [Function.comp] at e';omega)
    simpa using h1
   have htot:=Ej (hnd ()) (b ()) hL;have rf0:=RfI.ini (b ());exists al4;exists alr;exists hL;exists rf0;clear K3 d3 al3;ac_rfl;refine b9 (xs:=ys2) (λ i σ H'=>∃ (v3 v4 v5 v6 v7:Option V) (rows:List (Int × Int)) (yr:List V),σ=[some (.ref d),some (.ref W),some (.ref KP),v3,v4,v5,v6,v7]/\Ext (oE [W] H4) H'/\H' W=some (.lst yr)/\Al (λ p y=>twR p y H') rows yr/\RfI kv D (L.take i) rows) ⟨_,_,none,none,none,bU kv D,ys,rfl,tD _ _,W4,alr (),by rw [NN];exact rf0 ()⟩ (λ i σ H' _ ⟨_,_,_,_,_,_,_,_,e,_⟩=>e.at (cG r4 nrW)) ?_ ?_
   ·rintro i y _ H5 hy ⟨v3',v4',v5,v6,v7,rows,yr,rfl,e5,W5,al5,rf⟩;have hi:i < L.length:=by have:=(Lb.mp hy).1;rw [(al4 ()).1] at this;exact this
    obtain⟨p,hp⟩:∃ p,L[i]? = some p:=⟨_,K1 hi⟩;obtain⟨q,lg,rfl,hq4,hlg4,hl3n,nlr⟩:=(al4 ()).2 i p y hp hy;have nqW:q ≠ W:=λ z=>by rw [z,W4] at hq4;cases hq4
    have nlW:lg ≠ W:=λ z=>by rw [z,W4'] at hl3n;cases hl3n
    have nKW':KP ≠ W:=Lv nKW;have q5:=e5.at (cG hq4 nqW);have lg5:=e5.at (cG hlg4 nlW);have K5:=e5.at (cG K4 nKW');have rl:=((hL ()).2.1 p (Ly hp)).1;have hpl:=AM rl.1;have hsum:=AG (λ p:List Int × Bool=>p.1.length+if p.2=true then 1 else 0) hp;have hbd:rows.length+(p.1.length+if p.2=true then 1 else 0)<=4300:=by have:=rf.len;omega
    have hyr:yr.length=rows.length:=al5.1;have add:=λ rs=>RfI.add (hnd ()) (b ()) (hL ()) (hnn ()) hp rf (rs:=rs);have kso:=uZ (hnd ()) (b ()) (kI ()) (hL ()) (Ly hp)
    obtain⟨pre,z,hpz⟩:∃ pre z,p.1=pre++[z]:=by
     obtain⟨pre,z,h⟩:=(MH p.1).resolve_left rl.1.ne;exact⟨pre,z,by rw [h,MW]⟩
    obtain⟨c0,t0,hct,_⟩:=id rl.1;obtain⟨l,bb⟩:=p;replace hpz:l=pre++[z]:=hpz;replace hct:l=c0::t0:=hct;replace lg5:H5 lg=some (.lst (l.map V.int)):=lg5;replace q5:H5 q=some (.tup [.ref lg,.bl bb]):=q5;replace hpl:l.length<=kv.length:=hpl;exists al5;exists rf;exists add;exists kso;exists hpz;exists hct;clear hy hp hq4 hlg4 rl hsum k
    cases bb with
    | true=>
     have hbd':rows.length+(l.length+1)<=4300:=hbd;have lg5':H5 lg=some (.lst (V.int c0::t0.map V.int)):=by rw [lg5,hct ()];rfl
     clear hbd;exists lg5;ac_rfl;intro t1 H6 ht1 e6 h6;have W6:=e6.at W5;have lg6:=e6.at (lg5 ());have n1W:t1 ≠ W:=λ z=>by rw [z,W5] at ht1;cases ht1
     have al6:Al (λ p y=>twR p y (upd H6 W (.lst (yr++[.ref t1])))) (rows++[(c0,-1)]) (yr++[.ref t1]):=((al5 ()).imp λ _ _ z=>(z.ext e6).upd W6).snoc ⟨t1,rfl,by rw [af n1W];exact h6⟩;exists al6;clear lg5' ht1 q5;ac_rfl;refine⟨aJ %[0|8],?_⟩;have e7:Ext (oE [W] H4) (upd H6 W (.lst (yr++[.ref t1]))):=(e5.trans e6).put (jU _ _);have lg7:upd H6 W (.lst (yr++[.ref t1])) lg=some (.lst (l.map V.int)):=by rw [af nlW];exact lg6
     have W7:upd H6 W (.lst (yr++[.ref t1])) W=some (.lst (yr++[.ref t1])):=ag;generalize upd H6 W (.lst (yr++[.ref t1]))=H7 at e7 lg7 W7 al6;clear W6 lg6 h6;rw [hpz ()] at lg7;ac_rfl;rw [yQ];refine⟨pre,z,lg7,by rw [←hpz ()];omega,λ r2 H8 hr8 e8 tw8=>?_⟩;obtain⟨y8,h8,al8⟩:=tw8;rw [←hpz ()] at al8;have W8:=e8.at W7;have ad:=add () _ (.inl ⟨rfl,rfl⟩);have hhd:(l,true).1.headD 0=c0:=by rw [hct ()];rfl
     rw [hhd] at ad;have hy8:y8.length=l.length:=by rw [al8.1,fE]
     have al9:Al (λ p y=>twR p y (upd H8 W (.lst (yr++[.ref t1]++y8)))) (rows++(c0,-1)::m3 l (-1)) (yr++[.ref t1]++y8):=by
      have h1:=tN ((al6 ()).imp λ _ _ z=>(z.ext e8).upd (ys:=yr++[.ref t1]++y8) W8) (al8.imp λ _ _ z=>z.upd (ys:=yr++[.ref t1]++y8) W8)
      rwa [OI rows] at h1
     have e9:Ext (oE [W] H4) (upd H8 W (.lst (yr++[.ref t1]++y8))):=(e7.trans e8).put (jU _ _);exists al8;exists al9;exists ad;exists hhd;clear W7 lg7;ac_rfl;exact⟨aA (by rw [Ln,MG];omega),_,_,_,_,_,_,_,rfl,e9,rfl,al9 (),ad ()⟩
    | false=>
     obtain⟨a,r0,b',hl',hr0,hna⟩:=mi (kso () rfl);replace hl':l=a++r0::b':=hl'
     obtain⟨ek,hek⟩:∃ ek,aa kp r0=some ek:=by
      cases e:aa kp r0 with
      | none=>rw [e] at hr0;cases hr0
      | some v=>exact⟨v,rfl⟩
     obtain⟨hekD,hfk⟩:=(kI ()).yes r0 ek hek
     have hlk:aa kv ek=some r0:=by
      obtain⟨d,h1,_⟩:=(b ()).wr ek hekD;rw [cV h1] at hfk;rw [h1,hfk]
     have hbd':rows.length+l.length<=4300:=by have:=hbd;simp at this;exact this
     have ad:=add () _ (.inr ⟨rfl,a,r0,b',ek,hl',hekD,hlk,rfl⟩)
     have hidx:(l.map λ x=>(aa kp x).isSome).idxOf true=a.length:=by
      rw [hl',LG,LH,hr0];have:=pA (a:=a.map λ x=>(aa kp x).isSome) (b:=b'.map λ x=>(aa kp x).isSome) (λ x hx=>by obtain⟨y,hy,rfl⟩:=Le.mp hx;exact hna y hy);rw [this,Lc]
     have hmem:true∈l.map λ x=>(aa kp x).isSome:=Le.mpr ⟨r0,by rw [hl'];simp,hr0⟩;have hll:(l.map λ x=>(aa kp x).isSome).length<=4200:=by rw [Lc];omega
     exists ad;exists hidx;exists hl';exists hna;exists hekD;clear hbd hr0 hfk;ac_rfl;refine bX (l.map V.int) (λ _=>true) (λ z=>.bl (aa kp (viI z)).isSome) (λ z x H'=>x=z/\H' lg=some (.lst (l.map V.int))) (i9 lg5).1 (i9 lg5).2 (aA (by rw [Lc];omega)) ?_ ?_
     ·intro L2 zz x H' M1 M0 hz hL2 e ⟨hx,_⟩ j1 _;subst hx;obtain⟨c,_,rfl⟩:=Le.mp hz;have K6:=e.at K5;have j1':M1 (.bl (aa kp c).isSome) H':=j1 rfl H' (Ext.refl _);clear j1 hz;simp! only [↓aV,↓bo];refine eG (k:=Sum.inl c) K6 ?_;rw [ao,NT];simp! only [↓aV,↓bo]
     intro L2 H6 hL2 e6 h6
     have h6':H6 L2=some (.lst ((l.map λ x=>(aa kp x).isSome).map V.bl)):=by
      rw [h6,LV,L7.mpr (λ _ _=>rfl),LV];rfl
     generalize (l.map λ x=>(aa kp x).isSome)=bs at h6' hidx hmem hll;have lg6:=e6.at lg5;have K6:=e6.at K5;have W6:=e6.at W5;have e06:=e5.trans e6;have al6:Al (λ p y=>twR p y H6) rows yr:=(al5 ()).imp λ _ _ z=>z.ext e6;exists al6;clear h6 lg5 K5 W5 q5;ac_rfl;rw [hidx ()];have hat:atI (l.map V.int) (a.length:Int)=some (.int r0):=eV (by rw [hl' (),LG,LP (by simp)];simp);rw [gT _ _ (Nm _),LI,show (l.map V.int).drop a.length=(r0::b').map V.int by rw [hl' (),LG,OY (by simp)]];intro r1 H7 hr7 e7 h7;have lg7:=e7.at lg6;have K7:=e7.at K6;have W7:=e7.at W6;clear lg6 K6 W6 h6';ac_rfl;rw [ki _ _ (Nm _),LI,show (l.map V.int).take a.length=a.map V.int by rw [hl' (),LG,List.take_left' (by simp)]];intro r2 H8 hr8 e8 h8;have lg8:=e8.at lg7;have K8:=e8.at K7;have W8:=e8.at W7;have h7_8:=e8.at h7;clear lg7 K7 W7 h7;rw [LH] at h7_8;have hlab:l.length=a.length+(b'.length+1):=by rw [hl' (),Ln,LR]
     ac_rfl;refine⟨aA %[0|8],λ r3 H9 hr9 e9 h9=>?_⟩;have lg9:=e9.at lg8;have K9:=e9.at K8;have W9:=e9.at W8;have h9':H9 r3=some (.lst ((r0::b'++a).map V.int)):=by rw [h9,LG,LH];rfl
     clear lg8 K8 W8 h7_8 h8 h9;ac_rfl;refine gn (k:=.inl r0) (v:=.int ek) K9 (by rw [ao,hek];rfl) ?_;ac_rfl;rw [yQ]
     obtain⟨pre',z',hpz'⟩:∃ pre' z',r0::b'++a=pre'++[z']:=by
      obtain⟨pre',z',h⟩:=(MH (r0::b'++a)).resolve_left (by simp);exact⟨pre',z',by rw [h,MW]⟩
     rw [hpz'] at h9';refine⟨pre',z',h9',by rw [←hpz',Ln,LR];omega,λ r4 H10 hr10 e10 tw10=>?_⟩;obtain⟨y10,h10,al10⟩:=tw10;rw [←hpz'] at al10;have W10:=e10.at W9;have hy10:y10.length=l.length:=by rw [al10.1,fE,Ln,LR];omega
     have e610:=e7.trans (e8.trans (e9.trans e10));have al11:Al (λ p y=>twR p y (upd H10 W (.lst (yr++y10)))) (rows++m3 (r0::b'++a) ek) (yr++y10):=tN ((al6 ()).imp λ _ _ z=>(z.ext e610).upd (ys:=yr++y10) W10) (al10.imp λ _ _ z=>z.upd (ys:=yr++y10) W10);have e11:Ext (oE [W] H4) (upd H10 W (.lst (yr++y10))):=(e06.trans e610).put (jU _ _);exists al11;exists al10;exists hpz';clear lg9 K9 W9 h9' hat;ac_rfl;exact⟨aA %[0|8],_,_,_,_,_,_,_,rfl,e11,rfl,al11 (),ad ()⟩
   ·rintro _ H5 ⟨v3',v4',v5,v6,v7,rows,yr,rfl,e5,W5,al5,rf⟩;rw [(al4 ()).1,Me] at rf;have rw5:=wF (hnd ()) (b ()) (hL ()) rf.st rf.ik rf.len;have hrl:rows.length<=4300:=by rw [rf.len];omega
    have k':=k () rows W H5 rw5 hrl hW (pF (e3.trans e4) hW e5) ⟨yr,W5,al5⟩;clear k al5 rw5 rf;ac_rfl
abbrev zh(K:PySem.W.Frag)(a:Addr)(ns:List Int)(p:Addr)(H:Hp)(Q:VK)(E:XK):Prop:=p=a/\SqL K H a (ns.map V.int)/\ns.length<=63/\∀ (nm:List Int) (r:Addr) (H':Hp),nm.length=61->(∀ x∈nm,0<=x)->H r=none->Ext H H'->H' r=some (.lst (nm.map V.int))->Q (.ref r) H'
def Hy(K:W.Frag)(a:Addr)(ns:List Int):Sp:=λ vs H Q E=>∃ (p:Addr),vs=[.ref p]/\(zh K a ns p H Q E)
theorem GS(K:W.Frag)(a:Addr)(ns:List Int)(p:Addr)(H:Hp)(Q:VK)(E:XK):Hy K a ns [.ref p] H Q E=(zh K a ns p H Q E):=gD (f:=λ (p:Addr)=>[.ref p]) (λ _ _ h=>by cases h;exact rfl) p
theorem Gq(K:W.Frag)(a:Addr)(ns:List Int){vs:List V}{H:Hp}{Q:VK}{E:XK}(h:Hy K a ns vs H Q E):vs.length=1:=gk h λ _=>rfl
theorem kH(T:Tx K mg t)(a:Addr)(ns:List Int):bj P w K mg base CX0 2 t.a__law_names t.d__law_names ["_law_script"] (Hy K a ns):=by
 have G__law_draw:=%[cx|41] a ns;refine T.F__law_names.ok cB (λ vs H Q E h=>Gq _ _ _ h) (λ c A o s H vs Q E hr h=>?_)
 ·obtain⟨_,rfl,rfl,hS,hl,kk⟩:=h;rename_i a;refine⟨_,%[(@b8 _ _ (1) _ _ _ _ cB.nd rfl (Or.inr rfl) %[aN,%[0|2],%[_law_draw,%[%[0|0],%[%[0|2],%[%[0|2]|1]|1]|1]|3]|11] ∅ %[0|7]),%[(@b8 _ _ (2) _ _ _ _ cB.nd rfl (Or.inr rfl) %[gm,%[%[%[0|2],%[%[_law_draw,%[%[0|0],%[%[0|2],%[%[lu,%[0|2],%[0|2]|11]|1]|1]|1]|3]|1]|1]|25],%[_law_draw,%[%[0|0],%[%[0|2],%[%[0|2]|1]|1]|1]|3],(λ _ _=>rfl)|15] ∅ %[0|7]),%[(@b8 _ _ (3) _ _ _ _ cB.nd rfl (Or.inr rfl) %[gm,%[%[%[0|2],%[%[aN,%[0|2],%[_law_draw,%[%[0|0],%[%[0|2],%[%[lu,%[0|2],%[0|2]|11]|1]|1]|1]|3]|11],%[%[0|2]|1]|1]|1]|25],%[jN,%[_law_draw,%[%[0|0],%[%[0|2],%[%[0|2]|1]|1]|1]|3],%[0|2]|11],(λ _ _=>rfl)|15] ∅ %[0|7]),%[%[%[(["_law_k", "_law_script", "_law_by", "_law_first", "_law_apart"]),(1),(bg (ae cq) ["_law_script", "_law_by", "_law_first", "_law_apart"] rfl rfl nofun),rfl,%[∅,T.z_range,%[%[0|2]|1],∅|31],(λ C s₀ H₀ ex pn=>%[(0),_,(show List.Nodup (["_law_k", "_law_script", "_law_by", "_law_first", "_law_apart"]:List Str) from by decide +kernel),rfl,(Or.inl rfl),%[0|7]|18]),(λ C s₀ H₀ ex pn=>(@bu _)),(λ C s₀ H₀ ex pn=>%[aN,%[3|0],%[lA,%[4|0],%[ja,%[lA,%[0|0],%[2|0]|11],%[0|2]|11]|11]|11]),(by intros;rfl)|24]|12]|10]|9]|9]|9],?_⟩;rw [show start ["_law_script", "_law_by", "_law_first", "_law_apart"] [.ref a]=[some (.ref a),none,none,none] from rfl];clear G__law_draw;ac_rfl;rw [aQ];refine⟨hS,hl,⟨by decide,by decide⟩,by decide,λ by' y0 y1=>?_⟩;ac_rfl;rw [aQ];refine⟨hS,hl,⟨by decide,by decide⟩,by decide,λ z z0 z1=>?_⟩;ac_rfl;intro q1 H1 hq1 e1 h1;have hS1:=e1.2 K a _ hS;ac_rfl;rw [aQ];refine⟨hS1,hl,⟨by decide,by decide⟩,by decide,λ i i0 i1=>?_⟩;ac_rfl;refine iw (λ j=>0<=j/\j < 100000000000000000) i0 (by simpa using i1) (λ v hv=>?_) λ fi hfi=>?_
  ·simp only [Lz,Ld,L8] at hv
   rcases hv with rfl|rfl<;>exact⟨_,rfl,by omega,by omega⟩
  clear h1;ac_rfl;rw [aQ];refine⟨hS1,hl,⟨by decide,by decide⟩,by decide,λ u u0 u1=>?_⟩;ac_rfl;intro q2 H2 hq2 e2 h2;have hS2:=e2.2 K a _ hS1;ac_rfl;rw [aQ];refine⟨hS2,hl,⟨by decide,by decide⟩,by decide,λ v v0 v1=>?_⟩;ac_rfl;refine iw (λ j=>1<=j/\j<=1000000) %[0|8] (by show v / 2 < ((3:Nat):Int);omega) (λ v hv=>?_) λ ap hap=>?_
  ·simp only [Lz,Ld,L8] at hv
   rcases hv with rfl|rfl|rfl<;>exact⟨_,rfl,by omega,by omega⟩
  have e02:=e1.trans e2;clear h2 hS1 hS2 i0 i1 u0 u1 z0 z1 v0 v1 hS hq2 hq1 e1 e2;ac_rfl;refine bX (List.range 61) (λ _=>true) (λ j=>.int (fi+ap * ((j:Int) * (1+by') % 61))) (λ j x _=>x=.int (0+(j:Int))) dj.1 (by simpa using dj.2) ⋯ ?_ ?_
  ·intro D j x H' N1 N0 hj hD e hx k1 _;subst hx;have hj':=LF.mp hj;have g0:=Md ((j:Int) * (1+by')) (show (61:Int) ≠ 0 by decide);have g1:=LZ ((j:Int) * (1+by')) (show (0:Int) < 61 by decide);have k1':N1 (.int (fi+ap * ((j:Int) * (1+by') % 61))) H':=k1 rfl H' (Ext.refl _);clear k1 kk hj;rw [ML];simp! only [↓aV,↓bo];exact⟨.inl ⟨by omega,by omega⟩,.inl ⟨by omega,by omega⟩⟩
  ·intro D H3 hD e3 h3;rw [L7.mpr (λ _ _=>rfl)] at h3
   exact kk ((List.range 61).map λ (j:Nat)=>fi+ap * ((j:Int) * (1+by') % 61)) D H3 (by simp) (λ x hx=>by
    obtain⟨j,_,rfl⟩:=Le.mp hx;have h1:=Md ((j:Int) * (1+by')) (show (61:Int) ≠ 0 by decide);have h2:=Int.mul_nonneg (show 0<=ap by omega) h1;omega) (e02.free hD) (e02.trans e3) (by rw [h3,LV];rfl)
structure SmD(m:Int)(kv:List (Int × Int)):Prop where
 nd:NdK kv
 all:∀ c v,aa kv c=some v->(0<=c/\c < m)/\0<=v/\v < 61
theorem SmD.nil(m:Int):SmD m []:=⟨Mg,λ _ _ h=>by cases h⟩
theorem SmD.put{m:Int}{kv:List (Int × Int)}(h:SmD m kv){c v:Int}(hc:0<=c/\c < m)(hv:0<=v/\v < 61):SmD m (bh kv c v):=by
 refine⟨bC h.nd c v,λ x y e=>?_⟩;rw [aX] at e
 by_cases hx:x=c
 ·rw [Lo hx] at e;rw [hx,←Lu e];exact⟨hc,hv⟩
 ·rw [Lm hx] at e;exact h.all x y e
theorem SmD.len{m:Int}{kv:List (Int × Int)}(h:SmD m kv)(hm:m<=50):kv.length<=50:=by
 have:=cn h.nd (b:=(List.range 50).map λ (j:Nat)=>(j:Int)) λ x hx=>by
  cases e:aa kv x with
  | none=>exact absurd hx (aZ.mp e)
  | some v=>
   have h1:=(h.all x v e).1;exact Le.mpr ⟨x.toNat,LF.mpr %[0|8],by omega⟩
 simpa using this
theorem hZ(kv:List (Int × Int))(c v:Int):bh kv c v ≠ []:=λ z=>by
 have h:=aX kv c v c;rw [Lo rfl,z] at h;cases h
abbrev zq(K:PySem.W.Frag)(a:Addr)(ns:List Int)(p:Addr)(m:Int)(H:Hp)(Q:VK)(E:XK):Prop:=p=a/\SqL K H a (ns.map V.int)/\ns.length<=63/\(0<=m/\m<=50)/\∀ (kv:List (Int × Int)) (r:Addr) (H':Hp),SmD m kv->(0 < m->kv ≠ [])->H r=none->Ext H H'->H' r=some (.dK (aj kv))->Q (.ref r) H'
def HF(K:W.Frag)(a:Addr)(ns:List Int):Sp:=λ vs H Q E=>∃ (p:Addr) (m:Int),vs=[.ref p,.int m]/\(zq K a ns p m H Q E)
theorem GZ(K:W.Frag)(a:Addr)(ns:List Int)(p:Addr)(m:Int)(H:Hp)(Q:VK)(E:XK):HF K a ns [.ref p,.int m] H Q E=(zq K a ns p m H Q E):=pR (f:=λ (p:Addr) (m:Int)=>[.ref p,.int m]) (λ _ _ _ _ h=>by cases h;exact⟨rfl,rfl⟩) p m
theorem Gy(K:W.Frag)(a:Addr)(ns:List Int){vs:List V}{H:Hp}{Q:VK}{E:XK}(h:HF K a ns vs H Q E):vs.length=2:=qV h λ _ _=>rfl
theorem iZ(T:Tx K mg t)(a:Addr)(ns:List Int):bj P w K mg base CX0 2 t.a__law_blocks t.d__law_blocks ["_law_script", "_law_many"] (HF K a ns):=by
 have G__law_draw:=%[cx|41] a ns;refine T.F__law_blocks.ok bf (λ vs H Q E h=>Gy _ _ _ h) (λ c A o s H vs Q E hr h=>?_)
 ·obtain⟨_,m,rfl,rfl,hS,hl,⟨hm0,hm1⟩,kk⟩:=h;rename_i a;refine⟨_,%[%[2,bf,(@bc _ _)|4],%[%[3,bf,%[0|2]|4],%[(@kc _ _ _ _ _ _ LB %[vI,%[3|0],%[1|0],(ar _)|13] %[%[4,bf,%[min,(mw rfl),%[%[1|0],%[%[aN,%[aN,%[3|0],%[0|2]|11],%[_law_draw,%[%[0|0],%[%[aN,%[0|2],%[3|0]|11],%[%[0|2]|1]|1]|1]|3]|11]|1]|1]|6]|4],%[%[LB,rfl,(@ud _ _ _ _ _ _ _ ∅ T.z_range %[%[3|0],%[%[4|0]|1]|1] ∅ ∅),%[5,bf|5],%[%[(aq hr.units),%[2|0],%[5|0],%[aN,%[5|0],%[0|2]|11],rfl|20]|10],(by intros;rfl)|16],%[%[(aq hr.units),%[2|0],%[eI,%[4|0],%[0|2]|11],%[3|0],rfl|20],%[%[%[(dm hr.units),%[_law_draw,%[%[0|0],%[%[aN,%[0|2],%[3|0]|11],%[%[0|2]|1]|1]|1]|3],%[0|2],(ar _)|13],%[%[(aq hr.units),%[2|0],%[eI,%[4|0],%[0|2]|11],%[_law_draw,%[%[0|0],%[%[aN,%[0|2],%[3|0]|11],%[%[0|2]|1]|1]|1]|3],rfl|20]|10],(@av _)|14],%[%[3,bf,%[4|0]|4]|10]|9]|9]|9]|9]),%[%[%[2|0]|12]|10]|9]|9]|9],?_⟩;rw [show start ["_law_script", "_law_many", "_law_found_here", "_law_begin", "_law_end", "_law_k"] [.ref a,.int m]=[some (.ref a),some (.int m),none,none,none,none] from rfl];clear G__law_draw;ac_rfl;intro d H1 hd1 e1 h1;ac_rfl;refine nj (by repeat' first|exact zW|exact sg|exact mo_nI|apply kf|apply mo_unN|exact oH|exact HM|exact oI|exact mo_rI|exact mo_rIsN|exact mo_rNotN|exact mo_qEq|exact mo_qIx|exact sf|exact nJ|exact si|exact mo_qLenD|apply mo_dget2|apply jO|apply mo_tB|apply mo_not|apply sj|apply mo_or|apply zX|apply mo_un|apply nK|apply mo_qLst|apply zY) (λ mm σ H'=>∃ (b:Int) (v4 v5:Option V) (kv:List (Int × Int)),σ=[some (.ref a),some (.int m),some (.ref d),some (.int b),v4,v5]/\mm=(m - b).toNat/\0<=b/\b<=m/\Ext H H'/\H' d=some (.dK (aj kv))/\SmD m kv/\(0 < b->kv ≠ [])) _ ⟨0,none,none,[],rfl,rfl,by omega,hm0,e1,h1,SmD.nil m,λ h=>absurd h ⋯⟩ ?_;rintro mm _ H2 ⟨b,v4,v5,kv,rfl,rfl,hb0,hbm,e2,d2,sd,hne⟩;exists hne;have hS2:=e2.2 K a _ hS;exists sd;clear h1 e1
  by_cases hb:b < m
  ·ac_rfl;rw [aQ];refine⟨hS2,hl,⟨by omega,by omega⟩,by decide,λ z z0 z1=>?_⟩;ac_rfl;obtain⟨en,hen,he1,he2⟩:∃ en,(if b+1+z < m then b+1+z else m)=en/\b+1<=en/\en<=m:=⟨_,rfl,by split<;>omega,by split<;>omega⟩;rw [hen];refine⟨⟨by omega,by omega,by omega,by omega⟩,?_⟩;clear hen z0 z1;refine fW (λ i σ H'=>∃ (v5':Option V) (kv':List (Int × Int)),σ=[some (.ref a),some (.int m),some (.ref d),some (.int b),some (.int en),v5']/\Ext H H'/\H' d=some (.dK (aj kv'))/\SmD m kv') ⟨v5,kv,rfl,e2,d2,sd ()⟩ ?_ ?_
   ·rintro i _ H3 hi ⟨v5',kv',rfl,e3,d3,sd3⟩;have hl5:(aj kv').length < sizeLine:=aJ (by rw [az];have:=sd3.len hm1;omega);have sd4:=sd3.put (c:=b+(i:Int)) (v:=b+(i:Int)+1) ⟨by omega,by omega⟩ ⟨by omega,by omega⟩;exists sd4;clear sd3 d2 kk;ac_rfl;refine bH (k:=.inl (b+(i:Int))) d3 hl5 ?_;rw [aW];exact⟨_,_,rfl,e3.put hd1,ag,sd4 ()⟩
   ·rintro _ H3 ⟨v5',kv',rfl,e3,d3,sd3⟩;have hl5:(aj kv').length < sizeLine:=aJ (by rw [az];have:=sd3.len hm1;omega);have sd4:=sd3.put (c:=en - 1) (v:=b) ⟨by omega,by omega⟩ ⟨by omega,by omega⟩;have hl6:(aj (bh kv' (en - 1) b)).length < sizeLine:=aJ (by rw [az];have:=sd4.len hm1;omega);exists sd4;clear sd3 d2 kk;ac_rfl;refine bH (k:=.inl (en - 1)) d3 hl5 ?_;rw [aW];have e4:Ext H (upd H3 d (.dK (aj (bh kv' (en - 1) b)))):=e3.put hd1;have d4:upd H3 d (.dK (aj (bh kv' (en - 1) b))) d=some (.dK (aj (bh kv' (en - 1) b))):=ag;have hS4:=e4.2 K a _ hS;generalize upd H3 d (.dK (aj (bh kv' (en - 1) b)))=H4 at e4 d4 hS4;clear hl5 d3;ac_rfl;rw [aQ];refine⟨hS4,hl,⟨by omega,by omega⟩,by decide,λ y y0 y1=>?_⟩
    by_cases hy:y=0
    ·ac_rfl;rw [aQ];refine⟨hS4,hl,⟨by omega,by omega⟩,by decide,λ x x0 x1=>?_⟩;have sd5:=(sd4 ()).put (c:=en - 1) (v:=x) ⟨by omega,by omega⟩ ⟨by omega,by omega⟩;ac_rfl;refine bH (k:=.inl (en - 1)) d4 hl6 ?_;rw [aW];have e5:Ext H (upd H4 d (.dK (aj (bh (bh kv' (en - 1) b) (en - 1) x)))):=e4.put hd1;have d5:upd H4 d (.dK (aj (bh (bh kv' (en - 1) b) (en - 1) x))) d=some (.dK (aj (bh (bh kv' (en - 1) b) (en - 1) x))):=ag;generalize upd H4 d (.dK (aj (bh (bh kv' (en - 1) b) (en - 1) x)))=H5 at e5 d5;clear d4 hl6;simp! only [-ag];exact⟨_,%[0|8],en,_,_,_,rfl,rfl,by omega,he2,e5,rfl,sd5,λ _=>hZ _ _ _⟩
    ·simp! only [-ag];exact⟨_,%[0|8],en,_,_,_,rfl,rfl,by omega,he2,e4,rfl,sd4 (),λ _=>hZ _ _ _⟩
  ·have k':=kk kv d H2 (sd ()) (λ h=>hne () %[0|8]) hd1 e2 d2;clear kk;ac_rfl
theorem xW{c:TT}{t u:TS}{D:m7}{σ:St}{H:Hp}(R:Bool->Hp->Prop)(h:∀ Qb:Bool->Hp->Prop,(∀ b H',R b H'->Qb b H')->c σ H Qb)(k:∀ b H',R b H'->HY t u D σ b H'):Dg c t u D σ H:=h _ k
def Dd(m:Int)(y:V)(H:Hp):Prop:=∃ q i j,y=.ref q/\H q=some (.tup [.int i,.int j])/\0<=j/\j < m
theorem Dd.ext{m:Int}{y:V}{H H':Hp}(h:Dd m y H)(e:Ext H H'):Dd m y H':=by
 obtain⟨q,i,j,h1,h2,h3⟩:=h;exact⟨q,i,j,h1,e.at h2,h3⟩
structure TdI(N:Nat)(kv:List (Int × Int)):Prop where
 nd:NdK kv
 len:kv.length<=N
 nn:∀ c e,aa kv c=some e->0<=c/\0<=e
 ne:0 < N->kv ≠ []
theorem TdI.put{N:Nat}{kv:List (Int × Int)}(h:TdI N kv){c v:Int}(hc:0<=c)(hv:0<=v):TdI (N+1) (bh kv c v):=by
 refine⟨bC h.nd c v,by have:=dY kv c v;have:=h.len;omega,λ x e he=>?_,λ _=>hZ _ _ _⟩;rw [aX] at he
 by_cases hx:x=c
 ·rw [Lo hx] at he;rw [hx,←Lu he];exact⟨hc,hv⟩
 ·rw [Lm hx] at he;exact h.nn x e he
abbrev zm(K:PySem.W.Frag)(a:Addr)(ns:List Int)(p:Addr)(H:Hp)(Q:VK)(E:XK):Prop:=p=a/\SqL K H a (ns.map V.int)/\ns.length<=63/\∀ (kv:List (Int × Int)) (r:Addr) (H':Hp),NdK kv->kv ≠ []->kv.length<=50->(∀ c e,aa kv c=some e->0<=c/\0<=e)->H r=none->Ext H H'->H' r=some (.dK (aj kv))->Q (.ref r) H'
def HC(K:W.Frag)(a:Addr)(ns:List Int):Sp:=λ vs H Q E=>∃ (p:Addr),vs=[.ref p]/\(zm K a ns p H Q E)
theorem GW(K:W.Frag)(a:Addr)(ns:List Int)(p:Addr)(H:Hp)(Q:VK)(E:XK):HC K a ns [.ref p] H Q E=(zm K a ns p H Q E):=gD (f:=λ (p:Addr)=>[.ref p]) (λ _ _ h=>by cases h;exact rfl) p
theorem Gv(K:W.Frag)(a:Addr)(ns:List Int){vs:List V}{H:Hp}{Q:VK}{E:XK}(h:HC K a ns vs H Q E):vs.length=1:=gk h λ _=>rfl
theorem kK(T:Tx K mg t)(a:Addr)(ns:List Int):bj P w K mg base CX0 3 t.a__law_found t.d__law_found ["_law_script"] (HC K a ns):=by
 have G__law_draw:=%[cx|41] a ns;have G__law_blocks:=%[iZ|41] a ns;have G__law_names:=%[kH|41] a ns;refine T.F__law_found.ok aG (λ vs H Q E h=>Gv _ _ _ h) (λ c A o s H vs Q E hr h=>?_)
 ·obtain⟨_,rfl,rfl,hS,hl,kk⟩:=h;rename_i a;refine⟨_,%[%[1,aG,%[aN,%[0|2],%[_law_draw,%[%[0|0],%[%[0|2],%[%[0|2]|1]|1]|1]|3]|11]|4],%[%[2,aG,%[_law_draw,%[%[0|0],%[%[0|2],%[%[0|2]|1]|1]|1]|3]|4],%[%[3,aG,%[sorted,qI,%[%[(["_law_k", "_law_script", "_law_many", "_law_way", "_law_order", "_law_found_here", "!_law_k", "_law_names_here", "_law_told"]),(1),(bg (ae cu) ["_law_script", "_law_many", "_law_way", "_law_order", "_law_found_here", "_law_k", "_law_names_here", "_law_told"] rfl rfl nofun),rfl,%[∅,T.z_range,%[%[1|0]|1],∅|31],(λ C s₀ H₀ ex pn=>%[(0),_,(show List.Nodup (["_law_k", "_law_script", "_law_many", "_law_way", "_law_order", "_law_found_here", "!_law_k", "_law_names_here", "_law_told"]:List Str) from by decide +kernel),rfl,(Or.inl rfl),%[0|7]|18]),(λ C s₀ H₀ ex pn=>(@bu _)),(λ C s₀ H₀ ex pn=>%[%[%[_law_draw,%[%[1|0],%[%[aN,%[0|2],%[0|0]|11],%[%[lu,%[0|2],%[0|2]|11]|1]|1]|1]|3],%[%[0|0]|1]|1]|36]),(by intros;rfl)|24]|1]|6]|4],%[%[4,aG,(@bc _ _)|4],%[%[LB,rfl,%[∅,T.z_range,%[%[1|0]|1],∅|31],%[5,aG|5],%[%[(aq hr.units),%[4|0],%[5|0],%[gm,%[gm,%[3|0],%[5|0],(λ _ _=>rfl)|15],%[0|2],(λ _ _=>rfl)|15],rfl|20],%[%[(PW.pt %[%[(dm hr.units),%[2|0],%[0|2],(ar _)|13],(@gq _ _ _ _ (PW.pt (@lp _ _ _ _ _ _ _ %[(dm hr.units),%[2|0],%[0|2],(ar _)|13] (@hV _ _ _ _ %[(dm hr.units),%[_law_draw,%[%[0|0],%[%[aN,%[0|2],%[5|0]|11],%[%[0|2]|1]|1]|1]|3],%[0|2],(ar _)|13]))))|26]),%[%[(aq hr.units),%[4|0],%[5|0],%[_law_draw,%[%[0|0],%[%[aN,%[0|2],%[5|0]|11],%[%[aN,%[1|0],%[0|2]|11]|1]|1]|1]|3],rfl|20]|10],(@av _)|14]|10]|9],(by intros;rfl)|16],%[%[%[m9,%[2|0],%[0|2],(ar _)|13],%[%[4,aG,%[_law_blocks,%[%[0|0],%[%[1|0]|1]|1]|3]|4]|10],(@av _)|14],%[%[6,aG,%[_law_names,%[%[0|0]|1]|3]|4],%[%[7,aG,(@bc _ _)|4],%[(@ia _ _ _ %[LB,rfl,(@jM _ _ _ _ %[4|0]),%[5,aG|5],%[%[(aq hr.units),%[7|0],%[gm,%[6|0],%[5|0],(λ _ _=>rfl)|15],%[gm,%[6|0],%[(aq hr.units),%[4|0],%[5|0],(λ _ _=>rfl)|33],(λ _ _=>rfl)|15],rfl|20]|10],(by intros;rfl)|16]),%[%[%[7|0]|12]|10]|9]|9]|9]|9]|9]|9]|9]|9]|9],?_⟩;rw [show start ["_law_script", "_law_many", "_law_way", "_law_order", "_law_found_here", "_law_k", "_law_names_here", "_law_told"] [.ref a]=[some (.ref a),none,none,none,none,none,none,none] from rfl];clear G__law_draw G__law_blocks G__law_names;exists kk;ac_rfl;rw [aQ];refine⟨hS,hl,⟨by decide,by decide⟩,by decide,λ z z0 z1=>?_⟩;ac_rfl;have hm2:2<=2+z:=by omega
  have hm50:2+z<=50:=by omega
  clear z0 z1;generalize 2+z=m at hm2 hm50 ⊢;rw [aQ];refine⟨hS,hl,⟨by decide,by decide⟩,by decide,λ wy w0 w1=>?_⟩;ac_rfl;refine⟨by omega,by omega,?_⟩;refine mq (List.range m.toNat) (λ _=>true) (λ j x _=>x=.int (0+(j:Int))) (λ _ j y H'=>Dd m y H') dj.1 dj.2 (λ D z y H1 H2 q e=>q.ext e) (λ D z y H1 xs o ⟨q,i,j,a1,a2,a3⟩ hD=>⟨q,i,j,a1,by rw [af λ z=>by rw [z,hD] at a2;cases a2];exact a2,a3⟩) (aA (by rw [Mo];omega)) ?_ ?_
  ·intro D j x H' N1 N0 hj hD e _ hx k1 _;subst hx;have hj':=LF.mp hj;have hS':=e.2 K a _ hS;replace k1:=λ (_:Unit)=>k1 rfl;clear kk hj;simp! only [↓aV,↓bo];rw [aQ];refine⟨hS',hl,⟨by omega,by omega⟩,by decide,λ u u0 u1=>?_⟩;ac_rfl;intro q H2 hq e2 h2;exact k1 () _ H2 e2 ⟨q,_,_,rfl,h2,by omega,by omega⟩
  intro D ys H1 hD e1 h1 al;rw [L7.mpr (λ _ _=>rfl)] at al;have hyl:ys.length=m.toNat:=by rw [al.1,Mo]
  have hys:∀ y∈ys,Dd m y H1:=λ y hy=>by
   obtain⟨i,hi,rfl⟩:=Mr hy;exact al.2 i i _ (by rw [List.getElem?_range %[0|8]]) (K1 hi)
  have hpa:nG H1 ys:=λ y hy=>by
   obtain⟨q,i,j,h1,h2,_⟩:=hys y hy;exact⟨q,i,j,h1,h2⟩
  exists hys;clear al;ac_rfl;refine wa h1 hpa %[0|8] %[0|8] λ yo hpo=>?_;intro O H2 hO e2 h2;have hyo:∀ y∈yo,Dd m y H2:=λ y hy=>(hys () y (hpo.mem_iff.mp hy)).ext e2;have hyl2:yo.length=m.toNat:=by rw [hpo.length_eq,hyl]
  exists hyo;have e02:=e1.trans e2;clear hpa h1 hys hpo hO hD;ac_rfl;intro d H3 hd3 e3 h3;have e03:=e02.trans e3;have O3:=e3.at h2;have hd0:H d=none:=e02.free hd3;have hdn2:H2 d=none:=hd3;have nOd:O ≠ d:=λ z=>by rw [←z,h2] at hd3;cases hd3
  exists hyl2;clear h2 hd3;ac_rfl;refine⟨by omega,by omega,?_⟩;refine fW (λ i σ H'=>∃ (v5:Option V) (kv:List (Int × Int)),σ=[some (.ref a),some (.int m),some (.int wy),some (.ref O),some (.ref d),v5,none,none]/\Ext H H'/\Ext H2 H'/\H' O=some (.lst yo)/\H' d=some (.dK (aj kv))/\SmD m kv/\(0 < i->kv ≠ [])) ⟨none,[],rfl,e03,e3,O3,h3,SmD.nil m,λ h=>absurd h (LQ _)⟩ ?_ ?_
  ·rintro i _ H4 hi ⟨v5,kv,rfl,e4,e24,O4,d4,sd,_⟩;have hi2:i < yo.length:=by rw [hyl2 ()];exact hi
   obtain⟨q,qi,qj,hy,hq,j0,j1⟩:=hyo () _ (MK hi2);have hat:atI yo (0+(i:Int))=some (.ref q):=by rw [ML];exact eV (by rw [K1 hi2,hy])
   have q4:=e24.at hq;have hS4:=e4.2 K a _ hS;have hl5:(aj kv).length < sizeLine:=aJ (by rw [az];have:=sd.len hm50;omega);have sd5:=sd.put (c:=0+(i:Int)) (v:=qj) ⟨by omega,by omega⟩ ⟨by omega,by omega⟩;have hl6:(aj (bh kv (0+(i:Int)) qj)).length < sizeLine:=aJ (by rw [az];have:=sd5.len hm50;omega);exists sd5;clear sd hy hq kk O3 h3;ac_rfl;refine bH (k:=.inl (0+(i:Int))) d4 hl5 ?_;rw [aW];have e5:Ext H (upd H4 d (.dK (aj (bh kv (0+(i:Int)) qj)))):=e4.put hd0;have e25:Ext H2 (upd H4 d (.dK (aj (bh kv (0+(i:Int)) qj)))):=e24.put hdn2;have d5:upd H4 d (.dK (aj (bh kv (0+(i:Int)) qj))) d=some (.dK (aj (bh kv (0+(i:Int)) qj))):=ag;have O5:upd H4 d (.dK (aj (bh kv (0+(i:Int)) qj))) O=some (.lst yo):=by rw [af nOd];exact O4
   have hS5:=e5.2 K a _ hS;generalize upd H4 d (.dK (aj (bh kv (0+(i:Int)) qj)))=H5 at e5 e25 d5 O5 hS5;clear d4 O4 q4 hS4 hat hl5;simp! only [-jb];refine xW (λ b H'=>H'=H5) (λ Qb hqb=>?_) ?_
   ·exists hqb
    by_cases h0:wy=0
    ·have h1:=hqb () true H5 rfl;clear hqb;ac_rfl
    ·by_cases h1:wy=1
     ·ac_rfl;rw [aQ];refine⟨hS5,hl,⟨by omega,by omega⟩,by decide,λ u u0 u1=>?_⟩
      by_cases hu:u=0
      ·have h1:=hqb () true H5 rfl;clear hqb;ac_rfl
      ·have h1:=hqb () false H5 rfl;clear hqb;ac_rfl
     ·have h1:=hqb () false H5 rfl;clear hqb;ac_rfl
   ·rintro b _ rfl
    cases b with
    | false=>
     simp! only [-ag];exact⟨_,_,rfl,e5,e25,rfl,sd5 (),λ _=>hZ _ _ _⟩
    | true=>
     ac_rfl;rw [aQ];refine⟨hS5,hl,⟨by omega,by omega⟩,by omega,λ x x0 x1=>?_⟩;have sd6:=(sd5 ()).put (c:=0+(i:Int)) (v:=x) ⟨by omega,by omega⟩ ⟨by omega,by omega⟩;ac_rfl;refine bH (k:=.inl (0+(i:Int))) d5 hl6 ?_;rw [aW];exact⟨_,_,rfl,e5.put hd0,e25.put hdn2,by rw [af nOd];exact O5,ag,sd6,λ _=>hZ _ _ _⟩
  ·rintro _ H4 ⟨v5,kv,rfl,e4,e24,O4,d4,sd,hne⟩;replace hne:kv ≠ []:=hne %[0|8];exists hne;have hS4:=e4.2 K a _ hS;exists sd;clear O3 h3 hyo hyl2;simp! only [-jb];refine oN (λ σ' H'=>∃ (dd:Addr) (kv':List (Int × Int)),σ'=[some (.ref a),some (.int m),some (.int wy),some (.ref O),some (.ref dd),v5,none,none]/\Ext H H'/\H' dd=some (.dK (aj kv'))/\SmD m kv'/\kv' ≠ []) (λ nx' hnx=>?_) ?_
   ·exists hnx
    by_cases hw:2 < wy
    ·ac_rfl;rw [GZ];refine⟨rfl,hS4,hl,⟨by omega,hm50⟩,λ kv' r H5 sd' hne' hr5 e5 h5=>?_⟩;have h6:=hnx () [some (.ref a),some (.int m),some (.int wy),some (.ref O),some (.ref r),v5,none,none] H5 ⟨r,kv',rfl,e4.trans e5,h5,sd',hne' %[0|8]⟩;clear hnx;ac_rfl
    ·have h6:=hnx () [some (.ref a),some (.int m),some (.int wy),some (.ref O),some (.ref d),v5,none,none] H4 ⟨d,kv,rfl,e4,d4,sd (),hne ()⟩;clear hnx;ac_rfl
   rintro _ H5 ⟨dd,kv',rfl,e5,d5,sd5,hne5⟩;exists hne5;have hS5:=e5.2 K a _ hS;have hlen:=sd5.len hm50;exists sd5;clear hS4 d4 O4 sd;ac_rfl;rw [GS];refine⟨rfl,hS5,hl,λ nm r H6 hnm hnn hr6 e6 h6=>?_⟩;exists hnn;have d6:=e6.at d5;clear hS5;ac_rfl;intro td H7 ht7 e7 h7;have d7:=e7.at d6;have r7:=e7.at h6;have ht0:H td=none:=(e5.trans e6).free ht7;have ntd:td ≠ dd:=λ z=>by rw [z,d6] at ht7;cases ht7
   have nrd:r ≠ dd:=λ z=>by rw [z,d5] at hr6;cases hr6
   have e07:=e5.trans (e6.trans e7);have hnt:H6 td=none:=ht7;have nrt:r ≠ td:=λ z=>by rw [←z,h6] at hnt;cases hnt
   clear d6 h6 hr6 ht7;ac_rfl;refine pB (λ ob i σ H'=>∃ (v5':Option V) (kt:List (Int × Int)),σ=[some (.ref a),some (.int m),some (.int wy),some (.ref O),some (.ref dd),v5',some (.ref r),some (.ref td)]/\Ext (upd H5 dd (.frz ob (.dK (aj kv')))) H'/\H' r=some (.lst (nm.map V.int))/\H' td=some (.dK (aj kt))/\TdI i kt) d7 (λ ob=>⟨v5,[],rfl,jT (e6.trans e7) _ _,by rw [af nrd];exact r7,by rw [af ntd];exact h7,⟨Mg,LD _,(λ _ _ h=>by cases h),λ h=>absurd h (LQ _)⟩⟩) (λ ob i σ' H' ⟨_,_,_,e,_⟩=>e.at ag) ?_ ?_
   ·rintro ob i z _ H8 hz ⟨v5',kt,rfl,e8,r8,t8,td8⟩ f8
    obtain⟨y,hy,rfl⟩:∃ y,kv'[i]? = some y/\z=((Sum.inl y.1:Key),V.int y.2):=by
     unfold aj at hz;rw [getElem?_map] at hz;obtain⟨y,h1,h2⟩:=Option.map_eq_some_iff.mp hz;exact⟨y,h1,h2.symm⟩
    obtain⟨c,v⟩:=y;have hlk:=aO (sd5 ()).nd (Ly hy);obtain⟨⟨c0,c1⟩,v0,v1⟩:=(sd5 ()).all c v hlk;obtain⟨x1,hx1,m1⟩:=gW nm c c0 (by rw [hnm];omega);obtain⟨x2,hx2,m2⟩:=gW nm v v0 (by rw [hnm];omega);have hil:i < kv'.length:=(Lb.mp hy).1;have hl5:(aj kt).length < sizeLine:=aJ (by rw [az];have:=td8.len;omega);have td9:=td8.put (hnn () x1 m1) (hnn () x2 m2);clear m1 m2;have htu:upd H5 dd (.frz ob (.dK (aj kv'))) td=none:=by rw [af ntd];exact e6.free hnt
    have hvv:cJ (aj kv') (.inl c)=some (.int v):=by rw [ao,hlk];rfl
    rw [show kV ((Sum.inl (c,v).1:Key),V.int (c,v).2).1=V.int c from rfl];exists td9;exists hlk;clear hz hy d7 r7 h7 kk td8 hnm;ac_rfl;refine jH (k:=.inl c) f8 hvv ?_;ac_rfl;refine bH (k:=.inl x1) t8 hl5 ?_;rw [aW];exact⟨_,_,rfl,e8.put htu,by rw [af nrt];exact r8,ag,td9 ()⟩
   ·rintro ob _ H8 ⟨v5',kt,rfl,e8,r8,t8,td8⟩;rw [az] at td8;have e9:=Ext.thaw d5 e8;have t9:upd H8 dd (.dK (aj kv')) td=some (.dK (aj kt)):=by rw [af ntd];exact t8
    generalize upd H8 dd (.dK (aj kv'))=H9 at e9 t9;have k':=kk () kt td H9 td8.nd (td8.ne (Ox.mpr (hne5 ()))) (by have:=td8.len;omega) td8.nn ht0 (e5.trans e9) t9;clear kk;ac_rfl
def k4(m:Nat)(wy x:Int):List (Int × Int):=((List.range m).map λ (k:Nat)=>((k:Int),if 0 < wy/\k=m - 1 then 0 else (k:Int)+1))++(if wy=2 then [((m:Int)+3,x)] else [])
def flp(tn:Int)(k:Int):Int:=if tn=0 then k else 5000 - k
def lng(m:Nat)(wy x tn:Int):List (Int × Int):=(k4 m wy x).map λ p=>(flp tn p.1,flp tn p.2)
theorem jS{tn a b:Int}(h:flp tn a=flp tn b):a=b:=by
 unfold flp at h
 split at h<;>omega
theorem kg(tn c:Int):∀ kv:List (Int × Int),aa (kv.map λ p=>(flp tn p.1,flp tn p.2)) (flp tn c)=(aa kv c).map (flp tn)
 | []=>rfl
 | p::kv=>by
  rw [LH]
  by_cases e:p.1=c
  ·rw [fJ e,fJ (p:=(flp tn p.1,flp tn p.2)) (by rw [e])];rfl
  ·rw [fK e,fK (p:=(flp tn p.1,flp tn p.2)) (λ z=>e (jS z)),kg tn c kv]
theorem lY(m:Nat)(wy x:Int):(k4 m wy x).map (·.1)=(List.range m).map (λ (k:Nat)=>(k:Int))++(if wy=2 then [(m:Int)+3] else []):=by
 unfold k4;rw [map_append,map_map];congr 1
 split<;>rfl
theorem jQ(m:Nat)(wy x:Int):((k4 m wy x).map (·.1)).Pairwise (· < ·):=by
 rw [lY,List.pairwise_append];refine⟨?_,?_,λ a ha b hb=>?_⟩
 ·rw [Ms];exact N4.imp λ h=>by omega
 ·split
  ·exact MS.mpr ⟨λ _ h=>absurd h Ld,.nil⟩
  ·exact .nil
 ·obtain⟨k,hk,rfl⟩:=Le.mp ha;have hk':=LF.mp hk;split at hb
  ·rw [Lq.mp hb];omega
  ·exact absurd hb Ld
theorem nM(m:Nat)(wy x:Int):NdK (k4 m wy x):=(jQ m wy x).imp λ h=>by omega
theorem kh(m:Nat)(wy x tn:Int):(lng m wy x tn).map (·.1)=((k4 m wy x).map (·.1)).map (flp tn):=by
 unfold lng;rw [map_map,map_map];rfl
theorem Gb(m:Nat)(wy x tn:Int):NdK (lng m wy x tn):=by
 unfold NdK;rw [kh,List.nodup_iff_pairwise_ne,pairwise_map];exact(jQ m wy x).imp λ h e=>by have:=jS e;omega
theorem xA(m:Nat)(wy x tn:Int):iW ((lng m wy x tn).map (·.1)):=by
 rw [kh]
 by_cases h:tn=0
 ·refine .inr (.inl ?_);rw [pairwise_map];exact(jQ m wy x).imp λ e=>by unfold flp;rw [if_pos h,if_pos h];omega
 ·refine .inr (.inr ?_);rw [pairwise_map];exact(jQ m wy x).imp λ e=>by unfold flp;rw [if_neg h,if_neg h];omega
theorem sM(m:Nat)(wy x tn:Int):(lng m wy x tn).length<=m+1:=by
 unfold lng k4;rw [length_map,length_append,length_map,length_range]
 split<;>simp
theorem oJ{m:Nat}{wy x tn:Int}{k:Nat}(hk:k < m):aa (lng m wy x tn) (flp tn (k:Int))=some (flp tn (if 0 < wy/\k=m - 1 then 0 else (k:Int)+1)):=by
 unfold lng;rw [kg,aO (nM m wy x) (v:=if 0 < wy/\k=m - 1 then 0 else (k:Int)+1)]
 ·rfl
 ·exact Ma _ (Le.mpr ⟨k,LF.mpr hk,rfl⟩)
theorem xy{m:Nat}{wy x tn:Int}(h:wy=2):aa (lng m wy x tn) (flp tn ((m:Int)+3))=some (flp tn x):=by
 unfold lng;rw [kg,aO (nM m wy x) (v:=x)]
 ·rfl
 ·unfold k4;rw [if_pos h];exact mem_append_right _ mem_cons_self
theorem sN{m:Nat}{wy x tn c:Int}(h:c∈(lng m wy x tn).map (·.1)):(∃ k:Nat,k < m/\c=flp tn (k:Int))\/(wy=2/\c=flp tn ((m:Int)+3)):=by
 rw [kh,lY] at h;obtain⟨y,hy,rfl⟩:=Le.mp h
 rcases LJ.mp hy with hy|hy
 ·obtain⟨k,hk,rfl⟩:=Le.mp hy;exact .inl ⟨k,LF.mp hk,rfl⟩
 ·split at hy
  ·rename_i e;rw [Lq.mp hy];exact .inr ⟨e,rfl⟩
  ·exact absurd hy Ld
def C8(m:Nat)(tn:Int):List Int:=(List.range m).map λ (k:Nat)=>flp tn (k:Int)
theorem Ci(m:Nat)(tn:Int):(C8 m tn).Nodup:=by
 unfold C8;rw [List.nodup_iff_pairwise_ne,pairwise_map];exact List.pairwise_lt_range.imp λ h e=>by have:=jS e;omega
theorem pw{m:Nat}{wy x tn:Int}(hw:0 < wy)(hm:0 < m):∀ n,n < m->Pth (aa (lng m wy x tn)) ((List.range (n+1)).map λ (k:Nat)=>flp tn (k:Int)) (flp tn (if n=m - 1 then 0 else (n:Int)+1))
 | 0,h=>by
  have:=oJ (wy:=wy) (x:=x) (tn:=tn) (k:=0) h;simp only [hw,true_and] at this;exact this
 | n+1,h=>by
  have ih:=pw (wy:=wy) (x:=x) (tn:=tn) hw hm n %[0|8];rw [Lm %[0|8]] at ih;have h1:=oJ (wy:=wy) (x:=x) (tn:=tn) (k:=n+1) h;simp only [hw,true_and] at h1;rw [OV,LG];exact ih.snoc h1
theorem xw{m:Nat}{wy x tn:Int}(hw:0 < wy)(hm:0 < m):eF (aa (lng m wy x tn)) (C8 m tn):=by
 obtain⟨n,rfl⟩:∃ n,m=n+1:=⟨m - 1,by omega⟩;have h:=pw (x:=x) (tn:=tn) hw hm n %[0|8];rw [Lo %[0|8]] at h
 have e:C8 (n+1) tn=flp tn ((0:Nat):Int)::((List.range n).map Nat.succ).map λ (k:Nat)=>flp tn (k:Int):=by
  unfold C8;rw [List.range_succ_eq_map,map_cons]
 refine⟨_,_,e,?_,by rw [←e];exact Ci _ _⟩;rw [←e];exact h
theorem sL{m:Nat}{wy x tn:Int}(hx:0<=x/\x < m){l:List Int}(h:eF (aa (lng m wy x tn)) l):∃ k:Nat,k < m/\flp tn (k:Int)∈l:=by
 obtain⟨c,t,rfl,_⟩:=id h;obtain⟨d,hd,hdl⟩:=h.mem Lj
 rcases sN (ak.mp (by rw [hd];rfl)) with ⟨k,hk,rfl⟩|⟨h2,rfl⟩
 ·exact⟨k,hk,Lj⟩
 ·rw [xy h2] at hd;have e:=Lu hd;refine⟨x.toNat,by omega,?_⟩;rw [show ((x.toNat:Nat):Int)=x by omega,e];exact hdl
theorem xx{m:Nat}{x tn:Int}(hx:0<=x/\x < m){l:List Int}(h:eF (aa (lng m 0 x tn)) l):False:=by
 obtain⟨k,hk,hm⟩:=sL hx h
 have up:∀ j:Nat,k+j<=m->flp tn ((k+j:Nat):Int)∈l:=by
  intro j
  induction j with
  | zero=>intro _;exact hm
  | succ j ih=>
   intro hj;obtain⟨d,h1,h2⟩:=h.mem (ih %[0|8]);rw [oJ %[0|8],Lm %[0|8]] at h1;rw [←Lu h1] at h2;have e:((k+j:Nat):Int)+1=((k+(j+1):Nat):Int):=by omega
   rw [e] at h2;exact h2
 have hM:=up (m - k) %[0|8];rw [show k+(m - k)=m by omega] at hM;obtain⟨d,h1,_⟩:=h.mem hM
 rcases sN (ak.mp (by rw [h1];rfl)) with ⟨j,hj,e⟩|⟨h2,_⟩
 ·have:=jS e;omega
 ·omega
theorem pq{m:Nat}{wy x tn:Int}(hw:0 < wy)(hm:0 < m)(hx:0<=x/\x < m){l:List Int}(h:eF (aa (lng m wy x tn)) l):l.Perm (C8 m tn):=by
 obtain⟨k,hk,hml⟩:=sL hx h;exact eh h (xw hw hm) hml (Le.mpr ⟨k,LF.mpr hk,rfl⟩)
theorem CI{kv:List (Int × Int)}(h:∀ l l',cU (aa kv) l->cU (aa kv) l'->l=l'):Few kv:=by
 intro Cl hr hn
 match Cl,hr,hn with
 | [],_,_=>simp
 | [_],_,_=>simp
 | a::b::Cl,hr,hn=>
  have e:=h a b (hr a (by simp)) (hr b (by simp));rw [LH,LH,LO] at hn;exact absurd (by rw [e];exact Lj) hn.1
theorem Cg{m:Nat}{wy x tn:Int}(hw:0<=wy)(hm:0 < m)(hx:0<=x/\x < m):Few (lng m wy x tn):=by
 refine CI λ l l' h h'=>?_
 by_cases e:wy=0
 ·subst e;exact(xx hx h.1).elim
 ·have p:=pq %[0|8] hm hx h.1;have p':=pq %[0|8] hm hx h'.1;exact gP h h' h.head_mem (p'.mem_iff.mpr (p.mem_iff.mp h.head_mem))
theorem mj{kv:List (Int × Int)}(h:kv.length < 64):Few kv:=by
 intro Cl hr hn
 have h1:=cn hn (b:=kv.map (·.1)) λ x hx=>by
  obtain⟨l,hl,rfl⟩:=Le.mp hx;obtain⟨d,h1,_⟩:=(hr l hl).1.mem (hr l hl).head_mem;exact ak.mp (by rw [h1];rfl)
 rw [Lc,Lc] at h1;omega
theorem fG(ns:List Int)(k m:Int)(h:0 < m):0<=bV ns k m/\bV ns k m < m:=⟨Md _ %[0|8],LZ _ h⟩
def m5(n:Nat):List (Int × Int):=(List.range n).map λ (k:Nat)=>((k:Int),(k:Int)+1)
theorem lX(n:Nat):(m5 n).map (·.1)=(List.range n).map λ (k:Nat)=>(k:Int):=by unfold m5;rw [map_map];rfl
theorem xF(n:Nat):aa (m5 n) (n:Int)=none:=by
 rw [aZ,lX];intro h;obtain⟨k,hk,e⟩:=Le.mp h;have:=LF.mp hk;omega
theorem xE(n:Nat):eP (aj (m5 n)) (.inl (n:Int)) (.int ((n:Int)+1))=aj (m5 (n+1)):=by
 rw [fU _ (xF n)];unfold m5;rw [List.range_succ,map_append];rfl
def pS(m:Nat)(wy:Int):List (Int × Int):=(List.range m).map λ (k:Nat)=>((k:Int),if 0 < wy/\k=m - 1 then 0 else (k:Int)+1)
theorem Gd(m:Nat):pS m 0=m5 m:=by
 unfold pS m5;refine List.map_congr_left λ k _=>?_;rw [if_neg %[0|8]]
theorem xC{m:Nat}{wy:Int}(hw:0 < wy)(hm:0 < m):eP (aj (m5 m)) (.inl ((m:Int) - 1)) (.int 0)=aj (pS m wy):=by
 rw [aW];congr 1;unfold bh;rw [if_pos (ak.mpr (by rw [lX];exact List.mem_map.mpr ⟨m - 1,List.mem_range.mpr %[0|8],by omega⟩))];unfold m5 pS;rw [map_map];refine List.map_congr_left λ k hk=>?_;have hk':=List.mem_range.mp hk
 show (if (k:Int)=(m:Int) - 1 then ((k:Int),(0:Int)) else ((k:Int),(k:Int)+1))=_
 by_cases e:k=m - 1
 ·rw [Lo %[0|8],Lo ⟨hw,e⟩]
 ·rw [Lm %[0|8],Lm (λ h=>e h.2)]
theorem xD(m:Nat)(wy:Int):(pS m wy).length=m:=by unfold pS;simp
theorem Ge{m:Nat}{wy:Int}(x:Int)(h:¬ wy=2):k4 m wy x=pS m wy:=by
 unfold k4 pS;rw [if_neg h,append_nil]
theorem xG{m:Nat}{wy:Int}(x:Int)(h:wy=2):eP (aj (pS m wy)) (.inl ((m:Int)+3)) (.int x)=aj (k4 m wy x):=by
 rw [fU]
 ·unfold k4 pS;rw [if_pos h]
 ·rw [aZ];intro hm;unfold pS at hm;rw [map_map] at hm;obtain⟨k,hk,e⟩:=List.mem_map.mp hm;have:=List.mem_range.mp hk;have e':(k:Int)=(m:Int)+3:=e;omega
theorem DR(m:Nat)(wy x:Int):lng m wy x 0=k4 m wy x:=by
 unfold lng;rw [show (λ p:Int × Int=>(flp 0 p.1,flp 0 p.2))=id from rfl,List.map_id]
theorem Jo{tn:Int}(h:¬ tn=0)(m:Nat)(wy x:Int):lng m wy x tn=(k4 m wy x).map λ p=>(5000 - p.1,5000 - p.2):=by
 unfold lng;refine List.map_congr_left λ p _=>?_;unfold flp;rw [if_neg h,if_neg h]
theorem wq{kv:List (Int × Int)}(hn:NdK kv){i:Nat}{p:Int × Int}(h:kv[i]? = some p):eP (aj ((kv.take i).map λ p=>(5000 - p.1,5000 - p.2))) (.inl (5000 - p.1)) (.int (5000 - p.2))=aj ((kv.take (i+1)).map λ p=>(5000 - p.1,5000 - p.2)):=by
 rw [fU,LW,h,LG]
 ·rfl
 ·rw [aZ,LV];intro hm;obtain⟨q,hq,e⟩:=Le.mp hm;have e':5000 - q.1=5000 - p.1:=e;have hlt:=(Lb.mp h).1;have h1:(kv.map (·.1)).Nodup:=hn;rw [←MU i kv,LG,L9] at h1;exact h1.2.2 q.1 (Le.mpr ⟨q,hq,rfl⟩) p.1 (Le.mpr ⟨p,Ly (i:=0) (by rw [NL];simpa using h),rfl⟩) %[0|8]
abbrev zj(K:PySem.W.Frag)(a:Addr)(ns:List Int)(p:Addr)(H:Hp)(Q:VK)(E:XK):Prop:=p=a/\SqL K H a (ns.map V.int)/\ns.length<=63/\∀ (m:Nat) (x:Int) (r:Addr) (H':Hp),(1001<=m/\m<=4095)->(0<=x/\x < m)->H r=none->Ext H H'->H' r=some (.dK (aj (lng m (bV ns 2 3) x (bV ns 4 2))))->Q (.ref r) H'
def HA(K:W.Frag)(a:Addr)(ns:List Int):Sp:=λ vs H Q E=>∃ (p:Addr),vs=[.ref p]/\(zj K a ns p H Q E)
theorem GU(K:W.Frag)(a:Addr)(ns:List Int)(p:Addr)(H:Hp)(Q:VK)(E:XK):HA K a ns [.ref p] H Q E=(zj K a ns p H Q E):=gD (f:=λ (p:Addr)=>[.ref p]) (λ _ _ h=>by cases h;exact rfl) p
theorem Gs(K:W.Frag)(a:Addr)(ns:List Int){vs:List V}{H:Hp}{Q:VK}{E:XK}(h:HA K a ns vs H Q E):vs.length=1:=gk h λ _=>rfl
theorem mN(T:Tx K mg t)(a:Addr)(ns:List Int):bj P w K mg base CX0 2 t.a__law_long t.d__law_long ["_law_script"] (HA K a ns):=by
 have G__law_draw:=%[dh|41] a ns;refine T.F__law_long.ok bw (λ vs H Q E h=>Gs _ _ _ h) (λ c A o s' H vs Q E hr h=>?_)
 ·obtain⟨_,rfl,rfl,hS,hl,kk⟩:=h;rename_i a;refine⟨_,%[%[1,bw,%[aN,%[0|2],%[_law_draw,%[%[0|0],%[%[0|2],%[%[0|2]|1]|1]|1]|3]|11]|4],%[%[2,bw,(@bc _ _)|4],%[%[LB,rfl,%[∅,T.z_range,%[%[1|0]|1],∅|31],%[3,bw|5],%[%[(aq hr.units),%[2|0],%[3|0],%[aN,%[3|0],%[0|2]|11],rfl|20]|10],(by intros;rfl)|16],%[%[4,bw,%[_law_draw,%[%[0|0],%[%[0|2],%[%[0|2]|1]|1]|1]|3]|4],%[%[%[m9,%[4|0],%[0|2],(ar _)|13],%[%[(aq hr.units),%[2|0],%[eI,%[1|0],%[0|2]|11],%[0|2],rfl|20]|10],(@av _)|14],%[%[%[(dm hr.units),%[4|0],%[0|2],(ar _)|13],%[%[(aq hr.units),%[2|0],%[aN,%[1|0],%[0|2]|11],%[_law_draw,%[%[0|0],%[%[0|2],%[%[1|0]|1]|1]|1]|3],rfl|20]|10],(@av _)|14],%[%[%[(dm hr.units),%[_law_draw,%[%[0|0],%[%[0|2],%[%[0|2]|1]|1]|1]|3],%[0|2],(ar _)|13],%[%[%[2|0]|12]|10],(@av _)|14],%[%[5,bw,(@bc _ _)|4],%[(@ia _ _ _ %[LB,rfl,(@jM _ _ _ _ %[2|0]),%[3,bw|5],%[%[(aq hr.units),%[5|0],%[eI,%[0|2],%[3|0]|11],%[eI,%[0|2],%[(aq hr.units),%[2|0],%[3|0],(λ _ _=>rfl)|33]|11],rfl|20]|10],(by intros;rfl)|16]),%[%[%[5|0]|12]|10]|9]|9]|9]|9]|9]|9]|9]|9]|9],?_⟩;rw [show start ["_law_script", "_law_many", "_law_found_here", "_law_k", "_law_way", "_law_turned"] [.ref a]=[some (.ref a),none,none,none,none,none] from rfl];clear G__law_draw;have w01:=fG ns 2 3 ⋯;have t01:=fG ns 4 2 ⋯;have m01:=fG ns 1 3095 ⋯;exists kk;ac_rfl;rw [cO];refine⟨hS,hl,⟨by decide,by decide⟩,by decide,?_⟩;ac_rfl;obtain⟨m,hm⟩:∃ m:Nat,1001+bV ns 1 3095=(m:Int):=⟨(1001+bV ns 1 3095).toNat,by omega⟩;have hm1:1001<=m:=by omega
  have hm2:m<=4095:=by omega
  rw [hm];clear hm m01;intro d H1 hd1 e1 h1;ac_rfl;refine⟨by omega,by omega,?_⟩;refine fW (λ i σ H'=>∃ (v3:Option V),σ=[some (.ref a),some (.int (m:Int)),some (.ref d),v3,none,none]/\Ext H H'/\H' d=some (.dK (aj (m5 i)))) ⟨none,rfl,e1,h1⟩ ?_ ?_
  ·rintro i _ H2 hi ⟨v3,rfl,e2,d2⟩;have hl5:(aj (m5 i)).length < sizeLine:=aJ (by rw [az];unfold m5;rw [length_map,length_range];omega);have hput:=xE i;exists hput;clear h1 kk;rw [Int.zero_add];ac_rfl;refine bH (k:=.inl (i:Int)) d2 hl5 ?_;rw [hput ()];exact⟨_,rfl,e2.put hd1,ag⟩
  ·rintro _ H2 ⟨v3,rfl,e2,d2⟩;rw [LI] at d2;have hS2:=e2.2 K a _ hS;clear h1 e1;ac_rfl;rw [cO];refine⟨hS2,hl,⟨by decide,by decide⟩,by decide,?_⟩;generalize bV ns 2 3=wy at w01 kk ⊢;simp! only [-jb];refine oN (λ σ' H'=>σ'=[some (.ref a),some (.int (m:Int)),some (.ref d),v3,some (.int wy),none]/\Ext H H'/\H' d=some (.dK (aj (pS m wy)))) (λ nx' hnx=>?_) ?_
   ·exists hnx
    by_cases hw:0 < wy
    ·have hl5:(aj (m5 m)).length < sizeLine:=aJ (by rw [az];unfold m5;rw [length_map,length_range];omega);ac_rfl;refine bH (k:=.inl ((m:Int) - 1)) d2 hl5 ?_;rw [xC hw %[0|8]];exact hnx () _ _ ⟨rfl,e2.put hd1,ag⟩
    ·have hw0:wy=0:=by omega
     subst hw0;have h6:=hnx () [some (.ref a),some (.int (m:Int)),some (.ref d),v3,some (.int 0),none] H2 ⟨rfl,e2,by rw [Gd];exact d2⟩;clear hnx;ac_rfl
   rintro _ H3 ⟨rfl,e3,d3⟩;have hS3:=e3.2 K a _ hS;clear d2 hS2;simp! only [-jb];refine oN (λ σ' H'=>∃ x:Int,σ'=[some (.ref a),some (.int (m:Int)),some (.ref d),v3,some (.int wy),none]/\Ext H H'/\H' d=some (.dK (aj (k4 m wy x)))/\0<=x/\x < m) (λ nx' hnx=>?_) ?_
   ·exists hnx
    by_cases hw:wy=2
    ·have hl5:(aj (pS m wy)).length < sizeLine:=aJ (by rw [az,xD];omega);subst hw;ac_rfl;rw [cO];have x01:=fG ns 3 (m:Int) %[0|8];refine⟨hS3,hl,⟨by decide,by decide⟩,by omega,?_⟩;ac_rfl;refine bH (k:=.inl ((m:Int)+3)) d3 hl5 ?_;rw [xG _ rfl];exact hnx () _ _ ⟨_,rfl,e3.put hd1,ag,x01⟩
    ·have h6:=hnx () [some (.ref a),some (.int (m:Int)),some (.ref d),v3,some (.int wy),none] H3 ⟨0,rfl,e3,by rw [Ge 0 hw];exact d3,by omega,by omega⟩;clear hnx;ac_rfl
   rintro _ H4 ⟨x,rfl,e4,d4,hx⟩;have hS4:=e4.2 K a _ hS;clear d3 hS3;ac_rfl;rw [cO];refine⟨hS4,hl,⟨by decide,by decide⟩,by decide,?_⟩;generalize bV ns 4 2=tn at t01 kk ⊢
   by_cases ht:tn=0
   ·subst ht;have k':=kk () m x d H4 ⟨hm1,hm2⟩ hx hd1 e4 (by rw [DR];exact d4);clear kk;ac_rfl
   ·have hnd:=nM m wy x
    have hlb:(k4 m wy x).length<=4100:=by
     have:=sM m wy x 0;rw [DR] at this;omega
    have k':=λ (_:Unit)=>kk () m x;have h1t:=λ (_:Unit)=>Jo ht m wy x;generalize k4 m wy x=kb at d4 hnd hlb h1t;exists hnd;clear kk;ac_rfl;intro tu H5 hu5 e5 h5;have d5:=e5.at d4;have hu0:H tu=none:=e4.free hu5;have ntd:tu ≠ d:=λ z=>by rw [z,d4] at hu5;cases hu5
    ac_rfl;refine pB (λ ob i σ H'=>∃ (v3:Option V),σ=[some (.ref a),some (.int (m:Int)),some (.ref d),v3,some (.int wy),some (.ref tu)]/\Ext (upd H4 d (.frz ob (.dK (aj kb)))) H'/\H' tu=some (.dK (aj ((kb.take i).map λ p=>(5000 - p.1,5000 - p.2))))) d5 (λ ob=>⟨v3,rfl,jT e5 _ _,by rw [af ntd];exact h5⟩) (λ ob i σ' H' ⟨_,_,e,_⟩=>e.at ag) ?_ ?_
    ·rintro ob i z _ H6 hz ⟨v3',rfl,e6,t6⟩ f6
     obtain⟨y,hy,rfl⟩:∃ y,kb[i]? = some y/\z=((Sum.inl y.1:Key),V.int y.2):=by
      unfold aj at hz;rw [getElem?_map] at hz;obtain⟨y,h1,h2⟩:=Option.map_eq_some_iff.mp hz;exact⟨y,h1,h2.symm⟩
     have hput:=wq (hnd ()) hy;have hvv:cJ (aj kb) (.inl y.1)=some (.int y.2):=by rw [ao,aO (hnd ()) (show (y.1,y.2)∈kb from Ly hy)];rfl
     have hl5:(aj ((kb.take i).map λ p=>(5000 - p.1,5000 - p.2))).length < sizeLine:=aJ (by rw [az,Lc,Mi];omega);have htu:upd H4 d (.frz ob (.dK (aj kb))) tu=none:=by rw [af ntd];exact hu5
     obtain⟨c,v⟩:=y;rw [show kV ((Sum.inl (c,v).1:Key),V.int (c,v).2).1=V.int c from rfl];exists hput;clear hz hy d5 h5 k';ac_rfl;refine jH (k:=.inl c) f6 hvv ?_;ac_rfl;refine bH (k:=.inl (5000 - c)) t6 hl5 ?_;rw [hput ()];exact⟨_,rfl,e6.put htu,ag⟩
    ·rintro ob _ H6 ⟨v3',rfl,e6,t6⟩;rw [az,Me] at t6;have e7:=Ext.thaw d4 e6;have t7:upd H6 d (.dK (aj kb)) tu=some (.dK (aj (kb.map λ p=>(5000 - p.1,5000 - p.2)))):=by rw [af ntd];exact t6
     generalize upd H6 d (.dK (aj kb))=H7 at e7 t7;have k2:=k' () tu H7 ⟨hm1,hm2⟩ hx hu0 (e4.trans e7) (by rw [h1t ()];exact t7);clear k';ac_rfl
theorem KG{n:Nat}(h:n<=9000):n<=sizeLine:=LU h ⋯
def rdS(hv:List (Int × Int))(x:Int):Int:=(aa hv x).getD x
theorem lR(s:Int->Int)(r:List (Int × Int))(p:Int × Int)(x:Int):cK s (r++[p]) x=if x=p.2 then cK s r p.1 else cK s r x:=by rw [gO];rfl
structure HvI(hv:List (Int × Int))(rows:List (Int × Int))(hv':List (Int × Int)):Prop where
 nd:NdK hv'
 len:hv'.length<=hv.length+rows.length
 val:∀ x,rdS hv' x=cK (rdS hv) rows x
 key:∀ x,(aa hv x).isSome=true->(aa hv' x).isSome=true
theorem HvI.put{hv rows hv':List (Int × Int)}(h:HvI hv rows hv')(p:Int × Int):HvI hv (rows++[p]) (bh hv' p.2 (rdS hv' p.1)):=by
 refine⟨bC h.nd _ _,?_,λ x=>?_,λ x hx=>?_⟩
 ·have:=dY hv' p.2 (rdS hv' p.1);have:=h.len;rw [Ln,MG];omega
 ·rw [lR,←h.val,←h.val];unfold rdS;rw [aX]
  by_cases e:x=p.2
  ·rw [Lo e,Lo e];rfl
  ·rw [Lm e,Lm e]
 ·rw [aX]
  by_cases e:x=p.2
  ·rw [Lo e];rfl
  ·rw [Lm e];exact h.key x hx
abbrev tP  (W:Addr) (hd:Addr) (H:Hp) (Q:VK) (E:XK):Prop:=∃ (B:Hp) (rows hv:List (Int × Int)),Ext B H/\B hd=none/\TwL B W rows/\H hd=some (.dK (aj hv))/\NdK hv/\hv.length+rows.length<=4900/\∀ (hv':List (Int × Int)) (H':Hp),HvI hv rows hv'->Ext B H'->H' hd=some (.dK (aj hv'))->Q (.ref hd) H'
def zI  : Sp:=λ vs H Q E=>∃ (W:Addr) (hd:Addr),vs=[.ref W,.ref hd]/\(tP  W hd H Q E)
theorem tG  (W:Addr) (hd:Addr) (H:Hp) (Q:VK) (E:XK):zI  [.ref W,.ref hd] H Q E=(tP  W hd H Q E):=pR (f:=λ (W:Addr) (hd:Addr)=>[.ref W,.ref hd]) (λ _ _ _ _ h=>by cases h;exact⟨rfl,rfl⟩) W hd
theorem Ck  {vs:List V}{H:Hp}{Q:VK}{E:XK}(h:zI  vs H Q E):vs.length=2:=qV h λ _ _=>rfl
theorem iI(T:Tx K mg t):bj P w K mg base CX0 1 t.a__law_run t.d__law_run ["_law_rows", "_law_held"] zI:=by
 refine T.F__law_run.ok gg (λ vs H Q E h=>Ck h) (λ c A o s' H vs Q E hr h=>?_)
 ·obtain⟨W,hd,rfl,B,rows,hv,eB,hBh,tw,hh,hnd,hl,k⟩:=h;refine⟨_,%[%[LB,rfl,%[%[0|0]|21],(%[(2),rfl,%[%[2,gg|5],%[%[3,gg|5],(@br _),∅|17],∅|17],∅,∅|28].mono λ _ _ _ _ h=>dq h),%[%[(aq hr.units),%[1|0],%[3|0],%[(aq hr.units),%[1|0],%[2|0],%[2|0],⟨by rfl,by rfl,by rfl,by rfl⟩|39],rfl|20]|10],(by intros;rfl)|16],%[%[%[1|0]|12]|10]|9],?_⟩;rw [show start ["_law_rows", "_law_held", "_law_first", "_law_last"] [.ref W,.ref hd]=[some (.ref W),some (.ref hd),none,none] from rfl];obtain⟨ys,W0,al⟩:=tw;have WH:=eB.at W0;exists al;exists k;ac_rfl;refine b9 (xs:=ys) (λ i σ H'=>∃ (v2 v3:Option V) (hv':List (Int × Int)),σ=[some (.ref W),some (.ref hd),v2,v3]/\Ext B H'/\H' hd=some (.dK (aj hv'))/\HvI hv (rows.take i) hv') ⟨none,none,hv,rfl,eB,hh,by rw [NN];exact⟨hnd,Li _,λ _=>rfl,λ _ h=>h⟩⟩ (λ i σ H' _ ⟨_,_,_,_,e,_⟩=>e.at W0) ?_ ?_
  ·rintro i y _ H3 hy ⟨v2,v3,hv',rfl,e3,h3,hi⟩;have hi2:i < rows.length:=by have:=(Lb.mp hy).1;rw [(al ()).1] at this;exact this
   obtain⟨p,hp⟩:∃ p,rows[i]? = some p:=⟨_,K1 hi2⟩;obtain⟨q,rfl,hq⟩:=((al ()).2 i p y hp hy).ext e3;have hput:=hi.put p;have htk:rows.take (i+1)=rows.take i++[p]:=by rw [LW,hp];rfl
   rw [←htk] at hput;have hl5:(aj hv').length < sizeLine:=aJ (by rw [az];have:=hi.len;rw [Mi] at this;omega);obtain⟨pa,pb⟩:=p;replace hq:H3 q=some (.tup [.int pa,.int pb]):=hq
   have hgv:((aa hv' pa).map V.int).getD (.int pa)=.int (rdS hv' pa):=by unfold rdS;cases aa hv' pa<;>rfl
   exists hput;clear hy hp htk hi WH hh k;ac_rfl;refine eQ h3 ?_;ac_rfl;refine g6 (k:=.inl pa) h3 ?_;rw [ao,hgv];ac_rfl;refine bH (k:=.inl pb) h3 hl5 ?_;rw [aW];exact⟨_,_,_,rfl,e3.put hBh,ag,hput ()⟩
  ·rintro _ H3 ⟨v2,v3,hv',rfl,e3,h3,hi⟩;rw [(al ()).1,Me] at hi;have k':=k () hv' H3 hi e3 h3;clear k hh WH;ac_rfl
theorem AN:rdS []=id:=by funext x;rfl
abbrev zi  (W:Addr) (d:Addr) (H:Hp) (Q:VK) (E:XK):Prop:=∃ (rows kv:List (Int × Int)),TwL H W rows/\rows.length<=4300/\H d=some (.dK (aj kv))/\kv.length<=4200/\(∀ x,x ≠ -1->cK id rows x=ck kv x)/\∀ H',Ext H H'->Q (.bl true) H'
def Hz  : Sp:=λ vs H Q E=>∃ (W:Addr) (d:Addr),vs=[.ref W,.ref d]/\(zi  W d H Q E)
theorem yS  (W:Addr) (d:Addr) (H:Hp) (Q:VK) (E:XK):Hz  [.ref W,.ref d] H Q E=(zi  W d H Q E):=pR (f:=λ (W:Addr) (d:Addr)=>[.ref W,.ref d]) (λ _ _ _ _ h=>by cases h;exact⟨rfl,rfl⟩) W d
theorem Gr  {vs:List V}{H:Hp}{Q:VK}{E:XK}(h:Hz  vs H Q E):vs.length=2:=qV h λ _ _=>rfl
theorem kJ(T:Tx K mg t):bj P w K mg base CX0 2 t.a__law_leave t.d__law_leave ["_law_rows", "_law_found_here"] Hz:=by
 have G__law_run:=%[iI|41];refine T.F__law_leave.ok dU (λ vs H Q E h=>Gr h) (λ c A o s' H vs Q E hr h=>?_)
 ·obtain⟨W,d,rfl,rows,kv,tw,hl,hd,hkl,hrun,k⟩:=h;refine⟨_,%[%[2,dU,%[_law_run,%[%[0|0],%[(@bc _ _)|1]|1]|3]|4],%[%[LB,rfl,%[%[nH,%[(iM rfl),∅,T.z_list,nofun,%[%[2|0]|1],⋯,⋯,∅,∅|32],%[(iM rfl),∅,T.z_list,nofun,%[%[1|0]|1],⋯,⋯,∅,∅|32]|11]|21],%[3,dU|5],%[%[(PW.pt (@lp _ _ _ _ _ _ _ %[(cN hr.units),%[3|0],(@m8 _ _ _ _ _ _ eR %[0|2]),(ar _)|13] (@hV _ _ _ _ %[(cN hr.units),%[(aq hr.units),%[2|0],%[3|0],%[3|0],⟨by rfl,by rfl,by rfl,by rfl⟩|39],%[(aq hr.units),%[1|0],%[3|0],%[3|0],⟨by rfl,by rfl,by rfl,by rfl⟩|39],(ar _)|13]))),%[%[(@eu _ _ _ _)|12]|10],(@av _)|14]|10],(by intros;rfl)|16],%[%[(@eu _ _ _ _)|12]|10]|9]|9],?_⟩;rw [show start ["_law_rows", "_law_found_here", "_law_held", "_law_cell"] [.ref W,.ref d]=[some (.ref W),some (.ref d),none,none] from rfl];clear G__law_run;exists hrun;exists k;ac_rfl;intro hh H1 hh1 e1 h1;ac_rfl;rw [tG];refine⟨H,rows,[],e1,hh1,tw,h1,Mg,by simp;omega,λ hv' H2 hi e2 h2=>?_⟩;have d2:=e2.at hd;have hvl:hv'.length<=4300:=by have:=hi.len;simp at this;omega
  have hval:∀ x,x ≠ -1->rdS hv' x=ck kv x:=λ x hx=>by rw [hi.val,AN];exact hrun () x hx
  exists hval;clear h1 hi;ac_rfl;refine lL h2 (aA (by rw [az];omega)) ?_;intro l1 H3 hl3 e3 h3;have h2_3:=e3.at h2;have d3:=e3.at d2;clear h2 d2;ac_rfl;refine lL d3 (aA (by rw [az];omega)) ?_;intro l2 H4 hl4 e4 h4;have h2_4:=e4.at h2_3;have d4:=e4.at d3;have h3_4:=e4.at h3;have key:∀ kv:List (Int × Int),(aj kv).map (λ z=>kV z.1)=(kv.map (·.1)).map V.int:=λ kv=>by unfold aj;rw [map_map,map_map];rfl
  rw [key] at h3_4 h4;clear h2_3 d3 h3;ac_rfl;refine⟨KG %[0|8],?_⟩;intro l3 H5 hl5 e5 h5;rw [←LG] at h5;have h2_5:=e5.at h2_4;have d5:=e5.at d4;have e05:=e2.trans (e3.trans (e4.trans e5));generalize hv'.map (·.1)++kv.map (·.1)=cs at h5;clear h2_4 d4 h3_4 h4;ac_rfl;refine b9 (xs:=cs.map V.int) (λ i σ H'=>∃ v3:Option V,σ=[some (.ref W),some (.ref d),some (.ref hh),v3]/\H'=H5) ⟨none,rfl,rfl⟩ (λ i σ H' _ ⟨_,_,e⟩=>by rw [e];exact h5) ?_ ?_
  ·rintro i x _ _ hx ⟨v3,rfl,rfl⟩;rw [Lr] at hx;obtain⟨c,_,rfl⟩:=Lk.mp hx
   have g1:((aa hv' c).map V.int).getD (.int c)=.int (rdS hv' c):=by unfold rdS;cases aa hv' c<;>rfl
   have g2:((aa kv c).map V.int).getD (.int c)=.int (ck kv c):=by unfold ck;cases aa kv c<;>rfl
   clear hx k
   by_cases hc:c=-1
   ·subst hc;ac_rfl;exact⟨_,rfl⟩
   ·have hv:=hval () c hc;ac_rfl;refine eQ h2_5 ?_;ac_rfl;refine g6 (k:=.inl c) h2_5 ?_;rw [ao,g1,hv];ac_rfl;refine eQ d5 ?_;ac_rfl;refine g6 (k:=.inl c) d5 ?_;rw [ao,g2];ac_rfl;exact⟨_,rfl⟩
  ·rintro _ _ ⟨v3,rfl,rfl⟩;have k':=k () _ e05;clear k;ac_rfl
theorem tW(cs:List Int)(a:Int × Int)(h:1<=a.1):cL cs (bF a)=cL cs a:=by
 unfold cL
 show (cs.flatMap λ c=>(List.range a.1.toNat).map λ (n:Nat)=>c+(n:Int) * (if a.1 > 1 then a.2 else 0))=_
 by_cases h1:a.1 > 1
 ·rw [Lo h1]
 ·rw [Lm h1];have e:a.1.toNat=1:=by omega
  rw [e];refine Mt (λ f=>cs.flatMap f) (funext λ c=>?_);simp
theorem mf:∀ (axs:List (Int × Int)) (cs:List Int),(∀ a∈axs,(1:Int)<=a.1)->(axs.map bF).foldl cL cs=axs.foldl cL cs
 | [],cs,_=>rfl
 | a::r,cs,h=>by
  rw [LH,Od,Od,tW cs a (h a Lj),mf r _ λ b hb=>h b (Lg _ hb)]
theorem qH(f:Int)(axs:List (Int × Int))(h:∀ a∈axs,(1:Int)<=a.1):bI f (axs.map bF)=bI f axs:=mf axs [f] h
theorem qE(axs:List (Int × Int)):(axs.map bF).map (λ a=>a.1)=axs.map λ a=>a.1:=by rw [LV];rfl
theorem lP:∀ l:List (Int × Int),(∀ a∈l,(1:Int)<=a.1)->gs (l.map bF)=gs l/\gu (l.map bF)=gu l
 | [],_=>⟨rfl,rfl⟩
 | a::r,h=>by
  obtain⟨i1,i2⟩:=lP r λ b hb=>h b (Lg _ hb);have ha:=h a Lj
  have e:((bF a).1 - 1) * (bF a).2=(a.1 - 1) * a.2:=by
   show (a.1 - 1) * (if a.1 > 1 then a.2 else 0)=_
   split
   ·rfl
   ·have:a.1=1:=by omega
    rw [this];simp
  rw [LH,fk,fm,fk,fm,e,i1,i2];exact⟨rfl,rfl⟩
theorem vX(ms ws:List Int):(ms.map V.int).zip (ws.map V.int)=(ms.zip ws).map λ z=>(V.int z.1,V.int z.2):=by
 rw [List.zip_map];rfl
theorem G1{H:Hp}{ms ws:List Int}{ts:List V}(al:Al (λ z y=>Hk z y H) ((ms.map V.int).zip (ws.map V.int)) ts):Al (qZ H) (axL (ms.zip ws)) ts:=by
 rw [vX] at al;refine⟨by rw [al.1];unfold axL;rw [length_map,length_map],λ i z y hz hy=>?_⟩;unfold axL at hz;rw [getElem?_map] at hz;obtain⟨x,hx,rfl⟩:=Option.map_eq_some_iff.mp hz;obtain⟨p,hp,hq⟩:=al.2 i (V.int x.1,V.int x.2) y (by rw [getElem?_map,hx];rfl) hy;exact⟨p,hp,hq⟩
theorem o6(vals ws:List Int)(n:Nat)(hv:vals.length=n)(hw:ws.length=n):∀ i:Nat,i<=n->vF vals (((List.range n).map λ (k:Nat)=>(k:Int)).take i) (ws.take i)=ws.take i++vals.drop i
 | 0,_=>rfl
 | i+1,hi=>by
  have ih:=o6 vals ws n hv hw i %[0|8];have hc:((List.range n).map λ (k:Nat)=>(k:Int))[i]? = some (i:Int):=by rw [Lr,List.getElem?_range %[0|8]];rfl
  have hwi:ws[i]? = some ws[i]:=K1 %[0|8];have hl:(ws.take i).length=i:=by rw [Mi];omega
  rw [lS hc hwi,ih,LI,List.set_append,Lm %[0|8],hl,Nat.sub_self,List.drop_eq_getElem_cons (show i < vals.length by omega),List.set_cons_zero,LW,hwi,OI];rfl
theorem AO{vals ws:List Int}(h:ws.length=vals.length):vF vals ((List.range vals.length).map λ (k:Nat)=>(k:Int)) ws=ws:=by
 have:=o6 vals ws vals.length rfl h vals.length (Li _);rw [Mx (by rw [Lc,Mo];exact Li _),Mx %[0|8],N6 (Li _),NB] at this;exact this
theorem nW(n:Nat)(h:1<=n):bI 0 ([((n:Int),(1:Int))].map bF)=(List.range n).map λ (k:Nat)=>(k:Int):=by
 rw [qH 0 _ (λ a ha=>by rw [Lq.mp ha];show (1:Int)<=n;omega)]
 show cL [0] ((n:Int),(1:Int))=_
 unfold cL;simp
abbrev tO(C:Addr)(p:Addr)(H:Hp)(Q:VK)(E:XK):Prop:=∃ n:Int,H p=some (.lst [.int n])/\1<=n/\n<=4096/\∀ (x:Addr) (H':Hp),Ext H H'->bQ C H' x n 0 ([(n,1)].map bF)->Q (.ref x) H'
def zH(C:Addr):Sp:=λ vs H Q E=>∃ (p:Addr),vs=[.ref p,.non]/\(tO C p H Q E)
theorem CN(C:Addr)(p:Addr)(H:Hp)(Q:VK)(E:XK):zH C [.ref p,.non] H Q E=(tO C p H Q E):=gD (f:=λ (p:Addr)=>[.ref p,.non]) (λ _ _ h=>by cases h;exact rfl) p
theorem Cj(C:Addr){vs:List V}{H:Hp}{Q:VK}{E:XK}(h:zH C vs H Q E):vs.length=2:=gk h λ _=>rfl
theorem wU(T:Tx K mg t):bj P w K mg base CX0 8 t.a_whole t.d_whole ["sizes", "room"] (zH t.a_View):=by
 have G_count_of:=%[iH|41];have G_paces_of:=%[n0|41];have G_View___init__:=%[gL|41];refine T.F_whole.ok tF (λ vs H Q E h=>Cj _ h) (λ c A o s H vs Q E hr h=>?_)
 ·obtain⟨p,rfl,n,hp,n1,n2,k⟩:=h;refine⟨_,%[%[2,tF,(@pd _ _ _ _ _ _ _ _ %[EB,%[1|0],(@rX _ _ _),(ar _)|13] %[count_of,%[%[0|0]|1]|3] %[1|0])|4],%[%[%[T.mk_View,G_View___init__,(hr.mono ⋯),∅,T.m_View,T.b_View___init__,.nil,eA,%[%[2|0],%[%[0|2],%[(@qe _ _ _ _ _ _ _ _ rfl ∅ T.z_list ∅ T.z_zip %[%[0|0],%[%[paces_of,%[%[0|0]|1]|3]|1]|1] ∅ ∅ ∅ ∅)|1]|1]|1],⋯,∅,∅|40]|12]|10]|9],?_⟩;rw [show start ["sizes", "room", "cells"] [.ref p,.non]=[some (.ref p),some (.non),none] from rfl];clear G_count_of G_paces_of G_View___init__;have hsz:gG [n]:=⟨by simp,λ m hm=>by rw [Lq.mp hm];omega⟩;have hp':H p=some (.lst (([n]:List Int).map V.int)):=hp;have hpr:aD [n]=n:=by show n * 1=n;omega
  have hpa:dk [n]=[1]:=rfl;have hax:jD [(n,(1:Int))]:=⟨by simp,λ a ha=>by rw [Lq.mp ha];show 1<=n/\n<=1000000000;omega⟩
  have hv:sv n 0 [(n,(1:Int))]:=by
   obtain⟨g1,g2⟩:=lP [(n,(1:Int))] λ a ha=>(hax.2 a ha).1;refine⟨hax,n1,by omega,?_,?_⟩
   ·rw [g1,fk];show 0<=0+(min 0 ((n - 1) * 1)+0);omega
   ·rw [g2,fm];show 0+(max 0 ((n - 1) * 1)+0) < n;omega
  exists k;clear hp;simp! only [↓mz,↓DQ,↓rF,↓vq,↓yu];intro q H1 hq1 e1 h1;have hp1:=e1.at hp';clear hq1 hp';ac_rfl;rw [Iv];intro D ts H2 hD e2 h2 al2;have t2:Al (qZ H2) (axL [(n,(1:Int))]) ts:=G1 (ms:=[n]) (ws:=[1]) al2;clear hD al2;ac_rfl;intro x dx H3 hx hdx hne e3 h3 h3';rw [vm];refine⟨dx,[(n,1)],h3,dC.ext ⟨ts,h2,t2⟩ e3,hv,λ H4 D2 e4 hD2 hx4 tt4=>?_⟩;have k':=k () x H4 (e1.trans (e2.trans (e4 H2 e3 hx))) ⟨dx,D2,hx4,tt4⟩;clear k;ac_rfl
def ixP(n:Nat)(c:Int):Nat:=if c=-1 then n else c.toNat
theorem yJ{n:Nat}{c:Int}(h:-1<=c/\c < n):ixP n c < n+1:=by unfold ixP;split<;>omega
theorem yK{n:Nat}{c:Int}(h:-1<=c/\c < n):ixN (n+1) c=some (ixP n c):=by
 unfold ixN ixP
 by_cases e:c=-1
 ·subst e;rw [Lm ⋯,Lo rfl,Lo %[0|8]];congr 1;omega
 ·rw [Lo %[0|8],Lm e,Lo %[0|8]]
theorem GG{n:Nat}{c:Int}(h:-1<=c/\c < n){vv:List Int}(hl:vv.length=n+1):atI (vv.map V.int) c=some (.int (vv.getD (ixP n c) 0)):=by
 unfold atI;rw [length_map,hl,yK h]
 show (vv.map V.int)[ixP n c]? = _
 have:=yJ h;rw [Lr,K1 %[0|8],LL,K1 %[0|8]];rfl
theorem Cs{n:Nat}{c d:Int}(hc:-1<=c/\c < n)(hd:-1<=d/\d < n)(h:ixP n c=ixP n d):c=d:=by
 unfold ixP at h
 split at h<;>split at h<;>omega
def st0(vals:List Int)(x:Int):Int:=if x=-1 then 0 else vals.getD x.toNat 0
structure VvI(vals:List Int)(rows:List (Int × Int))(vv:List Int):Prop where
 len:vv.length=vals.length+1
 val:∀ x:Int,-1<=x->x < vals.length->vv.getD (ixP vals.length x) 0=cK (st0 vals) rows x
theorem VvI.ini(vals:List Int):VvI vals [] (vals++[0]):=by
 refine⟨by simp,λ x h1 h2=>?_⟩
 show _=st0 vals x
 unfold st0 ixP
 by_cases e:x=-1
 ·rw [Lo e,Lo e];simp [List.getD]
 ·rw [Lm e,Lm e,LL,L3 %[0|8],←LL]
theorem VvI.put{vals:List Int}{rows:List (Int × Int)}{vv:List Int}(h:VvI vals rows vv){p:Int × Int}(h1:-1<=p.1/\p.1 < vals.length)(h2:-1<=p.2/\p.2 < vals.length):VvI vals (rows++[p]) (vv.set (ixP vals.length p.2) (vv.getD (ixP vals.length p.1) 0)):=by
 refine⟨by rw [OW];exact h.len,λ x g1 g2=>?_⟩;rw [lR,←h.val _ h1.1 h1.2,←h.val x g1 g2];have hl:=yJ h2
 by_cases e:x=p.2
 ·rw [Lo e,e,LL,N5 (by rw [h.len];omega)];rfl
 ·rw [Lm e,LL,Ot (λ z=>e (Cs h2 ⟨g1,g2⟩ z).symm),←LL]
def eK(rows:List (Int × Int))(n:Nat):Prop:=∀ p∈rows,(-1<=p.1/\p.1 < n)/\(-1<=p.2/\p.2 < n)
structure jd(vals:List Int)(rows:List (Int × Int))(ws:List Int):Prop where
 len:ws.length=vals.length
 val:∀ x:Int,0<=x->x < vals.length->ws.getD x.toNat 0=cK (st0 vals) rows x
theorem VvI.left{vals:List Int}{rows:List (Int × Int)}{vv:List Int}(h:VvI vals rows vv):jd vals rows (vv.take vals.length):=by
 refine⟨by rw [length_take,h.len];omega,λ x h1 h2=>?_⟩;rw [←h.val x %[0|8] h2,getD_eq_getElem?_getD,List.getElem?_take_of_lt %[0|8],←getD_eq_getElem?_getD];unfold ixP;rw [if_neg %[0|8]]
abbrev tQ(CS:Addr)(s:Addr)(W:Addr)(H:Hp)(Q:VK)(E:XK):Prop:=∃ (l:Addr) (vals:List Int) (rows:List (Int × Int)),bO CS H s l vals/\1<=vals.length/\vals.length<=4096/\TwL H W rows/\l ≠ W/\eK rows vals.length/\∀ (ws:List Int) (H':Hp),jd vals rows ws->(∀ H0,Ext H0 H->H0 l=none->Ext H0 H')->(∀ b o,b ≠ l->H b=some o->H' b=some o)->H' l=some (.lst (ws.map V.int))->Q .non H'
def zJ(CS:Addr):Sp:=λ vs H Q E=>∃ (s:Addr) (W:Addr),vs=[.ref s,.ref W]/\(tQ CS s W H Q E)
theorem tH(CS:Addr)(s:Addr)(W:Addr)(H:Hp)(Q:VK)(E:XK):zJ CS [.ref s,.ref W] H Q E=(tQ CS s W H Q E):=pR (f:=λ (s:Addr) (W:Addr)=>[.ref s,.ref W]) (λ _ _ _ _ h=>by cases h;exact⟨rfl,rfl⟩) s W
theorem Cm(CS:Addr){vs:List V}{H:Hp}{Q:VK}{E:XK}(h:zJ CS vs H Q E):vs.length=2:=qV h λ _ _=>rfl
theorem iG(T:Tx K mg t):bj P w K mg base CX0 9 t.a_run_rows t.d_run_rows ["store", "rows"] (zJ t.a_Store):=by
 have G_Store_all_values:=%[bA|41];have G_Store_put:=%[mO|41];have G_whole:=%[wU|41];refine T.F_run_rows.ok cP (λ vs H Q E h=>Cm _ h) (λ c A o s' H vs Q E hr h=>?_)
 ·obtain⟨s,W,rfl,l,vals,rows,so,hv1,hv4,tw,nlW,hin,k⟩:=h;have c4:=T.cl_Store;have m1:=dE l (m := "all_values") nofun;have m2:=dE l (m := "put") nofun;obtain⟨dx,hs⟩:=so.ob;have hfl:=so.fl;refine⟨_,%[%[2,cP,%[%[0|0],T.cl_Store,T.mt_Store_all_values,G_Store_all_values,(hr.mono ⋯),T.b_Store_all_values,.nil,eA,∅|34]|4],%[%[3,cP,%[len,aK,%[%[2|0]|1]|6]|4],%[%[%[Ls,LN,LM,aY,%[2|0],%[%[0|2]|1],∅,∅,∅,∅,∅|22],∅|19],%[%[LB,rfl,%[%[1|0]|21],(%[(2),rfl,%[%[4,cP|5],%[%[5,cP|5],(@br _),∅|17],∅|17],∅,∅|28].mono λ _ _ _ _ h=>dq h),%[(@yD _ _ _ _ _ _ %[gm,%[2|0],%[4|0],(λ _ _=>rfl)|15] (@yG _ _ _ _ _ _ _ %[2|0] %[5|0] oX (by intros;rfl)) ∅ ∅ ∅)|10],(by intros;rfl)|16],%[%[(@o8 _ _ _ _ _ _ _ _ _ _ _ _ _ _ _ _ _ _ _ _ %[0|0] T.cl_Store T.mt_Store_put G_Store_put (hr.mono ⋯) T.b_Store_put .nil eA %[(@sG _ _ _ _ _ _ _ _ _ _ _ _ _ _ _ _ G_whole (hr.mono ⋯) ∅ T.m_whole T.F_whole.kp T.b_whole_1 (.cons (show aU V.non Value.none from rfl) .nil) eA %[%[%[%[3|0]|1]|25]|1] ⋯ ∅ ∅),%[%[zr,%[2|0],(@eT _),(@eS _ _ _ %[3|0])|37]|1]|1] ∅ ∅ ∅),∅|19]|10]|9]|9]|9]|9],?_⟩;rw [show start ["store", "rows", "values", "many", "origin", "cell"] [.ref s,.ref W]=[some (.ref s),some (.ref W),none,none,none,none] from rfl];clear G_Store_all_values G_Store_put G_whole;obtain⟨ys,W0,al⟩:=tw;exists al;exists k;exists so;ac_rfl;rw [km];refine⟨l,vals,so (),hv4,λ r H1 hr1 e1 h1=>?_⟩;have W1:=e1.at W0;have hs1:=e1.at hs;have hfl1:=e1.at hfl;ac_rfl;refine⟨aJ %[0|8],?_⟩;have e2:Ext H (upd H1 r (.lst (vals.map V.int++[.int 0]))):=e1.put hr1;have h2:upd H1 r (.lst (vals.map V.int++[.int 0])) r=some (.lst ((vals++[0]).map V.int)):=by rw [ag,LG];rfl
  generalize upd H1 r (.lst (vals.map V.int++[.int 0]))=H2 at e2 h2 ⊢;have W2:=e2.at W0;have vi0:=VvI.ini vals;clear h1 W1 hs1 hfl1;exists vi0;ac_rfl;refine b9 (xs:=ys) (λ i σ H'=>∃ (v4 v5:Option V) (vv:List Int),σ=[some (.ref s),some (.ref W),some (.ref r),some (.int (vals.length:Int)),v4,v5]/\Ext H H'/\H' r=some (.lst (vv.map V.int))/\VvI vals (rows.take i) vv) ⟨none,none,vals++[0],rfl,e2,h2,by rw [NN];exact vi0 ()⟩ (λ i σ H' _ ⟨_,_,_,_,e,_⟩=>e.at W0) ?_ ?_
  ·rintro i y _ H3 hy ⟨v4,v5,vv,rfl,e3,h3,vi⟩;have hi:i < rows.length:=by have:=(Lb.mp hy).1;rw [(al ()).1] at this;exact this
   obtain⟨p,hp⟩:∃ p,rows[i]? = some p:=⟨_,K1 hi⟩;obtain⟨q,rfl,hq⟩:=((al ()).2 i p y hp hy).ext e3;obtain⟨g1,g2⟩:=hin p (Ly hp);have htk:rows.take (i+1)=rows.take i++[p]:=by rw [LW,hp];rfl
   have vi2:=vi.put g1 g2;rw [←htk] at vi2;have hat:=GG g1 vi.len;have hix:ixN vv.length p.2=some (ixP vals.length p.2):=by rw [vi.len];exact yK g2
   obtain⟨pa,pb⟩:=p;replace hq:H3 q=some (.tup [.int pa,.int pb]):=hq;replace hat:atI (vv.map V.int) pa=_:=hat;replace hix:ixN vv.length pb=_:=hix;exists vi2;clear hy hp htk vi h2 W2 vi0 g1 g2 hin;ac_rfl;exact⟨_,_,_,rfl,e3.put hr1,by rw [←pk],vi2 ()⟩
  ·rintro _ H3 ⟨v4,v5,vv,rfl,e3,h3,vi⟩;rw [(al ()).1,Me] at vi;have lb:=vi.left;have hvl:=vi.len;have hs3:=e3.at hs;have hfl3:=e3.at hfl;exists lb;clear h2 W2 vi0 vi;ac_rfl;intro n1 H4 _ e4 h4;have e04:=e3.trans e4;have h3_4:=e4.at h3;have hs4:=e4.at hs3;clear h3 hs3 hfl3;ac_rfl;rw [CN];refine⟨(vals.length:Int),h4,by omega,by omega,λ x H5 e5 vx=>?_⟩;have e05:=e04.trans e5;have h3_5:=e5.at h3_4;have hs5:=e5.at hs4;exists vx;clear h3_4 hs4 h4;ac_rfl;rw [ki _ _ (show (0:Int)<=(vals.length:Int) by omega),LI,←List.map_take];generalize vv.take vals.length=ws at lb ⊢;intro p6 H6 hp6 e6 h6;have e06:=e05.trans e6;have hs6:=e6.at hs5;have npl:p6 ≠ l:=λ z=>by rw [z,e05.at hfl] at hp6;cases hp6
   have so6:=(so ()).ext e06;have vx6:=(vx ()).ext e6;have wc:=nW vals.length hv1;have hwl:ws.length=vals.length:=(lb ()).len;have wax:jD ([((vals.length:Int),(1:Int))].map bF):=jD.kept ⟨by simp,λ a ha=>by rw [Lq.mp ha];show (1:Int)<=vals.length/\(vals.length:Int)<=1000000000;omega⟩
   have wpr:aD (([((vals.length:Int),(1:Int))].map bF).map λ a=>a.1)=(vals.length:Int):=by
    rw [qE];show (vals.length:Int) * 1=_;omega
   exists wpr;exists wc;exists so6;exists vx6;exists wax;exists hwl;clear vx h3_5 hs5 hvl;ac_rfl;rw [CO];refine⟨l,vals,_,0,_,ws,so6 (),vx6 (),wax (),rfl,hv4,by rw [wpr ()];omega,?_,h6,npl,by rw [wpr (),hwl ()],λ H7 q1 q2 h7=>?_⟩
   ·rw [wc ()];intro c hc;obtain⟨j,hj,rfl⟩:=Le.mp hc;have:=LF.mp hj;omega
   rw [wc (),AO (hwl ())] at h7;have k':=k () ws H7 (lb ()) (λ H0 a1 a2=>q1 H0 (a1.trans e06) a2) (λ b o hb hbo=>q2 b o hb (e06.at hbo)) h7;clear k q1 q2 h7 hs6 h6;ac_rfl
abbrev yZ  (W:Addr) (H:Hp) (Q:VK) (E:XK):Prop:=∃ rows:List (Int × Int),TwL H W rows/\(∀ p∈rows,-1<=p.1/\-1<=p.2)/\Q (.bl true) H
def Hu  : Sp:=λ vs H Q E=>∃ (W:Addr),vs=[.ref W]/\(yZ  W H Q E)
theorem yR  (W:Addr) (H:Hp) (Q:VK) (E:XK):Hu  [.ref W] H Q E=(yZ  W H Q E):=gD (f:=λ (W:Addr)=>[.ref W]) (λ _ _ h=>by cases h;exact rfl) W
theorem Gk  {vs:List V}{H:Hp}{Q:VK}{E:XK}(h:Hu  vs H Q E):vs.length=1:=gk h λ _=>rfl
theorem gH(T:Tx K mg t):bj P w K mg base CX0 2 t.a__law_rows_are t.d__law_rows_are ["_law_rows"] Hu:=by
 have G__law_whole:=%[kG|41];refine T.F__law_rows_are.ok dW (λ vs H Q E h=>Gk h) (λ c A o s' H vs Q E hr h=>?_)
 ·obtain⟨W,rfl,rows,tw,hin,k⟩:=h;refine⟨_,%[%[%[%[%[isinstance,bR,%[%[0|0],%[(@dD _ _ (.ty "list") (.type "list") _ ∅ T.z_list nofun rfl ⋯ ⋯)|1]|1]|6],(by intros;rfl)|27]|29],%[%[(@eu _ _ _ _)|12]|10],(@av _)|14],%[%[LB,rfl,%[%[0|0]|21],%[1,dW|5],%[%[(PW.pt %[%[%[%[isinstance,bR,%[%[1|0],%[(@dD _ _ (.ty "tuple") (.type "tuple") _ ∅ T.z_tuple nofun rfl ⋯ ⋯)|1]|1]|6],(by intros;rfl)|27]|29],%[%[(cN hr.units),%[len,aK,%[%[1|0]|1]|6],%[0|2],(ar _)|13],%[%[%[%[_law_whole,%[%[gm,%[1|0],%[0|2],(λ _ _=>rfl)|15]|1]|3],(by intros;rfl)|27]|29],(@gq _ _ _ _ %[%[%[_law_whole,%[%[gm,%[1|0],%[0|2],(λ _ _=>rfl)|15]|1]|3],(by intros;rfl)|27]|29])|26]|26]|26]),%[%[(@eu _ _ _ _)|12]|10],(@av _)|14],%[%[(PW.pt %[%[vI,%[gm,%[1|0],%[0|2],(λ _ _=>rfl)|15],(@m8 _ _ _ _ _ _ eR %[0|2]),(ar _)|13],(@gq _ _ _ _ %[vI,%[gm,%[1|0],%[0|2],(λ _ _=>rfl)|15],(@m8 _ _ _ _ _ _ eR %[0|2]),(ar _)|13])|26]),%[%[(@eu _ _ _ _)|12]|10],(@av _)|14]|10]|9],(by intros;rfl)|16],%[%[(@eu _ _ _ _)|12]|10]|9]|9],?_⟩;rw [show start ["_law_rows", "_law_row"] [.ref W]=[some (.ref W),none] from rfl];clear G__law_whole;obtain⟨ys,W0,al⟩:=tw;exists al;exists hin;ac_rfl;refine b9 (xs:=ys) (λ i σ H'=>∃ v1:Option V,σ=[some (.ref W),v1]/\H'=H) ⟨none,rfl,rfl⟩ (λ i σ H' _ ⟨_,_,e⟩=>by rw [e];exact W0) ?_ ?_
  ·rintro i y _ _ hy ⟨v1,rfl,rfl⟩;have hi:i < rows.length:=by have:=(Lb.mp hy).1;rw [(al ()).1] at this;exact this
   obtain⟨p,hp⟩:∃ p,rows[i]? = some p:=⟨_,K1 hi⟩;obtain⟨q,rfl,hq⟩:=(al ()).2 i p y hp hy;obtain⟨g1,g2⟩:=hin () p (Ly hp);obtain⟨pa,pb⟩:=p;replace hq:_=some (HO.tup [.int pa,.int pb]):=hq;replace g1:¬ pa < -1:=by have:-1<=pa:=g1;omega
   replace g2:¬ pb < -1:=by have:-1<=pb:=g2;omega
   clear hy hp k;simp! only [↓dG];exact⟨_,rfl⟩
  ·rintro _ _ ⟨v1,rfl,rfl⟩;ac_rfl
theorem oP{H H':Hp}{x:Addr}(e:Ext H H')(h:H' x=none):H x=none:=by
 cases hx:H x with
 | none=>rfl
 | some o=>rw [e.at hx] at h;cases h
theorem AE(z w:List Int):PyData.eqv (.tuple (z.map PyData.int)) (.tuple (w.map PyData.int))=decide (z=w):=by
 rw [vb,fq]
theorem lM:∀ zs ws:List (List Int),PyData.eqvAll (zs.map λ z=>PyData.tuple (z.map PyData.int)) (ws.map λ z=>PyData.tuple (z.map PyData.int))=decide (zs=ws)
 | [],[]=>rfl
 | [],_::_=>by simp [PyData.eqvAll]
 | _::_,[]=>by simp [PyData.eqvAll]
 | z::zs,w::ws=>by
  rw [LH,LH,iL,AE,lM zs ws]
  by_cases h1:z=w<;>by_cases h2:zs=ws<;>simp [h1,h2]
theorem AD{H:Hp}{f:V->Option PyData}{rows:List (Int × Int)}{ys:List V}(al:Al (λ p y=>twR p y H) rows ys):aP (ys.map (i8 H (i8 H f)))=some ((rows.map λ p=>[p.1,p.2]).map λ z=>PyData.tuple (z.map PyData.int)):=by
 refine oU ⟨by rw [Lc];exact al.1,λ i z y hz hy=>?_⟩;rw [Lr] at hz;obtain⟨p,hp,rfl⟩:=Lk.mp hz;exact al.2 i p y hp hy
abbrev zd(CS:Addr)(W:Addr)(A:Addr)(D:Addr)(H:Hp)(Q:VK)(E:XK):Prop:=∃ (rows:List (Int × Int)) (vals due:List Int),TwL H W rows/\rows.length<=4300/\H A=some (.lst (vals.map V.int))/\H D=some (.lst (due.map V.int))/\1<=vals.length/\vals.length<=4096/\eK rows vals.length/\(∀ ws,jd vals rows ws->ws=due)/\∀ H',Ext H H'->Q (.bl true) H'
def Hx(CS:Addr):Sp:=λ vs H Q E=>∃ (W:Addr) (A:Addr) (D:Addr),vs=[.ref W,.ref A,.ref D]/\(zd CS W A D H Q E)
theorem GR(CS:Addr)(W:Addr)(A:Addr)(D:Addr)(H:Hp)(Q:VK)(E:XK):Hx CS [.ref W,.ref A,.ref D] H Q E=(zd CS W A D H Q E):=Dh (f:=λ (W:Addr) (A:Addr) (D:Addr)=>[.ref W,.ref A,.ref D]) (λ _ _ _ _ _ _ h=>by cases h;exact⟨rfl,rfl,rfl⟩) W A D
theorem Gp(CS:Addr){vs:List V}{H:Hp}{Q:VK}{E:XK}(h:Hx CS vs H Q E):vs.length=3:=Di h λ _ _ _=>rfl
theorem gJ(T:Tx K mg t):bj P w K mg base CX0 10 t.a__law_on_store t.d__law_on_store ["_law_rows", "_law_values", "_law_due"] (Hx t.a_Store):=by
 have G_Store_all_values:=%[bA|41];have G_Store___init__:=%[cS|41];have G_run_rows:=%[iG|41];refine T.F__law_on_store.ok cg (λ vs H Q E h=>Gp _ h) (λ cdv A' outer s' H vs Q E hr h=>?_)
 ·obtain⟨W,A,D,rfl,rows,vals,due,tw,hrl,hA,hD,hv1,hv4,hin,hdue,k⟩:=h;have c4:=T.cl_Store;refine⟨_,%[%[3,cg,%[T.mk_Store,G_Store___init__,(hr.mono ⋯),∅,T.m_Store,T.b_Store___init__,.nil,eA,%[%[bP,∅,T.z_list,nofun,%[%[1|0]|1],⋯,⋯,∅,∅|32]|1],⋯,∅,∅|40]|4],%[%[4,cg,%[bP,∅,T.z_list,nofun,%[%[0|0]|1],⋯,⋯,∅,∅|32]|4],%[%[(PW.pt %[%[pe,%[run_rows,%[%[3|0],%[%[4|0]|1]|1]|3],(@rX _ _ _),(ar _)|13],(@gq _ _ _ _ %[(cN hr.units),%[4|0],%[0|0],(ar _)|13])|26]),%[%[(@eu _ _ _ _)|12]|10],(@av _)|14],%[%[%[(dm hr.units),%[%[3|0],T.cl_Store,T.mt_Store_all_values,G_Store_all_values,(hr.mono ⋯),T.b_Store_all_values,.nil,eA,∅|34],%[2|0],(ar _)|38]|12]|10]|9]|9]|9],?_⟩;rw [show start ["_law_rows", "_law_values", "_law_due", "_law_store", "_law_handed"] [.ref W,.ref A,.ref D]=[some (.ref W),some (.ref A),some (.ref D),none,none] from rfl];clear G_Store_all_values G_Store___init__ G_run_rows;obtain⟨ys,W0,al⟩:=tw;exists al;exists hin;exists hdue;have kk:=λ (_:Unit)=>k;clear k;ac_rfl;intro a1 H1 ha1 e1 h1;ac_rfl;intro x dx H2 hx hdx hne e2 h2 h2';rw [my];refine⟨dx,vals,h2,e2.at h1,hv1,hv4,λ H3 l e3 hl3 hx3 hf3=>?_⟩;have e13:=e3 H1 e2 hx;have e03:=e1.trans e13;have hl0:H l=none:=oP (e1.trans e2) hl3;have W3:=e03.at W0;have A3:=e03.at hA;have D3:=e03.at hD;have m1:=dE l (m := "all_values") nofun;clear h1 h2 h2' hx hdx hne e2 ha1 e3 hl3 e13 e1;ac_rfl;intro hd H4 hhd e4 h4;have W4:=e4.at W3;have A4:=e4.at A3;have D4:=e4.at D3;have hx4:=e4.at hx3;have hf4:=e4.at hf3;have e04:=e03.trans e4;have nhl:hd ≠ l:=λ z=>by rw [z,hf3] at hhd;cases hhd
  have nWl:W ≠ l:=λ z=>by rw [z,hl0] at W0;cases W0
  have nDl:D ≠ l:=λ z=>by rw [z,hl0] at hD;cases hD
  have twh:TwL H4 hd rows:=⟨ys,h4,(al ()).imp λ _ _ z=>z.ext e04⟩;exists twh;have so4:bO t.a_Store H4 x l vals:=⟨⟨dx,hx4⟩,hf4⟩;exists so4;clear W3 A3 D3 hx3 hf3;ac_rfl;rw [tH];refine⟨l,vals,rows,so4 (),hv1,hv4,twh (),Lv nhl,hin (),λ ws H5 lb q1 q2 h5=>?_⟩;obtain rfl:=hdue () ws lb;have e05:=q1 H e04 hl0;have W5:=e05.at W0;have D5:=e05.at hD;have hd5:=q2 hd _ nhl h4;have hx5:=q2 x _ (λ z=>by rw [z,hf4] at hx4;cases hx4) hx4;have ha:=AD (f:=i8 H5 (i8 H5 (i8 H5 noD))) ((al ()).imp λ _ _ z=>z.ext e05);have hwl:=lb.len;have so5:bO t.a_Store H5 x l ws:=⟨⟨dx,hx5⟩,h5⟩;exists so5;exists hwl;clear W4 A4 D4 hx4 hf4 h4 so4 twh q1 q2 lb;have he:∀ L:List (List Int),PyData.eqvAll (L.map λ z=>PyData.tuple (z.map PyData.int)) (L.map λ z=>PyData.tuple (z.map PyData.int))=true:=λ L=>by rw [lM];exact M8 rfl
  have he':=he (rows.map λ p=>[p.1,p.2]);clear he;generalize (rows.map λ p=>[p.1,p.2])=RL at ha he';ac_rfl;rw [km];refine⟨l,ws,so5 (),by have:=hwl ();omega,λ r H6 hr6 e6 h6=>?_⟩;have D6:=e6.at D5;have k':=kk () H6 (e05.trans e6);clear ha he' W5 D5 hd5 hx5 h5;ac_rfl
abbrev y9(K:PySem.W.Frag)(a:Addr)(ns:List Int)(p:Addr)(room:Int)(H:Hp)(Q:VK)(E:XK):Prop:=p=a/\SqL K H a (ns.map V.int)/\ns.length<=63/\(1<=room/\room<=4096)/\∀ (rows:List (Int × Int)) (r:Addr) (H':Hp),eK rows room.toNat->rows.length<=30->H r=none->Ext H H'->TwL H' r rows->Q (.ref r) H'
def Hv(K:W.Frag)(a:Addr)(ns:List Int):Sp:=λ vs H Q E=>∃ (p:Addr) (room:Int),vs=[.ref p,.int room]/\(y9 K a ns p room H Q E)
theorem GP(K:W.Frag)(a:Addr)(ns:List Int)(p:Addr)(room:Int)(H:Hp)(Q:VK)(E:XK):Hv K a ns [.ref p,.int room] H Q E=(y9 K a ns p room H Q E):=pR (f:=λ (p:Addr) (room:Int)=>[.ref p,.int room]) (λ _ _ _ _ h=>by cases h;exact⟨rfl,rfl⟩) p room
theorem Gm(K:W.Frag)(a:Addr)(ns:List Int){vs:List V}{H:Hp}{Q:VK}{E:XK}(h:Hv K a ns vs H Q E):vs.length=2:=qV h λ _ _=>rfl
theorem gI(T:Tx K mg t)(a:Addr)(ns:List Int):bj P w K mg base CX0 2 t.a__law_own_rows t.d__law_own_rows ["_law_script", "_law_room"] (Hv K a ns):=by
 have G__law_draw:=%[cx|41] a ns;refine T.F__law_own_rows.ok ba (λ vs H Q E h=>Gm _ _ _ h) (λ c A o s' H vs Q E hr h=>?_)
 ·obtain⟨_,room,rfl,rfl,hS,hl,⟨hr1,hr2⟩,kk⟩:=h;rename_i a;refine⟨_,%[%[2,ba,%[(@cM _)|25]|4],%[%[LB,rfl,%[∅,T.z_range,%[%[_law_draw,%[%[0|0],%[%[0|2],%[%[0|2]|1]|1]|1]|3]|1],∅|31],%[3,ba|5],%[%[4,ba,%[_law_draw,%[%[0|0],%[%[aN,%[0|2],%[3|0]|11],%[%[lu,%[0|2],%[0|2]|11]|1]|1]|1]|3]|4],%[%[5,ba,%[eI,%[ja,%[jN,%[4|0],%[0|2]|11],%[aN,%[1|0],%[0|2]|11]|11],%[0|2]|11]|4],%[%[%[Ls,LN,LM,aY,%[2|0],%[%[%[%[5|0],%[%[gm,%[%[%[eI,%[ja,%[jN,%[4|0],%[0|2]|11],%[aN,%[1|0],%[0|2]|11]|11],%[0|2]|11],%[(@m8 _ _ _ _ _ _ eR %[0|2]),%[%[ja,%[jN,%[4|0],%[0|2]|11],%[1|0]|11]|1]|1]|1]|25],%[ja,%[4|0],%[0|2]|11],(λ _ _=>rfl)|15]|1]|1]|36]|1],∅,∅,∅,∅,∅|22],∅|19]|10]|9]|9],(by intros;rfl)|16],%[%[%[2|0]|12]|10]|9]|9],?_⟩;rw [show start ["_law_script", "_law_room", "_law_rows", "_law_k", "_law_cell", "_law_first"] [.ref a,.int room]=[some (.ref a),some (.int room),none,none,none,none] from rfl];clear G__law_draw;exists kk;have hz0:0 < room:=by omega
  have hz1:0 < room+1:=by omega
  ac_rfl;intro r H1 hr1' e1 h1;have hS1:=e1.2 K a _ hS;ac_rfl;rw [aQ];refine⟨hS1,hl,⟨by omega,by omega⟩,by decide,λ z z0 z1=>?_⟩;have al0:Al (λ p y=>twR p y H1) ([]:List (Int × Int)) []:=Al.nil;ac_rfl;refine⟨by omega,by omega,?_⟩;have hzn:((z.toNat:Nat):Int)=z:=NF z0;refine fW (λ i σ H'=>∃ (v3 v4 v5:Option V) (ys:List V) (rows:List (Int × Int)),σ=[some (.ref a),some (.int room),some (.ref r),v3,v4,v5]/\Ext H H'/\H' r=some (.lst ys)/\Al (λ p y=>twR p y H') rows ys/\eK rows room.toNat/\rows.length<=i) ⟨none,none,none,[],[],rfl,e1,h1,al0,(λ _ h=>absurd h Ld),LD _⟩ ?_ ?_
  ·rintro i _ H3 hi ⟨v3,v4,v5,ys,rows,rfl,e3,h3,al,hin,hrl⟩;simp only [ML];have hS3:=e3.2 K a _ hS;have hi30:i < 30:=by omega
   have hyl:ys.length < sizeLine:=aJ (by have:=al.1;omega);exists al;exists hin;clear h1 hS1 al0 hi hzn;ac_rfl;rw [aQ];refine⟨hS3,hl,⟨by omega,by omega⟩,by decide,λ c c0 c1=>?_⟩;have hc3:0<=c % 3/\c % 3 < 3:=⟨Md _ ⋯,LZ _ ⋯⟩;ac_rfl;intro q H4 hq e4 h4;have h3_4:=e4.at h3;have u1:0<=c / 3 % (room+1)/\c / 3 % (room+1) < room+1:=⟨Md _ %[0|8],LZ _ hz1⟩;have u2:0<=c / 1009 % (room+1)/\c / 1009 % (room+1) < room+1:=⟨Md _ %[0|8],LZ _ hz1⟩;have u3:0<=c / 7 % room/\c / 7 % room < room:=⟨Md _ %[0|8],LZ _ hz0⟩;replace u1:-1<=c / 3 % (room+1) - 1/\c / 3 % (room+1) - 1 < room:=by omega
   generalize c / 3 % (room+1) - 1=f1 at *;clear h3 hS3;ac_rfl;refine iw (λ j=>-1<=j/\j < room) hc3.1 (by simpa using hc3.2) (λ v hv=>?_) λ j hj=>?_
   ·simp only [Lz,Ld,L8] at hv
    rcases hv with rfl|rfl|rfl
    ·exact⟨_,rfl,by omega,by omega⟩
    ·exact⟨_,rfl,by omega,by omega⟩
    ·exact⟨_,rfl,by omega,by omega⟩
   ·have hin':eK (rows++[(f1,j)]) room.toNat:=λ p hp=>by
     rcases LJ.mp hp with hp|hp
     ·exact hin () p hp
     ·rw [Lq.mp hp];exact⟨⟨u1.1,by show f1 < _;omega⟩,⟨hj.1,by show j < _;omega⟩⟩
    exists hin';clear h4 u1 u2 u3 hc3;ac_rfl;intro q5 H5 hq5 e5 h5;have h3_5:=e5.at h3_4;have e05:=e3.trans (e4.trans e5);have al5:Al (λ p y=>twR p y (upd H5 r (.lst (ys++[.ref q5])))) (rows++[(f1,j)]) (ys++[.ref q5]):=((al ()).imp λ _ _ z=>(z.ext (e4.trans e5)).upd h3_5).snoc ⟨q5,rfl,by rw [af λ z=>by rw [z,h3_5] at h5;cases h5];exact h5⟩;exists al5;clear h3_4 h5;ac_rfl;exact⟨_,_,_,_,_,rfl,e05.put hr1',rfl,al5 (),hin' (),by rw [Ln,MG];omega⟩
  ·rintro _ H3 ⟨v3,v4,v5,ys,rows,rfl,e3,h3,al,hin,hrl⟩;have k':=kk () rows r H3 hin %[0|8] hr1' e3 ⟨ys,h3,al⟩;clear kk h1 hS1 al0;ac_rfl
theorem jh{n:Nat}:∀ {rows:List (Int × Int)}{s s':Int->Int},eK rows n->(∀ x:Int,-1<=x->x < n->s x=s' x)->∀ x:Int,-1<=x->x < n->cK s rows x=cK s' rows x
 | [],_,_,_,h,x,h1,h2=>h x h1 h2
 | (a,b)::rows,s,s',hr,h,x,h1,h2=>by
  have hab:=hr (a,b) Lj;refine jh (rows:=rows) (λ p hp=>hr p (Lg _ hp)) (λ y g1 g2=>?_) x h1 h2
  show (if y=b then s a else s y)=if y=b then s' a else s' y
  rw [h a hab.1.1 hab.1.2,h y g1 g2]
def rh(a:Addr)(H:Hp):Hp:=λ x=>if x=a then none else H x
theorem nR{a x:Addr}{H:Hp}{o:HO}(h1:x ≠ a)(h:H x=some o):rh a H x=some o:=by
 unfold rh;rw [if_neg h1];exact h
theorem yd(a:Addr)(H:Hp):Ext (rh a H) H:=iU.ext λ x o h=>by
 unfold rh at h
 by_cases e:x=a
 ·rw [Lo e] at h;cases h
 ·rwa [Lm e] at h
theorem ye{a:Addr}{B H:Hp}(e:Ext B H)(h1:B a=none):Ext B (rh a H):=iU.ext λ x o h=>nR (λ z=>by rw [z,h1] at h;cases h) (e.at h)
theorem qc(ws:List Int):((List.range ws.length).map λ j=>V.int (ws.getD j 0))=ws.map V.int:=by
 refine Oj (by simp) λ i h1 h2=>?_;rw [Oh,Oh,List.getElem_range,LL,K1 (by simpa using h2)];rfl
structure HdI(n k:Nat)(vs:List Int)(hv:List (Int × Int)):Prop where
 nd:NdK hv
 len:hv.length<=n+40 * k
 vl:vs.length=n
 val:∀ x:Int,0<=x->x < n->aa hv x=some (vs.getD x.toNat 0)
theorem HdI.step{n k:Nat}{vs:List Int}{hv hv':List (Int × Int)}{rows:List (Int × Int)}{ws:List Int}(h:HdI n k vs hv)(hr:eK rows n)(hl:rows.length<=30)(hi:HvI (bh hv (-1) 0) rows hv')(lb:jd vs rows ws):HdI n (k+1) ws hv':=by
 have hin:∀ x:Int,-1<=x->x < n->rdS (bh hv (-1) 0) x=st0 vs x:=λ x h1 h2=>by
  unfold rdS st0;rw [aX]
  by_cases e:x=-1
  ·rw [Lo e,Lo e];rfl
  ·rw [Lm e,Lm e,h.val x %[0|8] h2];rfl
 refine⟨hi.nd,?_,by rw [lb.len,h.vl],λ x h1 h2=>?_⟩
 ·have g1:=hi.len;have g2:=dY hv (-1) 0;have g3:=h.len;omega
 ·have g1:=hi.val x;rw [jh hr hin x %[0|8] h2,←lb.val x h1 (by rw [h.vl];exact h2)] at g1
  have g2:(aa hv' x).isSome=true:=by
   refine hi.key x ?_;rw [aX]
   by_cases e:x=-1
   ·rw [Lo e];rfl
   ·rw [Lm e,h.val x h1 h2];rfl
  obtain⟨v,hv⟩:=Option.isSome_iff_exists.mp g2;unfold rdS at g1;rw [hv] at g1 ⊢;rw [←g1];rfl
def qW(vs:List Int)(i:Nat):List (Int × Int):=(List.range i).map λ (k:Nat)=>((k:Int),vs.getD k 0)
theorem wX(vs:List Int)(i:Nat):aa (qW vs i) (i:Int)=none:=aZ.mpr λ m=>by
 obtain⟨p,hp,e⟩:=Le.mp m;obtain⟨k,hk,rfl⟩:=Le.mp hp;have:=LF.mp hk;have e':(k:Int)=(i:Int):=e;omega
theorem wW(vs:List Int)(i:Nat):eP (aj (qW vs i)) (.inl (i:Int)) (.int (vs.getD i 0))=aj (qW vs (i+1)):=by
 rw [fU _ (wX vs i)];unfold qW;rw [List.range_succ,map_append];rfl
theorem pf(vs:List Int)(i:Nat):(qW vs i).length=i:=by unfold qW;simp
theorem Bi(vs:List Int):HdI vs.length 0 vs (qW vs vs.length):=by
 have hn:NdK (qW vs vs.length):=by
  unfold NdK qW;rw [map_map];rw [List.nodup_iff_pairwise_ne,pairwise_map];refine List.Pairwise.imp (λ {a b} h e=>?_) List.pairwise_lt_range;have e':(a:Int)=(b:Int):=e;omega
 refine⟨hn,by rw [pf];omega,rfl,λ x h1 h2=>aO hn (Le.mpr ⟨x.toNat,LF.mpr %[0|8],?_⟩)⟩;rw [NF h1]
abbrev zc(CS:Addr)(W:Addr)(A:Addr)(H:Hp)(Q:VK)(E:XK):Prop:=∃ (rows:List (Int × Int)) (vals:List Int),TwL H W rows/\rows.length<=30/\H A=some (.lst (vals.map V.int))/\1<=vals.length/\vals.length<=4096/\eK rows vals.length/\∀ H',Q (.bl true) H'
def Hw(CS:Addr):Sp:=λ vs H Q E=>∃ (W:Addr) (A:Addr),vs=[.ref W,.ref A]/\(zc CS W A H Q E)
theorem GQ(CS:Addr)(W:Addr)(A:Addr)(H:Hp)(Q:VK)(E:XK):Hw CS [.ref W,.ref A] H Q E=(zc CS W A H Q E):=pR (f:=λ (W:Addr) (A:Addr)=>[.ref W,.ref A]) (λ _ _ _ _ h=>by cases h;exact⟨rfl,rfl⟩) W A
theorem Gn(CS:Addr){vs:List V}{H:Hp}{Q:VK}{E:XK}(h:Hw CS vs H Q E):vs.length=2:=qV h λ _ _=>rfl
theorem gj(T:Tx K mg t):bj P w K mg base CX0 10 t.a__law_own_right t.d__law_own_right ["_law_own", "_law_values"] (Hw t.a_Store):=by
 have G_Store_all_values:=%[bA|41];have G_Store___init__:=%[cS|41];have G_run_rows:=%[iG|41];have G__law_run:=%[iI|41];refine T.F__law_own_right.ok aH (λ vs H Q E h=>Gn _ h) (λ cdv A' outer s' H vs Q E hr h=>?_)
 ·obtain⟨W,A,rfl,rows,vals,tw,hrl,hA,hv1,hv4,hin,k⟩:=h;have c4:=T.cl_Store;refine⟨_,%[%[2,aH,%[T.mk_Store,G_Store___init__,(hr.mono ⋯),∅,T.m_Store,T.b_Store___init__,.nil,eA,%[%[bP,∅,T.z_list,nofun,%[%[1|0]|1],⋯,⋯,∅,∅|32]|1],⋯,∅,∅|40]|4],%[(@b8 _ _ (3) _ _ _ _ aH.nd rfl (Or.inr rfl) (@bc _ _) ∅ %[0|7]),%[%[LB,rfl,%[∅,T.z_range,%[%[len,aK,%[%[1|0]|1]|6]|1],∅|31],%[4,aH|5],%[%[(aq hr.units),%[3|0],%[4|0],%[gm,%[1|0],%[4|0],(λ _ _=>rfl)|15],rfl|20]|10],(by intros;rfl)|16],%[%[LB,rfl,%[∅,T.z_range,%[%[0|2]|1],∅|31],%[5,aH|5],%[%[(aq hr.units),%[3|0],(@m8 _ _ _ _ _ _ eR %[0|2]),%[0|2],rfl|20],%[(@b8 _ _ (3) _ _ _ _ aH.nd rfl (Or.inr rfl) %[_law_run,%[%[0|0],%[%[3|0]|1]|1]|3] ∅ %[0|7]),%[%[%[pe,%[run_rows,%[%[2|0],%[%[bP,∅,T.z_list,nofun,%[%[0|0]|1],⋯,⋯,∅,∅|32]|1]|1]|3],(@rX _ _ _),(ar _)|13],%[%[(@eu _ _ _ _)|12]|10],(@av _)|14],%[%[%[(cN hr.units),%[%[2|0],T.cl_Store,T.mt_Store_all_values,G_Store_all_values,(hr.mono ⋯),T.b_Store_all_values,.nil,eA,∅|34],%[(["_law_cell", "_law_own", "_law_values", "_law_store", "_law_held", "!_law_cell", "_law_k"]),(1),(bg (ae bt) ["_law_own", "_law_values", "_law_store", "_law_held", "_law_cell", "_law_k"] rfl rfl nofun),rfl,%[∅,T.z_range,%[%[len,aK,%[%[1|0]|1]|6]|1],∅|31],(λ C s₀ H₀ ex pn=>%[(0),_,(show List.Nodup (["_law_cell", "_law_own", "_law_values", "_law_store", "_law_held", "!_law_cell", "_law_k"]:List Str) from by decide +kernel),rfl,(Or.inl rfl),%[0|7]|18]),(λ C s₀ H₀ ex pn=>(@bu _)),(λ C s₀ H₀ ex pn=>%[(aq hr.units),%[4|0],%[0|0],(λ _ _=>rfl)|33]),(by intros;rfl)|24],(ar _)|13],%[%[(@eu _ _ _ _)|12]|10],(@av _)|14]|10]|9]|9]|9],(by intros;rfl)|16],%[%[(@eu _ _ _ _)|12]|10]|9]|9]|9]|9],?_⟩;rw [show start ["_law_own", "_law_values", "_law_store", "_law_held", "_law_cell", "_law_k"] [.ref W,.ref A]=[some (.ref W),some (.ref A),none,none,none,none] from rfl];clear G_Store_all_values G_Store___init__ G_run_rows G__law_run;obtain⟨ys,W0,al⟩:=tw;exists al;exists hin;have kk:=λ (_:Unit)=>k;clear k;ac_rfl;intro a1 H1 ha1 e1 h1;ac_rfl;intro x dx H2 hx hdx hne e2 h2 h2';rw [my];refine⟨dx,vals,h2,e2.at h1,hv1,hv4,λ H3 l e3 hl3 hx3 hf3=>?_⟩;have e13:=e3 H1 e2 hx;have e03:=e1.trans e13;have hl0:H l=none:=oP (e1.trans e2) hl3;have A3:=e03.at hA;have m1:=dE l (m := "all_values") nofun;clear h1 h2 h2' hx hdx hne e2 ha1 e3 hl3 e13 e1;ac_rfl;intro hd H4 hhd e4 h4;have A4:=e4.at A3;have hx4:=e4.at hx3;have hf4:=e4.at hf3;have e04:=e03.trans e4;have nhl:hd ≠ l:=λ z=>by rw [z,hf3] at hhd;cases hhd
  have nxl:x ≠ l:=λ z=>by rw [z,hf3] at hx3;cases hx3
  have hd0:H hd=none:=oP e03 hhd;clear A3;ac_rfl;refine⟨by omega,by omega,?_⟩;refine fW (λ i σ H'=>∃ (v4 v5:Option V),σ=[some (.ref W),some (.ref A),some (.ref x),some (.ref hd),v4,v5]/\Ext H3 H'/\H' hd=some (.dK (aj (qW vals i)))) ⟨none,none,rfl,e4,h4⟩ ?_ ?_
  ·rintro i _ H5 hi ⟨v4,v5,rfl,e5,h5⟩;simp only [ML];have hi':i < vals.length:=by omega
   have A5:=(e03.trans e5).at hA;have hat:atI (vals.map V.int) (i:Int)=some (.int (vals.getD i 0)):=tK %[0|8] %[0|8];have hl5:(aj (qW vals i)).length < sizeLine:=aJ (by rw [az,pf];omega);clear A4 h4 hx4 hf4 kk hi;ac_rfl;refine bH (k:=.inl (i:Int)) h5 hl5 ?_;rw [wW];exact⟨_,_,rfl,e5.put hhd,ag⟩
  ·rintro _ H5 ⟨v4,v5,rfl,e5,h5⟩;have e05:=e03.trans e5;have hx5:=e5.at hx3;have hf5:=e5.at hf3;rw [LI] at h5;have hi0:=Bi vals;generalize qW vals vals.length=hv0 at h5 hi0;clear A4 h4 hx4 hf4 e4 hx3 hf3 e5 e04 e03 hhd;exists hi0;ac_rfl;refine fW (λ k σ H'=>∃ (v4 v5:Option V) (vs:List Int) (hv:List (Int × Int)),σ=[some (.ref W),some (.ref A),some (.ref x),some (.ref hd),v4,v5]/\Ext H H'/\H' x=some (.ins t.a_Store dx (fC l))/\H' l=some (.lst (vs.map V.int))/\H' hd=some (.dK (aj hv))/\HdI vals.length k vs hv) ⟨v4,v5,vals,hv0,rfl,e05,hx5,hf5,h5,hi0 ()⟩ ?_ ?_
   ·rintro k _ H6 hk ⟨v4,v5,vs,hv,rfl,e6,x6,l6,hd6,hi⟩;have hk2:k < 2:=by omega
    simp only [ML];have hl5:(aj hv).length < sizeLine:=aJ (by rw [az];have:=hi.len;omega);have hhl:=hi.len;have hvl:=hi.vl;exists hi;clear hx5 hf5 h5 hi0 hk;ac_rfl;refine bH (k:=.inl (-1)) hd6 hl5 ?_;rw [aW];have e7:Ext H (upd H6 hd (.dK (aj (bh hv (-1) 0)))):=e6.put hd0;have x7:upd H6 hd (.dK (aj (bh hv (-1) 0))) x=some (.ins t.a_Store dx (fC l)):=by rw [af λ z=>by rw [z,hd6] at x6;cases x6];exact x6
    have l7:upd H6 hd (.dK (aj (bh hv (-1) 0))) l=some (.lst (vs.map V.int)):=by rw [af (Lv nhl)];exact l6
    have hd7:upd H6 hd (.dK (aj (bh hv (-1) 0))) hd=some (.dK (aj (bh hv (-1) 0))):=ag;generalize upd H6 hd (.dK (aj (bh hv (-1) 0)))=H7 at e7 x7 l7 hd7;have eB:Ext (rh hd H7) H7:=yd hd H7;have eHB:Ext H (rh hd H7):=ye e7 hd0;have xB:rh hd H7 x=some (.ins t.a_Store dx (fC l)):=nR (λ z=>by rw [z,hd7] at x7;cases x7) x7;have lB:rh hd H7 l=some (.lst (vs.map V.int)):=nR (Lv nhl) l7;have hdB:rh hd H7 hd=none:=Lo rfl;generalize rh hd H7=B at eB eHB xB lB hdB;have twB:TwL B W rows:=⟨ys,eHB.at W0,(al ()).imp λ _ _ z=>z.ext eHB⟩;have hpn:=bC (hi ()).nd (-1) 0;have hpl:=dY hv (-1) 0;exists twB;exists hpn;clear x6 l6 hd6 x7 l7;ac_rfl;rw [tG];refine⟨B,rows,bh hv (-1) 0,eB,hdB,twB (),hd7,hpn (),by omega,λ hv' H8 hvi e8 hd8=>?_⟩;have x8:=e8.at xB;have l8:=e8.at lB;have e08:=eHB.trans e8;have W8:=e08.at W0;exists hvi;clear hd7 xB lB;ac_rfl;intro lo H9 hlo e9 h9;have x9:=e9.at x8;have l9:=e9.at l8;have hd9:=e9.at hd8;have e09:=e08.trans e9;have nlo:l ≠ lo:=λ z=>by rw [←z,l8] at hlo;cases hlo
    have tw9:TwL H9 lo rows:=⟨ys,h9,(al ()).imp λ _ _ z=>z.ext e09⟩;have so9:bO t.a_Store H9 x l vs:=⟨⟨dx,x9⟩,l9⟩;exists tw9;exists so9;have hin':eK rows vs.length:=by rw [hvl];exact hin ()
    exists hin';have hv1':1<=vs.length:=by omega
    have hv4':vs.length<=4096:=by omega
    exists hvl;clear x8 l8 hd8 W8 h9;ac_rfl;rw [tH];refine⟨l,vs,rows,so9 (),hv1',hv4',tw9 (),nlo,hin' (),λ ws H10 lb q1 q2 l10=>?_⟩;have e010:=q1 H e09 hl0;have x10:=q2 x _ nxl x9;have hd10:=q2 hd _ nhl hd9;have A10:=e010.at hA;have hi2:=(hi ()).step (hin ()) hrl (hvi ()) lb;have so10:bO t.a_Store H10 x l ws:=⟨⟨dx,x10⟩,l10⟩;exists so10;exists hi2;clear x9 l9 hd9 so9 tw9 q1 q2 lb hvi hi;ac_rfl;rw [km];refine⟨l,ws,so10 (),by have:=(hi2 ()).vl;omega,λ r H11 hr11 e11 h11=>?_⟩;have hd11:=e11.at hd10;have A11:=e11.at A10;have x11:=e11.at x10;have l11:=e11.at l10;have e011:=e010.trans e11;clear hd10 A10 x10 l10;ac_rfl;refine⟨by omega,by omega,?_⟩;rw [LI];refine bX (List.range vals.length) (λ _=>true) (λ j=>.int (ws.getD j 0)) (λ j x _=>x=.int (0+(j:Int))) dj.1 (by simpa using dj.2) (aA (by rw [Mo];omega)) ?_ ?_
    ·rintro D2 j y H12 N1 N0 hj hD2 e12 rfl k1 k0;simp only [ML];have hd12:=e12.at hd11
     have hvj:cJ (aj hv') (.inl (j:Int))=some (.int (ws.getD j 0)):=by
      rw [ao,(hi2 ()).val (j:Int) %[0|8] (by have:=LF.mp hj;omega),LI];rfl
     have k1':=k1 rfl H12 (Ext.refl _);clear k1 k0 kk hj h11;ac_rfl;refine gn (k:=.inl (j:Int)) hd12 hvj ?_;ac_rfl
    ·intro D2 H12 hD2 e12 h12
     have hws:(((List.range vals.length).filter λ _=>true).map λ j=>V.int (ws.getD j 0))=ws.map V.int:=by
      rw [L7.mpr (λ _ _=>rfl),←(hi2 ()).vl];exact qc ws
     rw [hws] at h12;have h11_12:=e12.at h11;have x12:=e12.at x11;have l12:=e12.at l11;have hd12:=e12.at hd11;have e012:=e011.trans e12;clear h11 hws;ac_rfl;exact⟨_,_,ws,hv',rfl,e012,rfl,rfl,hi2 ()⟩
   ·rintro _ H6 ⟨v4,v5,vs,hv,rfl,e6,x6,l6,hd6,hi⟩;have k':=kk () H6;clear kk hx5 hf5 h5 hi0;ac_rfl
theorem yN{tn k:Int}(h:0<=k/\k<=5000):0<=flp tn k:=by unfold flp;split<;>omega
theorem Cf{m:Nat}{wy x tn:Int}{q:Int × Int}(hm:2<=m)(hx:0<=x/\x < m)(h:q∈lng m wy x tn):∃ k e:Int,q=(flp tn k,flp tn e)/\k ≠ e/\(0<=k/\k<=(m:Int)+3)/\(0<=e/\e<=(m:Int)):=by
 unfold lng k4 at h;obtain⟨p,hp,rfl⟩:=List.mem_map.mp h
 rcases LJ.mp hp with hp|hp
 ·obtain⟨k,hk,rfl⟩:=List.mem_map.mp hp;have hk':=List.mem_range.mp hk;refine⟨_,_,rfl,?_,⟨by dsimp only;omega,by dsimp only;omega⟩,?_⟩
  ·dsimp only;split<;>omega
  ·dsimp only;split<;>omega
 ·by_cases e:wy=2
  ·rw [if_pos e] at hp;obtain rfl:=mem_singleton.mp hp;exact⟨_,_,rfl,by dsimp only;omega,by dsimp only;omega,by dsimp only;omega⟩
  ·rw [Lm e] at hp;cases hp
theorem FZ{m:Nat}{wy x tn:Int}(hm:2<=m/\m<=4095)(hx:0<=x/\x < m):∀ c e,aa (lng m wy x tn) c=some e->0<=c/\0<=e:=λ c e h=>by
 obtain⟨k,f,q,_,h1,h2⟩:=Cf hm.1 hx (bK h);cases q;exact⟨yN %[0|8],yN %[0|8]⟩
theorem Ga{m:Nat}{wy x tn:Int}(hm:0 < m):lng m wy x tn ≠ []:=λ z=>by
 have:=oJ (m:=m) (wy:=wy) (x:=x) (tn:=tn) (k:=0) hm;rw [z] at this;cases this
structure FdI(kv:List (Int × Int)):Prop where
 nd:NdK kv
 ne:kv ≠ []
 len:kv.length<=4200
 easy:iW (kv.map (·.1))
 few:Few kv
 nn:∀ c e,aa kv c=some e->0<=c/\0<=e
theorem FdI.ink{kv:List (Int × Int)}(h:FdI kv){x:Int}(hx:InK kv x):-1<=x:=by
 have key:∀ p∈kv,0<=p.1/\0<=p.2:=λ p hp=>h.nn p.1 p.2 (aO h.nd hp)
 rcases hx with rfl|hx|hx
 ·omega
 ·obtain⟨p,hp,rfl⟩:=Le.mp hx;have:=(key p hp).1;omega
 ·obtain⟨p,hp,rfl⟩:=Le.mp hx;have:=(key p hp).2;omega
def mxL(kv:List (Int × Int)):List Int:=kv.map λ p=>if p.1 < p.2 then p.2 else p.1
def mxV:Key × V->V
 | (.inl c,.int v)=>.int (if c < v then v else c)
 | _=>.non
theorem Bj(kv:List (Int × Int)):((aj kv).filter λ _=>true).map mxV=(mxL kv).map V.int:=by
 rw [List.filter_eq_self.mpr (λ _ _=>rfl)];unfold aj mxL;rw [map_map,map_map];rfl
theorem FdI.room{kv:List (Int × Int)}(h:FdI kv){M:Int}(hM:∀ x∈mxL kv,x<=M){x:Int}(hx:InK kv x):-1<=x/\(x=-1\/x<=M):=by
 refine⟨h.ink hx,?_⟩
 have g:∀ p∈kv,p.1<=M/\p.2<=M:=λ p hp=>by
  have:=hM _ (Le.mpr ⟨p,hp,rfl⟩)
  split at this<;>omega
 rcases hx with rfl|hx|hx
 ·exact .inl rfl
 ·obtain⟨p,hp,rfl⟩:=Le.mp hx;have:=g p hp;omega
 ·obtain⟨p,hp,rfl⟩:=Le.mp hx;have:=g p hp;omega
theorem jZ:∀ (rows:List (Int × Int)) (s:Int->Int) (x:Int),cK s rows x=s (cK id rows x)
 | [],s,x=>rfl
 | (a,b)::r,s,x=>by
  show cK (λ y=>if y=b then s a else s y) r x=s (cK (λ y=>if y=b then id a else id y) r x)
  rw [jZ r (λ y=>if y=b then s a else s y),jZ r (λ y=>if y=b then id a else id y)]
  show (if cK id r x=b then s a else s (cK id r x))=s (if cK id r x=b then a else cK id r x)
  split<;>rfl
theorem xH{kv rows:List (Int × Int)}{vals ws:List Int}(hr:∀ x,x ≠ -1->cK id rows x=ck kv x)(hlt:∀ x:Int,0<=x->x < vals.length->0<=ck kv x/\ck kv x < vals.length)(lb:jd vals rows ws):ws=(List.range vals.length).map λ (j:Nat)=>vals.getD (ck kv (j:Int)).toNat 0:=by
 refine Oj (by rw [lb.len];simp) λ i h1 h2=>?_;have hi:i < vals.length:=by rw [←lb.len];exact h1
 have g:=lb.val (i:Int) %[0|8] %[0|8];have hl:=hlt (i:Int) %[0|8] %[0|8];rw [jZ,hr _ %[0|8],Int.toNat_natCast] at g;unfold st0 at g;rw [if_neg %[0|8],getD_eq_getElem?_getD,getElem?_eq_getElem h1] at g;rw [getElem_map,List.getElem_range];exact g
theorem AF(kv:List (Int × Int)):∀ p∈aj kv,∃ i:Int,p.2=V.int i:=λ p hp=>by
 obtain⟨q,_,rfl⟩:=Le.mp hp;exact⟨q.2,rfl⟩
theorem Ek{kv:List (Int × Int)}(h:NdK kv):((aj kv).map (·.1)).Nodup:=by
 rw [oV,Mn,Ms];exact h.imp λ h e=>h (Sum.inl.inj e)
theorem wD{rows:List (Int × Int)}(h:Aj [] rows):rows=[]:=by
 have:=h.2.2.1 [] ⟨.nil,λ _ h=>absurd h Ld,λ l h=>by
  obtain⟨d,h1,_⟩:=h.1.mem h.head_mem;cases h1⟩
 exact Nz this
abbrev CZ(K:PySem.W.Frag)(a:Addr)(H:Hp)(Q:VK)(E:XK):Prop:=∃ ns:List Int,SqL K H a (ns.map V.int)/\ns.length<=63/\∀ H',Q (.bl true) H'
def rn(K:W.Frag):Sp:=λ vs H Q E=>∃ (a:Addr),vs=[.ref a]/\(CZ K a H Q E)
theorem Co(K:W.Frag){vs:List V}{H:Hp}{Q:VK}{E:XK}(h:rn K vs H Q E):vs.length=1:=gk h λ _=>rfl
theorem EH(T:Tx K mg t):bj P w K mg base CX0 11 t.a_law t.d_law ["_law_script"] (rn K):=by
 refine T.F_law.ok jE (λ vs H Q E h=>Co _ h) (λ c A o s' H vs Q E hr h=>?_)
 ·obtain⟨a,rfl,ns,hS,hl,kk⟩:=h;have G__law_draw:=%[dh|41] a ns;have G__law_long:=%[mN|41] a ns;have G__law_found:=%[kK|41] a ns;have G__law_leave:=%[kJ|41];have G__law_rows_are:=%[gH|41];have G__law_on_store:=%[gJ|41];have G__law_own_rows:=%[gI|41] a ns;have G__law_own_right:=%[gj|41];have G_rows_for:=%[nZ|41];refine⟨_,%[(@b8 _ _ (1) _ _ _ _ jE.nd rfl (Or.inr rfl) %[_law_found,%[%[0|0]|1]|3] ∅ %[0|7]),%[%[%[(dm hr.units),%[_law_draw,%[%[0|0],%[%[0|2],%[%[0|2]|1]|1]|1]|3],%[0|2],(ar _)|13],%[(@b8 _ _ (1) _ _ _ _ jE.nd rfl (Or.inr rfl) %[_law_long,%[%[0|0]|1]|3] ∅ %[0|7])|10],(@av _)|14],%[%[2,jE,%[qO,∅,T.z_dict,nofun,%[%[1|0]|1],⋯,⋯,∅,∅|32]|4],%[%[3,jE,%[rows_for,%[%[2|0]|1]|3]|4],%[%[(PW.pt %[%[(Bd (aq hr.units)),%[2|0],%[1|0],(ar _)|13],%[%[%[%[_law_rows_are,%[%[3|0]|1]|3],(by intros;rfl)|27]|29],(@gq _ _ _ _ %[%[%[_law_leave,%[%[3|0],%[%[1|0]|1]|1]|3],(by intros;rfl)|27]|29])|26]|26]),%[%[(@eu _ _ _ _)|12]|10],(@av _)|14],%[%[4,jE,%[bP,∅,T.z_list,nofun,%[%[3|0]|1],⋯,⋯,∅,∅|32]|4],%[%[(@rY _ _ _ _ _ _ _ _ _ Ls PySem.F.slot_list_clear PySem.F.type_list_clear xb %[3|0] ∅ ∅),∅|19],%[%[5,jE,%[rows_for,%[%[1|0]|1]|3]|4],%[%[(PW.pt %[%[%[%[_law_rows_are,%[%[5|0]|1]|3],(by intros;rfl)|27]|29],%[%[%[%[_law_leave,%[%[5|0],%[%[1|0]|1]|1]|3],(by intros;rfl)|27]|29],(@gq _ _ _ _ %[(cN hr.units),%[len,aK,%[%[5|0]|1]|6],%[len,aK,%[%[4|0]|1]|6],(ar _)|13])|26]|26]),%[%[(@eu _ _ _ _)|12]|10],(@av _)|14],%[%[6,jE,%[aN,%[0|2],%[max,(qM rfl),%[(@AZ _ _ _ %[(["_law_cell", "_law_script", "_law_found_here", "_law_handed", "_law_rows", "_law_kept", "_law_again", "_law_room", "_law_values"]),(1),(bg (ae gE) ["_law_script", "_law_found_here", "_law_handed", "_law_rows", "_law_kept", "_law_again", "_law_room", "_law_values"] rfl rfl nofun),rfl,(@jM _ _ _ _ %[1|0]),(λ C s₀ H₀ ex pn=>%[(0),_,(show List.Nodup (["_law_cell", "_law_script", "_law_found_here", "_law_handed", "_law_rows", "_law_kept", "_law_again", "_law_room", "_law_values"]:List Str) from by decide +kernel),rfl,(Or.inl rfl),%[0|7]|18]),(λ C s₀ H₀ ex pn=>(@bu _)),(λ C s₀ H₀ ex pn=>%[max,(mx rfl),%[%[0|0],%[%[(aq hr.units),%[2|0],%[0|0],(λ _ _=>rfl)|33]|1]|1]|6]),(by intros;rfl)|24])|1]|6]|11]|4],%[%[%[m9,%[6|0],%[0|2],(ar _)|13],%[%[%[(dm hr.units),%[rows_for,%[(@bc _ _)|1]|3],%[(@cM _)|25],(ar _)|38]|12]|10],(@av _)|14],%[(@b8 _ _ (7) _ _ _ _ jE.nd rfl (Or.inr rfl) %[(["_law_k", "_law_script", "_law_found_here", "_law_handed", "_law_rows", "_law_kept", "_law_again", "_law_room", "_law_values"]),(1),(bg (ae gE) ["_law_script", "_law_found_here", "_law_handed", "_law_rows", "_law_kept", "_law_again", "_law_room", "_law_values"] rfl rfl nofun),rfl,%[∅,T.z_range,%[%[6|0]|1],∅|31],(λ C s₀ H₀ ex pn=>%[(0),_,(show List.Nodup (["_law_k", "_law_script", "_law_found_here", "_law_handed", "_law_rows", "_law_kept", "_law_again", "_law_room", "_law_values"]:List Str) from by decide +kernel),rfl,(Or.inl rfl),%[0|7]|18]),(λ C s₀ H₀ ex pn=>(@bu _)),(λ C s₀ H₀ ex pn=>%[aN,%[_law_draw,%[%[1|0],%[%[aN,%[0|2],%[ja,%[0|0],%[0|2]|11]|11],%[%[lu,%[0|2],%[0|2]|11]|1]|1]|1]|3],%[0|0]|11]),(by intros;rfl)|24] ∅ %[0|7]),%[%[%[%[%[_law_on_store,%[%[4|0],%[%[7|0],%[%[(["_law_cell", "_law_script", "_law_found_here", "_law_handed", "_law_rows", "_law_kept", "_law_again", "_law_room", "_law_values"]),(1),(bg (ae gE) ["_law_script", "_law_found_here", "_law_handed", "_law_rows", "_law_kept", "_law_again", "_law_room", "_law_values"] rfl rfl nofun),rfl,%[∅,T.z_range,%[%[6|0]|1],∅|31],(λ C s₀ H₀ ex pn=>%[(0),_,(show List.Nodup (["_law_cell", "_law_script", "_law_found_here", "_law_handed", "_law_rows", "_law_kept", "_law_again", "_law_room", "_law_values"]:List Str) from by decide +kernel),rfl,(Or.inl rfl),%[0|7]|18]),(λ C s₀ H₀ ex pn=>(@bu _)),(λ C s₀ H₀ ex pn=>%[gm,%[8|0],%[(aq hr.units),%[2|0],%[0|0],%[0|0],⟨by rfl,by rfl,by rfl,by rfl⟩|39],(λ _ _=>rfl)|15]),(by intros;rfl)|24]|1]|1]|1]|3],(by intros;rfl)|27]|29],%[%[(@eu _ _ _ _)|12]|10],(@av _)|14],%[%[%[_law_own_right,%[%[_law_own_rows,%[%[0|0],%[%[6|0]|1]|1]|3],%[%[7|0]|1]|1]|3]|12]|10]|9]|9]|9]|9]|9]|9]|9]|9]|9]|9]|9]|9]|9],?_⟩;rw [show start ["_law_script", "_law_found_here", "_law_handed", "_law_rows", "_law_kept", "_law_again", "_law_room", "_law_values"] [.ref a]=[some (.ref a),none,none,none,none,none,none,none] from rfl];clear G__law_draw G__law_long G__law_found G__law_leave G__law_rows_are G__law_on_store G__law_own_rows G__law_own_right G_rows_for;exists kk;have w01:=fG ns 2 3 ⋯;ac_rfl;rw [GW];refine⟨rfl,hS,hl,λ kv0 d0 H1 hnd hne h50 hnn hd1 e1 h1=>?_⟩;have hS1:=e1.2 K a _ hS;have fd0:FdI kv0:=⟨hnd,hne,by omega,.inl (by rw [Lc];omega),mj %[0|8],hnn⟩;exists fd0;clear hnd hne hnn;simp! only [-jb];refine oN (λ σ' H'=>∃ (d:Addr) (kv:List (Int × Int)),σ'=[some (.ref a),some (.ref d),none,none,none,none,none,none]/\Ext H H'/\H' d=some (.dK (aj kv))/\FdI kv) (λ nx' hnx=>?_) ?_
  ·exists hnx;ac_rfl;rw [cO];refine⟨hS1,hl,⟨by decide,by decide⟩,by decide,?_⟩;generalize bV ns 0 8=z
   by_cases hz:z=5
   ·ac_rfl;rw [GU];refine⟨rfl,hS1,hl,λ m x d H2 hm hx hd2 e2 h2=>?_⟩;have hlen:(lng m (bV ns 2 3) x (bV ns 4 2)).length<=4200:=by have:=sM m (bV ns 2 3) x (bV ns 4 2);omega
    have k':=hnx () [some (.ref a),some (.ref d),none,none,none,none,none,none] H2 ⟨d,_,rfl,e1.trans e2,h2,⟨Gb _ _ _ _,Ga %[0|8],hlen,xA _ _ _ _,Cg w01.1 %[0|8] hx,FZ ⟨by omega,by omega⟩ hx⟩⟩;clear hnx h1 h2;ac_rfl
   ·have k':=hnx () [some (.ref a),some (.ref d0),none,none,none,none,none,none] H1 ⟨d0,kv0,rfl,e1,h1,fd0 ()⟩;clear hnx h1;ac_rfl
  rintro _ H2 ⟨d,kv,rfl,e2,h2,fd⟩;have hkl:=fd.len;exists fd;clear h1 hS1 fd0 e1 hd1 h50;ac_rfl;refine wg h2 (aA (by rw [az];omega)) ?_;intro d2 H3 hd3 e3 h3;have h2_3:=e3.at h2;clear h2;ac_rfl;rw [su];refine⟨kv,h3,(fd ()).nd,hkl,(fd ()).easy,(fd ()).few,(fd ()).nn,λ rows W H4 hR hRl hW e4 tw=>?_⟩;have h3_4:=e4.at h3;have h2_4:=e4.at h2_3;have e04:=e2.trans (e3.trans e4);exists hR;clear h3 h2_3;have hge:∀ p∈rows,-1<=p.1/\-1<=p.2:=λ p hp=>⟨(fd ()).ink ((hR ()).2.1 p hp).1,(fd ()).ink ((hR ()).2.1 p hp).2⟩;exists hge;exists tw;ac_rfl;refine As h3_4 h2_4 (AF kv) (Ek (fd ()).nd) ?_;ac_rfl;rw [yR];refine⟨rows,tw (),hge (),?_⟩;ac_rfl;rw [yS];refine⟨rows,kv,tw (),hRl,h2_4,hkl,(hR ()).1,λ H5 e5=>?_⟩;obtain⟨ys,W5,al5⟩:=(tw ()).ext e5;have h2_5:=e5.at h2_4;have hyl:ys.length=rows.length:=al5.1;have e05:=e04.trans e5;have hW0:H W=none:=oP (e2.trans e3) hW;exists al5;exists hyl;clear h3_4 h2_4 tw hge;ac_rfl;intro kp H6 hkp e6 h6;have W6:=e6.at W5;have h2_6:=e6.at h2_5;have nkW:kp ≠ W:=λ z=>by rw [z,W5] at hkp;cases hkp
  have ndW:d ≠ W:=λ z=>by rw [z,W5] at h2_5;cases h2_5
  have e06:=e05.trans e6;have tw6:TwL H6 kp rows:=⟨ys,h6,(al5 ()).imp λ _ _ z=>z.ext e6⟩;exists tw6;have e07:Ext H (upd H6 W (.lst [])):=e06.put hW0;have h2_7:upd H6 W (.lst []) d=some (.dK (aj kv)):=by rw [af ndW];exact h2_6
  have tw7:TwL (upd H6 W (.lst [])) kp rows:=⟨ys,by rw [af nkW];exact h6,(al5 ()).imp λ _ _ z=>(z.ext e6).upd W6⟩;have kp7:upd H6 W (.lst []) kp=some (.lst ys):=by rw [af nkW];exact h6
  clear W5 h2_5;ac_rfl;generalize upd H6 W (.lst [])=H7 at e07 h2_7 tw7 kp7 ⊢;exists tw7;clear W6 h2_6 h6 tw6 al5 hkp e6 nkW ndW;rw [su];refine⟨kv,h2_7,(fd ()).nd,hkl,(fd ()).easy,(fd ()).few,(fd ()).nn,λ rows2 W2 H8 hR2 hRl2 hW2 e8 tw8=>?_⟩;have h2_8:=e8.at h2_7;have kp8:=e8.at kp7;have e08:=e07.trans e8;obtain⟨L,hL⟩:=hR2.2.2.2;have hl12:rows2.length=rows.length:=by rw [hR2.2.2.1 L hL,(hR ()).2.2.1 L hL]
  have hge2:∀ p∈rows2,-1<=p.1/\-1<=p.2:=λ p hp=>⟨(fd ()).ink (hR2.2.1 p hp).1,(fd ()).ink (hR2.2.1 p hp).2⟩;have hrun2:=hR2.1;exists hl12;exists hge2;exists hrun2;exists tw8;have tw7':=λ (_:Unit)=>(tw7 ()).ext e8;clear h2_7 kp7 hR2 hL tw7;ac_rfl;rw [yR];refine⟨rows2,tw8 (),hge2 (),?_⟩;ac_rfl;rw [yS];refine⟨rows2,kv,tw8 (),hRl2,h2_8,hkl,hrun2 (),λ H9 e9=>?_⟩;obtain⟨ys2,W9,al9⟩:=(tw8 ()).ext e9;have h2_9:=e9.at h2_8;have kp9:=e9.at kp8;have tw9:=λ (_:Unit)=>(tw7' ()).ext e9;have e09:=e08.trans e9;have heq:(ys2.length:Int)=(ys.length:Int):=by have h1:=al9.1;have h2:=hyl ();have h3:=hl12 ();omega
  clear h2_8 kp8 tw8 tw7' al9;ac_rfl;clear heq W9 kp9;refine yv (λ _=>true) mxV h2_9 (aA (by rw [az];omega)) ?_ ?_
  ·intro D ob z H10 N1 N0 hz hD e10 f10 k1 k0;obtain⟨p,hp,rfl⟩:=Le.mp hz;have hvv:cJ (aj kv) (.inl p.1)=some (.int p.2):=by rw [ao,aO (fd ()).nd (show (p.1,p.2)∈kv from hp)];rfl
   rw [show kV ((Sum.inl p.1:Key),V.int p.2).1=V.int p.1 from rfl];have j1:N1 (.int (if p.1 < p.2 then p.2 else p.1)) H10:=k1 rfl H10 (Ext.refl _);generalize p.1=p1 at hvv j1 ⊢;generalize p.2=p2 at hvv j1 ⊢;clear hz hp h2_9 k1 k0 kk;simp! only [↓aV,↓bo];refine jH (k:=.inl p1) f10 hvv ?_;simp! only [↓aV,↓bo]
  ·intro D H10 hD e10 h10;rw [Bj] at h10;have h2_10:=e10.at h2_9;have tw10:=λ (_:Unit)=>(tw9 ()).ext e10;have e010:=e09.trans e10;have hmp:0 < (mxL kv).length:=by unfold mxL;rw [length_map];exact List.length_pos_iff.mpr (fd ()).ne
   clear h2_9 tw9;ac_rfl;refine⟨hmp,λ M hMm hMa=>?_⟩
   have hM0:0<=M:=by
    obtain⟨p,hp,rfl⟩:=Le.mp hMm;have:=(fd ()).nn p.1 p.2 (aO (fd ()).nd hp)
    split<;>omega
   have hroom:=λ (_:Unit)=>λ (x:Int) (hx:InK kv x)=>(fd ()).room hMa hx
   have hfh:∀ x:Int,0<=x->x < 1+M->0<=ck kv x/\ck kv x < 1+M:=λ x h0 h1=>by
    unfold ck
    cases e:aa kv x with
    | none=>exact⟨h0,h1⟩
    | some v=>
     have g1:=((fd ()).nn x v e).2;have g2:=(hroom () v (.inr (.inr (Le.mpr ⟨(x,v),bK e,rfl⟩)))).2
     show 0<=v/\v < 1+M
     omega
   exists hfh;have hS10:=e010.2 K a _ hS;clear hMm hMa h10 hmp
   by_cases hbig:4096 < 1+M
   ·ac_rfl;intro em H11 hem e11 h11;ac_rfl;rw [su];refine⟨[],h11,Mg,by simp,.inl (by simp),mj (by simp),(λ _ _ h=>by cases h),λ rows3 W3 H12 hR3 _ _ e12 tw12=>?_⟩;obtain rfl:=wD hR3;obtain⟨ys3,W12,al12⟩:=tw12;obtain rfl:ys3=[]:=Nz al12.1;clear al12 h11 h2_10 hS10;ac_rfl;intro ee H13 hee e13 h13;have W13:=e13.at W12;have k':=kk () H13;clear kk W12;ac_rfl
   ·ac_rfl;refine⟨by omega,by omega,?_⟩;refine bX (List.range (1+M).toNat) (λ _=>true) (λ j=>.int (bV ns (5+(j:Int) % 50) 100000000000000000000000000000000000000000000000000000000000+(j:Int))) (λ j x _=>x=.int (0+(j:Int))) dj.1 (by simpa using dj.2) (aA (by rw [Mo];omega)) ?_ ?_
    ·rintro D2 j y H11 N1 N0 hj hD2 e11 rfl k1 k0;simp only [ML];have hS11:=e11.2 K a _ hS10;have k1':=k1 rfl H11 (Ext.refl _);have hj5:0<=(j:Int) % 50/\(j:Int) % 50 < 50:=⟨Md _ ⋯,LZ _ ⋯⟩;clear k1 k0 kk hj h2_10 hS10;ac_rfl;rw [cO];refine⟨hS11,hl,⟨by omega,by omega⟩,by decide,?_⟩;ac_rfl
    ·intro V1 H11 hV1 e11 h11;obtain⟨vals,hvals⟩:∃ vals:List Int,vals=(List.range (1+M).toNat).map λ (j:Nat)=>bV ns (5+(j:Int) % 50) 100000000000000000000000000000000000000000000000000000000000+(j:Int):=⟨_,rfl⟩;have hvl:(vals.length:Int)=1+M:=by rw [hvals,Lc,Mo];omega
     have v11:H11 V1=some (.lst (vals.map V.int)):=by rw [h11,hvals,L7.mpr (λ _ _=>rfl),LV];rfl
     have h2_11:=e11.at h2_10;have tw11:=λ (_:Unit)=>(tw10 ()).ext e11;have e011:=e010.trans e11;have hS11:=e11.2 K a _ hS10;clear h11 hvals h2_10 tw10 hS10;exists hvl;ac_rfl;refine⟨by omega,by omega,?_⟩;refine bX (List.range (1+M).toNat) (λ _=>true) (λ j=>.int (vals.getD (ck kv (j:Int)).toNat 0)) (λ j x _=>x=.int (0+(j:Int))) dj.1 (by simpa using dj.2) (aA (by rw [Mo];omega)) ?_ ?_
     ·rintro D2 j y H12 N1 N0 hj hD2 e12 rfl k1 k0;simp only [ML];have hj':=LF.mp hj;have h2_12:=e12.at h2_11;have v12:=e12.at v11;have hfj:=hfh () (j:Int) %[0|8] %[0|8];have hat:atI (vals.map V.int) (ck kv (j:Int))=some (.int (vals.getD (ck kv (j:Int)).toNat 0)):=tK hfj.1 (by rw [hvl ()];exact hfj.2)
      have hgv:((aa kv (j:Int)).map V.int).getD (.int (j:Int))=.int (ck kv (j:Int)):=by unfold ck;cases aa kv (j:Int)<;>rfl
      have k1':=k1 rfl H12 (Ext.refl _);clear k1 k0 kk hj h2_11 v11 hS11 hfj;ac_rfl;refine eQ h2_12 ?_;ac_rfl;refine g6 (k:=.inl (j:Int)) h2_12 ?_;rw [ao,hgv];ac_rfl
     ·intro D3 H12 hD3 e12 h12;obtain⟨due,hdue⟩:∃ due:List Int,due=(List.range vals.length).map λ (j:Nat)=>vals.getD (ck kv (j:Int)).toNat 0:=⟨_,rfl⟩;have hvn:(1+M).toNat=vals.length:=by have:=hvl ();omega
      have d12:H12 D3=some (.lst (due.map V.int)):=by rw [h12,hdue,hvn,L7.mpr (λ _ _=>rfl),LV];rfl
      have v12:=e12.at v11;have tw12:=λ (_:Unit)=>(tw11 ()).ext e12;have hS12:=e12.2 K a _ hS11
      have hri:eK rows vals.length:=λ p hp=>by
       have g:=(hR ()).2.1 p hp;have g1:=hroom () p.1 g.1;have g2:=hroom () p.2 g.2;have g3:=hvl ();exact⟨⟨g1.1,by omega⟩,⟨g2.1,by omega⟩⟩
      have hld:∀ ws,jd vals rows ws->ws=due:=λ ws lb=>by
       rw [hdue];exact xH (hR ()).1 (λ x h0 h1=>by have:=hfh () x h0 (by rw [←hvl ()];exact h1);rw [hvl ()];exact this) lb
      have hv1:1<=vals.length:=by have:=hvl ();omega
      have hv4:vals.length<=4096:=by have:=hvl ();omega
      exists hri;exists hld;clear h12 hdue v11 h2_11 hS11 tw11;exists hvn;ac_rfl;rw [GR];refine⟨rows,vals,due,tw12 (),hRl,v12,d12,hv1,hv4,hri (),hld (),λ H13 e13=>?_⟩;have hS13:=e13.2 K a _ hS12;have v13:=e13.at v12;clear v12 d12 hS12 tw12 hri hld;ac_rfl;rw [GP];refine⟨rfl,hS13,hl,⟨by omega,by omega⟩,λ rows4 W4 H14 hin4 hl4 hW4 e14 tw14=>?_⟩;rw [hvn ()] at hin4;have v14:=e14.at v13;exists tw14;exists hin4;clear v13 hS13;ac_rfl;rw [GQ];refine⟨rows4,vals,tw14 (),hl4,v14,hv1,hv4,hin4 (),λ H15=>?_⟩;have k':=kk () H15;clear kk v14;ac_rfl
end
theorem Km{l:W.OpenLaw}{w:World}{K:W.Frag}{h:Heap}{mg:Str->Option Value}{fa:Addr}(X:K.In h)(G:h.Ns mainGlobals mg)(hfa:mg "law"=some (.ref fa))
  {C0:Addr} (y0:W.nsIn K mainGlobals "PaceError"=some (some (.ref C0)))
  {C1:Addr} (y1:W.nsIn K mainGlobals "NoPlace"=some (some (.ref C1)))
  {C2:Addr} (y2:W.nsIn K mainGlobals "NoCells"=some (some (.ref C2)))
  {C3:Addr} (y3:W.nsIn K mainGlobals "NoView"=some (some (.ref C3)))
  {C4:Addr} (y4:W.nsIn K mainGlobals "NoCount"=some (some (.ref C4)))
  {C5:Addr} (y5:W.nsIn K mainGlobals "TooMany"=some (some (.ref C5)))
  {C6:Addr} (y6:W.nsIn K mainGlobals "View"=some (some (.ref C6)))
  {C7:Addr} (y7:W.nsIn K mainGlobals "Store"=some (some (.ref C7)))
  {f0:Addr} {d0:FuncData} (F0:Fun K "__init__" "TooMany.__init__" cD f0 d0)
  {f1:Addr} {d1:FuncData} (a1:W.nsIn K mainGlobals "is_whole"=some (some (.ref f1))) (F1:Fun K "is_whole" "is_whole" gc f1 d1)
  {f2:Addr} {d2:FuncData} (a2:W.nsIn K mainGlobals "count_of"=some (some (.ref f2))) (F2:Fun K "count_of" "count_of" gd f2 d2)
  {f3:Addr} {d3:FuncData} (a3:W.nsIn K mainGlobals "paces_of"=some (some (.ref f3))) (F3:Fun K "paces_of" "paces_of" gb f3 d3)
  {f4:Addr} {d4:FuncData} (a4:W.nsIn K mainGlobals "is_number_below"=some (some (.ref f4))) (F4:Fun K "is_number_below" "is_number_below" cR f4 d4)
  {f5:Addr} {d5:FuncData} (a5:W.nsIn K mainGlobals "is_place"=some (some (.ref f5))) (F5:Fun K "is_place" "is_place" jg f5 d5)
  {f6:Addr} {d6:FuncData} (a6:W.nsIn K mainGlobals "refuse_long"=some (some (.ref f6))) (F6:Fun K "refuse_long" "refuse_long" dc f6 d6)
  {f7:Addr} {d7:FuncData} (a7:W.nsIn K mainGlobals "is_within"=some (some (.ref f7))) (F7:Fun K "is_within" "is_within" eZ f7 d7)
  {f8:Addr} {d8:FuncData} (a8:W.nsIn K mainGlobals "is_size"=some (some (.ref f8))) (F8:Fun K "is_size" "is_size" ip f8 d8)
  {f9:Addr} {d9:FuncData} (a9:W.nsIn K mainGlobals "is_axis"=some (some (.ref f9))) (F9:Fun K "is_axis" "is_axis" iq f9 d9)
  {f10:Addr} {d10:FuncData} (a10:W.nsIn K mainGlobals "are_axes"=some (some (.ref f10))) (F10:Fun K "are_axes" "are_axes" eg f10 d10)
  {f11:Addr} {d11:FuncData} (a11:W.nsIn K mainGlobals "kept_axis"=some (some (.ref f11))) (F11:Fun K "kept_axis" "kept_axis" eY f11 d11)
  {f12:Addr} {d12:FuncData} (F12:Fun K "__init__" "View.__init__" bM f12 d12)
  {f13:Addr} {d13:FuncData} (F13:Fun K "sizes" "View.sizes" cv f13 d13)
  {f14:Addr} {d14:FuncData} (F14:Fun K "paces" "View.paces" gw f14 d14)
  {f15:Addr} {d15:FuncData} (F15:Fun K "count" "View.count" dQ f15 d15)
  {f16:Addr} {d16:FuncData} (F16:Fun K "cell" "View.cell" iE f16 d16)
  {f17:Addr} {d17:FuncData} (F17:Fun K "cells" "View.cells" dR f17 d17)
  {f18:Addr} {d18:FuncData} (F18:Fun K "least" "View.least" cw f18 d18)
  {f19:Addr} {d19:FuncData} (F19:Fun K "greatest" "View.greatest" bL f19 d19)
  {f20:Addr} {d20:FuncData} (a20:W.nsIn K mainGlobals "widened"=some (some (.ref f20))) (F20:Fun K "widened" "widened" fH f20 d20)
  {D21:Addr} {qc21:Value} {qd21:Option Addr} {qn21:Nat} {qs21:Array (Option Value)}
  {f21:Addr} {od21 an21:Option Addr} {sl21:Array (Option Value)} {oc21 kV21 dc21 pm21 cd21 ct21:Value}
  (a21:W.nsIn K mainGlobals "whole"=some (some (.ref f21))) (l21:K.lookup f21=some ⟨oc21,od21,.func (W.fnOf "whole" "whole" (cF fT) (bW fT) (ae fT) (.ref D21) kV21 dc21 pm21 an21 cd21 ct21),sl21⟩)
  (q21:K.lookup D21=some ⟨qc21,qd21,.seq #[Value.none] qn21,qs21⟩)
  (c21:W.codeIn K cd21 "whole"=true) (k21:W.keepIn K (.ref f21)=true)
  {f22:Addr} {d22:FuncData} (a22:W.nsIn K mainGlobals "refuse_count"=some (some (.ref f22))) (F22:Fun K "refuse_count" "refuse_count" cH f22 d22)
  {f23:Addr} {d23:FuncData} (F23:Fun K "__init__" "Store.__init__" bZ f23 d23)
  {f24:Addr} {d24:FuncData} (F24:Fun K "all_values" "Store.all_values" bN f24 d24)
  {f25:Addr} {d25:FuncData} (F25:Fun K "refuse_room" "Store.refuse_room" bz f25 d25)
  {f26:Addr} {d26:FuncData} (F26:Fun K "read" "Store.read" gx f26 d26)
  {f27:Addr} {d27:FuncData} (F27:Fun K "put" "Store.put" ff f27 d27)
  {f28:Addr} {d28:FuncData} (a28:W.nsIn K mainGlobals "ring_from"=some (some (.ref f28))) (F28:Fun K "ring_from" "ring_from" eX f28 d28)
  {f29:Addr} {d29:FuncData} (a29:W.nsIn K mainGlobals "least_first"=some (some (.ref f29))) (F29:Fun K "least_first" "least_first" df f29 d29)
  {f30:Addr} {d30:FuncData} (a30:W.nsIn K mainGlobals "drawn_from_beyond"=some (some (.ref f30))) (F30:Fun K "drawn_from_beyond" "drawn_from_beyond" bx f30 d30)
  {f31:Addr} {d31:FuncData} (a31:W.nsIn K mainGlobals "rings"=some (some (.ref f31))) (F31:Fun K "rings" "rings" jK f31 d31)
  {f32:Addr} {d32:FuncData} (a32:W.nsIn K mainGlobals "first_cell"=some (some (.ref f32))) (F32:Fun K "first_cell" "first_cell" dN f32 d32)
  {f33:Addr} {d33:FuncData} (a33:W.nsIn K mainGlobals "readers_of"=some (some (.ref f33))) (F33:Fun K "readers_of" "readers_of" dM f33 d33)
  {f34:Addr} {d34:FuncData} (a34:W.nsIn K mainGlobals "rows_beside_rings"=some (some (.ref f34))) (F34:Fun K "rows_beside_rings" "rows_beside_rings" aR f34 d34)
  {f35:Addr} {d35:FuncData} (a35:W.nsIn K mainGlobals "rows_round"=some (some (.ref f35))) (F35:Fun K "rows_round" "rows_round" dJ f35 d35)
  {f36:Addr} {d36:FuncData} (a36:W.nsIn K mainGlobals "rows_for"=some (some (.ref f36))) (F36:Fun K "rows_for" "rows_for" ef f36 d36)
  {f37:Addr} {d37:FuncData} (a37:W.nsIn K mainGlobals "run_rows"=some (some (.ref f37))) (F37:Fun K "run_rows" "run_rows" fZ f37 d37)
  {f38:Addr} {d38:FuncData} (a38:W.nsIn K mainGlobals "_law_draw"=some (some (.ref f38))) (F38:Fun K "_law_draw" "_law_draw" fe f38 d38)
  {f39:Addr} {d39:FuncData} (a39:W.nsIn K mainGlobals "_law_whole"=some (some (.ref f39))) (F39:Fun K "_law_whole" "_law_whole" dO f39 d39)
  {f40:Addr} {d40:FuncData} (a40:W.nsIn K mainGlobals "_law_names"=some (some (.ref f40))) (F40:Fun K "_law_names" "_law_names" cq f40 d40)
  {f41:Addr} {d41:FuncData} (a41:W.nsIn K mainGlobals "_law_blocks"=some (some (.ref f41))) (F41:Fun K "_law_blocks" "_law_blocks" dg f41 d41)
  {f42:Addr} {d42:FuncData} (a42:W.nsIn K mainGlobals "_law_found"=some (some (.ref f42))) (F42:Fun K "_law_found" "_law_found" cu f42 d42)
  {f43:Addr} {d43:FuncData} (a43:W.nsIn K mainGlobals "_law_long"=some (some (.ref f43))) (F43:Fun K "_law_long" "_law_long" fb f43 d43)
  {f44:Addr} {d44:FuncData} (a44:W.nsIn K mainGlobals "_law_rows_are"=some (some (.ref f44))) (F44:Fun K "_law_rows_are" "_law_rows_are" cb f44 d44)
  {f45:Addr} {d45:FuncData} (a45:W.nsIn K mainGlobals "_law_run"=some (some (.ref f45))) (F45:Fun K "_law_run" "_law_run" gf f45 d45)
  {f46:Addr} {d46:FuncData} (a46:W.nsIn K mainGlobals "_law_leave"=some (some (.ref f46))) (F46:Fun K "_law_leave" "_law_leave" dP f46 d46)
  {f47:Addr} {d47:FuncData} (a47:W.nsIn K mainGlobals "_law_on_store"=some (some (.ref f47))) (F47:Fun K "_law_on_store" "_law_on_store" cf f47 d47)
  {f48:Addr} {d48:FuncData} (a48:W.nsIn K mainGlobals "_law_own_rows"=some (some (.ref f48))) (F48:Fun K "_law_own_rows" "_law_own_rows" cc f48 d48)
  {f49:Addr} {d49:FuncData} (a49:W.nsIn K mainGlobals "_law_own_right"=some (some (.ref f49))) (F49:Fun K "_law_own_right" "_law_own_right" bt f49 d49)
  {f50:Addr} {od50 an50:Option Addr} {sl50:Array (Option Value)} {oc50 kV50 dc50 pm50 cd50 ct50:Value}
  (a50:W.nsIn K mainGlobals "law"=some (some (.ref f50))) (l50:K.lookup f50=some ⟨oc50,od50,.func (W.fnOf "law" "law" (cF gE) (bW gE) (ae gE) .none kV50 dc50 pm50 an50 cd50 ct50),sl50⟩)
  (c50:W.codeIn K cd50 "law"=true) (k50:W.keepIn K (.ref f50)=true)
  (fi_TooMany:W.findIn K (.ref C5) "__init__"=some (some (.ref f0)))
  (xe_TooMany:yO K C5 f0 [.type "ValueError",.type "Exception",.type "BaseException",.type "object"] "ValueError.__new__"=true)
  (xf_TooMany:W.typeIn K (.ref f0)=some (.type "function"))
  (xo_TooMany:sW K C5=true)
  (xs_TooMany:W.findIn K (.ref C5) "__setattr__"=some (some (.builtin "object.__setattr__")))
  (xh_TooMany:W.hasDictIn K C5=true)
  (nt_TooMany_number:W.takerIn K C5 "number"=some none)
  (nf_TooMany_number:W.findIn K (.ref C5) "number"=some none)
  (bs_PaceError:W.specialIn K (.ref C0) "__getattribute__"=some (some (.builtin "type.__getattribute__")))
  (br_PaceError:W.readsIn K C0 (.type "type")=true)
  (bf_PaceError:W.findCls K (.ref C0) (.type "type") "__init__"=some (.val (.builtin "ValueError.__init__")))
  (pg_View:W.plainGet K C6 Str.empty=true)
  (hd_View:W.hasDictIn K C6=true)
  (po_View:W.plainOver K C6=true)
  (sa_View:W.findIn K (.ref C6) "__setattr__"=some (some (.builtin "object.__setattr__")))
  (nf_View_axes:W.findIn K (.ref C6) "axes"=some none)
  (nf_View_first:W.findIn K (.ref C6) "first"=some none)
  (nf_View_room:W.findIn K (.ref C6) "room"=some none)
  (fi_View___init__:W.findIn K (.ref C6) "__init__"=some (some (.ref f12)))
  (fn_View___init__:W.isFn K (.ref f12)=true)
  (mm_View:W.makesIn K C6=true)
  (ck_View:W.keepIn K (.ref C6)=true)
  (fi_View_sizes:W.findIn K (.ref C6) "sizes"=some (some (.ref f13)))
  (fn_View_sizes:W.isFn K (.ref f13)=true)
  (fi_View_paces:W.findIn K (.ref C6) "paces"=some (some (.ref f14)))
  (fn_View_paces:W.isFn K (.ref f14)=true)
  (fi_View_count:W.findIn K (.ref C6) "count"=some (some (.ref f15)))
  (fn_View_count:W.isFn K (.ref f15)=true)
  (fi_View_cell:W.findIn K (.ref C6) "cell"=some (some (.ref f16)))
  (fn_View_cell:W.isFn K (.ref f16)=true)
  (fi_View_cells:W.findIn K (.ref C6) "cells"=some (some (.ref f17)))
  (fn_View_cells:W.isFn K (.ref f17)=true)
  (fi_View_least:W.findIn K (.ref C6) "least"=some (some (.ref f18)))
  (fn_View_least:W.isFn K (.ref f18)=true)
  (fi_View_greatest:W.findIn K (.ref C6) "greatest"=some (some (.ref f19)))
  (fn_View_greatest:W.isFn K (.ref f19)=true)
  (pg_Store:W.plainGet K C7 Str.empty=true)
  (hd_Store:W.hasDictIn K C7=true)
  (po_Store:W.plainOver K C7=true)
  (sa_Store:W.findIn K (.ref C7) "__setattr__"=some (some (.builtin "object.__setattr__")))
  (nf_Store_floor:W.findIn K (.ref C7) "floor"=some none)
  (fi_Store___init__:W.findIn K (.ref C7) "__init__"=some (some (.ref f23)))
  (fn_Store___init__:W.isFn K (.ref f23)=true)
  (mm_Store:W.makesIn K C7=true)
  (ck_Store:W.keepIn K (.ref C7)=true)
  (fi_Store_all_values:W.findIn K (.ref C7) "all_values"=some (some (.ref f24)))
  (fn_Store_all_values:W.isFn K (.ref f24)=true)
  (fi_Store_refuse_room:W.findIn K (.ref C7) "refuse_room"=some (some (.ref f25)))
  (fn_Store_refuse_room:W.isFn K (.ref f25)=true)
  (fi_Store_read:W.findIn K (.ref C7) "read"=some (some (.ref f26)))
  (fn_Store_read:W.isFn K (.ref f26)=true)
  (fi_Store_put:W.findIn K (.ref C7) "put"=some (some (.ref f27)))
  (fn_Store_put:W.isFn K (.ref f27)=true)
  {tk0:Tok} (w0:W.nsIn K mainGlobals "MOST_TOLD"=some (some (.int 4096 tk0)))
  {tk1:Tok} (w1:W.nsIn K mainGlobals "MOST_ROOM"=some (some (.int 1000000000000000000 tk1)))
  {tk2:Tok} (w2:W.nsIn K mainGlobals "MOST_SIZE"=some (some (.int 1000000000 tk2)))
  {tk3:Tok} (w3:W.nsIn K mainGlobals "MOST_AXES"=some (some (.int 8 tk3)))
  {tk4:Tok} (w4:W.nsIn K mainGlobals "SPARE"=some (some (.int (-1) tk4)))
  (z0:W.nsIn K mainGlobals "ValueError"=some none)
  (z1:W.nsIn K mainGlobals "all"=some none)
  (z2:W.nsIn K mainGlobals "any"=some none)
  (z3:W.nsIn K mainGlobals "bool"=some none)
  (z4:W.nsIn K mainGlobals "dict"=some none)
  (z5:W.nsIn K mainGlobals "int"=some none)
  (z6:W.nsIn K mainGlobals "isinstance"=some none)
  (z7:W.nsIn K mainGlobals "len"=some none)
  (z8:W.nsIn K mainGlobals "list"=some none)
  (z9:W.nsIn K mainGlobals "max"=some none)
  (z10:W.nsIn K mainGlobals "min"=some none)
  (z11:W.nsIn K mainGlobals "range"=some none)
  (z12:W.nsIn K mainGlobals "reversed"=some none)
  (z13:W.nsIn K mainGlobals "sorted"=some none)
  (z14:W.nsIn K mainGlobals "sum"=some none)
  (z15:W.nsIn K mainGlobals "tuple"=some none)
  (z16:W.nsIn K mainGlobals "zip"=some none)
  : ∃ fd:FuncData,(∀ (s:Shared) (v:Value),BindsTo s fd ⟨[v],[]⟩ [("_law_script",v)])/\∀ base:Heap,K.In base->base.Ns mainGlobals mg->bj l.prog w K mg base CX0 11 fa fd ["_law_script"] (rn K):=by
 have e:=hfa.symm.trans (LK X G a50);cases e;have F21:=CG (st:=fT) l21 c21 k21;have F50:=GH (st:=gE) l50 c50 k50;have T:Tx K mg ⟨C0,C1,C2,C3,C4,C5,C6,C7,f0,_,f1,_,f2,_,f3,_,f4,_,f5,_,f6,_,f7,_,f8,_,f9,_,f10,_,f11,_,f12,_,f13,_,f14,_,f15,_,f16,_,f17,_,f18,_,f19,_,f20,_,f21,_,f22,_,f23,_,f24,_,f25,_,f26,_,f27,_,f28,_,f29,_,f30,_,f31,_,f32,_,f33,_,f34,_,f35,_,f36,_,f37,_,f38,_,f39,_,f40,_,f41,_,f42,_,f43,_,f44,_,f45,_,f46,_,f47,_,f48,_,f49,_,fa,_⟩:=⟨LK X G y0,LK X G y1,LK X G y2,LK X G y3,LK X G y4,LK X G y5,LK X G y6,LK X G y7,⟨_,LK X G w0⟩,⟨_,LK X G w1⟩,⟨_,LK X G w2⟩,⟨_,LK X G w3⟩,⟨_,LK X G w4⟩,⟨xe_TooMany,xf_TooMany,⟨xo_TooMany,xs_TooMany,xh_TooMany⟩⟩,nt_TooMany_number,nf_TooMany_number,⟨bs_PaceError,br_PaceError,bf_PaceError⟩,⟨pg_View,hd_View,po_View,sa_View⟩,nf_View_axes,nf_View_first,nf_View_room,⟨mm_View,fi_View___init__,fn_View___init__,ck_View⟩,⟨fi_View_sizes,fn_View_sizes,F13.kp⟩,⟨fi_View_paces,fn_View_paces,F14.kp⟩,⟨fi_View_count,fn_View_count,F15.kp⟩,⟨fi_View_cell,fn_View_cell,F16.kp⟩,⟨fi_View_cells,fn_View_cells,F17.kp⟩,⟨fi_View_least,fn_View_least,F18.kp⟩,⟨fi_View_greatest,fn_View_greatest,F19.kp⟩,⟨pg_Store,hd_Store,po_Store,sa_Store⟩,nf_Store_floor,⟨mm_Store,fi_Store___init__,fn_Store___init__,ck_Store⟩,⟨fi_Store_all_values,fn_Store_all_values,F24.kp⟩,⟨fi_Store_refuse_room,fn_Store_refuse_room,F25.kp⟩,⟨fi_Store_read,fn_Store_read,F26.kp⟩,⟨fi_Store_put,fn_Store_put,F27.kp⟩,F0,F0.binds (ps:=["self", "number"]) (λ _ _ _ _ _ _=>k8 (λ _ _=>rfl)),F1,LK X G a1,F1.binds (ps:=["thing"]) (λ _ _ _ _ _ _=>fR (λ _=>rfl)),F2,LK X G a2,F2.binds (ps:=["sizes"]) (λ _ _ _ _ _ _=>fR (λ _=>rfl)),F3,LK X G a3,F3.binds (ps:=["sizes"]) (λ _ _ _ _ _ _=>fR (λ _=>rfl)),F4,LK X G a4,F4.binds (ps:=["thing", "bound"]) (λ _ _ _ _ _ _=>k8 (λ _ _=>rfl)),F5,LK X G a5,F5.binds (ps:=["sizes", "thing"]) (λ _ _ _ _ _ _=>k8 (λ _ _=>rfl)),F6,LK X G a6,F6.binds (ps:=["count"]) (λ _ _ _ _ _ _=>fR (λ _=>rfl)),F7,LK X G a7,F7.binds (ps:=["thing", "low", "high"]) (λ _ _ _ _ _ _=>zu (λ _ _ _=>rfl)),F8,LK X G a8,F8.binds (ps:=["thing"]) (λ _ _ _ _ _ _=>fR (λ _=>rfl)),F9,LK X G a9,F9.binds (ps:=["thing"]) (λ _ _ _ _ _ _=>fR (λ _=>rfl)),F10,LK X G a10,F10.binds (ps:=["thing"]) (λ _ _ _ _ _ _=>fR (λ _=>rfl)),F11,LK X G a11,F11.binds (ps:=["axis"]) (λ _ _ _ _ _ _=>fR (λ _=>rfl)),F12,F12.binds (ps:=["self", "room", "first", "axes"]) (λ _ _ _ _ _ _=>KH (λ _ _ _ _=>rfl)),F13,F13.binds (ps:=["self"]) (λ _ _ _ _ _ _=>fR (λ _=>rfl)),F14,F14.binds (ps:=["self"]) (λ _ _ _ _ _ _=>fR (λ _=>rfl)),F15,F15.binds (ps:=["self"]) (λ _ _ _ _ _ _=>fR (λ _=>rfl)),F16,F16.binds (ps:=["self", "place"]) (λ _ _ _ _ _ _=>k8 (λ _ _=>rfl)),F17,F17.binds (ps:=["self"]) (λ _ _ _ _ _ _=>fR (λ _=>rfl)),F18,F18.binds (ps:=["self"]) (λ _ _ _ _ _ _=>fR (λ _=>rfl)),F19,F19.binds (ps:=["self"]) (λ _ _ _ _ _ _=>fR (λ _=>rfl)),F20,LK X G a20,F20.binds (ps:=["cells", "size", "pace"]) (λ _ _ _ _ _ _=>zu (λ _ _ _=>rfl)),F21,LK X G a21,(λ s us hin hl=>match us,(show us.length=2 by simp only [Ln,LR,OX] at hl;omega) with|[_,_],_=>BindsTo.of_defaults rfl (hin _ _ q21) rfl rfl rfl),(λ s us hin hl=>match us,(show us.length=1 by simp only [Ln,LR,OX] at hl;omega) with|[_],_=>BindsTo.of_defaults rfl (hin _ _ q21) rfl rfl rfl),F22,LK X G a22,F22.binds (ps:=["view", "many"]) (λ _ _ _ _ _ _=>k8 (λ _ _=>rfl)),F23,F23.binds (ps:=["self", "values"]) (λ _ _ _ _ _ _=>k8 (λ _ _=>rfl)),F24,F24.binds (ps:=["self"]) (λ _ _ _ _ _ _=>fR (λ _=>rfl)),F25,F25.binds (ps:=["self", "view"]) (λ _ _ _ _ _ _=>k8 (λ _ _=>rfl)),F26,F26.binds (ps:=["self", "view"]) (λ _ _ _ _ _ _=>k8 (λ _ _=>rfl)),F27,F27.binds (ps:=["self", "view", "values"]) (λ _ _ _ _ _ _=>zu (λ _ _ _=>rfl)),F28,LK X G a28,F28.binds (ps:=["found", "start", "walked"]) (λ _ _ _ _ _ _=>zu (λ _ _ _=>rfl)),F29,LK X G a29,F29.binds (ps:=["ring"]) (λ _ _ _ _ _ _=>fR (λ _=>rfl)),F30,LK X G a30,F30.binds (ps:=["found", "ring_of"]) (λ _ _ _ _ _ _=>k8 (λ _ _=>rfl)),F31,LK X G a31,F31.binds (ps:=["found"]) (λ _ _ _ _ _ _=>fR (λ _=>rfl)),F32,LK X G a32,F32.binds (ps:=["ring"]) (λ _ _ _ _ _ _=>fR (λ _=>rfl)),F33,LK X G a33,F33.binds (ps:=["found"]) (λ _ _ _ _ _ _=>fR (λ _=>rfl)),F34,LK X G a34,F34.binds (ps:=["found"]) (λ _ _ _ _ _ _=>fR (λ _=>rfl)),F35,LK X G a35,F35.binds (ps:=["ring", "elsewhere"]) (λ _ _ _ _ _ _=>k8 (λ _ _=>rfl)),F36,LK X G a36,F36.binds (ps:=["found"]) (λ _ _ _ _ _ _=>fR (λ _=>rfl)),F37,LK X G a37,F37.binds (ps:=["store", "rows"]) (λ _ _ _ _ _ _=>k8 (λ _ _=>rfl)),F38,LK X G a38,F38.binds (ps:=["_law_script", "_law_k", "_law_many"]) (λ _ _ _ _ _ _=>zu (λ _ _ _=>rfl)),F39,LK X G a39,F39.binds (ps:=["_law_found_here"]) (λ _ _ _ _ _ _=>fR (λ _=>rfl)),F40,LK X G a40,F40.binds (ps:=["_law_script"]) (λ _ _ _ _ _ _=>fR (λ _=>rfl)),F41,LK X G a41,F41.binds (ps:=["_law_script", "_law_many"]) (λ _ _ _ _ _ _=>k8 (λ _ _=>rfl)),F42,LK X G a42,F42.binds (ps:=["_law_script"]) (λ _ _ _ _ _ _=>fR (λ _=>rfl)),F43,LK X G a43,F43.binds (ps:=["_law_script"]) (λ _ _ _ _ _ _=>fR (λ _=>rfl)),F44,LK X G a44,F44.binds (ps:=["_law_rows"]) (λ _ _ _ _ _ _=>fR (λ _=>rfl)),F45,LK X G a45,F45.binds (ps:=["_law_rows", "_law_held"]) (λ _ _ _ _ _ _=>k8 (λ _ _=>rfl)),F46,LK X G a46,F46.binds (ps:=["_law_rows", "_law_found_here"]) (λ _ _ _ _ _ _=>k8 (λ _ _=>rfl)),F47,LK X G a47,F47.binds (ps:=["_law_rows", "_law_values", "_law_due"]) (λ _ _ _ _ _ _=>zu (λ _ _ _=>rfl)),F48,LK X G a48,F48.binds (ps:=["_law_script", "_law_room"]) (λ _ _ _ _ _ _=>k8 (λ _ _=>rfl)),F49,LK X G a49,F49.binds (ps:=["_law_own", "_law_values"]) (λ _ _ _ _ _ _=>k8 (λ _ _=>rfl)),F50,LK X G a50,F50.binds (ps:=["_law_script"]) (λ _ _ _ _ _ _=>fR (λ _=>rfl)),Mb X G z0,Mb X G z1,Mb X G z2,Mb X G z3,Mb X G z4,Mb X G z5,Mb X G z6,Mb X G z7,Mb X G z8,Mb X G z9,Mb X G z10,Mb X G z11,Mb X G z12,Mb X G z13,Mb X G z14,Mb X G z15,Mb X G z16⟩;exact⟨W.fnOf "law" "law" (cF gE) (bW gE) (ae gE) .none kV50 dc50 pm50 an50 cd50 ct50,λ s v=>.of_eq rfl,λ base _ _=>EH T⟩
theorem walk{l:W.OpenLaw}{q:Program}{loose:List Str}{XP:(Str->Option Value)->Heap->Prop}{YP:World->Heap->Prop}{d:DefRec}{K:Params->W.Frag}(hn:l.most=some 63)(hdf:d.params.defaults=[])
  (hY:∀ (w:World) (h:Heap),YP w h->(K w.params).In h)
  (F:∀ (w:World) (mg:Str->Option Value) (fa:Addr) (h:Heap),(K w.params).In h->h.Ns mainGlobals mg->mg d.name=some (.ref fa) →
   ∃ fd:FuncData,(∀ (s:Shared) (u:Value),BindsTo s fd ⟨[u],[]⟩ [("_law_script",u)])/\∀ base:Heap,(K w.params).In base->base.Ns mainGlobals mg->bj l.prog w (K w.params) mg base CX0 11 fa fd ["_law_script"] (rn (K w.params))) :
  W.WalkO q loose XP YP l.row.toRowW d [] (λ f vs=>PySem.call f vs):=
 L2.JD (n:=63) (k:=11) (x := "_law_script") (CX:=λ _=>CX0) (sp:=λ w=>rn (K w.params)) hn ⋯ hdf ⟨rfl,by decide,by decide⟩ hY F (λ _ _ a ns hl _ hS=>⟨a,rfl,ns,hS,hl,λ _=>rfl⟩) λ _ _ _ _ _ z=>z
end PH
namespace PySem.W.Fast
def tw16430551494271624666:=0
def tw12592244398968911406:=0
def tw6306817525624303113:=0
def tw4346938981376569576:=0
def tw8395023507729675475:=0
def tw16177064447046312903:=0
def tw6979420302403666174:=0
def tw11308712834092471442:=0
def tw7701730302054044713:=0
def tw13535980231372449455:=0
def tw14343822416945447126:=0
def tw16773274110446478624:=0
def tw6985655239415763224:=0
def tw14195378583366811284:=0
def tw4896677213653834595:=0
def tw7197980528087259815:=0
def tw13876776133554911941:=0
def tw7919846666409433197:=0
def tw14730998060285500158:=0
def tw5942986573814745458:=0
def tw1119752806466530462:=0
def tw13883399257085707886:=0
def tw17895584384406525209:=0
def tw7086184111685932807:=0
def tw1367139935185555531:=0
def tw1497504925546854990:=0
def tw10602137030752944561:=0
def tw8185250099633990299:=0
def tw2470116039463409432:=0
def tw11245492649155607449:=0
def tw4161709750436560901:=0
def tw14880835490732697054:=0
def tw9643187083966084567:=0
def tw9667217122264004035:=0
def tw14232566219553105610:=0
def tw12159567199419891218:=0
def tw7356460550540945148:=0
def tw4662268889761918947:=0
def tw7656659270692592244:=0
def tw14881794028352425896:=0
def tw6529801405439644339:=0
def tw16275220164207382694:=0
def tw17996727917617653988:=0
def tw15226470617950027361:=0
def tw12884857175053324835:=0
def tw17768612921841719971:=0
def tw5915462941491348158:=0
def tw14807598351533137848:=0
def tw8886945790107335595:=0
def tw8890101305987678511:=0
def tw3334020202303069246:=0
def tw14863067816714547858:=0
def tw2110068295502970448:=0
def tw6148874729852665051:=0
def tw520691947766586671:=0
def tw16611989884891922595:=0
def tw4811451888480049664:=0
def tw15358155304543960092:=0
def tw9908062705967284073:=0
def tw14541801938748242986:=0
def tw16307442387718117701:=0
def tw16828391210650989486:=0
def tw16172983486978437843:=0
def tw8641860999934659432:=0
def tw16956254288201204586:=0
def tw15378270754550297009:=0
def tw6888240222308387763:=0
def tw427453365532481582:=0
def tw13275380265865287313:=0
def tw1244285658893883839:=0
def tw14190300841574477935:=0
def tw16038600191962751663:=0
def tw17862627972214217251:=0
def tw13346320712446142145:=0
def tw5279394616531026208:=0
def tw17460358217801147155:=0
def tw5458046398397291585:=0
def tw17304595910770368707:=0
def tw1363588109857668632:=0
def tw1570905002971648364:=0
def tw9929337531526186958:=0
def tw16244505148660928277:=0
def tw4526479360856576770:=0
def tw14879044904587565196:=0
def tw9995985857342460725:=0
def tw6872245450737114944:=0
def tw8809706430597910042:=0
def tw7099076299554690658:=0
def tw15932767625839100574:=0
def tw14189221038648752394:=0
def tw14811287384476833810:=0
def tw928432832064824774:=0
def tw6790900345300809411:=0
def tw8549963088215465373:=0
def tw2325366335810111299:=0
def tw3072221258120413530:=0
def tw3092684190365463882:=0
def tw16895736378947972810:=0
def tw9653566910916307694:=0
def tw4780754348179192028:=0
def tw5301685819153560330:=0
def tw5281543066552733018:=0
def tw6329646836615946181:=0
def tw5019437598260930974:=0
def tw6125931693933624378:=0
def tw14831363364997135458:=0
def tw13879222224442593269:=0
def tw15048376627251444242:=0
def tw7449212737017387298:=0
def tw193829752928219041:=0
def tw17886792601253554701:=0
end PySem.W.Fast
open PySem PySem.W PyProof.Rows
theorem PySem.Challenge.cw_pacehall_k65_rows_leave_the_copy_holds : PySem.Challenge.rw_pacehall_k65_rows_leave_the_copy.Holds := by
 w_on;o_law;k_head;(case hw=>w_witness2)
 k_fill
 refine PH.walk (l:=PySem.Challenge.rw_pacehall_k65_rows_leave_the_copy) rfl rfl (λ w h Y=>PySem.W.kIn_of Y) ?F
 case F=>
  intro w mg fa h KX G hmg
  refine' PH.Km KX G hmg ?y0 ?y1 ?y2 ?y3 ?y4 ?y5 ?y6 ?y7 ?F0 ?a1 ?F1 ?a2 ?F2 ?a3 ?F3 ?a4 ?F4 ?a5 ?F5 ?a6 ?F6 ?a7 ?F7 ?a8 ?F8 ?a9 ?F9 ?a10 ?F10 ?a11 ?F11 ?F12 ?F13 ?F14 ?F15 ?F16 ?F17 ?F18 ?F19 ?a20 ?F20 ?a21 ?l21 ?q21 ?c21 ?k21 ?a22 ?F22 ?F23 ?F24 ?F25 ?F26 ?F27 ?a28 ?F28 ?a29 ?F29 ?a30 ?F30 ?a31 ?F31 ?a32 ?F32 ?a33 ?F33 ?a34 ?F34 ?a35 ?F35 ?a36 ?F36 ?a37 ?F37 ?a38 ?F38 ?a39 ?F39 ?a40 ?F40 ?a41 ?F41 ?a42 ?F42 ?a43 ?F43 ?a44 ?F44 ?a45 ?F45 ?a46 ?F46 ?a47 ?F47 ?a48 ?F48 ?a49 ?F49 ?a50 ?l50 ?c50 ?k50 ?fi_TooMany ?xe_TooMany ?xf_TooMany ?xo_TooMany ?xs_TooMany ?xh_TooMany ?nt_TooMany_number ?nf_TooMany_number ?bs_PaceError ?br_PaceError ?bf_PaceError ?pg_View ?hd_View ?po_View ?sa_View ?nf_View_axes ?nf_View_first ?nf_View_room ?fi_View___init__ ?fn_View___init__ ?mm_View ?ck_View ?fi_View_sizes ?fn_View_sizes ?fi_View_paces ?fn_View_paces ?fi_View_count ?fn_View_count ?fi_View_cell ?fn_View_cell ?fi_View_cells ?fn_View_cells ?fi_View_least ?fn_View_least ?fi_View_greatest ?fn_View_greatest ?pg_Store ?hd_Store ?po_Store ?sa_Store ?nf_Store_floor ?fi_Store___init__ ?fn_Store___init__ ?mm_Store ?ck_Store ?fi_Store_all_values ?fn_Store_all_values ?fi_Store_refuse_room ?fn_Store_refuse_room ?fi_Store_read ?fn_Store_read ?fi_Store_put ?fn_Store_put ?w0 ?w1 ?w2 ?w3 ?w4 ?z0 ?z1 ?z2 ?z3 ?z4 ?z5 ?z6 ?z7 ?z8 ?z9 ?z10 ?z11 ?z12 ?z13 ?z14 ?z15 ?z16
  (case y0|y1|y2|y3|y4|y5|y6|y7|fi_TooMany|fi_View___init__|fi_View_sizes|fi_View_paces=>first|k_is|k_exc|kts_exm|decide|rfl|decide +kernel|kernel_rfl)
  (case fi_View_count|fi_View_cell|fi_View_cells|fi_View_least|fi_View_greatest|fi_Store___init__|fi_Store_all_values|fi_Store_refuse_room|fi_Store_read|fi_Store_put|a1|a2=>first|k_is|k_exc|kts_exm|decide|rfl|decide +kernel|kernel_rfl)
  (case a3|a4|a5|a6|a7|a8|a9|a10|a11|a20|a21|a22=>first|k_is|k_exc|kts_exm|decide|rfl|decide +kernel|kernel_rfl)
  (case a28|a29|a30|a31|a32|a33|a34|a35|a36|a37|a38|a39=>first|k_is|k_exc|kts_exm|decide|rfl|decide +kernel|kernel_rfl)
  (case a40|a41|a42|a43|a44|a45|a46|a47|a48|a49|a50=>first|k_is|k_exc|kts_exm|decide|rfl|decide +kernel|kernel_rfl)
  (case F0|F1|F2|F3|F4|F5|F6|F7|F8|F9|F10|F11=>(refine' L2.GH ?l ?c ?k;(case l|c|k=>first|k_is|k_exc|kts_exm|decide|rfl|decide +kernel|kernel_rfl)))
  (case F12|F13|F14|F15|F16|F17|F18|F19|F20|F22|F23|F24=>(refine' L2.GH ?l ?c ?k;(case l|c|k=>first|k_is|k_exc|kts_exm|decide|rfl|decide +kernel|kernel_rfl)))
  (case F25|F26|F27|F28|F29|F30|F31|F32|F33|F34|F35|F36=>(refine' L2.GH ?l ?c ?k;(case l|c|k=>first|k_is|k_exc|kts_exm|decide|rfl|decide +kernel|kernel_rfl)))
  (case F37|F38|F39|F40|F41|F42|F43|F44|F45|F46|F47|F48=>(refine' L2.GH ?l ?c ?k;(case l|c|k=>first|k_is|k_exc|kts_exm|decide|rfl|decide +kernel|kernel_rfl)))
  (case F49=>(refine' L2.GH ?l ?c ?k;(case l|c|k=>first|k_is|k_exc|kts_exm|decide|rfl|decide +kernel|kernel_rfl)))
  (case l21|q21|c21|k21|l50|c50|k50|xe_TooMany|xf_TooMany|xo_TooMany|xs_TooMany|xh_TooMany=>first|k_is|k_exc|kts_exm|decide|rfl|decide +kernel|kernel_rfl)
  (case nt_TooMany_number|nf_TooMany_number|bs_PaceError|br_PaceError|bf_PaceError|pg_View|hd_View|po_View|sa_View|nf_View_axes|nf_View_first|nf_View_room=>first|k_is|k_exc|kts_exm|decide|rfl|decide +kernel|kernel_rfl)
  (case fn_View___init__|mm_View|ck_View|fn_View_sizes|fn_View_paces|fn_View_count|fn_View_cell|fn_View_cells|fn_View_least|fn_View_greatest|pg_Store|hd_Store=>first|k_is|k_exc|kts_exm|decide|rfl|decide +kernel|kernel_rfl)
  (case po_Store|sa_Store|nf_Store_floor|fn_Store___init__|mm_Store|ck_Store|fn_Store_all_values|fn_Store_refuse_room|fn_Store_read|fn_Store_put|w0|w1=>first|k_is|k_exc|kts_exm|decide|rfl|decide +kernel|kernel_rfl)
  (case w2|w3|w4|z0|z1|z2|z3|z4|z5|z6|z7|z8=>first|k_is|k_exc|kts_exm|decide|rfl|decide +kernel|kernel_rfl)
  (case z9|z10|z11|z12|z13|z14|z15|z16=>first|k_is|k_exc|kts_exm|decide|rfl|decide +kernel|kernel_rfl)
#print axioms PySem.Challenge.cw_pacehall_k65_rows_leave_the_copy_holds