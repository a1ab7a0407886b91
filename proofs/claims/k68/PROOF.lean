import PyProof.Rows.All
import Wide.All
import OpenK.AllK
import Wide.FinOn
import Lean
import PyProof.EqAt
import PyProof.EqKinds
import PyProof.TupleCall
import PySem.Challenge.RW_pacehall_k68_whole_copies_by_rows
set_option Elab.async false
set_option linter.all false
set_option maxRecDepth 100000
set_option maxHeartbeats 0
open List (mem_cons_self mem_cons_of_mem mem_append_left mem_append_right length_cons map_cons length_map append_nil of_mem_zip length_take getElem?_append_right getElem?_append_left getElem?_map mem_of_getElem? length_append size_toArray map_nil find?_cons cons_append map_append getElem_mem getElem?_eq_getElem forIn_cons lookup_cons mem_cons not_mem_nil take_of_length_le take_length all_eq_true getElem_of_mem nodup_cons nodup_nil getElem?_eq_none nodup_append length_zip length_range map_map take_add_one pairwise_map mem_singleton foldl_cons append_of_mem mem_append getD_eq_getElem?_getD take_zero filter_cons eq_nil_or_concat)
namespace QL
def Kz:=@PySem.wpAny_bind
def KA:=@List.getElem?_eq_getElem
def KC:=@PySem.Heap.get?_push_of_some
def KD:=@PySem.Heap.lt_size
def KG:=@List.length_map
def KH:=@List.getElem?_eq_some_iff
def KI:=@List.mem_cons_of_mem
def KJ:=@List.not_mem_nil
def KL:=@List.mem_cons_self
def KN:=@List.mem_singleton
def KO:=@Nat.le_refl
def KQ:=@PySem.wpAny_pure
def KR:=@PySem.Heap.get?_push_size
def KS:=@List.mem_map
def KU:=@if_neg
def KW:=@Option.map_eq_some_iff
def KY:=@List.length_append
def KZ:=@if_pos
def K0:=@Nat.ne_of_lt
def K1:=@PySem.F.plainAttrs_list
def K2:=@List.mem_cons
def La:=@List.getElem?_map
def Lb:=@Bool.false_ne_true
def Lc:=@List.mem_append_right
def Ld:=@Ne.symm
def Le:=@Nat.lt_of_lt_of_le
def Lf:=@Option.some.inj
def Lg:=@List.size_toArray
def Lh:=@List.mem_of_getElem?
def Li:=@List.mem_append
def Lj:=@List.getD_eq_getElem?_getD
def Lk:=@List.map_append
def Ll:=@PySem.PassesOwn.never
def Lm:=@PySem.F.type_list_append
def Ln:=@PySem.F.slot_list_append
def Lo:=@List.map_cons
def Lq:=@Nat.zero_le
def Lr:=@PySem.W.mg_of
def Ls:=@Int.toNat_natCast
def Lu:=@Nat.le_trans
def Lv:=@List.nodup_cons
def Lw:=@List.getElem?_append_right
def Lx:=@List.take_add_one
def Ly:=@List.mem_append_left
def Lz:=@List.length_cons
def LA:=@Nat.ne_of_gt
def LB:=@or_false
def LC:=@List.nodup_append
def LD:=@List.getElem?_append_left
def LF:=@PySem.Heap.size_push
def LG:=@List.take_length
def LH:=@List.length_take
def LI:=@PySem.wpAny_field
def LJ:=@Nat.lt_irrefl
def LK:=@PySem.W.mg_none_of
def LL:=@List.nodup_nil
def LM:=@PyProof.Rows.callWith_type1
def LN:=@List.cons.inj
def LO:=@Bool.false_eq_true
def LP:=@List.map_map
def LQ:=@List.mem_range
def LR:=@congrArg
def LS:=@PySem.wpAny_seqItems
def LU:=@PySem.wpAny_holding
def LV:=@Int.mul_le_mul_of_nonneg_left
def LW:=@PySem.Heap.get?_update_self
def LX:=@decide_eq_false
def LY:=@Option.map_some
def LZ:=@PySem.wpAny_callSpecial?_slot
def L0:=@List.getElem_of_mem
def L3:=@List.take_of_length_le
def L4:=@PySem.F.slot_dict_get
def L5:=@Int.emod_lt_of_pos
def L6:=@PySem.Heap.get?_update_ne
def L7:=@PySem.Heap.get?_update_other
def L8:=@List.getElem?_zip_eq_some
def L9:=@List.eq_nil_or_concat
def Ma:=@PySem.wpAny_call_entry
def Mb:=@PySem.Heap.size_update
def Mc:=@PySem.wpAny_setField_rec
def Md:=@Nat.lt_succ_of_lt
def Me:=@Int.mul_le_mul_of_nonneg_right
def Mf:=@Array.length_toList
def Mg:=@PySem.wpAny_truthy_bool
def Mh:=@PySem.wpAny_pyIter_list
def Mi:=@Nat.le_add_right
def Mj:=@List.mem_flatMap
def Ml:=@PySem.F.slot_zip_next
def Mm:=@List.getElem?_eq_none
def Mn:=@List.take_append_drop
def Mo:=@List.mem_filter
def Mp:=@List.length_singleton
def Mq:=@List.concat_eq_append
def Mr:=@Int.emod_nonneg
def Ms:=@Bool.eq_iff_iff
def Mt:=@PySem.wpAny_Call_Name_kw
def Mu:=@PySem.tupleKind_room_in1
def Mv:=@List.nodup_iff_pairwise_ne
def Mw:=@List.pairwise_map
def Mx:=@List.lookup_cons
def My:=@List.getElem_mem
def Mz:=@List.cons_append
def MB:=@PySem.wpAny_passesOwn
def MF:=@PySem.F.plain_extend_loop
def MG:=@Array.getElem?_eq_getElem
def MH:=@List.of_mem_zip
def MI:=@List.append_of_mem
def MJ:=@Nat.lt_succ_self
def MK:=@List.any_eq_true
def ML:=@beq_eq_false_iff_ne
def MM:=@PySem.mem_of_lookup
def MN:=@Nat.le_succ
def MO:=@List.length_reverse
def MP:=@Int.mul_one
def MQ:=@PySem.F.slot_tuple_iterator_next
def MS:=@if_false
def MU:=@decide_eq_false_iff_not
def MV:=@List.pairwise_cons
def MW:=@List.filter_append
def MX:=@Int.natCast_nonneg
def MY:=@Int.eq_ofNat_of_zero_le
def MZ:=@List.length_range
def M4:=@List.append_nil
def M5:=@PySem.wpAny_mono
def M6:=@PySem.F.entry_dict_get
def M7:=@List.getElem?_set_self
def M8:=@not_false_eq_true
def M9:=@List.append_assoc
def Na:=@Bool.not_eq_true'
def Nb:=@decide_eq_true
def Nc:=@PySem.W.kia_one
def Nd:=@PySem.Paired.length
def Nf:=@Nat.le_of_lt
def Ng:=@List.perm_append_comm
def Nh:=@PySem.Calls.spliced_cons
def Ni:=@List.find?_cons
def Nj:=@List.pairwise_append
def Nk:=@List.mem_of_mem_take
def Nl:=@List.getElem?_set_ne
def Nm:=@PySem.Calls.callWith_builtin
def Nn:=@PySem.codeAny_mono
def Np:=@List.filter_eq_self
def Nq:=@List.filterMap_cons
def Nr:=@Int.le_refl
def Nt:=@PyProof.Rows.wpS_bind
def Nu:=@PyProof.Rows.listUpdate_at
def Nv:=@Nat.lt_trans
def Nw:=@Int.mul_comm
def Nx:=@List.drop_eq_getElem_cons
def Ny:=@List.filter_cons
def Nz:=@not_or
def NA:=@PySem.F.type_list_extend
def NB:=@PySem.F.slot_list_extend
def NC:=@Option.isSome_map
def ND:=@List.flatMap_cons
def NF:=@PySem.F.type_list_index
def NG:=@PySem.F.slot_list_index
def NH:=@List.length_eq_zero_iff
def NI:=@List.getElem?_replicate
def NJ:=@List.cons_ne_nil
def NK:=@Bool.and_eq_true
def NL:=@List.drop_of_length_le
def NM:=@List.take_zero
def NN:=@List.length_zip
def NO:=@Nat.add_zero
def NP:=@List.nil_append
def NQ:=@List.length_set
def NR:=@List.length_nil
def NS:=@List.length_filter_le
def NT:=@PySem.Heap.get?_push_ne
def NU:=@PySem.F.args_zip_next_1
def NV:=@PySem.Calls.spliced_nil
def NW:=@Array.Perm.refl
def NX:=@List.all_eq_true
def NY:=@PySem.wpAny_attempt
def NZ:=@PySem.sizeLine_eq
def N2:=@List.mem_of_mem_drop
def N3:=@List.take_succ
def N4:=@List.forIn_nil
def N5:=@PySem.F.entry_zip_next
def N6:=@List.sum_append_nat
def N7:=@List.map_congr_left
def N8:=@Int.toNat_of_nonneg
def N9:=@PySem.wpAny_updateSeq
def Oa:=@PySem.wpAny_execs_nil
def Ob:=@List.forIn_cons
def Oc:=@List.foldl_cons
def Od:=@List.sum_cons
def Oe:=@List.getElem?_drop
def Of:=@List.forIn_toArray
def Og:=@PySem.wpAny_rule
def Oh:=@PySem.call_meets
def Oi:=@PySem.wpAny_updateSeq_pair
def Oj:=@if_true
def Ol:=@decide_eq_true_eq
def Om:=@bne_self_eq_false
def Oo:=@beq_iff_eq
def Oq:=@List.reverse_cons
def Ot:=@List.foldl_append
def Ou:=@List.filter_congr
def Ov:=@PySem.Heap.get?_none_of_le
def Ow:=@PySem.Calls.evalArgs_plain
def Ox:=@PySem.wpAny_newTuple
def Oy:=@List.map_nil
def Oz:=@PySem.wpAny_comprehension_free
def OA:=@Nat.succ.inj
def OB:=@Nat.le_of_eq
def OC:=@Int.le_trans
def OD:=@PySem.wpAny_letGo
def OE:=@beq_self_eq_true
def OF:=@Nat.le_of_not_lt
def OG:=@List.map_fst_zip
def OH:=@List.length_drop
def OI:=@List.ext_getElem
def OJ:=@PySem.wpAny_standAt
def OK:=@PySem.wpAny_onRaise
def OL:=@PySem.wpAny_newList
def OM:=@List.sum_append
def ON:=@List.drop_left'
end QL
open QL
namespace L2
open PySem PySem.Spec PyProof.Rows
abbrev Key:=Sum Int Str
def kO:Key->Value->Bool
 | .inl k,v=>Value.isInt k v
 | .inr x,v=>Value.isStrOf x v
def Ko(w:World):Key->Int
 | .inl k=>hashInt k
 | .inr x=>hashStr w x
theorem aB:∀ {k:Key}{v:Value},kO k v=true->(∃ i t,k=Sum.inl i/\v=Value.int i t)\/(∃ x t,k=Sum.inr x/\v=Value.str x t)
 | .inl i,v,h=>by
  obtain⟨t,e⟩:=Value.isInt_shape (k:=i) (v:=v) h;exact .inl ⟨i,t,rfl,e⟩
 | .inr x,v,h=>by
  obtain⟨t,e⟩:=Value.isStrOf_shape (x:=x) (v:=v) h;exact .inr ⟨x,t,rfl,e⟩
theorem vm(i:Int)(t:Tok):kO (.inl i) (.int i t)=true:=by simp [kO,Value.isInt]
theorem vk(x:Str)(t:Tok):kO (.inr x) (.str x t)=true:=by simp [kO,Value.isStrOf]
theorem Gv(a b:Int):decide ((Sum.inl a:Key)=Sum.inl b)=(a == b):=by
 by_cases e:a=b
 ·subst e;simp
 ·have h:¬ (Sum.inl a:Key)=Sum.inl b:=λ q=>e (Sum.inl.inj q);rw [LX h];exact(ML.mpr e).symm
theorem Gr(a b:Str):decide ((Sum.inr a:Key)=Sum.inr b)=decide (a=b):=by
 by_cases e:a=b
 ·subst e;simp
 ·have h:¬ (Sum.inr a:Key)=Sum.inr b:=λ q=>e (Sum.inr.inj q);rw [LX h,LX e]
theorem Gu(a:Int)(b:Str):decide ((Sum.inl a:Key)=Sum.inr b)=false:=LX (λ q=>nomatch q)
theorem Gs(a:Str)(b:Int):decide ((Sum.inr a:Key)=Sum.inl b)=false:=LX (λ q=>nomatch q)
def aI(prog:Program)(w:World):PySem.KeyKind prog w Key where
 is:=kO
 hash:=Ko w
 inj:=λ v a b ha hb=>by
  rcases aB ha with ⟨i,t,rfl,rfl⟩|⟨x,t,rfl,rfl⟩
  ·rcases aB hb with ⟨j,u,rfl,e⟩|⟨y,u,rfl,e⟩
   ·injection e with e1 _;rw [e1]
   ·exact nomatch e
  ·rcases aB hb with ⟨j,u,rfl,e⟩|⟨y,u,rfl,e⟩
   ·exact nomatch e
   ·injection e with e1 _;rw [e1]
 byValue:=λ k v h=>by
  rcases aB h with ⟨i,t,rfl,rfl⟩|⟨x,t,rfl,rfl⟩<;>rfl
 pyHash:=λ hv h=>by
  rcases aB hv with ⟨i,t,rfl,rfl⟩|⟨x,t,rfl,rfl⟩
  ·exact wpAny_pyHash_int h
  ·exact wpAny_pyHash_str h
 eqBool:=λ hu hv h=>by
  rcases aB hu with ⟨i,t,rfl,rfl⟩|⟨x,t,rfl,rfl⟩
  ·rcases aB hv with ⟨j,u,rfl,rfl⟩|⟨y,u,rfl,rfl⟩
   ·rw [Gv] at h;exact wpAny_eqBool_int h
   ·rw [Gu] at h;exact SeqAt.EqAt.int_str i t y u _ _ _ _ h
  ·rcases aB hv with ⟨j,u,rfl,rfl⟩|⟨y,u,rfl,rfl⟩
   ·rw [Gs] at h;exact SeqAt.EqAt.str_int x t j u _ _ _ _ h
   ·rw [Gr] at h;exact wpAny_eqBool_str h
 «strs»:=λ k x t v h=>by
  rcases aB h with ⟨i,u,rfl,e⟩|⟨y,u,rfl,e⟩
  ·exact nomatch e
  ·injection e with e1 _
   subst e1
   cases v<;>rfl
theorem nN(prog:Program)(w:World)(i:Int)(t:Tok):(aI prog w).is (.inl i) (.int i t)=true:=vm i t
theorem nM(prog:Program)(w:World)(x:Str)(t:Tok):(aI prog w).is (.inr x) (.str x t)=true:=vk x t
inductive V where
 | non|bl (b:Bool)|int (i:Int)|str (x:Str)|byt (b:Array UInt8)|flt (b:UInt64)|ref (a:Addr)|ty (n:String)
 deriving DecidableEq
def aX:V->Value->Prop
 | .non,u=>u=Value.none
 | .bl b,u=>u=Value.bool b
 | .int i,u=>∃ t,u=Value.int i t
 | .str x,u=>∃ t,u=Value.str x t
 | .byt b,u=>∃ t,u=Value.bytes b t
 | .flt b,u=>∃ t,u=Value.float b t
 | .ref a,u=>u=Value.ref a
 | .ty n,u=>u=Value.type n
abbrev aK:List V->List Value->Prop:=Paired aX
theorem aK.length{xs:List V}{us:List Value}(r:aK xs us):xs.length=us.length:=Nd r
theorem aK.get:∀ {xs:List V}{us:List Value}{i:Nat}{x:V},aK xs us->xs[i]? = some x->∃ u,us[i]? = some u/\aX x u
 | _,_,_,_,.nil,e=>by simp at e
 | _,_,0,_,.cons r _,e=>by simp at e;subst e;exact⟨_,rfl,r⟩
 | _,_,i+1,x,.cons _ t,e=>by
  obtain⟨u,h1,h2⟩:=aK.get (i:=i) (x:=x) t (by simpa using e);exact⟨u,by simpa using h1,h2⟩
theorem aK.set{x:V}{u:Value}(r:aX x u):∀ {xs:List V}{us:List Value}(i:Nat),aK xs us->aK (xs.set i x) (us.set i u)
 | _,_,_,.nil=>.nil
 | _,_,0,.cons _ t=>.cons r t
 | _,_,i+1,.cons q t=>.cons q (aK.set r i t)
theorem aK.append:∀ {xs ys:List V}{us ws:List Value},aK xs us->aK ys ws->aK (xs++ys) (us++ws)
 | _,_,_,_,.nil,s=>s
 | _,_,_,_,.cons r t,s=>.cons r (aK.append t s)
theorem aK.take:∀ {xs:List V}{us:List Value}(n:Nat),aK xs us->aK (xs.take n) (us.take n)
 | _,_,0,_=>.nil
 | _,_,_+1,.nil=>.nil
 | _,_,n+1,.cons r t=>.cons r (aK.take n t)
theorem aK.drop:∀ {xs:List V}{us:List Value}(n:Nat),aK xs us->aK (xs.drop n) (us.drop n)
 | _,_,0,r=>r
 | _,_,_+1,.nil=>.nil
 | _,_,n+1,.cons _ t=>aK.drop n t
def kK:Option V->Option Value->Prop
 | some v,some u=>aX v u
 | none,none=>True
 | _,_=>False
def KV{κ:Type}:List (κ × V)->List (κ × Value)->Prop:=Paired λ (p:κ × V) (q:κ × Value)=>p.1=q.1/\aX p.2 q.2
def kV:Key->V
 | .inl i=>.int i
 | .inr x=>.str x
inductive HO where
 | lst (xs:List V)
 | tup (xs:List V)
 | dK (kvs:List (Key × V))|dT (kvs:List (List Key × V))
 | set (S:Int->Bool) (n:Nat)
 | ins (C dx:Addr) (fs:List (Str × V))
 | own (x:Addr)
 | xd (fs:List (Str × V))
 | met (f x:Addr)
 | rng (lo hi:Int)
 | frz (o:Obj) (u:HO)
 | tbl (ps:Array Value)
 | ext (φ:Heap->Prop)
abbrev Hp:=Addr->Option HO
def upd(H:Hp)(a:Addr)(o:HO):Hp:=λ b=>if b=a then some o else H b
theorem ah{H:Hp}{a:Addr}{o:HO}:upd H a o a=some o:=by unfold upd;rw [if_pos rfl]
theorem af{H:Hp}{a b:Addr}{o:HO}(h:b ≠ a):upd H a o b=H b:=by unfold upd;rw [if_neg h]
theorem An{H:Hp}{a:Addr}{o u:HO}:upd (upd H a o) a u=upd H a u:=by
 funext b;unfold upd;split<;>rfl
theorem Im{H:Hp}{a b:Addr}{o u:HO}(h:H a=some o)(h':H b=some u)(d:o ≠ u):a ≠ b:=by
 intro e;subst e;rw [h] at h';exact d (Lf h')
theorem bz{H:Hp}{a b:Addr}{o:HO}(h:H a=some o)(h':H b=none):a ≠ b:=by
 intro e;subst e;rw [h] at h';cases h'
section
variable (P:Program)(w:World)
def aO(H:Hp)(h:Heap)(a:Addr):HO->Prop
 | .lst xs=>xs.length<=sizeLine/\∃ (its:List Value) (n:Nat),aK xs its/\h.get? a=some { cls:=.type "list",data:=.seq its.toArray n }
 | .tup xs=>xs.length<=sizeLine/\∃ its:List Value,aK xs its/\IsTup h a its.toArray
 | .dK kvs=>kvs.length<=sizeLine/\(a == sysModules)=false/\∃ vs,KV kvs vs/\h.DictOf (aI P w) a vs
 | .dT kvs=>kvs.length<=sizeLine/\(a == sysModules)=false/\∃ xs:List (List Key × Addr × Value),
   Paired (λ (p:List Key × V) (q:List Key × Addr × Value)=>p.1=q.1/\H q.2.1=some (.tup (p.1.map kV))/\aX p.2 q.2.2) kvs xs /\
   ∃ o es ep,h.get? a=some o/\o.ExactDict/\o.data=.dict es ep/\es.toList=xs.map (entryOfKey (tupleKind (aI P w)))/\(xs.map (·.1)).Nodup
 | .set S n=>h.SetOf (intKind P w) a S n
 | .ins C dx fs=>H dx=some (.own a)/\fs.length<=1000/\dx ≠ a/\h.get? a=some (W.instObj C dx) /\
   ∃ mA,h.Ns1 dx mA/\(∀ f,kK (fs.lookup f) (mA f))/\PySem.Within mA (fs.map (·.1))
 | .own _=>∃ o,h.get? a=some o
 | .xd fs=>∃ mA,h.Ns1 a mA/\∀ f,kK (fs.lookup f) (mA f)
 | .rng lo hi=>∃ t u v,h.get? a=some { cls:=.type "range",data:=.fields #[.int lo t,.int hi u,.int 1 v] }
 | .frz o u=>h.get? a=some o/\aO H h a u
 | .tbl ps=>h.get? a=some { cls:=.none,data:=.fields ps }
 | .met f x=>h.get? a=some (W.methodObj (.ref f) (.ref x))
 | .ext φ=>φ h/\(∃ o,h.get? a=some o)/\∀ h1 h2:Heap,φ h1->(∀ o,h1.get? a=some o->h2.get? a=some o)->φ h2
def HOk(H:Hp)(h:Heap):Prop:=∀ a o,H a=some o->aO P w H h a o
end
section
variable {P:Program}{w:World}{H H':Hp}{h h':Heap}{a:Addr}{o:HO}
theorem aO.lt(x:aO P w H h a o):a < h.objs.size:=by
 cases o with
 | lst xs=>obtain⟨_,_,_,_,e⟩:=x;exact KD e
 | tup xs=>obtain⟨_,_,_,p⟩:=x;exact p.lt
 | dK kvs=>obtain⟨_,_,_,_,o,_,_,e,_⟩:=x;exact KD e
 | dT kvs=>obtain⟨_,_,_,_,o,_,_,e,_⟩:=x;exact KD e
 | set S n=>obtain⟨o,_,_,_,e,_⟩:=x;exact KD e
 | ins C dx fs=>obtain⟨_,_,_,e,_⟩:=x;exact KD e
 | own y=>obtain⟨_,e⟩:=x;exact KD e
 | xd fs=>obtain⟨_,⟨_,_,_,e,_⟩,_⟩:=x;exact KD e
 | rng lo hi=>obtain⟨_,_,_,e⟩:=x;exact KD e
 | frz ob u=>obtain⟨e,_⟩:=x;exact KD e
 | tbl ps=>exact KD (show h.get? a=some _ from x)
 | met f y=>exact KD (show h.get? a=some _ from x)
 | ext φ=>obtain⟨_,⟨_,e⟩,_⟩:=x;exact KD e
theorem Paired.mapP{α β:Type}{F G:α->β->Prop}:∀ {l₁:List α}{l₂:List β},Paired F l₁ l₂->(∀ a b,F a b->G a b)->Paired G l₁ l₂
 | _,_,.nil,_=>.nil
 | _,_,.cons r t,f=>.cons (f _ _ r) (Paired.mapP t f)
theorem aO.stay(x:aO P w H h a o)(k:∀ b u,(b=a\/H b=some (.own a))->h.get? b=some u->h'.get? b=some u)
  (ho:∀ b,H b=some (.own a)->H' b=some (.own a)) (ht:∀ b xs,H b=some (.tup xs)->H' b=some (.tup xs)):aO P w H' h' a o:=by
 induction o with
 | lst xs=>obtain⟨z,its,n,r,e⟩:=x;exact⟨z,its,n,r,k _ _ (.inl rfl) e⟩
 | tup xs=>obtain⟨z,its,r,ob,e,c⟩:=x;exact⟨z,its,r,ob,k _ _ (.inl rfl) e,c⟩
 | dK kvs=>obtain⟨z,y,vs,r,ob,es,ep,e,c⟩:=x;exact⟨z,y,vs,r,ob,es,ep,k _ _ (.inl rfl) e,c⟩
 | dT kvs=>
  obtain⟨z,y,xs,r,ob,es,ep,e,c⟩:=x;exact⟨z,y,xs,Paired.mapP r λ p q z=>⟨z.1,ht _ _ z.2.1,z.2.2⟩,ob,es,ep,k _ _ (.inl rfl) e,c⟩
 | set S n=>obtain⟨ob,es,ep,t,e,c⟩:=x;exact⟨ob,es,ep,t,k _ _ (.inl rfl) e,c⟩
 | ins C dx fs=>
  obtain⟨d,z,ne,e,mA,⟨od,es,ep,e2,c⟩,r⟩:=x;exact⟨ho _ d,z,ne,k _ _ (.inl rfl) e,mA,⟨od,es,ep,k _ _ (.inr d) e2,c⟩,r⟩
 | own y=>obtain⟨ob,e⟩:=x;exact⟨ob,k _ _ (.inl rfl) e⟩
 | xd fs=>obtain⟨mA,⟨od,es,ep,e,c⟩,r⟩:=x;exact⟨mA,⟨od,es,ep,k _ _ (.inl rfl) e,c⟩,r⟩
 | rng lo hi=>obtain⟨t,u,v,e⟩:=x;exact⟨t,u,v,k _ _ (.inl rfl) e⟩
 | frz ob u ih=>obtain⟨e,q⟩:=x;exact⟨k _ _ (.inl rfl) e,ih q⟩
 | tbl ps=>
  have e:h.get? a=some { cls:=.none,data:=.fields ps }:=x
  show h'.get? a=some { cls:=.none,data:=.fields ps }
  exact k a _ (.inl rfl) e
 | met f y=>
  have e:h.get? a=some (W.methodObj (.ref f) (.ref y)):=x
  show h'.get? a=some (W.methodObj (.ref f) (.ref y))
  exact k a _ (.inl rfl) e
 | ext φ=>obtain⟨p,⟨o,e⟩,st⟩:=x;exact⟨st _ _ p λ o q=>k _ _ (.inl rfl) q,⟨o,k _ _ (.inl rfl) e⟩,st⟩
theorem HOk.lt(x:HOk P w H h)(e:H a=some o):a < h.objs.size:=(x a o e).lt
theorem HOk.fresh(x:HOk P w H h)(e:h.objs.size<=a):H a=none:=by
 cases q:H a with
 | none=>rfl
 | some u=>exact absurd (Le (x.lt q) e) (LJ _)
theorem HOk.kept(x:HOk P w H h)(k:∀ b u,h.get? b=some u->h'.get? b=some u):HOk P w H h':=λ a o e=>
 (x a o e).stay (λ b u _ q=>k b u q) (λ _ q=>q) λ _ _ q=>q
theorem HOk.laid(x:HOk P w H h)(k:∀ b u,h.get? b=some u->h'.get? b=some u)(hp:h.objs.size<=a)(new:aO P w (upd H a o) h' a o):HOk P w (upd H a o) h':=λ b u e=>by
 have hn:=x.fresh hp
 by_cases hb:b=a
 ·subst hb;rw [ah] at e;cases e;exact new
 ·rw [af hb] at e;exact(x b u e).stay (λ c v _ q=>k c v q) (λ c q=>by rw [af (bz q hn)];exact q) λ c xs q=>by rw [af (bz q hn)];exact q
end
def Rd(H:Hp)(a:Addr)(u:HO):Prop:=H a=some u\/∃ o,H a=some (.frz o u)
theorem Rd.ok{P:Program}{w:World}{H:Hp}{h:Heap}{a:Addr}{u:HO}(r:Rd H a u)(x:HOk P w H h):aO P w H h a u:=by
 rcases r with r|⟨o,r⟩
 ·exact x a u r
 ·obtain⟨_,q⟩:=x a _ r;exact q
def Mut:Option HO->Prop
 | some (.lst _)=>True
 | some (.dK _)=>True
 | some (.dT _)=>True
 | some (.set _ _)=>True
 | some (.ins _ _ _)=>True
 | some (.ext _)=>True
 | _=>False
section
variable {P:Program}{w:World}{H:Hp}{h h':Heap}{x e:Addr}{o':HO}
theorem HOk.write(ok:HOk P w H h)(mu:Mut (H x))(he:e=x\/H e=some (.own x))(k:∀ b u,b ≠ e->h.get? b=some u->h'.get? b=some u)(heo:∃ u,h'.get? e=some u)
  (new:aO P w (upd H x o') h' x o'):HOk P w (upd H x o') h':=λ b u q=>by
 have nown:∀ c y,H c=some (.own y)->c ≠ x:=λ c y r z=>by subst z;rw [r] at mu;exact mu
 have ntup:∀ c xs,H c=some (.tup xs)->c ≠ x:=λ c xs r z=>by subst z;rw [r] at mu;exact mu
 by_cases hb:b=x
 ·subst hb;rw [ah] at q;cases q;exact new
 ·rw [af hb] at q
  by_cases hbe:b=e
  ·have q':H b=some (.own x):=by
    rcases he with z|z
    ·exact absurd (hbe.trans z) hb
    ·rw [hbe];exact z
   rw [q] at q';cases q';obtain⟨v,hv⟩:=heo;exact⟨v,by rw [hbe];exact hv⟩
  ·refine(ok b u q).stay (λ c v hc r=>k c v ?_ r) (λ c r=>by rw [af (nown c b r)];exact r) λ c xs r=>by rw [af (ntup c xs r)];exact r
   rcases hc with rfl|hc
   ·exact hbe
   ·rintro rfl
    rcases he with z|z
    ·exact nown c b hc z
    ·rw [hc] at z;cases z;exact hb rfl
end
structure Un(fs ex:List Addr)(H H':Hp)(h h':Heap):Prop where
 keep:∀ b o,h.get? b=some o->H b=none->b ∉ fs->b ∉ ex->h'.get? b=some o
 slot:∀ b o,h.get? b=some o->H b=none->b∈fs->b ∉ ex->∃ sl,h'.get? b=some { o with slots:=sl }
 free:∀ b o,h.get? b=some o->H b=none->b ∉ ex->H' b=none
 there:∀ b o,h.get? b=some o->b ∉ ex->∃ o',h'.get? b=some o'
 tups:∀ b xs,H b=some (.tup xs)->H' b=some (.tup xs)
 frzs:∀ b o u,H b=some (.frz o u)->H' b=some (.frz o u)
 tbls:∀ b ps,H b=some (.tbl ps)->∃ more,H' b=some (.tbl (ps++more))
section
variable {fs fs' ex ex':List Addr}{H H1 H2:Hp}{h h1 h2 h':Heap}{a x e:Addr}{o:HO}
theorem Un.any(u:Un fs ex H H1 h h1){b:Addr}{ob:Obj}(q:h.get? b=some ob)(n:H b=none)(hx:b ∉ ex):∃ sl,h1.get? b=some { ob with slots:=sl }:=by
 by_cases hb:b∈fs
 ·exact u.slot b ob q n hb hx
 ·exact⟨ob.slots,u.keep b ob q n hb hx⟩
theorem Un.trans(a:Un fs ex H H1 h h1)(b:Un fs ex H1 H2 h1 h2):Un fs ex H H2 h h2 where
 keep:=λ c ob q n hc hx=>b.keep c ob (a.keep c ob q n hc hx) (a.free c ob q n hx) hc hx
 slot:=λ c ob q n hc hx=>by
  obtain⟨sl,e1⟩:=a.slot c ob q n hc hx;obtain⟨sl',e2⟩:=b.slot c _ e1 (a.free c ob q n hx) hc hx;exact⟨sl',e2⟩
 free:=λ c ob q n hx=>by
  obtain⟨o',e1⟩:=a.there c ob q hx;exact b.free c o' e1 (a.free c ob q n hx) hx
 there:=λ c ob q hx=>by
  obtain⟨o',e1⟩:=a.there c ob q hx;exact b.there c o' e1 hx
 tups:=λ c xs q=>b.tups c xs (a.tups c xs q)
 frzs:=λ c ob xs q=>b.frzs c ob xs (a.frzs c ob xs q)
 tbls:=λ c ps q=>by
  obtain⟨m1,e1⟩:=a.tbls c ps q;obtain⟨m2,e2⟩:=b.tbls c _ e1;exact⟨m1++m2,by rw [e2,Array.append_assoc]⟩
theorem Un.kept(k:∀ b u,h.get? b=some u->h'.get? b=some u):Un fs ex H H h h':=
 ⟨λ b ob q _ _ _=>k b ob q,λ b ob q _ _ _=>⟨ob.slots,k b ob q⟩,λ _ _ _ n _=>n,λ b ob q _=>⟨ob,k b ob q⟩,λ _ _ q=>q,λ _ _ _ q=>q,λ _ ps q=>⟨#[],by rw [q];simp⟩⟩
theorem Un.refl:Un fs ex H H h h:=Un.kept λ _ _ q=>q
theorem Un.laid(k:∀ b u,h.get? b=some u->h'.get? b=some u)(hp:h.objs.size<=a)(hn:H a=none):Un fs ex H (upd H a o) h h' where
 keep:=λ b u q _ _ _=>k b u q
 slot:=λ b u q _ _ _=>⟨u.slots,k b u q⟩
 free:=λ b u q n _=>by rw [af (K0 (Le (KD q) hp))];exact n
 there:=λ b u q _=>⟨u,k b u q⟩
 tups:=λ b xs q=>by rw [af (bz q hn)];exact q
 frzs:=λ b u xs q=>by rw [af (bz q hn)];exact q
 tbls:=λ b ps q=>⟨#[],by rw [af (bz q hn),q];simp⟩
theorem Un.write(mu:Mut (H x))(he:e=x\/H e=some (.own x))(k:∀ b u,b ≠ e->h.get? b=some u->h'.get? b=some u)(heo:∃ u,h'.get? e=some u):Un fs ex H (upd H x o) h h':=by
 have hx:∀ b,H b=none->b ≠ x:=λ b n z=>by subst z;rw [n] at mu;exact mu
 have hb:∀ b,H b=none->b ≠ e:=λ b n z=>by
  subst z
  rcases he with r|r
  ·exact hx b n r
  ·rw [n] at r;cases r
 have hm:∀ b u,H b=some u->¬ Mut (some u)->b ≠ x:=λ b u q nm z=>by subst z;rw [q] at mu;exact nm mu
 refine⟨λ b u q n _ _=>k b u (hb b n) q,λ b u q n _ _=>⟨u.slots,k b u (hb b n) q⟩,λ b u q n _=>by rw [af (hx b n)];exact n,λ b u q _=>?_,
  λ b xs q=>by rw [af (hm b _ q λ z=>z)];exact q,λ b u xs q=>by rw [af (hm b _ q λ z=>z)];exact q,λ b ps q=>⟨#[],by rw [af (hm b _ q λ z=>z),q];simp⟩⟩
 by_cases hbe:b=e
 ·subst hbe;exact heo
 ·exact⟨u,k b u hbe q⟩
end
def trk(h:Heap)(H:Hp):List Addr:=(List.range h.objs.size).filter λ a=>(H a).isSome
def vY(h:Heap)(H:Hp):Heap:=W.hideAll h (trk h H)
theorem vw(h:Heap)(H:Hp):(vY h H).objs.size=h.objs.size:=W.hideAll_size _ _
theorem x6{h:Heap}{H:Hp}{b:Addr}{o:Obj}(e:h.get? b=some o)(n:H b=none):(vY h H).get? b=some o:=
 W.hideAll_get _ e λ hm=>by
  have q:(H b).isSome=true:=(Mo.mp hm).2;rw [n] at q;simp at q
theorem AX{h:Heap}{H:Hp}{b:Addr}{o:Obj}(e:(vY h H).get? b=some o):h.get? b=some o/\H b=none:=by
 have e':h.get? b=some o:=W.of_hideAll (trk h H) e;refine⟨e',?_⟩
 cases q:H b with
 | none=>rfl
 | some x=>
  have hm:b∈trk h H:=Mo.mpr ⟨LQ.mpr (KD e'),by simp [q]⟩;have z:(vY h H).get? b=none:=W.hideAll_none (trk h H) hm;rw [z] at e;cases e
def CK(g h:Heap)(L:Addr):List (Addr × Obj):=(List.range h.objs.size).filterMap λ a=>if a=L\/(g.get? a).isSome=true then none else (h.get? a).map λ o=>(a,o)
def ft(g h:Heap)(L d:Addr):List (Addr × Obj):=(CK g h L).filter λ p=>decide (p.1 ≠ d)
structure Mod(K:W.Frag)(mg:Str->Option Value)(base:Heap):Prop where
 kin:K.In base
 glob:base.Ns mainGlobals mg
 blt:∃ mb,base.Ns builtinsNs mb/\∀ x:Str,x ≠ "__name__" → mb x=bootBuiltins x
 nolimit:base.NoLimit
structure Cx where
 prog:Program
 w:World
 K:W.Frag
 mg:Str->Option Value
 base:Heap
 A:Around
 N:List Str
 s₀:Shared
 H₀:Hp
 env:Env
 outer:List Env
 stack:List Env
 ex:List Addr
 fn:Str->Bool
 calm:Bool
 pn:List (Addr × Obj)
 xe:Value->Shared->Prop
def frs(l:List Env):List Addr:=l.filterMap (·.frame)
abbrev Cx.fs(X:Cx):List Addr:=frs X.outer
def Vis(sc:Scope)(x:Str):Prop:=sc.names.lookup x=some .local\/sc.names.lookup x=some .cell\/sc.names.lookup x=some .free
def Loc(sc:Scope)(x:Str):Prop:=sc.names.lookup x=some .local\/sc.names.lookup x=some .cell
def Kw(env:Env)(h:Heap)(m:Str->Option Value)(x:Str)(u:Value):Prop:=
 (env.kindOf x=some .local/\m x=some u)\/((env.kindOf x=some .cell\/env.kindOf x=some .free)/\∃ c,env.cells.lookup x=some c/\h.IsCell c (some u))
structure Cx.Ok(X:Cx):Prop where
 mod:Mod X.K X.mg X.base
 kind:X.env.scope.kind=.function
 glob:X.env.globals=mainGlobals
 blt:X.env.builtins=builtinsNs
 above:X.s₀.heap.objs.size<=X.env.locals
 inj:∀ x y c,X.env.cells.lookup x=some c->X.env.cells.lookup y=some c->x=y
 has:∀ x,(X.env.kindOf x=some .cell\/X.env.kindOf x=some .free)->∃ c,X.env.cells.lookup x=some c
 cab:∀ x c,X.fn x=true->X.env.cells.lookup x=some c->X.s₀.heap.objs.size<=c
 hd:X.calm=true->X.A.handled=none
 frames:X.A.frames=some X.stack
 stk:X.stack=X.outer\/(X.stack=X.env::X.outer/\X.env.frame=some X.env.locals)
 exf:∀ b∈X.ex,b ≠ X.env.locals/\∀ x c,X.env.cells.lookup x=some c->c ≠ b
 bs:∀ b o,X.base.get? b=some o->X.s₀.heap.get? b=some o/\X.H₀ b=none
 bsz:X.base.objs.size<=X.s₀.heap.objs.size
 noex:∀ b o,X.base.get? b=some o->b ∉ X.ex
 exfs:∀ b∈X.ex,b ∉ X.fs
 funs:X.s₀.heap.FunFrames X.base X.outer
 frf:∀ b∈X.fs,X.H₀ b=none
structure Inv(X:Cx)(pins:List (Addr × Obj))(σ:List (Option V))(H:Hp)(s:Shared):Prop where
 ok:X.Ok
 os:s.os=X.s₀.os
 bare:AllBare s.gens
 base:Un X.fs X.ex X.H₀ H X.s₀.heap s.heap
 loc:∃ m,s.heap.Ns X.env.locals m/\∀ (i:Nat) (x:Str) (v:V),X.N[i]? = some x->σ[i]? = some (some v)->Vis X.env.scope x->∃ u,aX v u/\Kw X.env s.heap m x u
 cell:∀ x c,X.env.cells.lookup x=some c->∃ v,s.heap.IsCell c v
 free:H X.env.locals=none
 freeC:∀ x c,X.env.cells.lookup x=some c->H c=none
 pin:∀ p∈X.pn++pins,s.heap.get? p.1=some p.2/\H p.1=none/\p.1 ≠ X.env.locals/\p.1 ∉ X.fs/\∀ v,p.2.data ≠ .cell v
 hok:HOk X.prog X.w H s.heap
 len:σ.length=X.N.length
section
variable {X:Cx}{pins:List (Addr × Obj)}{σ:List (Option V)}{H H':Hp}{s:Shared}{h':Heap}
theorem Cx.Ok.nofr(ok:X.Ok){b:Addr}{o:Obj}(e:X.base.get? b=some o):b ∉ X.fs:=λ hb=>by
 have:=(ok.funs.mem hb).1;rw [e] at this;cases this
theorem Inv.bs(I:Inv X pins σ H s):∀ b o,X.base.get? b=some o->s.heap.get? b=some o/\H b=none:=λ b o e=>
 ⟨I.base.keep b o (I.ok.bs b o e).1 (I.ok.bs b o e).2 (I.ok.nofr e) (I.ok.noex b o e),I.base.free b o (I.ok.bs b o e).1 (I.ok.bs b o e).2 (I.ok.noex b o e)⟩
theorem Inv.bk(I:Inv X pins σ H s):∀ b o,X.base.get? b=some o->s.heap.get? b=some o:=λ b o e=>(I.bs b o e).1
theorem Inv.mod(I:Inv X pins σ H s):Mod X.K X.mg X.base:=I.ok.mod
theorem Inv.kIn(I:Inv X pins σ H s):X.K.In s.heap:=I.ok.mod.kin.keeps I.bk
theorem Inv.lt(I:Inv X pins σ H s):X.env.locals < s.heap.objs.size:=let ⟨_,hn,_⟩:=I.loc;hn.lt
theorem Inv.sz(I:Inv X pins σ H s):X.s₀.heap.objs.size<=s.heap.objs.size:=Lu I.ok.above (Nf I.lt)
theorem Inv.nofs(I:Inv X pins σ H s){a:Addr}(h:s.heap.objs.size<=a):a ∉ X.fs:=λ hb=>by
 obtain⟨_,o,ho,_⟩:=I.ok.funs.mem hb;exact absurd (Le (KD ho) (Lu I.sz h)) (LJ _)
theorem Inv.cne(I:Inv X pins σ H s):∀ x c,X.env.cells.lookup x=some c->c ≠ X.env.locals:=λ x c e z=>by
 obtain⟨v,o,ho,hd⟩:=I.cell x c e;obtain⟨m,⟨o',es,ep,ho',hd',_⟩,_⟩:=I.loc;rw [z,ho'] at ho;cases ho;rw [hd'] at hd;cases hd
theorem Inv.funs(I:Inv X pins σ H s):s.heap.FunFrames X.base X.outer:=by
 have all:∀ (l:List Env),(∀ b∈frs l,b∈X.fs)->X.s₀.heap.FunFrames X.base l->s.heap.FunFrames X.base l:=by
  intro l
  induction l with
  | nil=>intro _ _;trivial
  | cons env r ih=>
   intro hs hl;obtain⟨hk,⟨L,o,hf,hn,ho,hd⟩,hr⟩:=hl;have hL:L∈X.fs:=hs L (by unfold frs;rw [List.filterMap_cons,hf];exact mem_cons_self);obtain⟨sl,e⟩:=I.base.slot L o ho (I.ok.frf L hL) hL λ z=>I.ok.exfs L z hL;exact⟨hk,⟨L,_,hf,hn,e,hd⟩,ih (λ b hb=>hs b (by unfold frs;rw [List.filterMap_cons,hf];exact mem_cons_of_mem _ hb)) hr⟩
 exact all X.outer (λ _ hb=>hb) I.ok.funs
theorem Inv.stack(I:Inv X pins σ H s):s.heap.FunFrames X.base X.stack:=by
 rcases I.ok.stk with e|⟨e,hf⟩
 ·rw [e];exact I.funs
 ·rw [e];obtain⟨m,hn,_⟩:=I.loc;refine .cons (by rw [I.ok.kind];decide) hf hn ?_ I.funs;exact Ov (Lu I.ok.bsz I.ok.above)
theorem Inv.stkSub(I:Inv X pins σ H s):∀ b∈frs X.stack,b∈X.env.locals::X.fs:=λ b hb=>by
 rcases I.ok.stk with e|⟨e,hf⟩
 ·rw [e] at hb;exact KI _ hb
 ·rw [e] at hb;unfold frs at hb;rw [List.filterMap_cons,hf] at hb;exact hb
theorem Inv.stkFree(I:Inv X pins σ H s):∀ b∈frs X.stack,H b=none:=λ b hb=>by
 rcases K2.mp (I.stkSub b hb) with e|hb
 ·rw [e];exact I.free
 ·obtain⟨_,o,ho,_⟩:=I.ok.funs.mem hb;exact I.base.free b o ho (I.ok.frf b hb) λ z=>I.ok.exfs b z hb
theorem Inv.step{g':Array GenState}{t':Nat}{d':Drawn}{ch:List Addr}(I:Inv X pins σ H s)
  (hch:∀ b∈ch,(b∈X.ex\/X.s₀.heap.objs.size<=b)/\b ≠ X.env.locals/\(∀ x c,X.env.cells.lookup x=some c->c ≠ b)/\∀ p∈X.pn++pins,p.1 ≠ b)
  (keep:∀ b o,b ≠ X.env.locals->b ∉ X.fs->b ∉ ch->s.heap.get? b=some o->H b=none->h'.get? b=some o)
  (slot:∀ b o,b ≠ X.env.locals->b∈X.fs->b ∉ ch->s.heap.get? b=some o->H b=none->∃ sl,h'.get? b=some { o with slots:=sl }) (free:∀ b o,b ∉ ch->s.heap.get? b=some o->H b=none->H' b=none)
  (there:∀ b o,b ∉ ch->s.heap.get? b=some o->∃ o',h'.get? b=some o')
  (tups:∀ b xs,H b=some (.tup xs)->H' b=some (.tup xs)) (frzs:∀ b o u,H b=some (.frz o u)->H' b=some (.frz o u)) (tbls:∀ b ps,H b=some (.tbl ps)->∃ more,H' b=some (.tbl (ps++more)))
  (ns:∀ m,s.heap.Ns X.env.locals m->h'.Ns X.env.locals m) (hok:HOk X.prog X.w H' h') (hg:AllBare g') :
  Inv X pins σ H' { s with heap:=h',gens:=g',drawn:=d',toks:=t' }:=by
 have neL:∀ b o,X.s₀.heap.get? b=some o->b ≠ X.env.locals:=λ b o e=>K0 (Le (KD e) I.ok.above)
 have neC:∀ b o,X.s₀.heap.get? b=some o->b ∉ X.ex->b ∉ ch:=λ b o e hx hb=>by
  rcases (hch b hb).1 with z|z
  ·exact hx z
  ·exact absurd (Le (KD e) z) (LJ _)
 have cellK:∀ x c,X.env.cells.lookup x=some c->∀ v,s.heap.IsCell c v->h'.IsCell c v:=λ x c e v ⟨o,ho,hd⟩=>by
  have nch:c ∉ ch:=λ z=>(hch c z).2.2.1 x c e rfl
  by_cases hc:c∈X.fs
  ·obtain⟨sl,q⟩:=slot c o (I.cne x c e) hc nch ho (I.freeC x c e);exact⟨_,q,hd⟩
  ·exact⟨o,keep c o (I.cne x c e) hc nch ho (I.freeC x c e),hd⟩
 refine⟨I.ok,I.os,hg,⟨λ b o e n hb hx=>?_,λ b o e n hb hx=>?_,λ b o e n hx=>?_,λ b o e hx=>?_,λ b xs e=>tups b xs (I.base.tups b xs e),λ b o xs e=>frzs b o xs (I.base.frzs b o xs e),λ b ps e=>?_⟩,?_,λ x c e=>?_,?_,λ x c e=>?_,λ p hp=>?_,hok,I.len⟩
 ·exact keep b o (neL b o e) hb (neC b o e hx) (I.base.keep b o e n hb hx) (I.base.free b o e n hx)
 ·obtain⟨sl,e1⟩:=I.base.slot b o e n hb hx;obtain⟨sl',e2⟩:=slot b _ (neL b o e) hb (neC b o e hx) e1 (I.base.free b o e n hx);exact⟨sl',e2⟩
 ·obtain⟨o',e1⟩:=I.base.there b o e hx;exact free b o' (neC b o e hx) e1 (I.base.free b o e n hx)
 ·obtain⟨o',e1⟩:=I.base.there b o e hx;exact there b o' (neC b o e hx) e1
 ·obtain⟨m1,e1⟩:=I.base.tbls b ps e;obtain⟨m2,e2⟩:=tbls b _ e1;exact⟨m1++m2,by rw [e2,Array.append_assoc]⟩
 ·obtain⟨m,hn,hl⟩:=I.loc;refine⟨m,ns m hn,λ i x v e1 e2 e3=>?_⟩;obtain⟨u,r,l⟩:=hl i x v e1 e2 e3;refine⟨u,r,?_⟩
  rcases l with l|⟨k,c,e,z⟩
  ·exact .inl l
  ·exact .inr ⟨k,c,e,cellK x c e _ z⟩
 ·obtain⟨v,z⟩:=I.cell x c e;exact⟨v,cellK x c e v z⟩
 ·obtain⟨m,⟨o,_,_,ho,_⟩,_⟩:=I.loc;exact free _ o (λ z=>(hch _ z).2.1 rfl) ho I.free
 ·obtain⟨v,o,ho,hd⟩:=I.cell x c e;exact free c o (λ z=>(hch c z).2.2.1 x c e rfl) ho (I.freeC x c e)
 ·obtain⟨e,n,ne,nf,d⟩:=I.pin p hp;have nch:p.1 ∉ ch:=λ z=>(hch p.1 z).2.2.2 p hp rfl;exact⟨keep p.1 p.2 ne nf nch e n,free p.1 p.2 nch e n,ne,nf,d⟩
theorem Inv.un{t':Nat}(I:Inv X pins σ H s)(u:Un X.fs [] H H' s.heap h')(hok:HOk X.prog X.w H' h'):Inv X pins σ H' { s with heap:=h',toks:=t' }:=by
 obtain⟨m,⟨o,es,ep,ho,r⟩,_⟩:=id I.loc;obtain⟨sl,hL⟩:=u.any ho I.free (by simp)
 exact I.step (g':=s.gens) (d':=s.drawn) (ch:=[]) (λ _ z=>nomatch z) (λ b o _ hb _ e n=>u.keep b o e n hb (by simp)) (λ b o _ hb _ e n=>u.slot b o e n hb (by simp)) (λ b o _ e n=>u.free b o e n (by simp)) (λ b o _ e=>u.there b o e (by simp)) u.tups u.frzs u.tbls (λ m' hm=>by
  obtain⟨o',es',ep',ho',r'⟩:=hm;rw [ho] at ho';cases ho';exact⟨_,es',ep',hL,r'⟩) hok I.bare
theorem Inv.call{g':Array GenState}{t':Nat}{d':Drawn}{ch:List Addr}(I:Inv X pins σ H s)(u:Un (frs X.stack) ch H H' s.heap h')(hok:HOk X.prog X.w H' h')(hg:AllBare g')
  (hch:∀ b∈ch,(b∈X.ex\/X.s₀.heap.objs.size<=b)/\b ≠ X.env.locals/\(∀ x c,X.env.cells.lookup x=some c->c ≠ b)/\∀ p∈X.pn++pins,p.1 ≠ b) :
  Inv X pins σ H' { s with heap:=h',gens:=g',drawn:=d',toks:=t' }:=by
 obtain⟨m,⟨o,es,ep,ho,r⟩,_⟩:=id I.loc;obtain⟨sl,hL⟩:=u.any ho I.free λ z=>(hch _ z).2.1 rfl
 exact I.step (ch:=ch) hch (λ b o hL hb hc e n=>u.keep b o e n (λ z=>(K2.mp (I.stkSub b z)).elim hL hb) hc) (λ b o _ _ hc e n=>u.any e n hc) (λ b o hc e n=>u.free b o e n hc) (λ b o hc e=>u.there b o e hc) u.tups u.frzs u.tbls (λ m' hm=>by
  obtain⟨o',es',ep',ho',r'⟩:=hm;rw [ho] at ho';cases ho';exact⟨_,es',ep',hL,r'⟩) hok hg
theorem Inv.turned{t':Nat}{it:Addr}(I:Inv X pins σ H s)(k:∀ b o,b ≠ it->s.heap.get? b=some o->h'.get? b=some o)(hn:H it=none)(hL:it ≠ X.env.locals)
  (h1:it∈X.ex\/X.s₀.heap.objs.size<=it) (h2:∀ x c,X.env.cells.lookup x=some c->c ≠ it) (h3:∀ p∈X.pn++pins,p.1 ≠ it):Inv X pins σ H { s with heap:=h',toks:=t' }:=by
 have nit:∀ b u,H b=some u->b ≠ it:=λ b u e z=>by rw [z,hn] at e;cases e
 refine I.step (g':=s.gens) (d':=s.drawn) (ch:=[it]) (λ b hb=>?_) (λ b o _ _ hc e _=>k b o (λ z=>hc (by simp [z])) e) (λ b o _ _ hc e _=>⟨o.slots,k b o (λ z=>hc (by simp [z])) e⟩) (λ _ _ _ _ n=>n)
  (λ b o hc e=>⟨o,k b o (λ z=>hc (by simp [z])) e⟩) (λ _ _ e=>e) (λ _ _ _ e=>e) (λ b ps e=>⟨#[],by rw [e];simp⟩) (λ m hm=>?_) (λ b u e=>?_) I.bare
 ·have e:b=it:=by simpa using hb
  subst e;exact⟨h1,hL,h2,h3⟩
 ·obtain⟨o,es,ep,ho,r⟩:=hm;exact⟨o,es,ep,k _ o (Ld hL) ho,r⟩
 ·refine(I.hok b u e).stay (λ c v hc q=>k c v ?_ q) (λ _ q=>q) λ _ _ q=>q
  rcases hc with z|z
  ·rw [z];exact nit b u e
  ·exact nit c _ z
theorem Inv.tok(I:Inv X pins σ H s)(t:Nat):Inv X pins σ H { s with toks:=t }:=I.un (h':=s.heap) (t':=t) Un.refl I.hok
theorem Inv.kept{t':Nat}(I:Inv X pins σ H s)(k:∀ b u,s.heap.get? b=some u->h'.get? b=some u):Inv X pins σ H { s with heap:=h',toks:=t' }:=I.un (Un.kept k) (I.hok.kept k)
theorem Inv.laid{a:Addr}{o:HO}{t':Nat}(I:Inv X pins σ H s)(k:∀ b u,s.heap.get? b=some u->h'.get? b=some u)(hp:s.heap.objs.size<=a)(new:aO X.prog X.w (upd H a o) h' a o) :
  Inv X pins σ (upd H a o) { s with heap:=h',toks:=t' }:=I.un (Un.laid k hp (I.hok.fresh hp)) (I.hok.laid k hp new)
theorem Inv.write{x e:Addr}{o:HO}{t':Nat}(I:Inv X pins σ H s)(mu:Mut (H x))(he:e=x\/H e=some (.own x))(k:∀ b u,b ≠ e->s.heap.get? b=some u->h'.get? b=some u)(heo:∃ u,h'.get? e=some u)
  (new:aO X.prog X.w (upd H x o) h' x o):Inv X pins σ (upd H x o) { s with heap:=h',toks:=t' }:=I.un (Un.write mu he k heo) (I.hok.write mu he k heo new)
theorem Inv.weak{σ':List (Option V)}(I:Inv X pins σ H s)(hl:σ'.length=σ.length)(w:∀ (i:Nat) v,σ'[i]? = some (some v)->σ[i]? = some (some v)):Inv X pins σ' H s:=
 ⟨I.ok,I.os,I.bare,I.base,let ⟨m,hn,hl'⟩:=I.loc;⟨m,hn,λ i x v e1 e2 e3=>hl' i x v e1 (w i v e2) e3⟩,I.cell,I.free,I.freeC,I.pin,I.hok,hl.trans I.len⟩
theorem Inv.pins_of{pins':List (Addr × Obj)}(I:Inv X pins σ H s)(h:∀ p∈pins',s.heap.get? p.1=some p.2/\H p.1=none/\p.1 ≠ X.env.locals/\p.1 ∉ X.fs/\∀ v,p.2.data ≠ .cell v):Inv X pins' σ H s:=
 ⟨I.ok,I.os,I.bare,I.base,I.loc,I.cell,I.free,I.freeC,λ p hp=>(Li.mp hp).elim (λ z=>I.pin p (Ly _ z)) (h p),I.hok,I.len⟩
theorem oX{N:List Str}(hN:N.Nodup){i j:Nat}{x:Str}(a:N[i]? = some x)(b:N[j]? = some x):i=j:=by
 obtain⟨h1,e1⟩:=KH.mp a;obtain⟨h2,e2⟩:=KH.mp b;exact(List.getElem_inj hN).mp (e1.trans e2.symm)
theorem ll{M:Model}{A:Around}{E:Value->Shared->Prop}{i:Nat}{x:Str}{v:V}{u:Value}{Q:Unit->Shared->Prop}(I:Inv X pins σ H s)(hN:X.N.Nodup)(hi:X.N[i]? = some x)(hx:Loc X.env.scope x)(r:aX v u)
  (h:∀ s',Inv X pins (σ.set i (some v)) H s'->(∃ a,Heap.SameBut a s.heap s'.heap/\(a=X.env.locals\/X.env.cells.lookup x=some a))->Q () s') (hf:X.fn x=true\/X.env.scope.names.lookup x=some .local:=by first|exact .inl rfl|exact .inr rfl|assumption):wpAny M A (storeName X.env x u) Q E s:=by
 obtain⟨m,hn,hl⟩:=id I.loc;have hcls:(X.env.scope.kind == .class || (X.env.scope.kind == .module && X.env.locals != X.env.globals))=false:=by rw [I.ok.kind];rfl
 have hiσ:i < σ.length:=by rw [I.len];exact(KH.mp hi).1
 have cne:=I.cne
 have tracked:∀ {a:Addr} {h':Heap},(∃ o,s.heap.get? a=some o/\H a=none)->Heap.SameBut a s.heap h'->HOk X.prog X.w H h':=λ {a h'} ha hs b ob e=>by
  obtain⟨_,_,hfree⟩:=ha;refine(I.hok b ob e).stay (λ c w' hc q=>(hs.2 c ?_).trans q) (λ _ q=>q) λ _ _ q=>q;rintro rfl
  rcases hc with rfl|hc
  ·rw [hfree] at e;cases e
  ·rw [hfree] at hc;cases hc
 rcases hx with hk|hk
 ·refine wpAny_storeName_local hk hn (λ h' hn' hs=>?_) hcls;obtain⟨oL,_,_,hoL,_⟩:=id hn;refine h _ ⟨I.ok,I.os,I.bare,⟨λ b o e n hb hx=>?_,λ b o e n hb hx=>?_,I.base.free,λ b o e hx=>?_,I.base.tups,I.base.frzs,I.base.tbls⟩,⟨_,hn',λ j y v' e1 e2 e3=>?_⟩,λ y c e=>?_,I.free,I.freeC,λ p hp=>?_,tracked ⟨oL,hoL,I.free⟩ hs,by simpa using I.len⟩ ⟨_,hs,.inl rfl⟩
  ·exact(hs.2 b (K0 (Le (KD e) I.ok.above))).trans (I.base.keep b o e n hb hx)
  ·obtain⟨sl,e1⟩:=I.base.slot b o e n hb hx;exact⟨sl,(hs.2 b (K0 (Le (KD e) I.ok.above))).trans e1⟩
  ·obtain⟨o',e1⟩:=I.base.there b o e hx;exact⟨o',(hs.2 b (K0 (Le (KD e) I.ok.above))).trans e1⟩
  ·by_cases hj:j=i
   ·subst hj;rw [hi] at e1;cases e1;rw [M7 hiσ] at e2;cases e2;exact⟨u,r,.inl ⟨hk,by simp⟩⟩
   ·rw [Nl (Ld hj)] at e2;obtain⟨u',r',q⟩:=hl j y v' e1 e2 e3;refine⟨u',r',?_⟩
    rcases q with ⟨k,e⟩|⟨k,c,e,z⟩
    ·refine .inl ⟨k,?_⟩;have:y ≠ x:=λ e=>hj (oX hN e1 (e ▸ hi));simp [this,e]
    ·exact .inr ⟨k,c,e,z.sameBut hs (cne y c e)⟩
  ·obtain⟨w',z⟩:=I.cell y c e;exact⟨w',z.sameBut hs (cne y c e)⟩
  ·obtain⟨e,n,ne,nf,d⟩:=I.pin p hp;exact⟨(hs.2 p.1 ne).trans e,n,ne,nf,d⟩
 ·have hfn:X.fn x=true:=by
   rcases hf with z|z
   ·exact z
   ·rw [z] at hk;cases hk
  obtain⟨c,hc⟩:=I.ok.has x (.inl hk);obtain⟨w',z⟩:=I.cell x c hc;refine wpAny_storeName_cell I.ok.kind hk hc z (λ h' hc' hs=>?_);obtain⟨oc,hoc,hocd⟩:=id z;refine h { s with heap:=h' } ⟨I.ok,I.os,I.bare,⟨λ b o e n hb hx=>?_,λ b o e n hb hx=>?_,I.base.free,λ b o e hx=>?_,I.base.tups,I.base.frzs,I.base.tbls⟩,⟨m,hn.sameBut hs (Ld (cne x c hc)),λ j y v' e1 e2 e3=>?_⟩,λ y c' e=>?_,I.free,I.freeC,λ p hp=>?_,tracked ⟨oc,hoc,I.freeC x c hc⟩ hs,by simpa using I.len⟩ ⟨c,hs,.inr hc⟩
  ·exact(hs.2 b (K0 (Le (KD e) (I.ok.cab x c hfn hc)))).trans (I.base.keep b o e n hb hx)
  ·obtain⟨sl,e1⟩:=I.base.slot b o e n hb hx;exact⟨sl,(hs.2 b (K0 (Le (KD e) (I.ok.cab x c hfn hc)))).trans e1⟩
  ·obtain⟨o',e1⟩:=I.base.there b o e hx;exact⟨o',(hs.2 b (K0 (Le (KD e) (I.ok.cab x c hfn hc)))).trans e1⟩
  ·by_cases hj:j=i
   ·subst hj;rw [hi] at e1;cases e1;rw [M7 hiσ] at e2;cases e2;exact⟨u,r,.inr ⟨.inl hk,c,hc,hc'⟩⟩
   ·rw [Nl (Ld hj)] at e2;obtain⟨u',r',q⟩:=hl j y v' e1 e2 e3;refine⟨u',r',?_⟩
    rcases q with q|⟨k,c',e,z'⟩
    ·exact .inl q
    ·refine .inr ⟨k,c',e,z'.sameBut hs ?_⟩;rintro rfl;exact hj (oX hN e1 (I.ok.inj _ _ _ e hc ▸ hi))
  ·by_cases hcc:c'=c
   ·subst hcc;exact⟨_,hc'⟩
   ·obtain⟨w2,z2⟩:=I.cell y c' e;exact⟨w2,z2.sameBut hs hcc⟩
  ·obtain⟨e,n,ne,nf,d⟩:=I.pin p hp;refine⟨(hs.2 p.1 ?_).trans e,n,ne,nf,d⟩;intro q;rw [q,hoc] at e;have q':oc=p.2:=Lf e;exact d w' (by rw [←q'];exact hocd)
theorem oI{M:Model}{A:Around}{E:Value->Shared->Prop}{i:Nat}{x:Str}{v:V}{u:Value}{Q:Unit->Shared->Prop}(I:Inv X pins σ H s)(hN:X.N.Nodup)(hi:X.N[i]? = some x)(hx:Loc X.env.scope x)(r:aX v u)
  (h:∀ s',Inv X pins (σ.set i (some v)) H s'->Q () s') (hf:X.fn x=true\/X.env.scope.names.lookup x=some .local:=by first|exact .inl rfl|exact .inr rfl|assumption):wpAny M A (storeName X.env x u) Q E s:=
 ll I hN hi hx r (λ s' I' _=>h s' I') hf
theorem Inv.call'{s':Shared}{ch:List Addr}(I:Inv X pins σ H s)(ho:s'.os=s.os)(u:Un (frs X.stack) ch H H' s.heap s'.heap)(hok:HOk X.prog X.w H' s'.heap)(hg:AllBare s'.gens)
  (hch:∀ b∈ch,(b∈X.ex\/X.s₀.heap.objs.size<=b)/\b ≠ X.env.locals/\(∀ x c,X.env.cells.lookup x=some c->c ≠ b)/\∀ p∈X.pn++pins,p.1 ≠ b):Inv X pins σ H' s':=by
 obtain⟨h',g',d',t',o'⟩:=s';have e:o'=s.os:=ho;subst e;exact I.call (g':=g') (t':=t') (d':=d') u hok hg hch
end
abbrev XK:=Value->Option Addr->Hp->Prop
abbrev St:=List (Option V)
abbrev VK:=V->Hp->Prop
abbrev TE:=St->Hp->VK->Prop
abbrev TT:=St->Hp->(Bool->Hp->Prop)->Prop
abbrev TA:=St->Hp->(List V->Hp->Prop)->Prop
structure oi where
 nx:St->Hp->Prop
 rt:VK
 bk:St->Hp->Prop:=λ _ _=>False
 ct:St->Hp->Prop:=λ _ _=>False
abbrev TS:=oi->St->Hp->Prop
def EP(X:Cx)(pins:List (Addr × Obj))(σ:St)(Q:VK)(u:Value)(s':Shared):Prop:=∃ v H',Inv X pins σ H' s'/\aX v u/\Q v H'
def TP(X:Cx)(pins:List (Addr × Obj))(σ:St)(Q:Bool->Hp->Prop)(b:Bool)(s':Shared):Prop:=∃ H',Inv X pins σ H' s'/\Q b H'
def AP(X:Cx)(pins:List (Addr × Obj))(σ:St)(Q:List V->Hp->Prop)(us:List Value)(s':Shared):Prop:=∃ vs H',Inv X pins σ H' s'/\aK vs us/\Q vs H'
def SP(X:Cx)(pins:List (Addr × Obj))(D:oi)(f:Flow)(s':Shared):Prop:=
 match f with
 | .next=>∃ σ' H',Inv X pins σ' H' s'/\D.nx σ' H'
 | .brk=>∃ σ' H',Inv X pins σ' H' s'/\D.bk σ' H'
 | .cont=>∃ σ' H',Inv X pins σ' H' s'/\D.ct σ' H'
 | .ret u=>∃ v σ' H',Inv X pins σ' H' s'/\aX v u/\D.rt v H'
def PE(X:Cx)(e:Expr)(t:TE):Prop:=
 ∀ (pins:List (Addr × Obj)) (s:Shared) (σ:St) (H:Hp) (Q:VK),Inv X pins σ H s->t σ H Q->wpAny (model X.prog X.w) X.A (eval e X.env) (EP X pins σ Q) X.xe s
def PT(X:Cx)(e:Expr)(t:TT):Prop:=
 ∀ (pins:List (Addr × Obj)) (s:Shared) (σ:St) (H:Hp) (Q:Bool->Hp->Prop),Inv X pins σ H s->t σ H Q->wpAny (model X.prog X.w) X.A (isTrue e X.env (eval e X.env)) (TP X pins σ Q) X.xe s
def PW(X:Cx)(e:Expr)(t:TT):Prop:=
 ∀ (whole:Sem Value) (pins:List (Addr × Obj)) (s:Shared) (σ:St) (H:Hp) (Q:Bool->Hp->Prop),Inv X pins σ H s->t σ H Q->wpAny (model X.prog X.w) X.A (isTrue e X.env whole) (TP X pins σ Q) X.xe s
theorem PW.pt{X:Cx}{e:Expr}{t:TT}(h:PW X e t):PT X e t:=h _
def PA(X:Cx)(es:List Expr)(t:TA):Prop:=
 ∀ (pos:Pos) (pins:List (Addr × Obj)) (s:Shared) (σ:St) (H:Hp) (Q:List V->Hp->Prop),Inv X pins σ H s->t σ H Q->wpAny (model X.prog X.w) X.A (spliced (backTo pos (starEach es X.env))) (AP X pins σ Q) X.xe s
def PS(X:Cx)(st:Stmt)(t:TS):Prop:=
 ∀ (pins:List (Addr × Obj)) (s:Shared) (σ:St) (H:Hp) (D:oi),Inv X pins σ H s->t D σ H->wpAny (model X.prog X.w) X.A (exec st X.env) (SP X pins D) X.xe s
def PSs(X:Cx)(st:List Stmt)(t:TS):Prop:=
 ∀ (pins:List (Addr × Obj)) (s:Shared) (σ:St) (H:Hp) (D:oi),Inv X pins σ H s->t D σ H->wpAny (model X.prog X.w) X.A (execs st X.env) (SP X pins D) X.xe s
theorem thn{α:Type}{t:Sem α}{Q Q':α->Shared->Prop}{M:Model}{A:Around}{E:Value->Shared->Prop}{s:Shared}(h:wpAny M A t Q E s)(hQ:∀ a s,Q a s->Q' a s):wpAny M A t Q' E s:=M5 h hQ λ _ _ x=>x
section
variable {X:Cx}
def GR(i:Nat):TE:=λ σ H Q=>∃ v,σ[i]? = some (some v)/\Q v H
def tC(v:V):TE:=λ _ H Q=>Q v H
theorem Em{i:Nat}{x:Str}{pos:Pos}(hN:X.N[i]? = some x)(hv:Vis X.env.scope x)(hd:(x == ("__debug__":Str))=false:=by decide)(hcd:(x == ("__classdict__":Str))=false:=by decide):PE X (.Name x pos) (GR i):=by
 intro pins s σ H Q I h;obtain⟨v,e,h⟩:=h;obtain⟨m,hn,hl⟩:=I.loc;obtain⟨u,r,l⟩:=hl i x v hN e hv;have fin:EP X pins σ Q u s:=⟨v,H,I,r,h⟩
 rcases l with ⟨hk,hm⟩|⟨hk,c,hc,hcell⟩
 ·exact wpAny_Name (wpAny_loadName_local I.ok.kind hk hn hm fin) hd
 ·rcases hk with hk|hk
  ·exact wpAny_Name (wpAny_loadName_cell I.ok.kind hk hc hcell fin) hd
  ·exact wpAny_Name (wpAny_loadName_free I.ok.kind hk hc hcell fin hcd) hd
theorem dP{i j pos}:PE X (.Constant (.int i) j pos) (tC (.int i)):=λ _ _ _ H _ I h=>wpAny_Constant_int ⟨.int i,H,I.tok _,⟨_,rfl⟩,h⟩
theorem rm{b j pos}:PE X (.Constant (.bool b) j pos) (tC (.bl b)):=λ _ _ _ H _ I h=>Constant_bool ⟨.bl b,H,I,rfl,h⟩
theorem Er{j pos}:PE X (.Constant .none j pos) (tC .non):=λ _ _ _ H _ I h=>Constant_none ⟨.non,H,I,rfl,h⟩
def Gl(X:Cx)(x:Str):Prop:=X.env.kindOf x=some .globalImplicit
theorem nq{E:Value->Shared->Prop}{pins:List (Addr × Obj)}{s:Shared}{σ:St}{H:Hp}{x:Str}{u:Value}{pos:Pos}{Q:Value->Shared->Prop}(I:Inv X pins σ H s)(hg:Gl X x)(hm:X.mg x=some u)(h:Q u s)
  (hd:(x == ("__debug__":Str))=false:=by decide):wpAny (model X.prog X.w) X.A (eval (.Name x pos) X.env) Q E s:=
 Calls.Name_function_global I.ok.kind hg (Calls.loadGlobal_global (by rw [I.ok.glob];exact I.mod.glob.keeps I.bk) hm h) hd
theorem fA{E:Value->Shared->Prop}{pins:List (Addr × Obj)}{s:Shared}{σ:St}{H:Hp}{x:Str}{u:Value}{pos:Pos}{Q:Value->Shared->Prop}(I:Inv X pins σ H s)(hg:Gl X x)(hm:X.mg x=none)(hv:bootBuiltins x=some u)(h:Q u s)
  (hn:x ≠ "__name__":=by decide) (hd:(x == ("__debug__":Str))=false:=by decide):wpAny (model X.prog X.w) X.A (eval (.Name x pos) X.env) Q E s:=by
 obtain⟨mb,h1,h2⟩:=I.mod.blt;exact Calls.Name_function_global I.ok.kind hg (Calls.loadGlobal_builtin (by rw [I.ok.glob];exact I.mod.glob.keeps I.bk) hm (by rw [I.ok.blt];exact h1.keeps I.bk) ((h2 x hn).trans hv) h) hd
theorem eR{x:Str}{v:V}{u:Value}{pos:Pos}(hg:Gl X x)(hm:X.mg x=some u)(r:aX v u)(hd:(x == ("__debug__":Str))=false:=by decide):PE X (.Name x pos) (tC v):=
 λ _ _ _ H _ I h=>nq I hg hm ⟨v,H,I,r,h⟩ hd
theorem jF{x:Str}{v:V}{u:Value}{pos:Pos}(hg:Gl X x)(hm:X.mg x=none)(hv:bootBuiltins x=some u)(r:aX v u)(hn:x ≠ "__name__":=by decide)(hd:(x == ("__debug__":Str))=false:=by decide):PE X (.Name x pos) (tC v):=
 λ _ _ _ H _ I h=>fA I hg hm hv ⟨v,H,I,r,h⟩ hn hd
variable {a b:Expr}{ta tb:TE}{pos:Pos}
def tB(t:TE):TT:=λ σ H Q=>t σ H λ x H1=>∃ c,x=.bl c/\Q c H1
theorem Eh{e:Expr}{t:TE}(h:PE X e t)(he:∀ whole,isTrue e X.env whole=(do let v ←whole;standAt e.pos;holding [v] (truthy v)):=by intro _;rfl):PT X e (tB t):=by
 intro pins s σ H Q I hw;refine isTrue_plain (thn (h pins s σ H _ I hw) λ v s1 ⟨x,H1,I1,r1,q1⟩=>?_) (he _);obtain⟨d,rfl,q⟩:=q1;cases r1;exact Mg ⟨H1,I1,q⟩
variable {tA tB':TT}{ft:List Expr}
def He(t u:TT):TT:=λ σ H Q=>t σ H λ c H1=>if c=true then u σ H1 Q else Q false H1
def tOr(t u:TT):TT:=λ σ H Q=>t σ H λ c H1=>if c=true then Q true H1 else u σ H1 Q
def Jq(t:TT):TT:=λ σ H Q=>t σ H λ c H1=>Q (!c) H1
theorem m6(ha:PT X a tA):PW X (.BoolOp .And [a] pos) tA:=by
 intro wh pins s σ H Q I h;refine isTrue_and (thn (ha pins s σ H Q I h) λ c s1 e=>?_)
 cases c with
 | true=>exact isTrue_and_nil e
 | false=>exact e
theorem rX(ha:PT X a tA):PW X (.BoolOp .Or [a] pos) tA:=by
 intro wh pins s σ H Q I h;refine isTrue_or (thn (ha pins s σ H Q I h) λ c s1 e=>?_)
 cases c with
 | false=>exact isTrue_or_nil e
 | true=>exact e
theorem rY(ha:PT X a tA)(hb:PW X (.BoolOp .And (b::ft) pos) tB'):PW X (.BoolOp .And (a::b::ft) pos) (He tA tB'):=by
 intro wh pins s σ H Q I h;refine isTrue_and (thn (ha pins s σ H _ I h) λ c s1 ⟨H1,I1,q1⟩=>?_)
 cases c with
 | true=>exact hb wh pins s1 σ H1 Q I1 q1
 | false=>exact⟨H1,I1,q1⟩
theorem vZ(ha:PT X a tA)(hb:PW X (.BoolOp .Or (b::ft) pos) tB'):PW X (.BoolOp .Or (a::b::ft) pos) (tOr tA tB'):=by
 intro wh pins s σ H Q I h;refine isTrue_or (thn (ha pins s σ H _ I h) λ c s1 ⟨H1,I1,q1⟩=>?_)
 cases c with
 | true=>exact⟨H1,I1,q1⟩
 | false=>exact hb wh pins s1 σ H1 Q I1 q1
theorem rZ(ha:PT X a tA):PT X (.UnaryOp .Not a pos) (Jq tA):=by
 intro pins s σ H Q I h;exact isTrue_not (ha pins s σ H (λ c H1=>Q (!c) H1) I h)
def Dv(ta tb:TE):TE:=λ σ H Q=>ta σ H λ x H1=>∃ c,x=.bl c/\if c=true then tb σ H1 Q else Q (.bl false) H1
def Dq(ta:TE):TE:=λ σ H Q=>ta σ H λ x H1=>∃ c,x=.bl c/\Q (.bl (!c)) H1
theorem ou{op}{t:TE}(h:PE X a t):PE X (.BoolOp op [a] pos) t:=λ pins s σ H Q I hw=>BoolOp_one (h pins s σ H Q I hw)
theorem Es(ha:PE X a ta)(hb:PE X (.BoolOp .And (b::ft) pos) tb):PE X (.BoolOp .And (a::b::ft) pos) (Dv ta tb):=by
 intro pins s σ H Q I h;refine BoolOp_and (thn (ha pins s σ H _ I h) λ v s1 ⟨x,H1,I1,r1,q1⟩=>?_);obtain⟨c,rfl,q1⟩:=q1;cases r1;refine Mg ?_
 cases c with
 | true=>exact hb pins s1 σ H1 Q I1 q1
 | false=>exact⟨.bl false,H1,I1,rfl,q1⟩
theorem Ep(ha:PE X a ta):PE X (.UnaryOp .Not a pos) (Dq ta):=by
 intro pins s σ H Q I h;refine UnaryOp_ (thn (ha pins s σ H _ I h) λ v s1 ⟨x,H1,I1,r1,q1⟩=>?_);obtain⟨c,rfl,q1⟩:=q1;cases r1;exact not_of (Mg ⟨.bl (!c),H1,I1,rfl,q1⟩)
def tIf(t:TT)(ta tb:TE):TE:=λ σ H Q=>t σ H λ c H1=>if c=true then ta σ H1 Q else tb σ H1 Q
theorem oU{c:Expr}(hc:PT X c tA)(ha:PE X a ta)(hb:PE X b tb):PE X (.IfExp c a b pos) (tIf tA ta tb):=by
 intro pins s σ H Q I h;refine wpAny_IfExp (thn (hc pins s σ H _ I h) λ d s1 ⟨H1,I1,q1⟩=>?_)
 cases d with
 | true=>exact ha pins s1 σ H1 Q I1 q1
 | false=>exact hb pins s1 σ H1 Q I1 q1
end
def SqL(K:W.Frag)(H:Hp)(a:Addr)(xs:List V):Prop:=
 Rd H a (.lst xs) \/
  ∃ (o:Obj) (its:Array Value) (n:Nat),K.lookup a=some o/\o.cls=.type "list" /\ o.dict=none/\o.data=.seq its n/\its.size<=sizeLine/\aK xs its.toList
def SqT(K:W.Frag)(H:Hp)(a:Addr)(xs:List V):Prop:=
 Rd H a (.tup xs) \/
  ∃ (o:Obj) (its:Array Value) (n:Nat),K.lookup a=some o/\o.cls=.type "tuple" /\ o.data=.seq its n/\its.size<=sizeLine/\aK xs its.toList
def Kt:Value->Option V
 | .none=>some .non
 | .bool b=>some (.bl b)
 | .int i _=>some (.int i)
 | .str x _=>some (.str x)
 | .bytes b _=>some (.byt b)
 | .float b _=>some (.flt b)
 | .ref a=>some (.ref a)
 | .type n=>some (.ty n)
 | _=>none
theorem aX.abs{x:V}{u:Value}(r:aX x u):Kt u=some x:=by
 cases x with
 | non=>cases r;rfl
 | bl _=>cases r;rfl
 | int _=>obtain⟨t,rfl⟩:=r;rfl
 | str _=>obtain⟨t,rfl⟩:=r;rfl
 | byt _=>obtain⟨t,rfl⟩:=r;rfl
 | flt _=>obtain⟨t,rfl⟩:=r;rfl
 | ref _=>cases r;rfl
 | ty _=>cases r;rfl
theorem aX.inj{x y:V}{u:Value}(r:aX x u)(q:aX y u):x=y:=Lf (r.abs.symm.trans q.abs)
theorem aK.inj:∀ {xs ys:List V}{us:List Value},aK xs us->aK ys us->xs=ys
 | _,_,_,.nil,.nil=>rfl
 | _,_,_,.cons r t,.cons r' t'=>by rw [r.inj r',aK.inj t t']
section
variable {X:Cx}{pins:List (Addr × Obj)}{σ:St}{H:Hp}{s:Shared}{a:Addr}{xs ys:List V}
theorem SqL.of{K:W.Frag}(h:H a=some (.lst xs)):SqL K H a xs:=.inl (.inl h)
theorem SqT.of{K:W.Frag}(h:H a=some (.tup xs)):SqT K H a xs:=.inl (.inl h)
theorem Inv.list(I:Inv X pins σ H s)(h:SqL X.K H a xs):∃ its:List Value,aK xs its/\PlainL s.heap a its.toArray/\xs.length<=sizeLine:=by
 rcases h with h|⟨o,its,n,hk,hc,hd,hs,hz,r⟩
 ·obtain⟨z,its,n,r,e⟩:=h.ok I.hok;exact⟨its,r,⟨_,n,e,rfl,rfl,rfl⟩,z⟩
 ·refine⟨its.toList,r,⟨o,n,I.kIn a o hk,hc,hd,by simpa using hs⟩,?_⟩;have e:=r.length;simp only [Mf] at e;omega
theorem Inv.tuple(I:Inv X pins σ H s)(h:SqT X.K H a xs):∃ its:List Value,aK xs its/\IsTup s.heap a its.toArray/\xs.length<=sizeLine:=by
 rcases h with h|⟨o,its,n,hk,hc,hs,hz,r⟩
 ·obtain⟨z,its,r,p⟩:=h.ok I.hok;exact⟨its,r,p,z⟩
 ·refine⟨its.toList,r,⟨o,I.kIn a o hk,hc,n,by simpa using hs⟩,?_⟩;have e:=r.length;simp only [Mf] at e;omega
theorem Inv.list_inj(I:Inv X pins σ H s)(h:SqL X.K H a xs)(h':SqL X.K H a ys):xs=ys:=by
 obtain⟨its,r,⟨o,n,e,_,_,d⟩,_⟩:=I.list h;obtain⟨its',r',⟨o',n',e',_,_,d'⟩,_⟩:=I.list h';rw [e] at e';cases e';rw [d] at d'
 injection d' with d1 _
 have:its=its':=by simpa using LR Array.toList d1
 subst this;exact r.inj r'
theorem Inv.tuple_inj(I:Inv X pins σ H s)(h:SqT X.K H a xs)(h':SqT X.K H a ys):xs=ys:=by
 obtain⟨its,r,⟨o,e,_,n,d⟩,_⟩:=I.tuple h;obtain⟨its',r',⟨o',e',_,n',d'⟩,_⟩:=I.tuple h';rw [e] at e';cases e';rw [d] at d'
 injection d' with d1 _
 have:its=its':=by simpa using LR Array.toList d1
 subst this;exact r.inj r'
end
abbrev Cx.wish(X:Cx)(E:Value->Shared->Prop):Cx:={ X with xe:=E }
abbrev Cx.nox(X:Cx):Cx:=X.wish λ _ _=>False
theorem Cx.Ok.wish{X:Cx}(ok:X.Ok)(E:Value->Shared->Prop):(X.wish E).Ok:=
 ⟨ok.mod,ok.kind,ok.glob,ok.blt,ok.above,ok.inj,ok.has,ok.cab,ok.hd,ok.frames,ok.stk,ok.exf,ok.bs,ok.bsz,ok.noex,ok.exfs,ok.funs,ok.frf⟩
theorem Cx.Ok.unwish{X:Cx}{E:Value->Shared->Prop}(ok:(X.wish E).Ok):X.Ok:=
 ⟨ok.mod,ok.kind,ok.glob,ok.blt,ok.above,ok.inj,ok.has,ok.cab,ok.hd,ok.frames,ok.stk,ok.exf,ok.bs,ok.bsz,ok.noex,ok.exfs,ok.funs,ok.frf⟩
section
variable {X:Cx}{pins:List (Addr × Obj)}{σ:St}{H:Hp}{s:Shared}{E:Value->Shared->Prop}
theorem Inv.wish(I:Inv X pins σ H s)(E:Value->Shared->Prop):Inv (X.wish E) pins σ H s:=⟨I.ok.wish E,I.os,I.bare,I.base,I.loc,I.cell,I.free,I.freeC,I.pin,I.hok,I.len⟩
theorem Inv.unwish(I:Inv (X.wish E) pins σ H s):Inv X pins σ H s:=⟨I.ok.unwish,I.os,I.bare,I.base,I.loc,I.cell,I.free,I.freeC,I.pin,I.hok,I.len⟩
theorem SP.unwish{D:oi}{f:Flow}{s':Shared}(h:SP (X.wish E) pins D f s'):SP X pins D f s':=by
 cases f with
 | next=>obtain⟨σ',H',I,q⟩:=h;exact⟨σ',H',I.unwish,q⟩
 | brk=>obtain⟨σ',H',I,q⟩:=h;exact⟨σ',H',I.unwish,q⟩
 | cont=>obtain⟨σ',H',I,q⟩:=h;exact⟨σ',H',I.unwish,q⟩
 | ret u=>obtain⟨v,σ',H',I,r,q⟩:=h;exact⟨v,σ',H',I.unwish,r,q⟩
theorem PSs.nox{st:List Stmt}{t:TS}(h:PSs X.nox st t):PSs X st t:=λ pins s σ H D I hw=>
 M5 (h pins s σ H D (I.wish _) hw) (λ _ _ q=>q.unwish) λ _ _ z=>False.elim z
end
section
variable {X:Cx}{st:Stmt}{ft:List Stmt}{t u:TS}{e:Expr}{te:TE}{pos:Pos}
def Dr:TS:=λ D σ H=>D.nx σ H
def Jn(t u:TS):TS:=λ D σ H=>t { D with nx:=u D } σ H
theorem aW:PSs X [] Dr:=λ _ _ σ H _ I h=>Oa ⟨σ,H,I,h⟩
theorem fD(h1:PS X st t)(h2:PSs X ft u):PSs X (st::ft) (Jn t u):=by
 intro pins s σ H D I h;refine wpAny_execs_cons (thn (h1 pins s σ H { D with nx:=u D } I h) λ f s1 q=>?_)
 cases f with
 | next=>
  obtain⟨σ',H',I',q⟩:=q;exact h2 pins s1 σ' H' D I' q
 | ret v=>exact q
 | brk=>exact q
 | cont=>exact q
theorem jD(h1:PS X st t):PSs X [st] t:=by
 intro pins s σ H D I h;refine wpAny_execs_cons (thn (h1 pins s σ H D I h) λ f s1 q=>?_)
 cases f with
 | next=>exact Oa q
 | ret v=>exact q
 | brk=>exact q
 | cont=>exact q
theorem Inv.quiet{pins:List (Addr × Obj)}{σ:St}{H:Hp}{s:Shared}(I:Inv X pins σ H s):interactive X.env=false:=by simp [interactive,I.ok.kind]
def Ds(te:TE):TS:=λ D σ H=>te σ H λ _ H1=>D.nx σ H1
theorem AE(he:PE X e te)(hs:swapsWith e none pos.line X.env=pure false:=by rfl):PS X (.Expr e pos) (Ds te):=by
 intro pins s σ H D I h;exact wpAny_Expr_any (thn (he pins s σ H _ I h) λ v s1 ⟨x,H1,I1,r1,q1⟩=>⟨σ,H1,I1,q1⟩) I.quiet hs
def Jp(te:TE):TS:=λ D σ H=>te σ H D.rt
theorem sf(he:PE X e te):PS X (.Return (some e) pos) (Jp te):=by
 intro pins s σ H D I h;exact wpAny_Return_some (thn (he pins s σ H _ I h) λ v s1 ⟨x,H1,I1,r1,q1⟩=>⟨x,σ,H1,I1,r1,q1⟩)
def Jr(c:TT)(t u:TS):TS:=λ D σ H=>c σ H λ b H1=>if b=true then t D σ H1 else u D σ H1
theorem zK{c:Expr}{a b:List Stmt}{tc:TT}(hc:PT X c tc)(ha:PSs X a t)(hb:PSs X b u):PS X (.If c a b pos) (Jr tc t u):=by
 intro pins s σ H D I h;refine wpAny_If (thn (hc pins s σ H _ I h) λ d s1 ⟨H1,I1,q1⟩=>?_)
 cases d with
 | true=>exact ha pins s1 σ H1 D I1 q1
 | false=>exact hb pins s1 σ H1 D I1 q1
def Ee:TS:=λ _ _ _=>False
theorem dh:PS X st Ee:=λ _ _ _ _ _ _ h=>h.elim
end
abbrev TG:=V->St->Hp->(St->Hp->Prop)->Prop
abbrev TGs:=List V->St->Hp->(St->Hp->Prop)->Prop
def PG(X:Cx)(target:Expr)(t:TG):Prop:=
 ∀ (pins:List (Addr × Obj)) (s:Shared) (σ:St) (H:Hp) (v:V) (u:Value) (Q:St->Hp->Prop),Inv X pins σ H s->aX v u->t v σ H Q →
  wpAny (model X.prog X.w) X.A (assign target X.env u) (λ _ s'=>∃ σ' H',Inv X pins σ' H' s'/\Q σ' H') X.xe s
def PGs(X:Cx)(ts:List Expr)(t:TGs):Prop:=
 ∀ (pins:List (Addr × Obj)) (s:Shared) (σ:St) (H:Hp) (vs:List V) (us:List Value) (Q:St->Hp->Prop),Inv X pins σ H s->aK vs us->t vs σ H Q →
  wpAny (model X.prog X.w) X.A (assignInOrder ((assignEach ts X.env).map (·.2)) us) (λ _ s'=>∃ σ' H',Inv X pins σ' H' s'/\Q σ' H') X.xe s
abbrev yx:=V->V->V->Hp->(Hp->Prop)->Prop
def J6(X:Cx)(t:yx):Prop:=
 ∀ (pins:List (Addr × Obj)) (s:Shared) (σ:St) (H:Hp) (o i v:V) (ov iv u:Value) (Q:Hp->Prop),Inv X pins σ H s->aX o ov->aX i iv->aX v u->t o i v H Q →
  wpAny (model X.prog X.w) X.A (setItem ov iv u) (λ _ s'=>∃ H',Inv X pins σ H' s'/\Q H') X.xe s
section
variable {X:Cx}{pos:Pos}
def dI(i:Nat):TG:=λ v σ H Q=>Q (σ.set i (some v)) H
theorem sR{i:Nat}{x:Str}(hN:X.N.Nodup)(hi:X.N[i]? = some x)(hx:Loc X.env.scope x)(hf:X.fn x=true\/X.env.scope.names.lookup x=some .local:=by first|exact .inl rfl|exact .inr rfl|assumption):PG X (.Name x pos) (dI i):=by
 intro pins s σ H v u Q I r h;exact wpAny_assign_Name (oI I hN hi hx r (λ s' I'=>⟨_,H,I',h⟩) hf)
def J4:TGs:=λ vs σ H Q=>vs=[]/\Q σ H
def DY(t:TG)(u:TGs):TGs:=λ vs σ H Q=>∃ v r,vs=v::r/\t v σ H λ σ' H'=>u r σ' H' Q
theorem AJ:PGs X [] J4:=by
 intro pins s σ H vs us Q I r h;obtain⟨e,h⟩:=h;subst e;cases r;exact assignInOrder_nil ⟨σ,H,I,h⟩
theorem xk{e:Expr}{es:List Expr}{t:TG}{u:TGs}(h1:PG X e t)(h2:PGs X es u)
  (hs:(assignEach (e::es) X.env).map (·.2)=assign e X.env::(assignEach es X.env).map (·.2):=by rfl):PGs X (e::es) (DY t u):=by
 intro pins s σ H vs us Q I r h;obtain⟨v,vr,e1,h⟩:=h;subst e1
 cases r with
 | cons r rr=>
  rw [hs];refine assignInOrder_cons (thn (h1 pins s σ H _ _ _ I r h) λ _ s1 ⟨σ1,H1,I1,q1⟩=>?_);exact h2 pins s1 σ1 H1 _ _ Q I1 rr q1
def J2(K:W.Frag)(n:Nat)(t:TGs):TG:=λ v σ H Q=>∃ a xs,v=.ref a/\SqT K H a xs/\xs.length=n/\t xs σ H Q
theorem El{es:List Expr}{k:Nat}{t:TGs}{n:Nat}(hc:X.calm=true)(h:PGs X es t)
  (hn:(assignEach es X.env).length=n:=by rfl) (hst:(assignEach es X.env).findIdx? (·.1)=none:=by rfl):PG X (.Tuple es k pos) (J2 X.K n t):=by
 intro pins s σ H v u Q I r hw;obtain⟨a,xs,e1,hq,hl,hw⟩:=hw;subst e1;cases r;obtain⟨its,rv,ht,hz⟩:=I.tuple hq;refine assign_Tuple_tuple (I.ok.hd hc) ht (by simp [hn,←hl,rv.length]) hst λ h' hx=>?_;have I1:Inv X pins σ H { s with heap:=h' }:=I.kept (t':=s.toks) λ b o e=>hx b o (K0 (KD e)) e;exact h pins _ σ H xs _ Q I1 (by simpa using rv) hw
def J3(to ti:TE)(t:yx):TG:=λ v σ H Q=>to σ H λ o H1=>ti σ H1 λ i H2=>t o i v H2 λ H3=>Q σ H3
theorem yJ{o i:Expr}{to ti:TE}{t:yx}(ho:PE X o to)(hi:PE X i ti)(hs:J6 X t)
  (ha:∀ v,assign (.Subscript o i pos) X.env v=(do
   let ov ←holding [v] (eval o X.env)
   let iv ←holding [v,ov] (eval i X.env)
   standAt pos
   holding [v,ov,iv] (setItem ov iv v)
   release [v,ov,iv] []):=by intro _;rfl):PG X (.Subscript o i pos) (J3 to ti t):=by
 intro pins s σ H v u Q I r h;rw [ha];refine Kz (LU (thn (ho pins s σ H _ I h) λ ov s1 ⟨x,H1,I1,r1,q1⟩=>?_));refine Kz (LU (thn (hi pins s1 σ H1 _ I1 q1) λ iv s2 ⟨y,H2,I2,r2,q2⟩=>?_));refine Kz (OJ (Kz (LU (thn (hs pins s2 σ H2 x y v ov iv u _ I2 r1 r2 r q2) λ _ s3 ⟨H3,I3,q3⟩=>?_))));exact wpAny_release ⟨σ,H3,I3,q3⟩
def Hd(te:TE)(g:TG):TS:=λ D σ H=>te σ H λ x H1=>g x σ H1 D.nx
theorem kU{tg e:Expr}{te:TE}{g:TG}(he:PE X e te)(hg:PG X tg g)(hs:swapsWithSole [tg] e pos.line X.env=pure false:=by rfl)(hw:swappedStores [tg] e X.env=pure none:=by rfl)
  (h1:(assignEach [tg] X.env).map (·.2)=[assign tg X.env]:=by rfl):PS X (.Assign [tg] e pos) (Hd te g):=by
 intro pins s σ H D I h;refine wpAny_Assign_stores (thn (he pins s σ H _ I h) λ v s1 ⟨x,H1,I1,r1,q1⟩=>?_) hs hw;rw [h1];exact thn (hg pins s1 σ H1 x v _ I1 r1 q1) λ _ s2 q=>q
theorem gp{i:Nat}{x:Str}{e:Expr}{te:TE}{pos':Pos}(hN:X.N.Nodup)(hi:X.N[i]? = some x)(hx:Loc X.env.scope x)(he:PE X e te)(hs:swapsWith e (some (.Name x pos')) pos.line X.env=pure false:=by rfl)(hf:X.fn x=true\/X.env.scope.names.lookup x=some .local:=by first|exact .inl rfl|exact .inr rfl|assumption) :
  PS X (.Assign [.Name x pos'] e pos) (Hd te (dI i)):=by
 intro pins s σ H D I h;refine wpAny_Assign_Name (thn (he pins s σ H _ I h) λ v s1 ⟨y,H1,I1,r1,q1⟩=>?_) hs;exact oI I1 hN hi hx r1 (λ s2 I2=>⟨_,H1,I2,q1⟩) hf
end
section
variable {X:Cx}{pos:Pos}
def rK(c:TT)(tb:TS):TS:=λ D σ H=>∃ W:Nat->St->Hp->Prop,(∃ m,W m σ H)/\∀ m σ H,W m σ H →
 c σ H λ b H1=>if b=true then ∃ N:St->Hp->Prop,(∀ σ' H',N σ' H'->∃ m',m' < m/\W m' σ' H')/\tb { D with nx:=N,ct:=N,bk:=D.nx } σ H1 else D.nx σ H1
theorem oS{c:Expr}{body:List Stmt}{tc:TT}{tb:TS}(hp:PassesOwn (model X.prog X.w) X.A X.env X.xe)(hc:PT X c tc)(hb:PSs X body tb):PS X (.While c body [] pos) (rK tc tb):=by
 intro pins s σ H D I h;obtain⟨W,⟨m0,w0⟩,turn⟩:=h;refine wpAny_While (codeAny_whileLoop (λ n s'=>∃ σ' H',Inv X pins σ' H' s'/\W n σ' H') ?_ m0 ⟨σ,H,I,w0⟩);rintro n s1 ⟨σ1,H1,I1,w1⟩;refine MB hp (thn (hc pins s1 σ1 H1 _ I1 (turn n σ1 H1 w1)) λ b s2 ⟨H2,I2,q2⟩=>?_)
 cases b with
 | true=>
  obtain⟨N,hN,q2⟩:=q2;rw [KZ rfl];refine MB hp (thn (hb pins s2 σ1 H2 _ I2 q2) λ f s3 q3=>?_)
  cases f with
  | next=>
   obtain⟨σ3,H3,I3,n3⟩:=q3;obtain⟨m',hm,w3⟩:=hN σ3 H3 n3;exact⟨m',hm,σ3,H3,I3,w3⟩
  | cont=>
   obtain⟨σ3,H3,I3,n3⟩:=q3;obtain⟨m',hm,w3⟩:=hN σ3 H3 n3;exact⟨m',hm,σ3,H3,I3,w3⟩
  | brk=>exact q3
  | ret v=>exact q3
 | false=>
  rw [KU Lb];exact Oa ⟨σ1,H2,I2,q2⟩
end
structure It where
 go:Nat->Hp->Prop
 yld:Nat->Hp->V->Hp->Prop
 stop:Nat->Hp->Prop
def kM(X:Cx)(pins:List (Addr × Obj))(H:Hp)(b:Addr):Prop:=
 H b=none/\b ≠ X.env.locals/\b ∉ X.fs/\(b∈X.ex\/X.s₀.heap.objs.size<=b)/\(∀ x c,X.env.cells.lookup x=some c->c ≠ b)/\∀ p∈X.pn++pins,p.1 ≠ b
theorem Inv.fpOk{X:Cx}{pins:List (Addr × Obj)}{σ:St}{H H':Hp}{s:Shared}{b:Addr}(I:Inv X pins σ H s)(hb:s.heap.objs.size<=b)(hn:H' b=none):kM X pins H' b:=by
 refine⟨hn,LA (Le I.lt hb),I.nofs hb,.inr (Lu I.sz hb),λ x c e z=>?_,λ p hp z=>?_⟩
 ·obtain⟨v,q⟩:=I.cell x c e;exact absurd (Le q.lt (by rw [z];exact hb)) (LJ _)
 ·exact absurd (Le (KD (I.pin p hp).1) (by rw [z];exact hb)) (LJ _)
structure vX(P:Program)(w:World)(K:W.Frag)(tg:Expr)(J:It)(fp:List Addr)(it:Addr)(tn:Nat->Heap->Prop):Prop where
 mem:it∈fp
 obj:∀ i h,tn i h->∀ b∈fp,∃ o,h.get? b=some o/\∀ v,o.data ≠ .cell v
 keep:∀ i h h',tn i h->(∀ b∈fp,∀ o,h.get? b=some o->h'.get? b=some o)->tn i h'
 item:∀ (X:Cx),X.prog=P->X.w=w->X.K=K->X.calm=true->∀ (i:Nat) (pins:List (Addr × Obj)) (s:Shared) (σ:St) (H:Hp) (E:Value->Shared->Prop),Inv X pins σ H s->(∀ b∈fp,kM X pins H b)->tn i s.heap->J.go i H →
  wpAny (model P w) X.A (pyNext (.ref it)) (λ r s1=>∃ u,r=some u /\
   wpAny (model P w) X.A (letOwnedTupleGo tg (.ref it) u) (λ _ s2=>∃ x H',Inv X pins σ H' s2/\aX x u/\J.yld i H x H'/\tn (i+1) s2.heap/\∀ b∈fp,H' b=none) E s1) E s
 done:∀ (X:Cx),X.prog=P->X.w=w->X.K=K->X.calm=true->∀ (i:Nat) (pins:List (Addr × Obj)) (s:Shared) (σ:St) (H:Hp) (E:Value->Shared->Prop),Inv X pins σ H s->(∀ b∈fp,kM X pins H b)->tn i s.heap->J.stop i H →
  wpAny (model P w) X.A (pyNext (.ref it)) (λ r s1=>r=none/\Inv X pins σ H s1) E s
 self:∀ (A:Around) (i:Nat) (s:Shared) (Q:Value->Shared->Prop) (E:Value->Shared->Prop),tn i s.heap->Q (.ref it) s->wpAny (model P w) A (pyIter (.ref it)) Q E s
abbrev TI:=St->Hp->(It->Hp->Prop)->Prop
def PIE(X:Cx)(pins:List (Addr × Obj))(σ:St)(tg:Expr)(R:It->Hp->Prop)(itv:Value)(s2:Shared):Prop:=
 ∃ (it:Addr) (fp:List Addr) (tn:Nat->Heap->Prop) (J:It) (H':Hp),itv=.ref it/\Inv X pins σ H' s2/\vX X.prog X.w X.K tg J fp it tn/\tn 0 s2.heap/\(∀ b∈fp,kM X pins H' b)/\R J H'
def PI(X:Cx)(tg iter:Expr)(wi:TI):Prop:=
 ∀ (pins:List (Addr × Obj)) (s:Shared) (σ:St) (H:Hp) (R:It->Hp->Prop),Inv X pins σ H s->wi σ H R →
  wpAny (model X.prog X.w) X.A (eval iter X.env) (λ v s1=>wpAny (model X.prog X.w) X.A (pyIter v) (PIE X pins σ tg R) X.xe s1) X.xe s
theorem rD{M:Model}{A:Around}{E:Value->Shared->Prop}{s:Shared}{tg:Expr}{it:Addr}{u:Value}{o:Obj}{n:String}{vs:Array Value}{Q:Unit->Shared->Prop}(ho:s.heap.get? it=some o)(hc:o.cls=.type n)(hd:o.data=.fields vs)
    (hn:["enumerate", "zip", "dict_itemiterator", "dict_reverseitemiterator", "odict_iterator", "itertools.zip_longest", "itertools.pairwise"].contains n=false) (hQ:Q () s):wpAny M A (letOwnedTupleGo tg (.ref it) u) Q E s:=by
  unfold letOwnedTupleGo
  cases tg<;>first
    | exact KQ hQ
    | (cases u<;>first
        | exact KQ hQ
        | (refine Kz (wpAny_load ho ?_)
           rw [hc,hd]
           show wpAny M A (if (["enumerate", "zip", "dict_itemiterator", "dict_reverseitemiterator", "odict_iterator", "itertools.zip_longest", "itertools.pairwise"].contains n && vs[0]? == some (rawInt _))=true then _ else _) Q E s
           rw [KU (by intro h;rw [hn,Bool.false_and] at h;cases h)];exact KQ hQ))
def Itl(K:W.Frag)(a:Addr):It:=
 ⟨λ i H=>∃ xs x,SqL K H a xs/\xs[i]? = some x,λ i H x H'=>H'=H/\∀ xs,SqL K H a xs->xs[i]? = some x,λ i H=>∃ xs,SqL K H a xs/\xs.length<=i⟩
def Itt(K:W.Frag)(a:Addr):It:=
 ⟨λ i H=>∃ xs x,SqT K H a xs/\xs[i]? = some x,λ i H x H'=>H'=H/\∀ xs,SqT K H a xs->xs[i]? = some x,λ i H=>∃ xs,SqT K H a xs/\xs.length<=i⟩
def Itr(lo:Int)(n:Nat):It:=⟨λ i _=>i < n,λ i H x H'=>H'=H/\x=.int (lo+i),λ i _=>n<=i⟩
theorem uc{P:Program}{w:World}{K:W.Frag}{tg:Expr}(a it:Addr):vX P w K tg (Itl K a) [it] it (λ i h=>h.IsListIter it a i) where
 mem:=by simp
 obj:=λ i h st b hb=>by
  have e:b=it:=by simpa using hb
  subst e;obtain⟨o,e,c,d⟩:=st;exact⟨o,e,λ v z=>by rw [d] at z;cases z⟩
 keep:=λ i h h' st k=>st.at λ o e=>k it (by simp) o e
 item:=by
  intro X hP hw hK hc i pins s σ H E I hf st hg;subst hP hw hK;obtain⟨xs,x,hq,hx⟩:=hg;obtain⟨its,rv,p,hz⟩:=I.list hq;obtain⟨u,hu,ru⟩:=rv.get hx;obtain⟨f0,f1,f2,f3,f4,f5⟩:=hf it (by simp);refine wpAny_pyNext_list_item st p.isList (x:=u) (by simpa using hu) λ h' st' sb=>?_;have I1:Inv X pins σ H { s with heap:=h' }:=I.turned (t':=s.toks) (λ b o hb e=>(sb.2 b hb).trans e) f0 f1 f3 f4 f5;obtain⟨o,e,c,d⟩:=id st';exact⟨u,rfl,rD (s:={ s with heap:=h' }) e c d (by decide) ⟨x,H,I1,ru,⟨rfl,λ ys hy=>by rw [I.list_inj hy hq];exact hx⟩,st',λ b hb=>(hf b hb).1⟩⟩
 done:=by
  intro X hP hw hK hc i pins s σ H E I hf st hg;subst hP hw hK;obtain⟨xs,hq,hx⟩:=hg;obtain⟨its,rv,p,hz⟩:=I.list hq;obtain⟨f0,f1,f2,f3,f4,f5⟩:=hf it (by simp);have hl:=rv.length;exact wpAny_pyNext_list_end (I.ok.hd hc) st p.isList (by simp;omega) λ h' eb=>⟨rfl,I.turned (t':=s.toks) (λ b o hb e=>eb b o hb e) f0 f1 f3 f4 f5⟩
 self:=λ _ _ _ _ _ st h=>wpAny_pyIter_listiter st h
theorem pT{P:Program}{w:World}{K:W.Frag}{tg:Expr}(a it:Addr):vX P w K tg (Itt K a) [it] it (λ i h=>h.IsTupleIter it a i) where
 mem:=by simp
 obj:=λ i h st b hb=>by
  have e:b=it:=by simpa using hb
  subst e;obtain⟨o,e,c,d⟩:=st;exact⟨o,e,λ v z=>by rw [d] at z;cases z⟩
 keep:=λ i h h' st k=>st.at λ o e=>k it (by simp) o e
 item:=by
  intro X hP hw hK hc i pins s σ H E I hf st hg;subst hP hw hK;obtain⟨xs,x,hq,hx⟩:=hg;obtain⟨its,rv,p,hz⟩:=I.tuple hq;obtain⟨u,hu,ru⟩:=rv.get hx;obtain⟨f0,f1,f2,f3,f4,f5⟩:=hf it (by simp);refine wpAny_pyNext_tuple_item st (show s.heap.IsTuple a its.toArray from p) (x:=u) (by simpa using hu) λ h' st' sb=>?_;have I1:Inv X pins σ H { s with heap:=h' }:=I.turned (t':=s.toks) (λ b o hb e=>(sb.2 b hb).trans e) f0 f1 f3 f4 f5;obtain⟨o,e,c,d⟩:=id st';exact⟨u,rfl,rD (s:={ s with heap:=h' }) e c d (by decide) ⟨x,H,I1,ru,⟨rfl,λ ys hy=>by rw [I.tuple_inj hy hq];exact hx⟩,st',λ b hb=>(hf b hb).1⟩⟩
 done:=by
  intro X hP hw hK hc i pins s σ H E I hf st hg;subst hP hw hK;obtain⟨xs,hq,hx⟩:=hg;obtain⟨its,rv,p,hz⟩:=I.tuple hq;obtain⟨f0,f1,f2,f3,f4,f5⟩:=hf it (by simp);have hl:=rv.length;exact wpAny_pyNext_tuple_end (I.ok.hd hc) st (show s.heap.IsTuple a its.toArray from p) (by simp;omega) λ h' eb=>⟨rfl,I.turned (t':=s.toks) (λ b o hb e=>eb b o hb e) f0 f1 f3 f4 f5⟩
 self:=λ _ _ _ _ _ st h=>wpAny_pyIter_tupleiter st h
theorem pU{P:Program}{w:World}{K:PySem.W.Frag}{tg:Expr}(it:Addr)(lo:Int)(n:Nat):vX P w K tg (Itr lo n) [it] it (λ i h=>IsRangeIter h it (lo+(i:Nat) * 1) ((n:Int) - (i:Nat)) 1) where
 mem:=by simp
 obj:=λ i h st b hb=>by
  have e:b=it:=by simpa using hb
  subst e
  exact⟨_,st,λ v z=>by
   have z':Data.fields _=Data.cell v:=z;cases z'⟩
 keep:=λ i h h' st k=>k it (by simp) _ st
 item:=by
  intro X hP hw hK hc i pins s σ H E I hf st hg;subst hP hw hK;obtain⟨f0,f1,f2,f3,f4,f5⟩:=hf it (by simp);have W:=Walks.range (prog:=X.prog) (w:=X.w) (I.ok.hd hc) it lo 1 n;refine W.item i s _ _ hg st λ v h' tk hv st' kk=>?_;obtain⟨t,rfl⟩:=hv;have I1:Inv X pins σ H { s with heap:=h',toks:=tk }:=I.turned (λ b o hb e=>kk b o (by simpa using hb) e) f0 f1 f3 f4 f5;refine⟨_,rfl,rD (s:={ s with heap:=h',toks:=tk }) (n := "range_iterator") st' rfl rfl (by decide) ⟨.int (lo+i),H,I1,⟨t,?_⟩,⟨rfl,rfl⟩,st',λ b hb=>(hf b hb).1⟩⟩;rw [MP]
 done:=by
  intro X hP hw hK hc i pins s σ H E I hf st hg;subst hP hw hK;obtain⟨f0,f1,f2,f3,f4,f5⟩:=hf it (by simp);exact wpAny_pyNext_range_end (I.ok.hd hc) st (by have:n<=i:=hg;omega) λ h' eb=>⟨rfl,I.turned (t':=s.toks) (λ b o hb e=>eb b o hb e) f0 f1 f3 f4 f5⟩
 self:=λ _ _ _ _ _ st h=>wpAny_pyIter_rangeiter st h
section
variable {X:Cx}{tg:Expr}
theorem xf{pins:List (Addr × Obj)}{σ:St}{H:Hp}{s:Shared}{R:It->Hp->Prop}{E:Value->Shared->Prop}{lo hi:Int}{t u v:Tok}{tk:Nat}(I:Inv X pins σ H s)(h1:-(2 ^ 62)<=lo)(h2:lo < 2 ^ 62)(h3:-(2 ^ 62)<=hi)(h4:hi < 2 ^ 62)
  (q:R (Itr lo (hi - lo).toNat) H):wpAny (model X.prog X.w) X.A (pyIter (.ref s.heap.objs.size)) (PIE X pins σ tg R) E { s with heap:=s.heap.push { cls:=.type "range",data:=.fields #[.int lo t,.int hi u,.int 1 v] },toks:=tk }:=by
 refine wpAny_pyIter_range (IsRange.new ..) (small_one h1 h2 h3 h4) ?_;have I1:Inv X pins σ H { s with heap:=s.heap.push { cls:=.type "range",data:=.fields #[.int lo t,.int hi u,.int 1 v] },toks:=tk }:=I.kept λ b o e=>KC _ e
 refine⟨(s.heap.push { cls:=.type "range",data:=.fields #[.int lo t,.int hi u,.int 1 v] }).objs.size,[(s.heap.push { cls:=.type "range",data:=.fields #[.int lo t,.int hi u,.int 1 v] }).objs.size],_,_,H,rfl,
  I1.kept (t':=tk) λ b o e=>KC _ e,pU _ lo (hi - lo).toNat,?_,λ b hb=>?_,q⟩
 ·have e1:lo+((0:Nat):Int) * 1=lo:=by simp
  have e2:(((hi - lo).toNat:Nat):Int) - ((0:Nat):Int)=Builtin.Range.rangeSize lo hi 1:=by rw [rangeSize_one];split<;>omega
  show IsRangeIter _ _ (lo+((0:Nat):Int) * 1) ((((hi - lo).toNat:Nat):Int) - ((0:Nat):Int)) 1
  rw [e1,e2];exact KR _ rfl
 ·have e:b=(s.heap.push { cls:=.type "range",data:=.fields #[.int lo t,.int hi u,.int 1 v] }).objs.size:=by simpa using hb
  subst e;exact I1.fpOk (KO _) (I1.hok.fresh (KO _))
def DW(ta:TA):TI:=λ σ H R=>ta σ H λ vs H1=>∃ j:Int,vs=[.int j]/\-(2 ^ 62)<=j/\j < 2 ^ 62/\R (Itr 0 j.toNat) H1
theorem dQ{a:Expr}{ta:TA}{p pos:Pos}(hg:Gl X "range")(hm:X.mg "range"=none)(ha:PA X [a] ta)(hs:starEach [a] X.env=[(false,eval a X.env)]:=by rfl):PI X tg (.Call (.Name "range" p) [a] [] pos) (DW ta):=by
 intro pins s σ H R I h;refine Call_ (fA I hg hm boot_range (LM (thn (ha pos pins s σ H _ I h) λ us s1 ⟨vs,H1,I1,r1,q1⟩=>?_) hs rfl));obtain⟨j,e,q1,q2,q⟩:=q1;subst e
 cases r1 with
 | cons r rr=>
  cases rr;obtain⟨t,rfl⟩:=r;exact call_range_1 (xf I1 (by omega) (by omega) q1 q2 (by simpa using q))
def Js(wi:TI)(g:TG)(tb:TS):TS:=λ D σ H=>wi σ H λ J H1=>∃ W:Nat->Nat->St->Hp->Prop,(∃ m,W 0 m σ H1)/\∀ i m σ H,W i m σ H →
 (J.stop i H/\D.nx σ H)\/(J.go i H/\∃ N:St->Hp->Prop,(∀ σ' H',N σ' H'->∃ m',m' < m/\W (i+1) m' σ' H')/\∀ x H',J.yld i H x H'->g x σ H' λ σ2 H2=>tb { D with nx:=N,ct:=N,bk:=D.nx } σ2 H2)
def kW(fp:List Addr)(h:Heap):List (Addr × Obj):=fp.filterMap λ b=>(h.get? b).map λ o=>(b,o)
theorem eu{fp:List Addr}{h:Heap}{b:Addr}{o:Obj}(hb:b∈fp)(e:h.get? b=some o):(b,o)∈kW fp h:=List.mem_filterMap.mpr ⟨b,hb,by rw [e];rfl⟩
theorem ux{fp:List Addr}{h:Heap}{p:Addr × Obj}(hp:p∈kW fp h):p.1∈fp/\h.get? p.1=some p.2:=by
 obtain⟨b,hb,e⟩:=List.mem_filterMap.mp hp
 cases q:h.get? b with
 | none=>rw [q] at e;cases e
 | some o=>
  rw [q] at e;have e':(b,o)=p:=Lf e;subst e';exact⟨hb,q⟩
theorem Inv.pinned{pins:List (Addr × Obj)}{σ:St}{H:Hp}{s:Shared}{fp:List Addr}(I:Inv X pins σ H s)(hf:∀ b∈fp,kM X pins H b)(ho:∀ b∈fp,∃ o,s.heap.get? b=some o/\∀ v,o.data ≠ .cell v):Inv X (pins++kW fp s.heap) σ H s:=
 I.pins_of λ p hp=>(Li.mp hp).elim (λ z=>I.pin p (Lc _ z)) λ z=>by
  obtain⟨hb,e⟩:=ux z;obtain⟨f0,f1,f2,_⟩:=hf p.1 hb;obtain⟨o,e',d⟩:=ho p.1 hb;rw [e] at e';cases e';exact⟨e,f0,f1,f2,d⟩
theorem Inv.unpinned{pins pl:List (Addr × Obj)}{σ:St}{H:Hp}{s:Shared}(I:Inv X (pins++pl) σ H s):Inv X pins σ H s:=I.pins_of λ p hp=>I.pin p (Lc _ (Ly _ hp))
theorem Ei{iter:Expr}{body:List Stmt}{wi:TI}{g:TG}{tb:TS}{pos:Pos}(hp:PassesOwn (model X.prog X.w) X.A X.env X.xe)(hc:X.calm=true)(hi:PI X tg iter wi)(hg:PG X tg g)(hb:PSs X body tb)
  (hs:∀ x,foldedSetIterable iter X.env x=pure x:=by intro _;rfl):PS X (.For tg iter body [] pos) (Js wi g tb):=by
 intro pins s σ H D I h;refine wpAny_For (thn (hi pins s σ H _ I h) λ v s1 h1=>thn h1 λ itv s2 h2=>?_) hs;obtain⟨it,fp,tn,J,H2,e,I2,T,st2,f2,W,⟨m0,w0⟩,turn⟩:=h2;subst e;have stat:∀ {H':Hp},(∀ b∈fp,H' b=none)->∀ b∈fp,kM X pins H' b:=λ hn b hb=>⟨hn b hb,(f2 b hb).2⟩;refine codeAny_forLoop_any (λ n s'=>∃ i σ' H',Inv X pins σ' H' s'/\tn i s'.heap/\(∀ b∈fp,H' b=none)/\W i n σ' H') ?_ m0 ⟨0,σ,H2,I2,st2,λ b hb=>(f2 b hb).1,w0⟩;rintro n s3 ⟨i,σ3,H3,I3,st3,fr3,w3⟩
 rcases turn i n σ3 H3 w3 with ⟨stop,qn⟩|⟨go,N,hN,step⟩
 ·refine MB hp (thn (T.done X rfl rfl rfl hc i pins s3 σ3 H3 X.xe I3 (stat fr3) st3 stop) λ r s4 ⟨hr,I4⟩=>?_);subst hr;exact Oa ⟨σ3,H3,I4,qn⟩
 ·refine MB hp (thn (T.item X rfl rfl rfl hc i pins s3 σ3 H3 X.xe I3 (stat fr3) st3 go) λ r s4 ⟨u,hr,h4⟩=>?_);subst hr;refine MB hp (thn h4 λ _ s5 ⟨x,H5,I5,r5,y5,st5,fr5⟩=>?_);have I5':=I5.pinned (stat fr5) (T.obj _ _ st5);refine MB hp (thn (hg _ s5 σ3 H5 x u _ I5' r5 (step x H5 y5)) λ _ s6 ⟨σ6,H6,I6,q6⟩=>?_);refine MB hp (thn (hb _ s6 σ6 H6 _ I6 q6) λ f s7 q7=>?_)
  have again:∀ {σ7:St} {H7:Hp},Inv X (pins++kW fp s5.heap) σ7 H7 s7->N σ7 H7->∃ m,m < n/\∃ i σ' H',Inv X pins σ' H' s7/\tn i s7.heap/\(∀ b∈fp,H' b=none)/\W i m σ' H':=λ {σ7 H7} I7 n7=>by
   obtain⟨m',hm,w7⟩:=hN σ7 H7 n7;refine⟨m',hm,i+1,σ7,H7,I7.unpinned,T.keep _ _ _ st5 λ b hb o e=>(I7.pin (b,o) (Lc _ (Lc _ (eu hb e)))).1,λ b hb=>?_,w7⟩;obtain⟨o,e,d⟩:=T.obj _ _ st5 b hb;exact(I7.pin (b,o) (Lc _ (Lc _ (eu hb e)))).2.1
  cases f with
  | next=>obtain⟨σ7,H7,I7,n7⟩:=q7;exact again I7 n7
  | cont=>obtain⟨σ7,H7,I7,n7⟩:=q7;exact again I7 n7
  | brk=>obtain⟨σ7,H7,I7,q7⟩:=q7;exact⟨σ7,H7,I7.unpinned,q7⟩
  | ret v=>obtain⟨x7,σ7,H7,I7,r7,q7⟩:=q7;exact⟨x7,σ7,H7,I7.unpinned,r7,q7⟩
end
theorem ye{K:PySem.W.Frag}{a:Addr}{xs:List V}{g:TG}{tb:TS}{D:oi}{σ:St}{H:Hp}(Pv:Nat->St->Hp->Prop)(h0:Pv 0 σ H)(hl:∀ i σ H,i<=xs.length->Pv i σ H->SqL K H a xs)
  (hs:∀ i x σ H,xs[i]? = some x->Pv i σ H->g x σ H λ σ2 H2=>tb { D with nx:=Pv (i+1),ct:=Pv (i+1),bk:=D.nx } σ2 H2) (hd:∀ σ H,Pv xs.length σ H->D.nx σ H) :
  ∃ W:Nat->Nat->St->Hp->Prop,(∃ m,W 0 m σ H)/\∀ i m σ H,W i m σ H →
   ((Itl K a).stop i H/\D.nx σ H)\/((Itl K a).go i H/\∃ N:St->Hp->Prop,(∀ σ' H',N σ' H'->∃ m',m' < m/\W (i+1) m' σ' H')/\∀ x H',(Itl K a).yld i H x H'->g x σ H' λ σ2 H2=>tb { D with nx:=N,ct:=N,bk:=D.nx } σ2 H2):=by
 refine⟨λ i m σ H=>m=xs.length - i/\i<=xs.length/\Pv i σ H,⟨xs.length,by simp,Lq _,h0⟩,?_⟩;rintro i m σ H ⟨rfl,hi,p⟩;have q:=hl i σ H hi p
 by_cases hlt:i < xs.length
 ·refine .inr ⟨⟨xs,xs[i],q,by simp [hlt]⟩,Pv (i+1),λ σ' H' p'=>⟨xs.length - (i+1),by omega,rfl,hlt,p'⟩,λ x H' y=>?_⟩;obtain⟨e,y⟩:=y;subst e;exact hs i x σ _ (y xs q) p
 ·have e:i=xs.length:=by omega
  subst e;exact .inl ⟨⟨xs,q,KO _⟩,hd σ H p⟩
theorem vz{lo:Int}{n:Nat}{g:TG}{tb:TS}{D:oi}{σ:St}{H:Hp}(Pv:Nat->St->Hp->Prop)(h0:Pv 0 σ H)
  (hs:∀ i σ H,i < n->Pv i σ H->g (.int (lo+i)) σ H λ σ2 H2=>tb { D with nx:=Pv (i+1),ct:=Pv (i+1),bk:=D.nx } σ2 H2) (hd:∀ σ H,Pv n σ H->D.nx σ H) :
  ∃ W:Nat->Nat->St->Hp->Prop,(∃ m,W 0 m σ H)/\∀ i m σ H,W i m σ H →
   ((Itr lo n).stop i H/\D.nx σ H)\/((Itr lo n).go i H/\∃ N:St->Hp->Prop,(∀ σ' H',N σ' H'->∃ m',m' < m/\W (i+1) m' σ' H')/\∀ x H',(Itr lo n).yld i H x H'->g x σ H' λ σ2 H2=>tb { D with nx:=N,ct:=N,bk:=D.nx } σ2 H2):=by
 refine⟨λ i m σ H=>m=n - i/\i<=n/\Pv i σ H,⟨n,by simp,Lq _,h0⟩,?_⟩;rintro i m σ H ⟨rfl,hi,p⟩
 by_cases hlt:i < n
 ·refine .inr ⟨hlt,Pv (i+1),λ σ' H' p'=>⟨n - (i+1),by omega,rfl,hlt,p'⟩,λ x H' y=>?_⟩;obtain⟨e,y⟩:=y;subst e y;exact hs i σ _ hlt p
 ·have e:i=n:=by omega
  subst e;exact .inl ⟨KO _,hd σ H p⟩
abbrev R2:=V->V->Hp->VK->Prop
def OpR(X:Cx)(f:Value->Value->Sem Value)(r:R2):Prop:=
 ∀ (pins:List (Addr × Obj)) (s:Shared) (σ:St) (H:Hp) (x y:V) (v u:Value) (Q:VK),Inv X pins σ H s->aX x v->aX y u->r x y H Q →
  wpAny (model X.prog X.w) X.A (f v u) (EP X pins σ Q) X.xe s
def UnR(X:Cx)(f:Value->Sem Value)(r:V->Hp->VK->Prop):Prop:=
 ∀ (pins:List (Addr × Obj)) (s:Shared) (σ:St) (H:Hp) (x:V) (v:Value) (Q:VK),Inv X pins σ H s->aX x v->r x H Q →
  wpAny (model X.prog X.w) X.A (f v) (EP X pins σ Q) X.xe s
def bL(X:Cx)(f:Value)(r:List V->Hp->VK->Prop):Prop:=
 ∀ (pins:List (Addr × Obj)) (s:Shared) (σ:St) (H:Hp) (xs:List V) (us:List Value) (Q:VK),Inv X pins σ H s->aK xs us->r xs H Q →
  wpAny (model X.prog X.w) X.A (call f us) (EP X pins σ Q) X.xe s
def tOp(r:R2)(ta tb:TE):TE:=λ σ H Q=>ta σ H λ x H1=>tb σ H1 λ y H2=>r x y H2 Q
def tUn(r:V->Hp->VK->Prop)(ta:TE):TE:=λ σ H Q=>ta σ H λ x H1=>r x H1 Q
def rI(C:Int->Int->Prop)(g:Int->Int->V):R2:=λ x y H Q=>∃ i j,x=.int i/\y=.int j/\C i j/\Q (g i j) H
def rI0(g:Int->Int->V):R2:=λ x y H Q=>∃ i j,x=.int i/\y=.int j/\Q (g i j) H
def rU(g:Int->V):V->Hp->VK->Prop:=λ x H Q=>∃ i,x=.int i/\Q (g i) H
section
variable {X:Cx}{a b c:Expr}{ta tb tc:TE}{pos:Pos}
theorem HX(ha:PE X a ta)(hb:PE X b tb){pins:List (Addr × Obj)}{s:Shared}{σ:St}{H:Hp}{R:V->V->Hp->Prop}(I:Inv X pins σ H s)
  (h:ta σ H λ x H1=>tb σ H1 λ y H2=>R x y H2) {Q:Value->Shared->Prop} {f:Value->Value->Sem Value}
  (hf:∀ v u s2 x y H2,Inv X pins σ H2 s2->aX x v->aX y u->R x y H2->wpAny (model X.prog X.w) X.A (f v u) Q X.xe s2) :
  wpAny (model X.prog X.w) X.A (eval a X.env) (λ v s₁=>wpAny (model X.prog X.w) X.A (eval b X.env) (λ u s₂=>wpAny (model X.prog X.w) X.A (f v u) Q X.xe s₂) X.xe s₁) X.xe s:=by
 refine thn (ha pins s σ H _ I h) λ v s1 ⟨x,H1,I1,r1,q1⟩=>?_;refine thn (hb pins s1 σ H1 _ I1 q1) λ u s2 ⟨y,H2,I2,r2,q2⟩=>?_;exact hf v u s2 x y H2 I2 r1 r2 q2
theorem dN{op:Operator}{r:R2}(ho:OpR X (binaryOp op) r)(ha:PE X a ta)(hb:PE X b tb):PE X (.BinOp a op b pos) (tOp r ta tb):=by
 intro pins s σ H Q I h;exact wpAny_BinOp (HX ha hb I h λ v u s2 x y H2 I2 rx ry q=>ho pins s2 σ H2 x y v u Q I2 rx ry q)
theorem rj{op:UnaryOp}{r:V->Hp->VK->Prop}(ho:UnR X (unaryOp op) r)(ha:PE X a ta):PE X (.UnaryOp op a pos) (tUn r ta):=by
 intro pins s σ H Q I h;exact UnaryOp_ (thn (ha pins s σ H _ I h) λ v s1 ⟨x,H1,I1,r1,q1⟩=>ho pins s1 σ H1 x v Q I1 r1 q1)
theorem opI{f:Value->Value->Sem Value}{C:Int->Int->Prop}{g:Int->Int->Int}
  (rule:∀ (i j:Int) (t u:Tok) (s:Shared) (Q:Value->Shared->Prop) (E:Value->Shared->Prop),C i j->Q (.int (g i j) s.toks) { s with toks:=s.toks+1 }->wpAny (model X.prog X.w) X.A (f (.int i t) (.int j u)) Q E s) :
  OpR X f (rI C λ i j=>.int (g i j)):=by
 intro pins s σ H x y v u Q I rx ry h;obtain⟨i,j,rfl,rfl,hc,q⟩:=h;obtain⟨t,rfl⟩:=rx;obtain⟨t',rfl⟩:=ry;exact rule i j t t' s _ _ hc ⟨.int (g i j),H,I.tok _,⟨_,rfl⟩,q⟩
theorem JD{f:Value->Value->Sem Value}{g:Int->Int->Int}
  (rule:∀ (i j:Int) (t u:Tok) (s:Shared) (Q:Value->Shared->Prop) (E:Value->Shared->Prop),Q (.int (g i j) s.toks) { s with toks:=s.toks+1 }->wpAny (model X.prog X.w) X.A (f (.int i t) (.int j u)) Q E s) :
  OpR X f (rI0 λ i j=>.int (g i j)):=by
 intro pins s σ H x y v u Q I rx ry h;obtain⟨i,j,rfl,rfl,q⟩:=h;obtain⟨t,rfl⟩:=rx;obtain⟨t',rfl⟩:=ry;exact rule i j t t' s _ _ ⟨.int (g i j),H,I.tok _,⟨_,rfl⟩,q⟩
theorem GV{f:Value->Value->Sem Value}{g:Int->Int->Bool}
  (rule:∀ (i j:Int) (t u:Tok) (s:Shared) (Q:Value->Shared->Prop) (E:Value->Shared->Prop),Q (.bool (g i j)) s->wpAny (model X.prog X.w) X.A (f (.int i t) (.int j u)) Q E s) :
  OpR X f (rI0 λ i j=>.bl (g i j)):=by
 intro pins s σ H x y v u Q I rx ry h;obtain⟨i,j,rfl,rfl,q⟩:=h;obtain⟨t,rfl⟩:=rx;obtain⟨t',rfl⟩:=ry;exact rule i j t t' s _ _ ⟨.bl (g i j),H,I,rfl,q⟩
def Ia(i j:Int):Prop:=0 < j/\j < 1073741824
def HZ(i j:Int):Prop:=0<=j/\j<=1000000/\i.natAbs < 2 ^ 64
def qW(i j:Int):Prop:=(-(2 ^ 64) < i/\i < 2 ^ 64)\/(-(2 ^ 64) < j/\j < 2 ^ 64)
theorem qW.ok{i j:Int}(h:qW i j):IntMulOk i j:=by
 rcases h with ⟨h1,h2⟩|⟨h1,h2⟩
 ·exact .of_left (intBits_le_64 h1 h2)
 ·exact .of_right (intBits_le_64 h1 h2)
theorem ow:OpR X (binaryOp .Add) (rI0 λ i j=>.int (i+j)):=JD λ _ _ _ _ _ _ _ q=>add_int q
theorem Eu:OpR X (binaryOp .Sub) (rI0 λ i j=>.int (i - j)):=JD λ _ _ _ _ _ _ _ q=>sub_int q
theorem gq:OpR X (binaryOp .Mult) (rI qW λ i j=>.int (i * j)):=opI λ _ _ _ _ _ _ _ hc q=>mul_int q hc.ok
theorem AU:OpR X (binaryOp .FloorDiv) (rI Ia λ i j=>.int (i / j)):=opI λ i j _ _ _ _ _ hc q=>by
 have h1:(0:Int) < j:=hc.1;have h2:j < 1073741824:=hc.2;exact floordiv_int (by omega) (by rw [Int.fdiv_eq_ediv_of_nonneg i (by omega)];exact q) (.inl (PyProof.noPylong_small (by omega)))
theorem gW:OpR X (binaryOp .Mod) (rI (λ _ j=>0 < j) λ i j=>.int (i % j)):=opI λ i j _ _ _ _ _ hc q=>by
 have h1:(0:Int) < j:=hc;exact mod_int' (by omega) (by rw [Int.fmod_eq_emod_of_nonneg i (by omega)];exact q)
theorem Ex:OpR X (binaryOp .Pow) (rI HZ λ i j=>.int (i ^ j.toNat)):=opI λ _ _ _ _ _ _ _ hc q=>pow_int_small hc.1 hc.2.1 hc.2.2 q
theorem unI{f:Value->Sem Value}{g:Int->Int}
  (rule:∀ (i:Int) (t:Tok) (s:Shared) (Q:Value->Shared->Prop) (E:Value->Shared->Prop),Q (.int (g i) s.toks) { s with toks:=s.toks+1 }->wpAny (model X.prog X.w) X.A (f (.int i t)) Q E s) :
  UnR X f (rU λ i=>.int (g i)):=by
 intro pins s σ H x v Q I rx h;obtain⟨i,rfl,q⟩:=h;obtain⟨t,rfl⟩:=rx;exact rule i t s _ _ ⟨.int (g i),H,I.tok _,⟨_,rfl⟩,q⟩
theorem D9:UnR X (unaryOp .USub) (rU λ i=>.int (-i)):=unI λ _ _ _ _ _ q=>neg_int q
end
def Dd:V->V->Bool
 | .non,.non=>true | .non,.int _=>true | .int _,.non=>true | .non,.bl _=>true | .bl _,.non=>true | .non,.str _=>true | .str _,.non=>true
 | .int _,.int _=>true | .bl _,.bl _=>true | .str _,.str _=>true | .byt _,.byt _=>true
 | .int _,.str _=>true | .str _,.int _=>true | .bl _,.str _=>true | .str _,.bl _=>true
 | _,_=>false
def rEq:R2:=λ x y H Q=>Dd x y=true/\Q (.bl (decide (x=y))) H
def rNe:R2:=λ x y H Q=>Dd x y=true/\Q (.bl (!decide (x=y))) H
theorem tJ{i j:Int}:decide (V.int i=V.int j)=(i == j):=by
 rw [Ms];simp
theorem yX{i j:Bool}:decide (V.bl i=V.bl j)=(i == j):=by
 rw [Ms];simp
theorem tI{i j:Str}:decide (V.str i=V.str j)=(i == j):=by
 rw [Ms];simp
theorem tK{i j:Array UInt8}:decide (V.byt i=V.byt j)=(i.toList == j.toList):=by
 rw [Ms];cases i;cases j;simp
section
variable {X:Cx}{a b c:Expr}{ta tb tc:TE}{pos:Pos}
theorem aD{pins:List (Addr × Obj)}{σ:St}{H:Hp}{s:Shared}{Q:VK}{k k':Bool}(I:Inv X pins σ H s)(q:Q (.bl k) H)(e:k=k'):EP X pins σ Q (.bool k') s:=by
 subst e;exact⟨.bl k,H,I,rfl,q⟩
theorem Ii:OpR X (compareOp .Eq) rEq:=by
 intro pins s σ H x y v u Q I rx ry h;obtain⟨hs,q⟩:=h
 cases x with
 | non=>
  cases rx
  cases y with
  | non=>cases ry;exact PySem.EqNone.eq_none_none (aD I q (by simp))
  | bl j=>cases ry;exact PySem.EqNone.eq_none_bool (aD I q (by simp))
  | int j=>obtain⟨t',rfl⟩:=ry;exact PySem.EqNone.eq_none_int (aD I q (by simp))
  | str j=>obtain⟨t',rfl⟩:=ry;exact PySem.EqNone.eq_none_str (aD I q (by simp))
  | _=>exact absurd (show false=true from hs) Lb
 | bl i=>
  cases rx
  cases y with
  | non=>cases ry;exact PySem.EqNone.eq_bool_none (aD I q (by simp))
  | bl j=>cases ry;exact eq_bool (aD I q yX)
  | str j=>obtain⟨t',rfl⟩:=ry;exact PySem.EqMixed.eq_bool_str (aD I q (by simp))
  | _=>exact absurd (show false=true from hs) Lb
 | int i=>
  obtain⟨t,rfl⟩:=rx
  cases y with
  | non=>cases ry;exact PySem.EqNone.eq_int_none (aD I q (by simp))
  | int j=>obtain⟨t',rfl⟩:=ry;exact eq_int (aD I q tJ)
  | str j=>obtain⟨t',rfl⟩:=ry;exact PySem.EqMixed.eq_int_str (aD I q (by simp))
  | _=>exact absurd (show false=true from hs) Lb
 | str i=>
  obtain⟨t,rfl⟩:=rx
  cases y with
  | non=>cases ry;exact PySem.EqNone.eq_str_none (aD I q (by simp))
  | bl j=>cases ry;exact PySem.EqMixed.eq_str_bool (aD I q (by simp))
  | int j=>obtain⟨t',rfl⟩:=ry;exact PySem.EqMixed.eq_str_int (aD I q (by simp))
  | str j=>obtain⟨t',rfl⟩:=ry;exact eq_str (aD I q tI)
  | _=>exact absurd (show false=true from hs) Lb
 | byt i=>
  obtain⟨t,rfl⟩:=rx
  cases y with
  | byt j=>obtain⟨t',rfl⟩:=ry;exact W.eq_bytes (aD I q tK)
  | _=>exact absurd (show false=true from hs) Lb
 | _=>cases y<;>exact absurd (show false=true from hs) Lb
theorem Ie:OpR X (compareOp .NotEq) rNe:=by
 intro pins s σ H x y v u Q I rx ry h;obtain⟨hs,q⟩:=h
 cases x with
 | non=>
  cases rx
  cases y with
  | non=>cases ry;exact PySem.EqNone.ne_none_none (aD I q (by simp))
  | bl j=>cases ry;exact PySem.EqNone.ne_none_bool (aD I q (by simp))
  | int j=>obtain⟨t',rfl⟩:=ry;exact PySem.EqNone.ne_none_int (aD I q (by simp))
  | str j=>obtain⟨t',rfl⟩:=ry;exact PySem.EqNone.ne_none_str (aD I q (by simp))
  | _=>exact absurd (show false=true from hs) Lb
 | bl i=>
  cases rx
  cases y with
  | non=>cases ry;exact PySem.EqNone.ne_bool_none (aD I q (by simp))
  | bl j=>cases ry;exact ne_bool (aD I q (LR not yX))
  | str j=>obtain⟨t',rfl⟩:=ry;exact PySem.EqMixed.ne_bool_str (aD I q (by simp))
  | _=>exact absurd (show false=true from hs) Lb
 | int i=>
  obtain⟨t,rfl⟩:=rx
  cases y with
  | non=>cases ry;exact PySem.EqNone.ne_int_none (aD I q (by simp))
  | int j=>obtain⟨t',rfl⟩:=ry;exact ne_int (aD I q (LR not tJ))
  | str j=>obtain⟨t',rfl⟩:=ry;exact PySem.EqMixed.ne_int_str (aD I q (by simp))
  | _=>exact absurd (show false=true from hs) Lb
 | str i=>
  obtain⟨t,rfl⟩:=rx
  cases y with
  | non=>cases ry;exact PySem.EqNone.ne_str_none (aD I q (by simp))
  | bl j=>cases ry;exact PySem.EqMixed.ne_str_bool (aD I q (by simp))
  | int j=>obtain⟨t',rfl⟩:=ry;exact PySem.EqMixed.ne_str_int (aD I q (by simp))
  | str j=>obtain⟨t',rfl⟩:=ry;exact ne_str (aD I q (LR not tI))
  | _=>exact absurd (show false=true from hs) Lb
 | byt i=>
  obtain⟨t,rfl⟩:=rx
  cases y with
  | byt j=>obtain⟨t',rfl⟩:=ry;exact W.ne_bytes (aD I q (LR not tK))
  | _=>exact absurd (show false=true from hs) Lb
 | _=>cases y<;>exact absurd (show false=true from hs) Lb
theorem DD:OpR X (compareOp .Lt) (rI0 λ i j=>.bl (decide (i < j))):=GV λ _ _ _ _ _ _ _ q=>lt_int q
theorem Ig:OpR X (compareOp .LtE) (rI0 λ i j=>.bl (decide (i<=j))):=GV λ _ _ _ _ _ _ _ q=>le_int q
theorem DE:OpR X (compareOp .Gt) (rI0 λ i j=>.bl (decide (j < i))):=GV λ _ _ _ _ _ _ _ q=>gt_int q
theorem Ih:OpR X (compareOp .GtE) (rI0 λ i j=>.bl (decide (j<=i))):=GV λ _ _ _ _ _ _ _ q=>ge_int q
theorem Ez:OpR X (compareOp .Is) (λ x y H Q=>y=.non/\Q (.bl (decide (x=.non))) H):=by
 intro pins s σ H x y v u Q I rx ry h;obtain⟨rfl,q⟩:=h;cases ry;refine is_none_gen (aD I q ?_)
 cases x<;>first
  | (cases rx;rfl)
  | (obtain⟨t,rfl⟩:=rx;rfl)
theorem OpR.or{f:Value->Value->Sem Value}{r r':R2}(h:OpR X f r)(h':OpR X f r'):OpR X f (λ x y H Q=>r x y H Q\/r' x y H Q):=by
 intro pins s σ H x y v u Q I rx ry q
 rcases q with q|q
 ·exact h pins s σ H x y v u Q I rx ry q
 ·exact h' pins s σ H x y v u Q I rx ry q
theorem aL(b:Expr){op:CmpOp}(h:op ≠ .In:=by decide)(h2:op ≠ .NotIn:=by decide):behindInMarks op b=false:=by
 have e1:(op == CmpOp.In)=false:=by cases op<;>first|rfl|exact absurd rfl h
 have e2:(op == CmpOp.NotIn)=false:=by cases op<;>first|rfl|exact absurd rfl h2
 cases b<;>simp [behindInMarks,e1,e2]
theorem jE{op:CmpOp}{r:R2}(ho:OpR X (compareOp op) r)(ha:PE X a ta)(hb:PE X b tb)(hm:behindInMarks op b=false):PE X (.Compare a [op] [b] pos) (tOp r ta tb):=by
 intro pins s σ H Q I h;exact wpAny_Compare1 (HX ha hb I h λ v u s2 x y H2 I2 rx ry q=>ho pins s2 σ H2 x y v u Q I2 rx ry q) hm
def zA(t:TE):TT:=λ σ H Q=>t σ H λ x H'=>∃ k,x=.bl k/\Q k H'
theorem m8{op:CmpOp}{r:R2}(ho:OpR X (compareOp op) r)(ha:PE X a ta)(hb:PE X b tb)(hm:behindInMarks op b=false):PT X (.Compare a [op] [b] pos) (zA (tOp r ta tb)):=by
 intro pins s σ H Q I h
 refine wpAny_isTrue_Compare1 (thn (ha pins s σ H _ I h) λ v s1 ⟨x,H1,I1,r1,q1⟩=>thn (hb pins s1 σ H1 _ I1 q1) λ u s2 ⟨y,H2,I2,r2,q2⟩=>
  thn (ho pins s2 σ H2 x y v u _ I2 r1 r2 q2) λ c s3 ⟨z,H3,I3,r3,k,e,q3⟩=>?_) hm
 subst e;cases r3;exact Mg ⟨H3,I3,q3⟩
def yF(r r':R2)(ta tb tc:TE):TE:=λ σ H Q=>ta σ H λ x H1=>tb σ H1 λ y H2=>r x y H2 λ z H3=>∃ k,z=.bl k /\
 (if k=true then tc σ H3 λ w' H4=>r' y w' H4 Q else Q (.bl false) H3)
theorem xq{op op':CmpOp}{r r':R2}(ho:OpR X (compareOp op) r)(ho':OpR X (compareOp op') r')(ha:PE X a ta)(hb:PE X b tb)(hc:PE X c tc)
  (hm:lastMarks [op,op'] [b,c]=false:=by with_unfolding_all rfl):PE X (.Compare a [op,op'] [b,c] pos) (yF r r' ta tb tc):=by
 intro pins s σ H Q I h
 refine Compare_chain (thn (ha pins s σ H _ I h) λ v s1 ⟨x,H1,I1,r1,q1⟩=>chain_link (thn (hb pins s1 σ H1 _ I1 q1) λ u s2 ⟨y,H2,I2,r2,q2⟩=>
  thn (ho pins s2 σ H2 x y v u _ I2 r1 r2 q2) λ d s3 ⟨z,H3,I3,r3,k,e,q3⟩=>?_)) hm
 subst e;cases r3;refine Mg ?_
 cases k with
 | false=>exact ite_ff ⟨.bl false,H3,I3,rfl,q3⟩
 | true=>exact ite_tt (chain_last (thn (hc pins s3 σ H3 _ I3 q3) λ w' s4 ⟨z',H4,I4,r4,q4⟩=>ho' pins s4 σ H4 y z' u w' Q I4 r2 r4 q4))
theorem kX:(sizeLine:Nat) < 2 ^ 63:=by rw [NZ];decide
theorem zx{x:V}{us:List Value}(r:aK [x] us):∃ u,us=[u]/\aX x u:=by
 cases r with
 | cons r1 r2=>cases r2;exact⟨_,rfl,r1⟩
theorem zw{x y:V}{us:List Value}(r:aK [x,y] us):∃ u w',us=[u,w']/\aX x u/\aX y w':=by
 cases r with
 | cons r1 r2=>
  cases r2 with
  | cons r3 r4=>cases r4;exact⟨_,_,rfl,r1,r3⟩
theorem vI(hc:X.calm=true):bL X (.builtin "max") (λ xs H Q=>∃ i j,xs=[.int i,.int j]/\Q (.int (if j > i then j else i)) H):=by
 intro pins s σ H xs us Q I r h;obtain⟨i,j,rfl,q⟩:=h;obtain⟨u,w',rfl,⟨t,rfl⟩,⟨t',rfl⟩⟩:=zw r;refine max_two_ints (I.ok.hd hc) λ h' tk k=>⟨_,H,I.kept k,?_,q⟩
 by_cases hj:j > i
 ·rw [KZ hj,KZ hj];exact⟨_,rfl⟩
 ·rw [KU hj,KU hj];exact⟨_,rfl⟩
theorem vH(hc:X.calm=true):bL X (.builtin "min") (λ xs H Q=>∃ i j,xs=[.int i,.int j]/\Q (.int (if j < i then j else i)) H):=by
 intro pins s σ H xs us Q I r h;obtain⟨i,j,rfl,q⟩:=h;obtain⟨u,w',rfl,⟨t,rfl⟩,⟨t',rfl⟩⟩:=zw r;refine min_two_ints (I.ok.hd hc) λ h' tk k=>⟨_,H,I.kept k,?_,q⟩
 by_cases hj:j < i
 ·rw [KZ hj,KZ hj];exact⟨_,rfl⟩
 ·rw [KU hj,KU hj];exact⟨_,rfl⟩
end
structure zu(h:Heap)(x dx C:Addr)(mA:Str->Option Value):Prop where
 obj:h.get? x=some (W.instObj C dx)
 ns:h.Ns1 dx mA
 ne:dx ≠ x
theorem uX{h:Heap}{dx:Addr}{mA:Str->Option Value}(n:h.Ns1 dx mA):∃ od,h.get? dx=some od/\∀ name,W.lookIn name od=some (mA name):=by
 obtain⟨o,es,ep,ho,hd,hk,_,hm⟩:=n;refine⟨o,ho,λ name=>?_⟩;have e:=hm name;unfold nsFind findBy at e;rw [←Array.find?_toList] at e;unfold W.lookIn;rw [hd];dsimp only;split
 ·rename_i y q;rw [q] at e;exact LR some e
 ·rename_i q;rw [q] at e
  have a:es.toList.any (·.refKey)=false:=by
   rw [List.any_eq_false];intro y hy;obtain⟨z,t,hkey⟩:=hk y (Array.mem_toList_iff.mp hy);simp [DictEntry.refKey,hkey]
  have a':¬ es.toList.any (·.refKey)=true:=by rw [a];exact Lb
  rw [KU a'];exact LR some e
theorem zu.look{h:Heap}{x dx C:Addr}{mA:Str->Option Value}(I:zu h x dx C mA):∃ od,W.InstAt h x (W.instObj C dx) C (some od)/\∀ name,W.lookIn name od=some (mA name):=
 let ⟨od,ho,hl⟩:=uX I.ns
 ⟨od,⟨I.obj,rfl,rfl,ho⟩,hl⟩
section
variable {prog:Program}{w:World}{A:Around}{E:Value->Shared->Prop}{s:Shared}{K:PySem.W.Frag}{x dx C f:Addr}{mA:Str->Option Value}{name:Str}{v:Value}
theorem Ce{expr:Bool}{Q:Value->Shared->Prop}(X:K.In s.heap)(I:zu s.heap x dx C mA)(hg:W.plainGet K C name=true)(hh:W.hasDictIn K C=true)
  (ha:W.findIn K (.ref C) name=some none) (hv:mA name=some v) (hv':W.handedIn v=true) (h:Q v { s with toks:=s.toks+1 }) :
  wpAny (model prog w) A (getAttr (.ref x) name expr) Q E s:=by
 obtain⟨od,J,hl⟩:=I.look;exact W.get_value X J (W.plainGet_of hg).1 (W.findObj_own hh ha rfl (by rw [hl,hv])) hv' h
theorem x8{pl:Sem Bool}{Q:Value × List Value->Shared->Prop}(X:K.In s.heap)(I:zu s.heap x dx C mA)(hg:W.plainGet K C name=true)
  (hf:W.findIn K (.ref C) name=some (some (.ref f))) (ht:W.isFn K (.ref f)=true) (hv:mA name=none) (h:Q (.ref f,[.ref x]) s) :
  wpAny (model prog w) A (getMethod (.ref x) name pl) Q E s:=by
 obtain⟨od,J,hl⟩:=I.look;exact W.method_fn X J (W.plainGet_of hg).1 (W.plainGet_of hg).2 hf (Oo.mp ht) (by show (W.lookIn name od).map (·.isSome)=some false;rw [hl,hv];rfl) h
theorem AA{ns:List Str}{Q:Unit->Shared->Prop}(X:K.In s.heap)(I:zu s.heap x dx C mA)
  (hs:W.findIn K (.ref C) "__setattr__"=some (some (.builtin "object.__setattr__"))) (hp:W.plainOver K C=true) (ht:W.takerIn K C name=some none) (hh:W.hasDictIn K C=true)
  (hw:PySem.Within mA ns) (hsz:ns.length<=sizeLine)
  (h:∀ h',zu h' x dx C (λ y=>if y=name then some v else mA y)->Heap.SameBut dx s.heap h'->Q () { s with heap:=h',toks:=s.toks+2 }) :
  wpAny (model prog w) A (setAttr (.ref x) name v) Q E s:=by
 obtain⟨od,J,hl⟩:=I.look;refine W.set_plain X J hs (W.osa_open (s:={ s with toks:=s.toks+1 }) (r:=none) X J hp ht λ b=>?_);obtain⟨cd,hc,hd'⟩:=W.any_some hh;have hx:s.heap.get? x=some ⟨.ref C,some dx,.plain,#[]⟩:=I.obj;refine Kz (KQ (Kz (Kz (wpAny_loadPart hx (Kz (W.Looks.here (s:={ s with toks:=s.toks+1 }) (W.looks_clsIn X hc) ?_))))));rw [hd'];refine KQ (a:=some dx) (Kz (KQ (Kz ?_)));refine wpAny_nsSet1 (s:={ s with toks:=s.toks+1 }) I.ns λ h' hn2 hs2=>?_;obtain⟨oD,esD,epD,hoD,hdD,hcD⟩:=hn2.count (PySem.Within.cons name v hw);refine Kz (wpAny_lookBehind hoD (by rw [hdD];exact pastItsLine_dict (Lu hcD (by rw [Lz];omega))) ?_);exact KQ (h _ ⟨(hs2.2 _ (Ld I.ne)).trans I.obj,hn2,I.ne⟩ hs2)
theorem xx{R:Result->Shared->Prop}{vs:List Value}{kw:List (Str × Value)}(X:K.In s.heap)(hm:W.makesIn K C=true)
  (hi:W.findIn K (.ref C) "__init__"=some (some (.ref f))) (hf:W.typeIn K (.ref f)=some (.type "function"))
  (h:codeAny (model prog w) (A.under (.builtin "type.__call__" ⟨.ref C::vs,kw⟩)) (.call (.ref f) ⟨.ref (s.heap.objs.size+1)::vs,kw⟩) (W.InitBack (s.heap.objs.size+1) R)
   { s with heap:=(s.heap.push W.emptyDict).push (W.instObj C s.heap.objs.size) }) :
  codeAny (model prog w) A (.call (.ref C) ⟨vs,kw⟩) R s:=by
 obtain⟨hh,g,d,t,os⟩:=s;exact W.make_core (W.makes_of X hm) (W.looks_findIn X hi) (λ self=>W.bind_fn X self hf) (.inl rfl) h
end
def dM(f:Str)(v:V):List (Str × V)->List (Str × V)
 | []=>[(f,v)]
 | (g,x)::r=>if g=f then (g,v)::r else (g,x)::dM f v r
theorem av(f g:Str)(v:V):∀ fs:List (Str × V),(dM f v fs).lookup g=if g=f then some v else fs.lookup g
 | []=>by
  show List.lookup g [(f,v)]=_
  by_cases h:g=f
  ·have hb:(g == f)=true:=Oo.mpr h;simp only [List.lookup,hb,KZ h]
  ·have hb:(g == f)=false:=ML.mpr h;simp only [List.lookup,hb,KU h]
 | (k,x)::r=>by
  have ih:=av f g v r;rw [show dM f v ((k,x)::r)=(if k=f then (k,v)::r else (k,x)::dM f v r) from rfl]
  by_cases hk:k=f
  ·rw [KZ hk]
   by_cases h:g=k
   ·have hb:(g == k)=true:=Oo.mpr h;simp only [List.lookup,hb,KZ (h.trans hk)]
   ·have hb:(g == k)=false:=ML.mpr h;simp only [List.lookup,hb,KU (λ e:g=f=>h (e.trans hk.symm))]
  ·rw [KU hk]
   by_cases h:g=k
   ·have hb:(g == k)=true:=Oo.mpr h;simp only [List.lookup,hb,KU (λ e:g=f=>hk (h.symm.trans e))]
   ·have hb:(g == k)=false:=ML.mpr h;simp only [List.lookup,hb];exact ih
theorem ir(f:Str)(v:V):∀ fs:List (Str × V),f∈(dM f v fs).map (·.1)/\∀ g,g∈fs.map (·.1)->g∈(dM f v fs).map (·.1)
 | []=>⟨by simp [dM],λ g h=>by simp at h⟩
 | (k,x)::r=>by
  obtain⟨i1,i2⟩:=ir f v r;rw [show dM f v ((k,x)::r)=(if k=f then (k,v)::r else (k,x)::dM f v r) from rfl]
  by_cases hk:k=f
  ·rw [KZ hk];subst hk;exact⟨by simp,λ g h=>by simpa using h⟩
  ·rw [KU hk];refine⟨?_,λ g h=>?_⟩
   ·rw [Lo];exact KI _ i1
   ·rw [Lo] at h ⊢
    rcases K2.mp h with e|e
    ·exact K2.mpr (.inl e)
    ·exact KI _ (i2 g e)
theorem iE(f:Str)(v:V):∀ fs:List (Str × V),(dM f v fs).length<=fs.length+1
 | []=>by simp [dM]
 | (k,x)::r=>by
  have ih:=iE f v r;rw [show dM f v ((k,x)::r)=(if k=f then (k,v)::r else (k,x)::dM f v r) from rfl]
  by_cases hk:k=f
  ·rw [KZ hk,Lz,Lz];omega
  ·rw [KU hk,Lz,Lz];omega
theorem kK.some_of{v:V}{o:Option Value}(r:kK (some v) o):∃ u,o=some u/\aX v u:=by
 cases o with
 | none=>exact(show False from r).elim
 | some u=>exact⟨u,rfl,r⟩
theorem kK.none_of{o:Option Value}(r:kK none o):o=none:=by
 cases o with
 | none=>rfl
 | some u=>exact(show False from r).elim
theorem vy{v:V}{u:Value}(r:aX v u):W.handedIn u=true:=by
 cases v with
 | non=>cases (show u=Value.none from r);rfl
 | bl b=>cases (show u=Value.bool b from r);rfl
 | int i=>obtain⟨t,e⟩:=(show ∃ t,u=Value.int i t from r);cases e;rfl
 | str x=>obtain⟨t,e⟩:=(show ∃ t,u=Value.str x t from r);cases e;rfl
 | byt b=>obtain⟨t,e⟩:=(show ∃ t,u=Value.bytes b t from r);cases e;rfl
 | flt b=>obtain⟨t,e⟩:=(show ∃ t,u=Value.float b t from r);cases e;rfl
 | ref a=>cases (show u=Value.ref a from r);rfl
 | ty n=>cases (show u=Value.type n from r);rfl
section
variable {P:Program}{w:World}{H H':Hp}{h h':Heap}{a C dx:Addr}{fs fs':List (Str × V)}
theorem jI(hok:HOk P w H h)(e:H a=some (.ins C dx fs)):∃ mA,zu h a dx C mA/\(∀ f,kK (fs.lookup f) (mA f))/\PySem.Within mA (fs.map (·.1))/\fs.length<=1000/\H dx=some (.own a):=by
 obtain⟨d,z,ne,ob,mA,n,r,q⟩:=(show aO P w H h a (.ins C dx fs) from hok a _ e);exact⟨mA,⟨ob,n,ne⟩,r,q,z,d⟩
end
structure Cls(K:W.Frag)(C:Addr):Prop where
 pg:W.plainGet K C Str.empty=true
 hd:W.hasDictIn K C=true
 po:W.plainOver K C=true
 sa:W.findIn K (.ref C) "__setattr__"=some (some (.builtin "object.__setattr__"))
theorem Cls.get{K:W.Frag}{C:Addr}(c:Cls K C)(f:Str):W.plainGet K C f=true:=c.pg
def cy(K:W.Frag)(C:Addr)(f:Str):Prop:=W.findIn K (.ref C) f=some none
theorem cy.taker{K:W.Frag}{C:Addr}{f:Str}(n:cy K C f):W.takerIn K C f=some none:=by
 unfold W.takerIn;rw [show W.findIn K (.ref C) f=some none from n];rfl
structure mJ(K:W.Frag)(C:Addr)(m:Str)(f:Addr):Prop where
 at_:W.findIn K (.ref C) m=some (some (.ref f))
 fn:W.isFn K (.ref f)=true
 kp:W.keepIn K (.ref f)=true
section
variable {X:Cx}{pins:List (Addr × Obj)}{σ:St}{H:Hp}{s:Shared}{a C dx:Addr}{fs:List (Str × V)}{f:Str}{v:V}{A:Around}{E:Value->Shared->Prop}
theorem qA{b:Bool}{Q:Value->Shared->Prop}(I:Inv X pins σ H s)(e:H a=some (.ins C dx fs))(c:Cls X.K C)(n:cy X.K C f)(l:fs.lookup f=some v)
  (h:∀ u s',Inv X pins σ H s'->aX v u->Q u s'):wpAny (model X.prog X.w) A (getAttr (.ref a) f b) Q E s:=by
 obtain⟨mA,O,r,_,_,_⟩:=jI I.hok e;obtain⟨u,hu,ru⟩:=kK.some_of (v:=v) (o:=mA f) (by rw [←l];exact r f);exact Ce I.kIn O (c.get f) c.hd n hu (vy ru) (h u _ (I.tok _) ru)
theorem jl{m:Str}{g:Addr}{pl:Sem Bool}{Q:Value × List Value->Shared->Prop}(I:Inv X pins σ H s)(e:H a=some (.ins C dx fs))(c:Cls X.K C)(k:mJ X.K C m g)(l:fs.lookup m=none)
  (h:Q (.ref g,[.ref a]) s):wpAny (model X.prog X.w) A (getMethod (.ref a) m pl) Q E s:=by
 obtain⟨mA,O,r,_,_,_⟩:=jI I.hok e;have hn:mA m=none:=kK.none_of (by rw [←l];exact r m);exact x8 I.kIn O (c.get m) k.at_ k.fn hn h
theorem pW{y:V}{u:Value}{Q:Unit->Shared->Prop}(I:Inv X pins σ H s)(e:H a=some (.ins C dx fs))(c:Cls X.K C)(n:cy X.K C f)(hl:fs.length < 1000)(ry:aX y u)
  (h:∀ s',Inv X pins σ (upd H a (.ins C dx (dM f y fs))) s'->Q () s'):wpAny (model X.prog X.w) A (setAttr (.ref a) f u) Q E s:=by
 obtain⟨mA,O,r,wi,_,ho⟩:=jI I.hok e;have hz:(fs.map (·.1)).length<=sizeLine:=by rw [KG,NZ];omega
 refine AA I.kIn O c.sa c.po n.taker c.hd wi hz λ h' O' sb=>h _ ?_;have hd:∃ o,h'.get? dx=some o:=let ⟨o,_,_,e',_⟩:=O'.ns;⟨o,e'⟩;refine I.write (x:=a) (e:=dx) (by rw [e];exact True.intro) (.inr ho) (λ b q hb z=>(sb.2 b hb).trans z) hd ?_;refine⟨by rw [af O.ne];exact ho,?_,O.ne,O'.obj,_,O'.ns,λ g=>?_,λ g hg=>?_⟩
 ·have:=iE f y fs;omega
 ·show kK ((dM f y fs).lookup g) (if g=f then some u else mA g)
  rw [av]
  by_cases q:g=f
  ·rw [KZ q,KZ q];exact ry
  ·rw [KU q,KU q];exact r g
 ·by_cases q:g=f
  ·rw [q];exact(ir f y fs).1
  ·refine(ir f y fs).2 g (wi g λ z=>hg ?_)
   show (if g=f then some u else mA g)=none
   rw [KU q];exact z
theorem Inv.made(I:Inv X pins σ H s):Inv X pins σ (upd (upd H s.heap.objs.size (.own (s.heap.objs.size+1))) (s.heap.objs.size+1) (.ins C s.heap.objs.size []))
  { s with heap:=(s.heap.push W.emptyDict).push (W.instObj C s.heap.objs.size) }:=by
 have e1:(s.heap.push W.emptyDict).get? s.heap.objs.size=some W.emptyDict:=KR s.heap rfl
 have e2:((s.heap.push W.emptyDict).push (W.instObj C s.heap.objs.size)).get? (s.heap.objs.size+1)=some (W.instObj C s.heap.objs.size):=by
  have:=KR (s.heap.push W.emptyDict) (o:=W.instObj C s.heap.objs.size) rfl
  rwa [LF] at this
 have e3:(s.heap.push W.emptyDict).Ns s.heap.objs.size (λ _=>none):=⟨W.emptyDict,#[],_,e1,rfl,(λ e he=>absurd he (by simp)),λ _=>rfl⟩;have I1:=I.laid (a:=s.heap.objs.size) (o:=.own (s.heap.objs.size+1)) (h':=s.heap.push W.emptyDict) (t':=s.toks) (λ b u q=>KC _ q) (KO _) ⟨_,e1⟩;refine I1.laid (a:=s.heap.objs.size+1) (o:=.ins C s.heap.objs.size []) (t':=s.toks) (λ b u q=>KC _ q) (OB (LF _ _)) ?_;have ne:s.heap.objs.size ≠ s.heap.objs.size+1:=K0 (MJ _);refine⟨by rw [af ne,ah],Lq _,ne,e2,λ _=>none,(Heap.Ns1.of_empty e3).at λ o q=>KC _ q,λ _=>True.intro,λ y hy=>absurd rfl hy⟩
theorem CI{prog:Program}{w:World}{env:Env}{e:Expr}{f:Str}{pos:Pos}{s:Shared}{Q:Value->Shared->Prop}(hb:attributeBase e f env (eval e env)=eval e env)
  (h:wpAny (model prog w) A (eval e env) (λ o s₁=>wpAny (model prog w) A (getAttr o f true) Q E s₁) E s):wpAny (model prog w) A (eval (.Attribute e f pos) env) Q E s:=
 Attribute_any_ h (by rw [arm_eval_Attribute,hb])
end
section
variable {X:Cx}{o e value:Expr}{f:Str}{pos pos' tpos:Pos}{ta tv:TE}
end
section
variable {X:Cx}{pins:List (Addr × Obj)}{σ:St}{H:Hp}{s:Shared}{A:Around}{E:Value->Shared->Prop}{Q:Value->Shared->Prop}{c:Value}{b:Bool}
inductive oh (K:PySem.W.Frag) (H:Hp):V->Value->Prop where
 | non:oh K H .non (.type "NoneType")
 | bl (x:Bool):oh K H (.bl x) (.type "bool")
 | int (i:Int):oh K H (.int i) (.type "int")
 | str (x:Str):oh K H (.str x) (.type "str")
 | flt (x:UInt64):oh K H (.flt x) (.type "float")
 | lst {a:Addr} {xs:List V} (e:H a=some (.lst xs)):oh K H (.ref a) (.type "list")
 | frz {a:Addr} {o:Obj} {xs:List V} (e:H a=some (.frz o (.lst xs))):oh K H (.ref a) (.type "list")
 | tup {a:Addr} {xs:List V} (e:H a=some (.tup xs)):oh K H (.ref a) (.type "tuple")
 | dK {a:Addr} {kvs:List (Key × V)} (e:H a=some (.dK kvs)):oh K H (.ref a) (.type "dict")
 | dT {a:Addr} {kvs:List (List Key × V)} (e:H a=some (.dT kvs)):oh K H (.ref a) (.type "dict")
 | ins {a C dx:Addr} {fs:List (Str × V)} (e:H a=some (.ins C dx fs)) (cl:Cls K C) (ha:PySem.W.findIn K (.ref C) "__class__"=some (some (.builtin "object.__class__")))
   (hn:PySem.W.specialIn K (.builtin "object.__class__") "__get__"=some (some (.builtin "getset_descriptor.__get__"))) (htk:PySem.W.takesIn K (.builtin "object.__class__")=some true)
   (hm:PySem.W.mroIn K C (.type "object")=some true):oh K H (.ref a) (.ref C)
theorem vq{x:V}{u t:Value}(I:Inv X pins σ H s)(rx:aX x u)(ty:oh X.K H x t)(e:W.kitOne X.K t c=some b)(h:∀ tk,Q (.bool b) { s with toks:=tk }) :
  wpAny (model X.prog X.w) A (call (.builtin "isinstance") [u,c]) Q E s:=by
 cases ty with
 | non=>cases (show u=Value.none from rx);exact Nc W.kitx_none I.kIn True.intro e (λ z=>nomatch z) h
 | bl y=>cases (show u=Value.bool y from rx);exact Nc W.kitx_bool I.kIn True.intro e (λ z=>nomatch z) h
 | int i=>obtain⟨t,q⟩:=(show ∃ t,u=Value.int i t from rx);cases q;exact Nc W.kitx_int I.kIn True.intro e (λ z=>nomatch z) h
 | str y=>obtain⟨t,q⟩:=(show ∃ t,u=Value.str y t from rx);cases q;exact Nc W.kitx_str I.kIn True.intro e (λ z=>nomatch z) h
 | flt y=>obtain⟨t,q⟩:=(show ∃ t,u=Value.float y t from rx);cases q;exact Nc W.kitx_float I.kIn True.intro e (λ z=>nomatch z) h
 | @lst a xs ea=>
  cases (show u=Value.ref a from rx);obtain⟨_,_,n,_,h1⟩:=(show aO X.prog X.w H s.heap a (.lst xs) from I.hok a _ ea);exact Nc W.kitx_list I.kIn ⟨_,h1,rfl⟩ e (λ z=>nomatch z) h
 | @frz a ob xs ea=>
  cases (show u=Value.ref a from rx);obtain⟨_,_,_,n,_,h1⟩:=(show aO X.prog X.w H s.heap a (.frz ob (.lst xs)) from I.hok a _ ea);exact Nc W.kitx_list I.kIn ⟨_,h1,rfl⟩ e (λ z=>nomatch z) h
 | @tup a xs ea=>
  cases (show u=Value.ref a from rx);obtain⟨_,_,_,p⟩:=(show aO X.prog X.w H s.heap a (.tup xs) from I.hok a _ ea);obtain⟨o,h1,h2,_⟩:=p;exact Nc W.kitx_tuple I.kIn ⟨o,h1,h2⟩ e (λ z=>nomatch z) h
 | @dK a kvs ea=>
  cases (show u=Value.ref a from rx);obtain⟨_,_,vs,_,p⟩:=(show aO X.prog X.w H s.heap a (.dK kvs) from I.hok a _ ea);obtain⟨o,es,ep,h1,h2,_⟩:=p;exact Nc W.kitx_dict I.kIn ⟨o,h1,h2.1⟩ e (λ z=>nomatch z) h
 | @dT a kvs ea=>
  cases (show u=Value.ref a from rx);obtain⟨_,_,xs,_,o,es,ep,h1,h2,_⟩:=(show aO X.prog X.w H s.heap a (.dT kvs) from I.hok a _ ea);exact Nc W.kitx_dict I.kIn ⟨o,h1,h2.1⟩ e (λ z=>nomatch z) h
 | @ins a C dx fs ea cl ha hn htk hm=>
  cases (show u=Value.ref a from rx);obtain⟨mA,O,_⟩:=jI I.hok ea;obtain⟨od,J,_⟩:=O.look;exact Nc (W.kitx_own (cl.get _) cl.hd ha hn htk hm) I.kIn J e (λ z=>nomatch z) h
end
structure fm(k:Nat)(A:Around):Prop where
 hd:A.handled=none
 dp:A.depth+3 * k+5 < recursionLimit
 un:A.units+16 * k+200 < cLine
theorem fm.mono{j k:Nat}{A:Around}(r:fm k A)(h:j<=k):fm j A:=⟨r.hd,by have:=r.dp;omega,by have:=r.un;omega⟩
theorem fm.deeper{k:Nat}{A:Around}(r:fm (k+1) A)(env:Env):fm k (A.deeper env):=
 ⟨r.hd,by have:=r.dp;show A.depth+1+3 * k+5 < _;omega,by have:=r.un;show A.units+3+16 * k+200 < _;omega⟩
theorem fm.in1{k:Nat}{A:Around}(r:fm (k+1) A):fm k A.in1:=
 ⟨r.hd,by have:=r.dp;show A.depth+3 * k+5 < _;omega,by have:=r.un;show A.units+1+16 * k+200 < _;omega⟩
theorem qf{A:Around}{C:Addr}{us:List Value}{kw:List (Str × Value)}:(A.under (.builtin "type.__call__" ⟨.ref C::us,kw⟩)).depth=A.depth+1:=by
 first|rfl|simp [Around.under,Code.weight,Code.isCreation,Code.isGuard,Code.isCaller,Code.frames,Code.isFrame,guardIds]
theorem qe{A:Around}{C:Addr}{us:List Value}{kw:List (Str × Value)}:(A.under (.builtin "type.__call__" ⟨.ref C::us,kw⟩)).units=A.units+1:=by
 first|rfl|simp [Around.under,Code.cUnits,Code.frames,Code.isFrame]
theorem fm.make{k:Nat}{A:Around}(r:fm (k+1) A)(C:Addr)(us:List Value)(kw:List (Str × Value)):fm k (A.under (.builtin "type.__call__" ⟨.ref C::us,kw⟩)):=
 ⟨r.hd,by have:=r.dp;rw [qf];omega,by have:=r.un;rw [qe];omega⟩
theorem fm.depth{k:Nat}{A:Around}(r:fm k A):A.depth < recursionLimit:=by have:=r.dp;omega
theorem fm.units{k:Nat}{A:Around}(r:fm k A):A.units+64 < cLine:=by have:=r.un;omega
def Dc:TA:=λ _ H Q=>Q [] H
def qZ(ta:TE)(tr:TA):TA:=λ σ H Q=>ta σ H λ x H1=>tr σ H1 λ xs H2=>Q (x::xs) H2
section
variable {X:Cx}{e:Expr}{es:List Expr}{te:TE}{t:TA}{pos:Pos}
theorem cw:PA X [] Dc:=λ _ _ _ _ H Q I h=>NV ⟨[],H,I,.nil,h⟩
theorem AR(ha:PE X e te)(hr:PA X es t)(hs:starEach (e::es) X.env=(false,eval e X.env)::starEach es X.env:=by rfl):PA X (e::es) (qZ te t):=by
 intro pos pins s σ H Q I h;rw [hs]
 show wpAny _ _ (spliced ((false,eval e X.env)::backTo pos (starEach es X.env))) _ _ s
 refine Nh (thn (ha pins s σ H _ I h) λ u s1 ⟨x,H1,I1,r1,q1⟩=>?_);exact thn (hr pos pins s1 σ H1 _ I1 q1) λ us s2 ⟨xs,H2,I2,r2,q2⟩=>⟨x::xs,H2,I2,.cons r1 r2,q2⟩
end
abbrev Sp:=List V->Hp->VK->XK->Prop
abbrev CXT:=List Env->Hp->Shared->XK->Value->Shared->Prop
structure qT(P:Program)(w:World)(K:W.Frag)(mg:Str->Option Value)(base:Heap)(A:Around)(outer:List Env)(s:Shared)(H:Hp):Prop where
 frames:A.frames=some outer
 mod:Mod K mg base
 bs:∀ b o,base.get? b=some o->s.heap.get? b=some o/\H b=none
 bsz:base.objs.size<=s.heap.objs.size
 funs:s.heap.FunFrames base outer
 frf:∀ b∈frs outer,H b=none
 hok:HOk P w H s.heap
 bare:AllBare s.gens
def CE(outer:List Env)(P:Program)(w:World)(H:Hp)(s:Shared)(Q:VK)(u:Value)(s':Shared):Prop:=
 ∃ v H',s'.os=s.os/\AllBare s'.gens/\Un (frs outer) [] H H' s.heap s'.heap/\HOk P w H' s'.heap/\aX v u/\Q v H'
def CR(CX:CXT)(outer:List Env)(P:Program)(w:World)(H:Hp)(s:Shared)(Q:VK)(E:XK)(r:Result)(s':Shared):Prop:=
 match r with
 | .ok (.ret u)=>CE outer P w H s Q u s'
 | .ok _=>False
 | .error e=>CX outer H s E e s'
structure bp(P:Program)(w:World)(K:W.Frag)(mg:Str->Option Value)(base:Heap)(CX:CXT)(k:Nat)(f:Addr)(fd:FuncData)(ps:List Str)(sp:Sp):Prop where
 len:∀ vs H Q E,sp vs H Q E->vs.length=ps.length
 run:∀ (A:Around) (outer:List Env) (s:Shared) (H:Hp) (args:Args) (us:List Value) (vs:List V) (Q:VK) (E:XK),fm k A->qT P w K mg base A outer s H->BindsTo s fd args (ps.zip us)->aK vs us->sp vs H Q E →
  codeAny (model P w) A (.call (.ref f) args) (CR CX outer P w H s Q E) s
theorem bp.imp{P:Program}{w:World}{K:W.Frag}{mg:Str->Option Value}{base:Heap}{CX:CXT}{k:Nat}{f:Addr}{fd:FuncData}{ps:List Str}{sp sp':Sp}(F:bp P w K mg base CX k f fd ps sp)
  (h:∀ vs H Q E,sp' vs H Q E->sp vs H Q E):bp P w K mg base CX k f fd ps sp':=
 ⟨λ vs H Q E q=>F.len vs H Q E (h _ _ _ _ q),λ A outer s H args us vs Q E hr he hb hv hs=>F.run A outer s H args us vs Q E hr he hb hv (h _ _ _ _ hs)⟩
theorem qT.make{P:Program}{w:World}{K:W.Frag}{mg:Str->Option Value}{base:Heap}{A:Around}{outer:List Env}{s:Shared}{H:Hp}(e:qT P w K mg base A outer s H)(C:Addr)(us:List Value)(kw:List (Str × Value)) :
  qT P w K mg base (A.under (.builtin "type.__call__" ⟨.ref C::us,kw⟩)) outer s H:=⟨by first|exact e.frames|(simpa [Around.under,Code.envs,Code.isFrame,pushEnvs] using e.frames),e.mod,e.bs,e.bsz,e.funs,e.frf,e.hok,e.bare⟩
theorem qT.in1{P:Program}{w:World}{K:W.Frag}{mg:Str->Option Value}{base:Heap}{A:Around}{outer:List Env}{s:Shared}{H:Hp}(e:qT P w K mg base A outer s H) :
  qT P w K mg base A.in1 outer s H:=⟨e.frames,e.mod,e.bs,e.bsz,e.funs,e.frf,e.hok,e.bare⟩
section
variable {X:Cx}{pins:List (Addr × Obj)}{σ:St}{H:Hp}{s s':Shared}
theorem Inv.env0(I:Inv X pins σ H s):qT X.prog X.w X.K X.mg X.base X.A X.stack s H:=
 ⟨I.ok.frames,I.ok.mod,I.bs,Lu I.ok.bsz I.sz,I.stack,I.stkFree,I.hok,I.bare⟩
theorem Inv.after{Q:VK}{u:Value}(I:Inv X pins σ H s)(h:CE X.stack X.prog X.w H s Q u s'):EP X pins σ Q u s':=by
 obtain⟨v,H',os,bare,un,hok,r,q⟩:=h;obtain⟨hh,g,d,t,os'⟩:=s';obtain rfl:os'=s.os:=os;exact⟨v,H',I.call (h':=hh) (g':=g) (d':=d) (t':=t) (ch:=[]) un hok bare (λ b z=>absurd z (by simp)),r,q⟩
end
def Du(sp:Sp)(dvs:List V)(E:XK)(t:TA):TE:=λ σ H Q=>t σ H λ vs H1=>sp (vs++dvs) H1 Q E
def ar(K:W.Frag)(fd:FuncData)(ps:List Str)(ds:List Value):Prop:=
 ∀ (s:Shared) (us:List Value),K.In s.heap->(us++ds).length=ps.length->BindsTo s fd ⟨us,[]⟩ (ps.zip (us++ds))
theorem ar.all{K:W.Frag}{fd:FuncData}{ps:List Str}(h:∀ us:List Value,us.length=ps.length->bindArgs fd ⟨us,[]⟩=pure (ps.zip us)):ar K fd ps []:=λ s us _ hl=>by
 rw [M4] at hl ⊢;exact .of_eq (h us hl)
def gZ(CX:CXT)(X:Cx)(E:XK):Prop:=∀ (pins:List (Addr × Obj)) (σ:St) (H:Hp) (s:Shared) (e:Value) (s':Shared),Inv X pins σ H s->CX X.stack H s E e s'->X.xe e s'
section
variable {X:Cx}{CX:CXT}{k:Nat}{f C:Addr}{fd:FuncData}{ps:List Str}{sp:Sp}{dvs:List V}{ds:List Value}{E:XK}{x m:Str}{p pos apos:Pos}{e o:Expr}{es:List Expr}{ta:TE}{t:TA}
theorem rT{pins:List (Addr × Obj)}{σ:St}{H:Hp}{s:Shared}{Q:VK}{us:List Value}{vs:List V}(F:bp X.prog X.w X.K X.mg X.base CX k f fd ps sp)(hr:fm k X.A)(hb:ar X.K fd ps ds)(hd:aK dvs ds)(hx:gZ CX X E)
  (I:Inv X pins σ H s) (r:aK vs us) (h:sp (vs++dvs) H Q E):wpAny (model X.prog X.w) X.A (call (.ref f) us) (EP X pins σ Q) X.xe s:=by
 have r2:aK (vs++dvs) (us++ds):=r.append hd;have hl:(us++ds).length=ps.length:=by rw [←r2.length];exact F.len _ _ _ _ h
 refine wpAny_call (Nn (F.run X.A X.stack s H ⟨us,[]⟩ (us++ds) (vs++dvs) Q E hr I.env0 (hb s us I.kIn hl) r2 h) λ r s' hq=>?_)
 cases r with
 | error e=>exact hx pins σ H s e s' I hq
 | ok fl=>
  cases fl with
  | ret u=>exact I.after hq
  | next=>exact False.elim hq
  | brk=>exact False.elim hq
  | cont=>exact False.elim hq
theorem sU(F:bp X.prog X.w X.K X.mg X.base CX k f fd ps sp)(hr:fm k X.A)(hg:Gl X x)(hm:X.mg x=some (.ref f))(hk:W.keepIn X.K (.ref f)=true)(hb:ar X.K fd ps ds)(hd:aK dvs ds)(hx:gZ CX X E)
  (ha:PA X (e::es) t) (hdb:(x == ("__debug__":Str))=false:=by decide) (he:starEach (e::es) X.env=(false,eval e X.env)::starEach es X.env:=by rfl) (hpl:(backTo pos (starEach es X.env)).any (·.1)=false:=by rfl) :
  PE X (.Call (.Name x p) (e::es) [] pos) (Du sp dvs E t):=by
 intro pins s σ H Q I h;refine Mt (nq I hg hm ?_ hdb);refine W.callWith_K (h₀:=X.base) I.ok.mod.kin hk (thn (ha pos pins s σ H _ I h) λ us s1 ⟨vs,H1,I1,r,q⟩=>⟨I1.kIn,?_⟩) he hpl;exact rT F hr hb hd hx I1 r q
structure Mk(K:W.Frag)(C f:Addr):Prop where
 makes:W.makesIn K C=true
 init:W.findIn K (.ref C) "__init__"=some (some (.ref f))
 fn:W.isFn K (.ref f)=true
 kp:W.keepIn K (.ref C)=true
theorem wZ{pins:List (Addr × Obj)}{σ:St}{H:Hp}{s:Shared}{Q:VK}{us:List Value}{vs:List V}(M:Mk X.K C f)(F:bp X.prog X.w X.K X.mg X.base CX k f fd ps sp)(hr:fm (k+1) X.A)(hb:ar X.K fd ps ds)(hd:aK dvs ds)
  (hx:gZ CX X E) (I:Inv X pins σ H s) (r:aK vs us)
  (h:∀ x dx,H x=none->H dx=none->dx ≠ x->sp (.ref x::(vs++dvs)) (upd (upd H dx (.own x)) x (.ins C dx [])) (λ v H2=>v=.non/\Q (.ref x) H2) E) :
  wpAny (model X.prog X.w) X.A (call (.ref C) us) (EP X pins σ Q) X.xe s:=by
 have hq:=h (s.heap.objs.size+1) s.heap.objs.size (I.hok.fresh (MN _)) (I.hok.fresh (KO _)) (K0 (MJ _));have I2:=Inv.made (C:=C) I;have r2:aK (V.ref (s.heap.objs.size+1)::(vs++dvs)) (Value.ref (s.heap.objs.size+1)::(us++ds)):=.cons rfl (r.append hd)
 have hl:(Value.ref (s.heap.objs.size+1)::us++ds).length=ps.length:=by
  have e:=r2.length;rw [F.len _ _ _ _ hq] at e;exact e.symm
 refine wpAny_call (xx (f:=f) I.kIn M.makes M.init (Oo.mp M.fn) (Nn (F.run _ X.stack _ _ ⟨Value.ref (s.heap.objs.size+1)::us,[]⟩ (Value.ref (s.heap.objs.size+1)::(us++ds)) _ _ E (hr.make C us [])
  (I2.env0.make C us []) (hb _ (Value.ref (s.heap.objs.size+1)::us) I2.kIn hl) r2 hq) λ r s' hq'=>?_))
 cases r with
 | error e=>exact hx pins σ _ _ e s' I2 hq'
 | ok fl=>
  cases fl with
  | ret u=>
   obtain⟨v,H',I3,rv,ev,q3⟩:=I2.after hq';subst ev;exact⟨rv,⟨V.ref (s.heap.objs.size+1),H',I3,rfl,q3⟩⟩
  | next=>exact False.elim hq'
  | brk=>exact False.elim hq'
  | cont=>exact False.elim hq'
end
def PK(X:Cx)(kws:List Keyword)(t:TA):Prop:=
 ∀ (pos:Pos) (pins:List (Addr × Obj)) (s:Shared) (σ:St) (H:Hp) (Q:List V->Hp->Prop),Inv X pins σ H s->t σ H Q->wpAny (model X.prog X.w) X.A (evalAll ((backToKw pos (keywordEach kws X.env)).map (·.2))) (AP X pins σ Q) X.xe s
section
variable {X:Cx}{CX:CXT}{k:Nat}{f C:Addr}{fd:FuncData}{ps ks:List Str}{sp:Sp}{E:XK}{x m:Str}{p pos apos kpos:Pos}{e o:Expr}{es:List Expr}{kws:List Keyword}{te ta:TE}{t tk:TA}{nm:Option Str}
theorem Ej:PK X [] Dc:=λ _ _ _ _ H Q I h=>wpAny_evalAll_nil ⟨[],H,I,.nil,h⟩
theorem AH(ha:PE X e te)(hr:PK X kws t):PK X (⟨nm,e,kpos⟩ :: kws) (qZ te t):=by
 intro pos pins s σ H Q I h
 show wpAny _ _ (evalAll ((do let v ←eval e X.env;standAt pos;pure v)::(backToKw pos (keywordEach kws X.env)).map (·.2))) _ _ s
 refine wpAny_evalAll_cons (Kz (thn (ha pins s σ H _ I h) λ u s1 ⟨x,H1,I1,r1,q1⟩=>Kz (OJ (KQ ?_))));exact thn (hr pos pins s1 σ H1 _ I1 q1) λ us s2 ⟨xs,H2,I2,r2,q2⟩=>⟨x::xs,H2,I2,.cons r1 r2,q2⟩
variable {g:List Value->List Value->List Value}{gV:List V->List V->List V}
end
structure ai(N P:List Str)(sc:Scope):Prop where
 kind:sc.kind=.function
 co:sc.isCoroutine=false
 gen:sc.isGenerator=false
 nd:N.Nodup
 pre:N.take P.length=P
 par:∀ x∈P,sc.names.lookup x=some .local\/sc.names.lookup x=some .cell
 nofree:∀ y∈sc.names,y.2 ≠ .free
theorem lW{kindOf:Str->Option NameKind}{x:Str}:∀ {binds:List (Str × Value)}{m:Str->Option Value},(∀ v,(x,v) ∉ binds)->bindL kindOf binds m x=m x
 | [],_,_=>rfl
 | (n,v)::r,m,h=>by
  unfold bindL;rw [lW λ w hw=>h w (mem_cons_of_mem _ hw)];split
  ·have:x ≠ n:=by rintro rfl;exact h v KL
   simp [this]
  ·rfl
theorem lY{kindOf:Str->Option NameKind}{x:Str}:∀ {binds:List (Str × Value)}{m:Str->Option Value},(∀ v,(x,v) ∉ binds)->bindC kindOf binds m x=m x
 | [],_,_=>rfl
 | (n,v)::r,m,h=>by
  unfold bindC;rw [lY λ w hw=>h w (mem_cons_of_mem _ hw)];split
  ·rfl
  ·have:x ≠ n:=by rintro rfl;exact h v KL
   simp [this]
theorem lX{kindOf:Str->Option NameKind}{x:Str}{v:Value}:∀ {P:List Str}{vs:List Value}{i:Nat}{m:Str->Option Value},P.Nodup->P[i]? = some x->vs[i]? = some v->kindOf x=some .local →
  bindL kindOf (P.zip vs) m x=some v
 | [],_,_,_,_,h,_,_=>by simp at h
 | _::_,[],_,_,_,_,h,_=>by simp at h
 | p::P,w::vs,0,m,nd,h1,h2,hk=>by
  simp at h1 h2;subst h1;subst h2
  show bindL kindOf ((p,w)::P.zip vs) m p=_
  unfold bindL;rw [lW λ v hv=>(nodup_cons.mp nd).1 (of_mem_zip hv).1,if_pos hk];simp
 | p::P,w::vs,i+1,m,nd,h1,h2,hk=>by
  show bindL kindOf ((p,w)::P.zip vs) m x=_
  unfold bindL;exact lX (i:=i) (nodup_cons.mp nd).2 (by simpa using h1) (by simpa using h2) hk
theorem lZ{kindOf:Str->Option NameKind}{x:Str}{v:Value}:∀ {P:List Str}{vs:List Value}{i:Nat}{m:Str->Option Value},P.Nodup->P[i]? = some x->vs[i]? = some v->kindOf x ≠ some .local →
  bindC kindOf (P.zip vs) m x=some v
 | [],_,_,_,_,h,_,_=>by simp at h
 | _::_,[],_,_,_,_,h,_=>by simp at h
 | p::P,w::vs,0,m,nd,h1,h2,hk=>by
  simp at h1 h2;subst h1;subst h2
  show bindC kindOf ((p,w)::P.zip vs) m p=_
  unfold bindC;rw [lY λ v hv=>(nodup_cons.mp nd).1 (of_mem_zip hv).1,if_neg hk];simp
 | p::P,w::vs,i+1,m,nd,h1,h2,hk=>by
  show bindC kindOf ((p,w)::P.zip vs) m x=_
  unfold bindC;exact lZ (i:=i) (nodup_cons.mp nd).2 (by simpa using h1) (by simpa using h2) hk
def start(N:List Str)(vs:List V):St:=vs.map some++List.replicate (N.length - vs.length) none
def yv(CX:CXT)(P:Program)(w:World)(K:W.Frag)(mg:Str->Option Value)(base:Heap)(N:List Str)(qual:Str)(scope:Scope)(f:Addr)(cd:Value)(A:Around)(outer:List Env)(s:Shared)(H:Hp)(E:XK):Cx where
 prog:=P
 w:=w
 K:=K
 mg:=mg
 base:=base
 A:=A.deeper (envOfC qual scope s.heap.objs.size f cd)
 N:=N
 s₀:=s
 H₀:=H
 env:=envOfC qual scope s.heap.objs.size f cd
 outer:=outer
 stack:=envOfC qual scope s.heap.objs.size f cd::outer
 ex:=[]
 calm:=true
 fn:=λ _=>true
 pn:=[]
 xe:=λ e s'=>wpAny (model P w) (A.deeper (envOfC qual scope s.heap.objs.size f cd)) (leaving (envOfC qual scope s.heap.objs.size f cd) e) (λ _ s''=>CX outer H s E e s'') (λ e' s''=>CX outer H s E e' s'') s'
theorem pz{sc:Scope}{n:Nat}{x:Str}(h:sc.names.lookup x=some .cell):∃ c,(cellsFrom n sc.names []).lookup x=some c:=by
 have q:=W.cellsFrom_some sc.names n [] (.inl h);exact Option.isSome_iff_exists.mp q
theorem vt{CX:CXT}{P:Program}{w:World}{K:W.Frag}{mg:Str->Option Value}{base:Heap}{N ps:List Str}{qual:Str}{scope:Scope}{f:Addr}{cd:Value}{A:Around}{outer:List Env}{s s1:Shared}{H:Hp}{E:XK}{us:List Value}{vs:List V}
  (S:ai N ps scope) (hd:A.handled=none) (e0:qT P w K mg base A outer s H) (hl:vs.length=ps.length) (r:aK vs us)
  (x:InCallC s s.heap.objs.size (bindL (envOfC qual scope s.heap.objs.size f cd).kindOf (ps.zip us) λ _=>none) (cellsFrom (s.heap.objs.size+1) scope.names []) (bindC (envOfC qual scope s.heap.objs.size f cd).kindOf (ps.zip us) λ _=>none) s1) :
  Inv (yv CX P w K mg base N qual scope f cd A outer s H E) [] (start N vs) H s1:=by
 have hpl:ps.length<=N.length:=by have:=LR List.length S.pre;rw [LH] at this;omega
 obtain⟨h1,tk,rfl,hk⟩:=x.done;have noA:∀ b:Addr,b ∉ (yv CX P w K mg base N qual scope f cd A outer s H E).ex:=λ b z=>absurd (show b∈([]:List Addr) from z) (by simp)
 refine⟨⟨e0.mod,S.kind,rfl,rfl,KO _,λ y z c h1 h2=>?_,λ y hy=>?_,λ y c _ h=>?_,λ _=>hd,Around.frames_deeper e0.frames,.inr ⟨rfl,rfl⟩,λ b z=>absurd z (noA b),e0.bs,e0.bsz,λ b _ _=>noA b,λ b z=>absurd z (noA b),e0.funs,e0.frf⟩,
  rfl,e0.bare,Un.kept hk,⟨_,x.toInCall.ns,λ i y v h1 h2 h3=>?_⟩,λ y c h=>⟨_,x.cell y c h⟩,e0.hok.fresh (KO _),λ y c h=>?_,λ p hp=>absurd (show p∈([]:List (Addr × Obj)) from hp) (by simp),e0.hok.kept hk,?_⟩
 ·exact name_of_addr x.apart (MM h1) (MM h2)
 ·have hy:scope.names.lookup y=some .cell\/scope.names.lookup y=some .free:=hy
  rcases hy with hy|hy
  ·exact pz hy
  ·exact absurd rfl (S.nofree _ (MM hy))
 ·exact Nf (x.above y c (MM h))
 ·have hi:i < vs.length:=by
   unfold start at h2
   by_cases hi:i < vs.length
   ·exact hi
   ·rw [Lw (by simpa using hi)] at h2;rw [NI] at h2
    split at h2<;>cases h2
  have ha:vs[i]? = some v:=by
   unfold start at h2;rw [getElem?_append_left (by simpa using hi),getElem?_map] at h2
   cases e:vs[i]? with
   | none=>rw [e] at h2;cases h2
   | some a=>rw [e] at h2;cases h2;rfl
  obtain⟨u,hu,rv⟩:=r.get ha
  have hp:ps[i]? = some y:=by
   rw [←S.pre,List.getElem?_take_of_lt (by omega)];exact h1
  have ndP:ps.Nodup:=by rw [←S.pre];exact S.nd.sublist (List.take_sublist _ _)
  refine⟨u,rv,?_⟩
  rcases S.par y (Lh hp) with k|k
  ·exact .inl ⟨k,lX ndP hp hu k⟩
  ·obtain⟨c,e⟩:=pz (n:=s.heap.objs.size+1) k;refine .inr ⟨.inl k,c,e,?_⟩;have q:=x.cell y c e;rw [lZ ndP hp hu (by show scope.names.lookup y ≠ _;rw [k];decide)] at q;exact q
 ·exact e0.hok.fresh (Nf (x.above y c (MM h)))
 ·unfold start
  show _=N.length
  rw [KY,KG,List.length_replicate];omega
theorem DZ{CX:CXT}{P:Program}{w:World}{K:W.Frag}{mg:Str->Option Value}{base:Heap}{k:Nat}{f:Addr}{name qual:Str}{params:Arguments}{body:List Stmt}{scope:Scope}{dV kV doc pm cdv ct oc:Value}{an od:Option Addr}
  {osl:Array (Option Value)} {N ps:List Str} {sp:Sp} (lk:K.lookup f=some ⟨oc,od,.func (W.fnOf name qual params body scope dV kV doc pm an cdv ct),osl⟩) (hcd:W.codeIn K cdv qual=true) (S:ai N ps scope)
  (len:∀ vs H Q E,sp vs H Q E->vs.length=ps.length)
  (hbody:∀ (A:Around) (outer:List Env) (s:Shared) (H:Hp) (vs:List V) (Q:VK) (E:XK),fm k (A.deeper (envOfC qual scope s.heap.objs.size f cdv))->sp vs H Q E →
   ∃ t,PSs (yv CX P w K mg base N qual scope f cdv A outer s H E) body t/\t { nx:=λ _ H'=>Q .non H',rt:=Q } (start N vs) H) :
  bp P w K mg base CX (k+1) f (W.fnOf name qual params body scope dV kV doc pm an cdv ct) ps sp:=by
 refine⟨len,λ A outer s H args us vs Q E hr e0 hb r hsp=>?_⟩;have hl:=len _ _ _ _ hsp;have KX:K.In s.heap:=e0.mod.kin.keeps λ b o e=>(e0.bs b o e).1;have lim:s.heap.NoLimit:=e0.mod.nolimit.keeps λ b o e=>(e0.bs b o e).1
 have hkind:∀ y∈ps.zip us,scope.names.lookup y.1=some .local\/(scope.names.lookup y.1=some .cell/\((cellsFrom (s.heap.objs.size+1) scope.names []).lookup y.1).isSome=true):=λ ⟨n,v⟩ hy=>by
  rcases S.par n (MH hy).1 with q|q
  ·exact .inl q
  ·exact .inr ⟨q,W.cellsFrom_some _ _ _ (.inl q)⟩
 refine codeAny_call_function hr.depth (KX _ _ lk) rfl S.co S.gen rfl (W.codeRec_of KX hcd) (hb _ _ _ _ ?_);refine wpAny_newFunctionEnv_cells S.kind hkind λ env he s1 x=>?_;subst he;refine⟨lim.keeps x.toInCall.keep,codeAny_func ?_⟩;obtain⟨t,ht,hq⟩:=hbody A outer s H vs Q E (hr.deeper _) hsp;have I:Inv (yv CX P w K mg base N qual scope f cdv A outer s H E) [] (start N vs) H s1:=vt S hr.hd e0 hl r x;refine M5 (ht [] s1 (start N vs) H _ I hq) (λ fl s' hs=>?_) λ e s' hs=>hs
 have fin:∀ {σ':St} {H':Hp} {v:V} {u:Value},Inv (yv CX P w K mg base N qual scope f cdv A outer s H E) [] σ' H' s'->aX v u->Q v H'->CE outer P w H s Q u s':=
  λ {σ' H' v u} J rv q=>⟨v,H',J.os,J.bare,J.base,J.hok,rv,q⟩
 cases fl with
 | ret u=>
  obtain⟨v,σ',H',J,rv,q⟩:=hs;exact fin J rv q
 | next=>
  obtain⟨σ',H',J,q⟩:=hs;exact fin (v:=V.non) (u:=Value.none) J rfl q
 | brk=>
  obtain⟨_,_,_,q⟩:=hs;exact False.elim q
 | cont=>
  obtain⟨_,_,_,q⟩:=hs;exact False.elim q
section
variable {X:Cx}{x:Str}{p pos:Pos}{e:Expr}{es:List Expr}{t:TA}{id T:String}{r:List V->Hp->VK->Prop}
def tCB(r:List V->Hp->VK->Prop)(t:TA):TE:=λ σ H Q=>t σ H λ vs H1=>r vs H1 Q
theorem gG(hc:bL X (.builtin id) r)(hg:Gl X x)(hm:X.mg x=none)(hv:bootBuiltins x=some (.builtin id))(ha:PA X (e::es) t)(hn:x ≠ "__name__":=by decide)(hdb:(x == ("__debug__":Str))=false:=by decide)
  (he:starEach (e::es) X.env=(false,eval e X.env)::starEach es X.env:=by rfl) (hpl:(backTo pos (starEach es X.env)).any (·.1)=false:=by rfl):PE X (.Call (.Name x p) (e::es) [] pos) (tCB r t):=by
 intro pins s σ H Q I h;refine Mt (fA I hg hm hv ?_ hn hdb);exact PyProof.Rows.callWith_builtin1 (thn (ha pos pins s σ H _ I h) λ us s1 ⟨vs,H1,I1,r1,q1⟩=>hc pins s1 σ H1 vs us Q I1 r1 q1) he hpl
theorem uu(hc:bL X (.type T) r)(hg:Gl X x)(hm:X.mg x=none)(hv:bootBuiltins x=some (.type T))(ha:PA X (e::es) t)(hn:x ≠ "__name__":=by decide)(hdb:(x == ("__debug__":Str))=false:=by decide)
  (he:starEach (e::es) X.env=(false,eval e X.env)::starEach es X.env:=by rfl) (hpl:(backTo pos (starEach es X.env)).any (·.1)=false:=by rfl):PE X (.Call (.Name x p) (e::es) [] pos) (tCB r t):=by
 intro pins s σ H Q I h;refine Mt (fA I hg hm hv ?_ hn hdb);exact LM (thn (ha pos pins s σ H _ I h) λ us s1 ⟨vs,H1,I1,r1,q1⟩=>hc pins s1 σ H1 vs us Q I1 r1 q1) he hpl
end
end L2
namespace HT
open PySem PyProof.Rows
section
open PySem.SeqAt
open PySem.AutoSeq1 (wpAny_loadPart')
open PySem.MeetsSeq PySem.MeetsSeq2 PySem.MeetsSeq3
end
section
variable {prog:Program}{w:World}{A:Around}{E:Value->Shared->Prop}{s:Shared}
def sIx(n d:Nat):Option Int->Nat
 | none=>d
 | some v=>if v < 0 then (v+(n:Int)).toNat else min v.toNat n
theorem sIx_none(n d:Nat):sIx n d none=d:=rfl
theorem sIx_nat(n d k:Nat):sIx n d (some (k:Int))=min k n:=by
 show (if (k:Int) < 0 then ((k:Int)+(n:Int)).toNat else min (k:Int).toNat n)=min k n
 rw [KU (by omega),Ls]
end
end HT
namespace L2
open PySem PySem.Spec PyProof.Rows
abbrev TO:=St->Hp->(Option Int->Hp->Prop)->Prop
def PO(X:Cx)(e:Option Expr)(t:TO):Prop:=
 ∀ (pins:List (Addr × Obj)) (s:Shared) (σ:St) (H:Hp) (Q:Option Int->Hp->Prop),Inv X pins σ H s->t σ H Q →
  wpAny (model X.prog X.w) X.A (evalPart e X.env) (λ u s'=>∃ o H',Inv X pins σ H' s'/\IsPart u o/\Q o H') X.xe s
def sJ:TO:=λ _ H Q=>Q none H
def Dp(t:TE):TO:=λ σ H Q=>t σ H λ x H1=>∃ i,x=.int i/\Q (some i) H1
section
variable {X:Cx}{e:Expr}{te:TE}{lo hi:Option Expr}{tl th:TO}{pos p2:Pos}
theorem eQ:PO X none sJ:=by
 intro pins s σ H Q I h;rw [evalPart_none];exact KQ ⟨none,H,I,.none,h⟩
theorem eP(h:PE X e te):PO X (some e) (Dp te):=by
 intro pins s σ H Q I hw;rw [evalPart_some];refine thn (h pins s σ H _ I hw) λ u s1 ⟨x,H1,I1,r1,q1⟩=>?_;obtain⟨i,rfl,q⟩:=q1;obtain⟨t,rfl⟩:=r1;exact⟨some i,H1,I1,.int i t,q⟩
def SlR(X:Cx)(r:V->Option Int->Option Int->Hp->VK->Prop):Prop:=
 ∀ (pins:List (Addr × Obj)) (s:Shared) (σ:St) (H:Hp) (x:V) (v vl vu:Value) (lo hi:Option Int) (sl:Addr) (Q:VK),Inv X pins σ H s->aX x v->s.heap.IsSliceOf sl vl vu .none->IsPart vl lo->IsPart vu hi->r x lo hi H Q →
  ∃ T id,typeLookup (.type T) "__getitem__"=pure (some (.builtin id))/\s.TypeIs v T/\wpAny (model X.prog X.w) X.A (getItem v (.ref sl)) (EP X pins σ Q) X.xe s
def tSl(r:V->Option Int->Option Int->Hp->VK->Prop)(te:TE)(tl th:TO):TE:=λ σ H Q=>te σ H λ x H1=>tl σ H1 λ l H2=>th σ H2 λ u H3=>r x l u H3 Q
theorem xl{r:V->Option Int->Option Int->Hp->VK->Prop}(hr:SlR X r)(he:PE X e te)(hl:PO X lo tl)(hu:PO X hi th):PE X (.Subscript e (.Slice lo hi none p2) pos) (tSl r te tl th):=by
 intro pins s σ H Q I h;refine Subscript_ (thn (he pins s σ H _ I h) λ v s1 ⟨x,H1,I1,r1,q1⟩=>?_);refine wpAny_Slice (thn (hl pins s1 σ H1 _ I1 q1) λ vl s2 ⟨l,H2,I2,pl,q2⟩=>thn (hu pins s2 σ H2 _ I2 q2) λ vu s3 ⟨u,H3,I3,pu,q3⟩=>?_);rw [evalPart_none];refine KQ ?_;have I4:Inv X pins σ H3 { s3 with heap:=s3.heap.push { cls:=.type "slice",data:=.fields #[vl,vu,.none] } }:=I3.kept (t':=s3.toks) λ b ob q=>KC _ q;obtain⟨T,id,hT,ht,hg⟩:=hr pins { s3 with heap:=s3.heap.push { cls:=.type "slice",data:=.fields #[vl,vu,.none] } } σ H3 x v vl vu l u s3.heap.objs.size Q I4 r1 (Heap.IsSliceOf.new ..) pl pu q3
 show wpAny (model X.prog X.w) X.A (subscriptTail e (.Slice lo hi none p2) v (.ref s3.heap.objs.size)) (EP X pins σ Q) X.xe { s3 with heap:=s3.heap.push { cls:=.type "slice",data:=.fields #[vl,vu,.none] } }
 exact tail_any (ops:=[.ref s3.heap.objs.size,v]) ht hT hg (by with_unfolding_all rfl)
def qU(xs:List V)(lo hi:Option Int):List V:=(xs.drop (HT.sIx xs.length 0 lo)).take (HT.sIx xs.length xs.length hi - HT.sIx xs.length 0 lo)
theorem nX(xs:List V)(lo hi:Option Int):(qU xs lo hi).length<=xs.length:=by
 unfold qU;rw [length_take,List.length_drop];omega
end
def ixN(n:Nat)(i:Int):Option Nat:=if 0<=i then (if i < n then some i.toNat else none) else if -(n:Int)<=i then some (i+n).toNat else none
def atI{α:Type}(xs:List α)(i:Int):Option α:=(ixN xs.length i).bind λ j=>xs[j]?
theorem tq{n:Nat}{i:Int}{j:Nat}(h:ixN n i=some j):seqIndex? i n=some j/\j < n/\-(n:Int)<=i/\i < n:=by
 unfold ixN at h
 by_cases h0:0<=i
 ·rw [KZ h0] at h
  by_cases h1:i < n
  ·rw [KZ h1] at h;have e:i.toNat=j:=Lf h;exact⟨by rw [seqIndex_of h0 h1,e],by omega,by omega,h1⟩
  ·rw [KU h1] at h;cases h
 ·rw [KU h0] at h
  by_cases h1:-(n:Int)<=i
  ·rw [KZ h1] at h;have e:(i+n).toNat=j:=Lf h;exact⟨by rw [seqIndex_neg (by omega) h1,e],by omega,h1,by omega⟩
  ·rw [KU h1] at h;cases h
theorem tS{α:Type}{xs:List α}{i:Int}{v:α}(h:atI xs i=some v):∃ j,seqIndex? i xs.length=some j/\xs[j]? = some v/\j < xs.length/\-(xs.length:Int)<=i/\i < xs.length:=by
 unfold atI at h
 cases e:ixN xs.length i with
 | none=>rw [e] at h;cases h
 | some j=>
  rw [e] at h;obtain⟨h1,h2,h3,h4⟩:=tq e;exact⟨j,h1,h,h2,h3,h4⟩
theorem eT{α:Type}{xs:List α}{j:Nat}{v:α}(h:xs[j]? = some v):atI xs (j:Int)=some v:=by
 have hj:j < xs.length:=(KH.mp h).1
 have e:ixN xs.length (j:Int)=some j:=by
  unfold ixN;rw [if_pos (by omega),if_pos (by omega)];simp
 unfold atI;rw [e];exact h
theorem pB{α:Type}(xs:List α)(v:α):atI (xs++[v]) (-1)=some v:=by
 have hl:(xs++[v]).length=xs.length+1:=by simp
 have e:ixN (xs++[v]).length (-1)=some xs.length:=by
  unfold ixN;rw [hl,if_neg (by decide),if_pos (by omega)];congr 1;omega
 unfold atI;rw [e]
 show (xs++[v])[xs.length]? = some v
 simp
def CM(b:Expr):Prop:=∀ o i,subscripted b false o i=operate [o,i] (getItem o i)
def IxR(X:Cx)(r:R2):Prop:=
 ∀ (value slice:Expr) (pins:List (Addr × Obj)) (s:Shared) (σ:St) (H:Hp) (x y:V) (v u:Value) (Q:VK),Inv X pins σ H s->aX x v->aX y u->r x y H Q →
  subscripted slice false v u=operate [v,u] (getItem v u)->wpAny (model X.prog X.w) X.A (subscriptTail value slice v u) (EP X pins σ Q) X.xe s
def MtR(X:Cx)(id:String)(r:V->List V->Hp->VK->Prop):Prop:=
 ∀ (pins:List (Addr × Obj)) (s:Shared) (σ:St) (H:Hp) (x:V) (xs:List V) (v:Value) (us:List Value) (Q:VK),Inv X pins σ H s->aX x v->aK xs us->r x xs H Q →
  wpAny (model X.prog X.w) X.A (call (.builtin id) (v::us)) (EP X pins σ Q) X.xe s
section
variable {X:Cx}{a b:Expr}{ta tb:TE}{pos:Pos}
theorem IxR.or{r r':R2}(h:IxR X r)(h':IxR X r'):IxR X (λ x y H Q=>r x y H Q\/r' x y H Q):=by
 intro value slice pins s σ H x y v u Q I rx ry q hs
 rcases q with q|q
 ·exact h value slice pins s σ H x y v u Q I rx ry q hs
 ·exact h' value slice pins s σ H x y v u Q I rx ry q hs
theorem zL{r:R2}(hr:IxR X r)(ha:PE X a ta)(hb:PE X b tb)(hs:CM b):PE X (.Subscript a b pos) (tOp r ta tb):=by
 intro pins s σ H Q I h;exact Subscript_ (HX ha hb I h λ v u s2 x y H2 I2 rx ry q=>hr a b pins s2 σ H2 x y v u Q I2 rx ry q (hs _ _))
def Kh(K:W.Frag):R2:=λ x y H Q=>∃ p xs i v,x=.ref p/\y=.int i/\SqL K H p xs/\atI xs i=some v/\Q v H
def Kg(K:W.Frag):R2:=λ x y H Q=>∃ p xs i v,x=.ref p/\y=.int i/\SqT K H p xs/\atI xs i=some v/\Q v H
theorem nv:IxR X (Kh X.K):=by
 intro value slice pins s σ H x y v u Q I rx ry h hs;obtain⟨p,xs,i,z,rfl,rfl,hq,he,q⟩:=h;cases rx;obtain⟨t,rfl⟩:=ry;obtain⟨its,r,pl,hz⟩:=I.list hq;obtain⟨j,h1,h2,h3,h4,h5⟩:=tS he;obtain⟨w,ew,rw'⟩:=r.get h2;have hl:=r.length;have hn:=kX;have fin:EP X pins σ Q w s:=⟨z,H,I,rw',q⟩
 by_cases h0:0<=i
 ·have hj:i.toNat=j:=by
   rw [seqIndex_of h0 h5] at h1;exact Lf h1
  exact item_listR pl.isList h0 (by omega) (by rw [hj];simpa using ew) fin hs
 ·have hj:(i+(its.toArray.size:Int)).toNat=j:=by
   rw [seqIndex_neg (by omega) h4] at h1;rw [Lg,←hl];exact Lf h1
  exact subscriptTail_builtinR (x:=w) pl.isList.typeIs slot_list_getitem.lookup
   (wpAny_getItem_list_neg (Q:=λ r s'=>r=w/\EP X pins σ Q r s') pl.isList (by omega) (by rw [Lg]<;>omega) (by omega) (by rw [hj];simpa using ew) ⟨rfl,fin⟩) hs
theorem Gx:IxR X (Kg X.K):=by
 intro value slice pins s σ H x y v u Q I rx ry h hs;obtain⟨p,xs,i,z,rfl,rfl,hq,he,q⟩:=h;cases rx;obtain⟨t,rfl⟩:=ry;obtain⟨its,r,pl,hz⟩:=I.tuple hq;obtain⟨j,h1,h2,h3,h4,h5⟩:=tS he;obtain⟨w,ew,rw'⟩:=r.get h2;have hl:=r.length;have hn:=kX;have fin:EP X pins σ Q w s:=⟨z,H,I,rw',q⟩
 exact subscriptTail_builtinR (x:=w) pl.typeIs slot_tuple_getitem.lookup
  (getItem_tuple (j:=j) (Q:=λ r s'=>r=w/\EP X pins σ Q r s') pl (by omega) (by omega) (by rw [Lg,←hl];exact h1) (by simpa using ew) ⟨rfl,fin⟩) hs
theorem qd(its:List Value)(n j:Nat)(u:Value):Obj.mapSeq (·.setIfInBounds j u) { cls:=.type "list",data:=.seq its.toArray n }={ cls:=.type "list",data:=.seq (its.set j u).toArray n }:=by
 simp [Obj.mapSeq]
theorem Inv.lst{pins:List (Addr × Obj)}{σ:St}{H:Hp}{s:Shared}{p:Addr}{xs:List V}(I:Inv X pins σ H s)(h:H p=some (.lst xs)) :
  ∃ (its:List Value) (n:Nat),aK xs its/\s.heap.get? p=some { cls:=.type "list",data:=.seq its.toArray n }/\xs.length<=sizeLine:=by
 obtain⟨z,its,n,r,e⟩:=I.hok p _ h;exact⟨its,n,r,e,z⟩
theorem Inv.lstUpd{pins:List (Addr × Obj)}{σ:St}{H:Hp}{s:Shared}{p:Addr}{xs ys:List V}{its its':List Value}{n n':Nat}{f:Obj->Obj}(I:Inv X pins σ H s)(h:H p=some (.lst xs))
  (ho:s.heap.get? p=some { cls:=.type "list",data:=.seq its.toArray n }) (hf:f { cls:=.type "list",data:=.seq its.toArray n }={ cls:=.type "list",data:=.seq its'.toArray n' }) (r:aK ys its') (hz:ys.length<=sizeLine) (t:Nat) :
  Inv X pins σ (upd H p (.lst ys)) { s with heap:=s.heap.update p f,toks:=t }:=by
 have e:(s.heap.update p f).get? p=some { cls:=.type "list",data:=.seq its'.toArray n' }:=by
  rw [LW f ho (by rw [hf]<;>rfl),hf]
 refine I.write (x:=p) (e:=p) (by rw [h];trivial) (.inl rfl) (λ b u hb q=>(L7 _ _ (Ld hb)).trans q) ⟨_,e⟩ ?_;exact⟨hz,its',n',r,e⟩
def Dz:V->V->V->Hp->(Hp->Prop)->Prop:=λ o i v H Q=>∃ p xs k j,o=.ref p/\i=.int k/\H p=some (.lst xs)/\ixN xs.length k=some j/\Q (upd H p (.lst (xs.set j v)))
theorem oJ:J6 X Dz:=by
 intro pins s σ H o i v ov iv u Q I ro ri rv h;obtain⟨p,xs,k,j,rfl,rfl,hp,hj,q⟩:=h;cases ro;obtain⟨t,rfl⟩:=ri;obtain⟨its,n,r,ho,hz⟩:=I.lst hp;obtain⟨h1,h2,h3,h4⟩:=tq hj;have hl:=r.length;have hn:=kX
 have I':Inv X pins σ (upd H p (.lst (xs.set j v))) { s with heap:=s.heap.update p (Obj.mapSeq (·.setIfInBounds j u)) }:=
  I.lstUpd hp ho (qd its n j u) (r.set rv j) (by rw [NQ];exact hz) s.toks
 by_cases h0:0<=k
 ·have hk:k.toNat=j:=by
   rw [seqIndex_of h0 h4] at h1;exact Lf h1
  exact W.ki_setAt ho h0 (by omega) (by rw [Lg,←hl];exact h4) (by rw [hk];exact⟨_,I',q⟩)
 ·have hk:(k+(its.toArray.size:Int)).toNat=j:=by
   rw [seqIndex_neg (by omega) h3] at h1;rw [Lg,←hl];exact Lf h1
  exact W.ki_setBack ho (by omega) (by rw [Lg,←hl];exact h3) (by omega) (by rw [hk];exact⟨_,I',q⟩)
theorem mj(lo hi:Option Int)(n:Nat):(sliceBounds lo hi none n).1=((HT.sIx n 0 lo:Nat):Int)/\(sliceBounds lo hi none n).2.1=((HT.sIx n n hi:Nat):Int)/\(sliceBounds lo hi none n).2.2=1:=by
 refine⟨?_,?_,rfl⟩
 ·cases lo with
  | none=>simp [sliceBounds,HT.sIx]
  | some i=>
   simp only [sliceBounds,HT.sIx,Option.getD_none,show (1:Int) > 0 by decide,Oj]
   by_cases h:i < 0
   ·simp only [h,Oj]<;>omega
   ·simp only [h,MS]<;>omega
 ·cases hi with
  | none=>simp [sliceBounds,HT.sIx]
  | some i=>
   simp only [sliceBounds,HT.sIx,Option.getD_none,show (1:Int) > 0 by decide,Oj]
   by_cases h:i < 0
   ·simp only [h,Oj]<;>omega
   ·simp only [h,MS]<;>omega
theorem kh(its:List Value)(lo hi:Option Int):slicePick its.toArray lo hi none=((its.drop (HT.sIx its.length 0 lo)).take (HT.sIx its.length its.length hi - HT.sIx its.length 0 lo)).toArray:=by
 obtain⟨h1,h2,h3⟩:=mj lo hi its.toArray.size;unfold slicePick;rw [h1,h2,h3]
 simp only [sliceRange_one,pick_run,Lg]<;>rfl
def Kd(K:W.Frag):V->Option Int->Option Int->Hp->VK->Prop:=λ x lo hi H Q=>∃ a xs,x=.ref a/\SqL K H a xs/\∀ p,H p=none->Q (.ref p) (upd H p (.lst (qU xs lo hi)))
theorem Az:SlR X (Kd X.K):=by
 intro pins s σ H x v vl vu lo hi sl Q I rx hs pl pu h;obtain⟨a,xs,rfl,hx,q⟩:=h;cases rx;obtain⟨its,r,ht,hz⟩:=I.list hx;have hlen:=r.length;refine⟨"list",_,slot_list_getitem.lookup,ht.isList.typeIs,?_⟩;refine wpAny_getItem_list_slice ht.isList hs pl pu .none (by simp) ?_ (by rw [Lg]<;>omega);rw [kh,←hlen];refine⟨.ref s.heap.objs.size,_,I.laid (t':=s.toks) (o:=.lst (qU xs lo hi)) (λ b ob q=>KC _ q) (KO _) ?_,rfl,q _ (I.hok.fresh (KO _))⟩;exact⟨Lu (nX xs lo hi) hz,_,0,(r.drop (HT.sIx xs.length 0 lo)).take (HT.sIx xs.length xs.length hi - HT.sIx xs.length 0 lo),KR _ rfl⟩
theorem cF:bL X (.builtin "len") (λ xs H Q=>∃ p ys,xs=[.ref p]/\(SqL X.K H p ys\/SqT X.K H p ys)/\Q (.int ys.length) H):=by
 intro pins s σ H xs us Q I r h;obtain⟨p,ys,rfl,hq,q⟩:=h;obtain⟨u,rfl,rx⟩:=zx r;cases rx;have hn:=kX
 rcases hq with hq|hq
 ·obtain⟨its,r',pl,hz⟩:=I.list hq;have hlen:=r'.length;exact Calls.call_len_list pl.isList (by simp only [Lg]<;>omega) ⟨.int ys.length,H,I.tok _,⟨s.toks+1,by rw [Lg,hlen]⟩,q⟩
 ·obtain⟨its,r',pl,hz⟩:=I.tuple hq;have hlen:=r'.length;exact len_tuple pl (by simp only [Lg]<;>omega) ⟨.int ys.length,H,I.tok _,⟨s.toks+1,by rw [Lg,hlen]⟩,q⟩
theorem mz:bL X (.builtin "len") (λ xs H Q=>∃ z,xs=[.str z]/\z.length<=sizeLine/\Q (.int z.length) H):=by
 intro pins s σ H xs us Q I r h;obtain⟨z,rfl,hz,q⟩:=h;obtain⟨u,rfl,t,rfl⟩:=zx r;have hn:=kX;exact len_str (by omega) ⟨.int z.length,H,I.tok _,⟨_,rfl⟩,q⟩
theorem bL.or{f:Value}{r r':List V->Hp->VK->Prop}(h:bL X f r)(h':bL X f r'):bL X f (λ xs H Q=>r xs H Q\/r' xs H Q):=by
 intro pins s σ H xs us Q I rs q
 rcases q with q|q
 ·exact h pins s σ H xs us Q I rs q
 ·exact h' pins s σ H xs us Q I rs q
theorem my:bL X (.type "list") (λ xs H Q=>∃ p ys,xs=[.ref p]/\(SqL X.K H p ys\/SqT X.K H p ys)/\∀ l,H l=none->Q (.ref l) (upd H l (.lst ys))):=by
 intro pins s σ H xs us Q I r h;obtain⟨p,ys,rfl,hq,q⟩:=h;obtain⟨u,rfl,rx⟩:=zx r;cases rx
 have fin:∀ (its:List Value),aK ys its->ys.length<=sizeLine->∀ (h':Heap) (c':Nat),(∀ b o',s.heap.get? b=some o'->h'.get? b=some o') →
   h'.get? s.heap.objs.size=some { cls:=.type "list",dict:=none,data:=.seq its.toArray c',slots:=#[] }->EP X pins σ Q (.ref s.heap.objs.size) { s with heap:=h' }:=λ its r' hz h' c' kp e=>
  ⟨.ref s.heap.objs.size,_,I.laid (t':=s.toks) kp (KO _) (show aO X.prog X.w _ h' _ (.lst ys) from ⟨hz,its,c',r',e⟩),rfl,q _ (I.hok.fresh (KO _))⟩
 rcases hq with hq|hq
 ·obtain⟨its,r',pl,hz⟩:=I.list hq;have hlen:=r'.length;obtain⟨o,ho,hc,n,hd⟩:=pl.isList;exact call_list_seq p (.inl rfl) ho hc hd (λ h' c' kp e=>fin its r' hz h' c' kp e) (by simp only [Lg]<;>omega)
 ·obtain⟨its,r',pl,hz⟩:=I.tuple hq;have hlen:=r'.length;obtain⟨o,ho,hc,n,hd⟩:=pl;exact call_list_seq p (.inr rfl) ho hc hd (λ h' c' kp e=>fin its r' hz h' c' kp e) (by simp only [Lg]<;>omega)
def tyV(K:W.Frag)(T:String)(x:V)(H:Hp):Prop:=match x with
 | .str _=>T = "str"
 | .int _=>T = "int"
 | .ref p=>(T = "list" /\ ∃ xs,SqL K H p xs)\/(T = "tuple" /\ ∃ o,K.lookup p=some o/\o.cls=.type "tuple" /\ o.dict=none) \/
   (T = "dict" /\ ((∃ kvs,H p=some (.dK kvs))\/∃ kvs,H p=some (.dT kvs)))\/(T = "set" /\ ∃ S n,H p=some (.set S n))
 | _=>False
theorem yC{pins:List (Addr × Obj)}{σ:St}{H:Hp}{s:Shared}{T:String}{x:V}{v:Value}(I:Inv X pins σ H s)(r:aX x v)(ty:tyV X.K T x H) :
  s.TypeIs v T/\∀ a,v=.ref a->∃ ob,s.heap.get? a=some ob/\ob.dict=none:=by
 cases x with
 | str z=>
  obtain⟨t,rfl⟩:=r;cases (show T = "str" from ty);exact⟨typeIs_str s z t,λ _ e=>nomatch e⟩
 | int i=>
  obtain⟨t,rfl⟩:=r;cases (show T = "int" from ty);exact⟨typeIs_int s i t,λ _ e=>nomatch e⟩
 | ref p=>
  cases r
  rcases ty with ⟨rfl,xs,hq⟩|⟨rfl,o,hk,hc,hd⟩|⟨rfl,hk⟩|⟨rfl,S,n,hk⟩
  ·obtain⟨its,_,pl,_⟩:=I.list hq;refine⟨pl.isList.typeIs,λ a e=>?_⟩;cases e;obtain⟨o,n,e,c,hd,_⟩:=pl;exact⟨o,e,hd⟩
  ·refine⟨⟨o,I.kIn p o hk,hc⟩,λ a e=>?_⟩;cases e;exact⟨o,I.kIn _ o hk,hd⟩
  ·have z:∃ o,s.heap.get? p=some o/\o.ExactDict:=by
    rcases hk with ⟨kvs,hk⟩|⟨kvs,hk⟩
    ·obtain⟨_,_,_,_,o,_,_,e,ex,_⟩:=I.hok p _ hk;exact⟨o,e,ex⟩
    ·obtain⟨_,_,_,_,o,_,_,e,ex,_⟩:=I.hok p _ hk;exact⟨o,e,ex⟩
   obtain⟨o,e,ex⟩:=z;refine⟨⟨o,e,ex.1⟩,λ a e2=>?_⟩;cases e2;exact⟨o,e,ex.2.1⟩
  ·obtain⟨o,_,_,_,e,ex,_⟩:=I.hok p _ hk;refine⟨⟨o,e,ex.1⟩,λ a e2=>?_⟩;cases e2;exact⟨o,e,ex.2.1⟩
 | _=>exact False.elim ty
def Ju(K:W.Frag)(T:String)(r:V->List V->Hp->VK->Prop)(to:TE):TE:=λ σ H Q=>to σ H λ x H1=>tyV K T x H1/\r x [] H1 Q
def tBM(K:W.Frag)(T:String)(r:V->List V->Hp->VK->Prop)(to:TE)(t:TA):TE:=λ σ H Q=>to σ H λ x H1=>tyV K T x H1/\t σ H1 λ xs H2=>r x xs H2 Q
variable {o e:Expr}{es:List Expr}{to:TE}{t:TA}{name:Str}{apos cpos:Pos}{T id:String}{r:V->List V->Hp->VK->Prop}
theorem yK(pa:PlainAttrs T)(slot:Slot T name id)(hty:typeOf (.builtin id)=pure (.type "method_descriptor"))(hm:MtR X id r)(ho:PE X o to)
  (hbase:attributeBase o name X.env (eval o X.env)=eval o X.env:=by rfl) (hline:(apos.endLine == cpos.line)=true:=by rfl):PE X (.Call (.Attribute o name apos) [] [] cpos) (Ju X.K T r to):=by
 intro pins s σ H Q I h;refine wpAny_Call_method0_late hbase hline (thn (ho pins s σ H _ I h) λ v s1 ⟨x,H1,I1,r1,ty,q1⟩=>?_);obtain⟨h1,h2⟩:=yC I1 r1 ty;exact⟨T,id,pa,slot,hty,h1,h2,Nm rfl (PySem.evalArgs_none (hm pins s1 σ H1 x [] v [] Q I1 r1 .nil q1))⟩
theorem Ic(pa:PlainAttrs T)(slot:Slot T name id)(hty:typeOf (.builtin id)=pure (.type "method_descriptor"))(hm:MtR X id r)(ho:PE X o to)(ha:PA X (e::es) t)
  (hbase:attributeBase o name X.env (eval o X.env)=eval o X.env:=by rfl)
  (hfew:((backTo cpos (starEach (e::es) X.env)).all (λ x=>!x.1) && (backToKw cpos (keywordEach [] X.env)).all (λ x=>x.1.isSome)
   && decide ((e::es).length+([]:List Keyword).length+(if ([]:List Keyword).isEmpty then 0 else 1) < 30))=true:=by rfl)
  (hline:(apos.endLine == cpos.line)=true:=by rfl) (hs:starEach (e::es) X.env=(false,eval e X.env)::starEach es X.env:=by rfl) (hplain:(backTo cpos (starEach es X.env)).any (·.1)=false:=by rfl) :
  PE X (.Call (.Attribute o name apos) (e::es) [] cpos) (tBM X.K T r to t):=by
 intro pins s σ H Q I h;refine wpAny_Call_method_late hbase hfew hline rfl (thn (ho pins s σ H _ I h) λ v s1 ⟨x,H1,I1,r1,ty,q1⟩=>?_);obtain⟨h1,h2⟩:=yC I1 r1 ty;refine⟨T,id,pa,slot,hty,h1,h2,?_⟩;have hA:=ha cpos pins s1 σ H1 _ I1 q1;rw [hs] at hA ⊢;refine Nm (by show (false || (backTo cpos (starEach es X.env)).any (·.1))=false;rw [hplain]<;>rfl) (Ow ?_);exact thn hA λ us s2 ⟨vs,H2,I2,r2,q2⟩=>hm pins s2 σ H2 x vs v us Q I2 r1 r2 q2
end
def MtM(X:Cx)(id:String)(r:V->List V->Hp->VK->Prop):Prop:=
 ∀ (pins:List (Addr × Obj)) (s:Shared) (σ:St) (H:Hp) (x:V) (xs:List V) (v:Value) (us:List Value) (Q:VK),Inv X pins σ H s->aX x v->aK xs us->r x xs H Q →
  wpAny (model X.prog X.w) X.A (call (.builtin id) (v::us)) (EP X pins σ Q) X.xe s
theorem aK.one:∀ {x:V}{us:List Value},aK [x] us->∃ u,us=[u]/\aX x u
 | _,_,.cons r .nil=>⟨_,rfl,r⟩
theorem aK.zero:∀ {us:List Value},aK [] us->us=[]
 | _,.nil=>rfl
theorem aK.dropLast{xs:List V}{us:List Value}(h:aK xs us):aK xs.dropLast us.dropLast:=by
 induction h with
 | nil=>exact .nil
 | cons r t ih=>
  cases t with
  | nil=>exact .nil
  | cons q t'=>exact .cons r ih
theorem aK.reverse{xs:List V}{us:List Value}(h:aK xs us):aK xs.reverse us.reverse:=by
 induction h with
 | nil=>exact .nil
 | cons r t ih=>rw [Oq,Oq];exact aK.append ih (.cons r .nil)
theorem qB{α:Type}(l:List α):l.eraseIdx (l.length - 1)=l.dropLast:=by
 induction l with
 | nil=>rfl
 | cons a r ih=>
  cases r with
  | nil=>rfl
  | cons b r=>
   have e:(a::b::r).length - 1=((b::r).length - 1)+1:=by
    have h1:(a::b::r).length=r.length+2:=rfl;have h2:(b::r).length=r.length+1:=rfl;omega
   rw [e,List.eraseIdx_cons_succ,ih]
   all_goals rfl
section
variable {X:Cx}{pins:List (Addr × Obj)}{σ:St}{H:Hp}{s:Shared}{l b:Addr}{xs ys zs:List V}
theorem Inv.lset{its its':List Value}{n:Nat}{f:Array Value->Array Value}{t':Nat}(I:Inv X pins σ H s)(hH:H l=some (.lst xs))
  (e:s.heap.get? l=some { cls:=.type "list",data:=.seq its.toArray n }) (hf:f its.toArray=its'.toArray) (hv:aK ys its') (hz:ys.length<=sizeLine) :
  Inv X pins σ (upd H l (.lst ys)) { s with heap:=s.heap.update l (Obj.mapSeq f),toks:=t' }:=by
 have q:=PySem.IsL.update e f;rw [hf] at q;refine I.write (x:=l) (e:=l) (by rw [hH];exact trivial) (.inl rfl) (λ b' u hb hu=>(L7 s.heap (Obj.mapSeq f) (Ld hb)).trans hu) ⟨_,q⟩ ?_;exact⟨hz,its',_,hv,q⟩
theorem Inv.lnew{its:List Value}{t':Nat}(I:Inv X pins σ H s)(hv:aK ys its)(hz:ys.length<=sizeLine) :
  Inv X pins σ (upd H s.heap.objs.size (.lst ys)) { s with heap:=s.heap.push { cls:=.type "list",data:=.seq its.toArray },toks:=t' }:=
 I.laid (λ _ _ q=>KC _ q) (KO _) ⟨hz,its,0,hv,KR _ rfl⟩
theorem Inv.fresh(I:Inv X pins σ H s):H s.heap.objs.size=none:=I.hok.fresh (KO _)
theorem Inv.lstM(I:Inv X pins σ H s)(hH:H l=some (.lst xs)):xs.length<=sizeLine/\∃ (its:List Value) (n:Nat),aK xs its/\xs.length=its.length/\s.heap.get? l=some { cls:=.type "list",data:=.seq its.toArray n }:=by
 obtain⟨z,its,n,r,e⟩:=I.hok l _ hH;exact⟨z,its,n,r,r.length,e⟩
theorem xt{n:Nat}(h:n<=sizeLine):Builtin.List.listTooLong n=false:=by
 unfold Builtin.List.listTooLong;exact decide_eq_false (by omega)
end
section
variable {X:Cx}
def sN:V->List V->Hp->VK->Prop:=λ x vs H Q=>∃ l xs y,x=.ref l/\vs=[y]/\H l=some (.lst xs)/\xs.length < sizeLine/\Q .non (upd H l (.lst (xs++[y])))
theorem aV:MtM X "list.append" sN:=by
 intro pins s σ H x vs v us Q I rx rv h;obtain⟨l,xs,y,rfl,rfl,hH,hz,q⟩:=h;cases rx;obtain⟨u,rfl,ru⟩:=rv.one;obtain⟨z,its,n,r,hl,e⟩:=I.lstM hH;refine Oh F.slot_list_append ⟨_,e,rfl⟩ F.entry_list_append (F.args_list_append_2 _ _) (PySem.list_append l its.toArray n u (by rw [Lg];omega)) ⟨e,?_⟩;refine⟨.non,_,I.lset (its':=its++[u]) hH e (by simp) (r.append (.cons ru .nil)) ?_,rfl,q⟩;rw [KY,Mp];omega
def sM:V->List V->Hp->VK->Prop:=λ x vs H Q=>∃ l b xs zs,x=.ref l/\vs=[.ref b]/\H l=some (.lst xs)/\H b=some (.lst zs)/\xs.length+zs.length<=sizeLine/\Q .non (upd H l (.lst (xs++zs)))
theorem iq:MtM X "list.extend" sM:=by
 intro pins s σ H x vs v us Q I rx rv h;obtain⟨l,b,xs,zs,rfl,rfl,hH,hB,hz,q⟩:=h;cases rx;obtain⟨u,rfl,ru⟩:=rv.one;cases ru;obtain⟨z,its,n,r,hl,e⟩:=I.lstM hH;obtain⟨z2,its2,n2,r2,hl2,e2⟩:=I.lstM hB;have hsz:its.toArray.size+its2.toArray.size<=sizeLine:=by rw [Lg,Lg];omega
 have hlong:¬ (!its.toArray.isEmpty && Builtin.List.listTooLong (its.toArray.size+its2.toArray.size))=true:=by
  rw [xt hsz,Bool.and_false];exact Lb
 refine Oh F.slot_list_extend ⟨_,e,rfl⟩ F.entry_list_extend (F.args_list_extend_2 _ _)
  (AutoSeq1.list_extend_list_list_0 l its.toArray n b its2.toArray n2 hlong (by rw [Lg];omega) (by omega)) ⟨e,e2,?_⟩
 refine⟨.non,_,I.lset (its':=its++its2) hH e (by simp) (r.append r2) ?_,rfl,q⟩;rw [KY];omega
def Ke:V->List V->Hp->VK->Prop:=λ x vs H Q=>∃ l xs y,x=.ref l/\vs=[]/\H l=some (.lst xs)/\xs[xs.length - 1]? = some y/\Q y (upd H l (.lst xs.dropLast))
theorem EE:MtM X "list.pop" Ke:=by
 intro pins s σ H x vs v us Q I rx rv h;obtain⟨l,xs,y,rfl,rfl,hH,hy,q⟩:=h;cases rx;have hus:=rv.zero;subst hus;obtain⟨z,its,n,r,hl,e⟩:=I.lstM hH;obtain⟨u,hu,ru⟩:=r.get hy
 have hy':its.toArray[its.toArray.size - 1]? = some u:=by
  show its.toArray[its.length - 1]? = some u
  rw [←Array.getElem?_toList,←hl];exact hu
 refine Oh F.slot_list_pop ⟨_,e,rfl⟩ F.entry_list_pop (F.args_list_pop_1 _) (MeetsSeq.list_pop_last l its.toArray n u hy' (by rw [Lg];omega)) ⟨e,?_⟩;refine⟨y,_,I.lset (its':=its.dropLast) hH e ?_ r.dropLast ?_,ru,q⟩
 ·show its.toArray.eraseIdxIfInBounds (its.toArray.size - 1)=its.dropLast.toArray
  rw [Lg,List.eraseIdxIfInBounds_toArray,qB]
 ·rw [List.length_dropLast];omega
def oN:V->List V->Hp->VK->Prop:=λ x vs H Q=>∃ l xs,x=.ref l/\vs=[]/\H l=some (.lst xs)/\Q .non (upd H l (.lst xs.reverse))
theorem qc:MtM X "list.reverse" oN:=by
 intro pins s σ H x vs v us Q I rx rv h;obtain⟨l,xs,rfl,rfl,hH,q⟩:=h;cases rx;have hus:=rv.zero;subst hus;obtain⟨z,its,n,r,hl,e⟩:=I.lstM hH;refine Oh F.slot_list_reverse ⟨_,e,rfl⟩ F.entry_list_reverse (F.args_list_reverse_1 _) (AutoSeq1.list_reverse_list_0 l its.toArray n (by rw [Lg];omega)) ⟨e,?_⟩;refine⟨.non,_,I.lset (its':=its.reverse) hH e (by simp) r.reverse ?_,rfl,q⟩;rw [MO];omega
def Jz:R2:=λ x y H Q=>∃ l b xs zs,x=.ref l/\y=.ref b/\H l=some (.lst xs)/\H b=some (.lst zs)/\xs.length+zs.length<=sizeLine/\∀ p,H p=none->Q (.ref p) (upd H p (.lst (xs++zs)))
theorem EC:OpR X (binaryOp .Add) Jz:=by
 intro pins s σ H x y v u Q I rx ry h;obtain⟨l,b,xs,zs,rfl,rfl,hH,hB,hz,q⟩:=h;cases rx;cases ry;obtain⟨z,its,n,r,hl,e⟩:=I.lstM hH;obtain⟨z2,its2,n2,r2,hl2,e2⟩:=I.lstM hB;refine PySem.P.add_list e e2 ?_ (by rw [Lg,Lg];omega);have ea:its.toArray++its2.toArray=(its++its2).toArray:=by simp
 rw [ea];exact⟨.ref _,_,I.lnew (t':=s.toks) (r.append r2) (by rw [KY];omega),rfl,q _ I.fresh⟩
end
section
variable {prog:Program}{w:World}{A:Around}{E:Value->Shared->Prop}{s:Shared}
end
section
variable {X:Cx}
end
end L2
namespace Att
open PySem PySem.W PySem.Calls PyProof.Rows
theorem iO{P:Params}{h:Heap}:∀ (ns:List Int) (vs:List Value),WellAll P h vs (ns.map WData.int)->IntsAre vs ns:=by
 intro ns
 induction ns with
 | nil=>
  intro vs w;rw [Oy] at w;cases w;exact .nil
 | cons n ns ih=>
  intro vs w;rw [Lo] at w
  cases w with
  | cons a b=>
   cases a;exact .cons _ _ (ih _ b)
theorem uf{l:OpenLaw}{n:Nat}(hn:l.most=some n){P:Params}{h:Heap}{args:List WData}{vals:List Value}
  (hpre:l.row.toRowW.claim.pre args=true) (hwl:WellAll P h vals args) :
  ∃ a vs ns,vals=[Value.ref a]/\args=[WData.list (ns.map WData.int)]/\h.get? a=some { cls:=.type "list",data:=.seq vs.toArray }/\IntsAre vs ns/\ns.length<=n:=by
 have hsh:WShape.hasAll [] args [.list .int]=true:=(pre_splitW hpre).1;have hc:l.pre.holds [] { args:=args }=true:=(pre_splitW hpre).2;obtain⟨d,r,rfl,h1,h2⟩:=hasAllW_cons hsh;obtain rfl:=hasAllW_nil h2;obtain⟨xs,rfl,h3⟩:=hasW_list h1;obtain⟨ns,rfl⟩:=items_int h3
 have hlen:ns.length<=n:=by
  unfold OpenLaw.pre at hc
  have h4:(WTm.not (.lt (.lit (.int (n:Int))) (.len (.arg 0)))).holds [] { args:=[.list (ns.map .int)] }=true:=by
   have h4:=(holds_andW hc).1;rw [hn] at h4;exact h4
  have h5:=condW_of h4 (w_not (w_lt w_lit (w_len_list (w_arg rfl))));rw [KG] at h5;refine OF λ q=>?_;have q':(n:Int) < ((ns.length:Nat):Int):=by omega
  first
   | (rw [Nb q'] at h5;exact absurd h5 (by decide))
   | (simp at h5;omega)
 cases hwl with
 | cons w1 w2=>
  cases w2
  cases w1 with
  | list ho hall=>exact⟨_,_,ns,rfl,rfl,ho,iO ns _ hall,hlen⟩
theorem uk(l:OpenLaw)(args:List WData):l.row.toRowW.claim.post args (.bool true) args=true:=
 postW_of (r:=l.row.toRowW) (X:=(true == true))
  (show WShape.has [] (.bool true) .bool=true by first|rfl|decide|simp [WShape.has,WShape.arms,WShape.armsAll])
  (show (WTm.eq .res (.lit (.bool true))).value [] { args:=args,res:=some (.bool true),after:=args }=some (.bool (true == true)) from w_eq_bool (w_res rfl) w_lit) rfl
theorem attach_call{l:OpenLaw}{n:Nat}{q:Program}{loose:List Str}{XP:(Str->Option Value)->Heap->Prop}{YP:World->Heap->Prop}{d:DefRec}
  (hn:l.most=some n) (hdf:d.params.defaults=[])
  (call:∀ (w:World) (s₀ s₁:Shared) (mg mb:Str->Option Value) (fa:Addr) (o:Obj) (pm cd doc:Value) (a:Addr) (vs:List Value) (ns:List Int),
   Ground q loose [] XP w s₀ mg mb s₁.heap->YP w s₁.heap →
   s₁.heap.get? fa=some o->o.data=.func (docDef d.name d.params d.body d.scope pm cd doc)->s₁.heap.CodeRec cd d.name->mg d.name=some (.ref fa) →
   s₁.heap.get? a=some { cls:=.type "list",data:=.seq vs.toArray }->IntsAre vs ns->ns.length<=n->s₁.gens=#[] →
   codeAny (model l.prog w) callerA (.call (.ref fa) ⟨[.ref a],[]⟩) (λ r s'=>r=.ok (.ret (.bool true))/\OldK s₁.heap s'.heap/\s'.os=s₁.os/\AllBare s'.gens) s₁) :
  WalkO q loose XP YP l.row.toRowW d [] (λ f vs=>PySem.call f vs):=by
 intro w s₀ s₁ mg mb G Y fa o pm cd doc dV kV ho hd hcd hD hmg hg args vals as hpre hlay hrd hwl hlo;obtain rfl:dV=.none:=Dflts.none hD hdf;obtain rfl:kV=.none:=Dflts.noKw hD;obtain⟨a,vs,ns,rfl,rfl,hobj,hints,hlen⟩:=uf hn hpre hwl;refine enter_call (Nn (call w s₀ s₁ mg mb fa o pm cd doc a vs ns G Y ho (fd_plain hd) hcd hmg hobj hints hlen hg) λ r s' hq=>?_);obtain⟨rfl,h2,h3,h4⟩:=hq;exact⟨.inl ⟨.bool true,.bool true,[],rfl,λ _=>rfl,.bool true,uk l _,λ _=>⟨List.Pairwise.nil,λ _ hm=>(nomatch hm)⟩⟩,h2,h3,h4⟩
section
variable {prog:Program}{w:World}{A:Around}{E:Value->Shared->Prop}{s:Shared}{K:Frag}
def J9(h:Heap)(L d:Addr):List (Addr × Obj):=(List.range h.objs.size).filterMap λ a=>if a=L\/a=d then none else (h.get? a).map λ o=>(a,o)
end
end Att
namespace L2
open PySem PySem.Spec PyProof.Rows
theorem k9:∀ {vs:List Value}{ns:List Int},IntsAre vs ns->aK (ns.map V.int) vs
 | _,_,.nil=>.nil
 | _,_,.cons n t h=>.cons ⟨t,rfl⟩ (k9 h)
def HY(H:Hp):Prop:=∀ b,H b=none\/∃ o xs,H b=some (.frz o (.lst xs))
theorem xO{P:Program}{w:World}{K:W.Frag}{mg mb:Str->Option Value}{CX:CXT}{k:Nat}{fa a:Addr}{fd:FuncData}{x:Str}{sp:Sp}{s₁:Shared}{vs:List Value}{ns:List Int}
  (KX:K.In s₁.heap) (hns:s₁.heap.Ns mainGlobals mg) (hb:s₁.heap.Ns builtinsNs mb) (hbb:∀ x:Str,x ≠ "__name__" → mb x=bootBuiltins x) (hlim:s₁.heap.NoLimit) (hg:s₁.gens=#[])
  (ha:s₁.heap.get? a=some { cls:=.type "list",data:=.seq vs.toArray }) (hi:IntsAre vs ns) (hl:ns.length<=sizeLine) (hr:fm k callerA)
  (F:∀ base:Heap,K.In base->base.Ns mainGlobals mg->bp P w K mg base CX k fa fd [x] sp) (hbind:∀ (s:Shared) (u:Value),BindsTo s fd ⟨[u],[]⟩ [(x,u)])
  (hsp:∀ H:Hp,HY H->SqL K H a (ns.map V.int)->sp [.ref a] H (λ v _=>v=.bl true) λ _ _ _=>False)
  (hCX:∀ H e s',CX [] H s₁ (λ _ _ _=>False) e s'->False) :
  codeAny (model P w) callerA (.call (.ref fa) ⟨[.ref a],[]⟩) (λ r s'=>r=.ok (.ret (.bool true))/\OldK s₁.heap s'.heap/\s'.os=s₁.os/\AllBare s'.gens) s₁:=by
 have rv:=k9 hi;have lenV:=hi.length
 have core:∀ H:Hp,HY H->SqL K H a (ns.map V.int)->HOk P w H s₁.heap->(∀ b,H b ≠ none->b=a)->(H a ≠ none->K.lookup a=none) →
   codeAny (model P w) callerA (.call (.ref fa) ⟨[.ref a],[]⟩) (λ r s'=>r=.ok (.ret (.bool true))/\OldK s₁.heap s'.heap/\s'.os=s₁.os/\AllBare s'.gens) s₁:=by
  intro H hO hS hok hA hK;have base_of:∀ {b:Addr} {o:Obj},s₁.heap.get? b=some o->H b=none->(vY s₁.heap H).get? b=some o:=λ e n=>x6 e n
  have noA:∀ {b:Addr} {o:Obj} {es:Array DictEntry} {ep:Nat},s₁.heap.get? b=some o->o.data=.dict es ep->H b=none:=λ {b o es ep} e d=>by
   cases q:H b with
   | none=>rfl
   | some u=>
    have e':b=a:=hA b (by rw [q];simp);subst e';rw [ha] at e;cases e;have d':Data.seq vs.toArray _=Data.dict es ep:=d;cases d'
  have nsK:∀ {b:Addr} {m:Str->Option Value},s₁.heap.Ns b m->(vY s₁.heap H).Ns b m:=λ {b m} ⟨o,es,ep,e,d,r⟩=>⟨o,es,ep,base_of e (noA e d),d,r⟩
  have hKb:K.In (vY s₁.heap H):=λ b o e=>base_of (KX b o e) (by
   cases q:H b with
   | none=>rfl
   | some u=>
    have e':b=a:=hA b (by rw [q];simp);subst e';rw [hK (by rw [q];simp)] at e;cases e)
  have hM:Mod K mg (vY s₁.heap H):=⟨hKb,nsK hns,⟨mb,nsK hb,hbb⟩,let ⟨mc,h1,h2⟩:=hlim;⟨mc,nsK h1,h2⟩⟩;have e0:qT P w K mg (vY s₁.heap H) callerA [] s₁ H:=⟨rfl,hM,λ b o e=>AX e,OB (vw _ _),trivial,λ b hb=>absurd (show b∈([]:List Addr) from hb) (by simp),hok,.of_eq hg⟩;refine Nn ((F _ hKb (nsK hns)).run callerA [] s₁ H ⟨[.ref a],[]⟩ [.ref a] [.ref a] _ _ hr e0 (hbind s₁ (.ref a)) (.cons rfl .nil) (hsp H hO hS)) λ r s' h=>?_
  cases r with
  | error e=>exact(hCX H e s' h).elim
  | ok fl=>
   cases fl with
   | next=>exact False.elim h
   | brk=>exact False.elim h
   | cont=>exact False.elim h
   | ret u=>
    obtain⟨v,H',os,bare,un,hok',r',q⟩:=h;have q':v=.bl true:=q;subst q';obtain rfl:u=Value.bool true:=r';refine⟨rfl,OldK.of_keep λ b o e=>?_,os,bare⟩
    cases q:H b with
    | none=>exact un.keep b o e q (by intro z;exact absurd (show b∈([]:List Addr) from z) (by simp)) (by simp)
    | some u=>
     rcases hO b with z|⟨ob,xs,z⟩
     ·rw [q] at z;cases z
     ·have z2:=un.frzs b ob _ z;obtain⟨e1,_⟩:=hok b _ z;obtain⟨e2,_⟩:=hok' b _ z2;rw [e] at e1;cases e1;exact e2
 cases hk:K.lookup a with
 | some o=>
  have e:=KX a o hk;rw [ha] at e;cases e;refine core (λ _=>none) (λ _=>.inl rfl) (.inr ⟨_,vs.toArray,_,hk,rfl,rfl,rfl,by rw [Lg,lenV];exact hl,by simpa using rv⟩) (λ b u z=>by have z':(none:Option HO)=some u:=z;cases z') (λ b z=>absurd rfl z) λ z=>absurd rfl z
 | none=>
  refine core (λ b=>if b=a then some (.frz { cls:=.type "list",data:=.seq vs.toArray } (.lst (ns.map V.int))) else none) (λ b=>?_) (.inl (.inr ⟨{ cls:=.type "list",data:=.seq vs.toArray },KZ rfl⟩)) (λ b u z=>?_) (λ b z=>?_) λ _=>hk
  ·by_cases hb:b=a
   ·exact .inr ⟨_,_,KZ hb⟩
   ·exact .inl (KU hb)
  ·by_cases hb:b=a
   ·have z':=(KZ hb).symm.trans z;cases z';subst hb;exact⟨ha,by rw [KG];exact hl,vs,_,rv,ha⟩
   ·have z':=(KU hb).symm.trans z;cases z'
  ·by_cases hb:b=a
   ·exact hb
   ·exact absurd (KU hb) z
abbrev KOf{K:PySem.W.Frag}{h:Heap}(_:K.In h):PySem.W.Frag:=K
theorem Jk{l:W.OpenLaw}{n k:Nat}{q:Program}{loose:List Str}{XP:(Str->Option Value)->Heap->Prop}{YP:World->Heap->Prop}{d:DefRec}{K:Params->W.Frag}{CX:World->CXT}{sp:World->Sp}{x:Str}
  (hn:l.most=some n) (hn2:n<=sizeLine) (hdf:d.params.defaults=[]) (hr:fm k callerA)
  (hY:∀ (w:World) (h:Heap),YP w h->(K w.params).In h)
  (F:∀ (w:World) (mg:Str->Option Value) (fa:Addr) (h:Heap),(K w.params).In h->h.Ns mainGlobals mg->mg d.name=some (.ref fa) →
   ∃ fd:FuncData,(∀ (s:Shared) (u:Value),BindsTo s fd ⟨[u],[]⟩ [(x,u)]) /\
    ∀ base:Heap,(K w.params).In base->base.Ns mainGlobals mg->bp l.prog w (K w.params) mg base (CX w) k fa fd [x] (sp w))
  (hsp:∀ (w:World) (H:Hp) (a:Addr) (ns:List Int),ns.length<=n->HY H->SqL (K w.params) H a (ns.map V.int)->sp w [.ref a] H (λ v _=>v=.bl true) λ _ _ _=>False)
  (hCX:∀ (w:World) (H:Hp) (s:Shared) (e:Value) (s':Shared),CX w [] H s (λ _ _ _=>False) e s'->False) :
  W.WalkO q loose XP YP l.row.toRowW d [] (λ f vs=>PySem.call f vs):=by
 refine Att.attach_call hn hdf λ w s₀ s₁ mg mb fa o pm cd doc a vs ns G Y ho hd hcd hmg hobj hints hlen hg=>?_;have KX:=hY w _ Y;obtain⟨fd,hb,hF⟩:=F w mg fa _ KX G.T.g hmg;exact xO KX G.T.g G.T.b G.T.builtins G.T.nolimit hg hobj hints (Lu hlen hn2) hr hF hb (λ H hO hS=>hsp w H a ns hlen hO hS) λ H e s'=>hCX w H s₁ e s'
def bt(s:Stmt)(j:Nat):Stmt:=match s with
 | .ClassDef _ _ _ body _ _ _ _ _ _ _=>body.getD j (.Pass ⟨0,0,0,0⟩)
 | _=>.Pass ⟨0,0,0,0⟩
def cM(s:Stmt):Arguments:=match s with
 | .FunctionDef _ a _ _ _ _ _ _ _ _=>a
 | _=>{ posonlyargs:=[],args:=[],vararg:=none,kwonlyargs:=[],kw_defaults:=[],kwarg:=none,defaults:=[] }
def bV(s:Stmt):List Stmt:=match s with
 | .FunctionDef _ _ b _ _ _ _ _ _ _=>b
 | _=>[]
def aa(s:Stmt):Scope:=match s with
 | .FunctionDef _ _ _ _ _ _ sc _ _ _=>sc
 | _=>{ kind:=.function,names:=[],isGenerator:=false,isCoroutine:=false }
abbrev CX0:CXT:=λ _ _ _ _ _ _=>False
abbrev E0:XK:=λ _ _ _=>False
theorem bo{X:Cx}:gZ CX0 X E0:=λ _ _ _ _ _ _ _ h=>h.elim
structure Fun(K:W.Frag)(x qual:Str)(st:Stmt)(f:Addr)(fd:FuncData):Prop where
 ex:∃ (oc:Value) (od:Option Addr) (kV doc pm:Value) (an:Option Addr) (cdv ct:Value) (osl:Array (Option Value)),
  fd=W.fnOf x qual (cM st) (bV st) (aa st) .none kV doc pm an cdv ct/\K.lookup f=some ⟨oc,od,.func fd,osl⟩/\W.codeIn K cdv qual=true
 kp:W.keepIn K (.ref f)=true
section
variable {P:Program}{w:World}{K:PySem.W.Frag}{mg:Str->Option Value}{base:Heap}
theorem Fun.ok{x qual:Str}{st:Stmt}{f:Addr}{fd:FuncData}{N ps:List Str}{k:Nat}{sp:Sp}(F:Fun K x qual st f fd)(S:ai N ps (aa st))(len:∀ vs H Q E,sp vs H Q E->vs.length=ps.length)
  (hbody:∀ (cdv:Value) (A:Around) (outer:List Env) (s:Shared) (H:Hp) (vs:List V) (Q:VK) (E:XK),fm k (A.deeper (envOfC qual (aa st) s.heap.objs.size f cdv))->sp vs H Q E →
   ∃ t,PSs (yv CX0 P w K mg base N qual (aa st) f cdv A outer s H E).nox (bV st) t/\t { nx:=λ _ H'=>Q .non H',rt:=Q } (start N vs) H):bp P w K mg base CX0 (k+1) f fd ps sp:=by
 obtain⟨oc,od,kV,doc,pm,an,cdv,ct,osl,rfl,lk,hcd⟩:=F.ex;refine DZ lk hcd S len λ A outer s H vs Q E hr hsp=>?_;obtain⟨t,h,q⟩:=hbody cdv A outer s H vs Q E hr hsp;exact⟨t,h.nox,q⟩
theorem Fun.binds{x qual:Str}{st:Stmt}{f:Addr}{fd:FuncData}{ps:List Str}(F:Fun K x qual st f fd)
  (h:∀ (kV doc pm:Value) (an:Option Addr) (cdv ct:Value) (us:List Value),us.length=ps.length->bindArgs (W.fnOf x qual (cM st) (bV st) (aa st) .none kV doc pm an cdv ct) ⟨us,[]⟩=pure (ps.zip us)):ar K fd ps []:=by
 obtain⟨oc,od,kV,doc,pm,an,cdv,ct,osl,rfl,lk,hcd⟩:=F.ex;exact .all (h kV doc pm an cdv ct)
theorem Gz{x qual:Str}{st:Stmt}{f:Addr}{oc:Value}{od an:Option Addr}{osl:Array (Option Value)}{kV doc pm cdv ct:Value}(l:K.lookup f=some ⟨oc,od,.func (W.fnOf x qual (cM st) (bV st) (aa st) .none kV doc pm an cdv ct),osl⟩)
  (c:W.codeIn K cdv qual=true) (k:W.keepIn K (.ref f)=true):Fun K x qual st f (W.fnOf x qual (cM st) (bV st) (aa st) .none kV doc pm an cdv ct):=⟨⟨oc,od,kV,doc,pm,an,cdv,ct,osl,rfl,l,c⟩,k⟩
end
theorem lp{n:Nat}(h:n<=1000):n < sizeLine:=Nat.lt_of_le_of_lt h (by decide)
section
variable {X:Cx}
theorem pv(i:Nat){x:Str}{pos:Pos}(hN:X.N[i]? = some x:=by rfl)(hv:Vis X.env.scope x:=by first|exact Or.inl rfl|exact Or.inr (Or.inl rfl)|exact Or.inr (Or.inr rfl))(hd:(x == ("__debug__":Str))=false:=by decide)
  (hcd:(x == ("__classdict__":Str))=false:=by decide):PE X (.Name x pos) (GR i):=Em hN hv hd hcd
end
theorem JY{c A B:Prop}[Decidable c](h1:c->A)(h2:¬ c->B):if c then A else B:=by
 by_cases h:c
 ·rw [KZ h];exact h1 h
 ·rw [KU h];exact h2 h
def iR(H H':Hp):Prop:=∀ b o,H b=some o->H' b=some o
theorem iR.refl(H:Hp):iR H H:=λ _ _ h=>h
theorem iR.trans{H H1 H2:Hp}(a:iR H H1)(b:iR H1 H2):iR H H2:=λ c o h=>b c o (a c o h)
theorem iR.free{H H':Hp}(e:iR H H'){l:Addr}(h:H' l=Option.none):H l=Option.none:=by
 cases q:H l with
 | none=>rfl
 | some o=>
  rw [e l o q] at h;cases h
theorem iR.seq{K:W.Frag}{H H':Hp}{a:Addr}{xs:List V}(e:iR H H')(h:SqL K H a xs):SqL K H' a xs:=by
 rcases h with (h|⟨o,h⟩)|h
 ·exact .inl (.inl (e _ _ h))
 ·exact .inl (.inr ⟨o,e _ _ h⟩)
 ·exact .inr h
section
variable {κ:Type}[DecidableEq κ]
def cS(kvs:List (κ × V))(k:κ):Option V:=(kvs.find? λ kv=>decide (kv.1=k)).map (·.2)
def c8(kvs:List (κ × V))(k:κ)(v:V):List (κ × V):=
 if (kvs.any λ kv=>decide (kv.1=k))=true then kvs.map (λ kv=>if kv.1=k then (kv.1,v) else kv) else kvs++[(k,v)]
theorem bq{p:κ × V}{r:List (κ × V)}{k:κ}(e:p.1=k):cS (p::r) k=some p.2:=by simp [cS,Ni,e]
theorem br{p:κ × V}{r:List (κ × V)}{k:κ}(e:¬ p.1=k):cS (p::r) k=cS r k:=by simp [cS,Ni,e]
theorem cz(k:κ):∀ kvs:List (κ × V),(kvs.any λ kv=>decide (kv.1=k))=(cS kvs k).isSome
 | []=>rfl
 | p::r=>by
  rw [List.any_cons]
  by_cases e:p.1=k
  ·simp only [bq e,Nb e,Bool.true_or,Option.isSome_some]
  ·rw [br e,LX e,Bool.false_or];exact cz k r
theorem oF(k j:κ)(y:V):∀ kvs:List (κ × V),cS (kvs.map λ kv=>if kv.1=k then (kv.1,y) else kv) j=(cS kvs j).map λ x=>if j=k then y else x
 | []=>rfl
 | p::r=>by
  have ih:=oF k j y r;rw [Lo]
  by_cases h:p.1=k
  ·rw [KZ h]
   by_cases e:p.1=j
   ·rw [bq (p:=(p.1,y)) e,bq e,LY,KZ (e.symm.trans h)]
   ·rw [br (p:=(p.1,y)) e,br e,ih]
  ·rw [KU h]
   by_cases e:p.1=j
   ·rw [bq (p:=p) e,bq e,LY,KU (λ z=>h (e.trans z))]
   ·rw [br (p:=p) e,br e,ih]
theorem lh(k j:κ)(y:V):∀ kvs:List (κ × V),cS kvs k=none->cS (kvs++[(k,y)]) j=if j=k then some y else cS kvs j
 | [],_=>by
  by_cases e:k=j
  ·rw [KZ e.symm];exact bq (p:=(k,y)) e
  ·rw [KU (λ z=>e z.symm)];exact br (p:=(k,y)) e
 | p::r,hn=>by
  rw [Mz];have hk:¬ p.1=k:=λ z=>by rw [bq z] at hn;cases hn
  rw [br hk] at hn;have ih:=lh k j y r hn
  by_cases e:p.1=j
  ·rw [bq e,bq e,KU (λ z=>hk (e.trans z))]
  ·rw [br e,br e,ih]
theorem oE(kvs:List (κ × V))(k j:κ)(y:V):cS (c8 kvs k y) j=if j=k then some y else cS kvs j:=by
 unfold c8
 by_cases a:(kvs.any λ kv=>decide (kv.1=k))=true
 ·rw [KZ a,oF];rw [cz] at a
  by_cases e:j=k
  ·obtain⟨x,hx⟩:=Option.isSome_iff_exists.mp a;rw [KZ e,e,hx,LY,KZ rfl]
  ·rw [KU e]
   cases cS kvs j with
   | none=>rfl
   | some x=>rw [LY,KU e]
 ·rw [KU a];refine lh k j y kvs ?_;rw [cz] at a
  cases q:cS kvs k with
  | none=>rfl
  | some x=>rw [q] at a;exact(a rfl).elim
theorem dm(kvs:List (κ × V))(k:κ)(v:V):(c8 kvs k v).length<=kvs.length+1:=by
 unfold c8;split
 ·rw [KG];omega
 ·rw [KY,Lz,NR];omega
theorem oQ{kvs:List (κ × V)}{k:κ}(v:V)(h:cS kvs k=none):c8 kvs k v=kvs++[(k,v)]:=by
 unfold c8;rw [cz,h];exact if_neg (by decide)
theorem kK.isSome_eq{o:Option V}{u:Option Value}(r:kK o u):o.isSome=u.isSome:=by
 cases o with
 | none=>cases u with
  | none=>rfl
  | some _=>exact(show False from r).elim
 | some _=>cases u with
  | none=>exact(show False from r).elim
  | some _=>rfl
theorem kK.getD{o:Option V}{u:Option Value}{d:V}{d':Value}(r:kK o u)(rd:aX d d'):aX (o.getD d) (u.getD d'):=by
 cases o with
 | none=>cases u with
  | none=>exact rd
  | some _=>exact(show False from r).elim
 | some _=>cases u with
  | none=>exact(show False from r).elim
  | some _=>exact r
theorem KV.val{kvs:List (κ × V)}{vs:List (κ × Value)}(r:KV kvs vs)(k:κ):kK (cS kvs k) (valueAt vs k):=by
 unfold KV at r
 induction r with
 | nil=>exact True.intro
 | @cons p q ps qs h t ih=>
  obtain⟨h1,h2⟩:=h
  by_cases e:p.1=k
  ·have e':q.1=k:=h1.symm.trans e;have b:valueAt (q::qs) k=some q.2:=by simp [valueAt,Ni,e']
   rw [bq e,b];exact h2
  ·have e':¬ q.1=k:=λ z=>e (h1.trans z);have b:valueAt (q::qs) k=valueAt qs k:=by simp [valueAt,Ni,e']
   rw [br e,b];exact ih
theorem KV.any{kvs:List (κ × V)}{vs:List (κ × Value)}(r:KV kvs vs)(k:κ):(kvs.any λ kv=>decide (kv.1=k))=vs.any λ kv=>decide (kv.1=k):=by
 unfold KV at r
 induction r with
 | nil=>rfl
 | cons h t ih=>rw [List.any_cons,List.any_cons,ih,h.1]
theorem KV.repl{kvs:List (κ × V)}{vs:List (κ × Value)}(r:KV kvs vs)(k:κ){y:V}{u:Value}(ry:aX y u) :
  KV (kvs.map λ kv=>if kv.1=k then (kv.1,y) else kv) (vs.map λ kv=>if kv.1=k then (kv.1,u) else kv):=by
 unfold KV at r ⊢
 induction r with
 | nil=>exact .nil
 | @cons p q ps qs h t ih=>
  rw [Lo,Lo];refine .cons ?_ ih;obtain⟨h1,h2⟩:=h
  by_cases e:p.1=k
  ·rw [KZ e,KZ (h1.symm.trans e)];exact⟨h1,ry⟩
  ·rw [KU e,KU (λ z=>e (h1.trans z))];exact⟨h1,h2⟩
theorem KV.put{kvs:List (κ × V)}{vs:List (κ × Value)}(r:KV kvs vs)(k:κ){y:V}{u:Value}(ry:aX y u):KV (c8 kvs k y) (stored vs k u):=by
 unfold c8 stored;rw [r.any k]
 by_cases e:(vs.any λ kv=>decide (kv.1=k))=true
 ·rw [KZ e,KZ e];exact r.repl k ry
 ·rw [KU e,KU e];exact Paired.snoc r ⟨rfl,ry⟩
theorem KV.length{kvs:List (κ × V)}{vs:List (κ × Value)}(r:KV kvs vs):kvs.length=vs.length:=Nd r
end
theorem mK{P:Program}{w:World}{k:Key}{u:Value}(r:aX (kV k) u):(aI P w).is k u=true:=by
 cases k with
 | inl i=>obtain⟨t,e⟩:=(show ∃ t,u=Value.int i t from r);subst e;exact nN P w i t
 | inr x=>obtain⟨t,e⟩:=(show ∃ t,u=Value.str x t from r);subst e;exact nM P w x t
theorem lG{P:Program}{w:World}:∀ {ks:List Key}{us:List Value},aK (ks.map kV) us->ItemsAre (aI P w) ks us
 | [],_,r=>by rw [Oy] at r;cases r;exact .nil
 | k::ks,_,r=>by
  rw [Lo] at r
  cases r with
  | cons h t=>exact .cons (mK h) (lG t)
abbrev KT(H:Hp):List (List Key × V)->List (List Key × Addr × Value)->Prop:=Paired λ p q=>p.1=q.1/\H q.2.1=some (.tup (p.1.map kV))/\aX p.2 q.2.2
theorem KT.val{H:Hp}{kvs:List (List Key × V)}{xs:List (List Key × Addr × Value)}(r:KT H kvs xs)(k:List Key):kK (cS kvs k) ((atKey xs k).map (·.2)):=by
 induction r with
 | nil=>exact True.intro
 | @cons p q ps qs h t ih=>
  obtain⟨h1,_,h2⟩:=h
  by_cases e:p.1=k
  ·have e':q.1=k:=h1.symm.trans e;have b:atKey (q::qs) k=some q.2:=by simp [atKey,Ni,e']
   rw [bq e,b];exact h2
  ·have e':¬ q.1=k:=λ z=>e (h1.trans z);have b:atKey (q::qs) k=atKey qs k:=by simp [atKey,Ni,e']
   rw [br e,b];exact ih
theorem KT.repl{H:Hp}{kvs:List (List Key × V)}{xs:List (List Key × Addr × Value)}(r:KT H kvs xs)(k:List Key){y:V}{u:Value}(ry:aX y u) :
  KT H (kvs.map λ kv=>if kv.1=k then (kv.1,y) else kv) (xs.map (putAt k u)):=by
 induction r with
 | nil=>exact .nil
 | @cons p q ps qs h t ih=>
  rw [map_cons,map_cons];refine .cons ?_ ih;obtain⟨h1,h2,h3⟩:=h;unfold putAt
  by_cases e:p.1=k
  ·rw [KZ e,KZ (h1.symm.trans e)];exact⟨h1,h2,ry⟩
  ·rw [KU e,KU (λ z=>e (h1.trans z))];exact⟨h1,h2,h3⟩
theorem KT.put{H:Hp}{kvs:List (List Key × V)}{xs:List (List Key × Addr × Value)}(r:KT H kvs xs)(k:List Key){b:Addr}{y:V}{u:Value}(hb:H b=some (.tup (k.map kV)))(ry:aX y u) :
  KT H (c8 kvs k y) (storedH xs k b u):=by
 have e:(kvs.any λ kv=>decide (kv.1=k))=(atKey xs k).isSome:=by
  rw [cz,(r.val k).isSome_eq,NC]
 unfold c8 storedH;rw [e]
 by_cases q:(atKey xs k).isSome=true
 ·rw [KZ q,KZ q];exact r.repl k ry
 ·rw [KU q,KU q];exact Paired.snoc r ⟨rfl,hb,ry⟩
theorem KT.keeps{H H':Hp}{kvs:List (List Key × V)}{xs:List (List Key × Addr × Value)}(r:KT H kvs xs)(ht:∀ b ys,H b=some (.tup ys)->H' b=some (.tup ys)):KT H' kvs xs:=
 Paired.mapP r λ _ _ z=>⟨z.1,ht _ _ z.2.1,z.2.2⟩
section
variable {P:Program}{w:World}{H:Hp}{h:Heap}{a:Addr}
theorem Dy{u:HO}(ok:HOk P w H h)(e:Rd H a u):aO P w H h a u:=e.ok ok
theorem kT{kvs:List (Key × V)}(ok:HOk P w H h)(e:Rd H a (.dK kvs)):kvs.length<=sizeLine/\(a == sysModules)=false/\∃ vs,KV kvs vs/\h.DictOf (aI P w) a vs:=
 show aO P w H h a (.dK kvs) from Dy ok e
theorem D3{kvs:List (Key × V)}(ok:HOk P w H h)(e:H a=some (.dK kvs)):kvs.length<=sizeLine/\(a == sysModules)=false/\∃ vs,KV kvs vs/\h.DictOf (aI P w) a vs:=kT ok (.inl e)
theorem gY{ks:List Key}(ok:HOk P w H h)(e:H a=some (.tup (ks.map kV))):(tupleKind (aI P w)).is h ks a:=by
 obtain⟨_,its,r,o,h1,h2,n,h3⟩:=(show aO P w H h a (.tup (ks.map kV)) from ok a _ e);exact⟨o,its.toArray,n,h1,h2,h3,by simpa using lG r⟩
theorem kR{kvs:List (List Key × V)}(ok:HOk P w H h)(e:Rd H a (.dT kvs)):kvs.length<=sizeLine/\(a == sysModules)=false /\
  ∃ xs,KT H kvs xs/\h.DictOfH (tupleKind (aI P w)) a xs:=by
 obtain⟨z,y,xs,r,o,es,ep,h1,h2,h3,h4,h5⟩:=(show aO P w H h a (.dT kvs) from Dy ok e);refine⟨z,y,xs,r,o,es,ep,h1,h2,h3,h4,λ x hx=>?_,h5⟩
 have all:∀ {l:List (List Key × V)} {m:List (List Key × Addr × Value)},KT H l m->∀ x∈m,(tupleKind (aI P w)).is h x.1 x.2.1:=by
  intro l m q
  induction q with
  | nil=>intro x hx;exact nomatch hx
  | @cons p q ps qs hq t ih=>
   intro x hx
   rcases K2.mp hx with e|hx
   ·subst e;exact gY ok (by rw [←hq.1];exact hq.2.1)
   ·exact ih x hx
 exact all r x hx
theorem Je{kvs:List (List Key × V)}(ok:HOk P w H h)(e:H a=some (.dT kvs)):kvs.length<=sizeLine/\(a == sysModules)=false /\
  ∃ xs,KT H kvs xs/\h.DictOfH (tupleKind (aI P w)) a xs:=kR ok (.inl e)
end
def jw(H:Hp)(a:Addr)(y:V)(r:Option V):Prop:=
 (∃ kvs k,Rd H a (.dK kvs)/\y=kV k/\r=cS kvs k)\/∃ kvs k b,Rd H a (.dT kvs)/\y=.ref b/\H b=some (.tup (k.map kV))/\r=cS kvs k
def C9(H:Hp)(a:Addr)(y v:V)(H':Hp):Prop:=
 (∃ kvs k,H a=some (.dK kvs)/\y=kV k/\kvs.length < sizeLine/\H'=upd H a (.dK (c8 kvs k v))) \/
 ∃ kvs k b,H a=some (.dT kvs)/\y=.ref b/\H b=some (.tup (k.map kV))/\kvs.length < sizeLine/\H'=upd H a (.dT (c8 kvs k v))
theorem jw.k{H:Hp}{a:Addr}{kvs:List (Key × V)}{k:Key}(e:H a=some (.dK kvs)):jw H a (kV k) (cS kvs k):=.inl ⟨kvs,k,.inl e,rfl,rfl⟩
theorem C9.k{H:Hp}{a:Addr}{kvs:List (Key × V)}{k:Key}{v:V}(e:H a=some (.dK kvs))(hl:kvs.length < sizeLine):C9 H a (kV k) v (upd H a (.dK (c8 kvs k v))):=.inl ⟨kvs,k,e,rfl,hl,rfl⟩
section
variable {X:Cx}{pins:List (Addr × Obj)}{σ:St}{H:Hp}{s:Shared}{a:Addr}{y v:V}{u r:Value}{o:Option V}{A:Around}{E:Value->Shared->Prop}
theorem Inv.big(I:Inv X pins σ H s):sysModules < s.heap.objs.size:=by
 have h:mainGlobals < s.heap.objs.size:=(I.mod.glob.keeps I.bk).lt;exact Nv (by decide) h
theorem vC{Q:Value->Shared->Prop}(hu:A.units+1 < cLine)(I:Inv X pins σ H s)(g:jw H a y (some v))(ry:aX y u)(h:∀ w' s',Inv X pins σ H s'->aX v w'->Q w' s') :
  wpAny (model X.prog X.w) A (getItem (.ref a) u) Q E s:=by
 rcases g with ⟨kvs,k,e,ey,l⟩|⟨kvs,k,b,e,ey,eb,l⟩
 ·subst ey;obtain⟨z,hd,vs,rel,dd⟩:=kT I.hok e;obtain⟨w',hw,rw'⟩:=kK.some_of (v:=v) (o:=valueAt vs k) (by rw [l];exact rel.val k);exact wpAny_getItem_of (mK ry) dd.mapOf hw (h w' _ (I.tok _) rw')
 ·subst ey;cases (show u=Value.ref b from ry);obtain⟨z,hd,xs,rel,dd⟩:=kR I.hok e;obtain⟨w',hw,rw'⟩:=kK.some_of (v:=v) (o:=(atKey xs k).map (·.2)) (by rw [l];exact rel.val k);obtain⟨p,hp,hp2⟩:=KW.mp hw;refine wpAny_getItem_heap (Mu hu) (gY I.hok eb) dd hp ?_;rw [hp2];exact h w' _ (I.tok _) rw'
theorem Kr{Q:Value->Shared->Prop}(hu:A.units+1 < cLine)(I:Inv X pins σ H s)(g:jw H a y o)(ry:aX y u)(h:∀ s',Inv X pins σ H s'->Q (.bool o.isSome) s') :
  wpAny (model X.prog X.w) A (compareOp .In u (.ref a)) Q E s:=by
 rcases g with ⟨kvs,k,e,ey,l⟩|⟨kvs,k,b,e,ey,eb,l⟩
 ·subst ey;obtain⟨z,hd,vs,rel,dd⟩:=kT I.hok e;refine wpAny_in_of (mK ry) hd dd.mapOf ?_;rw [←(rel.val k).isSome_eq,←l];exact h _ (I.tok _)
 ·subst ey;cases (show u=Value.ref b from ry);obtain⟨z,hd,xs,rel,dd⟩:=kR I.hok e;refine wpAny_in_heap (Mu hu) (gY I.hok eb) hd dd ?_;have q:=(rel.val k).isSome_eq;rw [NC] at q;rw [←q,←l];exact h _ (I.tok _)
theorem Cz{Q:Value->Shared->Prop}(hu:A.units+1 < cLine)(I:Inv X pins σ H s)(g:jw H a y o)(ry:aX y u)(h:∀ s',Inv X pins σ H s'->Q (.bool (!o.isSome)) s') :
  wpAny (model X.prog X.w) A (compareOp .NotIn u (.ref a)) Q E s:=by
 rcases g with ⟨kvs,k,e,ey,l⟩|⟨kvs,k,b,e,ey,eb,l⟩
 ·subst ey;obtain⟨z,hd,vs,rel,dd⟩:=kT I.hok e;refine wpAny_notIn_of (mK ry) hd dd.mapOf ?_;rw [←(rel.val k).isSome_eq,←l];exact h _ (I.tok _)
 ·subst ey;cases (show u=Value.ref b from ry);obtain⟨z,hd,xs,rel,dd⟩:=kR I.hok e;refine wpAny_notIn_heap (Mu hu) (gY I.hok eb) hd dd ?_;have q:=(rel.val k).isSome_eq;rw [NC] at q;rw [←q,←l];exact h _ (I.tok _)
theorem tL{h':Heap}{t':Nat}{ob:HO}(I:Inv X pins σ H s)(mu:Mut (H a))(hs:Heap.SameBut a s.heap h')(he:∃ q,h'.get? a=some q)(new:aO X.prog X.w (upd H a ob) h' a ob) :
  Inv X pins σ (upd H a ob) { s with heap:=h',toks:=t' }:=
 I.write (x:=a) (e:=a) mu (.inl rfl) (λ b q hb z=>(hs.2 b hb).trans z) he new
theorem GA{P:Program}{w:World}{H':Hp}{h':Heap}{kvs:List (Key × V)}{vs:List (Key × Value)}(z:kvs.length<=sizeLine)(hd:(a == sysModules)=false)(rel:KV kvs vs)(dd:h'.DictOf (aI P w) a vs) :
  aO P w H' h' a (.dK kvs):=⟨z,hd,vs,rel,dd⟩
theorem vB{H':Hp}{Q:Unit->Shared->Prop}(hu:A.units+1 < cLine)(I:Inv X pins σ H s)(g:C9 H a y v H')(ry:aX y u)(rv:aX v r)(h:∀ s',Inv X pins σ H' s'->Q () s') :
  wpAny (model X.prog X.w) A (setItem (.ref a) u r) Q E s:=by
 rcases g with ⟨kvs,k,e,ey,l,eH⟩|⟨kvs,k,b,e,ey,eb,l,eH⟩
 ·subst ey eH;obtain⟨z,hd,vs,rel,dd⟩:=D3 I.hok e;have hz:vs.length<=sizeLine:=by rw [←rel.length];exact z
  have hl:(c8 kvs k v).length<=sizeLine:=by have:=dm kvs k v;omega
  refine wpAny_setItem_pairs (hsz:=hz) (mK ry) dd λ h' dd' hs=>h _ ?_;have he:∃ q,h'.get? a=some q:=let ⟨q,_,_,hq,_⟩:=dd';⟨q,hq⟩;exact tL I (by rw [e];exact True.intro) hs he (GA hl hd (rel.put k rv) dd')
 ·subst ey eH;cases (show u=Value.ref b from ry);obtain⟨z,hd,xs,rel,dd⟩:=Je I.hok e;have hz:xs.length<=sizeLine:=by rw [←Nd rel];exact z
  have hl:(c8 kvs k v).length<=sizeLine:=by have:=dm kvs k v;omega
  refine wpAny_setItem_heap (hsz:=hz) (Mu hu) (gY I.hok eb) dd λ h' dd' hs=>h _ ?_;obtain⟨q,es,ep,hq,h2,h3,h4,_,h5⟩:=dd';refine tL I (by rw [e];exact True.intro) hs ⟨q,hq⟩ ⟨hl,hd,_,(rel.put k eb rv).keeps λ c ys ec=>?_,q,es,ep,hq,h2,h3,h4,h5⟩;rw [af (Im ec e (λ z=>nomatch z))];exact ec
end
section
variable {X:Cx}{pins:List (Addr × Obj)}{σ:St}{H:Hp}{s:Shared}{a:Addr}{kvs:List (Key × V)}{k:Key}{u:Value}{A:Around}{E:Value->Shared->Prop}
end
def J7(i:Expr):Prop:=∀ ov iv,subscripted i false ov iv=operate [ov,iv] (getItem ov iv)
theorem Aw{prog:Program}{w:World}{A:Around}{E:Value->Shared->Prop}{s:Shared}{env:Env}{value slice:Expr}{pos:Pos}{T id:String}{Q:Value->Shared->Prop}
  (hl:typeLookup (.type T) "__getitem__"=pure (some (.builtin id))) (hs:J7 slice)
  (h:wpAny (model prog w) A (eval value env) (λ o s₁=>wpAny (model prog w) A (eval slice env) (λ i s₂=>s₂.TypeIs o T/\wpAny (model prog w) A (getItem o i) Q E s₂) E s₁) E s) :
  wpAny (model prog w) A (eval (.Subscript value slice pos) env) Q E s:=by
 refine Subscript_ (wpAny_mono h (λ o s₁ h₁=>wpAny_mono h₁ (λ i s₂ h₂=>?_) λ _ _ x=>x) λ _ _ x=>x);obtain⟨hT,h₂⟩:=h₂;unfold subscriptTail;refine wpAny_bind ?_;rw [getitemInPython_of_ne hT.not_modules];refine wpAny_bind (wpAny_specialOf hT hl ?_)
 have fin:wpAny (model prog w) A (subscripted slice false o i) (λ r s₃=>wpAny (model prog w) A (letTemporaryGo value o r >>= λ _=>pure r) Q E s₃) E s₂:=by
  rw [hs o i];exact wpAny_operating (M5 h₂ (λ r s₃ h₃=>Kz (wpAny_letTemporaryGo (KQ h₃))) λ _ _ x=>x)
 first
  | exact KQ (Kz fin)
  | exact Kz (KQ (Kz fin))
  | exact Kz fin
theorem nW{X:Cx}{pins:List (Addr × Obj)}{σ:St}{H:Hp}{s:Shared}{a:Addr}{y:V}{o:Option V}(I:Inv X pins σ H s)(g:jw H a y o):s.TypeIs (.ref a) "dict":=by
 rcases g with ⟨kvs,k,e,_,_⟩|⟨kvs,k,b,e,_,_,_⟩
 ·obtain⟨_,_,vs,_,dd⟩:=kT I.hok e;exact dd.typeIs
 ·obtain⟨_,_,xs,_,dd⟩:=kR I.hok e;exact dd.typeIs
def Dt(td ty:TE):TE:=λ σ H Q=>td σ H λ x H1=>ty σ H1 λ y H2=>∃ a v,x=.ref a/\jw H2 a y (some v)/\Q v H2
def Dx(td ty tv:TE):TS:=λ D σ H=>tv σ H λ v H1=>td σ H1 λ x H2=>ty σ H2 λ y H3=>∃ a H4,x=.ref a/\C9 H3 a y v H4/\D.nx σ H4
section
variable {X:Cx}{o i e value:Expr}{pos pos' tpos:Pos}{td ty tv:TE}
theorem AN(hu:X.A.units+1 < cLine)(ho:PE X o td)(hi:PE X i ty)(hs:J7 i):PE X (.Subscript o i pos) (Dt td ty):=by
 intro pins s σ H Q I h;refine Aw PySem.F.slot_dict_getitem.lookup hs (thn (ho pins s σ H _ I h) λ u s1 ⟨x,H1,I1,rx,q1⟩=>thn (hi pins s1 σ H1 _ I1 q1) λ iv s2 ⟨y,H2,I2,ry,a,v,ex,g,q2⟩=>?_);subst ex;obtain rfl:u=Value.ref a:=rx;exact⟨nW I2 g,vC hu I2 g ry λ w' s3 I3 rw'=>⟨v,H2,I3,rw',q2⟩⟩
theorem AF(hu:X.A.units+1 < cLine)(ho:PE X o td)(hi:PE X i ty)(hv:PE X value tv)(hs:swapsWith value (some (.Subscript o i pos')) pos.line X.env=pure false) :
  PS X (.Assign [.Subscript o i pos'] value pos) (Dx td ty tv):=by
 intro pins s σ H D I h;refine wpAny_Assign_Subscript (thn (hv pins s σ H _ I h) λ r s1 ⟨v,H1,I1,rv,q1⟩=>thn (ho pins s1 σ H1 _ I1 q1) λ u s2 ⟨x,H2,I2,rx,q2⟩=>thn (hi pins s2 σ H2 _ I2 q2) λ iv s3 ⟨y,H3,I3,ry,a,H4,ex,g,q3⟩=>?_) hs;subst ex;obtain rfl:u=Value.ref a:=rx;exact vB hu I3 g ry rv λ s4 I4=>⟨σ,H4,I4,q3⟩
end
theorem yi{P:Program}{w:World}{H:Hp}(h:Heap)(hb:sysModules < h.objs.size):aO P w H (h.push { cls:=.type "dict",data:=.dict #[] }) h.objs.size (.dK []):=
 ⟨Lq _,ML.mpr (Ld (K0 hb)),[],.nil,Heap.DictOf.new h⟩
def Ef:TE:=λ _ H Q=>∀ p,H p=none->Q (.ref p) (upd H p (.dK []))
section
variable {X:Cx}{pos:Pos}
theorem xp:PE X (.Dict [] [] pos) Ef:=λ pins s σ H Q I h=>
 wpAny_Dict_empty ⟨.ref s.heap.objs.size,_,I.laid (a:=s.heap.objs.size) (o:=.dK []) (t':=s.toks) (λ _ _ q=>KC _ q) (KO _) (yi s.heap I.big),rfl,h _ (I.hok.fresh (KO _))⟩
end
structure M1(X:Cx)(o:Expr)(m:Str)(apos:Pos)(e:Expr)(cpos:Pos):Prop where
 base:attributeBase o m X.env (eval o X.env)=eval o X.env
 few:((backTo cpos (starEach [e] X.env)).all (λ x=>!x.1) && (backToKw cpos (keywordEach [] X.env)).all (λ x=>x.1.isSome)
  && decide (([e]:List Expr).length+([]:List Keyword).length+(if ([]:List Keyword).isEmpty then 0 else 1) < 30))=true
 line:(apos.endLine == cpos.line)=true
 trees:backTo cpos (starEach [e] X.env)=[(false,eval e X.env)]
structure M2(X:Cx)(o:Expr)(m:Str)(apos:Pos)(e f:Expr)(cpos:Pos):Prop where
 base:attributeBase o m X.env (eval o X.env)=eval o X.env
 few:((backTo cpos (starEach [e,f] X.env)).all (λ x=>!x.1) && (backToKw cpos (keywordEach [] X.env)).all (λ x=>x.1.isSome)
  && decide (([e,f]:List Expr).length+([]:List Keyword).length+(if ([]:List Keyword).isEmpty then 0 else 1) < 30))=true
 line:(apos.endLine == cpos.line)=true
 trees:backTo cpos (starEach [e,f] X.env)=[(false,eval e X.env),(false,eval f X.env)]
def IsD(H:Hp)(a:Addr):Prop:=(∃ kvs,Rd H a (.dK kvs))\/∃ kvs,Rd H a (.dT kvs)
theorem yU{X:Cx}{pins:List (Addr × Obj)}{σ:St}{H:Hp}{s:Shared}{a:Addr}(I:Inv X pins σ H s)(d:IsD H a) :
  s.TypeIs (.ref a) "dict" /\ (∀ b,Value.ref a=.ref b->∃ ob,s.heap.get? b=some ob/\ob.dict=none)/\(a == sysModules)=false:=by
 rcases d with ⟨kvs,e⟩|⟨kvs,e⟩
 ·obtain⟨_,hd,vs,_,dd⟩:=kT I.hok e;refine⟨dd.typeIs,λ b q=>?_,hd⟩;cases q;obtain⟨ob,_,_,h1,h2,_⟩:=dd;exact⟨ob,h1,h2.2.1⟩
 ·obtain⟨_,hd,xs,_,dd⟩:=kR I.hok e;refine⟨dd.typeIs,λ b q=>?_,hd⟩;cases q;obtain⟨ob,_,_,h1,h2,_⟩:=dd;exact⟨ob,h1,h2.2.1⟩
section
variable {X:Cx}{pins:List (Addr × Obj)}{σ:St}{H:Hp}{s:Shared}{a:Addr}{y d:V}{u r:Value}{o:Option V}{A:Around}{E:Value->Shared->Prop}
theorem GC{Q:Value->Shared->Prop}(hu:A.units+1 < cLine)(I:Inv X pins σ H s)(g:jw H a y o)(ry:aX y u)(h:∀ w' s',Inv X pins σ H s'->aX (o.getD .non) w'->Q w' s') :
  wpAny (model X.prog X.w) A (call (.builtin "dict.get") [.ref a,u]) Q E s:=by
 rcases g with ⟨kvs,k,e,ey,l⟩|⟨kvs,k,b,e,ey,eb,l⟩
 ·subst ey;obtain⟨z,hd,vs,rel,dd⟩:=kT I.hok e;refine call_meetsIn L4 dd.typeIs M6 (PySem.F.args_dict_get_2 _ _) (meets_dict_get (aI X.prog X.w) a (mK ry) hd) ⟨_,dd.mapOf,h _ _ (I.tok _) ?_⟩;rw [l];exact(rel.val k).getD rfl
 ·subst ey;cases (show u=Value.ref b from ry);obtain⟨z,hd,xs,rel,dd⟩:=kR I.hok e;refine call_meetsIn L4 dd.typeIs M6 (PySem.F.args_dict_get_2 _ _) (meetsH_dict_get (tupleKind (aI X.prog X.w)) a b hd) ⟨Mu hu,k,xs,gY I.hok eb,dd,h _ _ (I.tok _) ?_⟩;rw [l];exact(rel.val k).getD rfl
theorem GB{Q:Value->Shared->Prop}(hu:A.units+1 < cLine)(I:Inv X pins σ H s)(g:jw H a y o)(ry:aX y u)(rd:aX d r)(h:∀ w' s',Inv X pins σ H s'->aX (o.getD d) w'->Q w' s') :
  wpAny (model X.prog X.w) A (call (.builtin "dict.get") [.ref a,u,r]) Q E s:=by
 rcases g with ⟨kvs,k,e,ey,l⟩|⟨kvs,k,b,e,ey,eb,l⟩
 ·subst ey;obtain⟨z,hd,vs,rel,dd⟩:=kT I.hok e;refine call_meetsIn L4 dd.typeIs M6 (PySem.F.args_dict_get_3 _ _ _) (meets_dict_get_default (aI X.prog X.w) a (mK ry) hd r) ⟨_,dd.mapOf,h _ _ (I.tok _) ?_⟩;rw [l];exact(rel.val k).getD rd
 ·subst ey;cases (show u=Value.ref b from ry);obtain⟨z,hd,xs,rel,dd⟩:=kR I.hok e;refine call_meetsIn L4 dd.typeIs M6 (PySem.F.args_dict_get_3 _ _ _) (meetsH_dict_get_default (tupleKind (aI X.prog X.w)) a b hd r) ⟨Mu hu,k,xs,gY I.hok eb,dd,h _ _ (I.tok _) ?_⟩;rw [l];exact(rel.val k).getD rd
end
def yE(td ty:TE):TE:=λ σ H Q=>td σ H λ x H1=>∃ a,x=.ref a/\IsD H1 a/\ty σ H1 λ y H2=>∃ o,jw H2 a y o/\Q (o.getD .non) H2
def yD(td ty tx:TE):TE:=λ σ H Q=>td σ H λ x H1=>∃ a,x=.ref a/\IsD H1 a/\ty σ H1 λ y H2=>tx σ H2 λ z H3=>∃ o,jw H3 a y o/\Q (o.getD z) H3
section
variable {X:Cx}{o e f:Expr}{apos cpos:Pos}{td ty tx:TE}
theorem jW(hu:X.A.units+1 < cLine)(ho:PE X o td)(he:PE X e ty)(m:M1 X o "get" apos e cpos):PE X (.Call (.Attribute o "get" apos) [e] [] cpos) (yE td ty):=by
 intro pins s σ H Q I h;refine wpAny_Call_method m.base m.few m.line PySem.F.plainAttrs_dict L4 PySem.F.type_dict_get (thn (ho pins s σ H _ I h) λ u s1 ⟨x,H1,I1,rx,a,ex,d,q1⟩=>?_);subst ex;obtain rfl:u=Value.ref a:=rx;obtain⟨t1,t2,_⟩:=yU I1 d;refine⟨t1,t2,?_⟩;rw [m.trees];refine Nm rfl (Ow (Nh (thn (he pins s1 σ H1 _ I1 q1) λ iv s2 ⟨y,H2,I2,ry,ov,g,q2⟩=>NV ?_)));exact GC hu I2 g ry λ w' s3 I3 rw'=>⟨_,H2,I3,rw',q2⟩
theorem oV(hu:X.A.units+1 < cLine)(ho:PE X o td)(he:PE X e ty)(hf:PE X f tx)(m:M2 X o "get" apos e f cpos):PE X (.Call (.Attribute o "get" apos) [e,f] [] cpos) (yD td ty tx):=by
 intro pins s σ H Q I h;refine wpAny_Call_method m.base m.few m.line PySem.F.plainAttrs_dict L4 PySem.F.type_dict_get (thn (ho pins s σ H _ I h) λ u s1 ⟨x,H1,I1,rx,a,ex,d,q1⟩=>?_);subst ex;obtain rfl:u=Value.ref a:=rx;obtain⟨t1,t2,_⟩:=yU I1 d;refine⟨t1,t2,?_⟩;rw [m.trees]
 refine Nm rfl (Ow (Nh (thn (he pins s1 σ H1 _ I1 q1) λ iv s2 ⟨y,H2,I2,ry,q2⟩=>
  Nh (thn (hf pins s2 σ H2 _ I2 q2) λ fv s3 ⟨z,H3,I3,rz,ov,g,q3⟩=>NV ?_))))
 exact GB hu I3 g ry rz λ w' s4 I4 rw'=>⟨_,H3,I4,rw',q3⟩
end
section
variable {X:Cx}{pins:List (Addr × Obj)}{σ:St}{H:Hp}{s:Shared}{a:Addr}{kvs:List (Key × V)}{A:Around}{E:Value->Shared->Prop}
end
section
variable {X:Cx}{pins:List (Addr × Obj)}{σ:St}{H:Hp}{s:Shared}{a:Addr}{y:V}{u:Value}{A:Around}{E:Value->Shared->Prop}
end
section
variable {κ:Type}[DecidableEq κ]
theorem wJ{kvs:List (κ × V)}{k:κ}(h:cS kvs k=none):¬ k∈kvs.map (·.1):=by
 intro m;obtain⟨p,hp,e⟩:=KS.mp m;have q:(kvs.any λ kv=>decide (kv.1=k))=true:=MK.mpr ⟨p,hp,Nb e⟩;rw [cz,h] at q;exact absurd q (by simp)
theorem sY:∀ {l:List κ}{k:κ},l.Nodup->¬ k∈l->(l++[k]).Nodup
 | [],k,_,_=>by simp
 | a::r,k,h,hk=>by
  obtain⟨h1,h2⟩:=Lv.mp h
  show (a::(r++[k])).Nodup
  refine Lv.mpr ⟨λ m=>?_,sY h2 λ m=>hk (K2.mpr (Or.inr m))⟩
  rcases Li.mp m with q|q
  ·exact h1 q
  ·exact hk (K2.mpr (Or.inl (KN.mp q).symm))
theorem AY{kvs:List (κ × V)}{k:κ}(v:V)(hn:(kvs.map (·.1)).Nodup)(h:cS kvs k=none):((c8 kvs k v).map (·.1)).Nodup:=by
 rw [oQ v h,Lk];exact sY hn (wJ h)
end
section
variable {X:Cx}
def Ad(i j:Int):Prop:=i.natAbs < 2 ^ 256/\j.natAbs < 2 ^ 256
theorem tR{i:Int}(h:i.natAbs < 2 ^ 256):Builtin.Int.intBits i<=2 ^ 20:=Lu (intBits_le h) (by decide)
theorem AS:OpR X (binaryOp .Mult) (rI Ad λ i j=>.int (i * j)):=opI λ _ _ _ _ _ _ _ hc q=>mul_int q (IntMulOk.of_bits (tR hc.1) (tR hc.2))
theorem ym:bL X (.builtin "isinstance") (λ xs H Q=>∃ x n ty b,xs=[x,.ty n]/\oh X.K H x ty/\W.kitOne X.K ty (.type n)=some b/\Q (.bl b) H):=by
 intro pins s σ H xs us Q I r h;obtain⟨x,n,ty,b,rfl,hty,hk,q⟩:=h;obtain⟨u,w',rfl,rx,rc⟩:=zw r;cases (show w'=Value.type n from rc);exact vq I rx hty hk (λ tk=>⟨.bl b,H,I.tok _,rfl,q⟩)
theorem vh(K:W.Frag)(A B:String)(r:Bool)
  (h:(if (Value.type A == Value.type B)=true then some true else if W.kitMeta B=true then (fastBuiltinMro A).map (·.contains (.type B)) else none)=some r):W.kitOne K (.type A) (.type B)=some r:=h
mutual
inductive jv (K:PySem.W.Frag) (H:Hp):V->PyData->Prop
 | non:jv K H .non .none
 | bl (b:Bool):jv K H (.bl b) (.bool b)
 | int (i:Int):jv K H (.int i) (.int i)
 | str (x:Str):jv K H (.str x) (.str x)
 | lst {a:Addr} {xs:List V} {ds:List PyData} (h:SqL K H a xs) (r:gS K H xs ds):jv K H (.ref a) (.list ds)
 | tup {a:Addr} {xs:List V} {ds:List PyData} (h:SqT K H a xs) (r:gS K H xs ds):jv K H (.ref a) (.tuple ds)
inductive gS (K:PySem.W.Frag) (H:Hp):List V->List PyData->Prop
 | nil:gS K H [] []
 | cons {x:V} {d:PyData} {xs:List V} {ds:List PyData} (h:jv K H x d) (t:gS K H xs ds):gS K H (x::xs) (d::ds)
end
mutual
theorem jv.reads{pins:List (Addr × Obj)}{σ:St}{H:Hp}{s:Shared}(I:Inv X pins σ H s):∀ {x:V}{d:PyData}{u:Value},jv X.K H x d->aX x u->∃ as,Reads s.heap u d as
 | _,_,_,.non,r=>by cases (show _=Value.none from r);exact⟨_,.none⟩
 | _,_,_,.bl b,r=>by cases (show _=Value.bool b from r);exact⟨_,.bool b⟩
 | _,_,_,.int i,r=>by obtain⟨t,rfl⟩:=r;exact⟨_,.int i t⟩
 | _,_,_,.str x,r=>by obtain⟨t,rfl⟩:=r;exact⟨_,.str x t⟩
 | _,_,_,@jv.lst _ _ a xs ds h q,r=>by
  cases (show _=Value.ref a from r);obtain⟨its,hv,hp,_⟩:=I.list h;obtain⟨o,n,e,c,_,d⟩:=hp;obtain⟨as,z⟩:=gS.reads I q hv;exact⟨_,.list e c d (by simpa using z)⟩
 | _,_,_,@jv.tup _ _ a xs ds h q,r=>by
  cases (show _=Value.ref a from r);obtain⟨its,hv,hp,_⟩:=I.tuple h;obtain⟨o,e,c,n,d⟩:=hp;obtain⟨as,z⟩:=gS.reads I q hv;exact⟨_,.tuple e c d (by simpa using z)⟩
theorem gS.reads{pins:List (Addr × Obj)}{σ:St}{H:Hp}{s:Shared}(I:Inv X pins σ H s):∀ {xs:List V}{ds:List PyData}{us:List Value},gS X.K H xs ds->aK xs us->∃ as,ReadsAll s.heap us ds as
 | _,_,_,.nil,.nil=>⟨_,.nil⟩
 | _,_,_,.cons h t,.cons r q=>by
  obtain⟨as,z⟩:=jv.reads I h r;obtain⟨bs,y⟩:=gS.reads I t q;exact⟨_,.cons z y⟩
end
def Ki(K:W.Frag):R2:=λ x y H Q=>∃ d e,jv K H x d/\jv K H y e/\SeqAt.shaped d=true/\SeqAt.shaped e=true/\Q (.bl (PyData.eqv d e)) H
def Kf(K:W.Frag):R2:=λ x y H Q=>∃ d e,jv K H x d/\jv K H y e/\SeqAt.shaped d=true/\SeqAt.shaped e=true/\Q (.bl (!PyData.eqv d e)) H
theorem EA(hu:X.A.units+64 < cLine):OpR X (compareOp .Eq) (Ki X.K):=by
 intro pins s σ H x y v u Q I rx ry h;obtain⟨d,e,hd,he,sd,se,q⟩:=h;obtain⟨as,z⟩:=hd.reads I rx;obtain⟨bs,z'⟩:=he.reads I ry;exact SeqAt.compareEq_shaped z z' sd se hu ⟨.bl _,H,I,rfl,q⟩
theorem Ey(hu:X.A.units+64 < cLine):OpR X (compareOp .NotEq) (Kf X.K):=by
 intro pins s σ H x y v u Q I rx ry h;obtain⟨d,e,hd,he,sd,se,q⟩:=h;obtain⟨as,z⟩:=hd.reads I rx;obtain⟨bs,z'⟩:=he.reads I ry;exact SeqAt.compareNe_shaped z z' sd se hu ⟨.bl _,H,I,rfl,q⟩
end
theorem wY{H:Hp}{p:Addr}{o:HO}(h:H p=none):iR H (upd H p o):=λ b u e=>by
 rw [af (bz e h)];exact e
theorem za{α:Type}(xs:List α)(i:Int)(h0:0<=i)(h1:i < xs.length):∃ v,atI xs i=some v/\v∈xs:=by
 have hl:i.toNat < xs.length:=by omega
 refine⟨xs[i.toNat],?_,My hl⟩;have e:((i.toNat:Nat):Int)=i:=by omega
 have:=eT (xs:=xs) (j:=i.toNat) (v:=xs[i.toNat]) (KA hl);rw [e] at this;exact this
theorem pC(ns:List Int)(i:Int)(h0:0<=i)(h1:i < ns.length):∃ z,atI (ns.map V.int) i=some (.int z)/\z∈ns:=by
 obtain⟨v,e,m⟩:=za (ns.map V.int) i h0 (by simpa using h1);obtain⟨z,hz,rfl⟩:=KS.mp m;exact⟨z,e,hz⟩
def kJ(cells:List (Str × Addr)):List (Str × NameKind)->List (Str × Addr)->List (Str × Addr)
 | [],acc=>acc
 | (n,k)::r,acc=>if (k == .free)=true then kJ cells r ((n,(cells.lookup n).getD 0)::acc) else kJ cells r acc
theorem fg{env:Env}:∀ (names:List (Str × NameKind)) (acc:List (Str × Addr)),(∀ y∈names,y.2=.free->∃ c,env.cells.lookup y.1=some c) →
  (forIn names acc (λ (x:Str × NameKind) (cs:List (Str × Addr))=>match x with
   | (name,kind)=>if (kind == .free)=true then (do let a ←cellOf env name;pure (ForInStep.yield ((name,a)::cs))) else (do pure PUnit.unit;pure (ForInStep.yield cs))):Sem (List (Str × Addr)))=pure (kJ env.cells names acc)
 | [],acc,_=>rfl
 | (n,k)::r,acc,h=>by
  rw [Ob];have hr:∀ y∈r,y.2=.free->∃ c,env.cells.lookup y.1=some c:=λ y hy=>h y (KI _ hy)
  by_cases hk:(k == .free)=true
  ·obtain⟨c,hc⟩:=h (n,k) mem_cons_self (by simpa using hk);have hc':env.cells.lookup n=some c:=hc;simp only [hk,if_true,kJ,hc',Option.getD_some];have e:cellOf env n=pure c:=by unfold cellOf;rw [hc']
   rw [e];exact fg r _ hr
  ·simp only [hk,MS,kJ];exact fg r acc hr
theorem fO{scope:Scope}{env:Env}(h:∀ y∈scope.names,y.2=.free->∃ c,env.cells.lookup y.1=some c):closureFor scope env=pure (kJ env.cells scope.names []):=by
 unfold closureFor;have:=fg (env:=env) scope.names [] h
 first
  | exact(LR (λ m=>m >>= λ cs=>pure cs) this).trans (pure_bind _ _)
  | (simp only [] at this ⊢;rw [this];rfl)
theorem jZ{cells:List (Str × Addr)}{x:Str}{c:Addr}:∀ {names:List (Str × NameKind)}{acc:List (Str × Addr)},(∀ y∈names,y.2=.free->∃ c,cells.lookup y.1=some c)->(kJ cells names acc).lookup x=some c->acc.lookup x=some c\/cells.lookup x=some c
 | [],acc,_,h=>.inl h
 | (n,k)::r,acc,hf,h=>by
  have hr:∀ y∈r,y.2=.free->∃ c,cells.lookup y.1=some c:=λ y hy=>hf y (mem_cons_of_mem _ hy);unfold kJ at h
  by_cases hk:(k == .free)=true
  ·rw [KZ hk] at h
   rcases jZ hr h with q|q
   ·rw [Mx] at q
    cases hx:x == n with
    | true=>
     rw [hx] at q;obtain⟨d,hd⟩:=hf (n,k) KL (by simpa using hk);have e:x=n:=by simpa using hx
     subst e;have hd':cells.lookup x=some d:=hd;rw [hd'] at q ⊢;exact .inr (by simpa using q)
    | false=>rw [hx] at q;exact .inl q
   ·exact .inr q
  ·rw [KU hk] at h;exact jZ hr h
theorem j6{cells:List (Str × Addr)}{x:Str}:∀ {names:List (Str × NameKind)}{acc:List (Str × Addr)},(∀ y∈names,y.2=.free->∃ c,cells.lookup y.1=some c)->(∃ c,acc.lookup x=some c)->∃ c,(kJ cells names acc).lookup x=some c
 | [],acc,_,h=>h
 | (n,k)::r,acc,hf,h=>by
  have hr:∀ y∈r,y.2=.free->∃ c,cells.lookup y.1=some c:=λ y hy=>hf y (mem_cons_of_mem _ hy);unfold kJ
  by_cases hk:(k == .free)=true
  ·rw [KZ hk];refine j6 hr ?_;rw [Mx]
   cases hx:x == n with
   | true=>exact⟨_,rfl⟩
   | false=>exact h
  ·rw [KU hk];exact j6 hr h
theorem gJ{cells:List (Str × Addr)}{x:Str}:∀ {names:List (Str × NameKind)}{acc:List (Str × Addr)},(∀ y∈names,y.2=.free->∃ c,cells.lookup y.1=some c)->names.lookup x=some .free->∃ c,(kJ cells names acc).lookup x=some c
 | [],acc,_,h=>by simp at h
 | (n,k)::r,acc,hf,h=>by
  have hr:∀ y∈r,y.2=.free->∃ c,cells.lookup y.1=some c:=λ y hy=>hf y (mem_cons_of_mem _ hy);rw [lookup_cons] at h;unfold kJ
  cases hx:x == n with
  | true=>
   rw [hx] at h;have hk:k=.free:=by simpa using h
   subst hk;rw [KZ (show (NameKind.free == NameKind.free)=true from rfl)];refine j6 hr ⟨(cells.lookup n).getD 0,?_⟩;rw [Mx,hx]
  | false=>
   rw [hx] at h
   by_cases hk:(k == .free)=true
   ·rw [KZ hk];exact gJ hr h
   ·rw [KU hk];exact gJ hr h
theorem eD{x:Str}{k:NameKind}:∀ {names:List (Str × NameKind)},names.lookup x=some k->(x,k)∈names
 | [],h=>by simp at h
 | (n,j)::r,h=>by
  rw [Mx] at h
  cases hx:x == n with
  | true=>
   rw [hx] at h;have e:x=n:=by simpa using hx
   have e2:j=k:=by simpa using h
   subst e;subst e2;exact KL
  | false=>rw [hx] at h;exact KI _ (eD h)
theorem cR{env:Env}{x:Str}:∀ {names:List (Str × NameKind)},
  (names.map λ (n,k)=>if (k == NameKind.free && env.scope.kind == .function && env.kindOf n == some .cell) then (n,NameKind.cell) else (n,k)).lookup x
   = (names.lookup x).map λ k=>if (k == NameKind.free && env.scope.kind == .function && env.kindOf x == some .cell) then NameKind.cell else k
 | []=>rfl
 | (n,k)::r=>by
  have ih:=@cR env x r
  show List.lookup x ((if (k == NameKind.free && env.scope.kind == .function && env.kindOf n == some .cell)=true then (n,NameKind.cell) else (n,k))::_)=_
  cases hx:x == n with
  | true=>
   have e:x=n:=by simpa using hx
   subst e
   by_cases hc:(k == NameKind.free && env.scope.kind == .function && env.kindOf x == some .cell)=true
   ·rw [KZ hc];simp only [Mx,OE,LY];rw [KZ hc]
   ·rw [KU hc];simp only [Mx,OE,LY];rw [KU hc]
  | false=>
   by_cases hc:(k == NameKind.free && env.scope.kind == .function && env.kindOf n == some .cell)=true
   ·rw [KZ hc];simp only [Mx,hx];exact ih
   ·rw [KU hc];simp only [Mx,hx];exact ih
abbrev cCx(X:Cx)(scope:Scope)(N':List Str)(C:Addr)(s₀:Shared)(H₀:Hp)(ex:List Addr)(pn:List (Addr × Obj)):Cx:=
 { X with N:=N',s₀:=s₀,H₀:=H₀,env:=compEnvC scope (kJ X.env.cells scope.names []) C X.env,outer:=X.stack,stack:=X.stack,ex:=ex,fn:=λ _=>false,pn:=pn,xe:=λ _ _=>False }
def PTs(Y:Cx)(ifs:List Expr)(t:TT):Prop:=
 ∀ (pins:List (Addr × Obj)) (s:Shared) (σ:St) (H:Hp) (Q:Bool->Hp->Prop),Inv Y pins σ H s->t σ H Q →
  wpAny (model Y.prog Y.w) Y.A (forIn ifs true λ c r=>if r=true then do let ok ←isTrue c Y.env (eval c Y.env);pure (ForInStep.yield ok) else pure (ForInStep.yield r)) (TP Y pins σ Q) Y.xe s
def Jm:TT:=λ _ H Q=>Q true H
theorem bM{Y:Cx}:PTs Y [] Jm:=λ _ _ _ H _ I h=>KQ ⟨H,I,h⟩
theorem m7{Y:Cx}{c:Expr}{t:TT}(h:PT Y c t):PTs Y [c] t:=λ pins s σ H Q I hw=>PySem.wpAny_tests_one (h pins s σ H Q I hw)
theorem HOk.but{P:Program}{w:World}{H:Hp}{h h':Heap}{C:Addr}(ok:HOk P w H h)(hn:H C=none)(hs:Heap.SameBut C h h'):HOk P w H h':=λ b ob e=>by
 refine(ok b ob e).stay (λ c w' hc q=>(hs.2 c ?_).trans q) (λ _ q=>q) λ _ _ q=>q;rintro rfl
 rcases hc with rfl|hc
 ·rw [hn] at e;cases e
 ·rw [hn] at hc;cases hc
theorem Un.but{fs ex:List Addr}{H H':Hp}{h h1 h2:Heap}{C:Addr}(u:Un fs ex H H' h h1)(hs:Heap.SameBut C h1 h2)(hC:∀ b o,h.get? b=some o->b ≠ C):Un fs ex H H' h h2 where
 keep:=λ b o e n hb hx=>(hs.2 b (hC b o e)).trans (u.keep b o e n hb hx)
 slot:=λ b o e n hb hx=>by
  obtain⟨sl,q⟩:=u.slot b o e n hb hx;exact⟨sl,(hs.2 b (hC b o e)).trans q⟩
 free:=u.free
 there:=λ b o e hx=>by
  obtain⟨o',q⟩:=u.there b o e hx;exact⟨o',(hs.2 b (hC b o e)).trans q⟩
 tups:=u.tups
 frzs:=u.frzs
 tbls:=u.tbls
section
variable {X:Cx}
def zB(k:Nat)(wi:TI)(g:TG)(tt:TT)(te:TE):TE:=λ σ H Q=>wi σ H λ J H1=>∀ D,H1 D=none->∃ W:Nat->Nat->List V->Hp->Prop,(∃ m,W 0 m [] (upd H1 D (.lst [])))/\∀ i m ys H,W i m ys H →
 (J.stop i H/\Q (.ref D) H)\/(J.go i H/\∃ N:List V->Hp->Prop,(∀ ys' H',N ys' H'->∃ m',m' < m/\W (i+1) m' ys' H') /\
  ∀ x H',J.yld i H x H'->g x (List.replicate k none++σ) H' λ σ2 H2=>(∃ vs:St,vs.length=k/\σ2=vs++σ)/\tt σ2 H2 λ b H3=>if b=true then te σ2 H3 λ y H4=>H4 D=some (.lst ys)/\ys.length < sizeLine/\N (ys++[y]) (upd H4 D (.lst (ys++[y]))) else N ys H3)
theorem vE{Y:Cx}{tg elt iter:Expr}{ifs:List Expr}{scope:Scope}{pos:Pos}{it D:Addr}{g:TG}{tt:TT}{te:TE}{J:It}{fp:List Addr}{tn:Nat->Heap->Prop}{k:Nat}{σ:St}{Q:VK}
  (hc:Y.calm=true) (hx:Y.xe=λ _ _=>False) (hg:PG Y tg g) (ht:PTs Y ifs tt) (he:PE Y elt te) (T:vX Y.prog Y.w Y.K tg J fp it tn) (hf:∀ H:Hp,(∀ b∈fp,H b=none)->∀ b∈fp,kM Y [] H b)
  (W:Nat->Nat->List V->Hp->Prop)
  (turn:∀ i m ys H,W i m ys H->(J.stop i H/\Q (.ref D) H)\/(J.go i H/\∃ N:List V->Hp->Prop,(∀ ys' H',N ys' H'->∃ m',m' < m/\W (i+1) m' ys' H') /\
   ∀ x H',J.yld i H x H'->g x (List.replicate k none++σ) H' λ σ2 H2=>(∃ vs:St,vs.length=k/\σ2=vs++σ)/\tt σ2 H2 λ b H3=>if b=true then te σ2 H3 λ y H4=>H4 D=some (.lst ys)/\ys.length < sizeLine/\N (ys++[y]) (upd H4 D (.lst (ys++[y]))) else N ys H3))
  (n:Nat) (s:Shared) (h:∃ i ys H,Inv Y [] (List.replicate k none++σ) H s/\tn i s.heap/\(∀ b∈fp,H b=none)/\W i n ys H) :
  codeAny (model Y.prog Y.w) Y.A (.compLoop (.ListComp elt [⟨tg,iter,ifs,0⟩] scope pos) 0 (.ref it) (.ref D) Y.env) (λ r s'=>r=.ok .next/\∃ H',Inv Y [] (List.replicate k none++σ) H' s'/\Q (.ref D) H') s:=by
 refine codeAny_loop rfl (λ n s=>∃ i ys H,Inv Y [] (List.replicate k none++σ) H s/\tn i s.heap/\(∀ b∈fp,H b=none)/\W i n ys H) ?_ n h;rintro n s3 ⟨i,ys,H3,I3,st3,fr3,w3⟩
 show wpAny _ Y.A ((compTurn (.ListComp elt [⟨tg,iter,ifs,0⟩] scope pos) 0 (.ref it) (.ref D) Y.env).onRaise (λ x=>do noteFrame x Y.env;theTreesLotGoes x)) _ _ s3
 refine PySem.wpAny_noted ?_;rw [PySem.compTurn_list]
 have no:∀ {α:Type} {m:Sem α} {P:α->Shared->Prop} {E:Value->Shared->Prop} {s:Shared},wpAny (model Y.prog Y.w) Y.A m P Y.xe s->wpAny (model Y.prog Y.w) Y.A m P E s:=λ {α m P E s} h=>
  M5 h (λ _ _ q=>q) λ _ _ q=>by rw [hx] at q;exact q.elim
 refine Kz (OJ (Kz ?_))
 rcases turn i n ys H3 w3 with ⟨stop,qn⟩|⟨go,N,hN,step⟩
 ·refine thn (T.done Y rfl rfl rfl hc i [] s3 (List.replicate k none++σ) H3 _ I3 (hf H3 fr3) st3 stop) λ r s4 ⟨hr,I4⟩=>?_;subst hr;exact KQ ⟨rfl,H3,I4,qn⟩
 ·refine thn (T.item Y rfl rfl rfl hc i [] s3 (List.replicate k none++σ) H3 _ I3 (hf H3 fr3) st3 go) λ r s4 ⟨u,hr,h4⟩=>?_;subst hr;refine Kz (thn h4 λ _ s5 ⟨x,H5,I5,r5,y5,st5,fr5⟩=>?_);have I5':=I5.pinned (hf H5 fr5) (T.obj _ _ st5);refine Kz (no (thn (hg _ s5 (List.replicate k none++σ) H5 x u _ I5' r5 (step x H5 y5)) λ _ s6 ⟨σ6,H6,I6,⟨vs,hvs,e6⟩,q6⟩=>?_));subst e6
  have forget:∀ {pins:List (Addr × Obj)} {H:Hp} {s:Shared},Inv Y pins (vs++σ) H s->Inv Y pins (List.replicate k none++σ) H s:=λ {pins H s} I=>I.weak (by simp [hvs]) λ i v e=>by
   by_cases hi:i < k
   ·rw [LD (by simpa using hi)] at e;simp [NI,hi] at e
   ·rw [Lw (by simpa using OF hi)] at e;rw [Lw (by omega)]
    simpa [hvs] using e
  refine Kz (no (thn (ht _ s6 (vs++σ) H6 _ I6 q6) λ b s7 ⟨H7,I7,q7⟩=>?_))
  have again:∀ {H8:Hp} {s8:Shared} {ys':List V},Inv Y ([]++kW fp s5.heap) (vs++σ) H8 s8->N ys' H8->∃ m,m < n/\∃ i ys H,Inv Y [] (List.replicate k none++σ) H s8/\tn i s8.heap/\(∀ b∈fp,H b=none)/\W i m ys H:=λ {H8 s8 ys'} I8 n8=>by
   obtain⟨m',hm,w8⟩:=hN ys' H8 n8;refine⟨m',hm,i+1,ys',H8,forget I8.unpinned,T.keep _ _ _ st5 λ b hb o e=>(I8.pin (b,o) (Lc _ (Lc _ (eu hb e)))).1,λ b hb=>?_,w8⟩;obtain⟨o,e,d⟩:=T.obj _ _ st5 b hb;exact(I8.pin (b,o) (Lc _ (Lc _ (eu hb e)))).2.1
  cases b with
  | false=>
   rw [KU Lb] at q7;exact KQ ⟨rfl,again I7 q7⟩
  | true=>
   rw [KZ rfl] at q7;refine Kz (Kz (no (thn (he _ s7 (vs++σ) H7 _ I7 q7) λ y s8 ⟨y',H8,I8,ry,q8,l8,n8⟩=>?_)));exact Kz (no (thn (aV _ s8 (vs++σ) H8 (.ref D) [y'] (.ref D) [y] (λ _ H'=>N (ys++[y']) H') I8 rfl (.cons ry .nil) ⟨D,ys,y',rfl,rfl,q8,l8,n8⟩) λ _ s9 ⟨_,H9,I9,_,q9⟩=>KQ (KQ ⟨rfl,again I9 q9⟩)))
structure g7(X:Cx)(scope:Scope)(N':List Str)(k:Nat):Prop where
 cell:∀ y∈scope.names,y.2 ≠ .cell
 kind:scope.kind=.function
 names:∀ y∈scope.names,y.2=.local->scope.names.lookup y.1=some .local
 free:∀ y∈scope.names,y.2=.free->X.env.scope.names.lookup y.1=some .cell
 len:N'.length=k+X.N.length
 sub:∀ i x,N'[k+i]? = some x->scope.names.lookup x=some .free->X.N[i]? = some x
 loc:∀ i x,N'[k+i]? = some x->scope.names.lookup x ≠ some .local
theorem g7.cells{scope:Scope}{N':List Str}{k:Nat}{pins:List (Addr × Obj)}{σ:St}{H:Hp}{s:Shared}(c:g7 X scope N' k)(I:Inv X pins σ H s):∀ y∈scope.names,y.2=.free->∃ a,X.env.cells.lookup y.1=some a:=λ y hy e=>
 I.ok.has y.1 (.inl (c.free y hy e))
theorem x5{scope:Scope}{N':List Str}{k:Nat}{pins:List (Addr × Obj)}{σ:St}{H:Hp}{s s₄:Shared}{fp:List Addr}{m:Str->Option Value}(c:g7 X scope N' k)(hc:X.calm=true)(I:Inv X pins σ H s)
  (hf:∀ b∈fp,kM X pins H b) (hfl:∀ b∈fp,b < s.heap.objs.size) (hb:∀ b∈fp,X.base.get? b=none) (hns:s₄.heap.Ns s.heap.objs.size m) (hk:∀ b o,s.heap.get? b=some o->s₄.heap.get? b=some o) (ho:s₄.os=s.os) (hg:s₄.gens=s.gens) :
  Inv (cCx X scope N' s.heap.objs.size s H fp (X.pn++pins)) [] (List.replicate k none++σ) H s₄:=by
 have hcl:=c.cells I
 have sub:∀ x a,(kJ X.env.cells scope.names []).lookup x=some a->X.env.cells.lookup x=some a:=λ x a e=>by
  rcases jZ hcl e with q|q
  ·simp at q
  ·exact q
 have kinds:∀ x,(compEnvC scope (kJ X.env.cells scope.names []) s.heap.objs.size X.env).kindOf x=some .cell\/(compEnvC scope (kJ X.env.cells scope.names []) s.heap.objs.size X.env).kindOf x=some .free->scope.names.lookup x=some .free:=λ x hx=>by
  have e:(compEnvC scope (kJ X.env.cells scope.names []) s.heap.objs.size X.env).kindOf x=(scope.names.lookup x).map λ k=>if (k == NameKind.free && X.env.scope.kind == .function && X.env.kindOf x == some .cell) then NameKind.cell else k:=cR
  rw [e] at hx
  cases q:scope.names.lookup x with
  | none=>rw [q] at hx;simp at hx
  | some j=>
   rw [q] at hx;have hj:j ≠ .cell:=c.cell (x,j) (eD q)
   cases j<;>simp_all
 have fresh:∀ b,s.heap.objs.size<=b->s.heap.get? b=none:=λ b hb=>Ov hb;have ne:∀ b o,s.heap.get? b=some o->b ≠ s.heap.objs.size:=λ b o e=>K0 (KD e)
 have cl_lt:∀ x a,X.env.cells.lookup x=some a->a < s.heap.objs.size:=λ x a e=>by
  obtain⟨v,o,h1,_⟩:=I.cell x a e;exact KD h1
 refine⟨⟨I.ok.mod,c.kind,I.ok.glob,I.ok.blt,KO _,λ x y a e1 e2=>I.ok.inj x y a (sub x a e1) (sub y a e2),λ x hx=>gJ hcl (kinds x hx),(λ _ _ z=>nomatch z),I.ok.hd,I.ok.frames,.inl rfl,λ b hb'=>⟨K0 (hfl b hb'),λ x a e=>(hf b hb').2.2.2.2.1 x a (sub x a e)⟩,
   I.bs,Lu I.ok.bsz I.sz,(λ b o e hb'=>by rw [hb b hb'] at e;cases e),λ b hb' hz=>?_,I.stack,I.stkFree⟩,ho,by rw [hg];exact I.bare,Un.kept hk,⟨m,hns,λ i x v e1 e2 e3=>?_⟩,λ x a e=>?_,I.hok.fresh (KO _),λ x a e=>I.freeC x a (sub x a e),λ p hp=>?_,I.hok.kept hk,?_⟩
 ·rcases K2.mp (I.stkSub b hz) with z|z
  ·exact(hf b hb').2.1 z
  ·exact(hf b hb').2.2.1 z
 ·have hi:k<=i:=by
   refine OF λ hi=>?_;rw [LD (by simpa using hi)] at e2;simp [NI,hi] at e2
  obtain⟨j,rfl⟩:∃ j,i=k+j:=⟨i - k,by omega⟩;rw [Lw (by simp)] at e2;have e2':σ[j]? = some (some v):=by simpa using e2
  have e:(relabel scope X.env).names.lookup x=(scope.names.lookup x).map λ k=>if (k == NameKind.free && X.env.scope.kind == .function && X.env.kindOf x == some .cell) then NameKind.cell else k:=cR
  have hfree:scope.names.lookup x=some .free:=by
   cases q:scope.names.lookup x with
   | none=>
    rcases e3 with z|z|z
    all_goals (have z':(relabel scope X.env).names.lookup x=some _:=z;rw [e,q] at z';simp at z')
   | some j'=>
    have h1:j' ≠ .cell:=c.cell (x,j') (eD q);have h2:j' ≠ .local:=λ z=>c.loc j x e1 (by rw [q,z])
    rcases e3 with z|z|z
    all_goals (have z':(relabel scope X.env).names.lookup x=some _:=z;rw [e,q] at z';cases j'<;>simp_all)
  have hX:=c.sub j x e1 hfree;have hcellX:=c.free (x,.free) (eD hfree) rfl;obtain⟨m0,hn0,hl0⟩:=I.loc;obtain⟨u,r,l⟩:=hl0 j x v hX e2' (.inr (.inl hcellX));refine⟨u,r,?_⟩
  rcases l with ⟨z,_⟩|⟨_,a,ea,hz⟩
  ·have z':X.env.scope.names.lookup x=some .local:=z;rw [hcellX] at z';cases z'
  ·obtain⟨a',ea'⟩:=gJ (acc:=[]) hcl hfree;have e4:=sub x a' ea';rw [ea] at e4;cases e4;refine .inr ⟨.inl ?_,a,ea',?_⟩
   ·show (relabel scope X.env).names.lookup x=some .cell
    rw [e,hfree];have k1:(X.env.scope.kind == .function)=true:=by rw [I.ok.kind];rfl
    have k2:(X.env.kindOf x == some .cell)=true:=by
     have:X.env.kindOf x=some .cell:=hcellX;rw [this];rfl
    simp [k1,k2]
   ·obtain⟨o,h1,h2⟩:=hz;exact⟨o,hk _ _ h1,h2⟩
 ·obtain⟨v,o,h1,h2⟩:=I.cell x a (sub x a e);exact⟨v,o,hk _ _ h1,h2⟩
 ·have hp':p∈X.pn++pins:=by simpa using hp
  obtain⟨e,n,nl,nf,d⟩:=I.pin p hp';refine⟨hk _ _ e,n,ne _ _ e,λ z=>?_,d⟩
  rcases K2.mp (I.stkSub _ z) with z|z
  ·exact nl z
  ·exact nf z
 ·show (List.replicate k none++σ).length=N'.length
  rw [c.len,KY,List.length_replicate,I.len]
theorem jm{elt iter tg:Expr}{ifs:List Expr}{scope:Scope}{pos:Pos}{g:TG}{tt:TT}{te:TE}{N':List Str}{k:Nat}{it:Addr}{J:It}{fp:List Addr}{tn:Nat->Heap->Prop}{pins:List (Addr × Obj)}{σ:St}{H:Hp}{s:Shared}{Q:VK}{RR:Value->Addr->Result->Shared->Prop}{E:Value->Shared->Prop}
  (c:g7 X scope N' k) (hc:X.calm=true) (I:Inv X pins σ H s) (T:vX X.prog X.w X.K tg J fp it tn) (st:tn 0 s.heap) (hf:∀ b∈fp,kM X pins H b)
  (hg:∀ C s₀ H₀ ex pn,PG (cCx X scope N' C s₀ H₀ ex pn) tg g) (ht:∀ C s₀ H₀ ex pn,PTs (cCx X scope N' C s₀ H₀ ex pn) ifs tt) (he:∀ C s₀ H₀ ex pn,PE (cCx X scope N' C s₀ H₀ ex pn) elt te)
  (h:∀ D,H D=none->∃ W:Nat->Nat->List V->Hp->Prop,(∃ m,W 0 m [] (upd H D (.lst [])))/\∀ i m ys H,W i m ys H →
   (J.stop i H/\Q (.ref D) H)\/(J.go i H/\∃ N:List V->Hp->Prop,(∀ ys' H',N ys' H'->∃ m',m' < m/\W (i+1) m' ys' H') /\
    ∀ x H',J.yld i H x H'->g x (List.replicate k none++σ) H' λ σ2 H2=>(∃ vs:St,vs.length=k/\σ2=vs++σ)/\tt σ2 H2 λ b H3=>if b=true then te σ2 H3 λ y H4=>H4 D=some (.lst ys)/\ys.length < sizeLine/\N (ys++[y]) (upd H4 D (.lst (ys++[y]))) else N ys H3))
  (fin:∀ D C s' H' m,s'.heap.Ns C m->C ≠ X.env.locals->(∀ x a,X.env.cells.lookup x=some a->a ≠ C)->(H' C=none/\X.s₀.heap.objs.size<=C/\∀ p∈X.pn++pins,p.1 ≠ C)->(∀ h',Heap.SameBut C s'.heap h'->Inv X pins σ H' { s' with heap:=h' })->Q (.ref D) H'->RR (.ref D) C (.ok .next) s') :
  wpAny (model X.prog X.w) X.A (newList []) (λ acc s₃=>wpAny (model X.prog X.w) X.A (newFunctionEnv scope X.env.globals (kJ X.env.cells scope.names []) [] X.env.qual none .none (some X.env)) (λ cenv s₄=>
   codeAny (model X.prog X.w) X.A (.compStart (.ListComp elt [⟨tg,iter,ifs,0⟩] scope pos) 0 (.ref it) acc { cenv with scope:=relabel scope X.env }) (RR acc cenv.locals) s₄) E s₃) E s:=by
 refine wpAny_newObj_type (wpAny_newFunctionEnv c.cell (by intro y hy;simp at hy) (λ h₁ hns₁ hsb₁=>?_) c.kind);dsimp only at hns₁ hsb₁ ⊢;have I3:Inv X pins σ (upd H s.heap.objs.size (.lst [])) { s with heap:=s.heap.push { cls:=.type "list",data:=.seq ([]:List Value).toArray },toks:=s.toks }:=I.lnew (ys:=[]) (its:=[]) .nil (Nat.zero_le _);generalize hH2:s.heap.push { cls:=.type "list",dict:=none,data:=.seq ([]:List Value).toArray }=hp at hns₁ hsb₁ I3 ⊢;have hlt:∀ b o,s.heap.get? b=some o->hp.get? b=some o:=λ b o e=>by rw [←hH2];exact Heap.get?_push_of_some _ e
 have hnD:H s.heap.objs.size=none:=I.hok.fresh (KO _);have kp:∀ b o,hp.get? b=some o->h₁.get? b=some o:=λ b o e=>hsb₁.extBut b o (K0 (KD e)) (KC _ e)
 have stk:∀ b∈fp,s.heap.get? b ≠ none:=λ b hb z=>by
  obtain⟨o,e,_⟩:=T.obj _ _ st b hb;rw [z] at e;cases e
 have flt:∀ b∈fp,b < s.heap.objs.size:=λ b hb=>by
  obtain⟨o,e,_⟩:=T.obj _ _ st b hb;exact KD e
 have fpD:∀ b∈fp,b ≠ s.heap.objs.size:=λ b hb=>K0 (flt b hb)
 have hf3:∀ b∈fp,kM X pins (upd H s.heap.objs.size (.lst [])) b:=λ b hb=>by
  obtain⟨a1,a2⟩:=hf b hb;exact⟨by rw [af (fpD b hb)];exact a1,a2⟩
 have hnb:∀ b∈fp,X.base.get? b=none:=λ b hb=>by
  cases e:X.base.get? b with
  | none=>rfl
  | some o=>
   rcases (hf b hb).2.2.2.1 with z|z
   ·exact absurd z (I.ok.noex b o e)
   ·have:=KD (I.ok.bs b o e).1;exact absurd (Le this z) (LJ _)
 have hsz:s.heap.objs.size < hp.objs.size:=by rw [←hH2,LF];exact MJ _
 have IY:=x5 (s₄:={ s with heap:=h₁,toks:=s.toks+([]:List (Str × Value)).length }) (fp:=fp) c hc I3 hf3 (λ b hb=>Nv (flt b hb) hsz) hnb hns₁ kp rfl rfl;obtain⟨W,⟨m0,w0⟩,turn⟩:=h s.heap.objs.size hnD
 have run:=vE (Y:=cCx X scope N' hp.objs.size { s with heap:=hp,toks:=s.toks } (upd H s.heap.objs.size (.lst [])) fp (X.pn++pins)) (tg:=tg) (elt:=elt) (iter:=iter) (ifs:=ifs) (scope:=scope) (pos:=pos) (it:=it) (D:=s.heap.objs.size) (k:=k) (σ:=σ) (Q:=Q)
  hc rfl (hg _ _ _ _ _) (ht _ _ _ _ _) (he _ _ _ _ _) T (λ H' hn b hb=>⟨hn b hb,K0 (Nv (flt b hb) hsz),λ z=>(IY.ok.exfs b hb) z,.inl hb,λ x a e=>(IY.ok.exf b hb).2 x a e,λ p hp=>by
   have hp':p∈X.pn++pins:=by simpa using hp
   exact(hf b hb).2.2.2.2.2 p hp'⟩) W turn m0
 have st₁:tn 0 h₁:=T.keep _ _ _ st λ b hb o e=>kp b o (hlt b o e);have go:=run { s with heap:=h₁,toks:=s.toks+([]:List (Str × Value)).length } ⟨0,[],_,IY,st₁,λ b hb=>(hf3 b hb).1,w0⟩
 have out:∀ r s',(r=Except.ok Flow.next/\∃ H',Inv (cCx X scope N' hp.objs.size { s with heap:=hp,toks:=s.toks } (upd H s.heap.objs.size (.lst [])) fp (X.pn++pins)) [] (List.replicate k none++σ) H' s'/\Q (.ref s.heap.objs.size) H')->RR (.ref s.heap.objs.size) hp.objs.size r s':=by
  rintro r s' ⟨rfl,H',J',q⟩;obtain⟨m,hn,_⟩:=J'.loc;have hC:hp.objs.size ≠ X.env.locals:=LA (Le I.lt (Nf hsz));refine fin _ _ s' H' m hn hC (λ x a e=>?_) ⟨J'.free,Lu I.sz (Nf hsz),λ p hp'=>K0 (Nv (KD (I.pin p hp').1) hsz)⟩ (λ h' hs'=>?_) q
  ·obtain⟨v,o,h1,_⟩:=I.cell x a e;exact K0 (Nv (KD h1) hsz)
  ·refine I.call' (ch:=fp) ?_ ?_ ?_ J'.bare λ b hb=>⟨(hf b hb).2.2.2.1,(hf b hb).2.1,(hf b hb).2.2.2.2.1,(hf b hb).2.2.2.2.2⟩
   ·exact J'.os
   ·have u1:Un (frs X.stack) fp H (upd H s.heap.objs.size (.lst [])) s.heap hp:=Un.laid hlt (KO _) hnD;exact(u1.trans J'.base).but hs' λ b o e=>K0 (Nv (KD e) hsz)
   ·exact J'.hok.but J'.free hs'
 exact codeAny_compStart_list (Nn go out) (T.self _ 0 _ _ _ st₁ (Nn go out))
theorem AO{elt iter tg:Expr}{ifs:List Expr}{scope:Scope}{pos:Pos}{wi:TI}{g:TG}{tt:TT}{te:TE}{N':List Str}{k:Nat}
  (c:g7 X scope N' k) (hc:X.calm=true) (hi:PI X tg iter wi)
  (hg:∀ C s₀ H₀ ex pn,PG (cCx X scope N' C s₀ H₀ ex pn) tg g) (ht:∀ C s₀ H₀ ex pn,PTs (cCx X scope N' C s₀ H₀ ex pn) ifs tt) (he:∀ C s₀ H₀ ex pn,PE (cCx X scope N' C s₀ H₀ ex pn) elt te)
  (hs:∀ x,foldedSetIterable iter X.env x=pure x:=by intro _;rfl):PE X (.ListComp elt [⟨tg,iter,ifs,0⟩] scope pos) (zB k wi g tt te):=by
 intro pins s σ H Q I h;rw [PySem.eval_ListComp];refine Oz (use:=none) rfl hs (fO (c.cells I)) c.kind c.names (thn (hi pins s σ H _ I h) λ v s1 h1=>thn h1 λ itv s2 h2=>?_);obtain⟨it,fp,tn,J,H2,rfl,I2,T,st2,f2,hW⟩:=h2;refine jm (RR:=λ acc C=>PySem.compPost (model X.prog X.w) X.A X.xe none (EP X pins σ Q) acc C) c hc I2 T st2 f2 hg ht he hW ?_;intro D C s' H' m hn _ _ _ hI q;exact⟨m,hn,λ h' hs'=>⟨.ref D,H',hI h' hs',rfl,q⟩⟩
def Dn(i:Nat)(te:TE):TS:=λ D σ H=>te σ H λ x H1=>D.nx (σ.set i (some x)) H1
theorem ng{elt iter tg:Expr}{ifs:List Expr}{scope:Scope}{pos spos py:Pos}{wi:TI}{g:TG}{tt:TT}{te:TE}{N':List Str}{k i:Nat}{y:Str}
  (hN:X.N.Nodup) (hi':X.N[i]? = some y) (hy:Loc X.env.scope y)
  (c:g7 X scope N' k) (hc:X.calm=true) (hi:PI X tg iter wi)
  (hg:∀ C s₀ H₀ ex pn,PG (cCx X scope N' C s₀ H₀ ex pn) tg g) (ht:∀ C s₀ H₀ ex pn,PTs (cCx X scope N' C s₀ H₀ ex pn) ifs tt) (he:∀ C s₀ H₀ ex pn,PE (cCx X scope N' C s₀ H₀ ex pn) elt te)
  (hsw:swapsWith (.ListComp elt [⟨tg,iter,ifs,0⟩] scope pos) (some (.Name y py)) spos.line X.env=pure true:=by rfl)
  (hs:∀ x,foldedSetIterable iter X.env x=pure x:=by intro _;rfl) (hf:X.fn y=true\/X.env.scope.names.lookup y=some .local:=by first|exact .inl rfl|exact .inr rfl|assumption) :
  PS X (.Assign [.Name y py] (.ListComp elt [⟨tg,iter,ifs,0⟩] scope pos) spos) (Dn i (zB k wi g tt te)):=by
 intro pins s σ H D I h;rw [PySem.exec_Assign_Name_used _ _ _ _ hsw];refine Kz (OJ (Kz ?_))
 show wpAny _ X.A (do let _ ←comprehension (.ListComp elt [⟨tg,iter,ifs,0⟩] scope pos) scope X.env _ (newList []) false (eval iter X.env) (some (assign (.Name y py) X.env))) _ _ s
 refine Kz (thn (Oz (use:=some (assign (.Name y py) X.env)) (Q:=λ _ s'=>SP X pins D .next s') rfl hs (fO (c.cells I)) c.kind c.names (thn (hi pins s σ H _ I h) λ v s1 h1=>thn h1 λ itv s2 h2=>?_)) λ _ s' hq=>KQ (KQ hq));obtain⟨it,fp,tn,J,H2,rfl,I2,T,st2,f2,hW⟩:=h2;refine jm (Q:=λ x H1=>D.nx (σ.set i (some x)) H1) (RR:=λ acc C=>PySem.compPost (model X.prog X.w) X.A X.xe (some (assign (.Name y py) X.env)) (λ _ s'=>SP X pins D .next s') acc C) c hc I2 T st2 f2 hg ht he hW ?_;intro D' C s' H' m hn hCl hCc hCo hI q
 show wpAny _ X.A (assign (.Name y py) X.env (.ref D')) _ _ s'
 have I':Inv X pins σ H' s':=hI s'.heap (Heap.SameBut.refl _ _);refine wpAny_assign_Name (ll I' hN hi' hy (show aX (.ref D') (.ref D') from rfl) (λ s'' I'' ⟨a,sb,ha⟩=>?_) hf)
 have hCa:C ≠ a:=by
  rcases ha with rfl|ha
  ·exact hCl
  ·exact λ z=>hCc _ _ ha z.symm
 refine⟨m,hn.sameBut sb hCa,λ h' hs'=>⟨_,H',?_,q⟩⟩;exact I''.turned (t':=s''.toks) (λ b o hb e=>(hs'.2 b hb).trans e) hCo.1 hCl (.inr hCo.2.1) hCc hCo.2.2
end
section
variable {M:Model}{A:Around}{E:Value->Shared->Prop}{s:Shared}
end
section
variable {X:Cx}
set_option genInjectivity false in
def Et(K:W.Frag)(C:Addr)(z:Option Value)(bmB:List Value)(newId:String):Bool:=match K.lookup C with
 | some ⟨.type "type",_,.cls dat,slt⟩=>(match dat.mro,slt.toList with
  | .ref C'::up,[_,_,_,_,some (.builtin n),_]=>C' == C && n == newId && !dat.hasDel && W.tailIn K bmB up && W.nsOkIn K dat.ns && W.nsIn K dat.ns "__init__" == some z
  | _,_=>false)
 | _=>false
end
structure G7(K:W.Frag)(x qual:Str)(st:Stmt)(f:Addr)(fd:FuncData):Prop where
 ex:∃ (oc:Value) (od:Option Addr) (dV kV doc pm:Value) (an:Option Addr) (cdv ct:Value) (osl:Array (Option Value)),
  fd=W.fnOf x qual (cM st) (bV st) (aa st) dV kV doc pm an cdv ct/\K.lookup f=some ⟨oc,od,.func fd,osl⟩/\W.codeIn K cdv qual=true
 kp:W.keepIn K (.ref f)=true
section
variable {P:Program}{w:World}{K:PySem.W.Frag}{mg:Str->Option Value}{base:Heap}
theorem G7.ok{CX:CXT}{x qual:Str}{st:Stmt}{f:Addr}{fd:FuncData}{N ps:List Str}{k:Nat}{sp:Sp}(F:G7 K x qual st f fd)(S:ai N ps (aa st))(len:∀ vs H Q E,sp vs H Q E->vs.length=ps.length)
  (hbody:∀ (cdv:Value) (A:Around) (outer:List Env) (s:Shared) (H:Hp) (vs:List V) (Q:VK) (E:XK),fm k (A.deeper (envOfC qual (aa st) s.heap.objs.size f cdv))->sp vs H Q E →
   ∃ t,PSs (yv CX P w K mg base N qual (aa st) f cdv A outer s H E) (bV st) t/\t { nx:=λ _ H'=>Q .non H',rt:=Q } (start N vs) H):bp P w K mg base CX (k+1) f fd ps sp:=by
 obtain⟨oc,od,dV,kV,doc,pm,an,cdv,ct,osl,rfl,lk,hcd⟩:=F.ex;exact DZ lk hcd S len λ A outer s H vs Q E hr hsp=>hbody cdv A outer s H vs Q E hr hsp
theorem Cs{x qual:Str}{st:Stmt}{f:Addr}{oc:Value}{od an:Option Addr}{osl:Array (Option Value)}{dV kV doc pm cdv ct:Value}(l:K.lookup f=some ⟨oc,od,.func (W.fnOf x qual (cM st) (bV st) (aa st) dV kV doc pm an cdv ct),osl⟩)
  (c:W.codeIn K cdv qual=true) (k:W.keepIn K (.ref f)=true):G7 K x qual st f (W.fnOf x qual (cM st) (bV st) (aa st) dV kV doc pm an cdv ct):=⟨⟨oc,od,dV,kV,doc,pm,an,cdv,ct,osl,rfl,l,c⟩,k⟩
end
open PySem.W
section
variable {prog:Program}{w:World}{A:Around}{E:Value->Shared->Prop}{s:Shared}{K:PySem.W.Frag}{x C:Addr}{ox:Obj}{od:Option Obj}{name:Str}
end
structure rE(X:Cx)(pins:List (Addr × Obj))(e:Addr):Prop where
 s0:X.s₀.heap.get? e=none
 loc:e ≠ X.env.locals
 cel:∀ x c,X.env.cells.lookup x=some c->c ≠ e
 fs:e ∉ X.fs
 pin:∀ p∈X.pn++pins,p.1 ≠ e
section
variable {X:Cx}
end
def yW(K:Frag)(C fI:Addr)(bmB:List Value)(newId:String):Bool:=Et K C (some (.ref fI)) bmB newId
section
variable {prog:Program}{w:World}{A:Around}{R:Result->Shared->Prop}{h:Heap}{g:Array GenState}{d:Drawn}{t:Nat}{os:OsState}{K:Frag}
variable {nm q:Str}{C N fI:Addr}{bs bm bmB:List Value}{hdct:Bool}{sn:List Str}{sub:List Value}{ab:Bool}{col:Option Bool}{dd:Option Addr}{k0 k1 k2 k3 k5:Option Value}{B Bn newId nid initId inN:String}{bmN:List Value}
end
def pf:List Value->List Value
 | .ref _::r=>pf r
 | l=>l
def AV(l:List Value):Bool:=pf l == [.type "ValueError",.type "Exception",.type "BaseException",.type "object"]
def tG(K:Frag)(C:Addr):Bool:=(clsIn K C).any λ cd=>AV cd.mro && cd.mro.contains (.type "object")
structure GP(K:Frag)(C:Addr):Prop where
 ov:tG K C=true
 sa:findIn K (.ref C) "__setattr__"=some (some (.builtin "object.__setattr__"))
 hd:hasDictIn K C=true
section
variable {prog:Program}{w:World}{A:Around}{E:Value->Shared->Prop}{K:Frag}{x C:Addr}{s:Shared}{name:Str}{v:Value}
end
section
variable {prog:Program}{w:World}{A:Around}{E:Value->Shared->Prop}{s:Shared}{K:PySem.W.Frag}{x C dx:Addr}{ox:Obj}{od:Option Obj}{name:Str}{mA:Str->Option Value}{u:Value}
end
section
variable {prog:Program}{w:World}{A:Around}{E:Value->Shared->Prop}{h:Heap}{g:Array GenState}{d:Drawn}{t:Nat}{os:OsState}{e a0:Addr}{dct:Option Addr}
variable {nm q:Str}{C N:Addr}{bs bm bmB:List Value}{hdct:Bool}{sn:List Str}{sub:List Value}{ab:Bool}{col:Option Bool}{dd:Option Addr}{k0 k1 k2 k3 k5:Option Value}{B newId nid initId:String}
end
structure Kv(K:W.Frag)(C fI:Addr):Prop where
 ex:yW K C fI [.type "ValueError",.type "Exception",.type "BaseException",.type "object"] "ValueError.__new__"=true
 fn:typeIn K (.ref fI)=some (.type "function")
 st:GP K C
section
variable {X:Cx}{pins:List (Addr × Obj)}{σ:St}{H:Hp}{s:Shared}
theorem Inv.adopt{a:Addr}{o:HO}(I:Inv X pins σ H s)(N:rE X pins a)(hn:H a=none)(new:aO X.prog X.w (upd H a o) s.heap a o):Inv X pins σ (upd H a o) s:=by
 have ne:∀ {b:Addr} {u:HO},H b=some u->b ≠ a:=λ q z=>by rw [z,hn] at q;cases q
 refine⟨I.ok,I.os,I.bare,⟨I.base.keep,I.base.slot,λ b u q n hx=>?_,I.base.there,λ b xs q=>?_,λ b u v q=>?_,λ b ps q=>?_⟩,I.loc,I.cell,?_,λ x c q=>?_,λ p hp=>?_,λ b u q=>?_,I.len⟩
 ·rw [af (λ z=>by rw [z,N.s0] at q;cases q)];exact I.base.free b u q n hx
 ·have z:=I.base.tups b xs q;rw [af (ne z)];exact z
 ·have z:=I.base.frzs b u v q;rw [af (ne z)];exact z
 ·obtain⟨m,z⟩:=I.base.tbls b ps q;exact⟨m,by rw [af (ne z)];exact z⟩
 ·rw [af (Ld N.loc)];exact I.free
 ·rw [af (N.cel x c q)];exact I.freeC x c q
 ·obtain⟨a1,b1,c1,d1,f1⟩:=I.pin p hp;exact⟨a1,by rw [af (N.pin p hp)];exact b1,c1,d1,f1⟩
 ·by_cases hb:b=a
  ·subst hb;rw [ah] at q;cases q;exact new
  ·rw [af hb] at q;exact(I.hok b u q).stay (λ _ _ _ r=>r) (λ c r=>by rw [af (ne r)];exact r) λ c xs r=>by rw [af (ne r)];exact r
theorem Inv.newAt{a:Addr}(I:Inv X pins σ H s)(ha:s.heap.objs.size<=a):rE X pins a where
 s0:=Ov (Lu I.sz ha)
 loc:=LA (Le I.lt ha)
 cel:=λ x c e z=>by
  obtain⟨v,o,q,_⟩:=I.cell x c e;exact absurd (Le (KD q) (by rw [z];exact ha)) (LJ _)
 fs:=I.nofs ha
 pin:=λ p hp z=>absurd (Le (KD (I.pin p hp).1) (by rw [z];exact ha)) (LJ _)
structure Jj(K:W.Frag)(B:Addr):Prop where
 sp:specialIn K (.ref B) "__getattribute__"=some (some (.builtin "type.__getattribute__"))
 rd:readsIn K B (.type "type")=true
 fc:findCls K (.ref B) (.type "type") "__init__"=some (.val (.builtin "ValueError.__init__"))
end
section
variable {X:Cx}{e o value:Expr}{ta tv:TE}{f:Str}{pos pos':Pos}
end
def del(H:Hp)(e:Addr):Hp:=λ b=>if b=e then none else H b
section
variable {X:Cx}
end
theorem Cr{a:Option V}{v:V}{σ:St}{H:Hp}{Q:St->Hp->Prop}:dI 0 v (a::σ) H Q=Q (some v::σ) H:=rfl
theorem Cq{a0:Option V}{a:Option V}{v:V}{σ:St}{H:Hp}{Q:St->Hp->Prop}:dI 1 v (a0::a::σ) H Q=Q (a0::some v::σ) H:=rfl
theorem Cp{a0 a1:Option V}{a:Option V}{v:V}{σ:St}{H:Hp}{Q:St->Hp->Prop}:dI 2 v (a0::a1::a::σ) H Q=Q (a0::a1::some v::σ) H:=rfl
theorem Co{a0 a1 a2:Option V}{a:Option V}{v:V}{σ:St}{H:Hp}{Q:St->Hp->Prop}:dI 3 v (a0::a1::a2::a::σ) H Q=Q (a0::a1::a2::some v::σ) H:=rfl
theorem Cn{a0 a1 a2 a3:Option V}{a:Option V}{v:V}{σ:St}{H:Hp}{Q:St->Hp->Prop}:dI 4 v (a0::a1::a2::a3::a::σ) H Q=Q (a0::a1::a2::a3::some v::σ) H:=rfl
theorem Cm{a0 a1 a2 a3 a4:Option V}{a:Option V}{v:V}{σ:St}{H:Hp}{Q:St->Hp->Prop}:dI 5 v (a0::a1::a2::a3::a4::a::σ) H Q=Q (a0::a1::a2::a3::a4::some v::σ) H:=rfl
theorem Ck{a0 a1 a2 a3 a4 a5:Option V}{a:Option V}{v:V}{σ:St}{H:Hp}{Q:St->Hp->Prop}:dI 6 v (a0::a1::a2::a3::a4::a5::a::σ) H Q=Q (a0::a1::a2::a3::a4::a5::some v::σ) H:=rfl
theorem Cj{a0 a1 a2 a3 a4 a5 a6:Option V}{a:Option V}{v:V}{σ:St}{H:Hp}{Q:St->Hp->Prop}:dI 7 v (a0::a1::a2::a3::a4::a5::a6::a::σ) H Q=Q (a0::a1::a2::a3::a4::a5::a6::some v::σ) H:=rfl
theorem Ci{a0 a1 a2 a3 a4 a5 a6 a7:Option V}{a:Option V}{v:V}{σ:St}{H:Hp}{Q:St->Hp->Prop}:dI 8 v (a0::a1::a2::a3::a4::a5::a6::a7::a::σ) H Q=Q (a0::a1::a2::a3::a4::a5::a6::a7::some v::σ) H:=rfl
theorem Cg{a0 a1 a2 a3 a4 a5 a6 a7 a8:Option V}{a:Option V}{v:V}{σ:St}{H:Hp}{Q:St->Hp->Prop}:dI 9 v (a0::a1::a2::a3::a4::a5::a6::a7::a8::a::σ) H Q=Q (a0::a1::a2::a3::a4::a5::a6::a7::a8::some v::σ) H:=rfl
theorem yc{a0 a1 a2 a3 a4 a5 a6 a7 a8 a9:Option V}{a:Option V}{v:V}{σ:St}{H:Hp}{Q:St->Hp->Prop}:dI 10 v (a0::a1::a2::a3::a4::a5::a6::a7::a8::a9::a::σ) H Q=Q (a0::a1::a2::a3::a4::a5::a6::a7::a8::a9::some v::σ) H:=rfl
theorem yb{a0 a1 a2 a3 a4 a5 a6 a7 a8 a9 a10:Option V}{a:Option V}{v:V}{σ:St}{H:Hp}{Q:St->Hp->Prop}:dI 11 v (a0::a1::a2::a3::a4::a5::a6::a7::a8::a9::a10::a::σ) H Q=Q (a0::a1::a2::a3::a4::a5::a6::a7::a8::a9::a10::some v::σ) H:=rfl
theorem ya{a0 a1 a2 a3 a4 a5 a6 a7 a8 a9 a10 a11:Option V}{a:Option V}{v:V}{σ:St}{H:Hp}{Q:St->Hp->Prop}:dI 12 v (a0::a1::a2::a3::a4::a5::a6::a7::a8::a9::a10::a11::a::σ) H Q=Q (a0::a1::a2::a3::a4::a5::a6::a7::a8::a9::a10::a11::some v::σ) H:=rfl
theorem x9{a0 a1 a2 a3 a4 a5 a6 a7 a8 a9 a10 a11 a12:Option V}{a:Option V}{v:V}{σ:St}{H:Hp}{Q:St->Hp->Prop}:dI 13 v (a0::a1::a2::a3::a4::a5::a6::a7::a8::a9::a10::a11::a12::a::σ) H Q=Q (a0::a1::a2::a3::a4::a5::a6::a7::a8::a9::a10::a11::a12::some v::σ) H:=rfl
def aF{α:Type}:Option α->(α->Prop)->Prop
 | some x,k=>k x
 | none,_=>False
theorem ly{α:Type}(x:α)(k:α->Prop):aF (some x) k=k x:=rfl
theorem aj{α:Type}{o:Option α}{k:α->Prop}(h:aF o k):∃ x,o=some x/\k x:=by
 cases o with
 | none=>exact h.elim
 | some x=>exact⟨x,rfl,h⟩
def GS:HO->Option (List V)
 | .lst xs=>some xs
 | .tup xs=>some xs
 | .frz _ (.lst xs)=>some xs
 | _=>none
def Hv:HO->Option (List V)
 | .lst xs=>some xs
 | _=>none
def Hc:HO->Option (List V)
 | .tup xs=>some xs
 | _=>none
def cK(H:Hp)(p:Addr):Option (List V):=(H p).bind GS
def au(H:Hp)(p:Addr):Option (List V):=(H p).bind Hv
def qY(H:Hp)(p:Addr):Option (List V):=(H p).bind Hc
theorem wX(xs:List V):GS (.lst xs)=some xs:=rfl
theorem wW(xs:List V):GS (.tup xs)=some xs:=rfl
theorem xN(xs:List V):Hv (.lst xs)=some xs:=rfl
theorem wQ(xs:List V):Hc (.tup xs)=some xs:=rfl
theorem qP{α β:Type}(x:α)(f:α->Option β):(some x).bind f=f x:=rfl
abbrev Ext(H H':Hp):Prop:=(∀ a,(H a).isSome=true->H' a=H a)/\∀ (K:PySem.W.Frag) a xs,SqL K H a xs->SqL K H' a xs
def HA(r:R2)(x:V)(Q:VK):VK:=λ y H=>r x y H Q
theorem Fz(r:R2)(x y:V)(H:Hp)(Q:VK):(HA r x Q y H)=(r x y H Q):=rfl
def kOp(r:R2)(tb:TE)(σ:St)(Q:VK):VK:=λ x H=>tb σ H (HA r x Q)
theorem IM(r:R2)(tb:TE)(σ:St)(Q:VK)(x:V)(H:Hp):(kOp r tb σ Q x H)=(tb σ H (HA r x Q)):=rfl
theorem Iv(r:R2)(ta tb:TE)(σ:St)(H:Hp)(Q:VK):(tOp r ta tb σ H Q)=(ta σ H (kOp r tb σ Q)):=rfl
theorem Kj(v:V)(σ:St)(H:Hp)(Q:VK):(tC v σ H Q)=(Q v H):=rfl
def kUn(r:V->Hp->VK->Prop)(Q:VK):VK:=λ x H=>r x H Q
theorem IH(r:V->Hp->VK->Prop)(Q:VK)(x:V)(H:Hp):(kUn r Q x H)=(r x H Q):=rfl
theorem Iq(r:V->Hp->VK->Prop)(ta:TE)(σ:St)(H:Hp)(Q:VK):(tUn r ta σ H Q)=(ta σ H (kUn r Q)):=rfl
def Jy:R2:=λ x y H Q=>y=.non/\Q (.bl (decide (x=.non))) H
theorem qh(H:Hp)(Q:VK):Jy (.non) .non H Q=Q (.bl true) H:=propext ⟨λ h=>h.2,λ h=>⟨rfl,h⟩⟩
def DP(Q:Bool->Hp->Prop):VK:=λ x H=>∃ k,x=.bl k/\Q k H
def JM(Q:Bool->Hp->Prop):Bool->Hp->Prop:=λ c H=>Q (!c) H
theorem FA(Q:Bool->Hp->Prop)(c:Bool)(H:Hp):(JM Q c H)=(Q (!c) H):=rfl
theorem EV(t:TT)(σ:St)(H:Hp)(Q:Bool->Hp->Prop):(Jq t σ H Q)=(t σ H (JM Q)):=rfl
def JX(u:TT)(σ:St)(Q:Bool->Hp->Prop):Bool->Hp->Prop:=λ c H=>if c=true then u σ H Q else Q false H
theorem Ga(u:TT)(σ:St)(Q:Bool->Hp->Prop)(c:Bool)(H:Hp):(JX u σ Q c H)=(if c=true then u σ H Q else Q false H):=rfl
theorem Fd(t u:TT)(σ:St)(H:Hp)(Q:Bool->Hp->Prop):(He t u σ H Q)=(t σ H (JX u σ Q)):=rfl
def kOr(u:TT)(σ:St)(Q:Bool->Hp->Prop):Bool->Hp->Prop:=λ c H=>if c=true then Q true H else u σ H Q
theorem IL(u:TT)(σ:St)(Q:Bool->Hp->Prop)(c:Bool)(H:Hp):(kOr u σ Q c H)=(if c=true then Q true H else u σ H Q):=rfl
theorem Iu(t u:TT)(σ:St)(H:Hp)(Q:Bool->Hp->Prop):(tOr t u σ H Q)=(t σ H (kOr u σ Q)):=rfl
def Jc(tb:TE)(σ:St)(Q:VK):VK:=λ x H=>∃ c,x=.bl c/\if c=true then tb σ H Q else Q (.bl false) H
def IZ(Q:VK):VK:=λ x H=>∃ c,x=.bl c/\Q (.bl (!c)) H
def JO(ta tb:TE)(σ:St)(Q:VK):Bool->Hp->Prop:=λ c H=>if c=true then ta σ H Q else tb σ H Q
theorem FI(ta tb:TE)(σ:St)(Q:VK)(c:Bool)(H:Hp):(JO ta tb σ Q c H)=(if c=true then ta σ H Q else tb σ H Q):=rfl
theorem Iy(t:TT)(ta tb:TE)(σ:St)(H:Hp)(Q:VK):(tIf t ta tb σ H Q)=(t σ H (JO ta tb σ Q)):=rfl
def G4(r':R2)(y:V)(Q:VK):VK:=λ w H=>r' y w H Q
theorem FR(r':R2)(y w:V)(Q:VK)(H:Hp):(G4 r' y Q w H)=(r' y w H Q):=rfl
def HQ(r':R2)(tc:TE)(σ:St)(y:V)(Q:VK):VK:=λ z H=>∃ k,z=.bl k/\(if k=true then tc σ H (G4 r' y Q) else Q (.bl false) H)
def JT(r r':R2)(tc:TE)(σ:St)(x:V)(Q:VK):VK:=λ y H=>r x y H (HQ r' tc σ y Q)
def Kq(r r':R2)(tb tc:TE)(σ:St)(Q:VK):VK:=λ x H=>tb σ H (JT r r' tc σ x Q)
theorem EW(σ:St)(H:Hp)(Q:List V->Hp->Prop):(Dc σ H Q)=(Q [] H):=rfl
def sE(x:V)(Q:List V->Hp->Prop):List V->Hp->Prop:=λ xs H=>Q (x::xs) H
theorem xJ(x:V)(Q:List V->Hp->Prop)(xs:List V)(H:Hp):(sE x Q xs H)=(Q (x::xs) H):=rfl
def DV(tr:TA)(σ:St)(Q:List V->Hp->Prop):VK:=λ x H=>tr σ H (sE x Q)
theorem BP(tr:TA)(σ:St)(Q:List V->Hp->Prop)(x:V)(H:Hp):(DV tr σ Q x H)=(tr σ H (sE x Q)):=rfl
theorem Bb(ta:TE)(tr:TA)(σ:St)(H:Hp)(Q:List V->Hp->Prop):(qZ ta tr σ H Q)=(ta σ H (DV tr σ Q)):=rfl
def rB(sp:Sp)(dvs:List V)(E:XK)(Q:VK):List V->Hp->Prop:=λ vs H=>sp (vs++dvs) H Q E
theorem uW(v0:V)(sp:Sp)(dvs:List V)(E:XK)(Q:VK)(H:Hp):rB sp dvs E Q [v0] H=sp (v0::dvs) H Q E:=rfl
theorem uV(v0 v1:V)(sp:Sp)(dvs:List V)(E:XK)(Q:VK)(H:Hp):rB sp dvs E Q [v0,v1] H=sp (v0::v1::dvs) H Q E:=rfl
theorem uU(v0 v1 v2:V)(sp:Sp)(dvs:List V)(E:XK)(Q:VK)(H:Hp):rB sp dvs E Q [v0,v1,v2] H=sp (v0::v1::v2::dvs) H Q E:=rfl
theorem uT(v0 v1 v2 v3:V)(sp:Sp)(dvs:List V)(E:XK)(Q:VK)(H:Hp):rB sp dvs E Q [v0,v1,v2,v3] H=sp (v0::v1::v2::v3::dvs) H Q E:=rfl
theorem Bd(sp:Sp)(dvs:List V)(E:XK)(t:TA)(σ:St)(H:Hp)(Q:VK):(Du sp dvs E t σ H Q)=(t σ H (rB sp dvs E Q)):=rfl
def kCB(r:List V->Hp->VK->Prop)(Q:VK):List V->Hp->Prop:=λ vs H=>r vs H Q
theorem IU(r:List V->Hp->VK->Prop)(Q:VK)(vs:List V)(H:Hp):(kCB r Q vs H)=(r vs H Q):=rfl
theorem Iz(r:List V->Hp->VK->Prop)(t:TA)(σ:St)(H:Hp)(Q:VK):(tCB r t σ H Q)=(t σ H (kCB r Q)):=rfl
theorem A8(nx:St->Hp->Prop)(rt:VK)(bk ct:St->Hp->Prop)(σ:St)(H:Hp):(Dr ⟨nx,rt,bk,ct⟩ σ H)=(nx σ H):=rfl
theorem ES(t u:TS)(nx:St->Hp->Prop)(rt:VK)(bk ct:St->Hp->Prop)(σ:St)(H:Hp):(Jn t u ⟨nx,rt,bk,ct⟩ σ H)=(t ⟨u ⟨nx,rt,bk,ct⟩,rt,bk,ct⟩ σ H):=rfl
theorem EU(te:TE)(nx:St->Hp->Prop)(rt:VK)(bk ct:St->Hp->Prop)(σ:St)(H:Hp):(Jp te ⟨nx,rt,bk,ct⟩ σ H)=(te σ H rt):=rfl
def DU(nx:St->Hp->Prop)(σ:St):VK:=λ x H=>nx σ H
theorem BO(nx:St->Hp->Prop)(σ:St)(x:V)(H:Hp):(DU nx σ x H)=(nx σ H):=rfl
theorem A9(te:TE)(nx:St->Hp->Prop)(rt:VK)(bk ct:St->Hp->Prop)(σ:St)(H:Hp):(Ds te ⟨nx,rt,bk,ct⟩ σ H)=(te σ H (DU nx σ)):=rfl
def JN(t u:TS)(D:oi)(σ:St):Bool->Hp->Prop:=λ b H=>if b=true then t D σ H else u D σ H
theorem FH(t u:TS)(D:oi)(σ:St)(b:Bool)(H:Hp):(JN t u D σ b H)=(if b=true then t D σ H else u D σ H):=rfl
theorem EX(c:TT)(t u:TS)(D:oi)(σ:St)(H:Hp):(Jr c t u D σ H)=(c σ H (JN t u D σ)):=rfl
def JV(g:TG)(σ:St)(nx:St->Hp->Prop):VK:=λ x H=>g x σ H nx
theorem FY(g:TG)(σ:St)(nx:St->Hp->Prop)(x:V)(H:Hp):(JV g σ nx x H)=(g x σ H nx):=rfl
theorem Fc(te:TE)(g:TG)(nx:St->Hp->Prop)(rt:VK)(bk ct:St->Hp->Prop)(σ:St)(H:Hp):(Hd te g ⟨nx,rt,bk,ct⟩ σ H)=(te σ H (JV g σ nx)):=rfl
def kGs(u:TGs)(r:List V)(Q:St->Hp->Prop):St->Hp->Prop:=λ σ' H'=>u r σ' H' Q
theorem IS(u:TGs)(r:List V)(Q:St->Hp->Prop)(σ:St)(H:Hp):(kGs u r Q σ H)=(u r σ H Q):=rfl
section
variable {X:Cx}
theorem OpR.mono{f:Value->Value->Sem Value}{r r':R2}(h:OpR X f r)(m:∀ x y H Q,r' x y H Q->r x y H Q):OpR X f r':=λ pins s σ H x y v u Q I rx ry hq=>h pins s σ H x y v u Q I rx ry (m _ _ _ _ hq)
theorem bL.mono{f:Value}{r r':List V->Hp->VK->Prop}(h:bL X f r)(m:∀ xs H Q,r' xs H Q->r xs H Q):bL X f r':=λ pins s σ H xs us Q I rx hq=>h pins s σ H xs us Q I rx (m _ _ _ hq)
theorem IxR.mono{r r':R2}(h:IxR X r)(m:∀ x y H Q,r' x y H Q->r x y H Q):IxR X r':=λ a b pins s σ H x y v u Q I rx ry hq=>h a b pins s σ H x y v u Q I rx ry (m _ _ _ _ hq)
theorem SlR.mono{r r':V->Option Int->Option Int->Hp->VK->Prop}(h:SlR X r)(m:∀ x lo hi H Q,r' x lo hi H Q->r x lo hi H Q):SlR X r':=λ pins s σ H x v vl vu lo hi sl Q I rx a b c hq=>h pins s σ H x v vl vu lo hi sl Q I rx a b c (m _ _ _ _ _ hq)
theorem PG.mono{tg:Expr}{g g':TG}(h:PG X tg g)(m:∀ v σ H Q,g' v σ H Q->g v σ H Q):PG X tg g':=λ pins s σ H v u Q I r hq=>h pins s σ H v u Q I r (m _ _ _ _ hq)
theorem iu{K:W.Frag}{H:Hp}{p:Addr}{ys:List V}(h:cK H p=some ys):SqL K H p ys\/SqT K H p ys:=by
 unfold cK at h
 cases e:H p with
 | none=>rw [e] at h;cases h
 | some o=>
  rw [e] at h;have h':GS o=some ys:=h
  cases o with
  | lst xs=>cases h';exact .inl (SqL.of e)
  | tup xs=>cases h';exact .inr (SqT.of e)
  | frz ob u=>
   cases u with
   | lst xs=>cases h';exact .inl (.inl (.inr ⟨ob,e⟩))
   | _=>cases h'
  | _=>cases h'
theorem bx{H:Hp}{p:Addr}{ys:List V}(h:au H p=some ys):H p=some (.lst ys):=by
 unfold au at h
 cases e:H p with
 | none=>rw [e] at h;cases h
 | some o=>
  rw [e] at h;have h':Hv o=some ys:=h
  cases o with
  | lst xs=>cases h';rfl
  | _=>cases h'
theorem Ec{H:Hp}{p:Addr}{ys:List V}(h:qY H p=some ys):H p=some (.tup ys):=by
 unfold qY at h
 cases e:H p with
 | none=>rw [e] at h;cases h
 | some o=>
  rw [e] at h;have h':Hc o=some ys:=h
  cases o with
  | tup xs=>cases h';rfl
  | _=>cases h'
def HD(H:Hp)(Q:VK):List V->Prop:=λ ys=>Q (.int ys.length) H
theorem FE(H:Hp)(Q:VK)(ys:List V):HD H Q ys=Q (.int ys.length) H:=rfl
def De(xs:List V)(H:Hp)(Q:VK):Prop:=match xs with
 | [.ref p]=>aF (cK H p) (HD H Q)
 | [.str z]=>z.length<=sizeLine/\Q (.int z.length) H
 | _=>False
theorem Fl(p:Addr)(H:Hp)(Q:VK):De [.ref p] H Q=aF (cK H p) (HD H Q):=rfl
theorem aH:bL X (.builtin "len") De:=by
 refine(cF.or mz).mono λ xs H Q h=>?_;unfold De at h;split at h
 ·rename_i p;obtain⟨ys,e,q⟩:=aj h;exact .inl ⟨p,ys,rfl,iu e,q⟩
 ·rename_i z;exact .inr ⟨z,rfl,h.1,h.2⟩
 ·exact h.elim
def HE(H:Hp)(Q:VK):V->Prop:=λ v=>Q v H
theorem FG(H:Hp)(Q:VK)(v:V):HE H Q v=Q v H:=rfl
def kIx(i:Int)(H:Hp)(Q:VK):List V->Prop:=λ ys=>aF (atI ys i) (HE H Q)
theorem IQ(i:Int)(H:Hp)(Q:VK)(ys:List V):kIx i H Q ys=aF (atI ys i) (HE H Q):=rfl
def qIx:R2:=λ x y H Q=>match x,y with
 | .ref p,.int i=>aF (cK H p) (kIx i H Q)
 | _,_=>False
theorem IB(p:Addr)(i:Int)(H:Hp)(Q:VK):qIx (.ref p) (.int i) H Q=aF (cK H p) (kIx i H Q):=rfl
theorem gk:IxR X qIx:=by
 refine(nv.or Gx).mono λ x y H Q h=>?_;unfold qIx at h;split at h
 ·rename_i p i;obtain⟨ys,e,q⟩:=aj h;obtain⟨v,e2,q2⟩:=aj q
  rcases iu (K:=X.K) e with z|z
  ·exact .inl ⟨p,ys,i,v,rfl,rfl,z,e2,q2⟩
  ·exact .inr ⟨p,ys,i,v,rfl,rfl,z,e2,q2⟩
 ·exact h.elim
theorem Jg{α:Type}(a:α)(xs:List α):atI (a::xs) 0=some a:=eT (j:=0) rfl
theorem Jf{α:Type}(a b:α)(xs:List α):atI (a::b::xs) 1=some b:=eT (j:=1) rfl
def I0(H:Hp)(Q:VK):List V->Prop:=λ ys=>∀ l,H l=none->Q (.ref l) (upd H l (.lst ys))
def DC(xs:List V)(H:Hp)(Q:VK):Prop:=match xs with
 | [.ref p]=>aF (cK H p) (I0 H Q)
 | _=>False
theorem qJ:bL X (.type "list") DC:=by
 refine my.mono λ xs H Q h=>?_;unfold DC at h;split at h
 ·rename_i p;obtain⟨ys,e,q⟩:=aj h;exact⟨p,ys,rfl,iu e,q⟩
 ·exact h.elim
def Hq(xs:List V)(H:Hp)(Q:VK):Prop:=match xs with
 | [.int i,.int j]=>Q (.int (if i < j then j else i)) H
 | _=>False
theorem Fi(i j:Int)(H:Hp)(Q:VK):Hq [.int i,.int j] H Q=Q (.int (if i < j then j else i)) H:=rfl
theorem lR(hc:X.calm=true):bL X (.builtin "max") Hq:=by
 refine(vI hc).mono λ xs H Q h=>?_;unfold Hq at h;split at h
 ·rename_i i j;exact⟨i,j,rfl,h⟩
 ·exact h.elim
def Ho(xs:List V)(H:Hp)(Q:VK):Prop:=match xs with
 | [.int i,.int j]=>Q (.int (if j < i then j else i)) H
 | _=>False
theorem Fh(i j:Int)(H:Hp)(Q:VK):Ho [.int i,.int j] H Q=Q (.int (if j < i then j else i)) H:=rfl
theorem lQ(hc:X.calm=true):bL X (.builtin "min") Ho:=by
 refine(vH hc).mono λ xs H Q h=>?_;unfold Ho at h;split at h
 ·rename_i i j;exact⟨i,j,rfl,h⟩
 ·exact h.elim
def tyO:HO->Option String
 | .lst _=>some "list"
 | .tup _=>some "tuple"
 | .frz _ (.lst _)=>some "list"
 | .dK _=>some "dict"
 | .dT _=>some "dict"
 | _=>none
theorem Ap(xs:List V):tyO (.lst xs)=some "list":=rfl
theorem Ao(xs:List V):tyO (.tup xs)=some "tuple":=rfl
def tyN(H:Hp):V->Option String
 | .non=>some "NoneType"
 | .bl _=>some "bool"
 | .int _=>some "int"
 | .str _=>some "str"
 | .ref p=>(H p).bind tyO
 | _=>none
theorem As(H:Hp):tyN H .non=some "NoneType":=rfl
theorem Eb(H:Hp)(b:Bool):tyN H (.bl b)=some "bool":=rfl
theorem Au(H:Hp)(i:Int):tyN H (.int i)=some "int":=rfl
theorem Aq(H:Hp)(x:Str):tyN H (.str x)=some "str":=rfl
theorem Ar(H:Hp)(p:Addr):tyN H (.ref p)=(H p).bind tyO:=rfl
theorem Ea{K:W.Frag}{H:Hp}{x:V}{t:String}(h:tyN H x=some t):oh K H x (.type t):=by
 cases x with
 | non=>cases h;exact .non
 | bl b=>cases h;exact .bl b
 | int i=>cases h;exact .int i
 | str x=>cases h;exact .str x
 | ref p=>
  have h':(H p).bind tyO=some t:=h
  cases e:H p with
  | none=>rw [e] at h';cases h'
  | some o=>
   rw [e] at h';have h2:tyO o=some t:=h'
   cases o with
   | lst xs=>cases h2;exact .lst e
   | tup xs=>cases h2;exact .tup e
   | dK xs=>cases h2;exact .dK e
   | dT xs=>cases h2;exact .dT e
   | frz ob u=>
    cases u with
    | lst xs=>cases h2;exact .frz e
    | _=>cases h2
   | _=>cases h2
 | _=>cases h
def kY:List String:=["NoneType", "bool", "int", "str", "list", "tuple", "dict"]
def JZ(t n:String):Bool:=t == n || (t == "bool" && n == "int")
theorem xX(K:W.Frag):∀ t∈kY,∀ n∈kY,W.kitOne K (.type t) (.type n)=some (JZ t n):=by
 intro t ht n hn;unfold kY at ht hn;simp only [mem_cons,not_mem_nil,or_false] at ht hn
 rcases ht with rfl|rfl|rfl|rfl|rfl|rfl|rfl<;>rcases hn with rfl|rfl|rfl|rfl|rfl|rfl|rfl<;>exact vh K _ _ _ (by decide +kernel)
def mI(n:String)(H:Hp)(Q:VK):String->Prop:=λ t=>t∈kY/\Q (.bl (JZ t n)) H
def vT(xs:List V)(H:Hp)(Q:VK):Prop:=match xs with
 | [x,.ty n]=>n∈kY/\aF (tyN H x) (mI n H Q)
 | _=>False
theorem fF:bL X (.builtin "isinstance") vT:=by
 refine ym.mono λ xs H Q h=>?_;unfold vT at h;split at h
 ·rename_i x n;obtain⟨hn,h⟩:=h;obtain⟨t,e,ht,q⟩:=aj h;exact⟨x,n,_,_,rfl,Ea e,xX _ t ht n hn,q⟩
 ·exact h.elim
theorem qi(x:V)(H:Hp)(Q:VK):vT [x,.ty "int"] H Q=aF (tyN H x) (mI "int" H Q):=by
 unfold vT;exact propext ⟨λ h=>h.2,λ h=>⟨by decide,h⟩⟩
theorem nP(x:V)(H:Hp)(Q:VK):vT [x,.ty "bool"] H Q=aF (tyN H x) (mI "bool" H Q):=by
 unfold vT;exact propext ⟨λ h=>h.2,λ h=>⟨by decide,h⟩⟩
theorem mw(x:V)(H:Hp)(Q:VK):vT [x,.ty "tuple"] H Q=aF (tyN H x) (mI "tuple" H Q):=by
 unfold vT;exact propext ⟨λ h=>h.2,λ h=>⟨by decide,h⟩⟩
theorem nO(x:V)(H:Hp)(Q:VK):vT [x,.ty "list"] H Q=aF (tyN H x) (mI "list" H Q):=by
 unfold vT;exact propext ⟨λ h=>h.2,λ h=>⟨by decide,h⟩⟩
theorem uP(H:Hp)(Q:VK):mI "int" H Q "NoneType"=Q (.bl false) H:=propext ⟨λ h=>h.2,λ h=>⟨by decide,h⟩⟩
theorem uO(H:Hp)(Q:VK):mI "bool" H Q "bool"=Q (.bl true) H:=propext ⟨λ h=>h.2,λ h=>⟨by decide,h⟩⟩
theorem uN(H:Hp)(Q:VK):mI "int" H Q "bool"=Q (.bl true) H:=propext ⟨λ h=>h.2,λ h=>⟨by decide,h⟩⟩
theorem uL(H:Hp)(Q:VK):mI "bool" H Q "int"=Q (.bl false) H:=propext ⟨λ h=>h.2,λ h=>⟨by decide,h⟩⟩
theorem uK(H:Hp)(Q:VK):mI "int" H Q "int"=Q (.bl true) H:=propext ⟨λ h=>h.2,λ h=>⟨by decide,h⟩⟩
theorem uH(H:Hp)(Q:VK):mI "int" H Q "str"=Q (.bl false) H:=propext ⟨λ h=>h.2,λ h=>⟨by decide,h⟩⟩
theorem uJ(H:Hp)(Q:VK):mI "int" H Q "list"=Q (.bl false) H:=propext ⟨λ h=>h.2,λ h=>⟨by decide,h⟩⟩
theorem uI(H:Hp)(Q:VK):mI "list" H Q "list"=Q (.bl true) H:=propext ⟨λ h=>h.2,λ h=>⟨by decide,h⟩⟩
theorem uG(H:Hp)(Q:VK):mI "int" H Q "tuple"=Q (.bl false) H:=propext ⟨λ h=>h.2,λ h=>⟨by decide,h⟩⟩
theorem uF(H:Hp)(Q:VK):mI "tuple" H Q "tuple"=Q (.bl true) H:=propext ⟨λ h=>h.2,λ h=>⟨by decide,h⟩⟩
theorem uM(H:Hp)(Q:VK):mI "int" H Q "dict"=Q (.bl false) H:=propext ⟨λ h=>h.2,λ h=>⟨by decide,h⟩⟩
def HR(r:V->List V->Hp->VK->Prop)(x:V)(Q:VK):List V->Hp->Prop:=λ xs H=>r x xs H Q
theorem FV(r:V->List V->Hp->VK->Prop)(x:V)(Q:VK)(xs:List V)(H:Hp):HR r x Q xs H=r x xs H Q:=rfl
def kBM(K:W.Frag)(T:String)(r:V->List V->Hp->VK->Prop)(t:TA)(σ:St)(Q:VK):VK:=λ x H=>tyV K T x H/\t σ H (HR r x Q)
theorem IV(K:W.Frag)(T:String)(r:V->List V->Hp->VK->Prop)(t:TA)(σ:St)(Q:VK)(x:V)(H:Hp):kBM K T r t σ Q x H=(tyV K T x H/\t σ H (HR r x Q)):=rfl
theorem IA(K:W.Frag)(T:String)(r:V->List V->Hp->VK->Prop)(to:TE)(t:TA)(σ:St)(H:Hp)(Q:VK):tBM K T r to t σ H Q=to σ H (kBM K T r t σ Q):=rfl
def JU(K:W.Frag)(T:String)(r:V->List V->Hp->VK->Prop)(Q:VK):VK:=λ x H=>tyV K T x H/\r x [] H Q
theorem FU(K:W.Frag)(T:String)(r:V->List V->Hp->VK->Prop)(Q:VK)(x:V)(H:Hp):JU K T r Q x H=(tyV K T x H/\r x [] H Q):=rfl
theorem Fb(K:W.Frag)(T:String)(r:V->List V->Hp->VK->Prop)(to:TE)(σ:St)(H:Hp)(Q:VK):Ju K T r to σ H Q=to σ H (JU K T r Q):=rfl
theorem wM(K:W.Frag)(p:Addr)(H:Hp)(h:(au H p).isSome=true):tyV K "list" (.ref p) H=True:=by
 cases e:au H p with
 | none=>rw [e] at h;cases h
 | some ys=>exact eq_true (.inl ⟨rfl,ys,SqL.of (bx e)⟩)
def JW(l:Addr)(y:V)(H:Hp)(Q:VK):List V->Prop:=λ xs=>xs.length < sizeLine/\Q .non (upd H l (.lst (xs++[y])))
theorem FZ(l:Addr)(y:V)(H:Hp)(Q:VK)(xs:List V):JW l y H Q xs=(xs.length < sizeLine/\Q .non (upd H l (.lst (xs++[y])))):=rfl
theorem uC(l:Addr)(y:V)(H:Hp)(Q:VK):sN (.ref l) [y] H Q=aF (au H l) (JW l y H Q):=by
 refine propext ⟨λ h=>?_,λ h=>?_⟩
 ·obtain⟨_,xs,_,e1,e2,e3,a,b⟩:=h;cases e1;cases e2;have e:au H l=some xs:=by unfold au;rw [e3];rfl
  rw [e];exact⟨a,b⟩
 ·obtain⟨xs,e,a,b⟩:=aj h;exact⟨l,xs,y,rfl,rfl,bx e,a,b⟩
def JL(l:Addr)(H:Hp)(Q:VK):List V->Prop:=λ xs=>Q .non (upd H l (.lst xs.reverse))
theorem Fy(l:Addr)(H:Hp)(Q:VK)(xs:List V):JL l H Q xs=Q .non (upd H l (.lst xs.reverse)):=rfl
theorem qg(l:Addr)(H:Hp)(Q:VK):oN (.ref l) [] H Q=aF (au H l) (JL l H Q):=by
 refine propext ⟨λ h=>?_,λ h=>?_⟩
 ·obtain⟨_,xs,e1,_,e3,b⟩:=h;cases e1;have e:au H l=some xs:=by unfold au;rw [e3];rfl
  rw [e];exact b
 ·obtain⟨xs,e,b⟩:=aj h;exact⟨l,xs,rfl,rfl,bx e,b⟩
def Ja(xs:List V)(H:Hp)(Q:VK):List V->Prop:=λ ys=>xs.length+ys.length<=sizeLine/\∀ p,H p=none->Q (.ref p) (upd H p (.lst (xs++ys)))
def Jb(b:Addr)(H:Hp)(Q:VK):List V->Prop:=λ xs=>aF (au H b) (Ja xs H Q)
theorem Fe(l b:Addr)(H:Hp)(Q:VK):Jz (.ref l) (.ref b) H Q=aF (au H l) (Jb b H Q):=by
 refine propext ⟨λ h=>?_,λ h=>?_⟩
 ·obtain⟨l',b',xs,zs,e1,e2,e3,e4,hz,hq⟩:=h;cases e1;cases e2;have e:au H l=some xs:=by unfold au;rw [e3];rfl
  have e':au H b=some zs:=by unfold au;rw [e4];rfl
  rw [e]
  show aF (au H b) _
  rw [e'];exact⟨hz,hq⟩
 ·obtain⟨xs,e,q⟩:=aj h;obtain⟨zs,e',a,q⟩:=aj q;exact⟨l,b,xs,zs,rfl,rfl,bx e,bx e',a,q⟩
def zU(p:Addr)(xs:List V)(v:V)(H:Hp)(Q:Hp->Prop):Nat->Prop:=λ j=>Q (upd H p (.lst (xs.set j v)))
theorem BD(p:Addr)(xs:List V)(v:V)(H:Hp)(Q:Hp->Prop)(j:Nat):zU p xs v H Q j=Q (upd H p (.lst (xs.set j v))):=rfl
def JK(p:Addr)(i:Int)(v:V)(H:Hp)(Q:Hp->Prop):List V->Prop:=λ xs=>aF (ixN xs.length i) (zU p xs v H Q)
theorem Fu(p:Addr)(i:Int)(v:V)(H:Hp)(Q:Hp->Prop)(xs:List V):JK p i v H Q xs=aF (ixN xs.length i) (zU p xs v H Q):=rfl
theorem Bi(p:Addr)(i:Int)(v:V)(H:Hp)(Q:Hp->Prop):Dz (.ref p) (.int i) v H Q=aF (au H p) (JK p i v H Q):=by
 refine propext ⟨λ h=>?_,λ h=>?_⟩
 ·obtain⟨_,xs,_,j,e1,e2,e3,e4,b⟩:=h;cases e1;cases e2;have e:au H p=some xs:=by unfold au;rw [e3];rfl
  rw [e]
  show aF (ixN xs.length i) _
  rw [e4];exact b
 ·obtain⟨xs,e,q⟩:=aj h;obtain⟨j,e4,q⟩:=aj q;exact⟨p,xs,i,j,rfl,rfl,bx e,e4,q⟩
def sD(t:yx)(o v:V)(σ:St)(Q:St->Hp->Prop):VK:=λ i H=>t o i v H λ H3=>Q σ H3
theorem xG(t:yx)(o v:V)(σ:St)(Q:St->Hp->Prop)(i:V)(H:Hp):sD t o v σ Q i H=t o i v H (Q σ):=rfl
def yR(ti:TE)(t:yx)(v:V)(σ:St)(Q:St->Hp->Prop):VK:=λ o H=>ti σ H (sD t o v σ Q)
theorem xH(ti:TE)(t:yx)(v:V)(σ:St)(Q:St->Hp->Prop)(o:V)(H:Hp):yR ti t v σ Q o H=ti σ H (sD t o v σ Q):=rfl
theorem Gf(to ti:TE)(t:yx)(v:V)(σ:St)(H:Hp)(Q:St->Hp->Prop):J3 to ti t v σ H Q=to σ H (yR ti t v σ Q):=rfl
def kGT(n:Nat)(t:TGs)(σ:St)(H:Hp)(Q:St->Hp->Prop):List V->Prop:=λ xs=>xs.length=n/\t xs σ H Q
theorem IT(n:Nat)(t:TGs)(σ:St)(H:Hp)(Q:St->Hp->Prop)(xs:List V):kGT n t σ H Q xs=(xs.length=n/\t xs σ H Q):=rfl
def qGT(n:Nat)(t:TGs):TG:=λ v σ H Q=>match v with
 | .ref a=>aF (qY H a) (kGT n t σ H Q)
 | _=>False
theorem IC(n:Nat)(t:TGs)(a:Addr)(σ:St)(H:Hp)(Q:St->Hp->Prop):qGT n t (.ref a) σ H Q=aF (qY H a) (kGT n t σ H Q):=rfl
theorem bD{K:W.Frag}{n:Nat}{t:TGs}{v:V}{σ:St}{H:Hp}{Q:St->Hp->Prop}(h:qGT n t v σ H Q):J2 K n t v σ H Q:=by
 unfold qGT at h;split at h
 ·rename_i a;obtain⟨xs,e,hl,q⟩:=aj h;exact⟨a,xs,rfl,SqT.of (Ec e),hl,q⟩
 ·exact h.elim
theorem Ew:OpR X (compareOp .Is) Jy:=Ez
def pP(tb:TS)(D:oi):St->Hp->Prop:=λ σ H=>tb D σ H
theorem cj(tb:TS)(D:oi)(σ:St)(H:Hp):pP tb D σ H=tb D σ H:=rfl
def CW(g:TG)(tb:TS)(D:oi)(σ:St)(J:It)(H1:Hp):Prop:=∃ W:Nat->Nat->St->Hp->Prop,(∃ m,W 0 m σ H1)/\∀ i m σ H,W i m σ H →
 (J.stop i H/\D.nx σ H)\/(J.go i H/\∃ N:St->Hp->Prop,(∀ σ' H',N σ' H'->∃ m',m' < m/\W (i+1) m' σ' H')/\∀ x H',J.yld i H x H'->g x σ H' λ σ2 H2=>tb { D with nx:=N,ct:=N,bk:=D.nx } σ2 H2)
theorem EY(wi:TI)(g:TG)(tb:TS)(D:oi)(σ:St)(H:Hp):Js wi g tb D σ H=wi σ H (CW g tb D σ):=rfl
def kR1(R:It->Hp->Prop):List V->Hp->Prop:=λ vs H=>∃ j:Int,vs=[.int j]/\-(2 ^ 62)<=j/\j < 2 ^ 62/\R (Itr 0 j.toNat) H
theorem II(R:It->Hp->Prop)(j:Int)(H:Hp):kR1 R [.int j] H=(-(2 ^ 62)<=j/\j < 2 ^ 62/\R (Itr 0 j.toNat) H):=propext ⟨λ ⟨_,e,q⟩=>by cases e;exact q,λ q=>⟨j,rfl,q⟩⟩
theorem BX(ta:TA)(σ:St)(H:Hp)(R:It->Hp->Prop):DW ta σ H R=ta σ H (kR1 R):=rfl
def wq(K:W.Frag)(a:Addr)(H:Hp)(R:It->Hp->Prop):HO->Prop:=λ o=>match o with
 | .lst _=>R (Itl K a) H
 | .frz _ (.lst _)=>R (Itl K a) H
 | .tup _=>R (Itt K a) H
 | _=>False
theorem uS(K:W.Frag)(a:Addr)(H:Hp)(R:It->Hp->Prop)(xs:List V):wq K a H R (.lst xs)=R (Itl K a) H:=rfl
def G0(K:W.Frag)(R:It->Hp->Prop):VK:=λ x H=>match x with
 | .ref a=>aF (H a) (wq K a H R)
 | _=>False
theorem FJ(K:W.Frag)(R:It->Hp->Prop)(a:Addr)(H:Hp):G0 K R (.ref a) H=aF (H a) (wq K a H R):=rfl
def HV(K:W.Frag)(tl:TE):TI:=λ σ H R=>tl σ H (G0 K R)
theorem Gd(K:W.Frag)(tl:TE)(σ:St)(H:Hp)(R:It->Hp->Prop):HV K tl σ H R=tl σ H (G0 K R):=rfl
theorem yI{tg l:Expr}{tl:TE}(hl:PE X l tl):PI X tg l (HV X.K tl):=by
 intro pins s σ H R I h;refine thn (hl pins s σ H _ I h) λ v s1 ⟨x,H1,I1,r1,q1⟩=>?_;unfold G0 at q1;split at q1
 ·rename_i a;cases r1;obtain⟨o,e,q⟩:=aj q1
  have fp:∀ b∈[s1.heap.objs.size],kM X pins H1 b:=λ b hb=>by
   have e:b=s1.heap.objs.size:=by simpa using hb
   subst e;exact I1.fpOk (KO _) (I1.hok.fresh (KO _))
  have lst:∀ xs,SqL X.K H1 a xs->R (Itl X.K a) H1->wpAny (model X.prog X.w) X.A (pyIter (.ref a)) (PIE X pins σ tg R) X.xe s1:=λ xs hq q=>by
   obtain⟨its,rv,p,hz⟩:=I1.list hq;refine Mh p.isList ?_;exact⟨s1.heap.objs.size,[s1.heap.objs.size],_,_,H1,rfl,I1.kept (t':=s1.toks) λ b o e=>KC _ e,uc a _,⟨_,KR _ rfl,rfl,rfl⟩,fp,q⟩
  unfold wq at q;split at q
  ·exact lst _ (SqL.of e) q
  ·exact lst _ (.inl (.inr ⟨_,e⟩)) q
  ·obtain⟨its,rv,p,hz⟩:=I1.tuple (SqT.of e);refine wpAny_pyIter_tuple (show s1.heap.IsTuple a its.toArray from p) ?_;exact⟨s1.heap.objs.size,[s1.heap.objs.size],_,_,H1,rfl,I1.kept (t':=s1.toks) λ b o e=>KC _ e,pT a _,⟨_,KR _ rfl,rfl,rfl⟩,fp,q⟩
  ·exact q.elim
 ·exact q1.elim
theorem nz{lo:Int}{n:Nat}{g:TG}{tb:TS}{nx:St->Hp->Prop}{rt:VK}{bk ct:St->Hp->Prop}{σ:St}{H:Hp}(Pv:Nat->St->Hp->Prop)(h0:Pv 0 σ H)
  (hs:∀ i σ H,i < n->Pv i σ H->g (.int (lo+i)) σ H (pP tb ⟨Pv (i+1),rt,nx,Pv (i+1)⟩)) (hd:∀ σ H,Pv n σ H->nx σ H):CW g tb ⟨nx,rt,bk,ct⟩ σ (Itr lo n) H:=vz Pv h0 hs hd
theorem cL{K:W.Frag}{a:Addr}{xs:List V}{g:TG}{tb:TS}{nx:St->Hp->Prop}{rt:VK}{bk ct:St->Hp->Prop}{σ:St}{H:Hp}(Pv:Nat->St->Hp->Prop)(h0:Pv 0 σ H)(hl:∀ i σ H,i<=xs.length->Pv i σ H->H a=some (.lst xs))
  (hs:∀ i x σ H,xs[i]? = some x->Pv i σ H->g x σ H (pP tb ⟨Pv (i+1),rt,nx,Pv (i+1)⟩)) (hd:∀ σ H,Pv xs.length σ H->nx σ H):CW g tb ⟨nx,rt,bk,ct⟩ σ (Itl K a) H:=ye (xs:=xs) Pv h0 (λ i σ H hi p=>SqL.of (hl i σ H hi p)) hs hd
def kWh(tb:TS)(nx:St->Hp->Prop)(rt:VK)(Pv:Nat->St->Hp->Prop)(m:Nat)(σ:St):Bool->Hp->Prop:=λ b H=>if b=true then tb ⟨λ σ' H'=>∃ m',m' < m/\Pv m' σ' H',rt,nx,λ σ' H'=>∃ m',m' < m/\Pv m' σ' H'⟩ σ H else nx σ H
theorem IG(tb:TS)(nx:St->Hp->Prop)(rt:VK)(Pv:Nat->St->Hp->Prop)(m:Nat)(σ:St)(b:Bool)(H:Hp):kWh tb nx rt Pv m σ b H=(if b=true then tb ⟨λ σ' H'=>∃ m',m' < m/\Pv m' σ' H',rt,nx,λ σ' H'=>∃ m',m' < m/\Pv m' σ' H'⟩ σ H else nx σ H):=rfl
theorem Aj{c:TT}{tb:TS}{nx:St->Hp->Prop}{rt:VK}{bk ct:St->Hp->Prop}{σ:St}{H:Hp}(Pv:Nat->St->Hp->Prop)(m0:Nat)(h0:Pv m0 σ H)
  (mono:∀ σ H Q Q',(∀ b H1,Q b H1->Q' b H1)->c σ H Q->c σ H Q')
  (hs:∀ m σ H,Pv m σ H->c σ H (kWh tb nx rt Pv m σ)):rK c tb ⟨nx,rt,bk,ct⟩ σ H:=by
 refine⟨Pv,⟨m0,h0⟩,λ m σ H p=>mono σ H _ _ (λ b H1 q=>?_) (hs m σ H p)⟩;unfold kWh at q
 cases b with
 | true=>exact⟨_,λ σ' H' z=>z,q⟩
 | false=>exact q
end
def kE4(H:Hp)(Q:VK):Bool->Prop:=λ b=>Q (.bl b) H
theorem DO(H:Hp)(Q:VK)(b:Bool):kE4 H Q b=Q (.bl b) H:=rfl
def kC3(D:Addr)(ys:List V)(N:List V->Hp->Prop):VK:=λ y H=>H D=some (.lst ys)/\ys.length < sizeLine/\N (ys++[y]) (upd H D (.lst (ys++[y])))
def kC2(te:TE)(σ2:St)(D:Addr)(ys:List V)(N:List V->Hp->Prop):Bool->Hp->Prop:=λ b H=>if b=true then te σ2 H (kC3 D ys N) else N ys H
def kC1(k:Nat)(tt:TT)(te:TE)(σ:St)(D:Addr)(ys:List V)(N:List V->Hp->Prop):St->Hp->Prop:=λ σ2 H=>(∃ vs:St,vs.length=k/\σ2=vs++σ)/\tt σ2 H (kC2 te σ2 D ys N)
theorem EF(σ:St)(H:Hp)(Q:Bool->Hp->Prop):Jm σ H Q=Q true H:=rfl
def rA(k:Nat)(g:TG)(tt:TT)(te:TE)(σ:St)(Q:VK):It->Hp->Prop:=λ J H1=>∀ D,H1 D=none->∃ W:Nat->Nat->List V->Hp->Prop,(∃ m,W 0 m [] (upd H1 D (.lst [])))/\∀ i m ys H,W i m ys H →
 (J.stop i H/\Q (.ref D) H)\/(J.go i H/\∃ N:List V->Hp->Prop,(∀ ys' H',N ys' H'->∃ m',m' < m/\W (i+1) m' ys' H') /\
  ∀ x H',J.yld i H x H'->g x (List.replicate k none++σ) H' (kC1 k tt te σ D ys N))
theorem Bc(k:Nat)(wi:TI)(g:TG)(tt:TT)(te:TE)(σ:St)(H:Hp)(Q:VK):zB k wi g tt te σ H Q=wi σ H (rA k g tt te σ Q):=rfl
def wg(i:Nat)(σ:St)(nx:St->Hp->Prop):VK:=λ x H=>dI i x σ H nx
theorem BA(i:Nat)(σ:St)(nx:St->Hp->Prop)(x:V)(H:Hp):wg i σ nx x H=dI i x σ H nx:=rfl
theorem A6(i:Nat)(te:TE)(nx:St->Hp->Prop)(rt:VK)(bk ct:St->Hp->Prop)(σ:St)(H:Hp):Dn i te ⟨nx,rt,bk,ct⟩ σ H=te σ H (wg i σ nx):=rfl
section
variable {k:Nat}{g:TG}{tt:TT}{te:TE}{σ:St}{Q:VK}{H:Hp}{K:PySem.W.Frag}
end
def bF{α:Type}:List (Option α)->Option (List α)
 | []=>some []
 | o::r=>o.bind λ x=>(bF r).map λ xs=>x::xs
def CY(f:V->Option PyData):HO->Option PyData
 | .lst xs=>(bF (xs.map f)).map .list
 | .tup xs=>(bF (xs.map f)).map .tuple
 | _=>none
def vW(H:Hp)(f:V->Option PyData):V->Option PyData
 | .non=>some .none
 | .bl b=>some (.bool b)
 | .int i=>some (.int i)
 | .str z=>if PyData.strOk z=true then some (.str z) else none
 | .ref p=>(H p).bind (CY f)
 | _=>none
def gO(H:Hp):Nat->V->Option PyData
 | 0,_=>none
 | n+1,x=>vW H (gO H n) x
def noD:V->Option PyData:=λ _=>none
theorem Gg(H:Hp)(x:V):gO H 6 x=vW H (vW H (vW H (vW H (vW H (vW H noD))))) x:=rfl
theorem qp(H:Hp)(n:Nat)(z:Str):gO H (n+1) (.str z)=if PyData.strOk z=true then some (.str z) else none:=rfl
theorem qq(H:Hp)(n:Nat)(p:Addr):gO H (n+1) (.ref p)=(H p).bind (CY (gO H n)):=rfl
theorem qt(H:Hp)(f:V->Option PyData)(p:Addr):vW H f (.ref p)=(H p).bind (CY f):=rfl
theorem jk(f:V->Option PyData)(xs:List V):CY f (.lst xs)=(bF (xs.map f)).map .list:=rfl
theorem qr(f:V->Option PyData)(xs:List V):CY f (.tup xs)=(bF (xs.map f)).map .tuple:=rfl
theorem ef(H:Hp)(f:V->Option PyData):∀ ns:List Int,bF ((ns.map V.int).map (vW H f))=some (ns.map PyData.int)
 | []=>rfl
 | i::r=>by
  show (bF ((r.map V.int).map (vW H f))).map _=_
  rw [ef H f r];rfl
theorem gH{K:W.Frag}{H:Hp}{n:Nat}(ih:∀ x d,gO H n x=some d->jv K H x d/\d.canLay0=true/\d.depth<=n):∀ (xs:List V) (ds:List PyData),bF (xs.map (gO H n))=some ds->gS K H xs ds/\PyData.canLayAll0 ds=true/\PyData.depthAll ds<=n
 | [],ds,h=>by cases h;exact⟨.nil,rfl,Lq _⟩
 | x::xs,ds,h=>by
  have h':(gO H n x).bind (λ d=>(bF (xs.map (gO H n))).map λ ds=>d::ds)=some ds:=h
  cases e:gO H n x with
  | none=>rw [e] at h';cases h'
  | some d=>
   rw [e] at h';have h2:(bF (xs.map (gO H n))).map (λ ds=>d::ds)=some ds:=h'
   cases e2:bF (xs.map (gO H n)) with
   | none=>rw [e2] at h2;cases h2
   | some es=>
    rw [e2] at h2;cases h2;obtain⟨a,b,c⟩:=ih x d e;obtain⟨a',b',c'⟩:=gH ih xs es e2;exact⟨.cons a a',by simp [PyData.canLayAll0,b,b'],by simp only [PyData.depthAll];omega⟩
theorem hZ{K:W.Frag}{H:Hp}:∀ (n:Nat) (x:V) (d:PyData),gO H n x=some d->jv K H x d/\d.canLay0=true/\d.depth<=n
 | 0,x,d,h=>by cases h
 | n+1,x,d,h=>by
  cases x with
  | non=>cases h;exact⟨.non,rfl,Lq _⟩
  | bl b=>cases h;exact⟨.bl b,rfl,Lq _⟩
  | int i=>cases h;exact⟨.int i,rfl,Lq _⟩
  | str z=>
   rw [qp] at h;split at h
   ·rename_i hz;cases h;exact⟨.str z,by simpa [PyData.canLay0] using hz,Lq _⟩
   ·cases h
  | ref p=>
   rw [qq] at h
   cases e:H p with
   | none=>rw [e] at h;cases h
   | some o=>
    rw [e] at h;have h':CY (gO H n) o=some d:=h
    cases o with
    | lst xs=>
     rw [jk] at h'
     cases e2:bF (xs.map (gO H n)) with
     | none=>rw [e2] at h';cases h'
     | some ds=>
      rw [e2] at h';cases h';obtain⟨a,b,c⟩:=gH (K:=K) (hZ n) xs ds e2;exact⟨.lst (SqL.of e) a,by simpa [PyData.canLay0] using b,by simp only [PyData.depth];omega⟩
    | tup xs=>
     rw [qr] at h'
     cases e2:bF (xs.map (gO H n)) with
     | none=>rw [e2] at h';cases h'
     | some ds=>
      rw [e2] at h';cases h';obtain⟨a,b,c⟩:=gH (K:=K) (hZ n) xs ds e2;exact⟨.tup (SqT.of e) a,by simpa [PyData.canLay0] using b,by simp only [PyData.depth];omega⟩
    | _=>cases h'
  | _=>cases h
theorem dq{K:W.Frag}{H:Hp}{n:Nat}{x:V}{d:PyData}(hn:n<=64)(h:gO H n x=some d):jv K H x d/\SeqAt.shaped d=true:=by
 obtain⟨a,b,c⟩:=hZ (K:=K) n x d h;refine⟨a,?_⟩;unfold SeqAt.shaped;rw [b,decide_eq_true (show d.depth<=64 by omega)];rfl
def HK(neg:Bool)(H:Hp)(Q:VK)(d:PyData):PyData->Prop:=λ e=>Q (.bl (if neg=true then !PyData.eqv d e else PyData.eqv d e)) H
theorem xI(H:Hp)(Q:VK)(d e:PyData):HK true H Q d e=Q (.bl (!PyData.eqv d e)) H:=rfl
def HL(neg:Bool)(y:V)(H:Hp)(Q:VK):PyData->Prop:=λ d=>aF (gO H 6 y) (HK neg H Q d)
theorem FN(neg:Bool)(y:V)(H:Hp)(Q:VK)(d:PyData):HL neg y H Q d=aF (gO H 6 y) (HK neg H Q d):=rfl
def qEq(neg:Bool):R2:=λ x y H Q=>if Dd x y=true then Q (.bl (if neg=true then !decide (x=y) else decide (x=y))) H else aF (gO H 6 x) (HL neg y H Q)
theorem qj(neg:Bool)(p:Addr)(x:V)(H:Hp)(Q:VK):qEq neg x (.ref p) H Q=aF (gO H 6 x) (HL neg (.ref p) H Q):=by
 show (if Dd x (.ref p)=true then _ else _)=_
 rw [KU (by cases x<;>exact Lb)]
theorem kz(j:Int)(H:Hp)(Q:VK):qEq true V.non (V.int j) H Q=Q (.bl (!false)) H:=by
 have e:decide ((V.non:V)=(V.int j))=false:=by simp
 show Q (.bl (if true=true then !decide (V.non=(V.int j)) else decide (V.non=(V.int j)))) H=_
 rw [e];rfl
theorem kC(i:Int)(j:Int)(H:Hp)(Q:VK):qEq false (V.int i) (V.int j) H Q=Q (.bl (decide (i=j))) H:=by
 have e:decide (((V.int i):V)=(V.int j))=decide (i=j):=by simp
 show Q (.bl (if false=true then !decide ((V.int i)=(V.int j)) else decide ((V.int i)=(V.int j)))) H=_
 rw [e];rfl
theorem kB(i:Int)(j:Int)(H:Hp)(Q:VK):qEq true (V.int i) (V.int j) H Q=Q (.bl (!decide (i=j))) H:=by
 have e:decide (((V.int i):V)=(V.int j))=decide (i=j):=by simp
 show Q (.bl (if true=true then !decide ((V.int i)=(V.int j)) else decide ((V.int i)=(V.int j)))) H=_
 rw [e];rfl
section
variable {X:Cx}
theorem si(hu:X.A.units+64 < cLine):OpR X (compareOp .Eq) (qEq false):=by
 refine(Ii.or (EA hu)).mono λ x y H Q h=>?_;unfold qEq at h;split at h
 ·rename_i hs;exact .inl ⟨hs,h⟩
 obtain⟨d,e1,h⟩:=aj h;obtain⟨e,e2,h⟩:=aj h;obtain⟨a,b⟩:=dq (K:=X.K) (by decide) e1;obtain⟨a',b'⟩:=dq (K:=X.K) (by decide) e2;exact .inr ⟨d,e,a,a',b,b',h⟩
theorem dE(hu:X.A.units+64 < cLine):OpR X (compareOp .NotEq) (qEq true):=by
 refine(Ie.or (Ey hu)).mono λ x y H Q h=>?_;unfold qEq at h;split at h
 ·rename_i hs;exact .inl ⟨hs,h⟩
 obtain⟨d,e1,h⟩:=aj h;obtain⟨e,e2,h⟩:=aj h;obtain⟨a,b⟩:=dq (K:=X.K) (by decide) e1;obtain⟨a',b'⟩:=dq (K:=X.K) (by decide) e2;exact .inr ⟨d,e,a,a',b,b',h⟩
end
theorem nB(i j:Int):PyData.eqv (.int i) (.int j)=decide (i=j):=Bool.beq_eq_decide_eq i j
theorem yf(xs ys:List PyData):PyData.eqv (.list xs) (.list ys)=PyData.eqvAll xs ys:=by simp only [PyData.eqv]
theorem qC:PyData.eqvAll [] []=true:=by simp only [PyData.eqvAll]
theorem nV(x y:PyData)(xs ys:List PyData):PyData.eqvAll (x::xs) (y::ys)=(PyData.eqv x y && PyData.eqvAll xs ys):=by simp only [PyData.eqvAll]
theorem yh(x:PyData)(xs:List PyData):PyData.eqvAll (x::xs) []=false:=by simp only [PyData.eqvAll]
theorem yg(x:PyData)(xs:List PyData):PyData.eqvAll [] (x::xs)=false:=by simp only [PyData.eqvAll]
theorem iG:∀ ns ms:List Int,PyData.eqvAll (ns.map PyData.int) (ms.map PyData.int)=decide (ns=ms)
 | [],[]=>by rw [Oy,qC];rfl
 | [],_::_=>by rw [Oy,Lo,yg];rfl
 | _::_,[]=>by rw [Oy,Lo,yh];rfl
 | i::r,j::t=>by
  rw [Lo,Lo,nV,nB,iG r t]
  by_cases h:i=j<;>by_cases h2:r=t<;>simp [h,h2]
theorem CO(i j:Int):Ia i j=(0 < j/\j < 1073741824):=rfl
theorem GQ(i j:Int)(h:-18446744073709551616 < i)(h':i < 18446744073709551616):qW i j=True:=eq_true (.inl ⟨by omega,by omega⟩)
theorem CN(j:Int):HZ 10 j=(0<=j/\j<=1000000):=propext ⟨λ h=>⟨h.1,h.2.1⟩,λ h=>⟨h.1,h.2,by decide⟩⟩
theorem IX(n:Nat)(h:n<=1000):(n<=sizeLine)=True:=eq_true (Nf (lp h))
theorem IW(n:Nat)(h:n<=1000):(n < sizeLine)=True:=eq_true (lp h)
theorem Ext.of{H H':Hp}(h:∀ a,(H a).isSome=true->H' a=H a):Ext H H':=⟨h,λ K a xs q=>by
 have s:iR H H':=λ b o e=>(h b (by rw [e];rfl)).trans e;exact s.seq q⟩
theorem Ext.same{H H':Hp}(h:Ext H H'):iR H H':=λ b o e=>(h.1 b (by rw [e];rfl)).trans e
theorem iR.ext{H H':Hp}(h:iR H H'):Ext H H':=Ext.of λ a q=>by
 cases e:H a with
 | none=>rw [e] at q;cases q
 | some o=>exact h a o e
theorem Ext.refl(H:Hp):Ext H H:=(iR.refl H).ext
theorem Ext.trans{H H1 H2:Hp}(a:Ext H H1)(b:Ext H1 H2):Ext H H2:=(a.same.trans b.same).ext
theorem Ext.new{H:Hp}{p:Addr}{o:HO}(h:H p=none):Ext H (upd H p o):=(wY h).ext
theorem Ext.put{H H1:Hp}{p:Addr}{o:HO}(a:Ext H H1)(h:H p=none):Ext H (upd H1 p o):=iR.ext λ b u e=>by
 rw [af (bz e h)];exact a.same b u e
theorem Ext.free{H H1:Hp}{p:Addr}(a:Ext H H1)(h:H1 p=none):H p=none:=a.same.free h
theorem Ext.at{H H1:Hp}{p:Addr}{o:HO}(a:Ext H H1)(h:H p=some o):H1 p=some o:=a.same _ _ h
theorem sV{xs:List V}{i:Int}{k:V->Prop}(h0:0<=i)(h1:i < xs.length)(h:∀ v∈xs,k v):aF (atI xs i) k:=by
 obtain⟨v,e,m⟩:=za xs i h0 h1;rw [e];exact h v m
theorem Ks(CX:CXT)(P:Program)(w:World)(K:W.Frag)(mg:Str->Option Value)(base:Heap)(N:List Str)(qual:Str)(scope:Scope)(f:Addr)(cd:Value)(A:Around)(outer:List Env)(s:Shared)(H:Hp)(E:XK):(yv CX P w K mg base N qual scope f cd A outer s H E).K=K:=rfl
def isW(H:Hp):V->Option Bool
 | .int _=>some true
 | .bl _=>some false
 | .non=>some false
 | .str _=>some false
 | .ref p=>((H p).bind tyO).map λ _=>false
 | _=>none
theorem x4(H:Hp)(i:Int):isW H (.int i)=some true:=rfl
theorem xZ(H:Hp)(p:Addr):isW H (.ref p)=((H p).bind tyO).map λ _=>false:=rfl
theorem Cd{H:Hp}{p:Addr}{b:Bool}(h:isW H (.ref p)=some b):b=false/\∃ o,H p=some o/\(tyO o=some "list" \/ tyO o=some "tuple" \/ tyO o=some "dict"):=by
 rw [xZ] at h
 cases e:H p with
 | none=>rw [e] at h;cases h
 | some o=>
  rw [e] at h;have h':(tyO o).map (λ _=>false)=some b:=h
  cases e2:tyO o with
  | none=>rw [e2] at h';cases h'
  | some t=>
   rw [e2] at h';cases h';refine⟨rfl,o,rfl,?_⟩
   cases o with
   | lst xs=>exact .inl rfl
   | tup xs=>exact .inr (.inl rfl)
   | dK xs=>exact .inr (.inr rfl)
   | dT xs=>exact .inr (.inr rfl)
   | frz ob u=>cases u with
    | lst xs=>exact .inl rfl
    | _=>cases e2
   | _=>cases e2
def ME(t:TE):Prop:=∀ σ H (Q Q':VK),(∀ v H,Q v H->Q' v H)->t σ H Q->t σ H Q'
def MT(t:TT):Prop:=∀ σ H (Q Q':Bool->Hp->Prop),(∀ b H,Q b H->Q' b H)->t σ H Q->t σ H Q'
def MA(t:TA):Prop:=∀ σ H (Q Q':List V->Hp->Prop),(∀ b H,Q b H->Q' b H)->t σ H Q->t σ H Q'
def MR(r:R2):Prop:=∀ x y H (Q Q':VK),(∀ v H,Q v H->Q' v H)->r x y H Q->r x y H Q'
def MC(r:List V->Hp->VK->Prop):Prop:=∀ x H (Q Q':VK),(∀ v H,Q v H->Q' v H)->r x H Q->r x H Q'
theorem dR{α:Type}{o:Option α}{k k':α->Prop}(m:∀ x,k x->k' x)(h:aF o k):aF o k':=by
 obtain⟨x,e,q⟩:=aj h;rw [e];exact m x q
theorem sx{i:Nat}:ME (GR i):=λ σ H Q Q' m ⟨v,e,q⟩=>⟨v,e,m _ _ q⟩
theorem JE{v:V}:ME (tC v):=λ σ H Q Q' m q=>m _ _ q
theorem DL{r:R2}{a b:TE}(hr:MR r)(ha:ME a)(hb:ME b):ME (tOp r a b):=λ σ H Q Q' m q=>ha σ H _ _ (λ _ _ q=>hb σ _ _ _ (λ _ _ q=>hr _ _ _ _ _ m q) q) q
theorem sy{g:Int->Int->V}:MR (rI0 g):=λ x y H Q Q' m ⟨i,j,e,e',q⟩=>⟨i,j,e,e',m _ _ q⟩
theorem yM:MA Dc:=λ σ H Q Q' m q=>m _ _ q
theorem tm{a:TE}{r:TA}(ha:ME a)(hr:MA r):MA (qZ a r):=λ σ H Q Q' m q=>ha σ H _ _ (λ _ _ q=>hr σ _ _ _ (λ _ _ q=>m _ _ q) q) q
theorem DM{r:List V->Hp->VK->Prop}{t:TA}(hr:MC r)(ht:MA t):ME (tCB r t):=λ σ H Q Q' m q=>ht σ H _ _ (λ _ _ q=>hr _ _ _ _ m q) q
theorem sZ:MC De:=λ x H Q Q' m q=>by
 unfold De at q ⊢;split at q
 ·exact dR (λ _ q=>m _ _ q) q
 ·exact⟨q.1,m _ _ q.2⟩
 ·exact q.elim
theorem nh{t:TE}(h:ME t):MT (zA t):=λ σ H Q Q' m q=>h σ H _ _ (λ _ _ ⟨k,e,q⟩=>⟨k,e,m _ _ q⟩) q
theorem yP{t u:TT}(h:MT t)(h':MT u):MT (He t u):=λ σ H Q Q' m q=>h σ H _ _ (λ b _ q=>by
 cases b with
 | true=>rw [KZ rfl] at q ⊢;exact h' _ _ _ _ m q
 | false=>rw [KU Lb] at q ⊢;exact m _ _ q) q
theorem sH{c:TT}{tb:TS}{nx:St->Hp->Prop}{rt:VK}{bk ct:St->Hp->Prop}{σ:St}{H:Hp}(mono:MT c)(Pv:Nat->St->Hp->Prop)(m0:Nat)(h0:Pv m0 σ H)
  (hs:∀ m σ H,Pv m σ H->c σ H (kWh tb nx rt Pv m σ)):rK c tb ⟨nx,rt,bk,ct⟩ σ H:=Aj Pv m0 h0 (λ σ H Q Q'=>mono σ H Q Q') hs
theorem o8:∀ {ns ms:List Int},ns.map V.int=ms.map V.int->ns=ms
 | [],[],_=>rfl
 | [],_::_,h=>by cases h
 | _::_,[],h=>by cases h
 | i::r,j::t,h=>by
  simp only [Lo,List.cons.injEq,V.int.injEq] at h;rw [h.1,o8 h.2]
def fT(F:List Int->Prop):List V->Prop:=λ xs=>∃ ns,xs=ns.map V.int/\F ns
theorem nj(F:List Int->Prop)(ns:List Int):fT F (ns.map V.int)=F ns:=propext ⟨λ ⟨ms,e,h⟩=>by rw [o8 e];exact h,λ h=>⟨ns,rfl,h⟩⟩
theorem uR(F:List Int->Prop)(a:Int):fT F [.int a]=F [a]:=nj F [a]
theorem uQ(F:List Int->Prop)(a b:Int):fT F [.int a,.int b]=F [a,b]:=nj F [a,b]
theorem lA{xs:List V}{i:Int}{k:V->Prop}(P:Int->Prop)(h0:0<=i)(h1:i < xs.length)(hx:∀ v∈xs,∃ j,v=.int j/\P j)(h:∀ j,P j->k (.int j)):aF (atI xs i) k:=sV h0 h1 λ v hv=>by
 obtain⟨j,rfl,hj⟩:=hx v hv;exact h j hj
theorem pD(i j:Int)(h:i.natAbs < 2 ^ 256)(h':j.natAbs < 2 ^ 256):Ad i j=True:=eq_true ⟨h,h'⟩
theorem jY(xs:List V)(z:Int)(h:0<=z):qU xs none (some z)=xs.take z.toNat:=by
 unfold qU;rw [HT.sIx_none,List.drop_zero,Nat.sub_zero];obtain⟨n,rfl⟩:=Int.eq_ofNat_of_zero_le h;rw [HT.sIx_nat]
 show _=xs.take n
 rcases Nat.le_total n xs.length with q|q
 ·rw [Nat.min_eq_left q]
 ·rw [Nat.min_eq_right q,L3 (KO _),L3 q]
def Kp(lo hi:Option Int)(H:Hp)(Q:VK):List V->Prop:=λ xs=>∀ p,H p=none->Q (.ref p) (upd H p (.lst (qU xs lo hi)))
def JB:V->Option Int->Option Int->Hp->VK->Prop:=λ x lo hi H Q=>match x with
 | .ref a=>aF (au H a) (Kp lo hi H Q)
 | _=>False
theorem Kc{X:Cx}:SlR X JB:=Az.mono λ x lo hi H Q h=>by
 unfold JB at h;split at h
 ·rename_i a;obtain⟨xs,e,q⟩:=aj h;exact⟨a,xs,rfl,SqL.of (bx e),q⟩
 ·exact h.elim
def Hw(r:V->Option Int->Option Int->Hp->VK->Prop)(x:V)(l:Option Int)(Q:VK):Option Int->Hp->Prop:=λ u H=>r x l u H Q
theorem Fq(r:V->Option Int->Option Int->Hp->VK->Prop)(x:V)(l:Option Int)(Q:VK)(u:Option Int)(H:Hp):Hw r x l Q u H=r x l u H Q:=rfl
def Hx(r:V->Option Int->Option Int->Hp->VK->Prop)(th:TO)(σ:St)(x:V)(Q:VK):Option Int->Hp->Prop:=λ l H=>th σ H (Hw r x l Q)
theorem Fs(r:V->Option Int->Option Int->Hp->VK->Prop)(th:TO)(σ:St)(x:V)(Q:VK)(l:Option Int)(H:Hp):Hx r th σ x Q l H=th σ H (Hw r x l Q):=rfl
def JJ(r:V->Option Int->Option Int->Hp->VK->Prop)(tl th:TO)(σ:St)(Q:VK):VK:=λ x H=>tl σ H (Hx r th σ x Q)
theorem Ft(r:V->Option Int->Option Int->Hp->VK->Prop)(tl th:TO)(σ:St)(Q:VK)(x:V)(H:Hp):JJ r tl th σ Q x H=tl σ H (Hx r th σ x Q):=rfl
theorem Ir(r:V->Option Int->Option Int->Hp->VK->Prop)(te:TE)(tl th:TO)(σ:St)(H:Hp)(Q:VK):tSl r te tl th σ H Q=te σ H (JJ r tl th σ Q):=rfl
theorem uA(σ:St)(H:Hp)(Q:Option Int->Hp->Prop):sJ σ H Q=Q none H:=rfl
def DS(Q:Option Int->Hp->Prop):VK:=λ x H=>∃ i,x=.int i/\Q (some i) H
theorem BF(Q:Option Int->Hp->Prop)(i:Int)(H:Hp):DS Q (.int i) H=Q (some i) H:=propext ⟨λ ⟨_,e,q⟩=>by cases e;exact q,λ q=>⟨i,rfl,q⟩⟩
theorem A7(t:TE)(σ:St)(H:Hp)(Q:Option Int->Hp->Prop):Dp t σ H Q=t σ H (DS Q):=rfl
def i6(o:HO)(H:Hp)(Q:VK):Prop:=∀ (p:Addr) (H':Hp),H p=none->Ext H H'->H' p=some o->Q (.ref p) H'
theorem i6.to{o:HO}{H:Hp}{Q:VK}(h:i6 o H Q):∀ p,H p=none->Q (.ref p) (upd H p o):=λ p hp=>h p _ hp (Ext.new hp) ah
def kQT(Q:VK):List V->Hp->Prop:=λ xs H=>xs.length<=sizeLine/\i6 (.tup xs) H Q
theorem IJ(Q:VK)(xs:List V)(H:Hp):kQT Q xs H=(xs.length<=sizeLine/\i6 (.tup xs) H Q):=rfl
def kQL(Q:VK):List V->Hp->Prop:=λ xs H=>xs.length<=sizeLine/\i6 (.lst xs) H Q
theorem IK(Q:VK)(xs:List V)(H:Hp):kQL Q xs H=(xs.length<=sizeLine/\i6 (.lst xs) H Q):=rfl
def JA(t:TA):TE:=λ σ H Q=>t σ H (kQT Q)
theorem Ff(t:TA)(σ:St)(H:Hp)(Q:VK):JA t σ H Q=t σ H (kQT Q):=rfl
def JC(t:TA):TE:=λ σ H Q=>t σ H (kQL Q)
theorem Fj(t:TA)(σ:St)(H:Hp)(Q:VK):JC t σ H Q=t σ H (kQL Q):=rfl
section
variable {X:Cx}{es:List Expr}{t:TA}{pos:Pos}
theorem AL{x1}(h:PA X es t):PE X (.Tuple es x1 pos) (JA t):=by
 intro pins s σ H Q I hq;refine wpAny_Tuple_spliced (thn (h pos pins s σ H _ I hq) λ us s1 ⟨xs,H1,I1,r,z,q⟩=>⟨by rw [←r.length];exact z,?_⟩);have hf:H1 s1.heap.objs.size=none:=I1.hok.fresh (KO _);refine⟨.ref s1.heap.objs.size,upd H1 s1.heap.objs.size (.tup xs),I1.laid (t':=s1.toks) (λ b u e=>KC _ e) (KO _) ?_,rfl,q.to _ hf⟩;exact⟨z,us,r,⟨_,KR _ rfl,rfl,_,rfl⟩⟩
theorem AM(h:PA X es t):PE X (.List es pos) (JC t):=by
 intro pins s σ H Q I hq;refine wpAny_List_spliced (thn (h pos pins s σ H _ I hq) λ us s1 ⟨xs,H1,I1,r,z,q⟩=>⟨by rw [←r.length];exact z,?_⟩);have hf:H1 s1.heap.objs.size=none:=I1.hok.fresh (KO _);refine⟨.ref s1.heap.objs.size,upd H1 s1.heap.objs.size (.lst xs),I1.laid (t':=s1.toks) (λ b u e=>KC _ e) (KO _) ?_,rfl,q.to _ hf⟩;exact⟨z,us,0,r,KR _ rfl⟩
end
def kN(f:List V->HO)(H:Hp)(Q:VK):List V->Prop:=λ ys=>i6 (f ys) H Q
theorem Km(f:List V->HO)(H:Hp)(Q:VK)(ys:List V):kN f H Q ys=i6 (f ys) H Q:=rfl
def zP(xs:List V)(H:Hp)(Q:VK):Prop:=match xs with
 | [.ref p]=>aF (cK H p) (kN .lst H Q)
 | _=>False
theorem Bs(p:Addr)(H:Hp)(Q:VK):zP [.ref p] H Q=aF (cK H p) (kN .lst H Q):=rfl
theorem cf{X:Cx}:bL X (.type "list") zP:=qJ.mono λ xs H Q h=>by
 unfold zP at h;split at h
 ·exact dR (λ _ q=>q.to) h
 ·exact h.elim
def HB(xs:List V)(H:Hp)(Q:VK):List V->Prop:=λ ys=>xs.length+ys.length<=sizeLine/\i6 (.lst (xs++ys)) H Q
theorem FC(xs:List V)(H:Hp)(Q:VK)(ys:List V):HB xs H Q ys=(xs.length+ys.length<=sizeLine/\i6 (.lst (xs++ys)) H Q):=rfl
def HC(b:Addr)(H:Hp)(Q:VK):List V->Prop:=λ xs=>aF (au H b) (HB xs H Q)
theorem FD(b:Addr)(H:Hp)(Q:VK)(xs:List V):HC b H Q xs=aF (au H b) (HB xs H Q):=rfl
def Hu:R2:=λ x y H Q=>match x,y with
 | .ref l,.ref b=>aF (au H l) (HC b H Q)
 | _,_=>False
theorem Fp(l b:Addr)(H:Hp)(Q:VK):Hu (.ref l) (.ref b) H Q=aF (au H l) (HC b H Q):=rfl
theorem hJ{X:Cx}:OpR X (binaryOp .Add) Hu:=EC.mono λ x y H Q h=>by
 unfold Hu at h;split at h
 ·rw [Fe];exact dR (λ _ q=>dR (λ _ q=>⟨q.1,q.2.to⟩) q) h
 ·exact h.elim
def kNS(lo hi:Option Int)(H:Hp)(Q:VK):List V->Prop:=λ xs=>i6 (.lst (qU xs lo hi)) H Q
theorem IP(lo hi:Option Int)(H:Hp)(Q:VK)(xs:List V):kNS lo hi H Q xs=i6 (.lst (qU xs lo hi)) H Q:=rfl
def nSl:V->Option Int->Option Int->Hp->VK->Prop:=λ x lo hi H Q=>match x with
 | .ref a=>aF (au H a) (kNS lo hi H Q)
 | _=>False
theorem ID(a:Addr)(lo hi:Option Int)(H:Hp)(Q:VK):nSl (.ref a) lo hi H Q=aF (au H a) (kNS lo hi H Q):=rfl
theorem zp{X:Cx}:SlR X nSl:=Kc.mono λ x lo hi H Q h=>by
 unfold nSl at h;split at h
 ·exact dR (λ _ q=>q.to) h
 ·exact h.elim
theorem PE.mono{X:Cx}{e:Expr}{t t':TE}(h:PE X e t)(m:∀ σ H Q,t' σ H Q->t σ H Q):PE X e t':=λ pins s σ H Q I q=>h pins s σ H Q I (m _ _ _ q)
def DJ:TE:=λ _ H Q=>i6 (.dK []) H Q
theorem Bu(σ:St)(H:Hp)(Q:VK):DJ σ H Q=i6 (.dK []) H Q:=rfl
theorem eh{X:Cx}{pos:Pos}:PE X (.Dict [] [] pos) DJ:=xp.mono λ _ _ _ h=>h.to
section
variable {prog:Program}{w:World}{A:Around}{E:Value->Shared->Prop}{s:Shared}
end
section
variable {X:Cx}{pos:Pos}
end
def Itv(K:W.Frag)(a:Addr)(xs:List V):It:=
 ⟨λ i H=>SqL K H a xs/\i < xs.length,λ i H x H'=>H'=H/\xs[xs.length - 1 - i]? = some x,λ i _=>i=xs.length⟩
theorem wO{P:Program}{w:World}{K:W.Frag}{tg:Expr}(a it:Addr)(xs:List V):vX P w K tg (Itv K a xs) [it] it (λ i h=>i<=xs.length/\h.IsRevIter it a ((xs.length:Int) - 1 - (i:Int))) where
 mem:=by simp
 obj:=λ i h st b hb=>by
  have e:b=it:=by simpa using hb
  subst e;obtain⟨_,o,e,c,d⟩:=st;exact⟨o,e,λ v z=>by rw [d] at z;cases z⟩
 keep:=λ i h h' st k=>⟨st.1,st.2.at λ o e=>k it (by simp) o e⟩
 item:=by
  intro X hP hw hK hc i pins s σ H E I hf st hg;subst hP hw hK;obtain⟨hq,hlt⟩:=hg;obtain⟨its,rv,p,hz⟩:=I.list hq;have hx:xs[xs.length - 1 - i]? = some (xs[xs.length - 1 - i]'(by omega)):=KA (by omega);obtain⟨u,hu,ru⟩:=rv.get hx;obtain⟨f0,f1,f2,f3,f4,f5⟩:=hf it (by simp);have st1:=st.2;rw [show ((xs.length:Int) - 1 - (i:Int))=((xs.length - 1 - i:Nat):Int) by omega] at st1;refine wpAny_pyNext_rev_item st1 p.isList (x:=u) (by simpa using hu) λ h' st' sb=>?_;have I1:Inv X pins σ H { s with heap:=h' }:=I.turned (t':=s.toks) (λ b o hb e=>(sb.2 b hb).trans e) f0 f1 f3 f4 f5;obtain⟨o,e,c,d⟩:=id st';rw [show (((xs.length - 1 - i:Nat):Int) - 1)=(xs.length:Int) - 1 - ((i+1:Nat):Int) by omega] at st';exact⟨u,rfl,rD (s:={ s with heap:=h' }) e c d (by decide) ⟨_,H,I1,ru,⟨rfl,hx⟩,⟨hlt,st'⟩,λ b hb=>(hf b hb).1⟩⟩
 done:=by
  intro X hP hw hK hc i pins s σ H E I hf st hg;subst hP hw hK;have e:i=xs.length:=hg;subst e;obtain⟨f0,f1,f2,f3,f4,f5⟩:=hf it (by simp);have st1:=st.2;rw [show ((xs.length:Int) - 1 - (xs.length:Int))=-1 by omega] at st1;exact wpAny_pyNext_rev_end (I.ok.hd hc) st1 λ h' eb=>⟨rfl,I.turned (t':=s.toks) (λ b o hb e=>eb b o hb e) f0 f1 f3 f4 f5⟩
 self:=λ _ _ _ _ _ st h=>wpAny_pyIter_revIter st.2 h
def Hy(K:W.Frag)(a:Addr)(H:Hp)(R:It->Hp->Prop):List V->Prop:=λ xs=>R (Itv K a xs) H
theorem Fv(K:W.Frag)(a:Addr)(H:Hp)(R:It->Hp->Prop)(xs:List V):Hy K a H R xs=R (Itv K a xs) H:=rfl
def GX(K:W.Frag)(R:It->Hp->Prop):List V->Hp->Prop:=λ vs H=>match vs with
 | [.ref a]=>aF (au H a) (Hy K a H R)
 | _=>False
theorem Fw(K:W.Frag)(R:It->Hp->Prop)(a:Addr)(H:Hp):GX K R [.ref a] H=aF (au H a) (Hy K a H R):=rfl
def J1(K:W.Frag)(ta:TA):TI:=λ σ H R=>ta σ H (GX K R)
theorem Ge(K:W.Frag)(ta:TA)(σ:St)(H:Hp)(R:It->Hp->Prop):J1 K ta σ H R=ta σ H (GX K R):=rfl
section
variable {X:Cx}{tg:Expr}
theorem Ek{a:Expr}{ta:TA}{p pos:Pos}(hg:Gl X "reversed")(hm:X.mg "reversed"=none)(ha:PA X [a] ta)(hs:starEach [a] X.env=[(false,eval a X.env)]:=by rfl):PI X tg (.Call (.Name "reversed" p) [a] [] pos) (J1 X.K ta):=by
 intro pins s σ H R I h;refine Call_ (fA I hg hm (show bootBuiltins "reversed"=some (.type "reversed") by decide +kernel) (PyProof.Rows.callWith_type1 (thn (ha pos pins s σ H _ I h) λ us s1 ⟨vs,H1,I1,r1,q1⟩=>?_) hs rfl));unfold GX at q1;split at q1
 ·rename_i b;obtain⟨xs,e,q⟩:=aj q1
  cases r1 with
  | cons r rr=>
   cases rr;cases r;obtain⟨its,rv,pl,hz⟩:=I1.list (SqL.of (bx e));refine call_reversed_list pl.isList ?_;have hsz:(its.toArray.size:Int)=(xs.length:Int):=by rw [←rv.length.symm];simp
   have I2:Inv X pins σ H1 { s1 with heap:=s1.heap.push (revObj b ((its.toArray.size:Int) - 1)) }:=I1.kept (t':=s1.toks) λ b o e=>KC _ e;have hit:(s1.heap.push (revObj b ((its.toArray.size:Int) - 1))).IsRevIter s1.heap.objs.size b ((xs.length:Int) - 1 - ((0:Nat):Int)):=⟨_,KR _ rfl,rfl,by rw [hsz];simp [revObj]⟩;refine wpAny_pyIter_revIter hit ⟨s1.heap.objs.size,[s1.heap.objs.size],_,_,H1,rfl,I2,wO b _ xs,⟨Lq _,hit⟩,λ c hb=>?_,q⟩;have e:c=s1.heap.objs.size:=by simpa using hb
   subst e;exact I1.fpOk (KO _) (I1.hok.fresh (KO _))
 ·exact q1.elim
end
theorem Ct{K:W.Frag}{a:Addr}{xs:List V}{g:TG}{tb:TS}{nx:St->Hp->Prop}{rt:VK}{bk ct:St->Hp->Prop}{σ:St}{H:Hp}(Pv:Nat->St->Hp->Prop)(h0:Pv 0 σ H)(hl:∀ i σ H,i<=xs.length->Pv i σ H->SqL K H a xs)
  (hs:∀ i x σ H,i < xs.length->xs[xs.length - 1 - i]? = some x->Pv i σ H->g x σ H (pP tb ⟨Pv (i+1),rt,nx,Pv (i+1)⟩)) (hd:∀ σ H,Pv xs.length σ H->nx σ H):CW g tb ⟨nx,rt,bk,ct⟩ σ (Itv K a xs) H:=by
 refine⟨λ i m σ H=>m=xs.length - i/\i<=xs.length/\Pv i σ H,⟨xs.length,by simp,Lq _,h0⟩,?_⟩;rintro i m σ H ⟨rfl,hi,p⟩;have q:=hl i σ H hi p
 by_cases hlt:i < xs.length
 ·refine .inr ⟨⟨q,hlt⟩,Pv (i+1),λ σ' H' p'=>⟨xs.length - (i+1),by omega,rfl,hlt,p'⟩,λ x H' y=>?_⟩;obtain⟨e,y⟩:=y;subst e;exact hs i x σ _ hlt y p
 ·have e:i=xs.length:=by omega
  subst e;exact .inl ⟨rfl,hd σ H p⟩
theorem iC:∀ (n:Nat) (ns:List Int) (val:Nat->Int),(∀ i,val i=ns.getD i 0)->n<=ns.length->preSum val n=(ns.take n).sum
 | 0,ns,val,h,hl=>by simp [preSum]
 | n+1,ns,val,h,hl=>by
  have ih:=iC n ns val h (by omega)
  have e:ns.take (n+1)=ns.take n++[ns.getD n 0]:=by
   rw [N3,KA (by omega)];simp [List.getD,KA (show n < ns.length by omega)]
  rw [preSum,ih,e,OM,h];simp
def zS(H:Hp)(Q:VK):List Int->Prop:=λ ns=>Q (.int ns.sum) H
theorem By(H:Hp)(Q:VK)(ns:List Int):zS H Q ns=Q (.int ns.sum) H:=rfl
def Hn:List V->Hp->VK->Prop:=λ vs H Q=>match vs with
 | [.ref p]=>aF (au H p) (fT (zS H Q))
 | _=>False
theorem Fg(p:Addr)(H:Hp)(Q:VK):Hn [.ref p] H Q=aF (au H p) (fT (zS H Q)):=rfl
def zq(F:List Bool->Prop):List V->Prop:=λ xs=>∃ bs,xs=bs.map V.bl/\F bs
theorem tQ:∀ {ns ms:List Bool},ns.map V.bl=ms.map V.bl->ns=ms
 | [],[],_=>rfl
 | [],_::_,h=>by cases h
 | _::_,[],h=>by cases h
 | i::r,j::t,h=>by
  simp only [Lo,List.cons.injEq,V.bl.injEq] at h;rw [h.1,tQ h.2]
theorem FT(F:List Bool->Prop)(bs:List Bool):zq F (bs.map V.bl)=F bs:=propext ⟨λ ⟨ms,e,h⟩=>by rw [tQ e];exact h,λ h=>⟨bs,rfl,h⟩⟩
def Ac(H:Hp)(Q:VK):List Bool->Prop:=λ bs=>Q (.bl (bs.all id)) H
theorem BW(H:Hp)(Q:VK)(bs:List Bool):Ac H Q bs=Q (.bl (bs.all id)) H:=rfl
def Hs:List V->Hp->VK->Prop:=λ vs H Q=>match vs with
 | [.ref p]=>aF (au H p) (zq (Ac H Q))
 | _=>False
theorem Fn(p:Addr)(H:Hp)(Q:VK):Hs [.ref p] H Q=aF (au H p) (zq (Ac H Q)):=rfl
section
variable {X:Cx}
theorem lP(hc:X.calm=true):bL X (.builtin "sum") Hn:=by
 intro pins s σ H vs us Q I r h;unfold Hn at h;split at h
 ·rename_i p;obtain⟨xs,e,ns,rfl,q⟩:=aj h
  cases r with
  | cons r rr=>
   cases rr;cases r;obtain⟨its,rv,pl,hz⟩:=I.list (SqL.of (bx e));have hlt:p < s.heap.objs.size:=by obtain⟨_,e,_⟩:=pl.isList;exact KD e
   have hlen:its.length=ns.length:=by have:=rv.length;simpa using this.symm
   refine call_sum_walkAnyS (Mh pl.isList ⟨s.heap.objs.size,_,_,_,_,_,_,λ i=>ns.getD i 0,rfl,(Walks.list (show X.A.in1.handled=none from I.ok.hd hc) _ p (K0 hlt) its.toArray).toS,⟨⟨_,KR _ rfl,rfl,rfl⟩,pl.isList.push _⟩,λ b hb=>?_,λ i v hP=>?_,λ s' t' hm=>?_⟩)
   ·rw [LF]
    rcases K2.mp hb with rfl|hb
    ·exact MJ _
    ·rw [KN.mp hb];exact Md hlt
   ·have hv:its[i]? = some v:=by simpa using hP
    have hi:i < ns.length:=by rw [←hlen];exact(KH.mp hv).1
    obtain⟨u,hu,ru⟩:=rv.get (i:=i) (x:=.int (ns.getD i 0)) (by rw [La,KA hi];simp [List.getD,KA hi]);rw [hv] at hu;cases hu;exact ru
   ·obtain⟨hp,g,d,tk,os⟩:=s'
    have kp:∀ b o,s.heap.get? b=some o->hp.get? b=some o:=λ b o e=>hm.heap b o (λ hmem=>by
     have:b=s.heap.objs.size:=by simpa using hmem
     subst this;exact absurd (KD e) (LJ _)) (KC _ e)
    have e1:g=s.gens:=hm.gens;have e2:d=s.drawn:=hm.drawn;have e3:os=s.os:=hm.os;subst e1 e2 e3;refine⟨.int ns.sum,H,I.kept (t':=tk) kp,?_,q⟩;have es:=iC its.toArray.size ns (λ i=>ns.getD i 0) (λ _=>rfl) (by simp [hlen]);rw [show its.toArray.size=ns.length by simp [hlen],LG] at es;rw [show its.toArray.size=ns.length by simp [hlen],es];exact⟨t',rfl⟩
 ·exact h.elim
theorem vS(bs:List Bool):(List.range bs.length).all (λ i=>bs.getD i false)=bs.all id:=by
 rw [Ms,NX,NX];refine⟨λ h x hx=>?_,λ h i hi=>?_⟩
 ·obtain⟨i,hi,e⟩:=L0 hx;have:=h i (LQ.mpr hi)
  simpa [List.getD,KA hi,e] using this
 ·have hi':=LQ.mp hi;have:=h (bs[i]) (My hi')
  simpa [List.getD,KA hi'] using this
theorem vG(hc:X.calm=true):bL X (.builtin "all") Hs:=by
 intro pins s σ H vs us Q I r h;unfold Hs at h;split at h
 ·rename_i p;obtain⟨xs,e,bs,rfl,q⟩:=aj h
  cases r with
  | cons r rr=>
   cases rr;cases r;obtain⟨its,rv,pl,hz⟩:=I.list (SqL.of (bx e));have hlt:p < s.heap.objs.size:=by obtain⟨_,e,_⟩:=pl.isList;exact KD e
   have hlen:its.length=bs.length:=by have:=rv.length;simpa using this.symm
   refine call_all_walk (Mh pl.isList ⟨s.heap.objs.size,_,_,_,_,_,λ i=>bs.getD i false,rfl,Walks.list (show X.A.in1.handled=none from I.ok.hd hc) _ p (K0 hlt) its.toArray,⟨⟨_,KR _ rfl,rfl,rfl⟩,pl.isList.push _⟩,λ i v s' Q' E' hP hQ=>?_,λ h' tk hk=>?_⟩)
   ·have hv:its[i]? = some v:=by simpa using hP
    have hi:i < bs.length:=by rw [←hlen];exact(KH.mp hv).1
    obtain⟨u,hu,ru⟩:=rv.get (i:=i) (x:=.bl (bs.getD i false)) (by rw [La,KA hi];simp [List.getD,KA hi]);rw [hv] at hu;cases hu;have e2:v=.bool (bs.getD i false):=ru;subst e2;exact Mg hQ
   ·have kp:∀ b o,s.heap.get? b=some o->h'.get? b=some o:=λ b o e=>hk b o (λ hmem=>by
     have:b=s.heap.objs.size:=by simpa using hmem
     subst this;exact absurd (KD e) (LJ _)) (KC _ e)
    refine⟨.bl (bs.all id),H,I.kept (t':=tk) kp,?_,q⟩;rw [show its.toArray.size=bs.length by simp [hlen],vS];exact rfl
 ·exact h.elim
end
structure Src(prog:Program)(w:World)(it:Addr)(fr:List Addr)(st:Nat->Heap->Prop)(val:Nat->Option Value):Prop where
 mem:it∈fr
 there:∀ k h,st k h->∀ b∈fr,∃ o,h.get? b=some o
 keep:∀ k h h',st k h->(∀ b∈fr,∀ o,h.get? b=some o->h'.get? b=some o)->st k h'
 item:∀ (A:Around) k s v (Q:Value->Shared->Prop) (E:Value->Shared->Prop),st k s.heap->val k=some v->(∀ h',st (k+1) h'->Heap.SameBut it s.heap h'->Q v { s with heap:=h' })->wpAny (model prog w) A (Builtin.SmallTypes.nextOf (.ref it)) Q E s
 fin:∀ (A:Around) k s (Q:Value->Shared->Prop) (E:Value->Shared->Prop),A.handled=none->st k s.heap->val k=none->(∀ h' e,Heap.ExtBut it s.heap h'->(∃ o,h'.get? e=some o/\o.cls=.type "StopIteration")->E (.ref e) { s with heap:=h' })->wpAny (model prog w) A (Builtin.SmallTypes.nextOf (.ref it)) Q E s
theorem wU{prog:Program}{w:World}(it l:Addr)(hne:l ≠ it)(xs:Array Value):Src prog w it [it,l] (λ k h=>h.IsListIter it l k/\h.IsList l xs) (λ k=>xs[k]?) where
 mem:=KL
 there:=λ k h st b hb=>by
  rcases K2.mp hb with e|hb
  ·obtain⟨o,q,_⟩:=st.1;exact⟨o,by rw [e];exact q⟩
  ·obtain⟨o,q,_⟩:=st.2;exact⟨o,by rw [KN.mp hb];exact q⟩
 keep:=λ k h h' st q=>⟨st.1.at λ o e=>q it (by simp) o e,st.2.at λ o e=>q l (by simp) o e⟩
 item:=λ A k s v Q E st hv hQ=>wpAny_nextOf_list_item st.1 st.2 hv λ h' a b=>hQ h' ⟨a,st.2.extBut b.extBut hne⟩ b
 fin:=λ A k s Q E hh st hv hE=>wpAny_nextOf_list_end hh st.1 st.2 hv hE
section
variable {prog:Program}{w:World}{A:Around}{E:Value->Shared->Prop}{s:Shared}
theorem ky{j t:Addr}{k:Nat}{xs:Array Value}{v:Value}{Q:Value->Shared->Prop}(hj:s.heap.IsTupleIter j t k)(ht:s.heap.IsTuple t xs)(hv:xs[k]? = some v)
  (hQ:∀ g,g.IsTupleIter j t (k+1)->Heap.SameBut j s.heap g->Q v { s with heap:=g }):wpAny (model prog w) A (Builtin.SmallTypes.nextOf (.ref j)) Q E s:=by
 obtain⟨oj,h0,h1,h2⟩:=id hj;obtain⟨ot,g0,_,n,g1⟩:=ht;unfold Builtin.SmallTypes.nextOf;refine wpAny_bind (wpAny_callSpecial?_slot (name:=Str.ofString "__next__") hj.typeIs F.slot_tuple_iterator_next (wpAny_call_entry F.slot_tuple_iterator_next hj.typeIs F.entry_tuple_iterator_next ?_ (F.args_tuple_iterator_next_1 _)));refine wpAny_bind (m:=field (.ref j) 0) (wpAny_field h0 h2 (x:=.ref t) rfl ?_)
 show wpAny _ _ (if (Value.ref t == Value.none)=true then _ else _) _ _ _
 rw [KU (show ¬ ((.ref t:Value) == .none)=true from Lb)];refine Kz (m:=field (.ref j) 1) (LI h0 h2 (x:=.int k 0) rfl ?_);refine Kz (m:=seqItems? (.ref t)) (LS g0 g1 ?_);simp only [Ls,hv];refine Kz (wpAny_setField h0 h2 (by simp) (KQ ⟨v,rfl,KQ (hQ _ ⟨_,LW _ h0 (Obj.isFreed_of_fields (Obj.data_mapFields h2 _)),(Obj.cls_mapFields ..).trans h1,?_⟩ (Heap.SameBut.update ..))⟩));rw [Obj.data_mapFields h2];simp [rawInt]
theorem mv{j t:Addr}{k:Nat}{xs:Array Value}{Q:Value->Shared->Prop}(hh:A.handled=none)(hj:s.heap.IsTupleIter j t k)(ht:s.heap.IsTuple t xs)(hv:xs[k]? = none)
  (hE:∀ g e,Heap.ExtBut j s.heap g->(∃ o,g.get? e=some o/\o.cls=.type "StopIteration")->E (.ref e) { s with heap:=g }):wpAny (model prog w) A (Builtin.SmallTypes.nextOf (.ref j)) Q E s:=by
 obtain⟨oj,h0,h1,h2⟩:=id hj;obtain⟨ot,g0,_,n,g1⟩:=ht;unfold Builtin.SmallTypes.nextOf;refine wpAny_bind (wpAny_callSpecial?_slot (name:=Str.ofString "__next__") hj.typeIs F.slot_tuple_iterator_next (wpAny_call_entry F.slot_tuple_iterator_next hj.typeIs F.entry_tuple_iterator_next ?_ (F.args_tuple_iterator_next_1 _)));refine wpAny_bind (m:=field (.ref j) 0) (wpAny_field h0 h2 (x:=.ref t) rfl ?_)
 show wpAny _ _ (if (Value.ref t == Value.none)=true then _ else _) _ _ _
 rw [KU (show ¬ ((.ref t:Value) == .none)=true from Lb)];refine Kz (m:=field (.ref j) 1) (LI h0 h2 (x:=.int k 0) rfl ?_);refine Kz (m:=seqItems? (.ref t)) (LS g0 g1 ?_);simp only [Ls,hv];refine Kz (Og (Kz (wpAny_setField h0 h2 (by simp) (Kz (m:=newExc (.type "StopIteration") []) ?_))));simp only [newExc,newTuple];refine Kz (wpAny_newObj_type (Kz (m:=firstArgMember _ _) (wpAny_of_eq (a:=Value.none) (by first|rfl|(simp only [firstArgMember];rfl)) (wpAny_newObj_type ?_ (by size_fits)))) (by size_fits));simp only [raiseNew]
 refine Kz (wpAny_handled ?_);first|rw [show A.in1.handled=none from hh]|rw [hh]
 exact Kz (KQ (wpAny_throw (hE _ _ (((Heap.SameBut.update ..).extBut.push _).push _) ⟨_,KR _ rfl,rfl⟩)))
theorem Ay(it l:Addr)(hne:l ≠ it)(xs:Array Value):Src prog w it [it,l] (λ k h=>h.IsTupleIter it l k/\h.IsTuple l xs) (λ k=>xs[k]?) where
 mem:=KL
 there:=λ k h st b hb=>by
  rcases K2.mp hb with e|hb
  ·obtain⟨o,q,_⟩:=st.1;exact⟨o,by rw [e];exact q⟩
  ·obtain⟨o,q,_⟩:=st.2;exact⟨o,by rw [KN.mp hb];exact q⟩
 keep:=λ k h h' st q=>⟨st.1.at λ o e=>q it (by simp) o e,st.2.at λ o e=>q l (by simp) o e⟩
 item:=λ A k s v Q E st hv hQ=>ky st.1 st.2 hv λ h' a b=>hQ h' ⟨a,st.2.extBut b.extBut hne⟩ b
 fin:=λ A k s Q E hh st hv hE=>mv hh st.1 st.2 hv hE
structure dF(z TI TO i j:Addr)(f g:List Addr):Prop where
 ti:TI ≠ z/\TI ≠ TO/\TI ≠ i/\TI ≠ j
 zt:z ≠ TO
 zf:z ∉ f
 zg:z ∉ g
 tf:TO ∉ f
 tg:TO ∉ g
 ig:i ∉ g
 jf:j ∉ f
variable {z TI TO i j:Addr}{f g:List Addr}{ti tj:Nat->Heap->Prop}{vi vj:Nat->Option Value}{k m:Nat}{x y a b:Value}
theorem cx{p q:Addr}{l:List Addr}(hp:p∈l)(hq:q ∉ l):p ≠ q:=λ e=>hq (e ▸ hp)
theorem Src.but{prog:Program}{w:World}{it:Addr}{fr:List Addr}{st:Nat->Heap->Prop}{val:Nat->Option Value}(S:Src prog w it fr st val){k:Nat}{c:Addr}{h h':Heap}(q:st k h)(e:Heap.ExtBut c h h')(hc:c ∉ fr):st k h':=
 S.keep k h h' q λ b hb o ho=>e b o (cx hb hc) ho
theorem t7(S:Src prog w i f ti vi)(T:Src prog w j g tj vj)(D:dF z TI TO i j f g){Q:Value->Shared->Prop}
  (hz:IsZip s.heap z TI TO .none) (hTI:IsPair s.heap TI (.ref i) (.ref j)) (hTO:IsPair s.heap TO a b) (hi:ti k s.heap) (hj:tj m s.heap) (hx:vi k=some x) (hy:vj m=some y)
  (hQ:∀ h',IsZip h' z TI TO (rawInt s.heap.objs.size)->IsPair h' TO x y->ti (k+1) h'->tj (m+1) h'->IsPair h' s.heap.objs.size x y->h'.objs.size=s.heap.objs.size+1->(∀ c o,c ∉ [z,TO,i,j]->s.heap.get? c=some o->h'.get? c=some o)->Q (.ref s.heap.objs.size) { s with heap:=h' }) :
  wpAny (model prog w) A (Builtin.«zip.__next__» ⟨[.ref z],[]⟩) (λ fin s'=>∃ v,fin=.done (.ret v)/\Q v s') E s:=by
 have iz:i ≠ z:=cx S.mem D.zf;have jz:j ≠ z:=cx T.mem D.zg;have iTO:i ≠ TO:=cx S.mem D.tf;have jTO:j ≠ TO:=cx T.mem D.tg;have ij:i ≠ j:=cx S.mem D.jf;refine wpAny_bind (m:=field (.ref z) 2) (wpAny_field hz rfl (x:=.bool false) rfl ?_);refine wpAny_bind (m:=field (.ref z) 3) (wpAny_field hz rfl (x:=.ref TI) rfl (wpAny_bind (wpAny_seqItems hTI rfl ?_)));refine wpAny_bind (m:=Builtin.SmallTypes.ownedTupleIsFree (.ref z)) ?_;unfold Builtin.SmallTypes.ownedTupleIsFree;refine wpAny_bind (wpAny_field hz rfl (x:=.none) rfl (wpAny_pure ?_));simp only [if_true];refine wpAny_bind (wpAny_rule (wpAny_bind (wpAny_field hz rfl (x:=.ref TO) rfl (wpAny_bind (wpAny_setField_rec hz (by simp) λ q1 z1 s1=>?_)))));replace z1:IsZip q1 z TI TO .ellipsis:=z1;refine wpAny_bind ?_;simp only [List.zipIdx_cons,List.zipIdx_nil,forIn_cons,List.forIn_nil];refine wpAny_bind (wpAny_bind (wpAny_onRaise (wpAny_bind (m:=Builtin.SmallTypes.nextOf (.ref i)) (S.item _ k _ x _ _ (S.but hi s1.extBut D.zf) hx λ q2 i2 s2=>wpAny_pure ?_))));have o2:IsPair q2 TO a b:=s2.extBut _ _ iTO.symm (s1.extBut _ _ D.zt.symm hTO);refine wpAny_bind (wpAny_seqItems o2 rfl (wpAny_bind (wpAny_updateSeq_pair o2 λ q3 o3 s3=>wpAny_bind (wpAny_letGo (wpAny_pure ?_)))));replace o3:IsPair q3 TO x b:=o3;have j3:tj m q3:=T.but (T.but (T.but hj s1.extBut D.zg) s2.extBut D.ig) s3.extBut D.tg;refine wpAny_bind (wpAny_bind (wpAny_onRaise (wpAny_bind (m:=Builtin.SmallTypes.nextOf (.ref j)) (T.item _ m _ y _ _ j3 hy λ q4 j4 s4=>wpAny_pure ?_))));have o4:IsPair q4 TO x b:=s4.extBut _ _ jTO.symm o3;refine wpAny_bind (wpAny_seqItems o4 rfl (wpAny_bind (wpAny_updateSeq_pair o4 λ q5 o5 s5=>wpAny_bind (wpAny_letGo (wpAny_pure (wpAny_pure ?_))))));replace o5:IsPair q5 TO x y:=o5;refine wpAny_bind (wpAny_seqItems o5 rfl (wpAny_bind (wpAny_newTuple ?_)));have sz:q5.objs.size=s.heap.objs.size:=by rw [s5.1,s4.1,s3.1,s2.1,s1.1]
 have z5:IsZip q5 z TI TO .ellipsis:=s5.extBut _ _ D.zt (s4.extBut _ _ jz.symm (s3.extBut _ _ D.zt (s2.extBut _ _ iz.symm z1)))
 have k5:∀ c o,c ∉ [z,TO,i,j]->s.heap.get? c=some o->q5.get? c=some o:=λ c o hc e=>by
  simp only [K2,KJ,LB,Nz] at hc;exact s5.extBut _ _ hc.2.1 (s4.extBut _ _ hc.2.2.2 (s3.extBut _ _ hc.2.1 (s2.extBut _ _ hc.2.2.1 (s1.extBut _ _ hc.1 e))))
 have i5:ti (k+1) q5:=S.but (S.but (S.but i2 s3.extBut D.tf) s4.extBut D.jf) s5.extBut D.tf;have j5:tj (m+1) q5:=T.but j4 s5.extBut D.tg;have zlt:z < q5.objs.size:=Heap.lt_size z5;refine wpAny_bind (m:=Builtin.SmallTypes.ownedTupleHandOut (.ref z) (.ref q5.objs.size)) ?_;unfold Builtin.SmallTypes.ownedTupleHandOut;have z6:IsZip (q5.push { cls:=.type "tuple",data:=.seq #[x,y] }) z TI TO .ellipsis:=Heap.get?_push_of_some _ z5;refine wpAny_bind (wpAny_setField_rec z6 (by simp) λ q7 z7 s7=>?_);replace z7:IsZip q7 z TI TO (rawInt q5.objs.size):=z7;refine wpAny_setField_rec z7 (by simp) λ q8 z8 s8=>?_;replace z8:IsZip q8 z TI TO (rawInt q5.objs.size):=z8;have up:∀ c o,c ≠ z->q5.get? c=some o->q8.get? c=some o:=λ c o hc e=>s8.extBut _ _ hc (s7.extBut _ _ hc (Heap.get?_push_of_some _ e));have t8:IsPair q8 q5.objs.size x y:=s8.extBut _ _ (Nat.ne_of_gt zlt) (s7.extBut _ _ (Nat.ne_of_gt zlt) (Heap.get?_push_size _ rfl));have n8:q8.objs.size=q5.objs.size+1:=by rw [s8.1,s7.1,Heap.size_push]
 rw [sz] at z8 t8 n8;refine KQ ⟨_,rfl,?_⟩
 show Q (.ref q5.objs.size) _
 rw [sz];exact hQ q8 z8 (up _ _ D.zt.symm o5) (S.keep _ _ _ i5 λ c hc o e=>up c o (cx hc D.zf) e) (T.keep _ _ _ j5 λ c hc o e=>up c o (cx hc D.zg) e) t8 n8 λ c o hc e=>up c o (λ q=>hc (by simp [q])) (k5 c o hc e)
theorem wG(hh:A.handled=none)(S:Src prog w i f ti vi)(T:Src prog w j g tj vj)(D:dF z TI TO i j f g){Q:Fin->Shared->Prop}
  (hz:IsZip s.heap z TI TO .none) (hTI:IsPair s.heap TI (.ref i) (.ref j)) (hTO:IsPair s.heap TO a b) (hi:ti k s.heap) (hj:tj m s.heap) (hxy:vi k=none\/vj m=none)
  (hE:∀ h' e,(∀ c o,c ∉ [z,TO,i,j]->s.heap.get? c=some o->h'.get? c=some o)->(∃ o,h'.get? e=some o/\o.cls=.type "StopIteration")->E (.ref e) { s with heap:=h' }) :
  wpAny (model prog w) A (Builtin.«zip.__next__» ⟨[.ref z],[]⟩) Q E s:=by
 have iz:i ≠ z:=cx S.mem D.zf;have jz:j ≠ z:=cx T.mem D.zg;have iTO:i ≠ TO:=cx S.mem D.tf;have jTO:j ≠ TO:=cx T.mem D.tg;refine wpAny_bind (m:=field (.ref z) 2) (wpAny_field hz rfl (x:=.bool false) rfl ?_);refine wpAny_bind (m:=field (.ref z) 3) (wpAny_field hz rfl (x:=.ref TI) rfl (wpAny_bind (wpAny_seqItems hTI rfl ?_)));refine wpAny_bind (m:=Builtin.SmallTypes.ownedTupleIsFree (.ref z)) ?_;unfold Builtin.SmallTypes.ownedTupleIsFree;refine wpAny_bind (wpAny_field hz rfl (x:=.none) rfl (wpAny_pure ?_));simp only [if_true];refine wpAny_bind (wpAny_rule (wpAny_bind (wpAny_field hz rfl (x:=.ref TO) rfl (wpAny_bind (wpAny_setField_rec hz (by simp) λ q1 z1 s1=>?_)))));replace z1:IsZip q1 z TI TO .ellipsis:=z1;refine wpAny_bind ?_;simp only [List.zipIdx_cons,List.zipIdx_nil,forIn_cons,List.forIn_nil];refine wpAny_bind (wpAny_bind (wpAny_onRaise (wpAny_bind (m:=Builtin.SmallTypes.nextOf (.ref i)) ?_)))
 cases hx:vi k with
 | none=>
  refine S.fin _ k _ _ _ hh (S.but hi s1.extBut D.zf) hx λ q2 e s2 ⟨oe,he,hce⟩=>?_;have z2:IsZip q2 z TI TO .ellipsis:=s2 _ _ iz.symm z1;have ez:e ≠ z:=λ q=>by subst q;rw [z2] at he;cases he;simp at hce
  refine Mc z2 (by simp) λ q3 _ s3=>hE q3 e (λ c o hc q=>?_) ⟨oe,s3.extBut _ _ ez he,hce⟩;simp only [K2,KJ,LB,Nz] at hc;exact s3.extBut _ _ hc.1 (s2 _ _ hc.2.2.1 (s1.extBut _ _ hc.1 q))
 | some x=>
  have hy:vj m=none:=hxy.resolve_left (by rw [hx];exact Option.some_ne_none x);refine S.item _ k _ x _ _ (S.but hi s1.extBut D.zf) hx λ q2 i2 s2=>KQ ?_;have o2:IsPair q2 TO a b:=s2.extBut _ _ iTO.symm (s1.extBut _ _ D.zt.symm hTO);refine Kz (LS o2 rfl (Kz (Oi o2 λ q3 o3 s3=>Kz (OD (KQ ?_)))));have j3:tj m q3:=T.but (T.but (T.but hj s1.extBut D.zg) s2.extBut D.ig) s3.extBut D.tg;refine Kz (Kz (OK (Kz (m:=Builtin.SmallTypes.nextOf (.ref j)) (T.fin _ m _ _ _ hh j3 hy λ q4 e s4 ⟨oe,he,hce⟩=>?_))));have z4:IsZip q4 z TI TO .ellipsis:=s4 _ _ jz.symm (s3.extBut _ _ D.zt (s2.extBut _ _ iz.symm z1));have ez:e ≠ z:=λ q=>by subst q;rw [z4] at he;cases he;simp at hce
  refine Mc z4 (by simp) λ q5 _ s5=>hE q5 e (λ c o hc q=>?_) ⟨oe,s5.extBut _ _ ez he,hce⟩;simp only [K2,KJ,LB,Nz] at hc;exact s5.extBut _ _ hc.1 (s4 _ _ hc.2.2.2 (s3.extBut _ _ hc.2.1 (s2.extBut _ _ hc.2.2.1 (s1.extBut _ _ hc.1 q))))
theorem eN(S:Src prog w i f ti vi)(T:Src prog w j g tj vj)(D:dF z TI TO i j f g){Q:Option Value->Shared->Prop}
  (hz:IsZip s.heap z TI TO .none) (hTI:IsPair s.heap TI (.ref i) (.ref j)) (hTO:IsPair s.heap TO a b) (hi:ti k s.heap) (hj:tj m s.heap) (hx:vi k=some x) (hy:vj m=some y)
  (hQ:∀ h',IsZip h' z TI TO (rawInt s.heap.objs.size)->IsPair h' TO x y->ti (k+1) h'->tj (m+1) h'->IsPair h' s.heap.objs.size x y->h'.objs.size=s.heap.objs.size+1->(∀ c o,c ∉ [z,TO,i,j]->s.heap.get? c=some o->h'.get? c=some o)->Q (some (.ref s.heap.objs.size)) { s with heap:=h' }) :
  wpAny (model prog w) A (pyNext (.ref z)) Q E s:=by
 have ty:s.TypeIs (.ref z) "zip":=⟨_,hz,rfl⟩;unfold pyNext;exact wpAny_bind (wpAny_attempt (wpAny_callSpecial?_slot (name:=Str.ofString "__next__") ty F.slot_zip_next (wpAny_call_entry F.slot_zip_next ty F.entry_zip_next (t7 S T D hz hTI hTO hi hj hx hy λ h' c1 c2 c3 c4 c5 c6 c7=>wpAny_pure (hQ h' c1 c2 c3 c4 c5 c6 c7)) (F.args_zip_next_1 _))))
theorem fK(hh:A.handled=none)(S:Src prog w i f ti vi)(T:Src prog w j g tj vj)(D:dF z TI TO i j f g){Q:Option Value->Shared->Prop}
  (hz:IsZip s.heap z TI TO .none) (hTI:IsPair s.heap TI (.ref i) (.ref j)) (hTO:IsPair s.heap TO a b) (hi:ti k s.heap) (hj:tj m s.heap) (hxy:vi k=none\/vj m=none)
  (hQ:∀ h',(∀ c o,c ∉ [z,TO,i,j]->s.heap.get? c=some o->h'.get? c=some o)->Q none { s with heap:=h' }):wpAny (model prog w) A (pyNext (.ref z)) Q E s:=by
 have ty:s.TypeIs (.ref z) "zip":=⟨_,hz,rfl⟩;unfold pyNext;refine wpAny_bind (wpAny_attempt (wpAny_callSpecial?_slot (name:=Str.ofString "__next__") ty F.slot_zip_next (wpAny_call_entry F.slot_zip_next ty F.entry_zip_next (wG (show A.in1.handled=none from hh) S T D hz hTI hTO hi hj hxy λ h' e kp he=>?_) (F.args_zip_next_1 _))));obtain⟨o,ho,hc⟩:=he;exact wpAny_bind (wpAny_isInstance (T := "StopIteration") (b:=true) ⟨o,ho,hc⟩ isSubtype_stop (wpAny_pure (hQ _ kp)))
end
def SeqAt(h:Heap)(k:Bool)(l:Addr)(xs:Array Value):Prop:=match k with
 | true=>h.IsTuple l xs
 | false=>h.IsList l xs
def b6(h:Heap)(k:Bool)(it l:Addr)(n:Nat):Prop:=match k with
 | true=>h.IsTupleIter it l n
 | false=>h.IsListIter it l n
def wy(k:Bool)(l:Addr):Obj:=match k with
 | true=>{ cls:=.type "tuple_iterator",data:=.fields #[.ref l,.int 0 0] }
 | false=>{ cls:=.type "list_iterator",data:=.fields #[.ref l,.int 0 0] }
theorem SeqAt.at{h h':Heap}{k:Bool}{l:Addr}{xs:Array Value}(q:SeqAt h k l xs)(e:∀ o,h.get? l=some o->h'.get? l=some o):SeqAt h' k l xs:=by
 cases k
 ·exact Heap.IsList.at q e
 ·exact Heap.IsTuple.at q e
theorem SeqAt.obj{h:Heap}{k:Bool}{l:Addr}{xs:Array Value}(q:SeqAt h k l xs):∃ o n,h.get? l=some o/\o.data=.seq xs n:=by
 cases k
 ·obtain⟨o,e,_,n,d⟩:=(show h.IsList l xs from q);exact⟨o,n,e,d⟩
 ·obtain⟨o,e,_,n,d⟩:=(show h.IsTuple l xs from q);exact⟨o,n,e,d⟩
theorem b6.at{h h':Heap}{k:Bool}{it l:Addr}{n:Nat}(q:b6 h k it l n)(e:∀ o,h.get? it=some o->h'.get? it=some o):b6 h' k it l n:=by
 cases k
 ·exact Heap.IsListIter.at q e
 ·exact Heap.IsTupleIter.at q e
theorem b6.obj{h:Heap}{k:Bool}{it l:Addr}{n:Nat}(q:b6 h k it l n):∃ o fs,h.get? it=some o/\o.data=.fields fs:=by
 cases k
 ·obtain⟨o,e,_,d⟩:=(show h.IsListIter it l n from q);exact⟨o,_,e,d⟩
 ·obtain⟨o,e,_,d⟩:=(show h.IsTupleIter it l n from q);exact⟨o,_,e,d⟩
theorem gn{prog:Program}{w:World}(k:Bool)(it l:Addr)(hne:l ≠ it)(xs:Array Value):Src prog w it [it,l] (λ n h=>b6 h k it l n/\SeqAt h k l xs) (λ n=>xs[n]?):=by
 cases k
 ·exact wU it l hne xs
 ·exact Ay it l hne xs
section
variable {prog:Program}{w:World}{A:Around}{E:Value->Shared->Prop}{s:Shared}
theorem tu{k:Bool}{l:Addr}{xs:Array Value}{Q:Value->Shared->Prop}(h:SeqAt s.heap k l xs)(hQ:Q (.ref s.heap.objs.size) { s with heap:=s.heap.push (wy k l) }):wpAny (model prog w) A (pyIter (.ref l)) Q E s:=by
 cases k
 ·exact Mh h hQ
 ·exact wpAny_pyIter_tuple h hQ
abbrev zq1(ka:Bool)(a:Addr)(h:Heap):Heap:=h.push (wy ka a)
abbrev zq2(ka kb:Bool)(a b:Addr)(h:Heap):Heap:=(zq1 ka a h).push (wy kb b)
abbrev zq3(ka kb:Bool)(a b:Addr)(h:Heap):Heap:=(zq2 ka kb a b h).push { cls:=.type "tuple",data:=.seq #[.ref h.objs.size,.ref (zq1 ka a h).objs.size] }
abbrev zq4(ka kb:Bool)(a b:Addr)(h:Heap):Heap:=(zq3 ka kb a b h).push { cls:=.type "tuple",data:=.seq #[.none,.none] }
abbrev zq5(ka kb:Bool)(a b:Addr)(h:Heap):Heap:=(zq4 ka kb a b h).push { cls:=.type "zip",data:=.fields #[.none,.bool false,.bool false,.ref (zq2 ka kb a b h).objs.size,.ref (zq3 ka kb a b h).objs.size] }
theorem t5(ka kb:Bool)(a b:Addr)(xs ys:Array Value):Meets (Builtin.«zip.__new__» ⟨[.type "zip",.ref a,.ref b],[]⟩) (λ _ R s=>SeqAt s.heap ka a xs/\SeqAt s.heap kb b ys/\R (.ok (.ret (.ref (zq4 ka kb a b s.heap).objs.size))) { s with heap:=zq5 ka kb a b s.heap }):=
 .of_wp λ prog w A R s h=>by
  obtain⟨hp,g,d,tk,os⟩:=s;obtain⟨h1,h2,h⟩:=h;have hsub:=sub_zip;have q1:SeqAt (Shared.heap ⟨hp,g,d,tk,os⟩) ka a xs:=h1;have q2:SeqAt (Shared.heap ⟨hp.push (wy ka a),g,d,tk,os⟩) kb b ys:=h2.at λ o e=>KC _ e
  wp_walk using tu q1,tu q2
  exact⟨_,rfl,h⟩
theorem tN{ka kb:Bool}{a b:Addr}{xs ys:Array Value}{Q:Value->Shared->Prop}(h1:SeqAt s.heap ka a xs)(h2:SeqAt s.heap kb b ys)
  (h:∀ h' n,n=s.heap.objs.size->IsZip h' (n+4) (n+2) (n+3) .none->IsPair h' (n+2) (.ref n) (.ref (n+1))->IsPair h' (n+3) .none .none->b6 h' ka n a 0->b6 h' kb (n+1) b 0->h'.objs.size=n+5->(∀ c o,s.heap.get? c=some o->h'.get? c=some o)->Q (.ref (n+4)) { s with heap:=h' }) :
  wpAny (model prog w) A (call (.type "zip") [.ref a,.ref b]) Q E s:=by
 refine callType_new F.called_zip (by decide) (F.typeCall_zip_2 _ _) (F.newCall_zip_2 _ _) (λ ob=>F.args_object_init_3 ob _ _) F.entry_zip_new (t5 ka kb a b xs ys) ⟨h1,h2,?_⟩;have n1:(zq1 ka a s.heap).objs.size=s.heap.objs.size+1:=LF ..;have n2:(zq2 ka kb a b s.heap).objs.size=s.heap.objs.size+2:=by rw [LF,n1]
 have n3:(zq3 ka kb a b s.heap).objs.size=s.heap.objs.size+3:=by rw [LF,n2]
 have n4:(zq4 ka kb a b s.heap).objs.size=s.heap.objs.size+4:=by rw [LF,n3]
 have n5:(zq5 ka kb a b s.heap).objs.size=s.heap.objs.size+5:=by rw [LF,n4]
 have f1:b6 (zq1 ka a s.heap) ka s.heap.objs.size a 0:=by
  cases ka<;>exact⟨_,KR _ rfl,rfl,rfl⟩
 have f2:b6 (zq2 ka kb a b s.heap) kb (zq1 ka a s.heap).objs.size b 0:=by
  cases kb<;>exact⟨_,KR _ rfl,rfl,rfl⟩
 have u2:∀ c o,(zq2 ka kb a b s.heap).get? c=some o->(zq5 ka kb a b s.heap).get? c=some o:=λ c o e=>KC _ (KC _ (KC _ e));have g5:(zq5 ka kb a b s.heap).get? (zq4 ka kb a b s.heap).objs.size=some _:=KR _ rfl;have g4:(zq5 ka kb a b s.heap).get? (zq3 ka kb a b s.heap).objs.size=some _:=KC _ (KR _ rfl);have g3:(zq5 ka kb a b s.heap).get? (zq2 ka kb a b s.heap).objs.size=some _:=KC _ (KC _ (KR _ rfl));have e1:b6 (zq5 ka kb a b s.heap) ka s.heap.objs.size a 0:=f1.at λ o e=>u2 _ o (KC _ e);have e2:b6 (zq5 ka kb a b s.heap) kb (zq1 ka a s.heap).objs.size b 0:=f2.at λ o e=>u2 _ o e
 show _/\_
 rw [n2,n3,n4] at g5;rw [n1,n2] at g3;rw [n3] at g4;rw [n1] at e2;rw [n4];exact⟨⟨_,g5,rfl⟩,h _ _ rfl g5 g3 g4 e1 e2 n5 λ c o e=>u2 c o (KC _ (KC _ e))⟩
end
section
variable {X:Cx}{pins:List (Addr × Obj)}{σ:List (Option V)}{H:Hp}{s:Shared}{h':Heap}
theorem Inv.turnNew{t':Nat}{ch:List Addr}{n:Addr}{o:HO}(I:Inv X pins σ H s)(hch:∀ b∈ch,kM X pins H b)(k:∀ b ob,b ∉ ch->s.heap.get? b=some ob->h'.get? b=some ob)(hn:s.heap.objs.size<=n)(new:aO X.prog X.w (upd H n o) h' n o) :
  Inv X pins σ (upd H n o) { s with heap:=h',toks:=t' }:=by
 have fn:=I.hok.fresh hn;have up:∀ {b u},H b=some u->upd H n o b=some u:=λ {b u} e=>by rw [af (bz e fn)];exact e
 have nch:∀ {b u},H b=some u->b ∉ ch:=λ {b u} e z=>by rw [(hch b z).1] at e;cases e
 refine I.step (g':=s.gens) (d':=s.drawn) (ch:=ch) (λ b hb=>⟨(hch b hb).2.2.2.1,(hch b hb).2.1,(hch b hb).2.2.2.2.1,(hch b hb).2.2.2.2.2⟩) (λ b ob _ _ hc e _=>k b ob hc e) (λ b ob _ _ hc e _=>⟨ob.slots,k b ob hc e⟩)
  (λ b ob _ e q=>?_) (λ b ob hc e=>⟨ob,k b ob hc e⟩) (λ _ _ e=>up e) (λ _ _ _ e=>up e) (λ b ps e=>⟨#[],by rw [up e];simp⟩) (λ m hm=>?_) (λ b u e=>?_) I.bare
 ·rw [af (K0 (Le (KD e) hn))];exact q
 ·obtain⟨ol,es,ep,ho,r⟩:=hm;exact⟨ol,es,ep,k _ ol (λ z=>(hch _ z).2.1 rfl) ho,r⟩
 ·by_cases hb:b=n
  ·subst hb;rw [ah] at e;cases e;exact new
  ·rw [af hb] at e;refine(I.hok b u e).stay (λ c v hc q=>k c v ?_ q) (λ c q=>up q) λ c xs q=>up q
   rcases hc with rfl|hc
   ·exact nch e
   ·exact nch hc
theorem Inv.turnL{t':Nat}{ch:List Addr}(I:Inv X pins σ H s)(hch:∀ b∈ch,kM X pins H b)(k:∀ b ob,b ∉ ch->s.heap.get? b=some ob->h'.get? b=some ob):Inv X pins σ H { s with heap:=h',toks:=t' }:=by
 have nch:∀ {b u},H b=some u->b ∉ ch:=λ {b u} e z=>by rw [(hch b z).1] at e;cases e
 refine I.step (g':=s.gens) (d':=s.drawn) (ch:=ch) (λ b hb=>⟨(hch b hb).2.2.2.1,(hch b hb).2.1,(hch b hb).2.2.2.2.1,(hch b hb).2.2.2.2.2⟩) (λ b ob _ _ hc e _=>k b ob hc e) (λ b ob _ _ hc e _=>⟨ob.slots,k b ob hc e⟩)
  (λ _ _ _ _ q=>q) (λ b ob hc e=>⟨ob,k b ob hc e⟩) (λ _ _ e=>e) (λ _ _ _ e=>e) (λ b ps e=>⟨#[],by rw [e];simp⟩) (λ m hm=>?_) (λ b u e=>?_) I.bare
 ·obtain⟨ol,es,ep,ho,r⟩:=hm;exact⟨ol,es,ep,k _ ol (λ z=>(hch _ z).2.1 rfl) ho,r⟩
 ·refine(I.hok b u e).stay (λ c v hc q=>k c v ?_ q) (λ _ q=>q) λ _ _ q=>q
  rcases hc with rfl|hc
  ·exact nch e
  ·exact nch hc
end
def SqK(k:Bool)(H:Hp)(a:Addr)(xs:List V):Prop:=match k with
 | true=>H a=some (.tup xs)
 | false=>H a=some (.lst xs)
theorem SqK.ne{k:Bool}{H:Hp}{a b:Addr}{xs:List V}(h:SqK k H a xs)(e:H b=none):a ≠ b:=λ z=>by
 subst z;cases k
 ·rw [show H a=some (.lst xs) from h] at e;cases e
 ·rw [show H a=some (.tup xs) from h] at e;cases e
theorem Inv.sq{X:Cx}{pins:List (Addr × Obj)}{σ:St}{H:Hp}{s:Shared}{k:Bool}{a:Addr}{xs:List V}(I:Inv X pins σ H s)(h:SqK k H a xs):∃ its:List Value,aK xs its/\SeqAt s.heap k a its.toArray:=by
 cases k
 ·obtain⟨its,r,p,_⟩:=I.list (SqL.of h);exact⟨its,r,p.isList⟩
 ·obtain⟨its,r,p,_⟩:=I.tuple (SqT.of h);exact⟨its,r,p⟩
def Itz(ka kb:Bool)(a b:Addr)(xs ys:List V):It:=
 ⟨λ i H=>SqK ka H a xs/\SqK kb H b ys/\i < xs.length/\i < ys.length,λ i H x H'=>∃ p u v,H p=none/\x=.ref p/\xs[i]? = some u/\ys[i]? = some v/\H'=upd H p (.tup [u,v]),λ i H=>SqK ka H a xs/\SqK kb H b ys/\(xs.length<=i\/ys.length<=i)⟩
def Tnz(ka kb:Bool)(a b z TI TO p q:Addr)(i:Nat)(h:Heap):Prop:=IsZip h z TI TO .none/\IsPair h TI (.ref p) (.ref q)/\(∃ u v,IsPair h TO u v)/\b6 h ka p a i/\b6 h kb q b i
theorem wN{P:Program}{w:World}{K:W.Frag}{elts:List Expr}{x1}{tp:Pos}(ka kb:Bool)(a b z TI TO p q:Addr)(xs ys:List V)(nd:[z,TI,TO,p,q].Nodup):vX P w K (.Tuple elts x1 tp) (Itz ka kb a b xs ys) [z,TI,TO,p,q] z (Tnz ka kb a b z TI TO p q) where
 mem:=KL
 obj:=λ i h st c hc=>by
  obtain⟨e1,e2,⟨u,v,e3⟩,e4,e5⟩:=st;simp only [K2,KJ,LB] at hc
  rcases hc with rfl|rfl|rfl|rfl|rfl
  ·exact⟨_,e1,λ v z=>by cases z⟩
  ·exact⟨_,e2,λ v z=>by cases z⟩
  ·exact⟨_,e3,λ v z=>by cases z⟩
  ·obtain⟨o,fs,e,d⟩:=e4.obj;exact⟨o,e,λ v z=>by rw [d] at z;cases z⟩
  ·obtain⟨o,fs,e,d⟩:=e5.obj;exact⟨o,e,λ v z=>by rw [d] at z;cases z⟩
 keep:=λ i h h' st k=>by
  obtain⟨e1,e2,⟨u,v,e3⟩,e4,e5⟩:=st;exact⟨k z (by simp) _ e1,k TI (by simp) _ e2,⟨u,v,k TO (by simp) _ e3⟩,e4.at λ o e=>k p (by simp) o e,e5.at λ o e=>k q (by simp) o e⟩
 item:=by
  intro X hP hw hK hc i pins s σ H E I hf st hg;subst hP hw hK;obtain⟨e1,e2,⟨u0,v0,e3⟩,e4,e5⟩:=st;obtain⟨ha,hb,l1,l2⟩:=hg;obtain⟨as,ra,sa⟩:=I.sq ha;obtain⟨bs,rb,sb⟩:=I.sq hb;have hx:xs[i]? = some xs[i]:=KA l1;have hy:ys[i]? = some ys[i]:=KA l2;obtain⟨u,hu,ru⟩:=ra.get hx;obtain⟨v,hv,rv⟩:=rb.get hy;have free:∀ c∈[z,TI,TO,p,q],H c=none:=λ c h=>(hf c h).1;have naz:∀ c∈[z,TI,TO,p,q],a ≠ c:=λ c h=>ha.ne (free c h);have nbz:∀ c∈[z,TI,TO,p,q],b ≠ c:=λ c h=>hb.ne (free c h);simp only [Lv,K2,KJ,LB,Nz,M8,and_true,LL] at nd;obtain⟨⟨z1,z2,z3,z4⟩,⟨t1,t2,t3⟩,⟨w1,w2⟩,y1⟩:=nd;have S:=gn (prog:=X.prog) (w:=X.w) ka p a (naz p (by simp)) as.toArray;have T:=gn (prog:=X.prog) (w:=X.w) kb q b (nbz q (by simp)) bs.toArray;have D:dF z TI TO p q [p,a] [q,b]:=⟨⟨Ld z1,t1,t2,t3⟩,z2,by simp [z3,Ld (naz z (by simp))],by simp [z4,Ld (nbz z (by simp))],by simp [w1,Ld (naz TO (by simp))],by simp [w2,Ld (nbz TO (by simp))],by simp [y1,Ld (nbz p (by simp))],by simp [Ld y1,Ld (naz q (by simp))]⟩;refine eN S T D e1 e2 e3 ⟨e4,sa⟩ ⟨e5,sb⟩ (x:=u) (y:=v) (by simpa using hu) (by simpa using hv) λ h1 c1 c2 c3 c4 c5 c6 c7=>?_;refine⟨_,rfl,wpAny_letOwnedTupleGo_zip (s:={ s with heap:=h1 }) c1 λ h2 d1 d2=>?_⟩;have lt:z < s.heap.objs.size:=KD e1;have kp:∀ c o,c ∉ [z,TO,p,q]->s.heap.get? c=some o->h2.get? c=some o:=λ c o hc e=>d2.extBut _ _ (λ q=>hc (by simp [q])) (c7 c o hc e);have hn:h2.get? s.heap.objs.size=some { cls:=.type "tuple",data:=.seq #[u,v] }:=d2.extBut _ _ (LA lt) c5;have I2:Inv X pins σ (upd H s.heap.objs.size (.tup [xs[i],ys[i]])) { s with heap:=h2 }:=I.turnNew (t':=s.toks) (ch:=[z,TO,p,q]) (λ c hc=>hf c (by simp only [K2,KJ,LB] at hc ⊢;rcases hc with h|h|h|h<;>simp [h])) kp (KO _) ⟨(show 2<=sizeLine by decide),[u,v],.cons ru (.cons rv .nil),⟨_,hn,rfl,_,rfl⟩⟩;have fr:H s.heap.objs.size=none:=I.hok.fresh (KO _);refine⟨.ref s.heap.objs.size,_,I2,rfl,⟨_,_,_,fr,rfl,hx,hy,rfl⟩,⟨d1,d2.extBut _ _ (Ld z1) (c7 TI _ (by simp [Ld z1,t1,t2,t3]) e2),⟨u,v,d2.extBut _ _ (Ld z2) c2⟩,c3.1.at λ o e=>d2.extBut _ _ (Ld z3) e,c4.1.at λ o e=>d2.extBut _ _ (Ld z4) e⟩,λ c hc=>?_⟩
  obtain⟨o,ho,_⟩:∃ o,s.heap.get? c=some o/\True:=by
   simp only [K2,KJ,LB] at hc
   rcases hc with rfl|rfl|rfl|rfl|rfl
   ·exact⟨_,e1,trivial⟩
   ·exact⟨_,e2,trivial⟩
   ·exact⟨_,e3,trivial⟩
   ·obtain⟨o,_,e,_⟩:=e4.obj;exact⟨o,e,trivial⟩
   ·obtain⟨o,_,e,_⟩:=e5.obj;exact⟨o,e,trivial⟩
  rw [af (K0 (KD ho))];exact free c hc
 done:=by
  intro X hP hw hK hc i pins s σ H E I hf st hg;subst hP hw hK;obtain⟨e1,e2,⟨u0,v0,e3⟩,e4,e5⟩:=st;obtain⟨ha,hb,l⟩:=hg;obtain⟨as,ra,sa⟩:=I.sq ha;obtain⟨bs,rb,sb⟩:=I.sq hb;have free:∀ c∈[z,TI,TO,p,q],H c=none:=λ c h=>(hf c h).1;have naz:∀ c∈[z,TI,TO,p,q],a ≠ c:=λ c h=>ha.ne (free c h);have nbz:∀ c∈[z,TI,TO,p,q],b ≠ c:=λ c h=>hb.ne (free c h);simp only [Lv,K2,KJ,LB,Nz,M8,and_true,LL] at nd;obtain⟨⟨z1,z2,z3,z4⟩,⟨t1,t2,t3⟩,⟨w1,w2⟩,y1⟩:=nd;have S:=gn (prog:=X.prog) (w:=X.w) ka p a (naz p (by simp)) as.toArray;have T:=gn (prog:=X.prog) (w:=X.w) kb q b (nbz q (by simp)) bs.toArray;have D:dF z TI TO p q [p,a] [q,b]:=⟨⟨Ld z1,t1,t2,t3⟩,z2,by simp [z3,Ld (naz z (by simp))],by simp [z4,Ld (nbz z (by simp))],by simp [w1,Ld (naz TO (by simp))],by simp [w2,Ld (nbz TO (by simp))],by simp [y1,Ld (nbz p (by simp))],by simp [Ld y1,Ld (naz q (by simp))]⟩;have la:=ra.length;have lb:=rb.length;refine fK (I.ok.hd hc) S T D e1 e2 e3 ⟨e4,sa⟩ ⟨e5,sb⟩ (l.imp (λ h=>by simp;omega) λ h=>by simp;omega) λ h1 kp=>⟨rfl,I.turnL (t':=s.toks) (ch:=[z,TO,p,q]) (λ c hc=>hf c (by simp only [K2,KJ,LB] at hc ⊢;rcases hc with h|h|h|h<;>simp [h])) kp⟩
 self:=λ _ _ _ _ _ st h=>wpAny_pyIter_zip st.1 h
def kZ2(ka:Bool)(a b:Addr)(xs:List V)(H:Hp)(R:It->Hp->Prop):HO->Prop:=λ o=>match o with
 | .lst ys=>R (Itz ka false a b xs ys) H
 | .tup ys=>R (Itz ka true a b xs ys) H
 | _=>False
theorem Bw(ka:Bool)(a b:Addr)(xs ys:List V)(H:Hp)(R:It->Hp->Prop):kZ2 ka a b xs H R (.lst ys)=R (Itz ka false a b xs ys) H:=rfl
def kZ1(a b:Addr)(H:Hp)(R:It->Hp->Prop):HO->Prop:=λ o=>match o with
 | .lst xs=>aF (H b) (kZ2 false a b xs H R)
 | .tup xs=>aF (H b) (kZ2 true a b xs H R)
 | _=>False
theorem Bx(a b:Addr)(xs:List V)(H:Hp)(R:It->Hp->Prop):kZ1 a b H R (.lst xs)=aF (H b) (kZ2 false a b xs H R):=rfl
def kZ0(R:It->Hp->Prop):List V->Hp->Prop:=λ vs H=>match vs with
 | [.ref a,.ref b]=>aF (H a) (kZ1 a b H R)
 | _=>False
theorem IF(R:It->Hp->Prop)(a b:Addr)(H:Hp):kZ0 R [.ref a,.ref b] H=aF (H a) (kZ1 a b H R):=rfl
def J0(ta:TA):TI:=λ σ H R=>ta σ H (kZ0 R)
theorem Gb(ta:TA)(σ:St)(H:Hp)(R:It->Hp->Prop):J0 ta σ H R=ta σ H (kZ0 R):=rfl
theorem Gw{R:It->Hp->Prop}{vs:List V}{H:Hp}(h:kZ0 R vs H):∃ a b ka kb xs ys,vs=[.ref a,.ref b]/\SqK ka H a xs/\SqK kb H b ys/\R (Itz ka kb a b xs ys) H:=by
 unfold kZ0 at h;split at h
 ·rename_i a b;obtain⟨o,e,h⟩:=aj h;unfold kZ1 at h;split at h
  ·rename_i xs;obtain⟨o',e',h⟩:=aj h;unfold kZ2 at h;split at h
   ·exact⟨a,b,false,false,xs,_,rfl,e,e',h⟩
   ·exact⟨a,b,false,true,xs,_,rfl,e,e',h⟩
   ·exact h.elim
  ·rename_i xs;obtain⟨o',e',h⟩:=aj h;unfold kZ2 at h;split at h
   ·exact⟨a,b,true,false,xs,_,rfl,e,e',h⟩
   ·exact⟨a,b,true,true,xs,_,rfl,e,e',h⟩
   ·exact h.elim
  ·exact h.elim
 ·exact h.elim
section
variable {X:Cx}
theorem sg{a b:Expr}{elts:List Expr}{x1}{tp:Pos}{ta:TA}{p pos:Pos}(hg:Gl X "zip")(hm:X.mg "zip"=none)(ha:PA X [a,b] ta)(hs:starEach [a,b] X.env=[(false,eval a X.env),(false,eval b X.env)]:=by rfl)(hs2:starEach [b] X.env=[(false,eval b X.env)]:=by rfl) :
  PI X (.Tuple elts x1 tp) (.Call (.Name "zip" p) [a,b] [] pos) (J0 ta):=by
 intro pins s σ H R I h;refine Call_ (fA I hg hm (show bootBuiltins "zip"=some (.type "zip") by decide +kernel) (LM (thn (ha pos pins s σ H _ I h) λ us s1 ⟨vs,H1,I1,r1,q1⟩=>?_) (by rw [hs,hs2]) (by rw [hs2];rfl)));obtain⟨a,b,ka,kb,xs,ys,rfl,sa,sb,q⟩:=Gw q1
 cases r1 with
 | cons r rr=>
  cases rr with
  | cons r' rr=>
   cases rr;cases r;cases r';obtain⟨as,ra,s1a⟩:=I1.sq sa;obtain⟨bs,rb,s1b⟩:=I1.sq sb;refine tN s1a s1b λ h' n hn e1 e2 e3 e4 e5 e6 e7=>?_;have I2:Inv X pins σ H1 { s1 with heap:=h' }:=I1.kept (t':=s1.toks) e7;refine wpAny_pyIter_zip (s:={ s1 with heap:=h' }) e1 ⟨n+4,[n+4,n+2,n+3,n,n+1],_,_,H1,rfl,I2,wN ka kb a b (n+4) (n+2) (n+3) n (n+1) xs ys (by simp),⟨e1,e2,⟨_,_,e3⟩,e4,e5⟩,λ c hc=>?_,q⟩
   have hle:s1.heap.objs.size<=c:=by
    rw [←hn];simp only [K2,KJ,LB] at hc
    rcases hc with rfl|rfl|rfl|rfl|rfl
    ·exact Mi ..
    ·exact Mi ..
    ·exact Mi ..
    ·exact KO _
    ·exact Mi ..
   exact I1.fpOk hle (I1.hok.fresh hle)
end
def G3(te:TE)(σ2:St)(N1:VK)(N0:Hp->Prop):Bool->Hp->Prop:=λ b H=>if b=true then te σ2 H N1 else N0 H
theorem aZ(te:TE)(σ2:St)(N1:VK)(N0:Hp->Prop)(b:Bool)(H:Hp):G3 te σ2 N1 N0 b H=(if b=true then te σ2 H N1 else N0 H):=rfl
def kCm(k:Nat)(tt:TT)(te:TE)(σ:St)(N1:VK)(N0:Hp->Prop):St->Hp->Prop:=λ σ2 H=>(∃ vs:St,vs.length=k/\σ2=vs++σ)/\tt σ2 H (G3 te σ2 N1 N0)
theorem aM(tt:TT)(te:TE)(σ:St)(N1:VK)(N0:Hp->Prop)(a:Option V)(H:Hp):kCm 1 tt te σ N1 N0 (a::σ) H=tt (a::σ) H (G3 te (a::σ) N1 N0):=propext ⟨λ h=>h.2,λ h=>⟨⟨[a],rfl,rfl⟩,h⟩⟩
theorem hV(tt:TT)(te:TE)(σ:St)(N1:VK)(N0:Hp->Prop)(a b:Option V)(H:Hp):kCm 2 tt te σ N1 N0 (a::b::σ) H=tt (a::b::σ) H (G3 te (a::b::σ) N1 N0):=propext ⟨λ h=>h.2,λ h=>⟨⟨[a,b],rfl,rfl⟩,h⟩⟩
theorem Bh(σ:St):List.replicate 1 (none:Option V)++σ=none::σ:=rfl
theorem Bg(σ:St):List.replicate 2 (none:Option V)++σ=none::none::σ:=rfl
def Al{α:Type}(R:α->V->Prop)(zs:List α)(ys:List V):Prop:=ys.length=zs.length/\∀ (i:Nat) z y,zs[i]? = some z->ys[i]? = some y->R z y
theorem Al.nil{α:Type}{R:α->V->Prop}:Al R [] []:=⟨rfl,λ i z y h=>by simp at h⟩
theorem Al.snoc{α:Type}{R:α->V->Prop}{zs:List α}{ys:List V}{z:α}{y:V}(h:Al R zs ys)(r:R z y):Al R (zs++[z]) (ys++[y]):=by
 refine⟨by simp [h.1],λ i z' y' h1 h2=>?_⟩
 by_cases hi:i < zs.length
 ·rw [LD hi] at h1;rw [LD (by rw [h.1];exact hi)] at h2;exact h.2 i z' y' h1 h2
 ·rw [Lw (by omega)] at h1;rw [Lw (by rw [h.1];omega),h.1] at h2
  by_cases h0:i - zs.length=0
  ·rw [h0] at h1 h2;simp at h1 h2;subst h1;subst h2;exact r
  ·rw [Mm (by simp;omega)] at h1;cases h1
theorem Al.imp{α:Type}{R S:α->V->Prop}{zs:List α}{ys:List V}(h:Al R zs ys)(f:∀ z y,R z y->S z y):Al S zs ys:=⟨h.1,λ i z y a b=>f z y (h.2 i z y a b)⟩
theorem Al.map{α:Type}{f:α->V}{zs:List α}{ys:List V}(h:Al (λ z y=>y=f z) zs ys):ys=zs.map f:=by
 apply List.ext_getElem?;intro i;rw [La]
 by_cases hi:i < zs.length
 ·have e1:zs[i]? = some zs[i]:=KA hi;have e2:ys[i]? = some (ys[i]'(by rw [h.1];exact hi)):=KA _;rw [e1,e2,h.2 i _ _ e1 e2];rfl
 ·have:=h.1;rw [Mm (show ys.length<=i by omega),Mm (show zs.length<=i by omega)];rfl
section
variable {k:Nat}{g:TG}{tt:TT}{te:TE}{σ:St}{Q:VK}{H:Hp}{K:PySem.W.Frag}
theorem px{α:Type}{J:It}(zs:List α)(c:α->Bool)(P:α->V->Hp->Prop)(R:Addr->α->V->Hp->Prop)
  (hgo:∀ i z H',zs[i]? = some z->Ext H H'->J.go i H'/\∀ x H'',J.yld i H' x H''->Ext H' H''/\P z x H'')
  (hst:∀ H',Ext H H'->J.stop zs.length H')
  (hR1:∀ D z y H1 H2,R D z y H1->Ext H1 H2->R D z y H2) (hR2:∀ D z y H1 o,R D z y H1->R D z y (upd H1 D o))
  (hl:zs.length<=sizeLine)
  (hs:∀ D z x H' N1 N0,z∈zs->H D=none->Ext H H'->(∃ ys,H' D=some (.lst ys))->P z x H'->(c z=true->∀ y H'',Ext H' H''->R D z y H''->N1 y H'')->(c z=false->∀ H'',Ext H' H''->N0 H'')->g x (List.replicate k none++σ) H' (kCm k tt te σ N1 N0))
  (hd:∀ D ys H',H D=none->Ext H H'->H' D=some (.lst ys)->Al (λ z y=>R D z y H') (zs.filter c) ys->Q (.ref D) H'):rA k g tt te σ Q J H:=by
 intro D hD;refine⟨λ i m ys H'=>m=zs.length - i/\i<=zs.length/\Ext H H'/\H' D=some (.lst ys)/\Al (λ z y=>R D z y H') ((zs.take i).filter c) ys,⟨zs.length,by simp,Lq _,Ext.new hD,ah,by simpa using Al.nil⟩,?_⟩;rintro i m ys H' ⟨rfl,hi,e,hD',al⟩
 by_cases hlt:i < zs.length
 ·have hz:zs[i]? = some zs[i]:=KA hlt;obtain⟨go,y⟩:=hgo i zs[i] H' hz e;have tk:zs.take (i+1)=zs.take i++[zs[i]]:=by rw [N3,hz];rfl
  have ln:ys.length < sizeLine:=by
   have h1:=al.1;have h2:=NS c (zs.take i);simp only [LH] at h2;omega
  refine .inr ⟨go,λ ys' H2=>Ext H H2/\H2 D=some (.lst ys')/\Al (λ z y=>R D z y H2) ((zs.take (i+1)).filter c) ys',λ ys' H2 p=>⟨zs.length - (i+1),by omega,rfl,hlt,p⟩,λ x H2 z=>?_⟩;obtain⟨e2,p2⟩:=y x H2 z;refine hs D zs[i] x H2 (kC3 D ys _) _ (My hlt) hD (e.trans e2) ⟨ys,e2.at hD'⟩ p2 (λ hc y H3 e3 r3=>?_) λ hc H3 e3=>?_
  ·refine⟨e3.at (e2.at hD'),ln,(e.trans (e2.trans e3)).put hD,ah,?_⟩;rw [tk,MW,show [zs[i]].filter c=[zs[i]] by simp [hc]];exact Al.snoc (al.imp λ z y r=>hR2 _ _ _ _ _ (hR1 _ _ _ _ _ r (e2.trans e3))) (hR2 _ _ _ _ _ r3)
  ·refine⟨e.trans (e2.trans e3),(e2.trans e3).at hD',?_⟩;rw [tk,MW,show [zs[i]].filter c=[] by simp [hc],M4];exact al.imp λ z y r=>hR1 _ _ _ _ _ r (e2.trans e3)
 ·have e':i=zs.length:=by omega
  subst e';rw [LG] at al;exact .inl ⟨hst H' e,hd D ys H' hD e hD' al⟩
theorem cp{α:Type}{J:It}(zs:List α)(c:α->Bool)(f:α->V)(P:α->V->Hp->Prop)
  (hgo:∀ i z H',zs[i]? = some z->Ext H H'->J.go i H'/\∀ x H'',J.yld i H' x H''->Ext H' H''/\P z x H'')
  (hst:∀ H',Ext H H'->J.stop zs.length H') (hl:zs.length<=sizeLine)
  (hs:∀ D z x H' N1 N0,z∈zs->H D=none->Ext H H'->P z x H'->(c z=true->∀ H'',Ext H' H''->N1 (f z) H'')->(c z=false->∀ H'',Ext H' H''->N0 H'')->g x (List.replicate k none++σ) H' (kCm k tt te σ N1 N0))
  (hd:∀ D H',H D=none->Ext H H'->H' D=some (.lst ((zs.filter c).map f))->Q (.ref D) H'):rA k g tt te σ Q J H:=
 px zs c P (λ _ z y _=>y=f z) hgo hst (λ _ _ _ _ _ r _=>r) (λ _ _ _ _ _ r=>r) hl (λ D z x H' N1 N0 hz hD e _ p k1 k0=>hs D z x H' N1 N0 hz hD e p (λ hc H'' e'=>k1 hc _ H'' e' rfl) k0) λ D ys H' hD e hD' al=>hd D H' hD e (by rw [←al.map];exact hD')
theorem oo{lo:Int}{n:Nat}:(∀ i z H',(List.range n)[i]? = some z->Ext H H'->(Itr lo n).go i H'/\∀ x H'',(Itr lo n).yld i H' x H''->Ext H' H''/\x=.int (lo+(z:Nat)))/\∀ H',Ext H H'->(Itr lo n).stop (List.range n).length H':=by
 refine⟨λ i z H' hz _=>?_,λ H' _=>by simp [Itr]⟩;obtain⟨h1,h2⟩:=KH.mp hz;have e:i=z:=by simpa using h2
 subst e;exact⟨(show i < n by simpa using h1),λ x H'' y=>⟨by rw [y.1];exact Ext.refl _,y.2⟩⟩
theorem i7{a:Addr}{xs:List V}(h:H a=some (.lst xs)):(∀ i z H',xs[i]? = some z->Ext H H'->(Itl K a).go i H'/\∀ x H'',(Itl K a).yld i H' x H''->Ext H' H''/\(x=z/\H'' a=some (.lst xs)))/\∀ H',Ext H H'->(Itl K a).stop xs.length H':=
 ⟨λ i z H' hz e=>⟨⟨xs,z,SqL.of (e.at h),hz⟩,λ x H'' y=>⟨by rw [y.1];exact Ext.refl _,Lf ((y.2 xs (SqL.of (e.at h))).symm.trans hz),by rw [y.1];exact e.at h⟩⟩,λ H' e=>⟨xs,SqL.of (e.at h),KO _⟩⟩
def Hb(z:V × V)(x:V)(H:Hp):Prop:=∃ p,x=.ref p/\H p=some (.tup [z.1,z.2])
theorem ny{tb:TS}{nx:St->Hp->Prop}{rt:VK}{bk ct:St->Hp->Prop}{ka kb:Bool}{a b:Addr}{xs ys:List V}(Pv:Nat->St->Hp->Prop)(h0:Pv 0 σ H)(hl:∀ i σ H,Pv i σ H->SqK ka H a xs/\SqK kb H b ys)
  (hs:∀ i u v p σ H H',xs[i]? = some u->ys[i]? = some v->Pv i σ H->H p=none->Ext H H'->H' p=some (.tup [u,v])->g (.ref p) σ H' (pP tb ⟨Pv (i+1),rt,nx,Pv (i+1)⟩)) (hd:∀ σ H,Pv (min xs.length ys.length) σ H->nx σ H):CW g tb ⟨nx,rt,bk,ct⟩ σ (Itz ka kb a b xs ys) H:=by
 refine⟨λ i m σ H=>m=min xs.length ys.length - i/\i<=min xs.length ys.length/\Pv i σ H,⟨min xs.length ys.length,by simp,Lq _,h0⟩,?_⟩;rintro i m σ H ⟨rfl,hi,p⟩;obtain⟨qa,qb⟩:=hl i σ H p
 by_cases hlt:i < min xs.length ys.length
 ·refine .inr ⟨⟨qa,qb,by omega,by omega⟩,Pv (i+1),λ σ' H' p'=>⟨min xs.length ys.length - (i+1),by omega,rfl,hlt,p'⟩,λ x H' y=>?_⟩;obtain⟨r,u,v,hr,rfl,hu,hv,rfl⟩:=y;exact hs i u v r σ H _ hu hv p hr (Ext.new hr) ah
 ·have e:i=min xs.length ys.length:=by omega
  subst e;exact .inl ⟨⟨qa,qb,by omega⟩,hd σ H p⟩
end
def D4(sc:Scope)(N:List Str)(scope:Scope)(N':List Str)(k:Nat):Bool:=
 scope.names.all (λ y=>!(y.2 == .cell)) && (scope.kind == .function) && scope.names.all (λ y=>!(y.2 == .local) || scope.names.lookup y.1 == some .local) && scope.names.all (λ y=>!(y.2 == .free) || sc.names.lookup y.1 == some .cell) && decide (N'.length=k+N.length) &&
  ((N'.drop k).zip N).all (λ p=>(!(scope.names.lookup p.1 == some .free) || decide (p.1=p.2)) && !(scope.names.lookup p.1 == some .local))
theorem bh{X:Cx}{scope:Scope}{N':List Str}{k:Nat}(sc:Scope)(N:List Str)(h1:X.env.scope=sc)(h2:X.N=N)(h:D4 sc N scope N' k=true):g7 X scope N' k:=by
 unfold D4 at h;simp only [Bool.and_eq_true,decide_eq_true_eq] at h;obtain⟨⟨⟨⟨⟨a1,a2⟩,a3⟩,a4⟩,a5⟩,a6⟩:=h;rw [all_eq_true] at a1 a3 a4 a6
 have pr:∀ i x,N'[k+i]? = some x->∃ y,N[i]? = some y/\(x,y)∈(N'.drop k).zip N:=λ i x hx=>by
  have h0:=(KH.mp hx).1;have hi:i < N.length:=by omega
  have e1:(N'.drop k)[i]? = some x:=by rw [Oe];exact hx
  have e2:N[i]? = some N[i]:=KA hi;refine⟨_,e2,Lh (i:=i) ?_⟩;rw [L8];exact⟨e1,e2⟩
 refine⟨λ y hy e=>?_,by simpa using a2,λ y hy e=>?_,λ y hy e=>?_,by rw [h2];exact a5,λ i x hx hf=>?_,λ i x hx hf=>?_⟩
 ·have:=a1 y hy;rw [e] at this;simp at this
 ·have:=a3 y hy;rw [e] at this;simpa using this
 ·have:=a4 y hy;rw [e] at this;rw [h1];simpa using this
 ·obtain⟨y,hy,hm⟩:=pr i x hx;have:=a6 _ hm;simp only [hf] at this;rw [h2,hy];simp at this;rw [this]
 ·obtain⟨y,hy,hm⟩:=pr i x hx;have:=a6 _ hm;simp [hf] at this
def zZ(H:Hp)(Q:VK):V->Prop:=λ v=>Q v H
theorem BK(H:Hp)(Q:VK)(v:V):zZ H Q v=Q v H:=rfl
def wt(K:W.Frag)(f:Str)(H:Hp)(Q:VK):HO->Prop:=λ o=>match o with
 | .ins C dx fs=>Cls K C/\cy K C f/\aF (fs.lookup f) (zZ H Q)
 | _=>False
theorem BL(K:W.Frag)(f:Str)(H:Hp)(Q:VK)(C dx:Addr)(fs:List (Str × V)):wt K f H Q (.ins C dx fs)=(Cls K C/\cy K C f/\aF (fs.lookup f) (zZ H Q)):=rfl
def Di(K:W.Frag)(f:Str)(Q:VK):VK:=λ x H=>match x with
 | .ref a=>aF (H a) (wt K f H Q)
 | _=>False
theorem FL(K:W.Frag)(f:Str)(Q:VK)(a:Addr)(H:Hp):Di K f Q (.ref a) H=aF (H a) (wt K f H Q):=rfl
def Ht(K:W.Frag)(ta:TE)(f:Str):TE:=λ σ H Q=>ta σ H (Di K f Q)
theorem Fo(K:W.Frag)(ta:TE)(f:Str)(σ:St)(H:Hp)(Q:VK):Ht K ta f σ H Q=ta σ H (Di K f Q):=rfl
theorem Ca{K:W.Frag}{f:Str}{Q:VK}{x:V}{H:Hp}(h:Di K f Q x H):∃ a C dx fs v,x=.ref a/\H a=some (.ins C dx fs)/\Cls K C/\cy K C f/\fs.lookup f=some v/\Q v H:=by
 unfold Di at h;split at h
 ·obtain⟨o,e,h⟩:=aj h;unfold wt at h;split at h
  ·obtain⟨c,n,h⟩:=h;obtain⟨v,l,q⟩:=aj h;exact⟨_,_,_,_,v,rfl,e,c,n,l,q⟩
  ·exact h.elim
 ·exact h.elim
section
variable {X:Cx}{e o value:Expr}{ta tv:TE}{f:Str}{pos pos':Pos}
theorem sT(he:PE X e ta)(hb:attributeBase e f X.env (eval e X.env)=eval e X.env):PE X (.Attribute e f pos) (Ht X.K ta f):=by
 intro pins s σ H Q I h;refine CI hb (thn (he pins s σ H _ I h) λ u s1 ⟨x,H1,I1,rx,q1⟩=>?_);obtain⟨a,C,dx,fs,v,ex,ea,c,n,l,q⟩:=Ca q1;subst ex;obtain rfl:u=Value.ref a:=rx;exact qA I1 ea c n l λ u' s2 I2 ru=>⟨v,H1,I2,ru,q⟩
def wd(K:W.Frag)(f:Str)(y:V)(a:Addr)(σ:St)(nx:St->Hp->Prop)(H:Hp):HO->Prop:=λ o=>match o with
 | .ins C dx fs=>Cls K C/\cy K C f/\fs.length < 1000/\nx σ (upd H a (.ins C dx (dM f y fs)))
 | _=>False
theorem Bz(K:W.Frag)(f:Str)(y:V)(a:Addr)(σ:St)(nx:St->Hp->Prop)(H:Hp)(C dx:Addr)(fs:List (Str × V)):wd K f y a σ nx H (.ins C dx fs)=(Cls K C/\cy K C f/\fs.length < 1000/\nx σ (upd H a (.ins C dx (dM f y fs)))):=rfl
def wj(K:W.Frag)(f:Str)(y:V)(σ:St)(nx:St->Hp->Prop):VK:=λ x H=>match x with
 | .ref a=>aF (H a) (wd K f y a σ nx H)
 | _=>False
theorem BB(K:W.Frag)(f:Str)(y:V)(σ:St)(nx:St->Hp->Prop)(a:Addr)(H:Hp):wj K f y σ nx (.ref a) H=aF (H a) (wd K f y a σ nx H):=rfl
def zT(K:W.Frag)(f:Str)(ta:TE)(σ:St)(nx:St->Hp->Prop):VK:=λ y H=>ta σ H (wj K f y σ nx)
theorem BC(K:W.Frag)(f:Str)(ta:TE)(σ:St)(nx:St->Hp->Prop)(y:V)(H:Hp):zT K f ta σ nx y H=ta σ H (wj K f y σ nx):=rfl
def DH(K:W.Frag)(ta tv:TE)(f:Str):TS:=λ D σ H=>tv σ H (zT K f ta σ D.nx)
theorem Bo(K:W.Frag)(ta tv:TE)(f:Str)(nx:St->Hp->Prop)(rt:VK)(bk ct:St->Hp->Prop)(σ:St)(H:Hp):DH K ta tv f ⟨nx,rt,bk,ct⟩ σ H=tv σ H (zT K f ta σ nx):=rfl
theorem gF(ha:PE X o ta)(hv:PE X value tv)(hs:swapsWith value (some (.Attribute o f pos')) pos.line X.env=pure false):PS X (.Assign [.Attribute o f pos'] value pos) (DH X.K ta tv f):=by
 intro pins s σ H D I h;refine plainObj_wpAny_Assign_Attribute (thn (hv pins s σ H _ I h) λ u s1 ⟨y,H1,I1,ry,q⟩=>thn (ha pins s1 σ H1 _ I1 q) λ ov s2 ⟨x,H2,I2,rx,q1⟩=>?_) hs;unfold wj at q1;split at q1
 ·rename_i a;obtain rfl:ov=Value.ref a:=rx;obtain⟨ob,ea,q1⟩:=aj q1;unfold wd at q1;split at q1
  ·obtain⟨c,n,l,q2⟩:=q1;exact pW I2 ea c n l ry λ s3 I3=>⟨σ,_,I3,q2⟩
  ·exact q1.elim
 ·exact q1.elim
end
def kZ(sp:Sp)(dvs:List V)(E:XK)(a:Addr)(Q:VK):List V->Hp->Prop:=λ vs H=>sp (.ref a::(vs++dvs)) H Q E
theorem qm(sp:Sp)(dvs:List V)(E:XK)(a:Addr)(Q:VK)(H:Hp):kZ sp dvs E a Q [] H=sp (.ref a::dvs) H Q E:=rfl
theorem ql(sp:Sp)(dvs:List V)(E:XK)(a:Addr)(Q:VK)(x:V)(H:Hp):kZ sp dvs E a Q [x] H=sp (.ref a::x::dvs) H Q E:=rfl
theorem qk(sp:Sp)(dvs:List V)(E:XK)(a:Addr)(Q:VK)(x y:V)(H:Hp):kZ sp dvs E a Q [x,y] H=sp (.ref a::x::y::dvs) H Q E:=rfl
def oy(C:Addr)(m:Str)(sp:Sp)(dvs:List V)(E:XK)(t:TA)(σ:St)(Q:VK)(a:Addr)(H:Hp):HO->Prop:=λ o=>match o with
 | .ins C' dx fs=>C'=C/\fs.lookup m=none/\t σ H (kZ sp dvs E a Q)
 | _=>False
theorem xD(C:Addr)(m:Str)(sp:Sp)(dvs:List V)(E:XK)(t:TA)(σ:St)(Q:VK)(a:Addr)(H:Hp)(dx:Addr)(fs:List (Str × V)):oy C m sp dvs E t σ Q a H (.ins C dx fs)=(fs.lookup m=none/\t σ H (kZ sp dvs E a Q)):=propext ⟨λ h=>h.2,λ h=>⟨rfl,h⟩⟩
def rq(C:Addr)(m:Str)(sp:Sp)(dvs:List V)(E:XK)(t:TA)(σ:St)(Q:VK):VK:=λ x H=>match x with
 | .ref a=>aF (H a) (oy C m sp dvs E t σ Q a H)
 | _=>False
theorem BH(C:Addr)(m:Str)(sp:Sp)(dvs:List V)(E:XK)(t:TA)(σ:St)(Q:VK)(a:Addr)(H:Hp):rq C m sp dvs E t σ Q (.ref a) H=aF (H a) (oy C m sp dvs E t σ Q a H):=rfl
def zO(C:Addr)(m:Str)(sp:Sp)(dvs:List V)(E:XK)(ta:TE)(t:TA):TE:=λ σ H Q=>ta σ H (rq C m sp dvs E t σ Q)
theorem Bq(C:Addr)(m:Str)(sp:Sp)(dvs:List V)(E:XK)(ta:TE)(t:TA)(σ:St)(H:Hp)(Q:VK):zO C m sp dvs E ta t σ H Q=ta σ H (rq C m sp dvs E t σ Q):=rfl
theorem o7{C:Addr}{m:Str}{sp:Sp}{dvs:List V}{E:XK}{t:TA}{σ:St}{Q:VK}{x:V}{H:Hp}(h:rq C m sp dvs E t σ Q x H):∃ a dx fs,x=.ref a/\H a=some (.ins C dx fs)/\fs.lookup m=none/\t σ H λ vs H2=>sp (x::(vs++dvs)) H2 Q E:=by
 unfold rq at h;split at h
 ·obtain⟨o,e,h⟩:=aj h;unfold oy at h;split at h
  ·obtain⟨rfl,l,h⟩:=h;exact⟨_,_,_,rfl,e,l,h⟩
  ·exact h.elim
 ·exact h.elim
section
variable {X:Cx}{CX:CXT}{k:Nat}{f C:Addr}{fd:FuncData}{ps:List Str}{sp:Sp}{dvs:List V}{ds:List Value}{E:XK}{x m:Str}{p pos apos:Pos}{e o:Expr}{es:List Expr}{ta:TE}{t:TA}
theorem xm{pl:Sem Bool}(he:PE X o ta)(c:Cls X.K C)(hm:mJ X.K C m f)(F:bp X.prog X.w X.K X.mg X.base CX k f fd ps sp)(hr:fm k X.A)(hb:ar X.K fd ps ds)(hd:aK dvs ds)(hx:gZ CX X E)(ha:PA X (e::es) t)
  (hst:starEach (e::es) X.env=(false,eval e X.env)::starEach es X.env:=by rfl) (hpl:(backTo pos (starEach es X.env)).any (·.1)=false:=by rfl)
  (ht:eval (.Call (.Attribute o m apos) (e::es) [] pos) X.env=(do
   let ov ←eval o X.env
   standAt apos.atName
   let (f,first) ←holding [ov] (getMethod ov m pl)
   callWith pos f first (backTo pos (starEach (e::es) X.env)) (backToKw pos (keywordEach [] X.env))):=by rfl) :
  PE X (.Call (.Attribute o m apos) (e::es) [] pos) (zO C m sp dvs E ta t):=by
 intro pins s σ H Q I h;refine W.methodCall_KW (pl:=pl) (thn (he pins s σ H _ I h) λ u s1 ⟨x,H1,I1,rx,q0⟩=>?_) ht;obtain⟨a,dx,fs,ex,ea,l,q⟩:=o7 q0;subst ex;obtain rfl:u=Value.ref a:=rx;refine jl I1 ea c hm l ?_;refine W.callWith_K (first:=[.ref a]) (h₀:=X.base) I.ok.mod.kin hm.kp (thn (ha pos pins s1 σ H1 _ I1 q) λ us s2 ⟨vs,H2,I2,r,q2⟩=>⟨I2.kIn,?_⟩) hst hpl;exact rT (us:=.ref a::us) (vs:=.ref a::vs) F hr hb hd hx I2 (.cons rfl r) q2
theorem uq{pl:Sem Bool}(he:PE X o ta)(c:Cls X.K C)(hm:mJ X.K C m f)(F:bp X.prog X.w X.K X.mg X.base CX k f fd ps sp)(hr:fm k X.A)(hb:ar X.K fd ps ds)(hd:aK dvs ds)(hx:gZ CX X E)
  (ht:eval (.Call (.Attribute o m apos) [] [] pos) X.env=(do
   let ov ←eval o X.env
   standAt apos.atName
   let (f,first) ←holding [ov] (getMethod ov m pl)
   callWith pos f first (backTo pos (starEach [] X.env)) (backToKw pos (keywordEach [] X.env))):=by rfl) :
  PE X (.Call (.Attribute o m apos) [] [] pos) (zO C m sp dvs E ta Dc):=by
 intro pins s σ H Q I h;refine W.methodCall_KW (pl:=pl) (thn (he pins s σ H _ I h) λ u s1 ⟨x,H1,I1,rx,q0⟩=>?_) ht;obtain⟨a,dx,fs,ex,ea,l,q⟩:=o7 q0;subst ex;obtain rfl:u=Value.ref a:=rx;refine jl I1 ea c hm l ?_;exact W.callWith_K0 (first:=[.ref a]) I1.kIn hm.kp (rT (us:=[.ref a]) (vs:=[.ref a]) F hr hb hd hx I1 (.cons rfl .nil) q)
end
def wm(x:Addr)(Q:VK):VK:=λ v H=>v=.non/\Q (.ref x) H
theorem BI(x:Addr)(Q:VK)(H:Hp):wm x Q .non H=Q (.ref x) H:=propext ⟨λ h=>h.2,λ h=>⟨rfl,h⟩⟩
def pN(C:Addr)(sp:Sp)(dvs:List V)(E:XK)(Q:VK):List V->Hp->Prop:=λ vs H=>∀ (x dx:Addr) (H':Hp),H x=none->H dx=none->dx ≠ x->Ext H H'->H' x=some (.ins C dx [])->H' dx=some (.own x)->sp (.ref x::(vs++dvs)) H' (wm x Q) E
theorem uE(C:Addr)(sp:Sp)(dvs:List V)(E:XK)(Q:VK)(a:V)(H:Hp):pN C sp dvs E Q [a] H=∀ (x dx:Addr) (H':Hp),H x=none->H dx=none->dx ≠ x->Ext H H'->H' x=some (.ins C dx [])->H' dx=some (.own x)->sp (.ref x::a::dvs) H' (wm x Q) E:=rfl
theorem uD(C:Addr)(sp:Sp)(dvs:List V)(E:XK)(Q:VK)(a b c:V)(H:Hp):pN C sp dvs E Q [a,b,c] H=∀ (x dx:Addr) (H':Hp),H x=none->H dx=none->dx ≠ x->Ext H H'->H' x=some (.ins C dx [])->H' dx=some (.own x)->sp (.ref x::a::b::c::dvs) H' (wm x Q) E:=rfl
def DI(C:Addr)(sp:Sp)(dvs:List V)(E:XK)(t:TA):TE:=λ σ H Q=>t σ H (pN C sp dvs E Q)
theorem Br(C:Addr)(sp:Sp)(dvs:List V)(E:XK)(t:TA)(σ:St)(H:Hp)(Q:VK):DI C sp dvs E t σ H Q=t σ H (pN C sp dvs E Q):=rfl
section
variable {X:Cx}{CX:CXT}{k:Nat}{f C:Addr}{fd:FuncData}{ps:List Str}{sp:Sp}{dvs:List V}{ds:List Value}{E:XK}{x m:Str}{p pos apos:Pos}{e o:Expr}{es:List Expr}{ta:TE}{t:TA}
theorem pN.to{Q:VK}{vs:List V}{H:Hp}(h:pN C sp dvs E Q vs H):∀ x dx,H x=none->H dx=none->dx ≠ x->sp (.ref x::(vs++dvs)) (upd (upd H dx (.own x)) x (.ins C dx [])) (λ v H2=>v=.non/\Q (.ref x) H2) E:=λ x dx hx hd ne=>
 h x dx _ hx hd ne ((Ext.new hd).put hx) ah (by rw [af ne,ah])
theorem xn(M:Mk X.K C f)(F:bp X.prog X.w X.K X.mg X.base CX k f fd ps sp)(hr:fm (k+1) X.A)(hg:Gl X x)(hm:X.mg x=some (.ref C))(hb:ar X.K fd ps ds)(hd:aK dvs ds)(hx:gZ CX X E)
  (ha:PA X (e::es) t) (hdb:(x == ("__debug__":Str))=false:=by decide) (he:starEach (e::es) X.env=(false,eval e X.env)::starEach es X.env:=by rfl) (hpl:(backTo pos (starEach es X.env)).any (·.1)=false:=by rfl) :
  PE X (.Call (.Name x p) (e::es) [] pos) (DI C sp dvs E t):=by
 intro pins s σ H Q I h;refine Mt (nq I hg hm ?_ hdb);refine W.callWith_K (h₀:=X.base) I.ok.mod.kin M.kp (thn (ha pos pins s σ H _ I h) λ us s1 ⟨vs,H1,I1,r,q⟩=>⟨I1.kIn,?_⟩) he hpl;exact wZ M F hr hb hd hx I1 r q.to
end
def sX:Expr->Bool
 | .Starred ..=>false
 | _=>true
theorem Ax{e:Expr}{es:List Expr}{env:Env}(h:sX e=true):starEach (e::es) env=(false,eval e env)::starEach es env:=by
 cases e<;>first|rfl|cases h
theorem Df{X:Cx}{e:Expr}{es:List Expr}{te:TE}{t:TA}(ha:PE X e te)(hr:PA X es t)(hn:sX e=true:=by rfl):PA X (e::es) (qZ te t):=AR ha hr (Ax hn)
def qV(H:Hp)(z:List Int)(y:V):Prop:=∃ q,y=.ref q/\H q=some (.tup (z.map V.int))
theorem qV.ext{H H':Hp}{z:List Int}{y:V}(h:qV H z y)(e:Ext H H'):qV H' z y:=by
 obtain⟨q,rfl,hq⟩:=h;exact⟨q,rfl,e.at hq⟩
def aT(H:Hp)(p:Addr)(zs:List (List Int)):Prop:=∃ ys,H p=some (.lst ys)/\Al (qV H) zs ys
theorem aT.ext{H H':Hp}{p:Addr}{zs:List (List Int)}(h:aT H p zs)(e:Ext H H'):aT H' p zs:=by
 obtain⟨ys,hp,al⟩:=h;exact⟨ys,e.at hp,al.imp λ _ _ r=>r.ext e⟩
theorem aN{n:Nat}(h:n<=5000):n<=sizeLine:=Lu h (by decide)
theorem bZ{n:Nat}(h:n < 5000):n < sizeLine:=Le h (by decide)
theorem iS{K:W.Frag}{H:Hp}{α:Type}{R:α->V->Hp->Prop}(hR:∀ z y H H',R z y H->Ext H H'->R z y H'){l:Addr}{ys:List V}{zs:List α}(h:H l=some (.lst ys))(al:Al (λ z y=>R z y H) zs ys) :
  (∀ i z H',zs[i]? = some z->Ext H H'->(Itl K l).go i H'/\∀ x H'',(Itl K l).yld i H' x H''->Ext H' H''/\R z x H'')/\∀ H',Ext H H'->(Itl K l).stop zs.length H':=by
 refine⟨λ i z H' hz e=>?_,λ H' e=>⟨ys,SqL.of (e.at h),by rw [al.1];exact KO _⟩⟩;have hi:i < ys.length:=by rw [al.1];exact(KH.mp hz).1
 have hy:ys[i]? = some ys[i]:=KA hi;refine⟨⟨ys,ys[i],SqL.of (e.at h),hy⟩,λ x H'' y=>?_⟩;have hx:x=ys[i]:=Lf ((y.2 ys (SqL.of (e.at h))).symm.trans hy);refine⟨by rw [y.1];exact Ext.refl _,?_⟩;rw [hx,y.1];exact hR _ _ _ _ (al.2 i z _ hz hy) e
def axP(a:Int × Int)(x:V)(H:Hp):Prop:=∃ q,x=.ref q/\H q=some (.tup [.int a.1,.int a.2])
theorem axP.ext{a:Int × Int}{x:V}{H H':Hp}(h:axP a x H)(e:Ext H H'):axP a x H':=by
 obtain⟨q,rfl,hq⟩:=h;exact⟨q,rfl,e.at hq⟩
theorem oC{H:Hp}{axs:List (Int × Int)}{ys:List V}(al:Al (qV H) (axs.map λ a=>[a.1,a.2]) ys):Al (λ a y=>axP a y H) axs ys:=by
 refine⟨by rw [al.1,KG],λ i a y ha hy=>?_⟩;obtain⟨q,hq,h⟩:=al.2 i [a.1,a.2] y (by rw [La,ha];rfl) hy;exact⟨q,hq,h⟩
abbrev eM(h:Heap)(z TI TO:Addr)(f0:Value)(f:Bool):Prop:=
 h.get? z=some { cls:=.type "zip",dict:=none,data:=.fields #[f0,.bool f,.bool false,.ref TI,.ref TO],slots:=#[] }
section
variable {prog:Program}{w:World}{A:Around}{E:Value->Shared->Prop}{s:Shared}
theorem yt{a:Addr}{o:Obj}{Q:Option Obj->Shared->Prop}(ho:s.heap.get? a=some o)(h:Q (some o) s):wpAny (model prog w) A (loadIfAlive a) Q E s:=by
 have h':Q (s.heap.get? a) s:=by rw [ho];exact h
 exact λ _ _ _=>h'
variable {z TI TO i j:Addr}{f g:List Addr}{ti tj:Nat->Heap->Prop}{vi vj:Nat->Option Value}{k m:Nat}{x y:Value}{t:Addr}{fl:Bool}{ot:Obj}
theorem k4{Q:Bool->Shared->Prop}(hz:eM s.heap z TI TO (rawInt t) fl)(ht:s.heap.get? t=some ot)
  (hQ:∀ h',eM h' z TI TO (rawInt t) true->Heap.SameBut z s.heap h'->Q false { s with heap:=h' }):wpAny (model prog w) A (Builtin.SmallTypes.ownedTupleIsFree (.ref z)) Q E s:=by
 unfold Builtin.SmallTypes.ownedTupleIsFree;refine wpAny_bind (wpAny_field hz rfl (x:=rawInt t) rfl ?_)
 show wpAny _ _ (loadIfAlive ((t:Int).toNat) >>= _) _ _ _
 rw [Ls];refine Kz (yt ht ?_);simp only [Option.isNone_some,LO,MS];refine Kz (LI hz rfl (x:=.bool fl) rfl ?_)
 cases fl with
 | true=>
  rw [KU (show ¬ ((Value.bool true != Value.bool true)=true) from Lb)];exact KQ (hQ s.heap hz (Heap.SameBut.refl _ _))
 | false=>
  rw [KZ (show (Value.bool false != Value.bool true)=true from rfl)];exact Kz (Mc hz (by simp) λ h3 z3 s3=>KQ (hQ h3 z3 s3))
theorem t6(S:Src prog w i f ti vi)(T:Src prog w j g tj vj)(D:dF z TI TO i j f g){Q:Value->Shared->Prop}
  (hz:eM s.heap z TI TO (rawInt t) fl) (ht:s.heap.get? t=some ot) (hTI:IsPair s.heap TI (.ref i) (.ref j)) (hi:ti k s.heap) (hj:tj m s.heap) (hx:vi k=some x) (hy:vj m=some y)
  (hQ:∀ h',eM h' z TI TO (rawInt t) true->ti (k+1) h'->tj (m+1) h'->IsPair h' s.heap.objs.size x y->h'.objs.size=s.heap.objs.size+1->(∀ c o,c ∉ [z,i,j]->s.heap.get? c=some o->h'.get? c=some o)->Q (.ref s.heap.objs.size) { s with heap:=h' }) :
  wpAny (model prog w) A (Builtin.«zip.__next__» ⟨[.ref z],[]⟩) (λ fin s'=>∃ v,fin=.done (.ret v)/\Q v s') E s:=by
 have iz:i ≠ z:=cx S.mem D.zf;have jz:j ≠ z:=cx T.mem D.zg;refine Kz (m:=field (.ref z) 2) (LI hz rfl (x:=.bool false) rfl ?_);refine Kz (m:=field (.ref z) 3) (LI hz rfl (x:=.ref TI) rfl (Kz (LS hTI rfl ?_)));refine Kz (m:=Builtin.SmallTypes.ownedTupleIsFree (.ref z)) (k4 hz ht λ q1 z1 s1=>?_);simp only [LO,MS];refine Kz ?_;simp only [Of,Ob,N4];refine Kz (Kz (LU (Kz (m:=Builtin.SmallTypes.nextOf (.ref i)) (S.item _ k _ x _ _ (S.but hi s1.extBut D.zf) hx λ q2 i2 s2=>KQ ?_))));have j2:tj m q2:=T.but (T.but hj s1.extBut D.zg) s2.extBut D.ig;refine KQ ?_;refine Kz (Kz (LU (Kz (m:=Builtin.SmallTypes.nextOf (.ref j)) (T.item _ m _ y _ _ j2 hy λ q3 j3 s3=>KQ ?_))));refine KQ (KQ ?_);refine Kz (Ox (hsz:=(show 2<=sizeLine by decide)) ?_);have sz:q3.objs.size=s.heap.objs.size:=by rw [s3.1,s2.1,s1.1]
 have z3:eM q3 z TI TO (rawInt t) true:=s3.extBut _ _ jz.symm (s2.extBut _ _ iz.symm z1);have i3:ti (k+1) q3:=S.but i2 s3.extBut D.jf;refine KQ ⟨_,rfl,?_⟩
 show Q (.ref q3.objs.size) _
 have n3:IsPair (q3.push { cls:=.type "tuple",data:=.seq #[x,y] }) q3.objs.size x y:=KR _ rfl;have n4:(q3.push { cls:=.type "tuple",data:=.seq #[x,y] }).objs.size=q3.objs.size+1:=LF ..;rw [sz] at n3 n4;rw [sz];refine hQ _ (KC _ z3) (S.keep _ _ _ i3 λ c hc o e=>KC _ e) (T.keep _ _ _ j3 λ c hc o e=>KC _ e) n3 n4 λ c o hc e=>?_;simp only [K2,KJ,LB,Nz] at hc;exact KC _ (s3.extBut _ _ hc.2.2 (s2.extBut _ _ hc.2.1 (s1.extBut _ _ hc.1 e)))
theorem wF(hh:A.handled=none)(S:Src prog w i f ti vi)(T:Src prog w j g tj vj)(D:dF z TI TO i j f g){Q:Fin->Shared->Prop}
  (hz:eM s.heap z TI TO (rawInt t) fl) (ht:s.heap.get? t=some ot) (hTI:IsPair s.heap TI (.ref i) (.ref j)) (hi:ti k s.heap) (hj:tj m s.heap) (hxy:vi k=none\/vj m=none)
  (hE:∀ h' e,(∀ c o,c ∉ [z,i,j]->s.heap.get? c=some o->h'.get? c=some o)->(∃ o,h'.get? e=some o/\o.cls=.type "StopIteration")->E (.ref e) { s with heap:=h' }) :
  wpAny (model prog w) A (Builtin.«zip.__next__» ⟨[.ref z],[]⟩) Q E s:=by
 refine Kz (m:=field (.ref z) 2) (LI hz rfl (x:=.bool false) rfl ?_);refine Kz (m:=field (.ref z) 3) (LI hz rfl (x:=.ref TI) rfl (Kz (LS hTI rfl ?_)));refine Kz (m:=Builtin.SmallTypes.ownedTupleIsFree (.ref z)) (k4 hz ht λ q1 z1 s1=>?_);simp only [LO,MS];refine Kz ?_;simp only [Of,Ob,N4];refine Kz (Kz (LU (Kz (m:=Builtin.SmallTypes.nextOf (.ref i)) ?_)))
 cases hx:vi k with
 | none=>
  refine S.fin _ k _ _ _ hh (S.but hi s1.extBut D.zf) hx λ q2 e s2 he=>hE q2 e (λ c o hc q=>?_) he;simp only [K2,KJ,LB,Nz] at hc;exact s2 _ _ hc.2.1 (s1.extBut _ _ hc.1 q)
 | some x=>
  have hy:vj m=none:=hxy.resolve_left (by rw [hx];exact Option.some_ne_none x);refine S.item _ k _ x _ _ (S.but hi s1.extBut D.zf) hx λ q2 i2 s2=>KQ (KQ ?_);have j2:tj m q2:=T.but (T.but hj s1.extBut D.zg) s2.extBut D.ig;refine Kz (Kz (LU (Kz (m:=Builtin.SmallTypes.nextOf (.ref j)) (T.fin _ m _ _ _ hh j2 hy λ q3 e s3 he=>hE q3 e (λ c o hc q=>?_) he))));simp only [K2,KJ,LB,Nz] at hc;exact s3 _ _ hc.2.2 (s2.extBut _ _ hc.2.1 (s1.extBut _ _ hc.1 q))
theorem iU(S:Src prog w i f ti vi)(T:Src prog w j g tj vj)(D:dF z TI TO i j f g){Q:Option Value->Shared->Prop}
  (hz:eM s.heap z TI TO (rawInt t) fl) (ht:s.heap.get? t=some ot) (hTI:IsPair s.heap TI (.ref i) (.ref j)) (hi:ti k s.heap) (hj:tj m s.heap) (hx:vi k=some x) (hy:vj m=some y)
  (hQ:∀ h',eM h' z TI TO (rawInt t) true->ti (k+1) h'->tj (m+1) h'->IsPair h' s.heap.objs.size x y->h'.objs.size=s.heap.objs.size+1->(∀ c o,c ∉ [z,i,j]->s.heap.get? c=some o->h'.get? c=some o)->Q (some (.ref s.heap.objs.size)) { s with heap:=h' }) :
  wpAny (model prog w) A (pyNext (.ref z)) Q E s:=by
 have ty:s.TypeIs (.ref z) "zip":=⟨_,hz,rfl⟩;unfold pyNext;exact wpAny_bind (wpAny_attempt (wpAny_callSpecial?_slot (name:=Str.ofString "__next__") ty F.slot_zip_next (wpAny_call_entry F.slot_zip_next ty F.entry_zip_next (t6 S T D hz ht hTI hi hj hx hy λ h' c1 c2 c3 c4 c5 c6=>wpAny_pure (hQ h' c1 c2 c3 c4 c5 c6)) (F.args_zip_next_1 _))))
theorem kc(hh:A.handled=none)(S:Src prog w i f ti vi)(T:Src prog w j g tj vj)(D:dF z TI TO i j f g){Q:Option Value->Shared->Prop}
  (hz:eM s.heap z TI TO (rawInt t) fl) (ht:s.heap.get? t=some ot) (hTI:IsPair s.heap TI (.ref i) (.ref j)) (hi:ti k s.heap) (hj:tj m s.heap) (hxy:vi k=none\/vj m=none)
  (hQ:∀ h',(∀ c o,c ∉ [z,i,j]->s.heap.get? c=some o->h'.get? c=some o)->Q none { s with heap:=h' }):wpAny (model prog w) A (pyNext (.ref z)) Q E s:=by
 have ty:s.TypeIs (.ref z) "zip":=⟨_,hz,rfl⟩;unfold pyNext;refine wpAny_bind (wpAny_attempt (wpAny_callSpecial?_slot (name:=Str.ofString "__next__") ty F.slot_zip_next (wpAny_call_entry F.slot_zip_next ty F.entry_zip_next (wF (show A.in1.handled=none from hh) S T D hz ht hTI hi hj hxy λ h' e kp he=>?_) (F.args_zip_next_1 _))));obtain⟨o,ho,hc⟩:=he;exact wpAny_bind (wpAny_isInstance (T := "StopIteration") (b:=true) ⟨o,ho,hc⟩ isSubtype_stop (wpAny_pure (hQ _ kp)))
def Zst(ka kb:Bool)(a b z TI TO p q:Addr)(as bs:Array Value)(n:Nat)(h:Heap):Prop:=
 (IsZip h z TI TO .none\/∃ (t:Addr) (fl:Bool) (ot:Obj),eM h z TI TO (rawInt t) fl/\h.get? t=some ot/\t ∉ [z,TI,TO,p,q])/\IsPair h TI (.ref p) (.ref q)/\(∃ u v,IsPair h TO u v)/\(b6 h ka p a n/\SeqAt h ka a as)/\(b6 h kb q b n/\SeqAt h kb b bs)
theorem Zst.keep{ka kb:Bool}{a b z TI TO p q:Addr}{as bs:Array Value}{n:Nat}{h h':Heap}(st:Zst ka kb a b z TI TO p q as bs n h)(k:∀ c o,h.get? c=some o->h'.get? c=some o):Zst ka kb a b z TI TO p q as bs n h':=by
 obtain⟨e0,e1,⟨u,v,e2⟩,⟨e3,e4⟩,e5,e6⟩:=st;refine⟨e0.imp (λ e=>k _ _ e) (λ ⟨t,fl,ot,x1,x2,x3⟩=>⟨t,fl,ot,k _ _ x1,k _ _ x2,x3⟩),k _ _ e1,⟨u,v,k _ _ e2⟩,⟨e3.at λ o e=>k _ o e,e4.at λ o e=>k _ o e⟩,e5.at λ o e=>k _ o e,e6.at λ o e=>k _ o e⟩
variable {ka kb:Bool}{a b p q:Addr}{as bs:Array Value}{n:Nat}
theorem wB(nd:[z,TI,TO,p,q].Nodup)(na:a ∉ [z,TI,TO,p,q])(nb:b ∉ [z,TI,TO,p,q]){Q:Option Value->Shared->Prop}(st:Zst ka kb a b z TI TO p q as bs n s.heap)(hx:as[n]? = some x)(hy:bs[n]? = some y)
  (hQ:∀ h',Zst ka kb a b z TI TO p q as bs (n+1) h'->IsPair h' s.heap.objs.size x y->h'.objs.size=s.heap.objs.size+1->(∀ c o,c ∉ [z,TI,TO,p,q]->s.heap.get? c=some o->h'.get? c=some o)->Q (some (.ref s.heap.objs.size)) { s with heap:=h' }) :
  wpAny (model prog w) A (pyNext (.ref z)) Q E s:=by
 obtain⟨e0,e1,⟨u,v,e2⟩,e3,e4⟩:=st;simp only [Lv,K2,KJ,LB,Nz,M8,and_true,LL] at nd na nb;obtain⟨⟨z1,z2,z3,z4⟩,⟨t1,t2,t3⟩,⟨w1,w2⟩,y1⟩:=nd;obtain⟨a1,a2,a3,a4,a5⟩:=na;obtain⟨b1,b2,b3,b4,b5⟩:=nb;have S:=gn (prog:=prog) (w:=w) ka p a a4 as;have T:=gn (prog:=prog) (w:=w) kb q b b5 bs;have D:dF z TI TO p q [p,a] [q,b]:=⟨⟨Ld z1,t1,t2,t3⟩,z2,by simp [z3,Ld a1],by simp [z4,Ld b1],by simp [w1,Ld a3],by simp [w2,Ld b3],by simp [y1,Ld b4],by simp [Ld y1,Ld a5]⟩
 have zl:z < s.heap.objs.size/\TI < s.heap.objs.size/\TO < s.heap.objs.size/\p < s.heap.objs.size/\q < s.heap.objs.size:=by
  refine⟨?_,KD e1,KD e2,?_,?_⟩
  ·rcases e0 with e|⟨_,_,_,e,_⟩<;>exact KD e
  ·obtain⟨o,_,e,_⟩:=e3.1.obj;exact KD e
  ·obtain⟨o,_,e,_⟩:=e4.1.obj;exact KD e
 have nw:s.heap.objs.size ∉ [z,TI,TO,p,q]:=by
  simp only [K2,KJ,LB,Nz];exact⟨LA zl.1,LA zl.2.1,LA zl.2.2.1,LA zl.2.2.2.1,LA zl.2.2.2.2⟩
 rcases e0 with e0|⟨t,fl,ot,e0,et,nt⟩
 ·refine eN S T D e0 e1 e2 e3 e4 hx hy λ h1 c1 c2 c3 c4 c5 c6 c7=>hQ h1 ⟨.inr ⟨_,false,_,c1,c5,nw⟩,c7 TI _ (by simp [Ld z1,t1,t2,t3]) e1,⟨_,_,c2⟩,c3,c4⟩ c5 c6 λ c o hc e=>c7 c o (λ z=>hc ?_) e;simp only [K2,KJ,LB] at z ⊢
  rcases z with h|h|h|h<;>simp [h]
 ·refine iU S T D e0 et e1 e3 e4 hx hy λ h1 c1 c3 c4 c5 c6 c7=>hQ h1 ⟨.inr ⟨_,true,_,c1,c7 t _ (λ z=>nt ?_) et,nt⟩,c7 TI _ (by simp [Ld z1,t2,t3]) e1,⟨_,_,c7 TO _ (by simp [Ld z2,w1,w2]) e2⟩,c3,c4⟩ c5 c6 λ c o hc e=>c7 c o (λ z=>hc ?_) e
  all_goals
   simp only [K2,KJ,LB] at z ⊢
   rcases z with h|h|h<;>simp [h]
theorem Ae(hh:A.handled=none)(nd:[z,TI,TO,p,q].Nodup)(na:a ∉ [z,TI,TO,p,q])(nb:b ∉ [z,TI,TO,p,q]){Q:Option Value->Shared->Prop}(st:Zst ka kb a b z TI TO p q as bs n s.heap)(hxy:as[n]? = none\/bs[n]? = none)
  (hQ:∀ h',(∀ c o,c ∉ [z,TI,TO,p,q]->s.heap.get? c=some o->h'.get? c=some o)->Q none { s with heap:=h' }) :
  wpAny (model prog w) A (pyNext (.ref z)) Q E s:=by
 obtain⟨e0,e1,⟨u,v,e2⟩,e3,e4⟩:=st;simp only [Lv,K2,KJ,LB,Nz,M8,and_true,LL] at nd na nb;obtain⟨⟨z1,z2,z3,z4⟩,⟨t1,t2,t3⟩,⟨w1,w2⟩,y1⟩:=nd;obtain⟨a1,a2,a3,a4,a5⟩:=na;obtain⟨b1,b2,b3,b4,b5⟩:=nb;have S:=gn (prog:=prog) (w:=w) ka p a a4 as;have T:=gn (prog:=prog) (w:=w) kb q b b5 bs;have D:dF z TI TO p q [p,a] [q,b]:=⟨⟨Ld z1,t1,t2,t3⟩,z2,by simp [z3,Ld a1],by simp [z4,Ld b1],by simp [w1,Ld a3],by simp [w2,Ld b3],by simp [y1,Ld b4],by simp [Ld y1,Ld a5]⟩
 rcases e0 with e0|⟨t,fl,ot,e0,et,nt⟩
 ·refine fK hh S T D e0 e1 e2 e3 e4 hxy λ h1 kp=>hQ h1 λ c o hc e=>kp c o (λ z=>hc ?_) e;simp only [K2,KJ,LB] at z ⊢
  rcases z with h|h|h|h<;>simp [h]
 ·refine kc hh S T D e0 et e1 e3 e4 hxy λ h1 kp=>hQ h1 λ c o hc e=>kp c o (λ z=>hc ?_) e;simp only [K2,KJ,LB] at z ⊢
  rcases z with h|h|h<;>simp [h]
structure Got(h:Heap)(lo:Nat)(as bs:Array Value)(ts:List Addr):Prop where
 nd:ts.Nodup
 lo:∀ t∈ts,lo<=t
 get:∀ (m:Nat) t,ts[m]? = some t->∃ x y,as[m]? = some x/\bs[m]? = some y/\IsPair h t x y
theorem Got.lt{h:Heap}{lo:Nat}{as bs:Array Value}{ts:List Addr}(G:Got h lo as bs ts):∀ t∈ts,t < h.objs.size:=λ t ht=>by
 obtain⟨m,hm,rfl⟩:=L0 ht;obtain⟨x,y,_,_,e⟩:=G.get m _ (KA hm);exact KD e
theorem wC{R:Result->Shared->Prop}(hh:A.handled=none)(nd:[z,TI,TO,p,q].Nodup)(na:a ∉ [z,TI,TO,p,q])(nb:b ∉ [z,TI,TO,p,q])(S lo:Addr)(hS:S ∉ [z,TI,TO,p,q])(aS:a ≠ S)(bS:b ≠ S)(hlo:∀ c∈[z,TI,TO,p,q],lo<=c)(hlS:lo<=S)(hsz:min as.size bs.size<=sizeLine) :
  ∀ (k n:Nat) (s:Shared) (ts:List Addr) (c:Nat),min as.size bs.size - n=k->n<=min as.size bs.size->Zst ka kb a b z TI TO p q as bs n s.heap->s.heap.get? S=some { cls:=.type "list",dict:=none,data:=.seq (ts.map Value.ref).toArray c,slots:=#[] }->ts.length=n->Got s.heap lo as bs ts->S ∉ ts->(∀ t∈ts,t ∉ [z,TI,TO,p,q])->lo<=s.heap.objs.size →
  (∀ h' ts' c',h'.get? S=some { cls:=.type "list",dict:=none,data:=.seq (ts'.map Value.ref).toArray c',slots:=#[] }->ts'.length=min as.size bs.size->Got h' lo as bs ts'->S ∉ ts'->(∀ d o,d < lo->s.heap.get? d=some o->h'.get? d=some o)->R (.ok (.ret .none)) { s with heap:=h' }) →
  codeAny (model prog w) A (.builtin "list.extend.loop" ⟨[.ref S,.ref z,.none],[]⟩) R s:=by
 intro k
 induction k with
 | zero=>
  intro n s ts c hk hn st hL hl G hSt hts hlz hR;refine codeAny_builtin PySem.F.entry_extend_loop ?_;rw [Around.under_plainId MF _]
  show wpAny _ A.in1 (pyNext (.ref z) >>= _) _ _ s
  refine Kz (Ae (show A.in1.handled=none from hh) nd na nb st ?_ λ h' kp=>?_)
  ·by_cases h1:as.size<=n
   ·exact .inl (Array.getElem?_eq_none h1)
   ·exact .inr (Array.getElem?_eq_none (by omega))
  ·exact KQ (hR h' ts c (kp _ _ hS hL) (by omega) ⟨G.nd,G.lo,λ m t ht=>by
    obtain⟨x,y,e1,e2,e3⟩:=G.get m t ht;exact⟨x,y,e1,e2,kp _ _ (hts t (Lh ht)) e3⟩⟩ hSt λ d o hd e=>kp d o (λ z=>absurd (hlo d z) (Nat.not_le.mpr hd)) e)
 | succ k ih=>
  intro n s ts c hk hn st hL hl G hSt hts hlz hR;have h1:n < as.size:=by omega
  have h2:n < bs.size:=by omega
  refine codeAny_builtin PySem.F.entry_extend_loop ?_;rw [Around.under_plainId MF _]
  show wpAny _ A.in1 (pyNext (.ref z) >>= _) _ _ s
  refine Kz (wB nd na nb st (MG h1) (MG h2) λ h' st' pr sz kp=>?_);have hL':=kp _ _ hS hL
  show wpAny _ A.in1 (updateSeq S (·.push (.ref s.heap.objs.size)) >>= _) _ _ _
  refine Kz ?_;have Sn:S ≠ s.heap.objs.size:=K0 (KD hL);have kp2:∀ d o,d ≠ S->h'.get? d=some o->(h'.update S (Obj.mapSeq (·.push (.ref s.heap.objs.size)))).get? d=some o:=λ d o hd e=>(L7 _ _ (Ld hd)).trans e
  have G':Got (h'.update S (Obj.mapSeq (·.push (.ref s.heap.objs.size)))) lo as bs (ts++[s.heap.objs.size]):=by
   refine⟨?_,λ t ht=>?_,λ m t ht=>?_⟩
   ·rw [LC];refine⟨G.nd,by simp,λ x hx y hy=>?_⟩;rw [KN.mp hy];exact K0 (G.lt x hx)
   ·rcases Li.mp ht with ht|ht
    ·exact G.lo t ht
    ·rw [KN.mp ht];exact hlz
   ·by_cases hm:m < ts.length
    ·rw [LD hm] at ht;obtain⟨x,y,e1,e2,e3⟩:=G.get m t ht;have hmem:=Lh ht;exact⟨x,y,e1,e2,kp2 _ _ (λ z=>hSt (z ▸ hmem)) (kp _ _ (hts t hmem) e3)⟩
    ·rw [Lw (by omega)] at ht
     have h0:m - ts.length=0:=by
      rcases Nat.eq_zero_or_pos (m - ts.length) with h|h
      ·exact h
      ·rw [Mm (by simp;omega)] at ht;cases ht
     rw [h0] at ht;simp at ht;subst ht;have hmn:m=n:=by omega
     subst hmn;exact⟨_,_,MG h1,MG h2,kp2 _ _ (Ld Sn) pr⟩
  have nw:s.heap.objs.size ∉ [z,TI,TO,p,q]:=by
   obtain⟨e0,e1,⟨u,v,e2⟩,e3,e4⟩:=st;simp only [K2,KJ,LB,Nz];refine⟨?_,LA (KD e1),LA (KD e2),?_,?_⟩
   ·rcases e0 with e|⟨_,_,_,e,_⟩<;>exact LA (KD e)
   ·obtain⟨o,_,e,_⟩:=e3.1.obj;exact LA (KD e)
   ·obtain⟨o,_,e,_⟩:=e4.1.obj;exact LA (KD e)
  have stK:Zst ka kb a b z TI TO p q as bs (n+1) (h'.update S (Obj.mapSeq (·.push (.ref s.heap.objs.size)))):=by
   obtain⟨e0,e1,⟨u,v,e2⟩,⟨e3,e4⟩,e5,e6⟩:=st';simp only [K2,KJ,LB,Nz] at hS;obtain⟨n1,n2,n3,n4,n5⟩:=hS;refine⟨e0.imp (λ e=>kp2 _ _ (Ld n1) e) (λ ⟨t,fl,ot,x1,x2,x3⟩=>?_),kp2 _ _ (Ld n2) e1,⟨u,v,kp2 _ _ (Ld n3) e2⟩,⟨e3.at λ o e=>kp2 _ o (Ld n4) e,e4.at λ o e=>kp2 _ o aS e⟩,e5.at λ o e=>kp2 _ o (Ld n5) e,e6.at λ o e=>kp2 _ o bS e⟩
   by_cases htS:t=S
   ·subst htS;exact⟨t,fl,_,kp2 _ _ (Ld n1) x1,LW _ hL' rfl,x3⟩
   ·exact⟨t,fl,ot,kp2 _ _ (Ld n1) x1,kp2 _ _ htS x2,x3⟩
  have hLn:(h'.update S (Obj.mapSeq (·.push (Value.ref s.heap.objs.size)))).get? S=some { cls:=.type "list",dict:=none,data:=.seq ((ts++[s.heap.objs.size]).map Value.ref).toArray (c+1),slots:=#[] }:=by
   rw [LW (Obj.mapSeq (·.push (Value.ref s.heap.objs.size))) hL' rfl];simp [Obj.mapSeq]
  refine N9 hL' rfl (KQ ⟨plainId_quiet MF _,ih (n+1) _ (ts++[s.heap.objs.size]) _ (by omega) (by omega) stK hLn (by simp [hl]) G' ?_ ?_ ?_ λ h3 ts3 c3 r1 r2 r3 r4 r5=>hR h3 ts3 c3 r1 r2 r3 r4 λ d o hd e=>r5 d o hd ?_⟩) ?_ ?_
  ·intro hm
   rcases Li.mp hm with hm|hm
   ·exact hSt hm
   ·exact Sn (KN.mp hm)
  ·intro t ht
   rcases Li.mp ht with ht|ht
   ·exact hts t ht
   ·rw [KN.mp ht];exact nw
  ·show lo<=(h'.update S _).objs.size
   rw [Mb,sz];exact Lu hlz (MN _)
  ·exact kp2 _ _ (K0 (Le hd hlS)) (kp d o (λ z=>absurd (hlo d z) (Nat.not_le.mpr hd)) e)
  ·simp;omega
  ·simp;omega
theorem pR:typeLookup (.type "zip") "__len__"=pure none:=by rw [typeLookup_type,builtinLookup_eq_fast];kernel_rfl
theorem nC:typeLookup (.type "zip") "__length_hint__"=pure none:=by rw [typeLookup_type,builtinLookup_eq_fast];kernel_rfl
theorem Zst.ty(st:Zst ka kb a b z TI TO p q as bs n s.heap):s.TypeIs (.ref z) "zip":=by
 rcases st.1 with e|⟨_,_,_,e,_⟩
 ·exact⟨_,e,rfl⟩
 ·exact⟨_,e,rfl⟩
theorem Zst.but{h h':Heap}{S:Addr}(st:Zst ka kb a b z TI TO p q as bs 0 h)(e0:IsZip h z TI TO .none)(hS:S ∉ [z,TI,TO,p,q])(aS:a ≠ S)(bS:b ≠ S)(k:∀ c o,c ≠ S->h.get? c=some o->h'.get? c=some o):Zst ka kb a b z TI TO p q as bs 0 h':=by
 obtain⟨_,e1,⟨u,v,e2⟩,⟨e3,e4⟩,e5,e6⟩:=st;simp only [K2,KJ,LB,Nz] at hS;obtain⟨n1,n2,n3,n4,n5⟩:=hS;exact⟨.inl (k _ _ (Ld n1) e0),k _ _ (Ld n2) e1,⟨u,v,k _ _ (Ld n3) e2⟩,⟨e3.at λ o e=>k _ o (Ld n4) e,e4.at λ o e=>k _ o aS e⟩,e5.at λ o e=>k _ o (Ld n5) e,e6.at λ o e=>k _ o bS e⟩
theorem kD{Q:Value->Shared->Prop}(hh:A.handled=none)(nd:[z,TI,TO,p,q].Nodup)(na:a ∉ [z,TI,TO,p,q])(nb:b ∉ [z,TI,TO,p,q])(lo:Addr)(hlo:∀ c∈[z,TI,TO,p,q],lo<=c)(hsz:min as.size bs.size<=sizeLine)
  (e0:IsZip s.heap z TI TO .none) (st:Zst ka kb a b z TI TO p q as bs 0 s.heap)
  (hQ:∀ h' ts' c',h'.get? s.heap.objs.size=some { cls:=.type "list",dict:=none,data:=.seq (ts'.map Value.ref).toArray c',slots:=#[] }->ts'.length=min as.size bs.size->Got h' lo as bs ts'->s.heap.objs.size ∉ ts'->(∀ d o,d < lo->s.heap.get? d=some o->h'.get? d=some o)->Q (.ref s.heap.objs.size) { s with heap:=h' }) :
  wpAny (model prog w) A (call (.type "list") [.ref z]) Q E s:=by
 have zl:∀ c∈[z,TI,TO,p,q],c < s.heap.objs.size:=by
  obtain⟨_,e1,⟨u,v,e2⟩,⟨e3,e4⟩,e5,e6⟩:=st;intro c hc;simp only [K2,KJ,LB] at hc
  rcases hc with rfl|rfl|rfl|rfl|rfl
  ·exact KD e0
  ·exact KD e1
  ·exact KD e2
  ·obtain⟨o,_,e,_⟩:=e3.obj;exact KD e
  ·obtain⟨o,_,e,_⟩:=e5.obj;exact KD e
 have hSf:s.heap.objs.size ∉ [z,TI,TO,p,q]:=λ hm=>LJ _ (zl _ hm);have hSz:s.heap.objs.size ≠ z:=λ e=>hSf (by simp [e]);have al:a < s.heap.objs.size:=by obtain⟨o,_,e,_⟩:=st.2.2.2.1.2.obj;exact KD e
 have bl:b < s.heap.objs.size:=by obtain⟨o,_,e,_⟩:=st.2.2.2.2.2.obj;exact KD e
 have hlS:lo<=s.heap.objs.size:=Nf (Nat.lt_of_le_of_lt (hlo z (by simp)) (zl z (by simp)))
 refine callType_codes (Q₁:=λ obj s₁=>obj=.ref s.heap.objs.size/\s₁={ s with heap:=s.heap.push { cls:=.type "list",data:=.seq #[] } }) PySem.F.called_list (PySem.F.typeCall_list_1 _) PySem.F.entry_list_init
  (code_list_new _ ⟨rfl,rfl⟩) λ obj s₁ h₁=>?_
 obtain⟨rfl,rfl⟩:=h₁;have hS:(s.heap.push { cls:=.type "list",data:=.seq #[] }).get? s.heap.objs.size=some { cls:=.type "list",data:=.seq #[] }:=KR _ rfl;refine⟨⟨_,hS,rfl⟩,PySem.F.args_list_init_2 _ _,?_⟩
 show wpAny _ A.in1.in1 (do let old ←Builtin.List.listItems (.ref s.heap.objs.size);Builtin.List.listUpdate (.ref s.heap.objs.size) (λ _=>#[]);letGo old.toList.reverse;Builtin.List.listExtendWith (.ref s.heap.objs.size) (.ref z) .none) _ _ _
 refine wpAny_bind ?_;unfold Builtin.List.listItems;refine wpAny_bind (wpAny_seqItems hS rfl (wpAny_pure ?_))
 show wpAny _ A.in1.in1 (updateSeq s.heap.objs.size (λ _=>#[]) >>= λ _=>letGo (#[]:Array Value).toList.reverse >>= λ _=>Builtin.List.listExtendWith (.ref s.heap.objs.size) (.ref z) .none) _ _ _
 refine Kz (N9 hS rfl ?_);have hS₂:=LW (Obj.mapSeq (λ _=>(#[]:Array Value))) hS rfl;refine Kz (OD ?_);have k1:∀ c o,s.heap.get? c=some o->((s.heap.push { cls:=.type "list",data:=.seq #[] }).update s.heap.objs.size (Obj.mapSeq (λ _=>(#[]:Array Value)))).get? c=some o:=λ c o e=>(L7 _ _ (LA (KD e))).trans (KC _ e);have st1:=st.keep k1;have e1:=k1 _ _ e0;have sz1:((s.heap.push { cls:=.type "list",data:=.seq #[] }).update s.heap.objs.size (Obj.mapSeq (λ _=>(#[]:Array Value)))).objs.size=s.heap.objs.size+1:=by rw [Mb,LF]
 generalize (s.heap.push { cls:=.type "list",data:=.seq #[] }).update s.heap.objs.size (Obj.mapSeq (λ _=>(#[]:Array Value)))=hp at hS₂ k1 st1 e1 sz1;unfold Builtin.List.listExtendWith;have ty1:Shared.TypeIs { s with heap:=hp } (.ref z) "zip":=Zst.ty (s:={ s with heap:=hp }) st1;refine wpAny_bind (wpAny_typeOf ty1 ?_);have h1:Builtin.List.listSameRef (.ref s.heap.objs.size) (.ref z)=false:=by simp [Builtin.List.listSameRef,hSz]
 have h2:(Value.type "zip" == Value.type "list")=false:=by decide
 have h3:(Value.type "zip" == Value.type "tuple")=false:=by decide
 simp only [h1,h2,h3,Bool.or_false,Bool.false_eq_true,if_false];refine wpAny_bind (wpAny_pyIter_zip e1 ?_);refine wpAny_bind (wpAny_holding ?_);unfold Builtin.List.listLengthHint;refine wpAny_bind (wpAny_specialOf ty1 pR ?_)
 show wpAny _ A.in1.in1 (specialOf (Value.ref z) (Str.ofString "__length_hint__") >>= _) _ _ _
 refine Kz (wpAny_specialOf ty1 nC ?_);refine KQ ?_
 show wpAny _ A.in1.in1 (rule "list.extend.makes-room" >>= λ _=>Builtin.List.listTouch (.ref s.heap.objs.size) >>= λ _=>
  again (.builtin "list.extend.loop" ⟨[.ref s.heap.objs.size,.ref z,.none],[]⟩)) _ _ _
 refine Kz (Og ?_);refine Kz ?_
 show wpAny _ A.in1.in1 (updateSeq s.heap.objs.size (·.push .none) >>= λ _=>updateSeq s.heap.objs.size (·.pop)) _ _ _
 refine Kz (N9 hS₂ rfl ?_);have hS₃:=LW (Obj.mapSeq (·.push Value.none)) hS₂ rfl;refine N9 (hz:=by seq_fits) hS₃ rfl ?_;have hS₄:=LW (Obj.mapSeq (·.pop)) hS₃ rfl
 have oth:∀ c o,c ≠ s.heap.objs.size->hp.get? c=some o->((hp.update s.heap.objs.size (Obj.mapSeq (·.push Value.none))).update s.heap.objs.size (Obj.mapSeq (·.pop))).get? c=some o:=
  λ c o hc e=>(L7 _ _ (Ld hc)).trans ((L7 _ _ (Ld hc)).trans e)
 have st4:=st1.but e1 hSf (K0 al) (K0 bl) oth;refine KQ ⟨plainId_quiet MF _,wC (A:=A.in1) hh nd na nb s.heap.objs.size lo hSf (K0 al) (K0 bl) hlo hlS hsz _ 0 _ [] _ rfl (Lq _) st4 (by exact hS₄) rfl ⟨LL,λ t h=>absurd h KJ,λ m t h=>by simp at h⟩ (by simp) (λ t h=>absurd h KJ) ?_ λ h' ts' c' r1 r2 r3 r4 r5=>?_⟩
 ·show lo<=((hp.update _ _).update _ _).objs.size
  rw [Mb,Mb,sz1];exact Lu hlS (MN _)
 ·refine⟨rfl,hQ h' ts' c' r1 r2 r3 r4 λ d o hd e=>r5 d o hd (oth d o (K0 (KD e)) (k1 d o e))⟩
end
section
variable {X:Cx}{pins:List (Addr × Obj)}{σ:St}{s:Shared}
theorem Inv.adoptAll:∀ (ts:List Addr) (zs:List (V × V)){H:Hp},Inv X pins σ H s->ts.length=zs.length->ts.Nodup->(∀ t∈ts,rE X pins t/\H t=none)->(∀ (m:Nat) t z,ts[m]? = some t->zs[m]? = some z->∃ u v,aX z.1 u/\aX z.2 v/\IsPair s.heap t u v) →
  ∃ H',Inv X pins σ H' s/\Ext H H'/\(∀ c,c ∉ ts->H' c=H c)/\∀ (m:Nat) t z,ts[m]? = some t->zs[m]? = some z->H' t=some (.tup [z.1,z.2])
 | [],zs,H,I,_,_,_,_=>⟨H,I,Ext.refl _,λ _ _=>rfl,λ m t z h=>by simp at h⟩
 | t::ts,[],H,I,hl,_,_,_=>by simp at hl
 | t::ts,z::zs,H,I,hl,nd,hn,hp=>by
  rw [Lv] at nd;obtain⟨N,ht⟩:=hn t KL;obtain⟨u,v,ru,rv,pr⟩:=hp 0 t z rfl rfl;have I1:=I.adopt (o:=.tup [z.1,z.2]) N ht ⟨(show 2<=sizeLine by decide),[u,v],.cons ru (.cons rv .nil),⟨_,pr,rfl,_,rfl⟩⟩;have up:∀ c∈ts,c ≠ t:=λ c hc e=>nd.1 (e ▸ hc);obtain⟨H',I',e',q',g'⟩:=Inv.adoptAll ts zs I1 (by simpa using hl) nd.2 (λ c hc=>⟨(hn c (KI _ hc)).1,by rw [af (up c hc)];exact(hn c (KI _ hc)).2⟩) λ m t' z' h1 h2=>hp (m+1) t' z' (by simpa using h1) (by simpa using h2);refine⟨H',I',(Ext.new ht).trans e',λ c hc=>?_,λ m t' z' h1 h2=>?_⟩
  ·rw [q' c (λ h=>hc (KI _ h)),af (λ h=>hc (by rw [h];exact KL))]
  ·cases m with
   | zero=>
    simp at h1 h2;subst h1;subst h2;rw [q' t nd.1,ah]
   | succ m=>exact g' m t' z' (by simpa using h1) (by simpa using h2)
end
def lzK(xs ys:List V)(H:Hp)(Q:VK):Prop:=∀ (D:Addr) (ts:List V) (H':Hp),H D=none->Ext H H'->H' D=some (.lst ts)->Al (λ z y=>Hb z y H') (xs.zip ys) ts->Q (.ref D) H'
theorem Ib(xs ys:List V)(H:Hp)(Q:VK):lzK xs ys H Q=∀ (D:Addr) (ts:List V) (H':Hp),H D=none->Ext H H'->H' D=some (.lst ts)->Al (λ z y=>Hb z y H') (xs.zip ys) ts->Q (.ref D) H':=rfl
def CU(xs:List V)(H:Hp)(Q:VK):HO->Prop:=λ o=>match o with
 | .lst ys=>lzK xs ys H Q
 | .tup ys=>lzK xs ys H Q
 | _=>False
theorem xE(xs ys:List V)(H:Hp)(Q:VK):CU xs H Q (.lst ys)=lzK xs ys H Q:=rfl
def GZ(b:Addr)(H:Hp)(Q:VK):HO->Prop:=λ o=>match o with
 | .lst xs=>aF (H b) (CU xs H Q)
 | .tup xs=>aF (H b) (CU xs H Q)
 | _=>False
theorem xF(b:Addr)(xs:List V)(H:Hp)(Q:VK):GZ b H Q (.lst xs)=aF (H b) (CU xs H Q):=rfl
def Dh(Q:VK):List V->Hp->Prop:=λ vs H=>match vs with
 | [.ref a,.ref b]=>aF (H a) (GZ b H Q)
 | _=>False
theorem FF(Q:VK)(a b:Addr)(H:Hp):Dh Q [.ref a,.ref b] H=aF (H a) (GZ b H Q):=rfl
def tLZ(ta:TA):TE:=λ σ H Q=>ta σ H (Dh Q)
theorem Iw(ta:TA)(σ:St)(H:Hp)(Q:VK):tLZ ta σ H Q=ta σ H (Dh Q):=rfl
theorem B9{Q:VK}{vs:List V}{H:Hp}(h:Dh Q vs H):∃ a b ka kb xs ys,vs=[.ref a,.ref b]/\SqK ka H a xs/\SqK kb H b ys/\lzK xs ys H Q:=by
 unfold Dh at h;split at h
 ·rename_i a b;obtain⟨o,e,h⟩:=aj h;unfold GZ at h;split at h
  ·rename_i xs;obtain⟨o',e',h⟩:=aj h;unfold CU at h;split at h
   ·exact⟨a,b,false,false,xs,_,rfl,e,e',h⟩
   ·exact⟨a,b,false,true,xs,_,rfl,e,e',h⟩
   ·exact h.elim
  ·rename_i xs;obtain⟨o',e',h⟩:=aj h;unfold CU at h;split at h
   ·exact⟨a,b,true,false,xs,_,rfl,e,e',h⟩
   ·exact⟨a,b,true,true,xs,_,rfl,e,e',h⟩
   ·exact h.elim
  ·exact h.elim
 ·exact h.elim
theorem Inv.sqLe{X:Cx}{pins:List (Addr × Obj)}{σ:St}{H:Hp}{s:Shared}{k:Bool}{a:Addr}{xs:List V}(I:Inv X pins σ H s)(h:SqK k H a xs):xs.length<=sizeLine:=by
 cases k
 ·obtain⟨_,_,_,h⟩:=I.list (SqL.of h);exact h
 ·obtain⟨_,_,_,h⟩:=I.tuple (SqT.of h);exact h
section
variable {X:Cx}
theorem k8:∀ ts:List Addr,aK (ts.map V.ref) (ts.map Value.ref)
 | []=>.nil
 | _::ts=>.cons rfl (k8 ts)
theorem pZ{a b:Expr}{ta:TA}{p p2 pos pos2:Pos}(hc:X.calm=true)(hg:Gl X "list")(hm:X.mg "list"=none)(hg2:Gl X "zip")(hm2:X.mg "zip"=none)(ha:PA X [a,b] ta)(hs:starEach [a,b] X.env=[(false,eval a X.env),(false,eval b X.env)]:=by rfl)(hs2:starEach [b] X.env=[(false,eval b X.env)]:=by rfl)(hs3:starEach [Expr.Call (.Name "zip" p2) [a,b] [] pos2] X.env=[(false,eval (Expr.Call (.Name "zip" p2) [a,b] [] pos2) X.env)]:=by rfl)(hs4:starEach ([]:List Expr) X.env=[]:=by rfl) :
  PE X (.Call (.Name "list" p) [.Call (.Name "zip" p2) [a,b] [] pos2] [] pos) (tLZ ta):=by
 intro pins s σ H Q I h;refine Mt (fA I hg hm (show bootBuiltins "list"=some (.type "list") by decide +kernel) ?_);refine LM ?_ (by rw [hs3,hs4]) (by rw [hs4];rfl);rw [hs3]
 show wpAny _ _ (spliced ((false,eval _ X.env)::[])) _ _ s
 refine Nh ?_;refine Call_ (fA I hg2 hm2 (show bootBuiltins "zip"=some (.type "zip") by decide +kernel) (LM (thn (ha pos2 pins s σ H _ I h) λ us s1 ⟨vs,H1,I1,r1,q1⟩=>?_) (by rw [hs,hs2]) (by rw [hs2];rfl)));obtain⟨a,b,ka,kb,xs,ys,rfl,sa,sb,q⟩:=B9 q1
 cases r1 with
 | cons r rr=>
  cases rr with
  | cons r' rr=>
   cases rr;cases r;cases r';obtain⟨as,ra,s1a⟩:=I1.sq sa;obtain⟨bs,rb,s1b⟩:=I1.sq sb;have la:=ra.length;have lb:=rb.length;have lz:=I1.sqLe sa;have lz2:=I1.sqLe sb;refine tN s1a s1b λ h' n hn e1 e2 e3 e4 e5 e6 e7=>?_;refine NV ?_
   have nn:∀ c∈[n+4,n+2,n+3,n,n+1],n<=c:=λ c hc=>by
    simp only [K2,KJ,LB] at hc
    rcases hc with rfl|rfl|rfl|rfl|rfl<;>omega
   have al:a < n:=by rw [hn];obtain⟨o,_,e,_⟩:=s1a.obj;exact KD e
   have bl:b < n:=by rw [hn];obtain⟨o,_,e,_⟩:=s1b.obj;exact KD e
   refine kD (s:={ s1 with heap:=h' }) (I1.ok.hd hc) (by simp) (λ z=>absurd (nn a z) (Nat.not_le.mpr al)) (λ z=>absurd (nn b z) (Nat.not_le.mpr bl)) n nn (by simp;omega) e1 ⟨.inl e1,e2,⟨_,_,e3⟩,⟨e4,s1a.at λ o e=>e7 _ o e⟩,e5,s1b.at λ o e=>e7 _ o e⟩ λ h2 ts c r1 r2 G r4 r5=>?_;have r1':h2.get? (n+5)=some { cls:=.type "list",dict:=none,data:=.seq (ts.map Value.ref).toArray c,slots:=#[] }:=by rw [←e6];exact r1
   have I2:Inv X pins σ H1 { s1 with heap:=h2 }:=I1.kept (t':=s1.toks) λ c o e=>r5 c o (by rw [hn];exact KD e) (e7 c o e);have hln:ts.length=(xs.zip ys).length:=by rw [r2,NN];simp;omega
   have fr:∀ t,n<=t->rE X pins t/\H1 t=none:=λ t ht=>⟨I1.newAt (by rw [←hn];exact ht),I1.hok.fresh (by rw [←hn];exact ht)⟩
   obtain⟨H2,I3,x2,q2,g2⟩:=I2.adoptAll ts (xs.zip ys) hln G.nd (λ t ht=>fr t (G.lo t ht)) λ m t z h1 h2=>by
    obtain⟨u,v,g1,g2,g3⟩:=G.get m t h1;rw [L8] at h2;obtain⟨u',hu,ru⟩:=ra.get h2.1;obtain⟨v',hv,rv⟩:=rb.get h2.2;have hu':as.toArray[m]? = some u':=by simpa using hu
    have hv':bs.toArray[m]? = some v':=by simpa using hv
    rw [g1] at hu';rw [g2] at hv';cases hu';cases hv';exact⟨u,v,ru,rv,g3⟩
   have hD:H2 (n+5)=none:=by
    rw [q2 _ (by rw [←e6];exact r4)];exact(fr (n+5) (Mi ..)).2
   have I4:=I3.adopt (o:=.lst (ts.map V.ref)) (fr (n+5) (Mi ..)).1 hD ⟨by rw [KG,r2];simp;omega,ts.map Value.ref,c,k8 ts,r1'⟩;refine⟨.ref (n+5),_,I4,by rw [←e6];rfl,q (n+5) (ts.map V.ref) _ (fr (n+5) (Mi ..)).2 (x2.trans (Ext.new hD)) ah ⟨by rw [KG,hln],λ m z y hz hy=>?_⟩⟩;rw [La] at hy;obtain⟨t,ht,rfl⟩:=KW.mp hy;exact⟨t,rfl,by rw [af (λ e=>r4 (by rw [e6,←e];exact Lh ht))];exact g2 m t z ht hz⟩
end
def zW(H:Hp)(Q:VK):List Int->Prop:=λ ns=>0 < ns.length/\∀ M,M∈ns->(∀ a∈ns,M<=a)->Q (.int M) H
theorem Af(H:Hp)(Q:VK)(ns:List Int):zW H Q ns=(0 < ns.length/\∀ M,M∈ns->(∀ a∈ns,M<=a)->Q (.int M) H):=rfl
def zX(H:Hp)(Q:VK):List Int->Prop:=λ ns=>0 < ns.length/\∀ M,M∈ns->(∀ a∈ns,a<=M)->Q (.int M) H
theorem Ag(H:Hp)(Q:VK)(ns:List Int):zX H Q ns=(0 < ns.length/\∀ M,M∈ns->(∀ a∈ns,a<=M)->Q (.int M) H):=rfl
def zI:List V->Hp->VK->Prop:=λ vs H Q=>match vs with
 | [.ref p]=>aF (au H p) (fT (zW H Q))
 | _=>False
theorem Bj(p:Addr)(H:Hp)(Q:VK):zI [.ref p] H Q=aF (au H p) (fT (zW H Q)):=rfl
def zJ:List V->Hp->VK->Prop:=λ vs H Q=>match vs with
 | [.ref p]=>aF (au H p) (fT (zX H Q))
 | _=>False
theorem Bk(p:Addr)(H:Hp)(Q:VK):zJ [.ref p] H Q=aF (au H p) (fT (zX H Q)):=rfl
section
variable {X:Cx}
theorem qH(hc:X.calm=true):bL X (.builtin "min") zI:=by
 intro pins s σ H vs us Q I r h;unfold zI at h;split at h
 ·rename_i p;obtain⟨xs,e,ns,rfl,hn,q⟩:=aj h
  cases r with
  | cons r rr=>
   cases rr;cases r;obtain⟨its,rv,pl,hz⟩:=I.list (SqL.of (bx e));have hlt:p < s.heap.objs.size:=by obtain⟨_,e,_⟩:=pl.isList;exact KD e
   have hlen:its.length=ns.length:=by have:=rv.length;simpa using this.symm
   have hsz:its.toArray.size=ns.length:=by simp [hlen]
   have hP:∀ (i:Nat) (v:Value),its.toArray[i]? = some v->∃ t,v=.int (ns.getD i 0) t:=λ i v hP=>by
    have hv:its[i]? = some v:=by simpa using hP
    have hi:i < ns.length:=by rw [←hlen];exact(KH.mp hv).1
    obtain⟨u,hu,ru⟩:=rv.get (i:=i) (x:=.int (ns.getD i 0)) (by rw [La,KA hi];simp [List.getD,KA hi]);rw [hv] at hu;cases hu;exact ru
   refine call_min_walkS (Mh pl.isList ⟨s.heap.objs.size,_,_,_,_,_,_,λ i j=>decide (ns.getD i 0 < ns.getD j 0),rfl,(Walks.list (show X.A.in1.handled=none from I.ok.hd hc) _ p (K0 hlt) its.toArray).toS,⟨⟨_,KR _ rfl,rfl,rfl⟩,pl.isList.push _⟩,λ b hb=>?_,by rw [hsz];exact hn,CmpOf.ints_lt (λ i=>ns.getD i 0) λ i v h=>hP i v h,λ v s' hv hm=>?_⟩)
   ·rw [LF]
    rcases K2.mp hb with rfl|hb
    ·exact MJ _
    ·rw [KN.mp hb];exact Md hlt
   ·obtain⟨hp,g,d,tk,os⟩:=s'
    have kp:∀ b o,s.heap.get? b=some o->hp.get? b=some o:=λ b o e=>hm.heap b o (λ hmem=>by
     have:b=s.heap.objs.size:=by simpa using hmem
     subst this;exact absurd (KD e) (LJ _)) (KC _ e)
    have e1:g=s.gens:=hm.gens;have e2:d=s.drawn:=hm.drawn;have e3:os=s.os:=hm.os;subst e1 e2 e3;obtain⟨b1,b2⟩:=argBest_lt (λ i=>ns.getD i 0) (its.toArray.size - 1);have rv2:=hP _ v hv;generalize argBest (λ i j=>decide (ns.getD i 0 < ns.getD j 0)) (its.toArray.size - 1)=k at b1 b2 rv2;rw [hsz] at b1 b2;have hk:k < ns.length:=by omega
    refine⟨.int (ns.getD k 0),H,I.kept (t':=tk) kp,rv2,q _ ?_ λ a ha=>?_⟩
    ·rw [List.getD,KA hk];exact My hk
    ·obtain⟨j,hj,rfl⟩:=L0 ha;have:=b2 j (by omega);rw [show ns.getD j 0=ns[j] by rw [List.getD,KA hj];rfl] at this;exact this
 ·exact h.elim
theorem qI(hc:X.calm=true):bL X (.builtin "max") zJ:=by
 intro pins s σ H vs us Q I r h;unfold zJ at h;split at h
 ·rename_i p;obtain⟨xs,e,ns,rfl,hn,q⟩:=aj h
  cases r with
  | cons r rr=>
   cases rr;cases r;obtain⟨its,rv,pl,hz⟩:=I.list (SqL.of (bx e));have hlt:p < s.heap.objs.size:=by obtain⟨_,e,_⟩:=pl.isList;exact KD e
   have hlen:its.length=ns.length:=by have:=rv.length;simpa using this.symm
   have hsz:its.toArray.size=ns.length:=by simp [hlen]
   have hP:∀ (i:Nat) (v:Value),its.toArray[i]? = some v->∃ t,v=.int (ns.getD i 0) t:=λ i v hP=>by
    have hv:its[i]? = some v:=by simpa using hP
    have hi:i < ns.length:=by rw [←hlen];exact(KH.mp hv).1
    obtain⟨u,hu,ru⟩:=rv.get (i:=i) (x:=.int (ns.getD i 0)) (by rw [La,KA hi];simp [List.getD,KA hi]);rw [hv] at hu;cases hu;exact ru
   refine call_max_walkS (Mh pl.isList ⟨s.heap.objs.size,_,_,_,_,_,_,λ i j=>decide (ns.getD i 0 > ns.getD j 0),rfl,(Walks.list (show X.A.in1.handled=none from I.ok.hd hc) _ p (K0 hlt) its.toArray).toS,⟨⟨_,KR _ rfl,rfl,rfl⟩,pl.isList.push _⟩,λ b hb=>?_,by rw [hsz];exact hn,CmpOf.ints_gt (λ i=>ns.getD i 0) λ i v h=>hP i v h,λ v s' hv hm=>?_⟩)
   ·rw [LF]
    rcases K2.mp hb with rfl|hb
    ·exact MJ _
    ·rw [KN.mp hb];exact Md hlt
   ·obtain⟨hp,g,d,tk,os⟩:=s'
    have kp:∀ b o,s.heap.get? b=some o->hp.get? b=some o:=λ b o e=>hm.heap b o (λ hmem=>by
     have:b=s.heap.objs.size:=by simpa using hmem
     subst this;exact absurd (KD e) (LJ _)) (KC _ e)
    have e1:g=s.gens:=hm.gens;have e2:d=s.drawn:=hm.drawn;have e3:os=s.os:=hm.os;subst e1 e2 e3;obtain⟨b1,b2⟩:=argBest_gt (λ i=>ns.getD i 0) (its.toArray.size - 1);have rv2:=hP _ v hv;generalize argBest (λ i j=>decide (ns.getD i 0 > ns.getD j 0)) (its.toArray.size - 1)=k at b1 b2 rv2;rw [hsz] at b1 b2;have hk:k < ns.length:=by omega
    refine⟨.int (ns.getD k 0),H,I.kept (t':=tk) kp,rv2,q _ ?_ λ a ha=>?_⟩
    ·rw [List.getD,KA hk];exact My hk
    ·obtain⟨j,hj,rfl⟩:=L0 ha;have:=b2 j (by omega);rw [show ns.getD j 0=ns[j] by rw [List.getD,KA hj];rfl] at this;exact this
 ·exact h.elim
end
def Aa(l:Addr)(xs:List V)(H:Hp)(Q:VK):List V->Prop:=λ zs=>xs.length+zs.length<=sizeLine/\Q .non (upd H l (.lst (xs++zs)))
theorem BM(l:Addr)(xs:List V)(H:Hp)(Q:VK)(zs:List V):Aa l xs H Q zs=(xs.length+zs.length<=sizeLine/\Q .non (upd H l (.lst (xs++zs)))):=rfl
def DT(l b:Addr)(H:Hp)(Q:VK):List V->Prop:=λ xs=>aF (au H b) (Aa l xs H Q)
theorem BN(l b:Addr)(H:Hp)(Q:VK)(xs:List V):DT l b H Q xs=aF (au H b) (Aa l xs H Q):=rfl
theorem uB(l b:Addr)(H:Hp)(Q:VK):sM (.ref l) [.ref b] H Q=aF (au H l) (DT l b H Q):=by
 refine propext ⟨λ h=>?_,λ h=>?_⟩
 ·obtain⟨l',b',xs,zs,e1,e2,h1,h2,h3,q⟩:=h;cases e1;cases e2;unfold au;rw [h1]
  show aF (au H b) _
  unfold au;rw [h2];exact⟨h3,q⟩
 ·obtain⟨xs,e,h⟩:=aj h;obtain⟨zs,e2,h3,q⟩:=aj h;exact⟨l,b,xs,zs,rfl,rfl,bx e,bx e2,h3,q⟩
section
variable {X:Cx}{a b c d:Expr}{ta tb tc td:TE}{pos:Pos}
end
section
variable {k:Nat}{g:TG}{tt:TT}{te:TE}{σ:St}{Q:VK}{H:Hp}{K:PySem.W.Frag}
theorem iw{α:Type}{J:It}(zs:List α)(c:α->Bool)(P:α->V->Hp->Prop)(R:Addr->α->V->Hp->Prop)
  (hgo:∀ i z H',zs[i]? = some z->Ext H H'->J.go i H'/\∀ x H'',J.yld i H' x H''->Ext H' H''/\P z x H'')
  (hst:∀ H',Ext H H'->J.stop zs.length H')
  (hR1:∀ D z y H1 H2,R D z y H1->Ext H1 H2->R D z y H2) (hR2:∀ D z y H1 xs o,R D z y H1->H1 D=some (.lst xs)->R D z y (upd H1 D o))
  (hl:zs.length<=sizeLine)
  (hs:∀ D z x H' N1 N0,z∈zs->H D=none->Ext H H'->(∃ ys,H' D=some (.lst ys))->P z x H'->(c z=true->∀ y H'',Ext H' H''->R D z y H''->N1 y H'')->(c z=false->∀ H'',Ext H' H''->N0 H'')->g x (List.replicate k none++σ) H' (kCm k tt te σ N1 N0))
  (hd:∀ D ys H',H D=none->Ext H H'->H' D=some (.lst ys)->Al (λ z y=>R D z y H') (zs.filter c) ys->Q (.ref D) H'):rA k g tt te σ Q J H:=by
 intro D hD;refine⟨λ i m ys H'=>m=zs.length - i/\i<=zs.length/\Ext H H'/\H' D=some (.lst ys)/\Al (λ z y=>R D z y H') ((zs.take i).filter c) ys,⟨zs.length,by simp,Lq _,Ext.new hD,ah,by simpa using Al.nil⟩,?_⟩;rintro i m ys H' ⟨rfl,hi,e,hD',al⟩
 by_cases hlt:i < zs.length
 ·have hz:zs[i]? = some zs[i]:=KA hlt;obtain⟨go,y⟩:=hgo i zs[i] H' hz e;have tk:zs.take (i+1)=zs.take i++[zs[i]]:=by rw [N3,hz];rfl
  have ln:ys.length < sizeLine:=by
   have h1:=al.1;have h2:=NS c (zs.take i);simp only [LH] at h2;omega
  refine .inr ⟨go,λ ys' H2=>Ext H H2/\H2 D=some (.lst ys')/\Al (λ z y=>R D z y H2) ((zs.take (i+1)).filter c) ys',λ ys' H2 p=>⟨zs.length - (i+1),by omega,rfl,hlt,p⟩,λ x H2 z=>?_⟩;obtain⟨e2,p2⟩:=y x H2 z;refine hs D zs[i] x H2 (kC3 D ys _) _ (My hlt) hD (e.trans e2) ⟨ys,e2.at hD'⟩ p2 (λ hc y H3 e3 r3=>?_) λ hc H3 e3=>?_
  ·refine⟨e3.at (e2.at hD'),ln,(e.trans (e2.trans e3)).put hD,ah,?_⟩;rw [tk,MW,show [zs[i]].filter c=[zs[i]] by simp [hc]];exact Al.snoc (al.imp λ z y r=>hR2 _ _ _ _ _ _ (hR1 _ _ _ _ _ r (e2.trans e3)) (e3.at (e2.at hD'))) (hR2 _ _ _ _ _ _ r3 (e3.at (e2.at hD')))
  ·refine⟨e.trans (e2.trans e3),(e2.trans e3).at hD',?_⟩;rw [tk,MW,show [zs[i]].filter c=[] by simp [hc],M4];exact al.imp λ z y r=>hR1 _ _ _ _ _ r (e2.trans e3)
 ·have e':i=zs.length:=by omega
  subst e';rw [LG] at al;exact .inl ⟨hst H' e,hd D ys H' hD e hD' al⟩
end
section
variable {X:Cx}
end
section
variable {g:TG}{σ:St}{Q:VK}{H:Hp}{K:PySem.W.Frag}
end
section
variable {X:Cx}{CX:CXT}{k:Nat}{f C:Addr}{fd:FuncData}{ps:List Str}{sp:Sp}{dvs:List V}{ds:List Value}{E:St->XK}{x m:Str}{p pos apos:Pos}{e o:Expr}{es:List Expr}{ta:TE}{t:TA}
end
theorem cJ{α β:Type}(f:α->Option β)(g:α->β):∀ xs:List α,(∀ x∈xs,f x=some (g x))->xs.filterMap f=xs.map g
 | [],_=>rfl
 | x::r,h=>by
  rw [Nq,h x KL]
  show g x::_=_
  rw [cJ f g r λ y hy=>h y (KI _ hy)];rfl
theorem kg(its:List Value):slicePick its.toArray none none (some (-1))=its.reverse.toArray:=by
 unfold slicePick sliceBounds sliceRange;simp only [Option.getD_some,size_toArray,show ¬ ((-1:Int) > 0) by decide,if_false]
 have e:(List.range (if (its.length:Int) - 1 > -1 then ((its.length:Int) - 1 - -1 - -1 - 1) / - -1 else 0).toNat)=List.range its.length:=by
  congr 1
  by_cases h:(its.length:Int) - 1 > -1
  ·rw [KZ h,show (- -1:Int)=1 from rfl,Int.ediv_one];omega
  ·rw [KU h];omega
 rw [e];congr 1;rw [List.filterMap_map];apply List.ext_getElem?;intro i
 by_cases hi:i < its.length
 ·rw [cJ _ (λ k=>(its.reverse[k]?).getD .none) (List.range its.length) (λ k hk=>?_)]
  ·rw [La,List.getElem?_range hi]
   show some ((its.reverse[i]?).getD .none)=_
   rw [KA (by simpa using hi)];rfl
  ·have hk':=LQ.mp hk
   show its.toArray[((its.length:Int) - 1 + -1 * (k:Int)).toNat]? = _
   have hn:((its.length:Int) - 1 + -1 * (k:Int)).toNat=its.length - 1 - k:=by omega
   rw [hn,List.getElem?_toArray,List.getElem?_reverse hk',KA (by omega)];rfl
 ·rw [Mm (show its.reverse.length<=i by rw [MO];omega)];refine Mm (Lu (List.length_filterMap_le _ _) ?_);rw [MZ];omega
def zV(H:Hp)(Q:VK):List V->Prop:=λ xs=>i6 (.lst xs.reverse) H Q
theorem BE(H:Hp)(Q:VK)(xs:List V):zV H Q xs=i6 (.lst xs.reverse) H Q:=rfl
def GY(Q:VK):VK:=λ x H=>match x with
 | .ref p=>aF (au H p) (zV H Q)
 | _=>False
theorem Fx(Q:VK)(p:Addr)(H:Hp):GY Q (.ref p) H=aF (au H p) (zV H Q):=rfl
def Jo(te:TE):TE:=λ σ H Q=>te σ H (GY Q)
theorem ET(te:TE)(σ:St)(H:Hp)(Q:VK):Jo te σ H Q=te σ H (GY Q):=rfl
section
variable {X:Cx}{e st:Expr}{te tst:TE}{pos p2:Pos}
theorem Eo(he:PE X e te)(hs:PE X st tst)(h1:∀ (σ:St) (H:Hp) (Q:VK),Q (.int (-1)) H->tst σ H Q):PE X (.Subscript e (.Slice none none (some st) p2) pos) (Jo te):=by
 intro pins s σ H Q I h;refine Subscript_ (thn (he pins s σ H _ I h) λ v s1 ⟨x,H1,I1,r1,q1⟩=>?_);unfold GY at q1;split at q1
 ·rename_i p;obtain⟨xs,ex,q⟩:=aj q1;replace ex:=bx ex;cases r1;refine wpAny_Slice ?_;rw [evalPart_none];refine KQ ?_;refine KQ ?_;rw [evalPart_some];refine thn (hs pins s1 σ H1 (λ y H'=>y=.int (-1)/\H'=H1) I1 (h1 σ H1 _ ⟨rfl,rfl⟩)) λ u s2 ⟨y,H2,I2,r2,e2,e3⟩=>?_;subst e2 e3;obtain⟨tk,rfl⟩:=r2;have I4:Inv X pins σ H2 { s2 with heap:=s2.heap.push { cls:=.type "slice",data:=.fields #[.none,.none,.int (-1) tk] } }:=I2.kept (t':=s2.toks) λ b ob q=>KC _ q
  show wpAny (model X.prog X.w) X.A (subscriptTail e (.Slice none none (some st) p2) (.ref p) (.ref s2.heap.objs.size)) (EP X pins σ Q) X.xe { s2 with heap:=s2.heap.push { cls:=.type "slice",data:=.fields #[.none,.none,.int (-1) tk] } }
  obtain⟨its,r,ht,hz⟩:=I4.list (SqL.of ex);refine tail_any (ops:=[.ref p,.ref s2.heap.objs.size]) ht.isList.typeIs slot_list_getitem.lookup ?_ (by with_unfolding_all rfl);have hlen:=r.length;refine wpAny_getItem_list_slice (st:=some (-1)) ht.isList (Heap.IsSliceOf.new ..) .none .none (.int (-1) tk) (by simp) ?_ (by rw [Lg]<;>omega);rw [kg];have fr:=I4.hok.fresh (KO (Heap.objs (s2.heap.push { cls:=.type "slice",data:=.fields #[.none,.none,.int (-1) tk] })).size);refine⟨.ref (s2.heap.push { cls:=.type "slice",data:=.fields #[.none,.none,.int (-1) tk] }).objs.size,_,I4.laid (t':=s2.toks) (o:=.lst xs.reverse) (λ b ob q=>KC _ q) (KO _) ?_,rfl,q _ _ fr (Ext.new fr) ah⟩;exact⟨by rw [MO];exact hz,its.reverse,0,r.reverse,KR _ rfl⟩
 ·exact q1.elim
end
theorem iA:∀ {xs:List V}{us:List Value},us.length=xs.length->(∀ (i:Nat) (x:V) (u:Value),xs[i]? = some x->us[i]? = some u->aX x u)->aK xs us
 | [],[],_,_=>.nil
 | [],_::_,h,_=>by cases h
 | _::_,[],h,_=>by cases h
 | x::xs,u::us,h,k=>.cons (k 0 x u rfl rfl) (iA (by simpa using h) λ i y w a b=>k (i+1) y w (by simpa using a) (by simpa using b))
section
variable {X:Cx}
end
theorem aY{n:Nat}(h:n+64 < cLine):n+1 < cLine:=by omega
def G1(Q:VK)(x:V):VK:=λ y H=>∃ a v,x=.ref a/\jw H a y (some v)/\Q v H
def JS(ty:TE)(σ:St)(Q:VK):VK:=λ x H=>ty σ H (G1 Q x)
theorem FQ(ty:TE)(σ:St)(Q:VK)(x:V)(H:Hp):JS ty σ Q x H=ty σ H (G1 Q x):=rfl
theorem Ba(td ty:TE)(σ:St)(H:Hp)(Q:VK):Dt td ty σ H Q=td σ H (JS ty σ Q):=rfl
theorem gU{H:Hp}{a:Addr}{kvs:List (Key × V)}{k:Key}{v:V}{Q:VK}(e:H a=some (.dK kvs))(h:cS kvs k=some v)(q:Q v H):G1 Q (.ref a) (kV k) H:=⟨a,v,rfl,h ▸ jw.k e,q⟩
def GU(neg:Bool):R2:=λ y x H Q=>∃ a o,x=.ref a/\jw H a y o/\Q (.bl (if neg=true then !o.isSome else o.isSome)) H
theorem eL{neg:Bool}{H:Hp}{a:Addr}{kvs:List (Key × V)}{k:Key}{Q:VK}(e:H a=some (.dK kvs))(q:Q (.bl (if neg=true then !(cS kvs k).isSome else (cS kvs k).isSome)) H):GU neg (kV k) (.ref a) H Q:=⟨a,_,rfl,jw.k e,q⟩
section
variable {X:Cx}
theorem sj(hu:X.A.units+1 < cLine):OpR X (compareOp .In) (GU false):=by
 intro pins s σ H x y v u Q I rx ry h;obtain⟨a,o,rfl,g,q⟩:=h;obtain rfl:u=Value.ref a:=ry;exact Kr hu I g rx λ s3 I3=>⟨.bl o.isSome,H,I3,rfl,q⟩
theorem lB(hu:X.A.units+1 < cLine):OpR X (compareOp .NotIn) (GU true):=by
 intro pins s σ H x y v u Q I rx ry h;obtain⟨a,o,rfl,g,q⟩:=h;obtain rfl:u=Value.ref a:=ry;exact Cz hu I g rx λ s3 I3=>⟨.bl (!o.isSome),H,I3,rfl,q⟩
end
def HM(nx:St->Hp->Prop)(σ:St)(v x:V):VK:=λ y H=>∃ a H4,x=.ref a/\C9 H a y v H4/\nx σ H4
def HN(ty:TE)(nx:St->Hp->Prop)(σ:St)(v:V):VK:=λ x H=>ty σ H (HM nx σ v x)
theorem FO(ty:TE)(nx:St->Hp->Prop)(σ:St)(v x:V)(H:Hp):HN ty nx σ v x H=ty σ H (HM nx σ v x):=rfl
def JR(td ty:TE)(nx:St->Hp->Prop)(σ:St):VK:=λ v H=>td σ H (HN ty nx σ v)
theorem FP(td ty:TE)(nx:St->Hp->Prop)(σ:St)(v:V)(H:Hp):JR td ty nx σ v H=td σ H (HN ty nx σ v):=rfl
theorem Bf(td ty tv:TE)(nx:St->Hp->Prop)(rt:VK)(bk ct:St->Hp->Prop)(σ:St)(H:Hp):Dx td ty tv ⟨nx,rt,bk,ct⟩ σ H=tv σ H (JR td ty nx σ):=rfl
theorem gT{H:Hp}{a:Addr}{kvs:List (Key × V)}{k:Key}{v:V}{nx:St->Hp->Prop}{σ:St}(e:H a=some (.dK kvs))(hl:kvs.length < sizeLine)(q:nx σ (upd H a (.dK (c8 kvs k v)))):HM nx σ v (.ref a) (kV k) H:=⟨a,_,rfl,C9.k e hl,q⟩
theorem iF:∀ {us:List Value}{ns:List Int},us.length=ns.length->(∀ (i:Nat) (u:Value),us[i]? = some u->∃ n t,ns[i]? = some n/\u=.int n t)->IntsAre us ns
 | [],[],_,_=>.nil
 | [],_::_,h,_=>by cases h
 | _::_,[],h,_=>by cases h
 | u::us,n::ns,h,k=>by
  obtain⟨m,t,e1,rfl⟩:=k 0 u rfl;cases e1;exact .cons n t (iF (by simpa using h) λ i u e=>k (i+1) u (by simpa using e))
theorem gr:∀ {us:List Value}{ns:List Int},IntsAre us ns->aK (ns.map V.int) us
 | _,_,.nil=>.nil
 | _,_,.cons n t r=>.cons ⟨t,rfl⟩ (gr r)
theorem jh{α β:Type}{F:α->β->Prop}:∀ {l₁:List α}{l₂:List β},Paired F l₁ l₂->∀ {i:Nat}{a:α},l₁[i]? = some a->∃ b,l₂[i]? = some b/\F a b
 | _,_,.nil,i,a,h=>by simp at h
 | _,_,.cons h₁ t,0,a,h=>by cases h;exact⟨_,rfl,h₁⟩
 | _,_,.cons h₁ t,i+1,a,h=>jh t (i:=i) (by simpa using h)
section
variable {X:Cx}
end
def tV(i:Nat):TE:=λ σ H Q=>match σ[i]? with
 | some (some v)=>Q v H
 | _=>False
theorem Dm(i:Nat):GR i=tV i:=by
 funext σ H Q;refine propext ⟨λ ⟨v,e,q⟩=>?_,λ h=>?_⟩
 ·unfold tV;rw [e];exact q
 ·unfold tV at h;split at h
  ·rename_i v e;exact⟨v,e,h⟩
  ·exact h.elim
theorem ER{v:V}{σ:St}{H:Hp}{Q:VK}:tV 0 (some v::σ) H Q=Q v H:=rfl
theorem EO{a0:Option V}{v:V}{σ:St}{H:Hp}{Q:VK}:tV 1 (a0::some v::σ) H Q=Q v H:=rfl
theorem EN{a0 a1:Option V}{v:V}{σ:St}{H:Hp}{Q:VK}:tV 2 (a0::a1::some v::σ) H Q=Q v H:=rfl
theorem EM{a0 a1 a2:Option V}{v:V}{σ:St}{H:Hp}{Q:VK}:tV 3 (a0::a1::a2::some v::σ) H Q=Q v H:=rfl
theorem EL{a0 a1 a2 a3:Option V}{v:V}{σ:St}{H:Hp}{Q:VK}:tV 4 (a0::a1::a2::a3::some v::σ) H Q=Q v H:=rfl
theorem EK{a0 a1 a2 a3 a4:Option V}{v:V}{σ:St}{H:Hp}{Q:VK}:tV 5 (a0::a1::a2::a3::a4::some v::σ) H Q=Q v H:=rfl
theorem EJ{a0 a1 a2 a3 a4 a5:Option V}{v:V}{σ:St}{H:Hp}{Q:VK}:tV 6 (a0::a1::a2::a3::a4::a5::some v::σ) H Q=Q v H:=rfl
theorem EI{a0 a1 a2 a3 a4 a5 a6:Option V}{v:V}{σ:St}{H:Hp}{Q:VK}:tV 7 (a0::a1::a2::a3::a4::a5::a6::some v::σ) H Q=Q v H:=rfl
theorem EH{a0 a1 a2 a3 a4 a5 a6 a7:Option V}{v:V}{σ:St}{H:Hp}{Q:VK}:tV 8 (a0::a1::a2::a3::a4::a5::a6::a7::some v::σ) H Q=Q v H:=rfl
theorem EG{a0 a1 a2 a3 a4 a5 a6 a7 a8:Option V}{v:V}{σ:St}{H:Hp}{Q:VK}:tV 9 (a0::a1::a2::a3::a4::a5::a6::a7::a8::some v::σ) H Q=Q v H:=rfl
theorem A5{a0 a1 a2 a3 a4 a5 a6 a7 a8 a9:Option V}{v:V}{σ:St}{H:Hp}{Q:VK}:tV 10 (a0::a1::a2::a3::a4::a5::a6::a7::a8::a9::some v::σ) H Q=Q v H:=rfl
theorem A4{a0 a1 a2 a3 a4 a5 a6 a7 a8 a9 a10:Option V}{v:V}{σ:St}{H:Hp}{Q:VK}:tV 11 (a0::a1::a2::a3::a4::a5::a6::a7::a8::a9::a10::some v::σ) H Q=Q v H:=rfl
theorem A3{a0 a1 a2 a3 a4 a5 a6 a7 a8 a9 a10 a11:Option V}{v:V}{σ:St}{H:Hp}{Q:VK}:tV 12 (a0::a1::a2::a3::a4::a5::a6::a7::a8::a9::a10::a11::some v::σ) H Q=Q v H:=rfl
theorem A0{a0 a1 a2 a3 a4 a5 a6 a7 a8 a9 a10 a11 a12:Option V}{v:V}{σ:St}{H:Hp}{Q:VK}:tV 13 (a0::a1::a2::a3::a4::a5::a6::a7::a8::a9::a10::a11::a12::some v::σ) H Q=Q v H:=rfl
def nI0(g:Int->Int->V):R2:=λ x y H Q=>match x,y with
 | .int i,.int j=>Q (g i j) H
 | _,_=>False
theorem IE(g:Int->Int->V)(i j:Int)(H:Hp)(Q:VK):nI0 g (.int i) (.int j) H Q=Q (g i j) H:=rfl
theorem gX(g:Int->Int->V):rI0 g=nI0 g:=by
 funext x y H Q;refine propext ⟨λ ⟨i,j,e,e',q⟩=>by subst e e';exact q,λ h=>?_⟩;unfold nI0 at h;split at h
 ·exact⟨_,_,rfl,rfl,h⟩
 ·exact h.elim
def nI(C:Int->Int->Prop)(g:Int->Int->V):R2:=λ x y H Q=>match x,y with
 | .int i,.int j=>C i j/\Q (g i j) H
 | _,_=>False
theorem Kl(C:Int->Int->Prop)(g:Int->Int->V)(i j:Int)(H:Hp)(Q:VK):nI C g (.int i) (.int j) H Q=(C i j/\Q (g i j) H):=rfl
theorem rn(C:Int->Int->Prop)(g:Int->Int->V):rI C g=nI C g:=by
 funext x y H Q;refine propext ⟨λ ⟨i,j,e,e',q⟩=>by subst e e';exact q,λ h=>?_⟩;unfold nI at h;split at h
 ·exact⟨_,_,rfl,rfl,h⟩
 ·exact h.elim
def nU(g:Int->V):V->Hp->VK->Prop:=λ x H Q=>match x with
 | .int i=>Q (g i) H
 | _=>False
theorem Kk(g:Int->V)(i:Int)(H:Hp)(Q:VK):nU g (.int i) H Q=Q (g i) H:=rfl
theorem Ip(g:Int->V):rU g=nU g:=by
 funext x H Q;refine propext ⟨λ ⟨i,e,q⟩=>by subst e;exact q,λ h=>?_⟩;unfold nU at h;split at h
 ·exact⟨_,rfl,h⟩
 ·exact h.elim
def i9(Q:Bool->Hp->Prop):VK:=λ x H=>match x with
 | .bl k=>Q k H
 | _=>False
theorem xC(Q:Bool->Hp->Prop)(k:Bool)(H:Hp):i9 Q (.bl k) H=Q k H:=rfl
theorem xY(Q:Bool->Hp->Prop):DP Q=i9 Q:=by
 funext x H;refine propext ⟨λ ⟨k,e,q⟩=>by subst e;exact q,λ h=>?_⟩;unfold i9 at h;split at h
 ·exact⟨_,rfl,h⟩
 ·exact h.elim
def pM(t:TE):TT:=λ σ H Q=>t σ H (i9 Q)
theorem Bm(t:TE)(σ:St)(H:Hp)(Q:Bool->Hp->Prop):pM t σ H Q=t σ H (i9 Q):=rfl
theorem jX(t:TE):zA t=pM t:=by
 funext σ H Q
 show t σ H (DP Q)=t σ H (i9 Q)
 rw [xY]
theorem uy(t:TE):tB t=pM t:=jX t
def rC(tb:TE)(σ:St)(Q:VK):VK:=λ x H=>match x with
 | .bl c=>if c=true then tb σ H Q else Q (.bl false) H
 | _=>False
theorem BV(tb:TE)(σ:St)(Q:VK)(c:Bool)(H:Hp):rC tb σ Q (.bl c) H=(if c=true then tb σ H Q else Q (.bl false) H):=rfl
def zR(ta tb:TE):TE:=λ σ H Q=>ta σ H (rC tb σ Q)
theorem Bv(ta tb:TE)(σ:St)(H:Hp)(Q:VK):zR ta tb σ H Q=ta σ H (rC tb σ Q):=rfl
theorem xv(ta tb:TE):Dv ta tb=zR ta tb:=by
 funext σ H Q
 show ta σ H (Jc tb σ Q)=ta σ H (rC tb σ Q)
 congr 1;funext x H;refine propext ⟨λ ⟨k,e,q⟩=>by subst e;exact q,λ h=>?_⟩;unfold rC at h;split at h
 ·exact⟨_,rfl,h⟩
 ·exact h.elim
def rp(Q:VK):VK:=λ x H=>match x with
 | .bl c=>Q (.bl (!c)) H
 | _=>False
theorem BG(Q:VK)(c:Bool)(H:Hp):rp Q (.bl c) H=Q (.bl (!c)) H:=rfl
def zN(ta:TE):TE:=λ σ H Q=>ta σ H (rp Q)
theorem Bp(ta:TE)(σ:St)(H:Hp)(Q:VK):zN ta σ H Q=ta σ H (rp Q):=rfl
theorem xu(ta:TE):Dq ta=zN ta:=by
 funext σ H Q
 show ta σ H (IZ Q)=ta σ H (rp Q)
 congr 1;funext x H;refine propext ⟨λ ⟨k,e,q⟩=>by subst e;exact q,λ h=>?_⟩;unfold rp at h;split at h
 ·exact⟨_,rfl,h⟩
 ·exact h.elim
def pO(r':R2)(tc:TE)(σ:St)(y:V)(Q:VK):VK:=λ z H=>match z with
 | .bl k=>if k=true then tc σ H (G4 r' y Q) else Q (.bl false) H
 | _=>False
theorem BQ(r':R2)(tc:TE)(σ:St)(y:V)(Q:VK)(k:Bool)(H:Hp):pO r' tc σ y Q (.bl k) H=(if k=true then tc σ H (G4 r' y Q) else Q (.bl false) H):=rfl
theorem Cb(r':R2)(tc:TE)(σ:St)(y:V)(Q:VK):HQ r' tc σ y Q=pO r' tc σ y Q:=by
 funext z H;refine propext ⟨λ ⟨k,e,q⟩=>by subst e;exact q,λ h=>?_⟩;unfold pO at h;split at h
 ·exact⟨_,rfl,h⟩
 ·exact h.elim
def wu(r r':R2)(tc:TE)(σ:St)(x:V)(Q:VK):VK:=λ y H=>r x y H (pO r' tc σ y Q)
theorem BR(r r':R2)(tc:TE)(σ:St)(x y:V)(Q:VK)(H:Hp):wu r r' tc σ x Q y H=r x y H (pO r' tc σ y Q):=rfl
def wx(r r':R2)(tb tc:TE)(σ:St)(Q:VK):VK:=λ x H=>tb σ H (wu r r' tc σ x Q)
theorem BS(r r':R2)(tb tc:TE)(σ:St)(Q:VK)(x:V)(H:Hp):wx r r' tb tc σ Q x H=tb σ H (wu r r' tc σ x Q):=rfl
def su(r r':R2)(ta tb tc:TE):TE:=λ σ H Q=>ta σ H (wx r r' tb tc σ Q)
theorem xB(r r':R2)(ta tb tc:TE)(σ:St)(H:Hp)(Q:VK):su r r' ta tb tc σ H Q=ta σ H (wx r r' tb tc σ Q):=rfl
theorem uz(r r':R2)(ta tb tc:TE):yF r r' ta tb tc=su r r' ta tb tc:=by
 funext σ H Q
 show ta σ H (Kq r r' tb tc σ Q)=ta σ H (wx r r' tb tc σ Q)
 congr 1;funext x H1
 show tb σ H1 (JT r r' tc σ x Q)=tb σ H1 (wu r r' tc σ x Q)
 congr 1;funext y H2
 show r x y H2 (HQ r' tc σ y Q)=r x y H2 (pO r' tc σ y Q)
 rw [Cb]
def wz:TGs:=λ vs σ H Q=>match vs with
 | []=>Q σ H
 | _=>False
theorem BZ(σ:St)(H:Hp)(Q:St->Hp->Prop):wz [] σ H Q=Q σ H:=rfl
theorem Cf:J4=wz:=by
 funext vs σ H Q;refine propext ⟨λ ⟨e,q⟩=>by subst e;exact q,λ h=>?_⟩;unfold wz at h;split at h
 ·exact⟨rfl,h⟩
 ·exact h.elim
def oA(t:TG)(u:TGs):TGs:=λ vs σ H Q=>match vs with
 | v::r=>t v σ H (kGs u r Q)
 | _=>False
theorem xM(t:TG)(u:TGs)(v:V)(r:List V)(σ:St)(H:Hp)(Q:St->Hp->Prop):oA t u (v::r) σ H Q=t v σ H (kGs u r Q):=rfl
theorem yd(t:TG)(u:TGs):DY t u=oA t u:=by
 funext vs σ H Q;refine propext ⟨λ ⟨v,r,e,q⟩=>by subst e;exact q,λ h=>?_⟩;unfold oA at h;split at h
 ·exact⟨_,_,rfl,h⟩
 ·exact h.elim
theorem gM{α0:Type}{f:α0->List V}{B:α0->Prop}(inj:∀ a a',f a=f a'->a=a')(a:α0):(∃ a',f a=f a'/\B a')=B a:=propext ⟨λ ⟨a',e,q⟩=>by obtain rfl:=inj _ _ e;exact q,λ q=>⟨a,rfl,q⟩⟩
theorem gD{α0:Type}{f:α0->List V}{B:α0->Prop}{vs:List V}{n:Nat}(h:∃ a,vs=f a/\B a)(l:∀ a,(f a).length=n):vs.length=n:=by
 obtain⟨_,rfl,_⟩:=h;exact l _
theorem pL{α0 α1:Type}{f:α0->α1->List V}{B:α0->α1->Prop}(inj:∀ a b a' b',f a b=f a' b'->a=a'/\b=b')(a:α0)(b:α1):(∃ a' b',f a b=f a' b'/\B a' b')=B a b:=propext ⟨λ ⟨a',b',e,q⟩=>by obtain⟨rfl,rfl⟩:=inj _ _ _ _ e;exact q,λ q=>⟨a,b,rfl,q⟩⟩
theorem qR{α0 α1:Type}{f:α0->α1->List V}{B:α0->α1->Prop}{vs:List V}{n:Nat}(h:∃ a b,vs=f a b/\B a b)(l:∀ a b,(f a b).length=n):vs.length=n:=by
 obtain⟨_,_,rfl,_⟩:=h;exact l _ _
theorem CQ{α0 α1 α2:Type}{f:α0->α1->α2->List V}{B:α0->α1->α2->Prop}(inj:∀ a b c a' b' c',f a b c=f a' b' c'->a=a'/\b=b'/\c=c')(a:α0)(b:α1)(c:α2):(∃ a' b' c',f a b c=f a' b' c'/\B a' b' c')=B a b c:=propext ⟨λ ⟨a',b',c',e,q⟩=>by obtain⟨rfl,rfl,rfl⟩:=inj _ _ _ _ _ _ e;exact q,λ q=>⟨a,b,c,rfl,q⟩⟩
theorem CT{α0 α1 α2:Type}{f:α0->α1->α2->List V}{B:α0->α1->α2->Prop}{vs:List V}{n:Nat}(h:∃ a b c,vs=f a b c/\B a b c)(l:∀ a b c,(f a b c).length=n):vs.length=n:=by
 obtain⟨_,_,_,rfl,_⟩:=h;exact l _ _ _
theorem Jv{α0 α1 α2 α3:Type}{f:α0->α1->α2->α3->List V}{B:α0->α1->α2->α3->Prop}(inj:∀ a b c d a' b' c' d',f a b c d=f a' b' c' d'->a=a'/\b=b'/\c=c'/\d=d')(a:α0)(b:α1)(c:α2)(d:α3):(∃ a' b' c' d',f a b c d=f a' b' c' d'/\B a' b' c' d')=B a b c d:=propext ⟨λ ⟨a',b',c',d',e,q⟩=>by obtain⟨rfl,rfl,rfl,rfl⟩:=inj _ _ _ _ _ _ _ _ e;exact q,λ q=>⟨a,b,c,d,rfl,q⟩⟩
theorem Jw{α0 α1 α2 α3:Type}{f:α0->α1->α2->α3->List V}{B:α0->α1->α2->α3->Prop}{vs:List V}{n:Nat}(h:∃ a b c d,vs=f a b c d/\B a b c d)(l:∀ a b c d,(f a b c d).length=n):vs.length=n:=by
 obtain⟨_,_,_,_,rfl,_⟩:=h;exact l _ _ _ _
theorem Kn{P:List Value->Prop}(h:P []):∀ us:List Value,us.length=0->P us:=λ us e=>by
 cases us with
 | nil=>exact h
 | cons a r=>cases e
theorem fR{P:List Value->Prop}(h:∀ a,P [a]):∀ us:List Value,us.length=1->P us:=λ us e=>by
 cases us with
 | nil=>cases e
 | cons x r=>exact Kn (P:=λ r=>P (x::r)) (h x) r (OA e)
theorem ju{P:List Value->Prop}(h:∀ a b,P [a,b]):∀ us:List Value,us.length=2->P us:=λ us e=>by
 cases us with
 | nil=>cases e
 | cons x r=>exact fR (P:=λ r=>P (x::r)) (h x) r (OA e)
theorem yu{P:List Value->Prop}(h:∀ a b c,P [a,b,c]):∀ us:List Value,us.length=3->P us:=λ us e=>by
 cases us with
 | nil=>cases e
 | cons x r=>exact ju (P:=λ r=>P (x::r)) (h x) r (OA e)
theorem JH{P:List Value->Prop}(h:∀ a b c d,P [a,b,c,d]):∀ us:List Value,us.length=4->P us:=λ us e=>by
 cases us with
 | nil=>cases e
 | cons x r=>exact yu (P:=λ r=>P (x::r)) (h x) r (OA e)
section
variable {X:Cx}
theorem pvN(i:Nat){x:Str}{pos:Pos}(hN:X.N[i]? = some x:=by rfl)(hv:Vis X.env.scope x:=by first|exact Or.inl rfl|exact Or.inr (Or.inl rfl)|exact Or.inr (Or.inr rfl))(hd:(x == ("__debug__":Str))=false:=by decide)
  (hcd:(x == ("__classdict__":Str))=false:=by decide):PE X (.Name x pos) (tV i):=by rw [←Dm];exact pv i hN hv hd hcd
theorem bY:OpR X (binaryOp .Add) (nI0 λ i j=>.int (i+j)):=by rw [←gX];exact ow
theorem bX:OpR X (binaryOp .Sub) (nI0 λ i j=>.int (i - j)):=by rw [←gX];exact Eu
theorem DF:OpR X (compareOp .Lt) (nI0 λ i j=>.bl (decide (i < j))):=by rw [←gX];exact DD
theorem wa:OpR X (compareOp .LtE) (nI0 λ i j=>.bl (decide (i<=j))):=by rw [←gX];exact Ig
theorem wb:OpR X (compareOp .Gt) (nI0 λ i j=>.bl (decide (j < i))):=by rw [←gX];exact DE
theorem Ij:OpR X (compareOp .GtE) (nI0 λ i j=>.bl (decide (j<=i))):=by rw [←gX];exact Ih
theorem fz:OpR X (binaryOp .Mult) (nI qW λ i j=>.int (i * j)):=by rw [←rn];exact gq
theorem sW:OpR X (binaryOp .Mult) (nI Ad λ i j=>.int (i * j)):=by rw [←rn];exact AS
theorem AW:OpR X (binaryOp .FloorDiv) (nI Ia λ i j=>.int (i / j)):=by rw [←rn];exact AU
theorem sm:OpR X (binaryOp .Mod) (nI (λ _ j=>0 < j) λ i j=>.int (i % j)):=by rw [←rn];exact gW
theorem sk:OpR X (binaryOp .Pow) (nI HZ λ i j=>.int (i ^ j.toNat)):=by rw [←rn];exact Ex
theorem g9:UnR X (unaryOp .USub) (nU λ i=>.int (-i)):=by rw [←Ip];exact D9
variable {a b c d e:Expr}{ta tb tc td t:TE}{pos:Pos}
theorem xj{op:CmpOp}{r:R2}(ho:OpR X (compareOp op) r)(ha:PE X a ta)(hb:PE X b tb)(hm:behindInMarks op b=false):PT X (.Compare a [op] [b] pos) (pM (tOp r ta tb)):=by rw [←jX];exact m8 ho ha hb hm
theorem hG(h:PE X e t)(he:∀ whole,isTrue e X.env whole=(do let v ←whole;standAt e.pos;holding [v] (truthy v)):=by intro _;rfl):PT X e (pM t):=by rw [←uy];exact Eh h he
theorem ur{op op':CmpOp}{r r':R2}(ho:OpR X (compareOp op) r)(ho':OpR X (compareOp op') r')(ha:PE X a ta)(hb:PE X b tb)(hc:PE X c tc)
  (hm:lastMarks [op,op'] [b,c]=false:=by with_unfolding_all rfl):PE X (.Compare a [op,op'] [b,c] pos) (su r r' ta tb tc):=by rw [←uz];exact xq ho ho' ha hb hc hm
variable {ft:List Expr}
theorem AQ(ha:PE X a ta)(hb:PE X (.BoolOp .And (b::ft) pos) tb):PE X (.BoolOp .And (a::b::ft) pos) (zR ta tb):=by rw [←xv];exact Es ha hb
theorem sS(ha:PE X a ta):PE X (.UnaryOp .Not a pos) (zN ta):=by rw [←xu];exact Ep ha
theorem aC:PGs X [] wz:=by rw [←Cf];exact AJ
theorem um{e:Expr}{es:List Expr}{t:TG}{u:TGs}(h1:PG X e t)(h2:PGs X es u)
  (hs:(assignEach (e::es) X.env).map (·.2)=assign e X.env::(assignEach es X.env).map (·.2):=by rfl):PGs X (e::es) (oA t u):=by rw [←yd];exact xk h1 h2 hs
end
theorem xo{X:Cx}{e:Expr}{f:Str}{pos:Pos}{ta:TE}{K:W.Frag}(hK:X.K=K)(he:PE X e ta)(hb:attributeBase e f X.env (eval e X.env)=eval e X.env):PE X (.Attribute e f pos) (Ht K ta f):=by subst hK;exact sT he hb
theorem DK{i:Nat}:ME (tV i):=by rw [←Dm];exact sx
theorem yN{g:Int->Int->V}:MR (nI0 g):=by rw [←gX];exact sy
theorem oZ{t:TE}(h:ME t):MT (pM t):=by rw [←jX];exact nh h
theorem gI(xs:List V)(z:Int)(h:0<=z):qU xs (some z) none=xs.drop z.toNat:=by
 unfold qU;obtain⟨n,rfl⟩:=Int.eq_ofNat_of_zero_le h;rw [HT.sIx_none,HT.sIx_nat]
 show _=xs.drop n
 rcases Nat.le_total n xs.length with q|q
 ·rw [Nat.min_eq_left q];exact L3 (by rw [OH];omega)
 ·rw [Nat.min_eq_right q,NL (KO _),NL q,List.take_nil]
section
variable {X:Cx}
end
section
variable {prog:Program}{w:World}{A:Around}{E:Value->Shared->Prop}{s:Shared}
end
section
variable {X:Cx}
end
theorem nu:∀ {kvs:List (Key × V)}{xs:List (Key × Value)},KV kvs xs->∀ {i:Nat}{p:Key × V},kvs[i]? = some p->∃ q,xs[i]? = some q/\p.1=q.1/\aX p.2 q.2
 | _,_,.nil,i,q,h=>by simp at h
 | _::_,q::_,.cons h t,0,p,hq=>by cases hq;exact⟨q,rfl,h⟩
 | _::_,_::_,.cons h t,i+1,p,hq=>nu t (i:=i) (by simpa using hq)
def Itd(a:Addr)(ob:Obj)(kvs:List (Key × V)):It:=
 ⟨λ i H=>H a=some (.frz ob (.dK kvs))/\i < kvs.length,λ i H x H'=>H'=H/\∃ p,kvs[i]? = some p/\x=kV p.1,λ i H=>H a=some (.frz ob (.dK kvs))/\kvs.length<=i⟩
theorem oM:∀ {k:Key}{u:Value},kO k u=true->aX (kV k) u
 | .inl i,u,h=>by
  rcases aB h with ⟨j,t,e1,e2⟩|⟨j,t,e1,e2⟩
  ·cases e1;exact⟨t,e2⟩
  ·cases e1
 | .inr x,u,h=>by
  rcases aB h with ⟨j,t,e1,e2⟩|⟨j,t,e1,e2⟩
  ·cases e1
  ·cases e1;exact⟨t,e2⟩
def G8(P:Program)(w:World)(ob:Obj)(vs:List (Key × Value))(ep:Nat):Prop:=∀ (h:Heap) (a:Addr),h.get? a=some ob->h.DictAt (aI P w) a vs ep
theorem ud{P:Program}{w:World}{K:W.Frag}{tg:Expr}(a it:Addr)(ob:Obj)(kvs:List (Key × V))(vs:List (Key × Value))(ep:Nat)(kx:KV kvs vs)(dx:G8 P w ob vs ep):vX P w K tg (Itd a ob kvs) [it] it (λ i h=>h.IsKeyIter it a i vs.length ep) where
 mem:=by simp
 obj:=λ i h st b hb=>by
  have e:b=it:=by simpa using hb
  subst e;obtain⟨o,e,c,d⟩:=st;exact⟨o,e,λ v z=>by rw [d] at z;cases z⟩
 keep:=λ i h h' st k=>st.at λ o e=>k it (by simp) o e
 item:=by
  intro X hP hw hK hc i pins s σ H E I hf st hg;subst hP hw hK;obtain⟨ha,hi⟩:=hg;have hob:=(show aO X.prog X.w H s.heap a (.frz ob (.dK kvs)) from I.hok a _ ha).1;have hlen:kvs.length=vs.length:=Nd kx;obtain⟨q,hq,hk,hr⟩:=nu kx (KA hi);obtain⟨f0,f1,f2,f3,f4,f5⟩:=hf it (by simp);refine wpAny_pyNext_dict_item st (dx _ a hob) hq λ key h' hkey st' hs'=>?_;have I1:Inv X pins σ H { s with heap:=h' }:=I.turned (t':=s.toks) (λ b o hb e=>hs'.extBut b o hb e) f0 f1 f3 f4 f5;obtain⟨o,e,c,d⟩:=id st';refine⟨key,rfl,rD (s:={ s with heap:=h' }) e c d (by decide) ⟨kV kvs[i].1,H,I1,?_,⟨rfl,kvs[i],KA hi,rfl⟩,st',λ b hb=>(hf b hb).1⟩⟩;rw [hk];exact oM hkey
 done:=by
  intro X hP hw hK hc i pins s σ H E I hf st hg;subst hP hw hK;obtain⟨ha,hi⟩:=hg;have hob:=(show aO X.prog X.w H s.heap a (.frz ob (.dK kvs)) from I.hok a _ ha).1;have hlen:kvs.length=vs.length:=Nd kx;obtain⟨f0,f1,f2,f3,f4,f5⟩:=hf it (by simp);exact wpAny_pyNext_dict_end (I.ok.hd hc) st (dx _ a hob) (by simp;omega) λ h' eb=>⟨rfl,I.turned (t':=s.toks) (λ b o hb e=>eb b o hb e) f0 f1 f3 f4 f5⟩
 self:=λ _ _ _ _ _ st h=>wpAny_pyIter_keyiter st h
def HG(R:It->Hp->Prop):VK:=λ x H1=>∃ a kvs,x=.ref a/\H1 a=some (.dK kvs)/\∀ ob,R (Itd a ob kvs) (upd H1 a (.frz ob (.dK kvs)))
def DX(tl:TE):TI:=λ σ H R=>tl σ H (HG R)
theorem BY(tl:TE)(σ:St)(H:Hp)(R:It->Hp->Prop):DX tl σ H R=tl σ H (HG R):=rfl
theorem sQ{X:Cx}{tg l:Expr}{tl:TE}(hl:PE X l tl):PI X tg l (DX tl):=by
 intro pins s σ H R I h;refine thn (hl pins s σ H _ I h) λ v s1 ⟨x,H1,I1,r1,q1⟩=>?_;obtain⟨a,kvs,e,ha,q⟩:=q1;subst e;cases r1;have hO:aO X.prog X.w H1 s1.heap a (.dK kvs):=I1.hok a _ ha;obtain⟨z0,lo,vs,kx,dd⟩:=id hO;obtain⟨ep,hat⟩:=dd.dictAt;obtain⟨ob,es,ho,ft⟩:=id hat;have dx:G8 X.prog X.w ob vs ep:=λ h b hb=>⟨ob,es,hb,ft⟩;have hO':aO X.prog X.w (upd H1 a (.frz ob (.dK kvs))) s1.heap a (.frz ob (.dK kvs)):=⟨ho,⟨z0,lo,vs,kx,dd⟩⟩;have I2:=I1.write (t':=s1.toks) (x:=a) (e:=a) (o:=.frz ob (.dK kvs)) (h':=s1.heap) (by rw [ha];trivial) (.inl rfl) (λ b u _ e=>e) ⟨ob,ho⟩ hO';refine wpAny_pyIter_dict lo hat ?_;refine⟨s1.heap.objs.size,[s1.heap.objs.size],_,_,_,rfl,I2.kept (t':=s1.toks) λ b o e=>KC _ e,ud a _ ob kvs vs ep kx dx,⟨_,KR _ rfl,rfl,rfl⟩,λ b hb=>?_,q ob⟩;have e:b=s1.heap.objs.size:=by simpa using hb
 subst e;exact I2.fpOk (KO _) (I2.hok.fresh (KO _))
theorem Inv.thaw{X:Cx}{pins:List (Addr × Obj)}{σ:St}{H:Hp}{s:Shared}{a:Addr}{ob:Obj}{kvs:List (Key × V)}(I:Inv X pins σ H s)(ha:H a=some (.frz ob (.dK kvs)))(hn:∀ o u,X.H₀ a ≠ some (.frz o u)):Inv X pins σ (upd H a (.dK kvs)) s:=by
 have ne:∀ b,H b=none->b ≠ a:=λ b e z=>by rw [z,ha] at e;cases e
 have keepN:∀ b,H b=none->upd H a (.dK kvs) b=none:=λ b e=>by rw [af (ne b e)];exact e
 refine⟨I.ok,I.os,I.bare,⟨I.base.keep,I.base.slot,λ b o e n hx=>keepN b (I.base.free b o e n hx),I.base.there,λ b xs e=>?_,λ b o u e=>?_,λ b ps e=>?_⟩,I.loc,I.cell,keepN _ I.free,λ x c e=>keepN _ (I.freeC x c e),λ p hp=>?_,λ b u e=>?_,I.len⟩
 ·have h:=I.base.tups b xs e;rw [af (λ z=>by rw [z,ha] at h;cases h)];exact h
 ·have h:=I.base.frzs b o u e;rw [af (λ z=>hn o u (by rw [←z];exact e))];exact h
 ·obtain⟨m,h⟩:=I.base.tbls b ps e;exact⟨m,by rw [af (λ z=>by rw [z,ha] at h;cases h)];exact h⟩
 ·obtain⟨h1,h2,h3⟩:=I.pin p hp;exact⟨h1,keepN _ h2,h3⟩
 ·have stay:∀ (c:Addr) (v:HO),aO X.prog X.w H s.heap c v->aO X.prog X.w (upd H a (.dK kvs)) s.heap c v:=λ c v x=>x.stay (λ _ _ _ q=>q) (λ d q=>by rw [af (λ z=>by rw [z,ha] at q;cases q)];exact q) λ d xs q=>by rw [af (λ z=>by rw [z,ha] at q;cases q)];exact q
  by_cases hb:b=a
  ·subst hb;rw [ah] at e;cases e;exact stay _ _ (show aO X.prog X.w H s.heap b (.frz ob (.dK kvs)) from I.hok b _ ha).2
  ·rw [af hb] at e;exact stay b u (I.hok b u e)
def kP(H:Hp)(Q:VK):VK:=λ v H'=>∃ a ob kvs kvs0,H a=some (.dK kvs0)/\H' a=some (.frz ob (.dK kvs))/\Q v (upd H' a (.dK kvs))
def DG(t:TE):TE:=λ σ H Q=>t σ H (kP H Q)
theorem Bl(t:TE)(σ:St)(H:Hp)(Q:VK):DG t σ H Q=t σ H (kP H Q):=rfl
theorem AK{X:Cx}{e:Expr}{t:TE}(h:PE X e t):PE X e (DG t):=by
 intro pins s σ H Q I hh;refine thn (h pins s σ H _ I hh) λ u s1 ⟨v,H1,I1,r1,a,ob,kvs,kvs0,h0,hf,q⟩=>?_;exact⟨v,_,I1.thaw hf λ o w z=>(by have:=I.base.frzs a o w z;rw [h0] at this;cases this),r1,q⟩
theorem Ext.thaw{H H1:Hp}{a:Addr}{ob:Obj}{kvs:List (Key × V)}(ha:H a=some (.dK kvs))(e:Ext (upd H a (.frz ob (.dK kvs))) H1):Ext H (upd H1 a (.dK kvs)):=by
 have h1:∀ b,(H b).isSome=true->upd H1 a (.dK kvs) b=H b:=λ b hb=>by
  by_cases hba:b=a
  ·rw [hba,ah,ha]
  ·rw [af hba,e.1 b (by rw [af hba];exact hb),af hba]
 refine⟨h1,λ K b xs h=>?_⟩
 rcases h with (h|⟨o,h⟩)|h
 ·exact .inl (.inl (by rw [h1 b (by rw [h];rfl)];exact h))
 ·exact .inl (.inr ⟨o,by rw [h1 b (by rw [h];rfl)];exact h⟩)
 ·exact .inr h
section
variable {k:Nat}{g:TG}{tt:TT}{te:TE}{σ:St}{Q:VK}{H:Hp}
theorem yB{a:Addr}{kvs:List (Key × V)}(c:Key × V->Bool)(f:Key × V->V)(ha:H a=some (.dK kvs))(hl:kvs.length<=sizeLine)
  (hs:∀ D ob z H' N1 N0,z∈kvs->H D=none->Ext (upd H a (.frz ob (.dK kvs))) H'->H' a=some (.frz ob (.dK kvs))->(c z=true->∀ H'',Ext H' H''->N1 (f z) H'')->(c z=false->∀ H'',Ext H' H''->N0 H'')->g (kV z.1) (List.replicate k none++σ) H' (kCm k tt te σ N1 N0))
  (hd:∀ D H',H D=none->Ext H H'->H' D=some (.lst ((kvs.filter c).map f))->Q (.ref D) H'):HG (rA k g tt te σ (kP H Q)) (.ref a) H:=by
 refine⟨a,kvs,rfl,ha,λ ob=>?_⟩;have hfr:upd H a (.frz ob (.dK kvs)) a=some (.frz ob (.dK kvs)):=ah;refine cp kvs c f (λ z x H'=>x=kV z.1/\H' a=some (.frz ob (.dK kvs))) (λ i z H' hz e=>?_) (λ H' e=>?_) hl (λ D z x H' N1 N0 hz hD e p k1 k0=>?_) λ D H' hD e hD'=>?_
 ·have h1:H' a=some (.frz ob (.dK kvs)):=by rw [e.1 a (by rw [hfr];rfl)];exact hfr
  refine⟨⟨h1,(KH.mp hz).1⟩,λ x H'' ⟨e1,p,hp,ex⟩=>?_⟩;rw [hz] at hp;cases hp;subst e1;exact⟨Ext.refl _,ex,h1⟩
 ·exact⟨by rw [e.1 a (by rw [hfr];rfl)];exact hfr,KO _⟩
 ·obtain⟨rfl,hp⟩:=p;exact hs D ob z H' N1 N0 hz (by rwa [af (λ z=>by rw [z,hfr] at hD;cases hD)] at hD) e hp k1 k0
 ·have hDa:D ≠ a:=λ z=>by rw [z,hfr] at hD;cases hD
  refine⟨a,ob,kvs,kvs,ha,by rw [e.1 a (by rw [hfr];rfl)];exact hfr,hd D _ (by rwa [af hDa] at hD) (Ext.thaw ha e) (by rw [af hDa];exact hD')⟩
end
theorem sI{H:Hp}{a:Addr}{ob:Obj}{kvs:List (Key × V)}{k:Key}{v:V}{Q:VK}(e:H a=some (.frz ob (.dK kvs)))(h:cS kvs k=some v)(q:Q v H):G1 Q (.ref a) (kV k) H:=⟨a,v,rfl,h ▸ .inl ⟨kvs,k,.inr ⟨ob,e⟩,rfl,rfl⟩,q⟩
structure IsC(K:W.Frag)(C:Addr):Prop where
 cl:Cls K C
 fc:W.findIn K (.ref C) "__class__"=some (some (.builtin "object.__class__"))
 ocs:W.specialIn K (.builtin "object.__class__") "__get__"=some (some (.builtin "getset_descriptor.__get__"))
 oct:W.takesIn K (.builtin "object.__class__")=some true
 mo:W.mroIn K C (.type "object")=some true
section
variable {X:Cx}
end
section
variable {prog:Program}{w:World}{A:Around}{E:Value->Shared->Prop}{K:Frag}{x C dx:Addr}{s:Shared}{name:Str}{v:Value}
end
section
variable {X:Cx}{e o value:Expr}{ta tv:TE}{f:Str}{pos pos':Pos}
end
open Sem (wp)
open AutoSeq1 (wpAny_loadPart')
section
variable {X:Cx}
end
def D6(o:Obj):Prop:=∃ vs,o.data=.fields vs/\vs[2]? = some .none
section
variable {prog:Program}{w:World}{A:Around}{E:Value->Shared->Prop}{s:Shared}
end
def J8(X:Cx):Prop:=∃ (e:Addr) (oe:Obj) (u:HO),X.A.handled=some (.ref e)/\X.H₀ e=some (.frz oe u)/\D6 oe
structure Kx(P:Program)(w:World)(K:W.Frag)(tg:Expr)(J:It)(fp:List Addr)(it:Addr)(tn:Nat->Heap->Prop):Prop where
 mem:it∈fp
 obj:∀ i h,tn i h->∀ b∈fp,∃ o,h.get? b=some o/\∀ v,o.data ≠ .cell v
 keep:∀ i h h',tn i h->(∀ b∈fp,∀ o,h.get? b=some o->h'.get? b=some o)->tn i h'
 item:∀ (X:Cx),X.prog=P->X.w=w->X.K=K->J8 X->∀ (i:Nat) (pins:List (Addr × Obj)) (s:Shared) (σ:St) (H:Hp) (E:Value->Shared->Prop),Inv X pins σ H s->(∀ b∈fp,kM X pins H b)->tn i s.heap->J.go i H →
  wpAny (model P w) X.A (pyNext (.ref it)) (λ r s1=>∃ u,r=some u /\
   wpAny (model P w) X.A (letOwnedTupleGo tg (.ref it) u) (λ _ s2=>∃ x H',Inv X pins σ H' s2/\aX x u/\J.yld i H x H'/\tn (i+1) s2.heap/\∀ b∈fp,H' b=none) E s1) E s
 done:∀ (X:Cx),X.prog=P->X.w=w->X.K=K->J8 X->∀ (i:Nat) (pins:List (Addr × Obj)) (s:Shared) (σ:St) (H:Hp) (E:Value->Shared->Prop),Inv X pins σ H s->(∀ b∈fp,kM X pins H b)->tn i s.heap->J.stop i H →
  wpAny (model P w) X.A (pyNext (.ref it)) (λ r s1=>r=none/\Inv X pins σ H s1) E s
section
variable {X:Cx}{tg:Expr}
end
structure Jh(k:Nat)(e:Addr)(A:Around):Prop where
 hd:A.handled=some (.ref e)
 dp:A.depth+3 * k+5 < recursionLimit
 un:A.units+16 * k+200 < cLine
structure Ky(P:Program)(w:World)(K:W.Frag)(mg:Str->Option Value)(base:Heap)(CX:CXT)(k:Nat)(f:Addr)(fd:FuncData)(ps:List Str)(sp:Sp):Prop where
 len:∀ vs H Q E,sp vs H Q E->vs.length=ps.length
 run:∀ (A:Around) (outer:List Env) (s:Shared) (H:Hp) (args:Args) (us:List Value) (vs:List V) (Q:VK) (E:XK) (e:Addr) (oe:Obj) (u:HO),Jh k e A->H e=some (.frz oe u)->D6 oe->qT P w K mg base A outer s H->BindsTo s fd args (ps.zip us)->aK vs us->sp vs H Q E →
  codeAny (model P w) A (.call (.ref f) args) (CR CX outer P w H s Q E) s
section
variable {X:Cx}
end
section
variable {prog:Program}{w:World}{A:Around}{E:Value->Shared->Prop}{s:Shared}
structure Kb(z TI TO i j l:Addr)(f g e:List Addr):Prop where
 ti:TI ≠ z/\TI ≠ TO/\TI ≠ i/\TI ≠ j/\TI ≠ l
 zt:z ≠ TO
 zf:z ∉ f
 zg:z ∉ g
 ze:z ∉ e
 tf:TO ∉ f
 tg:TO ∉ g
 te:TO ∉ e
 ig:i ∉ g
 ie:i ∉ e
 jf:j ∉ f
 je:j ∉ e
 lf:l ∉ f
 lg:l ∉ g
variable {z TI TO i j l:Addr}{f g e:List Addr}{ti tj tl:Nat->Heap->Prop}{vi vj vl:Nat->Option Value}{k m n:Nat}{x y u a b c:Value}
end
section
variable {prog:Program}{w:World}{A:Around}{E:Value->Shared->Prop}{s:Shared}
end
section
variable {X:Cx}
end
def HJ(Q:VK)(a:Addr):VK:=λ y H=>∃ o,jw H a y o/\Q (o.getD .non) H
def JQ(ty:TE)(σ:St)(Q:VK):VK:=λ x H=>∃ a,x=.ref a/\IsD H a/\ty σ H (HJ Q a)
theorem xA(td ty:TE)(σ:St)(H:Hp)(Q:VK):yE td ty σ H Q=td σ H (JQ ty σ Q):=rfl
theorem fB{ty:TE}{σ:St}{Q:VK}{H:Hp}{a:Addr}{kvs:List (Key × V)}(e:H a=some (.dK kvs))(q:ty σ H (HJ Q a)):JQ ty σ Q (.ref a) H:=⟨a,rfl,.inl ⟨kvs,.inl e⟩,q⟩
theorem g8{Q:VK}{H:Hp}{a:Addr}{kvs:List (Key × V)}{k:Key}(e:H a=some (.dK kvs))(q:Q ((cS kvs k).getD .non) H):HJ Q a (kV k) H:=⟨_,jw.k e,q⟩
def HH(Q:VK)(a:Addr)(y:V):VK:=λ z H=>∃ o,jw H a y o/\Q (o.getD z) H
def HI(tx:TE)(σ:St)(Q:VK)(a:Addr):VK:=λ y H=>tx σ H (HH Q a y)
theorem FK(tx:TE)(σ:St)(Q:VK)(a:Addr)(y:V)(H:Hp):HI tx σ Q a y H=tx σ H (HH Q a y):=rfl
def JP(ty tx:TE)(σ:St)(Q:VK):VK:=λ x H=>∃ a,x=.ref a/\IsD H a/\ty σ H (HI tx σ Q a)
theorem xy(td ty tx:TE)(σ:St)(H:Hp)(Q:VK):yD td ty tx σ H Q=td σ H (JP ty tx σ Q):=rfl
theorem mL{ty tx:TE}{σ:St}{Q:VK}{H:Hp}{a:Addr}{kvs:List (Key × V)}(e:H a=some (.dK kvs))(q:ty σ H (HI tx σ Q a)):JP ty tx σ Q (.ref a) H:=⟨a,rfl,.inl ⟨kvs,.inl e⟩,q⟩
theorem rJ{Q:VK}{H:Hp}{a:Addr}{kvs:List (Key × V)}{k:Key}{z:V}(e:H a=some (.dK kvs))(q:Q ((cS kvs k).getD z) H):HH Q a (kV k) z H:=⟨_,jw.k e,q⟩
section
variable {X:Cx}
def yH:V->List V->Hp->VK->Prop:=λ x vs H Q=>∃ l xs y d ds j,x=.ref l/\vs=[y]/\H l=some (.lst xs)/\gO H 6 y=some d/\bF (xs.map (gO H 5))=some ds/\ds.findIdx? (λ z=>PyData.eqv z d)=some j/\Q (.int (j:Int)) H
theorem oY(hu:X.A.units+64 < cLine):MtM X "list.index" yH:=by
 intro pins s σ H x vs v us Q I rx rv h;obtain⟨l,xs,y,d,ds,j,rfl,rfl,hH,e1,e2,hj,q⟩:=h;cases rx;obtain⟨u,rfl,ru⟩:=rv.one;obtain⟨z,its,n,r,hl,e⟩:=I.lstM hH;obtain⟨a,b,c⟩:=hZ (K:=X.K) 6 y d e1;obtain⟨as,zy⟩:=a.reads I ru;obtain⟨a',b',c'⟩:=gH (K:=X.K) (hZ 5) xs ds e2;obtain⟨bs,zs⟩:=a'.reads I r;have hm:=SeqAt.readsAll_map ds _ _ b' zs;rw [List.findIdx?_eq_some_iff_getElem] at hj;obtain⟨hjl,hje,hjn⟩:=hj;have hln:ds.length=its.length:=by rw [←hm,KG]
 have hs:its.length<=sizeLine:=by omega
 rw [NZ] at hs;refine Oh F.slot_list_index ⟨_,e,rfl⟩ F.entry_list_index (F.args_list_index_2 _ _) (SeqAt.list_indexAt l its.toArray n none #[] u (λ y=>PyData.eqv (SeqAt.readOf s.heap y) d) j (by rw [Lg];omega) (by omega) ?_ ?_) ⟨e,?_,?_⟩
 ·show PyData.eqv (SeqAt.readOf s.heap its.toArray[j]) d=true
  rw [List.getElem_toArray,←hje];congr 1;rw [←List.getElem_map (f:=SeqAt.readOf s.heap) (h:=by rw [KG];omega)];exact List.getElem_of_eq hm _
 ·intro m hm' hlt;have hml:m < ds.length:=by omega
  have h2:=hjn m hlt
  show PyData.eqv (SeqAt.readOf s.heap its.toArray[m]) d=false
  rw [List.getElem_toArray]
  have e3:SeqAt.readOf s.heap (its[m]'(by omega))=ds[m]:=by
   rw [←List.getElem_map (f:=SeqAt.readOf s.heap) (h:=by rw [KG];omega)];exact List.getElem_of_eq hm _
  rw [e3];exact Bool.eq_false_iff.mpr h2
 ·exact SeqAt.items_eqAt (by simpa using zs) zy b' b (by have:=Nat.min_le_right (PyData.depthAll ds) d.depth;omega)
 ·exact⟨.int _,H,I.tok _,⟨_,rfl⟩,q⟩
end
def zc(X:Cx)(f:Value)(ks:List Str)(r:List V->List V->Hp->VK->Prop):Prop:=∀ pins s σ H vs us zs ws Q,Inv X pins σ H s->aK vs us->aK zs ws->r vs zs H Q->wpAny (model X.prog X.w) X.A (call f us (ks.zip ws)) (EP X pins σ Q) X.xe s
def HS(r:List V->List V->Hp->VK->Prop)(Q:VK)(vs:List V):List V->Hp->Prop:=λ zs H=>r vs zs H Q
theorem FW(r:List V->List V->Hp->VK->Prop)(Q:VK)(vs zs:List V)(H:Hp):HS r Q vs zs H=r vs zs H Q:=rfl
def HU(r:List V->List V->Hp->VK->Prop)(tk:TA)(σ:St)(Q:VK):List V->Hp->Prop:=λ vs H=>tk σ H (HS r Q vs)
theorem FX(r:List V->List V->Hp->VK->Prop)(tk:TA)(σ:St)(Q:VK)(vs:List V)(H:Hp):HU r tk σ Q vs H=tk σ H (HS r Q vs):=rfl
def Jt(r:List V->List V->Hp->VK->Prop)(t tk:TA):TE:=λ σ H Q=>t σ H (HU r tk σ Q)
theorem EZ(r:List V->List V->Hp->VK->Prop)(t tk:TA)(σ:St)(H:Hp)(Q:VK):Jt r t tk σ H Q=t σ H (HU r tk σ Q):=rfl
theorem uv{X:Cx}{id:String}{x:Str}{p pos:Pos}{e:Expr}{es:List Expr}{kws:List Keyword}{ks:List Str}{r:List V->List V->Hp->VK->Prop}{t tk:TA}(hc:zc X (.builtin id) ks r)(hg:Gl X x)(hm:X.mg x=none)(hv:bootBuiltins x=some (.builtin id))(ha:PA X (e::es) t)(hk:PK X kws tk)(hn:x ≠ "__name__":=by decide)(hdb:(x == ("__debug__":Str))=false:=by decide)
  (hks:(backToKw pos (keywordEach kws X.env)).filterMap (·.1)=ks:=by rfl)
  (h1:backTo pos (starEach (e::es) X.env)=(false,eval e X.env)::backTo pos (starEach es X.env):=by rfl)
  (h2:(backTo pos (starEach (e::es) X.env)).any (·.1)=false:=by rfl)
  (h3:(backToKw pos (keywordEach kws X.env)).all (·.1.isSome)=true:=by rfl)
  (h4:(backToKw pos (keywordEach kws X.env)).any (·.1.isNone)=false:=by rfl):PE X (.Call (.Name x p) (e::es) kws pos) (Jt r t tk):=by
 intro pins s σ H Q I h;refine Mt (fA I hg hm hv ?_ hn hdb);refine callWith_kw (thn (ha pos pins s σ H _ I h) λ us s1 ⟨vs,H1,I1,r1,q1⟩=>thn (hk pos pins s1 σ H1 _ I1 q1) λ ws s2 ⟨zs,H2,I2,r2,q2⟩=>?_) h1 h2 h3 h4;rw [hks];exact hc pins s2 σ H2 vs us zs ws Q I2 r1 r2 q2
section
variable {prog:Program}{w:World}{A:Around}{R:Result->Shared->Prop}{J:Addr}{fp wr:List Addr}{G:Array GenState->Array GenState->Prop}{n:Nat}{P:Nat->Value->Prop}{St:Nat->Shared->Prop}
end
section
variable {prog:Program}{w:World}{A:Around}{R:Result->Shared->Prop}{J:Addr}{fp wr:List Addr}{G:Array GenState->Array GenState->Prop}{n:Nat}{P:Nat->Value->Prop}{St:Nat->Shared->Prop}
end
def ae(kv:List (Int × Int))(c:Int):Option Int:=(kv.find? λ p=>decide (p.1=c)).map λ p=>p.2
def aE(kv:List (Int × Int)):List (Key × V):=kv.map λ p=>(Sum.inl p.1,V.int p.2)
theorem lD{p:Int × Int}{r:List (Int × Int)}{c:Int}(e:p.1=c):ae (p::r) c=some p.2:=by simp [ae,Ni,e]
theorem lE{p:Int × Int}{r:List (Int × Int)}{c:Int}(e:¬ p.1=c):ae (p::r) c=ae r c:=by simp [ae,Ni,e]
theorem oz{a c:Int}(h:¬ a=c):¬ (Sum.inl a:Key)=Sum.inl c:=λ e=>h (Sum.inl.inj e)
theorem aq:∀ (kv:List (Int × Int)) (c:Int),cS (aE kv) (.inl c)=(ae kv c).map V.int
 | [],c=>rfl
 | p::r,c=>by
  by_cases h:p.1=c
  ·rw [lD h];exact bq (p:=(Sum.inl p.1,V.int p.2)) (r:=aE r) (LR Sum.inl h)
  ·rw [lE h,←aq r c];exact br (p:=(Sum.inl p.1,V.int p.2)) (r:=aE r) (oz h)
theorem sO{kv:List (Int × Int)}{c:Int}(v:Int)(h:ae kv c=none):c8 (aE kv) (.inl c) (.int v)=aE (kv++[(c,v)]):=by
 rw [oQ _ (by rw [aq,h];rfl)];unfold aE;rw [map_append];rfl
abbrev PKy:=List Int × List Int
section
variable {prog:Program}{w:World}
end
section
variable {P:Program}{w:World}{H:Hp}{h:Heap}{a:Addr}
end
section
variable {X:Cx}{pins:List (Addr × Obj)}{σ:St}{H:Hp}{s:Shared}{d b:Addr}{k:PKy}{Z:List PKy}{A:Around}{E:Value->Shared->Prop}
end
section
variable {X:Cx}
end
theorem AI{X:Cx}{tg l:Expr}{tl:TE}{K:W.Frag}(hK:X.K=K)(hl:PE X l tl):PI X tg l (HV K tl):=by subst hK;exact yI hl
section
variable {X:Cx}{e st:Expr}{te tst:TE}{pos p2:Pos}
end
section
variable {X:Cx}
end
section
variable {X:Cx}{a b:Expr}{ta tb:TE}{pos:Pos}{ft:List Expr}
end
open PySem.SeqAt
def Ab(H:Hp)(Q:VK):List Bool->Prop:=λ bs=>Q (.bl (bs.any id)) H
theorem BU(H:Hp)(Q:VK)(bs:List Bool):Ab H Q bs=Q (.bl (bs.any id)) H:=rfl
def Hr:List V->Hp->VK->Prop:=λ vs H Q=>match vs with
 | [.ref p]=>aF (au H p) (zq (Ab H Q))
 | _=>False
theorem Fm(p:Addr)(H:Hp)(Q:VK):Hr [.ref p] H Q=aF (au H p) (zq (Ab H Q)):=rfl
section
variable {X:Cx}
theorem vR(bs:List Bool):(List.range bs.length).any (λ i=>bs.getD i false)=bs.any id:=by
 rw [Ms,MK,MK];refine⟨λ ⟨i,hi,e⟩=>?_,λ ⟨x,hx,e⟩=>?_⟩
 ·have hi':=LQ.mp hi;exact⟨bs[i],My hi',by simpa [List.getD,KA hi'] using e⟩
 ·obtain⟨i,hi,h⟩:=L0 hx;exact⟨i,LQ.mpr hi,by simpa [List.getD,KA hi,h] using e⟩
theorem vF(hc:X.calm=true):bL X (.builtin "any") Hr:=by
 intro pins s σ H vs us Q I r h;unfold Hr at h;split at h
 ·rename_i p;obtain⟨xs,e,bs,rfl,q⟩:=aj h
  cases r with
  | cons r rr=>
   cases rr;cases r;obtain⟨its,rv,pl,hz⟩:=I.list (SqL.of (bx e));have hlt:p < s.heap.objs.size:=by obtain⟨_,e,_⟩:=pl.isList;exact KD e
   have hlen:its.length=bs.length:=by have:=rv.length;simpa using this.symm
   refine call_any_walk (Mh pl.isList ⟨s.heap.objs.size,_,_,_,_,_,λ i=>bs.getD i false,rfl,Walks.list (show X.A.in1.handled=none from I.ok.hd hc) _ p (K0 hlt) its.toArray,⟨⟨_,KR _ rfl,rfl,rfl⟩,pl.isList.push _⟩,λ i v s' Q' E' hP hQ=>?_,λ h' tk hk=>?_⟩)
   ·have hv:its[i]? = some v:=by simpa using hP
    have hi:i < bs.length:=by rw [←hlen];exact(KH.mp hv).1
    obtain⟨u,hu,ru⟩:=rv.get (i:=i) (x:=.bl (bs.getD i false)) (by rw [La,KA hi];simp [List.getD,KA hi]);rw [hv] at hu;cases hu;have e2:v=.bool (bs.getD i false):=ru;subst e2;exact Mg hQ
   ·have kp:∀ b o,s.heap.get? b=some o->h'.get? b=some o:=λ b o e=>hk b o (λ hmem=>by
     have:b=s.heap.objs.size:=by simpa using hmem
     subst this;exact absurd (KD e) (LJ _)) (KC _ e)
    refine⟨.bl (bs.any id),H,I.kept (t':=tk) kp,?_,q⟩;rw [show its.toArray.size=bs.length by simp [hlen],vR];exact rfl
 ·exact h.elim
theorem pe(k:Bool):∀ {bs:List Bool}{vs:List Value},aK (bs.map V.bl) vs->∀ y,y∈vs->∀ (A:Around) (s:Shared),EqAt A s y (.bool k) (isBoolOf k y)
 | [],_,.nil,y,hy,_,_=>absurd hy KJ
 | b::bs,_,.cons (b:=u) r rr,y,hy,A,s=>by
  rcases K2.mp hy with e|hy
  ·have e2:u=.bool b:=r;rw [e,e2];exact EqAt.bool_bool b k
  ·exact pe k rr y hy A s
theorem j8(k:Bool):∀ {bs:List Bool}{vs:List Value},aK (bs.map V.bl) vs->∀ (j:Nat) (h:j < vs.length) (h':j < bs.length),isBoolOf k vs[j]=(bs[j] == k)
 | b::bs,_,.cons (b:=u) r rr,0,_,_=>by
  have e2:u=.bool b:=r;subst e2;rfl
 | b::bs,_,.cons (b:=u) r rr,j+1,h,h'=>j8 k rr j (by simpa using h) (by simpa using h')
def zY(k:Bool)(H:Hp)(Q:VK):List Bool->Prop:=λ bs=>k∈bs/\Q (.int (bs.idxOf k:Nat)) H
theorem BJ(k:Bool)(H:Hp)(Q:VK)(bs:List Bool):zY k H Q bs=(k∈bs/\Q (.int (bs.idxOf k:Nat)) H):=rfl
def zQ:V->List V->Hp->VK->Prop:=λ x vs H Q=>match x,vs with
 | .ref l,[.bl k]=>aF (au H l) (zq (zY k H Q))
 | _,_=>False
theorem Bt(l:Addr)(k:Bool)(H:Hp)(Q:VK):zQ (.ref l) [.bl k] H Q=aF (au H l) (zq (zY k H Q)):=rfl
theorem xw:MtM X "list.index" zQ:=by
 intro pins s σ H x vs v us Q I rx rv h;unfold zQ at h;split at h
 ·rename_i l k;obtain⟨xs,hx,bs,rfl,hk,q⟩:=aj h;replace hx:=bx hx;cases rx
  cases rv with
  | cons rk rr=>
   cases rr;cases rk;obtain⟨z,its,n,r,hl,e⟩:=I.lstM hx;have hs:sizeLine=16777216:=NZ;rw [KG] at hl z;have hj:bs.idxOf k < bs.length:=List.idxOf_lt_length_iff.mpr hk;refine Oh F.slot_list_index ⟨_,e,rfl⟩ F.entry_list_index (F.args_list_index_2 _ _) (list_indexAt l its.toArray n _ _ (.bool k) (isBoolOf k) (bs.idxOf k) (by simpa [←hl] using hj) (by omega) ?_ ?_) ⟨e,λ y hy=>pe k r y (by simpa using hy) _ _,?_⟩
   ·show isBoolOf k its[bs.idxOf k]=true
    rw [j8 k r _ (by omega) hj,List.getElem_idxOf hj];exact OE k
   ·intro j hjs hlt
    show isBoolOf k its[j]=false
    rw [j8 k r j (by simpa using hjs) (by omega)];exact eq_false_of_ne_true (by simpa using List.not_of_lt_findIdx hlt)
   ·exact⟨.int (bs.idxOf k:Nat),H,I.tok _,⟨_,rfl⟩,q⟩
 ·exact h.elim
end
structure Mk0(K:W.Frag)(C:Addr):Prop where
 makes:W.makesIn K C=true
 init:W.findIn K (.ref C) "__init__"=some (some (.builtin "object.__init__"))
 kp:W.keepIn K (.ref C)=true
structure MD(P:Program)(w:World)(K:W.Frag)(mg:Str->Option Value)(base:Heap)(CX:CXT)(k:Nat)(m:Str)(C:Addr)(sp:Sp):Prop where
 c:Cls K C
 ex:∃ f fd ps,mJ K C m f/\bp P w K mg base CX k f fd ps sp/\ar K fd ps []
section
variable {k:Nat}{g:TG}{tt:TT}{te:TE}{σ:St}{Q:VK}{H:Hp}
end
section
variable {X:Cx}
end
section
variable {X:Cx}{CX:CXT}{n k:Nat}{cl:Nat->Addr}{m:Str}{sp:Nat->Sp}{pos apos:Pos}{o e:Expr}{es:List Expr}{ta:TE}{t:TA}
end
section
variable {X:Cx}{CX:CXT}{k:Nat}{f C:Addr}{fd:FuncData}{ps:List Str}{sp:Sp}{dvs:List V}{ds:List Value}{E:St->XK}{x:Str}{p pos:Pos}{e:Expr}{es:List Expr}{t:TA}
end
section
variable {X:Cx}
end
section
variable {X:Cx}
end
section
variable {X:Cx}
end
section
variable {X:Cx}{tg:Expr}
end
section
variable {X:Cx}
end
end L2
namespace HT
open PySem PySem.Spec PyProof.Rows
section
variable {prog:Program}{w:World}{A:Around}{E:Value->Shared->Prop}{s:Shared}
end
end HT
namespace L2
open PySem PySem.Spec PyProof.Rows
section
variable {X:Cx}
end
def DQ(l:Addr)(H:Hp)(Q:VK):List V->Prop:=λ xs=>∃ y ys,xs=ys++[y]/\Q y (upd H l (.lst ys))
def GW:V->List V->Hp->VK->Prop:=λ x vs H Q=>match x,vs with
 | .ref l,[]=>aF (au H l) (DQ l H Q)
 | _,_=>False
theorem D8(l:Addr)(H:Hp)(Q:VK):GW (.ref l) [] H Q=aF (au H l) (DQ l H Q):=rfl
theorem Ak{l:Addr}{H:Hp}{Q:VK}{ys:List V}{y:V}(h:H l=some (.lst (ys++[y])))(q:Q y (upd H l (.lst ys))):GW (.ref l) [] H Q:=by
 rw [D8,au,h];exact⟨y,ys,rfl,q⟩
theorem AZ{X:Cx}:MtM X "list.pop" GW:=λ pins s σ H x vs v us Q I rx rv h=>EE pins s σ H x vs v us Q I rx rv (by
 unfold GW at h;split at h
 ·rename_i l;obtain⟨xs,e,y,ys,rfl,q⟩:=aj h;exact⟨l,ys++[y],y,rfl,rfl,bx e,by simp,by rw [List.dropLast_concat];exact q⟩
 ·exact h.elim)
section
variable {prog:Program}{w:World}{A:Around}{E:Value->Shared->Prop}{s:Shared}
end
def dS(xs:Array Keyed)(k:Nat):Prop:=∀ i j,i < j->j < k->K xs j < K xs i
def D7(xs:Array Keyed)(k:Nat):Prop:=k < 64\/SortedTo xs k\/dS xs k
section
variable {prog:Program}{w:World}{A:Around}{E:Value->Shared->Prop}{s:Shared}{a₀:Array Keyed}
theorem ke{st:SortSt}{n nrem:Nat}{Q:DescSt->SortSt->Prop}(h0:IntKeys a₀)(hn:nrem<=a₀.size)(h1:1<=n)(hnn:n<=nrem)(hB:SBase a₀ st)(hs:dS (arrOf st) nrem)(h:Q (none,nrem,0) st) :
  wpS (model prog w) A E s (descLoop n nrem) Q st:=by
 unfold descLoop;refine wpS_forRange (I:=λ x c st'=>st'=st/\c=(none,x,0)) ?step ?fin ⟨rfl,rfl⟩
 case fin=>
  rintro c st' ⟨rfl,rfl⟩;rw [show max n nrem=nrem by omega];exact h
 case step=>
  rintro x c st' hax hxn ⟨rfl,rfl⟩;dsimp only;refine wpS_bind (wpS_ltK hB h0 (by omega) (by omega) ?_);have hless:=hs (x - 1) x (by omega) hxn;simp only [hless,decide_true,if_true];rw [if_neg (by omega)];exact wpS_pure ⟨rfl,rfl⟩
theorem kd{st:SortSt}{nrem:Nat}{Q:Option Nat->SortSt->Prop}(h0:IntKeys a₀)(hn:nrem<=a₀.size)(hnn:2<=nrem)(hB:SBase a₀ st)(hs:dS (arrOf st) nrem)
  (h:∀ st',SBase a₀ st'->SortedTo (arrOf st') nrem->Q (some nrem) st'):wpS (model prog w) A E s (descPart 1 nrem) Q st:=by
 unfold descPart;refine wpS_bind (wpS_lift (wpAny_rule ⟨rfl,?_⟩));refine wpS_bind (ke h0 hn (by omega) hnn hB hs ?_);dsimp only;rw [if_neg (by omega)];unfold tail3;have hsz:nrem<=(arrOf st).size:=by rw [hB.size];omega
 refine Nt (wpS_reverse ?_);have hB':SBase a₀ (setArr st (mirror (arrOf st) 0 nrem ((nrem - 0) / 2))):=hB.setArr (mirror_perm _ _ _ _)
 have so:SortedTo (mirror (arrOf st) 0 nrem ((nrem - 0) / 2)) nrem:=by
  intro i j hij hj;rw [K_mirror hsz,K_mirror hsz,KZ (by omega),KZ (by omega)]
  by_cases e:i=j
  ·rw [e];exact Nr _
  ·exact Int.le_of_lt (hs _ _ (by omega) (by omega))
 refine Nt (wpS_ascLoop h0 hn (by omega) (KO _) hB' so λ m hm1 hm2 hsm _=>?_);have em:m=nrem:=by omega
 rw [em];exact wpS_pure (h _ hB' so)
theorem kf{st:SortSt}{nrem:Nat}{Q:Option Nat->SortSt->Prop}(h0:IntKeys a₀)(hn:nrem<=a₀.size)(h1:1<=nrem)(hB:SBase a₀ st)(hs:SortedTo (arrOf st) nrem\/dS (arrOf st) nrem)
  (h:∀ st',SBase a₀ st'->SortedTo (arrOf st') nrem->Q (some nrem) st'):wpS (model prog w) A E s (countRun' 0 nrem) Q st:=by
 rw [countRun0_eq];refine wpS_bind (wpS_ascLoop h0 hn (Nat.le_refl 1) h1 hB (λ i j hij hj=>by rw [show i=j by omega];exact Int.le_refl _) λ n hn1 hn2 hsn hor=>?_);dsimp only
 by_cases hnn:n=nrem
 ·rw [KZ (by simpa using hnn),hnn];exact wpS_pure (h st hB (hnn ▸ hsn))
 ·rw [KU (by simpa using hnn)];have hlt:K (arrOf st) n < K (arrOf st) (n - 1):=hor.resolve_left hnn
  rcases hs with hs|hs
  ·have:=hs (n - 1) n (by omega) (by omega);omega
  ·have n1:n=1:=by
    by_cases h:n=1
    ·exact h
    ·have a:=hsn 0 1 (by omega) (by omega);have b:=hs 0 1 (by omega) (by omega);omega
   subst n1;rw [KU (by omega)];exact kd h0 hn (by omega) hB hs h
theorem lC:∀ (f n r:Nat),1<=n->n<=f->r<=1->minRun' f n r<=64
 | 0,n,r,h1,h2,_=>by omega
 | f+1,n,r,h1,h2,h3=>by
  rw [minRun'_succ];split
  ·omega
  ·exact lC f (n / 2) (max r (n % 2)) (by omega) (by omega) (by omega)
theorem fL{st:SortSt}{Q:Unit->SortSt->Prop}(h0:IntKeys a₀)(hB:SBase a₀ st)(h2:2<=a₀.size)(hE:D7 (arrOf st) a₀.size)
  (h:∀ st',(arrOf st').Perm a₀->failedOf st'=none->SortedTo (arrOf st') a₀.size->Q () st'):wpS (model prog w) A E s sortRuns' Q st:=by
 rcases Nat.lt_or_ge a₀.size 64 with h64|h64
 ·exact wpS_sortRuns h0 hB h2 h64 h
 have hE:SortedTo (arrOf st) a₀.size\/dS (arrOf st) a₀.size:=hE.resolve_left (by omega);rw [sortRuns'_eq];refine wpS_bind (wpS_get ?_);dsimp only;have hmr:minRun' a₀.size a₀.size 0<=64:=lC _ _ _ (by omega) (Nat.le_refl _) (by omega);simp only [hB.size];generalize minRun' a₀.size a₀.size 0=mr at hmr
 refine Nt (wpS_mono (wpS_forRange
  (I:=λ x c st'=>(x=0/\c=(none,0)/\st'=st)\/(1<=x/\c=(none,a₀.size)/\SDone a₀ st'))
  (Q:=λ c st'=>c=(none,a₀.size)/\SDone a₀ st') ?step ?fin (.inl ⟨rfl,rfl,rfl⟩)) ?post)
 case fin=>
  rintro c st' (⟨hx,_,_⟩|⟨_,hc,hD⟩)
  ·omega
  ·exact⟨hc,hD⟩
 case step=>
  rintro x c st' _ hx (⟨rfl,rfl,rfl⟩|⟨hx1,rfl,hD⟩)
  ·dsimp only;rw [if_neg (by omega)];simp only [Nat.sub_zero,Nat.min_self,Nat.zero_add];refine wpS_bind (kf h0 (Nat.le_refl _) (by omega) hB hE λ st2 hB2 hs2=>?_);dsimp only;rw [if_neg (by omega)];refine wpS_bind (wpS_get ?_);have hb:(pendingOf st2).back? = none:=by rw [hB2.pend];rfl
   rw [hb];dsimp only;exact wpS_bind (wpS_modify (wpS_pure (.inr ⟨by omega,rfl,hB2.done hs2⟩)))
  ·dsimp only;rw [if_pos (Nat.le_refl _)];exact wpS_pure ⟨rfl,hD⟩
 case post=>
  rintro c st' ⟨rfl,hD⟩;dsimp only;refine wpS_bind (wpS_mono (wpS_forRange (I:=λ _ c st''=>st''=st'/\c=(none,())) (Q:=λ c st''=>st''=st'/\c=(none,())) ?_ (λ _ _ hh=>hh) ⟨rfl,rfl⟩) ?_)
  ·rintro x c st'' _ _ ⟨rfl,rfl⟩;refine Nt (wpS_get ?_);rw [KZ (by rw [hD.2.2.1];exact KO 1)];exact wpS_pure ⟨rfl,rfl⟩
  ·rintro c st'' ⟨rfl,rfl⟩;exact wpS_pure (h _ hD.1 hD.2.1 hD.2.2.2)
def jx(ns:List Int):Prop:=ns.length < 64\/ns.Pairwise (·<=·)\/ns.Pairwise (· > ·)
theorem tH{xs:Array Keyed}{ns:List Int}(hk:xs.toList.map (λ p=>numOf p.1)=ns)(h:jx ns):D7 xs xs.size:=by
 have hl:xs.size=ns.length:=by rw [←hk];simp
 have hK:∀ i (hi:i < ns.length),K xs i=ns[i]:=λ i hi=>by
  rw [K_eq (by omega)];subst hk;simp
 rcases h with h|h|h
 ·exact .inl (by omega)
 ·refine .inr (.inl λ i j hij hj=>?_);rw [hK i (by omega),hK j (by omega)]
  rcases Nat.lt_or_ge i j with l|l
  ·exact List.pairwise_iff_getElem.mp h i j (by omega) (by omega) l
  ·have:i=j:=by omega
   subst this;exact Nr _
 ·refine .inr (.inr λ i j hij hj=>?_);rw [hK i (by omega),hK j (by omega)];exact List.pairwise_iff_getElem.mp h i j (by omega) (by omega) hij
theorem iN{a:Addr}{vs:List Value}{ns:List Int}{n:Nat}{P:Fin->Shared->Prop}(ho:s.heap.get? a=some (seqObj "list" vs.toArray n))
  (hI:IntsAre vs ns) (hz:vs.length<=sizeLine) (hE:jx ns)
  (h:∀ (out:Array Value) (ns':List Int),IntsAre out.toList ns'->ns'.Perm ns->ns'.Pairwise (·<=·)->P (.done (.ret .none)) { s with heap:=sortedHeap s.heap a vs out }) :
  wpAny (model prog w) A (Builtin.«list.sort» ⟨[.ref a],[]⟩) P E s:=by
 rw [list_sort_plain];have ha:a < s.heap.objs.size:=KD ho;refine Kz (listItems_at ho rfl ?_);refine Kz (Nu ho rfl ?_ (by simpa using hz) (Lq _));obtain⟨e1,ho1⟩:∃ e1,(s.heap.update a (Obj.mapSeq λ _=>#[])).get? a=some (seqObj "list" #[] e1):=⟨_,get?_update_seq ho (λ _=>#[])⟩;refine Kz (seqEpoch_at ho1 rfl ?_);refine Kz (Ox ?_ (by simpa using hz));refine Kz (OL ?_ (Lq _));refine LU ?_
 have ho6:(((s.heap.update a (Obj.mapSeq λ _=>#[])).push (seqObj "tuple" vs.toArray 0)).push (seqObj "list" #[] 0)).get? a=some (seqObj "list" #[] e1):=by
  rw [NT _ _ _ (by rw [size_push',Mb];exact K0 (Md ha)),NT _ _ _ (by rw [Mb];exact K0 ha)];exact ho1
 show wpAny (model prog w) A _ P E { s with heap:=((s.heap.update a (Obj.mapSeq λ _=>#[])).push (seqObj "tuple" vs.toArray 0)).push (seqObj "list" #[] 0) }
 dsimp only;have hsz:vs.toArray.size=vs.length:=by simp
 have fin:∀ st':SortSt,(arrOf st').Perm (pairsOf vs)->SortedTo (arrOf st') (pairsOf vs).size →
   P (.done (.ret .none)) { s with heap:=sortedHeap s.heap a vs ((arrOf st').map (·.2)) }:=by
  intro st' hp hs;obtain⟨ns',h1,h2,h3⟩:=sorted_out hI hp hs;exact h _ ns' h1 h2 h3
 by_cases h2:vs.toArray.size < 2
 ·rw [if_pos h2,if_pos h2];refine wpAny_bind (wpAny_pure ?_);rw [StateT.run_pure];refine wpAny_bind (wpAny_pure ?_);dsimp only;refine wpAny_bind (seqEpoch_at ho6 rfl ?_);refine wpAny_bind (listUpdate_at ho6 rfl ?_ (Nat.zero_le _) (hsz2:=by rw [Array.size_map];show (pairsOf vs).size<=_;rw [pairsOf_size];omega));simp only [bne_self_eq_false,Bool.false_eq_true,if_false];refine wpAny_pure (fin (SortSt.mk' general' (vs.toArray.zip vs.toArray) #[] 7 none) (Array.Perm.refl _) ?_);intro i j hij hj;have:i=j:=by rw [pairsOf_size] at hj;omega
  subst this;exact Nr _
 ·rw [KU h2,KU h2]
  obtain⟨v₁,v₂,ft,rfl⟩:∃ v₁ v₂ ft,vs=v₁::v₂::ft:=by
   match vs,hsz,h2 with
   | [],_,h2=>simp at h2
   | [_],_,h2=>simp at h2
   | v₁::v₂::ft,_,_=>exact⟨v₁,v₂,ft,rfl⟩
  rw [keyKind_ints hI];refine Kz (KQ ?_)
  have hnum:(pairsOf (v₁::v₂::ft)).toList.map (λ p=>numOf p.1)=ns:=by
   rw [pairsOf_toList]
   have e:∀ l:List Value,(l.zip l).map (λ p=>numOf p.1)=l.map numOf:=λ l=>by
    have:(l.zip l).map (λ p=>numOf p.1)=((l.zip l).map Prod.fst).map numOf:=by rw [LP];rfl
    rw [this,OG (KO _)]
   rw [e];exact hI.nums
  refine Kz (M5 (fL (a₀:=pairsOf (v₁::v₂::ft)) (st:=SortSt.mk' oneType' ((v₁::v₂::ft).toArray.zip (v₁::v₂::ft).toArray) #[] 7 none)
   (Q:=λ _ st'=>(arrOf st').Perm (pairsOf (v₁::v₂::ft))/\failedOf st'=none/\SortedTo (arrOf st') (pairsOf (v₁::v₂::ft)).size)
   hI.intKeys ⟨NW _,rfl,rfl,rfl⟩ (by rw [pairsOf_size];simp) (tH hnum hE) λ st' a1 a2 a3=>⟨a1,a2,a3⟩) ?_ λ _ _ e=>e)
  rintro ⟨⟨⟩,st'⟩ s' ⟨rfl,hp,hf,hs⟩;dsimp only;refine wpAny_bind (seqEpoch_at ho6 rfl ?_);refine wpAny_bind (listUpdate_at ho6 rfl ?_ (Nat.zero_le _) (hsz2:=by refine Nat.le_trans (Nat.le_of_eq ((Array.size_map ..).trans (hp.size_eq.trans (pairsOf_size _)))) ?_;omega));rw [hf];simp only [bne_self_eq_false,Bool.false_eq_true,if_false];exact wpAny_pure (fin st' hp hs)
end
def DB:List V->Hp->VK->Prop:=λ vs H Q=>∃ p kvs ns,vs=[.ref p]/\H p=some (.dK kvs)/\kvs.map (·.1)=ns.map (Sum.inl:Int->Key)/\ns.length<=sizeLine/\jx ns/\∀ ms:List Int,ms.Perm ns->ms.Pairwise (·<=·)->i6 (.lst (ms.map V.int)) H Q
theorem wL{p:Addr}{kvs:List (Key × V)}{ns:List Int}{H:Hp}{Q:VK}(e:H p=some (.dK kvs))(hk:kvs.map (·.1)=ns.map (Sum.inl:Int->Key))(hl:ns.length<=sizeLine)(hE:jx ns)(q:∀ ms:List Int,ms.Perm ns->ms.Pairwise (·<=·)->i6 (.lst (ms.map V.int)) H Q):DB [.ref p] H Q:=⟨p,kvs,ns,rfl,e,hk,hl,hE,q⟩
section
variable {X:Cx}
theorem qG(hc:X.calm=true):bL X (.builtin "sorted") DB:=by
 intro pins s σ H vs us Q I r h;obtain⟨p,kvs,ns,rfl,e,hk,hl,hE,q⟩:=h
 cases r with
 | cons r rr=>
  cases rr;cases r;obtain⟨z,hd,xs,rel,dd⟩:=D3 I.hok e;obtain⟨ep,hat⟩:=dd.dictAt;have hlen:kvs.length=xs.length:=Nd rel;have hln:xs.length=ns.length:=by rw [←hlen];have:=LR List.length hk;simpa using this
  refine Calls.call_function_entry kind_sorted plain_sorted entry_sorted (args_sorted1 _) ?_;unfold Builtin.«sorted»;refine wpAny_bind (m:=checkCount "sorted" 1 1 _) (wpAny_pure ?_);refine wpAny_bind (W.kdu_collect (A:=X.A.in1) (W.kdl_dict (knd:=aI X.prog X.w) (kvs:=xs) (ep:=ep) hd) (show X.A.in1.handled=none from I.ok.hd hc) hat (by omega) λ h' tk acc kp hacc=>?_);have hal:acc.toList.length=ns.length:=by rw [Array.length_toList,hacc.1,hln]
  have hI:IntsAre acc.toList ns:=by
   refine iF hal λ i u hu=>?_;obtain⟨k,x,hx,hku⟩:=hacc.2 i u (by simpa using hu);have hi:i < kvs.length:=by rw [hlen];exact(KH.mp hx).1
   have h1:kvs[i]? = some kvs[i]:=KA hi;obtain⟨w',hw',rw'⟩:=jh rel h1;rw [hx] at hw';cases hw';have h2:(kvs.map (·.1))[i]? = some k:=by rw [La,h1];exact LR some rw'.1
   rw [hk,La] at h2;obtain⟨n,hn,rfl⟩:=KW.mp h2
   rcases aB (show kO (Sum.inl n) u=true from hku) with ⟨j,t,e1,e2⟩|⟨j,t,e1,e2⟩
   ·cases e1;exact⟨n,t,hn,e2⟩
   ·cases e1
  refine Kz (OL ?_ (by rw [hal];exact hl));have hoL:(h'.push (seqObj "list" acc.toList.toArray 0)).get? h'.objs.size=some (seqObj "list" acc.toList.toArray 0):=KR _ rfl;refine Kz (LU (Ma slot_list_sort ⟨_,hoL,rfl⟩ entry_list_sort (iN hoL hI (by rw [hal];exact hl) hE λ out ns' a1 a2 a3=>⟨_,rfl,?_⟩) (args_list_sort _)));refine KQ ⟨_,rfl,?_⟩;have I2:Inv X pins σ H { s with heap:=h',toks:=tk }:=I.kept (t':=tk) kp;have fr:=I2.hok.fresh (KO _);obtain⟨e',he'⟩:=sortedHeap_at (out:=out) hoL;refine⟨.ref h'.objs.size,_,I2.laid (t':=tk) (h':=sortedHeap (h'.push (seqObj "list" acc.toList.toArray 0)) h'.objs.size acc.toList out) (o:=.lst (ns'.map V.int)) (λ b u hb=>?_) (KO _) ⟨?_,out.toList,e',gr a1,?_⟩,rfl,q ns' a2 a3 _ _ fr (Ext.new fr) ah⟩
  ·have hb':h'.get? b=some u:=hb;have hlt:=KD hb';rw [sortedHeap_old (K0 hlt) (by rw [size_push'];exact Md hlt)];exact KC _ hb'
  ·rw [KG,a2.length_eq];exact hl
  ·rw [Array.toArray_toList];exact he'
end
theorem jg{α β:Type}{f:α->β}{ps l:List β}(h:ps.Perm l):∀ T:List α,l=T.map f->∃ T':List α,T'.Perm T/\ps=T'.map f:=by
 induction h with
 | nil=>intro T e;exact⟨T,.refl _,e⟩
 | cons x _ ih=>
  intro T e
  cases T with
  | nil=>cases e
  | cons y T=>
   rw [Lo] at e;obtain⟨rfl,e2⟩:=LN e;obtain⟨T',p,q⟩:=ih T e2;exact⟨y::T',p.cons y,by rw [q,Lo]⟩
 | swap x y l=>
  intro T e
  match T,e with
  | u::v::T,e=>
   rw [Lo,Lo] at e;obtain⟨rfl,e2⟩:=LN e;obtain⟨rfl,rfl⟩:=LN e2;exact⟨v::u::T,.swap u v T,rfl⟩
 | trans _ _ ih1 ih2=>
  intro T e;obtain⟨T1,p1,q1⟩:=ih2 T e;obtain⟨T2,p2,q2⟩:=ih1 T1 q1;exact⟨T2,p2.trans p1,q2⟩
theorem ub{ks:List Int}{xs:List V}{its:List Value}(hv:aK xs its)(hk:ks.length=xs.length){ps:List (Int × Value)}(hp:ps.Perm (ks.zip its)):∃ out:List (Int × V),out.Perm (ks.zip xs)/\out.map (·.1)=ps.map (·.1)/\aK (out.map (·.2)) (ps.map (·.2)):=by
 have hl:=hv.length
 have e1:ks.zip its=(ks.zip (xs.zip its)).map λ t=>(t.1,t.2.2):=by
  refine OI (by simp;omega) λ i h1 h2=>?_;simp
 have e2:ks.zip xs=(ks.zip (xs.zip its)).map λ t=>(t.1,t.2.1):=by
  refine OI (by simp;omega) λ i h1 h2=>?_;simp
 obtain⟨T',p1,rfl⟩:=jg hp _ e1;refine⟨T'.map λ t=>(t.1,t.2.1),?_,?_,?_⟩
 ·rw [e2];exact p1.map _
 ·rw [LP,LP];rfl
 ·rw [LP,LP];refine iA (by simp) λ i x u hx hu=>?_;rw [La] at hx hu;obtain⟨t,ht,rfl⟩:=KW.mp hx;rw [ht] at hu;cases hu;have hm:t∈ks.zip (xs.zip its):=p1.mem_iff.mp (Lh ht);have hm2:t.2∈xs.zip its:=(MH (show (t.1,t.2)∈ks.zip (xs.zip its) from hm)).2;obtain⟨j,hj,ej⟩:=L0 hm2;have hz:(xs.zip its)[j]? = some t.2:=by rw [KA hj,ej]
  obtain⟨g1,g2⟩:=L8.mp hz;obtain⟨u',hu',ru⟩:=hv.get g1;rw [g2] at hu';cases hu';exact ru
def DA(f:Addr)(sp:Sp):List V->List V->Hp->VK->Prop:=λ vs zs H Q=>∃ (p:Addr) (xs:List V) (ks:List Int),vs=[.ref p]/\zs=[.ref f]/\H p=some (.lst xs)/\ks.length=xs.length/\jx ks/\(∀ (i:Nat) (x:V) (k:Int),xs[i]? = some x->ks[i]? = some k->∀ (Q':VK) (E:XK),Q' (.int k) H->sp [x] H Q' E)/\∀ out:List (Int × V),out.Perm (ks.zip xs)->out.Pairwise (λ a b=>a.1<=b.1)->i6 (.lst (out.map (·.2))) H Q
theorem wK{f:Addr}{sp:Sp}{p:Addr}{xs:List V}(ks:List Int){H:Hp}{Q:VK}(e:H p=some (.lst xs))(hk:ks.length=xs.length)(hE:jx ks)(hs:∀ (i:Nat) (x:V) (k:Int),xs[i]? = some x->ks[i]? = some k->∀ (Q':VK) (E:XK),Q' (.int k) H->sp [x] H Q' E)(q:∀ out:List (Int × V),out.Perm (ks.zip xs)->out.Pairwise (λ a b=>a.1<=b.1)->i6 (.lst (out.map (·.2))) H Q):DA f sp [.ref p] [.ref f] H Q:=⟨p,xs,ks,rfl,rfl,e,hk,hE,hs,q⟩
section
variable {X:Cx}{k:Nat}{f:Addr}{fd:FuncData}{ps:List Str}{sp:Sp}
theorem Eg{A:Around}{pins:List (Addr × Obj)}{σ:St}{H:Hp}{s:Shared}{Q:VK}{us:List Value}{vs:List V}{E:XK}{E':Value->Shared->Prop}(F:bp X.prog X.w X.K X.mg X.base CX0 k f fd ps sp)(hr:fm k A)(he:qT X.prog X.w X.K X.mg X.base A X.stack s H)(hb:ar X.K fd ps [])
  (I:Inv X pins σ H s) (r:aK vs us) (h:sp vs H Q E):wpAny (model X.prog X.w) A (call (.ref f) us) (EP X pins σ Q) E' s:=by
 have hl:us.length=ps.length:=by rw [←r.length];exact F.len _ _ _ _ h
 have hb':=hb s us I.kIn (by rw [M4];exact hl);rw [M4] at hb';refine wpAny_call (Nn (F.run A X.stack s H ⟨us,[]⟩ us vs Q E hr he hb' r h) λ r s' hq=>?_)
 cases r with
 | error e=>exact False.elim hq
 | ok fl=>
  cases fl with
  | ret u=>exact I.after hq
  | next=>exact False.elim hq
  | brk=>exact False.elim hq
  | cont=>exact False.elim hq
theorem qF(F:bp X.prog X.w X.K X.mg X.base CX0 k f fd ps sp)(hr:fm (k+2) X.A)(hb:ar X.K fd ps []):zc X (.builtin "sorted") ["key"] (DA f sp):=by
 intro pins s σ H vs us zs ws Q I r rz h;obtain⟨p,xs,ks,rfl,rfl,e,hkl,hE,hs,q⟩:=h
 cases rz with
 | cons rb rz=>
 cases rz;cases rb
 cases r with
 | cons r rr=>
 cases rr;cases r;obtain⟨hz,its,n,r',hlen,hg⟩:=I.lstM e;have hit:its.length<=sizeLine:=by omega
 show wpAny (model X.prog X.w) X.A (call (.builtin "sorted") [.ref p] [(Str.ofString "key",.ref f)]) _ _ _
 refine call_function_entry_kw kind_sorted plain_sorted entry_sorted (ksk_s1 _ _) ?_;unfold Builtin.«sorted»;refine wpAny_bind (m:=checkCount "sorted" 1 1 _) (wpAny_pure ?_);refine wpAny_bind (collect_list (vs:=its) ⟨_,hg,rfl,n,rfl⟩ ?_ hit);refine wpAny_bind (wpAny_newList ?_ hit)
 have hsz:((s.heap.push (seqObj "list" #[] 0)).update s.heap.objs.size (Obj.mapSeq (· ++ its.toArray))).objs.size=s.heap.objs.size+1:=by
  rw [Mb,size_push']
 have hoL:(((s.heap.push (seqObj "list" #[] 0)).update s.heap.objs.size (Obj.mapSeq (· ++ its.toArray))).push (seqObj "list" its.toArray 0)).get? (s.heap.objs.size+1)=some (seqObj "list" its.toArray 0):=by
  rw [←hsz];exact KR _ rfl
 have keep:∀ b o,s.heap.get? b=some o->(((s.heap.push (seqObj "list" #[] 0)).update s.heap.objs.size (Obj.mapSeq (· ++ its.toArray))).push (seqObj "list" its.toArray 0)).get? b=some o:=λ b o q=>by
  have hlt:b < s.heap.objs.size:=KD q;rw [NT _ _ _ (by rw [hsz];exact K0 (Md hlt)),L6 _ _ _ _ (K0 hlt),NT _ _ _ (K0 hlt)];exact q
 show wpAny _ _ _ _ _ { s with heap:=((s.heap.push (seqObj "list" #[] 0)).update s.heap.objs.size (Obj.mapSeq (· ++ its.toArray))).push (seqObj "list" its.toArray 0) }
 rw [hsz];have fpA:kM X pins H (s.heap.objs.size+1):=I.fpOk (MN _) (I.hok.fresh (MN _));have nwA:rE X pins (s.heap.objs.size+1):=I.newAt (MN _);have I1:=I.kept (t':=s.toks) keep;generalize ((s.heap.push (seqObj "list" #[] 0)).update s.heap.objs.size (Obj.mapSeq (· ++ its.toArray))).push (seqObj "list" its.toArray 0)=h1 at hoL keep I1;generalize s.heap.objs.size+1=a at hoL fpA nwA;have ha:a < h1.objs.size:=KD hoL;refine Kz (LU (wpAny_call_entry_kw slot_list_sort ⟨_,hoL,rfl⟩ entry_list_sort ?body (ksk_l1 _ _)))
 show wpAny (model X.prog X.w) X.A.in1.in1 (Builtin.«list.sort» ⟨[.ref a],[(Str.ofString "key",.ref f)]⟩) _ _ _
 rw [ksk_t1];unfold ksk_tree;obtain⟨e1,ho1⟩:∃ e1,(h1.update a (Obj.mapSeq λ _=>(#[]:Array Value))).get? a=some (seqObj "list" #[] e1):=⟨_,get?_update_seq hoL λ _=>#[]⟩;refine wpAny_bind (listItems_at hoL rfl ?_);refine wpAny_bind (listUpdate_at hoL rfl ?_ (by rw [size_toArray];exact hit) (Nat.zero_le _));refine wpAny_bind (seqEpoch_at ho1 rfl ?_);refine wpAny_bind (wpAny_newTuple ?_ hit);refine wpAny_bind (wpAny_newList ?_ (Nat.zero_le _));refine wpAny_holding ?_;have kS1:((h1.update a (Obj.mapSeq λ _=>(#[]:Array Value))).push (seqObj "tuple" its.toArray 0)).objs.size=h1.objs.size+1:=by rw [size_push',Heap.size_update]
 have I2:Inv X pins σ H { s with heap:=((h1.update a (Obj.mapSeq λ _=>(#[]:Array Value))).push (seqObj "tuple" its.toArray 0)).push (seqObj "list" #[] 0),toks:=s.toks }:=by
  obtain⟨f0,f1,f2,f3,f4,f5⟩:=fpA;refine Inv.turned (s:={ s with heap:=h1,toks:=s.toks }) (t':=s.toks) (it:=a) I1 (λ b o hb q=>?_) f0 f1 f3 f4 f5;refine KC _ (KC _ ?_);rw [L6 _ _ _ _ hb];exact q
 have hoA:(((h1.update a (Obj.mapSeq λ _=>(#[]:Array Value))).push (seqObj "tuple" its.toArray 0)).push (seqObj "list" #[] 0)).get? a=some (seqObj "list" #[] e1):=KC _ (KC _ ho1);have hoK:(((h1.update a (Obj.mapSeq λ _=>(#[]:Array Value))).push (seqObj "tuple" its.toArray 0)).push (seqObj "list" #[] 0)).get? (h1.objs.size+1)=some (seqObj "list" #[] 0):=by rw [←kS1];exact KR _ rfl
 have fpK:kM X pins H (h1.objs.size+1):=I1.fpOk (MN _) (I1.hok.fresh (MN _));have hka:h1.objs.size+1 ≠ a:=LA (Md ha)
 show wpAny (model X.prog X.w) X.A.in1.in1 (ksk_rest a (.ref f) false its.toArray e1 (.ref ((h1.update a (Obj.mapSeq λ _=>(#[]:Array Value))).push (seqObj "tuple" its.toArray 0)).objs.size)) _ _ { s with heap:=((h1.update a (Obj.mapSeq λ _=>(#[]:Array Value))).push (seqObj "tuple" its.toArray 0)).push (seqObj "list" #[] 0) }
 rw [kS1];generalize ((h1.update a (Obj.mapSeq λ _=>(#[]:Array Value))).push (seqObj "tuple" its.toArray 0)).push (seqObj "list" #[] 0)=h2 at I2 hoA hoK;generalize h1.objs.size+1=kS at fpK hka hoK;clear kS1 ho1 hoL keep I1 ha
 have pin:∀ {s':Shared} {kA:Array Value} {c:Nat},Inv X pins σ H s'->s'.heap.get? kS=some (seqObj "list" kA c)->s'.heap.get? a=some (seqObj "list" #[] e1)->Inv X (pins++[(kS,seqObj "list" kA c),(a,seqObj "list" #[] e1)]) σ H s':=λ {s' kA c} I' g1 g2=>
  I'.pins_of λ p hp=>by
   rcases Li.mp hp with hp|hp
   ·exact I'.pin p (Lc _ hp)
   ·rcases K2.mp hp with rfl|hp
    ·exact⟨g1,fpK.1,fpK.2.1,fpK.2.2.1,λ v z=>by cases z⟩
    ·rw [KN.mp hp];exact⟨g2,fpA.1,fpA.2.1,fpA.2.2.1,λ v z=>by cases z⟩
 unfold ksk_rest;refine wpAny_bind (wpAny_rule ?_)
 first
  | rw [Of]
  | (rw [←Array.forIn_toList];simp only [List.toList_toArray])
  | rw [←Array.forIn_toList]
 refine Kz (ksk_fold (λ i s'=>∃ kA c,Inv X (pins++[(kS,seqObj "list" kA c),(a,seqObj "list" #[] e1)]) σ H s'/\IntsAre kA.toList (ks.take i)) its 0 _ ⟨#[],0,pin I2 hoK hoA,by simpa using IntsAre.nil⟩ ?step ?done)
 case step=>
  rintro j x s' hx ⟨kA,c,I3,hk⟩;simp only [Nat.zero_add] at hk ⊢;have hj:j < its.length:=(KH.mp hx).1;obtain⟨k,hkj⟩:∃ k,ks[j]? = some k:=⟨_,KA (by omega)⟩;obtain⟨y,hy⟩:∃ y,xs[j]? = some y:=⟨_,KA (by omega)⟩;obtain⟨u',hu',ru⟩:=r'.get hy;rw [hx] at hu';cases hu'
  have hzk:kA.size<=its.length:=by
   have h1:=hk.length;rw [Mf,LH] at h1;omega
  refine wpAny_bind (wpAny_attempt (wpAny_mono (Eg (A:=X.A.in1.in1) (E:=λ _ _ _=>True) (Q:=λ v H'=>v=.int k/\H'=H) F (hr.in1.in1) I3.env0.in1.in1 hb I3 (.cons ru .nil) (hs j y k hy hkj _ _ ⟨rfl,rfl⟩)) (λ v s'' he=>?_) λ _ _ hF=>hF));obtain⟨v',H',I4,rv,rfl,rfl⟩:=he;obtain⟨t2,rfl⟩:=(show ∃ t,v=.int k t from rv);dsimp only;have nk:=(I4.pin (kS,seqObj "list" kA c) (mem_append_right _ (mem_append_right _ (.head _)))).1;have na:=(I4.pin (a,seqObj "list" #[] e1) (mem_append_right _ (mem_append_right _ (.tail _ (.head _))))).1;have I5:=I4.unpinned;obtain⟨c2,hc2⟩:∃ c2,(s''.heap.update kS (Obj.mapSeq (·.push (.int k t2)))).get? kS=some (seqObj "list" (kA.push (.int k t2)) c2):=⟨_,get?_update_seq nk (·.push (.int k t2))⟩;have ek:ks.take (j+1)=ks.take j++[k]:=by rw [take_add_one,hkj];simp
  have ea:(kA.push (Value.int k t2)).toList=kA.toList++[Value.int k t2]:=by simp
  refine Kz (Nu nk rfl ?_ (by omega) (Lu (OB (Array.size_push ..)) (by omega)));obtain⟨f0,f1,f2,f3,f4,f5⟩:=fpK;have I6:=I5.turned (t':=s''.toks) (it:=kS) (h':=s''.heap.update kS (Obj.mapSeq (·.push (.int k t2)))) (λ b o hb q=>by rw [L6 _ _ _ _ hb];exact q) f0 f1 f3 f4 f5;refine KQ ⟨rfl,kA.push (.int k t2),c2,pin I6 hc2 (by show (s''.heap.update kS _).get? a=_;rw [L6 _ _ _ _ hka.symm];exact na),by rw [ea,ek];exact ksk_snoc hk⟩
 case done=>
  rintro s' ⟨kA,c,I3,hk⟩
  have hk':IntsAre kA.toList ks:=by
   have e3:ks.take (0+its.length)=ks:=L3 (by omega);rw [e3] at hk;exact hk
  have nk:=(I3.pin (kS,seqObj "list" kA c) (Lc _ (Lc _ (.head _)))).1;have na:=(I3.pin (a,seqObj "list" #[] e1) (Lc _ (Lc _ (.tail _ (.head _))))).1;have I4:=I3.unpinned
  have hks:kA.size=its.length:=by
   have h1:=hk'.length;rw [Mf] at h1;omega
  have hzs:(kA.zip its.toArray).size=its.length:=by rw [Array.size_zip,hks,Lg,Nat.min_self]
  refine Kz (listItems_at nk rfl ?_)
  have fin:∀ (P':PySem.Fin->Shared->Prop) (E':Value->Shared->Prop),(∀ s2,EP X pins σ Q (.ref a) s2->P' (.done (.ret .none)) s2)->∀ st:SortSt,(arrOf st).Perm (kA.zip its.toArray)->SortedTo (arrOf st) (arrOf st).size->failedOf st=none->wpAny (model X.prog X.w) X.A.in1.in1 (ksk_tail a false e1 (.ref kS) st) P' E' s':=by
   intro P' E' hP st hp hso hfl;have ho:=ksk_out (b:=false) hk' hp hso;rw [KU Lb] at ho;obtain⟨pv,p1,p2,p3⟩:=ho;obtain⟨out,q1,q2,q3⟩:=ub r' hkl p1;have hsz2:(arrOf st).size=its.length:=by rw [hp.size_eq,hzs]
   have hout:((arrOf st).map (·.2)).size=its.length:=by rw [Array.size_map];exact hsz2
   have na1:(s'.heap.update kS (Obj.mapSeq λ _=>(#[]:Array Value))).get? a=some (seqObj "list" #[] e1):=by rw [L6 _ _ _ _ hka.symm];exact na
   obtain⟨c2,hc2⟩:∃ c2,((s'.heap.update kS (Obj.mapSeq λ _=>(#[]:Array Value))).update a (Obj.mapSeq λ _=>(arrOf st).map (·.2))).get? a=some (seqObj "list" ((arrOf st).map (·.2)) c2):=
    ⟨_,get?_update_seq na1 λ _=>(arrOf st).map (·.2)⟩
   unfold ksk_tail;dsimp only;refine wpAny_bind (listUpdate_at nk rfl ?_ (by omega) (Nat.zero_le _));refine wpAny_bind (wpAny_letGo ?_);refine wpAny_bind (seqEpoch_at na1 rfl ?_);simp only [Bool.false_eq_true,if_false];refine wpAny_bind (listUpdate_at na1 rfl ?_ (Nat.zero_le _) (by omega));rw [hfl];simp only [bne_self_eq_false,Bool.false_eq_true,if_false];obtain⟨f0,f1,f2,f3,f4,f5⟩:=fpK;have I6:=I4.turned (t':=s'.toks) (it:=kS) (h':=s'.heap.update kS (Obj.mapSeq λ _=>(#[]:Array Value))) (λ b o hb q=>by rw [Heap.get?_update_ne _ _ _ _ hb];exact q) f0 f1 f3 f4 f5;obtain⟨f0,f1,f2,f3,f4,f5⟩:=fpA;have I7:=I6.turned (t':=s'.toks) (it:=a) (h':=(s'.heap.update kS (Obj.mapSeq λ _=>(#[]:Array Value))).update a (Obj.mapSeq λ _=>(arrOf st).map (·.2))) (λ b o hb q=>by rw [Heap.get?_update_ne _ _ _ _ hb];exact q) f0 f1 f3 f4 f5;have hlo:(out.map (·.2)).length<=sizeLine:=by rw [length_map,q1.length_eq,length_zip];omega
   refine KQ (hP _ ⟨.ref a,_,I7.adopt nwA f0 (o:=.lst (out.map (·.2))) ⟨hlo,((arrOf st).map (·.2)).toList,c2,by rw [p2];exact q3,by rw [Array.toArray_toList];exact hc2⟩,rfl,q out q1 ?_ _ _ f0 (Ext.new f0) ah⟩);have e4:∀ {α:Type} (l:List (Int × α)),l.Pairwise (λ a b=>a.1<=b.1) ↔ (l.map (·.1)).Pairwise (·<=·):=λ l=>by rw [Mw]
   rw [e4,q2,←e4]
   simpa using p3
  unfold ksk_end;dsimp only;simp only [Bool.false_eq_true,if_false]
  by_cases h2:its.toArray.size < 2
  ·rw [if_pos h2,if_pos h2];refine wpAny_bind (wpAny_pure ?_);rw [StateT.run_pure];refine wpAny_bind (wpAny_pure ?_);dsimp only;refine fin _ _ (λ s2 hq=>⟨_,rfl,wpAny_pure ⟨_,rfl,hq⟩⟩) (SortSt.mk' general' (kA.zip its.toArray) #[] 7 none) (Array.Perm.refl _) ?_ rfl;intro i j hij hj;have hj2:j < (kA.zip its.toArray).size:=hj;rw [hzs] at hj2;rw [size_toArray] at h2;have:i=j:=by omega
   subst this;exact Nr _
  ·rw [KU h2,KU h2];rw [Lg] at h2;rw [ksk_kind hk' (by omega)];refine Kz (KQ ?_)
   have hnum:(kA.zip its.toArray).toList.map (λ p=>numOf p.1)=ks:=by
    rw [ksk_zip];have:(kA.toList.zip its).map (λ p=>numOf p.1)=((kA.toList.zip its).map Prod.fst).map numOf:=by rw [LP];rfl
    rw [this,OG (by rw [Mf];omega)];exact hk'.nums
   refine Kz (M5 (fL (a₀:=kA.zip its.toArray) (st:=SortSt.mk' oneType' (kA.zip its.toArray) #[] 7 none)
    (Q:=λ _ st'=>(arrOf st').Perm (kA.zip its.toArray)/\failedOf st'=none/\SortedTo (arrOf st') (kA.zip its.toArray).size)
    (ksk_intKeys hk') ⟨NW _,rfl,rfl,rfl⟩ (by rw [hzs];omega) (tH hnum hE) λ st' a1 a2 a3=>⟨a1,a2,a3⟩) ?_ λ _ _ e=>e)
   rintro ⟨⟨⟩,st'⟩ s'' ⟨rfl,hp,hf,hso⟩;dsimp only;exact fin _ _ (λ s2 hq=>⟨_,rfl,wpAny_pure ⟨_,rfl,hq⟩⟩) st' hp (by rw [hp.size_eq];exact hso) hf
end
section
variable {n:Nat}(h0:0 < n)
include h0
end
section
variable {prog:Program}{w:World}{A:Around}{E:Value->Shared->Prop}{s:Shared}
end
def Dg(H:Hp)(nx:St->Hp->Prop):St->Hp->Prop:=λ σ' H'=>∃ a ob kvs kvs0,H a=some (.dK kvs0)/\H' a=some (.frz ob (.dK kvs))/\nx σ' (upd H' a (.dK kvs))
def Dw(t:TS):TS:=λ D σ H=>t ⟨Dg H D.nx,kP H D.rt,D.bk,D.ct⟩ σ H
theorem Be(t:TS)(nx:St->Hp->Prop)(rt:VK)(bk ct:St->Hp->Prop)(σ:St)(H:Hp):Dw t ⟨nx,rt,bk,ct⟩ σ H=t ⟨Dg H nx,kP H rt,bk,ct⟩ σ H:=rfl
theorem m9{X:Cx}{st:Stmt}{t:TS}(h:PS X st t):PS X st (Dw t):=by
 intro pins s σ H D I hh;refine thn (h pins s σ H _ I hh) λ f s1 hs=>?_
 cases f with
 | next=>
  obtain⟨σ',H',I1,a,ob,kvs,kvs0,h0,hf,q⟩:=hs;exact⟨σ',_,I1.thaw hf λ o w z=>(by have:=I.base.frzs a o w z;rw [h0] at this;cases this),q⟩
 | brk=>exact hs
 | cont=>exact hs
 | ret u=>
  obtain⟨v,σ',H',I1,r1,a,ob,kvs,kvs0,h0,hf,q⟩:=hs;exact⟨v,σ',_,I1.thaw hf λ o w z=>(by have:=I.base.frzs a o w z;rw [h0] at this;cases this),r1,q⟩
section
variable {g:TG}{tb:TS}{nx:St->Hp->Prop}{rt:VK}{bk ct:St->Hp->Prop}{σ:St}{H:Hp}
end
def Iti(a:Addr)(ob:Obj)(kvs:List (Key × V)):It:=
 ⟨λ i H=>H a=some (.frz ob (.dK kvs))/\i < kvs.length,λ i H x H'=>∃ p z,H p=none/\x=.ref p/\kvs[i]? = some z/\H'=upd H p (.tup [kV z.1,z.2]),λ i H=>H a=some (.frz ob (.dK kvs))/\kvs.length<=i⟩
section
variable {prog:Program}{w:World}{A:Around}{E:Value->Shared->Prop}{s:Shared}
theorem fj:entryFor table "dict_itemiterator.__iter__"=some Builtin.«dict_keyiterator.__iter__»:=entryFor_alias (id' := "dict_keyiterator.__iter__") (by kernel_rfl) rfl (by decide +kernel) (by kernel_rfl)
theorem iK{it d:Addr}{i n ep:Nat}{ok ov:Value}{Q:Value->Shared->Prop}(hit:IsItemIter s.heap it d i n ep ok ov)(h:Q (.ref it) s):wpAny (model prog w) A (pyIter (.ref it)) Q E s:=by
 have hT:s.TypeIs (.ref it) "dict_itemiterator":=⟨_,hit,rfl⟩;refine wpAny_pyIter_slot hT F.slot_dict_itemiterator_iter (Ma F.slot_dict_itemiterator_iter hT fj ?_ (F.args_dict_itemiterator_iter_1 _))
 show wpAny _ _ (ret (.ref it)) _ _ s
 exact KQ ⟨_,rfl, "dict_itemiterator",_,hT,F.slot_dict_itemiterator_next.lookup,h⟩
end
theorem pV{P:Program}{w:World}{K:W.Frag}{elts:List Expr}{x1}{tp:Pos}(a it:Addr)(ob:Obj)(kvs:List (Key × V))(vs:List (Key × Value))(ep:Nat)(kx:KV kvs vs)(dx:G8 P w ob vs ep):vX P w K (.Tuple elts x1 tp) (Iti a ob kvs) [it] it (λ i h=>∃ ok ov,IsItemIter h it a i vs.length ep ok ov) where
 mem:=by simp
 obj:=λ i h st b hb=>by
  have e:b=it:=by simpa using hb
  subst e;obtain⟨ok,ov,e⟩:=st;exact⟨_,e,λ v z=>by cases z⟩
 keep:=λ i h h' st k=>by
  obtain⟨ok,ov,e⟩:=st;exact⟨ok,ov,k it (by simp) _ e⟩
 item:=by
  intro X hP hw hK hc i pins s σ H E I hf st hg;subst hP hw hK;obtain⟨ha,hi⟩:=hg;obtain⟨ok,ov,st⟩:=st;have hob:=(show aO X.prog X.w H s.heap a (.frz ob (.dK kvs)) from I.hok a _ ha).1;obtain⟨q,hq,hk,hr⟩:=nu kx (KA hi);have hil:it < s.heap.objs.size:=KD st;refine wpAny_pyNext_items_item st (dx _ a hob) (k:=q.1) (v:=q.2) hq λ key h1 hkey heo ht hz hk1=>⟨_,rfl,?_⟩;refine wpAny_letOwnedTupleGo_items heo λ h2 he2 hs2=>?_;replace hs2:Heap.SameBut it h1 h2:=hs2;have hT2:h2.IsTuple s.heap.objs.size #[key,q.2]:=⟨_,(hs2.2 _ (LA hil)).trans ht,rfl,_,rfl⟩;have rk:aX (kV kvs[i].1) key:=by rw [hk];exact oM hkey
  have I2:Inv X pins σ (upd H s.heap.objs.size (.tup [kV kvs[i].1,kvs[i].2])) { s with heap:=h2,toks:=s.toks }:=I.turnNew (t':=s.toks) (ch:=[it]) hf (λ b o hb e=>hs2.extBut b o (by simpa using hb) (hk1 b o (by simpa using hb) e)) (KO _) ⟨(show 2<=sizeLine by decide),[key,q.2],.cons rk (.cons hr .nil),hT2⟩;have fr:H s.heap.objs.size=none:=I.hok.fresh (KO _);refine⟨.ref s.heap.objs.size,_,I2,rfl,⟨_,_,fr,rfl,KA hi,rfl⟩,⟨_,_,he2⟩,λ c hc=>?_⟩;have e:c=it:=by simpa using hc
  subst e;rw [af (K0 hil)];exact(hf _ (by simp)).1
 done:=by
  intro X hP hw hK hc i pins s σ H E I hf st hg;subst hP hw hK;obtain⟨ha,hi⟩:=hg;obtain⟨ok,ov,st⟩:=st;have hob:=(show aO X.prog X.w H s.heap a (.frz ob (.dK kvs)) from I.hok a _ ha).1;have hlen:kvs.length=vs.length:=Nd kx;obtain⟨f0,f1,f2,f3,f4,f5⟩:=hf it (by simp);exact wpAny_pyNext_items_end (I.ok.hd hc) st (dx _ a hob) (by simp;omega) λ h' eb=>⟨rfl,I.turned (t':=s.toks) (λ b o hb e=>eb b o hb e) f0 f1 f3 f4 f5⟩
 self:=λ A i s Q E st h=>by
  obtain⟨ok,ov,e⟩:=st;exact iK e h
def HF(R:It->Hp->Prop):VK:=λ x H1=>∃ a kvs,x=.ref a/\H1 a=some (.dK kvs)/\∀ ob,R (Iti a ob kvs) (upd H1 a (.frz ob (.dK kvs)))
def yV(tl:TE):TI:=λ σ H R=>tl σ H (HF R)
theorem xK(tl:TE)(σ:St)(H:Hp)(R:It->Hp->Prop):yV tl σ H R=tl σ H (HF R):=rfl
theorem oT{X:Cx}{elts:List Expr}{x1}{tp apos pos:Pos}{l:Expr}{tl:TE}(hl:PE X l tl)(hbase:attributeBase l "items" X.env (eval l X.env)=eval l X.env:=by rfl)(hline:(apos.endLine == pos.line)=true:=by rfl):PI X (.Tuple elts x1 tp) (.Call (.Attribute l "items" apos) [] [] pos) (yV tl):=by
 intro pins s σ H R I h;refine wpAny_Call_method (T := "dict") (id := "dict.items") hbase rfl hline F.plainAttrs_dict F.slot_dict_items F.type_dict_items (thn (hl pins s σ H _ I h) λ v s1 ⟨x,H1,I1,r1,q1⟩=>?_);obtain⟨a,kvs,e,ha,q⟩:=q1;subst e;cases r1;have hO:aO X.prog X.w H1 s1.heap a (.dK kvs):=I1.hok a _ ha;obtain⟨z0,lo,vs,kx,dd⟩:=id hO;obtain⟨ep,hat⟩:=dd.dictAt;obtain⟨ob,es,ho,ft⟩:=id hat;have dx:G8 X.prog X.w ob vs ep:=λ h b hb=>⟨ob,es,hb,ft⟩;refine⟨hat.dictOf.typeIs,hat.dictOf.mapOf.noDict,?_⟩
 show wpAny _ _ (callWith pos (.builtin "dict.items") [.ref a] [] []) _ _ s1
 refine method_meetsIn F.slot_dict_items F.entry_dict_items rfl (PySem.evalArgs_none ⟨rfl,hat.dictOf.typeIs,F.args_dict_items_1 _,_,meets_dict_items (aI X.prog X.w) a lo,⟨vs,hat.dictOf⟩,?_⟩);refine wpAny_pyIter_items (knd:=aI X.prog X.w) (d:=a) (kvs:=vs) (ep:=ep) ⟨_,KR _ rfl,rfl,rfl⟩ (hat.push _) ?_;have hO':aO X.prog X.w (upd H1 a (.frz ob (.dK kvs))) s1.heap a (.frz ob (.dK kvs)):=⟨ho,⟨z0,lo,vs,kx,dd⟩⟩;have I2:=I1.write (t':=s1.toks) (x:=a) (e:=a) (o:=.frz ob (.dK kvs)) (h':=s1.heap) (by rw [ha];trivial) (.inl rfl) (λ b u _ e=>e) ⟨ob,ho⟩ hO';have hsz:(s1.heap.push { cls:=.type "dict_items",data:=.fields #[.ref a] }).objs.size=s1.heap.objs.size+1:=LF ..;refine⟨_,[(s1.heap.push { cls:=.type "dict_items",data:=.fields #[.ref a] }).objs.size],_,_,_,rfl,I2.kept (t':=s1.toks) λ b o e=>KC _ (KC _ e),pV a _ ob kvs vs ep kx dx,⟨_,_,KR _ rfl⟩,λ b hb=>?_,q ob⟩;have e:b=(s1.heap.push { cls:=.type "dict_items",data:=.fields #[.ref a] }).objs.size:=by simpa using hb
 have hle:s1.heap.objs.size<=b:=by rw [e,hsz];exact MN _
 exact I2.fpOk hle (I2.hok.fresh hle)
section
variable {g:TG}{tb:TS}{nx:St->Hp->Prop}{rt:VK}{bk ct:St->Hp->Prop}{σ:St}{H:Hp}
theorem lH{a:Addr}{kvs:List (Key × V)}(Pv:Obj->Nat->St->Hp->Prop)(ha:H a=some (.dK kvs))(h0:∀ ob,Pv ob 0 σ (upd H a (.frz ob (.dK kvs))))(hl:∀ ob i σ' H',Pv ob i σ' H'->H' a=some (.frz ob (.dK kvs)))
  (hs:∀ ob i z p σ' H' H'',kvs[i]? = some z->Pv ob i σ' H'->H' p=none->Ext H' H''->H'' p=some (.tup [kV z.1,z.2])->g (.ref p) σ' H'' (pP tb ⟨Pv ob (i+1),kP H rt,Dg H nx,Pv ob (i+1)⟩)) (hd:∀ ob σ' H',Pv ob kvs.length σ' H'->nx σ' (upd H' a (.dK kvs))) :
  HF (CW g tb ⟨Dg H nx,kP H rt,bk,ct⟩ σ) (.ref a) H:=by
 refine⟨a,kvs,rfl,ha,λ ob=>?_⟩;refine⟨λ i m σ' H'=>m=kvs.length - i/\i<=kvs.length/\Pv ob i σ' H',⟨kvs.length,by simp,Lq _,h0 ob⟩,?_⟩;rintro i m σ' H' ⟨rfl,hi,p⟩;have qa:=hl ob i σ' H' p
 by_cases hlt:i < kvs.length
 ·refine .inr ⟨⟨qa,hlt⟩,Pv ob (i+1),λ σ'' H'' p'=>⟨kvs.length - (i+1),by omega,rfl,hlt,p'⟩,λ x H'' y=>?_⟩;obtain⟨r,z,hr,rfl,hz,rfl⟩:=y;exact hs ob i z r σ' H' _ hz p hr (Ext.new hr) ah
 ·have e:i=kvs.length:=by omega
  subst e;exact .inl ⟨⟨qa,KO _⟩,a,ob,kvs,kvs,ha,qa,hd ob σ' H' p⟩
end
theorem yO{neg:Bool}:MR (GU neg):=λ x y H Q Q' m ⟨a,o,e,d,q⟩=>⟨a,o,e,d,m _ _ q⟩
def da(kv:List (Int × Int))(c v:Int):List (Int × Int):=if (ae kv c).isSome=true then kv.map (λ p=>if p.1=c then (p.1,v) else p) else kv++[(c,v)]
theorem eg(kv:List (Int × Int))(c v:Int):c8 (aE kv) (.inl c) (.int v)=aE (da kv c v):=by
 unfold da
 cases h:ae kv c with
 | none=>rw [KU (by simp)];exact sO v h
 | some j=>
  rw [if_pos (show (some j).isSome=true from rfl)];unfold c8;rw [cz,aq,h,Option.map_some,if_pos (show (some (V.int j)).isSome=true from rfl)];unfold aE;rw [map_map,map_map];refine List.map_congr_left λ p _=>?_
  show (if (Sum.inl p.1:Key)=Sum.inl c then _ else _)=_
  by_cases e:p.1=c
  ·rw [KZ (LR Sum.inl e)];simp [e]
  ·rw [KU (oz e)];simp [e]
theorem b7(kv:List (Int × Int))(c v x:Int):ae (da kv c v) x=if x=c then some v else ae kv x:=by
 have h:=oE (aE kv) (.inl c:Key) (.inl x) (.int v);rw [eg,aq,aq] at h
 by_cases e:x=c
 ·rw [KZ (LR Sum.inl e)] at h;rw [KZ e]
  cases hl:ae (da kv c v) x with
  | none=>rw [hl] at h;cases h
  | some j=>rw [hl] at h;simp only [LY,Option.some.injEq,V.int.injEq] at h;rw [h]
 ·rw [KU (oz e)] at h;rw [KU e]
  cases hl:ae (da kv c v) x with
  | none=>
   cases hr:ae kv x with
   | none=>rfl
   | some j=>rw [hl,hr] at h;cases h
  | some i=>
   cases hr:ae kv x with
   | none=>rw [hl,hr] at h;cases h
   | some j=>rw [hl,hr] at h;simp only [LY,Option.some.injEq,V.int.injEq] at h;rw [h]
theorem b8{kv:List (Int × Int)}{c v:Int}(h:ae kv c=some v):(c,v)∈kv:=by
 unfold ae at h;obtain⟨p,hp,rfl⟩:=Option.map_eq_some_iff.mp h;have e:p.1=c:=by simpa using List.find?_some hp
 rw [←e];exact List.mem_of_find?_eq_some hp
theorem cq{kv:List (Int × Int)}{c:Int}:ae kv c=none ↔ c ∉ kv.map (·.1):=by
 unfold ae;rw [Option.map_eq_none_iff,List.find?_eq_none];constructor
 ·intro h hm;obtain⟨p,hp,e⟩:=KS.mp hm;exact h p hp (by simpa using e)
 ·intro h p hp e;exact h (KS.mpr ⟨p,hp,by simpa using e⟩)
theorem ao{kv:List (Int × Int)}{c:Int}:(ae kv c).isSome=true ↔ c∈kv.map (·.1):=by
 cases h:ae kv c with
 | none=>simp;exact λ x hx=>cq.mp h (KS.mpr ⟨(c,x),hx,rfl⟩)
 | some v=>simp;exact⟨v,b8 h⟩
theorem bE{kv:List (Int × Int)}(hn:(kv.map (·.1)).Nodup){c v:Int}(h:(c,v)∈kv):ae kv c=some v:=by
 induction kv with
 | nil=>exact absurd h KJ
 | cons p r ih=>
  have hn':=Lv.mp (show (p.1::r.map (·.1)).Nodup from hn)
  rcases K2.mp h with rfl|h
  ·exact lD rfl
  ·rw [lE λ e=>hn'.1 (by rw [e];exact KS.mpr ⟨(c,v),h,rfl⟩)];exact ih hn'.2 h
theorem lr{kv:List (Int × Int)}{c v:Int}(h:(ae kv c).isSome=true):(da kv c v).map (·.1)=kv.map (·.1):=by
 unfold da;rw [if_pos h,map_map];refine List.map_congr_left λ p _=>?_
 show (if p.1=c then (p.1,v) else p).1=p.1
 split<;>rfl
theorem xi{kv:List (Int × Int)}{c v:Int}(h:ae kv c=none):da kv c v=kv++[(c,v)]:=by
 unfold da;rw [h];rfl
theorem cV{kv:List (Int × Int)}(hn:(kv.map (·.1)).Nodup)(c v:Int):((da kv c v).map (·.1)).Nodup:=by
 cases h:ae kv c with
 | some j=>rw [lr (by rw [h];rfl)];exact hn
 | none=>
  rw [xi h,Lk,LC];refine⟨hn,Lv.mpr ⟨KJ,LL⟩,λ x hx y hy e=>?_⟩;rw [Lo,Oy,KN] at hy;rw [e,hy] at hx;exact cq.mp h hx
theorem jV(kv:List (Int × Int))(c v:Int):(da kv c v).length<=kv.length+1:=by
 unfold da;split
 ·rw [KG];omega
 ·simp
theorem wR(kv:List (Int × Int)):(aE kv).map (·.1)=(kv.map (·.1)).map (Sum.inl:Int->Key):=by unfold aE;rw [map_map,map_map];rfl
theorem dc(kv:List (Int × Int)):(aE kv).length=kv.length:=by unfold aE;rw [length_map]
theorem gw:∀ (a b:List Int) (c:Int),c ∉ a->(((a++c::b).map PyData.int).findIdx? λ z=>PyData.eqv z (.int c))=some a.length
 | [],b,c,_=>by
  rw [NP,Lo,List.findIdx?_cons];simp [nB]
 | x::a,b,c,h=>by
  have ih:=gw a b c λ m=>h (KI _ m);have e:¬ x=c:=λ e=>h (by rw [e];exact KL);rw [Mz,Lo,List.findIdx?_cons,ih];simp [nB,e]
theorem oG{l:Addr}{a b:List Int}{c:Int}{H:Hp}{Q:VK}(h:H l=some (.lst ((a++c::b).map V.int)))(hc:c ∉ a)(q:Q (.int (a.length:Int)) H):yH (.ref l) [.int c] H Q:=
 ⟨l,_,.int c,.int c,(a++c::b).map PyData.int,a.length,rfl,rfl,h,rfl,ef H _ _,gw a b c hc,q⟩
end L2
namespace PH
def gA(ns:List Int):Prop:=ns.length<=8/\∀ n∈ns,1<=n/\n<=1000000000
def ag:List Int->Int
 | []=>1
 | n::r=>n * ag r
def dD:List Int->List Int
 | []=>[]
 | _::r=>ag r::dD r
theorem bc:∀ ns ms:List Int,ag (ns++ms)=ag ns * ag ms
 | [],ms=>by simp [ag]
 | n::r,ms=>by simp only [Mz,ag,bc r ms,Int.mul_assoc]
theorem jd(ns:List Int)(i:Nat)(z:Int)(h:ns[i]? = some z):ag (ns.take (i+1))=ag (ns.take i) * z:=by
 rw [Lx,h,bc];simp [ag]
theorem lx:∀ ns:List Int,(∀ n∈ns,1<=n/\n<=1000000000)->1<=ag ns/\ag ns<=1000000000 ^ ns.length
 | [],_=>by simp [ag]
 | n::r,h=>by
  obtain⟨h1,h2⟩:=lx r λ m hm=>h m (KI _ hm);obtain⟨g1,g2⟩:=h n KL;refine⟨?_,?_⟩
  ·show 1<=n * ag r
   exact OC (by omega) (Int.mul_le_mul g1 h1 (by decide) (by omega):1 * 1<=n * ag r)
  ·show n * ag r<=1000000000 ^ (r.length+1)
   rw [Int.pow_succ,Nw];exact Int.mul_le_mul h2 g2 (by omega) (OC (by omega) h2)
theorem AG:∀ {k:Nat},k<=8->(1000000000:Int) ^ k<=1000000000 ^ 8
 | 0,_=>by decide
 | 1,_=>by decide
 | 2,_=>by decide
 | 3,_=>by decide
 | 4,_=>by decide
 | 5,_=>by decide
 | 6,_=>by decide
 | 7,_=>by decide
 | 8,_=>by decide
 | k+9,h=>by omega
theorem gA.prod{ns:List Int}(h:gA ns):1<=ag ns/\ag ns<=1000000000 ^ 8:=by
 obtain⟨a,b⟩:=lx ns h.2;exact⟨a,OC b (AG h.1)⟩
theorem gA.take{ns:List Int}(h:gA ns)(i:Nat):gA (ns.take i):=⟨by have:=h.1;simp;omega,λ n hn=>h.2 n (Nk hn)⟩
theorem gA.drop{ns:List Int}(h:gA ns)(i:Nat):gA (ns.drop i):=⟨by have:=h.1;simp;omega,λ n hn=>h.2 n (N2 hn)⟩
theorem lN(ns:List Int)(i:Nat)(z:Int)(hi:i < ns.length)(h:ns[ns.length - 1 - i]? = some z):ns.drop (ns.length - (i+1))=z::ns.drop (ns.length - i):=by
 have e:ns.length - (i+1)=ns.length - 1 - i:=by omega
 have e2:ns.length - i=ns.length - 1 - i+1:=by omega
 rw [e,e2];obtain⟨hl,hz⟩:=KH.mp h;rw [←hz];exact Nx hl
theorem pY(ns:List Int)(i:Nat)(z:Int)(hi:i < ns.length)(h:ns[ns.length - 1 - i]? = some z):ag (ns.drop (ns.length - (i+1)))=ag (ns.drop (ns.length - i)) * z:=by
 rw [lN ns i z hi h];exact Nw _ _
theorem nF(ns:List Int)(i:Nat)(z:Int)(hi:i < ns.length)(h:ns[ns.length - 1 - i]? = some z):(dD (ns.drop (ns.length - (i+1)))).reverse=(dD (ns.drop (ns.length - i))).reverse++[ag (ns.drop (ns.length - i))]:=by
 rw [lN ns i z hi h];simp [dD]
theorem ji:∀ ns:List Int,(dD ns).length=ns.length
 | []=>rfl
 | _::r=>by simp [dD,ji r]
def InR:List Int->List Int->Prop
 | [],[]=>True
 | n::r,x::xs=>(0<=x/\x < n)/\InR r xs
 | _,_=>False
open PySem L2
def vi:V->Int
 | .int i=>i
 | _=>0
theorem vU{α:Type}(l:List α):(l.filter λ _=>true)=l:=Np.mpr λ _ _=>rfl
def aG(a:Int × Int):Int × Int:=(a.1,if a.1 > 1 then a.2 else 0)
def axL(axs:List (Int × Int)):List (List Int):=axs.map λ a=>[a.1,a.2]
def ay(axs:List (Int × Int)):Int:=(axs.map λ a=>min 0 ((a.1 - 1) * a.2)).sum
def aA(axs:List (Int × Int)):Int:=(axs.map λ a=>max 0 ((a.1 - 1) * a.2)).sum
def fq(axs:List (Int × Int)):Prop:=axs.length<=8/\∀ a∈axs,1<=a.1/\a.1<=1000000000
structure jb(room first:Int)(axs:List (Int × Int)):Prop where
 ax:fq axs
 r1:1<=room
 r2:room<=1000000000000000000
 lo:0<=first+ay (axs.map aG)
 hi:first+aA (axs.map aG) < room
theorem fq.kept{axs:List (Int × Int)}(h:fq axs):fq (axs.map aG):=⟨by rw [KG];exact h.1,λ a ha=>by
 obtain⟨b,hb,rfl⟩:=KS.mp ha;exact h.2 b hb⟩
theorem fq.sizes{axs:List (Int × Int)}(h:fq axs):gA (axs.map λ a=>a.1):=⟨by rw [KG];exact h.1,λ n hn=>by
 obtain⟨b,hb,rfl⟩:=KS.mp hn;exact h.2 b hb⟩
def dH(room first:Int)(l:Addr):List (Str × V):=dM "axes" (.ref l) (dM "first" (.int first) (dM "room" (.int room) []))
theorem Il:¬ (("room":Str) = "axes"):=by decide +kernel
theorem Ik:¬ (("room":Str) = "first"):=by decide +kernel
theorem Io:¬ (("first":Str) = "axes"):=by decide +kernel
theorem fV(room first:Int)(l:Addr):(dH room first l).lookup ("room":Str)=some (.int room):=by
 unfold dH;rw [av,if_neg Il,av,if_neg Ik,av,if_pos rfl]
theorem eU(room first:Int)(l:Addr):(dH room first l).lookup ("first":Str)=some (.int first):=by
 unfold dH;rw [av,if_neg Io,av,if_pos rfl]
theorem ei(room first:Int)(l:Addr):(dH room first l).lookup ("axes":Str)=some (.ref l):=by
 unfold dH;rw [av,if_pos rfl]
theorem wI(room first:Int)(l:Addr){m:Str}(h1:¬ m = "axes")(h2:¬ m = "first")(h3:¬ m = "room"):(dH room first l).lookup m=none:=by
 unfold dH;rw [av,if_neg h1,av,if_neg h2,av,if_neg h3];rfl
theorem bH:∀ ns:List Int,(∀ n∈ns,(1:Int)<=n)->1<=ag ns
 | [],_=>by simp [ag]
 | n::ns,h=>by
  have h1:=h n KL;have h2:=bH ns λ m hm=>h m (KI _ hm)
  show 1<=n * ag ns
  have:=Int.mul_le_mul h1 h2 (by decide) (by omega);omega
theorem nQ(l:List (Int × Int))(a:Int × Int):ay (l++[a])=ay l+min 0 (a.2 * (a.1 - 1)):=by
 unfold ay;rw [map_append,List.sum_append,Int.mul_comm a.2];simp
theorem nS(l:List (Int × Int))(a:Int × Int):aA (l++[a])=aA l+max 0 (a.2 * (a.1 - 1)):=by
 unfold aA;rw [map_append,List.sum_append,Int.mul_comm a.2];simp
theorem bO(a:Int × Int)(l:List (Int × Int)):ay (a::l)=min 0 ((a.1 - 1) * a.2)+ay l:=by unfold ay;simp
theorem bP(a:Int × Int)(l:List (Int × Int)):aA (a::l)=max 0 ((a.1 - 1) * a.2)+aA l:=by unfold aA;simp
def qS(xs ps:List Int):Int:=(List.zipWith (λ x p=>x * p) xs ps).sum
theorem nL{x p s:Int}(h0:0<=x)(h1:x<=s - 1):min 0 ((s - 1) * p)<=x * p/\x * p<=max 0 ((s - 1) * p):=by
 rcases Int.le_total 0 p with hp|hp
 ·have a:=Int.mul_nonneg h0 hp;have b:=Me h1 hp;omega
 ·have a:=Int.mul_nonneg h0 (show 0<=-p by omega);have b:=Me h1 (show 0<=-p by omega);rw [Int.mul_neg] at a b;rw [Int.mul_neg] at b;omega
theorem iH:∀ (axs:List (Int × Int)) (xs:List Int),InR (axs.map λ a=>a.1) xs->ay axs<=qS xs (axs.map λ a=>a.2)/\qS xs (axs.map λ a=>a.2)<=aA axs
 | [],[],_=>by decide
 | [],_::_,h=>h.elim
 | _::_,[],h=>h.elim
 | a::r,x::xs,⟨⟨h0,h1⟩,h⟩=>by
  obtain⟨b1,b2⟩:=iH r xs h
  have e:qS (x::xs) ((a::r).map λ a=>a.2)=x * a.2+qS xs (r.map λ a=>a.2):=by
   unfold qS;rw [map_cons,List.zipWith_cons_cons,List.sum_cons]
  rw [bO,bP,e];have h1':x < a.1:=h1;obtain⟨c1,c2⟩:=nL (p:=a.2) h0 (show x<=a.1 - 1 by omega);omega
theorem ki(ns:List Int)(h:∀ n∈ns,(1:Int)<=n)(i:Nat):ag (ns.take i)<=ag ns:=by
 have e:ag ns=ag (ns.take i) * ag (ns.drop i):=by rw [←bc,Mn]
 have a:=bH (ns.take i) λ n hn=>h n (Nk hn);have b:=bH (ns.drop i) λ n hn=>h n (N2 hn);rw [e];have:=LV b (show 0<=ag (ns.take i) by omega);omega
def bQ(cs:List Int)(a:Int × Int):List Int:=cs.flatMap λ c=>(List.range a.1.toNat).map λ (n:Nat)=>c+(n:Int) * a.2
def ak(first:Int)(axs:List (Int × Int)):List Int:=axs.foldl bQ [first]
theorem k6(cs:List Int)(a:Int × Int):(bQ cs a).length=cs.length * a.1.toNat:=by
 unfold bQ
 induction cs with
 | nil=>simp
 | cons c r ih=>rw [ND,KY,ih,KG,MZ,Lz,Nat.add_mul];omega
theorem nY(first:Int)(axs:List (Int × Int))(a:Int × Int):ak first (axs++[a])=bQ (ak first axs) a:=by
 unfold ak;rw [List.foldl_append];rfl
theorem lL:∀ (axs:List (Int × Int)) (cs:List Int),(∀ a∈axs,(1:Int)<=a.1)->((axs.foldl bQ cs).length:Int)=cs.length * ag (axs.map λ a=>a.1)
 | [],cs,_=>by simp [ag]
 | a::r,cs,h=>by
  have ha:=h a KL;rw [Oc,lL r (bQ cs a) λ b hb=>h b (KI _ hb),k6,Int.natCast_mul,N8 (by omega),Int.mul_assoc];rfl
theorem bA(first:Int)(axs:List (Int × Int))(h:∀ a∈axs,(1:Int)<=a.1):((ak first axs).length:Int)=ag (axs.map λ a=>a.1):=by
 unfold ak;rw [lL axs [first] h];simp
theorem lK:∀ (axs:List (Int × Int)) (cs:List Int) (M:Int),M∈axs.foldl bQ cs ↔ ∃ c∈cs,∃ xs,InR (axs.map λ a=>a.1) xs/\M=c+qS xs (axs.map λ a=>a.2)
 | [],cs,M=>by
  refine⟨λ h=>⟨M,h,[],trivial,by simp [qS]⟩,λ ⟨c,hc,xs,hx,e⟩=>?_⟩
  match xs,hx with
  | [],_=>rw [e];simpa [qS] using hc
 | a::r,cs,M=>by
  rw [Oc,lK r (bQ cs a) M]
  have de:∀ (x:Int) (xs:List Int),qS (x::xs) ((a::r).map λ a=>a.2)=x * a.2+qS xs (r.map λ a=>a.2):=λ x xs=>by
   unfold qS;rw [map_cons,List.zipWith_cons_cons,List.sum_cons]
  constructor
  ·rintro ⟨c,hc,xs,hx,e⟩;unfold bQ at hc;obtain⟨c0,hc0,hc1⟩:=List.mem_flatMap.mp hc;obtain⟨n,hn,rfl⟩:=List.mem_map.mp hc1;have hn':=List.mem_range.mp hn;refine⟨c0,hc0,(n:Int)::xs,⟨⟨by omega,?_⟩,hx⟩,by rw [de,e];omega⟩
   show (n:Int) < a.1
   omega
  ·rintro ⟨c,hc,xs,hx,e⟩
   match xs,hx with
   | x::xs,⟨⟨h0,h1⟩,hx⟩=>
    have h1':x < a.1:=h1;refine⟨c+x * a.2,?_,xs,hx,by rw [e,de];omega⟩;unfold bQ;refine List.mem_flatMap.mpr ⟨c,hc,List.mem_map.mpr ⟨x.toNat,List.mem_range.mpr (by omega),?_⟩⟩;rw [Int.toNat_of_nonneg h0]
theorem qE(first:Int)(axs:List (Int × Int))(M:Int):M∈ak first axs ↔ ∃ xs,InR (axs.map λ a=>a.1) xs/\M=first+qS xs (axs.map λ a=>a.2):=by
 unfold ak;rw [lK];refine⟨λ ⟨c,hc,xs,hx,e⟩=>⟨xs,hx,by rw [e,mem_singleton.mp hc]⟩,λ ⟨xs,hx,e⟩=>⟨first,mem_singleton.mpr rfl,xs,hx,e⟩⟩
def Pth(f:Int->Option Int):List Int->Int->Prop
 | [],_=>True
 | [c],e=>f c=some e
 | c::d::l,e=>f c=some d/\Pth f (d::l) e
def fS(f:Int->Option Int)(l:List Int):Prop:=∃ c t,l=c::t/\Pth f (c::t) c/\(c::t).Nodup
section
variable {f:Int->Option Int}
theorem Pth.cons{c e:Int}{l:List Int}(h:f c=some (l.headD e))(hp:Pth f l e):Pth f (c::l) e:=by
 cases l with
 | nil=>exact h
 | cons d l=>exact⟨h,hp⟩
theorem Pth.head{c e:Int}{l:List Int}(h:Pth f (c::l) e):f c=some (l.headD e):=by
 cases l with
 | nil=>exact h
 | cons d l=>exact h.1
theorem Pth.tail{c e:Int}{l:List Int}(h:Pth f (c::l) e):Pth f l e:=by
 cases l with
 | nil=>trivial
 | cons d l=>exact h.2
theorem Pth.app{d e:Int}:∀ {a:List Int}{b:List Int},Pth f a (b.headD e)->Pth f b e->Pth f (a++b) e
 | [],b,_,h=>h
 | c::a,b,h,hb=>by
  refine Pth.cons ?_ (Pth.app (d:=d) h.tail hb);rw [h.head]
  cases a with
  | nil=>rfl
  | cons x a=>rfl
theorem Pth.left{e:Int}:∀ {a:List Int}{b:List Int},Pth f (a++b) e->Pth f a (b.headD e)
 | [],b,_=>trivial
 | c::a,b,h=>by
  have h1:f c=some ((a++b).headD e):=h.head;have h2:=Pth.left (a:=a) h.tail;refine Pth.cons ?_ h2;rw [show (a++b).headD e=a.headD (b.headD e) by cases a<;>rfl] at h1;exact h1
theorem Pth.right{e:Int}:∀ {a:List Int}{b:List Int},Pth f (a++b) e->Pth f b e
 | [],b,h=>h
 | c::a,b,h=>Pth.right (a:=a) h.tail
theorem Pth.snoc{t:List Int}{c d:Int}(h:Pth f t c)(hd:f c=some d):Pth f (t++[c]) d:=Pth.app (d:=d) h hd
theorem Pth.mem{e:Int}:∀ {l:List Int},Pth f l e->∀ {x:Int},x∈l->∃ d,f x=some d/\(d∈l\/d=e)
 | [],_,x,h=>absurd h KJ
 | c::l,hp,x,h=>by
  rcases K2.mp h with rfl|h
  ·refine⟨_,hp.head,?_⟩
   cases l with
   | nil=>exact .inr rfl
   | cons d l=>exact .inl (by simp)
  ·obtain⟨d,h1,h2⟩:=Pth.mem hp.tail h;exact⟨d,h1,h2.imp (KI _) id⟩
theorem fS.mem{l:List Int}(h:fS f l){x:Int}(hx:x∈l):∃ d,f x=some d/\d∈l:=by
 obtain⟨c,t,rfl,hp,hn⟩:=h;obtain⟨d,h1,h2⟩:=hp.mem hx;exact⟨d,h1,h2.elim id λ e=>by rw [e];exact KL⟩
theorem fS.ne{l:List Int}(h:fS f l):l ≠ []:=by obtain⟨c,t,rfl,_⟩:=h;exact NJ _ _
theorem fS.nodup{l:List Int}(h:fS f l):l.Nodup:=by obtain⟨c,t,rfl,_,hn⟩:=h;exact hn
theorem fS.rot{a b:List Int}(h:fS f (a++b)):fS f (b++a):=by
 cases b with
 | nil=>simpa using h
 | cons c b=>
  cases a with
  | nil=>simpa using h
  | cons x a=>
   obtain⟨y,t,e,hp,hn⟩:=h;obtain⟨rfl,rfl⟩:=LN e;have h1:Pth f (x::a++c::b) x:=hp;have h2:=h1.left;have h3:=h1.right;refine⟨c,b++x::a,rfl,?_,?_⟩
   ·exact Pth.app (d:=0) (a:=c::b) (b:=x::a) h3 h2
   ·have:(x::a++c::b).Perm (c::b++x::a):=Ng;exact this.nodup_iff.mp hn
theorem sP{c:Int}:∀ {l1 l2:List Int}{d:Int},Pth f (d::l1) c->Pth f (d::l2) c->c ∉ l1->c ∉ l2->l1=l2
 | [],[],_,_,_,_,_=>rfl
 | [],y::l2,d,h1,h2,n1,n2=>by
  have e1:=h1.head;have e2:=h2.head;rw [e1] at e2;exact absurd (Lf e2) λ e=>n2 (by rw [show c=y from e];exact KL)
 | x::l1,[],d,h1,h2,n1,n2=>by
  have e1:=h1.head;have e2:=h2.head;rw [e1] at e2;exact absurd (Lf e2) λ e=>n1 (by rw [←show x=c from e];exact KL)
 | x::l1,y::l2,d,h1,h2,n1,n2=>by
  have e1:=h1.head;have e2:=h2.head;rw [e1] at e2;have e:x=y:=Lf e2;subst e;rw [sP (l1:=l1) (l2:=l2) h1.tail h2.tail (λ h=>n1 (KI _ h)) (λ h=>n2 (KI _ h))]
theorem sL{c:Int}{t1 t2:List Int}(h1:fS f (c::t1))(h2:fS f (c::t2)):t1=t2:=by
 obtain⟨_,_,e1,p1,n1⟩:=h1;obtain⟨_,_,e2,p2,n2⟩:=h2;obtain⟨rfl,rfl⟩:=LN e1;obtain⟨rfl,rfl⟩:=LN e2;exact sP p1 p2 (Lv.mp n1).1 (Lv.mp n2).1
theorem fS.from{l:List Int}(h:fS f l){x:Int}(hx:x∈l):∃ t,fS f (x::t)/\(x::t).Perm l:=by
 obtain⟨a,b,rfl⟩:=MI hx;exact⟨b++a,h.rot,Ng (l₁:=x::b) (l₂:=a)⟩
theorem gf{l1 l2:List Int}(h1:fS f l1)(h2:fS f l2){x:Int}(m1:x∈l1)(m2:x∈l2):l1.Perm l2:=by
 obtain⟨t1,r1,p1⟩:=h1.from m1;obtain⟨t2,r2,p2⟩:=h2.from m2;rw [sL r1 r2] at p1;exact p1.symm.trans p2
theorem fS.within{l:List Int}(h:fS f l){S:Int->Prop}(hs:∀ x d,S x->f x=some d->d∈l->S d){x:Int}(hx:x∈l)(h0:S x):∀ y∈l,S y:=by
 obtain⟨t,r,p⟩:=h.from hx;have hm:∀ y,y∈x::t ↔ y∈l:=λ y=>p.mem_iff;obtain⟨_,_,e,hp,_⟩:=r;obtain⟨rfl,rfl⟩:=LN e
 have go:∀ (u:List Int) (d:Int),(∀ y∈d::u,y∈l)->Pth f (d::u) x->S d->∀ y∈d::u,S y:=by
  intro u
  induction u with
  | nil=>intro d _ _ hd y hy;rw [KN.mp hy];exact hd
  | cons z u ih=>
   intro d hl hq hd y hy
   rcases K2.mp hy with rfl|hy
   ·exact hd
   ·exact ih z (λ y hy=>hl y (KI _ hy)) hq.2 (hs _ _ hd hq.1 (hl z (by simp))) y hy
 intro y hy;exact go t x (λ y hy=>(hm y).mp hy) hp h0 y ((hm y).mpr hy)
def dO(f:Int->Option Int)(l:List Int):Prop:=fS f l/\2<=l.length/\∀ x∈l,l.headD 0<=x
def fy(f:Int->Option Int)(ks l:List Int):Bool:=ks.all λ c=>decide (c∈l) || !(match f c with|some d=>decide (d∈l)|none=>false)
def bN(f:Int->Option Int)(ks:List Int)(L:List (List Int × Bool)):Prop:=L.Pairwise (λ p q=>p.1.headD 0 < q.1.headD 0)/\(∀ p∈L,dO f p.1/\p.2=fy f ks p.1)/\∀ l,dO f l->∃ b,(l,b)∈L
theorem dO.head_mem{l:List Int}(h:dO f l):l.headD 0∈l:=by
 obtain⟨c,t,rfl,_⟩:=h.1;exact KL
theorem jS{l1 l2:List Int}(h1:dO f l1)(h2:dO f l2){x:Int}(m1:x∈l1)(m2:x∈l2):l1=l2:=by
 have p:=gf h1.1 h2.1 m1 m2;have a:=h1.2.2 _ (p.mem_iff.mpr h2.head_mem);have b:=h2.2.2 _ (p.mem_iff.mp h1.head_mem);obtain⟨c,t,rfl,hc⟩:=id h1.1;obtain⟨d,u,rfl,hd⟩:=id h2.1;have e:c=d:=Int.le_antisymm a b;subst e;rw [sL h1.1 h2.1]
theorem lj{α:Type}{lt:α->α->Prop}(hi:∀ a,¬ lt a a)(ht:∀ a b c,lt a b->lt b c->lt a c):∀ {l1 l2:List α},l1.Pairwise lt->l2.Pairwise lt->(∀ x,x∈l1 ↔ x∈l2)->l1=l2
 | [],[],_,_,_=>rfl
 | [],y::l2,_,_,h=>absurd ((h y).mpr KL) KJ
 | x::l1,[],_,_,h=>absurd ((h x).mp KL) KJ
 | x::l1,y::l2,h1,h2,h=>by
  obtain⟨a1,b1⟩:=MV.mp h1;obtain⟨a2,b2⟩:=MV.mp h2
  have e:x=y:=by
   rcases K2.mp ((h x).mp KL) with e|m
   ·exact e
   ·rcases K2.mp ((h y).mpr KL) with e|m'
    ·exact e.symm
    ·exact absurd (ht _ _ _ (a1 y m') (a2 x m)) (hi x)
  subst e;refine LR _ (lj hi ht b1 b2 λ z=>⟨λ m=>?_,λ m=>?_⟩)
  ·rcases K2.mp ((h z).mp (KI _ m)) with rfl|m'
   ·exact absurd (a1 _ m) (hi _)
   ·exact m'
  ·rcases K2.mp ((h z).mpr (KI _ m)) with rfl|m'
   ·exact absurd (a2 _ m) (hi _)
   ·exact m'
theorem bN.eq{ks:List Int}{L1 L2:List (List Int × Bool)}(h1:bN f ks L1)(h2:bN f ks L2):L1=L2:=by
 refine lj (lt:=λ p q:List Int × Bool=>p.1.headD 0 < q.1.headD 0) (λ _=>Int.lt_irrefl _) (λ _ _ _=>Int.lt_trans) h1.1 h2.1 λ p=>⟨λ m=>?_,λ m=>?_⟩
 ·obtain⟨a,b⟩:=h1.2.1 p m;obtain⟨c,hc⟩:=h2.2.2 p.1 a;have:=(h2.2.1 _ hc).2;rw [show p=(p.1,c) from Prod.ext rfl (b.trans this.symm)];exact hc
 ·obtain⟨a,b⟩:=h2.2.1 p m;obtain⟨c,hc⟩:=h1.2.2 p.1 a;have:=(h1.2.1 _ hc).2;rw [show p=(p.1,c) from Prod.ext rfl (b.trans this.symm)];exact hc
structure yz(f:Int->Option Int)(W:Int->Prop)(Cl:List (List Int)):Prop where
 dom:∀ c,W c->(f c).isSome=true
 clo:∀ c d,W c->f c=some d->(f d).isSome=true->W d
 rng:∀ l∈Cl,dO f l/\∀ x∈l,W x
 all:∀ l,dO f l->W (l.headD 0)->l∈Cl
 nd:(Cl.map λ l=>l.headD 0).Nodup
theorem Jx{l:List Int}(h:fS f l)(h2:2<=l.length){a b:List Int}(e:l=a++b){m:Int}(hm:b.head? = some m)(hl:∀ x∈l,m<=x):dO f (b++a):=by
 subst e;refine⟨h.rot,by rw [KY] at h2 ⊢;omega,λ x hx=>?_⟩;have hx':x∈a++b:=by rw [Li] at hx ⊢;exact hx.symm
 have:(b++a).headD 0=m:=by
  cases b with
  | nil=>cases hm
  | cons y b=>cases hm;rfl
 rw [this];exact hl x hx'
theorem wH{W:Int->Prop}{Cl:List (List Int)}(S:yz f W Cl){t:List Int}{c:Int}(hp:Pth f t c)(hn:t.Nodup)(hw:∀ x∈t,¬ W x)(hc:c ∉ t)(hs:(f c).isSome=true->W c):yz f (λ x=>W x\/x∈t) Cl:=by
 have no:∀ l,dO f l->∀ h∈l,h∈t->False:=by
  intro l hl h hm ht;obtain⟨a,b,rfl⟩:=MI ht;have hq:Pth f (h::b) c:=hp.right
  have go:∀ (u:List Int) (d:Int),Pth f (d::u) c->d∈l->c∈l:=by
   intro u
   induction u with
   | nil=>
    intro d hd hdl;obtain⟨e,h1,h2⟩:=hl.1.mem hdl;rw [show f d=some c from hd] at h1;cases h1;exact h2
   | cons z u ih=>
    intro d hd hdl;obtain⟨e,h1,h2⟩:=hl.1.mem hdl;rw [hd.1] at h1;cases h1;exact ih _ hd.2 h2
  have hcl:=go b h hq hm;obtain⟨d,hd,_⟩:=hl.1.mem hcl;have hW:=hs (by rw [hd];rfl);have:=hl.1.within (S:=W) (λ x d hx hfd hdl=>S.clo x d hx hfd (by obtain⟨e,h1,_⟩:=hl.1.mem hdl;rw [h1];rfl)) hcl hW h hm;exact hw h (by simp) this
 refine⟨λ x hx=>hx.elim (S.dom x) λ hx=>?_,λ x d hx hfd hd=>?_,λ l hl=>⟨(S.rng l hl).1,λ x hx=>.inl ((S.rng l hl).2 x hx)⟩,λ l hl hh=>?_,S.nd⟩
 ·obtain⟨d,h1,_⟩:=hp.mem hx;rw [h1];rfl
 ·rcases hx with hx|hx
  ·exact .inl (S.clo x d hx hfd hd)
  ·obtain⟨e,h1,h2⟩:=hp.mem hx;rw [hfd] at h1;cases h1
   rcases h2 with h2|rfl
   ·exact .inr h2
   ·exact .inl (hs hd)
 ·rcases hh with hh|hh
  ·exact S.all l hl hh
  ·exact(no l hl _ hl.head_mem hh).elim
theorem k7{W:Int->Prop}{Cl:List (List Int)}(S:yz f W Cl){a b:List Int}{c:Int}(hp:Pth f (a++c::b) c)(hn:(a++c::b).Nodup)(hw:∀ x∈a++c::b,¬ W x) :
  fS f (c::b)/\(b=[]->yz f (λ x=>W x\/x∈a++c::b) Cl)/\∀ l,dO f l->l.Perm (c::b)->yz f (λ x=>W x\/x∈a++c::b) (Cl++[l]):=by
 have hr:fS f (c::b):=⟨c,b,rfl,hp.right,(LC.mp hn).2.1⟩
 have dom:∀ x,(W x\/x∈a++c::b)->(f x).isSome=true:=λ x hx=>hx.elim (S.dom x) λ hx=>by
  obtain⟨d,h1,_⟩:=hp.mem hx;rw [h1];rfl
 have clo:∀ x d,(W x\/x∈a++c::b)->f x=some d->(f d).isSome=true->(W d\/d∈a++c::b):=by
  intro x d hx hfd hd
  rcases hx with hx|hx
  ·exact .inl (S.clo x d hx hfd hd)
  ·obtain⟨e,h1,h2⟩:=hp.mem hx;rw [hfd] at h1;cases h1
   rcases h2 with h2|rfl
   ·exact .inr h2
   ·exact .inr (by simp)
 have same:∀ l,dO f l->∀ h∈l,h∈a++c::b->c∈l:=by
  intro l hl h hm ht;obtain⟨u,v,e⟩:=MI ht;have hq:Pth f (h::v) c:=by rw [e] at hp;exact hp.right
  have go:∀ (u:List Int) (d:Int),Pth f (d::u) c->d∈l->c∈l:=by
   intro u
   induction u with
   | nil=>
    intro d hd hdl;obtain⟨e,h1,h2⟩:=hl.1.mem hdl;rw [show f d=some c from hd] at h1;cases h1;exact h2
   | cons z u ih=>
    intro d hd hdl;obtain⟨e,h1,h2⟩:=hl.1.mem hdl;rw [hd.1] at h1;cases h1;exact ih _ hd.2 h2
  exact go v h hq hm
 refine⟨hr,λ hb=>⟨dom,clo,λ l hl=>⟨(S.rng l hl).1,λ x hx=>.inl ((S.rng l hl).2 x hx)⟩,λ l hl hh=>?_,S.nd⟩,λ l hl hlp=>⟨dom,clo,λ l' hl'=>?_,λ l' hl' hh=>?_,?_⟩⟩
 ·rcases hh with hh|hh
  ·exact S.all l hl hh
  ·have hc:=same l hl _ hl.head_mem hh;have p:=gf hl.1 hr hc KL;have:=p.length_eq;rw [hb] at this;have:=hl.2.1;simp at *;omega
 ·rcases Li.mp hl' with hl'|hl'
  ·exact⟨(S.rng l' hl').1,λ x hx=>.inl ((S.rng l' hl').2 x hx)⟩
  ·rw [KN.mp hl'];exact⟨hl,λ x hx=>.inr (Lc _ (hlp.mem_iff.mp hx))⟩
 ·rcases hh with hh|hh
  ·exact Ly _ (S.all l' hl' hh)
  ·have hc:=same l' hl' _ hl'.head_mem hh;rw [jS hl' hl hc (hlp.mem_iff.mpr KL)];exact Lc _ KL
 ·rw [Lk,LC];refine⟨S.nd,Lv.mpr ⟨KJ,LL⟩,λ x hx y hy e=>?_⟩;obtain⟨l',hl',rfl⟩:=KS.mp hx;rw [Lo,Oy,KN] at hy;subst hy;have h1:=(S.rng l' hl').2 _ (S.rng l' hl').1.head_mem;rw [e] at h1;exact hw _ (Lc _ (hlp.mem_iff.mp hl.head_mem)) h1
end
def top(i:Nat):Stmt:=PySem.Challenge.pw_pacehall_k68_whole_copies_by_rows.main.body.getD i (.Pass ⟨0,0,0,0⟩)
abbrev cI:Stmt:=bt (top 8) 0
abbrev gc:Stmt:=top 10
theorem qN:ai ["thing"] ["thing"] (aa gc):=⟨rfl,rfl,rfl,by decide +kernel,rfl,by decide +kernel,by decide +kernel⟩
abbrev gd:Stmt:=top 13
theorem eG:ai ["sizes", "count", "size"] ["sizes"] (aa gd):=⟨rfl,rfl,rfl,by decide +kernel,rfl,by decide +kernel,by decide +kernel⟩
abbrev fZ:Stmt:=top 14
theorem cY:ai ["sizes", "paces", "pace", "size"] ["sizes"] (aa fZ):=⟨rfl,rfl,rfl,by decide +kernel,rfl,by decide +kernel,by decide +kernel⟩
abbrev cZ:Stmt:=top 15
abbrev jc:Stmt:=top 16
abbrev dw:Stmt:=top 17
theorem kF:ai ["count"] ["count"] (aa dw):=⟨rfl,rfl,rfl,by decide +kernel,rfl,by decide +kernel,by decide +kernel⟩
abbrev eX:Stmt:=top 22
theorem og:ai ["thing", "low", "high"] ["thing", "low", "high"] (aa eX):=⟨rfl,rfl,rfl,by decide +kernel,rfl,by decide +kernel,by decide +kernel⟩
abbrev il:Stmt:=top 23
theorem vP:ai ["thing"] ["thing"] (aa il):=⟨rfl,rfl,rfl,by decide +kernel,rfl,by decide +kernel,by decide +kernel⟩
abbrev ip:Stmt:=top 24
theorem vQ:ai ["thing"] ["thing"] (aa ip):=⟨rfl,rfl,rfl,by decide +kernel,rfl,by decide +kernel,by decide +kernel⟩
abbrev er:Stmt:=top 25
theorem qO:ai ["thing"] ["thing"] (aa er):=⟨rfl,rfl,rfl,by decide +kernel,rfl,by decide +kernel,by decide +kernel⟩
abbrev eW:Stmt:=top 26
theorem oa:ai ["axis"] ["axis"] (aa eW):=⟨rfl,rfl,rfl,by decide +kernel,rfl,by decide +kernel,by decide +kernel⟩
abbrev bJ:Stmt:=bt (top 27) 0
theorem iQ:ai ["self", "room", "first", "axes"] ["self", "room", "first", "axes"] (aa bJ):=⟨rfl,rfl,rfl,by decide +kernel,rfl,by decide +kernel,by decide +kernel⟩
abbrev cB:Stmt:=bt (top 27) 1
theorem mD:ai ["self"] ["self"] (aa cB):=⟨rfl,rfl,rfl,by decide +kernel,rfl,by decide +kernel,by decide +kernel⟩
abbrev gs:Stmt:=bt (top 27) 2
abbrev ed:Stmt:=bt (top 27) 3
theorem mF:ai ["self"] ["self"] (aa ed):=⟨rfl,rfl,rfl,by decide +kernel,rfl,by decide +kernel,by decide +kernel⟩
abbrev iB:Stmt:=bt (top 27) 4
abbrev ee:Stmt:=bt (top 27) 6
theorem bT:ai ["self", "found", "size", "pace"] ["self"] (aa ee):=⟨rfl,rfl,rfl,by decide +kernel,rfl,by decide +kernel,by decide +kernel⟩
abbrev cC:Stmt:=bt (top 27) 7
theorem mE:ai ["self"] ["self"] (aa cC):=⟨rfl,rfl,rfl,by decide +kernel,rfl,by decide +kernel,by decide +kernel⟩
abbrev bI:Stmt:=bt (top 27) 8
theorem iP:ai ["self"] ["self"] (aa bI):=⟨rfl,rfl,rfl,by decide +kernel,rfl,by decide +kernel,by decide +kernel⟩
abbrev fE:Stmt:=top 28
theorem ix:ai ["cells", "size", "pace", "found", "cell"] ["cells", "size", "pace"] (aa fE):=⟨rfl,rfl,rfl,by decide +kernel,rfl,by decide +kernel,by decide +kernel⟩
abbrev fU:Stmt:=top 30
theorem tO:ai ["sizes", "room", "cells"] ["sizes", "room"] (aa fU):=⟨rfl,rfl,rfl,by decide +kernel,rfl,by decide +kernel,by decide +kernel⟩
abbrev cO:Stmt:=top 31
theorem iY:ai ["one", "other"] ["one", "other"] (aa cO):=⟨rfl,rfl,rfl,by decide +kernel,rfl,by decide +kernel,by decide +kernel⟩
abbrev cP:Stmt:=top 33
theorem iZ:ai ["view", "many"] ["view", "many"] (aa cP):=⟨rfl,rfl,rfl,by decide +kernel,rfl,by decide +kernel,by decide +kernel⟩
abbrev bW:Stmt:=bt (top 34) 0
theorem gC:ai ["self", "values"] ["self", "values"] (aa bW):=⟨rfl,rfl,rfl,by decide +kernel,rfl,by decide +kernel,by decide +kernel⟩
abbrev bK:Stmt:=bt (top 34) 1
theorem fQ:ai ["self"] ["self"] (aa bK):=⟨rfl,rfl,rfl,by decide +kernel,rfl,by decide +kernel,by decide +kernel⟩
abbrev bw:Stmt:=bt (top 34) 2
theorem fk:ai ["self", "view"] ["self", "view"] (aa bw):=⟨rfl,rfl,rfl,by decide +kernel,rfl,by decide +kernel,by decide +kernel⟩
abbrev cD:Stmt:=bt (top 34) 3
theorem mG:ai ["self", "view"] ["self", "view"] (aa cD):=⟨rfl,rfl,rfl,by decide +kernel,rfl,by decide +kernel,by decide +kernel⟩
abbrev fb:Stmt:=bt (top 34) 4
theorem fh:ai ["self", "view", "values", "cell", "value"] ["self", "view", "values"] (aa fb):=⟨rfl,rfl,rfl,by decide +kernel,rfl,by decide +kernel,by decide +kernel⟩
abbrev cQ:Stmt:=bt (top 34) 6
theorem i4:ai ["self", "to", "source"] ["self", "to", "source"] (aa cQ):=⟨rfl,rfl,rfl,by decide +kernel,rfl,by decide +kernel,by decide +kernel⟩
abbrev ic:Stmt:=top 36
theorem fJ:ai ["to", "source", "found", "cell", "origin"] ["to", "source"] (aa ic):=⟨rfl,rfl,rfl,by decide +kernel,rfl,by decide +kernel,by decide +kernel⟩
abbrev eV:Stmt:=top 37
theorem dt:ai ["found", "start", "walked", "trail", "cell"] ["found", "start", "walked"] (aa eV):=⟨rfl,rfl,rfl,by decide +kernel,rfl,by decide +kernel,by decide +kernel⟩
abbrev dA:Stmt:=top 38
theorem fP:ai ["ring", "at"] ["ring"] (aa dA):=⟨rfl,rfl,rfl,by decide +kernel,rfl,by decide +kernel,by decide +kernel⟩
abbrev bu:Stmt:=top 39
theorem aR:ai ["found", "ring_of", "drawn", "cell", "origin"] ["found", "ring_of"] (aa bu):=⟨rfl,rfl,rfl,by decide +kernel,rfl,by decide +kernel,by decide +kernel⟩
abbrev jC:Stmt:=top 40
theorem dg:ai ["found", "walked", "ring_of", "closed", "start", "ring", "cell", "drawn", "told"] ["found"] (aa jC):=⟨rfl,rfl,rfl,by decide +kernel,rfl,by decide +kernel,by decide +kernel⟩
abbrev dX:Stmt:=top 41
theorem mC:ai ["ring"] ["ring"] (aa dX):=⟨rfl,rfl,rfl,by decide +kernel,rfl,by decide +kernel,by decide +kernel⟩
abbrev dW:Stmt:=top 44
theorem cH:ai ["found", "readers", "cell", "origin"] ["found"] (aa dW):=⟨rfl,rfl,rfl,by decide +kernel,rfl,by decide +kernel,by decide +kernel⟩
abbrev aQ:Stmt:=top 45
theorem aw:ai ["found", "readers", "free", "rows", "cell", "origin"] ["found"] (aa aQ):=⟨rfl,rfl,rfl,by decide +kernel,rfl,by decide +kernel,by decide +kernel⟩
abbrev dU:Stmt:=top 46
theorem cG:ai ["ring", "elsewhere", "rows", "cell", "origin"] ["ring", "elsewhere"] (aa dU):=⟨rfl,rfl,rfl,by decide +kernel,rfl,by decide +kernel,by decide +kernel⟩
abbrev eo:Stmt:=top 47
theorem bB:ai ["found", "rows", "kept", "origin", "cell", "ring", "bare", "at"] ["found"] (aa eo):=⟨rfl,rfl,rfl,by decide +kernel,rfl,by decide +kernel,by decide +kernel⟩
abbrev fY:Stmt:=top 48
theorem cX:ai ["store", "rows", "values", "many", "origin", "cell"] ["store", "rows"] (aa fY):=⟨rfl,rfl,rfl,by decide +kernel,rfl,by decide +kernel,by decide +kernel⟩
abbrev eY:Stmt:=top 50
theorem du:ai ["_law_script", "_law_k", "_law_many", "_law_number", "_law_cell"] ["_law_script", "_law_k", "_law_many"] (aa eY):=⟨rfl,rfl,rfl,by decide +kernel,rfl,by decide +kernel,by decide +kernel⟩
abbrev dY:Stmt:=top 51
theorem bC:ai ["_law_script", "_law_at", "_law_sizes_here", "_law_count", "_law_k", "_law_size"] ["_law_script", "_law_at"] (aa dY):=⟨rfl,rfl,rfl,by decide +kernel,rfl,by decide +kernel,by decide +kernel⟩
abbrev eZ:Stmt:=top 52
theorem aP:ai ["_law_script", "_law_at", "_law_sizes_here", "_law_axes_here", "_law_inner", "_law_k", "_law_size", "_law_cell", "_law_pace"] ["_law_script", "_law_at", "_law_sizes_here"] (aa eZ):=⟨rfl,rfl,rfl,by decide +kernel,rfl,by decide +kernel,by decide +kernel⟩
abbrev dZ:Stmt:=top 53
theorem bf:ai ["_law_axes_here", "_law_low", "_law_high", "_law_size", "_law_pace"] ["_law_axes_here"] (aa dZ):=⟨rfl,rfl,rfl,by decide +kernel,rfl,by decide +kernel,by decide +kernel⟩
abbrev bR:Stmt:=top 54
theorem az:ai ["_law_script", "_law_sizes_here", "_law_count", "_law_others", "_law_both", "_law_reach_here", "_law_room", "_law_found", "_law_k", "_law_low", "_law_high"] ["_law_script"] (aa bR):=⟨rfl,rfl,rfl,by decide +kernel,rfl,by decide +kernel,by decide +kernel⟩
abbrev b9:Stmt:=top 56
theorem kG:ai ["_law_script", "_law_room"] ["_law_script", "_law_room"] (aa b9):=⟨rfl,rfl,rfl,by decide +kernel,rfl,by decide +kernel,by decide +kernel⟩
abbrev dB:Stmt:=top 57
theorem bg:ai ["_law_one", "_law_other", "_law_room", "_law_on", "_law_entire", "_law_back", "_law_copies_here", "_law_axes_here"] ["_law_one", "_law_other", "_law_room", "_law_on"] (aa dB):=⟨rfl,rfl,rfl,by decide +kernel,rfl,by decide +kernel,by decide +kernel⟩
abbrev gQ:Stmt:=top 58
theorem fx:ai ["_law_script", "_law_room", "_law_one", "_law_other", "_law_values_here", "_law_store", "_law_beside", "_law_to", "_law_source", "_law_first", "_law_second", "_law_found", "_law_rows", "_law_many"] ["_law_script"] (aa gQ):=⟨rfl,rfl,rfl,by decide +kernel,rfl,by decide +kernel,by decide +kernel⟩
set_option genInjectivity false in
structure Adr where
 a_PaceError:Addr
 a_NoPlace:Addr
 a_NoCells:Addr
 a_NoView:Addr
 a_NoCount:Addr
 a_NoPair:Addr
 a_TooMany:Addr
 a_View:Addr
 a_Store:Addr
 a_TooMany___init__:Addr
 d_TooMany___init__:FuncData
 a_is_whole:Addr
 d_is_whole:FuncData
 a_count_of:Addr
 d_count_of:FuncData
 a_paces_of:Addr
 d_paces_of:FuncData
 a_is_number_below:Addr
 d_is_number_below:FuncData
 a_is_place:Addr
 d_is_place:FuncData
 a_refuse_long:Addr
 d_refuse_long:FuncData
 a_is_within:Addr
 d_is_within:FuncData
 a_is_size:Addr
 d_is_size:FuncData
 a_is_axis:Addr
 d_is_axis:FuncData
 a_are_axes:Addr
 d_are_axes:FuncData
 a_kept_axis:Addr
 d_kept_axis:FuncData
 a_View___init__:Addr
 d_View___init__:FuncData
 a_View_sizes:Addr
 d_View_sizes:FuncData
 a_View_paces:Addr
 d_View_paces:FuncData
 a_View_count:Addr
 d_View_count:FuncData
 a_View_cell:Addr
 d_View_cell:FuncData
 a_View_cells:Addr
 d_View_cells:FuncData
 a_View_least:Addr
 d_View_least:FuncData
 a_View_greatest:Addr
 d_View_greatest:FuncData
 a_widened:Addr
 d_widened:FuncData
 a_whole:Addr
 d_whole:FuncData
 a_refuse_rooms:Addr
 d_refuse_rooms:FuncData
 a_refuse_count:Addr
 d_refuse_count:FuncData
 a_Store___init__:Addr
 d_Store___init__:FuncData
 a_Store_all_values:Addr
 d_Store_all_values:FuncData
 a_Store_refuse_room:Addr
 d_Store_refuse_room:FuncData
 a_Store_read:Addr
 d_Store_read:FuncData
 a_Store_put:Addr
 d_Store_put:FuncData
 a_Store_copied:Addr
 d_Store_copied:FuncData
 a_sources:Addr
 d_sources:FuncData
 a_ring_from:Addr
 d_ring_from:FuncData
 a_least_first:Addr
 d_least_first:FuncData
 a_drawn_from_beyond:Addr
 d_drawn_from_beyond:FuncData
 a_rings:Addr
 d_rings:FuncData
 a_first_cell:Addr
 d_first_cell:FuncData
 a_readers_of:Addr
 d_readers_of:FuncData
 a_rows_beside_rings:Addr
 d_rows_beside_rings:FuncData
 a_rows_round:Addr
 d_rows_round:FuncData
 a_rows_for:Addr
 d_rows_for:FuncData
 a_run_rows:Addr
 d_run_rows:FuncData
 a__law_draw:Addr
 d__law_draw:FuncData
 a__law_sizes:Addr
 d__law_sizes:FuncData
 a__law_axes:Addr
 d__law_axes:FuncData
 a__law_reach:Addr
 d__law_reach:FuncData
 a__law_views:Addr
 d__law_views:FuncData
 a__law_values:Addr
 d__law_values:FuncData
 a__law_copies:Addr
 d__law_copies:FuncData
 a_law:Addr
 d_law:FuncData
structure Tx(K:W.Frag)(mg:Str->Option Value)(t:Adr):Prop where
 m_PaceError:mg "PaceError"=some (.ref t.a_PaceError)
 m_NoPlace:mg "NoPlace"=some (.ref t.a_NoPlace)
 m_NoCells:mg "NoCells"=some (.ref t.a_NoCells)
 m_NoView:mg "NoView"=some (.ref t.a_NoView)
 m_NoCount:mg "NoCount"=some (.ref t.a_NoCount)
 m_NoPair:mg "NoPair"=some (.ref t.a_NoPair)
 m_TooMany:mg "TooMany"=some (.ref t.a_TooMany)
 m_View:mg "View"=some (.ref t.a_View)
 m_Store:mg "Store"=some (.ref t.a_Store)
 m_MOST_TOLD:∃ tk,mg "MOST_TOLD"=some (.int 4096 tk)
 m_MOST_ROOM:∃ tk,mg "MOST_ROOM"=some (.int 1000000000000000000 tk)
 m_MOST_SIZE:∃ tk,mg "MOST_SIZE"=some (.int 1000000000 tk)
 m_MOST_AXES:∃ tk,mg "MOST_AXES"=some (.int 8 tk)
 m_SPARE:∃ tk,mg "SPARE"=some (.int (-1) tk)
 oi_TooMany:Kv K t.a_TooMany t.a_TooMany___init__
 tk_TooMany_number:W.takerIn K t.a_TooMany "number"=some none
 na_TooMany_number:cy K t.a_TooMany "number"
 bi_PaceError:Jj K t.a_PaceError
 cl_View:Cls K t.a_View
 na_View_axes:cy K t.a_View "axes"
 na_View_first:cy K t.a_View "first"
 na_View_room:cy K t.a_View "room"
 mk_View:Mk K t.a_View t.a_View___init__
 mt_View_sizes:mJ K t.a_View "sizes" t.a_View_sizes
 mt_View_paces:mJ K t.a_View "paces" t.a_View_paces
 mt_View_count:mJ K t.a_View "count" t.a_View_count
 mt_View_cell:mJ K t.a_View "cell" t.a_View_cell
 mt_View_cells:mJ K t.a_View "cells" t.a_View_cells
 mt_View_least:mJ K t.a_View "least" t.a_View_least
 mt_View_greatest:mJ K t.a_View "greatest" t.a_View_greatest
 cl_Store:Cls K t.a_Store
 na_Store_floor:cy K t.a_Store "floor"
 mk_Store:Mk K t.a_Store t.a_Store___init__
 mt_Store_all_values:mJ K t.a_Store "all_values" t.a_Store_all_values
 mt_Store_refuse_room:mJ K t.a_Store "refuse_room" t.a_Store_refuse_room
 mt_Store_read:mJ K t.a_Store "read" t.a_Store_read
 mt_Store_put:mJ K t.a_Store "put" t.a_Store_put
 mt_Store_copied:mJ K t.a_Store "copied" t.a_Store_copied
 F_TooMany___init__:Fun K "__init__" "TooMany.__init__" cI t.a_TooMany___init__ t.d_TooMany___init__
 b_TooMany___init__:ar K t.d_TooMany___init__ ["self", "number"] []
 F_is_whole:Fun K "is_whole" "is_whole" gc t.a_is_whole t.d_is_whole
 m_is_whole:mg "is_whole"=some (.ref t.a_is_whole)
 b_is_whole:ar K t.d_is_whole ["thing"] []
 F_count_of:Fun K "count_of" "count_of" gd t.a_count_of t.d_count_of
 m_count_of:mg "count_of"=some (.ref t.a_count_of)
 b_count_of:ar K t.d_count_of ["sizes"] []
 F_paces_of:Fun K "paces_of" "paces_of" fZ t.a_paces_of t.d_paces_of
 m_paces_of:mg "paces_of"=some (.ref t.a_paces_of)
 b_paces_of:ar K t.d_paces_of ["sizes"] []
 F_is_number_below:Fun K "is_number_below" "is_number_below" cZ t.a_is_number_below t.d_is_number_below
 m_is_number_below:mg "is_number_below"=some (.ref t.a_is_number_below)
 b_is_number_below:ar K t.d_is_number_below ["thing", "bound"] []
 F_is_place:Fun K "is_place" "is_place" jc t.a_is_place t.d_is_place
 m_is_place:mg "is_place"=some (.ref t.a_is_place)
 b_is_place:ar K t.d_is_place ["sizes", "thing"] []
 F_refuse_long:Fun K "refuse_long" "refuse_long" dw t.a_refuse_long t.d_refuse_long
 m_refuse_long:mg "refuse_long"=some (.ref t.a_refuse_long)
 b_refuse_long:ar K t.d_refuse_long ["count"] []
 F_is_within:Fun K "is_within" "is_within" eX t.a_is_within t.d_is_within
 m_is_within:mg "is_within"=some (.ref t.a_is_within)
 b_is_within:ar K t.d_is_within ["thing", "low", "high"] []
 F_is_size:Fun K "is_size" "is_size" il t.a_is_size t.d_is_size
 m_is_size:mg "is_size"=some (.ref t.a_is_size)
 b_is_size:ar K t.d_is_size ["thing"] []
 F_is_axis:Fun K "is_axis" "is_axis" ip t.a_is_axis t.d_is_axis
 m_is_axis:mg "is_axis"=some (.ref t.a_is_axis)
 b_is_axis:ar K t.d_is_axis ["thing"] []
 F_are_axes:Fun K "are_axes" "are_axes" er t.a_are_axes t.d_are_axes
 m_are_axes:mg "are_axes"=some (.ref t.a_are_axes)
 b_are_axes:ar K t.d_are_axes ["thing"] []
 F_kept_axis:Fun K "kept_axis" "kept_axis" eW t.a_kept_axis t.d_kept_axis
 m_kept_axis:mg "kept_axis"=some (.ref t.a_kept_axis)
 b_kept_axis:ar K t.d_kept_axis ["axis"] []
 F_View___init__:Fun K "__init__" "View.__init__" bJ t.a_View___init__ t.d_View___init__
 b_View___init__:ar K t.d_View___init__ ["self", "room", "first", "axes"] []
 F_View_sizes:Fun K "sizes" "View.sizes" cB t.a_View_sizes t.d_View_sizes
 b_View_sizes:ar K t.d_View_sizes ["self"] []
 F_View_paces:Fun K "paces" "View.paces" gs t.a_View_paces t.d_View_paces
 b_View_paces:ar K t.d_View_paces ["self"] []
 F_View_count:Fun K "count" "View.count" ed t.a_View_count t.d_View_count
 b_View_count:ar K t.d_View_count ["self"] []
 F_View_cell:Fun K "cell" "View.cell" iB t.a_View_cell t.d_View_cell
 b_View_cell:ar K t.d_View_cell ["self", "place"] []
 F_View_cells:Fun K "cells" "View.cells" ee t.a_View_cells t.d_View_cells
 b_View_cells:ar K t.d_View_cells ["self"] []
 F_View_least:Fun K "least" "View.least" cC t.a_View_least t.d_View_least
 b_View_least:ar K t.d_View_least ["self"] []
 F_View_greatest:Fun K "greatest" "View.greatest" bI t.a_View_greatest t.d_View_greatest
 b_View_greatest:ar K t.d_View_greatest ["self"] []
 F_widened:Fun K "widened" "widened" fE t.a_widened t.d_widened
 m_widened:mg "widened"=some (.ref t.a_widened)
 b_widened:ar K t.d_widened ["cells", "size", "pace"] []
 F_whole:G7 K "whole" "whole" fU t.a_whole t.d_whole
 m_whole:mg "whole"=some (.ref t.a_whole)
 b_whole:ar K t.d_whole ["sizes", "room"] []
 b_whole_1:ar K t.d_whole ["sizes", "room"] [Value.none]
 F_refuse_rooms:Fun K "refuse_rooms" "refuse_rooms" cO t.a_refuse_rooms t.d_refuse_rooms
 m_refuse_rooms:mg "refuse_rooms"=some (.ref t.a_refuse_rooms)
 b_refuse_rooms:ar K t.d_refuse_rooms ["one", "other"] []
 F_refuse_count:Fun K "refuse_count" "refuse_count" cP t.a_refuse_count t.d_refuse_count
 m_refuse_count:mg "refuse_count"=some (.ref t.a_refuse_count)
 b_refuse_count:ar K t.d_refuse_count ["view", "many"] []
 F_Store___init__:Fun K "__init__" "Store.__init__" bW t.a_Store___init__ t.d_Store___init__
 b_Store___init__:ar K t.d_Store___init__ ["self", "values"] []
 F_Store_all_values:Fun K "all_values" "Store.all_values" bK t.a_Store_all_values t.d_Store_all_values
 b_Store_all_values:ar K t.d_Store_all_values ["self"] []
 F_Store_refuse_room:Fun K "refuse_room" "Store.refuse_room" bw t.a_Store_refuse_room t.d_Store_refuse_room
 b_Store_refuse_room:ar K t.d_Store_refuse_room ["self", "view"] []
 F_Store_read:Fun K "read" "Store.read" cD t.a_Store_read t.d_Store_read
 b_Store_read:ar K t.d_Store_read ["self", "view"] []
 F_Store_put:Fun K "put" "Store.put" fb t.a_Store_put t.d_Store_put
 b_Store_put:ar K t.d_Store_put ["self", "view", "values"] []
 F_Store_copied:Fun K "copied" "Store.copied" cQ t.a_Store_copied t.d_Store_copied
 b_Store_copied:ar K t.d_Store_copied ["self", "to", "source"] []
 F_sources:Fun K "sources" "sources" ic t.a_sources t.d_sources
 m_sources:mg "sources"=some (.ref t.a_sources)
 b_sources:ar K t.d_sources ["to", "source"] []
 F_ring_from:Fun K "ring_from" "ring_from" eV t.a_ring_from t.d_ring_from
 m_ring_from:mg "ring_from"=some (.ref t.a_ring_from)
 b_ring_from:ar K t.d_ring_from ["found", "start", "walked"] []
 F_least_first:Fun K "least_first" "least_first" dA t.a_least_first t.d_least_first
 m_least_first:mg "least_first"=some (.ref t.a_least_first)
 b_least_first:ar K t.d_least_first ["ring"] []
 F_drawn_from_beyond:Fun K "drawn_from_beyond" "drawn_from_beyond" bu t.a_drawn_from_beyond t.d_drawn_from_beyond
 m_drawn_from_beyond:mg "drawn_from_beyond"=some (.ref t.a_drawn_from_beyond)
 b_drawn_from_beyond:ar K t.d_drawn_from_beyond ["found", "ring_of"] []
 F_rings:Fun K "rings" "rings" jC t.a_rings t.d_rings
 m_rings:mg "rings"=some (.ref t.a_rings)
 b_rings:ar K t.d_rings ["found"] []
 F_first_cell:Fun K "first_cell" "first_cell" dX t.a_first_cell t.d_first_cell
 m_first_cell:mg "first_cell"=some (.ref t.a_first_cell)
 b_first_cell:ar K t.d_first_cell ["ring"] []
 F_readers_of:Fun K "readers_of" "readers_of" dW t.a_readers_of t.d_readers_of
 m_readers_of:mg "readers_of"=some (.ref t.a_readers_of)
 b_readers_of:ar K t.d_readers_of ["found"] []
 F_rows_beside_rings:Fun K "rows_beside_rings" "rows_beside_rings" aQ t.a_rows_beside_rings t.d_rows_beside_rings
 m_rows_beside_rings:mg "rows_beside_rings"=some (.ref t.a_rows_beside_rings)
 b_rows_beside_rings:ar K t.d_rows_beside_rings ["found"] []
 F_rows_round:Fun K "rows_round" "rows_round" dU t.a_rows_round t.d_rows_round
 m_rows_round:mg "rows_round"=some (.ref t.a_rows_round)
 b_rows_round:ar K t.d_rows_round ["ring", "elsewhere"] []
 F_rows_for:Fun K "rows_for" "rows_for" eo t.a_rows_for t.d_rows_for
 m_rows_for:mg "rows_for"=some (.ref t.a_rows_for)
 b_rows_for:ar K t.d_rows_for ["found"] []
 F_run_rows:Fun K "run_rows" "run_rows" fY t.a_run_rows t.d_run_rows
 m_run_rows:mg "run_rows"=some (.ref t.a_run_rows)
 b_run_rows:ar K t.d_run_rows ["store", "rows"] []
 F__law_draw:Fun K "_law_draw" "_law_draw" eY t.a__law_draw t.d__law_draw
 m__law_draw:mg "_law_draw"=some (.ref t.a__law_draw)
 b__law_draw:ar K t.d__law_draw ["_law_script", "_law_k", "_law_many"] []
 F__law_sizes:Fun K "_law_sizes" "_law_sizes" dY t.a__law_sizes t.d__law_sizes
 m__law_sizes:mg "_law_sizes"=some (.ref t.a__law_sizes)
 b__law_sizes:ar K t.d__law_sizes ["_law_script", "_law_at"] []
 F__law_axes:Fun K "_law_axes" "_law_axes" eZ t.a__law_axes t.d__law_axes
 m__law_axes:mg "_law_axes"=some (.ref t.a__law_axes)
 b__law_axes:ar K t.d__law_axes ["_law_script", "_law_at", "_law_sizes_here"] []
 F__law_reach:Fun K "_law_reach" "_law_reach" dZ t.a__law_reach t.d__law_reach
 m__law_reach:mg "_law_reach"=some (.ref t.a__law_reach)
 b__law_reach:ar K t.d__law_reach ["_law_axes_here"] []
 F__law_views:Fun K "_law_views" "_law_views" bR t.a__law_views t.d__law_views
 m__law_views:mg "_law_views"=some (.ref t.a__law_views)
 b__law_views:ar K t.d__law_views ["_law_script"] []
 F__law_values:Fun K "_law_values" "_law_values" b9 t.a__law_values t.d__law_values
 m__law_values:mg "_law_values"=some (.ref t.a__law_values)
 b__law_values:ar K t.d__law_values ["_law_script", "_law_room"] []
 F__law_copies:Fun K "_law_copies" "_law_copies" dB t.a__law_copies t.d__law_copies
 m__law_copies:mg "_law_copies"=some (.ref t.a__law_copies)
 b__law_copies:ar K t.d__law_copies ["_law_one", "_law_other", "_law_room", "_law_on"] []
 F_law:Fun K "law" "law" gQ t.a_law t.d_law
 m_law:mg "law"=some (.ref t.a_law)
 b_law:ar K t.d_law ["_law_script"] []
 z_ValueError:mg "ValueError"=none
 z_all:mg "all"=none
 z_any:mg "any"=none
 z_bool:mg "bool"=none
 z_int:mg "int"=none
 z_isinstance:mg "isinstance"=none
 z_len:mg "len"=none
 z_list:mg "list"=none
 z_max:mg "max"=none
 z_min:mg "min"=none
 z_range:mg "range"=none
 z_reversed:mg "reversed"=none
 z_sorted:mg "sorted"=none
 z_sum:mg "sum"=none
 z_tuple:mg "tuple"=none
 z_zip:mg "zip"=none
local macro_rules | `(tactic| trivial) => `(tactic| first | exact Or.inl rfl | exact Or.inr rfl | exact Or.inr (Or.inl rfl) | exact Or.inr (Or.inr rfl) | assumption)
local macro_rules | `(tactic| simp! only [$xs,*]) => do
  let ys := xs.getElems.map λ x => (⟨x.raw⟩ : Lean.TSyntax `Lean.Parser.Tactic.simpLemma)
  let zs ← ("↓reduceIte ↓ly ↓Cr ↓Cq ↓Cp ↓Co ↓Cn ↓Cm ↓Ck ↓Cj ↓Ci ↓Cg ↓yc ↓yb ↓ya ↓x9 ↓Fz ↓IM ↓Iv ↓Kj ↓IH ↓Iq ↓qh ↓FA ↓EV ↓Ga ↓Fd ↓IL ↓Iu ↓FI ↓Iy ↓FR ↓EW ↓xJ ↓BP ↓Bb ↓uW ↓uV ↓uU ↓uT ↓Bd ↓IU ↓Iz ↓A8 ↓ES ↓EU ↓BO ↓A9 ↓FH ↓EX ↓FY ↓Fc ↓IS ↓FE ↓Fl ↓FG ↓IQ ↓IB ↓Fi ↓Fh ↓qi ↓nP ↓mw ↓nO ↓uP ↓uO ↓uN ↓uL ↓uK ↓uH ↓uJ ↓uI ↓uG ↓uF ↓uM ↓FV ↓IV ↓IA ↓FU ↓Fb ↓FZ ↓uC ↓Fy ↓qg ↓BD ↓Fu ↓Bi ↓xG ↓xH ↓Gf ↓IT ↓IC ↓cj ↓EY ↓II ↓BX ↓uS ↓FJ ↓Gd ↓IG ↓DO ↓EF ↓Bc ↓BA ↓A6 ↓Gg ↓qt ↓jk ↓xI ↓FN ↓qj ↓kz ↓kC ↓kB ↓nj ↓uR ↓uQ ↓Fq ↓Fs ↓Ft ↓Ir ↓uA ↓BF ↓A7 ↓IJ ↓IK ↓Ff ↓Fj ↓Km ↓Bs ↓FC ↓FD ↓Fp ↓IP ↓ID ↓Bu ↓Fv ↓Fw ↓Ge ↓By ↓Fg ↓FT ↓BW ↓Fn ↓Bw ↓Bx ↓IF ↓Gb ↓aZ ↓aM ↓hV ↓Bh ↓Bg ↓BK ↓BL ↓FL ↓Fo ↓Bz ↓BB ↓BC ↓Bo ↓qm ↓ql ↓qk ↓xD ↓BH ↓Bq ↓BI ↓uE ↓uD ↓Br ↓xE ↓xF ↓FF ↓Iw ↓Bj ↓Bk ↓BM ↓BN ↓uB ↓BE ↓Fx ↓ET ↓FQ ↓Ba ↓FO ↓FP ↓Bf ↓ER ↓EO ↓EN ↓EM ↓EL ↓EK ↓EJ ↓EI ↓EH ↓EG ↓A5 ↓A4 ↓A3 ↓A0 ↓IE ↓Kl ↓Kk ↓xC ↓Bm ↓BV ↓Bv ↓BG ↓Bp ↓BQ ↓BR ↓BS ↓xB ↓BZ ↓xM ↓BY ↓Bl ↓xA ↓FK ↓xy ↓FW ↓FX ↓EZ ↓BU ↓Fm ↓BJ ↓Bt ↓Be ↓xK ly cK au qY wX wW xN wQ qP ah An Ap Ao As Eb Au Aq Ar wM x4 Ks Jg Jf yf iG ef CO GQ CN Option.isSome_some Option.isSome_none Option.map_some List.length_cons List.length_nil List.length_map List.map_cons List.map_nil and_true true_and and_self implies_true reduceCtorEq decide_true decide_false Bool.not_true Bool.not_false if_true if_false decide_eq_true_eq Bool.false_eq_true Bool.not_eq_true' decide_eq_false_iff_not Bool.and_true Bool.true_and Bool.and_self Bool.and_eq_true Int.reduceToNat Int.reducePow Int.reduceMul Int.reduceAdd Int.reduceSub Int.reduceNeg Int.reduceLT Int.reduceLE Int.reduceEq Int.reduceNe Int.reduceDiv Int.reduceMod Nat.reduceAdd Nat.reduceLeDiff Nat.reduceLT Nat.reduceMul Nat.reducePow gt_iff_lt ge_iff_le ne_eq false_implies true_implies eq_self String.reduceEq Int.cast_ofNat_Int not_true_eq_false not_false_eq_true false_and and_false List.cons_append List.nil_append List.append_nil IX".splitOn " ").toArray.mapM λ s => if s.startsWith "↓" then `(Lean.Parser.Tactic.simpLemma| ↓ $(Lean.mkIdent (s.replace "↓" "").toName):ident) else `(Lean.Parser.Tactic.simpLemma| $(Lean.mkIdent s.toName):ident)
  `(tactic| simp (config := { failIfUnchanged := false, maxDischargeDepth := 30, maxSteps := 10000000 }) only [$zs,*, $ys,*, *])
local macro_rules | `(%[$xs,*|$k:num]) => do
  let a := xs.getElems
  let s (i : Nat) : String := a[i]!.raw.getId.toString
  let I (n : String) : Lean.TSyntax `term := ⟨(Lean.mkIdent n.toName).raw⟩
  match k.getNat with
  | 35 => `($(a[0]!) (P := $(I "P")) (w := $(I "w")) (base := $(I "base")) $(I "T"))
  | 0 => `(@pvN _ $(a[0]!) _ _ (by rfl) (by trivial) (by decide) (by decide))
  | 1 => if a.size = 1 then `(@Df _ _ _ _ _ $(a[0]!) (@cw _) (by rfl)) else `(@Df _ _ _ _ _ $(a[0]!) $(a[1]!) (by rfl))
  | 2 => `(@dP _ _ _ _)
  | 7 => `(by trivial)
  | 8 => `(by omega)
  | 3 => `(@sU _ _ _ _ _ _ _ _ _ _ _ _ _ _ _ _ $(I ("G_" ++ s 0)) ($(I "hr.mono") (by decide)) (by rfl) $(I ("T.m_" ++ s 0)) $(I ("T.F_" ++ s 0 ++ ".kp")) $(I ("T.b_" ++ s 0)) .nil bo $(a[1]!) (by decide) (by rfl) (by rfl))
  | 4 => `(@gp _ _ $(a[0]!) _ _ _ _ ($(a[1]!)).nd rfl (Or.inl rfl) $(a[2]!) (by rfl) (by trivial))
  | 5 => `(@sR _ _ $(a[0]!) _ ($(a[1]!)).nd rfl (Or.inl rfl) (by trivial))
  | 6 => `(@gG _ _ _ _ _ _ _ $(Lean.Syntax.mkStrLit (s 0)) _ $(a[1]!) (by rfl) $(I ("T.z_" ++ s 0)) (by decide +kernel) $(a[2]!) (by decide) (by decide) (by rfl) (by rfl))
  | 9 => `(@fD _ _ _ _ _ $(a)*)
  | 10 => `(@jD _ _ _ $(a)*)
  | 11 => `(@dN _ _ _ _ _ _ _ _ $(a)*)
  | 12 => `(@um _ _ _ _ _ $(a)*)
  | 13 => `(@sf _ _ _ _ $(a)*)
  | 14 => `(@AE _ _ _ _ $(a)*)
  | 15 => `(@AL _ _ _ _ _ $(a)*)
  | 16 => `(@zL _ _ _ _ _ _ _ $(a)*)
  | 17 => `(@xj _ _ _ _ _ _ _ _ $(a)*)
  | 18 => `(@AM _ _ _ _ $(a)*)
  | 19 => `(@sR _ _ $(a)*)
  | 20 => `(@yI _ _ _ _ $(a)*)
  | 21 => `(@Ei _ _ _ _ _ _ _ _ $(a)*)
  | 22 => `(@El _ _ _ _ _ $(a)*)
  | 23 => `(@zK _ _ _ _ _ _ _ _ $(a)*)
  | 24 => `(@Ic _ _ _ _ _ _ _ _ _ _ _ _ $(a)*)
  | 25 => `(@uq _ _ _ _ _ _ _ _ _ _ _ _ _ _ _ _ _ $(a)*)
  | 26 => `(@AO _ _ _ _ _ _ _ _ _ _ _ $(a)*)
  | 27 => `(@sT _ _ _ _ _ $(a)*)
  | 28 => `(@xm _ _ _ _ _ _ _ _ _ _ _ _ _ _ _ _ _ _ _ _ $(a)*)
  | 29 => `(@AQ _ _ _ _ _ _ _ $(a)*)
  | 30 => `(@AF _ _ _ _ _ _ _ _ _ $(a)*)
  | 31 => `(@xl _ _ _ _ _ _ _ _ _ _ $(a)*)
  | 32 => `(@AN _ _ _ _ _ _ $(a)*)
  | 33 => `(@uu _ _ _ _ _ _ _ _ _ $(a)*)
  | 34 => `(@xn _ _ _ _ _ _ _ _ _ _ _ _ _ _ _ _ _ $(a)*)
  | _ => Lean.Macro.throwUnsupported
local macro_rules | `(∅) => `(by rfl)
local macro_rules | `(⋯) => `(by decide)
local macro_rules | `(nofun) => `(by decide +kernel)
local macro_rules | `(tactic| ac_rfl) => `(tactic| simp! only [and_true])
local macro_rules | `(tactic| exists $x:ident) => `(tactic| replace $x := λ (_ : Unit) => $x)
section
variable {P:Program}{w:World}{K:PySem.W.Frag}{mg:Str->Option Value}{base:Heap}{t:Adr}
def gz(ns:List Int)(k m:Int):Int:=(if k < (ns.length:Int) then ns.getD k.toNat 0 else (if 0 < (ns.length:Int) then ns.getD (k % (ns.length:Int)).toNat 0 % 999999937 * (48271+2 * k * k)+k * 69621 else k * k * 7919+104729) % 2147483647 * 16807 % 2147483629) % m
theorem tD{ns:List Int}{k z:Int}(h0:0<=k)(h1:k < (ns.length:Int))(hz:atI (ns.map V.int) k=some (.int z)):ns.getD k.toNat 0=z:=by
 obtain⟨n,rfl⟩:=MY h0;have hn:n < ns.length:=by omega
 have e:atI (ns.map V.int) (n:Int)=some (.int ns[n]):=eT (by rw [La,KA hn];rfl);rw [hz] at e;have e2:=Lf e;simp only [V.int.injEq] at e2;rw [Ls,Lj,KA hn,e2];rfl
theorem Cw{ns:List Int}{k m z:Int}(h0:0<=k)(h1:k < (ns.length:Int))(hz:atI (ns.map V.int) k=some (.int z)):gz ns k m=z % m:=by
 unfold gz;rw [if_pos h1,tD h0 h1 hz]
theorem Cv{ns:List Int}{k m z:Int}(h1:¬ k < (ns.length:Int))(h2:0 < (ns.length:Int))(hz:atI (ns.map V.int) (k % (ns.length:Int))=some (.int z)):gz ns k m=(z % 999999937 * (48271+2 * k * k)+k * 69621) % 2147483647 * 16807 % 2147483629 % m:=by
 unfold gz;rw [if_neg h1,if_pos h2,tD (Int.emod_nonneg _ %[0|8]) (Int.emod_lt_of_pos _ h2) hz]
theorem Cu{ns:List Int}{k m:Int}(h1:¬ k < (ns.length:Int))(h2:¬ 0 < (ns.length:Int)):gz ns k m=(k * k * 7919+104729) % 2147483647 * 16807 % 2147483629 % m:=by
 unfold gz;rw [if_neg h1,if_neg h2]
def mV(K:W.Frag)(a:Addr)(ns:List Int):Sp:=λ vs H Q E=>∃ (k:Int) (m:Int),vs=[.ref a,.int k,.int m]/\(SqL K H a (ns.map V.int)/\ns.length<=63/\(0<=k/\k < 1000)/\0 < m/\Q (.int (gz ns k m)) H)
theorem vO(K:W.Frag)(a:Addr)(ns:List Int)(k:Int)(m:Int)(H:Hp)(Q:VK)(E:XK):mV K a ns [.ref a,.int k,.int m] H Q E=(SqL K H a (ns.map V.int)/\ns.length<=63/\(0<=k/\k < 1000)/\0 < m/\Q (.int (gz ns k m)) H):=pL (f:=λ (k:Int) (m:Int)=>[.ref a,.int k,.int m]) (λ _ _ _ _ h=>by cases h;exact⟨rfl,rfl⟩) k m
theorem ve(K:W.Frag)(a:Addr)(ns:List Int){vs:List V}{H:Hp}{Q:VK}{E:XK}(h:mV K a ns vs H Q E):vs.length=3:=qR h λ _ _=>rfl
theorem fM(T:Tx K mg t)(a:Addr)(ns:List Int):bp P w K mg base CX0 1 t.a__law_draw t.d__law_draw ["_law_script", "_law_k", "_law_many"] (mV K a ns):=by
 refine T.F__law_draw.ok du (λ vs H Q E h=>ve _ _ _ h) (λ c A o s H vs Q E hr h=>?_)
 ·obtain⟨k,m,rfl,hS,hl,⟨hk0,hk1⟩,hm,kk⟩:=h
  refine⟨_,(fD (zK (m8 DD (pv 1) (gG (id := "len") cF ∅ T.z_len nofun (Df (pv 0) cw)) (aL _))
   (jD (sf (dN gW (zL nv (pv 0) (pv 1) (λ _ _=>rfl)) (pv 2))))
   aW)
  (fD (gp (i:=3) du.nd rfl (Or.inl rfl) (dN ow (dN gq (dN gq (pv 1) (pv 1)) dP) dP))
  (fD (zK (m8 DE (gG (id := "len") cF ∅ T.z_len nofun (Df (pv 0) cw)) dP (aL _))
   (fD (gp (i:=4) du.nd rfl (Or.inl rfl) (dN gW (zL nv (pv 0) (dN gW (pv 1) (gG (id := "len") cF ∅ T.z_len nofun (Df (pv 0) cw))) (λ _ _=>rfl)) dP))
   (jD (gp (i:=3) du.nd rfl (Or.inl rfl) (dN ow (dN gq (pv 4) (dN ow dP (dN gq (dN gq dP (pv 1)) (pv 1)))) (dN gq (pv 1) dP)))))
   aW)
  (jD (sf (dN gW (dN gW (dN gq (dN gW (pv 3) dP) dP) dP) (pv 2))))))),?_⟩
  refine⟨_,rfl,_,rfl,a,_,rfl,.inl hS,_,_,rfl,rfl,_,rfl,?_⟩;refine JY (λ h=>?_) (λ h=>?_)
  ·have h1:k < (ns.length:Int):=by simpa using h
   obtain⟨z,hz,_⟩:=pC ns k hk0 h1;exact⟨_,rfl,_,rfl,a,_,k,_,rfl,rfl,hS,hz,_,rfl,_,_,rfl,rfl,hm,by rw [Cw hk0 h1 hz] at kk;exact kk⟩
  ·have h1:¬ k < (ns.length:Int):=by simpa using h
   refine⟨_,rfl,_,rfl,_,_,rfl,rfl,.inl ⟨by omega,by omega⟩,_,_,rfl,rfl,.inr ⟨by decide,by decide⟩,_,_,rfl,rfl,?_⟩;refine⟨_,rfl,a,_,rfl,.inl hS,_,_,rfl,rfl,_,rfl,?_⟩;refine JY (λ h2=>?_) (λ h2=>?_)
   ·have h3:0 < (ns.length:Int):=by simpa using h2
    have h4:(0:Int) < ((ns.map V.int).length:Int):=by simpa using h3
    obtain⟨z,hz,_⟩:=pC ns (k % ((ns.map V.int).length:Int)) (Mr _ %[0|8]) (by have:=L5 k h4;simpa using this);refine⟨_,rfl,_,rfl,_,rfl,a,_,rfl,.inl hS,_,_,rfl,rfl,h4,a,_,_,_,rfl,rfl,hS,hz,_,_,rfl,rfl,(by first|decide|(show (0:Int) < _;decide)),?_⟩;refine⟨_,rfl,_,rfl,_,_,rfl,rfl,.inl ⟨by decide,by decide⟩,_,rfl,_,_,rfl,rfl,.inr ⟨by omega,by omega⟩,_,_,rfl,rfl,_,_,rfl,rfl,?_,?_⟩
    ·refine .inl ⟨?_,?_⟩
     ·have:=Mr z (show (999999937:Int) ≠ 0 by decide);omega
     ·have:=L5 z (show (0:Int) < 999999937 by decide);omega
    refine⟨_,rfl,_,_,rfl,rfl,.inr ⟨by decide,by decide⟩,_,_,rfl,rfl,?_⟩;exact⟨_,rfl,_,_,rfl,rfl,(by first|decide|(show (0:Int) < _;decide)),_,_,rfl,rfl,.inr ⟨by decide,by decide⟩,_,_,rfl,rfl,(by first|decide|(show (0:Int) < _;decide)),_,rfl,_,_,rfl,rfl,hm,by rw [Cv h1 h3 (show atI (ns.map V.int) (k % (ns.length:Int))=some (.int z) by rw [←hz,KG])] at kk;exact kk⟩
   ·exact⟨_,rfl,_,_,rfl,rfl,(by first|decide|(show (0:Int) < _;decide)),_,_,rfl,rfl,.inr ⟨by decide,by decide⟩,_,_,rfl,rfl,(by first|decide|(show (0:Int) < _;decide)),_,rfl,_,_,rfl,rfl,hm,by rw [Cu h1 (show ¬ (0:Int) < (ns.length:Int) by simpa using h2)] at kk;exact kk⟩
def yG(K:W.Frag)(a:Addr)(ns:List Int):Sp:=λ vs H Q E=>∃ (k:Int) (m:Int),vs=[.ref a,.int k,.int m]/\(SqL K H a (ns.map V.int)/\ns.length<=63/\(0<=k/\k < 1000)/\0 < m/\∀ z:Int,0<=z->z < m->Q (.int z) H)
theorem dj(K:W.Frag)(a:Addr)(ns:List Int)(k:Int)(m:Int)(H:Hp)(Q:VK)(E:XK):yG K a ns [.ref a,.int k,.int m] H Q E=(SqL K H a (ns.map V.int)/\ns.length<=63/\(0<=k/\k < 1000)/\0 < m/\∀ z:Int,0<=z->z < m->Q (.int z) H):=pL (f:=λ (k:Int) (m:Int)=>[.ref a,.int k,.int m]) (λ _ _ _ _ h=>by cases h;exact⟨rfl,rfl⟩) k m
theorem cE(T:Tx K mg t)(a:Addr)(ns:List Int):bp P w K mg base CX0 1 t.a__law_draw t.d__law_draw ["_law_script", "_law_k", "_law_many"] (yG K a ns):=(fM (P:=P) (w:=w) (base:=base) T a ns).imp λ vs H Q E h=>by
 obtain⟨k,m,e,hS,hl,hk,hm,kk⟩:=h;exact⟨k,m,e,hS,hl,hk,hm,kk _ (show 0<=gz ns k m from Mr _ %[0|8]) (show gz ns k m < m from L5 _ hm)⟩
def mM  : Sp:=λ vs H Q E=>∃ (x:V),vs=[x]/\(aF (isW H x) (kE4 H Q))
theorem fG  (x:V) (H:Hp) (Q:VK) (E:XK):mM  [x] H Q E=(aF (isW H x) (kE4 H Q)):=gM (f:=λ (x:V)=>[x]) (λ _ _ h=>by cases h;exact rfl) x
theorem uY  {vs:List V}{H:Hp}{Q:VK}{E:XK}(h:mM  vs H Q E):vs.length=1:=gD h λ _=>rfl
theorem ff(T:Tx K mg t):bp P w K mg base CX0 1 t.a_is_whole t.d_is_whole ["thing"] mM:=by
 refine T.F_is_whole.ok qN (λ vs H Q E h=>uY h) (λ c A o s H vs Q E hr h=>?_)
 ·obtain⟨x,rfl,h⟩:=h;obtain⟨b,hb,k⟩:=aj h;clear h;rw [DO] at k;refine⟨_,%[%[%[%[isinstance,fF,%[%[0|0],%[(@jF _ _ (.ty "int") (.type "int") _ ∅ T.z_int nofun rfl ⋯ ⋯)|1]|1]|6],(@ou _ _ _ _ _ (@sS _ _ _ _ %[isinstance,fF,%[%[0|0],%[(@jF _ _ (.ty "bool") (.type "bool") _ ∅ T.z_bool nofun rfl ⋯ ⋯)|1]|1]|6]))|29]|13]|10],?_⟩;rw [show start ["thing"] [x]=[some (x)] from rfl]
  cases x with
  | int i=>cases hb;ac_rfl
  | bl i=>cases hb;ac_rfl
  | non=>cases hb;ac_rfl
  | str i=>cases hb;ac_rfl
  | ref p=>
   obtain⟨rfl,o,ho,ht⟩:=Cd hb
   rcases ht with ht|ht|ht<;>ac_rfl
  | _=>cases hb
def kSz(F:List Int->Prop):List Int->Prop:=λ ns=>gA ns/\F ns
theorem DN(F:List Int->Prop)(ns:List Int):kSz F ns=(gA ns/\F ns):=rfl
def HP(H:Hp)(Q:VK):List Int->Prop:=λ ns=>Q (.int (ag ns)) H
theorem rF(H:Hp)(Q:VK)(ns:List Int):HP H Q ns=Q (.int (ag ns)) H:=rfl
def mW  : Sp:=λ vs H Q E=>∃ (p:Addr),vs=[.ref p]/\(aF (au H p) (fT (kSz (HP H Q))))
theorem lV  (p:Addr) (H:Hp) (Q:VK) (E:XK):mW  [.ref p] H Q E=(aF (au H p) (fT (kSz (HP H Q)))):=gM (f:=λ (p:Addr)=>[.ref p]) (λ _ _ h=>by cases h;exact rfl) p
theorem vf  {vs:List V}{H:Hp}{Q:VK}{E:XK}(h:mW  vs H Q E):vs.length=1:=gD h λ _=>rfl
theorem iD(T:Tx K mg t):bp P w K mg base CX0 1 t.a_count_of t.d_count_of ["sizes"] mW:=by
 refine T.F_count_of.ok eG (λ vs H Q E h=>vf h) (λ c A o s H vs Q E hr h=>?_)
 ·obtain⟨p,rfl,h⟩:=h;obtain⟨xs,hp,ns,rfl,hs,k⟩:=aj h;replace hp:=bx hp;rw [rF] at k;refine⟨_,%[%[1,eG,%[0|2]|4],%[%[Ll,rfl,%[%[0|0]|20],%[2,eG|5],%[%[1,eG,%[sW,%[1|0],%[2|0]|11]|4]|10],(by intros;rfl)|21],%[%[%[1|0]|13]|10]|9]|9],?_⟩;rw [show start ["sizes", "count", "size"] [.ref p]=[some (.ref p),none,none] from rfl];ac_rfl;refine cL (xs:=ns.map V.int) (λ i σ H'=>∃ v:Option V,σ=[some (.ref p),some (.int (ag (ns.take i))),v]/\H'=H) ⟨_,rfl,rfl⟩ (λ i σ H' _ ⟨_,_,e⟩=>by subst e;exact hp) ?_ ?_
  ·rintro i x _ _ hi ⟨v,rfl,rfl⟩;rw [La] at hi;obtain⟨z,hz,rfl⟩:=KW.mp hi;have e:=jd ns i z hz;have b1:=(hs.take i).prod;have b2:=hs.2 z (Lh hz)
   have c1:(ag (ns.take i)).natAbs < 2 ^ 256:=by
    generalize ag (ns.take i)=y at b1;have:(1000000000:Int) ^ 8 < 2 ^ 256:=by decide
    omega
   have c2:z.natAbs < 2 ^ 256:=by omega
   clear b1 b2;simp! only [↓cj,pD];exact⟨_,rfl⟩
  ·rintro _ _ ⟨v,rfl,rfl⟩;rw [KG,LG];ac_rfl
def jL  : Sp:=λ vs H Q E=>∃ (i:Int) (lo:Int) (hi:Int),vs=[.int i,.int lo,.int hi]/\(Q (.bl (decide (lo<=i) && decide (i<=hi))) H)
theorem jo  (i:Int) (lo:Int) (hi:Int) (H:Hp) (Q:VK) (E:XK):jL  [.int i,.int lo,.int hi] H Q E=(Q (.bl (decide (lo<=i) && decide (i<=hi))) H):=CQ (f:=λ (i:Int) (lo:Int) (hi:Int)=>[.int i,.int lo,.int hi]) (λ _ _ _ _ _ _ h=>by cases h;exact⟨rfl,rfl,rfl⟩) i lo hi
theorem qu  {vs:List V}{H:Hp}{Q:VK}{E:XK}(h:jL  vs H Q E):vs.length=3:=CT h λ _ _ _=>rfl
theorem gu(T:Tx K mg t):bp P w K mg base CX0 2 t.a_is_within t.d_is_within ["thing", "low", "high"] jL:=by
 have G_is_whole:=%[ff|35];refine T.F_is_within.ok og (λ vs H Q E h=>qu h) (λ c A o s H vs Q E hr h=>?_)
 ·obtain⟨i,lo,hi,rfl,k⟩:=h;refine⟨_,%[%[%[%[is_whole,%[%[0|0]|1]|3],(@ou _ _ _ _ _ (@ur _ _ _ _ _ _ _ _ _ _ _ _ wa wa %[1|0] %[0|0] %[2|0] ∅))|29]|13]|10],?_⟩;rw [show start ["thing", "low", "high"] [.int i,.int lo,.int hi]=[some (.int i),some (.int lo),some (.int hi)] from rfl]
  by_cases h0:lo<=i
  ·rw [Nb h0,Bool.true_and] at k;simp! only [↓fG]
  ·rw [LX h0,Bool.false_and] at k;simp! only [↓fG]
def rL  : Sp:=λ vs H Q E=>∃ (i:Int),vs=[.int i]/\(Q (.bl (decide (1<=i) && decide (i<=1000000000))) H)
theorem yn  (i:Int) (H:Hp) (Q:VK) (E:XK):rL  [.int i] H Q E=(Q (.bl (decide (1<=i) && decide (i<=1000000000))) H):=gM (f:=λ (i:Int)=>[.int i]) (λ _ _ h=>by cases h;exact rfl) i
theorem xP  {vs:List V}{H:Hp}{Q:VK}{E:XK}(h:rL  vs H Q E):vs.length=1:=gD h λ _=>rfl
theorem p7(T:Tx K mg t):bp P w K mg base CX0 3 t.a_is_size t.d_is_size ["thing"] rL:=by
 have G_is_within:=%[gu|35];refine T.F_is_size.ok vP (λ vs H Q E h=>xP h) (λ c A o s H vs Q E hr h=>?_)
 ·obtain⟨i,rfl,k⟩:=h;refine⟨_,%[%[%[is_within,%[%[0|0],%[%[0|2],%[(@eR _ _ (.int 1000000000) _ _ ∅ T.m_MOST_SIZE.choose_spec ⟨_,rfl⟩ ⋯)|1]|1]|1]|3]|13]|10],?_⟩;rw [show start ["thing"] [.int i]=[some (.int i)] from rfl];simp! only [↓jo]
abbrev pI  (p:Addr) (H:Hp) (Q:VK) (E:XK):Prop:=∃ a:Int × Int,H p=some (.tup [.int a.1,.int a.2])/\1<=a.1/\a.1<=1000000000/\Q (.bl true) H
def rQ  : Sp:=λ vs H Q E=>∃ (p:Addr),vs=[.ref p]/\(pI  p H Q E)
theorem yp  (p:Addr) (H:Hp) (Q:VK) (E:XK):rQ  [.ref p] H Q E=(pI  p H Q E):=gM (f:=λ (p:Addr)=>[.ref p]) (λ _ _ h=>by cases h;exact rfl) p
theorem xU  {vs:List V}{H:Hp}{Q:VK}{E:XK}(h:rQ  vs H Q E):vs.length=1:=gD h λ _=>rfl
theorem p8(T:Tx K mg t):bp P w K mg base CX0 4 t.a_is_axis t.d_is_axis ["thing"] rQ:=by
 have G_is_size:=%[p7|35];have G_is_whole:=%[ff|35];refine T.F_is_axis.ok vQ (λ vs H Q E h=>xU h) (λ c A o s H vs Q E hr h=>?_)
 ·obtain⟨p,rfl,a,hp,h1,h2,k⟩:=h;refine⟨_,%[%[%[%[isinstance,fF,%[%[0|0],%[(@jF _ _ (.ty "tuple") (.type "tuple") _ ∅ T.z_tuple nofun rfl ⋯ ⋯)|1]|1]|6],%[(@jE _ _ _ _ _ _ _ _ (si hr.units) %[len,aH,%[%[0|0]|1]|6] %[0|2] (aL _)),%[%[is_size,%[%[gk,%[0|0],%[0|2],(λ _ _=>rfl)|16]|1]|3],(@ou _ _ _ _ _ %[is_whole,%[%[gk,%[0|0],%[0|2],(λ _ _=>rfl)|16]|1]|3])|29]|29]|29]|13]|10],?_⟩;rw [show start ["thing"] [.ref p]=[some (.ref p)] from rfl];simp! only [↓yn,↓fG]
abbrev pH  (p:Addr) (H:Hp) (Q:VK) (E:XK):Prop:=∃ a:Int × Int,H p=some (.tup [.int a.1,.int a.2])/\∀ (r:Addr) (H':Hp),H r=none->Ext H H'->H' r=some (.tup [.int (aG a).1,.int (aG a).2])->Q (.ref r) H'
def rP  : Sp:=λ vs H Q E=>∃ (p:Addr),vs=[.ref p]/\(pH  p H Q E)
theorem yo  (p:Addr) (H:Hp) (Q:VK) (E:XK):rP  [.ref p] H Q E=(pH  p H Q E):=gM (f:=λ (p:Addr)=>[.ref p]) (λ _ _ h=>by cases h;exact rfl) p
theorem xT  {vs:List V}{H:Hp}{Q:VK}{E:XK}(h:rP  vs H Q E):vs.length=1:=gD h λ _=>rfl
theorem mn(T:Tx K mg t):bp P w K mg base CX0 1 t.a_kept_axis t.d_kept_axis ["axis"] rP:=by
 refine T.F_kept_axis.ok oa (λ vs H Q E h=>xT h) (λ c A o s H vs Q E hr h=>?_)
 ·obtain⟨p,rfl,a,hp,k⟩:=h;refine⟨_,%[%[%[%[%[gk,%[0|0],%[0|2],(λ _ _=>rfl)|16],%[(@oU _ _ _ _ _ _ _ _ %[wb,%[gk,%[0|0],%[0|2],(λ _ _=>rfl)|16],%[0|2],(aL _)|17] %[gk,%[0|0],%[0|2],(λ _ _=>rfl)|16] %[0|2])|1]|1]|15]|13]|10],?_⟩;rw [show start ["axis"] [.ref p]=[some (.ref p)] from rfl];have e1:(aG a).1=a.1:=rfl
  by_cases h1:1 < a.1
  ·have e2:(aG a).2=a.2:=KZ h1;rw [e1,e2] at k;ac_rfl;exact λ r H' h e h'=>k r H' h e h'
  ·have e2:(aG a).2=0:=KU h1;rw [e1,e2] at k;ac_rfl;exact λ r H' h e h'=>k r H' h e h'
abbrev pJ  (p:Addr) (H:Hp) (Q:VK) (E:XK):Prop:=∃ axs:List (Int × Int),aT H p (axL axs)/\fq axs/\∀ H',Ext H H'->Q (.bl true) H'
def rR  : Sp:=λ vs H Q E=>∃ (p:Addr),vs=[.ref p]/\(pJ  p H Q E)
theorem yq  (p:Addr) (H:Hp) (Q:VK) (E:XK):rR  [.ref p] H Q E=(pJ  p H Q E):=gM (f:=λ (p:Addr)=>[.ref p]) (λ _ _ h=>by cases h;exact rfl) p
theorem xV  {vs:List V}{H:Hp}{Q:VK}{E:XK}(h:rR  vs H Q E):vs.length=1:=gD h λ _=>rfl
theorem nK(T:Tx K mg t):bp P w K mg base CX0 5 t.a_are_axes t.d_are_axes ["thing"] rR:=by
 have G_is_axis:=%[p8|35];refine T.F_are_axes.ok qO (λ vs H Q E h=>xV h) (λ c A o s H vs Q E hr h=>?_)
 ·obtain⟨p,rfl,axs,⟨ys,hp,al⟩,ha,k⟩:=h;refine⟨_,%[%[%[%[isinstance,fF,%[%[0|0],%[(@jF _ _ (.ty "list") (.type "list") _ ∅ T.z_list nofun rfl ⋯ ⋯)|1]|1]|6],%[(@jE _ _ _ _ _ _ _ _ wa %[len,aH,%[%[0|0]|1]|6] (@eR _ _ (.int 8) _ _ ∅ T.m_MOST_AXES.choose_spec ⟨_,rfl⟩ ⋯) (aL _)),(@ou _ _ _ _ _ %[all,(vG rfl),%[%[(["axis", "thing"]),(1),(bh (aa er) ["thing"] rfl rfl nofun),rfl,%[%[0|0]|20],(λ C s₀ H₀ ex pn=>%[(0),_,(show List.Nodup (["axis", "thing"]:List Str) from by decide +kernel),rfl,(Or.inl rfl),%[0|7]|19]),(λ C s₀ H₀ ex pn=>(@bM _)),(λ C s₀ H₀ ex pn=>%[is_axis,%[%[0|0]|1]|3]),(by intros;rfl)|26]|1]|6])|29]|29]|13]|10],?_⟩;rw [show start ["thing"] [.ref p]=[some (.ref p)] from rfl];have hl:ys.length=axs.length:=by rw [al.1];unfold axL;rw [length_map]
  have hl8:(axs.length:Int)<=8:=by have:=ha.1;omega
  ac_rfl;refine cp ys (λ _=>true) (λ _=>.bl true) (λ z x H'=>x=z/\H' p=some (.lst ys)) (i7 hp).1 (i7 hp).2 (aN %[0|8]) ?_ ?_
  ·intro D z x H' N1 N0 hz hD e ⟨hx,_⟩ k1 _;subst hx;obtain⟨i,hi,rfl⟩:=L0 hz;have hi':i < axs.length:=by rw [←hl];exact hi
   obtain⟨q,hq1,hq2⟩:=al.2 i [axs[i].1,axs[i].2] ys[i] (by unfold axL;rw [getElem?_map,getElem?_eq_getElem hi'];rfl) (getElem?_eq_getElem hi);have hb:=ha.2 _ (getElem_mem hi');have k1':=k1 rfl H' (Ext.refl _);have hq3:=e.at hq2;rw [hq1];clear k1 k hp al;simp! only [↓aM,↓aZ];rw [yp];exact⟨axs[i],hq3,hb.1,hb.2,k1'⟩
  ·intro D H' hD e hD';have hD2:H' D=some (.lst ((ys.map λ _=>true).map V.bl)):=by rw [hD',vU,LP];rfl
   have e2:((ys.map λ _=>true).all id)=true:=by rw [List.all_map];simp
   have k2:=k H' e;clear k hD';ac_rfl
theorem nT{zs:List (List Int)}{ys:List V}{H:Hp}(al:Al (qV H) zs ys){i:Nat}{y:V}(h:ys[i]? = some y):∃ z,zs[i]? = some z/\qV H z y:=by
 have hi:i < ys.length:=(KH.mp h).1;have hz:zs[i]? = some (zs[i]'(by rw [←al.1];exact hi)):=KA _;exact⟨_,hz,al.2 i _ y hz h⟩
abbrev pG(cT:Addr)(n:Int)(H:Hp)(Q:VK)(E:XK):Prop:=(n<=4096->Q .non H)/\¬ 4096 < n
def rO(cT:Addr):Sp:=λ vs H Q E=>∃ (n:Int),vs=[.int n]/\(pG cT n H Q E)
theorem pA(cT:Addr)(n:Int)(H:Hp)(Q:VK)(E:XK):rO cT [.int n] H Q E=(pG cT n H Q E):=gM (f:=λ (n:Int)=>[.int n]) (λ _ _ h=>by cases h;exact rfl) n
theorem xS(cT:Addr){vs:List V}{H:Hp}{Q:VK}{E:XK}(h:rO cT vs H Q E):vs.length=1:=gD h λ _=>rfl
theorem eO(T:Tx K mg t):bp P w K mg base CX0 3 t.a_refuse_long t.d_refuse_long ["count"] (rO t.a_TooMany):=by
 refine T.F_refuse_long.ok kF (λ vs H Q E h=>xS _ h) (λ c A o s H vs Q E hr h=>?_)
 ·obtain⟨n,rfl,k1,hn⟩:=h;refine⟨_,%[%[%[wb,%[0|0],(@eR _ _ (.int 4096) _ _ ∅ T.m_MOST_TOLD.choose_spec ⟨_,rfl⟩ ⋯),(aL _)|17],%[(@dh _ _)|10],(@aW _)|23]|10],?_⟩;rw [show start ["count"] [.int n]=[some (.int n)] from rfl];have k1':=k1 %[0|8];clear k1;ac_rfl
theorem JF(x:Int):min 0 x=if x < 0 then x else 0:=by split<;>omega
theorem JG(x:Int):max 0 x=if 0 < x then x else 0:=by split<;>omega
structure aJ(C:Addr)(H:Hp)(v:Addr)(room first:Int)(axs:List (Int × Int)):Prop where
 ob:∃ dx l,H v=some (.ins C dx (dH room first l))/\aT H l (axL axs)
theorem aJ.ext{C:Addr}{H H':Hp}{v:Addr}{room first:Int}{axs:List (Int × Int)}(h:aJ C H v room first axs)(e:Ext H H'):aJ C H' v room first axs:=by
 obtain⟨dx,l,h1,h2⟩:=h.ob;exact⟨⟨dx,l,e.at h1,h2.ext e⟩⟩
theorem zM{m:Str}(h:m∈([("sizes":Str), "paces", "count", "cell", "cell_at", "cells", "least", "greatest"]:List Str)):¬ m = "axes" /\ ¬ m = "first" /\ ¬ m = "room":=by
 revert m
 decide +kernel
theorem vn(room first:Int)(l:Addr){m:Str}(h:m∈([("sizes":Str), "paces", "count", "cell", "cell_at", "cells", "least", "greatest"]:List Str)):(dH room first l).lookup m=none:=wI room first l (zM h).1 (zM h).2.1 (zM h).2.2
theorem D5{H:Hp}{axs:List (Int × Int)}{ys:List V}(al:Al (qV H) (axL axs) ys){i:Nat}{y:V}(h:ys[i]? = some y):∃ a q,axs[i]? = some a/\y=.ref q/\H q=some (.tup [.int a.1,.int a.2]):=by
 obtain⟨z,hz,q,hq,hq2⟩:=nT al h;unfold axL at hz;rw [getElem?_map] at hz;obtain⟨a,ha,rfl⟩:=Option.map_eq_some_iff.mp hz;exact⟨a,q,ha,hq,hq2⟩
abbrev mh(C:Addr)(v:Addr)(H:Hp)(Q:VK)(E:XK):Prop:=∃ (room first:Int) (axs:List (Int × Int)),aJ C H v room first axs/\fq axs/\∀ H',Ext H H'->Q (.int (first+ay axs)) H'
def jB(C:Addr):Sp:=λ vs H Q E=>∃ (v:Addr),vs=[.ref v]/\(mh C v H Q E)
theorem vN(C:Addr)(v:Addr)(H:Hp)(Q:VK)(E:XK):jB C [.ref v] H Q E=(mh C v H Q E):=gM (f:=λ (v:Addr)=>[.ref v]) (λ _ _ h=>by cases h;exact rfl) v
theorem vd(C:Addr){vs:List V}{H:Hp}{Q:VK}{E:XK}(h:jB C vs H Q E):vs.length=1:=gD h λ _=>rfl
theorem ku(T:Tx K mg t):bp P w K mg base CX0 1 t.a_View_least t.d_View_least ["self"] (jB t.a_View):=by
 refine T.F_View_least.ok mE (λ vs H Q E h=>vd _ h) (λ c A o s H vs Q E hr h=>?_)
 ·obtain⟨v,rfl,room,first,axs,vo,hax,k⟩:=h;obtain⟨dx,l,hv,ys,hl,al⟩:=vo.ob;have c1:=T.cl_View;have c2:=T.na_View_first;have c3:=T.na_View_axes
  have f1:=eU room first l
  have f2:=ei room first l
  refine⟨_,%[%[%[bY,%[%[0|0],rfl|27],%[sum,(lP rfl),%[%[(["size", "pace", "self"]),(2),(bh (aa cC) ["self"] rfl rfl nofun),rfl,%[%[%[0|0],rfl|27]|20],(λ C s₀ H₀ ex pn=>(%[(2),rfl,%[%[(0),_,(show List.Nodup (["size", "pace", "self"]:List Str) from by decide +kernel),rfl,(Or.inl rfl),%[0|7]|19],%[%[(1),_,(show List.Nodup (["size", "pace", "self"]:List Str) from by decide +kernel),rfl,(Or.inl rfl),%[0|7]|19],(@aC _),∅|12],∅|12],∅,∅|22].mono λ _ _ _ _ h=>bD h)),(λ C s₀ H₀ ex pn=>(@bM _)),(λ C s₀ H₀ ex pn=>%[min,(lQ rfl),%[%[0|2],%[%[fz,%[bX,%[0|0],%[0|2]|11],%[1|0]|11]|1]|1]|6]),(by intros;rfl)|26]|1]|6]|11]|13]|10],?_⟩;rw [show start ["self"] [.ref v]=[some (.ref v)] from rfl];ac_rfl;have wk:=iS (K:=K) (R:=axP) (λ _ _ _ _ h e=>h.ext e) hl (oC al);refine cp axs (λ _=>true) (λ a=>.int (min 0 ((a.1 - 1) * a.2))) axP wk.1 wk.2 (aN (by have:=hax.1;omega)) ?_ ?_
  ·intro D a x H' N1 N0 ha hD e ⟨q,hx,hq⟩ k1 _;subst hx;have hb:=hax.2 a ha;have k1':=k1 rfl H' (Ext.refl _);have hcm:qW (a.1 - 1) a.2:=.inl ⟨by omega,by omega⟩;rw [JF] at k1';clear k1 k;simp! only [↓hV,↓aZ]
  ·intro D H' hD e hD';have hD2:H' D=some (.lst ((axs.map λ a=>min 0 ((a.1 - 1) * a.2)).map V.int)):=by rw [hD',vU,LP];rfl
   have k2:Q (.int (first+(axs.map λ a=>min 0 ((a.1 - 1) * a.2)).sum)) H':=k H' e;clear k hD';ac_rfl
abbrev gy(C:Addr)(v:Addr)(H:Hp)(Q:VK)(E:XK):Prop:=∃ (room first:Int) (axs:List (Int × Int)),aJ C H v room first axs/\fq axs/\∀ H',Ext H H'->Q (.int (first+aA axs)) H'
def fX(C:Addr):Sp:=λ vs H Q E=>∃ (v:Addr),vs=[.ref v]/\(gy C v H Q E)
theorem mB(C:Addr)(v:Addr)(H:Hp)(Q:VK)(E:XK):fX C [.ref v] H Q E=(gy C v H Q E):=gM (f:=λ (v:Addr)=>[.ref v]) (λ _ _ h=>by cases h;exact rfl) v
theorem mx(C:Addr){vs:List V}{H:Hp}{Q:VK}{E:XK}(h:fX C vs H Q E):vs.length=1:=gD h λ _=>rfl
theorem gB(T:Tx K mg t):bp P w K mg base CX0 1 t.a_View_greatest t.d_View_greatest ["self"] (fX t.a_View):=by
 refine T.F_View_greatest.ok iP (λ vs H Q E h=>mx _ h) (λ c A o s H vs Q E hr h=>?_)
 ·obtain⟨v,rfl,room,first,axs,vo,hax,k⟩:=h;obtain⟨dx,l,hv,ys,hl,al⟩:=vo.ob;have c1:=T.cl_View;have c2:=T.na_View_first;have c3:=T.na_View_axes
  have f1:=eU room first l
  have f2:=ei room first l
  refine⟨_,%[%[%[bY,%[%[0|0],rfl|27],%[sum,(lP rfl),%[%[(["size", "pace", "self"]),(2),(bh (aa bI) ["self"] rfl rfl nofun),rfl,%[%[%[0|0],rfl|27]|20],(λ C s₀ H₀ ex pn=>(%[(2),rfl,%[%[(0),_,(show List.Nodup (["size", "pace", "self"]:List Str) from by decide +kernel),rfl,(Or.inl rfl),%[0|7]|19],%[%[(1),_,(show List.Nodup (["size", "pace", "self"]:List Str) from by decide +kernel),rfl,(Or.inl rfl),%[0|7]|19],(@aC _),∅|12],∅|12],∅,∅|22].mono λ _ _ _ _ h=>bD h)),(λ C s₀ H₀ ex pn=>(@bM _)),(λ C s₀ H₀ ex pn=>%[max,(lR rfl),%[%[0|2],%[%[fz,%[bX,%[0|0],%[0|2]|11],%[1|0]|11]|1]|1]|6]),(by intros;rfl)|26]|1]|6]|11]|13]|10],?_⟩;rw [show start ["self"] [.ref v]=[some (.ref v)] from rfl];ac_rfl;have wk:=iS (K:=K) (R:=axP) (λ _ _ _ _ h e=>h.ext e) hl (oC al);refine cp axs (λ _=>true) (λ a=>.int (max 0 ((a.1 - 1) * a.2))) axP wk.1 wk.2 (aN (by have:=hax.1;omega)) ?_ ?_
  ·intro D a x H' N1 N0 ha hD e ⟨q,hx,hq⟩ k1 _;subst hx;have hb:=hax.2 a ha;have k1':=k1 rfl H' (Ext.refl _);have hcm:qW (a.1 - 1) a.2:=.inl ⟨by omega,by omega⟩;rw [JG] at k1';clear k1 k;simp! only [↓hV,↓aZ]
  ·intro D H' hD e hD';have hD2:H' D=some (.lst ((axs.map λ a=>max 0 ((a.1 - 1) * a.2)).map V.int)):=by rw [hD',vU,LP];rfl
   have k2:Q (.int (first+(axs.map λ a=>max 0 ((a.1 - 1) * a.2)).sum)) H':=k H' e;clear k hD';ac_rfl
def JI(H:Hp)(Q:VK)(f:Int × Int->Int)(axs:List (Int × Int)):Prop:=∀ (r:Addr) (H':Hp),H r=none->Ext H H'->H' r=some (.lst ((axs.map f).map V.int))->Q (.ref r) H'
abbrev jr(C:Addr)(v:Addr)(H:Hp)(Q:VK)(E:XK):Prop:=∃ (room first:Int) (axs:List (Int × Int)),aJ C H v room first axs/\axs.length<=8/\JI H Q (λ a=>a.1) axs
def jN(C:Addr):Sp:=λ vs H Q E=>∃ (v:Addr),vs=[.ref v]/\(jr C v H Q E)
theorem qL(C:Addr)(v:Addr)(H:Hp)(Q:VK)(E:XK):jN C [.ref v] H Q E=(jr C v H Q E):=gM (f:=λ (v:Addr)=>[.ref v]) (λ _ _ h=>by cases h;exact rfl) v
theorem qw(C:Addr){vs:List V}{H:Hp}{Q:VK}{E:XK}(h:jN C vs H Q E):vs.length=1:=gD h λ _=>rfl
theorem kr(T:Tx K mg t):bp P w K mg base CX0 1 t.a_View_sizes t.d_View_sizes ["self"] (jN t.a_View):=by
 refine T.F_View_sizes.ok mD (λ vs H Q E h=>qw _ h) (λ c A o s H vs Q E hr h=>?_)
 ·obtain⟨v,rfl,room,first,axs,vo,hax,k⟩:=h;obtain⟨dx,l,hv,ys,hl,al⟩:=vo.ob;have c1:=T.cl_View;have c3:=T.na_View_axes
  have f2:=ei room first l
  refine⟨_,%[%[%[(["size", "pace", "self"]),(2),(bh (aa cB) ["self"] rfl rfl nofun),rfl,%[%[%[0|0],rfl|27]|20],(λ C s₀ H₀ ex pn=>(%[(2),rfl,%[%[(0),_,(show List.Nodup (["size", "pace", "self"]:List Str) from by decide +kernel),rfl,(Or.inl rfl),%[0|7]|19],%[%[(1),_,(show List.Nodup (["size", "pace", "self"]:List Str) from by decide +kernel),rfl,(Or.inl rfl),%[0|7]|19],(@aC _),∅|12],∅|12],∅,∅|22].mono λ _ _ _ _ h=>bD h)),(λ C s₀ H₀ ex pn=>(@bM _)),(λ C s₀ H₀ ex pn=>%[0|0]),(by intros;rfl)|26]|13]|10],?_⟩;rw [show start ["self"] [.ref v]=[some (.ref v)] from rfl];ac_rfl;have wk:=iS (K:=K) (R:=axP) (λ _ _ _ _ h e=>h.ext e) hl (oC al);refine cp axs (λ _=>true) (λ a=>.int a.1) axP wk.1 wk.2 (aN %[0|8]) ?_ ?_
  ·intro D a x H' N1 N0 ha hD e ⟨q,hx,hq⟩ k1 _;subst hx;have k1':=k1 rfl H' (Ext.refl _);clear k1 k;simp! only [↓hV,↓aZ]
  ·intro D H' hD e hD';exact k D H' hD e (by rw [hD',vU,LP];rfl)
abbrev qQ(C:Addr)(v:Addr)(H:Hp)(Q:VK)(E:XK):Prop:=∃ (room first:Int) (axs:List (Int × Int)),aJ C H v room first axs/\axs.length<=8/\JI H Q (λ a=>a.2) axs
def Ha(C:Addr):Sp:=λ vs H Q E=>∃ (v:Addr),vs=[.ref v]/\(qQ C v H Q E)
abbrev js(C:Addr)(v:Addr)(H:Hp)(Q:VK)(E:XK):Prop:=∃ (room first:Int) (axs:List (Int × Int)),aJ C H v room first axs/\fq axs/\∀ H',Ext H H'->Q (.int (ag (axs.map λ a=>a.1))) H'
def jO(C:Addr):Sp:=λ vs H Q E=>∃ (v:Addr),vs=[.ref v]/\(js C v H Q E)
theorem eF(C:Addr)(v:Addr)(H:Hp)(Q:VK)(E:XK):jO C [.ref v] H Q E=(js C v H Q E):=gM (f:=λ (v:Addr)=>[.ref v]) (λ _ _ h=>by cases h;exact rfl) v
theorem qx(C:Addr){vs:List V}{H:Hp}{Q:VK}{E:XK}(h:jO C vs H Q E):vs.length=1:=gD h λ _=>rfl
theorem cb(T:Tx K mg t):bp P w K mg base CX0 2 t.a_View_count t.d_View_count ["self"] (jO t.a_View):=by
 have G_View_sizes:=%[kr|35];have G_count_of:=%[iD|35];refine T.F_View_count.ok mF (λ vs H Q E h=>qx _ h) (λ c A o s H vs Q E hr h=>?_)
 ·obtain⟨v,rfl,room,first,axs,vo,hax,k⟩:=h;obtain⟨dx,l,hv,_⟩:=vo.ob
  have f3:=vn room first l (m := "sizes") nofun
  refine⟨_,%[%[%[count_of,%[%[%[0|0],T.cl_View,T.mt_View_sizes,G_View_sizes,(hr.mono ⋯),T.b_View_sizes,.nil,bo,∅|25]|1]|3]|13]|10],?_⟩;rw [show start ["self"] [.ref v]=[some (.ref v)] from rfl];ac_rfl;rw [qL];refine⟨room,first,axs,vo,hax.1,λ r H' hr' e h'=>?_⟩;have k':=k H' e;have hsz:=hax.sizes;clear k;simp! only [↓lV,↓DN,↓rF]
def mO(C:Addr):Sp:=λ vs H Q E=>∃ (x:Addr) (room:Int) (first:Int) (l:Addr),vs=[.ref x,.int room,.int first,.ref l]/\(∃ (dx:Addr) (axs:List (Int × Int)),H x=some (.ins C dx [])/\aT H l (axL axs)/\jb room first axs/\∀ (H':Hp) (D:Addr),(∀ H0,Ext H0 H->H0 x=none->Ext H0 H')->H D=none->H' x=some (.ins C dx (dH room first D))->aT H' D (axL (axs.map aG))->Q .non H')
theorem iy(C:Addr)(x:Addr)(room:Int)(first:Int)(l:Addr)(H:Hp)(Q:VK)(E:XK):mO C [.ref x,.int room,.int first,.ref l] H Q E=(∃ (dx:Addr) (axs:List (Int × Int)),H x=some (.ins C dx [])/\aT H l (axL axs)/\jb room first axs/\∀ (H':Hp) (D:Addr),(∀ H0,Ext H0 H->H0 x=none->Ext H0 H')->H D=none->H' x=some (.ins C dx (dH room first D))->aT H' D (axL (axs.map aG))->Q .non H'):=Jv (f:=λ (x:Addr) (room:Int) (first:Int) (l:Addr)=>[.ref x,.int room,.int first,.ref l]) (λ _ _ _ _ _ _ _ _ h=>by cases h;exact⟨rfl,rfl,rfl,rfl⟩) x room first l
theorem u3(C:Addr){vs:List V}{H:Hp}{Q:VK}{E:XK}(h:mO C vs H Q E):vs.length=4:=Jw h λ _ _ _ _=>rfl
theorem dG(T:Tx K mg t):bp P w K mg base CX0 6 t.a_View___init__ t.d_View___init__ ["self", "room", "first", "axes"] (mO t.a_View):=by
 have G_is_within:=%[gu|35];have G_is_whole:=%[ff|35];have G_are_axes:=%[nK|35];have G_kept_axis:=%[mn|35];have G_View_least:=%[ku|35];have G_View_greatest:=%[gB|35];refine T.F_View___init__.ok iQ (λ vs H Q E h=>u3 _ h) (λ c A o s H vs Q E hr h=>?_)
 ·obtain⟨x,room,first,l,rfl,dx,axs,hx,tl,vok,k⟩:=h;have c1:=T.cl_View;have c2:=T.na_View_first;have c3:=T.na_View_axes;have c4:=T.na_View_room;refine⟨_,%[%[(PW.pt (@vZ _ _ _ _ _ _ _ (@rZ _ _ _ _ (@hG _ _ _ %[is_within,%[%[1|0],%[%[0|2],%[(@eR _ _ (.int 1000000000000000000) _ _ ∅ T.m_MOST_ROOM.choose_spec ⟨_,rfl⟩ ⋯)|1]|1]|1]|3] (by intros;rfl))) (@vZ _ _ _ _ _ _ _ (@rZ _ _ _ _ (@hG _ _ _ %[is_whole,%[%[2|0]|1]|3] (by intros;rfl))) (@rX _ _ _ _ (@rZ _ _ _ _ (@hG _ _ _ %[are_axes,%[%[3|0]|1]|3] (by intros;rfl))))))),%[(@dh _ _)|10],(@aW _)|23],%[(@gF _ _ _ _ _ _ _ _ %[0|0] %[1|0] rfl),%[(@gF _ _ _ _ _ _ _ _ %[0|0] %[2|0] rfl),%[(@gF _ _ _ _ _ _ _ _ %[0|0] %[(["axis", "self", "room", "first", "axes"]),(1),(bh (aa bJ) ["self", "room", "first", "axes"] rfl rfl nofun),rfl,%[%[3|0]|20],(λ C s₀ H₀ ex pn=>%[(0),_,(show List.Nodup (["axis", "self", "room", "first", "axes"]:List Str) from by decide +kernel),rfl,(Or.inl rfl),%[0|7]|19]),(λ C s₀ H₀ ex pn=>(@bM _)),(λ C s₀ H₀ ex pn=>%[kept_axis,%[%[0|0]|1]|3]),(by intros;rfl)|26] rfl),%[%[(PW.pt (@vZ _ _ _ _ _ _ _ %[DF,%[%[0|0],T.cl_View,T.mt_View_least,G_View_least,(hr.mono ⋯),T.b_View_least,.nil,bo,∅|25],%[0|2],(aL _)|17] (@rX _ _ _ _ %[Ij,%[%[0|0],T.cl_View,T.mt_View_greatest,G_View_greatest,(hr.mono ⋯),T.b_View_greatest,.nil,bo,∅|25],%[1|0],(aL _)|17]))),%[(@dh _ _)|10],(@aW _)|23]|10]|9]|9]|9]|9],?_⟩;rw [show start ["self", "room", "first", "axes"] [.ref x,.int room,.int first,.ref l]=[some (.ref x),some (.int room),some (.int first),some (.ref l)] from rfl];have r1:=vok.r1;have r2:=vok.r2;simp! only [↓jo,↓fG];rw [yq];refine⟨axs,tl,vok.ax,λ H1 e1=>?_⟩;have hx1:=e1.at hx;have tl1:=tl.ext e1;clear hx tl;ac_rfl;refine⟨(show (1:Nat) < 1000 by decide),?_⟩;obtain⟨ys,hl1,al1⟩:=tl1;have hlx:l ≠ x:=λ z=>by rw [z,hx1] at hl1;cases hl1
  have hx2:(upd H1 x (HO.ins t.a_View dx (dM "first" (V.int first) (dM "room" (V.int room) [])))) x=some (HO.ins t.a_View dx (dM "first" (V.int first) (dM "room" (V.int room) []))):=ah
  have hl2:(upd H1 x (HO.ins t.a_View dx (dM "first" (V.int first) (dM "room" (V.int room) [])))) l=some (.lst ys):=by rw [af hlx];exact hl1
  have al2:Al (λ a y=>axP a y (upd H1 x (HO.ins t.a_View dx (dM "first" (V.int first) (dM "room" (V.int room) []))))) axs ys:=(oC al1).imp λ a y ⟨q,hy,hq⟩=>⟨q,hy,by rw [af (λ z=>by rw [z,hx1] at hq;cases hq)];exact hq⟩;have b2:∀ H0,Ext H0 H->H0 x=none->Ext H0 (upd H1 x (HO.ins t.a_View dx (dM "first" (V.int first) (dM "room" (V.int room) [])))):=λ H0 q0 q1=>(q0.trans e1).put q1
  have b3:∀ b,b ≠ x->(upd H1 x (HO.ins t.a_View dx (dM "first" (V.int first) (dM "room" (V.int room) [])))) b=none->H b=none:=λ b hb q=>by rw [af hb] at q;exact e1.free q
  generalize upd H1 x (HO.ins t.a_View dx (dM "first" (V.int first) (dM "room" (V.int room) [])))=H2 at hx2 hl2 al2 b2 b3;clear hl1 al1 hx1;ac_rfl;have wk:=iS (K:=K) (R:=axP) (λ _ _ _ _ h e=>h.ext e) hl2 al2;refine px axs (λ _=>true) axP (λ D a y H'=>∃ q,y=.ref q/\q ≠ D/\H' q=some (.tup [.int (aG a).1,.int (aG a).2])) wk.1 wk.2 (λ D _ y H1 H2 ⟨q,h1,h2,h3⟩ e=>⟨q,h1,h2,e.at h3⟩) (λ D _ y H1 o ⟨q,h1,h2,h3⟩=>⟨q,h1,h2,by rw [af h2];exact h3⟩) (aN (by have:=vok.ax.1;omega)) ?_ ?_
  ·intro D a y H' N1 N0 ha hD e ⟨ys0,hys0⟩ ⟨q,hy,hq⟩ k1 _;subst hy;have k1':=k1 rfl;clear k1 k;simp! only [↓aM,↓aZ];rw [yo];exact⟨a,hq,λ r H'' hr' e' h'=>k1' _ H'' e' ⟨r,rfl,(λ z=>by rw [z,hys0] at hr';cases hr'),h'⟩⟩
  ·intro D zs H3 hD e3 hD3 al3;rw [vU] at al3;have hx3:=e3.at hx2;have hDx:D ≠ x:=λ z=>by rw [z,hx2] at hD;cases hD
   clear wk;ac_rfl;refine⟨(show (2:Nat) < 1000 by decide),?_⟩
   have tt:aT (upd H3 x (HO.ins t.a_View dx (dH room first D))) D (axL (axs.map aG)):=by
    refine⟨zs,by rw [af hDx];exact hD3,?_,λ i z y hz hy=>?_⟩
    ·rw [al3.1];unfold axL;rw [length_map,length_map]
    ·unfold axL at hz;rw [map_map,getElem?_map] at hz;obtain⟨a,ha,rfl⟩:=Option.map_eq_some_iff.mp hz;obtain⟨q,hq1,_,hq3⟩:=al3.2 i a y ha hy;exact⟨q,hq1,by rw [af (λ z=>by rw [z,hx3] at hq3;cases hq3)];exact hq3⟩
   have b4:∀ H0,Ext H0 H->H0 x=none->Ext H0 (upd H3 x (HO.ins t.a_View dx (dH room first D))):=λ H0 q0 q1=>((b2 H0 q0 q1).trans e3).put q1;have hx4:(upd H3 x (HO.ins t.a_View dx (dH room first D))) x=some (HO.ins t.a_View dx (dH room first D)):=ah
   have f1:=vn room first D (m := "least") nofun
   have f2:=vn room first D (m := "greatest") nofun
   refine⟨f1,?_⟩
   show jB t.a_View [V.ref x] (upd H3 x (HO.ins t.a_View dx (dH room first D))) _ _
   generalize upd H3 x (HO.ins t.a_View dx (dH room first D))=H4 at tt b4 hx4
   have vo:aJ t.a_View H4 x room first (axs.map aG):=⟨dx,D,hx4,tt⟩
   rw [vN];refine⟨room,first,axs.map aG,vo,vok.ax.kept,λ H5 e5=>?_⟩
   have hlo:¬ first+ay (axs.map aG) < 0:=by have:=vok.lo;omega
   have hx5:=e5.at hx4;ac_rfl;rw [mB];refine⟨room,first,axs.map aG,vo.ext e5,vok.ax.kept,λ H6 e6=>?_⟩
   have hhi:¬ room<=first+aA (axs.map aG):=by have:=vok.hi;omega
   have k':=k H6 D (λ H0 q0 q1=>((b4 H0 q0 q1).trans e5).trans e6) (b3 D hDx hD) (e6.at hx5) ((tt.ext e5).ext e6);clear k;ac_rfl
theorem pS(cs:List Int)(a:Int × Int)(i:Nat)(c:Int)(h:cs[i]? = some c):bQ (cs.take (i+1)) a=bQ (cs.take i) a++(List.range a.1.toNat).map λ (n:Nat)=>c+(n:Int) * a.2:=by
 unfold bQ;rw [take_add_one,h,List.flatMap_append];simp
abbrev iJ  (p:Addr) (z:Int) (pc:Int) (H:Hp) (Q:VK) (E:XK):Prop:=∃ cs:List Int,H p=some (.lst (cs.map V.int))/\1<=z/\cs.length * z.toNat<=4096/\z<=1000000000/\∀ (r:Addr) (H':Hp),H r=none->Ext H H'->H' r=some (.lst ((bQ cs (z,pc)).map V.int))->Q (.ref r) H'
def ib  : Sp:=λ vs H Q E=>∃ (p:Addr) (z:Int) (pc:Int),vs=[.ref p,.int z,.int pc]/\(iJ  p z pc H Q E)
theorem nZ  (p:Addr) (z:Int) (pc:Int) (H:Hp) (Q:VK) (E:XK):ib  [.ref p,.int z,.int pc] H Q E=(iJ  p z pc H Q E):=CQ (f:=λ (p:Addr) (z:Int) (pc:Int)=>[.ref p,.int z,.int pc]) (λ _ _ _ _ _ _ h=>by cases h;exact⟨rfl,rfl,rfl⟩) p z pc
theorem nR  {vs:List V}{H:Hp}{Q:VK}{E:XK}(h:ib  vs H Q E):vs.length=3:=CT h λ _ _ _=>rfl
theorem p4(T:Tx K mg t):bp P w K mg base CX0 1 t.a_widened t.d_widened ["cells", "size", "pace"] ib:=by
 refine T.F_widened.ok ix (λ vs H Q E h=>nR h) (λ c A o s H vs Q E hr h=>?_)
 ·obtain⟨p,z,pc,rfl,cs,hp,hz,hln,hz2,k⟩:=h;refine⟨_,%[%[3,ix,%[(@cw _)|18]|4],%[%[Ll,rfl,%[%[0|0]|20],%[(4),_,ix.nd,rfl,(Or.inr rfl),%[0|7]|19],%[%[%[K1,NB,NA,iq,%[3|0],%[%[(["number", "cells", "size", "pace", "found", "cell"]),(1),(bh (aa fE) ["cells", "size", "pace", "found", "cell"] rfl rfl nofun),rfl,(@dQ _ _ _ _ _ _ ∅ T.z_range %[%[1|0]|1] ∅),(λ C s₀ H₀ ex pn=>%[(0),_,(show List.Nodup (["number", "cells", "size", "pace", "found", "cell"]:List Str) from by decide +kernel),rfl,(Or.inl rfl),%[0|7]|19]),(λ C s₀ H₀ ex pn=>(@bM _)),(λ C s₀ H₀ ex pn=>%[bY,%[5|0],%[fz,%[0|0],%[3|0]|11]|11]),(by intros;rfl)|26]|1],∅,∅,∅,∅,∅|24],∅|14]|10],(by intros;rfl)|21],%[%[%[3|0]|13]|10]|9]|9],?_⟩;rw [show start ["cells", "size", "pace", "found", "cell"] [.ref p,.int z,.int pc]=[some (.ref p),some (.int z),some (.int pc),none,none] from rfl];ac_rfl;intro r H1 hr1 e1 h1;have hp1:=e1.at hp;ac_rfl;refine cL (xs:=cs.map V.int) (λ i σ H'=>∃ v4:Option V,σ=[some (.ref p),some (.int z),some (.int pc),some (.ref r),v4]/\Ext H H'/\H' r=some (.lst ((bQ (cs.take i) (z,pc)).map V.int))) ⟨none,rfl,e1,h1⟩ (λ i σ H' _ ⟨_,_,e,_⟩=>e.at hp) ?_ ?_
  ·rintro i x _ H2 hi ⟨v4,rfl,e2,h2⟩;rw [La] at hi;obtain⟨c,hc,rfl⟩:=KW.mp hi;have hil:i < cs.length:=(KH.mp hc).1
   have hzn:z.toNat<=4096:=by
    have:=Nat.mul_le_mul_right z.toNat (show 1<=cs.length by omega);omega
   have hwl:(bQ (cs.take i) (z,pc)).length+z.toNat<=4096:=by
    rw [k6,LH,show ((z,pc):Int × Int).1=z from rfl];have:(min i cs.length+1) * z.toNat<=cs.length * z.toNat:=Nat.mul_le_mul_right _ %[0|8];rw [Nat.add_mul,Nat.one_mul] at this;omega
   simp! only [↓cj];refine⟨by omega,by omega,?_⟩;refine cp (List.range z.toNat) (λ _=>true) (λ j=>.int (c+(j:Int) * pc)) (λ j x H'=>x=.int (0+(j:Nat))) oo.1 oo.2 (aN (by rw [MZ];omega)) ?_ ?_
   ·intro D j x H' N1 N0 hj hD e hx k1 _;subst hx;have hj':=LQ.mp hj;have k1':=k1 rfl H' (Ext.refl _);have hcm:qW (j:Int) pc:=.inl %[0|8];have e0:(0:Int)+(j:Int)=(j:Int):=Int.zero_add _;clear k1 k hj;simp! only [↓aM,↓aZ]
   ·intro D H3 hD e3 hD3;have hD3':H3 D=some (.lst (((List.range z.toNat).map λ (j:Nat)=>c+(j:Int) * pc).map V.int)):=by rw [hD3,vU,LP];rfl
    have h2_3:=e3.at h2;have hle:(bQ (cs.take i) (z,pc)).length+(List.range z.toNat).length<=sizeLine:=aN (by rw [MZ];omega);clear hD3 hi;ac_rfl;refine⟨_,rfl,(e2.trans e3).put hr1,?_⟩;rw [pS cs (z,pc) i c hc,Lk]
  ·rintro _ H2 ⟨v4,rfl,e2,h2⟩;ac_rfl;rw [KG,LG] at h2;exact k r H2 hr1 e2 h2
abbrev mi(C cT:Addr)(v:Addr)(H:Hp)(Q:VK)(E:XK):Prop:=∃ (room first:Int) (axs:List (Int × Int)),aJ C H v room first axs/\fq axs/\(ag (axs.map λ a=>a.1)<=4096->∀ (r:Addr) (H':Hp),H r=none->Ext H H'->H' r=some (.lst ((ak first axs).map V.int))->Q (.ref r) H')/\¬ 4096 < ag (axs.map λ a=>a.1)
def mX(C cT:Addr):Sp:=λ vs H Q E=>∃ (v:Addr),vs=[.ref v]/\(mi C cT v H Q E)
theorem fH(C cT:Addr)(v:Addr)(H:Hp)(Q:VK)(E:XK):mX C cT [.ref v] H Q E=(mi C cT v H Q E):=gM (f:=λ (v:Addr)=>[.ref v]) (λ _ _ h=>by cases h;exact rfl) v
theorem vg(C cT:Addr){vs:List V}{H:Hp}{Q:VK}{E:XK}(h:mX C cT vs H Q E):vs.length=1:=gD h λ _=>rfl
theorem dC(T:Tx K mg t):bp P w K mg base CX0 4 t.a_View_cells t.d_View_cells ["self"] (mX t.a_View t.a_TooMany):=by
 have G_View_count:=%[cb|35];have G_refuse_long:=%[eO|35];have G_widened:=%[p4|35];refine T.F_View_cells.ok bT (λ vs H Q E h=>vg _ _ h) (λ c A o s H vs Q E hr h=>?_)
 ·obtain⟨v,rfl,room,first,axs,vo,hax,kQ,kE⟩:=h;obtain⟨dx,l,hv,ys,hl,al⟩:=vo.ob;have c1:=T.cl_View;have c2:=T.na_View_first;have c3:=T.na_View_axes
  have f1:=eU room first l
  have f2:=ei room first l
  have f3:=vn room first l (m := "count") nofun
  refine⟨_,%[%[%[refuse_long,%[%[%[0|0],T.cl_View,T.mt_View_count,G_View_count,(hr.mono ⋯),T.b_View_count,.nil,bo,∅|25]|1]|3],∅|14],%[%[1,bT,%[%[%[%[0|0],rfl|27]|1]|18]|4],%[%[Ll,rfl,%[%[%[0|0],rfl|27]|20],(%[(2),rfl,%[%[2,bT|5],%[%[3,bT|5],(@aC _),∅|12],∅|12],∅,∅|22].mono λ _ _ _ _ h=>bD h),%[%[1,bT,%[widened,%[%[1|0],%[%[2|0],%[%[3|0]|1]|1]|1]|3]|4]|10],(by intros;rfl)|21],%[%[%[1|0]|13]|10]|9]|9]|9],?_⟩;rw [show start ["self", "found", "size", "pace"] [.ref v]=[some (.ref v),none,none,none] from rfl];clear G_View_count G_refuse_long G_widened;ac_rfl;rw [eF];refine⟨room,first,axs,vo,hax,λ H1 e1=>?_⟩;have hv1:=e1.at hv;have hl1:=e1.at hl;ac_rfl;rw [pA];refine⟨λ hc=>?_,kE⟩;have kQ':=kQ hc;clear kQ kE;ac_rfl;intro r H2 hr2 e2 h2;have hv2:=e2.at hv1;have hl2:=e2.at hl1;ac_rfl;have hpos:∀ a∈axs,(1:Int)<=a.1:=λ a ha=>(hax.2 a ha).1;refine cL (xs:=ys) (λ i σ H'=>∃ (r:Addr) (v2 v3:Option V),σ=[some (.ref v),some (.ref r),v2,v3]/\Ext H H'/\H r=none/\H' r=some (.lst ((ak first (axs.take i)).map V.int))) ⟨r,none,none,rfl,e1.trans e2,e1.free hr2,h2⟩ (λ i σ H' _ ⟨_,_,_,_,e,_,_⟩=>e.at hl) ?_ ?_
  ·rintro i y _ H3 hi ⟨r3,v2,v3,rfl,e3,hr3,h3⟩;obtain⟨a,q,ha,rfl,hq⟩:=D5 al hi;have hq3:=e3.at hq;have hm:=hax.2 a (Lh ha);simp! only [↓cj];rw [nZ];refine⟨_,h3,hm.1,?_,hm.2,λ r4 H4 hr4 e4 h4=>?_⟩
   ·have hl4:=bA first (axs.take i) λ b hb=>hpos b (Nk hb)
    have hp:=ki (axs.map λ a=>a.1) (λ n hn=>by obtain⟨b,hb,rfl⟩:=KS.mp hn;exact hpos b hb) (i+1);rw [jd _ i a.1 (by rw [La,ha];rfl),←List.map_take,←hl4] at hp;have hza:((a.1.toNat:Nat):Int)=a.1:=N8 %[0|8]
    have:(((ak first (axs.take i)).length * a.1.toNat:Nat):Int)<=4096:=by rw [Int.natCast_mul,hza];omega
    omega
   ·ac_rfl;refine⟨r4,_,_,rfl,e3.trans e4,e3.free hr4,?_⟩;rw [h4,Lx,ha]
    show _=some (HO.lst (List.map V.int (ak first (axs.take i++[a]))))
    rw [nY]
  ·rintro _ H3 ⟨r3,v2,v3,rfl,e3,hr3,h3⟩;have hyl:ys.length=axs.length:=by rw [al.1];unfold axL;rw [length_map]
   rw [hyl,LG] at h3;ac_rfl;exact kQ' r3 H3 hr3 e3 h3
def gm(l:Addr):List (Str × V):=dM "floor" (V.ref l) []
theorem cA(l:Addr):(gm l).lookup ("floor":Str)=some (.ref l):=by
 unfold gm;rw [av,if_pos rfl]
theorem aU(l:Addr){m:Str}(h:m∈([("all_values":Str), "refuse_room", "read", "put", "copied", "fill"]:List Str)):(gm l).lookup m=none:=by
 have:¬ m = "floor":=by
  revert m
  decide +kernel
 unfold gm;rw [av,if_neg this];rfl
structure ba(C:Addr)(H:Hp)(s l:Addr)(vals:List Int):Prop where
 ob:∃ dx,H s=some (.ins C dx (gm l))
 fl:H l=some (.lst (vals.map V.int))
theorem ba.ext{C:Addr}{H H':Hp}{s l:Addr}{vals:List Int}(h:ba C H s l vals)(e:Ext H H'):ba C H' s l vals:=by
 obtain⟨dx,h1⟩:=h.ob;exact⟨⟨dx,e.at h1⟩,e.at h.fl⟩
abbrev l9(C:Addr)(x:Addr)(p:Addr)(H:Hp)(Q:VK)(E:XK):Prop:=∃ (dx:Addr) (vals:List Int),H x=some (.ins C dx [])/\H p=some (.lst (vals.map V.int))/\1<=vals.length/\vals.length<=4096/\∀ (H':Hp) (l:Addr),(∀ H0,Ext H0 H->H0 x=none->Ext H0 H')->H l=none->H' x=some (.ins C dx (gm l))->H' l=some (.lst (vals.map V.int))->Q .non H'
def mQ(C:Addr):Sp:=λ vs H Q E=>∃ (x:Addr) (p:Addr),vs=[.ref x,.ref p]/\(l9 C x p H Q E)
theorem lT(C:Addr)(x:Addr)(p:Addr)(H:Hp)(Q:VK)(E:XK):mQ C [.ref x,.ref p] H Q E=(l9 C x p H Q E):=pL (f:=λ (x:Addr) (p:Addr)=>[.ref x,.ref p]) (λ _ _ _ _ h=>by cases h;exact⟨rfl,rfl⟩) x p
theorem u5(C:Addr){vs:List V}{H:Hp}{Q:VK}{E:XK}(h:mQ C vs H Q E):vs.length=2:=qR h λ _ _=>rfl
theorem gj(T:Tx K mg t):bp P w K mg base CX0 4 t.a_Store___init__ t.d_Store___init__ ["self", "values"] (mQ t.a_Store):=by
 have G_refuse_long:=%[eO|35];refine T.F_Store___init__.ok gC (λ vs H Q E h=>u5 _ h) (λ c A o s H vs Q E hr h=>?_)
 ·obtain⟨x,p,rfl,dx,vals,hx,hp,hv1,hv2,k⟩:=h;have c1:=T.cl_Store;have c2:=T.na_Store_floor;refine⟨_,%[%[%[(si hr.units),%[len,aH,%[%[1|0]|1]|6],%[0|2],(aL _)|17],%[(@dh _ _)|10],(@aW _)|23],%[%[%[refuse_long,%[%[len,aH,%[%[1|0]|1]|6]|1]|3],∅|14],%[(@gF _ _ _ _ _ _ _ _ %[0|0] %[cf,∅,T.z_list,nofun,%[%[1|0]|1],⋯,⋯,∅,∅|33] rfl)|10]|9]|9],?_⟩;rw [show start ["self", "values"] [.ref x,.ref p]=[some (.ref x),some (.ref p)] from rfl];clear G_refuse_long;have hv0:¬ ((vals.length:Int)=0):=by omega
  ac_rfl;rw [pA];refine⟨λ _=>?_,λ h=>absurd h %[0|8]⟩;ac_rfl;intro l H1 hl e1 h1;have hx1:=e1.at hx;have hlx:l ≠ x:=λ z=>by rw [z,hx] at hl;cases hl
  ac_rfl;exact k _ l (λ H0 q0 q1=>(q0.trans e1).put q1) hl ah (by rw [af hlx];exact h1)
abbrev pK(C:Addr)(s:Addr)(H:Hp)(Q:VK)(E:XK):Prop:=∃ (l:Addr) (vals:List Int),ba C H s l vals/\vals.length<=4096/\∀ (r:Addr) (H':Hp),H r=none->Ext H H'->H' r=some (.lst (vals.map V.int))->Q (.ref r) H'
def rS(C:Addr):Sp:=λ vs H Q E=>∃ (s:Addr),vs=[.ref s]/\(pK C s H Q E)
theorem j7(C:Addr)(s:Addr)(H:Hp)(Q:VK)(E:XK):rS C [.ref s] H Q E=(pK C s H Q E):=gM (f:=λ (s:Addr)=>[.ref s]) (λ _ _ h=>by cases h;exact rfl) s
theorem xW(C:Addr){vs:List V}{H:Hp}{Q:VK}{E:XK}(h:rS C vs H Q E):vs.length=1:=gD h λ _=>rfl
theorem cv(T:Tx K mg t):bp P w K mg base CX0 1 t.a_Store_all_values t.d_Store_all_values ["self"] (rS t.a_Store):=by
 refine T.F_Store_all_values.ok fQ (λ vs H Q E h=>xW _ h) (λ c A o s' H vs Q E hr h=>?_)
 ·obtain⟨s,rfl,l,vals,so,hv2,k⟩:=h;obtain⟨dx,hs⟩:=so.ob;have hfl:=so.fl;have c1:=T.cl_Store;have c2:=T.na_Store_floor;have f1:=cA l;refine⟨_,%[%[%[cf,∅,T.z_list,nofun,%[%[%[0|0],rfl|27]|1],⋯,⋯,∅,∅|33]|13]|10],?_⟩;rw [show start ["self"] [.ref s]=[some (.ref s)] from rfl];ac_rfl;intro r H1 hr1 e1 h1;exact k r H1 hr1 e1 h1
abbrev pE(CS CV:Addr)(s:Addr)(v:Addr)(H:Hp)(Q:VK)(E:XK):Prop:=∃ (l:Addr) (vals:List Int) (room first:Int) (axs:List (Int × Int)),ba CS H s l vals/\aJ CV H v room first axs/\room=vals.length/\Q .non H
def rM(CS CV:Addr):Sp:=λ vs H Q E=>∃ (s:Addr) (v:Addr),vs=[.ref s,.ref v]/\(pE CS CV s v H Q E)
theorem gK(CS CV:Addr)(s:Addr)(v:Addr)(H:Hp)(Q:VK)(E:XK):rM CS CV [.ref s,.ref v] H Q E=(pE CS CV s v H Q E):=pL (f:=λ (s:Addr) (v:Addr)=>[.ref s,.ref v]) (λ _ _ _ _ h=>by cases h;exact⟨rfl,rfl⟩) s v
theorem xQ(CS CV:Addr){vs:List V}{H:Hp}{Q:VK}{E:XK}(h:rM CS CV vs H Q E):vs.length=2:=qR h λ _ _=>rfl
theorem bj(T:Tx K mg t):bp P w K mg base CX0 1 t.a_Store_refuse_room t.d_Store_refuse_room ["self", "view"] (rM t.a_Store t.a_View):=by
 refine T.F_Store_refuse_room.ok fk (λ vs H Q E h=>xQ _ _ h) (λ c A o s' H vs Q E hr h=>?_)
 ·obtain⟨s,v,rfl,l,vals,room,first,axs,so,vo,hroom,k⟩:=h;obtain⟨dx,hs⟩:=so.ob;obtain⟨dy,D,hv,_⟩:=vo.ob;have hfl:=so.fl;have c1:=T.cl_Store;have c2:=T.na_Store_floor;have c3:=T.cl_View;have c4:=T.na_View_room;have f1:=cA l
  have f2:=fV room first D
  refine⟨_,%[%[%[(dE hr.units),%[%[1|0],rfl|27],%[len,aH,%[%[%[0|0],rfl|27]|1]|6],(aL _)|17],%[(@dh _ _)|10],(@aW _)|23]|10],?_⟩;rw [show start ["self", "view"] [.ref s,.ref v]=[some (.ref s),some (.ref v)] from rfl];subst hroom;ac_rfl
def jP(CV:Addr):Sp:=λ vs H Q E=>∃ (v:Addr) (n:Int),vs=[.ref v,.int n]/\(∃ (room first:Int) (axs:List (Int × Int)),aJ CV H v room first axs/\fq axs/\n=ag (axs.map λ a=>a.1)/\∀ H',Ext H H'->Q .non H')
theorem gg(CV:Addr)(v:Addr)(n:Int)(H:Hp)(Q:VK)(E:XK):jP CV [.ref v,.int n] H Q E=(∃ (room first:Int) (axs:List (Int × Int)),aJ CV H v room first axs/\fq axs/\n=ag (axs.map λ a=>a.1)/\∀ H',Ext H H'->Q .non H'):=pL (f:=λ (v:Addr) (n:Int)=>[.ref v,.int n]) (λ _ _ _ _ h=>by cases h;exact⟨rfl,rfl⟩) v n
theorem qy(CV:Addr){vs:List V}{H:Hp}{Q:VK}{E:XK}(h:jP CV vs H Q E):vs.length=2:=qR h λ _ _=>rfl
theorem cu(T:Tx K mg t):bp P w K mg base CX0 3 t.a_refuse_count t.d_refuse_count ["view", "many"] (jP t.a_View):=by
 have G_View_count:=%[cb|35];refine T.F_refuse_count.ok iZ (λ vs H Q E h=>qy _ h) (λ c A o s' H vs Q E hr h=>?_)
 ·obtain⟨v,n,rfl,room,first,axs,vo,hax,hn,k⟩:=h;obtain⟨dy,D,hv,_⟩:=vo.ob
  have f3:=vn room first D (m := "count") nofun
  have c3:=T.cl_View;refine⟨_,%[%[%[(dE hr.units),%[%[0|0],T.cl_View,T.mt_View_count,G_View_count,(hr.mono ⋯),T.b_View_count,.nil,bo,∅|25],%[1|0],(aL _)|17],%[(@dh _ _)|10],(@aW _)|23]|10],?_⟩;rw [show start ["view", "many"] [.ref v,.int n]=[some (.ref v),some (.int n)] from rfl];clear G_View_count;subst hn;ac_rfl;rw [eF];refine⟨room,first,axs,vo,hax,λ H1 e1=>?_⟩;have k1:=k H1 e1;clear k;ac_rfl
theorem CJ{vals:List Int}{c:Int}(h0:0<=c)(h1:c < vals.length):atI (vals.map V.int) c=some (.int (vals.getD c.toNat 0)):=by
 obtain⟨n,rfl⟩:=MY h0;have hn:n < vals.length:=by omega
 refine eT ?_;rw [La,KA hn];simp [List.getD,KA hn]
theorem Jd{n:Nat}{c:Int}(h0:0<=c)(h1:c < n):ixN n c=some c.toNat:=by
 unfold ixN;rw [if_pos h0,if_pos %[0|8]]
theorem CL(cs:List Int):Al (λ (z:Int) (y:V)=>y=.int z) cs (cs.map V.int):=by
 refine⟨by rw [KG],λ i z y hz hy=>?_⟩;rw [La,hz] at hy;cases hy;rfl
def bG(cs:List Int)(n:Nat):Prop:=∀ c∈cs,0<=c/\c < (n:Int)
def gR(vals cs:List Int):List Int:=cs.map λ c=>vals.getD c.toNat 0
def kL(vals cs ws:List Int):List Int:=(cs.zip ws).foldl (λ vs p=>vs.set p.1.toNat p.2) vals
abbrev pF(CS CV:Addr)(s:Addr)(v:Addr)(H:Hp)(Q:VK)(E:XK):Prop:=∃ (l:Addr) (vals:List Int) (room first:Int) (axs:List (Int × Int)),ba CS H s l vals/\aJ CV H v room first axs/\fq axs/\room=vals.length/\ag (axs.map λ a=>a.1)<=4096/\bG (ak first axs) vals.length/\∀ (r:Addr) (H':Hp),H r=none->Ext H H'->H' r=some (.lst ((gR vals (ak first axs)).map V.int))->Q (.ref r) H'
def rN(CS CV:Addr):Sp:=λ vs H Q E=>∃ (s:Addr) (v:Addr),vs=[.ref s,.ref v]/\(pF CS CV s v H Q E)
theorem gL(CS CV:Addr)(s:Addr)(v:Addr)(H:Hp)(Q:VK)(E:XK):rN CS CV [.ref s,.ref v] H Q E=(pF CS CV s v H Q E):=pL (f:=λ (s:Addr) (v:Addr)=>[.ref s,.ref v]) (λ _ _ _ _ h=>by cases h;exact⟨rfl,rfl⟩) s v
theorem xR(CS CV:Addr){vs:List V}{H:Hp}{Q:VK}{E:XK}(h:rN CS CV vs H Q E):vs.length=2:=qR h λ _ _=>rfl
theorem fN(T:Tx K mg t):bp P w K mg base CX0 5 t.a_Store_read t.d_Store_read ["self", "view"] (rN t.a_Store t.a_View):=by
 have G_Store_refuse_room:=%[bj|35];have G_View_cells:=%[dC|35];refine T.F_Store_read.ok mG (λ vs H Q E h=>xR _ _ h) (λ c A o s' H vs Q E hr h=>?_)
 ·obtain⟨s,v,rfl,l,vals,room,first,axs,so,vo,hax,hroom,hpr,hon,k⟩:=h;subst hroom;obtain⟨dx,hs⟩:=so.ob;obtain⟨dy,D,hv,_⟩:=vo.ob;have hfl:=so.fl;have c1:=T.cl_Store;have c2:=T.na_Store_floor;have c3:=T.cl_View;have f1:=cA l;have f2:=aU l (m := "refuse_room") nofun
  have f3:=vn (vals.length:Int) first D (m := "cells") nofun
  refine⟨_,%[%[%[%[0|0],T.cl_Store,T.mt_Store_refuse_room,G_Store_refuse_room,(hr.mono ⋯),T.b_Store_refuse_room,.nil,bo,%[%[1|0]|1],∅,∅,∅|28],∅|14],%[%[%[(["cell", "self", "view"]),(1),(bh (aa cD) ["self", "view"] rfl rfl nofun),rfl,%[%[%[1|0],T.cl_View,T.mt_View_cells,G_View_cells,(hr.mono ⋯),T.b_View_cells,.nil,bo,∅|25]|20],(λ C s₀ H₀ ex pn=>%[(0),_,(show List.Nodup (["cell", "self", "view"]:List Str) from by decide +kernel),rfl,(Or.inl rfl),%[0|7]|19]),(λ C s₀ H₀ ex pn=>(@bM _)),(λ C s₀ H₀ ex pn=>%[gk,(@xo _ _ _ _ _ (K) rfl %[1|0] rfl),%[0|0],(λ _ _=>rfl)|16]),(by intros;rfl)|26]|13]|10]|9],?_⟩;rw [show start ["self", "view"] [.ref s,.ref v]=[some (.ref s),some (.ref v)] from rfl];clear G_Store_refuse_room G_View_cells;ac_rfl;rw [gK];refine⟨l,vals,_,first,axs,so,vo,rfl,?_⟩;ac_rfl;rw [fH];refine⟨_,first,axs,vo,hax,λ _ r1 H1 hr1 e1 h1=>?_,λ h=>absurd h %[0|8]⟩
  have hcl:=bA first axs λ a ha=>(hax.2 a ha).1
  have hs1:=e1.at hs;have hfl1:=e1.at hfl;unfold gR at k
  generalize ak first axs=cs at h1 hon k hcl
  have hcl2:cs.length<=4096:=by omega
  ac_rfl;have wk:=iS (K:=K) (R:=λ (z:Int) y _=>y=.int z) (λ _ _ _ _ h _=>h) h1 (CL cs);refine cp cs (λ _=>true) (λ c=>.int (vals.getD c.toNat 0)) (λ z y _=>y=.int z) wk.1 wk.2 (aN %[0|8]) ?_ ?_
  ·intro D2 c y H' N1 N0 hc hD e hy k1 _;subst hy;have hat:=CJ (hon c hc).1 (hon c hc).2;have k1':=k1 rfl H' (Ext.refl _);have hs':=e.at hs1;have hfl':=e.at hfl1;clear k1 k hon hc;simp! only [↓aM,↓aZ]
  ·intro D2 H2 hD2 e2 h2;rw [vU] at h2;have k2:=k D2 H2 (e1.free hD2) (e1.trans e2) (by rw [h2,LP];rfl);clear k hon;ac_rfl
theorem lq{vals cs ws:List Int}{i:Nat}{c z:Int}(hc:cs[i]? = some c)(hw:ws[i]? = some z):kL vals (cs.take (i+1)) (ws.take (i+1))=(kL vals (cs.take i) (ws.take i)).set c.toNat z:=by
 unfold kL
 have e1:(cs.take (i+1)).zip (ws.take (i+1))=(cs.take i).zip (ws.take i)++[(c,z)]:=by
  rw [Lx,Lx,hc,hw,List.zip_append (by
   have h1:=(KH.mp hc).1;have h2:=(KH.mp hw).1;rw [LH,LH];omega)]
  rfl
 rw [e1,Ot];rfl
theorem xg(vals:List Int):∀ (ps:List (Int × Int)),(ps.foldl (λ vs p=>vs.set p.1.toNat p.2) vals).length=vals.length:=by
 intro ps
 induction ps generalizing vals with
 | nil=>rfl
 | cons p ps ih=>rw [Oc,ih,NQ]
theorem nE(vals cs ws:List Int):(kL vals cs ws).length=vals.length:=xg vals _
theorem o1(xs:List Int)(j:Nat)(z:Int):(xs.map V.int).set j (.int z)=(xs.set j z).map V.int:=by
 rw [List.map_set]
def zF(CS CV:Addr):Sp:=λ vs H Q E=>∃ (s:Addr) (v:Addr) (p:Addr),vs=[.ref s,.ref v,.ref p]/\(∃ (l:Addr) (vals:List Int) (room first:Int) (axs:List (Int × Int)) (ws:List Int),ba CS H s l vals/\aJ CV H v room first axs/\fq axs/\room=vals.length/\vals.length<=4096/\ag (axs.map λ a=>a.1)<=4096/\bG (ak first axs) vals.length/\H p=some (.lst (ws.map V.int))/\p ≠ l/\(ws.length:Int)=ag (axs.map λ a=>a.1)/\∀ H',(∀ H0,Ext H0 H->H0 l=none->Ext H0 H')->(∀ b o,b ≠ l->H b=some o->H' b=some o)->H' l=some (.lst ((kL vals (ak first axs) ws).map V.int))->Q .non H')
theorem tP(CS CV:Addr)(s:Addr)(v:Addr)(p:Addr)(H:Hp)(Q:VK)(E:XK):zF CS CV [.ref s,.ref v,.ref p] H Q E=(∃ (l:Addr) (vals:List Int) (room first:Int) (axs:List (Int × Int)) (ws:List Int),ba CS H s l vals/\aJ CV H v room first axs/\fq axs/\room=vals.length/\vals.length<=4096/\ag (axs.map λ a=>a.1)<=4096/\bG (ak first axs) vals.length/\H p=some (.lst (ws.map V.int))/\p ≠ l/\(ws.length:Int)=ag (axs.map λ a=>a.1)/\∀ H',(∀ H0,Ext H0 H->H0 l=none->Ext H0 H')->(∀ b o,b ≠ l->H b=some o->H' b=some o)->H' l=some (.lst ((kL vals (ak first axs) ws).map V.int))->Q .non H'):=CQ (f:=λ (s:Addr) (v:Addr) (p:Addr)=>[.ref s,.ref v,.ref p]) (λ _ _ _ _ _ _ h=>by cases h;exact⟨rfl,rfl,rfl⟩) s v p
theorem B5(CS CV:Addr){vs:List V}{H:Hp}{Q:VK}{E:XK}(h:zF CS CV vs H Q E):vs.length=3:=CT h λ _ _ _=>rfl
theorem gv(T:Tx K mg t):bp P w K mg base CX0 5 t.a_Store_put t.d_Store_put ["self", "view", "values"] (zF t.a_Store t.a_View):=by
 have G_Store_refuse_room:=%[bj|35];have G_refuse_count:=%[cu|35];have G_View_cells:=%[dC|35];refine T.F_Store_put.ok fh (λ vs H Q E h=>B5 _ _ h) (λ c A o s' H vs Q E hr h=>?_)
 ·obtain⟨s,v,p,rfl,l,vals,room,first,axs,ws,so,vo,hax,hroom,hv2,hpr,hon,hp,hpl,hwl,k⟩:=h;subst hroom;obtain⟨dx,hs⟩:=so.ob;obtain⟨dy,D,hv,_⟩:=vo.ob;have hfl:=so.fl;have c1:=T.cl_Store;have c2:=T.na_Store_floor;have c3:=T.cl_View;have f1:=cA l;have f2:=aU l (m := "refuse_room") nofun
  have f3:=vn (vals.length:Int) first D (m := "cells") nofun
  refine⟨_,%[%[%[%[0|0],T.cl_Store,T.mt_Store_refuse_room,G_Store_refuse_room,(hr.mono ⋯),T.b_Store_refuse_room,.nil,bo,%[%[1|0]|1],∅,∅,∅|28],∅|14],%[%[%[refuse_count,%[%[1|0],%[%[len,aH,%[%[2|0]|1]|6]|1]|1]|3],∅|14],%[%[Ll,rfl,(@sg _ _ _ _ _ _ _ _ _ ∅ T.z_zip %[%[%[1|0],T.cl_View,T.mt_View_cells,G_View_cells,(hr.mono ⋯),T.b_View_cells,.nil,bo,∅|25],%[%[2|0]|1]|1] ∅ ∅),(%[(2),rfl,%[%[3,fh|5],%[%[4,fh|5],(@aC _),∅|12],∅|12],∅,∅|22].mono λ _ _ _ _ h=>bD h),%[(@kU _ _ _ _ _ _ %[4|0] (@yJ _ _ _ _ _ _ _ %[%[0|0],rfl|27] %[3|0] oJ (by intros;rfl)) ∅ ∅ ∅)|10],(by intros;rfl)|21]|10]|9]|9],?_⟩;rw [show start ["self", "view", "values", "cell", "value"] [.ref s,.ref v,.ref p]=[some (.ref s),some (.ref v),some (.ref p),none,none] from rfl];clear G_Store_refuse_room G_refuse_count G_View_cells;ac_rfl;rw [gK];refine⟨l,vals,_,first,axs,so,vo,rfl,?_⟩;ac_rfl;rw [gg];refine⟨_,first,axs,vo,hax,(by first|rfl|exact hwl),λ H1 e1=>?_⟩;have hv1:=e1.at hv;have hp1:=e1.at hp;ac_rfl;rw [fH];refine⟨_,first,axs,vo.ext e1,hax,λ _ r2 H2 hr2 e2 h2=>?_,λ h=>absurd h %[0|8]⟩
  have hcl:=bA first axs λ a ha=>(hax.2 a ha).1
  generalize ak first axs=cs at h2 hon k hcl
  have hcl2:cs.length=ws.length:=by omega
  have hp2:=e2.at hp1;have hs2:=(e1.trans e2).at hs;have hfl2:=(e1.trans e2).at hfl;have hr2l:r2 ≠ l:=λ z=>by rw [z,e1.at hfl] at hr2;cases hr2
  ac_rfl;refine ny (ka:=false) (kb:=false) (xs:=cs.map V.int) (ys:=ws.map V.int) (λ i σ H'=>∃ v3 v4:Option V,σ=[some (.ref s),some (.ref v),some (.ref p),v3,v4]/\(∀ H0,Ext H0 H2->H0 l=none->Ext H0 H')/\(∀ b o,b ≠ l->H2 b=some o->H' b=some o)/\H' l=some (.lst ((kL vals (cs.take i) (ws.take i)).map V.int))) ⟨none,none,rfl,λ _ q _=>q,λ _ _ _ q=>q,hfl2⟩ (λ i σ H' ⟨_,_,_,_,hk,_⟩=>⟨hk _ _ hr2l h2,hk _ _ hpl hp2⟩) ?_ ?_
  ·rintro i u x q _ H3 H4 hu hx ⟨v3,v4,rfl,ha3,hk3,h3⟩ hq e4 h4;rw [La] at hu hx;obtain⟨c,hc,rfl⟩:=KW.mp hu;obtain⟨z,hz,rfl⟩:=KW.mp hx;have hcb:=hon c (Lh hc);have hs4:=e4.at (hk3 _ _ (λ z=>by rw [z,hfl2] at hs2;cases hs2) hs2);have h3_4:=e4.at h3;have hlen:=nE vals (cs.take i) (ws.take i);have hput:=λ (_:Unit)=>lq (vals:=vals) hc hz;generalize kL vals (cs.take i) (ws.take i)=vv at h3 h3_4 hlen hput;have hix:ixN vv.length c=some c.toNat:=Jd hcb.1 (by rw [hlen];exact hcb.2);clear hu hx hc hz k hon hlen h3;simp! only [↓cj];refine⟨_,_,rfl,λ H0 q0 q1=>((ha3 H0 q0 q1).trans e4).put q1,λ b o hb hbo=>by rw [af hb];exact e4.at (hk3 b o hb hbo),?_⟩;rw [hput (),←o1]
  ·rintro _ H3 ⟨v3,v4,rfl,ha3,hk3,h3⟩;have hm:min (cs.map V.int).length (ws.map V.int).length=cs.length:=by rw [KG,KG];omega
   rw [hm,LG,hcl2,LG] at h3;exact k H3 (λ H0 q0 q1=>ha3 H0 (q0.trans (e1.trans e2)) q1) (λ b o hb hbo=>hk3 b o hb ((e1.trans e2).at hbo)) h3
theorem Al.cons'{α:Type}{R:α->V->Prop}{z:α}{y:V}{zs:List α}{ys:List V}(r:R z y)(h:Al R zs ys):Al R (z::zs) (y::ys):=⟨by simp [h.1],λ i z' y' a b=>by
 cases i with
 | zero=>cases a;cases b;exact r
 | succ n=>exact h.2 n z' y' (by simpa using a) (by simpa using b)⟩
abbrev tY(K:PySem.W.Frag)(a:Addr)(ns:List Int)(p:Addr)(at':Int)(H:Hp)(Q:VK)(E:XK):Prop:=p=a/\SqL K H a (ns.map V.int)/\ns.length<=63/\0<=at'/\at' < 100/\∀ (ms:List Int) (r l:Addr) (H':Hp),Ext H H'->H' r=some (.tup [.ref l,.int (ag ms)])->H' l=some (.lst (ms.map V.int))->ms.length<=3->(∀ m∈ms,(1:Int)<=m)->ag ms<=60->Q (.ref r) H'
def zG(K:W.Frag)(a:Addr)(ns:List Int):Sp:=λ vs H Q E=>∃ (p:Addr) (at':Int),vs=[.ref p,.int at']/\(tY K a ns p at' H Q E)
theorem CF(K:W.Frag)(a:Addr)(ns:List Int)(p:Addr)(at':Int)(H:Hp)(Q:VK)(E:XK):zG K a ns [.ref p,.int at'] H Q E=(tY K a ns p at' H Q E):=pL (f:=λ (p:Addr) (at':Int)=>[.ref p,.int at']) (λ _ _ _ _ h=>by cases h;exact⟨rfl,rfl⟩) p at'
theorem B7(K:W.Frag)(a:Addr)(ns:List Int){vs:List V}{H:Hp}{Q:VK}{E:XK}(h:zG K a ns vs H Q E):vs.length=2:=qR h λ _ _=>rfl
theorem ko(T:Tx K mg t)(a:Addr)(ns:List Int):bp P w K mg base CX0 2 t.a__law_sizes t.d__law_sizes ["_law_script", "_law_at"] (zG K a ns):=by
 have G__law_draw:=%[cE|35] a ns;refine T.F__law_sizes.ok bC (λ vs H Q E h=>B7 _ _ _ h) (λ c A o s H vs Q E hr h=>?_)
 ·obtain⟨_,at',rfl,rfl,hS,hl,ha0,ha1,kk⟩:=h;rename_i a;refine⟨_,%[%[2,bC,%[(@cw _)|18]|4],%[%[3,bC,%[0|2]|4],%[%[Ll,rfl,(@dQ _ _ _ _ _ _ ∅ T.z_range %[%[_law_draw,%[%[0|0],%[%[1|0],%[%[0|2]|1]|1]|1]|3]|1] ∅),%[4,bC|5],%[%[5,bC,%[gk,%[%[%[0|2],%[%[0|2],%[%[0|2],%[%[0|2],%[%[0|2],%[%[0|2],%[%[0|2],%[%[0|2]|1]|1]|1]|1]|1]|1]|1]|1]|18],%[_law_draw,%[%[0|0],%[%[bY,%[bY,%[1|0],%[0|2]|11],%[4|0]|11],%[%[0|2]|1]|1]|1]|3],(λ _ _=>rfl)|16]|4],%[%[%[wa,%[fz,%[3|0],%[5|0]|11],%[0|2],(aL _)|17],%[%[3,bC,%[fz,%[3|0],%[5|0]|11]|4],%[%[%[K1,Ln,Lm,aV,%[2|0],%[%[5|0]|1],∅,∅,∅,∅,∅|24],∅|14]|10]|9],(@aW _)|23]|10]|9],(by intros;rfl)|21],%[%[%[%[%[2|0],%[%[3|0]|1]|1]|15]|13]|10]|9]|9]|9],?_⟩;rw [show start ["_law_script", "_law_at", "_law_sizes_here", "_law_count", "_law_k", "_law_size"] [.ref a,.int at']=[some (.ref a),some (.int at'),none,none,none,none] from rfl];clear G__law_draw;exists kk;ac_rfl;intro r H1 hr1 e1 h1;have hS1:=e1.2 K a _ hS;ac_rfl;rw [dj];refine⟨hS1,hl,⟨by omega,by omega⟩,by decide,λ n n0 n1=>?_⟩;ac_rfl;refine⟨by omega,by omega,?_⟩;refine nz (λ i σ H'=>∃ (ms:List Int) (v4 v5:Option V),σ=[some (.ref a),some (.int at'),some (.ref r),some (.int (ag ms)),v4,v5]/\Ext H H'/\H' r=some (.lst (ms.map V.int))/\ms.length<=i/\(∀ m∈ms,(1:Int)<=m)/\ag ms<=60) ⟨[],none,none,rfl,e1,h1,KO _,λ _ h=>absurd h KJ,by decide⟩ ?_ ?_
  ·rintro i _ H2 hi ⟨ms,v4,v5,rfl,e2,h2,hml,hm1,hmp⟩;have hi':i < n.toNat:=hi;have hS2:=e2.2 K a _ hS;have hp1:=bH ms hm1;exists hm1;clear hi;simp! only [↓cj];intro q3 H3 hq3 e3 h3;have hS3:=e3.2 K a _ hS2;ac_rfl;rw [dj];refine⟨hS3,hl,⟨by omega,by omega⟩,by decide,λ d d0 d1=>?_⟩;ac_rfl;refine lA (λ j=>1<=j/\j<=12) d0 d1 (λ v hv=>?_) λ j hj=>?_
   ·simp only [K2,KJ,LB] at hv
    rcases hv with rfl|rfl|rfl|rfl|rfl|rfl|rfl|rfl<;>exact⟨_,rfl,by decide⟩
   obtain⟨j0,j1⟩:=hj;have cm:qW (ag ms) j:=.inr ⟨by omega,by omega⟩;have h2_3:=e3.at h2;have hml':ms.length < sizeLine:=bZ %[0|8];have hps:ag (ms++[j])=ag ms * j:=by rw [bc];show _ * (j * 1)=_;rw [MP]
   clear h3 h2 hq3
   by_cases hj:ag ms * j<=60
   ·ac_rfl;refine⟨ms++[j],_,_,by rw [hps],(e2.trans e3).put hr1,by rw [Lk];rfl,by rw [KY];simp;omega,λ m hm=>?_,by rw [hps];exact hj⟩
    rcases Li.mp hm with h|h
    ·exact hm1 () m h
    ·rw [KN.mp h];exact j0
   ·ac_rfl;exact⟨ms,_,_,rfl,e2.trans e3,rfl,by omega,hm1 (),hmp⟩
  ·rintro _ H2 ⟨ms,v4,v5,rfl,e2,h2,hml,hm1,hmp⟩;exists hm1;ac_rfl;intro r3 H3 hr3 e3 h3;exact kk () ms r3 r H3 (e2.trans e3) h3 (e3.at h2) %[0|8] (hm1 ()) hmp
def VAx(axs:List (Int × Int)):Prop:=axs.length<=4/\(∀ a∈axs,(1:Int)<=a.1/\-60<=a.2/\a.2<=60)/\ag (axs.map λ a=>a.1)<=60
abbrev l7(K:PySem.W.Frag)(a:Addr)(ns:List Int)(p:Addr)(at':Int)(l:Addr)(H:Hp)(Q:VK)(E:XK):Prop:=p=a/\SqL K H a (ns.map V.int)/\ns.length<=63/\0<=at'/\at' < 100/\∃ ms:List Int,H l=some (.lst (ms.map V.int))/\ms.length<=4/\(∀ m∈ms,(1:Int)<=m)/\ag ms<=60/\∀ (axs:List (Int × Int)) (r:Addr) (H':Hp),Ext H H'->aT H' r (axL axs)->(axs.map λ a=>a.1)=ms->VAx axs->Q (.ref r) H'
def mP(K:W.Frag)(a:Addr)(ns:List Int):Sp:=λ vs H Q E=>∃ (p:Addr) (at':Int) (l:Addr),vs=[.ref p,.int at',.ref l]/\(l7 K a ns p at' l H Q E)
theorem lS(K:W.Frag)(a:Addr)(ns:List Int)(p:Addr)(at':Int)(l:Addr)(H:Hp)(Q:VK)(E:XK):mP K a ns [.ref p,.int at',.ref l] H Q E=(l7 K a ns p at' l H Q E):=CQ (f:=λ (p:Addr) (at':Int) (l:Addr)=>[.ref p,.int at',.ref l]) (λ _ _ _ _ _ _ h=>by cases h;exact⟨rfl,rfl,rfl⟩) p at' l
theorem u4(K:W.Frag)(a:Addr)(ns:List Int){vs:List V}{H:Hp}{Q:VK}{E:XK}(h:mP K a ns vs H Q E):vs.length=3:=CT h λ _ _ _=>rfl
theorem mq(T:Tx K mg t)(a:Addr)(ns:List Int):bp P w K mg base CX0 2 t.a__law_axes t.d__law_axes ["_law_script", "_law_at", "_law_sizes_here"] (mP K a ns):=by
 have G__law_draw:=%[cE|35] a ns;refine T.F__law_axes.ok aP (λ vs H Q E h=>u4 _ _ _ h) (λ c A o s H vs Q E hr h=>?_)
 ·obtain⟨_,at',l,rfl,rfl,hS,hl,ha0,ha1,ms,hm,hm4,hm1,hmp,kk⟩:=h;rename_i a;refine⟨_,%[%[3,aP,%[(@cw _)|18]|4],%[%[4,aP,%[0|2]|4],%[%[Ll,rfl,(@dQ _ _ _ _ _ _ ∅ T.z_range %[%[len,aH,%[%[2|0]|1]|6]|1] ∅),%[5,aP|5],%[%[6,aP,%[gk,%[2|0],%[bX,%[bX,%[len,aH,%[%[2|0]|1]|6],%[0|2]|11],%[5|0]|11],(λ _ _=>rfl)|16]|4],%[%[7,aP,%[_law_draw,%[%[0|0],%[%[bY,%[1|0],%[5|0]|11],%[%[sk,%[0|2],%[0|2]|11]|1]|1]|1]|3]|4],%[%[8,aP,%[gk,%[%[%[4|0],%[%[bX,%[0|2],%[4|0]|11],%[%[0|2],%[%[0|2],%[(@rj _ _ _ _ _ _ g9 %[0|2]),%[%[0|2],%[%[4|0],%[%[bX,%[sm,%[AW,%[7|0],%[0|2]|11],%[0|2]|11],%[0|2]|11]|1]|1]|1]|1]|1]|1]|1]|1]|18],%[sm,%[7|0],%[0|2]|11],(λ _ _=>rfl)|16]|4],%[%[3,aP,%[hJ,%[%[%[%[%[6|0],%[%[8|0]|1]|1]|15]|1]|18],%[3|0]|11]|4],%[%[4,aP,%[fz,%[4|0],%[6|0]|11]|4]|10]|9]|9]|9]|9],(by intros;rfl)|21],%[%[%[3|0]|13]|10]|9]|9]|9],?_⟩;rw [show start ["_law_script", "_law_at", "_law_sizes_here", "_law_axes_here", "_law_inner", "_law_k", "_law_size", "_law_cell", "_law_pace"] [.ref a,.int at',.ref l]=[some (.ref a),some (.int at'),some (.ref l),none,none,none,none,none,none] from rfl];clear G__law_draw;exists kk;ac_rfl;intro r H1 hr1 e1 h1;have hm_1:=e1.at hm;ac_rfl;refine⟨by omega,by omega,?_⟩;refine nz (λ i σ H'=>∃ (r:Addr) (bs:List (Int × Int)) (v5 v6 v7 v8:Option V),σ=[some (.ref a),some (.int at'),some (.ref l),some (.ref r),some (.int (ag (ms.drop (ms.length - i)))),v5,v6,v7,v8]/\Ext H H'/\aT H' r (axL bs)/\(bs.map λ b=>b.1)=ms.drop (ms.length - i)/\∀ b∈bs,-60<=b.2/\b.2<=60) ⟨r,[],none,none,none,none,by simp [ag],e1,⟨[],h1,Al.nil⟩,by simp,λ _ h=>absurd h KJ⟩ ?_ ?_
  ·rintro i _ H2 hi ⟨r,bs,v5,v6,v7,v8,rfl,e2,⟨ys,hr2,al2⟩,hbm,hbp⟩;have hi':i < ms.length:=by have:i < (ms.length:Int).toNat:=hi;omega
   have hS2:=e2.2 K a _ hS;have hm2:=e2.at hm;have hlt:ms.length - 1 - i < ms.length:=by omega
   have hat:atI (ms.map V.int) ((ms.length:Int) - 1 - (0+(i:Int)))=some (.int ms[ms.length - 1 - i]):=by
    rw [show (ms.length:Int) - 1 - (0+(i:Int))=((ms.length - 1 - i:Nat):Int) by omega];exact eT (by rw [La,KA hlt];rfl)
   have hdr:ms.drop (ms.length - (i+1))=ms[ms.length - 1 - i]::ms.drop (ms.length - i):=by
    have e1:ms.length - (i+1)=ms.length - 1 - i:=by omega
    have e2:ms.length - i=ms.length - 1 - i+1:=by omega
    rw [e1,e2,Nx hlt]
   have hz1:=hm1 _ (My hlt);have hu1:1<=ag (ms.drop (ms.length - i)):=bH _ λ n hn=>hm1 n (N2 hn)
   have hu2:ag (ms.drop (ms.length - i))<=ag ms:=by
    have e:ag ms=ag (ms.take (ms.length - i)) * ag (ms.drop (ms.length - i)):=by rw [←bc,Mn]
    have h1:1<=ag (ms.take (ms.length - i)):=bH _ λ n hn=>hm1 n (Nk hn);have:=Me h1 (show 0<=ag (ms.drop (ms.length - i)) by omega);omega
   generalize ms[ms.length - 1 - i]=z at hat hdr hz1;have hyl:ys.length<=4:=by rw [al2.1];unfold axL;rw [length_map];have:=congrArg List.length hbm;rw [length_map,List.length_drop] at this;omega
   have hu256:(ag (ms.drop (ms.length - i))).natAbs < 2 ^ 64:=by omega
   have cm:qW (ag (ms.drop (ms.length - i))) z:=.inl ⟨by omega,by omega⟩;have hps:ag (z::ms.drop (ms.length - i))=ag (ms.drop (ms.length - i)) * z:=Nw _ _;exists hbm;exists hbp;exists hdr;exists hps;generalize hU:ag (ms.drop (ms.length - i))=U at *;clear hi hm_1 hm1;simp! only [↓cj];rw [dj];refine⟨hS2,hl,⟨by omega,by omega⟩,by decide,λ c c0 c1=>?_⟩;ac_rfl;intro q3 H3 hq3 e3 h3;have i0:=Mr c (show (8:Int) ≠ 0 by decide);have i1:=L5 c (show (0:Int) < 8 by decide);have k0:=Mr (c / 8) (show (9:Int) ≠ 0 by decide);have k1:=L5 (c / 8) (show (0:Int) < 9 by decide);ac_rfl;refine lA (λ j=>-60<=j/\j<=60) i0 i1 (λ v hv=>?_) λ j hj=>?_
   ·simp only [K2,KJ,LB] at hv
    rcases hv with rfl|rfl|rfl|rfl|rfl|rfl|rfl|rfl<;>exact⟨_,rfl,by omega⟩
   clear h3 hq3 i0 i1 k0 k1;ac_rfl;intro t4 H4 ht4 e4 h4;ac_rfl;intro l5 H5 hl5 e5 h5;have hr5:=(e3.trans (e4.trans e5)).at hr2;have hll:1+ys.length<=sizeLine:=aN %[0|8];clear hr2;ac_rfl;intro r6 H6 hr6 e6 h6;have eA:=e3.trans (e4.trans (e5.trans e6));ac_rfl;refine⟨r6,(z,j)::bs,_,_,_,_,by rw [hdr (),hps ()],e2.trans eA,⟨_,h6,Al.cons' ⟨t4,rfl,(e5.trans e6).at h4⟩ (al2.imp λ _ _ t=>t.ext eA)⟩,by rw [hdr (),Lo,hbm ()],λ b hb=>?_⟩
   rcases K2.mp hb with rfl|hb
   ·exact hj
   ·exact hbp () b hb
  ·rintro _ H2 ⟨r,bs,v5,v6,v7,v8,rfl,e2,tt,hbm,hbp⟩;rw [Ls,Nat.sub_self,List.drop_zero] at hbm;ac_rfl;refine kk () bs r H2 e2 tt hbm ⟨by have:=LR List.length hbm;rw [KG] at this;omega,λ b hb=>⟨hm1 _ (by rw [←hbm];exact KS.mpr ⟨b,hb,rfl⟩),hbp b hb⟩,by rw [hbm];exact hmp⟩
abbrev mf  (l:Addr) (H:Hp) (Q:VK) (E:XK):Prop:=∃ axs:List (Int × Int),aT H l (axL axs)/\fq axs/\∀ (r:Addr) (H':Hp),H r=none->Ext H H'->H' r=some (.tup [.int (ay axs),.int (aA axs)])->Q (.ref r) H'
def mT  : Sp:=λ vs H Q E=>∃ (l:Addr),vs=[.ref l]/\(mf  l H Q E)
theorem vL  (l:Addr) (H:Hp) (Q:VK) (E:XK):mT  [.ref l] H Q E=(mf  l H Q E):=gM (f:=λ (l:Addr)=>[.ref l]) (λ _ _ h=>by cases h;exact rfl) l
theorem u9  {vs:List V}{H:Hp}{Q:VK}{E:XK}(h:mT  vs H Q E):vs.length=1:=gD h λ _=>rfl
theorem o6:∀ {ms:List Int},(∀ m∈ms,(1:Int)<=m)->∀ m∈ms,m<=ag ms
 | [],_,m,h=>absurd h KJ
 | x::r,h1,m,h=>by
  have hx:=h1 x KL;have hp:=bH r λ n hn=>h1 n (KI _ hn)
  show m<=x * ag r
  rcases K2.mp h with rfl|h
  ·have:=LV hp (show 0<=m by omega);omega
  ·have h2:=o6 (λ n hn=>h1 n (KI _ hn)) m h;have:=Me hx (show 0<=ag r by omega);omega
theorem VAx.le{axs:List (Int × Int)}(h:VAx axs){a:Int × Int}(ha:a∈axs):1<=a.1/\a.1<=60:=by
 refine⟨(h.2.1 a ha).1,?_⟩;have h1:∀ m∈axs.map (λ a=>a.1),(1:Int)<=m:=λ m hm=>by obtain⟨b,hb,rfl⟩:=KS.mp hm;exact(h.2.1 b hb).1
 have:=o6 h1 a.1 (KS.mpr ⟨a,ha,rfl⟩);have:=h.2.2;omega
theorem VAx.ax{axs:List (Int × Int)}(h:VAx axs):fq axs:=⟨by have:=h.1;omega,λ a ha=>by have:=h.le ha;omega⟩
theorem kq(T:Tx K mg t):bp P w K mg base CX0 1 t.a__law_reach t.d__law_reach ["_law_axes_here"] mT:=by
 refine T.F__law_reach.ok bf (λ vs H Q E h=>u9 h) (λ c A o s H vs Q E hr h=>?_)
 ·obtain⟨l,rfl,axs,⟨ys,hL,al⟩,hax,kk⟩:=h;refine⟨_,%[%[1,bf,%[0|2]|4],%[%[2,bf,%[0|2]|4],%[%[Ll,rfl,%[%[0|0]|20],(%[(2),rfl,%[%[3,bf|5],%[%[4,bf|5],(@aC _),∅|12],∅|12],∅,∅|22].mono λ _ _ _ _ h=>bD h),%[%[1,bf,%[bY,%[1|0],%[min,(lQ rfl),%[%[0|2],%[%[fz,%[4|0],%[bX,%[3|0],%[0|2]|11]|11]|1]|1]|6]|11]|4],%[%[2,bf,%[bY,%[2|0],%[max,(lR rfl),%[%[0|2],%[%[fz,%[4|0],%[bX,%[3|0],%[0|2]|11]|11]|1]|1]|6]|11]|4]|10]|9],(by intros;rfl)|21],%[%[%[%[%[1|0],%[%[2|0]|1]|1]|15]|13]|10]|9]|9]|9],?_⟩;rw [show start ["_law_axes_here", "_law_low", "_law_high", "_law_size", "_law_pace"] [.ref l]=[some (.ref l),none,none,none,none] from rfl];ac_rfl;refine cL (xs:=ys) (λ i σ H'=>∃ v3 v4:Option V,σ=[some (.ref l),some (.int (ay (axs.take i))),some (.int (aA (axs.take i))),v3,v4]/\H'=H) ⟨none,none,rfl,rfl⟩ (λ i σ H' _ ⟨_,_,_,e⟩=>by rw [e];exact hL) ?_ ?_
  ·rintro i y _ _ hi ⟨v3,v4,rfl,rfl⟩;rename_i H;obtain⟨x,q,hx,rfl,hq⟩:=D5 al hi;have hb:=hax.2 x (Lh hx);have tk:axs.take (i+1)=axs.take i++[x]:=by rw [N3,hx];rfl
   have e1:=nQ (axs.take i) x;have e2:=nS (axs.take i) x;rw [←tk] at e1 e2;rw [JF] at e1;rw [JG] at e2;have hcm:qW x.2 (x.1 - 1):=.inr %[0|8];clear hL al hi hx tk kk;simp! only [↓cj];exact⟨_,_,rfl⟩
  ·rintro _ _ ⟨v3,v4,rfl,rfl⟩;rename_i H;have hln:ys.length=axs.length:=by rw [al.1];unfold axL;rw [length_map]
   rw [hln,LG];ac_rfl;intro r H2 hr2 x2 h2;exact kk r H2 hr2 x2 h2
theorem uw{xs:List V}{i:Int}{k:V->Prop}(P:V->Prop)(h0:0<=i)(h1:i < xs.length)(ha:∀ v∈xs,P v)(hk:∀ v,P v->k v):aF (atI xs i) k:=sV h0 h1 λ v hv=>hk v (ha v hv)
theorem oH:∀ (axs:List (Int × Int)),(∀ a∈axs,(1:Int)<=a.1/\-60<=a.2/\a.2<=60)->aA axs - ay axs<=60 * (ag (axs.map λ a=>a.1) - 1)/\0<=aA axs/\ay axs<=0
 | [],_=>by decide
 | a::r,h=>by
  have ih:=oH r λ b hb=>h b (KI _ hb);have ha:=h a KL;have hp:1<=ag (r.map λ a=>a.1):=bH _ λ n hn=>by obtain⟨b,hb,rfl⟩:=KS.mp hn;exact(h b (KI _ hb)).1
  have m1:=LV ha.2.2 (show 0<=a.1 - 1 by omega);have m2:=LV ha.2.1 (show 0<=a.1 - 1 by omega);have m3:=LV hp (show 0<=a.1 - 1 by omega);rw [bO,bP]
  show _<=60 * (a.1 * ag (r.map λ a=>a.1) - 1)/\_
  have e:a.1 * ag (r.map λ a=>a.1)=(a.1 - 1) * ag (r.map λ a=>a.1)+ag (r.map λ a=>a.1):=by rw [Int.sub_mul,Int.one_mul];omega
  rw [e];generalize (a.1 - 1) * a.2=x at m1 m2 ⊢;generalize (a.1 - 1) * ag (r.map λ a=>a.1)=y at m3 ⊢;omega
theorem VAx.sum{axs:List (Int × Int)}(h:VAx axs):aA axs - ay axs<=3540/\0<=aA axs/\ay axs<=0:=by
 have h1:=oH axs h.2.1;have h2:=h.2.2;omega
theorem lu:∀ ms:List Int,ag ms.reverse=ag ms
 | []=>rfl
 | m::r=>by rw [Oq,bc,lu r];show ag r * (m * 1)=m * ag r;rw [MP,Nw]
theorem J5{α:Type}{R:α->V->Prop}{a b:α}{ys:List V}(h:Al R [a,b] ys):∃ y0 y1,ys=[y0,y1]/\R a y0/\R b y1:=by
 match ys,h with
 | [y0,y1],h=>exact⟨y0,y1,rfl,h.2 0 a y0 rfl rfl,h.2 1 b y1 rfl rfl⟩
 | [],h=>exact absurd h.1 (by simp)
 | [_],h=>exact absurd h.1 (by simp)
 | _::_::_::_,h=>exact absurd h.1 (by simp)
def Ji(ms qs:List Int):Prop:=qs.length<=4/\(∀ m∈qs,(1:Int)<=m)/\ag qs=ag ms
def AxR(z:List (Int × Int))(x:V)(H:Hp):Prop:=∃ q,x=.ref q/\aT H q (axL z)
theorem AxR.ext{z:List (Int × Int)}{x:V}{H H':Hp}(h:AxR z x H)(e:Ext H H'):AxR z x H':=by
 obtain⟨q,h1,h2⟩:=h;exact⟨q,h1,h2.ext e⟩
def ReR(z:List (Int × Int))(x:V)(H:Hp):Prop:=∃ q,x=.ref q/\H q=some (.tup [.int (ay z),.int (aA z)])
theorem ReR.ext{z:List (Int × Int)}{x:V}{H H':Hp}(h:ReR z x H)(e:Ext H H'):ReR z x H':=by
 obtain⟨q,h1,h2⟩:=h;exact⟨q,h1,e.at h2⟩
def FiR(room:Int)(z:List (Int × Int))(x:V)(H:Hp):Prop:=∃ (p q:Addr) (f:Int),x=.ref p/\H p=some (.tup [.int f,.ref q])/\aT H q (axL z)/\0<=f+ay z/\f+aA z < room
abbrev l6(K:PySem.W.Frag)(a:Addr)(ns:List Int)(p:Addr)(H:Hp)(Q:VK)(E:XK):Prop:=p=a/\SqL K H a (ns.map V.int)/\ns.length<=63/\∀ (room:Int) (axs bxs:List (Int × Int)) (r:Addr) (u v:V) (H':Hp),Ext H H'->H' r=some (.tup [.int room,u,v])->FiR room axs u H'->FiR room bxs v H'->VAx axs->VAx bxs->ag (axs.map λ a=>a.1)=ag (bxs.map λ a=>a.1)->1<=room->room<=3600->Q (.ref r) H'
def mN(K:W.Frag)(a:Addr)(ns:List Int):Sp:=λ vs H Q E=>∃ (p:Addr),vs=[.ref p]/\(l6 K a ns p H Q E)
theorem vJ(K:W.Frag)(a:Addr)(ns:List Int)(p:Addr)(H:Hp)(Q:VK)(E:XK):mN K a ns [.ref p] H Q E=(l6 K a ns p H Q E):=gM (f:=λ (p:Addr)=>[.ref p]) (λ _ _ h=>by cases h;exact rfl) p
theorem uZ(K:W.Frag)(a:Addr)(ns:List Int){vs:List V}{H:Hp}{Q:VK}{E:XK}(h:mN K a ns vs H Q E):vs.length=1:=gD h λ _=>rfl
theorem kn(T:Tx K mg t)(a:Addr)(ns:List Int):bp P w K mg base CX0 3 t.a__law_views t.d__law_views ["_law_script"] (mN K a ns):=by
 have G__law_draw:=%[cE|35] a ns;have G__law_sizes:=%[ko|35] a ns;have G__law_axes:=%[mq|35] a ns;have G__law_reach:=%[kq|35];refine T.F__law_views.ok az (λ vs H Q E h=>uZ _ _ _ h) (λ c A o s H vs Q E hr h=>?_)
 ·obtain⟨_,rfl,rfl,hS,hl,kk⟩:=h;rename_i a;refine⟨_,%[(@kU _ _ _ _ _ _ %[_law_sizes,%[%[0|0],%[%[0|2]|1]|1]|3] (%[(2),rfl,%[%[1,az|5],%[%[2,az|5],(@aC _),∅|12],∅|12],∅,∅|22].mono λ _ _ _ _ h=>bD h) ∅ ∅ ∅),%[%[3,az,%[gk,%[%[%[1|0],%[(@Eo _ _ _ _ _ _ _ %[1|0] (@rj _ _ _ _ _ _ g9 %[0|2]) (λ _ _ _ h=>h)),%[%[%[%[2|0]|1]|18],%[%[%[%[0|2],%[%[2|0]|1]|1]|18],%[%[%[%[2|0],%[%[0|2]|1]|1]|18],%[%[hJ,%[1|0],%[%[%[0|2]|1]|18]|11]|1]|1]|1]|1]|1]|1]|18],%[_law_draw,%[%[0|0],%[%[0|2],%[%[0|2]|1]|1]|1]|3],(λ _ _=>rfl)|16]|4],%[%[4,az,%[%[%[_law_axes,%[%[0|0],%[%[0|2],%[%[1|0]|1]|1]|1]|3],%[%[_law_axes,%[%[0|0],%[%[0|2],%[%[3|0]|1]|1]|1]|3]|1]|1]|18]|4],%[(@ng _ _ _ _ _ _ _ _ _ _ _ _ _ (["_law_axes_here", "_law_script", "_law_sizes_here", "_law_count", "_law_others", "_law_both", "_law_reach_here", "_law_room", "_law_found", "_law_k", "_law_low", "_law_high"]) (1) (5) _ az.nd rfl (Or.inl rfl) (bh (aa bR) ["_law_script", "_law_sizes_here", "_law_count", "_law_others", "_law_both", "_law_reach_here", "_law_room", "_law_found", "_law_k", "_law_low", "_law_high"] rfl rfl nofun) rfl %[%[4|0]|20] (λ C s₀ H₀ ex pn=>%[(0),_,(show List.Nodup (["_law_axes_here", "_law_script", "_law_sizes_here", "_law_count", "_law_others", "_law_both", "_law_reach_here", "_law_room", "_law_found", "_law_k", "_law_low", "_law_high"]:List Str) from by decide +kernel),rfl,(Or.inl rfl),%[0|7]|19]) (λ C s₀ H₀ ex pn=>(@bM _)) (λ C s₀ H₀ ex pn=>%[_law_reach,%[%[0|0]|1]|3]) ∅ (by intros;rfl) %[0|7]),%[%[6,az,%[bY,%[bY,%[0|2],%[max,(qI rfl),%[%[(["_law_low", "_law_high", "_law_script", "_law_sizes_here", "_law_count", "_law_others", "_law_both", "_law_reach_here", "_law_room", "_law_found", "_law_k", "!_law_low", "!_law_high"]),(2),(bh (aa bR) ["_law_script", "_law_sizes_here", "_law_count", "_law_others", "_law_both", "_law_reach_here", "_law_room", "_law_found", "_law_k", "_law_low", "_law_high"] rfl rfl nofun),rfl,%[%[5|0]|20],(λ C s₀ H₀ ex pn=>(%[(2),rfl,%[%[(0),_,(show List.Nodup (["_law_low", "_law_high", "_law_script", "_law_sizes_here", "_law_count", "_law_others", "_law_both", "_law_reach_here", "_law_room", "_law_found", "_law_k", "!_law_low", "!_law_high"]:List Str) from by decide +kernel),rfl,(Or.inl rfl),%[0|7]|19],%[%[(1),_,(show List.Nodup (["_law_low", "_law_high", "_law_script", "_law_sizes_here", "_law_count", "_law_others", "_law_both", "_law_reach_here", "_law_room", "_law_found", "_law_k", "!_law_low", "!_law_high"]:List Str) from by decide +kernel),rfl,(Or.inl rfl),%[0|7]|19],(@aC _),∅|12],∅|12],∅,∅|22].mono λ _ _ _ _ h=>bD h)),(λ C s₀ H₀ ex pn=>(@bM _)),(λ C s₀ H₀ ex pn=>%[bX,%[1|0],%[0|0]|11]),(by intros;rfl)|26]|1]|6]|11],%[_law_draw,%[%[0|0],%[%[0|2],%[%[0|2]|1]|1]|1]|3]|11]|4],%[%[7,az,%[(@cw _)|18]|4],%[%[Ll,rfl,(@dQ _ _ _ _ _ _ ∅ T.z_range %[%[0|2]|1] ∅),%[8,az|5],%[(@kU _ _ _ _ _ _ %[gk,%[5|0],%[8|0],(λ _ _=>rfl)|16] (%[(2),rfl,%[%[9,az|5],%[%[10,az|5],(@aC _),∅|12],∅|12],∅,∅|22].mono λ _ _ _ _ h=>bD h) ∅ ∅ ∅),%[%[%[K1,Ln,Lm,aV,%[7|0],%[%[%[%[bX,%[_law_draw,%[%[0|0],%[%[bY,%[0|2],%[8|0]|11],%[%[bX,%[6|0],%[bX,%[10|0],%[9|0]|11]|11]|1]|1]|1]|3],%[9|0]|11],%[%[gk,%[4|0],%[8|0],(λ _ _=>rfl)|16]|1]|1]|15]|1],∅,∅,∅,∅,∅|24],∅|14]|10]|9],(by intros;rfl)|21],%[%[%[%[%[6|0],%[%[gk,%[7|0],%[0|2],(λ _ _=>rfl)|16],%[%[gk,%[7|0],%[0|2],(λ _ _=>rfl)|16]|1]|1]|1]|15]|13]|10]|9]|9]|9]|9]|9]|9]|9],?_⟩;rw [show start ["_law_script", "_law_sizes_here", "_law_count", "_law_others", "_law_both", "_law_reach_here", "_law_room", "_law_found", "_law_k", "_law_low", "_law_high"] [.ref a]=[some (.ref a),none,none,none,none,none,none,none,none,none,none] from rfl];clear G__law_draw G__law_sizes G__law_axes G__law_reach;exists kk;ac_rfl;rw [CF];refine⟨rfl,hS,hl,by decide,by decide,λ ms r1 l1 H1 e1 h1 hl1 hm3 hm1 hmp=>?_⟩;have hS1:=e1.2 K a _ hS;exists hm1;ac_rfl;intro q2 H2 hq2 e2 h2;replace hl1:=e2.at hl1;clear hq2 h1;ac_rfl;intro q3 H3 hq3 e3 h3;replace hl1:=e3.at hl1;replace h2:=e3.at h2;clear hq3;ac_rfl;intro q4 H4 hq4 e4 h4;replace hl1:=e4.at hl1;replace h2:=e4.at h2;replace h3:=e4.at h3;clear hq4;ac_rfl;intro q5 H5 hq5 e5 h5;replace hl1:=e5.at hl1;replace h2:=e5.at h2;replace h3:=e5.at h3;replace h4:=e5.at h4;clear hq5;ac_rfl;intro q6 H6 hq6 e6 h6;replace hl1:=e6.at hl1;replace h2:=e6.at h2;replace h3:=e6.at h3;replace h4:=e6.at h4;replace h5:=e6.at h5;have hll:ms.length+1<=sizeLine:=aN %[0|8];clear hq6;ac_rfl;intro q7 H7 hq7 e7 h7;replace hl1:=e7.at hl1;replace h2:=e7.at h2;replace h3:=e7.at h3;replace h4:=e7.at h4;replace h5:=e7.at h5;clear hq7 h6;ac_rfl;intro q8 H8 hq8 e8 h8;replace hl1:=e8.at hl1;replace h2:=e8.at h2;replace h3:=e8.at h3;replace h4:=e8.at h4;replace h5:=e8.at h5;replace h7:=e8.at h7;have e18:=e2.trans (e3.trans (e4.trans (e5.trans (e6.trans (e7.trans e8)))));have hS8:=e18.2 K a _ hS1;clear hq8 e2 e3 e4 e5 e6 e7 e8 hS1;ac_rfl;rw [dj];refine⟨hS8,hl,⟨by decide,by decide⟩,by decide,λ d d0 d1=>?_⟩;ac_rfl;have hp1:=bH ms (hm1 ());refine uw (λ v=>∃ q qs,v=.ref q/\H8 q=some (.lst (qs.map V.int))/\Ji ms qs) d0 d1 (λ v hv=>?_) ?_
  ·simp only [K2,KJ,LB] at hv
   rcases hv with rfl|rfl|rfl|rfl|rfl|rfl
   ·exact⟨l1,ms,rfl,hl1,by omega,hm1 (),rfl⟩
   ·exact⟨q2,ms.reverse,rfl,by rw [h2,List.map_reverse],by rw [MO];omega,λ m hm=>hm1 () m (List.mem_reverse.mp hm),lu ms⟩
   ·exact⟨q3,[ag ms],rfl,h3,by simp,λ m hm=>by rw [KN.mp hm];exact hp1,by show ag ms * 1=_;rw [MP]⟩
   ·exact⟨q4,[1,ag ms],rfl,h4,by simp,λ m hm=>by
     rcases K2.mp hm with rfl|hm
     ·decide
     ·rw [KN.mp hm];exact hp1,by show 1 * (ag ms * 1)=_;rw [MP,Int.one_mul]⟩
   ·exact⟨q5,[ag ms,1],rfl,h5,by simp,λ m hm=>by
     rcases K2.mp hm with rfl|hm
     ·exact hp1
     ·rw [KN.mp hm];decide,by show ag ms * (1 * 1)=_;rw [MP,MP]⟩
   ·exact⟨q7,ms++[1],rfl,by rw [h7,Lk];rfl,by rw [KY];simp;omega,λ m hm=>by
     rcases Li.mp hm with h|h
     ·exact hm1 () m h
     ·rw [KN.mp h];decide,by rw [bc];show _ * (1 * 1)=_;rw [MP,MP]⟩
  rintro _ ⟨qo,qs,rfl,hqo,hoth⟩;clear h2 h3 h4 h5 h7 h8;ac_rfl;rw [lS];refine⟨rfl,hS8,hl,by decide,by decide,ms,hl1,by omega,hm1 (),hmp,λ axs ra H9 e9 ta ham hva=>?_⟩;have hqo9:=e9.at hqo;have hS9:=e9.2 K a _ hS8;clear hqo hS8 hl1;ac_rfl;rw [lS];refine⟨rfl,hS9,hl,by decide,by decide,qs,hqo9,hoth.1,hoth.2.1,by rw [hoth.2.2];exact hmp,λ bxs rb H10 e10 tb hbm hvb=>?_⟩;have hS10:=e10.2 K a _ hS9;have ta10:=ta.ext e10;have hpe:ag (axs.map λ a=>a.1)=ag (bxs.map λ a=>a.1):=by rw [ham,hbm,hoth.2.2]
  have sa:=hva.sum;have sb:=hvb.sum;clear ta hqo9 hS9 hoth ham hbm hm1;ac_rfl;intro rboth H11 hrb e11 h11;have hS11:=e11.2 K a _ hS10;have alb:Al (λ z x=>AxR z x H11) [axs,bxs] [.ref ra,.ref rb]:=Al.snoc (zs:=[axs]) (ys:=[.ref ra]) (Al.snoc (zs:=[]) (ys:=[]) Al.nil ⟨ra,rfl,ta10.ext e11⟩) ⟨rb,rfl,tb.ext e11⟩;have e011:=e1.trans (e18.trans (e9.trans (e10.trans e11)));clear hrb ta10 tb hS10 e1 e18 e9 e10 e11;ac_rfl;have wk:=iS (K:=K) (R:=AxR) (λ _ _ _ _ h e=>h.ext e) h11 alb;refine iw [axs,bxs] (λ _=>true) AxR (λ D z y H'=>ReR z y H') wk.1 wk.2 (λ D _ y H1 H2 h e=>h.ext e) (λ D _ y H1 xs o ⟨q,h1,h3⟩ hD=>⟨q,h1,by rw [af (λ z=>by rw [z,hD] at h3;cases h3)];exact h3⟩) (aN (by simp)) ?_ ?_
  ·intro D z y H' N1 N0 hz hD e _ ⟨q,hy,hq⟩ k1 _;subst hy;have k1':=k1 rfl
   have hvz:VAx z:=by
    rcases K2.mp hz with rfl|hz
    ·exact hva
    ·rw [KN.mp hz];exact hvb
   clear k1 hz wk;simp! only [↓aM,↓aZ];rw [vL];exact⟨z,hq,hvz.ax,λ r2 G2 hr2 g2 hh=>k1' _ G2 g2 ⟨r2,rfl,hh⟩⟩
  intro DR ys H12 hDR e12 h12 al12;rw [vU] at al12;have alb12:=alb.imp λ _ _ h=>h.ext e12;have h11_12:=e12.at h11;have hS12:=e12.2 K a _ hS11;have e012:=e011.trans e12;clear hDR e12 e011 alb h11 hS11 wk;ac_rfl;have wk2:=iS (K:=K) (R:=ReR) (λ _ _ _ _ h e=>h.ext e) h12 al12;refine cp [axs,bxs] (λ _=>true) (λ z=>.int (aA z - ay z)) ReR wk2.1 wk2.2 (aN (by simp)) ?_ ?_
  ·intro D z y H' N1 N0 hz hD e ⟨q,hy,hq⟩ k1 _;subst hy;have k1':=k1 rfl H' (Ext.refl _);clear k1 hz wk2;simp! only [↓hV,↓aZ]
  intro D2 H13 hD2 e13 h13;rw [vU] at h13;replace h13:H13 D2=some (.lst [.int (aA axs - ay axs),.int (aA bxs - ay bxs)]):=h13;have hS13:=e13.2 K a _ hS12;clear hD2 wk2;ac_rfl;rw [Ag];refine⟨by simp,λ M hM hMx=>?_⟩;have M1:=hMx (aA axs - ay axs) (by simp);have M2:=hMx (aA bxs - ay bxs) (by simp)
  have M3:M<=3540:=by
   rcases K2.mp hM with h|h
   ·omega
   ·have:=KN.mp h;omega
  clear hM hMx h13;ac_rfl;rw [dj];refine⟨hS13,hl,⟨by decide,by decide⟩,by decide,λ d14 dd0 dd1=>?_⟩;obtain⟨room,hroom⟩:∃ room,1+M+d14=room:=⟨_,rfl⟩;have r1':aA axs - ay axs+1<=room:=by omega
  have r2':aA bxs - ay bxs+1<=room:=by omega
  have r3':room<=3600:=by omega
  ac_rfl;intro rf H14 hrf e14 h14;have h12_13:=e13.at h12;have h11_13:=e13.at h11_12;have al13:=al12.imp λ _ _ h=>h.ext e13;have alb13:=alb12.imp λ _ _ h=>h.ext e13;have e013:=e012.trans e13;obtain⟨y0,y1,rfl,⟨w0,rfl,hw0⟩,⟨w1,rfl,hw1⟩⟩:=J5 al13;obtain⟨xa,hxa,ta⟩:=alb13.2 0 axs (.ref ra) rfl rfl;cases hxa;obtain⟨xb,hxb,tb⟩:=alb13.2 1 bxs (.ref rb) rfl rfl;cases hxb;clear hroom hS12 e13 h12 h11_12 al12 alb12 al13 alb13 M1 M2 M3 dd0 dd1 e012;ac_rfl;refine nz (λ i σ H'=>∃ (us:List V) (v8 v9 v10:Option V),σ=[some (.ref a),some (.ref l1),some (.int (ag ms)),some (.ref qo),some (.ref rboth),some (.ref DR),some (.int room),some (.ref rf),v8,v9,v10]/\Ext H13 H'/\H' rf=some (.lst us)/\Al (λ z y=>∃ (p q:Addr) (f:Int),y=.ref p/\H' p=some (.tup [.int f,.ref q])/\aT H13 q (axL z)/\0<=f+ay z/\f+aA z < room) ([axs,bxs].take i) us) ⟨[],none,none,none,rfl,e14,h14,Al.nil⟩ ?_ ?_
  ·rintro i _ H15 hi ⟨us,v8,v9,v10,rfl,e15,h15,al15⟩;have hi2:i < 2:=hi
   obtain⟨z,w,rz,hz,hat1,hat2,hw,tz,hzr⟩:∃ (z:List (Int × Int)) (w rz:Addr),[axs,bxs][i]? = some z/\atI [V.ref w0,V.ref w1] (0+(i:Int))=some (.ref w)/\atI [V.ref ra,V.ref rb] (0+(i:Int))=some (.ref rz)/\H13 w=some (.tup [.int (ay z),.int (aA z)])/\aT H13 rz (axL z)/\aA z - ay z+1<=room:=by
    rcases (show i=0\/i=1 by omega) with rfl|rfl
    ·exact⟨axs,w0,ra,rfl,rfl,rfl,hw0,ta,r1'⟩
    ·exact⟨bxs,w1,rb,rfl,rfl,rfl,hw1,tb,r2'⟩
   have hS15:=e15.2 K a _ hS13;have hDR:=e15.at h12_13;have hRB:=e15.at h11_13;have hw15:=e15.at hw;have hul:us.length=i:=by rw [al15.1,LH];simp;omega
   have hll:us.length < sizeLine:=bZ %[0|8];have htk:[axs,bxs].take (i+1)=[axs,bxs].take i++[z]:=by rw [Lx,hz];rfl
   exists hul;rw [htk];clear hi htk h14 hw0 hw1 h12_13 h11_13 hz;simp! only [↓cj];rw [dj];refine⟨hS15,hl,⟨by omega,by omega⟩,by omega,λ f f0 f1=>?_⟩;ac_rfl;intro t16 H16 ht16 e16 h16;have h15_16:=e16.at h15;have htr:t16 ≠ rf:=λ e=>by rw [e,h15] at ht16;cases ht16
   clear h15 hDR hRB hw15;ac_rfl;refine⟨us++[.ref t16],_,_,_,rfl,(e15.trans e16).put hrf,rfl,Al.snoc (al15.imp λ z y h=>?_) ⟨t16,rz,f - ay z,rfl,by rw [af htr];exact h16,?_,by omega,by omega⟩⟩
   ·obtain⟨p,q,g,h1,h2,h3,h4⟩:=h;have h2':=e16.at h2;exact⟨p,q,g,h1,by rw [af (λ e=>by rw [e,h15_16] at h2';cases h2')];exact h2',h3,h4⟩
   ·exact tz
  ·rintro _ H15 ⟨us,v8,v9,v10,rfl,e15,h15,al15⟩;obtain⟨u0,u1,rfl,⟨p0,q0,f0,h1,h2,h3,h4,h5⟩,⟨p1,q1,f1,g1,g2,g3,g4,g5⟩⟩:=J5 (show Al (λ z y=>∃ (p q:Addr) (f:Int),y=.ref p/\H15 p=some (.tup [.int f,.ref q])/\aT H13 q (axL z)/\0<=f+ay z/\f+aA z < room) [axs,bxs] us from al15);clear al15;ac_rfl;intro r16 H16 hr16 e16 h16;have e1316:=e15.trans e16;exact kk () room axs bxs r16 (.ref p0) (.ref p1) H16 (e013.trans e1316) h16 ⟨p0,q0,f0,rfl,e16.at h2,h3.ext e1316,h4,h5⟩ ⟨p1,q1,f1,rfl,e16.at g2,g3.ext e1316,g4,g5⟩ hva hvb hpe %[0|8] r3'
def Jl(ns:List Int)(k:Int):Int:=gz ns (17+k % 46) 1000000000000000000000000000000000000000000000000000000000000 - 500000000000000000000000000000000000000000000000000000000000+k
def qX(ns:List Int)(room:Int):List Int:=(List.range room.toNat).map λ (k:Nat)=>Jl ns (k:Int)
abbrev jq(K:PySem.W.Frag)(a:Addr)(ns:List Int)(p:Addr)(n:Int)(H:Hp)(Q:VK)(E:XK):Prop:=p=a/\SqL K H a (ns.map V.int)/\ns.length<=63/\0<=n/\n<=4096/\∀ (r:Addr) (H':Hp),H r=none->Ext H H'->H' r=some (.lst ((qX ns n).map V.int))->Q (.ref r) H'
def jM(K:W.Frag)(a:Addr)(ns:List Int):Sp:=λ vs H Q E=>∃ (p:Addr) (n:Int),vs=[.ref p,.int n]/\(jq K a ns p n H Q E)
theorem qK(K:W.Frag)(a:Addr)(ns:List Int)(p:Addr)(n:Int)(H:Hp)(Q:VK)(E:XK):jM K a ns [.ref p,.int n] H Q E=(jq K a ns p n H Q E):=pL (f:=λ (p:Addr) (n:Int)=>[.ref p,.int n]) (λ _ _ _ _ h=>by cases h;exact⟨rfl,rfl⟩) p n
theorem qv(K:W.Frag)(a:Addr)(ns:List Int){vs:List V}{H:Hp}{Q:VK}{E:XK}(h:jM K a ns vs H Q E):vs.length=2:=qR h λ _ _=>rfl
theorem iW(T:Tx K mg t)(a:Addr)(ns:List Int):bp P w K mg base CX0 2 t.a__law_values t.d__law_values ["_law_script", "_law_room"] (jM K a ns):=by
 have G__law_draw:=%[fM|35] a ns;refine T.F__law_values.ok kG (λ vs H Q E h=>qv _ _ _ h) (λ c A o s H vs Q E hr h=>?_)
 ·obtain⟨_,n,rfl,rfl,hS,hl,hn0,hn1,kk⟩:=h;rename_i a;refine⟨_,%[%[%[(["_law_k", "_law_script", "_law_room"]),(1),(bh (aa b9) ["_law_script", "_law_room"] rfl rfl nofun),rfl,(@dQ _ _ _ _ _ _ ∅ T.z_range %[%[1|0]|1] ∅),(λ C s₀ H₀ ex pn=>%[(0),_,(show List.Nodup (["_law_k", "_law_script", "_law_room"]:List Str) from by decide +kernel),rfl,(Or.inl rfl),%[0|7]|19]),(λ C s₀ H₀ ex pn=>(@bM _)),(λ C s₀ H₀ ex pn=>%[bY,%[bX,%[_law_draw,%[%[1|0],%[%[bY,%[0|2],%[sm,%[0|0],%[0|2]|11]|11],%[%[sk,%[0|2],%[0|2]|11]|1]|1]|1]|3],%[fz,%[0|2],%[sk,%[0|2],%[0|2]|11]|11]|11],%[0|0]|11]),(by intros;rfl)|26]|13]|10],?_⟩;rw [show start ["_law_script", "_law_room"] [.ref a,.int n]=[some (.ref a),some (.int n)] from rfl];ac_rfl;refine⟨by omega,by omega,?_⟩;refine cp (List.range n.toNat) (λ _=>true) (λ j=>.int (Jl ns (j:Int))) (λ j x H'=>x=.int (0+(j:Nat))) oo.1 oo.2 (aN (by rw [MZ];omega)) ?_ ?_
  ·intro D j x H' N1 N0 hj hD e hx k1 _;subst hx;have hj':=LQ.mp hj
   have k1':N1 (.int (gz ns (17+(0+(j:Int)) % 46) 1000000000000000000000000000000000000000000000000000000000000 - 500000000000000000000000000000000000000000000000000000000000+(0+(j:Int)))) H':=by
    rw [Int.zero_add];exact k1 rfl H' (Ext.refl _)
   have hS':=e.2 K a _ hS;have m0:=Mr (0+(j:Int)) (show (46:Int) ≠ 0 by decide);have m1:=L5 (0+(j:Int)) (show (0:Int) < 46 by decide);clear k1 kk hj;simp! only [↓aM,↓aZ];rw [vO];refine⟨hS',hl,⟨by omega,by omega⟩,by decide,?_⟩;ac_rfl
  ·intro D H' hD e hD';rw [vU] at hD';exact kk D H' hD e (by rw [hD'];unfold qX;rw [map_map];rfl)
def Hz(H:Hp)(Q:VK):List Int->Prop:=λ ns=>∀ (r:Addr) (H':Hp),H r=none->Ext H H'->H' r=some (.lst ((dD ns).map V.int))->Q (.ref r) H'
theorem yA(H:Hp)(Q:VK)(ns:List Int):Hz H Q ns=∀ (r:Addr) (H':Hp),H r=none->Ext H H'->H' r=some (.lst ((dD ns).map V.int))->Q (.ref r) H':=rfl
def mU  : Sp:=λ vs H Q E=>∃ (p:Addr),vs=[.ref p]/\(aF (au H p) (fT (kSz (Hz H Q))))
theorem vM  (p:Addr) (H:Hp) (Q:VK) (E:XK):mU  [.ref p] H Q E=(aF (au H p) (fT (kSz (Hz H Q)))):=gM (f:=λ (p:Addr)=>[.ref p]) (λ _ _ h=>by cases h;exact rfl) p
theorem vc  {vs:List V}{H:Hp}{Q:VK}{E:XK}(h:mU  vs H Q E):vs.length=1:=gD h λ _=>rfl
theorem nJ(T:Tx K mg t):bp P w K mg base CX0 1 t.a_paces_of t.d_paces_of ["sizes"] mU:=by
 refine T.F_paces_of.ok cY (λ vs H Q E h=>vc h) (λ c A o s H vs Q E hr h=>?_)
 ·obtain⟨p,rfl,h⟩:=h;obtain⟨xs,hp,ns,rfl,hs,k⟩:=aj h;replace hp:=bx hp;rw [yA] at k;refine⟨_,%[%[1,cY,%[(@cw _)|18]|4],%[%[2,cY,%[0|2]|4],%[%[Ll,rfl,(@Ek _ _ _ _ _ _ ∅ T.z_reversed %[%[0|0]|1] ∅),%[3,cY|5],%[%[%[K1,Ln,Lm,aV,%[1|0],%[%[2|0]|1],∅,∅,∅,∅,∅|24],∅|14],%[%[2,cY,%[sW,%[2|0],%[3|0]|11]|4]|10]|9],(by intros;rfl)|21],%[%[(@yK _ _ _ _ _ _ _ _ _ K1 PySem.F.slot_list_reverse PySem.F.type_list_reverse qc %[1|0] ∅ ∅),∅|14],%[%[%[1|0]|13]|10]|9]|9]|9]|9],?_⟩;rw [show start ["sizes", "paces", "pace", "size"] [.ref p]=[some (.ref p),none,none,none] from rfl];ac_rfl;intro r H1 hr1 e1 h1;have hp1:=e1.at hp;have hrp:r ≠ p:=λ z=>by rw [z,hp] at hr1;cases hr1
  ac_rfl;refine Ct (xs:=ns.map V.int) (λ i σ H'=>∃ v:Option V,σ=[some (.ref p),some (.ref r),some (.int (ag (ns.drop (ns.length - i)))),v]/\Ext H H'/\H' r=some (.lst ((dD (ns.drop (ns.length - i))).reverse.map V.int))) ⟨none,by simp [ag],e1,by simpa [dD] using h1⟩ (λ i σ H' _ ⟨_,_,e,_⟩=>SqL.of (e.at hp)) ?_ ?_
  ·rintro i x _ H2 hi hx ⟨v,rfl,e2,h2⟩;rw [KG] at hi hx;rw [La] at hx;obtain⟨z,hz,rfl⟩:=KW.mp hx;have e:=pY ns i z hi hz;have e':=nF ns i z hi hz;have b1:=(hs.drop (ns.length - i)).prod;have b2:=hs.2 z (Lh hz)
   have hln:((dD (ns.drop (ns.length - i))).reverse).length < sizeLine:=by
    rw [MO,ji];exact of_eq_true (IW _ (by have:=hs.1;simp;omega))
   have c1:(ag (ns.drop (ns.length - i))).natAbs < 2 ^ 256:=by
    generalize ag (ns.drop (ns.length - i))=y at b1;have:(1000000000:Int) ^ 8 < 2 ^ 256:=by decide
    omega
   have c2:z.natAbs < 2 ^ 256:=by omega
   clear b1 b2;simp! only [↓cj,pD];exact⟨_,rfl,e2.put hr1,by rw [Lk];rfl⟩
  ·rintro _ H2 ⟨v,rfl,e2,h2⟩;rw [KG,Nat.sub_self,List.drop_zero] at h2;ac_rfl;exact k r _ hr1 (e2.put hr1) (by rw [ah,←List.map_reverse,List.reverse_reverse])
theorem ua(cs:List Int)(a:Int × Int)(h:1<=a.1):bQ cs (aG a)=bQ cs a:=by
 unfold bQ
 show (cs.flatMap λ c=>(List.range a.1.toNat).map λ (n:Nat)=>c+(n:Int) * (if a.1 > 1 then a.2 else 0))=_
 by_cases h1:a.1 > 1
 ·rw [KZ h1]
 ·rw [KU h1];have e:a.1.toNat=1:=by omega
  rw [e];refine LR (λ f=>cs.flatMap f) (funext λ c=>?_);simp
theorem lI:∀ (axs:List (Int × Int)) (cs:List Int),(∀ a∈axs,(1:Int)<=a.1)->(axs.map aG).foldl bQ cs=axs.foldl bQ cs
 | [],cs,_=>rfl
 | a::r,cs,h=>by
  rw [Lo,Oc,Oc,ua cs a (h a KL),lI r _ λ b hb=>h b (KI _ hb)]
theorem cW(f:Int)(axs:List (Int × Int))(h:∀ a∈axs,(1:Int)<=a.1):ak f (axs.map aG)=ak f axs:=lI axs [f] h
theorem eE(axs:List (Int × Int)):(axs.map aG).map (λ a=>a.1)=axs.map λ a=>a.1:=by rw [LP];rfl
theorem lF{axs:List (Int × Int)}(h:fq axs):fq (axs.map aG):=⟨by rw [KG];exact h.1,λ a ha=>by
 obtain⟨b,hb,rfl⟩:=KS.mp ha;exact h.2 b hb⟩
theorem ia:∀ l:List (Int × Int),(∀ a∈l,(1:Int)<=a.1)->ay (l.map aG)=ay l/\aA (l.map aG)=aA l
 | [],_=>⟨rfl,rfl⟩
 | a::r,h=>by
  obtain⟨i1,i2⟩:=ia r λ b hb=>h b (KI _ hb);have ha:=h a KL
  have e:((aG a).1 - 1) * (aG a).2=(a.1 - 1) * a.2:=by
   show (a.1 - 1) * (if a.1 > 1 then a.2 else 0)=_
   split
   ·rfl
   ·have:a.1=1:=by omega
    rw [this];simp
  rw [Lo,bO,bP,bO,bP,e,i1,i2];exact⟨rfl,rfl⟩
theorem wD(ms ws:List Int):(ms.map V.int).zip (ws.map V.int)=(ms.zip ws).map λ z=>(V.int z.1,V.int z.2):=by
 rw [List.zip_map];rfl
theorem GO{H:Hp}{ms ws:List Int}{ts:List V}(al:Al (λ z y=>Hb z y H) ((ms.map V.int).zip (ws.map V.int)) ts):Al (qV H) (axL (ms.zip ws)) ts:=by
 rw [wD] at al;refine⟨by rw [al.1];unfold axL;rw [length_map,length_map],λ i z y hz hy=>?_⟩;unfold axL at hz;rw [getElem?_map] at hz;obtain⟨x,hx,rfl⟩:=Option.map_eq_some_iff.mp hz;obtain⟨p,hp,hq⟩:=al.2 i (V.int x.1,V.int x.2) y (by rw [getElem?_map,hx];rfl) hy;exact⟨p,hp,hq⟩
theorem oO(vals ws:List Int)(n:Nat)(hv:vals.length=n)(hw:ws.length=n):∀ i:Nat,i<=n->kL vals (((List.range n).map λ (k:Nat)=>(k:Int)).take i) (ws.take i)=ws.take i++vals.drop i
 | 0,_=>rfl
 | i+1,hi=>by
  have ih:=oO vals ws n hv hw i %[0|8];have hc:((List.range n).map λ (k:Nat)=>(k:Int))[i]? = some (i:Int):=by rw [La,List.getElem?_range %[0|8]];rfl
  have hwi:ws[i]? = some ws[i]:=KA %[0|8];have hl:(ws.take i).length=i:=by rw [LH];omega
  rw [lq hc hwi,ih,Ls,List.set_append,KU %[0|8],hl,Nat.sub_self,Nx (show i < vals.length by omega),List.set_cons_zero,Lx,hwi,M9];rfl
theorem AD{vals ws:List Int}(h:ws.length=vals.length):kL vals ((List.range vals.length).map λ (k:Nat)=>(k:Int)) ws=ws:=by
 have:=oO vals ws vals.length rfl h vals.length (KO _);rw [L3 (by rw [KG,MZ];exact KO _),L3 %[0|8],NL (KO _),M4] at this;exact this
theorem nD(n:Nat)(h:1<=n):ak 0 ([((n:Int),(1:Int))].map aG)=(List.range n).map λ (k:Nat)=>(k:Int):=by
 rw [cW 0 _ (λ a ha=>by rw [KN.mp ha];show (1:Int)<=n;omega)]
 show bQ [0] ((n:Int),(1:Int))=_
 unfold bQ;simp
abbrev tU(C:Addr)(p:Addr)(H:Hp)(Q:VK)(E:XK):Prop:=∃ n:Int,H p=some (.lst [.int n])/\1<=n/\n<=4096/\∀ (x:Addr) (H':Hp),Ext H H'->aJ C H' x n 0 ([(n,1)].map aG)->Q (.ref x) H'
def zC(C:Addr):Sp:=λ vs H Q E=>∃ (p:Addr),vs=[.ref p,.non]/\(tU C p H Q E)
theorem CB(C:Addr)(p:Addr)(H:Hp)(Q:VK)(E:XK):zC C [.ref p,.non] H Q E=(tU C p H Q E):=gM (f:=λ (p:Addr)=>[.ref p,.non]) (λ _ _ h=>by cases h;exact rfl) p
theorem B0(C:Addr){vs:List V}{H:Hp}{Q:VK}{E:XK}(h:zC C vs H Q E):vs.length=2:=gD h λ _=>rfl
theorem xr(T:Tx K mg t):bp P w K mg base CX0 8 t.a_whole t.d_whole ["sizes", "room"] (zC t.a_View):=by
 have G_count_of:=%[iD|35];have G_paces_of:=%[nJ|35];have G_View___init__:=%[dG|35];refine T.F_whole.ok tO (λ vs H Q E h=>B0 _ h) (λ c A o s H vs Q E hr h=>?_)
 ·obtain⟨p,rfl,n,hp,n1,n2,k⟩:=h;refine⟨_,%[%[2,tO,(@oU _ _ _ _ _ _ _ _ %[Ew,%[1|0],(@Er _ _ _),(aL _)|17] %[count_of,%[%[0|0]|1]|3] %[1|0])|4],%[%[%[T.mk_View,G_View___init__,(hr.mono ⋯),∅,T.m_View,T.b_View___init__,.nil,bo,%[%[2|0],%[%[0|2],%[(@pZ _ _ _ _ _ _ _ _ rfl ∅ T.z_list ∅ T.z_zip %[%[0|0],%[%[paces_of,%[%[0|0]|1]|3]|1]|1] ∅ ∅ ∅ ∅)|1]|1]|1],⋯,∅,∅|34]|13]|10]|9],?_⟩;rw [show start ["sizes", "room", "cells"] [.ref p,.non]=[some (.ref p),some (.non),none] from rfl];clear G_count_of G_paces_of G_View___init__;have hsz:gA [n]:=⟨by simp,λ m hm=>by rw [KN.mp hm];omega⟩;have hp':H p=some (.lst (([n]:List Int).map V.int)):=hp;have hpr:ag [n]=n:=by show n * 1=n;omega
  have hpa:dD [n]=[1]:=rfl;have hax:fq [(n,(1:Int))]:=⟨by simp,λ a ha=>by rw [KN.mp ha];show 1<=n/\n<=1000000000;omega⟩
  have hv:jb n 0 [(n,(1:Int))]:=by
   obtain⟨g1,g2⟩:=ia [(n,(1:Int))] λ a ha=>(hax.2 a ha).1;refine⟨hax,n1,by omega,?_,?_⟩
   ·rw [g1,bO];show 0<=0+(min 0 ((n - 1) * 1)+0);omega
   ·rw [g2,bP];show 0+(max 0 ((n - 1) * 1)+0) < n;omega
  exists k;clear hp;simp! only [↓lV,↓DN,↓rF,↓vM,↓yA];intro q H1 hq1 e1 h1;have hp1:=e1.at hp';clear hq1 hp';ac_rfl;rw [Ib];intro D ts H2 hD e2 h2 al2;have t2:Al (qV H2) (axL [(n,(1:Int))]) ts:=GO (ms:=[n]) (ws:=[1]) al2;clear hD al2;ac_rfl;intro x dx H3 hx hdx hne e3 h3 h3';rw [iy];refine⟨dx,[(n,1)],h3,aT.ext ⟨ts,h2,t2⟩ e3,hv,λ H4 D2 e4 hD2 hx4 tt4=>?_⟩;have k':=k () x H4 (e1.trans (e2.trans (e4 H2 e3 hx))) ⟨dx,D2,hx4,tt4⟩;clear k;ac_rfl
abbrev jt(CS CV:Addr)(s:Addr)(v:Addr)(u:Addr)(H:Hp)(Q:VK)(E:XK):Prop:=∃ (l:Addr) (vals:List Int) (f1 f2:Int) (a1 a2:List (Int × Int)),ba CS H s l vals/\aJ CV H v vals.length f1 a1/\aJ CV H u vals.length f2 a2/\fq a1/\fq a2/\vals.length<=4096/\ag (a1.map λ a=>a.1)<=4096/\ag (a2.map λ a=>a.1)=ag (a1.map λ a=>a.1)/\bG (ak f1 a1) vals.length/\bG (ak f2 a2) vals.length/\∀ H',(∀ H0,Ext H0 H->H0 l=none->Ext H0 H')->(∀ b o,b ≠ l->H b=some o->H' b=some o)->H' l=some (.lst ((kL vals (ak f1 a1) (gR vals (ak f2 a2))).map V.int))->Q .non H'
def jQ(CS CV:Addr):Sp:=λ vs H Q E=>∃ (s:Addr) (v:Addr) (u:Addr),vs=[.ref s,.ref v,.ref u]/\(jt CS CV s v u H Q E)
theorem qM(CS CV:Addr)(s:Addr)(v:Addr)(u:Addr)(H:Hp)(Q:VK)(E:XK):jQ CS CV [.ref s,.ref v,.ref u] H Q E=(jt CS CV s v u H Q E):=CQ (f:=λ (s:Addr) (v:Addr) (u:Addr)=>[.ref s,.ref v,.ref u]) (λ _ _ _ _ _ _ h=>by cases h;exact⟨rfl,rfl,rfl⟩) s v u
theorem qz(CS CV:Addr){vs:List V}{H:Hp}{Q:VK}{E:XK}(h:jQ CS CV vs H Q E):vs.length=3:=CT h λ _ _ _=>rfl
theorem iM(T:Tx K mg t):bp P w K mg base CX0 6 t.a_Store_copied t.d_Store_copied ["self", "to", "source"] (jQ t.a_Store t.a_View):=by
 have G_Store_refuse_room:=%[bj|35];have G_refuse_count:=%[cu|35];have G_View_count:=%[cb|35];have G_Store_read:=%[fN|35];have G_Store_put:=%[gv|35];refine T.F_Store_copied.ok i4 (λ vs H Q E h=>qz _ _ h) (λ c A o s' H vs Q E hr h=>?_)
 ·obtain⟨s,v,u,rfl,l,vals,f1,f2,a1,a2,so,vo,wo,hx1,hx2,hv2,hp1,hp2,ho1,ho2,k⟩:=h;obtain⟨dx,hs⟩:=so.ob;obtain⟨dy,D,hv,_⟩:=vo.ob;obtain⟨dz,D2,hu,_⟩:=wo.ob;have hfl:=so.fl;have c1:=T.cl_Store;have c3:=T.cl_View;have g1:=aU l (m := "refuse_room") nofun;have g2:=aU l (m := "read") nofun;have g3:=aU l (m := "put") nofun;have g4:=vn (vals.length:Int) f2 D2 (m := "count") nofun;refine⟨_,%[%[%[%[0|0],T.cl_Store,T.mt_Store_refuse_room,G_Store_refuse_room,(hr.mono ⋯),T.b_Store_refuse_room,.nil,bo,%[%[1|0]|1],∅,∅,∅|28],∅|14],%[%[%[%[0|0],T.cl_Store,T.mt_Store_refuse_room,G_Store_refuse_room,(hr.mono ⋯),T.b_Store_refuse_room,.nil,bo,%[%[2|0]|1],∅,∅,∅|28],∅|14],%[%[%[refuse_count,%[%[1|0],%[%[%[2|0],T.cl_View,T.mt_View_count,G_View_count,(hr.mono ⋯),T.b_View_count,.nil,bo,∅|25]|1]|1]|3],∅|14],%[%[%[%[0|0],T.cl_Store,T.mt_Store_put,G_Store_put,(hr.mono ⋯),T.b_Store_put,.nil,bo,%[%[1|0],%[%[%[0|0],T.cl_Store,T.mt_Store_read,G_Store_read,(hr.mono ⋯),T.b_Store_read,.nil,bo,%[%[2|0]|1],∅,∅,∅|28]|1]|1],∅,∅,∅|28],∅|14]|10]|9]|9]|9],?_⟩;rw [show start ["self", "to", "source"] [.ref s,.ref v,.ref u]=[some (.ref s),some (.ref v),some (.ref u)] from rfl];clear G_Store_refuse_room G_refuse_count G_View_count G_Store_read G_Store_put;ac_rfl;rw [gK];refine⟨l,vals,_,f1,a1,so,vo,rfl,?_⟩;ac_rfl;rw [gK];refine⟨l,vals,_,f2,a2,so,wo,rfl,?_⟩;ac_rfl;rw [eF];refine⟨_,f2,a2,wo,hx2,λ H1 e1=>?_⟩;exists hp2;ac_rfl;rw [gg];refine⟨_,f1,a1,vo.ext e1,hx1,hp2 (),λ H2 e2=>?_⟩;have e12:=e1.trans e2;have hs2:=e12.at hs;ac_rfl;rw [gL];refine⟨l,vals,_,f2,a2,so.ext e12,wo.ext e12,hx2,rfl,by rw [hp2 ()];exact hp1,ho2,λ r H3 hr3 e3 h3=>?_⟩;have hrl:r ≠ l:=λ z=>by rw [z,e12.at hfl] at hr3;cases hr3
  have e13:=e12.trans e3;ac_rfl;rw [tP];refine⟨l,vals,_,f1,a1,_,so.ext e13,vo.ext e13,hx1,rfl,hv2,hp1,ho1,h3,hrl,?_,λ H4 q1 q2 q3=>?_⟩
  ·unfold gR;rw [length_map,←hp2 ()];exact bA f2 a2 λ a ha=>(hx2.2 a ha).1
  ·have k1:=k H4 (λ H0 x0 x1=>q1 H0 (x0.trans e13) x1) (λ b o hb hbo=>q2 b o hb (e13.at hbo)) q3;clear k;ac_rfl
def iT(cs ds:List Int):List (Key × V):=(cs.zip ds).foldl (λ kvs p=>c8 kvs (.inl p.1) (.int p.2)) []
theorem qD{cs ds:List Int}{i:Nat}{c d:Int}(hc:cs[i]? = some c)(hd:ds[i]? = some d):iT (cs.take (i+1)) (ds.take (i+1))=c8 (iT (cs.take i) (ds.take i)) (.inl c) (.int d):=by
 unfold iT
 have e1:(cs.take (i+1)).zip (ds.take (i+1))=(cs.take i).zip (ds.take i)++[(c,d)]:=by
  rw [Lx,Lx,hc,hd,List.zip_append (by
   have h1:=(KH.mp hc).1;have h2:=(KH.mp hd).1;rw [LH,LH];omega)]
  rfl
 rw [e1,Ot];rfl
theorem uj{kvs:List (Key × V)}{k:Key}(v:V){x:V}(h:cS kvs k=some x):(c8 kvs k v).map (·.1)=kvs.map (·.1):=by
 unfold c8;rw [cz,h,Option.isSome_some,if_pos rfl,map_map];refine List.map_congr_left λ p _=>?_
 show (if p.1=k then (p.1,v) else p).1=p.1
 split<;>rfl
def CZ(kvs:List (Key × V)):Prop:=(∀ p∈kvs,∃ n i:Int,p=(.inl n,.int i))/\(kvs.map (·.1)).Nodup
theorem xh{P:Key × V->Prop}{kvs:List (Key × V)}{k:Key}{v:V}(h:∀ kv∈kvs,P kv)(hk:P (k,v)):∀ kv∈c8 kvs k v,P kv:=by
 intro kv hm;unfold c8 at hm;split at hm
 ·obtain⟨x,hx,rfl⟩:=KS.mp hm;split
  ·rename_i e;rw [e];exact hk
  ·exact h x hx
 ·rcases Li.mp hm with hm|hm
  ·exact h _ hm
  ·rw [KN.mp hm];exact hk
theorem CZ.put{kvs:List (Key × V)}(h:CZ kvs)(n i:Int):CZ (c8 kvs (.inl n) (.int i)):=by
 refine⟨xh h.1 ⟨n,i,rfl⟩,?_⟩
 cases e:cS kvs (.inl n) with
 | none=>exact AY _ h.2 e
 | some x=>rw [uj _ e];exact h.2
theorem pj:∀ (ps:List (Int × Int)) (kvs:List (Key × V)),CZ kvs->CZ (ps.foldl (λ kvs p=>c8 kvs (.inl p.1) (.int p.2)) kvs)/\(ps.foldl (λ kvs p=>c8 kvs (.inl p.1) (.int p.2)) kvs).length<=kvs.length+ps.length
 | [],kvs,h=>⟨h,KO _⟩
 | p::ps,kvs,h=>by
  obtain⟨h1,h2⟩:=pj ps (c8 kvs (.inl p.1) (.int p.2)) (h.put p.1 p.2);have:=dm kvs (.inl p.1) (.int p.2);refine⟨h1,Lu h2 ?_⟩;rw [Lz];omega
theorem yk(cs ds:List Int):CZ (iT cs ds)/\(iT cs ds).length<=cs.length:=by
 obtain⟨h1,h2⟩:=pj (cs.zip ds) [] ⟨λ _ h=>absurd h KJ,LL⟩;refine⟨h1,Lu h2 ?_⟩;rw [NN];simp;omega
abbrev ma(CV:Addr)(v:Addr)(u:Addr)(H:Hp)(Q:VK)(E:XK):Prop:=∃ (room f1 f2:Int) (a1 a2:List (Int × Int)),aJ CV H v room f1 a1/\aJ CV H u room f2 a2/\Q .non H
def mR(CV:Addr):Sp:=λ vs H Q E=>∃ (v:Addr) (u:Addr),vs=[.ref v,.ref u]/\(ma CV v u H Q E)
theorem vK(CV:Addr)(v:Addr)(u:Addr)(H:Hp)(Q:VK)(E:XK):mR CV [.ref v,.ref u] H Q E=(ma CV v u H Q E):=pL (f:=λ (v:Addr) (u:Addr)=>[.ref v,.ref u]) (λ _ _ _ _ h=>by cases h;exact⟨rfl,rfl⟩) v u
theorem u6(CV:Addr){vs:List V}{H:Hp}{Q:VK}{E:XK}(h:mR CV vs H Q E):vs.length=2:=qR h λ _ _=>rfl
theorem iL(T:Tx K mg t):bp P w K mg base CX0 1 t.a_refuse_rooms t.d_refuse_rooms ["one", "other"] (mR t.a_View):=by
 refine T.F_refuse_rooms.ok iY (λ vs H Q E h=>u6 _ h) (λ c A o s' H vs Q E hr h=>?_)
 ·obtain⟨v,u,rfl,room,f1,f2,a1,a2,vo,uo,k⟩:=h;obtain⟨dy,D,hv,_⟩:=vo.ob;obtain⟨dz,D2,hu,_⟩:=uo.ob;have c3:=T.cl_View;have c4:=T.na_View_room;have g1:=fV room f1 D;have g2:=fV room f2 D2;refine⟨_,%[%[%[(dE hr.units),%[%[0|0],rfl|27],%[%[1|0],rfl|27],(aL _)|17],%[(@dh _ _)|10],(@aW _)|23]|10],?_⟩;rw [show start ["one", "other"] [.ref v,.ref u]=[some (.ref v),some (.ref u)] from rfl];ac_rfl
abbrev tW(CV:Addr)(v:Addr)(u:Addr)(H:Hp)(Q:VK)(E:XK):Prop:=∃ (room f1 f2:Int) (a1 a2:List (Int × Int)),aJ CV H v room f1 a1/\aJ CV H u room f2 a2/\fq a1/\fq a2/\ag (a1.map λ a=>a.1)<=4096/\ag (a2.map λ a=>a.1)=ag (a1.map λ a=>a.1)/\∀ (r:Addr) (H':Hp),H r=none->Ext H H'->H' r=some (.dK (iT (ak f1 a1) (ak f2 a2)))->Q (.ref r) H'
def zD(CV:Addr):Sp:=λ vs H Q E=>∃ (v:Addr) (u:Addr),vs=[.ref v,.ref u]/\(tW CV v u H Q E)
theorem CC(CV:Addr)(v:Addr)(u:Addr)(H:Hp)(Q:VK)(E:XK):zD CV [.ref v,.ref u] H Q E=(tW CV v u H Q E):=pL (f:=λ (v:Addr) (u:Addr)=>[.ref v,.ref u]) (λ _ _ _ _ h=>by cases h;exact⟨rfl,rfl⟩) v u
theorem B3(CV:Addr){vs:List V}{H:Hp}{Q:VK}{E:XK}(h:zD CV vs H Q E):vs.length=2:=qR h λ _ _=>rfl
theorem p5(T:Tx K mg t):bp P w K mg base CX0 5 t.a_sources t.d_sources ["to", "source"] (zD t.a_View):=by
 have G_refuse_rooms:=%[iL|35];have G_refuse_count:=%[cu|35];have G_View_count:=%[cb|35];have G_View_cells:=%[dC|35];refine T.F_sources.ok fJ (λ vs H Q E h=>B3 _ h) (λ c A o s' H vs Q E hr h=>?_)
 ·obtain⟨v,u,rfl,room,f1,f2,a1,a2,vo,uo,hx1,hx2,hp1,hp2,k⟩:=h;obtain⟨dy,D,hv,_⟩:=vo.ob;obtain⟨dz,D2,hu,_⟩:=uo.ob;have c3:=T.cl_View;have g1:=vn room f1 D (m := "cells") nofun;have g2:=vn room f2 D2 (m := "cells") nofun;have g4:=vn room f2 D2 (m := "count") nofun;refine⟨_,%[%[%[refuse_rooms,%[%[0|0],%[%[1|0]|1]|1]|3],∅|14],%[%[%[refuse_count,%[%[0|0],%[%[%[1|0],T.cl_View,T.mt_View_count,G_View_count,(hr.mono ⋯),T.b_View_count,.nil,bo,∅|25]|1]|1]|3],∅|14],%[%[2,fJ,(@eh _ _)|4],%[%[Ll,rfl,(@sg _ _ _ _ _ _ _ _ _ ∅ T.z_zip %[%[%[0|0],T.cl_View,T.mt_View_cells,G_View_cells,(hr.mono ⋯),T.b_View_cells,.nil,bo,∅|25],%[%[%[1|0],T.cl_View,T.mt_View_cells,G_View_cells,(hr.mono ⋯),T.b_View_cells,.nil,bo,∅|25]|1]|1] ∅ ∅),(%[(2),rfl,%[%[3,fJ|5],%[%[4,fJ|5],(@aC _),∅|12],∅|12],∅,∅|22].mono λ _ _ _ _ h=>bD h),%[%[(aY hr.units),%[2|0],%[3|0],%[4|0],rfl|30]|10],(by intros;rfl)|21],%[%[%[2|0]|13]|10]|9]|9]|9]|9],?_⟩;rw [show start ["to", "source", "found", "cell", "origin"] [.ref v,.ref u]=[some (.ref v),some (.ref u),none,none,none] from rfl];clear G_refuse_rooms G_refuse_count G_View_count G_View_cells;exists hp2;ac_rfl;rw [vK];refine⟨room,f1,f2,a1,a2,vo,uo,?_⟩;ac_rfl;rw [eF];refine⟨_,f2,a2,uo,hx2,λ H1 e1=>?_⟩;ac_rfl;rw [gg];refine⟨_,f1,a1,vo.ext e1,hx1,hp2 (),λ H2 e2=>?_⟩;have e12:=e1.trans e2;ac_rfl;intro d H3 hd3 e3 h3;have e13:=e12.trans e3;have hv3:=e13.at hv;have hu3:=e13.at hu;have hd0:H d=none:=e12.free hd3;ac_rfl;rw [fH];refine⟨_,f1,a1,vo.ext e13,hx1,λ _ r4 H4 hr4 e4 h4=>?_,λ h=>absurd h %[0|8]⟩;have hu4:=e4.at hu3;clear hv3 hu3;ac_rfl;rw [fH];refine⟨_,f2,a2,uo.ext (e13.trans e4),hx2,λ _ r5 H5 hr5 e5 h5=>?_,λ h=>absurd h (by have:=hp2 ();omega)⟩;have fR:=bA f1 a1 λ a ha=>(hx1.2 a ha).1;have ju:=bA f2 a2 λ a ha=>(hx2.2 a ha).1;have h4_5:=e5.at h4;have hd5:=(e4.trans e5).at h3;have e15:=e13.trans (e4.trans e5);have n4:r4 ≠ d:=λ z=>by rw [z,h3] at hr4;cases hr4
  have n5:r5 ≠ d:=λ z=>by rw [z,e4.at h3] at hr5;cases hr5
  generalize ak f1 a1=cs at h4_5 k fR;generalize ak f2 a2=ds at h5 k ju;have hlen:cs.length=ds.length:=by have:=hp2 ();omega
  have hl4:cs.length<=4096:=by omega
  clear h4 hu4 h3 hr4 hr5 hd3 fR ju hx1 hx2 hp1 vo uo e1 e2 e12 e3 e13 e4 e5;ac_rfl;refine ny (ka:=false) (kb:=false) (xs:=cs.map V.int) (ys:=ds.map V.int) (λ i σ H'=>∃ v3 v4:Option V,σ=[some (.ref v),some (.ref u),some (.ref d),v3,v4]/\Ext H H'/\H' r4=some (.lst (cs.map V.int))/\H' r5=some (.lst (ds.map V.int))/\H' d=some (.dK (iT (cs.take i) (ds.take i)))) ⟨none,none,rfl,e15,h4_5,h5,hd5⟩ (λ i σ H' ⟨_,_,_,_,q1,q2,_⟩=>⟨q1,q2⟩) ?_ ?_
  ·rintro i x y q _ H6 H7 hx hy ⟨v3,v4,rfl,e6,q4,q5,h6⟩ hq e7 h7;rw [La] at hx hy;obtain⟨c,hc,rfl⟩:=KW.mp hx;obtain⟨z,hz,rfl⟩:=KW.mp hy;have hi:i < cs.length:=(KH.mp hc).1;have hput:=λ (_:Unit)=>qD hc hz
   have hll:(iT (cs.take i) (ds.take i)).length < sizeLine:=bZ (by
    have:=(yk (cs.take i) (ds.take i)).2;rw [LH] at this;omega)
   have h6_7:=e7.at h6;generalize iT (cs.take i) (ds.take i)=kvs at hput hll h6_7;clear hx hy hc hz k hd5 h4_5 h5 h6 e15;simp! only [↓cj];refine gT (k:=.inl c) h6_7 hll ?_;refine⟨_,_,rfl,(e6.trans e7).put hd0,by rw [af n4];exact e7.at q4,by rw [af n5];exact e7.at q5,?_⟩;rw [hput (),ah]
  ·rintro _ H6 ⟨v3,v4,rfl,e6,q4,q5,h6⟩;have hm:min (cs.map V.int).length (ds.map V.int).length=cs.length:=by rw [KG,KG];omega
   rw [hm,LG,hlen,LG] at h6;ac_rfl;exact k d H6 hd0 e6 h6
abbrev zm  (p:Addr) (H:Hp) (Q:VK) (E:XK):Prop:=∃ (l:Addr) (b:V) (c:Int) (cs:List V),H p=some (.tup [.ref l,b])/\H l=some (.lst (.int c::cs))/\Q (.int c) H
def Hl  : Sp:=λ vs H Q E=>∃ (p:Addr),vs=[.ref p]/\(zm  p H Q E)
theorem GK  (p:Addr) (H:Hp) (Q:VK) (E:XK):Hl  [.ref p] H Q E=(zm  p H Q E):=gM (f:=λ (p:Addr)=>[.ref p]) (λ _ _ h=>by cases h;exact rfl) p
theorem Gp  {vs:List V}{H:Hp}{Q:VK}{E:XK}(h:Hl  vs H Q E):vs.length=1:=gD h λ _=>rfl
theorem km(T:Tx K mg t):bp P w K mg base CX0 1 t.a_first_cell t.d_first_cell ["ring"] Hl:=by
 refine T.F_first_cell.ok mC (λ vs H Q E h=>Gp h) (λ c A o s' H vs Q E hr h=>?_)
 ·obtain⟨p,rfl,l,b,c,cs,hp,hl,k⟩:=h;refine⟨_,%[%[%[gk,%[gk,%[0|0],%[0|2],(λ _ _=>rfl)|16],%[0|2],(λ _ _=>rfl)|16]|13]|10],?_⟩;rw [show start ["ring"] [.ref p]=[some (.ref p)] from rfl];ac_rfl
theorem dk:∀ {l:List Int}{c:Int},c∈l->∃ a b,l=a++c::b/\c ∉ a
 | x::l,c,h=>by
  by_cases e:x=c
  ·exact⟨[],l,by rw [e];rfl,KJ⟩
  ·rcases K2.mp h with h|h
   ·exact absurd h.symm e
   ·obtain⟨a,b,rfl,hn⟩:=dk h;exact⟨x::a,b,rfl,λ m=>(K2.mp m).elim (λ z=>e z.symm) hn⟩
abbrev zk  (l:Addr) (H:Hp) (Q:VK) (E:XK):Prop:=∃ ns:List Int,H l=some (.lst (ns.map V.int))/\ns ≠ []/\ns.length<=5000/\∀ (a b:List Int) (m:Int) (r:Addr) (H':Hp),ns=a++b->b.head? = some m->(∀ x∈ns,m<=x)->H r=none->Ext H H'->H' r=some (.lst ((b++a).map V.int))->Q (.ref r) H'
def Hk  : Sp:=λ vs H Q E=>∃ (l:Addr),vs=[.ref l]/\(zk  l H Q E)
theorem GJ  (l:Addr) (H:Hp) (Q:VK) (E:XK):Hk  [.ref l] H Q E=(zk  l H Q E):=gM (f:=λ (l:Addr)=>[.ref l]) (λ _ _ h=>by cases h;exact rfl) l
theorem Gn  {vs:List V}{H:Hp}{Q:VK}{E:XK}(h:Hk  vs H Q E):vs.length=1:=gD h λ _=>rfl
theorem iV(T:Tx K mg t):bp P w K mg base CX0 1 t.a_least_first t.d_least_first ["ring"] Hk:=by
 refine T.F_least_first.ok fP (λ vs H Q E h=>Gn h) (λ c A o s' H vs Q E hr h=>?_)
 ·obtain⟨l,rfl,ns,hl,hne,h5,k⟩:=h;refine⟨_,%[%[1,fP,%[K1,NG,NF,(oY hr.units),%[0|0],%[%[min,(qH rfl),%[%[0|0]|1]|6]|1],∅,∅,∅,∅,∅|24]|4],%[%[%[hJ,%[zp,%[0|0],(@eP _ _ _ %[1|0]),(@eQ _)|31],%[zp,%[0|0],(@eQ _),(@eP _ _ _ %[1|0])|31]|11]|13]|10]|9],?_⟩;rw [show start ["ring", "at"] [.ref l]=[some (.ref l),none] from rfl];ac_rfl;rw [Af];refine⟨List.length_pos_iff.mpr hne,λ M hM hm=>?_⟩;obtain⟨a,b,rfl,hMa⟩:=dk hM;replace k:=λ (_:Unit)=>k a (M::b) M;exists hm;clear hM hne;ac_rfl;refine oG hl hMa ?_;ac_rfl;rw [gI _ _ (MX _),Ls,show (List.map V.int (a++M::b)).drop a.length=(M::b).map V.int by rw [Lk,ON (by simp)]];intro r1 H1 hr1 e1 h1;have hl1:=e1.at hl;clear hl;ac_rfl;rw [jY _ _ (MX _),Ls,show (List.map V.int (a++M::b)).take a.length=a.map V.int by rw [Lk,List.take_left' (by simp)]];intro r2 H2 hr2 e2 h2;have h1_2:=e2.at h1;clear h1 hl1;rw [Lo] at h1_2;ac_rfl;refine⟨aN (by rw [KY,Lz] at h5;omega),λ r3 H3 hr3 e3 h3=>?_⟩;exact k () r3 H3 rfl rfl (hm ()) (e1.free (e2.free hr3)) (e1.trans (e2.trans e3)) (by rw [h3,Lk,Lo];rfl)
def NdK(kv:List (Int × Int)):Prop:=(kv.map (·.1)).Nodup
structure RfP(kv wv:List (Int × Int))(st:Int):Prop where
 nd:NdK kv
 len:kv.length<=4200
 wnd:NdK wv
 sub:∀ x,(ae wv x).isSome=true->(ae kv x).isSome=true
 new:∀ x,ae wv x ≠ some st
structure WkE(kv wv:List (Int × Int))(st:Int)(t:List Int)(c:Int):Prop where
 pth:Pth (ae kv) t c
 nd:t.Nodup
 new:∀ x∈t,ae wv x=none
 hd:t.headD c=st
def rgL(t:List Int)(c:Int):List Int:=t.dropWhile λ x=>!(decide (x=c))
theorem rW:∀ {a b:List Int}{c:Int},c ∉ a->rgL (a++c::b) c=c::b
 | [],b,c,_=>by unfold rgL;rw [List.nil_append,List.dropWhile_cons_of_neg (by simp)]
 | x::a,b,c,h=>by
  have e:¬ x=c:=λ e=>h (by rw [e];exact mem_cons_self);unfold rgL;rw [cons_append,List.dropWhile_cons_of_pos (by simp [e])];exact rW λ m=>h (mem_cons_of_mem _ m)
theorem rV{t:List Int}{c:Int}(h:c ∉ t):rgL t c=[]:=by
 unfold rgL
 induction t with
 | nil=>rfl
 | cons x t ih=>
  have e:¬ x=c:=λ e=>h (by rw [e];exact KL);rw [List.dropWhile_cons_of_pos (by simp [e])];exact ih λ m=>h (KI _ m)
def wkD(wv:List (Int × Int))(st:Int)(t:List Int):List (Int × Int):=wv++t.map λ x=>(x,st)
theorem jA(wv:List (Int × Int))(st:Int)(t:List Int):(wkD wv st t).map (·.1)=wv.map (·.1)++t:=by
 unfold wkD;rw [map_append,map_map];congr 1;exact List.map_id' t
theorem jy{wv:List (Int × Int)}(hn:NdK wv){st:Int}{t:List Int}(ht:t.Nodup)(hw:∀ x∈t,ae wv x=none)(c:Int):ae (wkD wv st t) c=if c∈t then some st else ae wv c:=by
 have nd:NdK (wkD wv st t):=by
  unfold NdK;rw [jA,nodup_append];exact⟨hn,ht,λ x hx y hy e=>cq.mp (hw y hy) (by rw [←e];exact hx)⟩
 split
 ·rename_i h;exact bE nd (Lc _ (KS.mpr ⟨c,h,rfl⟩))
 ·rename_i h
  cases hl:ae wv c with
  | some j=>exact bE nd (Ly _ (b8 hl))
  | none=>rw [cq,jA,Li];exact λ m=>m.elim (cq.mp hl) h
theorem Dl{kv wv:List (Int × Int)}{st:Int}{t:List Int}{c:Int}(h:WkE kv wv st t c)(hn:NdK wv):NdK (wkD wv st t):=by
 unfold NdK;rw [jA,nodup_append];exact⟨hn,h.nd,λ x hx y hy e=>cq.mp (h.new y hy) (by rw [←e];exact hx)⟩
theorem rG{kv wv:List (Int × Int)}{st:Int}{t:List Int}{c:Int}(P:RfP kv wv st)(h:WkE kv wv st t c):∀ x∈(wkD wv st t).map (·.1),x∈kv.map (·.1):=λ x hx=>by
 rw [jA,Li] at hx
 rcases hx with hx|hx
 ·exact ao.mp (P.sub x (ao.mpr hx))
 ·obtain⟨d,e,_⟩:=h.pth.mem hx;exact ao.mp (by rw [e];rfl)
theorem cg:∀ {a b:List Int},a.Nodup->(∀ x∈a,x∈b)->a.length<=b.length
 | [],b,_,_=>Lq _
 | x::a,b,hn,h=>by
  have hn':=Lv.mp hn;have hx:=h x KL;have:=cg (a:=a) (b:=b.erase x) hn'.2 λ y hy=>(List.mem_erase_of_ne (λ e=>hn'.1 (by rw [←e];exact hy))).mpr (h y (KI _ hy));rw [List.length_erase_of_mem hx] at this;have:=List.length_pos_of_mem hx;rw [Lz];omega
theorem rH{kv wv:List (Int × Int)}{st:Int}{t:List Int}{c:Int}(P:RfP kv wv st)(h:WkE kv wv st t c):(wkD wv st t).length<=kv.length:=by
 have:=cg (Dl h P.wnd) (rG P h)
 simpa using this
theorem WkE.next{kv wv:List (Int × Int)}{st c d:Int}{t:List Int}(P:RfP kv wv st)(h:WkE kv wv st t c)(hd:ae kv c=some d)(hc:ae (wkD wv st t) c=none):WkE kv wv st (t++[c]) d:=by
 rw [jy P.wnd h.nd h.new] at hc
 by_cases m:c∈t
 ·rw [KZ m] at hc;cases hc
 ·rw [KU m] at hc;refine⟨h.pth.snoc hd,?_,λ x hx=>?_,?_⟩
  ·rw [LC];exact⟨h.nd,Lv.mpr ⟨KJ,LL⟩,λ x hx y hy e=>m (by rw [←KN.mp hy,←e];exact hx)⟩
  ·rcases Li.mp hx with hx|hx
   ·exact h.new x hx
   ·rw [KN.mp hx];exact hc
  ·rw [←h.hd];cases t<;>rfl
theorem Ai{wv:List (Int × Int)}{st c:Int}{t:List Int}(h:ae (wkD wv st t) c=none):c8 (aE (wkD wv st t)) (.inl c) (.int st)=aE (wkD wv st (t++[c])):=by
 rw [sO _ h];unfold wkD;rw [map_append,List.append_assoc];rfl
abbrev zi  (d:Addr) (st:Int) (w:Addr) (H:Hp) (Q:VK) (E:XK):Prop:=∃ (B:Hp) (kv wv:List (Int × Int)),Ext B H/\B w=none/\B d=some (.dK (aE kv))/\H w=some (.dK (aE wv))/\RfP kv wv st/\∀ (t:List Int) (c:Int) (r:Addr) (H':Hp),WkE kv wv st t c->(c ∉ t->(ae kv c).isSome=true->(ae wv c).isSome=true)->B r=none->r ≠ w->Ext B H'->H' w=some (.dK (aE (wkD wv st t)))->H' r=some (.lst ((rgL t c).map V.int))->Q (.ref r) H'
def Hi  : Sp:=λ vs H Q E=>∃ (d:Addr) (st:Int) (w:Addr),vs=[.ref d,.int st,.ref w]/\(zi  d st w H Q E)
theorem GH  (d:Addr) (st:Int) (w:Addr) (H:Hp) (Q:VK) (E:XK):Hi  [.ref d,.int st,.ref w] H Q E=(zi  d st w H Q E):=CQ (f:=λ (d:Addr) (st:Int) (w:Addr)=>[.ref d,.int st,.ref w]) (λ _ _ _ _ _ _ h=>by cases h;exact⟨rfl,rfl,rfl⟩) d st w
theorem Gk  {vs:List V}{H:Hp}{Q:VK}{E:XK}(h:Hi  vs H Q E):vs.length=3:=CT h λ _ _ _=>rfl
theorem ml(T:Tx K mg t):bp P w K mg base CX0 1 t.a_ring_from t.d_ring_from ["found", "start", "walked"] Hi:=by
 refine T.F_ring_from.ok dt (λ vs H Q E h=>Gk h) (λ c A o s' H vs Q E hr h=>?_)
 ·obtain⟨d,st,w,rfl,B,kv,wv,eB,hBw,hBd,hw,P0,k⟩:=h;refine⟨_,%[%[3,dt,%[(@cw _)|18]|4],%[%[4,dt,%[1|0]|4],%[(@oS _ _ _ _ _ _ Ll (PW.pt (@rY _ _ _ _ _ _ _ %[(sj (aY hr.units)),%[4|0],%[0|0],(by with_unfolding_all rfl)|17] (@m6 _ _ _ _ %[(lB (aY hr.units)),%[4|0],%[2|0],(by with_unfolding_all rfl)|17]))) %[%[(aY hr.units),%[2|0],%[4|0],%[1|0],rfl|30],%[%[%[K1,Ln,Lm,aV,%[3|0],%[%[4|0]|1],∅,∅,∅,∅,∅|24],∅|14],%[%[4,dt,%[(aY hr.units),%[0|0],%[4|0],(λ _ _=>rfl)|32]|4]|10]|9]|9]),%[%[%[(dE hr.units),(@jW _ _ _ _ _ _ _ (aY hr.units) %[2|0] %[4|0] ⟨by rfl,by rfl,by rfl,by rfl⟩),%[1|0],(aL _)|17],%[%[%[(@cw _)|18]|13]|10],(@aW _)|23],%[%[%[zp,%[3|0],(@eP _ _ _ %[K1,NG,NF,(oY hr.units),%[3|0],%[%[4|0]|1],∅,∅,∅,∅,∅|24]),(@eQ _)|31]|13]|10]|9]|9]|9]|9],?_⟩;rw [show start ["found", "start", "walked", "trail", "cell"] [.ref d,.int st,.ref w]=[some (.ref d),some (.int st),some (.ref w),none,none] from rfl];have hd0:=eB.at hBd;ac_rfl;intro l H1 hl1 e1 h1;have nwl:w ≠ l:=λ z=>by rw [←z,hw] at hl1;cases hl1
  have hBl:B l=none:=eB.free hl1;have w1:=e1.at hw;have eB1:=eB.trans e1;have ini:WkE kv wv st [] st:=⟨trivial,nodup_nil,λ _ h=>absurd h not_mem_nil,rfl⟩;have w1':H1 w=some (.dK (aE (wkD wv st []))):=by rw [w1];unfold wkD;rw [map_nil,append_nil]
  exists P0;clear hw w1 hd0;ac_rfl;refine sH (by repeat' first|exact DK|exact yN|exact mo_nI|apply oZ|apply mo_unN|exact sx|exact JE|exact sy|exact mo_rI|exact mo_rIsN|exact mo_rNotN|exact mo_qEq|exact mo_qIx|exact yM|exact sZ|exact yO|exact mo_qLenD|apply mo_dget2|apply nh|apply mo_tB|apply mo_not|apply yP|apply mo_or|apply DL|apply mo_un|apply tm|apply mo_qLst|apply DM) (λ m σ H'=>∃ (tr:List Int) (c:Int),σ=[some (.ref d),some (.int st),some (.ref w),some (.ref l),some (.int c)]/\m=kv.length - tr.length/\WkE kv wv st tr c/\Ext B H'/\H' w=some (.dK (aE (wkD wv st tr)))/\H' l=some (.lst (tr.map V.int))) _ ⟨[],st,rfl,rfl,ini,eB1,w1',h1⟩ ?_;clear ini w1' h1 eB1;rintro m _ H2 ⟨tr,c,rfl,rfl,we,e2,w2,l2⟩;have d2:=e2.at hBd;have hll:=rH (P0 ()) we;exists we;exists hll;ac_rfl
  cases hwc:ae (wkD wv st tr) c with
  | none=>
   cases hdc:ae kv c with
   | none=>
    have hct:c ∉ tr:=λ m=>by
     obtain⟨e,h1,_⟩:=(we ()).pth.mem m;rw [hdc] at h1;cases h1
    refine eL (k:=.inl c) d2 ?_;rw [aq,hdc];ac_rfl;refine fB w2 ?_;ac_rfl;refine g8 (k:=.inl c) w2 ?_;rw [aq,hwc,show ((none:Option Int).map V.int).getD .non=.non from rfl];ac_rfl;intro r H3 hr3 e3 h3;exact k tr c r H3 (we ()) (λ _ z=>by rw [hdc] at z;cases z) (e2.free hr3) (λ z=>by rw [z,w2] at hr3;cases hr3) (e2.trans e3) (e3.at w2) (by rw [h3,rV hct];rfl)
   | some e=>
    have nx:=(we ()).next (P0 ()) hdc hwc;have hput:=λ (_:Unit)=>Ai hwc;have hl5:(aE (wkD wv st tr)).length < sizeLine:=bZ (by rw [dc];have:=(P0 ()).len;have:=hll ();omega)
    have hl6:(tr.map V.int).length < sizeLine:=bZ (by
     have h1:=hll ();have h2:=(P0 ()).len;unfold wkD at h1;rw [length_append,length_map] at h1;rw [length_map];omega)
    have hlt:kv.length - (tr++[c]).length < kv.length - tr.length:=by
     have h1:=rH (P0 ()) nx;unfold wkD at h1;rw [length_append,length_map] at h1;rw [length_append] at h1 ⊢;rw [List.length_singleton] at h1 ⊢;omega
    refine eL (k:=.inl c) d2 ?_;rw [aq,hdc];ac_rfl;refine eL (k:=.inl c) w2 ?_;rw [aq,hwc];ac_rfl;refine gT (k:=.inl c) w2 hl5 ?_;have l3:upd H2 w (.dK (c8 (aE (wkD wv st tr)) (.inl c) (.int st))) l=some (.lst (tr.map V.int)):=by rw [af (Ld nwl)];exact l2
    have d3:upd H2 w (.dK (c8 (aE (wkD wv st tr)) (.inl c) (.int st))) d=some (.dK (aE kv)):=by rw [af (λ z=>by rw [z,hBw] at hBd;cases hBd)];exact d2
    have e3:Ext B (upd H2 w (.dK (c8 (aE (wkD wv st tr)) (.inl c) (.int st)))):=e2.put hBw;have w3:upd H2 w (.dK (c8 (aE (wkD wv st tr)) (.inl c) (.int st))) w=some (.dK (aE (wkD wv st (tr++[c])))):=by rw [ah,hput ()]
    generalize upd H2 w (.dK (c8 (aE (wkD wv st tr)) (.inl c) (.int st)))=H3 at l3 d3 e3 w3;exists nx;clear w2 l2 d2 hput k;ac_rfl;refine⟨by rw [KG] at hl6;exact hl6,?_⟩;have d4:upd H3 l (.lst (tr.map V.int++[V.int c])) d=some (.dK (aE kv)):=by rw [af (λ z=>by rw [z,hBl] at hBd;cases hBd)];exact d3
    refine gU (k:=.inl c) (v:=.int e) d4 (by rw [aq,hdc];rfl) ?_;clear d4 l3 d3;simp! only [-ah];exact⟨_,hlt,tr++[c],e,rfl,rfl,nx (),e3.put hBl,by rw [af nwl];exact w3,by rw [ah,Lk];rfl⟩
  | some j=>
   obtain⟨e,hdc⟩:∃ e,ae kv c=some e:=by
    have:=ao.mpr (rG (P0 ()) (we ()) c (ao.mp (by rw [hwc];rfl)))
    cases h:ae kv c with
    | none=>rw [h] at this;cases this
    | some e=>exact⟨e,rfl⟩
   have hwl:=jy (P0 ()).wnd (we ()).nd (we ()).new (st:=st) c
   by_cases m:c∈tr
   ·rw [KZ m,hwc] at hwl;obtain rfl:=Lf hwl;obtain⟨a,b,rfl,hca⟩:=dk m;clear hwl m;refine eL (k:=.inl c) d2 ?_;rw [aq,hdc];ac_rfl;refine eL (k:=.inl c) w2 ?_;rw [aq,hwc];ac_rfl;refine fB w2 ?_;ac_rfl;refine g8 (k:=.inl c) w2 ?_;rw [aq,hwc,show ((some j:Option Int).map V.int).getD .non=.int j from rfl];ac_rfl;refine oG l2 hca ?_;ac_rfl;rw [gI _ _ (MX _),Ls,show (List.map V.int (a++c::b)).drop a.length=(c::b).map V.int by rw [Lk,ON (by simp)]];intro r H3 hr3 e3 h3;exact k _ c r H3 (we ()) (λ z=>absurd (by simp) z) (e2.free hr3) (λ z=>by rw [z,w2] at hr3;cases hr3) (e2.trans e3) (e3.at w2) (by rw [h3,rW hca])
   ·rw [KU m,hwc] at hwl;have hj:¬ j=st:=λ z=>(P0 ()).new c (by rw [←hwl,z]);exists hwl;refine eL (k:=.inl c) d2 ?_;rw [aq,hdc];ac_rfl;refine eL (k:=.inl c) w2 ?_;rw [aq,hwc];ac_rfl;refine fB w2 ?_;ac_rfl;refine g8 (k:=.inl c) w2 ?_;rw [aq,hwc,show ((some j:Option Int).map V.int).getD .non=.int j from rfl];ac_rfl;intro r H3 hr3 e3 h3;exact k tr c r H3 (we ()) (λ _ _=>by rw [←hwl ()];rfl) (e2.free hr3) (λ z=>by rw [z,w2] at hr3;cases hr3) (e2.trans e3) (e3.at w2) (by rw [h3,rV m];rfl)
def ovI(o:Option Int):V:=(o.map V.int).getD .non
theorem Am{x y:Option Int}{H:Hp}{Q:VK}(q:Q (.bl (!decide (x=y))) H):qEq true (ovI x) (ovI y) H Q:=by
 unfold qEq
 have hs:Dd (ovI x) (ovI y)=true:=by cases x<;>cases y<;>rfl
 have e:decide (ovI x=ovI y)=decide (x=y):=by
  cases x<;>cases y<;>simp [ovI]
 rw [KZ hs,KZ rfl,e];exact q
theorem tF{H H1:Hp}(e:Ext H H1)(d:Addr)(o:HO):Ext (upd H d o) (upd H1 d o):=iR.ext λ b u h=>by
 by_cases hb:b=d
 ·rw [hb,ah] at h ⊢;exact h
 ·rw [af hb] at h ⊢;exact e.at h
def drB(kv rv:List (Int × Int))(x:Int):Bool:=kv.any λ p=>decide (p.2=x) && !decide (ae rv p.1=ae rv p.2)
theorem ph(kv rv:List (Int × Int))(p:Int × Int)(x:Int):drB (kv++[p]) rv x=(drB kv rv x || (decide (p.2=x) && !decide (ae rv p.1=ae rv p.2))):=by
 unfold drB;rw [List.any_append];simp
def DrI(kv rv:List (Int × Int))(dv:List (Key × V)):Prop:=dv.length<=kv.length/\∀ x,(cS dv (.inl x)).isSome=drB kv rv x
theorem DrI.skip{kv rv:List (Int × Int)}{dv:List (Key × V)}(h:DrI kv rv dv){p:Int × Int}(e:ae rv p.1=ae rv p.2):DrI (kv++[p]) rv dv:=by
 refine⟨by rw [KY];have:=h.1;omega,λ x=>?_⟩;rw [h.2 x,ph];simp [e]
theorem DrI.put{kv rv:List (Int × Int)}{dv:List (Key × V)}(h:DrI kv rv dv){p:Int × Int}(e:¬ ae rv p.1=ae rv p.2):DrI (kv++[p]) rv (c8 dv (.inl p.2) (.bl true)):=by
 refine⟨?_,λ x=>?_⟩
 ·have:=dm dv (.inl p.2:Key) (.bl true);rw [KY];have:=h.1;simp;omega
 rw [oE,ph,←h.2 x]
 by_cases hx:x=p.2
 ·rw [KZ (LR Sum.inl hx)];simp [hx,e]
 ·rw [KU (oz hx)];simp [Ld hx]
abbrev zo  (d:Addr) (ro:Addr) (H:Hp) (Q:VK) (E:XK):Prop:=∃ (kv rv:List (Int × Int)),H d=some (.dK (aE kv))/\H ro=some (.dK (aE rv))/\d ≠ ro/\kv.length<=4200/\∀ (r:Addr) (H':Hp) (dv:List (Key × V)),H r=none->Ext H H'->H' r=some (.dK dv)->DrI kv rv dv->Q (.ref r) H'
def Hm  : Sp:=λ vs H Q E=>∃ (d:Addr) (ro:Addr),vs=[.ref d,.ref ro]/\(zo  d ro H Q E)
theorem GL  (d:Addr) (ro:Addr) (H:Hp) (Q:VK) (E:XK):Hm  [.ref d,.ref ro] H Q E=(zo  d ro H Q E):=pL (f:=λ (d:Addr) (ro:Addr)=>[.ref d,.ref ro]) (λ _ _ _ _ h=>by cases h;exact⟨rfl,rfl⟩) d ro
theorem Gq  {vs:List V}{H:Hp}{Q:VK}{E:XK}(h:Hm  vs H Q E):vs.length=2:=qR h λ _ _=>rfl
theorem eK(T:Tx K mg t):bp P w K mg base CX0 1 t.a_drawn_from_beyond t.d_drawn_from_beyond ["found", "ring_of"] Hm:=by
 refine T.F_drawn_from_beyond.ok aR (λ vs H Q E h=>Gq h) (λ c A o s' H vs Q E hr h=>?_)
 ·obtain⟨d,ro,rfl,kv,rv,hd,hro,ndr,hl,k⟩:=h;refine⟨_,%[%[2,aR,(@eh _ _)|4],%[(@m9 _ _ _ %[Ll,rfl,(@oT _ _ _ _ _ _ _ _ %[0|0] ∅ ∅),(%[(2),rfl,%[%[3,aR|5],%[%[4,aR|5],(@aC _),∅|12],∅|12],∅,∅|22].mono λ _ _ _ _ h=>bD h),%[%[%[(dE hr.units),(@jW _ _ _ _ _ _ _ (aY hr.units) %[1|0] %[3|0] ⟨by rfl,by rfl,by rfl,by rfl⟩),(@jW _ _ _ _ _ _ _ (aY hr.units) %[1|0] %[4|0] ⟨by rfl,by rfl,by rfl,by rfl⟩),(aL _)|17],%[%[(aY hr.units),%[2|0],%[4|0],(@rm _ _ _ _),rfl|30]|10],(@aW _)|23]|10],(by intros;rfl)|21]),%[%[%[2|0]|13]|10]|9]|9],?_⟩;rw [show start ["found", "ring_of", "drawn", "cell", "origin"] [.ref d,.ref ro]=[some (.ref d),some (.ref ro),none,none,none] from rfl];ac_rfl;intro l H1 hl1 e1 h1;have d1:=e1.at hd;have ndl:d ≠ l:=λ z=>by rw [z,hl1] at hd;cases hd
  ac_rfl;refine lH (λ ob i σ H'=>∃ (v3 v4:Option V) (dv:List (Key × V)),σ=[some (.ref d),some (.ref ro),some (.ref l),v3,v4]/\Ext (upd H d (.frz ob (.dK (aE kv)))) H'/\H' l=some (.dK dv)/\DrI (kv.take i) rv dv) d1 (λ ob=>⟨none,none,[],rfl,tF e1 _ _,by rw [af (Ld ndl)];exact h1,by rw [NM];exact⟨KO _,λ _=>rfl⟩⟩) (λ ob i σ' H' ⟨_,_,_,_,e,_⟩=>e.at ah) ?_ ?_
  ·rintro ob i z p _ H2 H3 hz ⟨v3,v4,dv,rfl,e2,l2,di⟩ hp e3 h3
   obtain⟨y,hy,rfl⟩:∃ y,kv[i]? = some y/\z=((Sum.inl y.1:Key),V.int y.2):=by
    unfold aE at hz;rw [getElem?_map] at hz;obtain⟨y,h1,h2⟩:=Option.map_eq_some_iff.mp hz;exact⟨y,h1,h2.symm⟩
   have ht:kv.take (i+1)=kv.take i++[y]:=by rw [Lx,hy];rfl
   obtain⟨c,o⟩:=y;have ro3:H3 ro=some (.dK (aE rv)):=e3.at (e2.at (by rw [af (Ld ndr)];exact hro));have l3:=e3.at l2;have e23:=e2.trans e3;have hlu:upd H d (.frz ob (.dK (aE kv))) l=none:=by rw [af (Ld ndl)];exact hl1
   rw [show kV ((Sum.inl (c,o).1:Key),V.int (c,o).2).1=V.int c from rfl] at h3;have hl5:dv.length < sizeLine:=bZ (by have:=di.1;rw [LH] at this;omega);exists ht;exists di;clear hz hy d1 h1 k hd hro l2;ac_rfl;refine fB ro3 ?_;ac_rfl;refine g8 (k:=.inl c) ro3 ?_;rw [aq];ac_rfl;refine fB ro3 ?_;ac_rfl;refine g8 (k:=.inl o) ro3 ?_;rw [aq];refine Am ?_
   by_cases e:ae rv c=ae rv o
   ·rw [Nb e];ac_rfl;exact⟨_,_,dv,rfl,e23,(by first|exact l3|rfl),by rw [ht ()];exact(di ()).skip e⟩
   ·rw [LX e];exists e;ac_rfl;refine gT (k:=.inl o) l3 hl5 ?_;exact⟨_,_,_,rfl,e23.put hlu,ah,by rw [ht ()];exact(di ()).put (e ())⟩
  ·rintro ob _ H2 ⟨v3,v4,dv,rfl,e2,l2,di⟩;rw [dc,LG] at di;have e4:=Ext.thaw hd e2;have l4:upd H2 d (.dK (aE kv)) l=some (.dK dv):=by rw [af (Ld ndl)];exact l2
   generalize upd H2 d (.dK (aE kv))=H4 at e4 l4;exists di;ac_rfl;exact k l H4 dv hl1 e4 l4 (di ())
structure RoI(Cl:List (List Int))(kv rv:List (Int × Int)):Prop where
 nd:NdK rv
 sub:∀ x,(ae rv x).isSome=true->(ae kv x).isSome=true
 yes:∀ l∈Cl,∀ x∈l,ae rv x=some (l.headD 0)
 no:∀ x h,ae rv x=some h->∃ l∈Cl,x∈l/\h=l.headD 0
structure RoJ(Cl:List (List Int))(kv rv:List (Int × Int))(dn:List Int)(h:Int)(rv':List (Int × Int)):Prop where
 nd:NdK rv'
 sub:∀ x,(ae rv' x).isSome=true->(ae kv x).isSome=true
 val:∀ x,ae rv' x=if x∈dn then some h else ae rv x
theorem RoJ.len{Cl:List (List Int)}{kv rv rv':List (Int × Int)}{dn:List Int}{h:Int}(j:RoJ Cl kv rv dn h rv'):rv'.length<=kv.length:=by
 have:=cg j.nd λ x hx=>ao.mp (j.sub x (ao.mpr hx))
 simpa using this
theorem RoJ.ini{Cl:List (List Int)}{kv rv:List (Int × Int)}(h:RoI Cl kv rv)(hh:Int):RoJ Cl kv rv [] hh rv:=⟨h.nd,h.sub,λ x=>by rw [KU KJ]⟩
theorem RoJ.put{Cl:List (List Int)}{kv rv rv':List (Int × Int)}{dn:List Int}{h c:Int}(j:RoJ Cl kv rv dn h rv')(hc:(ae kv c).isSome=true):RoJ Cl kv rv (dn++[c]) h (da rv' c h):=by
 refine⟨cV j.nd c h,λ x hx=>?_,λ x=>?_⟩
 ·rw [b7] at hx
  by_cases e:x=c
  ·rw [e];exact hc
  ·rw [KU e] at hx;exact j.sub x hx
 ·rw [b7,j.val x]
  by_cases e:x=c
  ·rw [KZ e,KZ (by rw [e];simp)]
  ·rw [KU e];have:x∈dn++[c] ↔ x∈dn:=by simp [e]
   simp only [this]
theorem RoJ.fin{Cl:List (List Int)}{kv rv rv':List (Int × Int)}{l rg:List Int}(j:RoJ Cl kv rv rg (l.headD 0) rv')(i:RoI Cl kv rv)(hp:l.Perm rg)(hd:∀ l'∈Cl,∀ x∈l',x ∉ rg):RoI (Cl++[l]) kv rv':=by
 refine⟨j.nd,j.sub,λ l' hl' x hx=>?_,λ x h hx=>?_⟩
 ·rw [j.val x]
  rcases Li.mp hl' with hl'|hl'
  ·rw [KU (hd l' hl' x hx)];exact i.yes l' hl' x hx
  ·rw [KN.mp hl'] at hx ⊢;rw [KZ (hp.mem_iff.mp hx)]
 ·rw [j.val x] at hx
  by_cases m:x∈rg
  ·rw [KZ m] at hx;exact⟨l,Lc _ KL,hp.mem_iff.mpr m,(Lf hx).symm⟩
  ·rw [KU m] at hx;obtain⟨l',h1,h2,h3⟩:=i.no x h hx;exact⟨l',Ly _ h1,h2,h3⟩
def G6(kv:List (Int × Int)):Prop:=∀ x y d,ae kv x=some d->ae kv y=some d->x=y
def zr(kv:List (Int × Int))(S:List Int):Prop:=S.Pairwise (· < ·)/\∀ x∈S,∀ y,(ae kv y).isSome=true->y < x->y∈S
theorem zr.pre{kv:List (Int × Int)}{S:List Int}{st:Int}(h:zr kv (S++[st])):zr kv S:=by
 obtain⟨h1,_,h3⟩:=Nj.mp h.1;refine⟨h1,λ x hx y hy hlt=>?_⟩
 rcases Li.mp (h.2 x (Ly _ hx) y hy hlt) with m|m
 ·exact m
 ·have:=h3 x hx st KL;rw [KN.mp m] at hlt;omega
theorem zr.lt{kv:List (Int × Int)}{S:List Int}{st:Int}(h:zr kv (S++[st])){x:Int}(hx:x∈S):x < st:=(Nj.mp h.1).2.2 x hx st KL
def G9(kv:List (Int × Int))(S:List Int)(Cl:List (List Int)):Prop:=G6 kv->zr kv S->(Cl.map λ l=>l.headD 0).Pairwise (· < ·)/\∀ l∈Cl,l.headD 0∈S
theorem G9.more{kv:List (Int × Int)}{S:List Int}{Cl:List (List Int)}(h:G9 kv S Cl)(st:Int):G9 kv (S++[st]) Cl:=λ hi hs=>⟨(h hi hs.pre).1,λ l hl=>Ly _ ((h hi hs.pre).2 l hl)⟩
theorem oR{f:Int->Option Int}{l:List Int}{c:Int}(h:Pth f l c)(hn:l ≠ []):∃ p∈l,f p=some c:=by
 obtain⟨a,p,rfl⟩:∃ a p,l=a++[p]:=⟨l.dropLast,l.getLast hn,(List.dropLast_concat_getLast hn).symm⟩;exact⟨p,by simp,h.right⟩
structure RgI(kv:List (Int × Int))(S:List Int)(wv rv:List (Int × Int))(Cl:List (List Int)):Prop where
 wnd:NdK wv
 sub:∀ x,(ae wv x).isSome=true->(ae kv x).isSome=true
 lab:∀ x v,ae wv x=some v->v∈S
 all:∀ x∈S,(ae wv x).isSome=true
 sr:yz (ae kv) (λ x=>(ae wv x).isSome=true) Cl
 ro:RoI Cl kv rv
 asc:G9 kv S Cl
theorem RgI.nil(kv:List (Int × Int)):RgI kv [] [] [] []:=⟨LL,(λ _ h=>by cases h),(λ _ _ h=>by cases h),λ _ h=>absurd h KJ,⟨(λ _ h=>by cases h),(λ _ _ h=>by cases h),λ _ h=>absurd h KJ,(λ _ _ h=>by cases h),LL⟩,⟨LL,(λ _ h=>by cases h),λ _ h=>absurd h KJ,λ _ _ h=>by cases h⟩,λ _ _=>⟨.nil,λ _ h=>absurd h KJ⟩⟩
theorem fW{f:Int->Option Int}{W W':Int->Prop}{Cl:List (List Int)}(S:yz f W Cl)(h:∀ x,W' x ↔ W x):yz f W' Cl:=by
 have e:W'=W:=funext λ x=>propext (h x);rw [e];exact S
theorem oq{kv wv:List (Int × Int)}{st:Int}{t:List Int}{c:Int}(P:RfP kv wv st)(h:WkE kv wv st t c)(x:Int):(ae (wkD wv st t) x).isSome=true ↔ ((ae wv x).isSome=true\/x∈t):=by
 rw [jy P.wnd h.nd h.new]
 by_cases m:x∈t
 ·rw [KZ m];simp [m]
 ·rw [KU m];simp [m]
theorem RgI.rfp{kv wv rv:List (Int × Int)}{S:List Int}{Cl:List (List Int)}{st:Int}(r:RgI kv S wv rv Cl)(hn:NdK kv)(hl:kv.length<=4200)(hs:st ∉ S):RfP kv wv st:=⟨hn,hl,r.wnd,r.sub,λ x e=>hs (r.lab x st e)⟩
theorem RgI.bas{kv wv rv:List (Int × Int)}{S:List Int}{Cl:List (List Int)}{st c:Int}{t:List Int}(r:RgI kv S wv rv Cl)(P:RfP kv wv st)(h:WkE kv wv st t c)(ho:c ∉ t->(ae kv c).isSome=true->(ae wv c).isSome=true)(hst:(ae kv st).isSome=true) :
  NdK (wkD wv st t)/\(∀ x,(ae (wkD wv st t) x).isSome=true->(ae kv x).isSome=true)/\(∀ x v,ae (wkD wv st t) x=some v->v∈S++[st])/\∀ x∈S++[st],(ae (wkD wv st t) x).isSome=true:=by
 refine⟨Dl h P.wnd,λ x hx=>ao.mpr (rG P h x (ao.mp hx)),λ x v e=>?_,λ x hx=>?_⟩
 ·rw [jy P.wnd h.nd h.new] at e
  by_cases m:x∈t
  ·rw [KZ m] at e;rw [←Lf e];simp
  ·rw [KU m] at e;exact Ly _ (r.lab x v e)
 ·rw [oq P h]
  rcases Li.mp hx with hx|hx
  ·exact .inl (r.all x hx)
  ·rw [KN.mp hx]
   cases t with
   | nil=>
    have e:c=st:=h.hd;subst e;exact .inl (ho KJ hst)
   | cons y t=>
    have e:y=st:=h.hd;subst e;exact .inr KL
theorem RgI.out{kv wv rv:List (Int × Int)}{S:List Int}{Cl:List (List Int)}{st c:Int}{t:List Int}(r:RgI kv S wv rv Cl)(P:RfP kv wv st)(h:WkE kv wv st t c)(ho:c ∉ t->(ae kv c).isSome=true->(ae wv c).isSome=true)(hst:(ae kv st).isSome=true)(hc:c ∉ t):RgI kv (S++[st]) (wkD wv st t) rv Cl:=by
 obtain⟨b1,b2,b3,b4⟩:=r.bas P h ho hst;exact⟨b1,b2,b3,b4,fW (wH r.sr h.pth h.nd (λ x hx z=>by rw [h.new x hx] at z;cases z) hc (ho hc)) (oq P h),r.ro,r.asc.more st⟩
theorem RgI.self{kv wv rv:List (Int × Int)}{S:List Int}{Cl:List (List Int)}{st c:Int}{a:List Int}(r:RgI kv S wv rv Cl)(P:RfP kv wv st)(h:WkE kv wv st (a++[c]) c)(hst:(ae kv st).isSome=true):RgI kv (S++[st]) (wkD wv st (a++[c])) rv Cl:=by
 obtain⟨b1,b2,b3,b4⟩:=r.bas P h (λ z=>absurd (by simp) z) hst;exact⟨b1,b2,b3,b4,fW ((k7 r.sr (b:=[]) h.pth h.nd (λ x hx z=>by rw [h.new x hx] at z;cases z)).2.1 rfl) (oq P h),r.ro,r.asc.more st⟩
theorem RgI.ring{kv wv rv rv':List (Int × Int)}{S:List Int}{Cl:List (List Int)}{st c:Int}{a b a' b':List Int}{m:Int}(r:RgI kv S wv rv Cl)(P:RfP kv wv st)(h:WkE kv wv st (a++c::b) c)(hst:(ae kv st).isSome=true)(hb:b ≠ [])
  (e:c::b=a'++b') (hm:b'.head? = some m) (hl:∀ x∈c::b,m<=x) (j:RoJ Cl kv rv (c::b) ((b'++a').headD 0) rv'):RgI kv (S++[st]) (wkD wv st (a++c::b)) rv' (Cl++[b'++a']):=by
 obtain⟨b1,b2,b3,b4⟩:=r.bas P h (λ z=>absurd (by simp) z) hst;have hw:∀ x∈a++c::b,¬ (ae wv x).isSome=true:=λ x hx z=>by rw [h.new x hx] at z;cases z
 obtain⟨w1,_,w3⟩:=k7 r.sr h.pth h.nd hw
 have h2:2<=(c::b).length:=by cases b with|nil=>exact absurd rfl hb|cons x b=>simp
 have rl:=Jx w1 h2 e hm hl;have pm:(b'++a').Perm (c::b):=by rw [e];exact Ng
 refine⟨b1,b2,b3,b4,fW (w3 _ rl pm) (oq P h),j.fin r.ro pm λ l' hl' x hx hm=>hw x (Lc _ hm) ((r.sr.rng l' hl').2 x hx),λ hi hs=>?_⟩
 have ha:a=[]:=by
  cases a with
  | nil=>rfl
  | cons x a=>
   obtain⟨p,hp,e1⟩:=oR (show Pth (ae kv) (x::a) c from h.pth.left) (NJ _ _);obtain⟨q,hq,e2⟩:=oR (show Pth (ae kv) (c::b) c from h.pth.right) (NJ _ _);have e3:=hi p q c e1 e2;subst e3;exact absurd rfl ((LC.mp h.nd).2.2 p hp p hq)
 subst ha;have hcs:c=st:=h.hd;subst hcs
 have hmm:m∈c::b:=by
  rw [e]
  cases b' with
  | nil=>cases hm
  | cons y b'=>cases hm;simp
 have hmc:m=c:=by
  have h1:=hl c KL
  by_cases hlt:m < c
  ·obtain⟨d,hd,_⟩:=h.pth.mem (show m∈[]++c::b from hmm)
   rcases Li.mp (hs.2 c (by simp) m (by rw [hd];rfl) hlt) with z|z
   ·have h2:=r.all m z;rw [h.new m hmm] at h2;cases h2
   ·rw [KN.mp z] at hlt;omega
  ·omega
 have hh:(b'++a').headD 0=c:=by
  rw [←hmc]
  cases b' with
  | nil=>cases hm
  | cons y b'=>cases hm;rfl
 obtain⟨g1,g2⟩:=r.asc hi hs.pre;refine⟨?_,λ l hl'=>?_⟩
 ·rw [Lk,Nj];refine⟨g1,List.pairwise_singleton _ _,λ x hx y hy=>?_⟩;obtain⟨l,hl',rfl⟩:=KS.mp hx;rw [show y=c from (KN.mp hy).trans hh];exact hs.lt (g2 l hl')
 ·rcases Li.mp hl' with z|z
  ·exact Ly _ (g2 l z)
  ·rw [KN.mp z,hh];simp
theorem CH{kv rv:List (Int × Int)}{Cl:List (List Int)}(hn:NdK kv)(hr:∀ l∈Cl,dO (ae kv) l)(ro:RoI Cl kv rv){l:List Int}(hl:l∈Cl):(!(l.any λ x=>drB kv rv x))=fy (ae kv) (kv.map (·.1)) l:=by
 have key:∀ x,ae rv x=some (l.headD 0) ↔ x∈l:=λ x=>by
  refine⟨λ h=>?_,λ h=>ro.yes l hl x h⟩;obtain⟨l',h1,h2,h3⟩:=ro.no x _ h;have e:l=l':=jS (hr l hl) (hr l' h1) (hr l hl).head_mem (by rw [h3];exact(hr l' h1).head_mem);rw [e];exact h2
 rw [Bool.eq_iff_iff,Bool.not_eq_true',←Bool.not_eq_true,List.any_eq_true];unfold fy;rw [all_eq_true];constructor
 ·intro h c hc;obtain⟨⟨c',d⟩,hp,rfl⟩:=KS.mp hc;rw [bE hn hp]
  by_cases m:c'∈l
  ·simp [m]
  ·by_cases md:d∈l
   ·refine absurd ⟨d,md,?_⟩ h;unfold drB;rw [List.any_eq_true];refine⟨(c',d),hp,?_⟩;have h1:=(key d).mpr md;have h2:¬ ae rv c'=ae rv d:=λ e=>m ((key c').mp (e.trans h1));simp [h2]
   ·simp [md]
 ·rintro h ⟨x,hx,hd⟩;unfold drB at hd;obtain⟨p,hp,hq⟩:=List.any_eq_true.mp hd;simp only [Bool.and_eq_true,decide_eq_true_eq,Bool.not_eq_true',decide_eq_false_iff_not] at hq;have h1:=h p.1 (List.mem_map.mpr ⟨p,hp,rfl⟩);rw [bE hn (show (p.1,p.2)∈kv from hp)] at h1;have m1:p.2∈l:=by rw [hq.1];exact hx
  have m2:p.1 ∉ l:=λ m=>hq.2 (((key _).mpr m).trans ((key _).mpr m1).symm);simp [m1,m2] at h1
theorem ui{kv wv rv:List (Int × Int)}{Cl:List (List Int)}{ms:List Int}(r:RgI kv ms wv rv Cl)(hm:∀ x,x∈ms ↔ x∈kv.map (·.1)){L:List (List Int × Bool)}(hp:L.Perm (Cl.map λ l=>(l,fy (ae kv) (kv.map (·.1)) l)))(hs:L.Pairwise λ p q=>p.1.headD 0<=q.1.headD 0):bN (ae kv) (kv.map (·.1)) L:=by
 have hd:(L.map λ p=>p.1.headD 0).Nodup:=by
  have h1:=hp.map (λ p:List Int × Bool=>p.1.headD 0);rw [LP] at h1;exact h1.nodup_iff.mpr r.sr.nd
 have hs':L.Pairwise λ p q=>p.1.headD 0 < q.1.headD 0:=by
  have h1:L.Pairwise λ p q=>p.1.headD 0 ≠ q.1.headD 0:=Mw.mp hd;refine(hs.and h1).imp λ h=>?_;have h1:=h.1;have h2:=h.2;omega
 refine⟨hs',λ p hpm=>?_,λ l hl=>?_⟩
 ·obtain⟨l,hl,rfl⟩:=KS.mp (hp.mem_iff.mp hpm);exact⟨(r.sr.rng l hl).1,rfl⟩
 ·refine⟨_,hp.mem_iff.mpr (KS.mpr ⟨l,r.sr.all l hl ?_,rfl⟩)⟩;obtain⟨d,h1,_⟩:=hl.1.mem hl.head_mem;exact r.all _ ((hm _).mpr (ao.mp (by rw [h1];rfl)))
def om(S:List Addr)(H:Hp):Hp:=λ b=>if b∈S then none else H b
theorem tM(S:List Addr)(H:Hp):Ext (om S H) H:=iR.ext λ b o h=>by
 unfold om at h
 by_cases hb:b∈S
 ·rw [KZ hb] at h;cases h
 ·rwa [KU hb] at h
theorem jK(w:Addr)(H:Hp):om [w] H w=none:=KZ (by simp)
theorem cN{w b:Addr}{H:Hp}{o:HO}(h:H b=some o)(hn:b ≠ w):om [w] H b=some o:=by
 unfold om;rw [if_neg (by simpa using hn)];exact h
theorem lO{w b:Addr}{H:Hp}(h:om [w] H b=none)(hn:b ≠ w):H b=none:=by
 unfold om at h
 rwa [KU (by simpa using hn)] at h
theorem pw{w:Addr}{H H5 H6:Hp}(e:Ext H H5)(hw:H w=none)(e6:Ext (om [w] H5) H6):Ext H H6:=iR.ext λ b o h=>e6.at (cN (e.at h) λ z=>by rw [z,hw] at h;cases h)
def viI:V->Int
 | .int i=>i
 | _=>0
def InL(H0:Hp)(cl:Addr)(l:List Int)(y:V)(H:Hp):Prop:=∃ r,y=.ref r/\H r=some (.lst (l.map V.int))/\r ≠ cl/\H0 r=none
theorem InL.ext{H0 H H':Hp}{cl:Addr}{l:List Int}{y:V}(h:InL H0 cl l y H)(e:Ext H H'):InL H0 cl l y H':=by
 obtain⟨r,h1,h2,h3,h4⟩:=h;exact⟨r,h1,e.at h2,h3,h4⟩
structure RgH(H0 H:Hp)(w ro cl:Addr)(wv rv:List (Int × Int))(Cl:List (List Int))(ys:List V):Prop where
 e:Ext H0 H
 hw:H w=some (.dK (aE wv))
 hro:H ro=some (.dK (aE rv))
 hcl:H cl=some (.lst ys)
 al:Al (λ l y=>InL H0 cl l y H) Cl ys
theorem RgH.ext{H0 H H':Hp}{w ro cl:Addr}{wv rv:List (Int × Int)}{Cl:List (List Int)}{ys:List V}(h:RgH H0 H w ro cl wv rv Cl ys)(e:Ext H H'):RgH H0 H' w ro cl wv rv Cl ys:=⟨h.e.trans e,e.at h.hw,e.at h.hro,e.at h.hcl,h.al.imp λ _ _ q=>q.ext e⟩
theorem RgH.walk{H0 H H':Hp}{w ro cl:Addr}{wv wv' rv:List (Int × Int)}{Cl:List (List Int)}{ys:List V}(h:RgH H0 H w ro cl wv rv Cl ys)(fw:H0 w=none)(nro:ro ≠ w)(e:Ext (om [w] H) H')(hw:H' w=some (.dK (aE wv'))):RgH H0 H' w ro cl wv' rv Cl ys:=
 ⟨pw h.e fw e,hw,e.at (cN h.hro nro),e.at (cN h.hcl λ z=>by have:=h.hcl;rw [z,h.hw] at this;cases this),h.al.imp λ l y ⟨r,h1,h2,h3,h4⟩=>⟨r,h1,e.at (cN h2 λ z=>by rw [z,h.hw] at h2;cases h2),h3,h4⟩⟩
theorem RgH.app{H0 H:Hp}{w ro cl:Addr}{wv rv:List (Int × Int)}{Cl:List (List Int)}{ys:List V}{l:List Int}{r:Addr}(h:RgH H0 H w ro cl wv rv Cl ys)(fc:H0 cl=none)(hr:H r=some (.lst (l.map V.int)))(nr:r ≠ cl)(fr:H0 r=none):RgH H0 (upd H cl (.lst (ys++[.ref r]))) w ro cl wv rv (Cl++[l]) (ys++[.ref r]):=by
 have nw:w ≠ cl:=λ z=>by have:=h.hw;rw [z,h.hcl] at this;cases this
 have nro:ro ≠ cl:=λ z=>by have:=h.hro;rw [z,h.hcl] at this;cases this
 refine⟨h.e.put fc,by rw [af nw];exact h.hw,by rw [af nro];exact h.hro,ah,(h.al.imp λ l y ⟨r,h1,h2,h3,h4⟩=>⟨r,h1,by rw [af h3];exact h2,h3,h4⟩).snoc ⟨r,rfl,by rw [af nr];exact hr,nr,fr⟩⟩
theorem RgH.put{H0 H:Hp}{w ro cl:Addr}{wv rv rv':List (Int × Int)}{Cl:List (List Int)}{ys:List V}(h:RgH H0 H w ro cl wv rv Cl ys)(fr:H0 ro=none)(nro:ro ≠ w):RgH H0 (upd H ro (.dK (aE rv'))) w ro cl wv rv' Cl ys:=by
 have nc:cl ≠ ro:=λ z=>by have:=h.hcl;rw [z,h.hro] at this;cases this
 exact⟨h.e.put fr,by rw [af (Ld nro)];exact h.hw,ah,by rw [af nc];exact h.hcl,h.al.imp λ l y ⟨r,h1,h2,h3,h4⟩=>⟨r,h1,by rw [af λ z=>by rw [z,h.hro] at h2;cases h2];exact h2,h3,h4⟩⟩
def Few(kv:List (Int × Int)):Prop:=∀ Cl:List (List Int),(∀ l∈Cl,dO (ae kv) l)->(Cl.map λ l=>l.headD 0).Nodup->Cl.length < 64
def RwR(H:Hp)(r:Addr)(p:List Int × Bool)(y:V)(H':Hp):Prop:=∃ q l,y=.ref q/\H' q=some (.tup [.ref l,.bl p.2])/\H' l=some (.lst (p.1.map V.int))/\H l=none/\l ≠ r
def Ku(H H':Hp)(r:Addr)(L:List (List Int × Bool)):Prop:=∃ ys,H' r=some (.lst ys)/\H r=none/\Al (λ p y=>RwR H r p y H') L ys
abbrev me  (d:Addr) (H:Hp) (Q:VK) (E:XK):Prop:=∃ kv:List (Int × Int),H d=some (.dK (aE kv))/\NdK kv/\kv.length<=4200/\jx (kv.map (·.1))/\(Few kv\/G6 kv)/\∀ (L:List (List Int × Bool)) (r:Addr) (H':Hp),bN (ae kv) (kv.map (·.1)) L->Ext H H'->Ku H H' r L->Q (.ref r) H'
def mS  : Sp:=λ vs H Q E=>∃ (d:Addr),vs=[.ref d]/\(me  d H Q E)
theorem lU  (d:Addr) (H:Hp) (Q:VK) (E:XK):mS  [.ref d] H Q E=(me  d H Q E):=gM (f:=λ (d:Addr)=>[.ref d]) (λ _ _ h=>by cases h;exact rfl) d
theorem u7  {vs:List V}{H:Hp}{Q:VK}{E:XK}(h:mS  vs H Q E):vs.length=1:=gD h λ _=>rfl
theorem oW(T:Tx K mg t):bp P w K mg base CX0 4 t.a_rings t.d_rings ["found"] mS:=by
 have G_ring_from:=%[ml|35];have G_least_first:=%[iV|35];have G_drawn_from_beyond:=%[eK|35];have G_first_cell:=%[km|35];refine T.F_rings.ok dg (λ vs H Q E h=>u7 h) (λ c A o s' H vs Q E hr h=>?_)
 ·obtain⟨d,rfl,kv,hd,hnd,h4,hE,hF,k⟩:=h;refine⟨_,%[%[1,dg,(@eh _ _)|4],%[%[2,dg,(@eh _ _)|4],%[%[3,dg,%[(@cw _)|18]|4],%[%[Ll,rfl,%[%[sorted,(qG rfl),%[%[0|0]|1]|6]|20],%[4,dg|5],%[%[5,dg,%[ring_from,%[%[0|0],%[%[4|0],%[%[1|0]|1]|1]|1]|3]|4],%[%[%[wb,%[len,aH,%[%[5|0]|1]|6],%[0|2],(aL _)|17],%[%[%[K1,Ln,Lm,aV,%[3|0],%[%[least_first,%[%[5|0]|1]|3]|1],∅,∅,∅,∅,∅|24],∅|14],%[%[Ll,rfl,%[%[5|0]|20],%[6,dg|5],%[%[(aY hr.units),%[2|0],%[6|0],%[gk,%[gk,%[3|0],(@rj _ _ _ _ _ _ g9 %[0|2]),(λ _ _=>rfl)|16],%[0|2],(λ _ _=>rfl)|16],rfl|30]|10],(by intros;rfl)|21]|10]|9],(@aW _)|23]|10]|9],(by intros;rfl)|21],%[(@gp _ _ (7) _ _ _ _ dg.nd rfl (Or.inr rfl) %[drawn_from_beyond,%[%[0|0],%[%[2|0]|1]|1]|3] ∅ %[0|7]),%[(@ng _ _ _ _ _ _ _ _ _ _ _ _ _ (["ring", "found", "walked", "ring_of", "closed", "start", "!ring", "cell", "drawn", "told"]) (1) (8) _ dg.nd rfl (Or.inl rfl) (bh (aa jC) ["found", "walked", "ring_of", "closed", "start", "ring", "cell", "drawn", "told"] rfl rfl nofun) rfl %[%[3|0]|20] (λ C s₀ H₀ ex pn=>%[(0),_,(show List.Nodup (["ring", "found", "walked", "ring_of", "closed", "start", "!ring", "cell", "drawn", "told"]:List Str) from by decide +kernel),rfl,(Or.inl rfl),%[0|7]|19]) (λ C s₀ H₀ ex pn=>(@bM _)) (λ C s₀ H₀ ex pn=>%[%[%[0|0],%[(@sS _ _ _ _ %[any,(vF rfl),%[%[(["cell", "ring", "found", "walked", "ring_of", "closed", "start", "!ring", "!cell", "drawn", "told"]),(1),(bh _ ["ring", "found", "walked", "ring_of", "closed", "start", "!ring", "cell", "drawn", "told"] rfl rfl (by kernel_rfl)),rfl,(@AI _ _ _ _ (K) rfl %[0|0]),(λ C s₀ H₀ ex pn=>%[(0),_,(show List.Nodup (["cell", "ring", "found", "walked", "ring_of", "closed", "start", "!ring", "!cell", "drawn", "told"]:List Str) from by decide +kernel),rfl,(Or.inl rfl),%[0|7]|19]),(λ C s₀ H₀ ex pn=>(@bM _)),(λ C s₀ H₀ ex pn=>(@jE _ _ _ _ _ _ _ _ (sj (aY hr.units)) %[0|0] %[9|0] (by with_unfolding_all rfl))),(by intros;rfl)|26]|1]|6])|1]|1]|15]) ∅ (by intros;rfl) %[0|7]),%[%[(@uv _ ("sorted") _ _ _ _ _ _ _ _ _ _ (qF G_first_cell (hr.mono ⋯) T.b_first_cell) ∅ T.z_sorted nofun %[%[8|0]|1] (@AH _ _ _ _ _ _ _ (@eR _ _ (.ref t.a_first_cell) _ _ ∅ T.m_first_cell rfl ⋯) (@Ej _)) ⋯ ⋯ ∅ ∅ ∅ ∅ ∅)|13]|10]|9]|9]|9]|9]|9]|9],?_⟩;rw [show start ["found", "walked", "ring_of", "closed", "start", "ring", "cell", "drawn", "told"] [.ref d]=[some (.ref d),none,none,none,none,none,none,none,none] from rfl];clear G_ring_from G_least_first G_drawn_from_beyond G_first_cell;exists hE;exists hF;exists hnd;ac_rfl;intro w H1 hw1 e1 h1;ac_rfl;intro ro H2 hr2 e2 h2;ac_rfl;intro cl H3 hc3 e3 h3;have e03:=e1.trans (e2.trans e3);have d3:=e03.at hd;have w3:=(e2.trans e3).at h1;have ro3:=e3.at h2;have fw:H w=none:=hw1;have fro:H ro=none:=e1.free hr2;have fcl:H cl=none:=(e1.trans e2).free hc3;have nro:ro ≠ w:=λ z=>by rw [z,h1] at hr2;cases hr2
  clear hw1 h1 hr2 h2 hc3 e1 e2 e3;ac_rfl;refine wL d3 (wR kv) (aN (by rw [KG];omega)) (hE ()) λ ms hpm hso=>?_;intro S H4 hS4 e4 s4;have gh:RgH H H4 w ro cl [] [] [] []:=⟨e03.trans e4,e4.at w3,e4.at ro3,e4.at h3,Al.nil⟩;have nSc:S ≠ cl:=λ z=>by rw [z,h3] at hS4;cases hS4
  have nSw:S ≠ w:=λ z=>by rw [z,w3] at hS4;cases hS4
  have nSr:S ≠ ro:=λ z=>by rw [z,ro3] at hS4;cases hS4
  have hmm:∀ x,x∈ms ↔ x∈kv.map (·.1):=λ x=>hpm.mem_iff;have hmn:ms.Nodup:=hpm.nodup_iff.mpr (hnd ());have hss:zr kv ms:=⟨(List.Pairwise.and hso hmn).imp (λ ⟨z1,z2⟩=>by omega),λ x _ y hy _=>(hmm y).mpr (ao.mp hy)⟩;exists hss;exists hmm;exists hmn;clear d3 w3 ro3 h3 hS4 e4 e03 hpm;ac_rfl;refine cL (xs:=ms.map V.int) (λ i σ H'=>∃ (v4 v5 v6:Option V) (wv rv:List (Int × Int)) (Cl:List (List Int)) (ys:List V),σ=[some (.ref d),some (.ref w),some (.ref ro),some (.ref cl),v4,v5,v6,none,none]/\RgH H H' w ro cl wv rv Cl ys/\RgI kv (ms.take i) wv rv Cl/\H' S=some (.lst (ms.map V.int))) ⟨none,none,none,[],[],[],[],rfl,gh,by rw [NM];exact RgI.nil kv,s4⟩ (λ i σ H' _ ⟨_,_,_,_,_,_,_,_,_,_,q⟩=>q) ?_ ?_
  ·rintro i x _ H5 hx ⟨v4,v5,v6,wv,rv,Cl,ys,rfl,gh5,gi,s5⟩;rw [La] at hx;obtain⟨st,hst,rfl⟩:=KW.mp hx;have hsk:(ae kv st).isSome=true:=ao.mpr ((hmm () st).mp (Lh hst));have htk:ms.take (i+1)=ms.take i++[st]:=by rw [Lx,hst];rfl
   have hsn:st ∉ ms.take i:=λ hm=>by
    have h1:=hmn ();rw [←Mn i ms,LC] at h1;exact h1.2.2 st hm st (Lh (i:=0) (by rw [Oe];simpa using hst)) rfl
   have P0:=gi.rfp (hnd ()) h4 hsn;have d5:=cN (w:=w) (gh5.e.at hd) (λ z=>by rw [z,fw] at hd;cases hd);exists P0;exists gi;exists htk;exists hsk;exists gh5;exists d5;clear hx hst hsn gh s4;ac_rfl;rw [GH];refine⟨om [w] H5,kv,wv,tM _ _,jK _ _,d5 (),(gh5 ()).hw,P0 (),λ tr c r H6 we ho hr6 nrw e6 w6 h6=>?_⟩;have gh6:=(gh5 ()).walk fw nro e6 w6;have s6:=e6.at (cN (w:=w) s5 nSw);exists gh6;exists we;exists ho;clear s5 w6
   by_cases hct:c∈tr
   ·obtain⟨a,b,rfl,hca⟩:=dk hct;rw [rW hca] at h6
    cases b with
    | nil=>
     have gi':=(gi ()).self (P0 ()) (we ()) (hsk ());rw [←htk ()] at gi';exists gi';ac_rfl;exact⟨_,_,_,_,rv,Cl,ys,rfl,gh6 (),gi' ()⟩
    | cons b0 b=>
     have hb1:(1:Int) < ((b.length+1+1:Nat):Int):=by omega
     have h5c:(c::b0::b).length<=4200:=by
      have h1:=rH (P0 ()) (we ());unfold wkD at h1;rw [length_append,length_map,length_append] at h1;omega
     have hys:ys.length<=4200:=by
      have h1:=cg (gi ()).sr.nd (b:=kv.map (·.1)) λ x hx=>by
       obtain⟨l,hl,rfl⟩:=KS.mp hx;obtain⟨d,h1,_⟩:=((gi ()).sr.rng l hl).1.1.mem ((gi ()).sr.rng l hl).1.head_mem;exact ao.mp (by rw [h1];rfl)
      rw [KG,KG,←(gh6 ()).al.1] at h1;omega
     have hinr:∀ x∈c::b0::b,(ae kv x).isSome=true:=λ x hx=>by
      obtain⟨d,h1,_⟩:=(we ()).pth.mem (Lc _ hx);rw [h1];rfl
     have nrc:r ≠ cl:=λ z=>by
      have h1:=lO hr6 nrw;rw [z,(gh5 ()).hcl] at h1;cases h1
     have nrr:r ≠ ro:=λ z=>by
      have h1:=lO hr6 nrw;rw [z,(gh5 ()).hro] at h1;cases h1
     exists h5c;exists hys;exists hinr;have c6:=(gh6 ()).hcl;have h6b:=h6;rw [Lo,Lo] at h6b;exists h6;ac_rfl;rw [GJ];refine⟨c::b0::b,h6 (),by simp,by have:=h5c ();omega,λ a' b' m r2 H7 ea hm hle hr7 e7 h7=>?_⟩
     obtain⟨bs,rfl⟩:∃ bs,b'=m::bs:=by
      cases b' with
      | nil=>cases hm
      | cons y bs=>cases hm;exact⟨bs,rfl⟩
     have gh7:=(gh6 ()).ext e7;have c7:=gh7.hcl;have r7:=e7.at (h6 ());have s7:=e7.at s6;have n2:r2 ≠ cl:=λ z=>by rw [z,c6] at hr7;cases hr7
     have n2r:r2 ≠ ro:=λ z=>by rw [z,(gh6 ()).hro] at hr7;cases hr7
     have gh8:=gh7.app fcl h7 n2 ((gh6 ()).e.free hr7);have at1:atI (ys++[V.ref r2]) (-1)=some (.ref r2):=pB ys _;exists ea;exists hle;clear c6 h6b s6 h6 hr7 gh7;ac_rfl;refine⟨bZ (by have:=hys ();omega),?_⟩;have r8:upd H7 cl (.lst (ys++[V.ref r2])) r=some (.lst ((c::b0::b).map V.int)):=by rw [af nrc];exact r7
     have q8:upd H7 cl (.lst (ys++[V.ref r2])) r2=some (.lst ((m::bs++a').map V.int)):=by rw [af n2];exact h7
     have s8:upd H7 cl (.lst (ys++[V.ref r2])) S=some (.lst (ms.map V.int)):=by rw [af nSc];exact s7
     generalize upd H7 cl (.lst (ys++[V.ref r2]))=H8 at gh8 r8 q8 s8;clear c7 r7 s7 h7 e7;exists gh8;have jn:=RoJ.ini (gi ()).ro m;ac_rfl;refine cL (xs:=(c::b0::b).map V.int) (λ i2 σ H'=>∃ (v6:Option V) (rv':List (Int × Int)),σ=[some (.ref d),some (.ref w),some (.ref ro),some (.ref cl),some (.int st),some (.ref r),v6,none,none]/\RgH H H' w ro cl (wkD wv st (a++c::b0::b)) rv' (Cl++[m::bs++a']) (ys++[.ref r2])/\RoJ Cl kv rv ((c::b0::b).take i2) m rv'/\H' r=some (.lst ((c::b0::b).map V.int))/\H' r2=some (.lst ((m::bs++a').map V.int))/\H' S=some (.lst (ms.map V.int))) ⟨v6,rv,rfl,gh8 (),jn,r8,q8,s8⟩ (λ i2 σ H' _ ⟨_,_,_,_,_,q,_⟩=>q) ?_ ?_
     ·rintro i2 x _ H9 hx ⟨v6',rv',rfl,gh9,j9,r9,q9,s9⟩;rw [La] at hx;obtain⟨ce,hce,rfl⟩:=KW.mp hx;have htk2:(c::b0::b).take (i2+1)=(c::b0::b).take i2++[ce]:=by rw [Lx,hce];rfl
      have j10:=j9.put (hinr () ce (Lh hce));rw [←htk2] at j10;have gh10:=gh9.put (rv':=da rv' ce m) fro nro;have c9:=gh9.hcl;have o9:=gh9.hro;have hl5:(aE rv').length < sizeLine:=bZ (by rw [dc];have:=j9.len;omega);have r10:upd H9 ro (.dK (aE (da rv' ce m))) r=some (.lst ((c::b0::b).map V.int)):=by rw [af nrr];exact r9
      have q10:upd H9 ro (.dK (aE (da rv' ce m))) r2=some (.lst ((m::bs++a').map V.int)):=by rw [af n2r];exact q9
      have s10:upd H9 ro (.dK (aE (da rv' ce m))) S=some (.lst (ms.map V.int)):=by rw [af nSr];exact s9
      have q9':H9 r2=some (.lst (V.int m::(bs++a').map V.int)):=q9;exists gh10;exists j10;exists r10;exists q10;exists s10;clear hx hce htk2 gh9 j9 r9 q9 s9 jn r8 q8 s8;ac_rfl;refine gT (k:=.inl ce) o9 hl5 ?_;rw [eg];exact⟨_,_,rfl,gh10 (),j10 (),r10 (),q10 (),s10 ()⟩
     ·rintro _ H9 ⟨v6',rv',rfl,gh9,j9,r9,q9,s9⟩;rw [KG,LG] at j9;have gi':=(gi ()).ring (P0 ()) (we ()) (hsk ()) (NJ _ _) (ea ()) hm (hle ()) j9;rw [←htk ()] at gi';exists gi';exists gh9;exact⟨_,_,_,_,rv',_,_,rfl,gh9 (),gi' (),s9⟩
   ·rw [rV hct] at h6;have gi':=(gi ()).out (P0 ()) (we ()) (ho ()) (hsk ()) hct;rw [←htk ()] at gi';exists gi';ac_rfl;exact⟨_,_,_,_,rv,Cl,ys,rfl,gh6 (),gi' ()⟩
  ·rintro _ H5 ⟨v4,v5,v6,wv,rv,Cl,ys,rfl,gh5,gi,s5⟩;rw [KG,LG] at gi;have d5:=gh5.e.at hd;have ndr:d ≠ ro:=λ z=>by rw [z,fro] at hd;cases hd
   have hro5:=gh5.hro;exists gi;exists gh5;clear s5 gh s4;ac_rfl;rw [GL];refine⟨kv,rv,d5,hro5,ndr,h4,λ dr H6 dv hr6 e6 h6 di=>?_⟩;have gh6:=(gh5 ()).ext e6;have c6:=gh6.hcl;have al6:=gh6.al
   have hCl:Cl.length<=4200:=by
    have h1:=cg (gi ()).sr.nd (b:=kv.map (·.1)) λ x hx=>by
     obtain⟨l,hl,rfl⟩:=KS.mp hx;obtain⟨d,h1,_⟩:=((gi ()).sr.rng l hl).1.1.mem ((gi ()).sr.rng l hl).1.head_mem;exact ao.mp (by rw [h1];rfl)
    rw [KG,KG] at h1;omega
   have hll:∀ l∈Cl,l.length<=4200:=λ l hl=>by
    have h1:=cg ((gi ()).sr.rng l hl).1.1.nodup (b:=kv.map (·.1)) λ x hx=>by
     obtain⟨d,h1,_⟩:=((gi ()).sr.rng l hl).1.1.mem hx;exact ao.mp (by rw [h1];rfl)
    rw [KG] at h1;omega
   have hbr:∀ l∈Cl,(!(l.any λ x=>(cS dv (.inl x)).isSome))=fy (ae kv) (kv.map (·.1)) l:=λ l hl=>by
    rw [←CH (hnd ()) (λ l hl=>((gi ()).sr.rng l hl).1) (gi ()).ro hl];congr 2;funext x;exact di.2 x
   exists gh6;exists al6;exists hll;exists hbr;clear d5 hro5 hr6 di;ac_rfl;refine iw Cl (λ _=>true) (λ l x _=>InL H cl l x H6) (λ D l y H'=>∃ q r,y=.ref q/\H' q=some (.tup [.ref r,.bl (fy (ae kv) (kv.map (·.1)) l)])/\H' r=some (.lst (l.map V.int))/\H r=none/\r ≠ D) (iS (R:=λ l y _=>InL H cl l y H6) (λ _ _ _ _ q _=>q) c6 (al6 ())).1 (iS (R:=λ l y _=>InL H cl l y H6) (λ _ _ _ _ q _=>q) c6 (al6 ())).2 (λ D z y H1 H2 ⟨q,r,a1,a2,a3,a4,a5⟩ e=>⟨q,r,a1,e.at a2,e.at a3,a4,a5⟩) (λ D z y H1 xs o ⟨q,r,a1,a2,a3,a4,a5⟩ hD=>⟨q,r,a1,by rw [af λ z=>by rw [z,hD] at a2;cases a2];exact a2,by rw [af a5];exact a3,a4,a5⟩) (aN %[0|8]) ?_ ?_
   ·intro D l x H7 N1 N0 hlm hD e7 _ p k1 _;obtain⟨r,rfl,hr6,_,hrn⟩:=p;have hrD:r ≠ D:=λ z=>by rw [z,hD] at hr6;cases hr6
    have r7:=e7.at hr6;have dr7:=e7.at h6;have hl7:=hll () l hlm;have hb7:=hbr () l hlm;replace k1:=λ (_:Unit)=>k1 rfl;exists hb7;clear hlm hD h6 c6 k;simp! only [↓aM,↓aZ];refine cp (l.map V.int) (λ _=>true) (λ z=>.bl (cS dv (Sum.inl (viI z))).isSome) (λ z x H'=>x=z/\H' r=some (.lst (l.map V.int))) (i7 r7).1 (i7 r7).2 (aN (by rw [KG];omega)) ?_ ?_
    ·intro L2 z x H' M1 M0 hz hL2 e ⟨hx,_⟩ j1 _;subst hx;obtain⟨c,_,rfl⟩:=KS.mp hz;have dr8:=e.at dr7;have j1':M1 (.bl (cS dv (Sum.inl c)).isSome) H':=j1 rfl H' (Ext.refl _);clear j1 hz k1;simp! only [↓aM,↓aZ];refine eL (k:=Sum.inl c) dr8 ?_;simp! only [↓aM,↓aZ]
    intro L2 H8 hL2 e8 h8
    have h8':H8 L2=some (.lst ((l.map λ x=>(cS dv (Sum.inl x)).isSome).map V.bl)):=by
     rw [h8,LP,Np.mpr (λ _ _=>rfl),LP];rfl
    have hany:(l.map λ x=>(cS dv (Sum.inl x)).isSome).any id = !(fy (ae kv) (kv.map (·.1)) l):=by
     rw [←hb7 (),List.any_map,Bool.not_not];rfl
    have bl5:(l.map λ x=>(cS dv (Sum.inl x)).isSome).length<=4200:=by rw [KG];exact hl7
    have r8:=e8.at r7;generalize (l.map λ x=>(cS dv (Sum.inl x)).isSome)=bs at h8' hany bl5;clear h8 dr7 r7;ac_rfl;rw [Bool.not_not];intro q H9 hq9 e9 h9;exact k1 () _ H9 (e8.trans e9) ⟨q,r,rfl,h9,e9.at r8,hrn,hrD⟩
   ·intro D ys2 H7 hD e7 h7 al7;rw [Np.mpr (λ _ _=>rfl)] at al7;exists al7;have e07:=(gh6 ()).e.trans e7;clear h6 c6;ac_rfl;refine wK (Cl.map λ l=>l.headD 0) h7 (by rw [KG];exact((al7 ()).1).symm) ((hF ()).elim (λ hF=>.inl (by rw [KG];exact hF Cl (λ l hl=>((gi ()).sr.rng l hl).1) (gi ()).sr.nd)) λ hI=>.inr (.inl (((gi ()).asc hI (hss ())).1.imp λ z=>Int.le_of_lt z))) (λ i x kk hx hk Q' E' hq=>?_) λ out hpo hso=>?_
    ·rw [La] at hk;obtain⟨l,hl,rfl⟩:=KW.mp hk;obtain⟨q,r,rfl,a2,a3,_,_⟩:=(al7 ()).2 i l x hl hx;obtain⟨c,cs,rfl,_⟩:=((gi ()).sr.rng l (Lh hl)).1.1;rw [GK];exact⟨r,_,c,cs.map V.int,a2,a3,hq⟩
    ·intro r9 H9 hr9 e9 h9
     have ez:(Cl.map λ l=>l.headD 0).zip ys2=(Cl.zip ys2).map λ t=>(t.1.headD 0,t.2):=by
      rw [List.zip_map_left];rfl
     obtain⟨T',hT,rfl⟩:=jg hpo _ ez
     have hmem:∀ z∈T',z.1∈Cl/\∃ q r,z.2=.ref q/\H7 q=some (.tup [.ref r,.bl (fy (ae kv) (kv.map (·.1)) z.1)])/\H7 r=some (.lst (z.1.map V.int))/\H r=none/\r ≠ D:=λ z hz=>by
      have h1:=hT.mem_iff.mp hz;obtain⟨j,hj,ej⟩:=L0 h1;have hzz:(Cl.zip ys2)[j]? = some z:=by rw [KA hj,ej]
      obtain⟨g1,g2⟩:=L8.mp hzz;exact⟨Lh g1,(al7 ()).2 j z.1 z.2 g1 g2⟩
     have hLp:(T'.map λ z=>(z.1,fy (ae kv) (kv.map (·.1)) z.1)).Perm (Cl.map λ l=>(l,fy (ae kv) (kv.map (·.1)) l)):=by
      have h1:=(hT.map Prod.fst).map λ l=>(l,fy (ae kv) (kv.map (·.1)) l);rw [LP,OG (by rw [(al7 ()).1];exact KO _)] at h1;exact h1
     have hLs:(T'.map λ z=>(z.1,fy (ae kv) (kv.map (·.1)) z.1)).Pairwise λ p q=>p.1.headD 0<=q.1.headD 0:=by
      rw [Mw] at hso ⊢;exact hso
     refine k _ r9 H9 (ui (gi ()) (hmm ()) hLp hLs) (e07.trans e9) ⟨_,h9,e07.free hr9,by simp,λ i p y hp hy=>?_⟩;rw [La] at hp;obtain⟨z,hz,rfl⟩:=KW.mp hp;rw [La,La,hz] at hy;cases hy;obtain⟨_,q,r,a1,a2,a3,a4,_⟩:=hmem z (Lh hz);exact⟨q,r,a1,e9.at a2,e9.at a3,a4,λ zz=>by rw [zz,hr9] at a3;cases a3⟩
def eI(kv:List (Int × Int))(c:Int):Int:=(ae kv c).getD c
theorem df{kv:List (Int × Int)}{c d:Int}(h:ae kv c=some d):eI kv c=d:=by unfold eI;rw [h];rfl
def WrP(kv:List (Int × Int))(c:Int):Prop:=∃ d,ae kv c=some d/\d ≠ c
def rdL(kv:List (Int × Int))(D:List Int)(o:Int):List (Int × Int):=kv.filter λ p=>decide (p.2=o) && (!decide (p.1=o) && !decide (p.1∈D))
def rdr(kv:List (Int × Int))(D:List Int)(o:Int):Nat:=(rdL kv D o).length
theorem ni{kv:List (Int × Int)}{D:List Int}{o:Int}{p:Int × Int}:p∈rdL kv D o ↔ p∈kv/\p.2=o/\p.1 ≠ o/\p.1 ∉ D:=by
 unfold rdL;rw [List.mem_filter];simp
theorem jT{kv:List (Int × Int)}{D:List Int}{o:Int}:rdr kv D o=0 ↔ ∀ p∈kv,p.2=o->p.1 ≠ o->p.1∈D:=by
 unfold rdr;rw [List.length_eq_zero_iff];constructor
 ·intro h p hp h1 h2
  by_cases m:p.1∈D
  ·exact m
  ·exact absurd (ni.mpr ⟨hp,h1,h2,m⟩) (by rw [h];exact KJ)
 ·intro h
  cases e:rdL kv D o with
  | nil=>rfl
  | cons p r=>
   obtain⟨h1,h2,h3,h4⟩:=ni.mp (show p∈rdL kv D o by rw [e];exact KL);exact absurd (h p h1 h2 h3) h4
theorem gx{α:Type}[DecidableEq α]{P Q:α->Bool}{a:α}:∀ {l:List α},l.Nodup->a∈l->P a=true->Q a=false->(∀ x∈l,x ≠ a->Q x=P x)->(l.filter Q).length+1=(l.filter P).length
 | [],_,h,_,_,_=>absurd h KJ
 | x::l,hn,h,hp,hq,he=>by
  have hn':=Lv.mp hn;rw [Ny,Ny]
  by_cases e:x=a
  ·subst e;rw [hp,hq];have:l.filter Q=l.filter P:=Ou λ y hy=>he y (KI _ hy) λ z=>hn'.1 (by rw [←z];exact hy);simp [this]
  ·have h':a∈l:=(K2.mp h).resolve_left λ z=>e z.symm;have ih:=gx hn'.2 h' hp hq λ y hy=>he y (KI _ hy);rw [he x KL e];split
   ·rw [Lz,Lz];omega
   ·exact ih
theorem p9{kv:List (Int × Int)}(h:NdK kv):kv.Nodup:=by
 have h1:kv.Pairwise λ p q=>p.1 ≠ q.1:=Mw.mp h;rw [Mv];exact h1.imp λ hn e=>hn (by rw [e])
theorem xc{kv:List (Int × Int)}(hn:NdK kv){D:List Int}{c o:Int}(hc:ae kv c=some o)(hco:o ≠ c)(hD:c ∉ D)(x:Int):rdr kv (D++[c]) x+(if x=o then 1 else 0)=rdr kv D x:=by
 by_cases hx:x=o
 ·subst hx;rw [if_pos rfl];unfold rdr rdL;refine gx (a:=(c,x)) (p9 hn) (b8 hc) ?_ ?_ λ y hy hne=>?_
  ·have:¬ c=x:=λ e=>hco e.symm;simp [this,hD]
  ·simp
  ·have hyc:y.1 ≠ c:=λ e=>hne (by
    have h1:=bE hn (show (y.1,y.2)∈kv from hy);rw [e,hc] at h1;exact Prod.ext e (Lf h1).symm)
   simp [hyc]
 ·rw [if_neg hx,Nat.add_zero];unfold rdr rdL;congr 1;refine List.filter_congr λ y hy=>?_
  by_cases hy2:y.2=x
  ·have hyc:y.1 ≠ c:=λ e=>hx (by
    have h1:=bE hn (show (y.1,y.2)∈kv from hy);rw [e,hc] at h1;rw [←hy2];exact(Lf h1).symm)
   simp [hyc]
  ·simp [hy2]
structure BsI(kv:List (Int × Int))(D fr:List Int):Prop where
 dn:D.Nodup
 wr:∀ c∈D,WrP kv c
 ord:∀ D0 d D1,D=D0++d::D1->∀ p∈kv,p.2=d->p.1 ≠ d->p.1∈D0
 fn:fr.Nodup
 fi:∀ c,c∈fr ↔ c ∉ D/\WrP kv c/\rdr kv D c=0
theorem BsI.dz{kv:List (Int × Int)}{D fr:List Int}(b:BsI kv D fr){d:Int}(h:d∈D):rdr kv D d=0:=by
 obtain⟨D0,D1,rfl⟩:=MI h;exact jT.mpr λ p hp h1 h2=>Ly _ (b.ord D0 d D1 rfl p hp h1 h2)
theorem BsI.next{kv:List (Int × Int)}(hn:NdK kv){D fr:List Int}{c o:Int}(b:BsI kv D (fr++[c]))(hc:ae kv c=some o):o ≠ c/\c ∉ D/\o ∉ D/\(∀ x,rdr kv (D++[c]) x+(if x=o then 1 else 0)=rdr kv D x)/\(rdr kv (D++[c]) o=0->WrP kv o->BsI kv (D++[c]) (fr++[o]))/\(¬ (rdr kv (D++[c]) o=0/\WrP kv o)->BsI kv (D++[c]) fr):=by
 obtain⟨hcD,⟨d,hd,hdc⟩,hr0⟩:=(b.fi c).mp (by simp);rw [hc] at hd;obtain rfl:=Lf hd;have st:=xc hn hc hdc hcD;have hro:1<=rdr kv D o:=by have:=st o;rw [KZ rfl] at this;omega
 have hoD:o ∉ D:=λ m=>by have:=b.dz m;omega
 have fnn:=LC.mp b.fn;have hcf:c ∉ fr:=λ m=>fnn.2.2 c m c KL rfl;have hof:o ∉ fr:=λ m=>by have:=((b.fi o).mp (Ly _ m)).2.2;omega
 have dn':(D++[c]).Nodup:=by
  rw [LC];exact⟨b.dn,Lv.mpr ⟨KJ,LL⟩,λ x hx y hy e=>hcD (by rw [←KN.mp hy,←e];exact hx)⟩
 have wr':∀ x∈D++[c],WrP kv x:=λ x hx=>(Li.mp hx).elim (b.wr x) λ z=>by rw [KN.mp z];exact⟨o,hc,hdc⟩
 have ord':∀ D0 d D1,D++[c]=D0++d::D1->∀ p∈kv,p.2=d->p.1 ≠ d->p.1∈D0:=by
  intro D0 d D1 e
  rcases L9 D1 with h|⟨D2,y,h⟩
  ·subst h
   have e2:D=D0/\c=d:=by
    have:=List.append_inj' e rfl;exact⟨this.1,(LN this.2).1⟩
   obtain⟨rfl,rfl⟩:=e2;exact λ p hp h1 h2=>jT.mp hr0 p hp h1 h2
  ·subst h;have e2:D++[c]=(D0++d::D2)++[y]:=by rw [e];simp
   have:=(List.append_inj' e2 rfl).1;exact b.ord D0 d D2 this
 have key:∀ x,x ≠ o->((x ∉ D++[c]/\WrP kv x/\rdr kv (D++[c]) x=0) ↔ x∈fr):=by
  intro x hx;have h1:=st x;rw [KU hx,NO] at h1;rw [h1];have h2:=b.fi x;rw [Li,KN] at h2;rw [Li,KN];constructor
  ·rintro ⟨a1,a2,a3⟩;have:=h2.mpr ⟨λ m=>a1 (.inl m),a2,a3⟩;exact this.resolve_right λ z=>a1 (.inr z)
  ·intro m;obtain⟨a1,a2,a3⟩:=h2.mp (.inl m);exact⟨λ z=>z.elim a1 λ e=>hcf (by rw [←e];exact m),a2,a3⟩
 refine⟨hdc,hcD,hoD,st,λ h0 hw=>⟨dn',wr',ord',?_,λ x=>?_⟩,λ h0=>⟨dn',wr',ord',fnn.1,λ x=>?_⟩⟩
 ·rw [LC];exact⟨fnn.1,Lv.mpr ⟨KJ,LL⟩,λ x hx y hy e=>hof (by rw [←KN.mp hy,←e];exact hx)⟩
 ·by_cases hx:x=o
  ·subst hx;have:x ∉ D++[c]:=λ m=>(Li.mp m).elim hoD λ z=>hdc (KN.mp z);simp only [this,hw,h0,M8,and_self,iff_true];simp
  ·rw [key x hx,Li,KN];exact⟨λ m=>m.resolve_right hx,.inl⟩
 ·by_cases hx:x=o
  ·subst hx;exact⟨λ m=>absurd m hof,λ ⟨_,a2,a3⟩=>absurd ⟨a3,a2⟩ h0⟩
  ·exact(key x hx).symm
theorem BsI.ring{kv:List (Int × Int)}(hn:NdK kv){D fr:List Int}(b:BsI kv D fr){l:List Int}(hl:fS (ae kv) l)(h2:2<=l.length):∀ x∈l,x ∉ D:=by
 have pre:∀ x∈l,∃ p∈l,ae kv p=some x/\p ≠ x:=by
  intro x hx;obtain⟨t,r,pm⟩:=hl.from hx;obtain⟨_,_,e,hp,hnd⟩:=r;obtain⟨rfl,rfl⟩:=LN e
  have ht:t ≠ []:=λ z=>by
   have:=pm.length_eq;rw [z] at this;simp at this;omega
  obtain⟨t0,z,rfl⟩:=(L9 t).resolve_left ht;have h1:Pth (ae kv) [z] x:=(show Pth (ae kv) ((x::t0)++[z]) x by simpa using hp).right;refine⟨z,pm.mem_iff.mp (by simp),h1,λ e=>?_⟩;rw [Lv] at hnd;exact hnd.1 (by rw [e];simp)
 have go:∀ n D0 D1,D0.length=n->D=D0++D1->∀ x∈l,x ∉ D0:=by
  intro n
  induction n with
  | zero=>intro D0 D1 h0 _ x _ m;rw [NH.mp h0] at m;exact absurd m KJ
  | succ n ih=>
   intro D0 D1 h0 e x hx m;obtain⟨D2,y,rfl⟩:=(L9 D0).resolve_left (λ z=>by rw [z] at h0;simp at h0);have e2:D=D2++y::D1:=by rw [e];simp
   have ih':=ih D2 (y::D1) (by simpa using h0) e2;rw [Mq] at m
   rcases Li.mp m with m|m
   ·exact ih' x hx m
   ·rw [KN] at m;subst m;obtain⟨p,hp,hpx,hne⟩:=pre x hx;exact ih' p hp (b.ord D2 x D1 e2 (p,x) (b8 hpx) rfl hne)
 exact λ x hx m=>go D.length D [] rfl (by simp) x hx m
theorem BsI.left{kv:List (Int × Int)}(hn:NdK kv){D:List Int}(b:BsI kv D []){c:Int}(hw:WrP kv c)(hc:c ∉ D):∃ l,fS (ae kv) l/\2<=l.length/\c∈l:=by
 have pre:∀ x,WrP kv x->x ∉ D->∃ p,ae kv p=some x/\p ≠ x/\WrP kv p/\p ∉ D:=by
  intro x hx hxD;have h0:¬ rdr kv D x=0:=λ h0=>absurd ((b.fi x).mpr ⟨hxD,hx,h0⟩) KJ
  cases e:rdL kv D x with
  | nil=>exact absurd (by unfold rdr;rw [e];rfl) h0
  | cons p r=>
   obtain⟨h1,h2,h3,h4⟩:=ni.mp (show p∈rdL kv D x by rw [e];exact KL);have h5:=bE hn (show (p.1,p.2)∈kv from h1);rw [h2] at h5;exact⟨p.1,h5,h3,⟨x,h5,λ z=>h3 z.symm⟩,h4⟩
 have go:∀ n (p:Int) (t:List Int),kv.length+1<=(p::t).length+n->Pth (ae kv) (p::t) c->(p::t++[c]).Nodup->WrP kv p->p ∉ D->(∀ x∈p::t++[c],(ae kv x).isSome=true)->∃ l,fS (ae kv) l/\2<=l.length/\c∈l:=by
  intro n
  induction n with
  | zero=>
   intro p t hlen _ hnd _ _ hk;have h1:=cg hnd (b:=kv.map (·.1)) λ x hx=>ao.mp (hk x hx);rw [KG,KY] at h1;simp at h1 hlen;omega
  | succ n ih=>
   intro p t hlen hp hnd hwp hpD hk;obtain⟨q,hq,hqp,hwq,hqD⟩:=pre p hwp hpD
   by_cases hqc:q=c
   ·subst hqc;refine⟨p::t++[q],⟨p,t++[q],rfl,?_,hnd⟩,by simp,by simp⟩;exact Pth.snoc (t:=p::t) hp hq
   ·refine ih q (p::t) (by simp at hlen ⊢;omega) ⟨hq,hp⟩ ?_ hwq hqD λ x hx=>?_
    ·rw [Mz,Lv];refine⟨λ m=>?_,hnd⟩;rw [Mz,K2] at m
     rcases m with m|m
     ·exact hqp m
     ·rcases Li.mp m with m|m
      ·obtain⟨u,v,huv⟩:=MI (KI p m);have hnd2:=hnd;have hpp:Pth (ae kv) (u++q::v) c:=by rw [←huv];exact hp
       have h1:=hpp.right.head;rw [hq] at h1;have h2:p=v.headD c:=Lf h1
       cases u with
       | nil=>
        have e:=(LN huv).1;exact hqp e.symm
       | cons u0 u=>
        have e:=(LN huv);rw [Mz,Lv] at hnd2;refine hnd2.1 ?_;rw [e.2]
        cases v with
        | nil=>rw [h2];simp
        | cons v0 v=>rw [h2];simp
      ·exact hqc (KN.mp m)
    ·rw [Mz,K2] at hx
     rcases hx with rfl|hx
     ·rw [hq];rfl
     ·exact hk x hx
 obtain⟨p,hp,hpc,hwp,hpD⟩:=pre c hw hc;obtain⟨d,hd,_⟩:=hw;refine go kv.length p [] (by simp;omega) hp ?_ hwp hpD λ x hx=>?_
 ·simp [hpc]
 ·simp at hx
  rcases hx with rfl|rfl
  ·rw [hp];rfl
  ·rw [hd];rfl
def dJ(s:Int->Int):List (Int × Int)->Int->Int
 | []=>s
 | (a,b)::r=>dJ (λ x=>if x=b then s a else s x) r
theorem gE(r1 r2:List (Int × Int)):∀ s:Int->Int,dJ s (r1++r2)=dJ (dJ s r1) r2:=by
 induction r1 with
 | nil=>intro s;rfl
 | cons p r ih=>intro s;exact ih _
def bU(kv:List (Int × Int))(D:List Int):List (Int × Int):=D.map λ c=>(eI kv c,c)
theorem wV{P:List Int->Prop}(h0:P [])(hs:∀ l x,P l->P (l++[x])):∀ l,P l:=by
 have:∀ n l,l.length=n->P l:=by
  intro n
  induction n with
  | zero=>intro l h;rw [NH.mp h];exact h0
  | succ n ih=>
   intro l h;obtain⟨l0,x,rfl⟩:=(L9 l).resolve_left (λ z=>by rw [z] at h;simp at h);rw [Mq] at h ⊢;exact hs l0 x (ih l0 (by simpa using h))
 exact λ l=>this _ l rfl
theorem GN{kv:List (Int × Int)}:∀ D:List Int,D.Nodup->(∀ c∈D,WrP kv c)->(∀ D0 d D1,D=D0++d::D1->∀ p∈kv,p.2=d->p.1 ≠ d->p.1∈D0)->∀ x,dJ id (bU kv D) x=if x∈D then eI kv x else x:=by
 refine wV (λ _ _ _ x=>by rw [KU KJ];rfl) λ D c ih hn hw ho x=>?_;have hn':=LC.mp hn;have hcD:c ∉ D:=λ m=>hn'.2.2 c m c KL rfl;have ih':=ih hn'.1 (λ d hd=>hw d (Ly _ hd)) λ D0 d D1 e=>ho D0 d (D1++[c]) (by rw [e];simp);obtain⟨o,hco,hoc⟩:=hw c (by simp)
 have hoD:o ∉ D:=λ m=>by
  obtain⟨A,B,e⟩:=MI m;have:=ho A o (B++[c]) (by rw [e];simp) (c,o) (b8 hco) rfl (λ z=>hoc z.symm);exact hcD (by rw [e];simp [this])
 have e1:bU kv (D++[c])=bU kv D++[(eI kv c,c)]:=by unfold bU;rw [map_append];rfl
 rw [e1,gE]
 show (if x=c then dJ id (bU kv D) (eI kv c) else dJ id (bU kv D) x)=_
 rw [ih',ih',df hco,KU hoD]
 by_cases hx:x=c
 ·rw [KZ hx,KZ (by rw [hx];simp),hx,df hco]
 ·rw [KU hx];have:x∈D++[c] ↔ x∈D:=by simp [hx]
  simp only [this]
def mH:List Int->Int->List (Int × Int)
 | [],_=>[]
 | [c],e=>[(e,c)]
 | c::d::t,e=>(d,c)::mH (d::t) e
theorem fC(e:Int):∀ l:List Int,(mH l e).length=l.length
 | []=>rfl
 | [c]=>rfl
 | c::d::t=>by
  show (mH (d::t) e).length+1=_
  rw [fC e (d::t)];rfl
theorem oK(e:Int):∀ (l:List Int) (z:Int),mH (l++[z]) e=((l++[z]).zip (l++[z]).tail).map (λ p=>(p.2,p.1))++[(e,z)]
 | [],z=>rfl
 | [c],z=>rfl
 | c::d::t,z=>by
  have ih:=oK e (d::t) z
  show (d,c)::mH ((d::t)++[z]) e=_
  rw [ih];rfl
theorem mZ(e:Int):∀ (l:List Int),∀ p∈mH l e,(p.1=e\/p.1∈l)/\p.2∈l
 | [],p,h=>absurd h KJ
 | [c],p,h=>by rw [KN.mp h];simp
 | c::d::t,p,h=>by
  rcases K2.mp h with rfl|h
  ·simp
  ·obtain⟨h1,h2⟩:=mZ e (d::t) p h;exact⟨h1.imp id (KI _),KI _ h2⟩
theorem mY{kv:List (Int × Int)}{e z:Int}:∀ (t:List Int) (c:Int) (s:Int->Int),(∀ x∈c::t,s x=x)->(c::t).Nodup->e ∉ c::t->s e=z->Pth (ae kv) (c::t) z->∀ x,dJ s (mH (c::t) e) x=if x∈c::t then eI kv x else s x
 | [],c,s,hs,hn,he,hz,hp,x=>by
  show (if x=c then s e else s x)=_
  have h1:eI kv c=z:=df hp
  by_cases hx:x=c
  ·rw [KZ hx,KZ (by rw [hx];simp),hz,hx,h1]
  ·rw [KU hx,KU (by simpa using hx)]
 | d::t,c,s,hs,hn,he,hz,hp,x=>by
  have hn':=Lv.mp hn
  show dJ (λ x=>if x=c then s d else s x) (mH (d::t) e) x=_
  have hec:¬ e=c:=λ z=>he (by rw [z];exact KL);rw [mY t d _ (λ y hy=>?_) hn'.2 (λ m=>he (KI _ m)) (by show (if e=c then _ else _)=z;rw [KU hec];exact hz) hp.2]
  ·by_cases hx:x=c
   ·have h1:x ∉ d::t:=λ m=>hn'.1 (by rw [←hx];exact m);rw [KU h1]
    show (if x=c then s d else s x)=_
    rw [KZ hx,KZ (by rw [hx];exact KL),hs d (by simp),hx,df hp.1]
   ·have h2:x∈c::d::t ↔ x∈d::t:=by rw [K2];simp [hx]
    simp only [h2,KU hx]
  ·have hyc:¬ y=c:=λ z=>hn'.1 (by rw [←z];exact hy)
   show (if y=c then s d else s y)=y
   rw [KU hyc];exact hs y (KI _ hy)
def pQ(kv:List (Int × Int))(D:List Int)(p:List Int × Bool)(rs:List (Int × Int)):Prop:=(p.2=true/\rs=(p.1.headD 0,-1)::mH p.1 (-1))\/(p.2=false/\∃ a r0 b e,p.1=a++r0::b/\e∈D/\ae kv e=some r0/\rs=mH (r0::b++a) e)
theorem pQ.len{kv:List (Int × Int)}{D:List Int}{p:List Int × Bool}{rs:List (Int × Int)}(h:pQ kv D p rs):rs.length=p.1.length+(if p.2=true then 1 else 0):=by
 rcases h with ⟨h1,h2⟩|⟨h1,a,r0,b,e,h2,_,_,h3⟩
 ·rw [h2,Lz,fC,KZ h1]
 ·rw [h3,fC,KU (by rw [h1];exact Lb),h2,KY,KY];omega
def InK(kv:List (Int × Int))(x:Int):Prop:=x=-1\/x∈kv.map (·.1)\/x∈kv.map (·.2)
theorem pQ.ink{kv:List (Int × Int)}{D:List Int}{p:List Int × Bool}{rs:List (Int × Int)}(h:pQ kv D p rs)(hr:dO (ae kv) p.1):∀ q∈rs,InK kv q.1/\InK kv q.2:=by
 have hk:∀ x∈p.1,InK kv x:=λ x hx=>by
  obtain⟨d,h1,_⟩:=hr.1.mem hx;exact .inr (.inl (ao.mp (by rw [h1];rfl)))
 rcases h with ⟨h1,rfl⟩|⟨h1,a,r0,b,e,h2,he,hf,rfl⟩
 ·intro q hq
  rcases K2.mp hq with rfl|hq
  ·exact⟨hk _ hr.head_mem,.inl rfl⟩
  ·obtain⟨g1,g2⟩:=mZ _ _ q hq;exact⟨g1.elim .inl (hk _),hk _ g2⟩
 ·intro q hq;have pm:∀ x,x∈r0::b++a->x∈p.1:=λ x hx=>by rw [h2];rw [Li] at hx ⊢;exact hx.symm
  obtain⟨g1,g2⟩:=mZ _ _ q hq;refine⟨g1.elim (λ z=>?_) λ z=>hk _ (pm _ z),hk _ (pm _ g2)⟩;rw [z];exact .inr (.inl (ao.mp (by rw [hf];rfl)))
def StR(kv:List (Int × Int))(D:List Int)(Lp:List (List Int × Bool))(rows:List (Int × Int)):Prop:=∀ x,x ≠ -1->dJ id rows x=if x∈D\/∃ p∈Lp,x∈p.1 then eI kv x else x
theorem StR.add{kv:List (Int × Int)}{D:List Int}{Lp:List (List Int × Bool)}{rows rs:List (Int × Int)}{p:List Int × Bool}(h:StR kv D Lp rows)(hr:dO (ae kv) p.1)(hD:∀ x∈p.1,x ∉ D)(hL:∀ q∈Lp,∀ x∈p.1,x ∉ q.1)(h1:-1 ∉ p.1)(hD1:-1 ∉ D)(hw:pQ kv D p rs):StR kv D (Lp++[p]) (rows++rs):=by
 have old:∀ x∈p.1,dJ id rows x=x:=λ x hx=>by
  rw [h x (λ z=>h1 (by rw [←z];exact hx)),KU];rintro (m|⟨q,hq,m⟩)
  ·exact hD x hx m
  ·exact hL q hq x hx m
 have fin:∀ s:Int->Int,(∀ x,s x=if x∈p.1 then eI kv x else dJ id rows x)->∀ x,x ≠ -1->s x=if x∈D\/∃ q∈Lp++[p],x∈q.1 then eI kv x else x:=by
  intro s hs x hx;rw [hs x]
  by_cases m:x∈p.1
  ·rw [KZ m,KZ (.inr ⟨p,by simp,m⟩)]
  ·rw [KU m,h x hx]
   have:(x∈D\/∃ q∈Lp++[p],x∈q.1) ↔ (x∈D\/∃ q∈Lp,x∈q.1):=by
    constructor
    ·rintro (z|⟨q,hq,z⟩)
     ·exact .inl z
     ·rcases Li.mp hq with hq|hq
      ·exact .inr ⟨q,hq,z⟩
      ·rw [KN.mp hq] at z;exact absurd z m
    ·rintro (z|⟨q,hq,z⟩)
     ·exact .inl z
     ·exact .inr ⟨q,Ly _ hq,z⟩
   simp only [this]
 rcases hw with ⟨_,rfl⟩|⟨_,a,r0,b,e,hp,he,hf,rfl⟩
 ·intro x hx;rw [gE];obtain⟨c,t,hct,hpth,hnd⟩:=hr.1;have hh:p.1.headD 0=c:=by rw [hct];rfl
  show dJ (λ y=>if y=-1 then dJ id rows (p.1.headD 0) else dJ id rows y) (mH p.1 (-1)) x=_
  rw [hct,mY (kv:=kv) (z:=c) t c _ (λ y hy=>?_) hnd (by rw [←hct];exact h1) (by show (if (-1:Int)=-1 then _ else _)=c;rw [KZ rfl,←hct,hh];exact old c (by rw [hct];simp)) hpth]
  ·have:=fin (λ x=>if x∈p.1 then eI kv x else dJ id rows x) (λ _=>rfl) x hx;rw [←this]
   show (if x∈c::t then eI kv x else if x=-1 then _ else dJ id rows x)=(if x∈p.1 then _ else _)
   rw [KU hx,hct]
  ·have hy':y∈p.1:=by rw [hct];exact hy
   show (if y=-1 then _ else dJ id rows y)=y
   rw [KU λ z=>h1 (by rw [←z];exact hy')];exact old y hy'
 ·intro x hx;rw [gE];have rr:fS (ae kv) (r0::b++a):=by have:=hr.1;rw [hp] at this;exact this.rot
  have pm:∀ x,x∈r0::b++a ↔ x∈p.1:=λ x=>by rw [hp,Li,Li];exact Or.comm
  obtain⟨c,t,hct,hpth,hnd⟩:=rr;obtain⟨rfl,rfl⟩:=LN hct
  have hse:dJ id rows e=r0:=by
   rw [h e (λ z=>hD1 (by rw [←z];exact he)),KZ (.inl he),df hf]
  have hep:e ∉ r0::(b++a):=λ m=>hD e ((pm e).mp m) he
  show dJ (dJ id rows) (mH (r0::(b++a)) e) x=_
  rw [mY (kv:=kv) (z:=r0) (b++a) r0 _ (λ y hy=>old y ((pm y).mp hy)) hnd hep hse hpth];have:=fin (λ x=>if x∈p.1 then eI kv x else dJ id rows x) (λ _=>rfl) x hx;rw [←this];have e2:x∈r0::(b++a) ↔ x∈p.1:=pm x;simp only [e2]
theorem pX{f:Int->Option Int}{l:List Int}(h:fS f l)(h2:2<=l.length):∃ l',dO f l'/\l'.Perm l:=by
 have hne:l ≠ []:=h.ne
 obtain⟨M,hM,hm⟩:∃ M∈l,∀ x∈l,M<=x:=by
  have:∀ l:List Int,l ≠ []->∃ M∈l,∀ x∈l,M<=x:=by
   intro l
   induction l with
   | nil=>intro h;exact absurd rfl h
   | cons y l ih=>
    intro _
    by_cases e:l=[]
    ·subst e;exact⟨y,by simp,λ x hx=>by rw [KN.mp hx];exact Nr _⟩
    ·obtain⟨M,h1,h2⟩:=ih e
     by_cases hy:y<=M
     ·exact⟨y,by simp,λ x hx=>(K2.mp hx).elim (λ z=>by rw [z];exact Nr _) λ z=>OC hy (h2 x z)⟩
     ·exact⟨M,KI _ h1,λ x hx=>(K2.mp hx).elim (λ z=>by rw [z];omega) (h2 x)⟩
  exact this l hne
 obtain⟨a,b,e⟩:=MI hM;exact⟨(M::b)++a,Jx h h2 e rfl hm,by rw [e];exact Ng⟩
def wrN(kv:List (Int × Int)):Nat:=(kv.filter λ p=>!decide (p.2=p.1)).length
def wA(kv rows:List (Int × Int)):Prop:=(∀ x,x ≠ -1->dJ id rows x=eI kv x)/\(∀ q∈rows,InK kv q.1/\InK kv q.2)/\(∀ L,bN (ae kv) (kv.map (·.1)) L->rows.length=wrN kv+(L.filter (·.2)).length)/\∃ L,bN (ae kv) (kv.map (·.1)) L
theorem t9{kv:List (Int × Int)}(hn:NdK kv)(x:Int):x∈(kv.filter λ p=>!decide (p.2=p.1)).map (·.1) ↔ WrP kv x:=by
 constructor
 ·intro h;obtain⟨p,hp,rfl⟩:=KS.mp h;obtain⟨h1,h2⟩:=Mo.mp hp;exact⟨p.2,bE hn h1,by simpa using h2⟩
 ·rintro ⟨d,h1,h2⟩;exact KS.mpr ⟨(x,d),Mo.mpr ⟨b8 h1,by simpa using h2⟩,rfl⟩
theorem nA:∀ {L:List (List Int × Bool)},(∀ p∈L,p.1.Nodup)->L.Pairwise (λ p q=>∀ x∈p.1,x ∉ q.1)->(L.flatMap (·.1)).Nodup
 | [],_,_=>LL
 | p::L,h1,h2=>by
  obtain⟨a,b⟩:=MV.mp h2;rw [ND,LC];refine⟨h1 p KL,nA (λ q hq=>h1 q (KI _ hq)) b,λ x hx y hy e=>?_⟩;obtain⟨q,hq,hyq⟩:=Mj.mp hy;exact a q hq x hx (by rw [e];exact hyq)
theorem fe{kv:List (Int × Int)}{L:List (List Int × Bool)}(h:bN (ae kv) (kv.map (·.1)) L):L.Pairwise (λ p q=>∀ x∈p.1,x ∉ q.1):=by
 have h1:=h.1;have h2:=h.2.1;clear h
 induction L with
 | nil=>exact .nil
 | cons p L ih=>
  obtain⟨a,b⟩:=MV.mp h1;refine MV.mpr ⟨λ q hq x hx hxq=>?_,ih b λ q hq=>h2 q (KI _ hq)⟩;have e:=jS (h2 p KL).1 (h2 q (KI _ hq)).1 hx hxq;have:=a q hq;rw [e] at this;omega
theorem w9{kv rows:List (Int × Int)}(hn:NdK kv){D:List Int}(b:BsI kv D []){L:List (List Int × Bool)}(hL:bN (ae kv) (kv.map (·.1)) L)(st:StR kv D L rows)(ik:∀ q∈rows,InK kv q.1/\InK kv q.2)(hlen:rows.length=D.length+(L.map λ p=>p.1.length+if p.2=true then 1 else 0).sum):wA kv rows:=by
 have dich:∀ x,WrP kv x ↔ (x∈D\/∃ p∈L,x∈p.1):=by
  intro x;constructor
  ·intro hw
   by_cases m:x∈D
   ·exact .inl m
   ·obtain⟨l,h1,h2,h3⟩:=b.left hn hw m;obtain⟨l',h4,h5⟩:=pX h1 h2;obtain⟨bb,hb⟩:=hL.2.2 l' h4;exact .inr ⟨(l',bb),hb,h5.mem_iff.mpr h3⟩
  ·rintro (m|⟨p,hp,m⟩)
   ·exact b.wr x m
   ·have rl:=(hL.2.1 p hp).1;obtain⟨d,h1,h2⟩:=rl.1.mem m;refine⟨d,h1,λ e=>?_⟩;subst e;obtain⟨t,r,pm⟩:=rl.1.from m;obtain⟨_,_,e,hpth,hnd⟩:=id r;obtain⟨rfl,rfl⟩:=LN e
    cases t with
    | nil=>have:=pm.length_eq;have:=rl.2.1;simp at *;omega
    | cons y t=>
     have h3:=hpth.1;rw [h1] at h3;rw [Lv] at hnd;exact hnd.1 (by rw [Lf h3];exact KL)
 refine⟨λ x hx=>?_,ik,λ L2 hL2=>?_,L,hL⟩
 ·rw [st x hx]
  by_cases hw:WrP kv x
  ·rw [KZ ((dich x).mp hw)]
  ·rw [if_neg λ z=>hw ((dich x).mpr z)];unfold eI
   cases e:ae kv x with
   | none=>rfl
   | some d=>
    show x=d
    by_cases hd:d=x
    ·exact hd.symm
    ·exact absurd ⟨d,e,hd⟩ hw
 ·obtain rfl:=hL.eq hL2
  have nd1:(D++L.flatMap (·.1)).Nodup:=by
   rw [LC];refine⟨b.dn,nA (λ p hp=>(hL.2.1 p hp).1.1.nodup) (fe hL),λ x hx y hy e=>?_⟩;obtain⟨p,hp,hyp⟩:=Mj.mp hy;exact b.ring hn (hL.2.1 p hp).1.1 (hL.2.1 p hp).1.2.1 y hyp (by rw [←e];exact hx)
  have nd2:((kv.filter λ p=>!decide (p.2=p.1)).map (·.1)).Nodup:=List.Sublist.nodup (List.Sublist.map _ List.filter_sublist) hn
  have mm:∀ x,x∈D++L.flatMap (·.1) ↔ x∈(kv.filter λ p=>!decide (p.2=p.1)).map (·.1):=λ x=>by
   rw [t9 hn,dich,Li,Mj]
  have l1:=cg nd1 λ x hx=>(mm x).mp hx;have l2:=cg nd2 λ x hx=>(mm x).mpr hx;rw [length_map] at l1 l2;have e1:(D++L.flatMap (·.1)).length=wrN kv:=by unfold wrN;omega
  rw [KY] at e1
  have e2:∀ L:List (List Int × Bool),(L.map λ p=>p.1.length+if p.2=true then 1 else 0).sum=(L.flatMap (·.1)).length+(L.filter (·.2)).length:=by
   intro L
   induction L with
   | nil=>rfl
   | cons p L ih=>
    rw [Lo,Od,ih,ND,KY,Ny];split
    ·rename_i h;rw [Lz];omega
    ·omega
  rw [hlen,e2];omega
theorem jU(l:List (Int × Int))(p:Int × Int)(o:Int):rdr (l++[p]) [] o=rdr l [] o+(if p.2=o/\p.1 ≠ o then 1 else 0):=by
 unfold rdr rdL;rw [List.filter_append,length_append];congr 1
 by_cases h:p.2=o/\p.1 ≠ o
 ·rw [KZ h];simp [h.1,h.2]
 ·rw [KU h]
  have:(decide (p.2=o) && (!decide (p.1=o) && !decide (p.1∈([]:List Int))))=false:=by
   by_cases h1:p.2=o
   ·have h2:p.1=o:=Classical.byContradiction λ z=>h ⟨h1,z⟩;simp [h2]
   ·simp [h1]
  rw [Ny,this];rfl
def rdV(kv:List (Int × Int))(D:List Int)(o:Int):Option Int:=if rdr kv [] o=0 then none else some (rdr kv D o:Int)
structure RdI(l:List (Int × Int))(rv:List (Int × Int)):Prop where
 nd:NdK rv
 len:rv.length<=l.length
 val:∀ o,ae rv o=rdV l [] o
theorem RdI.nil:RdI [] []:=⟨LL,KO _,λ o=>rfl⟩
theorem RdI.skip{l rv:List (Int × Int)}(h:RdI l rv){p:Int × Int}(e:p.1=p.2):RdI (l++[p]) rv:=by
 refine⟨h.nd,by rw [KY];have:=h.len;omega,λ o=>?_⟩;have h0:rdr (l++[p]) [] o=rdr l [] o:=by rw [jU,KU (show ¬ (p.2=o/\p.1 ≠ o) from λ z=>z.2 (e.trans z.1)),NO]
 rw [h.val o];unfold rdV;rw [h0]
theorem RdI.put{l rv:List (Int × Int)}(h:RdI l rv){p:Int × Int}(e:¬ p.1=p.2):RdI (l++[p]) (da rv p.2 ((ae rv p.2).getD 0+1)):=by
 refine⟨cV h.nd _ _,?_,λ o=>?_⟩
 ·have:=jV rv p.2 ((ae rv p.2).getD 0+1);rw [KY];have:=h.len;simp;omega
 ·rw [b7]
  by_cases ho:o=p.2
  ·subst ho;have h0:rdr (l++[p]) [] p.2=rdr l [] p.2+1:=by rw [jU,KZ ⟨rfl,e⟩]
   rw [if_pos rfl,h.val];unfold rdV;rw [h0,if_neg (show ¬ (rdr l [] p.2+1=0) by omega)]
   by_cases hz:rdr l [] p.2=0
   ·rw [KZ hz,hz];rfl
   ·rw [KU hz]
    show some ((rdr l [] p.2:Int)+1)=some (((rdr l [] p.2+1:Nat)):Int)
    congr 1
  ·have h0:rdr (l++[p]) [] o=rdr l [] o:=by rw [jU,KU (show ¬ (p.2=o/\p.1 ≠ o) from λ z=>ho z.1.symm),NO]
   rw [if_neg ho,h.val];unfold rdV;rw [h0]
abbrev zh  (d:Addr) (H:Hp) (Q:VK) (E:XK):Prop:=∃ kv:List (Int × Int),H d=some (.dK (aE kv))/\kv.length<=4200/\∀ (rv:List (Int × Int)) (r:Addr) (H':Hp),RdI kv rv->H r=none->Ext H H'->H' r=some (.dK (aE rv))->Q (.ref r) H'
def Hh  : Sp:=λ vs H Q E=>∃ (d:Addr),vs=[.ref d]/\(zh  d H Q E)
theorem GG  (d:Addr) (H:Hp) (Q:VK) (E:XK):Hh  [.ref d] H Q E=(zh  d H Q E):=gM (f:=λ (d:Addr)=>[.ref d]) (λ _ _ h=>by cases h;exact rfl) d
theorem Gj  {vs:List V}{H:Hp}{Q:VK}{E:XK}(h:Hh  vs H Q E):vs.length=1:=gD h λ _=>rfl
theorem kl(T:Tx K mg t):bp P w K mg base CX0 1 t.a_readers_of t.d_readers_of ["found"] Hh:=by
 refine T.F_readers_of.ok cH (λ vs H Q E h=>Gj h) (λ c A o s' H vs Q E hr h=>?_)
 ·obtain⟨d,rfl,kv,hd,hl,k⟩:=h;refine⟨_,%[%[1,cH,(@eh _ _)|4],%[(@m9 _ _ _ %[Ll,rfl,(@oT _ _ _ _ _ _ _ _ %[0|0] ∅ ∅),(%[(2),rfl,%[%[2,cH|5],%[%[3,cH|5],(@aC _),∅|12],∅|12],∅,∅|22].mono λ _ _ _ _ h=>bD h),%[%[%[(dE hr.units),%[2|0],%[3|0],(aL _)|17],%[%[(aY hr.units),%[1|0],%[3|0],%[bY,(@oV _ _ _ _ _ _ _ _ _ (aY hr.units) %[1|0] %[3|0] %[0|2] ⟨by rfl,by rfl,by rfl,by rfl⟩),%[0|2]|11],rfl|30]|10],(@aW _)|23]|10],(by intros;rfl)|21]),%[%[%[1|0]|13]|10]|9]|9],?_⟩;rw [show start ["found", "readers", "cell", "origin"] [.ref d]=[some (.ref d),none,none,none] from rfl];ac_rfl;intro l H1 hl1 e1 h1;have d1:=e1.at hd;have ndl:d ≠ l:=λ z=>by rw [z,hl1] at hd;cases hd
  ac_rfl;refine lH (λ ob i σ H'=>∃ (v3 v4:Option V) (rv:List (Int × Int)),σ=[some (.ref d),some (.ref l),v3,v4]/\Ext (upd H d (.frz ob (.dK (aE kv)))) H'/\H' l=some (.dK (aE rv))/\RdI (kv.take i) rv) d1 (λ ob=>⟨none,none,[],rfl,tF e1 _ _,by rw [af (Ld ndl)];exact h1,by rw [NM];exact RdI.nil⟩) (λ ob i σ' H' ⟨_,_,_,_,e,_⟩=>e.at ah) ?_ ?_
  ·rintro ob i z p _ H2 H3 hz ⟨v3,v4,rv,rfl,e2,l2,di⟩ hp e3 h3
   obtain⟨y,hy,rfl⟩:∃ y,kv[i]? = some y/\z=((Sum.inl y.1:Key),V.int y.2):=by
    unfold aE at hz;rw [getElem?_map] at hz;obtain⟨y,h1,h2⟩:=Option.map_eq_some_iff.mp hz;exact⟨y,h1,h2.symm⟩
   have ht:kv.take (i+1)=kv.take i++[y]:=by rw [Lx,hy];rfl
   obtain⟨c,o⟩:=y;have l3:=e3.at l2;have e23:=e2.trans e3;have hlu:upd H d (.frz ob (.dK (aE kv))) l=none:=by rw [af (Ld ndl)];exact hl1
   rw [show kV ((Sum.inl (c,o).1:Key),V.int (c,o).2).1=V.int c from rfl] at h3;have hl5:(aE rv).length < sizeLine:=bZ (by rw [dc];have:=di.len;rw [LH] at this;omega);exists ht;clear hz hy d1 h1 k hd l2
   by_cases e:c=o
   ·have di2:=di.skip (p:=(c,o)) e;rw [←ht ()] at di2;subst e;exists di;ac_rfl;exact⟨_,_,rv,rfl,e23,rfl,di2⟩
   ·have di2:=di.put (p:=(c,o)) e;rw [←ht ()] at di2;exists di;exists di2;ac_rfl;refine mL l3 ?_;ac_rfl;refine rJ (k:=.inl o) l3 ?_;rw [aq,show ((ae rv o).map V.int).getD (.int 0)=.int ((ae rv o).getD 0) by cases ae rv o<;>rfl];ac_rfl;refine gT (k:=.inl o) l3 hl5 ?_;rw [eg];exact⟨_,_,_,rfl,e23.put hlu,ah,di2 ()⟩
  ·rintro ob _ H2 ⟨v3,v4,rv,rfl,e2,l2,di⟩;rw [dc,LG] at di;have e4:=Ext.thaw hd e2;have l4:upd H2 d (.dK (aE kv)) l=some (.dK (aE rv)):=by rw [af (Ld ndl)];exact l2
   generalize upd H2 d (.dK (aE kv))=H4 at e4 l4;exists di;ac_rfl;exact k rv l H4 (di ()) hl1 e4 l4
theorem ue(i:Nat)(σ:St)(H:Hp)(nx:St->Hp->Prop):wg i σ (Dg H nx)=kP H (wg i σ nx):=rfl
def twR(p:Int × Int)(y:V)(H:Hp):Prop:=∃ q,y=.ref q/\H q=some (.tup [.int p.1,.int p.2])
theorem twR.ext{p:Int × Int}{y:V}{H H':Hp}(h:twR p y H)(e:Ext H H'):twR p y H':=by
 obtain⟨q,h1,h2⟩:=h;exact⟨q,h1,e.at h2⟩
theorem twR.upd{p:Int × Int}{y:V}{H:Hp}{r:Addr}{xs ys:List V}(h:twR p y H)(hr:H r=some (.lst xs)):twR p y (upd H r (.lst ys)):=by
 obtain⟨q,h1,h2⟩:=h;exact⟨q,h1,by rw [af λ z=>by rw [z,hr] at h2;cases h2];exact h2⟩
theorem twR.updD{p:Int × Int}{y:V}{H:Hp}{r:Addr}{xs ys:List (Key × V)}(h:twR p y H)(hr:H r=some (.dK xs)):twR p y (L2.upd H r (.dK ys)):=by
 obtain⟨q,h1,h2⟩:=h;exact⟨q,h1,by rw [af λ z=>by rw [z,hr] at h2;cases h2];exact h2⟩
def TwL(H:Hp)(r:Addr)(rows:List (Int × Int)):Prop:=∃ ys,H r=some (.lst ys)/\Al (λ p y=>twR p y H) rows ys
theorem TwL.ext{H H':Hp}{r:Addr}{rows:List (Int × Int)}(h:TwL H r rows)(e:Ext H H'):TwL H' r rows:=by
 obtain⟨ys,h1,h2⟩:=h;exact⟨ys,e.at h1,h2.imp λ _ _ q=>q.ext e⟩
theorem BsI.len{kv:List (Int × Int)}{D fr:List Int}(b:BsI kv D fr):D.length<=kv.length/\fr.length<=kv.length:=by
 have f:∀ l:List Int,l.Nodup->(∀ c∈l,WrP kv c)->l.length<=kv.length:=λ l h1 h2=>by
  have:=cg h1 (b:=kv.map (·.1)) λ x hx=>by
   obtain⟨d,h,_⟩:=h2 x hx;exact ao.mp (by rw [h];rfl)
  simpa using this
 exact⟨f D b.dn b.wr,f fr b.fn λ c hc=>((b.fi c).mp hc).2.1⟩
structure RdJ(kv:List (Int × Int))(D:List Int)(rv:List (Int × Int)):Prop where
 nd:NdK rv
 len:rv.length<=kv.length
 val:∀ o,ae rv o=rdV kv D o
def fr0(kv rv:List (Int × Int)):List Int:=(kv.filter λ p=>!decide (p.2=p.1) && !(ae rv p.1).isSome).map (·.1)
theorem BsI.ini{kv rv:List (Int × Int)}(hn:NdK kv)(h:RdI kv rv):BsI kv [] (fr0 kv rv):=by
 refine⟨LL,λ _ h=>absurd h KJ,λ D0 d D1 e=>?_,List.Sublist.nodup (List.Sublist.map _ List.filter_sublist) hn,λ c=>?_⟩
 ·have:=LR List.length e;simp at this
 ·unfold fr0
  have hz:(ae rv c).isSome=false ↔ rdr kv [] c=0:=by
   rw [h.val];unfold rdV
   by_cases z:rdr kv [] c=0
   ·rw [KZ z];simp [z]
   ·rw [KU z];simp [z]
  constructor
  ·intro hm;obtain⟨p,hp,rfl⟩:=KS.mp hm;obtain⟨h1,h2⟩:=Mo.mp hp;simp only [NK,Na,MU] at h2;exact⟨KJ,⟨p.2,bE hn h1,h2.1⟩,hz.mp h2.2⟩
  ·rintro ⟨_,⟨d,h1,h2⟩,h3⟩;refine KS.mpr ⟨(c,d),Mo.mpr ⟨b8 h1,?_⟩,rfl⟩;simp only [NK,Na,MU];exact⟨h2,hz.mpr h3⟩
def Dj(rv:List (Int × Int))(z:Key × V):Bool:=match z with
 | (.inl a,.int b)=>!decide (b=a) && !(ae rv a).isSome
 | _=>false
theorem tE(rv:List (Int × Int)):∀ kv:List (Int × Int),((aE kv).filter (Dj rv)).map (λ z=>kV z.1)=(fr0 kv rv).map V.int
 | []=>rfl
 | p::kv=>by
  have ih:=tE rv kv;unfold fr0 at ih ⊢
  show (((Sum.inl p.1,V.int p.2)::aE kv).filter (Dj rv)).map (λ z=>kV z.1)=_
  rw [Ny,Ny];have e:Dj rv ((Sum.inl p.1:Key),V.int p.2)=(!decide (p.2=p.1) && !(ae rv p.1).isSome):=rfl;rw [e];split
  ·rw [Lo,Lo,Lo,ih];rfl
  ·exact ih
theorem BsI.rd{kv rv:List (Int × Int)}{D fr:List Int}{c o:Int}(j:RdJ kv D rv)(hc:ae kv c=some o)(hco:o ≠ c)(st:∀ x,rdr kv (D++[c]) x+(if x=o then 1 else 0)=rdr kv D x):ae rv o=some ((rdr kv (D++[c]) o:Int)+1)/\RdJ kv (D++[c]) (da rv o ((rdr kv (D++[c]) o:Int)+1 - 1)):=by
 have h1:¬ rdr kv [] o=0:=λ z=>by
  have:=jT.mp z (c,o) (b8 hc) rfl (λ e=>hco e.symm);exact absurd this KJ
 have h2:=st o;rw [KZ rfl] at h2
 have h3:ae rv o=some ((rdr kv (D++[c]) o:Int)+1):=by
  rw [j.val];unfold rdV;rw [if_neg h1,←h2];rfl
 refine⟨h3,cV j.nd _ _,?_,λ x=>?_⟩
 ·have h4:=lr (v:=(rdr kv (D++[c]) o:Int)+1 - 1) (show (ae rv o).isSome=true by rw [h3];rfl);have h5:=LR List.length h4;rw [KG,KG] at h5;rw [h5];exact j.len
 ·rw [b7,j.val];unfold rdV
  by_cases hx:x=o
  ·rw [KZ hx,hx,KU h1];congr 1;omega
  ·rw [KU hx];have:=st x;rw [KU hx,NO] at this;rw [this]
abbrev zj  (d:Addr) (H:Hp) (Q:VK) (E:XK):Prop:=∃ kv:List (Int × Int),H d=some (.dK (aE kv))/\NdK kv/\kv.length<=4200/\∀ (D:List Int) (r:Addr) (H':Hp),BsI kv D []->H r=none->Ext H H'->TwL H' r (bU kv D)->Q (.ref r) H'
def Hj  : Sp:=λ vs H Q E=>∃ (d:Addr),vs=[.ref d]/\(zj  d H Q E)
theorem GI  (d:Addr) (H:Hp) (Q:VK) (E:XK):Hj  [.ref d] H Q E=(zj  d H Q E):=gM (f:=λ (d:Addr)=>[.ref d]) (λ _ _ h=>by cases h;exact rfl) d
theorem Gm  {vs:List V}{H:Hp}{Q:VK}{E:XK}(h:Hj  vs H Q E):vs.length=1:=gD h λ _=>rfl
theorem eJ(T:Tx K mg t):bp P w K mg base CX0 2 t.a_rows_beside_rings t.d_rows_beside_rings ["found"] Hj:=by
 have G_readers_of:=%[kl|35];refine T.F_rows_beside_rings.ok aw (λ vs H Q E h=>Gm h) (λ c A o s' H vs Q E hr h=>?_)
 ·obtain⟨d,rfl,kv,hd,hnd,hl,k⟩:=h;refine⟨_,%[(@gp _ _ (1) _ _ _ _ aw.nd rfl (Or.inr rfl) %[readers_of,%[%[0|0]|1]|3] ∅ %[0|7]),%[(@m9 _ _ _ (@ng _ _ _ _ _ _ _ _ _ _ _ _ _ (["cell", "found", "readers", "free", "rows", "!cell", "origin"]) (1) (2) _ aw.nd rfl (Or.inl rfl) (bh (aa aQ) ["found", "readers", "free", "rows", "cell", "origin"] rfl rfl nofun) rfl (@sQ _ _ _ _ %[0|0]) (λ C s₀ H₀ ex pn=>%[(0),_,(show List.Nodup (["cell", "found", "readers", "free", "rows", "!cell", "origin"]:List Str) from by decide +kernel),rfl,(Or.inl rfl),%[0|7]|19]) (λ C s₀ H₀ ex pn=>(@m7 _ _ _ (PW.pt (@rY _ _ _ _ _ _ _ %[(dE hr.units),%[(aY hr.units),%[1|0],%[0|0],(λ _ _=>rfl)|32],%[0|0],(aL _)|17] (@m6 _ _ _ _ %[(lB (aY hr.units)),%[0|0],%[2|0],(by with_unfolding_all rfl)|17]))))) (λ C s₀ H₀ ex pn=>%[0|0]) ∅ (by intros;rfl) %[0|7])),%[%[3,aw,%[(@cw _)|18]|4],%[(@oS _ _ _ _ _ _ Ll %[wb,%[len,aH,%[%[2|0]|1]|6],%[0|2],(aL _)|17] %[%[4,aw,(@yK _ _ _ _ _ _ _ _ _ K1 PySem.F.slot_list_pop PySem.F.type_list_pop AZ %[2|0] ∅ ∅)|4],%[%[5,aw,%[(aY hr.units),%[0|0],%[4|0],(λ _ _=>rfl)|32]|4],%[%[%[K1,Ln,Lm,aV,%[3|0],%[%[%[%[5|0],%[%[4|0]|1]|1]|15]|1],∅,∅,∅,∅,∅|24],∅|14],%[%[(aY hr.units),%[1|0],%[5|0],%[bX,%[(aY hr.units),%[1|0],%[5|0],(λ _ _=>rfl)|32],%[0|2]|11],rfl|30],%[%[(PW.pt (@rY _ _ _ _ _ _ _ %[(si hr.units),%[(aY hr.units),%[1|0],%[5|0],(λ _ _=>rfl)|32],%[0|2],(aL _)|17] (@m6 _ _ _ _ %[(dE hr.units),(@oV _ _ _ _ _ _ _ _ _ (aY hr.units) %[0|0] %[5|0] %[5|0] ⟨by rfl,by rfl,by rfl,by rfl⟩),%[5|0],(aL _)|17]))),%[%[%[K1,Ln,Lm,aV,%[2|0],%[%[5|0]|1],∅,∅,∅,∅,∅|24],∅|14]|10],(@aW _)|23]|10]|9]|9]|9]|9]),%[%[%[3|0]|13]|10]|9]|9]|9]|9],?_⟩;rw [show start ["found", "readers", "free", "rows", "cell", "origin"] [.ref d]=[some (.ref d),none,none,none,none,none] from rfl];clear G_readers_of;exists hnd;exists k;ac_rfl;rw [GG];refine⟨kv,hd,hl,λ rv R H1 ri hR1 e1 h1=>?_⟩;have d1:=e1.at hd;have nRd:R ≠ d:=λ z=>by rw [z,hd] at hR1;cases hR1
  have b0:=BsI.ini (hnd ()) ri;have j0:RdJ kv [] rv:=⟨ri.nd,ri.len,ri.val⟩;exists b0;exists j0;clear ri;ac_rfl;rw [ue];refine yB (Dj rv) (λ z=>kV z.1) d1 (aN (by rw [dc];omega)) ?_ ?_
  ·intro D ob z H2 N1 N0 hz hD e2 f2 k1 k0;obtain⟨p,hp,rfl⟩:=KS.mp hz;have R2:H2 R=some (.dK (aE rv)):=e2.at (by rw [af nRd];exact h1);have hvv:cS (aE kv) (.inl p.1)=some (.int p.2):=by rw [aq,bE (hnd ()) (show (p.1,p.2)∈kv from hp)];rfl
   rw [show Dj rv ((Sum.inl p.1:Key),V.int p.2)=(!decide (p.2=p.1) && !(ae rv p.1).isSome) from rfl] at k1 k0;rw [show kV ((Sum.inl p.1:Key),V.int p.2).1=V.int p.1 from rfl] at k1 ⊢;generalize p.1=p1 at hvv k1 k0 ⊢;generalize p.2=p2 at hvv k1 k0 ⊢;exists k1;exists k0;clear hz hp h1 d1;simp! only [↓aM,↓aZ];refine sI (k:=.inl p1) f2 hvv ?_
   by_cases m1:p2=p1
   ·have jj:=k0 () (by simp [m1]) H2 (Ext.refl _);clear k0 k1;subst m1;simp! only [↓aM,↓aZ]
   ·simp! only [↓aM,↓aZ];refine eL (k:=.inl p1) R2 ?_;rw [aq]
    cases hlk:ae rv p1 with
    | none=>
     have jj:=k1 () (by simp [m1,hlk]) H2 (Ext.refl _);clear k0 k1;rw [Option.map_none];simp! only [↓aM,↓aZ]
    | some v=>
     have jj:=k0 () (by simp [hlk]) H2 (Ext.refl _);clear k0 k1;simp! only [↓aM,↓aZ]
  ·intro F H2 hF e2 h2;rw [tE] at h2;have R2:=e2.at h1;have nRF:R ≠ F:=λ z=>by rw [z,hF] at h1;cases h1
   have hF0:H F=none:=e1.free hF;generalize fr0 kv rv=fr at b0 h2;clear d1 h1;ac_rfl;intro W H3 hW e3 h3;have R3:=e3.at R2;have F3:=e3.at h2;have e03:=e1.trans (e2.trans e3);have hW0:H W=none:=e1.free (e2.free hW);have nRW:R ≠ W:=λ z=>by rw [z,hW] at R2;cases R2
   have nFW:F ≠ W:=λ z=>by rw [z,hW] at h2;cases h2
   have tw0:Al (λ p y=>twR p y H3) (bU kv []) []:=Al.nil;clear R2 h2 hF hW e1 e2 e3;ac_rfl;refine sH (by repeat' first|exact DK|exact yN|exact mo_nI|apply oZ|apply mo_unN|exact sx|exact JE|exact sy|exact mo_rI|exact mo_rIsN|exact mo_rNotN|exact mo_qEq|exact mo_qIx|exact yM|exact sZ|exact yO|exact mo_qLenD|apply mo_dget2|apply nh|apply mo_tB|apply mo_not|apply yP|apply mo_or|apply DL|apply mo_un|apply tm|apply mo_qLst|apply DM) (λ m σ H'=>∃ (D fr:List Int) (rv:List (Int × Int)) (ys:List V) (v4 v5:Option V),σ=[some (.ref d),some (.ref R),some (.ref F),some (.ref W),v4,v5]/\m=kv.length - D.length/\BsI kv D fr/\RdJ kv D rv/\Ext H H'/\H' R=some (.dK (aE rv))/\H' F=some (.lst (fr.map V.int))/\H' W=some (.lst ys)/\Al (λ p y=>twR p y H') (bU kv D) ys) _ ⟨[],fr,rv,[],none,none,rfl,rfl,b0 (),j0 (),e03,R3,F3,h3,tw0⟩ ?_;clear b0 j0 R3 F3 h3 tw0 e03;rintro m _ H4 ⟨D,fr,rv,ys,v4,v5,rfl,rfl,b,j,e4,R4,F4,W4,al4⟩;have d4:=e4.at hd;have hbl:=b.len;have hyl:ys.length<=4200:=by rw [al4.1];unfold bU;rw [length_map];omega
   rcases L9 fr with hf|⟨fr',c,hf⟩
   ·subst hf;have k':=k () D W H4 b hW0 e4 ⟨ys,W4,al4⟩;clear k al4;exists b;exists j;ac_rfl
   ·rw [Mq] at hf;subst hf
    obtain⟨o,hc⟩:∃ o,ae kv c=some o:=by
     obtain⟨d,h1,_⟩:=((b.fi c).mp (by simp)).2.1;exact⟨d,h1⟩
    obtain⟨hco,hcD,hoD,st,n1,n2⟩:=b.next (hnd ()) hc;obtain⟨hrv,j'⟩:=BsI.rd (fr:=fr') j hc hco st;have F4':H4 F=some (.lst (fr'.map V.int++[V.int c])):=by rw [F4,Lk];rfl
    have hfl:fr'.length<=4200:=by have:=hbl.2;rw [KY] at this;omega
    have hD1:D.length+1<=kv.length:=by
     have h1:(D++[c]).length<=kv.length:=by
      by_cases hz:rdr kv (D++[c]) o=0/\WrP kv o
      ·exact(n1 hz.1 hz.2).len.1
      ·exact(n2 hz).len.1
     rw [KY] at h1
     simpa using h1
    have ndF:d ≠ F:=λ z=>by rw [z,hF0] at hd;cases hd
    have ndR:d ≠ R:=λ z=>nRd z.symm;have ndW:d ≠ W:=λ z=>by rw [z,hW0] at hd;cases hd
    have hcnt:rdr kv (D++[c]) o<=4200:=by
     unfold rdr rdL;exact Nat.le_trans (List.length_filter_le _ _) hl
    exists b;exists j;exists j';exists st;exists n1;exists n2;exists hbl;exists hcD;exists hoD;have hgt:(0:Int) < (((fr'++[c]).length:Nat):Int):=by rw [KY,Mp];omega
    ac_rfl;refine Ak F4' ?_;have e5:Ext H (upd H4 F (.lst (fr'.map V.int))):=e4.put hF0;have d5:upd H4 F (.lst (fr'.map V.int)) d=some (.dK (aE kv)):=by rw [af ndF];exact d4
    have R5:upd H4 F (.lst (fr'.map V.int)) R=some (.dK (aE rv)):=by rw [af nRF];exact R4
    have W5:upd H4 F (.lst (fr'.map V.int)) W=some (.lst ys):=by rw [af (Ld nFW)];exact W4
    have F5:upd H4 F (.lst (fr'.map V.int)) F=some (.lst (fr'.map V.int)):=ah;have al5:Al (λ p y=>twR p y (upd H4 F (.lst (fr'.map V.int)))) (bU kv D) ys:=al4.imp λ _ _ q=>q.upd F4;generalize upd H4 F (.lst (fr'.map V.int))=H5 at e5 d5 R5 W5 F5 al5;exists al5;clear F4 F4' W4 R4 d4 al4 hgt;ac_rfl;refine gU (k:=.inl c) (v:=.int o) d5 (by rw [aq,hc];rfl) ?_;ac_rfl;intro q H6 hq e6 h6;have d6:=e6.at d5;have R6:=e6.at R5;have W6:=e6.at W5;have F6:=e6.at F5;have e06:=e5.trans e6;have nqW:q ≠ W:=λ z=>by rw [z,W5] at hq;cases hq
    have al6:Al (λ p y=>twR p y (upd H6 W (.lst (ys++[.ref q])))) (bU kv (D++[c])) (ys++[.ref q]):=by
     have e1:bU kv (D++[c])=bU kv D++[(eI kv c,c)]:=by unfold bU;rw [map_append];rfl
     rw [e1];exact((al5 ()).imp λ _ _ z=>(z.ext e6).upd W6).snoc ⟨q,rfl,by rw [af nqW,df hc];exact h6⟩
    clear d5 R5 W5 F5 hq e6 h6;ac_rfl;refine⟨bZ %[0|8],?_⟩;have e7:Ext H (upd H6 W (.lst (ys++[.ref q]))):=e06.put hW0;have d7:upd H6 W (.lst (ys++[.ref q])) d=some (.dK (aE kv)):=by rw [af ndW];exact d6
    have R7:upd H6 W (.lst (ys++[.ref q])) R=some (.dK (aE rv)):=by rw [af nRW];exact R6
    have F7:upd H6 W (.lst (ys++[.ref q])) F=some (.lst (fr'.map V.int)):=by rw [af nFW];exact F6
    have W7:upd H6 W (.lst (ys++[.ref q])) W=some (.lst (ys++[.ref q])):=ah;generalize upd H6 W (.lst (ys++[.ref q]))=H7 at e7 d7 R7 F7 W7 al6;exists al6;clear d6 R6 W6 F6 al5;have hl5:(aE rv).length < sizeLine:=bZ (by rw [dc];have:=(j ()).len;omega);ac_rfl;refine gU (k:=.inl o) (v:=.int ((rdr kv (D++[c]) o:Int)+1)) R7 (by rw [aq,hrv];rfl) ?_;ac_rfl;refine gT (k:=.inl o) R7 hl5 ?_;rw [eg];have hlk8:ae (da rv o ((rdr kv (D++[c]) o:Int)+1 - 1)) o=some (rdr kv (D++[c]) o:Int):=by rw [b7,KZ rfl];congr 1;omega
    have e8:Ext H (upd H7 R (.dK (aE (da rv o ((rdr kv (D++[c]) o:Int)+1 - 1))))):=e7.put hR1;have d8:upd H7 R (.dK (aE (da rv o ((rdr kv (D++[c]) o:Int)+1 - 1)))) d=some (.dK (aE kv)):=by rw [af ndR];exact d7
    have F8:upd H7 R (.dK (aE (da rv o ((rdr kv (D++[c]) o:Int)+1 - 1)))) F=some (.lst (fr'.map V.int)):=by rw [af (Ld nRF)];exact F7
    have W8:upd H7 R (.dK (aE (da rv o ((rdr kv (D++[c]) o:Int)+1 - 1)))) W=some (.lst (ys++[.ref q])):=by rw [af (Ld nRW)];exact W7
    have R8:upd H7 R (.dK (aE (da rv o ((rdr kv (D++[c]) o:Int)+1 - 1)))) R=some (.dK (aE (da rv o ((rdr kv (D++[c]) o:Int)+1 - 1)))):=ah;have al8:Al (λ p y=>twR p y (upd H7 R (.dK (aE (da rv o ((rdr kv (D++[c]) o:Int)+1 - 1)))))) (bU kv (D++[c])) (ys++[.ref q]):=(al6 ()).imp λ _ _ z=>z.updD R7;generalize upd H7 R (.dK (aE (da rv o ((rdr kv (D++[c]) o:Int)+1 - 1))))=H8 at e8 d8 F8 W8 R8 al8;generalize da rv o ((rdr kv (D++[c]) o:Int)+1 - 1)=rv' at hlk8 R8 j';exists al8;have hlt:kv.length - (D++[c]).length < kv.length - D.length:=by rw [KY,Mp];omega
    clear d7 F7 W7 R7 al6 hrv hl5
    by_cases hz:rdr kv (D++[c]) o=0
    ·rw [hz] at hlk8
     by_cases hwo:WrP kv o
     ·obtain⟨o2,ho2,hne⟩:=id hwo;have b':=n1 () hz hwo;exists b';have hfl':(fr'.map V.int).length < sizeLine:=bZ (by rw [KG];omega);ac_rfl;refine gU (k:=.inl o) (v:=.int 0) R8 (by rw [aq,hlk8];rfl) ?_;ac_rfl;refine mL d8 ?_;ac_rfl;refine rJ (k:=.inl o) d8 ?_;rw [aq,ho2,show ((some o2:Option Int).map V.int).getD (.int o)=.int o2 from rfl];ac_rfl;refine⟨bZ %[0|8],_,hlt,D++[c],fr'++[o],rv',ys++[.ref q],_,_,rfl,rfl,b' (),j' (),e8.put hF0,by rw [af nRF];exact R8,?_,by rw [af (Ld nFW)];exact W8,(al8 ()).imp λ _ _ z=>z.upd F8⟩
      first|exact ah.trans (by rw [Lk];rfl)|rw [Lk];rfl
     ·have b':=n2 () (λ z=>hwo z.2)
      have hgo:((ae kv o).map V.int).getD (.int o)=.int o:=by
       cases e:ae kv o with
       | none=>rfl
       | some o2=>
        show V.int o2=V.int o
        by_cases h:o2=o
        ·rw [h]
        ·exact absurd ⟨o2,e,h⟩ hwo
      exists b';ac_rfl;refine gU (k:=.inl o) (v:=.int 0) R8 (by rw [aq,hlk8];rfl) ?_;ac_rfl;refine mL d8 ?_;ac_rfl;refine rJ (k:=.inl o) d8 ?_;rw [aq,hgo];ac_rfl;exact⟨_,hlt,D++[c],fr',rv',ys++[.ref q],_,_,rfl,rfl,b' (),j' (),e8,(by first|rfl|exact R8),(by first|rfl|exact F8),(by first|rfl|exact W8),al8 ()⟩
    ·have b':=n2 () (λ z=>hz z.1);have hz':¬ ((rdr kv (D++[c]) o:Int)=0):=by omega
     exists b';ac_rfl;refine gU (k:=.inl o) (v:=.int (rdr kv (D++[c]) o:Int)) R8 (by rw [aq,hlk8];rfl) ?_;ac_rfl;exact⟨_,hlt,D++[c],fr',rv',ys++[.ref q],_,_,rfl,rfl,b' (),j' (),e8,(by first|rfl|exact R8),(by first|rfl|exact F8),(by first|rfl|exact W8),al8 ()⟩
def Hg  : Sp:=λ vs H Q E=>∃ (l:Addr) (e:Int),vs=[.ref l,.int e]/\(∃ (pre:List Int) (z:Int),H l=some (.lst ((pre++[z]).map V.int))/\(pre++[z]).length<=4200/\∀ (r:Addr) (H':Hp),H r=none->Ext H H'->TwL H' r (mH (pre++[z]) e)->Q (.ref r) H')
theorem y9  (l:Addr) (e:Int) (H:Hp) (Q:VK) (E:XK):Hg  [.ref l,.int e] H Q E=(∃ (pre:List Int) (z:Int),H l=some (.lst ((pre++[z]).map V.int))/\(pre++[z]).length<=4200/\∀ (r:Addr) (H':Hp),H r=none->Ext H H'->TwL H' r (mH (pre++[z]) e)->Q (.ref r) H'):=pL (f:=λ (l:Addr) (e:Int)=>[.ref l,.int e]) (λ _ _ _ _ h=>by cases h;exact⟨rfl,rfl⟩) l e
theorem Gi  {vs:List V}{H:Hp}{Q:VK}{E:XK}(h:Hg  vs H Q E):vs.length=2:=qR h λ _ _=>rfl
theorem kj(T:Tx K mg t):bp P w K mg base CX0 1 t.a_rows_round t.d_rows_round ["ring", "elsewhere"] Hg:=by
 refine T.F_rows_round.ok cG (λ vs H Q E h=>Gi h) (λ c A o s' H vs Q E hr h=>?_)
 ·obtain⟨l,e,rfl,pre,z,hl,h42,k⟩:=h;refine⟨_,%[%[2,cG,%[(@cw _)|18]|4],%[%[Ll,rfl,(@sg _ _ _ _ _ _ _ _ _ ∅ T.z_zip %[%[0|0],%[%[zp,%[0|0],(@eP _ _ _ %[0|2]),(@eQ _)|31]|1]|1] ∅ ∅),(%[(2),rfl,%[%[3,cG|5],%[%[4,cG|5],(@aC _),∅|12],∅|12],∅,∅|22].mono λ _ _ _ _ h=>bD h),%[%[%[K1,Ln,Lm,aV,%[2|0],%[%[%[%[4|0],%[%[3|0]|1]|1]|15]|1],∅,∅,∅,∅,∅|24],∅|14]|10],(by intros;rfl)|21],%[%[%[K1,Ln,Lm,aV,%[2|0],%[%[%[%[1|0],%[%[gk,%[0|0],(@rj _ _ _ _ _ _ g9 %[0|2]),(λ _ _=>rfl)|16]|1]|1]|15]|1],∅,∅,∅,∅,∅|24],∅|14],%[%[%[2|0]|13]|10]|9]|9]|9],?_⟩;rw [show start ["ring", "elsewhere", "rows", "cell", "origin"] [.ref l,.int e]=[some (.ref l),some (.int e),none,none,none] from rfl];have hat:atI ((pre++[z]).map V.int) (-1)=some (.int z):=by rw [Lk];exact pB _ _
  have hzp:=oK e pre z;exists hzp;exists k;have hlp:0 < (pre++[z]).length:=by simp
  generalize pre++[z]=ns at hl h42 k hat hzp hlp;ac_rfl;intro W H1 hW e1 h1;have l1:=e1.at hl;ac_rfl;rw [gI _ _ ⋯,show (1:Int).toNat=1 from rfl,←List.map_drop,List.drop_one];intro S H2 hS e2 h2;have l2:=e2.at l1;have W2:=e2.at h1;have e02:=e1.trans e2;have nSW:S ≠ W:=λ zz=>by rw [zz,h1] at hS;cases hS
  have nlW:l ≠ W:=λ zz=>by rw [zz,hW] at hl;cases hl
  have htl:ns.tail.length=ns.length - 1:=List.length_tail;clear h1 l1 e1 e2 hS;ac_rfl;refine ny (ka:=false) (kb:=false) (xs:=ns.map V.int) (ys:=ns.tail.map V.int) (λ i σ H'=>∃ (v3 v4:Option V) (ys:List V),σ=[some (.ref l),some (.int e),some (.ref W),v3,v4]/\Ext H H'/\H' l=some (.lst (ns.map V.int))/\H' S=some (.lst (ns.tail.map V.int))/\H' W=some (.lst ys)/\Al (λ p y=>twR p y H') (((ns.zip ns.tail).take i).map λ p=>(p.2,p.1)) ys) ⟨none,none,[],rfl,e02,l2,h2,W2,by rw [NM];exact Al.nil⟩ (λ i σ H' ⟨_,_,_,_,_,q1,q2,_⟩=>⟨q1,q2⟩) ?_ ?_
  ·rintro i x y q _ H3 H4 hx hy ⟨v3,v4,ys,rfl,e3,l3,s3,w3,al3⟩ hq e4 h4;rw [La] at hx hy;obtain⟨c,hc,rfl⟩:=KW.mp hx;obtain⟨o,ho,rfl⟩:=KW.mp hy
   have htk:(ns.zip ns.tail).take (i+1)=(ns.zip ns.tail).take i++[(c,o)]:=by
    rw [Lx,(L8 (z:=(c,o))).mpr ⟨hc,ho⟩];rfl
   have hi:i < ns.length:=(KH.mp hc).1;have hyl:ys.length<=4200:=by rw [al3.1,KG,LH];omega
   have l4:=e4.at l3;have s4:=e4.at s3;have w4:=e4.at w3;have e04:=e3.trans e4;have al4:Al (λ p y=>twR p y H4) (((ns.zip ns.tail).take i).map λ p=>(p.2,p.1)) ys:=al3.imp λ _ _ z=>z.ext e4;exists al4;exists htk;clear hx hy hc ho l3 s3 w3 al3 l2 h2 W2 k hq e4;ac_rfl;intro q2 H5 hq2 e5 h5;have l5:=e5.at l4;have s5:=e5.at s4;have w5:=e5.at w4;have nqW:q2 ≠ W:=λ zz=>by rw [zz,w4] at hq2;cases hq2
   clear l4 s4 w4 h4 hq2;ac_rfl;refine⟨bZ %[0|8],_,_,ys++[.ref q2],rfl,(e04.trans e5).put hW,by rw [af nlW];exact l5,by rw [af nSW];exact s5,(by first|rfl|exact ah),?_⟩;rw [htk (),Lk];exact((al4 ()).imp λ _ _ z=>(z.ext e5).upd w5).snoc ⟨q2,rfl,by rw [af nqW];exact h5⟩
  ·rintro _ H3 ⟨v3,v4,ys,rfl,e3,l3,s3,w3,al3⟩;rw [L3 (by rw [NN,KG,KG];omega)] at al3;have hyl:ys.length<=4200:=by rw [al3.1,KG,NN];omega
   exists al3;clear l2 h2 W2;ac_rfl;intro q2 H5 hq2 e5 h5;have w5:=e5.at w3;have nqW:q2 ≠ W:=λ zz=>by rw [zz,w3] at hq2;cases hq2
   clear l3 s3 w3 hq2 hat;ac_rfl;refine⟨bZ %[0|8],?_⟩;refine k () W _ hW ((e3.trans e5).put hW) ⟨ys++[.ref q2],ah,?_⟩;rw [hzp ()];exact((al3 ()).imp λ _ _ z=>(z.ext e5).upd w5).snoc ⟨q2,rfl,by rw [af nqW];exact h5⟩
structure KpI(kv:List (Int × Int))(D:List Int)(kp:List (Int × Int)):Prop where
 nd:NdK kp
 len:kp.length<=D.length
 yes:∀ o e,ae kp o=some e->e∈D/\eI kv e=o
 all:∀ e∈D,(ae kp (eI kv e)).isSome=true
theorem KpI.nil(kv:List (Int × Int)):KpI kv [] []:=⟨LL,KO _,(λ _ _ h=>by cases h),λ _ h=>absurd h KJ⟩
theorem KpI.put{kv kp:List (Int × Int)}{D:List Int}(h:KpI kv D kp)(c:Int):KpI kv (D++[c]) (da kp (eI kv c) c):=by
 refine⟨cV h.nd _ _,?_,λ o e he=>?_,λ e he=>?_⟩
 ·have:=jV kp (eI kv c) c;have:=h.len;simp;omega
 ·rw [b7] at he
  by_cases ho:o=eI kv c
  ·rw [KZ ho] at he;rw [←Lf he];exact⟨by simp,ho.symm⟩
  ·rw [KU ho] at he;obtain⟨h1,h2⟩:=h.yes o e he;exact⟨Ly _ h1,h2⟩
 ·rw [b7]
  by_cases ho:eI kv e=eI kv c
  ·rw [KZ ho];rfl
  ·rw [KU ho]
   rcases Li.mp he with he|he
   ·exact h.all e he
   ·exact absurd (by rw [KN.mp he]) ho
theorem vp{kv kp:List (Int × Int)}{D:List Int}(hn:NdK kv)(b:BsI kv D [])(kI:KpI kv D kp){L:List (List Int × Bool)}(hL:bN (ae kv) (kv.map (·.1)) L){p:List Int × Bool}(hp:p∈L)(hb:p.2=false):∃ x∈p.1,(ae kp x).isSome=true:=by
 obtain⟨rl,he⟩:=hL.2.1 p hp;rw [hb] at he
 have h1:¬ fy (ae kv) (kv.map (·.1)) p.1=true:=by
  rw [←he];exact Lb
 unfold fy at h1;rw [all_eq_true] at h1;obtain⟨c,hc⟩:=Classical.not_forall.mp h1;obtain⟨hck,hcc⟩:=Classical.not_imp.mp hc;obtain⟨⟨c',d⟩,hm,rfl⟩:=List.mem_map.mp hck;have hlk:=bE hn hm;rw [hlk] at hcc;simp only [Bool.or_eq_true,decide_eq_true_eq,Bool.not_eq_true',decide_eq_false_iff_not,not_or,Classical.not_not] at hcc;obtain⟨n1,n2⟩:=hcc;have hw:WrP kv c':=⟨d,hlk,λ z=>n1 (by rw [←z];exact n2)⟩
 have hD:c'∈D:=by
  refine Classical.byContradiction λ hD=>?_;obtain⟨l,r1,r2,r3⟩:=b.left hn hw hD;obtain⟨d',h3,h4⟩:=r1.mem r3;rw [hlk] at h3;obtain rfl:=Lf h3;have pm:=gf r1 rl.1 h4 n2;exact n1 (pm.mem_iff.mp r3)
 refine⟨d,n2,?_⟩;have:=kI.all c' hD;rw [df hlk] at this;exact this
theorem lM{kp:List (Int × Int)}:∀ {l:List Int},(∃ x∈l,(ae kp x).isSome=true)->∃ a r0 b,l=a++r0::b/\(ae kp r0).isSome=true/\∀ x∈a,(ae kp x).isSome=false
 | [],⟨x,h,_⟩=>absurd h KJ
 | y::l,⟨x,hx,hs⟩=>by
  by_cases hy:(ae kp y).isSome=true
  ·exact⟨[],y,l,rfl,hy,λ _ h=>absurd h KJ⟩
  ·rcases K2.mp hx with rfl|hx
   ·exact absurd hs hy
   ·obtain⟨a,r0,b,rfl,h1,h2⟩:=lM ⟨x,hx,hs⟩;exact⟨y::a,r0,b,rfl,h1,λ z hz=>(K2.mp hz).elim (λ e=>by rw [e];simpa using hy) (h2 z)⟩
theorem Ed{kv:List (Int × Int)}(hn:NdK kv){D:List Int}(b:BsI kv D []){L:List (List Int × Bool)}(hL:bN (ae kv) (kv.map (·.1)) L):D.length+(L.map λ p=>p.1.length+if p.2=true then 1 else 0).sum<=kv.length+L.length:=by
 have nd1:(D++L.flatMap (·.1)).Nodup:=by
  rw [LC];refine⟨b.dn,nA (λ p hp=>(hL.2.1 p hp).1.1.nodup) (fe hL),λ x hx y hy e=>?_⟩;obtain⟨p,hp,hyp⟩:=Mj.mp hy;exact b.ring hn (hL.2.1 p hp).1.1 (hL.2.1 p hp).1.2.1 y hyp (by rw [←e];exact hx)
 have l1:=cg nd1 (b:=kv.map (·.1)) λ x hx=>by
  rcases Li.mp hx with hx|hx
  ·obtain⟨d,h,_⟩:=b.wr x hx;exact ao.mp (by rw [h];rfl)
  ·obtain⟨p,hp,hxp⟩:=Mj.mp hx;obtain⟨d,h,_⟩:=(hL.2.1 p hp).1.1.mem hxp;exact ao.mp (by rw [h];rfl)
 rw [KG,KY] at l1
 have e2:∀ L:List (List Int × Bool),(L.map λ p=>p.1.length+if p.2=true then 1 else 0).sum<=(L.flatMap (·.1)).length+L.length:=by
  intro L
  induction L with
  | nil=>exact KO _
  | cons p L ih=>
   rw [Lo,Od,ND,KY,Lz]
   split<;>omega
 have:=e2 L;omega
theorem Av{α:Type}(f:α->Nat){L:List α}{i:Nat}{p:α}(h:L[i]? = some p):((L.take i).map f).sum+f p<=(L.map f).sum:=by
 have e:L.take (i+1)=L.take i++[p]:=by rw [Lx,h];rfl
 have:(L.map f).sum=((L.take (i+1)).map f).sum+((L.drop (i+1)).map f).sum:=by
  rw [←N6,←Lk,Mn]
 rw [this,e,Lk,N6];simp
theorem yQ{n:Nat}(h:n < 9000):n < sizeLine:=by rw [NZ];omega
theorem jH{n:Nat}(h:n<=9000):n<=sizeLine:=by rw [NZ];omega
theorem tT{α:Type}{R:α->V->Prop}{zs ws:List α}{ys us:List V}(h:Al R zs ys)(h':Al R ws us):Al R (zs++ws) (ys++us):=by
 refine⟨by rw [KY,KY,h.1,h'.1],λ i z y hz hy=>?_⟩
 by_cases hi:i < zs.length
 ·rw [LD hi] at hz;rw [LD (by rw [h.1];exact hi)] at hy;exact h.2 i z y hz hy
 ·rw [Lw %[0|8]] at hz;rw [Lw (by rw [h.1];omega),h.1] at hy;exact h'.2 _ z y hz hy
theorem pd:∀ {a b:List Bool},(∀ x∈a,x=false)->(a++true::b).idxOf true=a.length
 | [],b,_=>by simp [List.idxOf_cons]
 | x::a,b,h=>by
  have hx:=h x KL;subst hx;have ih:=pd (a:=a) (b:=b) λ y hy=>h y (KI _ hy);rw [Mz,List.idxOf_cons,ih];rfl
theorem AB{kv:List (Int × Int)}{l:List Int}(h:fS (ae kv) l):l.length<=kv.length:=by
 have h1:=cg h.nodup (b:=kv.map (·.1)) λ x hx=>by
  obtain⟨d,h1,_⟩:=h.mem hx;exact ao.mp (by rw [h1];rfl)
 simpa using h1
structure RfI(kv:List (Int × Int))(D:List Int)(Lp:List (List Int × Bool))(rows:List (Int × Int)):Prop where
 st:StR kv D Lp rows
 ik:∀ q∈rows,InK kv q.1/\InK kv q.2
 len:rows.length=D.length+(Lp.map λ p=>p.1.length+if p.2=true then 1 else 0).sum
theorem RfI.ini{kv:List (Int × Int)}{D fr:List Int}(b:BsI kv D fr):RfI kv D [] (bU kv D):=by
 refine⟨λ x _=>?_,λ q hq=>?_,by unfold bU;simp⟩
 ·rw [GN D b.dn b.wr b.ord x];have:(x∈D\/∃ p∈([]:List (List Int × Bool)),x∈p.1) ↔ x∈D:=by simp
  simp only [this]
 ·obtain⟨c,hc,rfl⟩:=KS.mp hq;obtain⟨d,h1,_⟩:=b.wr c hc;refine⟨.inr (.inr ?_),.inr (.inl (ao.mp (by rw [h1];rfl)))⟩;rw [df h1];exact KS.mpr ⟨(c,d),b8 h1,rfl⟩
theorem RfI.add{kv:List (Int × Int)}(hn:NdK kv){D:List Int}{L:List (List Int × Bool)}(b:BsI kv D [])(hL:bN (ae kv) (kv.map (·.1)) L)(hnn:∀ c e,ae kv c=some e->0<=c/\0<=e){i:Nat}{p:List Int × Bool}(hi:L[i]? = some p){rows rs:List (Int × Int)}(h:RfI kv D (L.take i) rows)(hw:pQ kv D p rs):RfI kv D (L.take (i+1)) (rows++rs):=by
 have e:L.take (i+1)=L.take i++[p]:=by rw [Lx,hi];rfl
 have hp:=Lh hi;have rl:=(hL.2.1 p hp).1;rw [e];refine⟨h.st.add rl (b.ring hn rl.1 rl.2.1) (λ q hq x hx hxq=>?_) (λ m=>?_) (λ m=>?_) hw,λ q hq=>?_,?_⟩
 ·have h1:=fe hL;rw [←Mn i L,Nj] at h1;exact h1.2.2 q hq p (Lh (i:=0) (by rw [Oe];simpa using hi)) x hxq hx
 ·obtain⟨d,h1,_⟩:=rl.1.mem m;have:=(hnn _ _ h1).1;omega
 ·obtain⟨d,h1,_⟩:=b.wr _ m;have:=(hnn _ _ h1).1;omega
 ·rcases Li.mp hq with hq|hq
  ·exact h.ik q hq
  ·exact hw.ink rl q hq
 ·rw [KY,h.len,hw.len,Lk,N6];simp;omega
abbrev zd  (d:Addr) (H:Hp) (Q:VK) (E:XK):Prop:=∃ kv:List (Int × Int),H d=some (.dK (aE kv))/\NdK kv/\kv.length<=4200/\jx (kv.map (·.1))/\(Few kv\/(G6 kv/\kv.length<=4000))/\(∀ c e,ae kv c=some e->0<=c/\0<=e)/\∀ (rows:List (Int × Int)) (r:Addr) (H':Hp),wA kv rows->rows.length<=8200->H r=none->Ext H H'->TwL H' r rows->Q (.ref r) H'
def Hf  : Sp:=λ vs H Q E=>∃ (d:Addr),vs=[.ref d]/\(zd  d H Q E)
theorem GF  (d:Addr) (H:Hp) (Q:VK) (E:XK):Hf  [.ref d] H Q E=(zd  d H Q E):=gM (f:=λ (d:Addr)=>[.ref d]) (λ _ _ h=>by cases h;exact rfl) d
theorem Gh  {vs:List V}{H:Hp}{Q:VK}{E:XK}(h:Hf  vs H Q E):vs.length=1:=gD h λ _=>rfl
theorem nH(T:Tx K mg t):bp P w K mg base CX0 5 t.a_rows_for t.d_rows_for ["found"] Hf:=by
 have G_rows_beside_rings:=%[eJ|35];have G_rings:=%[oW|35];have G_rows_round:=%[kj|35];refine T.F_rows_for.ok bB (λ vs H Q E h=>Gh h) (λ c A o s' H vs Q E hr h=>?_)
 ·obtain⟨d,rfl,kv,hd,hnd,hl,hE,hF,hnn,k⟩:=h;refine⟨_,%[%[1,bB,%[rows_beside_rings,%[%[0|0]|1]|3]|4],%[(@gp _ _ (2) _ _ _ _ bB.nd rfl (Or.inr rfl) (@eh _ _) ∅ %[0|7]),%[%[PassesOwn.never,rfl,%[%[1|0]|20],(%[(2),rfl,%[%[3,bB|5],%[%[4,bB|5],(@aC _),∅|12],∅|12],∅,∅|22].mono λ _ _ _ _ h=>bD h),%[%[(aY hr.units),%[2|0],%[3|0],%[4|0],rfl|30]|10],(by intros;rfl)|21],%[%[PassesOwn.never,rfl,%[%[rings,%[%[0|0]|1]|3]|20],(%[(2),rfl,%[%[5,bB|5],%[%[6,bB|5],(@aC _),∅|12],∅|12],∅,∅|22].mono λ _ _ _ _ h=>bD h),%[%[(@hG _ _ _ %[6|0] (by intros;rfl)),%[%[%[PySem.F.plainAttrs_list,PySem.F.slot_list_append,PySem.F.type_list_append,aV,%[1|0],%[%[%[%[gk,%[5|0],%[0|2],(λ _ _=>rfl)|16],%[(@eR _ _ (.int (-1)) _ _ ∅ T.m_SPARE.choose_spec ⟨_,rfl⟩ ⋯)|1]|1]|15]|1],∅,∅,∅,∅,∅|24],∅|14],%[%[%[PySem.F.plainAttrs_list,PySem.F.slot_list_extend,PySem.F.type_list_extend,iq,%[1|0],%[%[rows_round,%[%[5|0],%[(@eR _ _ (.int (-1)) _ _ ∅ T.m_SPARE.choose_spec ⟨_,rfl⟩ ⋯)|1]|1]|3]|1],∅,∅,∅,∅,∅|24],∅|14]|10]|9],%[%[7,bB,%[PySem.F.plainAttrs_list,PySem.F.slot_list_index,PySem.F.type_list_index,xw,%[(["cell", "found", "rows", "kept", "origin", "!cell", "ring", "bare", "at"]),(1),(bh (aa eo) ["found", "rows", "kept", "origin", "cell", "ring", "bare", "at"] rfl rfl nofun),rfl,%[%[5|0]|20],(λ C s₀ H₀ ex pn=>%[(0),_,(show List.Nodup (["cell", "found", "rows", "kept", "origin", "!cell", "ring", "bare", "at"]:List Str) from by decide +kernel),rfl,(Or.inl rfl),%[0|7]|19]),(λ C s₀ H₀ ex pn=>(@bM _)),(λ C s₀ H₀ ex pn=>(@jE _ _ _ _ _ _ _ _ (sj (aY hr.units)) %[0|0] %[3|0] (by with_unfolding_all rfl))),(by intros;rfl)|26],%[(@rm _ _ _ _)|1],∅,∅,∅,∅,∅|24]|4],%[%[%[PySem.F.plainAttrs_list,PySem.F.slot_list_extend,PySem.F.type_list_extend,iq,%[1|0],%[%[rows_round,%[%[hJ,%[zp,%[5|0],(@eP _ _ _ %[7|0]),(@eQ _)|31],%[zp,%[5|0],(@eQ _),(@eP _ _ _ %[7|0])|31]|11],%[%[(aY hr.units),%[2|0],%[gk,%[5|0],%[7|0],(λ _ _=>rfl)|16],(λ _ _=>rfl)|32]|1]|1]|3]|1],∅,∅,∅,∅,∅|24],∅|14]|10]|9]|23]|10],(by intros;rfl)|21],%[%[%[1|0]|13]|10]|9]|9]|9]|9],?_⟩;rw [show start ["found", "rows", "kept", "origin", "cell", "ring", "bare", "at"] [.ref d]=[some (.ref d),none,none,none,none,none,none,none] from rfl];clear G_rows_beside_rings G_rings G_rows_round;exists hnd;exists hE;exists hF;exists hnn;exists k;ac_rfl;rw [GI];refine⟨kv,hd,hnd (),hl,λ D W H1 b hW e1 tw1=>?_⟩;obtain⟨ys,W1,al1⟩:=tw1;have hDl:=b.len.1;have hyl:ys.length=D.length:=by rw [al1.1];unfold bU;rw [length_map]
  exists b;exists al1;ac_rfl;intro KP H2 hK e2 h2;have W2:=e2.at W1;have e02:=e1.trans e2;have hK0:H KP=none:=e1.free hK;have nKW:W ≠ KP:=λ z=>by rw [z,hK] at W1;cases W1
  have al2:Al (λ p y=>twR p y H2) (bU kv D) ys:=(al1 ()).imp λ _ _ z=>z.ext e2;exists al2;clear W1 al1 hK e1 e2;ac_rfl;refine cL (xs:=ys) (λ i σ H'=>∃ (v3 v4:Option V) (kp:List (Int × Int)),σ=[some (.ref d),some (.ref W),some (.ref KP),v3,v4,none,none,none]/\Ext H H'/\H' W=some (.lst ys)/\Al (λ p y=>twR p y H') (bU kv D) ys/\H' KP=some (.dK (aE kp))/\KpI kv (D.take i) kp) ⟨none,none,[],rfl,e02,W2,al2 (),h2,by rw [NM];exact KpI.nil kv⟩ (λ i σ H' _ ⟨_,_,_,_,_,q,_⟩=>q) ?_ ?_
  ·rintro i y _ H3 hy ⟨v3,v4,kp,rfl,e3,W3,al3,K3,kI⟩;have hi:i < D.length:=by have:=(KH.mp hy).1;omega
   have hc:D[i]? = some D[i]:=getElem?_eq_getElem hi;obtain⟨q,rfl,hq⟩:=al3.2 i (eI kv D[i],D[i]) y (by unfold bU;rw [getElem?_map,hc];rfl) hy;have kI2:=kI.put D[i];have htk:D.take (i+1)=D.take i++[D[i]]:=by rw [take_add_one,hc];rfl
   rw [←htk] at kI2;have hl5:(aE kp).length < sizeLine:=yQ (by rw [dc];have:=kI.len;rw [LH] at this;omega);replace hq:H3 q=some (.tup [.int (eI kv D[i]),.int D[i]]):=hq;generalize D[i]=c at hq kI2;generalize eI kv c=o at hq kI2;have al4:Al (λ p y=>twR p y (upd H3 KP (.dK (aE (da kp o c))))) (bU kv D) ys:=al3.imp λ _ _ z=>z.updD K3;exists kI2;exists al4;clear hy hc htk kI al3 W2 h2 k;ac_rfl;refine gT (k:=.inl o) K3 hl5 ?_;rw [eg];exact⟨_,_,_,rfl,e3.put hK0,by rw [af nKW];exact W3,al4 (),ah,kI2 ()⟩
  ·rintro _ H3 ⟨v3,v4,kp,rfl,e3,W3,al3,K3,kI⟩;rw [hyl,LG] at kI;have d3:=e3.at hd;exists al3;exists kI;clear W2 h2 al2;ac_rfl;rw [lU];refine⟨kv,d3,hnd (),hl,hE (),(hF ()).imp id (λ z=>z.1),λ L r H4 hL e4 ra=>?_⟩;obtain⟨ys2,r4,hrn,al4⟩:=ra;have K4:=e4.at K3;have W4:=e4.at W3;have W4':=W3;have nrW:r ≠ W:=λ z=>by rw [z,W3] at hrn;cases hrn
   have alr:Al (λ p y=>twR p y H4) (bU kv D) ys:=(al3 ()).imp λ _ _ z=>z.ext e4
   have hLf:L.length+kv.length<=8100:=by
    rcases hF () with hF1|⟨_,h2⟩
    ·have h1:=hF1 (L.map (·.1)) (λ l hl=>by obtain⟨p,hp,rfl⟩:=KS.mp hl;exact(hL.2.1 p hp).1) (by rw [LP,Mv,Mw];exact hL.1.imp λ h=>by show ¬ _;intro e;have e':_=_:=e;simp only [Function.comp] at e';omega);rw [KG] at h1;omega
    ·have h1:=cg (a:=L.map λ p=>p.1.headD 0) (b:=kv.map (·.1)) (by rw [Mv,Mw];exact hL.1.imp λ h=>by omega) λ x hx=>by
      obtain⟨p,hp,rfl⟩:=KS.mp hx;obtain⟨d,h1,_⟩:=(hL.2.1 p hp).1.1.mem (hL.2.1 p hp).1.head_mem;exact ao.mp (by rw [h1];rfl)
     rw [KG,KG] at h1;omega
   have htot:=Ed (hnd ()) (b ()) hL;have rf0:=RfI.ini (b ());exists al4;exists alr;exists hL;exists rf0;clear K3 d3 al3;ac_rfl;refine cL (xs:=ys2) (λ i σ H'=>∃ (v3 v4 v5 v6 v7:Option V) (rows:List (Int × Int)) (yr:List V),σ=[some (.ref d),some (.ref W),some (.ref KP),v3,v4,v5,v6,v7]/\Ext (om [W] H4) H'/\H' W=some (.lst yr)/\Al (λ p y=>twR p y H') rows yr/\RfI kv D (L.take i) rows) ⟨_,_,none,none,none,bU kv D,ys,rfl,tM _ _,W4,alr (),by rw [NM];exact rf0 ()⟩ (λ i σ H' _ ⟨_,_,_,_,_,_,_,_,e,_⟩=>e.at (cN r4 nrW)) ?_ ?_
   ·rintro i y _ H5 hy ⟨v3',v4',v5,v6,v7,rows,yr,rfl,e5,W5,al5,rf⟩;have hi:i < L.length:=by have:=(KH.mp hy).1;rw [(al4 ()).1] at this;exact this
    obtain⟨p,hp⟩:∃ p,L[i]? = some p:=⟨_,KA hi⟩;obtain⟨q,lg,rfl,hq4,hlg4,hl3n,nlr⟩:=(al4 ()).2 i p y hp hy;have nqW:q ≠ W:=λ z=>by rw [z,W4] at hq4;cases hq4
    have nlW:lg ≠ W:=λ z=>by rw [z,W4'] at hl3n;cases hl3n
    have nKW':KP ≠ W:=Ld nKW;have q5:=e5.at (cN hq4 nqW);have lg5:=e5.at (cN hlg4 nlW);have K5:=e5.at (cN K4 nKW');have rl:=((hL ()).2.1 p (Lh hp)).1;have hpl:=AB rl.1;have hsum:=Av (λ p:List Int × Bool=>p.1.length+if p.2=true then 1 else 0) hp;have hbd:rows.length+(p.1.length+if p.2=true then 1 else 0)<=8200:=by have:=rf.len;omega
    have hyr:yr.length=rows.length:=al5.1;have add:=λ rs=>RfI.add (hnd ()) (b ()) (hL ()) (hnn ()) hp rf (rs:=rs);have kso:=vp (hnd ()) (b ()) (kI ()) (hL ()) (Lh hp)
    obtain⟨pre,z,hpz⟩:∃ pre z,p.1=pre++[z]:=by
     obtain⟨pre,z,h⟩:=(L9 p.1).resolve_left rl.1.ne;exact⟨pre,z,by rw [h,Mq]⟩
    obtain⟨c0,t0,hct,_⟩:=id rl.1;obtain⟨l,bb⟩:=p;replace hpz:l=pre++[z]:=hpz;replace hct:l=c0::t0:=hct;replace lg5:H5 lg=some (.lst (l.map V.int)):=lg5;replace q5:H5 q=some (.tup [.ref lg,.bl bb]):=q5;replace hpl:l.length<=kv.length:=hpl;exists al5;exists rf;exists add;exists kso;exists hpz;exists hct;clear hy hp hq4 hlg4 rl hsum k
    cases bb with
    | true=>
     have hbd':rows.length+(l.length+1)<=8200:=hbd;have lg5':H5 lg=some (.lst (V.int c0::t0.map V.int)):=by rw [lg5,hct ()];rfl
     clear hbd;exists lg5;ac_rfl;intro t1 H6 ht1 e6 h6;have W6:=e6.at W5;have lg6:=e6.at (lg5 ());have n1W:t1 ≠ W:=λ z=>by rw [z,W5] at ht1;cases ht1
     have al6:Al (λ p y=>twR p y (upd H6 W (.lst (yr++[.ref t1])))) (rows++[(c0,-1)]) (yr++[.ref t1]):=((al5 ()).imp λ _ _ z=>(z.ext e6).upd W6).snoc ⟨t1,rfl,by rw [af n1W];exact h6⟩;exists al6;clear lg5' ht1 q5;ac_rfl;refine⟨yQ %[0|8],?_⟩;have e7:Ext (om [W] H4) (upd H6 W (.lst (yr++[.ref t1]))):=(e5.trans e6).put (jK _ _);have lg7:upd H6 W (.lst (yr++[.ref t1])) lg=some (.lst (l.map V.int)):=by rw [af nlW];exact lg6
     have W7:upd H6 W (.lst (yr++[.ref t1])) W=some (.lst (yr++[.ref t1])):=ah;generalize upd H6 W (.lst (yr++[.ref t1]))=H7 at e7 lg7 W7 al6;clear W6 lg6 h6;rw [hpz ()] at lg7;ac_rfl;rw [y9];refine⟨pre,z,lg7,by rw [←hpz ()];omega,λ r2 H8 hr8 e8 tw8=>?_⟩;obtain⟨y8,h8,al8⟩:=tw8;rw [←hpz ()] at al8;have W8:=e8.at W7;have ad:=add () _ (.inl ⟨rfl,rfl⟩);have hhd:(l,true).1.headD 0=c0:=by rw [hct ()];rfl
     rw [hhd] at ad;have hy8:y8.length=l.length:=by rw [al8.1,fC]
     have al9:Al (λ p y=>twR p y (upd H8 W (.lst (yr++[.ref t1]++y8)))) (rows++(c0,-1)::mH l (-1)) (yr++[.ref t1]++y8):=by
      have h1:=tT ((al6 ()).imp λ _ _ z=>(z.ext e8).upd (ys:=yr++[.ref t1]++y8) W8) (al8.imp λ _ _ z=>z.upd (ys:=yr++[.ref t1]++y8) W8)
      rwa [M9 rows] at h1
     have e9:Ext (om [W] H4) (upd H8 W (.lst (yr++[.ref t1]++y8))):=(e7.trans e8).put (jK _ _);exists al8;exists al9;exists ad;exists hhd;clear W7 lg7;ac_rfl;exact⟨jH (by rw [KY,Mp];omega),_,_,_,_,_,_,_,rfl,e9,rfl,al9 (),ad ()⟩
    | false=>
     obtain⟨a,r0,b',hl',hr0,hna⟩:=lM (kso () rfl);replace hl':l=a++r0::b':=hl'
     obtain⟨ek,hek⟩:∃ ek,ae kp r0=some ek:=by
      cases e:ae kp r0 with
      | none=>rw [e] at hr0;cases hr0
      | some v=>exact⟨v,rfl⟩
     obtain⟨hekD,hfk⟩:=(kI ()).yes r0 ek hek
     have hlk:ae kv ek=some r0:=by
      obtain⟨d,h1,_⟩:=(b ()).wr ek hekD;rw [df h1] at hfk;rw [h1,hfk]
     have hbd':rows.length+l.length<=8200:=by have:=hbd;simp at this;exact this
     have ad:=add () _ (.inr ⟨rfl,a,r0,b',ek,hl',hekD,hlk,rfl⟩)
     have hidx:(l.map λ x=>(ae kp x).isSome).idxOf true=a.length:=by
      rw [hl',Lk,Lo,hr0];have:=pd (a:=a.map λ x=>(ae kp x).isSome) (b:=b'.map λ x=>(ae kp x).isSome) (λ x hx=>by obtain⟨y,hy,rfl⟩:=KS.mp hx;exact hna y hy);rw [this,KG]
     have hmem:true∈l.map λ x=>(ae kp x).isSome:=KS.mpr ⟨r0,by rw [hl'];simp,hr0⟩;have hll:(l.map λ x=>(ae kp x).isSome).length<=4200:=by rw [KG];omega
     exists ad;exists hidx;exists hl';exists hna;exists hekD;clear hbd hr0 hfk;ac_rfl;refine cp (l.map V.int) (λ _=>true) (λ z=>.bl (ae kp (viI z)).isSome) (λ z x H'=>x=z/\H' lg=some (.lst (l.map V.int))) (i7 lg5).1 (i7 lg5).2 (jH (by rw [KG];omega)) ?_ ?_
     ·intro L2 zz x H' M1 M0 hz hL2 e ⟨hx,_⟩ j1 _;subst hx;obtain⟨c,_,rfl⟩:=KS.mp hz;have K6:=e.at K5;have j1':M1 (.bl (ae kp c).isSome) H':=j1 rfl H' (Ext.refl _);clear j1 hz;simp! only [↓aM,↓aZ];refine eL (k:=Sum.inl c) K6 ?_;rw [aq,NC];simp! only [↓aM,↓aZ]
     intro L2 H6 hL2 e6 h6
     have h6':H6 L2=some (.lst ((l.map λ x=>(ae kp x).isSome).map V.bl)):=by
      rw [h6,LP,Np.mpr (λ _ _=>rfl),LP];rfl
     generalize (l.map λ x=>(ae kp x).isSome)=bs at h6' hidx hmem hll;have lg6:=e6.at lg5;have K6:=e6.at K5;have W6:=e6.at W5;have e06:=e5.trans e6;have al6:Al (λ p y=>twR p y H6) rows yr:=(al5 ()).imp λ _ _ z=>z.ext e6;exists al6;clear h6 lg5 K5 W5 q5;ac_rfl;rw [hidx ()];have hat:atI (l.map V.int) (a.length:Int)=some (.int r0):=eT (by rw [hl' (),Lk,Lw (by simp)];simp);rw [gI _ _ (MX _),Ls,show (l.map V.int).drop a.length=(r0::b').map V.int by rw [hl' (),Lk,ON (by simp)]];intro r1 H7 hr7 e7 h7;have lg7:=e7.at lg6;have K7:=e7.at K6;have W7:=e7.at W6;clear lg6 K6 W6 h6';ac_rfl;rw [jY _ _ (MX _),Ls,show (l.map V.int).take a.length=a.map V.int by rw [hl' (),Lk,List.take_left' (by simp)]];intro r2 H8 hr8 e8 h8;have lg8:=e8.at lg7;have K8:=e8.at K7;have W8:=e8.at W7;have h7_8:=e8.at h7;clear lg7 K7 W7 h7;rw [Lo] at h7_8;have hlab:l.length=a.length+(b'.length+1):=by rw [hl' (),KY,Lz]
     ac_rfl;refine⟨jH %[0|8],λ r3 H9 hr9 e9 h9=>?_⟩;have lg9:=e9.at lg8;have K9:=e9.at K8;have W9:=e9.at W8;have h9':H9 r3=some (.lst ((r0::b'++a).map V.int)):=by rw [h9,Lk,Lo];rfl
     clear lg8 K8 W8 h7_8 h8 h9;ac_rfl;refine gU (k:=.inl r0) (v:=.int ek) K9 (by rw [aq,hek];rfl) ?_;ac_rfl;rw [y9]
     obtain⟨pre',z',hpz'⟩:∃ pre' z',r0::b'++a=pre'++[z']:=by
      obtain⟨pre',z',h⟩:=(L9 (r0::b'++a)).resolve_left (by simp);exact⟨pre',z',by rw [h,Mq]⟩
     rw [hpz'] at h9';refine⟨pre',z',h9',by rw [←hpz',KY,Lz];omega,λ r4 H10 hr10 e10 tw10=>?_⟩;obtain⟨y10,h10,al10⟩:=tw10;rw [←hpz'] at al10;have W10:=e10.at W9;have hy10:y10.length=l.length:=by rw [al10.1,fC,KY,Lz];omega
     have e610:=e7.trans (e8.trans (e9.trans e10));have al11:Al (λ p y=>twR p y (upd H10 W (.lst (yr++y10)))) (rows++mH (r0::b'++a) ek) (yr++y10):=tT ((al6 ()).imp λ _ _ z=>(z.ext e610).upd (ys:=yr++y10) W10) (al10.imp λ _ _ z=>z.upd (ys:=yr++y10) W10);have e11:Ext (om [W] H4) (upd H10 W (.lst (yr++y10))):=(e06.trans e610).put (jK _ _);exists al11;exists al10;exists hpz';clear lg9 K9 W9 h9' hat;ac_rfl;exact⟨jH %[0|8],_,_,_,_,_,_,_,rfl,e11,rfl,al11 (),ad ()⟩
   ·rintro _ H5 ⟨v3',v4',v5,v6,v7,rows,yr,rfl,e5,W5,al5,rf⟩;rw [(al4 ()).1,LG] at rf;have rw5:=w9 (hnd ()) (b ()) (hL ()) rf.st rf.ik rf.len;have hrl:rows.length<=8200:=by rw [rf.len];omega
    have k':=k () rows W H5 rw5 hrl hW (pw (e3.trans e4) hW e5) ⟨yr,W5,al5⟩;clear k al5 rw5 rf;ac_rfl
theorem ug(s:Int->Int)(r:List (Int × Int))(p:Int × Int)(x:Int):dJ s (r++[p]) x=if x=p.2 then dJ s r p.1 else dJ s r x:=by rw [gE];rfl
theorem jR:∀ (rows:List (Int × Int)) (s:Int->Int) (x:Int),dJ s rows x=s (dJ id rows x)
 | [],s,x=>rfl
 | (a,b)::r,s,x=>by
  show dJ (λ y=>if y=b then s a else s y) r x=s (dJ (λ y=>if y=b then id a else id y) r x)
  rw [jR r (λ y=>if y=b then s a else s y),jR r (λ y=>if y=b then id a else id y)]
  show (if dJ id r x=b then s a else s (dJ id r x))=s (if dJ id r x=b then a else dJ id r x)
  split<;>rfl
def ixP(n:Nat)(c:Int):Nat:=if c=-1 then n else c.toNat
theorem yS{n:Nat}{c:Int}(h:-1<=c/\c < n):ixP n c < n+1:=by unfold ixP;split<;>omega
theorem yT{n:Nat}{c:Int}(h:-1<=c/\c < n):ixN (n+1) c=some (ixP n c):=by
 unfold ixN ixP
 by_cases e:c=-1
 ·subst e;rw [KU ⋯,KZ rfl,KZ %[0|8]];congr 1;omega
 ·rw [KZ %[0|8],KU e,KZ %[0|8]]
theorem Gy{n:Nat}{c:Int}(h:-1<=c/\c < n){vv:List Int}(hl:vv.length=n+1):atI (vv.map V.int) c=some (.int (vv.getD (ixP n c) 0)):=by
 unfold atI;rw [length_map,hl,yT h]
 show (vv.map V.int)[ixP n c]? = _
 have:=yS h;rw [La,KA %[0|8],Lj,KA %[0|8]];rfl
theorem Cc{n:Nat}{c d:Int}(hc:-1<=c/\c < n)(hd:-1<=d/\d < n)(h:ixP n c=ixP n d):c=d:=by
 unfold ixP at h
 split at h<;>split at h<;>omega
def st0(vals:List Int)(x:Int):Int:=if x=-1 then 0 else vals.getD x.toNat 0
structure VvI(vals:List Int)(rows:List (Int × Int))(vv:List Int):Prop where
 len:vv.length=vals.length+1
 val:∀ x:Int,-1<=x->x < vals.length->vv.getD (ixP vals.length x) 0=dJ (st0 vals) rows x
theorem VvI.ini(vals:List Int):VvI vals [] (vals++[0]):=by
 refine⟨by simp,λ x h1 h2=>?_⟩
 show _=st0 vals x
 unfold st0 ixP
 by_cases e:x=-1
 ·rw [KZ e,KZ e];simp [List.getD]
 ·rw [KU e,KU e,Lj,LD %[0|8],←Lj]
theorem VvI.put{vals:List Int}{rows:List (Int × Int)}{vv:List Int}(h:VvI vals rows vv){p:Int × Int}(h1:-1<=p.1/\p.1 < vals.length)(h2:-1<=p.2/\p.2 < vals.length):VvI vals (rows++[p]) (vv.set (ixP vals.length p.2) (vv.getD (ixP vals.length p.1) 0)):=by
 refine⟨by rw [NQ];exact h.len,λ x g1 g2=>?_⟩;rw [ug,←h.val _ h1.1 h1.2,←h.val x g1 g2];have hl:=yS h2
 by_cases e:x=p.2
 ·rw [KZ e,e,Lj,M7 (by rw [h.len];omega)];rfl
 ·rw [KU e,Lj,Nl (λ z=>e (Cc h2 ⟨g1,g2⟩ z).symm),←Lj]
def zb(rows:List (Int × Int))(n:Nat):Prop:=∀ p∈rows,(-1<=p.1/\p.1 < n)/\(-1<=p.2/\p.2 < n)
structure sG(vals:List Int)(rows:List (Int × Int))(ws:List Int):Prop where
 len:ws.length=vals.length
 val:∀ x:Int,0<=x->x < vals.length->ws.getD x.toNat 0=dJ (st0 vals) rows x
theorem VvI.left{vals:List Int}{rows:List (Int × Int)}{vv:List Int}(h:VvI vals rows vv):sG vals rows (vv.take vals.length):=by
 refine⟨by rw [length_take,h.len];omega,λ x h1 h2=>?_⟩;rw [←h.val x %[0|8] h2,getD_eq_getElem?_getD,List.getElem?_take_of_lt %[0|8],←getD_eq_getElem?_getD];unfold ixP;rw [if_neg %[0|8]]
abbrev tX(CS:Addr)(s:Addr)(W:Addr)(H:Hp)(Q:VK)(E:XK):Prop:=∃ (l:Addr) (vals:List Int) (rows:List (Int × Int)),ba CS H s l vals/\1<=vals.length/\vals.length<=4096/\TwL H W rows/\l ≠ W/\zb rows vals.length/\∀ (ws:List Int) (H':Hp),sG vals rows ws->(∀ H0,Ext H0 H->H0 l=none->Ext H0 H')->(∀ b o,b ≠ l->H b=some o->H' b=some o)->H' l=some (.lst (ws.map V.int))->Q .non H'
def zE(CS:Addr):Sp:=λ vs H Q E=>∃ (s:Addr) (W:Addr),vs=[.ref s,.ref W]/\(tX CS s W H Q E)
theorem CD(CS:Addr)(s:Addr)(W:Addr)(H:Hp)(Q:VK)(E:XK):zE CS [.ref s,.ref W] H Q E=(tX CS s W H Q E):=pL (f:=λ (s:Addr) (W:Addr)=>[.ref s,.ref W]) (λ _ _ _ _ h=>by cases h;exact⟨rfl,rfl⟩) s W
theorem B4(CS:Addr){vs:List V}{H:Hp}{Q:VK}{E:XK}(h:zE CS vs H Q E):vs.length=2:=qR h λ _ _=>rfl
theorem nG(T:Tx K mg t):bp P w K mg base CX0 9 t.a_run_rows t.d_run_rows ["store", "rows"] (zE t.a_Store):=by
 have G_Store_all_values:=%[cv|35];have G_Store_put:=%[gv|35];have G_whole:=%[xr|35];refine T.F_run_rows.ok cX (λ vs H Q E h=>B4 _ h) (λ c A o s' H vs Q E hr h=>?_)
 ·obtain⟨s,W,rfl,l,vals,rows,so,hv1,hv4,tw,nlW,hin,k⟩:=h;have c4:=T.cl_Store;have m1:=aU l (m := "all_values") nofun;have m2:=aU l (m := "put") nofun;obtain⟨dx,hs⟩:=so.ob;have hfl:=so.fl;refine⟨_,%[%[2,cX,%[%[0|0],T.cl_Store,T.mt_Store_all_values,G_Store_all_values,(hr.mono ⋯),T.b_Store_all_values,.nil,bo,∅|25]|4],%[%[3,cX,%[len,aH,%[%[2|0]|1]|6]|4],%[%[%[K1,Ln,Lm,aV,%[2|0],%[%[0|2]|1],∅,∅,∅,∅,∅|24],∅|14],%[%[Ll,rfl,%[%[1|0]|20],(%[(2),rfl,%[%[4,cX|5],%[%[5,cX|5],(@aC _),∅|12],∅|12],∅,∅|22].mono λ _ _ _ _ h=>bD h),%[(@kU _ _ _ _ _ _ %[gk,%[2|0],%[4|0],(λ _ _=>rfl)|16] (@yJ _ _ _ _ _ _ _ %[2|0] %[5|0] oJ (by intros;rfl)) ∅ ∅ ∅)|10],(by intros;rfl)|21],%[%[%[%[0|0],T.cl_Store,T.mt_Store_put,G_Store_put,(hr.mono ⋯),T.b_Store_put,.nil,bo,%[(@sU _ _ _ _ _ _ _ _ _ _ _ _ _ _ _ _ G_whole (hr.mono ⋯) ∅ T.m_whole T.F_whole.kp T.b_whole_1 (.cons (show aX V.non Value.none from rfl) .nil) bo %[%[%[%[3|0]|1]|18]|1] ⋯ ∅ ∅),%[%[zp,%[2|0],(@eQ _),(@eP _ _ _ %[3|0])|31]|1]|1],∅,∅,∅|28],∅|14]|10]|9]|9]|9]|9],?_⟩;rw [show start ["store", "rows", "values", "many", "origin", "cell"] [.ref s,.ref W]=[some (.ref s),some (.ref W),none,none,none,none] from rfl];clear G_Store_all_values G_Store_put G_whole;obtain⟨ys,W0,al⟩:=tw;exists al;exists k;exists so;ac_rfl;rw [j7];refine⟨l,vals,so (),hv4,λ r H1 hr1 e1 h1=>?_⟩;have W1:=e1.at W0;have hs1:=e1.at hs;have hfl1:=e1.at hfl;ac_rfl;refine⟨bZ %[0|8],?_⟩;have e2:Ext H (upd H1 r (.lst (vals.map V.int++[.int 0]))):=e1.put hr1;have h2:upd H1 r (.lst (vals.map V.int++[.int 0])) r=some (.lst ((vals++[0]).map V.int)):=by rw [ah,Lk];rfl
  generalize upd H1 r (.lst (vals.map V.int++[.int 0]))=H2 at e2 h2 ⊢;have W2:=e2.at W0;have vi0:=VvI.ini vals;clear h1 W1 hs1 hfl1;exists vi0;ac_rfl;refine cL (xs:=ys) (λ i σ H'=>∃ (v4 v5:Option V) (vv:List Int),σ=[some (.ref s),some (.ref W),some (.ref r),some (.int (vals.length:Int)),v4,v5]/\Ext H H'/\H' r=some (.lst (vv.map V.int))/\VvI vals (rows.take i) vv) ⟨none,none,vals++[0],rfl,e2,h2,by rw [NM];exact vi0 ()⟩ (λ i σ H' _ ⟨_,_,_,_,e,_⟩=>e.at W0) ?_ ?_
  ·rintro i y _ H3 hy ⟨v4,v5,vv,rfl,e3,h3,vi⟩;have hi:i < rows.length:=by have:=(KH.mp hy).1;rw [(al ()).1] at this;exact this
   obtain⟨p,hp⟩:∃ p,rows[i]? = some p:=⟨_,KA hi⟩;obtain⟨q,rfl,hq⟩:=((al ()).2 i p y hp hy).ext e3;obtain⟨g1,g2⟩:=hin p (Lh hp);have htk:rows.take (i+1)=rows.take i++[p]:=by rw [Lx,hp];rfl
   have vi2:=vi.put g1 g2;rw [←htk] at vi2;have hat:=Gy g1 vi.len;have hix:ixN vv.length p.2=some (ixP vals.length p.2):=by rw [vi.len];exact yT g2
   obtain⟨pa,pb⟩:=p;replace hq:H3 q=some (.tup [.int pa,.int pb]):=hq;replace hat:atI (vv.map V.int) pa=_:=hat;replace hix:ixN vv.length pb=_:=hix;exists vi2;clear hy hp htk vi h2 W2 vi0 g1 g2 hin;ac_rfl;exact⟨_,_,_,rfl,e3.put hr1,by rw [←o1],vi2 ()⟩
  ·rintro _ H3 ⟨v4,v5,vv,rfl,e3,h3,vi⟩;rw [(al ()).1,LG] at vi;have lb:=vi.left;have hvl:=vi.len;have hs3:=e3.at hs;have hfl3:=e3.at hfl;exists lb;clear h2 W2 vi0 vi;ac_rfl;intro n1 H4 _ e4 h4;have e04:=e3.trans e4;have h3_4:=e4.at h3;have hs4:=e4.at hs3;clear h3 hs3 hfl3;ac_rfl;rw [CB];refine⟨(vals.length:Int),h4,by omega,by omega,λ x H5 e5 vx=>?_⟩;have e05:=e04.trans e5;have h3_5:=e5.at h3_4;have hs5:=e5.at hs4;exists vx;clear h3_4 hs4 h4;ac_rfl;rw [jY _ _ (show (0:Int)<=(vals.length:Int) by omega),Ls,←List.map_take];generalize vv.take vals.length=ws at lb ⊢;intro p6 H6 hp6 e6 h6;have e06:=e05.trans e6;have hs6:=e6.at hs5;have npl:p6 ≠ l:=λ z=>by rw [z,e05.at hfl] at hp6;cases hp6
   have so6:=(so ()).ext e06;have vx6:=(vx ()).ext e6;have wc:=nD vals.length hv1;have hwl:ws.length=vals.length:=(lb ()).len;have wax:fq ([((vals.length:Int),(1:Int))].map aG):=fq.kept ⟨by simp,λ a ha=>by rw [KN.mp ha];show (1:Int)<=vals.length/\(vals.length:Int)<=1000000000;omega⟩
   have wpr:ag (([((vals.length:Int),(1:Int))].map aG).map λ a=>a.1)=(vals.length:Int):=by
    rw [eE];show (vals.length:Int) * 1=_;omega
   exists wpr;exists wc;exists so6;exists vx6;exists wax;exists hwl;clear vx h3_5 hs5 hvl;ac_rfl;rw [tP];refine⟨l,vals,_,0,_,ws,so6 (),vx6 (),wax (),rfl,hv4,by rw [wpr ()];omega,?_,h6,npl,by rw [wpr (),hwl ()],λ H7 q1 q2 h7=>?_⟩
   ·rw [wc ()];intro c hc;obtain⟨j,hj,rfl⟩:=KS.mp hc;have:=LQ.mp hj;omega
   rw [wc (),AD (hwl ())] at h7;have k':=k () ws H7 (lb ()) (λ H0 a1 a2=>q1 H0 (a1.trans e06) a2) (λ b o hb hbo=>q2 b o hb (e06.at hbo)) h7;clear k q1 q2 h7 hs6 h6;ac_rfl
def vV(ps:List (Int × Int))(kv:List (Int × Int)):List (Int × Int):=ps.foldl (λ kv p=>da kv p.1 p.2) kv
def gN(cs ds:List Int):List (Int × Int):=vV (cs.zip ds) []
theorem yj(cs ds:List Int):iT cs ds=aE (gN cs ds):=by
 have go:∀ (ps:List (Int × Int)) (kv:List (Int × Int)),ps.foldl (λ kvs p=>c8 kvs (.inl p.1) (.int p.2)) (aE kv)=aE (vV ps kv):=by
  intro ps
  induction ps with
  | nil=>intro kv;rfl
  | cons p ps ih=>
   intro kv
   show ps.foldl _ (c8 (aE kv) (.inl p.1) (.int p.2))=aE (vV ps (da kv p.1 p.2))
   rw [eg,ih]
 exact go (cs.zip ds) []
theorem jJ:∀ (ps kv:List (Int × Int)),NdK kv->NdK (vV ps kv)/\(vV ps kv).length<=kv.length+ps.length/\∀ c e,ae (vV ps kv) c=some e->ae kv c=some e\/(c,e)∈ps
 | [],kv,h=>⟨h,KO _,λ _ _ h=>.inl h⟩
 | p::ps,kv,h=>by
  obtain⟨h1,h2,h3⟩:=jJ ps (da kv p.1 p.2) (cV h _ _);have h4:=jV kv p.1 p.2;refine⟨h1,by show (vV ps (da kv p.1 p.2)).length<=_;rw [Lz];omega,λ c e hc=>?_⟩
  rcases h3 c e hc with h5|h5
  ·rw [b7] at h5
   by_cases hcp:c=p.1
   ·rw [KZ hcp] at h5;refine .inr ?_;rw [hcp,←Lf h5];exact KL
   ·rw [KU hcp] at h5;exact .inl h5
  ·exact .inr (KI _ h5)
theorem oB(cs ds:List Int):NdK (gN cs ds):=(jJ _ [] LL).1
theorem Cy(cs ds:List Int):(gN cs ds).length<=cs.length:=by
 have:=(jJ (cs.zip ds) [] nodup_nil).2.1;rw [length_zip] at this;unfold gN;simp only [List.length_nil] at this;omega
theorem eS{cs ds:List Int}{c e:Int}(h:ae (gN cs ds) c=some e):(c,e)∈cs.zip ds:=by
 rcases (jJ (cs.zip ds) [] LL).2.2 c e h with h|h
 ·cases h
 ·exact h
theorem lJ{vals:List Int}:∀ (ps:List (Int × Int)) (vs:List Int) (kv:List (Int × Int)),vs.length=vals.length->(∀ p∈ps,0<=p.1/\p.1 < vals.length)->(∀ x:Int,0<=x->x < vals.length->vs.getD x.toNat 0=vals.getD (eI kv x).toNat 0)->(ps.foldl (λ vs p=>vs.set p.1.toNat (vals.getD p.2.toNat 0)) vs).length=vals.length/\∀ x:Int,0<=x->x < vals.length->(ps.foldl (λ vs p=>vs.set p.1.toNat (vals.getD p.2.toNat 0)) vs).getD x.toNat 0=vals.getD (eI (vV ps kv) x).toNat 0
 | [],vs,kv,hl,_,h=>⟨hl,h⟩
 | p::ps,vs,kv,hl,hp,h=>by
  have hp1:=hp p mem_cons_self;refine lJ ps (vs.set p.1.toNat (vals.getD p.2.toNat 0)) (da kv p.1 p.2) (by rw [List.length_set];exact hl) (λ q hq=>hp q (mem_cons_of_mem _ hq)) λ x h0 h1=>?_;unfold eI;rw [b7]
  by_cases e:x=p.1
  ·rw [KZ e,e,Lj,M7 %[0|8]];rfl
  ·rw [KU e,Lj,Nl %[0|8],←Lj];exact h x h0 h1
theorem oP{vals cs ds:List Int}(hc:bG cs vals.length):(kL vals cs (gR vals ds)).length=vals.length/\∀ x:Int,0<=x->x < vals.length->(kL vals cs (gR vals ds)).getD x.toNat 0=vals.getD (eI (gN cs ds) x).toNat 0:=by
 have e:kL vals cs (gR vals ds)=(cs.zip ds).foldl (λ vs p=>vs.set p.1.toNat (vals.getD p.2.toNat 0)) vals:=by
  unfold kL gR;rw [List.zip_map_right,List.foldl_map];rfl
 rw [e];exact lJ (cs.zip ds) vals [] rfl (λ p hp=>hc p.1 (MH hp).1) λ x _ _=>rfl
theorem vD{vals cs ds ws:List Int}{rows:List (Int × Int)}(hc:bG cs vals.length)(hd:bG ds vals.length)(hr:wA (gN cs ds) rows)(lb:sG vals rows ws):ws=kL vals cs (gR vals ds):=by
 obtain⟨h1,h2⟩:=oP (ds:=ds) hc;refine OI (by rw [lb.len,h1]) λ i g1 g2=>?_;have hi:i < vals.length:=by rw [←h1];exact g2
 have g3:=lb.val (i:Int) %[0|8] %[0|8];have g4:=h2 (i:Int) %[0|8] %[0|8];rw [jR,hr.1 _ %[0|8]] at g3;unfold st0 at g3
 have hne:¬ eI (gN cs ds) (i:Int)=-1:=by
  unfold eI
  cases e:ae (gN cs ds) (i:Int) with
  | none=>show ¬ (i:Int)=-1;omega
  | some v=>have:=hd v (MH (eS e)).2;show ¬ v=-1;omega
 rw [KU hne,←g4,Ls,Lj,KA g1,Lj,KA g2] at g3;exact g3
theorem CA{vals cs ds:List Int}{rows:List (Int × Int)}(hc:bG cs vals.length)(hd:bG ds vals.length)(hr:wA (gN cs ds) rows):zb rows vals.length:=by
 have key:∀ x,InK (gN cs ds) x->-1<=x/\x < vals.length:=λ x hx=>by
  rcases hx with rfl|hx|hx
  ·omega
  ·obtain⟨p,hp,rfl⟩:=KS.mp hx;have:=hc p.1 (MH (eS (bE (oB cs ds) hp))).1;omega
  ·obtain⟨p,hp,rfl⟩:=KS.mp hx;have:=hd p.2 (MH (eS (bE (oB cs ds) hp))).2;omega
 exact λ p hp=>⟨key p.1 (hr.2.1 p hp).1,key p.2 (hr.2.1 p hp).2⟩
theorem pk:∀ (ps kv:List (Int × Int)),((kv++ps).map (·.1)).Nodup->vV ps kv=kv++ps
 | [],kv,_=>(M4 kv).symm
 | p::ps,kv,h=>by
  have hn:ae kv p.1=none:=cq.mpr λ m=>by
   rw [Lk,Lo,LC] at h;exact h.2.2 p.1 m p.1 KL rfl
  have e:da kv p.1 p.2=kv++[p]:=by unfold da;rw [if_neg (by rw [hn];decide)]
  show vV ps (da kv p.1 p.2)=_
  rw [e,pk ps (kv++[p]) (by rw [M9];exact h),M9];rfl
def zv(kv:List (Int × Int)):Prop:=NdK kv/\kv.length<=4200/\jx (kv.map (·.1))/\(Few kv\/(G6 kv/\kv.length<=4000))
def kH(f p:Int)(n:Nat):List Int:=(List.range n).map λ (k:Nat)=>f+(k:Int) * p
theorem sA{f1 f2 p:Int}{n:Nat}(hn:n<=4000)(hp:p=1\/p=-1):zv (gN (kH f1 1 n) (kH f2 p n)):=by
 have hz:(kH f1 1 n).zip (kH f2 p n)=(List.range n).map λ (k:Nat)=>(f1+(k:Int) * 1,f2+(k:Int) * p):=by
  unfold kH;rw [List.zip_map',]
 have hk:((kH f1 1 n).zip (kH f2 p n)).map (·.1)=kH f1 1 n:=by rw [hz,LP];rfl
 have hlt:(kH f1 1 n).Pairwise (· < ·):=by
  unfold kH;rw [pairwise_map];exact List.Pairwise.imp (λ {a b} h=>by omega) List.pairwise_lt_range
 have e:gN (kH f1 1 n) (kH f2 p n)=(kH f1 1 n).zip (kH f2 p n):=by
  unfold gN;rw [pk _ [] (by rw [List.nil_append,hk];exact hlt.imp λ h=>by omega),List.nil_append]
 have hl:(gN (kH f1 1 n) (kH f2 p n)).length=n:=by rw [e,hz];simp
 refine⟨oB _ _,by omega,.inr (.inl (by rw [e,hk];exact hlt.imp λ h=>Int.le_of_lt h)),.inr ⟨λ x y d hx hy=>?_,by omega⟩⟩;have h1:=eS hx;have h2:=eS hy;rw [hz] at h1 h2;obtain⟨a,_,e1⟩:=KS.mp h1;obtain⟨b,_,e2⟩:=KS.mp h2;have e3:=(Prod.mk.inj e1);have e4:=(Prod.mk.inj e2)
 rcases hp with rfl|rfl<;>omega
abbrev Fst:Type:=Int × List (Int × Int)
def FaR(z:Fst)(x:V)(H:Hp):Prop:=∃ p q,x=.ref p/\H p=some (.tup [.int z.1,.ref q])/\aT H q (axL z.2)
theorem FaR.ext{z:Fst}{x:V}{H H':Hp}(h:FaR z x H)(e:Ext H H'):FaR z x H':=by
 obtain⟨p,q,h1,h2,h3⟩:=h;exact⟨p,q,h1,e.at h2,h3.ext e⟩
def CpR(c:Fst × Fst)(y:V)(H:Hp):Prop:=∃ p x1 x2,y=.ref p/\H p=some (.tup [x1,x2])/\FaR c.1 x1 H/\FaR c.2 x2 H
theorem CpR.ext{c:Fst × Fst}{y:V}{H H':Hp}(h:CpR c y H)(e:Ext H H'):CpR c y H':=by
 obtain⟨p,x1,x2,h1,h2,h3,h4⟩:=h;exact⟨p,x1,x2,h1,e.at h2,h3.ext e,h4.ext e⟩
def G5(z1 z2:Fst)(room:Int):List (Fst × Fst):=[(z1,z2),(z2,z1),(z1,z1),((0,[(room,1)]),(room - 1,[(room,-1)])),(z2,z1)]
def HW(room on:Int):List (Fst × Fst):=[((0,[(room - on,1)]),(on,[(room - on,1)])),((on,[(room - on,1)]),(0,[(room - on,1)]))]
def yw(z1 z2:Fst)(room on:Int):List (Fst × Fst):=G5 z1 z2 room++if on < room then HW room on else []
theorem ja{f s p:Int}{H:Hp}{t l q:Addr}(h1:H t=some (.tup [.int s,.int p]))(h2:H l=some (.lst [.ref t]))(h3:H q=some (.tup [.int f,.ref l])):FaR (f,[(s,p)]) (.ref q) H:=⟨q,l,rfl,h3,[.ref t],h2,(Al.nil (R:=qV H)).snoc (z:=[s,p]) ⟨t,rfl,h1⟩⟩
abbrev tZ  (p1:Addr) (p2:Addr) (room:Int) (on:Int) (H:Hp) (Q:VK) (E:XK):Prop:=∃ z1 z2:Fst,FaR z1 (.ref p1) H/\FaR z2 (.ref p2) H/\∀ (r:Addr) (ys:List V) (H':Hp),H r=none->Ext H H'->H' r=some (.lst ys)->Al (λ c y=>CpR c y H') (yw z1 z2 room on) ys->Q (.ref r) H'
def zH  : Sp:=λ vs H Q E=>∃ (p1:Addr) (p2:Addr) (room:Int) (on:Int),vs=[.ref p1,.ref p2,.int room,.int on]/\(tZ  p1 p2 room on H Q E)
theorem CG  (p1:Addr) (p2:Addr) (room:Int) (on:Int) (H:Hp) (Q:VK) (E:XK):zH  [.ref p1,.ref p2,.int room,.int on] H Q E=(tZ  p1 p2 room on H Q E):=Jv (f:=λ (p1:Addr) (p2:Addr) (room:Int) (on:Int)=>[.ref p1,.ref p2,.int room,.int on]) (λ _ _ _ _ _ _ _ _ h=>by cases h;exact⟨rfl,rfl,rfl,rfl⟩) p1 p2 room on
theorem B8  {vs:List V}{H:Hp}{Q:VK}{E:XK}(h:zH  vs H Q E):vs.length=4:=Jw h λ _ _ _ _=>rfl
theorem iX(T:Tx K mg t):bp P w K mg base CX0 1 t.a__law_copies t.d__law_copies ["_law_one", "_law_other", "_law_room", "_law_on"] zH:=by
 refine T.F__law_copies.ok bg (λ vs H Q E h=>B8 h) (λ c A o s' H vs Q E hr h=>?_)
 ·obtain⟨p1,p2,room,on,rfl,z1,z2,fa1,fa2,k⟩:=h;refine⟨_,%[%[4,bg,%[%[%[0|2],%[%[%[%[%[%[2|0],%[%[0|2]|1]|1]|15]|1]|18]|1]|1]|15]|4],%[%[5,bg,%[%[%[bX,%[2|0],%[0|2]|11],%[%[%[%[%[%[2|0],%[(@rj _ _ _ _ _ _ g9 %[0|2])|1]|1]|15]|1]|18]|1]|1]|15]|4],%[%[6,bg,%[%[%[%[%[0|0],%[%[1|0]|1]|1]|15],%[%[%[%[1|0],%[%[0|0]|1]|1]|15],%[%[%[%[0|0],%[%[0|0]|1]|1]|15],%[%[%[%[4|0],%[%[5|0]|1]|1]|15],%[%[%[%[1|0],%[%[0|0]|1]|1]|15]|1]|1]|1]|1]|1]|18]|4],%[%[%[DF,%[3|0],%[2|0],(aL _)|17],%[%[7,bg,%[%[%[%[%[bX,%[2|0],%[3|0]|11],%[%[0|2]|1]|1]|15]|1]|18]|4],%[%[6,bg,%[hJ,%[6|0],%[%[%[%[%[%[%[0|2],%[%[7|0]|1]|1]|15],%[%[%[%[3|0],%[%[7|0]|1]|1]|15]|1]|1]|15],%[%[%[%[%[%[3|0],%[%[7|0]|1]|1]|15],%[%[%[%[0|2],%[%[7|0]|1]|1]|15]|1]|1]|15]|1]|1]|18]|11]|4]|10]|9],(@aW _)|23],%[%[%[6|0]|13]|10]|9]|9]|9]|9],?_⟩;rw [show start ["_law_one", "_law_other", "_law_room", "_law_on", "_law_entire", "_law_back", "_law_copies_here", "_law_axes_here"] [.ref p1,.ref p2,.int room,.int on]=[some (.ref p1),some (.ref p2),some (.int room),some (.int on),none,none,none,none] from rfl];exists k;exists fa1;exists fa2;have E0:=λ (_:Unit)=>Ext.refl H;ac_rfl;intro t1 H1 n1 e1 h1;have E1:=λ (_:Unit)=>(E0 ()).trans e1;replace fa1:=λ (_:Unit)=>(fa1 ()).ext e1;replace fa2:=λ (_:Unit)=>(fa2 ()).ext e1;have f_t1:=λ (_:Unit)=>h1;clear n1 e1 h1 E0;ac_rfl;intro l1 H2 n2 e2 h2;have E2:=λ (_:Unit)=>(E1 ()).trans e2;replace f_t1:=λ (_:Unit)=>e2.at (f_t1 ());replace fa1:=λ (_:Unit)=>(fa1 ()).ext e2;replace fa2:=λ (_:Unit)=>(fa2 ()).ext e2;have f_l1:=λ (_:Unit)=>h2;clear n2 e2 h2 E1;ac_rfl;intro q1 H3 n3 e3 h3;have E3:=λ (_:Unit)=>(E2 ()).trans e3;replace f_t1:=λ (_:Unit)=>e3.at (f_t1 ());replace f_l1:=λ (_:Unit)=>e3.at (f_l1 ());replace fa1:=λ (_:Unit)=>(fa1 ()).ext e3;replace fa2:=λ (_:Unit)=>(fa2 ()).ext e3;have f_q1:=λ (_:Unit)=>h3;clear n3 e3 h3 E2;ac_rfl;intro t2 H4 n4 e4 h4;have E4:=λ (_:Unit)=>(E3 ()).trans e4;replace f_t1:=λ (_:Unit)=>e4.at (f_t1 ());replace f_l1:=λ (_:Unit)=>e4.at (f_l1 ());replace f_q1:=λ (_:Unit)=>e4.at (f_q1 ());replace fa1:=λ (_:Unit)=>(fa1 ()).ext e4;replace fa2:=λ (_:Unit)=>(fa2 ()).ext e4;have f_t2:=λ (_:Unit)=>h4;clear n4 e4 h4 E3;ac_rfl;intro l2 H5 n5 e5 h5;have E5:=λ (_:Unit)=>(E4 ()).trans e5;replace f_t1:=λ (_:Unit)=>e5.at (f_t1 ());replace f_l1:=λ (_:Unit)=>e5.at (f_l1 ());replace f_q1:=λ (_:Unit)=>e5.at (f_q1 ());replace f_t2:=λ (_:Unit)=>e5.at (f_t2 ());replace fa1:=λ (_:Unit)=>(fa1 ()).ext e5;replace fa2:=λ (_:Unit)=>(fa2 ()).ext e5;have f_l2:=λ (_:Unit)=>h5;clear n5 e5 h5 E4;ac_rfl;intro q2 H6 n6 e6 h6;have E6:=λ (_:Unit)=>(E5 ()).trans e6;replace f_t1:=λ (_:Unit)=>e6.at (f_t1 ());replace f_l1:=λ (_:Unit)=>e6.at (f_l1 ());replace f_q1:=λ (_:Unit)=>e6.at (f_q1 ());replace f_t2:=λ (_:Unit)=>e6.at (f_t2 ());replace f_l2:=λ (_:Unit)=>e6.at (f_l2 ());replace fa1:=λ (_:Unit)=>(fa1 ()).ext e6;replace fa2:=λ (_:Unit)=>(fa2 ()).ext e6;have f_q2:=λ (_:Unit)=>h6;clear n6 e6 h6 E5;ac_rfl;intro c1 H7 n7 e7 h7;have E7:=λ (_:Unit)=>(E6 ()).trans e7;replace f_t1:=λ (_:Unit)=>e7.at (f_t1 ());replace f_l1:=λ (_:Unit)=>e7.at (f_l1 ());replace f_q1:=λ (_:Unit)=>e7.at (f_q1 ());replace f_t2:=λ (_:Unit)=>e7.at (f_t2 ());replace f_l2:=λ (_:Unit)=>e7.at (f_l2 ());replace f_q2:=λ (_:Unit)=>e7.at (f_q2 ());replace fa1:=λ (_:Unit)=>(fa1 ()).ext e7;replace fa2:=λ (_:Unit)=>(fa2 ()).ext e7;have f_c1:=λ (_:Unit)=>h7;clear n7 e7 h7 E6;ac_rfl;intro c2 H8 n8 e8 h8;have E8:=λ (_:Unit)=>(E7 ()).trans e8;replace f_t1:=λ (_:Unit)=>e8.at (f_t1 ());replace f_l1:=λ (_:Unit)=>e8.at (f_l1 ());replace f_q1:=λ (_:Unit)=>e8.at (f_q1 ());replace f_t2:=λ (_:Unit)=>e8.at (f_t2 ());replace f_l2:=λ (_:Unit)=>e8.at (f_l2 ());replace f_q2:=λ (_:Unit)=>e8.at (f_q2 ());replace f_c1:=λ (_:Unit)=>e8.at (f_c1 ());replace fa1:=λ (_:Unit)=>(fa1 ()).ext e8;replace fa2:=λ (_:Unit)=>(fa2 ()).ext e8;have f_c2:=λ (_:Unit)=>h8;clear n8 e8 h8 E7;ac_rfl;intro c3 H9 n9 e9 h9;have E9:=λ (_:Unit)=>(E8 ()).trans e9;replace f_t1:=λ (_:Unit)=>e9.at (f_t1 ());replace f_l1:=λ (_:Unit)=>e9.at (f_l1 ());replace f_q1:=λ (_:Unit)=>e9.at (f_q1 ());replace f_t2:=λ (_:Unit)=>e9.at (f_t2 ());replace f_l2:=λ (_:Unit)=>e9.at (f_l2 ());replace f_q2:=λ (_:Unit)=>e9.at (f_q2 ());replace f_c1:=λ (_:Unit)=>e9.at (f_c1 ());replace f_c2:=λ (_:Unit)=>e9.at (f_c2 ());replace fa1:=λ (_:Unit)=>(fa1 ()).ext e9;replace fa2:=λ (_:Unit)=>(fa2 ()).ext e9;have f_c3:=λ (_:Unit)=>h9;clear n9 e9 h9 E8;ac_rfl;intro c4 H10 n10 e10 h10;have E10:=λ (_:Unit)=>(E9 ()).trans e10;replace f_t1:=λ (_:Unit)=>e10.at (f_t1 ());replace f_l1:=λ (_:Unit)=>e10.at (f_l1 ());replace f_q1:=λ (_:Unit)=>e10.at (f_q1 ());replace f_t2:=λ (_:Unit)=>e10.at (f_t2 ());replace f_l2:=λ (_:Unit)=>e10.at (f_l2 ());replace f_q2:=λ (_:Unit)=>e10.at (f_q2 ());replace f_c1:=λ (_:Unit)=>e10.at (f_c1 ());replace f_c2:=λ (_:Unit)=>e10.at (f_c2 ());replace f_c3:=λ (_:Unit)=>e10.at (f_c3 ());replace fa1:=λ (_:Unit)=>(fa1 ()).ext e10;replace fa2:=λ (_:Unit)=>(fa2 ()).ext e10;have f_c4:=λ (_:Unit)=>h10;clear n10 e10 h10 E9;ac_rfl;intro c5 H11 n11 e11 h11;have E11:=λ (_:Unit)=>(E10 ()).trans e11;replace f_t1:=λ (_:Unit)=>e11.at (f_t1 ());replace f_l1:=λ (_:Unit)=>e11.at (f_l1 ());replace f_q1:=λ (_:Unit)=>e11.at (f_q1 ());replace f_t2:=λ (_:Unit)=>e11.at (f_t2 ());replace f_l2:=λ (_:Unit)=>e11.at (f_l2 ());replace f_q2:=λ (_:Unit)=>e11.at (f_q2 ());replace f_c1:=λ (_:Unit)=>e11.at (f_c1 ());replace f_c2:=λ (_:Unit)=>e11.at (f_c2 ());replace f_c3:=λ (_:Unit)=>e11.at (f_c3 ());replace f_c4:=λ (_:Unit)=>e11.at (f_c4 ());replace fa1:=λ (_:Unit)=>(fa1 ()).ext e11;replace fa2:=λ (_:Unit)=>(fa2 ()).ext e11;have f_c5:=λ (_:Unit)=>h11;clear n11 e11 h11 E10;have EB:=E11;ac_rfl;intro cl H12 ncl ecl hcl;have En:=λ (_:Unit)=>(E11 ()).trans ecl;replace f_t1:=λ (_:Unit)=>ecl.at (f_t1 ());replace f_l1:=λ (_:Unit)=>ecl.at (f_l1 ());replace f_q1:=λ (_:Unit)=>ecl.at (f_q1 ());replace f_t2:=λ (_:Unit)=>ecl.at (f_t2 ());replace f_l2:=λ (_:Unit)=>ecl.at (f_l2 ());replace f_q2:=λ (_:Unit)=>ecl.at (f_q2 ());replace f_c1:=λ (_:Unit)=>ecl.at (f_c1 ());replace f_c2:=λ (_:Unit)=>ecl.at (f_c2 ());replace f_c3:=λ (_:Unit)=>ecl.at (f_c3 ());replace f_c4:=λ (_:Unit)=>ecl.at (f_c4 ());replace f_c5:=λ (_:Unit)=>ecl.at (f_c5 ());replace fa1:=λ (_:Unit)=>(fa1 ()).ext ecl;replace fa2:=λ (_:Unit)=>(fa2 ()).ext ecl;have hcn:H cl=none:=(E11 ()).free ncl;exists hcn;have hclF:=λ (_:Unit)=>hcl
  have alA:Al (λ c y=>CpR c y H12) (G5 z1 z2 room) [.ref c1,.ref c2,.ref c3,.ref c4,.ref c5]:=by
   have g1:=ja (f_t1 ()) (f_l1 ()) (f_q1 ());have g2:=ja (f_t2 ()) (f_l2 ()) (f_q2 ());exact((((((Al.nil (R:=λ c y=>CpR c y H12)).snoc (z:=(z1,z2)) ⟨c1,_,_,rfl,f_c1 (),fa1 (),fa2 ()⟩).snoc (z:=(z2,z1)) ⟨c2,_,_,rfl,f_c2 (),fa2 (),fa1 ()⟩).snoc (z:=(z1,z1)) ⟨c3,_,_,rfl,f_c3 (),fa1 (),fa1 ()⟩).snoc (z:=((0,[(room,1)]),(room - 1,[(room,-1)]))) ⟨c4,_,_,rfl,f_c4 (),g1,g2⟩).snoc (z:=(z2,z1)) ⟨c5,_,_,rfl,f_c5 (),fa2 (),fa1 ()⟩)
  exists alA;clear ecl ncl EB E11 f_t1 f_l1 f_q1 f_t2 f_l2 f_q2 f_c1 f_c2 f_c3 f_c4 f_c5
  by_cases hon:on < room
  ·clear hcl;ac_rfl;intro t3 H13 n13 e13 h13;have E13:=λ (_:Unit)=>(En ()).trans e13;replace hclF:=λ (_:Unit)=>e13.at (hclF ());replace alA:=λ (_:Unit)=>(alA ()).imp λ _ _ z=>z.ext e13;have f_t3:=λ (_:Unit)=>h13;clear n13 e13 h13 En;ac_rfl;intro l3 H14 n14 e14 h14;have E14:=λ (_:Unit)=>(E13 ()).trans e14;replace hclF:=λ (_:Unit)=>e14.at (hclF ());replace f_t3:=λ (_:Unit)=>e14.at (f_t3 ());replace alA:=λ (_:Unit)=>(alA ()).imp λ _ _ z=>z.ext e14;have f_l3:=λ (_:Unit)=>h14;clear n14 e14 h14 E13;ac_rfl;intro q3 H15 n15 e15 h15;have E15:=λ (_:Unit)=>(E14 ()).trans e15;replace hclF:=λ (_:Unit)=>e15.at (hclF ());replace f_t3:=λ (_:Unit)=>e15.at (f_t3 ());replace f_l3:=λ (_:Unit)=>e15.at (f_l3 ());replace alA:=λ (_:Unit)=>(alA ()).imp λ _ _ z=>z.ext e15;have f_q3:=λ (_:Unit)=>h15;clear n15 e15 h15 E14;ac_rfl;intro q4 H16 n16 e16 h16;have E16:=λ (_:Unit)=>(E15 ()).trans e16;replace hclF:=λ (_:Unit)=>e16.at (hclF ());replace f_t3:=λ (_:Unit)=>e16.at (f_t3 ());replace f_l3:=λ (_:Unit)=>e16.at (f_l3 ());replace f_q3:=λ (_:Unit)=>e16.at (f_q3 ());replace alA:=λ (_:Unit)=>(alA ()).imp λ _ _ z=>z.ext e16;have f_q4:=λ (_:Unit)=>h16;clear n16 e16 h16 E15;ac_rfl;intro c6 H17 n17 e17 h17;have E17:=λ (_:Unit)=>(E16 ()).trans e17;replace hclF:=λ (_:Unit)=>e17.at (hclF ());replace f_t3:=λ (_:Unit)=>e17.at (f_t3 ());replace f_l3:=λ (_:Unit)=>e17.at (f_l3 ());replace f_q3:=λ (_:Unit)=>e17.at (f_q3 ());replace f_q4:=λ (_:Unit)=>e17.at (f_q4 ());replace alA:=λ (_:Unit)=>(alA ()).imp λ _ _ z=>z.ext e17;have f_c6:=λ (_:Unit)=>h17;clear n17 e17 h17 E16;ac_rfl;intro q5 H18 n18 e18 h18;have E18:=λ (_:Unit)=>(E17 ()).trans e18;replace hclF:=λ (_:Unit)=>e18.at (hclF ());replace f_t3:=λ (_:Unit)=>e18.at (f_t3 ());replace f_l3:=λ (_:Unit)=>e18.at (f_l3 ());replace f_q3:=λ (_:Unit)=>e18.at (f_q3 ());replace f_q4:=λ (_:Unit)=>e18.at (f_q4 ());replace f_c6:=λ (_:Unit)=>e18.at (f_c6 ());replace alA:=λ (_:Unit)=>(alA ()).imp λ _ _ z=>z.ext e18;have f_q5:=λ (_:Unit)=>h18;clear n18 e18 h18 E17;ac_rfl;intro q6 H19 n19 e19 h19;have E19:=λ (_:Unit)=>(E18 ()).trans e19;replace hclF:=λ (_:Unit)=>e19.at (hclF ());replace f_t3:=λ (_:Unit)=>e19.at (f_t3 ());replace f_l3:=λ (_:Unit)=>e19.at (f_l3 ());replace f_q3:=λ (_:Unit)=>e19.at (f_q3 ());replace f_q4:=λ (_:Unit)=>e19.at (f_q4 ());replace f_c6:=λ (_:Unit)=>e19.at (f_c6 ());replace f_q5:=λ (_:Unit)=>e19.at (f_q5 ());replace alA:=λ (_:Unit)=>(alA ()).imp λ _ _ z=>z.ext e19;have f_q6:=λ (_:Unit)=>h19;clear n19 e19 h19 E18;ac_rfl;intro c7 H20 n20 e20 h20;have E20:=λ (_:Unit)=>(E19 ()).trans e20;replace hclF:=λ (_:Unit)=>e20.at (hclF ());replace f_t3:=λ (_:Unit)=>e20.at (f_t3 ());replace f_l3:=λ (_:Unit)=>e20.at (f_l3 ());replace f_q3:=λ (_:Unit)=>e20.at (f_q3 ());replace f_q4:=λ (_:Unit)=>e20.at (f_q4 ());replace f_c6:=λ (_:Unit)=>e20.at (f_c6 ());replace f_q5:=λ (_:Unit)=>e20.at (f_q5 ());replace f_q6:=λ (_:Unit)=>e20.at (f_q6 ());replace alA:=λ (_:Unit)=>(alA ()).imp λ _ _ z=>z.ext e20;have f_c7:=λ (_:Unit)=>h20;clear n20 e20 h20 E19;ac_rfl;intro m3 H21 n21 e21 h21;have E21:=λ (_:Unit)=>(E20 ()).trans e21;replace hclF:=λ (_:Unit)=>e21.at (hclF ());replace f_t3:=λ (_:Unit)=>e21.at (f_t3 ());replace f_l3:=λ (_:Unit)=>e21.at (f_l3 ());replace f_q3:=λ (_:Unit)=>e21.at (f_q3 ());replace f_q4:=λ (_:Unit)=>e21.at (f_q4 ());replace f_c6:=λ (_:Unit)=>e21.at (f_c6 ());replace f_q5:=λ (_:Unit)=>e21.at (f_q5 ());replace f_q6:=λ (_:Unit)=>e21.at (f_q6 ());replace f_c7:=λ (_:Unit)=>e21.at (f_c7 ());replace alA:=λ (_:Unit)=>(alA ()).imp λ _ _ z=>z.ext e21;have f_m3:=λ (_:Unit)=>h21;clear n21 e21 h21 E20;have hcl:=hclF ();have hm3:=f_m3 ();ac_rfl;intro cc H22 ncc ecc hcc;have g3:=ja (ecc.at (f_t3 ())) (ecc.at (f_l3 ())) (ecc.at (f_q3 ()));have g4:=ja (ecc.at (f_t3 ())) (ecc.at (f_l3 ())) (ecc.at (f_q4 ()));have g5:=ja (ecc.at (f_t3 ())) (ecc.at (f_l3 ())) (ecc.at (f_q5 ()));have g6:=ja (ecc.at (f_t3 ())) (ecc.at (f_l3 ())) (ecc.at (f_q6 ()));have alB:Al (λ c y=>CpR c y H22) (G5 z1 z2 room++HW room on) ([.ref c1,.ref c2,.ref c3,.ref c4,.ref c5]++[.ref c6,.ref c7]):=(((alA ()).imp λ _ _ z=>z.ext ecc).snoc (z:=((0,[(room - on,1)]),(on,[(room - on,1)]))) ⟨c6,_,_,rfl,ecc.at (f_c6 ()),g3,g4⟩).snoc (z:=((on,[(room - on,1)]),(0,[(room - on,1)]))) ⟨c7,_,_,rfl,ecc.at (f_c7 ()),g5,g6⟩
   have alC:Al (λ c y=>CpR c y H22) (yw z1 z2 room on) [.ref c1,.ref c2,.ref c3,.ref c4,.ref c5,.ref c6,.ref c7]:=by
    unfold yw;rw [if_pos hon];exact alB
   have k':=k () cc _ H22 ((E21 ()).free ncc) ((E21 ()).trans ecc) hcc alC;clear k hcl hm3 hcc alB alC g3 g4 g5 g6 ncc ecc;ac_rfl
  ·have al':Al (λ c y=>CpR c y H12) (yw z1 z2 room on) [.ref c1,.ref c2,.ref c3,.ref c4,.ref c5]:=by
    unfold yw;rw [if_neg hon,append_nil];exact alA ()
   have k':=k () cl _ H12 (hcn ()) (En ()) (hclF ()) al';clear k hcl al';ac_rfl
theorem vA{kv:List (Int × Int)}(h:kv.length < 64):Few kv:=by
 intro Cl hr hn
 have h1:=cg hn (b:=kv.map (·.1)) λ x hx=>by
  obtain⟨l,hl,rfl⟩:=KS.mp hx;obtain⟨d,h1,_⟩:=(hr l hl).1.mem (hr l hl).head_mem;exact ao.mp (by rw [h1];rfl)
 rw [KG,KG] at h1;omega
theorem sC{cs ds:List Int}(h:cs.length < 64):zv (gN cs ds):=by
 have:=Cy cs ds;exact⟨oB _ _,by omega,.inl (by rw [KG];omega),.inl (vA %[0|8])⟩
def gP(a b:Addr)(H:Hp):Hp:=λ x=>if x=a\/x=b then none else H x
theorem pq(a b:Addr)(H:Hp):Ext (gP a b H) H:=iR.ext λ x o h=>by
 unfold gP at h
 by_cases e:x=a\/x=b
 ·rw [KZ e] at h;cases h
 ·rwa [KU e] at h
theorem cn{a b x:Addr}{H:Hp}{o:HO}(h1:x ≠ a)(h2:x ≠ b)(h:H x=some o):gP a b H x=some o:=by
 unfold gP;rw [if_neg (by rintro (e|e);exact h1 e;exact h2 e)];exact h
theorem yl{a b:Addr}{B H:Hp}(e:Ext B H)(h1:B a=none)(h2:B b=none):Ext B (gP a b H):=iR.ext λ x o h=>cn (λ z=>by rw [z,h1] at h;cases h) (λ z=>by rw [z,h2] at h;cases h) (e.at h)
theorem yZ{a b:Addr}{H:Hp}:gP a b H a=none:=KZ (.inl rfl)
theorem yY{a b:Addr}{H:Hp}:gP a b H b=none:=KZ (.inr rfl)
theorem i8{H:Hp}{D l:Addr}{ys:List V}{vals:List Int}(h:H D=some (.lst ys))(hr:∀ y∈ys,∃ q,y=V.ref q)(hl:H l=some (.lst (vals.map V.int)))(h1:1<=vals.length):D ≠ l:=λ z=>by
 rw [z,hl] at h;cases h
 cases vals with
 | nil=>simp at h1
 | cons v vals=>
  obtain⟨q,e⟩:=hr (.int v) (by simp);cases e
theorem sF{α:Type}{H:Hp}{R:α->V->Prop}{zs:List α}{ys:List V}(al:Al R zs ys)(hR:∀ z y,R z y->∃ q,y=V.ref q):∀ y∈ys,∃ q,y=V.ref q:=λ y hy=>by
 obtain⟨i,hi,rfl⟩:=L0 hy;have hi2:i < zs.length:=by rw [←al.1];exact hi
 exact hR _ _ (al.2 i zs[i] ys[i] (KA hi2) (KA hi))
theorem aT.cut2{H:Hp}{a b D:Addr}{zs:List (List Int)}{va vb:List Int}(h:aT H D zs)(ha:H a=some (.lst (va.map V.int)))(hb:H b=some (.lst (vb.map V.int)))(h1:1<=va.length)(h2:1<=vb.length):aT (gP a b H) D zs:=by
 obtain⟨ys,g1,g2⟩:=h;have hr:=sF (H:=H) g2 λ z y ⟨q,e,_⟩=>⟨q,e⟩;exact⟨ys,cn (i8 g1 hr ha h1) (i8 g1 hr hb h2) g1,g2.imp λ z y ⟨q,e,hq⟩=>⟨q,e,cn (λ z=>by rw [z,ha] at hq;cases hq) (λ z=>by rw [z,hb] at hq;cases hq) hq⟩⟩
theorem aJ.cut2{C:Addr}{H:Hp}{a b v:Addr}{room f:Int}{A:List (Int × Int)}{va vb:List Int}(h:aJ C H v room f A)(ha:H a=some (.lst (va.map V.int)))(hb:H b=some (.lst (vb.map V.int)))(h1:1<=va.length)(h2:1<=vb.length):aJ C (gP a b H) v room f A:=by
 obtain⟨dx,D,g1,g2⟩:=h.ob;exact⟨⟨dx,D,cn (λ z=>by rw [z,ha] at g1;cases g1) (λ z=>by rw [z,hb] at g1;cases g1) g1,aT.cut2 g2 ha hb h1 h2⟩⟩
theorem TwL.cut2{H:Hp}{a b D:Addr}{rows:List (Int × Int)}{va vb:List Int}(h:TwL H D rows)(ha:H a=some (.lst (va.map V.int)))(hb:H b=some (.lst (vb.map V.int)))(h1:1<=va.length)(h2:1<=vb.length):TwL (gP a b H) D rows:=by
 obtain⟨ys,g1,g2⟩:=h;have hr:=sF (H:=H) g2 λ z y ⟨q,e,_⟩=>⟨q,e⟩;exact⟨ys,cn (i8 g1 hr ha h1) (i8 g1 hr hb h2) g1,g2.imp λ z y ⟨q,e,hq⟩=>⟨q,e,cn (λ z=>by rw [z,ha] at hq;cases hq) (λ z=>by rw [z,hb] at hq;cases hq) hq⟩⟩
theorem FaR.cut2{H:Hp}{a b:Addr}{z:Fst}{x:V}{va vb:List Int}(h:FaR z x H)(ha:H a=some (.lst (va.map V.int)))(hb:H b=some (.lst (vb.map V.int)))(h1:1<=va.length)(h2:1<=vb.length):FaR z x (gP a b H):=by
 obtain⟨p,q,e,g1,g2⟩:=h;exact⟨p,q,e,cn (λ z=>by rw [z,ha] at g1;cases g1) (λ z=>by rw [z,hb] at g1;cases g1) g1,aT.cut2 g2 ha hb h1 h2⟩
theorem CpR.cut2{H:Hp}{a b:Addr}{c:Fst × Fst}{y:V}{va vb:List Int}(h:CpR c y H)(ha:H a=some (.lst (va.map V.int)))(hb:H b=some (.lst (vb.map V.int)))(h1:1<=va.length)(h2:1<=vb.length):CpR c y (gP a b H):=by
 obtain⟨p,x1,x2,e,g1,g2,g3⟩:=h;exact⟨p,x1,x2,e,cn (λ z=>by rw [z,ha] at g1;cases g1) (λ z=>by rw [z,hb] at g1;cases g1) g1,g2.cut2 ha hb h1 h2,g3.cut2 ha hb h1 h2⟩
theorem iI{f room:Int}{axs:List (Int × Int)}(h0:0<=f+ay axs)(h1:f+aA axs < room){n:Nat}(hn:room<=(n:Int)):bG (ak f axs) n:=λ c hc=>by
 obtain⟨xs,hx,e⟩:=(qE f axs c).mp hc;have:=iH axs xs hx;omega
structure OnV(room f:Int)(axs:List (Int × Int)):Prop where
 ax:fq axs
 lo:0<=f+ay axs
 hi:f+aA axs < room
 pr:ag (axs.map λ a=>a.1)<=4096
theorem OnV.ok{room f:Int}{axs:List (Int × Int)}(h:OnV room f axs)(h0:1<=room)(h1:room<=4096):jb room f axs:=by
 obtain⟨g1,g2⟩:=ia axs λ a ha=>(h.ax.2 a ha).1;have:=h.lo;have:=h.hi;exact⟨h.ax,by omega,by omega,by rw [g1];omega,by rw [g2];omega⟩
theorem yL{room f:Int}{axs:List (Int × Int)}(h:VAx axs)(h0:0<=f+ay axs)(h1:f+aA axs < room):OnV room f axs:=⟨h.ax,h0,h1,by have:=h.2.2;omega⟩
structure Dk(room:Int)(c:Fst × Fst):Prop where
 v1:OnV room c.1.1 c.1.2
 v2:OnV room c.2.1 c.2.2
 pr:ag (c.1.2.map λ a=>a.1)=ag (c.2.2.map λ a=>a.1)
 kv:zv (gN (ak c.1.1 c.1.2) (ak c.2.1 c.2.2))
theorem cU(f s p:Int):ak f [(s,p)]=kH f p s.toNat:=by
 show bQ [f] (s,p)=_
 unfold bQ kH;simp
theorem jG{room f s p:Int}(h1:1<=s)(h2:s<=4096)(hp:p=1\/p=-1)(h3:0<=f/\f < room)(h4:0<=f+(s - 1) * p/\f+(s - 1) * p < room):OnV room f [(s,p)]:=by
 refine⟨⟨by simp,λ a ha=>by rw [KN.mp ha];show 1<=s/\s<=1000000000;omega⟩,?_,?_,by show s * 1<=4096;omega⟩
 ·rw [bO];show 0<=f+(min 0 ((s - 1) * p)+0);rcases hp with rfl|rfl<;>omega
 ·rw [bP];show f+(max 0 ((s - 1) * p)+0) < room;rcases hp with rfl|rfl<;>omega
theorem GD{room on:Int}{z1 z2:Fst}(h1:OnV room z1.1 z1.2)(h2:OnV room z2.1 z2.2)(hp:ag (z1.2.map λ a=>a.1)=ag (z2.2.map λ a=>a.1))(h60:ag (z1.2.map λ a=>a.1)<=60)(hr:1<=room/\room<=3600)(ho:1<=on):∀ c∈yw z1 z2 room on,Dk room c:=by
 have l1:=bA z1.1 z1.2 λ a ha=>(h1.ax.2 a ha).1;have l2:=bA z2.1 z2.2 λ a ha=>(h2.ax.2 a ha).1;have m1:(ak z1.1 z1.2).length < 64:=by omega
 have m2:(ak z2.1 z2.2).length < 64:=by omega
 have k12:Dk room (z1,z2):=⟨h1,h2,hp,sC m1⟩;have k21:Dk room (z2,z1):=⟨h2,h1,hp.symm,sC m2⟩;have k11:Dk room (z1,z1):=⟨h1,h1,rfl,sC m1⟩;have va:OnV room 0 [(room,1)]:=jG %[0|8] %[0|8] (.inl rfl) %[0|8] %[0|8];have vb:OnV room (room - 1) [(room,-1)]:=jG %[0|8] %[0|8] (.inr rfl) %[0|8] %[0|8]
 have kb:Dk room ((0,[(room,1)]),(room - 1,[(room,-1)])):=⟨va,vb,rfl,by
  show zv (gN (ak 0 [(room,1)]) (ak (room - 1) [(room,-1)]))
  rw [cU,cU];exact sA %[0|8] (.inr rfl)⟩
 intro c hc;unfold yw G5 at hc
 rcases Li.mp hc with hc|hc
 ·simp only [K2,KJ,LB] at hc
  rcases hc with rfl|rfl|rfl|rfl|rfl
  ·exact k12
  ·exact k21
  ·exact k11
  ·exact kb
  ·exact k21
 ·by_cases e:on < room
  ·rw [if_pos e] at hc;unfold HW at hc;have ga:OnV room 0 [(room - on,1)]:=jG %[0|8] %[0|8] (.inl rfl) %[0|8] %[0|8];have gb:OnV room on [(room - on,1)]:=jG %[0|8] %[0|8] (.inl rfl) %[0|8] %[0|8];simp only [mem_cons,not_mem_nil,or_false] at hc
   rcases hc with rfl|rfl
   ·refine⟨ga,gb,rfl,?_⟩
    show zv (gN (ak 0 [(room - on,1)]) (ak on [(room - on,1)]))
    rw [cU,cU];exact sA %[0|8] (.inl rfl)
   ·refine⟨gb,ga,rfl,?_⟩
    show zv (gN (ak on [(room - on,1)]) (ak 0 [(room - on,1)]))
    rw [cU,cU];exact sA %[0|8] (.inl rfl)
  ·rw [KU e] at hc;cases hc
def wrC(z:Key × V):Bool:=!decide (z.2=kV z.1)
theorem Ah(kv:List (Int × Int)):((aE kv).filter wrC).length=wrN kv:=by
 unfold aE wrN;rw [List.filter_map,length_map];congr 1;refine List.filter_congr λ p _=>?_
 show (!decide (V.int p.2=V.int p.1))=_
 by_cases e:p.2=p.1
 ·simp [e]
 ·simp [e]
theorem uh{kv:List (Int × Int)}{L:List (List Int × Bool)}(h:bN (ae kv) (kv.map (·.1)) L):L.length<=kv.length:=by
 have h1:=cg (a:=L.map λ p=>p.1.headD 0) (b:=kv.map (·.1)) (by rw [Mv,Mw];exact h.1.imp λ h=>by omega) λ x hx=>by
  obtain⟨p,hp,rfl⟩:=KS.mp hx;obtain⟨d,h1,_⟩:=(h.2.1 p hp).1.1.mem (h.2.1 p hp).1.head_mem;exact ao.mp (by rw [h1];rfl)
 rw [KG,KG] at h1;exact h1
abbrev CP(K:PySem.W.Frag)(a:Addr)(H:Hp)(Q:VK)(E:XK):Prop:=∃ ns:List Int,SqL K H a (ns.map V.int)/\ns.length<=63/\∀ H',Q (.bl true) H'
def rh(K:W.Frag):Sp:=λ vs H Q E=>∃ (a:Addr),vs=[.ref a]/\(CP K a H Q E)
theorem B6(K:W.Frag){vs:List V}{H:Hp}{Q:VK}{E:XK}(h:rh K vs H Q E):vs.length=1:=gD h λ _=>rfl
theorem ED(T:Tx K mg t):bp P w K mg base CX0 10 t.a_law t.d_law ["_law_script"] (rh K):=by
 refine T.F_law.ok fx (λ vs H Q E h=>B6 _ h) (λ c A o s' H vs Q E hr h=>?_)
 ·obtain⟨a,rfl,ns,hS,hl,kk⟩:=h;have G__law_draw:=%[cE|35] a ns;have G__law_views:=%[kn|35] a ns;have G__law_values:=%[iW|35] a ns;have G__law_copies:=%[iX|35];have G_Store___init__:=%[gj|35];have G_Store_all_values:=%[cv|35];have G_Store_read:=%[fN|35];have G_Store_copied:=%[iM|35];have G_View___init__:=%[dG|35];have G_sources:=%[p5|35];have G_rows_for:=%[nH|35];have G_rings:=%[oW|35];have G_run_rows:=%[nG|35];have c1:=T.cl_Store;have c3:=T.cl_View;refine⟨_,%[(@kU _ _ _ _ _ _ %[_law_views,%[%[0|0]|1]|3] (%[(3),rfl,%[%[1,fx|5],%[%[2,fx|5],%[%[3,fx|5],(@aC _),∅|12],∅|12],∅|12],∅,∅|22].mono λ _ _ _ _ h=>bD h) ∅ ∅ ∅),%[%[4,fx,%[_law_values,%[%[0|0],%[%[1|0]|1]|1]|3]|4],%[%[5,fx,%[T.mk_Store,G_Store___init__,(hr.mono ⋯),∅,T.m_Store,T.b_Store___init__,.nil,bo,%[%[cf,∅,T.z_list,nofun,%[%[4|0]|1],⋯,⋯,∅,∅|33]|1],⋯,∅,∅|34]|4],%[%[6,fx,%[T.mk_Store,G_Store___init__,(hr.mono ⋯),∅,T.m_Store,T.b_Store___init__,.nil,bo,%[%[cf,∅,T.z_list,nofun,%[%[4|0]|1],⋯,⋯,∅,∅|33]|1],⋯,∅,∅|34]|4],%[%[PassesOwn.never,rfl,%[%[_law_copies,%[%[2|0],%[%[3|0],%[%[1|0],%[%[bY,%[0|2],%[_law_draw,%[%[0|0],%[%[0|2],%[%[0|2]|1]|1]|1]|3]|11]|1]|1]|1]|1]|3]|20],(%[(2),rfl,%[%[7,fx|5],%[%[8,fx|5],(@aC _),∅|12],∅|12],∅,∅|22].mono λ _ _ _ _ h=>bD h),%[%[9,fx,%[T.mk_View,G_View___init__,(hr.mono ⋯),∅,T.m_View,T.b_View___init__,.nil,bo,%[%[1|0],%[%[gk,%[7|0],%[0|2],(λ _ _=>rfl)|16],%[%[cf,∅,T.z_list,nofun,%[%[gk,%[7|0],%[0|2],(λ _ _=>rfl)|16]|1],⋯,⋯,∅,∅|33]|1]|1]|1],⋯,∅,∅|34]|4],%[%[10,fx,%[T.mk_View,G_View___init__,(hr.mono ⋯),∅,T.m_View,T.b_View___init__,.nil,bo,%[%[1|0],%[%[gk,%[8|0],%[0|2],(λ _ _=>rfl)|16],%[%[cf,∅,T.z_list,nofun,%[%[gk,%[8|0],%[0|2],(λ _ _=>rfl)|16]|1],⋯,⋯,∅,∅|33]|1]|1]|1],⋯,∅,∅|34]|4],%[(@gp _ _ (11) _ _ _ _ fx.nd rfl (Or.inr rfl) %[sources,%[%[9|0],%[%[10|0]|1]|1]|3] ∅ %[0|7]),%[%[12,fx,%[rows_for,%[%[11|0]|1]|3]|4],%[%[13,fx,%[len,aH,%[(@AK _ _ _ %[(["_law_cell", "_law_script", "_law_room", "_law_one", "_law_other", "_law_values_here", "_law_store", "_law_beside", "_law_to", "_law_source", "_law_first", "_law_second", "_law_found", "_law_rows", "_law_many"]),(1),(bh (aa gQ) ["_law_script", "_law_room", "_law_one", "_law_other", "_law_values_here", "_law_store", "_law_beside", "_law_to", "_law_source", "_law_first", "_law_second", "_law_found", "_law_rows", "_law_many"] rfl rfl nofun),rfl,(@sQ _ _ _ _ %[11|0]),(λ C s₀ H₀ ex pn=>%[(0),_,(show List.Nodup (["_law_cell", "_law_script", "_law_room", "_law_one", "_law_other", "_law_values_here", "_law_store", "_law_beside", "_law_to", "_law_source", "_law_first", "_law_second", "_law_found", "_law_rows", "_law_many"]:List Str) from by decide +kernel),rfl,(Or.inl rfl),%[0|7]|19]),(λ C s₀ H₀ ex pn=>(@m7 _ _ _ %[(dE hr.units),%[(aY hr.units),%[12|0],%[0|0],(λ _ _=>rfl)|32],%[0|0],(aL _)|17])),(λ C s₀ H₀ ex pn=>%[0|0]),(by intros;rfl)|26])|1]|6]|4],%[%[%[(dE hr.units),%[len,aH,%[%[12|0]|1]|6],%[bY,%[13|0],%[len,aH,%[%[(["_law_ring", "_law_bare", "_law_script", "_law_room", "_law_one", "_law_other", "_law_values_here", "_law_store", "_law_beside", "_law_to", "_law_source", "_law_first", "_law_second", "_law_found", "_law_rows", "_law_many"]),(2),(bh (aa gQ) ["_law_script", "_law_room", "_law_one", "_law_other", "_law_values_here", "_law_store", "_law_beside", "_law_to", "_law_source", "_law_first", "_law_second", "_law_found", "_law_rows", "_law_many"] rfl rfl nofun),rfl,%[%[rings,%[%[11|0]|1]|3]|20],(λ C s₀ H₀ ex pn=>(%[(2),rfl,%[%[(0),_,(show List.Nodup (["_law_ring", "_law_bare", "_law_script", "_law_room", "_law_one", "_law_other", "_law_values_here", "_law_store", "_law_beside", "_law_to", "_law_source", "_law_first", "_law_second", "_law_found", "_law_rows", "_law_many"]:List Str) from by decide +kernel),rfl,(Or.inl rfl),%[0|7]|19],%[%[(1),_,(show List.Nodup (["_law_ring", "_law_bare", "_law_script", "_law_room", "_law_one", "_law_other", "_law_values_here", "_law_store", "_law_beside", "_law_to", "_law_source", "_law_first", "_law_second", "_law_found", "_law_rows", "_law_many"]:List Str) from by decide +kernel),rfl,(Or.inl rfl),%[0|7]|19],(@aC _),∅|12],∅|12],∅,∅|22].mono λ _ _ _ _ h=>bD h)),(λ C s₀ H₀ ex pn=>(@m7 _ _ _ (@hG _ _ _ %[1|0] (by intros;rfl)))),(λ C s₀ H₀ ex pn=>%[0|0]),(by intros;rfl)|26]|1]|6]|11],(aL _)|17],%[%[(@rm _ _ _ _)|13]|10],(@aW _)|23],%[%[%[%[5|0],T.cl_Store,T.mt_Store_read,G_Store_read,(hr.mono ⋯),T.b_Store_read,.nil,bo,%[%[9|0]|1],∅,∅,∅|28],∅|14],%[%[%[run_rows,%[%[5|0],%[%[12|0]|1]|1]|3],∅|14],%[%[%[%[6|0],T.cl_Store,T.mt_Store_copied,G_Store_copied,(hr.mono ⋯),T.b_Store_copied,.nil,bo,%[%[9|0],%[%[10|0]|1]|1],∅,∅,∅|28],∅|14],%[%[(PW.pt (@vZ _ _ _ _ _ _ _ %[(dE hr.units),%[%[5|0],T.cl_Store,T.mt_Store_all_values,G_Store_all_values,(hr.mono ⋯),T.b_Store_all_values,.nil,bo,∅|25],%[%[6|0],T.cl_Store,T.mt_Store_all_values,G_Store_all_values,(hr.mono ⋯),T.b_Store_all_values,.nil,bo,∅|25],(aL _)|17] (@rX _ _ _ _ %[(dE hr.units),%[%[5|0],T.cl_Store,T.mt_Store_read,G_Store_read,(hr.mono ⋯),T.b_Store_read,.nil,bo,%[%[9|0]|1],∅,∅,∅|28],%[%[6|0],T.cl_Store,T.mt_Store_read,G_Store_read,(hr.mono ⋯),T.b_Store_read,.nil,bo,%[%[9|0]|1],∅,∅,∅|28],(aL _)|17]))),%[%[(@rm _ _ _ _)|13]|10],(@aW _)|23]|10]|9]|9]|9]|9]|9]|9]|9]|9]|9],(by intros;rfl)|21],%[%[(@rm _ _ _ _)|13]|10]|9]|9]|9]|9]|9],?_⟩;rw [show start ["_law_script", "_law_room", "_law_one", "_law_other", "_law_values_here", "_law_store", "_law_beside", "_law_to", "_law_source", "_law_first", "_law_second", "_law_found", "_law_rows", "_law_many"] [.ref a]=[some (.ref a),none,none,none,none,none,none,none,none,none,none,none,none,none] from rfl];clear G__law_draw G__law_views G__law_values G__law_copies G_Store___init__ G_Store_all_values G_Store_read G_Store_copied G_View___init__ G_sources G_rows_for G_rings G_run_rows;exists kk;ac_rfl;rw [vJ];refine⟨rfl,hS,hl,λ room axs bxs r1 u v H1 e1 h1 fu fv va vb hpe rm1 rm2=>?_⟩;have hS1:=e1.2 K a _ hS;obtain⟨p1,q1,f1,rfl,hp1,tq1,lo1,hi1⟩:=fu;obtain⟨p2,q2,f2,rfl,hp2,tq2,lo2,hi2⟩:=fv;have fa1:FaR (f1,axs) (.ref p1) H1:=⟨p1,q1,rfl,hp1,tq1⟩;have fa2:FaR (f2,bxs) (.ref p2) H1:=⟨p2,q2,rfl,hp2,tq2⟩;have cok:=λ (on:Int) (ho:1<=on)=>GD (z1:=(f1,axs)) (z2:=(f2,bxs)) (yL va lo1 hi1) (yL vb lo2 hi2) hpe va.2.2 ⟨rm1,rm2⟩ ho;exists cok;exists fa1;exists fa2;clear hp1 hp2 tq1 tq2 lo1 lo2 hi1 hi2 va vb hpe;ac_rfl;rw [qK];refine⟨rfl,hS1,hl,by omega,by omega,λ d H2 hd2 e2 h2=>?_⟩;have hvl:(qX ns room).length=room.toNat:=by unfold qX;rw [length_map,length_range]
  generalize qX ns room=vals at h2 hvl;have hS2:=e2.2 K a _ hS1;have e02:=e1.trans e2;replace fa1:=λ (_:Unit)=>(fa1 ()).ext e2;replace fa2:=λ (_:Unit)=>(fa2 ()).ext e2;clear h1 hS1 hd2 e1 e2;ac_rfl;intro a1 H3 ha1 e3 h3;ac_rfl;intro s1 dx1 H4 hx1 hdx1 hne1 e4 h4 h4';rw [lT];refine⟨dx1,vals,h4,e4.at h3,by omega,by omega,λ H5 l1 e5 hl5 hx5 hf5=>?_⟩;have e35:=e5 H3 e4 hx1;have h2_5:=(e3.trans e35).at h2;have hS5:=(e3.trans e35).2 K a _ hS2;replace fa1:=λ (_:Unit)=>(fa1 ()).ext (e3.trans e35);replace fa2:=λ (_:Unit)=>(fa2 ()).ext (e3.trans e35);clear h3 h4 h4' hx1 hdx1 hne1 e4 e5 hl5 ha1 e3 e35 h2 hS2;ac_rfl;intro a2 H6 ha2 e6 h6;ac_rfl;intro s2 dx2 H7 hx2 hdx2 hne2 e7 h7 h7';rw [lT];refine⟨dx2,vals,h7,e7.at h6,by omega,by omega,λ H8 l2 e8 hl8 hx8 hf8=>?_⟩;have e68:=e8 H6 e7 hx2;have e58:=e6.trans e68;have s1_8:=e58.at hx5;have l1_8:=e58.at hf5;have hS8:=e58.2 K a _ hS5;have n12:l1 ≠ l2:=λ z=>by rw [←z,(e6.trans e7).at hf5] at hl8;cases hl8
  replace fa1:=λ (_:Unit)=>(fa1 ()).ext e58;replace fa2:=λ (_:Unit)=>(fa2 ()).ext e58;clear h6 h7 h7' hx2 hdx2 hne2 e7 e8 hl8 ha2 e6 e68 e58 hx5 hf5 h2_5 hS5;ac_rfl;rw [dj];refine⟨hS8,hl,⟨by decide,by decide⟩,by decide,λ z z0 z1=>?_⟩;ac_rfl;rw [CG];refine⟨_,_,fa1 (),fa2 (),λ cl ys H9 hcl e9 h9 al9=>?_⟩;have cok':=cok () (1+z) %[0|8];generalize yw (f1,axs) (f2,bxs) room (1+z)=CS at al9 cok';have hn1:1<=vals.length:=by omega
  have hnr:(vals.length:Int)=room:=by omega
  have s1_9:=e9.at s1_8;have s2_9:=e9.at hx8;have l1_9:=e9.at l1_8;have l2_9:=e9.at hf8;have eB:=pq l1 l2 H9;have bl1:gP l1 l2 H9 l1=none:=yZ;have bl2:gP l1 l2 H9 l2=none:=yY;have bs1:gP l1 l2 H9 s1=some (.ins t.a_Store dx1 (gm l1)):=cn (λ z=>by rw [z,l1_9] at s1_9;cases s1_9) (λ z=>by rw [z,l2_9] at s1_9;cases s1_9) s1_9;have bs2:gP l1 l2 H9 s2=some (.ins t.a_Store dx2 (gm l2)):=cn (λ z=>by rw [z,l1_9] at s2_9;cases s2_9) (λ z=>by rw [z,l2_9] at s2_9;cases s2_9) s2_9;have hrf:=sF (H:=H9) al9 λ c y ⟨p,_,_,e,_⟩=>⟨p,e⟩;have bcl:gP l1 l2 H9 cl=some (.lst ys):=cn (i8 h9 hrf l1_9 hn1) (i8 h9 hrf l2_9 hn1) h9;have bal:Al (λ c y=>CpR c y (gP l1 l2 H9)) CS ys:=al9.imp λ _ _ z=>z.cut2 l1_9 l2_9 hn1 hn1;generalize gP l1 l2 H9=B at eB bl1 bl2 bs1 bs2 bcl bal;exists bal;exists cok';have m1:=aU l1 (m := "all_values") nofun;have m2:=aU l1 (m := "read") nofun;have m3:=aU l2 (m := "all_values") nofun;have m4:=aU l2 (m := "read") nofun;have m5:=aU l2 (m := "copied") nofun;clear al9 hrf s1_8 hx8 l1_8 hf8 hS8 fa1 fa2 cok s1_9 s2_9 z0 z1 hcl e9 hvl;have cl9:=eB.at bcl;clear h9;ac_rfl;refine cL (xs:=ys) (λ i σ H'=>∃ (v7 v8 v9 v10 v11 v12 v13:Option V) (ws:List Int),σ=[some (.ref a),some (.int room),some (.ref p1),some (.ref p2),some (.ref d),some (.ref s1),some (.ref s2),v7,v8,v9,v10,v11,v12,v13]/\Ext B H'/\H' l1=some (.lst (ws.map V.int))/\H' l2=some (.lst (ws.map V.int))/\ws.length=vals.length) ⟨none,none,none,none,none,none,none,vals,rfl,eB,l1_9,l2_9,rfl⟩ (λ i σ H' _ ⟨_,_,_,_,_,_,_,_,_,e,_⟩=>e.at bcl) ?_ ?_
  ·rintro i y _ H10 hy ⟨v7,v8,v9,v10,v11,v12,v13,ws,rfl,e10,l10,k10,hwl⟩;have hi:i < CS.length:=by have:=(KH.mp hy).1;rw [(bal ()).1] at this;exact this
   obtain⟨c,hc⟩:∃ c,CS[i]? = some c:=⟨_,KA hi⟩;have ck:=cok' () c (Lh hc);obtain⟨pp,x1,x2,rfl,hpp,fx1,fx2⟩:=((bal ()).2 i c y hc hy).ext e10;obtain⟨⟨g1,A1⟩,⟨g2,A2⟩⟩:=c;obtain⟨u1,w1,rfl,hu1,tu1⟩:=fx1;obtain⟨u2,w2,rfl,hu2,tu2⟩:=fx2;replace hu1:H10 u1=some (.tup [.int g1,.ref w1]):=hu1;replace hu2:H10 u2=some (.tup [.int g2,.ref w2]):=hu2;obtain⟨t1s,ht1,al1⟩:=tu1;obtain⟨t2s,ht2,al2⟩:=tu2;exists al1;exists al2;exists ck;have ok1:jb room g1 A1:=(ck ()).v1.ok rm1 %[0|8];have ok2:jb room g2 A2:=(ck ()).v2.ok rm1 %[0|8];exists ok1;exists ok2;clear hy hc cl9 l1_9 l2_9;ac_rfl;intro n1 H11 hn11 e11 h11;have hu2_11:=e11.at hu2;have ht2_11:=e11.at ht2;have l11:=e11.at l10;have k11:=e11.at k10;clear hpp hu1 ht1 hu2 ht2;ac_rfl;intro fv dx3 H12 hx3 hdx3 hne3 e12 h12 h12';rw [iy];refine⟨dx3,A1,h12,⟨t1s,e12.at h11,(al1 ()).imp λ _ _ t=>t.ext (e11.trans e12)⟩,ok1 (),λ H13 D1 e13 hD1 hx13 tt13=>?_⟩;have e1113:=e13 H11 e12 hx3;have vw1:aJ t.a_View H13 fv room g1 (A1.map aG):=⟨dx3,D1,hx13,tt13⟩;have hu2_13:=e1113.at hu2_11;have ht2_13:=e1113.at ht2_11;have l13:=e1113.at l11;have k13:=e1113.at k11;have e1013:=e11.trans e1113;exists vw1;clear h11 h12 h12' hx3 hdx3 hne3 e12 e13 hD1 hx13 tt13 hu2_11 ht2_11 l11 k11 hn11 e11 e1113 l10 k10;ac_rfl;intro n2 H14 hn14 e14 h14;have l14:=e14.at l13;have k14:=e14.at k13;clear hu2_13 ht2_13;ac_rfl;intro sv dx4 H15 hx4 hdx4 hne4 e15 h15 h15';rw [iy];refine⟨dx4,A2,h15,⟨t2s,e15.at h14,(al2 ()).imp λ _ _ t=>t.ext (e1013.trans (e14.trans e15))⟩,ok2 (),λ H16 D2 e16 hD2 hx16 tt16=>?_⟩;have e1416:=e16 H14 e15 hx4;have vw2:aJ t.a_View H16 sv room g2 (A2.map aG):=⟨dx4,D2,hx16,tt16⟩;have e1316:=e14.trans e1416;have vw1':=(vw1 ()).ext e1316;have l16:=e1316.at l13;have k16:=e1316.at k13;have e1016:=e1013.trans e1316;exists vw1';exists vw2;clear vw1 h14 h15 h15' hx4 hdx4 hne4 e15 e16 hD2 hx16 tt16 hn14 e14 e1416 l14 k14 e1013 e1316 l13 k13;have ax1:fq (A1.map aG):=lF (ck ()).v1.ax;have ax2:fq (A2.map aG):=lF (ck ()).v2.ax;have pr1:ag ((A1.map aG).map λ a=>a.1)<=4096:=by rw [eE];exact(ck ()).v1.pr
   have pr2:ag ((A2.map aG).map λ a=>a.1)=ag ((A1.map aG).map λ a=>a.1):=by rw [eE,eE];exact(ck ()).pr.symm
   have on1:bG (ak g1 (A1.map aG)) ws.length:=by
    rw [cW g1 A1 λ a ha=>((ck ()).v1.ax.2 a ha).1];exact iI (ck ()).v1.lo (ck ()).v1.hi %[0|8]
   have on2:bG (ak g2 (A2.map aG)) ws.length:=by
    rw [cW g2 A2 λ a ha=>((ck ()).v2.ax.2 a ha).1];exact iI (ck ()).v2.lo (ck ()).v2.hi %[0|8]
   have kvo:zv (gN (ak g1 (A1.map aG)) (ak g2 (A2.map aG))):=by
    rw [cW g1 A1 λ a ha=>((ck ()).v1.ax.2 a ha).1,cW g2 A2 λ a ha=>((ck ()).v2.ax.2 a ha).1];exact(ck ()).kv
   generalize A1.map aG=B1 at vw1' ax1 pr1 pr2 on1 kvo;generalize A2.map aG=B2 at vw2 ax2 pr2 on2 kvo;have hkn:∀ c e,ae (gN (ak g1 B1) (ak g2 B2)) c=some e->0<=c/\0<=e:=λ c e h=>⟨(on1 c (MH (eS h)).1).1,(on2 e (MH (eS h)).2).1⟩;exists ax1;exists ax2;exists pr1;exists pr2;exists on1;exists on2;exists kvo;exists hkn;clear ck ok1 ok2 al1 al2;ac_rfl;rw [CC];refine⟨room,g1,g2,B1,B2,vw1' (),vw2 (),ax1 (),ax2 (),pr1 (),pr2 (),λ fo H17 hfo e17 h17=>?_⟩;rw [yj] at h17;have l17:=e17.at l16;have k17:=e17.at k16;have e1017:=e1016.trans e17;replace vw1':=λ (_:Unit)=>(vw1' ()).ext e17;replace vw2:=λ (_:Unit)=>(vw2 ()).ext e17;clear hfo e17 l16 k16 e1016;obtain⟨kv,hkv⟩:∃ kv,kv=gN (ak g1 B1) (ak g2 B2):=⟨_,rfl⟩;rw [←hkv] at h17 kvo hkn;have hkl:kv.length<=4200:=(kvo ()).2.1;exists hkv;ac_rfl;rw [GF];refine⟨kv,h17,(kvo ()).1,hkl,(kvo ()).2.2.1,(kvo ()).2.2.2,hkn (),λ rows W H18 hR hRl hW e18 tw=>?_⟩;have f18:=e18.at h17;have l18:=e18.at l17;have k18:=e18.at k17;have e1018:=e1017.trans e18;replace vw1':=λ (_:Unit)=>(vw1' ()).ext e18;replace vw2:=λ (_:Unit)=>(vw2 ()).ext e18;exists hR;exists tw;clear hW e18 h17 l17 k17 e1017;ac_rfl;refine yB wrC (λ z=>kV z.1) f18 (aN (by rw [dc];omega)) ?_ ?_
   ·intro D ob z H4 N1 N0 hz hD e4 f4 k1 k0;obtain⟨p,hp,rfl⟩:=KS.mp hz;have hvv:cS (aE kv) (.inl p.1)=some (.int p.2):=by rw [aq,bE (kvo ()).1 (show (p.1,p.2)∈kv from hp)];rfl
    rw [show wrC ((Sum.inl p.1:Key),V.int p.2) = !decide (V.int p.2=V.int p.1) from rfl] at k1 k0;rw [show kV ((Sum.inl p.1:Key),V.int p.2).1=V.int p.1 from rfl] at k1 ⊢;generalize p.1=p1' at hvv k1 k0 ⊢;generalize p.2=p2' at hvv k1 k0 ⊢;exists k1;exists k0;clear hz hp f18 l18 k18 kk;simp! only [↓aM,↓aZ];refine sI (k:=.inl p1') f4 hvv ?_
    by_cases mm:p2'=p1'
    ·have jj:=k0 () (by simp [mm]) H4 (Ext.refl _);clear k0 k1;subst mm;simp! only [↓aM,↓aZ]
    ·have jj:=k1 () (by simp [mm]) H4 (Ext.refl _);clear k0 k1;simp! only [↓aM,↓aZ]
   ·intro D H19 hD e19 h19;have hwn:(((aE kv).filter wrC).map λ z=>kV z.1).length=wrN kv:=by rw [KG,Ah]
    generalize (((aE kv).filter wrC).map λ z=>kV z.1)=wl at h19 hwn;have f19:=e19.at f18;obtain⟨yr,W19,alW⟩:=(tw ()).ext e19;have e1019:=e1018.trans e19;have hyr:yr.length=rows.length:=alW.1;exists hwn;exists hyr;clear f18 alW;ac_rfl;rw [lU];refine⟨kv,f19,(kvo ()).1,hkl,(kvo ()).2.2.1,(kvo ()).2.2.2.imp id (λ z=>z.1),λ L r H20 hL e20 ra=>?_⟩;obtain⟨ys5,h5,_,al5⟩:=ra;have hcnt:=(hR ()).2.2.1 L hL;have hLl:=uh hL;have al5':Al (λ p y=>(λ (p:List Int × Bool) (y:V) (H':Hp)=>∃ q l,y=.ref q/\H' q=some (.tup [.ref l,.bl p.2])) p y H20) L ys5:=al5.imp λ p y ⟨q,l,a1,a2,_⟩=>⟨q,l,a1,a2⟩;exists hcnt;clear al5 f19 W19 h19 hL;have wk:=iS (K:=K) (R:=λ (p:List Int × Bool) (y:V) (H':Hp)=>∃ q l,y=.ref q/\H' q=some (.tup [.ref l,.bl p.2])) (λ _ _ _ _ ⟨q,l,a1,a2⟩ e=>⟨q,l,a1,e.at a2⟩) h5 al5';exists wk;clear al5';ac_rfl;refine iw L (λ p=>p.2) (λ p x H'=>∃ q l,x=.ref q/\H' q=some (.tup [.ref l,.bl p.2])) (λ _ _ _ _=>True) (wk ()).1 (wk ()).2 (λ _ _ _ _ _ _ _=>trivial) (λ _ _ _ _ _ _ _ _=>trivial) (aN %[0|8]) ?_ ?_
    ·rintro D p x H6 N1 N0 _ hD e6 _ ⟨q,l,rfl,hq⟩ k1 k0;clear wk kk h5 l18 k18
     cases hb:p.2 with
     | true=>
      have j1:=k1 hb;rw [hb] at hq;clear k1 k0 hb;ac_rfl;exact j1 (.ref l) H6 (Ext.refl _) trivial
     | false=>
      have j0:=k0 hb H6 (Ext.refl _);rw [hb] at hq;clear k1 k0 hb;ac_rfl
    ·intro D2 ys6 H21 hD2 e21 h21 al6
     have heq:(yr.length:Int)=(wl.length:Int)+(ys6.length:Int):=by
      have g1:=hcnt ();have g2:=hwn ();have g3:=hyr ();have g4:ys6.length=(L.filter λ p=>p.2).length:=al6.1;omega
     have e1821:=e19.trans (e20.trans e21);have e1021:=e1018.trans e1821;have l21:=e1821.at l18;have k21:=e1821.at k18;have hw1:1<=ws.length:=by omega
     have hwr:room=(ws.length:Int):=by omega
     have hw4:ws.length<=4096:=by omega
     exists hwr;exists hwl;exists hnr;have v1C:=((vw1' ()).ext e1821).cut2 l21 k21 hw1 hw1;have v2C:=((vw2 ()).ext e1821).cut2 l21 k21 hw1 hw1;have twC:=((tw ()).ext e1821).cut2 l21 k21 hw1 hw1;have eBC:Ext B (gP l1 l2 H21):=yl (e10.trans e1021) bl1 bl2;have eC:=pq l1 l2 H21;have cl1:gP l1 l2 H21 l1=none:=yZ;have cl2:gP l1 l2 H21 l2=none:=yY;generalize gP l1 l2 H21=C at v1C v2C twC eBC eC cl1 cl2
     have nlW:l1 ≠ W:=λ z=>by
      obtain⟨yy,g1,_⟩:=twC;rw [←z,cl1] at g1;cases g1
     have cs1:=eBC.at bs1;have cs2:=eBC.at bs2;have s21:=eC.at cs1;have so21:ba t.a_Store H21 s1 l1 ws:=⟨⟨dx1,s21⟩,l21⟩;exists so21;exists v1C;exists v2C;exists twC;clear wk h5 al6 l18 k18 vw1' vw2 tw;ac_rfl;clear heq h21;rw [gL];refine⟨l1,ws,room,g1,B1,so21 (),(v1C ()).ext eC,ax1 (),hwr (),pr1 (),on1 (),λ rd H22 hrd e22 h22=>?_⟩;have eC22:=eC.trans e22;have s22:=eC22.at cs1;have l22:=e22.at l21;have k22:=e22.at k21;have so22:ba t.a_Store H22 s1 l1 ws:=⟨⟨dx1,s22⟩,l22⟩;exists so22;have rin:=CA (on1 ()) (on2 ()) (hkv () ▸ hR ());exists rin;clear h22 hrd s21 l21 k21 so21;ac_rfl;rw [CD];refine⟨l1,ws,rows,so22 (),hw1,hw4,(twC ()).ext eC22,nlW,rin (),λ w2s H23 lb q1 q2 l23=>?_⟩;obtain rfl:=vD (on1 ()) (on2 ()) (hkv () ▸ hR ()) lb;have eC23:=q1 C eC22 cl1;have k23:=q2 l2 _ (Ld n12) k22;have s23:=eC23.at cs2;have so23:ba t.a_Store H23 s2 l2 ws:=⟨⟨dx2,s23⟩,k23⟩;exists so23;have hpl:=(oP (vals:=ws) (ds:=ak g2 B2) (on1 ())).1;have hwr':=hwr ();subst hwr';clear q1 q2 lb s22 l22 k22 so22;exists hpl;ac_rfl;rw [qM];refine⟨l2,ws,g1,g2,B1,B2,so23 (),(v1C ()).ext eC23,(v2C ()).ext eC23,ax1 (),ax2 (),hw4,pr1 (),pr2 (),on1 (),on2 (),λ H24 q1 q2 k24=>?_⟩;have eC24:=q1 C eC23 cl2;have l24:=q2 l1 _ n12 l23;generalize kL ws (ak g1 B1) (gR ws (ak g2 B2))=nw at l24 k24 hpl;have s24:=eC24.at cs1;have so24:ba t.a_Store H24 s1 l1 nw:=⟨⟨dx1,s24⟩,l24⟩;exists so24;clear q1 q2 s23 l23 k23 so23;ac_rfl;rw [j7];refine⟨l1,nw,so24 (),by have:=hpl ();omega,λ r1' H25 hr25 e25 h25=>?_⟩;have eC25:=eC24.trans e25;have s25:=eC25.at cs2;have l25:=e25.at l24;have k25:=e25.at k24;have so25:ba t.a_Store H25 s2 l2 nw:=⟨⟨dx2,s25⟩,k25⟩;exists so25;clear s24 l24 k24 so24;ac_rfl;rw [j7];refine⟨l2,nw,so25 (),by have:=hpl ();omega,λ r2' H26 hr26 e26 h26=>?_⟩;have h25_26:=e26.at h25;have eC26:=eC25.trans e26;have s26:=eC26.at cs1;have l26:=e26.at l25;have k26:=e26.at k25;have so26:ba t.a_Store H26 s1 l1 nw:=⟨⟨dx1,s26⟩,l26⟩;exists so26;have on1':bG (ak g1 B1) nw.length:=by rw [hpl ()];exact on1 ()
     have hnw:(ws.length:Int)=(nw.length:Int):=by rw [hpl ()]
     exists on1';exists hnw;clear s25 l25 k25 so25 h25;ac_rfl;rw [gL];refine⟨l1,nw,_,g1,B1,so26 (),(v1C ()).ext eC26,ax1 (),hnw (),pr1 (),on1' (),λ r3' H27 hr27 e27 h27=>?_⟩;have eC27:=eC26.trans e27;have s27:=eC27.at cs2;have l27:=e27.at l26;have k27:=e27.at k26;have so27:ba t.a_Store H27 s2 l2 nw:=⟨⟨dx2,s27⟩,k27⟩;exists so27;clear s26 l26 k26 so26 h25_26 h26;ac_rfl;rw [gL];refine⟨l2,nw,_,g1,B1,so27 (),(v1C ()).ext eC27,ax1 (),hnw (),pr1 (),on1' (),λ r4' H28 hr28 e28 h28=>?_⟩;have h27_28:=e28.at h27;have l28:=e28.at l27;have k28:=e28.at k27;have eB28:=eBC.trans (eC27.trans e28);generalize gR nw (ak g1 B1)=rdl at h27_28 h28;clear s27 l27 k27 so27 h27;ac_rfl;exact⟨_,_,_,_,_,_,_,nw,rfl,eB28,rfl,rfl,by rw [hpl (),hwl ()]⟩
  ·rintro _ H10 ⟨v7,v8,v9,v10,v11,v12,v13,ws,rfl,e10,l10,k10,hwl⟩;have k':=kk () H10;clear kk cl9 l1_9 l2_9;ac_rfl
end
theorem Ka{l:W.OpenLaw}{w:World}{K:W.Frag}{h:Heap}{mg:Str->Option Value}{fa:Addr}(X:K.In h)(G:h.Ns mainGlobals mg)(hfa:mg "law"=some (.ref fa))
  {C0:Addr} (y0:W.nsIn K mainGlobals "PaceError"=some (some (.ref C0)))
  {C1:Addr} (y1:W.nsIn K mainGlobals "NoPlace"=some (some (.ref C1)))
  {C2:Addr} (y2:W.nsIn K mainGlobals "NoCells"=some (some (.ref C2)))
  {C3:Addr} (y3:W.nsIn K mainGlobals "NoView"=some (some (.ref C3)))
  {C4:Addr} (y4:W.nsIn K mainGlobals "NoCount"=some (some (.ref C4)))
  {C5:Addr} (y5:W.nsIn K mainGlobals "NoPair"=some (some (.ref C5)))
  {C6:Addr} (y6:W.nsIn K mainGlobals "TooMany"=some (some (.ref C6)))
  {C7:Addr} (y7:W.nsIn K mainGlobals "View"=some (some (.ref C7)))
  {C8:Addr} (y8:W.nsIn K mainGlobals "Store"=some (some (.ref C8)))
  {f0:Addr} {d0:FuncData} (F0:Fun K "__init__" "TooMany.__init__" cI f0 d0)
  {f1:Addr} {d1:FuncData} (a1:W.nsIn K mainGlobals "is_whole"=some (some (.ref f1))) (F1:Fun K "is_whole" "is_whole" gc f1 d1)
  {f2:Addr} {d2:FuncData} (a2:W.nsIn K mainGlobals "count_of"=some (some (.ref f2))) (F2:Fun K "count_of" "count_of" gd f2 d2)
  {f3:Addr} {d3:FuncData} (a3:W.nsIn K mainGlobals "paces_of"=some (some (.ref f3))) (F3:Fun K "paces_of" "paces_of" fZ f3 d3)
  {f4:Addr} {d4:FuncData} (a4:W.nsIn K mainGlobals "is_number_below"=some (some (.ref f4))) (F4:Fun K "is_number_below" "is_number_below" cZ f4 d4)
  {f5:Addr} {d5:FuncData} (a5:W.nsIn K mainGlobals "is_place"=some (some (.ref f5))) (F5:Fun K "is_place" "is_place" jc f5 d5)
  {f6:Addr} {d6:FuncData} (a6:W.nsIn K mainGlobals "refuse_long"=some (some (.ref f6))) (F6:Fun K "refuse_long" "refuse_long" dw f6 d6)
  {f7:Addr} {d7:FuncData} (a7:W.nsIn K mainGlobals "is_within"=some (some (.ref f7))) (F7:Fun K "is_within" "is_within" eX f7 d7)
  {f8:Addr} {d8:FuncData} (a8:W.nsIn K mainGlobals "is_size"=some (some (.ref f8))) (F8:Fun K "is_size" "is_size" il f8 d8)
  {f9:Addr} {d9:FuncData} (a9:W.nsIn K mainGlobals "is_axis"=some (some (.ref f9))) (F9:Fun K "is_axis" "is_axis" ip f9 d9)
  {f10:Addr} {d10:FuncData} (a10:W.nsIn K mainGlobals "are_axes"=some (some (.ref f10))) (F10:Fun K "are_axes" "are_axes" er f10 d10)
  {f11:Addr} {d11:FuncData} (a11:W.nsIn K mainGlobals "kept_axis"=some (some (.ref f11))) (F11:Fun K "kept_axis" "kept_axis" eW f11 d11)
  {f12:Addr} {d12:FuncData} (F12:Fun K "__init__" "View.__init__" bJ f12 d12)
  {f13:Addr} {d13:FuncData} (F13:Fun K "sizes" "View.sizes" cB f13 d13)
  {f14:Addr} {d14:FuncData} (F14:Fun K "paces" "View.paces" gs f14 d14)
  {f15:Addr} {d15:FuncData} (F15:Fun K "count" "View.count" ed f15 d15)
  {f16:Addr} {d16:FuncData} (F16:Fun K "cell" "View.cell" iB f16 d16)
  {f17:Addr} {d17:FuncData} (F17:Fun K "cells" "View.cells" ee f17 d17)
  {f18:Addr} {d18:FuncData} (F18:Fun K "least" "View.least" cC f18 d18)
  {f19:Addr} {d19:FuncData} (F19:Fun K "greatest" "View.greatest" bI f19 d19)
  {f20:Addr} {d20:FuncData} (a20:W.nsIn K mainGlobals "widened"=some (some (.ref f20))) (F20:Fun K "widened" "widened" fE f20 d20)
  {D21:Addr} {qc21:Value} {qd21:Option Addr} {qn21:Nat} {qs21:Array (Option Value)}
  {f21:Addr} {od21 an21:Option Addr} {sl21:Array (Option Value)} {oc21 kV21 dc21 pm21 cd21 ct21:Value}
  (a21:W.nsIn K mainGlobals "whole"=some (some (.ref f21))) (l21:K.lookup f21=some ⟨oc21,od21,.func (W.fnOf "whole" "whole" (cM fU) (bV fU) (aa fU) (.ref D21) kV21 dc21 pm21 an21 cd21 ct21),sl21⟩)
  (q21:K.lookup D21=some ⟨qc21,qd21,.seq #[Value.none] qn21,qs21⟩)
  (c21:W.codeIn K cd21 "whole"=true) (k21:W.keepIn K (.ref f21)=true)
  {f22:Addr} {d22:FuncData} (a22:W.nsIn K mainGlobals "refuse_rooms"=some (some (.ref f22))) (F22:Fun K "refuse_rooms" "refuse_rooms" cO f22 d22)
  {f23:Addr} {d23:FuncData} (a23:W.nsIn K mainGlobals "refuse_count"=some (some (.ref f23))) (F23:Fun K "refuse_count" "refuse_count" cP f23 d23)
  {f24:Addr} {d24:FuncData} (F24:Fun K "__init__" "Store.__init__" bW f24 d24)
  {f25:Addr} {d25:FuncData} (F25:Fun K "all_values" "Store.all_values" bK f25 d25)
  {f26:Addr} {d26:FuncData} (F26:Fun K "refuse_room" "Store.refuse_room" bw f26 d26)
  {f27:Addr} {d27:FuncData} (F27:Fun K "read" "Store.read" cD f27 d27)
  {f28:Addr} {d28:FuncData} (F28:Fun K "put" "Store.put" fb f28 d28)
  {f29:Addr} {d29:FuncData} (F29:Fun K "copied" "Store.copied" cQ f29 d29)
  {f30:Addr} {d30:FuncData} (a30:W.nsIn K mainGlobals "sources"=some (some (.ref f30))) (F30:Fun K "sources" "sources" ic f30 d30)
  {f31:Addr} {d31:FuncData} (a31:W.nsIn K mainGlobals "ring_from"=some (some (.ref f31))) (F31:Fun K "ring_from" "ring_from" eV f31 d31)
  {f32:Addr} {d32:FuncData} (a32:W.nsIn K mainGlobals "least_first"=some (some (.ref f32))) (F32:Fun K "least_first" "least_first" dA f32 d32)
  {f33:Addr} {d33:FuncData} (a33:W.nsIn K mainGlobals "drawn_from_beyond"=some (some (.ref f33))) (F33:Fun K "drawn_from_beyond" "drawn_from_beyond" bu f33 d33)
  {f34:Addr} {d34:FuncData} (a34:W.nsIn K mainGlobals "rings"=some (some (.ref f34))) (F34:Fun K "rings" "rings" jC f34 d34)
  {f35:Addr} {d35:FuncData} (a35:W.nsIn K mainGlobals "first_cell"=some (some (.ref f35))) (F35:Fun K "first_cell" "first_cell" dX f35 d35)
  {f36:Addr} {d36:FuncData} (a36:W.nsIn K mainGlobals "readers_of"=some (some (.ref f36))) (F36:Fun K "readers_of" "readers_of" dW f36 d36)
  {f37:Addr} {d37:FuncData} (a37:W.nsIn K mainGlobals "rows_beside_rings"=some (some (.ref f37))) (F37:Fun K "rows_beside_rings" "rows_beside_rings" aQ f37 d37)
  {f38:Addr} {d38:FuncData} (a38:W.nsIn K mainGlobals "rows_round"=some (some (.ref f38))) (F38:Fun K "rows_round" "rows_round" dU f38 d38)
  {f39:Addr} {d39:FuncData} (a39:W.nsIn K mainGlobals "rows_for"=some (some (.ref f39))) (F39:Fun K "rows_for" "rows_for" eo f39 d39)
  {f40:Addr} {d40:FuncData} (a40:W.nsIn K mainGlobals "run_rows"=some (some (.ref f40))) (F40:Fun K "run_rows" "run_rows" fY f40 d40)
  {f41:Addr} {d41:FuncData} (a41:W.nsIn K mainGlobals "_law_draw"=some (some (.ref f41))) (F41:Fun K "_law_draw" "_law_draw" eY f41 d41)
  {f42:Addr} {d42:FuncData} (a42:W.nsIn K mainGlobals "_law_sizes"=some (some (.ref f42))) (F42:Fun K "_law_sizes" "_law_sizes" dY f42 d42)
  {f43:Addr} {d43:FuncData} (a43:W.nsIn K mainGlobals "_law_axes"=some (some (.ref f43))) (F43:Fun K "_law_axes" "_law_axes" eZ f43 d43)
  {f44:Addr} {d44:FuncData} (a44:W.nsIn K mainGlobals "_law_reach"=some (some (.ref f44))) (F44:Fun K "_law_reach" "_law_reach" dZ f44 d44)
  {f45:Addr} {d45:FuncData} (a45:W.nsIn K mainGlobals "_law_views"=some (some (.ref f45))) (F45:Fun K "_law_views" "_law_views" bR f45 d45)
  {f46:Addr} {d46:FuncData} (a46:W.nsIn K mainGlobals "_law_values"=some (some (.ref f46))) (F46:Fun K "_law_values" "_law_values" b9 f46 d46)
  {f47:Addr} {d47:FuncData} (a47:W.nsIn K mainGlobals "_law_copies"=some (some (.ref f47))) (F47:Fun K "_law_copies" "_law_copies" dB f47 d47)
  {f48:Addr} {od48 an48:Option Addr} {sl48:Array (Option Value)} {oc48 kV48 dc48 pm48 cd48 ct48:Value}
  (a48:W.nsIn K mainGlobals "law"=some (some (.ref f48))) (l48:K.lookup f48=some ⟨oc48,od48,.func (W.fnOf "law" "law" (cM gQ) (bV gQ) (aa gQ) .none kV48 dc48 pm48 an48 cd48 ct48),sl48⟩)
  (c48:W.codeIn K cd48 "law"=true) (k48:W.keepIn K (.ref f48)=true)
  (fi_TooMany:W.findIn K (.ref C6) "__init__"=some (some (.ref f0)))
  (xe_TooMany:yW K C6 f0 [.type "ValueError",.type "Exception",.type "BaseException",.type "object"] "ValueError.__new__"=true)
  (xf_TooMany:W.typeIn K (.ref f0)=some (.type "function"))
  (xo_TooMany:tG K C6=true)
  (xs_TooMany:W.findIn K (.ref C6) "__setattr__"=some (some (.builtin "object.__setattr__")))
  (xh_TooMany:W.hasDictIn K C6=true)
  (nt_TooMany_number:W.takerIn K C6 "number"=some none)
  (nf_TooMany_number:W.findIn K (.ref C6) "number"=some none)
  (bs_PaceError:W.specialIn K (.ref C0) "__getattribute__"=some (some (.builtin "type.__getattribute__")))
  (br_PaceError:W.readsIn K C0 (.type "type")=true)
  (bf_PaceError:W.findCls K (.ref C0) (.type "type") "__init__"=some (.val (.builtin "ValueError.__init__")))
  (pg_View:W.plainGet K C7 Str.empty=true)
  (hd_View:W.hasDictIn K C7=true)
  (po_View:W.plainOver K C7=true)
  (sa_View:W.findIn K (.ref C7) "__setattr__"=some (some (.builtin "object.__setattr__")))
  (nf_View_axes:W.findIn K (.ref C7) "axes"=some none)
  (nf_View_first:W.findIn K (.ref C7) "first"=some none)
  (nf_View_room:W.findIn K (.ref C7) "room"=some none)
  (fi_View___init__:W.findIn K (.ref C7) "__init__"=some (some (.ref f12)))
  (fn_View___init__:W.isFn K (.ref f12)=true)
  (mm_View:W.makesIn K C7=true)
  (ck_View:W.keepIn K (.ref C7)=true)
  (fi_View_sizes:W.findIn K (.ref C7) "sizes"=some (some (.ref f13)))
  (fn_View_sizes:W.isFn K (.ref f13)=true)
  (fi_View_paces:W.findIn K (.ref C7) "paces"=some (some (.ref f14)))
  (fn_View_paces:W.isFn K (.ref f14)=true)
  (fi_View_count:W.findIn K (.ref C7) "count"=some (some (.ref f15)))
  (fn_View_count:W.isFn K (.ref f15)=true)
  (fi_View_cell:W.findIn K (.ref C7) "cell"=some (some (.ref f16)))
  (fn_View_cell:W.isFn K (.ref f16)=true)
  (fi_View_cells:W.findIn K (.ref C7) "cells"=some (some (.ref f17)))
  (fn_View_cells:W.isFn K (.ref f17)=true)
  (fi_View_least:W.findIn K (.ref C7) "least"=some (some (.ref f18)))
  (fn_View_least:W.isFn K (.ref f18)=true)
  (fi_View_greatest:W.findIn K (.ref C7) "greatest"=some (some (.ref f19)))
  (fn_View_greatest:W.isFn K (.ref f19)=true)
  (pg_Store:W.plainGet K C8 Str.empty=true)
  (hd_Store:W.hasDictIn K C8=true)
  (po_Store:W.plainOver K C8=true)
  (sa_Store:W.findIn K (.ref C8) "__setattr__"=some (some (.builtin "object.__setattr__")))
  (nf_Store_floor:W.findIn K (.ref C8) "floor"=some none)
  (fi_Store___init__:W.findIn K (.ref C8) "__init__"=some (some (.ref f24)))
  (fn_Store___init__:W.isFn K (.ref f24)=true)
  (mm_Store:W.makesIn K C8=true)
  (ck_Store:W.keepIn K (.ref C8)=true)
  (fi_Store_all_values:W.findIn K (.ref C8) "all_values"=some (some (.ref f25)))
  (fn_Store_all_values:W.isFn K (.ref f25)=true)
  (fi_Store_refuse_room:W.findIn K (.ref C8) "refuse_room"=some (some (.ref f26)))
  (fn_Store_refuse_room:W.isFn K (.ref f26)=true)
  (fi_Store_read:W.findIn K (.ref C8) "read"=some (some (.ref f27)))
  (fn_Store_read:W.isFn K (.ref f27)=true)
  (fi_Store_put:W.findIn K (.ref C8) "put"=some (some (.ref f28)))
  (fn_Store_put:W.isFn K (.ref f28)=true)
  (fi_Store_copied:W.findIn K (.ref C8) "copied"=some (some (.ref f29)))
  (fn_Store_copied:W.isFn K (.ref f29)=true)
  {tk0:Tok} (w0:W.nsIn K mainGlobals "MOST_TOLD"=some (some (.int 4096 tk0)))
  {tk1:Tok} (w1:W.nsIn K mainGlobals "MOST_ROOM"=some (some (.int 1000000000000000000 tk1)))
  {tk2:Tok} (w2:W.nsIn K mainGlobals "MOST_SIZE"=some (some (.int 1000000000 tk2)))
  {tk3:Tok} (w3:W.nsIn K mainGlobals "MOST_AXES"=some (some (.int 8 tk3)))
  {tk4:Tok} (w4:W.nsIn K mainGlobals "SPARE"=some (some (.int (-1) tk4)))
  (z0:W.nsIn K mainGlobals "ValueError"=some none)
  (z1:W.nsIn K mainGlobals "all"=some none)
  (z2:W.nsIn K mainGlobals "any"=some none)
  (z3:W.nsIn K mainGlobals "bool"=some none)
  (z4:W.nsIn K mainGlobals "int"=some none)
  (z5:W.nsIn K mainGlobals "isinstance"=some none)
  (z6:W.nsIn K mainGlobals "len"=some none)
  (z7:W.nsIn K mainGlobals "list"=some none)
  (z8:W.nsIn K mainGlobals "max"=some none)
  (z9:W.nsIn K mainGlobals "min"=some none)
  (z10:W.nsIn K mainGlobals "range"=some none)
  (z11:W.nsIn K mainGlobals "reversed"=some none)
  (z12:W.nsIn K mainGlobals "sorted"=some none)
  (z13:W.nsIn K mainGlobals "sum"=some none)
  (z14:W.nsIn K mainGlobals "tuple"=some none)
  (z15:W.nsIn K mainGlobals "zip"=some none)
  : ∃ fd:FuncData,(∀ (s:Shared) (v:Value),BindsTo s fd ⟨[v],[]⟩ [("_law_script",v)])/\∀ base:Heap,K.In base->base.Ns mainGlobals mg->bp l.prog w K mg base CX0 10 fa fd ["_law_script"] (rh K):=by
 have e:=hfa.symm.trans (Lr X G a48);cases e;have F21:=Cs (st:=fU) l21 c21 k21;have F48:=Gz (st:=gQ) l48 c48 k48;have T:Tx K mg ⟨C0,C1,C2,C3,C4,C5,C6,C7,C8,f0,_,f1,_,f2,_,f3,_,f4,_,f5,_,f6,_,f7,_,f8,_,f9,_,f10,_,f11,_,f12,_,f13,_,f14,_,f15,_,f16,_,f17,_,f18,_,f19,_,f20,_,f21,_,f22,_,f23,_,f24,_,f25,_,f26,_,f27,_,f28,_,f29,_,f30,_,f31,_,f32,_,f33,_,f34,_,f35,_,f36,_,f37,_,f38,_,f39,_,f40,_,f41,_,f42,_,f43,_,f44,_,f45,_,f46,_,f47,_,fa,_⟩:=⟨Lr X G y0,Lr X G y1,Lr X G y2,Lr X G y3,Lr X G y4,Lr X G y5,Lr X G y6,Lr X G y7,Lr X G y8,⟨_,Lr X G w0⟩,⟨_,Lr X G w1⟩,⟨_,Lr X G w2⟩,⟨_,Lr X G w3⟩,⟨_,Lr X G w4⟩,⟨xe_TooMany,xf_TooMany,⟨xo_TooMany,xs_TooMany,xh_TooMany⟩⟩,nt_TooMany_number,nf_TooMany_number,⟨bs_PaceError,br_PaceError,bf_PaceError⟩,⟨pg_View,hd_View,po_View,sa_View⟩,nf_View_axes,nf_View_first,nf_View_room,⟨mm_View,fi_View___init__,fn_View___init__,ck_View⟩,⟨fi_View_sizes,fn_View_sizes,F13.kp⟩,⟨fi_View_paces,fn_View_paces,F14.kp⟩,⟨fi_View_count,fn_View_count,F15.kp⟩,⟨fi_View_cell,fn_View_cell,F16.kp⟩,⟨fi_View_cells,fn_View_cells,F17.kp⟩,⟨fi_View_least,fn_View_least,F18.kp⟩,⟨fi_View_greatest,fn_View_greatest,F19.kp⟩,⟨pg_Store,hd_Store,po_Store,sa_Store⟩,nf_Store_floor,⟨mm_Store,fi_Store___init__,fn_Store___init__,ck_Store⟩,⟨fi_Store_all_values,fn_Store_all_values,F25.kp⟩,⟨fi_Store_refuse_room,fn_Store_refuse_room,F26.kp⟩,⟨fi_Store_read,fn_Store_read,F27.kp⟩,⟨fi_Store_put,fn_Store_put,F28.kp⟩,⟨fi_Store_copied,fn_Store_copied,F29.kp⟩,F0,F0.binds (ps:=["self", "number"]) (λ _ _ _ _ _ _=>ju (λ _ _=>rfl)),F1,Lr X G a1,F1.binds (ps:=["thing"]) (λ _ _ _ _ _ _=>fR (λ _=>rfl)),F2,Lr X G a2,F2.binds (ps:=["sizes"]) (λ _ _ _ _ _ _=>fR (λ _=>rfl)),F3,Lr X G a3,F3.binds (ps:=["sizes"]) (λ _ _ _ _ _ _=>fR (λ _=>rfl)),F4,Lr X G a4,F4.binds (ps:=["thing", "bound"]) (λ _ _ _ _ _ _=>ju (λ _ _=>rfl)),F5,Lr X G a5,F5.binds (ps:=["sizes", "thing"]) (λ _ _ _ _ _ _=>ju (λ _ _=>rfl)),F6,Lr X G a6,F6.binds (ps:=["count"]) (λ _ _ _ _ _ _=>fR (λ _=>rfl)),F7,Lr X G a7,F7.binds (ps:=["thing", "low", "high"]) (λ _ _ _ _ _ _=>yu (λ _ _ _=>rfl)),F8,Lr X G a8,F8.binds (ps:=["thing"]) (λ _ _ _ _ _ _=>fR (λ _=>rfl)),F9,Lr X G a9,F9.binds (ps:=["thing"]) (λ _ _ _ _ _ _=>fR (λ _=>rfl)),F10,Lr X G a10,F10.binds (ps:=["thing"]) (λ _ _ _ _ _ _=>fR (λ _=>rfl)),F11,Lr X G a11,F11.binds (ps:=["axis"]) (λ _ _ _ _ _ _=>fR (λ _=>rfl)),F12,F12.binds (ps:=["self", "room", "first", "axes"]) (λ _ _ _ _ _ _=>JH (λ _ _ _ _=>rfl)),F13,F13.binds (ps:=["self"]) (λ _ _ _ _ _ _=>fR (λ _=>rfl)),F14,F14.binds (ps:=["self"]) (λ _ _ _ _ _ _=>fR (λ _=>rfl)),F15,F15.binds (ps:=["self"]) (λ _ _ _ _ _ _=>fR (λ _=>rfl)),F16,F16.binds (ps:=["self", "place"]) (λ _ _ _ _ _ _=>ju (λ _ _=>rfl)),F17,F17.binds (ps:=["self"]) (λ _ _ _ _ _ _=>fR (λ _=>rfl)),F18,F18.binds (ps:=["self"]) (λ _ _ _ _ _ _=>fR (λ _=>rfl)),F19,F19.binds (ps:=["self"]) (λ _ _ _ _ _ _=>fR (λ _=>rfl)),F20,Lr X G a20,F20.binds (ps:=["cells", "size", "pace"]) (λ _ _ _ _ _ _=>yu (λ _ _ _=>rfl)),F21,Lr X G a21,(λ s us hin hl=>match us,(show us.length=2 by simp only [KY,Lz,NR] at hl;omega) with|[_,_],_=>BindsTo.of_defaults rfl (hin _ _ q21) rfl rfl rfl),(λ s us hin hl=>match us,(show us.length=1 by simp only [KY,Lz,NR] at hl;omega) with|[_],_=>BindsTo.of_defaults rfl (hin _ _ q21) rfl rfl rfl),F22,Lr X G a22,F22.binds (ps:=["one", "other"]) (λ _ _ _ _ _ _=>ju (λ _ _=>rfl)),F23,Lr X G a23,F23.binds (ps:=["view", "many"]) (λ _ _ _ _ _ _=>ju (λ _ _=>rfl)),F24,F24.binds (ps:=["self", "values"]) (λ _ _ _ _ _ _=>ju (λ _ _=>rfl)),F25,F25.binds (ps:=["self"]) (λ _ _ _ _ _ _=>fR (λ _=>rfl)),F26,F26.binds (ps:=["self", "view"]) (λ _ _ _ _ _ _=>ju (λ _ _=>rfl)),F27,F27.binds (ps:=["self", "view"]) (λ _ _ _ _ _ _=>ju (λ _ _=>rfl)),F28,F28.binds (ps:=["self", "view", "values"]) (λ _ _ _ _ _ _=>yu (λ _ _ _=>rfl)),F29,F29.binds (ps:=["self", "to", "source"]) (λ _ _ _ _ _ _=>yu (λ _ _ _=>rfl)),F30,Lr X G a30,F30.binds (ps:=["to", "source"]) (λ _ _ _ _ _ _=>ju (λ _ _=>rfl)),F31,Lr X G a31,F31.binds (ps:=["found", "start", "walked"]) (λ _ _ _ _ _ _=>yu (λ _ _ _=>rfl)),F32,Lr X G a32,F32.binds (ps:=["ring"]) (λ _ _ _ _ _ _=>fR (λ _=>rfl)),F33,Lr X G a33,F33.binds (ps:=["found", "ring_of"]) (λ _ _ _ _ _ _=>ju (λ _ _=>rfl)),F34,Lr X G a34,F34.binds (ps:=["found"]) (λ _ _ _ _ _ _=>fR (λ _=>rfl)),F35,Lr X G a35,F35.binds (ps:=["ring"]) (λ _ _ _ _ _ _=>fR (λ _=>rfl)),F36,Lr X G a36,F36.binds (ps:=["found"]) (λ _ _ _ _ _ _=>fR (λ _=>rfl)),F37,Lr X G a37,F37.binds (ps:=["found"]) (λ _ _ _ _ _ _=>fR (λ _=>rfl)),F38,Lr X G a38,F38.binds (ps:=["ring", "elsewhere"]) (λ _ _ _ _ _ _=>ju (λ _ _=>rfl)),F39,Lr X G a39,F39.binds (ps:=["found"]) (λ _ _ _ _ _ _=>fR (λ _=>rfl)),F40,Lr X G a40,F40.binds (ps:=["store", "rows"]) (λ _ _ _ _ _ _=>ju (λ _ _=>rfl)),F41,Lr X G a41,F41.binds (ps:=["_law_script", "_law_k", "_law_many"]) (λ _ _ _ _ _ _=>yu (λ _ _ _=>rfl)),F42,Lr X G a42,F42.binds (ps:=["_law_script", "_law_at"]) (λ _ _ _ _ _ _=>ju (λ _ _=>rfl)),F43,Lr X G a43,F43.binds (ps:=["_law_script", "_law_at", "_law_sizes_here"]) (λ _ _ _ _ _ _=>yu (λ _ _ _=>rfl)),F44,Lr X G a44,F44.binds (ps:=["_law_axes_here"]) (λ _ _ _ _ _ _=>fR (λ _=>rfl)),F45,Lr X G a45,F45.binds (ps:=["_law_script"]) (λ _ _ _ _ _ _=>fR (λ _=>rfl)),F46,Lr X G a46,F46.binds (ps:=["_law_script", "_law_room"]) (λ _ _ _ _ _ _=>ju (λ _ _=>rfl)),F47,Lr X G a47,F47.binds (ps:=["_law_one", "_law_other", "_law_room", "_law_on"]) (λ _ _ _ _ _ _=>JH (λ _ _ _ _=>rfl)),F48,Lr X G a48,F48.binds (ps:=["_law_script"]) (λ _ _ _ _ _ _=>fR (λ _=>rfl)),LK X G z0,LK X G z1,LK X G z2,LK X G z3,LK X G z4,LK X G z5,LK X G z6,LK X G z7,LK X G z8,LK X G z9,LK X G z10,LK X G z11,LK X G z12,LK X G z13,LK X G z14,LK X G z15⟩;exact⟨W.fnOf "law" "law" (cM gQ) (bV gQ) (aa gQ) .none kV48 dc48 pm48 an48 cd48 ct48,λ s v=>.of_eq rfl,λ base _ _=>ED T⟩
theorem walk{l:W.OpenLaw}{q:Program}{loose:List Str}{XP:(Str->Option Value)->Heap->Prop}{YP:World->Heap->Prop}{d:DefRec}{K:Params->W.Frag}(hn:l.most=some 63)(hdf:d.params.defaults=[])
  (hY:∀ (w:World) (h:Heap),YP w h->(K w.params).In h)
  (F:∀ (w:World) (mg:Str->Option Value) (fa:Addr) (h:Heap),(K w.params).In h->h.Ns mainGlobals mg->mg d.name=some (.ref fa) →
   ∃ fd:FuncData,(∀ (s:Shared) (u:Value),BindsTo s fd ⟨[u],[]⟩ [("_law_script",u)])/\∀ base:Heap,(K w.params).In base->base.Ns mainGlobals mg->bp l.prog w (K w.params) mg base CX0 10 fa fd ["_law_script"] (rh (K w.params))) :
  W.WalkO q loose XP YP l.row.toRowW d [] (λ f vs=>PySem.call f vs):=
 L2.Jk (n:=63) (k:=10) (x := "_law_script") (CX:=λ _=>CX0) (sp:=λ w=>rh (K w.params)) hn ⋯ hdf ⟨rfl,by decide,by decide⟩ hY F (λ _ _ a ns hl _ hS=>⟨a,rfl,ns,hS,hl,λ _=>rfl⟩) λ _ _ _ _ _ z=>z
end PH
namespace PySem.W.Fast
def tw9753290460615970452:=0
def tw17322684734959004449:=0
def tw13445393782217002599:=0
def tw13564962205451137062:=0
def tw4534526854588206556:=0
def tw7643244368979942227:=0
def tw1304588708789846109:=0
def tw13656417680474227312:=0
def tw568638319408188153:=0
def tw16081026683835431841:=0
def tw4382196869058158107:=0
def tw5978934344273691207:=0
def tw11176875746660534046:=0
def tw15586879771440453245:=0
def tw8808884605458558069:=0
def tw225170958952247440:=0
def tw10731964229457333235:=0
def tw16756499294990924995:=0
def tw14402529042521636428:=0
def tw10872141802257989034:=0
def tw14617372160141071339:=0
def tw15018953689099864977:=0
def tw6340792557230505133:=0
def tw5417677329633905057:=0
def tw6210774193995777932:=0
def tw16203396133082543636:=0
def tw13325804855359629424:=0
def tw14188095572199322752:=0
def tw9913527677038806926:=0
def tw12362249065858946818:=0
def tw4878925298430214028:=0
def tw550498559079618147:=0
def tw14895917513938938869:=0
def tw12483651962584322266:=0
def tw4684220596862582338:=0
def tw9423309232309244658:=0
def tw11871078934778596121:=0
def tw17794077674887503291:=0
def tw7455192439957764856:=0
def tw5932630118638652133:=0
def tw17604097925646525467:=0
def tw1109334166719370611:=0
def tw17996499651998756121:=0
def tw1578201441231111853:=0
def tw10441518050331006742:=0
def tw14622790146186047931:=0
def tw12628595239508033134:=0
def tw2056029333094767552:=0
def tw8006592659046727960:=0
def tw4984708408691620494:=0
def tw10926157609526216266:=0
def tw1312320192830750744:=0
def tw1606007786545512981:=0
def tw18094921442416058616:=0
def tw4121006996094945120:=0
def tw1468737290448553585:=0
def tw18244347487116165340:=0
def tw775126258823864346:=0
def tw4699945967309574267:=0
def tw12538907134350474516:=0
def tw5008238142368417051:=0
def tw12457444915095358574:=0
def tw5482828546277244009:=0
def tw11672438672220872940:=0
def tw3056203072167588422:=0
def tw3308472364942263258:=0
def tw4750481556982126279:=0
def tw2239259692669116830:=0
def tw7399318480761378900:=0
def tw7500848942254762954:=0
def tw18410913205485372081:=0
def tw1295528224976757299:=0
def tw3496358571954840298:=0
def tw17117158410051183014:=0
def tw6591942233320306958:=0
def tw7907839406027680146:=0
def tw6298155636488028175:=0
def tw15408223090268658861:=0
def tw4094790646438057241:=0
def tw11945148415835659689:=0
def tw16267713697847960687:=0
def tw12649838310401238491:=0
def tw8214459195535207478:=0
def tw4553874118035717737:=0
def tw15074604710932563589:=0
def tw13684203572401951556:=0
def tw930299387034259469:=0
def tw13463985521568011975:=0
def tw4484577603812636783:=0
def tw8748793215755784624:=0
def tw15988509797561927731:=0
def tw12887626213351655064:=0
def tw6783257754180156336:=0
def tw16942438542373425618:=0
def tw449696460735015564:=0
def tw5202041884947837125:=0
def tw9754355599568301180:=0
def tw5042018168413662682:=0
def tw7043001160264764631:=0
def tw6265868061960580533:=0
def tw17533081228215145678:=0
def tw1758422479441676017:=0
def tw9767616824884793085:=0
def tw7676256559953297511:=0
def tw15571529989033597067:=0
def tw14476094509433714797:=0
def tw9679938662292333571:=0
def tw7373766127082566242:=0
def tw10808014493504004879:=0
end PySem.W.Fast
open PySem PySem.W PyProof.Rows
theorem PySem.Challenge.cw_pacehall_k68_whole_copies_by_rows_holds : PySem.Challenge.rw_pacehall_k68_whole_copies_by_rows.Holds := by
 w_on;o_law;k_head;(case hw=>w_witness2)
 k_fill
 refine PH.walk (l:=PySem.Challenge.rw_pacehall_k68_whole_copies_by_rows) rfl rfl (λ w h Y=>PySem.W.kIn_of Y) ?F
 case F=>
  intro w mg fa h KX G hmg
  refine' PH.Ka KX G hmg ?y0 ?y1 ?y2 ?y3 ?y4 ?y5 ?y6 ?y7 ?y8 ?F0 ?a1 ?F1 ?a2 ?F2 ?a3 ?F3 ?a4 ?F4 ?a5 ?F5 ?a6 ?F6 ?a7 ?F7 ?a8 ?F8 ?a9 ?F9 ?a10 ?F10 ?a11 ?F11 ?F12 ?F13 ?F14 ?F15 ?F16 ?F17 ?F18 ?F19 ?a20 ?F20 ?a21 ?l21 ?q21 ?c21 ?k21 ?a22 ?F22 ?a23 ?F23 ?F24 ?F25 ?F26 ?F27 ?F28 ?F29 ?a30 ?F30 ?a31 ?F31 ?a32 ?F32 ?a33 ?F33 ?a34 ?F34 ?a35 ?F35 ?a36 ?F36 ?a37 ?F37 ?a38 ?F38 ?a39 ?F39 ?a40 ?F40 ?a41 ?F41 ?a42 ?F42 ?a43 ?F43 ?a44 ?F44 ?a45 ?F45 ?a46 ?F46 ?a47 ?F47 ?a48 ?l48 ?c48 ?k48 ?fi_TooMany ?xe_TooMany ?xf_TooMany ?xo_TooMany ?xs_TooMany ?xh_TooMany ?nt_TooMany_number ?nf_TooMany_number ?bs_PaceError ?br_PaceError ?bf_PaceError ?pg_View ?hd_View ?po_View ?sa_View ?nf_View_axes ?nf_View_first ?nf_View_room ?fi_View___init__ ?fn_View___init__ ?mm_View ?ck_View ?fi_View_sizes ?fn_View_sizes ?fi_View_paces ?fn_View_paces ?fi_View_count ?fn_View_count ?fi_View_cell ?fn_View_cell ?fi_View_cells ?fn_View_cells ?fi_View_least ?fn_View_least ?fi_View_greatest ?fn_View_greatest ?pg_Store ?hd_Store ?po_Store ?sa_Store ?nf_Store_floor ?fi_Store___init__ ?fn_Store___init__ ?mm_Store ?ck_Store ?fi_Store_all_values ?fn_Store_all_values ?fi_Store_refuse_room ?fn_Store_refuse_room ?fi_Store_read ?fn_Store_read ?fi_Store_put ?fn_Store_put ?fi_Store_copied ?fn_Store_copied ?w0 ?w1 ?w2 ?w3 ?w4 ?z0 ?z1 ?z2 ?z3 ?z4 ?z5 ?z6 ?z7 ?z8 ?z9 ?z10 ?z11 ?z12 ?z13 ?z14 ?z15
  (case y0|y1|y2|y3|y4|y5|y6|y7|y8|fi_TooMany|fi_View___init__|fi_View_sizes=>first|k_is|k_exc|kts_exm|decide|rfl|decide +kernel|kernel_rfl)
  (case fi_View_paces|fi_View_count|fi_View_cell|fi_View_cells|fi_View_least|fi_View_greatest|fi_Store___init__|fi_Store_all_values|fi_Store_refuse_room|fi_Store_read|fi_Store_put|fi_Store_copied=>first|k_is|k_exc|kts_exm|decide|rfl|decide +kernel|kernel_rfl)
  (case a1|a2|a3|a4|a5|a6|a7|a8|a9|a10|a11|a20=>first|k_is|k_exc|kts_exm|decide|rfl|decide +kernel|kernel_rfl)
  (case a21|a22|a23|a30|a31|a32|a33|a34|a35|a36|a37|a38=>first|k_is|k_exc|kts_exm|decide|rfl|decide +kernel|kernel_rfl)
  (case a39|a40|a41|a42|a43|a44|a45|a46|a47|a48=>first|k_is|k_exc|kts_exm|decide|rfl|decide +kernel|kernel_rfl)
  (case F0|F1|F2|F3|F4|F5|F6|F7|F8|F9|F10|F11=>(refine' L2.Gz ?l ?c ?k;(case l|c|k=>first|k_is|k_exc|kts_exm|decide|rfl|decide +kernel|kernel_rfl)))
  (case F12|F13|F14|F15|F16|F17|F18|F19|F20|F22|F23|F24=>(refine' L2.Gz ?l ?c ?k;(case l|c|k=>first|k_is|k_exc|kts_exm|decide|rfl|decide +kernel|kernel_rfl)))
  (case F25|F26|F27|F28|F29|F30|F31|F32|F33|F34|F35|F36=>(refine' L2.Gz ?l ?c ?k;(case l|c|k=>first|k_is|k_exc|kts_exm|decide|rfl|decide +kernel|kernel_rfl)))
  (case F37|F38|F39|F40|F41|F42|F43|F44|F45|F46|F47=>(refine' L2.Gz ?l ?c ?k;(case l|c|k=>first|k_is|k_exc|kts_exm|decide|rfl|decide +kernel|kernel_rfl)))
  (case l21|q21|c21|k21|l48|c48|k48|xe_TooMany|xf_TooMany|xo_TooMany|xs_TooMany|xh_TooMany=>first|k_is|k_exc|kts_exm|decide|rfl|decide +kernel|kernel_rfl)
  (case nt_TooMany_number|nf_TooMany_number|bs_PaceError|br_PaceError|bf_PaceError|pg_View|hd_View|po_View|sa_View|nf_View_axes|nf_View_first|nf_View_room=>first|k_is|k_exc|kts_exm|decide|rfl|decide +kernel|kernel_rfl)
  (case fn_View___init__|mm_View|ck_View|fn_View_sizes|fn_View_paces|fn_View_count|fn_View_cell|fn_View_cells|fn_View_least|fn_View_greatest|pg_Store|hd_Store=>first|k_is|k_exc|kts_exm|decide|rfl|decide +kernel|kernel_rfl)
  (case po_Store|sa_Store|nf_Store_floor|fn_Store___init__|mm_Store|ck_Store|fn_Store_all_values|fn_Store_refuse_room|fn_Store_read|fn_Store_put|fn_Store_copied|w0=>first|k_is|k_exc|kts_exm|decide|rfl|decide +kernel|kernel_rfl)
  (case w1|w2|w3|w4|z0|z1|z2|z3|z4|z5|z6|z7=>first|k_is|k_exc|kts_exm|decide|rfl|decide +kernel|kernel_rfl)
  (case z8|z9|z10|z11|z12|z13|z14|z15=>first|k_is|k_exc|kts_exm|decide|rfl|decide +kernel|kernel_rfl)
#print axioms PySem.Challenge.cw_pacehall_k68_whole_copies_by_rows_holds