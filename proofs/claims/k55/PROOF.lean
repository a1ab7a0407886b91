import PyProof.Rows.All
import Wide.All
import OpenK.AllK
import Wide.FinOn
import Lean
import PyProof.EqAt
import PyProof.EqKinds
import PyProof.TupleCall
import PySem.Challenge.RW_pacehall_k55_papers_read
set_option Elab.async false
set_option linter.all false
set_option maxRecDepth 100000
set_option maxHeartbeats 0
open List (mem_cons_self mem_cons_of_mem mem_append_left mem_append_right size_toArray length_cons map_cons length_map append_nil of_mem_zip length_take getElem?_append_right getElem?_append_left getElem?_map mem_of_getElem? length_append length_drop length_set length_singleton length_reverse find?_cons length_nil getElem_mem getElem?_eq_getElem lookup_cons getElem?_eq_none mem_cons not_mem_nil take_length nodup_nil length_zip map_map getD_eq_getElem?_getD map_append append_assoc length_range)
namespace QL
def Jx:=@PySem.wpAny_bind
def Jy:=@List.getElem?_eq_getElem
def Jz:=@PySem.Heap.get?_push_of_some
def JA:=@List.length_append
def JB:=@Nat.le_refl
def JC:=@List.getElem?_eq_some_iff
def JD:=@List.mem_singleton
def JE:=@PySem.wpAny_pure
def JF:=@PySem.Heap.lt_size
def JG:=@List.mem_cons_of_mem
def JH:=@List.length_singleton
def JI:=@List.mem_cons_self
def JJ:=@PySem.F.plainAttrs_list
def JK:=@PySem.Heap.get?_push_size
def JL:=@if_neg
def JM:=@if_pos
def JN:=@Nat.lt_of_lt_of_le
def JO:=@Bool.false_ne_true
def JP:=@List.length_map
def JQ:=@List.size_toArray
def JR:=@Nat.ne_of_lt
def JS:=@List.length_cons
def JT:=@Nat.le_trans
def JU:=@Option.some.inj
def JV:=@List.not_mem_nil
def JW:=@decide_eq_false
def JX:=@List.getElem?_append_right
def JY:=@List.getD_eq_getElem?_getD
def JZ:=@decide_eq_true
def J0:=@List.mem_map
def J1:=@List.mem_append
def J2:=@List.mem_cons
def J4:=@List.getElem?_map
def J5:=@PySem.W.mg_of
def J6:=@Ne.symm
def J7:=@Option.map_eq_some_iff
def J8:=@List.mem_append_right
def J9:=@PySem.PassesOwn.never
def Ka:=@PySem.wpAny_field
def Kb:=@Int.emod_nonneg
def Kc:=@Bool.and_false
def Kd:=@Array.getElem?_eq_some_iff
def Ke:=@Int.mul_le_mul_of_nonneg_left
def Kf:=@PySem.W.mg_none_of
def Kg:=@beq_eq_false_iff_ne
def Kh:=@PySem.F.type_list_append
def Ki:=@PySem.F.slot_list_append
def Kj:=@Int.zero_add
def Kk:=@Int.toNat_natCast
def Kl:=@PySem.wpAny_truthy_bool
def Km:=@List.length_eq_zero_iff
def Kn:=@Int.eq_ofNat_of_zero_le
def Ko:=@Int.emod_lt_of_pos
def Kp:=@beq_self_eq_true
def Kq:=@Bool.and_eq_true
def Kr:=@List.getElem?_append_left
def Ks:=@Nat.add_le_add
def Kt:=@List.mem_range
def Ku:=@PySem.wpAny_newObj_type
def Kv:=@List.length_reverse
def Kw:=@Nat.zero_le
def Kx:=@PySem.Heap.size_push
def Ky:=@Int.add_zero
def Kz:=@List.nodup_cons
def KA:=@List.map_cons
def KC:=@List.append_assoc
def KD:=@List.mem_append_left
def KG:=@List.map_map
def KH:=@decide_eq_true_iff
def KI:=@List.getElem?_zip_eq_some
def KJ:=@Nat.add_le_add_right
def KL:=@PySem.Obj.isFreed_of_fields
def KN:=@PySem.Heap.get?_update_self
def KO:=@congrArg
def KP:=@List.take_of_length_le
def KQ:=@List.length_take
def KR:=@List.getElem_mem
def KS:=@PySem.wpAny_holding
def KU:=@PySem.wpAny_callSpecial?_slot
def KW:=@List.getElem?_eq_none
def KY:=@PySem.F.type_list_pop
def KZ:=@PySem.F.slot_list_pop
def K0:=@List.mem_filter
def K1:=@Int.le_refl
def K2:=@PySem.wpAny_seqItems
def K3:=@Nat.lt_irrefl
def K4:=@PySem.Heap.get?_update_other
def K5:=@PySem.wpAny_setField_rec
def K6:=@PySem.wpAny_Call_Name_kw
def K7:=@PySem.Obj.data_mapFields
def K8:=@List.mem_of_getElem?
def K9:=@List.lookup_cons
def La:=@PySem.wpAny_passesOwn
def Lb:=@PySem.W.kia_one
def Lc:=@PySem.mem_of_lookup
def Ld:=@Array.length_toList
def Le:=@PySem.F.type_list_extend
def Lf:=@PySem.F.slot_list_extend
def Lg:=@PySem.F.slot_tuple_iterator_next
def Lh:=@PySem.Heap.get?_none_of_le
def Li:=@or_false
def Lj:=@Option.map_some
def Lk:=@PySem.wpAny_call_entry
def Ll:=@List.length_zip
def Lm:=@List.length_range
def Ln:=@PySem.Heap.SameBut.update
def Lo:=@PySem.wpAny_mono
def Lp:=@PySem.codeAny_mono
def Lq:=@beq_iff_eq
def Lr:=@PyProof.Rows.slot_tuple_getitem
def Ls:=@Decidable.not_not
def Lu:=@List.length_nil
def Lv:=@List.append_nil
def Lw:=@List.cons.inj
def Lx:=@PySem.wpAny_setField
def Ly:=@PyProof.Rows.callWith_type1
def Lz:=@Bool.eq_iff_iff
def LA:=@Nat.ne_of_gt
def LB:=@Nat.lt_trans
def LC:=@Nat.le_of_lt
def LD:=@List.filter_append
def LF:=@List.of_mem_zip
def LG:=@PySem.Paired.length
def LH:=@PySem.wpAny_execs_nil
def LJ:=@of_decide_eq_true
def LK:=@PySem.F.args_tuple_add_2
def LL:=@Option.isSome_iff_exists
def LM:=@PySem.F.entry_tuple_add
def LN:=@List.getElem?_replicate
def LO:=@Nat.lt_succ_self
def LP:=@Nat.le_of_not_lt
def LQ:=@Nat.le_add_right
def LR:=@List.all_eq_true
def LS:=@PySem.F.slot_tuple_add
def LU:=@List.getElem?_set_self
def LV:=@List.map_append
def LW:=@List.find?_cons
def LX:=@PySem.wpAny_pyIter_list
def LY:=@PySem.F.slot_dict_get
def LZ:=@Nat.succ.inj
def L3:=@Nat.le_of_eq
def L4:=@List.take_length
def L5:=@List.length_drop
def L6:=@PySem.wpAny_standAt
def L7:=@List.getElem?_set_ne
def L8:=@List.dropLast_concat
def L9:=@List.drop_zero
def Ma:=@Bool.false_and
def Mb:=@List.map_congr_left
def Mc:=@List.filterMap_cons
def Md:=@PySem.Calls.callWith_builtin
def Me:=@List.length_set
def Mf:=@Nat.add_sub_cancel
def Mg:=@PySem.F.slot_zip_next
def Mh:=@Bool.true_and
def Mi:=@PySem.wpAny_updateSeq_pair
def Mj:=@if_true
def Ml:=@Nat.lt_succ_of_lt
def Mm:=@List.take_add_one
def Mn:=@List.reverse_cons
def Mo:=@PySem.Calls.evalArgs_plain
def Mp:=@Array.getElem?_setIfInBounds_ne
def Mq:=@PySem.wpAny_comprehension_free
def Mr:=@Nat.sub_self
def Ms:=@Int.mul_le_mul_of_nonneg_right
def Mt:=@Int.mul_comm
def Mu:=@Nat.min_eq_right
def Mv:=@List.nodup_nil
def Mw:=@PySem.wpAny_onRaise
def Mx:=@PySem.wpAny_attempt
def My:=@PySem.tupleKind_room_in1
def Mz:=@List.forIn_cons
def MB:=@PySem.Calls.spliced_cons
end QL
open QL
namespace L2
open PySem PySem.Spec PyProof.Rows
abbrev Key:=Sum Int Str
def kR:Key->Value->Bool
 | .inl k,v=>Value.isInt k v
 | .inr x,v=>Value.isStrOf x v
def IZ(w:World):Key->Int
 | .inl k=>hashInt k
 | .inr x=>hashStr w x
theorem aT:∀ {k:Key}{v:Value},kR k v=true->(∃ i t,k=Sum.inl i/\v=Value.int i t)\/(∃ x t,k=Sum.inr x/\v=Value.str x t)
 | .inl i,v,h=>by
  obtain⟨t,e⟩:=Value.isInt_shape (k:=i) (v:=v) h;exact .inl ⟨i,t,rfl,e⟩
 | .inr x,v,h=>by
  obtain⟨t,e⟩:=Value.isStrOf_shape (x:=x) (v:=v) h;exact .inr ⟨x,t,rfl,e⟩
theorem uE(i:Int)(t:Tok):kR (.inl i) (.int i t)=true:=by simp [kR,Value.isInt]
theorem uD(x:Str)(t:Tok):kR (.inr x) (.str x t)=true:=by simp [kR,Value.isStrOf]
theorem EK(a b:Int):decide ((Sum.inl a:Key)=Sum.inl b)=(a == b):=by
 by_cases e:a=b
 ·subst e;simp
 ·have h:¬ (Sum.inl a:Key)=Sum.inl b:=λ q=>e (Sum.inl.inj q);rw [JW h];exact(Kg.mpr e).symm
theorem EH(a b:Str):decide ((Sum.inr a:Key)=Sum.inr b)=decide (a=b):=by
 by_cases e:a=b
 ·subst e;simp
 ·have h:¬ (Sum.inr a:Key)=Sum.inr b:=λ q=>e (Sum.inr.inj q);rw [JW h,JW e]
theorem EJ(a:Int)(b:Str):decide ((Sum.inl a:Key)=Sum.inr b)=false:=JW (λ q=>nomatch q)
theorem EI(a:Str)(b:Int):decide ((Sum.inr a:Key)=Sum.inl b)=false:=JW (λ q=>nomatch q)
def bz(prog:Program)(w:World):PySem.KeyKind prog w Key where
 is:=kR
 hash:=IZ w
 inj:=λ v a b ha hb=>by
  rcases aT ha with ⟨i,t,rfl,rfl⟩|⟨x,t,rfl,rfl⟩
  ·rcases aT hb with ⟨j,u,rfl,e⟩|⟨y,u,rfl,e⟩
   ·injection e with e1 _;rw [e1]
   ·exact nomatch e
  ·rcases aT hb with ⟨j,u,rfl,e⟩|⟨y,u,rfl,e⟩
   ·exact nomatch e
   ·injection e with e1 _;rw [e1]
 byValue:=λ k v h=>by
  rcases aT h with ⟨i,t,rfl,rfl⟩|⟨x,t,rfl,rfl⟩<;>rfl
 pyHash:=λ hv h=>by
  rcases aT hv with ⟨i,t,rfl,rfl⟩|⟨x,t,rfl,rfl⟩
  ·exact wpAny_pyHash_int h
  ·exact wpAny_pyHash_str h
 eqBool:=λ hu hv h=>by
  rcases aT hu with ⟨i,t,rfl,rfl⟩|⟨x,t,rfl,rfl⟩
  ·rcases aT hv with ⟨j,u,rfl,rfl⟩|⟨y,u,rfl,rfl⟩
   ·rw [EK] at h;exact wpAny_eqBool_int h
   ·rw [EJ] at h;exact SeqAt.EqAt.int_str i t y u _ _ _ _ h
  ·rcases aT hv with ⟨j,u,rfl,rfl⟩|⟨y,u,rfl,rfl⟩
   ·rw [EI] at h;exact SeqAt.EqAt.str_int x t j u _ _ _ _ h
   ·rw [EH] at h;exact wpAny_eqBool_str h
 «strs»:=λ k x t v h=>by
  rcases aT h with ⟨i,u,rfl,e⟩|⟨y,u,rfl,e⟩
  ·exact nomatch e
  ·injection e with e1 _
   subst e1
   cases v<;>rfl
theorem nC(prog:Program)(w:World)(i:Int)(t:Tok):(bz prog w).is (.inl i) (.int i t)=true:=uE i t
theorem nz(prog:Program)(w:World)(x:Str)(t:Tok):(bz prog w).is (.inr x) (.str x t)=true:=uD x t
inductive V where
 | non|bl (b:Bool)|int (i:Int)|str (x:Str)|byt (b:Array UInt8)|flt (b:UInt64)|ref (a:Addr)|ty (n:String)
 deriving DecidableEq
def bG:V->Value->Prop
 | .non,u=>u=Value.none
 | .bl b,u=>u=Value.bool b
 | .int i,u=>∃ t,u=Value.int i t
 | .str x,u=>∃ t,u=Value.str x t
 | .byt b,u=>∃ t,u=Value.bytes b t
 | .flt b,u=>∃ t,u=Value.float b t
 | .ref a,u=>u=Value.ref a
 | .ty n,u=>u=Value.type n
abbrev bq:List V->List Value->Prop:=Paired bG
theorem bq.length{xs:List V}{us:List Value}(r:bq xs us):xs.length=us.length:=LG r
theorem bq.get:∀ {xs:List V}{us:List Value}{i:Nat}{x:V},bq xs us->xs[i]? = some x->∃ u,us[i]? = some u/\bG x u
 | _,_,_,_,.nil,e=>by simp at e
 | _,_,0,_,.cons r _,e=>by simp at e;subst e;exact⟨_,rfl,r⟩
 | _,_,i+1,x,.cons _ t,e=>by
  obtain⟨u,h1,h2⟩:=bq.get (i:=i) (x:=x) t (by simpa using e);exact⟨u,by simpa using h1,h2⟩
theorem bq.set{x:V}{u:Value}(r:bG x u):∀ {xs:List V}{us:List Value}(i:Nat),bq xs us->bq (xs.set i x) (us.set i u)
 | _,_,_,.nil=>.nil
 | _,_,0,.cons _ t=>.cons r t
 | _,_,i+1,.cons q t=>.cons q (bq.set r i t)
theorem bq.append:∀ {xs ys:List V}{us ws:List Value},bq xs us->bq ys ws->bq (xs++ys) (us++ws)
 | _,_,_,_,.nil,s=>s
 | _,_,_,_,.cons r t,s=>.cons r (bq.append t s)
theorem bq.take:∀ {xs:List V}{us:List Value}(n:Nat),bq xs us->bq (xs.take n) (us.take n)
 | _,_,0,_=>.nil
 | _,_,_+1,.nil=>.nil
 | _,_,n+1,.cons r t=>.cons r (bq.take n t)
theorem bq.drop:∀ {xs:List V}{us:List Value}(n:Nat),bq xs us->bq (xs.drop n) (us.drop n)
 | _,_,0,r=>r
 | _,_,_+1,.nil=>.nil
 | _,_,n+1,.cons _ t=>bq.drop n t
def kM:Option V->Option Value->Prop
 | some v,some u=>bG v u
 | none,none=>True
 | _,_=>False
def KV{κ:Type}:List (κ × V)->List (κ × Value)->Prop:=Paired λ (p:κ × V) (q:κ × Value)=>p.1=q.1/\bG p.2 q.2
def kV:Key->V
 | .inl i=>.int i
 | .inr x=>.str x
inductive HO where
 | lst (xs:List V)
 | tup (xs:List V)
 | dK (kvs:List (Key × V))|dT (kvs:List (List Key × V))
 | set (S:Int->Bool) (n:Nat)
 | ins (C dx:Addr) (fs:List (Str × V))
 | own (x:Addr)
 | xd (fs:List (Str × V))
 | met (f x:Addr)
 | rng (lo hi:Int)
 | frz (o:Obj) (u:HO)
 | tbl (ps:Array Value)
 | ext (φ:Heap->Prop)
abbrev Hp:=Addr->Option HO
def upd(H:Hp)(a:Addr)(o:HO):Hp:=λ b=>if b=a then some o else H b
theorem ag{H:Hp}{a:Addr}{o:HO}:upd H a o a=some o:=by unfold upd;rw [if_pos rfl]
theorem ah{H:Hp}{a b:Addr}{o:HO}(h:b ≠ a):upd H a o b=H b:=by unfold upd;rw [if_neg h]
theorem zw{H:Hp}{a:Addr}{o u:HO}:upd (upd H a o) a u=upd H a u:=by
 funext b;unfold upd;split<;>rfl
theorem Gu{H:Hp}{a b:Addr}{o u:HO}(h:H a=some o)(h':H b=some u)(d:o ≠ u):a ≠ b:=by
 intro e;subst e;rw [h] at h';exact d (JU h')
theorem bO{H:Hp}{a b:Addr}{o:HO}(h:H a=some o)(h':H b=none):a ≠ b:=by
 intro e;subst e;rw [h] at h';cases h'
section
variable (P:Program)(w:World)
def bK(H:Hp)(h:Heap)(a:Addr):HO->Prop
 | .lst xs=>xs.length<=sizeLine/\∃ (its:List Value) (n:Nat),bq xs its/\h.get? a=some { cls:=.type "list",data:=.seq its.toArray n }
 | .tup xs=>xs.length<=sizeLine/\∃ its:List Value,bq xs its/\IsTup h a its.toArray
 | .dK kvs=>kvs.length<=sizeLine/\(a == sysModules)=false/\∃ vs,KV kvs vs/\h.DictOf (bz P w) a vs
 | .dT kvs=>kvs.length<=sizeLine/\(a == sysModules)=false/\∃ xs:List (List Key × Addr × Value),
   Paired (λ (p:List Key × V) (q:List Key × Addr × Value)=>p.1=q.1/\H q.2.1=some (.tup (p.1.map kV))/\bG p.2 q.2.2) kvs xs /\
   ∃ o es ep,h.get? a=some o/\o.ExactDict/\o.data=.dict es ep/\es.toList=xs.map (entryOfKey (tupleKind (bz P w)))/\(xs.map (·.1)).Nodup
 | .set S n=>h.SetOf (intKind P w) a S n
 | .ins C dx fs=>H dx=some (.own a)/\fs.length<=1000/\dx ≠ a/\h.get? a=some (W.instObj C dx) /\
   ∃ mA,h.Ns1 dx mA/\(∀ f,kM (fs.lookup f) (mA f))/\PySem.Within mA (fs.map (·.1))
 | .own _=>∃ o,h.get? a=some o
 | .xd fs=>∃ mA,h.Ns1 a mA/\∀ f,kM (fs.lookup f) (mA f)
 | .rng lo hi=>∃ t u v,h.get? a=some { cls:=.type "range",data:=.fields #[.int lo t,.int hi u,.int 1 v] }
 | .frz o u=>h.get? a=some o/\bK H h a u
 | .tbl ps=>h.get? a=some { cls:=.none,data:=.fields ps }
 | .met f x=>h.get? a=some (W.methodObj (.ref f) (.ref x))
 | .ext φ=>φ h/\(∃ o,h.get? a=some o)/\∀ h1 h2:Heap,φ h1->(∀ o,h1.get? a=some o->h2.get? a=some o)->φ h2
def HOk(H:Hp)(h:Heap):Prop:=∀ a o,H a=some o->bK P w H h a o
end
section
variable {P:Program}{w:World}{H H':Hp}{h h':Heap}{a:Addr}{o:HO}
theorem bK.lt(x:bK P w H h a o):a < h.objs.size:=by
 cases o with
 | lst xs=>obtain⟨_,_,_,_,e⟩:=x;exact JF e
 | tup xs=>obtain⟨_,_,_,p⟩:=x;exact p.lt
 | dK kvs=>obtain⟨_,_,_,_,o,_,_,e,_⟩:=x;exact JF e
 | dT kvs=>obtain⟨_,_,_,_,o,_,_,e,_⟩:=x;exact JF e
 | set S n=>obtain⟨o,_,_,_,e,_⟩:=x;exact JF e
 | ins C dx fs=>obtain⟨_,_,_,e,_⟩:=x;exact JF e
 | own y=>obtain⟨_,e⟩:=x;exact JF e
 | xd fs=>obtain⟨_,⟨_,_,_,e,_⟩,_⟩:=x;exact JF e
 | rng lo hi=>obtain⟨_,_,_,e⟩:=x;exact JF e
 | frz ob u=>obtain⟨e,_⟩:=x;exact JF e
 | tbl ps=>exact JF (show h.get? a=some _ from x)
 | met f y=>exact JF (show h.get? a=some _ from x)
 | ext φ=>obtain⟨_,⟨_,e⟩,_⟩:=x;exact JF e
theorem Paired.mapP{α β:Type}{F G:α->β->Prop}:∀ {l₁:List α}{l₂:List β},Paired F l₁ l₂->(∀ a b,F a b->G a b)->Paired G l₁ l₂
 | _,_,.nil,_=>.nil
 | _,_,.cons r t,f=>.cons (f _ _ r) (Paired.mapP t f)
theorem bK.stay(x:bK P w H h a o)(k:∀ b u,(b=a\/H b=some (.own a))->h.get? b=some u->h'.get? b=some u)
  (ho:∀ b,H b=some (.own a)->H' b=some (.own a)) (ht:∀ b xs,H b=some (.tup xs)->H' b=some (.tup xs)):bK P w H' h' a o:=by
 induction o with
 | lst xs=>obtain⟨z,its,n,r,e⟩:=x;exact⟨z,its,n,r,k _ _ (.inl rfl) e⟩
 | tup xs=>obtain⟨z,its,r,ob,e,c⟩:=x;exact⟨z,its,r,ob,k _ _ (.inl rfl) e,c⟩
 | dK kvs=>obtain⟨z,y,vs,r,ob,es,ep,e,c⟩:=x;exact⟨z,y,vs,r,ob,es,ep,k _ _ (.inl rfl) e,c⟩
 | dT kvs=>
  obtain⟨z,y,xs,r,ob,es,ep,e,c⟩:=x;exact⟨z,y,xs,Paired.mapP r λ p q z=>⟨z.1,ht _ _ z.2.1,z.2.2⟩,ob,es,ep,k _ _ (.inl rfl) e,c⟩
 | set S n=>obtain⟨ob,es,ep,t,e,c⟩:=x;exact⟨ob,es,ep,t,k _ _ (.inl rfl) e,c⟩
 | ins C dx fs=>
  obtain⟨d,z,ne,e,mA,⟨od,es,ep,e2,c⟩,r⟩:=x;exact⟨ho _ d,z,ne,k _ _ (.inl rfl) e,mA,⟨od,es,ep,k _ _ (.inr d) e2,c⟩,r⟩
 | own y=>obtain⟨ob,e⟩:=x;exact⟨ob,k _ _ (.inl rfl) e⟩
 | xd fs=>obtain⟨mA,⟨od,es,ep,e,c⟩,r⟩:=x;exact⟨mA,⟨od,es,ep,k _ _ (.inl rfl) e,c⟩,r⟩
 | rng lo hi=>obtain⟨t,u,v,e⟩:=x;exact⟨t,u,v,k _ _ (.inl rfl) e⟩
 | frz ob u ih=>obtain⟨e,q⟩:=x;exact⟨k _ _ (.inl rfl) e,ih q⟩
 | tbl ps=>
  have e:h.get? a=some { cls:=.none,data:=.fields ps }:=x
  show h'.get? a=some { cls:=.none,data:=.fields ps }
  exact k a _ (.inl rfl) e
 | met f y=>
  have e:h.get? a=some (W.methodObj (.ref f) (.ref y)):=x
  show h'.get? a=some (W.methodObj (.ref f) (.ref y))
  exact k a _ (.inl rfl) e
 | ext φ=>obtain⟨p,⟨o,e⟩,st⟩:=x;exact⟨st _ _ p λ o q=>k _ _ (.inl rfl) q,⟨o,k _ _ (.inl rfl) e⟩,st⟩
theorem HOk.lt(x:HOk P w H h)(e:H a=some o):a < h.objs.size:=(x a o e).lt
theorem HOk.fresh(x:HOk P w H h)(e:h.objs.size<=a):H a=none:=by
 cases q:H a with
 | none=>rfl
 | some u=>exact absurd (JN (x.lt q) e) (K3 _)
theorem HOk.kept(x:HOk P w H h)(k:∀ b u,h.get? b=some u->h'.get? b=some u):HOk P w H h':=λ a o e=>
 (x a o e).stay (λ b u _ q=>k b u q) (λ _ q=>q) λ _ _ q=>q
theorem HOk.laid(x:HOk P w H h)(k:∀ b u,h.get? b=some u->h'.get? b=some u)(hp:h.objs.size<=a)(new:bK P w (upd H a o) h' a o):HOk P w (upd H a o) h':=λ b u e=>by
 have hn:=x.fresh hp
 by_cases hb:b=a
 ·subst hb;rw [ag] at e;cases e;exact new
 ·rw [ah hb] at e;exact(x b u e).stay (λ c v _ q=>k c v q) (λ c q=>by rw [ah (bO q hn)];exact q) λ c xs q=>by rw [ah (bO q hn)];exact q
end
def Rd(H:Hp)(a:Addr)(u:HO):Prop:=H a=some u\/∃ o,H a=some (.frz o u)
theorem Rd.ok{P:Program}{w:World}{H:Hp}{h:Heap}{a:Addr}{u:HO}(r:Rd H a u)(x:HOk P w H h):bK P w H h a u:=by
 rcases r with r|⟨o,r⟩
 ·exact x a u r
 ·obtain⟨_,q⟩:=x a _ r;exact q
def Mut:Option HO->Prop
 | some (.lst _)=>True
 | some (.dK _)=>True
 | some (.dT _)=>True
 | some (.set _ _)=>True
 | some (.ins _ _ _)=>True
 | some (.ext _)=>True
 | _=>False
section
variable {P:Program}{w:World}{H:Hp}{h h':Heap}{x e:Addr}{o':HO}
theorem HOk.write(ok:HOk P w H h)(mu:Mut (H x))(he:e=x\/H e=some (.own x))(k:∀ b u,b ≠ e->h.get? b=some u->h'.get? b=some u)(heo:∃ u,h'.get? e=some u)
  (new:bK P w (upd H x o') h' x o'):HOk P w (upd H x o') h':=λ b u q=>by
 have nown:∀ c y,H c=some (.own y)->c ≠ x:=λ c y r z=>by subst z;rw [r] at mu;exact mu
 have ntup:∀ c xs,H c=some (.tup xs)->c ≠ x:=λ c xs r z=>by subst z;rw [r] at mu;exact mu
 by_cases hb:b=x
 ·subst hb;rw [ag] at q;cases q;exact new
 ·rw [ah hb] at q
  by_cases hbe:b=e
  ·have q':H b=some (.own x):=by
    rcases he with z|z
    ·exact absurd (hbe.trans z) hb
    ·rw [hbe];exact z
   rw [q] at q';cases q';obtain⟨v,hv⟩:=heo;exact⟨v,by rw [hbe];exact hv⟩
  ·refine(ok b u q).stay (λ c v hc r=>k c v ?_ r) (λ c r=>by rw [ah (nown c b r)];exact r) λ c xs r=>by rw [ah (ntup c xs r)];exact r
   rcases hc with rfl|hc
   ·exact hbe
   ·rintro rfl
    rcases he with z|z
    ·exact nown c b hc z
    ·rw [hc] at z;cases z;exact hb rfl
end
structure Un(fs ex:List Addr)(H H':Hp)(h h':Heap):Prop where
 keep:∀ b o,h.get? b=some o->H b=none->b ∉ fs->b ∉ ex->h'.get? b=some o
 slot:∀ b o,h.get? b=some o->H b=none->b∈fs->b ∉ ex->∃ sl,h'.get? b=some { o with slots:=sl }
 free:∀ b o,h.get? b=some o->H b=none->b ∉ ex->H' b=none
 there:∀ b o,h.get? b=some o->b ∉ ex->∃ o',h'.get? b=some o'
 tups:∀ b xs,H b=some (.tup xs)->H' b=some (.tup xs)
 frzs:∀ b o u,H b=some (.frz o u)->H' b=some (.frz o u)
 tbls:∀ b ps,H b=some (.tbl ps)->∃ more,H' b=some (.tbl (ps++more))
section
variable {fs fs' ex ex':List Addr}{H H1 H2:Hp}{h h1 h2 h':Heap}{a x e:Addr}{o:HO}
theorem Un.any(u:Un fs ex H H1 h h1){b:Addr}{ob:Obj}(q:h.get? b=some ob)(n:H b=none)(hx:b ∉ ex):∃ sl,h1.get? b=some { ob with slots:=sl }:=by
 by_cases hb:b∈fs
 ·exact u.slot b ob q n hb hx
 ·exact⟨ob.slots,u.keep b ob q n hb hx⟩
theorem Un.trans(a:Un fs ex H H1 h h1)(b:Un fs ex H1 H2 h1 h2):Un fs ex H H2 h h2 where
 keep:=λ c ob q n hc hx=>b.keep c ob (a.keep c ob q n hc hx) (a.free c ob q n hx) hc hx
 slot:=λ c ob q n hc hx=>by
  obtain⟨sl,e1⟩:=a.slot c ob q n hc hx;obtain⟨sl',e2⟩:=b.slot c _ e1 (a.free c ob q n hx) hc hx;exact⟨sl',e2⟩
 free:=λ c ob q n hx=>by
  obtain⟨o',e1⟩:=a.there c ob q hx;exact b.free c o' e1 (a.free c ob q n hx) hx
 there:=λ c ob q hx=>by
  obtain⟨o',e1⟩:=a.there c ob q hx;exact b.there c o' e1 hx
 tups:=λ c xs q=>b.tups c xs (a.tups c xs q)
 frzs:=λ c ob xs q=>b.frzs c ob xs (a.frzs c ob xs q)
 tbls:=λ c ps q=>by
  obtain⟨m1,e1⟩:=a.tbls c ps q;obtain⟨m2,e2⟩:=b.tbls c _ e1;exact⟨m1++m2,by rw [e2,Array.append_assoc]⟩
theorem Un.kept(k:∀ b u,h.get? b=some u->h'.get? b=some u):Un fs ex H H h h':=
 ⟨λ b ob q _ _ _=>k b ob q,λ b ob q _ _ _=>⟨ob.slots,k b ob q⟩,λ _ _ _ n _=>n,λ b ob q _=>⟨ob,k b ob q⟩,λ _ _ q=>q,λ _ _ _ q=>q,λ _ ps q=>⟨#[],by rw [q];simp⟩⟩
theorem Un.refl:Un fs ex H H h h:=Un.kept λ _ _ q=>q
theorem Un.laid(k:∀ b u,h.get? b=some u->h'.get? b=some u)(hp:h.objs.size<=a)(hn:H a=none):Un fs ex H (upd H a o) h h' where
 keep:=λ b u q _ _ _=>k b u q
 slot:=λ b u q _ _ _=>⟨u.slots,k b u q⟩
 free:=λ b u q n _=>by rw [ah (JR (JN (JF q) hp))];exact n
 there:=λ b u q _=>⟨u,k b u q⟩
 tups:=λ b xs q=>by rw [ah (bO q hn)];exact q
 frzs:=λ b u xs q=>by rw [ah (bO q hn)];exact q
 tbls:=λ b ps q=>⟨#[],by rw [ah (bO q hn),q];simp⟩
theorem Un.write(mu:Mut (H x))(he:e=x\/H e=some (.own x))(k:∀ b u,b ≠ e->h.get? b=some u->h'.get? b=some u)(heo:∃ u,h'.get? e=some u):Un fs ex H (upd H x o) h h':=by
 have hx:∀ b,H b=none->b ≠ x:=λ b n z=>by subst z;rw [n] at mu;exact mu
 have hb:∀ b,H b=none->b ≠ e:=λ b n z=>by
  subst z
  rcases he with r|r
  ·exact hx b n r
  ·rw [n] at r;cases r
 have hm:∀ b u,H b=some u->¬ Mut (some u)->b ≠ x:=λ b u q nm z=>by subst z;rw [q] at mu;exact nm mu
 refine⟨λ b u q n _ _=>k b u (hb b n) q,λ b u q n _ _=>⟨u.slots,k b u (hb b n) q⟩,λ b u q n _=>by rw [ah (hx b n)];exact n,λ b u q _=>?_,
  λ b xs q=>by rw [ah (hm b _ q λ z=>z)];exact q,λ b u xs q=>by rw [ah (hm b _ q λ z=>z)];exact q,λ b ps q=>⟨#[],by rw [ah (hm b _ q λ z=>z),q];simp⟩⟩
 by_cases hbe:b=e
 ·subst hbe;exact heo
 ·exact⟨u,k b u hbe q⟩
end
def trk(h:Heap)(H:Hp):List Addr:=(List.range h.objs.size).filter λ a=>(H a).isSome
def vm(h:Heap)(H:Hp):Heap:=W.hideAll h (trk h H)
theorem uH(h:Heap)(H:Hp):(vm h H).objs.size=h.objs.size:=W.hideAll_size _ _
theorem xr{h:Heap}{H:Hp}{b:Addr}{o:Obj}(e:h.get? b=some o)(n:H b=none):(vm h H).get? b=some o:=
 W.hideAll_get _ e λ hm=>by
  have q:(H b).isSome=true:=(K0.mp hm).2;rw [n] at q;simp at q
theorem Ae{h:Heap}{H:Hp}{b:Addr}{o:Obj}(e:(vm h H).get? b=some o):h.get? b=some o/\H b=none:=by
 have e':h.get? b=some o:=W.of_hideAll (trk h H) e;refine⟨e',?_⟩
 cases q:H b with
 | none=>rfl
 | some x=>
  have hm:b∈trk h H:=K0.mpr ⟨Kt.mpr (JF e'),by simp [q]⟩;have z:(vm h H).get? b=none:=W.hideAll_none (trk h H) hm;rw [z] at e;cases e
def BD(g h:Heap)(L:Addr):List (Addr × Obj):=(List.range h.objs.size).filterMap λ a=>if a=L\/(g.get? a).isSome=true then none else (h.get? a).map λ o=>(a,o)
def rest(g h:Heap)(L d:Addr):List (Addr × Obj):=(BD g h L).filter λ p=>decide (p.1 ≠ d)
structure Mod(K:W.Frag)(mg:Str->Option Value)(base:Heap):Prop where
 kin:K.In base
 glob:base.Ns mainGlobals mg
 blt:∃ mb,base.Ns builtinsNs mb/\∀ x:Str,x ≠ "__name__" → mb x=bootBuiltins x
 nolimit:base.NoLimit
structure Cx where
 prog:Program
 w:World
 K:W.Frag
 mg:Str->Option Value
 base:Heap
 A:Around
 N:List Str
 s₀:Shared
 H₀:Hp
 env:Env
 outer:List Env
 stack:List Env
 ex:List Addr
 fn:Str->Bool
 calm:Bool
 pn:List (Addr × Obj)
 xe:Value->Shared->Prop
def frs(l:List Env):List Addr:=l.filterMap (·.frame)
abbrev Cx.fs(X:Cx):List Addr:=frs X.outer
def Vis(sc:Scope)(x:Str):Prop:=sc.names.lookup x=some .local\/sc.names.lookup x=some .cell\/sc.names.lookup x=some .free
def Loc(sc:Scope)(x:Str):Prop:=sc.names.lookup x=some .local\/sc.names.lookup x=some .cell
def Jm(env:Env)(h:Heap)(m:Str->Option Value)(x:Str)(u:Value):Prop:=
 (env.kindOf x=some .local/\m x=some u)\/((env.kindOf x=some .cell\/env.kindOf x=some .free)/\∃ c,env.cells.lookup x=some c/\h.IsCell c (some u))
structure Cx.Ok(X:Cx):Prop where
 mod:Mod X.K X.mg X.base
 kind:X.env.scope.kind=.function
 glob:X.env.globals=mainGlobals
 blt:X.env.builtins=builtinsNs
 above:X.s₀.heap.objs.size<=X.env.locals
 inj:∀ x y c,X.env.cells.lookup x=some c->X.env.cells.lookup y=some c->x=y
 has:∀ x,(X.env.kindOf x=some .cell\/X.env.kindOf x=some .free)->∃ c,X.env.cells.lookup x=some c
 cab:∀ x c,X.fn x=true->X.env.cells.lookup x=some c->X.s₀.heap.objs.size<=c
 hd:X.calm=true->X.A.handled=none
 frames:X.A.frames=some X.stack
 stk:X.stack=X.outer\/(X.stack=X.env::X.outer/\X.env.frame=some X.env.locals)
 exf:∀ b∈X.ex,b ≠ X.env.locals/\∀ x c,X.env.cells.lookup x=some c->c ≠ b
 bs:∀ b o,X.base.get? b=some o->X.s₀.heap.get? b=some o/\X.H₀ b=none
 bsz:X.base.objs.size<=X.s₀.heap.objs.size
 noex:∀ b o,X.base.get? b=some o->b ∉ X.ex
 exfs:∀ b∈X.ex,b ∉ X.fs
 funs:X.s₀.heap.FunFrames X.base X.outer
 frf:∀ b∈X.fs,X.H₀ b=none
structure Inv(X:Cx)(pins:List (Addr × Obj))(σ:List (Option V))(H:Hp)(s:Shared):Prop where
 ok:X.Ok
 os:s.os=X.s₀.os
 bare:AllBare s.gens
 base:Un X.fs X.ex X.H₀ H X.s₀.heap s.heap
 loc:∃ m,s.heap.Ns X.env.locals m/\∀ (i:Nat) (x:Str) (v:V),X.N[i]? = some x->σ[i]? = some (some v)->Vis X.env.scope x->∃ u,bG v u/\Jm X.env s.heap m x u
 cell:∀ x c,X.env.cells.lookup x=some c->∃ v,s.heap.IsCell c v
 free:H X.env.locals=none
 freeC:∀ x c,X.env.cells.lookup x=some c->H c=none
 pin:∀ p∈X.pn++pins,s.heap.get? p.1=some p.2/\H p.1=none/\p.1 ≠ X.env.locals/\p.1 ∉ X.fs/\∀ v,p.2.data ≠ .cell v
 hok:HOk X.prog X.w H s.heap
 len:σ.length=X.N.length
section
variable {X:Cx}{pins:List (Addr × Obj)}{σ:List (Option V)}{H H':Hp}{s:Shared}{h':Heap}
theorem Cx.Ok.nofr(ok:X.Ok){b:Addr}{o:Obj}(e:X.base.get? b=some o):b ∉ X.fs:=λ hb=>by
 have:=(ok.funs.mem hb).1;rw [e] at this;cases this
theorem Inv.bs(I:Inv X pins σ H s):∀ b o,X.base.get? b=some o->s.heap.get? b=some o/\H b=none:=λ b o e=>
 ⟨I.base.keep b o (I.ok.bs b o e).1 (I.ok.bs b o e).2 (I.ok.nofr e) (I.ok.noex b o e),I.base.free b o (I.ok.bs b o e).1 (I.ok.bs b o e).2 (I.ok.noex b o e)⟩
theorem Inv.bk(I:Inv X pins σ H s):∀ b o,X.base.get? b=some o->s.heap.get? b=some o:=λ b o e=>(I.bs b o e).1
theorem Inv.mod(I:Inv X pins σ H s):Mod X.K X.mg X.base:=I.ok.mod
theorem Inv.kIn(I:Inv X pins σ H s):X.K.In s.heap:=I.ok.mod.kin.keeps I.bk
theorem Inv.lt(I:Inv X pins σ H s):X.env.locals < s.heap.objs.size:=let ⟨_,hn,_⟩:=I.loc;hn.lt
theorem Inv.sz(I:Inv X pins σ H s):X.s₀.heap.objs.size<=s.heap.objs.size:=JT I.ok.above (LC I.lt)
theorem Inv.nofs(I:Inv X pins σ H s){a:Addr}(h:s.heap.objs.size<=a):a ∉ X.fs:=λ hb=>by
 obtain⟨_,o,ho,_⟩:=I.ok.funs.mem hb;exact absurd (JN (JF ho) (JT I.sz h)) (K3 _)
theorem Inv.cne(I:Inv X pins σ H s):∀ x c,X.env.cells.lookup x=some c->c ≠ X.env.locals:=λ x c e z=>by
 obtain⟨v,o,ho,hd⟩:=I.cell x c e;obtain⟨m,⟨o',es,ep,ho',hd',_⟩,_⟩:=I.loc;rw [z,ho'] at ho;cases ho;rw [hd'] at hd;cases hd
theorem Inv.funs(I:Inv X pins σ H s):s.heap.FunFrames X.base X.outer:=by
 have all:∀ (l:List Env),(∀ b∈frs l,b∈X.fs)->X.s₀.heap.FunFrames X.base l->s.heap.FunFrames X.base l:=by
  intro l
  induction l with
  | nil=>intro _ _;trivial
  | cons env r ih=>
   intro hs hl;obtain⟨hk,⟨L,o,hf,hn,ho,hd⟩,hr⟩:=hl;have hL:L∈X.fs:=hs L (by unfold frs;rw [List.filterMap_cons,hf];exact mem_cons_self);obtain⟨sl,e⟩:=I.base.slot L o ho (I.ok.frf L hL) hL λ z=>I.ok.exfs L z hL;exact⟨hk,⟨L,_,hf,hn,e,hd⟩,ih (λ b hb=>hs b (by unfold frs;rw [List.filterMap_cons,hf];exact mem_cons_of_mem _ hb)) hr⟩
 exact all X.outer (λ _ hb=>hb) I.ok.funs
theorem Inv.stack(I:Inv X pins σ H s):s.heap.FunFrames X.base X.stack:=by
 rcases I.ok.stk with e|⟨e,hf⟩
 ·rw [e];exact I.funs
 ·rw [e];obtain⟨m,hn,_⟩:=I.loc;refine .cons (by rw [I.ok.kind];decide) hf hn ?_ I.funs;exact Lh (JT I.ok.bsz I.ok.above)
theorem Inv.stkSub(I:Inv X pins σ H s):∀ b∈frs X.stack,b∈X.env.locals::X.fs:=λ b hb=>by
 rcases I.ok.stk with e|⟨e,hf⟩
 ·rw [e] at hb;exact JG _ hb
 ·rw [e] at hb;unfold frs at hb;rw [List.filterMap_cons,hf] at hb;exact hb
theorem Inv.stkFree(I:Inv X pins σ H s):∀ b∈frs X.stack,H b=none:=λ b hb=>by
 rcases J2.mp (I.stkSub b hb) with e|hb
 ·rw [e];exact I.free
 ·obtain⟨_,o,ho,_⟩:=I.ok.funs.mem hb;exact I.base.free b o ho (I.ok.frf b hb) λ z=>I.ok.exfs b z hb
theorem Inv.step{g':Array GenState}{t':Nat}{d':Drawn}{ch:List Addr}(I:Inv X pins σ H s)
  (hch:∀ b∈ch,(b∈X.ex\/X.s₀.heap.objs.size<=b)/\b ≠ X.env.locals/\(∀ x c,X.env.cells.lookup x=some c->c ≠ b)/\∀ p∈X.pn++pins,p.1 ≠ b)
  (keep:∀ b o,b ≠ X.env.locals->b ∉ X.fs->b ∉ ch->s.heap.get? b=some o->H b=none->h'.get? b=some o)
  (slot:∀ b o,b ≠ X.env.locals->b∈X.fs->b ∉ ch->s.heap.get? b=some o->H b=none->∃ sl,h'.get? b=some { o with slots:=sl }) (free:∀ b o,b ∉ ch->s.heap.get? b=some o->H b=none->H' b=none)
  (there:∀ b o,b ∉ ch->s.heap.get? b=some o->∃ o',h'.get? b=some o')
  (tups:∀ b xs,H b=some (.tup xs)->H' b=some (.tup xs)) (frzs:∀ b o u,H b=some (.frz o u)->H' b=some (.frz o u)) (tbls:∀ b ps,H b=some (.tbl ps)->∃ more,H' b=some (.tbl (ps++more)))
  (ns:∀ m,s.heap.Ns X.env.locals m->h'.Ns X.env.locals m) (hok:HOk X.prog X.w H' h') (hg:AllBare g') :
  Inv X pins σ H' { s with heap:=h',gens:=g',drawn:=d',toks:=t' }:=by
 have neL:∀ b o,X.s₀.heap.get? b=some o->b ≠ X.env.locals:=λ b o e=>JR (JN (JF e) I.ok.above)
 have neC:∀ b o,X.s₀.heap.get? b=some o->b ∉ X.ex->b ∉ ch:=λ b o e hx hb=>by
  rcases (hch b hb).1 with z|z
  ·exact hx z
  ·exact absurd (JN (JF e) z) (K3 _)
 have cellK:∀ x c,X.env.cells.lookup x=some c->∀ v,s.heap.IsCell c v->h'.IsCell c v:=λ x c e v ⟨o,ho,hd⟩=>by
  have nch:c ∉ ch:=λ z=>(hch c z).2.2.1 x c e rfl
  by_cases hc:c∈X.fs
  ·obtain⟨sl,q⟩:=slot c o (I.cne x c e) hc nch ho (I.freeC x c e);exact⟨_,q,hd⟩
  ·exact⟨o,keep c o (I.cne x c e) hc nch ho (I.freeC x c e),hd⟩
 refine⟨I.ok,I.os,hg,⟨λ b o e n hb hx=>?_,λ b o e n hb hx=>?_,λ b o e n hx=>?_,λ b o e hx=>?_,λ b xs e=>tups b xs (I.base.tups b xs e),λ b o xs e=>frzs b o xs (I.base.frzs b o xs e),λ b ps e=>?_⟩,?_,λ x c e=>?_,?_,λ x c e=>?_,λ p hp=>?_,hok,I.len⟩
 ·exact keep b o (neL b o e) hb (neC b o e hx) (I.base.keep b o e n hb hx) (I.base.free b o e n hx)
 ·obtain⟨sl,e1⟩:=I.base.slot b o e n hb hx;obtain⟨sl',e2⟩:=slot b _ (neL b o e) hb (neC b o e hx) e1 (I.base.free b o e n hx);exact⟨sl',e2⟩
 ·obtain⟨o',e1⟩:=I.base.there b o e hx;exact free b o' (neC b o e hx) e1 (I.base.free b o e n hx)
 ·obtain⟨o',e1⟩:=I.base.there b o e hx;exact there b o' (neC b o e hx) e1
 ·obtain⟨m1,e1⟩:=I.base.tbls b ps e;obtain⟨m2,e2⟩:=tbls b _ e1;exact⟨m1++m2,by rw [e2,Array.append_assoc]⟩
 ·obtain⟨m,hn,hl⟩:=I.loc;refine⟨m,ns m hn,λ i x v e1 e2 e3=>?_⟩;obtain⟨u,r,l⟩:=hl i x v e1 e2 e3;refine⟨u,r,?_⟩
  rcases l with l|⟨k,c,e,z⟩
  ·exact .inl l
  ·exact .inr ⟨k,c,e,cellK x c e _ z⟩
 ·obtain⟨v,z⟩:=I.cell x c e;exact⟨v,cellK x c e v z⟩
 ·obtain⟨m,⟨o,_,_,ho,_⟩,_⟩:=I.loc;exact free _ o (λ z=>(hch _ z).2.1 rfl) ho I.free
 ·obtain⟨v,o,ho,hd⟩:=I.cell x c e;exact free c o (λ z=>(hch c z).2.2.1 x c e rfl) ho (I.freeC x c e)
 ·obtain⟨e,n,ne,nf,d⟩:=I.pin p hp;have nch:p.1 ∉ ch:=λ z=>(hch p.1 z).2.2.2 p hp rfl;exact⟨keep p.1 p.2 ne nf nch e n,free p.1 p.2 nch e n,ne,nf,d⟩
theorem Inv.un{t':Nat}(I:Inv X pins σ H s)(u:Un X.fs [] H H' s.heap h')(hok:HOk X.prog X.w H' h'):Inv X pins σ H' { s with heap:=h',toks:=t' }:=by
 obtain⟨m,⟨o,es,ep,ho,r⟩,_⟩:=id I.loc;obtain⟨sl,hL⟩:=u.any ho I.free (by simp)
 exact I.step (g':=s.gens) (d':=s.drawn) (ch:=[]) (λ _ z=>nomatch z) (λ b o _ hb _ e n=>u.keep b o e n hb (by simp)) (λ b o _ hb _ e n=>u.slot b o e n hb (by simp)) (λ b o _ e n=>u.free b o e n (by simp)) (λ b o _ e=>u.there b o e (by simp)) u.tups u.frzs u.tbls (λ m' hm=>by
  obtain⟨o',es',ep',ho',r'⟩:=hm;rw [ho] at ho';cases ho';exact⟨_,es',ep',hL,r'⟩) hok I.bare
theorem Inv.call{g':Array GenState}{t':Nat}{d':Drawn}{ch:List Addr}(I:Inv X pins σ H s)(u:Un (frs X.stack) ch H H' s.heap h')(hok:HOk X.prog X.w H' h')(hg:AllBare g')
  (hch:∀ b∈ch,(b∈X.ex\/X.s₀.heap.objs.size<=b)/\b ≠ X.env.locals/\(∀ x c,X.env.cells.lookup x=some c->c ≠ b)/\∀ p∈X.pn++pins,p.1 ≠ b) :
  Inv X pins σ H' { s with heap:=h',gens:=g',drawn:=d',toks:=t' }:=by
 obtain⟨m,⟨o,es,ep,ho,r⟩,_⟩:=id I.loc;obtain⟨sl,hL⟩:=u.any ho I.free λ z=>(hch _ z).2.1 rfl
 exact I.step (ch:=ch) hch (λ b o hL hb hc e n=>u.keep b o e n (λ z=>(J2.mp (I.stkSub b z)).elim hL hb) hc) (λ b o _ _ hc e n=>u.any e n hc) (λ b o hc e n=>u.free b o e n hc) (λ b o hc e=>u.there b o e hc) u.tups u.frzs u.tbls (λ m' hm=>by
  obtain⟨o',es',ep',ho',r'⟩:=hm;rw [ho] at ho';cases ho';exact⟨_,es',ep',hL,r'⟩) hok hg
theorem Inv.turned{t':Nat}{it:Addr}(I:Inv X pins σ H s)(k:∀ b o,b ≠ it->s.heap.get? b=some o->h'.get? b=some o)(hn:H it=none)(hL:it ≠ X.env.locals)
  (h1:it∈X.ex\/X.s₀.heap.objs.size<=it) (h2:∀ x c,X.env.cells.lookup x=some c->c ≠ it) (h3:∀ p∈X.pn++pins,p.1 ≠ it):Inv X pins σ H { s with heap:=h',toks:=t' }:=by
 have nit:∀ b u,H b=some u->b ≠ it:=λ b u e z=>by rw [z,hn] at e;cases e
 refine I.step (g':=s.gens) (d':=s.drawn) (ch:=[it]) (λ b hb=>?_) (λ b o _ _ hc e _=>k b o (λ z=>hc (by simp [z])) e) (λ b o _ _ hc e _=>⟨o.slots,k b o (λ z=>hc (by simp [z])) e⟩) (λ _ _ _ _ n=>n)
  (λ b o hc e=>⟨o,k b o (λ z=>hc (by simp [z])) e⟩) (λ _ _ e=>e) (λ _ _ _ e=>e) (λ b ps e=>⟨#[],by rw [e];simp⟩) (λ m hm=>?_) (λ b u e=>?_) I.bare
 ·have e:b=it:=by simpa using hb
  subst e;exact⟨h1,hL,h2,h3⟩
 ·obtain⟨o,es,ep,ho,r⟩:=hm;exact⟨o,es,ep,k _ o (J6 hL) ho,r⟩
 ·refine(I.hok b u e).stay (λ c v hc q=>k c v ?_ q) (λ _ q=>q) λ _ _ q=>q
  rcases hc with z|z
  ·rw [z];exact nit b u e
  ·exact nit c _ z
theorem Inv.tok(I:Inv X pins σ H s)(t:Nat):Inv X pins σ H { s with toks:=t }:=I.un (h':=s.heap) (t':=t) Un.refl I.hok
theorem Inv.kept{t':Nat}(I:Inv X pins σ H s)(k:∀ b u,s.heap.get? b=some u->h'.get? b=some u):Inv X pins σ H { s with heap:=h',toks:=t' }:=I.un (Un.kept k) (I.hok.kept k)
theorem Inv.laid{a:Addr}{o:HO}{t':Nat}(I:Inv X pins σ H s)(k:∀ b u,s.heap.get? b=some u->h'.get? b=some u)(hp:s.heap.objs.size<=a)(new:bK X.prog X.w (upd H a o) h' a o) :
  Inv X pins σ (upd H a o) { s with heap:=h',toks:=t' }:=I.un (Un.laid k hp (I.hok.fresh hp)) (I.hok.laid k hp new)
theorem Inv.write{x e:Addr}{o:HO}{t':Nat}(I:Inv X pins σ H s)(mu:Mut (H x))(he:e=x\/H e=some (.own x))(k:∀ b u,b ≠ e->s.heap.get? b=some u->h'.get? b=some u)(heo:∃ u,h'.get? e=some u)
  (new:bK X.prog X.w (upd H x o) h' x o):Inv X pins σ (upd H x o) { s with heap:=h',toks:=t' }:=I.un (Un.write mu he k heo) (I.hok.write mu he k heo new)
theorem Inv.weak{σ':List (Option V)}(I:Inv X pins σ H s)(hl:σ'.length=σ.length)(w:∀ (i:Nat) v,σ'[i]? = some (some v)->σ[i]? = some (some v)):Inv X pins σ' H s:=
 ⟨I.ok,I.os,I.bare,I.base,let ⟨m,hn,hl'⟩:=I.loc;⟨m,hn,λ i x v e1 e2 e3=>hl' i x v e1 (w i v e2) e3⟩,I.cell,I.free,I.freeC,I.pin,I.hok,hl.trans I.len⟩
theorem Inv.pins_of{pins':List (Addr × Obj)}(I:Inv X pins σ H s)(h:∀ p∈pins',s.heap.get? p.1=some p.2/\H p.1=none/\p.1 ≠ X.env.locals/\p.1 ∉ X.fs/\∀ v,p.2.data ≠ .cell v):Inv X pins' σ H s:=
 ⟨I.ok,I.os,I.bare,I.base,I.loc,I.cell,I.free,I.freeC,λ p hp=>(J1.mp hp).elim (λ z=>I.pin p (KD _ z)) (h p),I.hok,I.len⟩
theorem jZ{N:List Str}(hN:N.Nodup){i j:Nat}{x:Str}(a:N[i]? = some x)(b:N[j]? = some x):i=j:=by
 obtain⟨h1,e1⟩:=JC.mp a;obtain⟨h2,e2⟩:=JC.mp b;exact(List.getElem_inj hN).mp (e1.trans e2.symm)
theorem lj{M:Model}{A:Around}{E:Value->Shared->Prop}{i:Nat}{x:Str}{v:V}{u:Value}{Q:Unit->Shared->Prop}(I:Inv X pins σ H s)(hN:X.N.Nodup)(hi:X.N[i]? = some x)(hx:Loc X.env.scope x)(r:bG v u)
  (h:∀ s',Inv X pins (σ.set i (some v)) H s'->(∃ a,Heap.SameBut a s.heap s'.heap/\(a=X.env.locals\/X.env.cells.lookup x=some a))->Q () s') (hf:X.fn x=true\/X.env.scope.names.lookup x=some .local:=by first|exact .inl rfl|exact .inr rfl|assumption):wpAny M A (storeName X.env x u) Q E s:=by
 obtain⟨m,hn,hl⟩:=id I.loc;have hcls:(X.env.scope.kind == .class || (X.env.scope.kind == .module && X.env.locals != X.env.globals))=false:=by rw [I.ok.kind];rfl
 have hiσ:i < σ.length:=by rw [I.len];exact(JC.mp hi).1
 have cne:=I.cne
 have tracked:∀ {a:Addr} {h':Heap},(∃ o,s.heap.get? a=some o/\H a=none)->Heap.SameBut a s.heap h'->HOk X.prog X.w H h':=λ {a h'} ha hs b ob e=>by
  obtain⟨_,_,hfree⟩:=ha;refine(I.hok b ob e).stay (λ c w' hc q=>(hs.2 c ?_).trans q) (λ _ q=>q) λ _ _ q=>q;rintro rfl
  rcases hc with rfl|hc
  ·rw [hfree] at e;cases e
  ·rw [hfree] at hc;cases hc
 rcases hx with hk|hk
 ·refine wpAny_storeName_local hk hn (λ h' hn' hs=>?_) hcls;obtain⟨oL,_,_,hoL,_⟩:=id hn;refine h _ ⟨I.ok,I.os,I.bare,⟨λ b o e n hb hx=>?_,λ b o e n hb hx=>?_,I.base.free,λ b o e hx=>?_,I.base.tups,I.base.frzs,I.base.tbls⟩,⟨_,hn',λ j y v' e1 e2 e3=>?_⟩,λ y c e=>?_,I.free,I.freeC,λ p hp=>?_,tracked ⟨oL,hoL,I.free⟩ hs,by simpa using I.len⟩ ⟨_,hs,.inl rfl⟩
  ·exact(hs.2 b (JR (JN (JF e) I.ok.above))).trans (I.base.keep b o e n hb hx)
  ·obtain⟨sl,e1⟩:=I.base.slot b o e n hb hx;exact⟨sl,(hs.2 b (JR (JN (JF e) I.ok.above))).trans e1⟩
  ·obtain⟨o',e1⟩:=I.base.there b o e hx;exact⟨o',(hs.2 b (JR (JN (JF e) I.ok.above))).trans e1⟩
  ·by_cases hj:j=i
   ·subst hj;rw [hi] at e1;cases e1;rw [LU hiσ] at e2;cases e2;exact⟨u,r,.inl ⟨hk,by simp⟩⟩
   ·rw [L7 (J6 hj)] at e2;obtain⟨u',r',q⟩:=hl j y v' e1 e2 e3;refine⟨u',r',?_⟩
    rcases q with ⟨k,e⟩|⟨k,c,e,z⟩
    ·refine .inl ⟨k,?_⟩;have:y ≠ x:=λ e=>hj (jZ hN e1 (e ▸ hi));simp [this,e]
    ·exact .inr ⟨k,c,e,z.sameBut hs (cne y c e)⟩
  ·obtain⟨w',z⟩:=I.cell y c e;exact⟨w',z.sameBut hs (cne y c e)⟩
  ·obtain⟨e,n,ne,nf,d⟩:=I.pin p hp;exact⟨(hs.2 p.1 ne).trans e,n,ne,nf,d⟩
 ·have hfn:X.fn x=true:=by
   rcases hf with z|z
   ·exact z
   ·rw [z] at hk;cases hk
  obtain⟨c,hc⟩:=I.ok.has x (.inl hk);obtain⟨w',z⟩:=I.cell x c hc;refine wpAny_storeName_cell I.ok.kind hk hc z (λ h' hc' hs=>?_);obtain⟨oc,hoc,hocd⟩:=id z;refine h { s with heap:=h' } ⟨I.ok,I.os,I.bare,⟨λ b o e n hb hx=>?_,λ b o e n hb hx=>?_,I.base.free,λ b o e hx=>?_,I.base.tups,I.base.frzs,I.base.tbls⟩,⟨m,hn.sameBut hs (J6 (cne x c hc)),λ j y v' e1 e2 e3=>?_⟩,λ y c' e=>?_,I.free,I.freeC,λ p hp=>?_,tracked ⟨oc,hoc,I.freeC x c hc⟩ hs,by simpa using I.len⟩ ⟨c,hs,.inr hc⟩
  ·exact(hs.2 b (JR (JN (JF e) (I.ok.cab x c hfn hc)))).trans (I.base.keep b o e n hb hx)
  ·obtain⟨sl,e1⟩:=I.base.slot b o e n hb hx;exact⟨sl,(hs.2 b (JR (JN (JF e) (I.ok.cab x c hfn hc)))).trans e1⟩
  ·obtain⟨o',e1⟩:=I.base.there b o e hx;exact⟨o',(hs.2 b (JR (JN (JF e) (I.ok.cab x c hfn hc)))).trans e1⟩
  ·by_cases hj:j=i
   ·subst hj;rw [hi] at e1;cases e1;rw [LU hiσ] at e2;cases e2;exact⟨u,r,.inr ⟨.inl hk,c,hc,hc'⟩⟩
   ·rw [L7 (J6 hj)] at e2;obtain⟨u',r',q⟩:=hl j y v' e1 e2 e3;refine⟨u',r',?_⟩
    rcases q with q|⟨k,c',e,z'⟩
    ·exact .inl q
    ·refine .inr ⟨k,c',e,z'.sameBut hs ?_⟩;rintro rfl;exact hj (jZ hN e1 (I.ok.inj _ _ _ e hc ▸ hi))
  ·by_cases hcc:c'=c
   ·subst hcc;exact⟨_,hc'⟩
   ·obtain⟨w2,z2⟩:=I.cell y c' e;exact⟨w2,z2.sameBut hs hcc⟩
  ·obtain⟨e,n,ne,nf,d⟩:=I.pin p hp;refine⟨(hs.2 p.1 ?_).trans e,n,ne,nf,d⟩;intro q;rw [q,hoc] at e;have q':oc=p.2:=JU e;exact d w' (by rw [←q'];exact hocd)
theorem fm{M:Model}{A:Around}{E:Value->Shared->Prop}{i:Nat}{x:Str}{v:V}{u:Value}{Q:Unit->Shared->Prop}(I:Inv X pins σ H s)(hN:X.N.Nodup)(hi:X.N[i]? = some x)(hx:Loc X.env.scope x)(r:bG v u)
  (h:∀ s',Inv X pins (σ.set i (some v)) H s'->Q () s') (hf:X.fn x=true\/X.env.scope.names.lookup x=some .local:=by first|exact .inl rfl|exact .inr rfl|assumption):wpAny M A (storeName X.env x u) Q E s:=
 lj I hN hi hx r (λ s' I' _=>h s' I') hf
theorem Inv.call'{s':Shared}{ch:List Addr}(I:Inv X pins σ H s)(ho:s'.os=s.os)(u:Un (frs X.stack) ch H H' s.heap s'.heap)(hok:HOk X.prog X.w H' s'.heap)(hg:AllBare s'.gens)
  (hch:∀ b∈ch,(b∈X.ex\/X.s₀.heap.objs.size<=b)/\b ≠ X.env.locals/\(∀ x c,X.env.cells.lookup x=some c->c ≠ b)/\∀ p∈X.pn++pins,p.1 ≠ b):Inv X pins σ H' s':=by
 obtain⟨h',g',d',t',o'⟩:=s';have e:o'=s.os:=ho;subst e;exact I.call (g':=g') (t':=t') (d':=d') u hok hg hch
end
abbrev XK:=Value->Option Addr->Hp->Prop
abbrev St:=List (Option V)
abbrev VK:=V->Hp->Prop
abbrev TE:=St->Hp->VK->Prop
abbrev TT:=St->Hp->(Bool->Hp->Prop)->Prop
abbrev TA:=St->Hp->(List V->Hp->Prop)->Prop
structure fk where
 nx:St->Hp->Prop
 rt:VK
 bk:St->Hp->Prop:=λ _ _=>False
 ct:St->Hp->Prop:=λ _ _=>False
abbrev TS:=fk->St->Hp->Prop
def EP(X:Cx)(pins:List (Addr × Obj))(σ:St)(Q:VK)(u:Value)(s':Shared):Prop:=∃ v H',Inv X pins σ H' s'/\bG v u/\Q v H'
def TP(X:Cx)(pins:List (Addr × Obj))(σ:St)(Q:Bool->Hp->Prop)(b:Bool)(s':Shared):Prop:=∃ H',Inv X pins σ H' s'/\Q b H'
def AP(X:Cx)(pins:List (Addr × Obj))(σ:St)(Q:List V->Hp->Prop)(us:List Value)(s':Shared):Prop:=∃ vs H',Inv X pins σ H' s'/\bq vs us/\Q vs H'
def SP(X:Cx)(pins:List (Addr × Obj))(D:fk)(f:Flow)(s':Shared):Prop:=
 match f with
 | .next=>∃ σ' H',Inv X pins σ' H' s'/\D.nx σ' H'
 | .brk=>∃ σ' H',Inv X pins σ' H' s'/\D.bk σ' H'
 | .cont=>∃ σ' H',Inv X pins σ' H' s'/\D.ct σ' H'
 | .ret u=>∃ v σ' H',Inv X pins σ' H' s'/\bG v u/\D.rt v H'
def PE(X:Cx)(e:Expr)(t:TE):Prop:=
 ∀ (pins:List (Addr × Obj)) (s:Shared) (σ:St) (H:Hp) (Q:VK),Inv X pins σ H s->t σ H Q->wpAny (model X.prog X.w) X.A (eval e X.env) (EP X pins σ Q) X.xe s
def PT(X:Cx)(e:Expr)(t:TT):Prop:=
 ∀ (pins:List (Addr × Obj)) (s:Shared) (σ:St) (H:Hp) (Q:Bool->Hp->Prop),Inv X pins σ H s->t σ H Q->wpAny (model X.prog X.w) X.A (isTrue e X.env (eval e X.env)) (TP X pins σ Q) X.xe s
def PW(X:Cx)(e:Expr)(t:TT):Prop:=
 ∀ (whole:Sem Value) (pins:List (Addr × Obj)) (s:Shared) (σ:St) (H:Hp) (Q:Bool->Hp->Prop),Inv X pins σ H s->t σ H Q->wpAny (model X.prog X.w) X.A (isTrue e X.env whole) (TP X pins σ Q) X.xe s
theorem PW.pt{X:Cx}{e:Expr}{t:TT}(h:PW X e t):PT X e t:=h _
def PA(X:Cx)(es:List Expr)(t:TA):Prop:=
 ∀ (pos:Pos) (pins:List (Addr × Obj)) (s:Shared) (σ:St) (H:Hp) (Q:List V->Hp->Prop),Inv X pins σ H s->t σ H Q->wpAny (model X.prog X.w) X.A (spliced (backTo pos (starEach es X.env))) (AP X pins σ Q) X.xe s
def PS(X:Cx)(st:Stmt)(t:TS):Prop:=
 ∀ (pins:List (Addr × Obj)) (s:Shared) (σ:St) (H:Hp) (D:fk),Inv X pins σ H s->t D σ H->wpAny (model X.prog X.w) X.A (exec st X.env) (SP X pins D) X.xe s
def PSs(X:Cx)(st:List Stmt)(t:TS):Prop:=
 ∀ (pins:List (Addr × Obj)) (s:Shared) (σ:St) (H:Hp) (D:fk),Inv X pins σ H s->t D σ H->wpAny (model X.prog X.w) X.A (execs st X.env) (SP X pins D) X.xe s
theorem thn{α:Type}{t:Sem α}{Q Q':α->Shared->Prop}{M:Model}{A:Around}{E:Value->Shared->Prop}{s:Shared}(h:wpAny M A t Q E s)(hQ:∀ a s,Q a s->Q' a s):wpAny M A t Q' E s:=Lo h hQ λ _ _ x=>x
section
variable {X:Cx}
def EY(i:Nat):TE:=λ σ H Q=>∃ v,σ[i]? = some (some v)/\Q v H
def tC(v:V):TE:=λ _ H Q=>Q v H
theorem C5{i:Nat}{x:Str}{pos:Pos}(hN:X.N[i]? = some x)(hv:Vis X.env.scope x)(hd:(x == ("__debug__":Str))=false:=by decide)(hcd:(x == ("__classdict__":Str))=false:=by decide):PE X (.Name x pos) (EY i):=by
 intro pins s σ H Q I h;obtain⟨v,e,h⟩:=h;obtain⟨m,hn,hl⟩:=I.loc;obtain⟨u,r,l⟩:=hl i x v hN e hv;have fin:EP X pins σ Q u s:=⟨v,H,I,r,h⟩
 rcases l with ⟨hk,hm⟩|⟨hk,c,hc,hcell⟩
 ·exact wpAny_Name (wpAny_loadName_local I.ok.kind hk hn hm fin) hd
 ·rcases hk with hk|hk
  ·exact wpAny_Name (wpAny_loadName_cell I.ok.kind hk hc hcell fin) hd
  ·exact wpAny_Name (wpAny_loadName_free I.ok.kind hk hc hcell fin hcd) hd
theorem dW{i j pos}:PE X (.Constant (.int i) j pos) (tC (.int i)):=λ _ _ _ H _ I h=>wpAny_Constant_int ⟨.int i,H,I.tok _,⟨_,rfl⟩,h⟩
theorem bD{b j pos}:PE X (.Constant (.bool b) j pos) (tC (.bl b)):=λ _ _ _ H _ I h=>Constant_bool ⟨.bl b,H,I,rfl,h⟩
theorem dU{j pos}:PE X (.Constant .none j pos) (tC .non):=λ _ _ _ H _ I h=>Constant_none ⟨.non,H,I,rfl,h⟩
theorem av{x j pos}:PE X (.Constant (.str x) j pos) (tC (.str x)):=λ _ _ _ H _ I h=>Calls.Constant_str ⟨.str x,H,I.tok _,⟨_,rfl⟩,h⟩
def Gl(X:Cx)(x:Str):Prop:=X.env.kindOf x=some .globalImplicit
theorem fF{E:Value->Shared->Prop}{pins:List (Addr × Obj)}{s:Shared}{σ:St}{H:Hp}{x:Str}{u:Value}{pos:Pos}{Q:Value->Shared->Prop}(I:Inv X pins σ H s)(hg:Gl X x)(hm:X.mg x=some u)(h:Q u s)
  (hd:(x == ("__debug__":Str))=false:=by decide):wpAny (model X.prog X.w) X.A (eval (.Name x pos) X.env) Q E s:=
 Calls.Name_function_global I.ok.kind hg (Calls.loadGlobal_global (by rw [I.ok.glob];exact I.mod.glob.keeps I.bk) hm h) hd
theorem gL{E:Value->Shared->Prop}{pins:List (Addr × Obj)}{s:Shared}{σ:St}{H:Hp}{x:Str}{u:Value}{pos:Pos}{Q:Value->Shared->Prop}(I:Inv X pins σ H s)(hg:Gl X x)(hm:X.mg x=none)(hv:bootBuiltins x=some u)(h:Q u s)
  (hn:x ≠ "__name__":=by decide) (hd:(x == ("__debug__":Str))=false:=by decide):wpAny (model X.prog X.w) X.A (eval (.Name x pos) X.env) Q E s:=by
 obtain⟨mb,h1,h2⟩:=I.mod.blt;exact Calls.Name_function_global I.ok.kind hg (Calls.loadGlobal_builtin (by rw [I.ok.glob];exact I.mod.glob.keeps I.bk) hm (by rw [I.ok.blt];exact h1.keeps I.bk) ((h2 x hn).trans hv) h) hd
theorem gQ{x:Str}{v:V}{u:Value}{pos:Pos}(hg:Gl X x)(hm:X.mg x=some u)(r:bG v u)(hd:(x == ("__debug__":Str))=false:=by decide):PE X (.Name x pos) (tC v):=
 λ _ _ _ H _ I h=>fF I hg hm ⟨v,H,I,r,h⟩ hd
theorem zX{x:Str}{v:V}{u:Value}{pos:Pos}(hg:Gl X x)(hm:X.mg x=none)(hv:bootBuiltins x=some u)(r:bG v u)(hn:x ≠ "__name__":=by decide)(hd:(x == ("__debug__":Str))=false:=by decide):PE X (.Name x pos) (tC v):=
 λ _ _ _ H _ I h=>gL I hg hm hv ⟨v,H,I,r,h⟩ hn hd
variable {a b:Expr}{ta tb:TE}{pos:Pos}
def tB(t:TE):TT:=λ σ H Q=>t σ H λ x H1=>∃ c,x=.bl c/\Q c H1
theorem CS{e:Expr}{t:TE}(h:PE X e t)(he:∀ whole,isTrue e X.env whole=(do let v ←whole;standAt e.pos;holding [v] (truthy v)):=by intro _;rfl):PT X e (tB t):=by
 intro pins s σ H Q I hw;refine isTrue_plain (thn (h pins s σ H _ I hw) λ v s1 ⟨x,H1,I1,r1,q1⟩=>?_) (he _);obtain⟨d,rfl,q⟩:=q1;cases r1;exact Kl ⟨H1,I1,q⟩
variable {tA tB':TT}{rest:List Expr}
def Fi(t u:TT):TT:=λ σ H Q=>t σ H λ c H1=>if c=true then u σ H1 Q else Q false H1
def tOr(t u:TT):TT:=λ σ H Q=>t σ H λ c H1=>if c=true then Q true H1 else u σ H1 Q
def Hx(t:TT):TT:=λ σ H Q=>t σ H λ c H1=>Q (!c) H1
theorem zJ(ha:PT X a tA):PW X (.BoolOp .And [a] pos) tA:=by
 intro wh pins s σ H Q I h;refine isTrue_and (thn (ha pins s σ H Q I h) λ c s1 e=>?_)
 cases c with
 | true=>exact isTrue_and_nil e
 | false=>exact e
theorem CP(ha:PT X a tA):PW X (.BoolOp .Or [a] pos) tA:=by
 intro wh pins s σ H Q I h;refine isTrue_or (thn (ha pins s σ H Q I h) λ c s1 e=>?_)
 cases c with
 | false=>exact isTrue_or_nil e
 | true=>exact e
theorem CQ(ha:PT X a tA)(hb:PW X (.BoolOp .And (b::rest) pos) tB'):PW X (.BoolOp .And (a::b::rest) pos) (Fi tA tB'):=by
 intro wh pins s σ H Q I h;refine isTrue_and (thn (ha pins s σ H _ I h) λ c s1 ⟨H1,I1,q1⟩=>?_)
 cases c with
 | true=>exact hb wh pins s1 σ H1 Q I1 q1
 | false=>exact⟨H1,I1,q1⟩
theorem Gg(ha:PT X a tA)(hb:PW X (.BoolOp .Or (b::rest) pos) tB'):PW X (.BoolOp .Or (a::b::rest) pos) (tOr tA tB'):=by
 intro wh pins s σ H Q I h;refine isTrue_or (thn (ha pins s σ H _ I h) λ c s1 ⟨H1,I1,q1⟩=>?_)
 cases c with
 | true=>exact⟨H1,I1,q1⟩
 | false=>exact hb wh pins s1 σ H1 Q I1 q1
theorem CT(ha:PT X a tA):PT X (.UnaryOp .Not a pos) (Hx tA):=by
 intro pins s σ H Q I h;exact isTrue_not (ha pins s σ H (λ c H1=>Q (!c) H1) I h)
def B7(ta tb:TE):TE:=λ σ H Q=>ta σ H λ x H1=>∃ c,x=.bl c/\if c=true then tb σ H1 Q else Q (.bl false) H1
def Hw(ta tb:TE):TE:=λ σ H Q=>ta σ H λ x H1=>∃ c,x=.bl c/\if c=true then Q (.bl true) H1 else tb σ H1 Q
def B2(ta:TE):TE:=λ σ H Q=>ta σ H λ x H1=>∃ c,x=.bl c/\Q (.bl (!c)) H1
theorem C7{op}{t:TE}(h:PE X a t):PE X (.BoolOp op [a] pos) t:=λ pins s σ H Q I hw=>BoolOp_one (h pins s σ H Q I hw)
theorem Dc(ha:PE X a ta)(hb:PE X (.BoolOp .And (b::rest) pos) tb):PE X (.BoolOp .And (a::b::rest) pos) (B7 ta tb):=by
 intro pins s σ H Q I h;refine BoolOp_and (thn (ha pins s σ H _ I h) λ v s1 ⟨x,H1,I1,r1,q1⟩=>?_);obtain⟨c,rfl,q1⟩:=q1;cases r1;refine Kl ?_
 cases c with
 | true=>exact hb pins s1 σ H1 Q I1 q1
 | false=>exact⟨.bl false,H1,I1,rfl,q1⟩
theorem Gi(ha:PE X a ta)(hb:PE X (.BoolOp .Or (b::rest) pos) tb):PE X (.BoolOp .Or (a::b::rest) pos) (Hw ta tb):=by
 intro pins s σ H Q I h;refine BoolOp_or (thn (ha pins s σ H _ I h) λ v s1 ⟨x,H1,I1,r1,q1⟩=>?_);obtain⟨c,rfl,q1⟩:=q1;cases r1;refine Kl ?_
 cases c with
 | false=>exact hb pins s1 σ H1 Q I1 q1
 | true=>exact⟨.bl true,H1,I1,rfl,q1⟩
theorem C8(ha:PE X a ta):PE X (.UnaryOp .Not a pos) (B2 ta):=by
 intro pins s σ H Q I h;refine UnaryOp_ (thn (ha pins s σ H _ I h) λ v s1 ⟨x,H1,I1,r1,q1⟩=>?_);obtain⟨c,rfl,q1⟩:=q1;cases r1;exact not_of (Kl ⟨.bl (!c),H1,I1,rfl,q1⟩)
def tIf(t:TT)(ta tb:TE):TE:=λ σ H Q=>t σ H λ c H1=>if c=true then ta σ H1 Q else tb σ H1 Q
theorem jY{c:Expr}(hc:PT X c tA)(ha:PE X a ta)(hb:PE X b tb):PE X (.IfExp c a b pos) (tIf tA ta tb):=by
 intro pins s σ H Q I h;refine wpAny_IfExp (thn (hc pins s σ H _ I h) λ d s1 ⟨H1,I1,q1⟩=>?_)
 cases d with
 | true=>exact ha pins s1 σ H1 Q I1 q1
 | false=>exact hb pins s1 σ H1 Q I1 q1
end
def SqL(K:W.Frag)(H:Hp)(a:Addr)(xs:List V):Prop:=
 Rd H a (.lst xs) \/
  ∃ (o:Obj) (its:Array Value) (n:Nat),K.lookup a=some o/\o.cls=.type "list" /\ o.dict=none/\o.data=.seq its n/\its.size<=sizeLine/\bq xs its.toList
def SqT(K:W.Frag)(H:Hp)(a:Addr)(xs:List V):Prop:=
 Rd H a (.tup xs) \/
  ∃ (o:Obj) (its:Array Value) (n:Nat),K.lookup a=some o/\o.cls=.type "tuple" /\ o.data=.seq its n/\its.size<=sizeLine/\bq xs its.toList
def Jg:Value->Option V
 | .none=>some .non
 | .bool b=>some (.bl b)
 | .int i _=>some (.int i)
 | .str x _=>some (.str x)
 | .bytes b _=>some (.byt b)
 | .float b _=>some (.flt b)
 | .ref a=>some (.ref a)
 | .type n=>some (.ty n)
 | _=>none
theorem bG.abs{x:V}{u:Value}(r:bG x u):Jg u=some x:=by
 cases x with
 | non=>cases r;rfl
 | bl _=>cases r;rfl
 | int _=>obtain⟨t,rfl⟩:=r;rfl
 | str _=>obtain⟨t,rfl⟩:=r;rfl
 | byt _=>obtain⟨t,rfl⟩:=r;rfl
 | flt _=>obtain⟨t,rfl⟩:=r;rfl
 | ref _=>cases r;rfl
 | ty _=>cases r;rfl
theorem bG.inj{x y:V}{u:Value}(r:bG x u)(q:bG y u):x=y:=JU (r.abs.symm.trans q.abs)
theorem bq.inj:∀ {xs ys:List V}{us:List Value},bq xs us->bq ys us->xs=ys
 | _,_,_,.nil,.nil=>rfl
 | _,_,_,.cons r t,.cons r' t'=>by rw [r.inj r',bq.inj t t']
section
variable {X:Cx}{pins:List (Addr × Obj)}{σ:St}{H:Hp}{s:Shared}{a:Addr}{xs ys:List V}
theorem SqL.of{K:W.Frag}(h:H a=some (.lst xs)):SqL K H a xs:=.inl (.inl h)
theorem SqT.of{K:W.Frag}(h:H a=some (.tup xs)):SqT K H a xs:=.inl (.inl h)
theorem Inv.list(I:Inv X pins σ H s)(h:SqL X.K H a xs):∃ its:List Value,bq xs its/\PlainL s.heap a its.toArray/\xs.length<=sizeLine:=by
 rcases h with h|⟨o,its,n,hk,hc,hd,hs,hz,r⟩
 ·obtain⟨z,its,n,r,e⟩:=h.ok I.hok;exact⟨its,r,⟨_,n,e,rfl,rfl,rfl⟩,z⟩
 ·refine⟨its.toList,r,⟨o,n,I.kIn a o hk,hc,hd,by simpa using hs⟩,?_⟩;have e:=r.length;simp only [Ld] at e;omega
theorem Inv.tuple(I:Inv X pins σ H s)(h:SqT X.K H a xs):∃ its:List Value,bq xs its/\IsTup s.heap a its.toArray/\xs.length<=sizeLine:=by
 rcases h with h|⟨o,its,n,hk,hc,hs,hz,r⟩
 ·obtain⟨z,its,r,p⟩:=h.ok I.hok;exact⟨its,r,p,z⟩
 ·refine⟨its.toList,r,⟨o,I.kIn a o hk,hc,n,by simpa using hs⟩,?_⟩;have e:=r.length;simp only [Ld] at e;omega
theorem Inv.list_inj(I:Inv X pins σ H s)(h:SqL X.K H a xs)(h':SqL X.K H a ys):xs=ys:=by
 obtain⟨its,r,⟨o,n,e,_,_,d⟩,_⟩:=I.list h;obtain⟨its',r',⟨o',n',e',_,_,d'⟩,_⟩:=I.list h';rw [e] at e';cases e';rw [d] at d'
 injection d' with d1 _
 have:its=its':=by simpa using KO Array.toList d1
 subst this;exact r.inj r'
theorem Inv.tuple_inj(I:Inv X pins σ H s)(h:SqT X.K H a xs)(h':SqT X.K H a ys):xs=ys:=by
 obtain⟨its,r,⟨o,e,_,n,d⟩,_⟩:=I.tuple h;obtain⟨its',r',⟨o',e',_,n',d'⟩,_⟩:=I.tuple h';rw [e] at e';cases e';rw [d] at d'
 injection d' with d1 _
 have:its=its':=by simpa using KO Array.toList d1
 subst this;exact r.inj r'
end
abbrev Cx.wish(X:Cx)(E:Value->Shared->Prop):Cx:={ X with xe:=E }
abbrev Cx.nox(X:Cx):Cx:=X.wish λ _ _=>False
theorem Cx.Ok.wish{X:Cx}(ok:X.Ok)(E:Value->Shared->Prop):(X.wish E).Ok:=
 ⟨ok.mod,ok.kind,ok.glob,ok.blt,ok.above,ok.inj,ok.has,ok.cab,ok.hd,ok.frames,ok.stk,ok.exf,ok.bs,ok.bsz,ok.noex,ok.exfs,ok.funs,ok.frf⟩
theorem Cx.Ok.unwish{X:Cx}{E:Value->Shared->Prop}(ok:(X.wish E).Ok):X.Ok:=
 ⟨ok.mod,ok.kind,ok.glob,ok.blt,ok.above,ok.inj,ok.has,ok.cab,ok.hd,ok.frames,ok.stk,ok.exf,ok.bs,ok.bsz,ok.noex,ok.exfs,ok.funs,ok.frf⟩
section
variable {X:Cx}{pins:List (Addr × Obj)}{σ:St}{H:Hp}{s:Shared}{E:Value->Shared->Prop}
theorem Inv.wish(I:Inv X pins σ H s)(E:Value->Shared->Prop):Inv (X.wish E) pins σ H s:=⟨I.ok.wish E,I.os,I.bare,I.base,I.loc,I.cell,I.free,I.freeC,I.pin,I.hok,I.len⟩
theorem Inv.unwish(I:Inv (X.wish E) pins σ H s):Inv X pins σ H s:=⟨I.ok.unwish,I.os,I.bare,I.base,I.loc,I.cell,I.free,I.freeC,I.pin,I.hok,I.len⟩
theorem SP.unwish{D:fk}{f:Flow}{s':Shared}(h:SP (X.wish E) pins D f s'):SP X pins D f s':=by
 cases f with
 | next=>obtain⟨σ',H',I,q⟩:=h;exact⟨σ',H',I.unwish,q⟩
 | brk=>obtain⟨σ',H',I,q⟩:=h;exact⟨σ',H',I.unwish,q⟩
 | cont=>obtain⟨σ',H',I,q⟩:=h;exact⟨σ',H',I.unwish,q⟩
 | ret u=>obtain⟨v,σ',H',I,r,q⟩:=h;exact⟨v,σ',H',I.unwish,r,q⟩
theorem PSs.nox{st:List Stmt}{t:TS}(h:PSs X.nox st t):PSs X st t:=λ pins s σ H D I hw=>
 Lo (h pins s σ H D (I.wish _) hw) (λ _ _ q=>q.unwish) λ _ _ z=>False.elim z
end
section
variable {X:Cx}{st:Stmt}{rest:List Stmt}{t u:TS}{e:Expr}{te:TE}{pos:Pos}
def B3:TS:=λ D σ H=>D.nx σ H
def Ht(t u:TS):TS:=λ D σ H=>t { D with nx:=u D } σ H
theorem ai:PSs X [] B3:=λ _ _ σ H _ I h=>LH ⟨σ,H,I,h⟩
theorem fq(h1:PS X st t)(h2:PSs X rest u):PSs X (st::rest) (Ht t u):=by
 intro pins s σ H D I h;refine wpAny_execs_cons (thn (h1 pins s σ H { D with nx:=u D } I h) λ f s1 q=>?_)
 cases f with
 | next=>
  obtain⟨σ',H',I',q⟩:=q;exact h2 pins s1 σ' H' D I' q
 | ret v=>exact q
 | brk=>exact q
 | cont=>exact q
theorem jE(h1:PS X st t):PSs X [st] t:=by
 intro pins s σ H D I h;refine wpAny_execs_cons (thn (h1 pins s σ H D I h) λ f s1 q=>?_)
 cases f with
 | next=>exact LH q
 | ret v=>exact q
 | brk=>exact q
 | cont=>exact q
theorem Inv.quiet{pins:List (Addr × Obj)}{σ:St}{H:Hp}{s:Shared}(I:Inv X pins σ H s):interactive X.env=false:=by simp [interactive,I.ok.kind]
def B4(te:TE):TS:=λ D σ H=>te σ H λ _ H1=>D.nx σ H1
theorem zN(he:PE X e te)(hs:swapsWith e none pos.line X.env=pure false:=by rfl):PS X (.Expr e pos) (B4 te):=by
 intro pins s σ H D I h;exact wpAny_Expr_any (thn (he pins s σ H _ I h) λ v s1 ⟨x,H1,I1,r1,q1⟩=>⟨σ,H1,I1,q1⟩) I.quiet hs
def Hu(te:TE):TS:=λ D σ H=>te σ H D.rt
theorem rK(he:PE X e te):PS X (.Return (some e) pos) (Hu te):=by
 intro pins s σ H D I h;exact wpAny_Return_some (thn (he pins s σ H _ I h) λ v s1 ⟨x,H1,I1,r1,q1⟩=>⟨x,σ,H1,I1,r1,q1⟩)
def EZ(c:TT)(t u:TS):TS:=λ D σ H=>c σ H λ b H1=>if b=true then t D σ H1 else u D σ H1
theorem yO{c:Expr}{a b:List Stmt}{tc:TT}(hc:PT X c tc)(ha:PSs X a t)(hb:PSs X b u):PS X (.If c a b pos) (EZ tc t u):=by
 intro pins s σ H D I h;refine wpAny_If (thn (hc pins s σ H _ I h) λ d s1 ⟨H1,I1,q1⟩=>?_)
 cases d with
 | true=>exact ha pins s1 σ H1 D I1 q1
 | false=>exact hb pins s1 σ H1 D I1 q1
def CL:TS:=λ _ _ _=>False
theorem jW:PS X st CL:=λ _ _ _ _ _ _ h=>h.elim
end
abbrev TG:=V->St->Hp->(St->Hp->Prop)->Prop
abbrev TGs:=List V->St->Hp->(St->Hp->Prop)->Prop
def PG(X:Cx)(target:Expr)(t:TG):Prop:=
 ∀ (pins:List (Addr × Obj)) (s:Shared) (σ:St) (H:Hp) (v:V) (u:Value) (Q:St->Hp->Prop),Inv X pins σ H s->bG v u->t v σ H Q →
  wpAny (model X.prog X.w) X.A (assign target X.env u) (λ _ s'=>∃ σ' H',Inv X pins σ' H' s'/\Q σ' H') X.xe s
def PGs(X:Cx)(ts:List Expr)(t:TGs):Prop:=
 ∀ (pins:List (Addr × Obj)) (s:Shared) (σ:St) (H:Hp) (vs:List V) (us:List Value) (Q:St->Hp->Prop),Inv X pins σ H s->bq vs us->t vs σ H Q →
  wpAny (model X.prog X.w) X.A (assignInOrder ((assignEach ts X.env).map (·.2)) us) (λ _ s'=>∃ σ' H',Inv X pins σ' H' s'/\Q σ' H') X.xe s
abbrev xZ:=V->V->V->Hp->(Hp->Prop)->Prop
def Ir(X:Cx)(t:xZ):Prop:=
 ∀ (pins:List (Addr × Obj)) (s:Shared) (σ:St) (H:Hp) (o i v:V) (ov iv u:Value) (Q:Hp->Prop),Inv X pins σ H s->bG o ov->bG i iv->bG v u->t o i v H Q →
  wpAny (model X.prog X.w) X.A (setItem ov iv u) (λ _ s'=>∃ H',Inv X pins σ H' s'/\Q H') X.xe s
section
variable {X:Cx}{pos:Pos}
def cZ(i:Nat):TG:=λ v σ H Q=>Q (σ.set i (some v)) H
theorem sj{i:Nat}{x:Str}(hN:X.N.Nodup)(hi:X.N[i]? = some x)(hx:Loc X.env.scope x)(hf:X.fn x=true\/X.env.scope.names.lookup x=some .local:=by first|exact .inl rfl|exact .inr rfl|assumption):PG X (.Name x pos) (cZ i):=by
 intro pins s σ H v u Q I r h;exact wpAny_assign_Name (fm I hN hi hx r (λ s' I'=>⟨_,H,I',h⟩) hf)
def Iq:TGs:=λ vs σ H Q=>vs=[]/\Q σ H
def Cy(t:TG)(u:TGs):TGs:=λ vs σ H Q=>∃ v r,vs=v::r/\t v σ H λ σ' H'=>u r σ' H' Q
theorem zR:PGs X [] Iq:=by
 intro pins s σ H vs us Q I r h;obtain⟨e,h⟩:=h;subst e;cases r;exact assignInOrder_nil ⟨σ,H,I,h⟩
theorem wb{e:Expr}{es:List Expr}{t:TG}{u:TGs}(h1:PG X e t)(h2:PGs X es u)
  (hs:(assignEach (e::es) X.env).map (·.2)=assign e X.env::(assignEach es X.env).map (·.2):=by rfl):PGs X (e::es) (Cy t u):=by
 intro pins s σ H vs us Q I r h;obtain⟨v,vr,e1,h⟩:=h;subst e1
 cases r with
 | cons r rr=>
  rw [hs];refine assignInOrder_cons (thn (h1 pins s σ H _ _ _ I r h) λ _ s1 ⟨σ1,H1,I1,q1⟩=>?_);exact h2 pins s1 σ1 H1 _ _ Q I1 rr q1
def Io(K:W.Frag)(n:Nat)(t:TGs):TG:=λ v σ H Q=>∃ a xs,v=.ref a/\SqT K H a xs/\xs.length=n/\t xs σ H Q
theorem CZ{es:List Expr}{k:Nat}{t:TGs}{n:Nat}(hc:X.calm=true)(h:PGs X es t)
  (hn:(assignEach es X.env).length=n:=by rfl) (hst:(assignEach es X.env).findIdx? (·.1)=none:=by rfl):PG X (.Tuple es k pos) (Io X.K n t):=by
 intro pins s σ H v u Q I r hw;obtain⟨a,xs,e1,hq,hl,hw⟩:=hw;subst e1;cases r;obtain⟨its,rv,ht,hz⟩:=I.tuple hq;refine assign_Tuple_tuple (I.ok.hd hc) ht (by simp [hn,←hl,rv.length]) hst λ h' hx=>?_;have I1:Inv X pins σ H { s with heap:=h' }:=I.kept (t':=s.toks) λ b o e=>hx b o (JR (JF e)) e;exact h pins _ σ H xs _ Q I1 (by simpa using rv) hw
def Ip(to ti:TE)(t:xZ):TG:=λ v σ H Q=>to σ H λ o H1=>ti σ H1 λ i H2=>t o i v H2 λ H3=>Q σ H3
theorem yl{o i:Expr}{to ti:TE}{t:xZ}(ho:PE X o to)(hi:PE X i ti)(hs:Ir X t)
  (ha:∀ v,assign (.Subscript o i pos) X.env v=(do
   let ov ←holding [v] (eval o X.env)
   let iv ←holding [v,ov] (eval i X.env)
   standAt pos
   holding [v,ov,iv] (setItem ov iv v)
   release [v,ov,iv] []):=by intro _;rfl):PG X (.Subscript o i pos) (Ip to ti t):=by
 intro pins s σ H v u Q I r h;rw [ha];refine Jx (KS (thn (ho pins s σ H _ I h) λ ov s1 ⟨x,H1,I1,r1,q1⟩=>?_));refine Jx (KS (thn (hi pins s1 σ H1 _ I1 q1) λ iv s2 ⟨y,H2,I2,r2,q2⟩=>?_));refine Jx (L6 (Jx (KS (thn (hs pins s2 σ H2 x y v ov iv u _ I2 r1 r2 r q2) λ _ s3 ⟨H3,I3,q3⟩=>?_))));exact wpAny_release ⟨σ,H3,I3,q3⟩
def Fh(te:TE)(g:TG):TS:=λ D σ H=>te σ H λ x H1=>g x σ H1 D.nx
theorem gH{tg e:Expr}{te:TE}{g:TG}(he:PE X e te)(hg:PG X tg g)(hs:swapsWithSole [tg] e pos.line X.env=pure false:=by rfl)(hw:swappedStores [tg] e X.env=pure none:=by rfl)
  (h1:(assignEach [tg] X.env).map (·.2)=[assign tg X.env]:=by rfl):PS X (.Assign [tg] e pos) (Fh te g):=by
 intro pins s σ H D I h;refine wpAny_Assign_stores (thn (he pins s σ H _ I h) λ v s1 ⟨x,H1,I1,r1,q1⟩=>?_) hs hw;rw [h1];exact thn (hg pins s1 σ H1 x v _ I1 r1 q1) λ _ s2 q=>q
theorem dS{i:Nat}{x:Str}{e:Expr}{te:TE}{pos':Pos}(hN:X.N.Nodup)(hi:X.N[i]? = some x)(hx:Loc X.env.scope x)(he:PE X e te)(hs:swapsWith e (some (.Name x pos')) pos.line X.env=pure false:=by rfl)(hf:X.fn x=true\/X.env.scope.names.lookup x=some .local:=by first|exact .inl rfl|exact .inr rfl|assumption) :
  PS X (.Assign [.Name x pos'] e pos) (Fh te (cZ i)):=by
 intro pins s σ H D I h;refine wpAny_Assign_Name (thn (he pins s σ H _ I h) λ v s1 ⟨y,H1,I1,r1,q1⟩=>?_) hs;exact fm I1 hN hi hx r1 (λ s2 I2=>⟨_,H1,I2,q1⟩) hf
def Hv(i j:Nat)(ta:TA):TS:=λ D σ H=>ta σ H λ vs H1=>∃ v w,vs=[v,w]/\D.nx ((σ.set i (some v)).set j (some w)) H1
theorem CV{i j:Nat}{x y:Str}{a b:Expr}{ta:TA}{px py pt:Pos}{kt k2 pt2}(hc:X.calm=true)(hN:X.N.Nodup)(hi:X.N[i]? = some x)(hj:X.N[j]? = some y)(hij:i ≠ j)
  (hx:X.env.scope.names.lookup x=some .local) (hy:X.env.scope.names.lookup y=some .local) (ha:PA X [a,b] ta)
  (hw:swappedStores [.Tuple [.Name x px,.Name y py] kt pt] (.Tuple [a,b] k2 pt2) X.env=pure (some [x,y]))
  (hs:swapsWithSole [.Tuple [.Name x px,.Name y py] kt pt] (.Tuple [a,b] k2 pt2) pos.line X.env=pure false:=by rfl) :
  PS X (.Assign [.Tuple [.Name x px,.Name y py] kt pt] (.Tuple [a,b] k2 pt2) pos) (Hv i j ta):=by
 intro pins s σ H D I h;rw [exec_Assign_arm];refine Jx (L6 ?_);rw [hs];refine Jx (JE ?_);rw [JL (by decide)];refine Jx (Tuple_ (thn (ha _ pins s σ H _ I h) λ us s1 ⟨vs,H1,I1,r1,q1⟩=>?_));obtain⟨v,w,e1,q1⟩:=q1;subst e1
 obtain⟨u1,u2,rfl,rv,rw'⟩:∃ u1 u2,us=[u1,u2]/\bG v u1/\bG w u2:=by
  cases r1 with
  | cons p q=>
   cases q with
   | cons p' q'=>
    cases q';exact⟨_,_,rfl,p,p'⟩
 refine Ku ?_ (by show 2<=sizeLine;decide);have I2:Inv X pins σ H1 { s1 with heap:=s1.heap.push { cls:=.type "tuple",data:=.seq [u1,u2].toArray } }:=I1.kept (t':=s1.toks) λ b o e=>Jz _ e;rw [hw];refine Jx (JE ?_)
 show wpAny (model X.prog X.w) X.A (do rule "assign.swapped-stores";let items ←unpackItems (.ref s1.heap.objs.size) 2 none;assignInOrder [λ v=>bindName X.env y v,λ v=>bindName X.env x v] items.reverse;pure Flow.next) _ _ _
 refine Jx (wpAny_rule (Jx (unpackItems_tuple (items:=#[u1,u2]) (I.ok.hd hc) (IsTup.new s1.heap _) λ h' hx'=>?_)));have I3:=I2.kept (h':=h') (t':=s1.toks) λ b o e=>hx' b o (JR (JF e)) e
 show wpAny _ _ (assignInOrder [λ v=>bindName X.env y v,λ v=>bindName X.env x v] [u2,u1] >>= λ _=>pure Flow.next) _ _ _
 refine Jx (assignInOrder_cons (wpAny_bindName (fm I3 hN hj (.inl hy) rw' (λ s2 I4=>?_) (.inr hy))));refine assignInOrder_cons (wpAny_bindName (fm I4 hN hi (.inl hx) rv (λ s3 I5=>assignInOrder_nil (JE ?_)) (.inr hx)));rw [List.set_comm _ _ (J6 hij)] at I5;exact⟨_,H1,I5,q1⟩
end
section
variable {X:Cx}{pos:Pos}
def rm(c:TT)(tb:TS):TS:=λ D σ H=>∃ W:Nat->St->Hp->Prop,(∃ m,W m σ H)/\∀ m σ H,W m σ H →
 c σ H λ b H1=>if b=true then ∃ N:St->Hp->Prop,(∀ σ' H',N σ' H'->∃ m',m' < m/\W m' σ' H')/\tb { D with nx:=N,ct:=N,bk:=D.nx } σ H1 else D.nx σ H1
theorem oM{c:Expr}{body:List Stmt}{tc:TT}{tb:TS}(hp:PassesOwn (model X.prog X.w) X.A X.env X.xe)(hc:PT X c tc)(hb:PSs X body tb):PS X (.While c body [] pos) (rm tc tb):=by
 intro pins s σ H D I h;obtain⟨W,⟨m0,w0⟩,turn⟩:=h;refine wpAny_While (codeAny_whileLoop (λ n s'=>∃ σ' H',Inv X pins σ' H' s'/\W n σ' H') ?_ m0 ⟨σ,H,I,w0⟩);rintro n s1 ⟨σ1,H1,I1,w1⟩;refine La hp (thn (hc pins s1 σ1 H1 _ I1 (turn n σ1 H1 w1)) λ b s2 ⟨H2,I2,q2⟩=>?_)
 cases b with
 | true=>
  obtain⟨N,hN,q2⟩:=q2;rw [JM rfl];refine La hp (thn (hb pins s2 σ1 H2 _ I2 q2) λ f s3 q3=>?_)
  cases f with
  | next=>
   obtain⟨σ3,H3,I3,n3⟩:=q3;obtain⟨m',hm,w3⟩:=hN σ3 H3 n3;exact⟨m',hm,σ3,H3,I3,w3⟩
  | cont=>
   obtain⟨σ3,H3,I3,n3⟩:=q3;obtain⟨m',hm,w3⟩:=hN σ3 H3 n3;exact⟨m',hm,σ3,H3,I3,w3⟩
  | brk=>exact q3
  | ret v=>exact q3
 | false=>
  rw [JL JO];exact LH ⟨σ1,H2,I2,q2⟩
end
structure It where
 go:Nat->Hp->Prop
 yld:Nat->Hp->V->Hp->Prop
 stop:Nat->Hp->Prop
def mJ(X:Cx)(pins:List (Addr × Obj))(H:Hp)(b:Addr):Prop:=
 H b=none/\b ≠ X.env.locals/\b ∉ X.fs/\(b∈X.ex\/X.s₀.heap.objs.size<=b)/\(∀ x c,X.env.cells.lookup x=some c->c ≠ b)/\∀ p∈X.pn++pins,p.1 ≠ b
theorem Inv.fpOk{X:Cx}{pins:List (Addr × Obj)}{σ:St}{H H':Hp}{s:Shared}{b:Addr}(I:Inv X pins σ H s)(hb:s.heap.objs.size<=b)(hn:H' b=none):mJ X pins H' b:=by
 refine⟨hn,LA (JN I.lt hb),I.nofs hb,.inr (JT I.sz hb),λ x c e z=>?_,λ p hp z=>?_⟩
 ·obtain⟨v,q⟩:=I.cell x c e;exact absurd (JN q.lt (by rw [z];exact hb)) (K3 _)
 ·exact absurd (JN (JF (I.pin p hp).1) (by rw [z];exact hb)) (K3 _)
structure yJ(P:Program)(w:World)(K:W.Frag)(tg:Expr)(J:It)(fp:List Addr)(it:Addr)(tn:Nat->Heap->Prop):Prop where
 mem:it∈fp
 obj:∀ i h,tn i h->∀ b∈fp,∃ o,h.get? b=some o/\∀ v,o.data ≠ .cell v
 keep:∀ i h h',tn i h->(∀ b∈fp,∀ o,h.get? b=some o->h'.get? b=some o)->tn i h'
 item:∀ (X:Cx),X.prog=P->X.w=w->X.K=K->X.calm=true->∀ (i:Nat) (pins:List (Addr × Obj)) (s:Shared) (σ:St) (H:Hp) (E:Value->Shared->Prop),Inv X pins σ H s->(∀ b∈fp,mJ X pins H b)->tn i s.heap->J.go i H →
  wpAny (model P w) X.A (pyNext (.ref it)) (λ r s1=>∃ u,r=some u /\
   wpAny (model P w) X.A (letOwnedTupleGo tg (.ref it) u) (λ _ s2=>∃ x H',Inv X pins σ H' s2/\bG x u/\J.yld i H x H'/\tn (i+1) s2.heap/\∀ b∈fp,H' b=none) E s1) E s
 done:∀ (X:Cx),X.prog=P->X.w=w->X.K=K->X.calm=true->∀ (i:Nat) (pins:List (Addr × Obj)) (s:Shared) (σ:St) (H:Hp) (E:Value->Shared->Prop),Inv X pins σ H s->(∀ b∈fp,mJ X pins H b)->tn i s.heap->J.stop i H →
  wpAny (model P w) X.A (pyNext (.ref it)) (λ r s1=>r=none/\Inv X pins σ H s1) E s
 self:∀ (A:Around) (i:Nat) (s:Shared) (Q:Value->Shared->Prop) (E:Value->Shared->Prop),tn i s.heap->Q (.ref it) s->wpAny (model P w) A (pyIter (.ref it)) Q E s
abbrev TI:=St->Hp->(It->Hp->Prop)->Prop
def PIE(X:Cx)(pins:List (Addr × Obj))(σ:St)(tg:Expr)(R:It->Hp->Prop)(itv:Value)(s2:Shared):Prop:=
 ∃ (it:Addr) (fp:List Addr) (tn:Nat->Heap->Prop) (J:It) (H':Hp),itv=.ref it/\Inv X pins σ H' s2/\yJ X.prog X.w X.K tg J fp it tn/\tn 0 s2.heap/\(∀ b∈fp,mJ X pins H' b)/\R J H'
def PI(X:Cx)(tg iter:Expr)(wi:TI):Prop:=
 ∀ (pins:List (Addr × Obj)) (s:Shared) (σ:St) (H:Hp) (R:It->Hp->Prop),Inv X pins σ H s->wi σ H R →
  wpAny (model X.prog X.w) X.A (eval iter X.env) (λ v s1=>wpAny (model X.prog X.w) X.A (pyIter v) (PIE X pins σ tg R) X.xe s1) X.xe s
theorem zk{M:Model}{A:Around}{E:Value->Shared->Prop}{s:Shared}{tg:Expr}{it:Addr}{u:Value}{o:Obj}{n:String}{vs:Array Value}{Q:Unit->Shared->Prop}(ho:s.heap.get? it=some o)(hc:o.cls=.type n)(hd:o.data=.fields vs)
    (hn:["enumerate", "zip", "dict_itemiterator", "dict_reverseitemiterator", "odict_iterator", "itertools.zip_longest", "itertools.pairwise"].contains n=false) (hQ:Q () s):wpAny M A (letOwnedTupleGo tg (.ref it) u) Q E s:=by
  unfold letOwnedTupleGo
  cases tg<;>first
    | exact JE hQ
    | (cases u<;>first
        | exact JE hQ
        | (refine Jx (wpAny_load ho ?_)
           rw [hc,hd]
           show wpAny M A (if (["enumerate", "zip", "dict_itemiterator", "dict_reverseitemiterator", "odict_iterator", "itertools.zip_longest", "itertools.pairwise"].contains n && vs[0]? == some (rawInt _))=true then _ else _) Q E s
           rw [JL (by intro h;rw [hn,Ma] at h;cases h)];exact JE hQ))
def Itl(K:W.Frag)(a:Addr):It:=
 ⟨λ i H=>∃ xs x,SqL K H a xs/\xs[i]? = some x,λ i H x H'=>H'=H/\∀ xs,SqL K H a xs->xs[i]? = some x,λ i H=>∃ xs,SqL K H a xs/\xs.length<=i⟩
def Itt(K:W.Frag)(a:Addr):It:=
 ⟨λ i H=>∃ xs x,SqT K H a xs/\xs[i]? = some x,λ i H x H'=>H'=H/\∀ xs,SqT K H a xs->xs[i]? = some x,λ i H=>∃ xs,SqT K H a xs/\xs.length<=i⟩
def Itr(lo:Int)(n:Nat):It:=⟨λ i _=>i < n,λ i H x H'=>H'=H/\x=.int (lo+i),λ i _=>n<=i⟩
theorem sQ{P:Program}{w:World}{K:W.Frag}{tg:Expr}(a it:Addr):yJ P w K tg (Itl K a) [it] it (λ i h=>h.IsListIter it a i) where
 mem:=by simp
 obj:=λ i h st b hb=>by
  have e:b=it:=by simpa using hb
  subst e;obtain⟨o,e,c,d⟩:=st;exact⟨o,e,λ v z=>by rw [d] at z;cases z⟩
 keep:=λ i h h' st k=>st.at λ o e=>k it (by simp) o e
 item:=by
  intro X hP hw hK hc i pins s σ H E I hf st hg;subst hP hw hK;obtain⟨xs,x,hq,hx⟩:=hg;obtain⟨its,rv,p,hz⟩:=I.list hq;obtain⟨u,hu,ru⟩:=rv.get hx;obtain⟨f0,f1,f2,f3,f4,f5⟩:=hf it (by simp);refine wpAny_pyNext_list_item st p.isList (x:=u) (by simpa using hu) λ h' st' sb=>?_;have I1:Inv X pins σ H { s with heap:=h' }:=I.turned (t':=s.toks) (λ b o hb e=>(sb.2 b hb).trans e) f0 f1 f3 f4 f5;obtain⟨o,e,c,d⟩:=id st';exact⟨u,rfl,zk (s:={ s with heap:=h' }) e c d (by decide) ⟨x,H,I1,ru,⟨rfl,λ ys hy=>by rw [I.list_inj hy hq];exact hx⟩,st',λ b hb=>(hf b hb).1⟩⟩
 done:=by
  intro X hP hw hK hc i pins s σ H E I hf st hg;subst hP hw hK;obtain⟨xs,hq,hx⟩:=hg;obtain⟨its,rv,p,hz⟩:=I.list hq;obtain⟨f0,f1,f2,f3,f4,f5⟩:=hf it (by simp);have hl:=rv.length;exact wpAny_pyNext_list_end (I.ok.hd hc) st p.isList (by simp;omega) λ h' eb=>⟨rfl,I.turned (t':=s.toks) (λ b o hb e=>eb b o hb e) f0 f1 f3 f4 f5⟩
 self:=λ _ _ _ _ _ st h=>wpAny_pyIter_listiter st h
theorem pM{P:Program}{w:World}{K:W.Frag}{tg:Expr}(a it:Addr):yJ P w K tg (Itt K a) [it] it (λ i h=>h.IsTupleIter it a i) where
 mem:=by simp
 obj:=λ i h st b hb=>by
  have e:b=it:=by simpa using hb
  subst e;obtain⟨o,e,c,d⟩:=st;exact⟨o,e,λ v z=>by rw [d] at z;cases z⟩
 keep:=λ i h h' st k=>st.at λ o e=>k it (by simp) o e
 item:=by
  intro X hP hw hK hc i pins s σ H E I hf st hg;subst hP hw hK;obtain⟨xs,x,hq,hx⟩:=hg;obtain⟨its,rv,p,hz⟩:=I.tuple hq;obtain⟨u,hu,ru⟩:=rv.get hx;obtain⟨f0,f1,f2,f3,f4,f5⟩:=hf it (by simp);refine wpAny_pyNext_tuple_item st (show s.heap.IsTuple a its.toArray from p) (x:=u) (by simpa using hu) λ h' st' sb=>?_;have I1:Inv X pins σ H { s with heap:=h' }:=I.turned (t':=s.toks) (λ b o hb e=>(sb.2 b hb).trans e) f0 f1 f3 f4 f5;obtain⟨o,e,c,d⟩:=id st';exact⟨u,rfl,zk (s:={ s with heap:=h' }) e c d (by decide) ⟨x,H,I1,ru,⟨rfl,λ ys hy=>by rw [I.tuple_inj hy hq];exact hx⟩,st',λ b hb=>(hf b hb).1⟩⟩
 done:=by
  intro X hP hw hK hc i pins s σ H E I hf st hg;subst hP hw hK;obtain⟨xs,hq,hx⟩:=hg;obtain⟨its,rv,p,hz⟩:=I.tuple hq;obtain⟨f0,f1,f2,f3,f4,f5⟩:=hf it (by simp);have hl:=rv.length;exact wpAny_pyNext_tuple_end (I.ok.hd hc) st (show s.heap.IsTuple a its.toArray from p) (by simp;omega) λ h' eb=>⟨rfl,I.turned (t':=s.toks) (λ b o hb e=>eb b o hb e) f0 f1 f3 f4 f5⟩
 self:=λ _ _ _ _ _ st h=>wpAny_pyIter_tupleiter st h
theorem pN{P:Program}{w:World}{K:PySem.W.Frag}{tg:Expr}(it:Addr)(lo:Int)(n:Nat):yJ P w K tg (Itr lo n) [it] it (λ i h=>IsRangeIter h it (lo+(i:Nat) * 1) ((n:Int) - (i:Nat)) 1) where
 mem:=by simp
 obj:=λ i h st b hb=>by
  have e:b=it:=by simpa using hb
  subst e
  exact⟨_,st,λ v z=>by
   have z':Data.fields _=Data.cell v:=z;cases z'⟩
 keep:=λ i h h' st k=>k it (by simp) _ st
 item:=by
  intro X hP hw hK hc i pins s σ H E I hf st hg;subst hP hw hK;obtain⟨f0,f1,f2,f3,f4,f5⟩:=hf it (by simp);have W:=Walks.range (prog:=X.prog) (w:=X.w) (I.ok.hd hc) it lo 1 n;refine W.item i s _ _ hg st λ v h' tk hv st' kk=>?_;obtain⟨t,rfl⟩:=hv;have I1:Inv X pins σ H { s with heap:=h',toks:=tk }:=I.turned (λ b o hb e=>kk b o (by simpa using hb) e) f0 f1 f3 f4 f5;refine⟨_,rfl,zk (s:={ s with heap:=h',toks:=tk }) (n := "range_iterator") st' rfl rfl (by decide) ⟨.int (lo+i),H,I1,⟨t,?_⟩,⟨rfl,rfl⟩,st',λ b hb=>(hf b hb).1⟩⟩;rw [Int.mul_one]
 done:=by
  intro X hP hw hK hc i pins s σ H E I hf st hg;subst hP hw hK;obtain⟨f0,f1,f2,f3,f4,f5⟩:=hf it (by simp);exact wpAny_pyNext_range_end (I.ok.hd hc) st (by have:n<=i:=hg;omega) λ h' eb=>⟨rfl,I.turned (t':=s.toks) (λ b o hb e=>eb b o hb e) f0 f1 f3 f4 f5⟩
 self:=λ _ _ _ _ _ st h=>wpAny_pyIter_rangeiter st h
section
variable {X:Cx}{tg:Expr}
theorem vU{pins:List (Addr × Obj)}{σ:St}{H:Hp}{s:Shared}{R:It->Hp->Prop}{E:Value->Shared->Prop}{lo hi:Int}{t u v:Tok}{tk:Nat}(I:Inv X pins σ H s)(h1:-(2 ^ 62)<=lo)(h2:lo < 2 ^ 62)(h3:-(2 ^ 62)<=hi)(h4:hi < 2 ^ 62)
  (q:R (Itr lo (hi - lo).toNat) H):wpAny (model X.prog X.w) X.A (pyIter (.ref s.heap.objs.size)) (PIE X pins σ tg R) E { s with heap:=s.heap.push { cls:=.type "range",data:=.fields #[.int lo t,.int hi u,.int 1 v] },toks:=tk }:=by
 refine wpAny_pyIter_range (IsRange.new ..) (small_one h1 h2 h3 h4) ?_;have I1:Inv X pins σ H { s with heap:=s.heap.push { cls:=.type "range",data:=.fields #[.int lo t,.int hi u,.int 1 v] },toks:=tk }:=I.kept λ b o e=>Jz _ e
 refine⟨(s.heap.push { cls:=.type "range",data:=.fields #[.int lo t,.int hi u,.int 1 v] }).objs.size,[(s.heap.push { cls:=.type "range",data:=.fields #[.int lo t,.int hi u,.int 1 v] }).objs.size],_,_,H,rfl,
  I1.kept (t':=tk) λ b o e=>Jz _ e,pN _ lo (hi - lo).toNat,?_,λ b hb=>?_,q⟩
 ·have e1:lo+((0:Nat):Int) * 1=lo:=by simp
  have e2:(((hi - lo).toNat:Nat):Int) - ((0:Nat):Int)=Builtin.Range.rangeSize lo hi 1:=by rw [rangeSize_one];split<;>omega
  show IsRangeIter _ _ (lo+((0:Nat):Int) * 1) ((((hi - lo).toNat:Nat):Int) - ((0:Nat):Int)) 1
  rw [e1,e2];exact JK _ rfl
 ·have e:b=(s.heap.push { cls:=.type "range",data:=.fields #[.int lo t,.int hi u,.int 1 v] }).objs.size:=by simpa using hb
  subst e;exact I1.fpOk (JB _) (I1.hok.fresh (JB _))
def Cw(ta:TA):TI:=λ σ H R=>ta σ H λ vs H1=>∃ j:Int,vs=[.int j]/\-(2 ^ 62)<=j/\j < 2 ^ 62/\R (Itr 0 j.toNat) H1
theorem sT{a:Expr}{ta:TA}{p pos:Pos}(hg:Gl X "range")(hm:X.mg "range"=none)(ha:PA X [a] ta)(hs:starEach [a] X.env=[(false,eval a X.env)]:=by rfl):PI X tg (.Call (.Name "range" p) [a] [] pos) (Cw ta):=by
 intro pins s σ H R I h;refine Call_ (gL I hg hm boot_range (Ly (thn (ha pos pins s σ H _ I h) λ us s1 ⟨vs,H1,I1,r1,q1⟩=>?_) hs rfl));obtain⟨j,e,q1,q2,q⟩:=q1;subst e
 cases r1 with
 | cons r rr=>
  cases rr;obtain⟨t,rfl⟩:=r;exact call_range_1 (vU I1 (by omega) (by omega) q1 q2 (by simpa using q))
def Hy(wi:TI)(g:TG)(tb:TS):TS:=λ D σ H=>wi σ H λ J H1=>∃ W:Nat->Nat->St->Hp->Prop,(∃ m,W 0 m σ H1)/\∀ i m σ H,W i m σ H →
 (J.stop i H/\D.nx σ H)\/(J.go i H/\∃ N:St->Hp->Prop,(∀ σ' H',N σ' H'->∃ m',m' < m/\W (i+1) m' σ' H')/\∀ x H',J.yld i H x H'->g x σ H' λ σ2 H2=>tb { D with nx:=N,ct:=N,bk:=D.nx } σ2 H2)
def kX(fp:List Addr)(h:Heap):List (Addr × Obj):=fp.filterMap λ b=>(h.get? b).map λ o=>(b,o)
theorem eF{fp:List Addr}{h:Heap}{b:Addr}{o:Obj}(hb:b∈fp)(e:h.get? b=some o):(b,o)∈kX fp h:=List.mem_filterMap.mpr ⟨b,hb,by rw [e];rfl⟩
theorem sW{fp:List Addr}{h:Heap}{p:Addr × Obj}(hp:p∈kX fp h):p.1∈fp/\h.get? p.1=some p.2:=by
 obtain⟨b,hb,e⟩:=List.mem_filterMap.mp hp
 cases q:h.get? b with
 | none=>rw [q] at e;cases e
 | some o=>
  rw [q] at e;have e':(b,o)=p:=JU e;subst e';exact⟨hb,q⟩
theorem Inv.pinned{pins:List (Addr × Obj)}{σ:St}{H:Hp}{s:Shared}{fp:List Addr}(I:Inv X pins σ H s)(hf:∀ b∈fp,mJ X pins H b)(ho:∀ b∈fp,∃ o,s.heap.get? b=some o/\∀ v,o.data ≠ .cell v):Inv X (pins++kX fp s.heap) σ H s:=
 I.pins_of λ p hp=>(J1.mp hp).elim (λ z=>I.pin p (J8 _ z)) λ z=>by
  obtain⟨hb,e⟩:=sW z;obtain⟨f0,f1,f2,_⟩:=hf p.1 hb;obtain⟨o,e',d⟩:=ho p.1 hb;rw [e] at e';cases e';exact⟨e,f0,f1,f2,d⟩
theorem Inv.unpinned{pins pl:List (Addr × Obj)}{σ:St}{H:Hp}{s:Shared}(I:Inv X (pins++pl) σ H s):Inv X pins σ H s:=I.pins_of λ p hp=>I.pin p (J8 _ (KD _ hp))
theorem CW{iter:Expr}{body:List Stmt}{wi:TI}{g:TG}{tb:TS}{pos:Pos}(hp:PassesOwn (model X.prog X.w) X.A X.env X.xe)(hc:X.calm=true)(hi:PI X tg iter wi)(hg:PG X tg g)(hb:PSs X body tb)
  (hs:∀ x,foldedSetIterable iter X.env x=pure x:=by intro _;rfl):PS X (.For tg iter body [] pos) (Hy wi g tb):=by
 intro pins s σ H D I h;refine wpAny_For (thn (hi pins s σ H _ I h) λ v s1 h1=>thn h1 λ itv s2 h2=>?_) hs;obtain⟨it,fp,tn,J,H2,e,I2,T,st2,f2,W,⟨m0,w0⟩,turn⟩:=h2;subst e;have stat:∀ {H':Hp},(∀ b∈fp,H' b=none)->∀ b∈fp,mJ X pins H' b:=λ hn b hb=>⟨hn b hb,(f2 b hb).2⟩;refine codeAny_forLoop_any (λ n s'=>∃ i σ' H',Inv X pins σ' H' s'/\tn i s'.heap/\(∀ b∈fp,H' b=none)/\W i n σ' H') ?_ m0 ⟨0,σ,H2,I2,st2,λ b hb=>(f2 b hb).1,w0⟩;rintro n s3 ⟨i,σ3,H3,I3,st3,fr3,w3⟩
 rcases turn i n σ3 H3 w3 with ⟨stop,qn⟩|⟨go,N,hN,step⟩
 ·refine La hp (thn (T.done X rfl rfl rfl hc i pins s3 σ3 H3 X.xe I3 (stat fr3) st3 stop) λ r s4 ⟨hr,I4⟩=>?_);subst hr;exact LH ⟨σ3,H3,I4,qn⟩
 ·refine La hp (thn (T.item X rfl rfl rfl hc i pins s3 σ3 H3 X.xe I3 (stat fr3) st3 go) λ r s4 ⟨u,hr,h4⟩=>?_);subst hr;refine La hp (thn h4 λ _ s5 ⟨x,H5,I5,r5,y5,st5,fr5⟩=>?_);have I5':=I5.pinned (stat fr5) (T.obj _ _ st5);refine La hp (thn (hg _ s5 σ3 H5 x u _ I5' r5 (step x H5 y5)) λ _ s6 ⟨σ6,H6,I6,q6⟩=>?_);refine La hp (thn (hb _ s6 σ6 H6 _ I6 q6) λ f s7 q7=>?_)
  have again:∀ {σ7:St} {H7:Hp},Inv X (pins++kX fp s5.heap) σ7 H7 s7->N σ7 H7->∃ m,m < n/\∃ i σ' H',Inv X pins σ' H' s7/\tn i s7.heap/\(∀ b∈fp,H' b=none)/\W i m σ' H':=λ {σ7 H7} I7 n7=>by
   obtain⟨m',hm,w7⟩:=hN σ7 H7 n7;refine⟨m',hm,i+1,σ7,H7,I7.unpinned,T.keep _ _ _ st5 λ b hb o e=>(I7.pin (b,o) (J8 _ (J8 _ (eF hb e)))).1,λ b hb=>?_,w7⟩;obtain⟨o,e,d⟩:=T.obj _ _ st5 b hb;exact(I7.pin (b,o) (J8 _ (J8 _ (eF hb e)))).2.1
  cases f with
  | next=>obtain⟨σ7,H7,I7,n7⟩:=q7;exact again I7 n7
  | cont=>obtain⟨σ7,H7,I7,n7⟩:=q7;exact again I7 n7
  | brk=>obtain⟨σ7,H7,I7,q7⟩:=q7;exact⟨σ7,H7,I7.unpinned,q7⟩
  | ret v=>obtain⟨x7,σ7,H7,I7,r7,q7⟩:=q7;exact⟨x7,σ7,H7,I7.unpinned,r7,q7⟩
end
theorem xA{K:PySem.W.Frag}{a:Addr}{xs:List V}{g:TG}{tb:TS}{D:fk}{σ:St}{H:Hp}(Pv:Nat->St->Hp->Prop)(h0:Pv 0 σ H)(hl:∀ i σ H,i<=xs.length->Pv i σ H->SqL K H a xs)
  (hs:∀ i x σ H,xs[i]? = some x->Pv i σ H->g x σ H λ σ2 H2=>tb { D with nx:=Pv (i+1),ct:=Pv (i+1),bk:=D.nx } σ2 H2) (hd:∀ σ H,Pv xs.length σ H->D.nx σ H) :
  ∃ W:Nat->Nat->St->Hp->Prop,(∃ m,W 0 m σ H)/\∀ i m σ H,W i m σ H →
   ((Itl K a).stop i H/\D.nx σ H)\/((Itl K a).go i H/\∃ N:St->Hp->Prop,(∀ σ' H',N σ' H'->∃ m',m' < m/\W (i+1) m' σ' H')/\∀ x H',(Itl K a).yld i H x H'->g x σ H' λ σ2 H2=>tb { D with nx:=N,ct:=N,bk:=D.nx } σ2 H2):=by
 refine⟨λ i m σ H=>m=xs.length - i/\i<=xs.length/\Pv i σ H,⟨xs.length,by simp,Kw _,h0⟩,?_⟩;rintro i m σ H ⟨rfl,hi,p⟩;have q:=hl i σ H hi p
 by_cases hlt:i < xs.length
 ·refine .inr ⟨⟨xs,xs[i],q,by simp [hlt]⟩,Pv (i+1),λ σ' H' p'=>⟨xs.length - (i+1),by omega,rfl,hlt,p'⟩,λ x H' y=>?_⟩;obtain⟨e,y⟩:=y;subst e;exact hs i x σ _ (y xs q) p
 ·have e:i=xs.length:=by omega
  subst e;exact .inl ⟨⟨xs,q,JB _⟩,hd σ H p⟩
theorem uK{lo:Int}{n:Nat}{g:TG}{tb:TS}{D:fk}{σ:St}{H:Hp}(Pv:Nat->St->Hp->Prop)(h0:Pv 0 σ H)
  (hs:∀ i σ H,i < n->Pv i σ H->g (.int (lo+i)) σ H λ σ2 H2=>tb { D with nx:=Pv (i+1),ct:=Pv (i+1),bk:=D.nx } σ2 H2) (hd:∀ σ H,Pv n σ H->D.nx σ H) :
  ∃ W:Nat->Nat->St->Hp->Prop,(∃ m,W 0 m σ H)/\∀ i m σ H,W i m σ H →
   ((Itr lo n).stop i H/\D.nx σ H)\/((Itr lo n).go i H/\∃ N:St->Hp->Prop,(∀ σ' H',N σ' H'->∃ m',m' < m/\W (i+1) m' σ' H')/\∀ x H',(Itr lo n).yld i H x H'->g x σ H' λ σ2 H2=>tb { D with nx:=N,ct:=N,bk:=D.nx } σ2 H2):=by
 refine⟨λ i m σ H=>m=n - i/\i<=n/\Pv i σ H,⟨n,by simp,Kw _,h0⟩,?_⟩;rintro i m σ H ⟨rfl,hi,p⟩
 by_cases hlt:i < n
 ·refine .inr ⟨hlt,Pv (i+1),λ σ' H' p'=>⟨n - (i+1),by omega,rfl,hlt,p'⟩,λ x H' y=>?_⟩;obtain⟨e,y⟩:=y;subst e y;exact hs i σ _ hlt p
 ·have e:i=n:=by omega
  subst e;exact .inl ⟨JB _,hd σ H p⟩
abbrev R2:=V->V->Hp->VK->Prop
def OpR(X:Cx)(f:Value->Value->Sem Value)(r:R2):Prop:=
 ∀ (pins:List (Addr × Obj)) (s:Shared) (σ:St) (H:Hp) (x y:V) (v u:Value) (Q:VK),Inv X pins σ H s->bG x v->bG y u->r x y H Q →
  wpAny (model X.prog X.w) X.A (f v u) (EP X pins σ Q) X.xe s
def UnR(X:Cx)(f:Value->Sem Value)(r:V->Hp->VK->Prop):Prop:=
 ∀ (pins:List (Addr × Obj)) (s:Shared) (σ:St) (H:Hp) (x:V) (v:Value) (Q:VK),Inv X pins σ H s->bG x v->r x H Q →
  wpAny (model X.prog X.w) X.A (f v) (EP X pins σ Q) X.xe s
def bE(X:Cx)(f:Value)(r:List V->Hp->VK->Prop):Prop:=
 ∀ (pins:List (Addr × Obj)) (s:Shared) (σ:St) (H:Hp) (xs:List V) (us:List Value) (Q:VK),Inv X pins σ H s->bq xs us->r xs H Q →
  wpAny (model X.prog X.w) X.A (call f us) (EP X pins σ Q) X.xe s
def Ji(X:Cx)(r:V->Hp->(Bool->Hp->Prop)->Prop):Prop:=
 ∀ (pins:List (Addr × Obj)) (s:Shared) (σ:St) (H:Hp) (x:V) (v:Value) (Q:Bool->Hp->Prop),Inv X pins σ H s->bG x v->r x H Q →
  wpAny (model X.prog X.w) X.A (truthy v) (TP X pins σ Q) X.xe s
def tOp(r:R2)(ta tb:TE):TE:=λ σ H Q=>ta σ H λ x H1=>tb σ H1 λ y H2=>r x y H2 Q
def tUn(r:V->Hp->VK->Prop)(ta:TE):TE:=λ σ H Q=>ta σ H λ x H1=>r x H1 Q
def rI(C:Int->Int->Prop)(g:Int->Int->V):R2:=λ x y H Q=>∃ i j,x=.int i/\y=.int j/\C i j/\Q (g i j) H
def rI0(g:Int->Int->V):R2:=λ x y H Q=>∃ i j,x=.int i/\y=.int j/\Q (g i j) H
def rU(g:Int->V):V->Hp->VK->Prop:=λ x H Q=>∃ i,x=.int i/\Q (g i) H
section
variable {X:Cx}{a b c:Expr}{ta tb tc:TE}{pos:Pos}
theorem FV(ha:PE X a ta)(hb:PE X b tb){pins:List (Addr × Obj)}{s:Shared}{σ:St}{H:Hp}{R:V->V->Hp->Prop}(I:Inv X pins σ H s)
  (h:ta σ H λ x H1=>tb σ H1 λ y H2=>R x y H2) {Q:Value->Shared->Prop} {f:Value->Value->Sem Value}
  (hf:∀ v u s2 x y H2,Inv X pins σ H2 s2->bG x v->bG y u->R x y H2->wpAny (model X.prog X.w) X.A (f v u) Q X.xe s2) :
  wpAny (model X.prog X.w) X.A (eval a X.env) (λ v s₁=>wpAny (model X.prog X.w) X.A (eval b X.env) (λ u s₂=>wpAny (model X.prog X.w) X.A (f v u) Q X.xe s₂) X.xe s₁) X.xe s:=by
 refine thn (ha pins s σ H _ I h) λ v s1 ⟨x,H1,I1,r1,q1⟩=>?_;refine thn (hb pins s1 σ H1 _ I1 q1) λ u s2 ⟨y,H2,I2,r2,q2⟩=>?_;exact hf v u s2 x y H2 I2 r1 r2 q2
theorem dR{op:Operator}{r:R2}(ho:OpR X (binaryOp op) r)(ha:PE X a ta)(hb:PE X b tb):PE X (.BinOp a op b pos) (tOp r ta tb):=by
 intro pins s σ H Q I h;exact wpAny_BinOp (FV ha hb I h λ v u s2 x y H2 I2 rx ry q=>ho pins s2 σ H2 x y v u Q I2 rx ry q)
theorem Gh{op:UnaryOp}{r:V->Hp->VK->Prop}(ho:UnR X (unaryOp op) r)(ha:PE X a ta):PE X (.UnaryOp op a pos) (tUn r ta):=by
 intro pins s σ H Q I h;exact UnaryOp_ (thn (ha pins s σ H _ I h) λ v s1 ⟨x,H1,I1,r1,q1⟩=>ho pins s1 σ H1 x v Q I1 r1 q1)
theorem opI{f:Value->Value->Sem Value}{C:Int->Int->Prop}{g:Int->Int->Int}
  (rule:∀ (i j:Int) (t u:Tok) (s:Shared) (Q:Value->Shared->Prop) (E:Value->Shared->Prop),C i j->Q (.int (g i j) s.toks) { s with toks:=s.toks+1 }->wpAny (model X.prog X.w) X.A (f (.int i t) (.int j u)) Q E s) :
  OpR X f (rI C λ i j=>.int (g i j)):=by
 intro pins s σ H x y v u Q I rx ry h;obtain⟨i,j,rfl,rfl,hc,q⟩:=h;obtain⟨t,rfl⟩:=rx;obtain⟨t',rfl⟩:=ry;exact rule i j t t' s _ _ hc ⟨.int (g i j),H,I.tok _,⟨_,rfl⟩,q⟩
theorem HG{f:Value->Value->Sem Value}{g:Int->Int->Int}
  (rule:∀ (i j:Int) (t u:Tok) (s:Shared) (Q:Value->Shared->Prop) (E:Value->Shared->Prop),Q (.int (g i j) s.toks) { s with toks:=s.toks+1 }->wpAny (model X.prog X.w) X.A (f (.int i t) (.int j u)) Q E s) :
  OpR X f (rI0 λ i j=>.int (g i j)):=by
 intro pins s σ H x y v u Q I rx ry h;obtain⟨i,j,rfl,rfl,q⟩:=h;obtain⟨t,rfl⟩:=rx;obtain⟨t',rfl⟩:=ry;exact rule i j t t' s _ _ ⟨.int (g i j),H,I.tok _,⟨_,rfl⟩,q⟩
theorem E3{f:Value->Value->Sem Value}{g:Int->Int->Bool}
  (rule:∀ (i j:Int) (t u:Tok) (s:Shared) (Q:Value->Shared->Prop) (E:Value->Shared->Prop),Q (.bool (g i j)) s->wpAny (model X.prog X.w) X.A (f (.int i t) (.int j u)) Q E s) :
  OpR X f (rI0 λ i j=>.bl (g i j)):=by
 intro pins s σ H x y v u Q I rx ry h;obtain⟨i,j,rfl,rfl,q⟩:=h;obtain⟨t,rfl⟩:=rx;obtain⟨t',rfl⟩:=ry;exact rule i j t t' s _ _ ⟨.bl (g i j),H,I,rfl,q⟩
def FZ(i j:Int):Prop:=0 < j/\j < 1073741824
def FY(i j:Int):Prop:=0<=j/\j<=1000000/\i.natAbs < 2 ^ 64
def jw(i j:Int):Prop:=(-(2 ^ 64) < i/\i < 2 ^ 64)\/(-(2 ^ 64) < j/\j < 2 ^ 64)
theorem jw.ok{i j:Int}(h:jw i j):IntMulOk i j:=by
 rcases h with ⟨h1,h2⟩|⟨h1,h2⟩
 ·exact .of_left (intBits_le_64 h1 h2)
 ·exact .of_right (intBits_le_64 h1 h2)
theorem oh:OpR X (binaryOp .Add) (rI0 λ i j=>.int (i+j)):=HG λ _ _ _ _ _ _ _ q=>add_int q
theorem Dd:OpR X (binaryOp .Sub) (rI0 λ i j=>.int (i - j)):=HG λ _ _ _ _ _ _ _ q=>sub_int q
theorem fW:OpR X (binaryOp .Mult) (rI jw λ i j=>.int (i * j)):=opI λ _ _ _ _ _ _ _ hc q=>mul_int q hc.ok
theorem Ac:OpR X (binaryOp .FloorDiv) (rI FZ λ i j=>.int (i / j)):=opI λ i j _ _ _ _ _ hc q=>by
 have h1:(0:Int) < j:=hc.1;have h2:j < 1073741824:=hc.2;exact floordiv_int (by omega) (by rw [Int.fdiv_eq_ediv_of_nonneg i (by omega)];exact q) (.inl (PyProof.noPylong_small (by omega)))
theorem gI:OpR X (binaryOp .Mod) (rI (λ _ j=>0 < j) λ i j=>.int (i % j)):=opI λ i j _ _ _ _ _ hc q=>by
 have h1:(0:Int) < j:=hc;exact mod_int' (by omega) (by rw [Int.fmod_eq_emod_of_nonneg i (by omega)];exact q)
theorem Df:OpR X (binaryOp .Pow) (rI FY λ i j=>.int (i ^ j.toNat)):=opI λ _ _ _ _ _ _ _ hc q=>pow_int_small hc.1 hc.2.1 hc.2.2 q
theorem unI{f:Value->Sem Value}{g:Int->Int}
  (rule:∀ (i:Int) (t:Tok) (s:Shared) (Q:Value->Shared->Prop) (E:Value->Shared->Prop),Q (.int (g i) s.toks) { s with toks:=s.toks+1 }->wpAny (model X.prog X.w) X.A (f (.int i t)) Q E s) :
  UnR X f (rU λ i=>.int (g i)):=by
 intro pins s σ H x v Q I rx h;obtain⟨i,rfl,q⟩:=h;obtain⟨t,rfl⟩:=rx;exact rule i t s _ _ ⟨.int (g i),H,I.tok _,⟨_,rfl⟩,q⟩
theorem CH:UnR X (unaryOp .USub) (rU λ i=>.int (-i)):=unI λ _ _ _ _ _ q=>neg_int q
end
def BN:V->V->Bool
 | .non,.non=>true | .non,.int _=>true | .int _,.non=>true | .non,.bl _=>true | .bl _,.non=>true | .non,.str _=>true | .str _,.non=>true
 | .int _,.int _=>true | .bl _,.bl _=>true | .str _,.str _=>true | .byt _,.byt _=>true
 | .int _,.str _=>true | .str _,.int _=>true | .bl _,.str _=>true | .str _,.bl _=>true
 | _,_=>false
def rEq:R2:=λ x y H Q=>BN x y=true/\Q (.bl (decide (x=y))) H
def rNe:R2:=λ x y H Q=>BN x y=true/\Q (.bl (!decide (x=y))) H
theorem sF{i j:Int}:decide (V.int i=V.int j)=(i == j):=by
 rw [Lz];simp
theorem yA{i j:Bool}:decide (V.bl i=V.bl j)=(i == j):=by
 rw [Lz];simp
theorem sE{i j:Str}:decide (V.str i=V.str j)=(i == j):=by
 rw [Lz];simp
theorem sG{i j:Array UInt8}:decide (V.byt i=V.byt j)=(i.toList == j.toList):=by
 rw [Lz];cases i;cases j;simp
section
variable {X:Cx}{a b c:Expr}{ta tb tc:TE}{pos:Pos}
theorem aP{pins:List (Addr × Obj)}{σ:St}{H:Hp}{s:Shared}{Q:VK}{k k':Bool}(I:Inv X pins σ H s)(q:Q (.bl k) H)(e:k=k'):EP X pins σ Q (.bool k') s:=by
 subst e;exact⟨.bl k,H,I,rfl,q⟩
theorem Gq:OpR X (compareOp .Eq) rEq:=by
 intro pins s σ H x y v u Q I rx ry h;obtain⟨hs,q⟩:=h
 cases x with
 | non=>
  cases rx
  cases y with
  | non=>cases ry;exact PySem.EqNone.eq_none_none (aP I q (by simp))
  | bl j=>cases ry;exact PySem.EqNone.eq_none_bool (aP I q (by simp))
  | int j=>obtain⟨t',rfl⟩:=ry;exact PySem.EqNone.eq_none_int (aP I q (by simp))
  | str j=>obtain⟨t',rfl⟩:=ry;exact PySem.EqNone.eq_none_str (aP I q (by simp))
  | _=>exact absurd (show false=true from hs) JO
 | bl i=>
  cases rx
  cases y with
  | non=>cases ry;exact PySem.EqNone.eq_bool_none (aP I q (by simp))
  | bl j=>cases ry;exact eq_bool (aP I q yA)
  | str j=>obtain⟨t',rfl⟩:=ry;exact PySem.EqMixed.eq_bool_str (aP I q (by simp))
  | _=>exact absurd (show false=true from hs) JO
 | int i=>
  obtain⟨t,rfl⟩:=rx
  cases y with
  | non=>cases ry;exact PySem.EqNone.eq_int_none (aP I q (by simp))
  | int j=>obtain⟨t',rfl⟩:=ry;exact eq_int (aP I q sF)
  | str j=>obtain⟨t',rfl⟩:=ry;exact PySem.EqMixed.eq_int_str (aP I q (by simp))
  | _=>exact absurd (show false=true from hs) JO
 | str i=>
  obtain⟨t,rfl⟩:=rx
  cases y with
  | non=>cases ry;exact PySem.EqNone.eq_str_none (aP I q (by simp))
  | bl j=>cases ry;exact PySem.EqMixed.eq_str_bool (aP I q (by simp))
  | int j=>obtain⟨t',rfl⟩:=ry;exact PySem.EqMixed.eq_str_int (aP I q (by simp))
  | str j=>obtain⟨t',rfl⟩:=ry;exact eq_str (aP I q sE)
  | _=>exact absurd (show false=true from hs) JO
 | byt i=>
  obtain⟨t,rfl⟩:=rx
  cases y with
  | byt j=>obtain⟨t',rfl⟩:=ry;exact W.eq_bytes (aP I q sG)
  | _=>exact absurd (show false=true from hs) JO
 | _=>cases y<;>exact absurd (show false=true from hs) JO
theorem Gm:OpR X (compareOp .NotEq) rNe:=by
 intro pins s σ H x y v u Q I rx ry h;obtain⟨hs,q⟩:=h
 cases x with
 | non=>
  cases rx
  cases y with
  | non=>cases ry;exact PySem.EqNone.ne_none_none (aP I q (by simp))
  | bl j=>cases ry;exact PySem.EqNone.ne_none_bool (aP I q (by simp))
  | int j=>obtain⟨t',rfl⟩:=ry;exact PySem.EqNone.ne_none_int (aP I q (by simp))
  | str j=>obtain⟨t',rfl⟩:=ry;exact PySem.EqNone.ne_none_str (aP I q (by simp))
  | _=>exact absurd (show false=true from hs) JO
 | bl i=>
  cases rx
  cases y with
  | non=>cases ry;exact PySem.EqNone.ne_bool_none (aP I q (by simp))
  | bl j=>cases ry;exact ne_bool (aP I q (KO not yA))
  | str j=>obtain⟨t',rfl⟩:=ry;exact PySem.EqMixed.ne_bool_str (aP I q (by simp))
  | _=>exact absurd (show false=true from hs) JO
 | int i=>
  obtain⟨t,rfl⟩:=rx
  cases y with
  | non=>cases ry;exact PySem.EqNone.ne_int_none (aP I q (by simp))
  | int j=>obtain⟨t',rfl⟩:=ry;exact ne_int (aP I q (KO not sF))
  | str j=>obtain⟨t',rfl⟩:=ry;exact PySem.EqMixed.ne_int_str (aP I q (by simp))
  | _=>exact absurd (show false=true from hs) JO
 | str i=>
  obtain⟨t,rfl⟩:=rx
  cases y with
  | non=>cases ry;exact PySem.EqNone.ne_str_none (aP I q (by simp))
  | bl j=>cases ry;exact PySem.EqMixed.ne_str_bool (aP I q (by simp))
  | int j=>obtain⟨t',rfl⟩:=ry;exact PySem.EqMixed.ne_str_int (aP I q (by simp))
  | str j=>obtain⟨t',rfl⟩:=ry;exact ne_str (aP I q (KO not sE))
  | _=>exact absurd (show false=true from hs) JO
 | byt i=>
  obtain⟨t,rfl⟩:=rx
  cases y with
  | byt j=>obtain⟨t',rfl⟩:=ry;exact W.ne_bytes (aP I q (KO not sG))
  | _=>exact absurd (show false=true from hs) JO
 | _=>cases y<;>exact absurd (show false=true from hs) JO
theorem Ce:OpR X (compareOp .Lt) (rI0 λ i j=>.bl (decide (i < j))):=E3 λ _ _ _ _ _ _ _ q=>lt_int q
theorem Gn:OpR X (compareOp .LtE) (rI0 λ i j=>.bl (decide (i<=j))):=E3 λ _ _ _ _ _ _ _ q=>le_int q
theorem Cf:OpR X (compareOp .Gt) (rI0 λ i j=>.bl (decide (j < i))):=E3 λ _ _ _ _ _ _ _ q=>gt_int q
theorem Gp:OpR X (compareOp .GtE) (rI0 λ i j=>.bl (decide (j<=i))):=E3 λ _ _ _ _ _ _ _ q=>ge_int q
theorem Dh:OpR X (compareOp .Is) (λ x y H Q=>y=.non/\Q (.bl (decide (x=.non))) H):=by
 intro pins s σ H x y v u Q I rx ry h;obtain⟨rfl,q⟩:=h;cases ry;refine is_none_gen (aP I q ?_)
 cases x<;>first
  | (cases rx;rfl)
  | (obtain⟨t,rfl⟩:=rx;rfl)
theorem OpR.or{f:Value->Value->Sem Value}{r r':R2}(h:OpR X f r)(h':OpR X f r'):OpR X f (λ x y H Q=>r x y H Q\/r' x y H Q):=by
 intro pins s σ H x y v u Q I rx ry q
 rcases q with q|q
 ·exact h pins s σ H x y v u Q I rx ry q
 ·exact h' pins s σ H x y v u Q I rx ry q
theorem af(b:Expr){op:CmpOp}(h:op ≠ .In:=by decide)(h2:op ≠ .NotIn:=by decide):behindInMarks op b=false:=by
 have e1:(op == CmpOp.In)=false:=by cases op<;>first|rfl|exact absurd rfl h
 have e2:(op == CmpOp.NotIn)=false:=by cases op<;>first|rfl|exact absurd rfl h2
 cases b<;>simp [behindInMarks,e1,e2]
theorem zW{op:CmpOp}{r:R2}(ho:OpR X (compareOp op) r)(ha:PE X a ta)(hb:PE X b tb)(hm:behindInMarks op b=false):PE X (.Compare a [op] [b] pos) (tOp r ta tb):=by
 intro pins s σ H Q I h;exact wpAny_Compare1 (FV ha hb I h λ v u s2 x y H2 I2 rx ry q=>ho pins s2 σ H2 x y v u Q I2 rx ry q) hm
def vq(t:TE):TT:=λ σ H Q=>t σ H λ x H'=>∃ k,x=.bl k/\Q k H'
theorem m7{op:CmpOp}{r:R2}(ho:OpR X (compareOp op) r)(ha:PE X a ta)(hb:PE X b tb)(hm:behindInMarks op b=false):PT X (.Compare a [op] [b] pos) (vq (tOp r ta tb)):=by
 intro pins s σ H Q I h
 refine wpAny_isTrue_Compare1 (thn (ha pins s σ H _ I h) λ v s1 ⟨x,H1,I1,r1,q1⟩=>thn (hb pins s1 σ H1 _ I1 q1) λ u s2 ⟨y,H2,I2,r2,q2⟩=>
  thn (ho pins s2 σ H2 x y v u _ I2 r1 r2 q2) λ c s3 ⟨z,H3,I3,r3,k,e,q3⟩=>?_) hm
 subst e;cases r3;exact Kl ⟨H3,I3,q3⟩
def rp(r r':R2)(ta tb tc:TE):TE:=λ σ H Q=>ta σ H λ x H1=>tb σ H1 λ y H2=>r x y H2 λ z H3=>∃ k,z=.bl k /\
 (if k=true then tc σ H3 λ w' H4=>r' y w' H4 Q else Q (.bl false) H3)
theorem wm{op op':CmpOp}{r r':R2}(ho:OpR X (compareOp op) r)(ho':OpR X (compareOp op') r')(ha:PE X a ta)(hb:PE X b tb)(hc:PE X c tc)
  (hm:lastMarks [op,op'] [b,c]=false:=by with_unfolding_all rfl):PE X (.Compare a [op,op'] [b,c] pos) (rp r r' ta tb tc):=by
 intro pins s σ H Q I h
 refine Compare_chain (thn (ha pins s σ H _ I h) λ v s1 ⟨x,H1,I1,r1,q1⟩=>chain_link (thn (hb pins s1 σ H1 _ I1 q1) λ u s2 ⟨y,H2,I2,r2,q2⟩=>
  thn (ho pins s2 σ H2 x y v u _ I2 r1 r2 q2) λ d s3 ⟨z,H3,I3,r3,k,e,q3⟩=>?_)) hm
 subst e;cases r3;refine Kl ?_
 cases k with
 | false=>exact ite_ff ⟨.bl false,H3,I3,rfl,q3⟩
 | true=>exact ite_tt (chain_last (thn (hc pins s3 σ H3 _ I3 q3) λ w' s4 ⟨z',H4,I4,r4,q4⟩=>ho' pins s4 σ H4 y z' u w' Q I4 r2 r4 q4))
theorem vY{op op':CmpOp}{r r':R2}(ho:OpR X (compareOp op) r)(ho':OpR X (compareOp op') r')(ha:PE X a ta)(hb:PE X b tb)(hc:PE X c tc)
  (hm:lastMarks [op,op'] [b,c]=false:=by with_unfolding_all rfl):PT X (.Compare a [op,op'] [b,c] pos) (vq (rp r r' ta tb tc)):=by
 intro pins s σ H Q I h
 refine isTrue_chain (thn (ha pins s σ H _ I h) λ v s1 ⟨x,H1,I1,r1,q1⟩=>test_link (thn (hb pins s1 σ H1 _ I1 q1) λ u s2 ⟨y,H2,I2,r2,q2⟩=>
  thn (ho pins s2 σ H2 x y v u _ I2 r1 r2 q2) λ d s3 ⟨z,H3,I3,r3,k,e,q3⟩=>?_)) hm
 subst e;cases r3;refine Kl ?_
 cases k with
 | false=>
  obtain⟨k',e',q'⟩:=q3;cases e';exact ite_ff ⟨H3,I3,q'⟩
 | true=>
  refine ite_tt (test_last (thn (hc pins s3 σ H3 _ I3 q3) λ w' s4 ⟨z',H4,I4,r4,q4⟩=>thn (ho' pins s4 σ H4 y z' u w' _ I4 r2 r4 q4) λ d' s5 ⟨z2,H5,I5,r5,k2,e2,q5⟩=>?_));subst e2;cases r5;exact Kl ⟨H5,I5,q5⟩
def Jh(K:W.Frag)(x:V)(H:Hp)(k:Bool):Prop:=
 match x with
 | .non=>k=false
 | .bl b=>k=b
 | .int i=>k=(i != 0)
 | .str y=>y.length<=sizeLine/\k=((y.length:Int) != 0)
 | .byt y=>y.size<=sizeLine/\k=((y.size:Int) != 0)
 | .ref p=>(∃ xs,SqL K H p xs/\k = !xs.isEmpty)\/(∃ xs,SqT K H p xs/\k = !xs.isEmpty)\/∃ kvs,H p=some (.dK kvs)/\k = !kvs.isEmpty
 | _=>False
theorem qq{κ:Type}{kvs:List (κ × V)}{vs:List (κ × Value)}(r:KV kvs vs):(!vs.isEmpty) = !kvs.isEmpty:=by
 cases r<;>rfl
theorem jg{xs:List V}{its:List Value}(r:bq xs its):(!its.toArray.isEmpty) = !xs.isEmpty:=by
 cases r<;>simp
theorem iY:(sizeLine:Nat) < 2 ^ 63:=by rw [sizeLine_eq];decide
theorem rl:Ji X (λ x H Q=>∃ k,Jh X.K x H k/\Q k H):=by
 intro pins s σ H x v Q I rx h;obtain⟨k,e,q⟩:=h;have hl:=iY;have hs:sizeLine=16777216:=sizeLine_eq
 cases x with
 | non=>
  cases rx;have e':k=false:=e;subst e';exact truthy_none ⟨H,I,q⟩
 | bl b=>
  cases rx;have e':k=b:=e;subst e';exact Kl ⟨H,I,q⟩
 | int i=>
  obtain⟨t,rfl⟩:=rx;have e':k=(i != 0):=e;subst e';exact PySem.P.truthy_int ⟨H,I,q⟩
 | str y=>
  obtain⟨t,rfl⟩:=rx;obtain⟨hy,e'⟩:y.length<=sizeLine/\k=((y.length:Int) != 0):=e;subst e';exact PySem.P.truthy_str (by omega) ⟨H,I.tok _,q⟩
 | byt y=>
  obtain⟨t,rfl⟩:=rx;obtain⟨hy,e'⟩:y.size<=sizeLine/\k=((y.size:Int) != 0):=e;subst e';exact W.truthy_bytes (by omega) ⟨H,I.tok _,q⟩
 | ref p=>
  cases rx;have e':(∃ xs,SqL X.K H p xs/\k = !xs.isEmpty)\/(∃ xs,SqT X.K H p xs/\k = !xs.isEmpty)\/∃ kvs,H p=some (.dK kvs)/\k = !kvs.isEmpty:=e
  rcases e' with ⟨xs,hx,e'⟩|⟨xs,hx,e'⟩|⟨kvs,hx,e'⟩
  ·subst e';obtain⟨its,r,pl,hz⟩:=I.list hx;have hlen:=r.length;exact wpAny_truthy_list pl.isList (by simp only [JQ];omega) ⟨H,I.tok _,by rw [jg r];exact q⟩
  ·subst e';obtain⟨its,r,pl,hz⟩:=I.tuple hx;have hlen:=r.length;exact truthy_tuple pl (by simp only [JQ];omega) ⟨H,I.tok _,by rw [jg r];exact q⟩
  ·subst e';obtain⟨hz,hS,vs,r,m⟩:kvs.length<=sizeLine/\(p == sysModules)=false/\∃ vs,KV kvs vs/\s.heap.DictOf (bz X.prog X.w) p vs:=I.hok p _ hx;have hlen:kvs.length=vs.length:=LG r;exact wpAny_truthy_dict hS m (by omega) ⟨H,I.tok _,by rw [qq r];exact q⟩
 | _=>exact(show False from e).elim
theorem mK{x:V}{us:List Value}(r:bq [x] us):∃ u,us=[u]/\bG x u:=by
 cases r with
 | cons r1 r2=>cases r2;exact⟨_,rfl,r1⟩
theorem vp{x y:V}{us:List Value}(r:bq [x,y] us):∃ u w',us=[u,w']/\bG x u/\bG y w':=by
 cases r with
 | cons r1 r2=>
  cases r2 with
  | cons r3 r4=>cases r4;exact⟨_,_,rfl,r1,r3⟩
theorem xQ:bE X (.builtin "abs") (λ xs H Q=>∃ i,xs=[.int i]/\Q (.int (if i < 0 then -i else i)) H):=by
 intro pins s σ H xs us Q I r h;obtain⟨i,rfl,q⟩:=h;obtain⟨u,rfl,t,rfl⟩:=mK r;exact call_abs_int λ u tk=>⟨.int (if i < 0 then -i else i),H,I.tok _,⟨_,rfl⟩,q⟩
theorem uU(hc:X.calm=true):bE X (.builtin "max") (λ xs H Q=>∃ i j,xs=[.int i,.int j]/\Q (.int (if j > i then j else i)) H):=by
 intro pins s σ H xs us Q I r h;obtain⟨i,j,rfl,q⟩:=h;obtain⟨u,w',rfl,⟨t,rfl⟩,⟨t',rfl⟩⟩:=vp r;refine max_two_ints (I.ok.hd hc) λ h' tk k=>⟨_,H,I.kept k,?_,q⟩
 by_cases hj:j > i
 ·rw [JM hj,JM hj];exact⟨_,rfl⟩
 ·rw [JL hj,JL hj];exact⟨_,rfl⟩
theorem uT(hc:X.calm=true):bE X (.builtin "min") (λ xs H Q=>∃ i j,xs=[.int i,.int j]/\Q (.int (if j < i then j else i)) H):=by
 intro pins s σ H xs us Q I r h;obtain⟨i,j,rfl,q⟩:=h;obtain⟨u,w',rfl,⟨t,rfl⟩,⟨t',rfl⟩⟩:=vp r;refine min_two_ints (I.ok.hd hc) λ h' tk k=>⟨_,H,I.kept k,?_,q⟩
 by_cases hj:j < i
 ·rw [JM hj,JM hj];exact⟨_,rfl⟩
 ·rw [JL hj,JL hj];exact⟨_,rfl⟩
theorem uW:bE X (.type "int") (λ xs H Q=>(∃ i,xs=[.int i]/\Q (.int i) H)\/∃ k,xs=[.bl k]/\Q (.int (if k then 1 else 0)) H):=by
 intro pins s σ H xs us Q I r h
 rcases h with ⟨i,rfl,q⟩|⟨k,rfl,q⟩
 ·obtain⟨u,rfl,t,rfl⟩:=mK r;exact call_int_int ⟨.int i,H,I,⟨_,rfl⟩,q⟩
 ·obtain⟨u,rfl,r1⟩:=mK r;cases r1;exact call_int_bool ⟨.int (if k then 1 else 0),H,I.tok _,⟨_,rfl⟩,q⟩
end
structure yL(h:Heap)(x dx C:Addr)(mA:Str->Option Value):Prop where
 obj:h.get? x=some (W.instObj C dx)
 ns:h.Ns1 dx mA
 ne:dx ≠ x
theorem lE{h:Heap}{dx:Addr}{mA:Str->Option Value}(n:h.Ns1 dx mA):∃ od,h.get? dx=some od/\∀ name,W.lookIn name od=some (mA name):=by
 obtain⟨o,es,ep,ho,hd,hk,_,hm⟩:=n;refine⟨o,ho,λ name=>?_⟩;have e:=hm name;unfold nsFind findBy at e;rw [←Array.find?_toList] at e;unfold W.lookIn;rw [hd];dsimp only;split
 ·rename_i y q;rw [q] at e;exact KO some e
 ·rename_i q;rw [q] at e
  have a:es.toList.any (·.refKey)=false:=by
   rw [List.any_eq_false];intro y hy;obtain⟨z,t,hkey⟩:=hk y (Array.mem_toList_iff.mp hy);simp [DictEntry.refKey,hkey]
  have a':¬ es.toList.any (·.refKey)=true:=by rw [a];exact JO
  rw [JL a'];exact KO some e
theorem yL.look{h:Heap}{x dx C:Addr}{mA:Str->Option Value}(I:yL h x dx C mA):∃ od,W.InstAt h x (W.instObj C dx) C (some od)/\∀ name,W.lookIn name od=some (mA name):=
 let ⟨od,ho,hl⟩:=lE I.ns
 ⟨od,⟨I.obj,rfl,rfl,ho⟩,hl⟩
section
variable {prog:Program}{w:World}{A:Around}{E:Value->Shared->Prop}{s:Shared}{K:PySem.W.Frag}{x dx C f:Addr}{mA:Str->Option Value}{name:Str}{v:Value}
theorem Bj{expr:Bool}{Q:Value->Shared->Prop}(X:K.In s.heap)(I:yL s.heap x dx C mA)(hg:W.plainGet K C name=true)(hh:W.hasDictIn K C=true)
  (ha:W.findIn K (.ref C) name=some none) (hv:mA name=some v) (hv':W.handedIn v=true) (h:Q v { s with toks:=s.toks+1 }) :
  wpAny (model prog w) A (getAttr (.ref x) name expr) Q E s:=by
 obtain⟨od,J,hl⟩:=I.look;exact W.get_value X J (W.plainGet_of hg).1 (W.findObj_own hh ha rfl (by rw [hl,hv])) hv' h
theorem xt{pl:Sem Bool}{Q:Value × List Value->Shared->Prop}(X:K.In s.heap)(I:yL s.heap x dx C mA)(hg:W.plainGet K C name=true)
  (hf:W.findIn K (.ref C) name=some (some (.ref f))) (ht:W.isFn K (.ref f)=true) (hv:mA name=none) (h:Q (.ref f,[.ref x]) s) :
  wpAny (model prog w) A (getMethod (.ref x) name pl) Q E s:=by
 obtain⟨od,J,hl⟩:=I.look;exact W.method_fn X J (W.plainGet_of hg).1 (W.plainGet_of hg).2 hf (Lq.mp ht) (by show (W.lookIn name od).map (·.isSome)=some false;rw [hl,hv];rfl) h
theorem zH{ns:List Str}{Q:Unit->Shared->Prop}(X:K.In s.heap)(I:yL s.heap x dx C mA)
  (hs:W.findIn K (.ref C) "__setattr__"=some (some (.builtin "object.__setattr__"))) (hp:W.plainOver K C=true) (ht:W.takerIn K C name=some none) (hh:W.hasDictIn K C=true)
  (hw:PySem.Within mA ns) (hsz:ns.length<=sizeLine)
  (h:∀ h',yL h' x dx C (λ y=>if y=name then some v else mA y)->Heap.SameBut dx s.heap h'->Q () { s with heap:=h',toks:=s.toks+2 }) :
  wpAny (model prog w) A (setAttr (.ref x) name v) Q E s:=by
 obtain⟨od,J,hl⟩:=I.look;refine W.set_plain X J hs (W.osa_open (s:={ s with toks:=s.toks+1 }) (r:=none) X J hp ht λ b=>?_);obtain⟨cd,hc,hd'⟩:=W.any_some hh;have hx:s.heap.get? x=some ⟨.ref C,some dx,.plain,#[]⟩:=I.obj;refine Jx (JE (Jx (Jx (wpAny_loadPart hx (Jx (W.Looks.here (s:={ s with toks:=s.toks+1 }) (W.looks_clsIn X hc) ?_))))));rw [hd'];refine JE (a:=some dx) (Jx (JE (Jx ?_)));refine wpAny_nsSet1 (s:={ s with toks:=s.toks+1 }) I.ns λ h' hn2 hs2=>?_;obtain⟨oD,esD,epD,hoD,hdD,hcD⟩:=hn2.count (PySem.Within.cons name v hw);refine Jx (wpAny_lookBehind hoD (by rw [hdD];exact pastItsLine_dict (JT hcD (by rw [JS];omega))) ?_);exact JE (h _ ⟨(hs2.2 _ (J6 I.ne)).trans I.obj,hn2,I.ne⟩ hs2)
theorem wC{R:Result->Shared->Prop}{vs:List Value}{kw:List (Str × Value)}(X:K.In s.heap)(hm:W.makesIn K C=true)
  (hi:W.findIn K (.ref C) "__init__"=some (some (.ref f))) (hf:W.typeIn K (.ref f)=some (.type "function"))
  (h:codeAny (model prog w) (A.under (.builtin "type.__call__" ⟨.ref C::vs,kw⟩)) (.call (.ref f) ⟨.ref (s.heap.objs.size+1)::vs,kw⟩) (W.InitBack (s.heap.objs.size+1) R)
   { s with heap:=(s.heap.push W.emptyDict).push (W.instObj C s.heap.objs.size) }) :
  codeAny (model prog w) A (.call (.ref C) ⟨vs,kw⟩) R s:=by
 obtain⟨hh,g,d,t,os⟩:=s;exact W.make_core (W.makes_of X hm) (W.looks_findIn X hi) (λ self=>W.bind_fn X self hf) (.inl rfl) h
end
def eA(f:Str)(v:V):List (Str × V)->List (Str × V)
 | []=>[(f,v)]
 | (g,x)::r=>if g=f then (g,v)::r else (g,x)::eA f v r
theorem aS(f g:Str)(v:V):∀ fs:List (Str × V),(eA f v fs).lookup g=if g=f then some v else fs.lookup g
 | []=>by
  show List.lookup g [(f,v)]=_
  by_cases h:g=f
  ·have hb:(g == f)=true:=Lq.mpr h;simp only [List.lookup,hb,JM h]
  ·have hb:(g == f)=false:=Kg.mpr h;simp only [List.lookup,hb,JL h]
 | (k,x)::r=>by
  have ih:=aS f g v r;rw [show eA f v ((k,x)::r)=(if k=f then (k,v)::r else (k,x)::eA f v r) from rfl]
  by_cases hk:k=f
  ·rw [JM hk]
   by_cases h:g=k
   ·have hb:(g == k)=true:=Lq.mpr h;simp only [List.lookup,hb,JM (h.trans hk)]
   ·have hb:(g == k)=false:=Kg.mpr h;simp only [List.lookup,hb,JL (λ e:g=f=>h (e.trans hk.symm))]
  ·rw [JL hk]
   by_cases h:g=k
   ·have hb:(g == k)=true:=Lq.mpr h;simp only [List.lookup,hb,JL (λ e:g=f=>hk (h.symm.trans e))]
   ·have hb:(g == k)=false:=Kg.mpr h;simp only [List.lookup,hb];exact ih
theorem ib(f:Str)(v:V):∀ fs:List (Str × V),f∈(eA f v fs).map (·.1)/\∀ g,g∈fs.map (·.1)->g∈(eA f v fs).map (·.1)
 | []=>⟨by simp [eA],λ g h=>by simp at h⟩
 | (k,x)::r=>by
  obtain⟨i1,i2⟩:=ib f v r;rw [show eA f v ((k,x)::r)=(if k=f then (k,v)::r else (k,x)::eA f v r) from rfl]
  by_cases hk:k=f
  ·rw [JM hk];subst hk;exact⟨by simp,λ g h=>by simpa using h⟩
  ·rw [JL hk];refine⟨?_,λ g h=>?_⟩
   ·rw [KA];exact JG _ i1
   ·rw [KA] at h ⊢
    rcases J2.mp h with e|e
    ·exact J2.mpr (.inl e)
    ·exact JG _ (i2 g e)
theorem iA(f:Str)(v:V):∀ fs:List (Str × V),(eA f v fs).length<=fs.length+1
 | []=>by simp [eA]
 | (k,x)::r=>by
  have ih:=iA f v r;rw [show eA f v ((k,x)::r)=(if k=f then (k,v)::r else (k,x)::eA f v r) from rfl]
  by_cases hk:k=f
  ·rw [JM hk,JS,JS];omega
  ·rw [JL hk,JS,JS];omega
theorem kM.some_of{v:V}{o:Option Value}(r:kM (some v) o):∃ u,o=some u/\bG v u:=by
 cases o with
 | none=>exact(show False from r).elim
 | some u=>exact⟨u,rfl,r⟩
theorem kM.none_of{o:Option Value}(r:kM none o):o=none:=by
 cases o with
 | none=>rfl
 | some u=>exact(show False from r).elim
theorem uI{v:V}{u:Value}(r:bG v u):W.handedIn u=true:=by
 cases v with
 | non=>cases (show u=Value.none from r);rfl
 | bl b=>cases (show u=Value.bool b from r);rfl
 | int i=>obtain⟨t,e⟩:=(show ∃ t,u=Value.int i t from r);cases e;rfl
 | str x=>obtain⟨t,e⟩:=(show ∃ t,u=Value.str x t from r);cases e;rfl
 | byt b=>obtain⟨t,e⟩:=(show ∃ t,u=Value.bytes b t from r);cases e;rfl
 | flt b=>obtain⟨t,e⟩:=(show ∃ t,u=Value.float b t from r);cases e;rfl
 | ref a=>cases (show u=Value.ref a from r);rfl
 | ty n=>cases (show u=Value.type n from r);rfl
section
variable {P:Program}{w:World}{H H':Hp}{h h':Heap}{a C dx:Addr}{fs fs':List (Str × V)}
theorem jF(hok:HOk P w H h)(e:H a=some (.ins C dx fs)):∃ mA,yL h a dx C mA/\(∀ f,kM (fs.lookup f) (mA f))/\PySem.Within mA (fs.map (·.1))/\fs.length<=1000/\H dx=some (.own a):=by
 obtain⟨d,z,ne,ob,mA,n,r,q⟩:=(show bK P w H h a (.ins C dx fs) from hok a _ e);exact⟨mA,⟨ob,n,ne⟩,r,q,z,d⟩
end
structure Cls(K:W.Frag)(C:Addr):Prop where
 pg:W.plainGet K C Str.empty=true
 hd:W.hasDictIn K C=true
 po:W.plainOver K C=true
 sa:W.findIn K (.ref C) "__setattr__"=some (some (.builtin "object.__setattr__"))
theorem Cls.get{K:W.Frag}{C:Addr}(c:Cls K C)(f:Str):W.plainGet K C f=true:=c.pg
def dI(K:W.Frag)(C:Addr)(f:Str):Prop:=W.findIn K (.ref C) f=some none
theorem dI.taker{K:W.Frag}{C:Addr}{f:Str}(n:dI K C f):W.takerIn K C f=some none:=by
 unfold W.takerIn;rw [show W.findIn K (.ref C) f=some none from n];rfl
structure yM(K:W.Frag)(C:Addr)(m:Str)(f:Addr):Prop where
 at_:W.findIn K (.ref C) m=some (some (.ref f))
 fn:W.isFn K (.ref f)=true
 kp:W.keepIn K (.ref f)=true
section
variable {X:Cx}{pins:List (Addr × Obj)}{σ:St}{H:Hp}{s:Shared}{a C dx:Addr}{fs:List (Str × V)}{f:Str}{v:V}{A:Around}{E:Value->Shared->Prop}
theorem qt{b:Bool}{Q:Value->Shared->Prop}(I:Inv X pins σ H s)(e:H a=some (.ins C dx fs))(c:Cls X.K C)(n:dI X.K C f)(l:fs.lookup f=some v)
  (h:∀ u s',Inv X pins σ H s'->bG v u->Q u s'):wpAny (model X.prog X.w) A (getAttr (.ref a) f b) Q E s:=by
 obtain⟨mA,O,r,_,_,_⟩:=jF I.hok e;obtain⟨u,hu,ru⟩:=kM.some_of (v:=v) (o:=mA f) (by rw [←l];exact r f);exact Bj I.kIn O (c.get f) c.hd n hu (uI ru) (h u _ (I.tok _) ru)
theorem qr{m:Str}{g:Addr}{pl:Sem Bool}{Q:Value × List Value->Shared->Prop}(I:Inv X pins σ H s)(e:H a=some (.ins C dx fs))(c:Cls X.K C)(k:yM X.K C m g)(l:fs.lookup m=none)
  (h:Q (.ref g,[.ref a]) s):wpAny (model X.prog X.w) A (getMethod (.ref a) m pl) Q E s:=by
 obtain⟨mA,O,r,_,_,_⟩:=jF I.hok e;have hn:mA m=none:=kM.none_of (by rw [←l];exact r m);exact xt I.kIn O (c.get m) k.at_ k.fn hn h
theorem pO{y:V}{u:Value}{Q:Unit->Shared->Prop}(I:Inv X pins σ H s)(e:H a=some (.ins C dx fs))(c:Cls X.K C)(n:dI X.K C f)(hl:fs.length < 1000)(ry:bG y u)
  (h:∀ s',Inv X pins σ (upd H a (.ins C dx (eA f y fs))) s'->Q () s'):wpAny (model X.prog X.w) A (setAttr (.ref a) f u) Q E s:=by
 obtain⟨mA,O,r,wi,_,ho⟩:=jF I.hok e;have hz:(fs.map (·.1)).length<=sizeLine:=by rw [JP,sizeLine_eq];omega
 refine zH I.kIn O c.sa c.po n.taker c.hd wi hz λ h' O' sb=>h _ ?_;have hd:∃ o,h'.get? dx=some o:=let ⟨o,_,_,e',_⟩:=O'.ns;⟨o,e'⟩;refine I.write (x:=a) (e:=dx) (by rw [e];exact True.intro) (.inr ho) (λ b q hb z=>(sb.2 b hb).trans z) hd ?_;refine⟨by rw [ah O.ne];exact ho,?_,O.ne,O'.obj,_,O'.ns,λ g=>?_,λ g hg=>?_⟩
 ·have:=iA f y fs;omega
 ·show kM ((eA f y fs).lookup g) (if g=f then some u else mA g)
  rw [aS]
  by_cases q:g=f
  ·rw [JM q,JM q];exact ry
  ·rw [JL q,JL q];exact r g
 ·by_cases q:g=f
  ·rw [q];exact(ib f y fs).1
  ·refine(ib f y fs).2 g (wi g λ z=>hg ?_)
   show (if g=f then some u else mA g)=none
   rw [JL q];exact z
theorem Inv.made(I:Inv X pins σ H s):Inv X pins σ (upd (upd H s.heap.objs.size (.own (s.heap.objs.size+1))) (s.heap.objs.size+1) (.ins C s.heap.objs.size []))
  { s with heap:=(s.heap.push W.emptyDict).push (W.instObj C s.heap.objs.size) }:=by
 have e1:(s.heap.push W.emptyDict).get? s.heap.objs.size=some W.emptyDict:=JK s.heap rfl
 have e2:((s.heap.push W.emptyDict).push (W.instObj C s.heap.objs.size)).get? (s.heap.objs.size+1)=some (W.instObj C s.heap.objs.size):=by
  have:=JK (s.heap.push W.emptyDict) (o:=W.instObj C s.heap.objs.size) rfl
  rwa [Kx] at this
 have e3:(s.heap.push W.emptyDict).Ns s.heap.objs.size (λ _=>none):=⟨W.emptyDict,#[],_,e1,rfl,(λ e he=>absurd he (by simp)),λ _=>rfl⟩;have I1:=I.laid (a:=s.heap.objs.size) (o:=.own (s.heap.objs.size+1)) (h':=s.heap.push W.emptyDict) (t':=s.toks) (λ b u q=>Jz _ q) (JB _) ⟨_,e1⟩;refine I1.laid (a:=s.heap.objs.size+1) (o:=.ins C s.heap.objs.size []) (t':=s.toks) (λ b u q=>Jz _ q) (L3 (Kx _ _)) ?_;have ne:s.heap.objs.size ≠ s.heap.objs.size+1:=JR (LO _);refine⟨by rw [ah ne,ag],Kw _,ne,e2,λ _=>none,(Heap.Ns1.of_empty e3).at λ o q=>Jz _ q,λ _=>True.intro,λ y hy=>absurd rfl hy⟩
theorem BC{prog:Program}{w:World}{env:Env}{e:Expr}{f:Str}{pos:Pos}{s:Shared}{Q:Value->Shared->Prop}(hb:attributeBase e f env (eval e env)=eval e env)
  (h:wpAny (model prog w) A (eval e env) (λ o s₁=>wpAny (model prog w) A (getAttr o f true) Q E s₁) E s):wpAny (model prog w) A (eval (.Attribute e f pos) env) Q E s:=
 Attribute_any_ h (by rw [arm_eval_Attribute,hb])
end
section
variable {X:Cx}{o e value:Expr}{f:Str}{pos pos' tpos:Pos}{ta tv:TE}
end
section
variable {X:Cx}{pins:List (Addr × Obj)}{σ:St}{H:Hp}{s:Shared}{A:Around}{E:Value->Shared->Prop}{Q:Value->Shared->Prop}{c:Value}{b:Bool}
inductive nY (K:PySem.W.Frag) (H:Hp):V->Value->Prop where
 | non:nY K H .non (.type "NoneType")
 | bl (x:Bool):nY K H (.bl x) (.type "bool")
 | int (i:Int):nY K H (.int i) (.type "int")
 | str (x:Str):nY K H (.str x) (.type "str")
 | flt (x:UInt64):nY K H (.flt x) (.type "float")
 | lst {a:Addr} {xs:List V} (e:H a=some (.lst xs)):nY K H (.ref a) (.type "list")
 | frz {a:Addr} {o:Obj} {xs:List V} (e:H a=some (.frz o (.lst xs))):nY K H (.ref a) (.type "list")
 | tup {a:Addr} {xs:List V} (e:H a=some (.tup xs)):nY K H (.ref a) (.type "tuple")
 | dK {a:Addr} {kvs:List (Key × V)} (e:H a=some (.dK kvs)):nY K H (.ref a) (.type "dict")
 | dT {a:Addr} {kvs:List (List Key × V)} (e:H a=some (.dT kvs)):nY K H (.ref a) (.type "dict")
 | ins {a C dx:Addr} {fs:List (Str × V)} (e:H a=some (.ins C dx fs)) (cl:Cls K C) (ha:PySem.W.findIn K (.ref C) "__class__"=some (some (.builtin "object.__class__")))
   (hn:PySem.W.specialIn K (.builtin "object.__class__") "__get__"=some (some (.builtin "getset_descriptor.__get__"))) (htk:PySem.W.takesIn K (.builtin "object.__class__")=some true)
   (hm:PySem.W.mroIn K C (.type "object")=some true):nY K H (.ref a) (.ref C)
theorem uF{x:V}{u t:Value}(I:Inv X pins σ H s)(rx:bG x u)(ty:nY X.K H x t)(e:W.kitOne X.K t c=some b)(h:∀ tk,Q (.bool b) { s with toks:=tk }) :
  wpAny (model X.prog X.w) A (call (.builtin "isinstance") [u,c]) Q E s:=by
 cases ty with
 | non=>cases (show u=Value.none from rx);exact Lb W.kitx_none I.kIn True.intro e (λ z=>nomatch z) h
 | bl y=>cases (show u=Value.bool y from rx);exact Lb W.kitx_bool I.kIn True.intro e (λ z=>nomatch z) h
 | int i=>obtain⟨t,q⟩:=(show ∃ t,u=Value.int i t from rx);cases q;exact Lb W.kitx_int I.kIn True.intro e (λ z=>nomatch z) h
 | str y=>obtain⟨t,q⟩:=(show ∃ t,u=Value.str y t from rx);cases q;exact Lb W.kitx_str I.kIn True.intro e (λ z=>nomatch z) h
 | flt y=>obtain⟨t,q⟩:=(show ∃ t,u=Value.float y t from rx);cases q;exact Lb W.kitx_float I.kIn True.intro e (λ z=>nomatch z) h
 | @lst a xs ea=>
  cases (show u=Value.ref a from rx);obtain⟨_,_,n,_,h1⟩:=(show bK X.prog X.w H s.heap a (.lst xs) from I.hok a _ ea);exact Lb W.kitx_list I.kIn ⟨_,h1,rfl⟩ e (λ z=>nomatch z) h
 | @frz a ob xs ea=>
  cases (show u=Value.ref a from rx);obtain⟨_,_,_,n,_,h1⟩:=(show bK X.prog X.w H s.heap a (.frz ob (.lst xs)) from I.hok a _ ea);exact Lb W.kitx_list I.kIn ⟨_,h1,rfl⟩ e (λ z=>nomatch z) h
 | @tup a xs ea=>
  cases (show u=Value.ref a from rx);obtain⟨_,_,_,p⟩:=(show bK X.prog X.w H s.heap a (.tup xs) from I.hok a _ ea);obtain⟨o,h1,h2,_⟩:=p;exact Lb W.kitx_tuple I.kIn ⟨o,h1,h2⟩ e (λ z=>nomatch z) h
 | @dK a kvs ea=>
  cases (show u=Value.ref a from rx);obtain⟨_,_,vs,_,p⟩:=(show bK X.prog X.w H s.heap a (.dK kvs) from I.hok a _ ea);obtain⟨o,es,ep,h1,h2,_⟩:=p;exact Lb W.kitx_dict I.kIn ⟨o,h1,h2.1⟩ e (λ z=>nomatch z) h
 | @dT a kvs ea=>
  cases (show u=Value.ref a from rx);obtain⟨_,_,xs,_,o,es,ep,h1,h2,_⟩:=(show bK X.prog X.w H s.heap a (.dT kvs) from I.hok a _ ea);exact Lb W.kitx_dict I.kIn ⟨o,h1,h2.1⟩ e (λ z=>nomatch z) h
 | @ins a C dx fs ea cl ha hn htk hm=>
  cases (show u=Value.ref a from rx);obtain⟨mA,O,_⟩:=jF I.hok ea;obtain⟨od,J,_⟩:=O.look;exact Lb (W.kitx_own (cl.get _) cl.hd ha hn htk hm) I.kIn J e (λ z=>nomatch z) h
end
structure gf(k:Nat)(A:Around):Prop where
 hd:A.handled=none
 dp:A.depth+3 * k+5 < recursionLimit
 un:A.units+16 * k+200 < cLine
theorem gf.mono{j k:Nat}{A:Around}(r:gf k A)(h:j<=k):gf j A:=⟨r.hd,by have:=r.dp;omega,by have:=r.un;omega⟩
theorem gf.deeper{k:Nat}{A:Around}(r:gf (k+1) A)(env:Env):gf k (A.deeper env):=
 ⟨r.hd,by have:=r.dp;show A.depth+1+3 * k+5 < _;omega,by have:=r.un;show A.units+3+16 * k+200 < _;omega⟩
theorem pW{A:Around}{C:Addr}{us:List Value}{kw:List (Str × Value)}:(A.under (.builtin "type.__call__" ⟨.ref C::us,kw⟩)).depth=A.depth+1:=by
 first|rfl|simp [Around.under,Code.weight,Code.isCreation,Code.isGuard,Code.isCaller,Code.frames,Code.isFrame,guardIds]
theorem pV{A:Around}{C:Addr}{us:List Value}{kw:List (Str × Value)}:(A.under (.builtin "type.__call__" ⟨.ref C::us,kw⟩)).units=A.units+1:=by
 first|rfl|simp [Around.under,Code.cUnits,Code.frames,Code.isFrame]
theorem gf.make{k:Nat}{A:Around}(r:gf (k+1) A)(C:Addr)(us:List Value)(kw:List (Str × Value)):gf k (A.under (.builtin "type.__call__" ⟨.ref C::us,kw⟩)):=
 ⟨r.hd,by have:=r.dp;rw [pW];omega,by have:=r.un;rw [pV];omega⟩
theorem gf.depth{k:Nat}{A:Around}(r:gf k A):A.depth < recursionLimit:=by have:=r.dp;omega
theorem gf.units{k:Nat}{A:Around}(r:gf k A):A.units+64 < cLine:=by have:=r.un;omega
def BK:TA:=λ _ H Q=>Q [] H
def qT(ta:TE)(tr:TA):TA:=λ σ H Q=>ta σ H λ x H1=>tr σ H1 λ xs H2=>Q (x::xs) H2
section
variable {X:Cx}{e:Expr}{es:List Expr}{te:TE}{t:TA}{pos:Pos}
theorem bC:PA X [] BK:=λ _ _ _ _ H Q I h=>Calls.spliced_nil ⟨[],H,I,.nil,h⟩
theorem zZ(ha:PE X e te)(hr:PA X es t)(hs:starEach (e::es) X.env=(false,eval e X.env)::starEach es X.env:=by rfl):PA X (e::es) (qT te t):=by
 intro pos pins s σ H Q I h;rw [hs]
 show wpAny _ _ (spliced ((false,eval e X.env)::backTo pos (starEach es X.env))) _ _ s
 refine MB (thn (ha pins s σ H _ I h) λ u s1 ⟨x,H1,I1,r1,q1⟩=>?_);exact thn (hr pos pins s1 σ H1 _ I1 q1) λ us s2 ⟨xs,H2,I2,r2,q2⟩=>⟨x::xs,H2,I2,.cons r1 r2,q2⟩
end
abbrev Sp:=List V->Hp->VK->XK->Prop
abbrev CXT:=List Env->Hp->Shared->XK->Value->Shared->Prop
structure x6(P:Program)(w:World)(K:W.Frag)(mg:Str->Option Value)(base:Heap)(A:Around)(outer:List Env)(s:Shared)(H:Hp):Prop where
 frames:A.frames=some outer
 mod:Mod K mg base
 bs:∀ b o,base.get? b=some o->s.heap.get? b=some o/\H b=none
 bsz:base.objs.size<=s.heap.objs.size
 funs:s.heap.FunFrames base outer
 frf:∀ b∈frs outer,H b=none
 hok:HOk P w H s.heap
 bare:AllBare s.gens
def CE(outer:List Env)(P:Program)(w:World)(H:Hp)(s:Shared)(Q:VK)(u:Value)(s':Shared):Prop:=
 ∃ v H',s'.os=s.os/\AllBare s'.gens/\Un (frs outer) [] H H' s.heap s'.heap/\HOk P w H' s'.heap/\bG v u/\Q v H'
def CR(CX:CXT)(outer:List Env)(P:Program)(w:World)(H:Hp)(s:Shared)(Q:VK)(E:XK)(r:Result)(s':Shared):Prop:=
 match r with
 | .ok (.ret u)=>CE outer P w H s Q u s'
 | .ok _=>False
 | .error e=>CX outer H s E e s'
structure bP(P:Program)(w:World)(K:W.Frag)(mg:Str->Option Value)(base:Heap)(CX:CXT)(k:Nat)(f:Addr)(fd:FuncData)(ps:List Str)(sp:Sp):Prop where
 len:∀ vs H Q E,sp vs H Q E->vs.length=ps.length
 run:∀ (A:Around) (outer:List Env) (s:Shared) (H:Hp) (args:Args) (us:List Value) (vs:List V) (Q:VK) (E:XK),gf k A->x6 P w K mg base A outer s H->BindsTo s fd args (ps.zip us)->bq vs us->sp vs H Q E →
  codeAny (model P w) A (.call (.ref f) args) (CR CX outer P w H s Q E) s
theorem bP.imp{P:Program}{w:World}{K:W.Frag}{mg:Str->Option Value}{base:Heap}{CX:CXT}{k:Nat}{f:Addr}{fd:FuncData}{ps:List Str}{sp sp':Sp}(F:bP P w K mg base CX k f fd ps sp)
  (h:∀ vs H Q E,sp' vs H Q E->sp vs H Q E):bP P w K mg base CX k f fd ps sp':=
 ⟨λ vs H Q E q=>F.len vs H Q E (h _ _ _ _ q),λ A outer s H args us vs Q E hr he hb hv hs=>F.run A outer s H args us vs Q E hr he hb hv (h _ _ _ _ hs)⟩
theorem x6.make{P:Program}{w:World}{K:W.Frag}{mg:Str->Option Value}{base:Heap}{A:Around}{outer:List Env}{s:Shared}{H:Hp}(e:x6 P w K mg base A outer s H)(C:Addr)(us:List Value)(kw:List (Str × Value)) :
  x6 P w K mg base (A.under (.builtin "type.__call__" ⟨.ref C::us,kw⟩)) outer s H:=⟨by first|exact e.frames|(simpa [Around.under,Code.envs,Code.isFrame,pushEnvs] using e.frames),e.mod,e.bs,e.bsz,e.funs,e.frf,e.hok,e.bare⟩
section
variable {X:Cx}{pins:List (Addr × Obj)}{σ:St}{H:Hp}{s s':Shared}
theorem Inv.env0(I:Inv X pins σ H s):x6 X.prog X.w X.K X.mg X.base X.A X.stack s H:=
 ⟨I.ok.frames,I.ok.mod,I.bs,JT I.ok.bsz I.sz,I.stack,I.stkFree,I.hok,I.bare⟩
theorem Inv.after{Q:VK}{u:Value}(I:Inv X pins σ H s)(h:CE X.stack X.prog X.w H s Q u s'):EP X pins σ Q u s':=by
 obtain⟨v,H',os,bare,un,hok,r,q⟩:=h;obtain⟨hh,g,d,t,os'⟩:=s';obtain rfl:os'=s.os:=os;exact⟨v,H',I.call (h':=hh) (g':=g) (d':=d) (t':=t) (ch:=[]) un hok bare (λ b z=>absurd z (by simp)),r,q⟩
end
def B6(sp:Sp)(dvs:List V)(E:XK)(t:TA):TE:=λ σ H Q=>t σ H λ vs H1=>sp (vs++dvs) H1 Q E
def aF(K:W.Frag)(fd:FuncData)(ps:List Str)(ds:List Value):Prop:=
 ∀ (s:Shared) (us:List Value),K.In s.heap->(us++ds).length=ps.length->BindsTo s fd ⟨us,[]⟩ (ps.zip (us++ds))
theorem aF.all{K:W.Frag}{fd:FuncData}{ps:List Str}(h:∀ us:List Value,us.length=ps.length->bindArgs fd ⟨us,[]⟩=pure (ps.zip us)):aF K fd ps []:=λ s us _ hl=>by
 rw [Lv] at hl ⊢;exact .of_eq (h us hl)
def gM(CX:CXT)(X:Cx)(E:XK):Prop:=∀ (pins:List (Addr × Obj)) (σ:St) (H:Hp) (s:Shared) (e:Value) (s':Shared),Inv X pins σ H s->CX X.stack H s E e s'->X.xe e s'
section
variable {X:Cx}{CX:CXT}{k:Nat}{f C:Addr}{fd:FuncData}{ps:List Str}{sp:Sp}{dvs:List V}{ds:List Value}{E:XK}{x m:Str}{p pos apos:Pos}{e o:Expr}{es:List Expr}{ta:TE}{t:TA}
theorem yh{pins:List (Addr × Obj)}{σ:St}{H:Hp}{s:Shared}{Q:VK}{us:List Value}{vs:List V}(F:bP X.prog X.w X.K X.mg X.base CX k f fd ps sp)(hr:gf k X.A)(hb:aF X.K fd ps ds)(hd:bq dvs ds)(hx:gM CX X E)
  (I:Inv X pins σ H s) (r:bq vs us) (h:sp (vs++dvs) H Q E):wpAny (model X.prog X.w) X.A (call (.ref f) us) (EP X pins σ Q) X.xe s:=by
 have r2:bq (vs++dvs) (us++ds):=r.append hd;have hl:(us++ds).length=ps.length:=by rw [←r2.length];exact F.len _ _ _ _ h
 refine wpAny_call (Lp (F.run X.A X.stack s H ⟨us,[]⟩ (us++ds) (vs++dvs) Q E hr I.env0 (hb s us I.kIn hl) r2 h) λ r s' hq=>?_)
 cases r with
 | error e=>exact hx pins σ H s e s' I hq
 | ok fl=>
  cases fl with
  | ret u=>exact I.after hq
  | next=>exact False.elim hq
  | brk=>exact False.elim hq
  | cont=>exact False.elim hq
theorem m9(F:bP X.prog X.w X.K X.mg X.base CX k f fd ps sp)(hr:gf k X.A)(hg:Gl X x)(hm:X.mg x=some (.ref f))(hk:W.keepIn X.K (.ref f)=true)(hb:aF X.K fd ps ds)(hd:bq dvs ds)(hx:gM CX X E)
  (ha:PA X (e::es) t) (hdb:(x == ("__debug__":Str))=false:=by decide) (he:starEach (e::es) X.env=(false,eval e X.env)::starEach es X.env:=by rfl) (hpl:(backTo pos (starEach es X.env)).any (·.1)=false:=by rfl) :
  PE X (.Call (.Name x p) (e::es) [] pos) (B6 sp dvs E t):=by
 intro pins s σ H Q I h;refine K6 (fF I hg hm ?_ hdb);refine W.callWith_K (h₀:=X.base) I.ok.mod.kin hk (thn (ha pos pins s σ H _ I h) λ us s1 ⟨vs,H1,I1,r,q⟩=>⟨I1.kIn,?_⟩) he hpl;exact yh F hr hb hd hx I1 r q
structure Mk(K:W.Frag)(C f:Addr):Prop where
 makes:W.makesIn K C=true
 init:W.findIn K (.ref C) "__init__"=some (some (.ref f))
 fn:W.isFn K (.ref f)=true
 kp:W.keepIn K (.ref C)=true
theorem vS{pins:List (Addr × Obj)}{σ:St}{H:Hp}{s:Shared}{Q:VK}{us:List Value}{vs:List V}(M:Mk X.K C f)(F:bP X.prog X.w X.K X.mg X.base CX k f fd ps sp)(hr:gf (k+1) X.A)(hb:aF X.K fd ps ds)(hd:bq dvs ds)
  (hx:gM CX X E) (I:Inv X pins σ H s) (r:bq vs us)
  (h:∀ x dx,H x=none->H dx=none->dx ≠ x->sp (.ref x::(vs++dvs)) (upd (upd H dx (.own x)) x (.ins C dx [])) (λ v H2=>v=.non/\Q (.ref x) H2) E) :
  wpAny (model X.prog X.w) X.A (call (.ref C) us) (EP X pins σ Q) X.xe s:=by
 have hq:=h (s.heap.objs.size+1) s.heap.objs.size (I.hok.fresh (Nat.le_succ _)) (I.hok.fresh (JB _)) (JR (LO _));have I2:=Inv.made (C:=C) I;have r2:bq (V.ref (s.heap.objs.size+1)::(vs++dvs)) (Value.ref (s.heap.objs.size+1)::(us++ds)):=.cons rfl (r.append hd)
 have hl:(Value.ref (s.heap.objs.size+1)::us++ds).length=ps.length:=by
  have e:=r2.length;rw [F.len _ _ _ _ hq] at e;exact e.symm
 refine wpAny_call (wC (f:=f) I.kIn M.makes M.init (Lq.mp M.fn) (Lp (F.run _ X.stack _ _ ⟨Value.ref (s.heap.objs.size+1)::us,[]⟩ (Value.ref (s.heap.objs.size+1)::(us++ds)) _ _ E (hr.make C us [])
  (I2.env0.make C us []) (hb _ (Value.ref (s.heap.objs.size+1)::us) I2.kIn hl) r2 hq) λ r s' hq'=>?_))
 cases r with
 | error e=>exact hx pins σ _ _ e s' I2 hq'
 | ok fl=>
  cases fl with
  | ret u=>
   obtain⟨v,H',I3,rv,ev,q3⟩:=I2.after hq';subst ev;exact⟨rv,⟨V.ref (s.heap.objs.size+1),H',I3,rfl,q3⟩⟩
  | next=>exact False.elim hq'
  | brk=>exact False.elim hq'
  | cont=>exact False.elim hq'
end
def PK(X:Cx)(kws:List Keyword)(t:TA):Prop:=
 ∀ (pos:Pos) (pins:List (Addr × Obj)) (s:Shared) (σ:St) (H:Hp) (Q:List V->Hp->Prop),Inv X pins σ H s->t σ H Q->wpAny (model X.prog X.w) X.A (evalAll ((backToKw pos (keywordEach kws X.env)).map (·.2))) (AP X pins σ Q) X.xe s
section
variable {X:Cx}{CX:CXT}{k:Nat}{f C:Addr}{fd:FuncData}{ps ks:List Str}{sp:Sp}{E:XK}{x m:Str}{p pos apos kpos:Pos}{e o:Expr}{es:List Expr}{kws:List Keyword}{te ta:TE}{t tk:TA}{nm:Option Str}
theorem yj:PK X [] BK:=λ _ _ _ _ H Q I h=>wpAny_evalAll_nil ⟨[],H,I,.nil,h⟩
theorem sf(ha:PE X e te)(hr:PK X kws t):PK X (⟨nm,e,kpos⟩ :: kws) (qT te t):=by
 intro pos pins s σ H Q I h
 show wpAny _ _ (evalAll ((do let v ←eval e X.env;standAt pos;pure v)::(backToKw pos (keywordEach kws X.env)).map (·.2))) _ _ s
 refine wpAny_evalAll_cons (Jx (thn (ha pins s σ H _ I h) λ u s1 ⟨x,H1,I1,r1,q1⟩=>Jx (L6 (JE ?_))));exact thn (hr pos pins s1 σ H1 _ I1 q1) λ us s2 ⟨xs,H2,I2,r2,q2⟩=>⟨x::xs,H2,I2,.cons r1 r2,q2⟩
variable {g:List Value->List Value->List Value}{gV:List V->List V->List V}
end
structure ak(N P:List Str)(sc:Scope):Prop where
 kind:sc.kind=.function
 co:sc.isCoroutine=false
 gen:sc.isGenerator=false
 nd:N.Nodup
 pre:N.take P.length=P
 par:∀ x∈P,sc.names.lookup x=some .local\/sc.names.lookup x=some .cell
 nofree:∀ y∈sc.names,y.2 ≠ .free
theorem lM{kindOf:Str->Option NameKind}{x:Str}:∀ {binds:List (Str × Value)}{m:Str->Option Value},(∀ v,(x,v) ∉ binds)->bindL kindOf binds m x=m x
 | [],_,_=>rfl
 | (n,v)::r,m,h=>by
  unfold bindL;rw [lM λ w hw=>h w (mem_cons_of_mem _ hw)];split
  ·have:x ≠ n:=by rintro rfl;exact h v JI
   simp [this]
  ·rfl
theorem lO{kindOf:Str->Option NameKind}{x:Str}:∀ {binds:List (Str × Value)}{m:Str->Option Value},(∀ v,(x,v) ∉ binds)->bindC kindOf binds m x=m x
 | [],_,_=>rfl
 | (n,v)::r,m,h=>by
  unfold bindC;rw [lO λ w hw=>h w (mem_cons_of_mem _ hw)];split
  ·rfl
  ·have:x ≠ n:=by rintro rfl;exact h v JI
   simp [this]
theorem lN{kindOf:Str->Option NameKind}{x:Str}{v:Value}:∀ {P:List Str}{vs:List Value}{i:Nat}{m:Str->Option Value},P.Nodup->P[i]? = some x->vs[i]? = some v->kindOf x=some .local →
  bindL kindOf (P.zip vs) m x=some v
 | [],_,_,_,_,h,_,_=>by simp at h
 | _::_,[],_,_,_,_,h,_=>by simp at h
 | p::P,w::vs,0,m,nd,h1,h2,hk=>by
  simp at h1 h2;subst h1;subst h2
  show bindL kindOf ((p,w)::P.zip vs) m p=_
  unfold bindL;rw [lM λ v hv=>(List.nodup_cons.mp nd).1 (of_mem_zip hv).1,if_pos hk];simp
 | p::P,w::vs,i+1,m,nd,h1,h2,hk=>by
  show bindL kindOf ((p,w)::P.zip vs) m x=_
  unfold bindL;exact lN (i:=i) (List.nodup_cons.mp nd).2 (by simpa using h1) (by simpa using h2) hk
theorem lP{kindOf:Str->Option NameKind}{x:Str}{v:Value}:∀ {P:List Str}{vs:List Value}{i:Nat}{m:Str->Option Value},P.Nodup->P[i]? = some x->vs[i]? = some v->kindOf x ≠ some .local →
  bindC kindOf (P.zip vs) m x=some v
 | [],_,_,_,_,h,_,_=>by simp at h
 | _::_,[],_,_,_,_,h,_=>by simp at h
 | p::P,w::vs,0,m,nd,h1,h2,hk=>by
  simp at h1 h2;subst h1;subst h2
  show bindC kindOf ((p,w)::P.zip vs) m p=_
  unfold bindC;rw [lO λ v hv=>(List.nodup_cons.mp nd).1 (of_mem_zip hv).1,if_neg hk];simp
 | p::P,w::vs,i+1,m,nd,h1,h2,hk=>by
  show bindC kindOf ((p,w)::P.zip vs) m x=_
  unfold bindC;exact lP (i:=i) (List.nodup_cons.mp nd).2 (by simpa using h1) (by simpa using h2) hk
def aJ(N:List Str)(vs:List V):St:=vs.map some++List.replicate (N.length - vs.length) none
def vh(CX:CXT)(P:Program)(w:World)(K:W.Frag)(mg:Str->Option Value)(base:Heap)(N:List Str)(qual:Str)(scope:Scope)(f:Addr)(cd:Value)(A:Around)(outer:List Env)(s:Shared)(H:Hp)(E:XK):Cx where
 prog:=P
 w:=w
 K:=K
 mg:=mg
 base:=base
 A:=A.deeper (envOfC qual scope s.heap.objs.size f cd)
 N:=N
 s₀:=s
 H₀:=H
 env:=envOfC qual scope s.heap.objs.size f cd
 outer:=outer
 stack:=envOfC qual scope s.heap.objs.size f cd::outer
 ex:=[]
 calm:=true
 fn:=λ _=>true
 pn:=[]
 xe:=λ e s'=>wpAny (model P w) (A.deeper (envOfC qual scope s.heap.objs.size f cd)) (leaving (envOfC qual scope s.heap.objs.size f cd) e) (λ _ s''=>CX outer H s E e s'') (λ e' s''=>CX outer H s E e' s'') s'
theorem oZ{sc:Scope}{n:Nat}{x:Str}(h:sc.names.lookup x=some .cell):∃ c,(cellsFrom n sc.names []).lookup x=some c:=by
 have q:=W.cellsFrom_some sc.names n [] (.inl h);exact LL.mp q
theorem uG{CX:CXT}{P:Program}{w:World}{K:W.Frag}{mg:Str->Option Value}{base:Heap}{N ps:List Str}{qual:Str}{scope:Scope}{f:Addr}{cd:Value}{A:Around}{outer:List Env}{s s1:Shared}{H:Hp}{E:XK}{us:List Value}{vs:List V}
  (S:ak N ps scope) (hd:A.handled=none) (e0:x6 P w K mg base A outer s H) (hl:vs.length=ps.length) (r:bq vs us)
  (x:InCallC s s.heap.objs.size (bindL (envOfC qual scope s.heap.objs.size f cd).kindOf (ps.zip us) λ _=>none) (cellsFrom (s.heap.objs.size+1) scope.names []) (bindC (envOfC qual scope s.heap.objs.size f cd).kindOf (ps.zip us) λ _=>none) s1) :
  Inv (vh CX P w K mg base N qual scope f cd A outer s H E) [] (aJ N vs) H s1:=by
 have hpl:ps.length<=N.length:=by have:=KO List.length S.pre;rw [KQ] at this;omega
 obtain⟨h1,tk,rfl,hk⟩:=x.done;have noA:∀ b:Addr,b ∉ (vh CX P w K mg base N qual scope f cd A outer s H E).ex:=λ b z=>absurd (show b∈([]:List Addr) from z) (by simp)
 refine⟨⟨e0.mod,S.kind,rfl,rfl,JB _,λ y z c h1 h2=>?_,λ y hy=>?_,λ y c _ h=>?_,λ _=>hd,Around.frames_deeper e0.frames,.inr ⟨rfl,rfl⟩,λ b z=>absurd z (noA b),e0.bs,e0.bsz,λ b _ _=>noA b,λ b z=>absurd z (noA b),e0.funs,e0.frf⟩,
  rfl,e0.bare,Un.kept hk,⟨_,x.toInCall.ns,λ i y v h1 h2 h3=>?_⟩,λ y c h=>⟨_,x.cell y c h⟩,e0.hok.fresh (JB _),λ y c h=>?_,λ p hp=>absurd (show p∈([]:List (Addr × Obj)) from hp) (by simp),e0.hok.kept hk,?_⟩
 ·exact name_of_addr x.apart (Lc h1) (Lc h2)
 ·have hy:scope.names.lookup y=some .cell\/scope.names.lookup y=some .free:=hy
  rcases hy with hy|hy
  ·exact oZ hy
  ·exact absurd rfl (S.nofree _ (Lc hy))
 ·exact LC (x.above y c (Lc h))
 ·have hi:i < vs.length:=by
   unfold aJ at h2
   by_cases hi:i < vs.length
   ·exact hi
   ·rw [JX (by simpa using hi)] at h2;rw [LN] at h2
    split at h2<;>cases h2
  have ha:vs[i]? = some v:=by
   unfold aJ at h2;rw [getElem?_append_left (by simpa using hi),getElem?_map] at h2
   cases e:vs[i]? with
   | none=>rw [e] at h2;cases h2
   | some a=>rw [e] at h2;cases h2;rfl
  obtain⟨u,hu,rv⟩:=r.get ha
  have hp:ps[i]? = some y:=by
   rw [←S.pre,List.getElem?_take_of_lt (by omega)];exact h1
  have ndP:ps.Nodup:=by rw [←S.pre];exact S.nd.sublist (List.take_sublist _ _)
  refine⟨u,rv,?_⟩
  rcases S.par y (K8 hp) with k|k
  ·exact .inl ⟨k,lN ndP hp hu k⟩
  ·obtain⟨c,e⟩:=oZ (n:=s.heap.objs.size+1) k;refine .inr ⟨.inl k,c,e,?_⟩;have q:=x.cell y c e;rw [lP ndP hp hu (by show scope.names.lookup y ≠ _;rw [k];decide)] at q;exact q
 ·exact e0.hok.fresh (LC (x.above y c (Lc h)))
 ·unfold aJ
  show _=N.length
  rw [JA,JP,List.length_replicate];omega
theorem Cz{CX:CXT}{P:Program}{w:World}{K:W.Frag}{mg:Str->Option Value}{base:Heap}{k:Nat}{f:Addr}{name qual:Str}{params:Arguments}{body:List Stmt}{scope:Scope}{dV kV doc pm cdv ct oc:Value}{an od:Option Addr}
  {osl:Array (Option Value)} {N ps:List Str} {sp:Sp} (lk:K.lookup f=some ⟨oc,od,.func (W.fnOf name qual params body scope dV kV doc pm an cdv ct),osl⟩) (hcd:W.codeIn K cdv qual=true) (S:ak N ps scope)
  (len:∀ vs H Q E,sp vs H Q E->vs.length=ps.length)
  (hbody:∀ (A:Around) (outer:List Env) (s:Shared) (H:Hp) (vs:List V) (Q:VK) (E:XK),gf k (A.deeper (envOfC qual scope s.heap.objs.size f cdv))->sp vs H Q E →
   ∃ t,PSs (vh CX P w K mg base N qual scope f cdv A outer s H E) body t/\t { nx:=λ _ H'=>Q .non H',rt:=Q } (aJ N vs) H) :
  bP P w K mg base CX (k+1) f (W.fnOf name qual params body scope dV kV doc pm an cdv ct) ps sp:=by
 refine⟨len,λ A outer s H args us vs Q E hr e0 hb r hsp=>?_⟩;have hl:=len _ _ _ _ hsp;have KX:K.In s.heap:=e0.mod.kin.keeps λ b o e=>(e0.bs b o e).1;have lim:s.heap.NoLimit:=e0.mod.nolimit.keeps λ b o e=>(e0.bs b o e).1
 have hkind:∀ y∈ps.zip us,scope.names.lookup y.1=some .local\/(scope.names.lookup y.1=some .cell/\((cellsFrom (s.heap.objs.size+1) scope.names []).lookup y.1).isSome=true):=λ ⟨n,v⟩ hy=>by
  rcases S.par n (LF hy).1 with q|q
  ·exact .inl q
  ·exact .inr ⟨q,W.cellsFrom_some _ _ _ (.inl q)⟩
 refine codeAny_call_function hr.depth (KX _ _ lk) rfl S.co S.gen rfl (W.codeRec_of KX hcd) (hb _ _ _ _ ?_);refine wpAny_newFunctionEnv_cells S.kind hkind λ env he s1 x=>?_;subst he;refine⟨lim.keeps x.toInCall.keep,codeAny_func ?_⟩;obtain⟨t,ht,hq⟩:=hbody A outer s H vs Q E (hr.deeper _) hsp;have I:Inv (vh CX P w K mg base N qual scope f cdv A outer s H E) [] (aJ N vs) H s1:=uG S hr.hd e0 hl r x;refine Lo (ht [] s1 (aJ N vs) H _ I hq) (λ fl s' hs=>?_) λ e s' hs=>hs
 have fin:∀ {σ':St} {H':Hp} {v:V} {u:Value},Inv (vh CX P w K mg base N qual scope f cdv A outer s H E) [] σ' H' s'->bG v u->Q v H'->CE outer P w H s Q u s':=
  λ {σ' H' v u} J rv q=>⟨v,H',J.os,J.bare,J.base,J.hok,rv,q⟩
 cases fl with
 | ret u=>
  obtain⟨v,σ',H',J,rv,q⟩:=hs;exact fin J rv q
 | next=>
  obtain⟨σ',H',J,q⟩:=hs;exact fin (v:=V.non) (u:=Value.none) J rfl q
 | brk=>
  obtain⟨_,_,_,q⟩:=hs;exact False.elim q
 | cont=>
  obtain⟨_,_,_,q⟩:=hs;exact False.elim q
section
variable {X:Cx}{x:Str}{p pos:Pos}{e:Expr}{es:List Expr}{t:TA}{id T:String}{r:List V->Hp->VK->Prop}
def tCB(r:List V->Hp->VK->Prop)(t:TA):TE:=λ σ H Q=>t σ H λ vs H1=>r vs H1 Q
theorem gy(hc:bE X (.builtin id) r)(hg:Gl X x)(hm:X.mg x=none)(hv:bootBuiltins x=some (.builtin id))(ha:PA X (e::es) t)(hn:x ≠ "__name__":=by decide)(hdb:(x == ("__debug__":Str))=false:=by decide)
  (he:starEach (e::es) X.env=(false,eval e X.env)::starEach es X.env:=by rfl) (hpl:(backTo pos (starEach es X.env)).any (·.1)=false:=by rfl):PE X (.Call (.Name x p) (e::es) [] pos) (tCB r t):=by
 intro pins s σ H Q I h;refine K6 (gL I hg hm hv ?_ hn hdb);exact PyProof.Rows.callWith_builtin1 (thn (ha pos pins s σ H _ I h) λ us s1 ⟨vs,H1,I1,r1,q1⟩=>hc pins s1 σ H1 vs us Q I1 r1 q1) he hpl
theorem sV(hc:bE X (.type T) r)(hg:Gl X x)(hm:X.mg x=none)(hv:bootBuiltins x=some (.type T))(ha:PA X (e::es) t)(hn:x ≠ "__name__":=by decide)(hdb:(x == ("__debug__":Str))=false:=by decide)
  (he:starEach (e::es) X.env=(false,eval e X.env)::starEach es X.env:=by rfl) (hpl:(backTo pos (starEach es X.env)).any (·.1)=false:=by rfl):PE X (.Call (.Name x p) (e::es) [] pos) (tCB r t):=by
 intro pins s σ H Q I h;refine K6 (gL I hg hm hv ?_ hn hdb);exact Ly (thn (ha pos pins s σ H _ I h) λ us s1 ⟨vs,H1,I1,r1,q1⟩=>hc pins s1 σ H1 vs us Q I1 r1 q1) he hpl
end
end L2
namespace HT
open PySem PyProof.Rows
section
open PySem.SeqAt
open PySem.AutoSeq1 (wpAny_loadPart')
open PySem.MeetsSeq PySem.MeetsSeq2 PySem.MeetsSeq3
end
section
variable {prog:Program}{w:World}{A:Around}{E:Value->Shared->Prop}{s:Shared}
theorem cat_tup{t b:Addr}{vs ws:List Value}{Q:Value->Shared->Prop}(ht:IsTup s.heap t vs.toArray)(hb:IsTup s.heap b ws.toArray)(hv:vs ≠ [])
  (h1:ws=[]->Q (.ref t) s) (h2:ws ≠ []->Q (.ref s.heap.objs.size) { s with heap:=s.heap.push { cls:=.type "tuple",data:=.seq (vs++ws).toArray } })
  (hsz:vs.length+ws.length<=sizeLine):wpAny (model prog w) A (binaryOp .Add (.ref t) (.ref b)) Q E s:=by
 obtain⟨⟨cls,dd,data,sl⟩,ho,hc,n,hd⟩:=id ht;obtain⟨⟨cls2,dd2,data2,sl2⟩,ho2,hc2,n2,hd2⟩:=id hb;simp only at hc hd hc2 hd2;subst hc hd hc2 hd2;have e:vs.toArray++ws.toArray=(vs++ws).toArray:=by simp
 by_cases hw:ws=[]
 ·exact concat_meets ⟨_,ho,rfl⟩ ⟨_,ho2,rfl⟩ noFill_tuple_add seq_tuple_add LS LM (LK _ _)
   (tuple_addW1 t b vs.toArray ws.toArray n n2 dd dd2 sl sl2 (by simpa using hv) (by simp [hw])) ⟨ho,ho2,h1 hw⟩
 ·refine concat_meets ⟨_,ho,rfl⟩ ⟨_,ho2,rfl⟩ noFill_tuple_add seq_tuple_add LS LM (LK _ _)
   (tuple_addW2 t b vs.toArray ws.toArray n n2 dd dd2 sl sl2 (by simpa using hv) (by simpa using hw) (by rw [JQ,JQ];exact hsz)) ⟨ho,ho2,?_⟩
  rw [e];exact h2 hw
def sIx(n d:Nat):Option Int->Nat
 | none=>d
 | some v=>if v < 0 then (v+(n:Int)).toNat else min v.toNat n
theorem sIx_none(n d:Nat):sIx n d none=d:=rfl
theorem sIx_nat(n d k:Nat):sIx n d (some (k:Int))=min k n:=by
 show (if (k:Int) < 0 then ((k:Int)+(n:Int)).toNat else min (k:Int).toNat n)=min k n
 rw [JL (by omega),Kk]
theorem CO(n d:Nat)(hd:d<=n)(o:Option Int):sIx n d o<=n:=by
 cases o with
 | none=>exact hd
 | some v=>
  show (if v < 0 then (v+(n:Int)).toNat else min v.toNat n)<=n
  by_cases hv:v < 0
  ·rw [JM hv];omega
  ·rw [JL hv];exact Nat.min_le_right _ _
theorem sI(v:Int)(n d:Nat):(if v < 0 then max (v+(n:Int)) 0 else min v (n:Int))=((sIx n d (some v):Nat):Int):=by
 show (if v < 0 then max (v+(n:Int)) 0 else min v (n:Int))=(((if v < 0 then (v+(n:Int)).toNat else min v.toNat n):Nat):Int)
 by_cases hv:v < 0
 ·simp only [JM hv];omega
 ·simp only [JL hv];omega
theorem qK(lo hi:Option Int)(n:Nat):Builtin.Slice.sliceAdjust lo hi 1 (n:Int)=(((sIx n 0 lo:Nat):Int),((sIx n n hi:Nat):Int)):=by
 have h1:¬ ((1:Int) < 0):=by omega
 unfold Builtin.Slice.sliceAdjust;simp only [h1,if_false];refine Prod.ext ?_ ?_
 ·cases lo with
  | none=>rfl
  | some v=>exact sI v n 0
 ·cases hi with
  | none=>rfl
  | some v=>exact sI v n n
theorem pQ(i j:Nat):Builtin.Slice.slicePlaces (i:Int) (j:Int) 1=j - i:=by
 unfold Builtin.Slice.slicePlaces;have h1:(1:Int) > 0:=by omega
 simp only [h1,Mj,Int.ediv_one]
 split<;>omega
theorem ja{v:Value}{o:Option Int}{Q:Option Int->Shared->Prop}(p:IsPart v o)(h:Q o s):wpAny (model prog w) A (Builtin.Slice.slicePartIndex v) Q E s:=by
 cases p with
 | none=>exact slicePart_none h
 | int i t=>exact slicePart_int h
theorem gm{sl:Addr}{vl vu:Value}{lo hi:Option Int}{n:Nat}{Q:Int × Int × Nat->Shared->Prop}(hs:s.heap.IsSliceOf sl vl vu .none)(pl:IsPart vl lo)(pu:IsPart vu hi)
  (h:Q (((sIx n 0 lo:Nat):Int),1,sIx n n hi - sIx n 0 lo) s):wpAny (model prog w) A (Builtin.Slice.sliceApplied (.ref sl) (pure (n:Int))) Q E s:=by
 obtain⟨os,hos,hcs,hds⟩:=id hs;unfold Builtin.Slice.sliceApplied Builtin.Slice.sliceFields;refine wpAny_bind (wpAny_bind (wpAny_field hos hds (x:=vl) rfl (wpAny_bind (wpAny_field hos hds (x:=vu) rfl (wpAny_bind (wpAny_field hos hds (x:=.none) rfl (wpAny_pure ?_)))))));refine wpAny_bind (slicePart_none ?_)
 show wpAny _ _ (if ((1:Int) == 0)=true then _ else _) _ _ s
 rw [JL (by decide)];refine Jx (ja pl (Jx (ja pu (Jx (JE ?_)))))
 show wpAny _ _ (match Builtin.Slice.sliceAdjust lo hi 1 (n:Int) with|(lo,hi)=>pure (lo,(1:Int),Builtin.Slice.slicePlaces lo hi 1)) _ _ s
 rw [qK lo hi n]
 show wpAny _ _ (pure (((sIx n 0 lo:Nat):Int),(1:Int),Builtin.Slice.slicePlaces ((sIx n 0 lo:Nat):Int) ((sIx n n hi:Nat):Int) 1)) _ _ s
 rw [pQ];exact JE h
theorem wa(xs:Array Value)(i k:Nat):((List.range k).filterMap λ (m:Nat)=>xs[((i:Int)+(m:Int) * 1).toNat]?).toArray=((xs.toList.drop i).take k).toArray:=by
 have e:(λ (m:Nat)=>xs[((i:Int)+(m:Int) * 1).toNat]?)=λ m=>xs[i+m]?:=by
  funext m;have:((i:Int)+(m:Int) * 1).toNat=i+m:=by omega
  rw [this]
 rw [e];have:=pick_run xs i k;rw [List.filterMap_map] at this;have e2:((λ x=>xs[x]?) ∘ λ x=>i+x)=λ m=>xs[i+m]?:=rfl;rw [e2] at this;rw [this]
theorem getItem_tuple_cut{t sl:Addr}{items:Array Value}{vl vu:Value}{lo hi:Option Int}{Q:Value->Shared->Prop}(ht:IsTup s.heap t items)(hs:s.heap.IsSliceOf sl vl vu .none)(pl:IsPart vl lo)(pu:IsPart vu hi)
  (hw:¬ (sIx items.size 0 lo=0/\sIx items.size items.size hi=items.size))
  (h:Q (.ref s.heap.objs.size) { s with heap:=s.heap.push { cls:=.type "tuple",data:=.seq ((items.toList.drop (sIx items.size 0 lo)).take (sIx items.size items.size hi - sIx items.size 0 lo)).toArray } })
  (hsz:items.size<=sizeLine):wpAny (model prog w) A (getItem (.ref t) (.ref sl)) Q E s:=by
 have htake:sizeOk (.seq ((items.toList.drop (sIx items.size 0 lo)).take (sIx items.size items.size hi - sIx items.size 0 lo)).toArray):=by
  show ((items.toList.drop (sIx items.size 0 lo)).take (sIx items.size items.size hi - sIx items.size 0 lo)).toArray.size<=sizeLine
  rw [JQ,KQ,L5,Ld];omega
 have hj:sIx items.size items.size hi<=items.size:=CO _ _ (Nat.le_refl _) hi;obtain⟨os,hos,hcs,hds⟩:=id hs;have hTs:s.TypeIs (.ref sl) "slice":=⟨os,hos,hcs⟩;unfold getItem
 try with_reducible refine KS ?_
 first|refine Jx (JE ?_)|skip
 refine Jx (wpAny_sequenceKey ht.typeIs (by decide) ?_)
 refine Jx (KU (name:=Str.ofString "__getitem__") ht.typeIs Lr
  (Lk Lr ht.typeIs entry_tuple_getitem ?_ (args_tuple_getitem _ _)))
 show wpAny _ _ (Builtin.Tuple.tupleItemsOf (.ref t) >>= _) _ _ s
 refine Jx (tupleItemsOf_ ht ?_);refine Jx (wpAny_typeOf hTs ?_);rw [JM (by decide)];refine Jx (gm hs pl pu ?_)
 have hno:¬ ((((sIx items.size 0 lo:Nat):Int) == 0 && (1:Int) == 1 && (sIx items.size items.size hi - sIx items.size 0 lo) == items.size)=true):=by
  intro q;rw [Kq,Kq] at q;have q1:((sIx items.size 0 lo:Nat):Int)=0:=eq_of_beq q.1.1;have q2:sIx items.size items.size hi - sIx items.size 0 lo=items.size:=eq_of_beq q.2;exact hw ⟨by omega,by omega⟩
 show wpAny _ _ (if (((sIx items.size 0 lo:Nat):Int) == 0 && (1:Int) == 1 && (sIx items.size items.size hi - sIx items.size 0 lo) == items.size)=true then _ else _) _ _ s
 rw [JL hno,wa]
 first
  | exact Jx (m:=Builtin.Tuple.tupleExact _) (Ku (JE ⟨_,rfl,JE h⟩) htake)
  | exact Jx (m:=Builtin.Tuple.tupleExact _) (Ku (Jx (JE (JE ⟨_,rfl,JE h⟩))) htake)
  | exact Jx (Jx (m:=Builtin.Tuple.tupleExact _) (Ku (JE (JE ⟨_,rfl,JE h⟩)) htake))
  | exact Jx (Jx (m:=Builtin.Tuple.tupleExact _) (Ku (JE ⟨_,rfl,JE h⟩) htake))
end
end HT
namespace L2
open PySem PySem.Spec PyProof.Rows
abbrev TO:=St->Hp->(Option Int->Hp->Prop)->Prop
def PO(X:Cx)(e:Option Expr)(t:TO):Prop:=
 ∀ (pins:List (Addr × Obj)) (s:Shared) (σ:St) (H:Hp) (Q:Option Int->Hp->Prop),Inv X pins σ H s->t σ H Q →
  wpAny (model X.prog X.w) X.A (evalPart e X.env) (λ u s'=>∃ o H',Inv X pins σ H' s'/\IsPart u o/\Q o H') X.xe s
def rY:TO:=λ _ H Q=>Q none H
def B1(t:TE):TO:=λ σ H Q=>t σ H λ x H1=>∃ i,x=.int i/\Q (some i) H1
section
variable {X:Cx}{e:Expr}{te:TE}{lo hi:Option Expr}{tl th:TO}{pos p2:Pos}
theorem bZ:PO X none rY:=by
 intro pins s σ H Q I h;rw [evalPart_none];exact JE ⟨none,H,I,.none,h⟩
theorem zP(h:PE X e te):PO X (some e) (B1 te):=by
 intro pins s σ H Q I hw;rw [evalPart_some];refine thn (h pins s σ H _ I hw) λ u s1 ⟨x,H1,I1,r1,q1⟩=>?_;obtain⟨i,rfl,q⟩:=q1;obtain⟨t,rfl⟩:=r1;exact⟨some i,H1,I1,.int i t,q⟩
def SlR(X:Cx)(r:V->Option Int->Option Int->Hp->VK->Prop):Prop:=
 ∀ (pins:List (Addr × Obj)) (s:Shared) (σ:St) (H:Hp) (x:V) (v vl vu:Value) (lo hi:Option Int) (sl:Addr) (Q:VK),Inv X pins σ H s->bG x v->s.heap.IsSliceOf sl vl vu .none->IsPart vl lo->IsPart vu hi->r x lo hi H Q →
  ∃ T id,typeLookup (.type T) "__getitem__"=pure (some (.builtin id))/\s.TypeIs v T/\wpAny (model X.prog X.w) X.A (getItem v (.ref sl)) (EP X pins σ Q) X.xe s
def tSl(r:V->Option Int->Option Int->Hp->VK->Prop)(te:TE)(tl th:TO):TE:=λ σ H Q=>te σ H λ x H1=>tl σ H1 λ l H2=>th σ H2 λ u H3=>r x l u H3 Q
theorem wc{r:V->Option Int->Option Int->Hp->VK->Prop}(hr:SlR X r)(he:PE X e te)(hl:PO X lo tl)(hu:PO X hi th):PE X (.Subscript e (.Slice lo hi none p2) pos) (tSl r te tl th):=by
 intro pins s σ H Q I h;refine Subscript_ (thn (he pins s σ H _ I h) λ v s1 ⟨x,H1,I1,r1,q1⟩=>?_);refine wpAny_Slice (thn (hl pins s1 σ H1 _ I1 q1) λ vl s2 ⟨l,H2,I2,pl,q2⟩=>thn (hu pins s2 σ H2 _ I2 q2) λ vu s3 ⟨u,H3,I3,pu,q3⟩=>?_);rw [evalPart_none];refine JE ?_;have I4:Inv X pins σ H3 { s3 with heap:=s3.heap.push { cls:=.type "slice",data:=.fields #[vl,vu,.none] } }:=I3.kept (t':=s3.toks) λ b ob q=>Jz _ q;obtain⟨T,id,hT,ht,hg⟩:=hr pins { s3 with heap:=s3.heap.push { cls:=.type "slice",data:=.fields #[vl,vu,.none] } } σ H3 x v vl vu l u s3.heap.objs.size Q I4 r1 (Heap.IsSliceOf.new ..) pl pu q3
 show wpAny (model X.prog X.w) X.A (subscriptTail e (.Slice lo hi none p2) v (.ref s3.heap.objs.size)) (EP X pins σ Q) X.xe { s3 with heap:=s3.heap.push { cls:=.type "slice",data:=.fields #[vl,vu,.none] } }
 exact tail_any (ops:=[.ref s3.heap.objs.size,v]) ht hT hg (by with_unfolding_all rfl)
def gd(xs:List V)(lo hi:Option Int):List V:=(xs.drop (HT.sIx xs.length 0 lo)).take (HT.sIx xs.length xs.length hi - HT.sIx xs.length 0 lo)
theorem iB(xs:List V)(lo hi:Option Int):(gd xs lo hi).length<=xs.length:=by
 unfold gd;rw [length_take,length_drop];omega
def IJ(K:W.Frag):V->Option Int->Option Int->Hp->VK->Prop:=λ x lo hi H Q=>∃ a xs,x=.ref a/\SqT K H a xs /\
 ¬ (HT.sIx xs.length 0 lo=0/\HT.sIx xs.length xs.length hi=xs.length)/\∀ p,H p=none->Q (.ref p) (upd H p (.tup (gd xs lo hi)))
theorem CN:SlR X (IJ X.K):=by
 intro pins s σ H x v vl vu lo hi sl Q I rx hs pl pu h;obtain⟨a,xs,rfl,hx,hw,q⟩:=h;cases rx;obtain⟨its,r,ht,hz⟩:=I.tuple hx;have hlen:its.toArray.size=xs.length:=by rw [JQ];exact r.length.symm
 refine⟨"tuple",_,Lr.lookup,ht.typeIs,?_⟩;refine HT.getItem_tuple_cut ht hs pl pu (by rw [hlen];exact hw) ?_ (by rw [hlen];exact hz);rw [hlen];refine⟨.ref s.heap.objs.size,_,I.laid (t':=s.toks) (o:=.tup (gd xs lo hi)) (λ b ob q=>Jz _ q) (JB _) ?_,rfl,q _ (I.hok.fresh (JB _))⟩;exact⟨JT (iB xs lo hi) hz,_,(r.drop (HT.sIx xs.length 0 lo)).take (HT.sIx xs.length xs.length hi - HT.sIx xs.length 0 lo),IsTup.new _ _⟩
def Gf(K:W.Frag):R2:=λ x y H Q=>∃ a b xs ys,x=.ref a/\y=.ref b/\SqT K H a xs/\SqT K H b ys/\xs ≠ []/\xs.length+ys.length<=sizeLine /\
 (ys=[]->Q (.ref a) H)/\(ys ≠ []->∀ p,H p=none->Q (.ref p) (upd H p (.tup (xs++ys))))
theorem bq.nil_iff{xs:List V}{us:List Value}(r:bq xs us):us=[] ↔ xs=[]:=by
 cases r with
 | nil=>simp
 | cons _ _=>simp
theorem Ad:OpR X (binaryOp .Add) (Gf X.K):=by
 intro pins s σ H x y v u Q I rx ry h;obtain⟨a,b,xs,ys,rfl,rfl,ha,hb,hx,hz,q1,q2⟩:=h;cases rx;cases ry;obtain⟨its,r1,p1,_⟩:=I.tuple ha;obtain⟨its2,r2,p2,_⟩:=I.tuple hb;refine HT.cat_tup p1 p2 (λ z=>hx (r1.nil_iff.mp z)) (λ z=>⟨.ref a,H,I,rfl,q1 (r2.nil_iff.mp z)⟩) (λ z=>?_) (by rw [←r1.length,←r2.length];exact hz);refine⟨.ref s.heap.objs.size,_,I.laid (t':=s.toks) (o:=.tup (xs++ys)) (λ b ob q=>Jz _ q) (JB _) ?_,rfl,q2 (λ w=>z (r2.nil_iff.mpr w)) _ (I.hok.fresh (JB _))⟩;exact⟨by rw [JA];exact hz,_,r1.append r2,IsTup.new _ _⟩
end
def ixN(n:Nat)(i:Int):Option Nat:=if 0<=i then (if i < n then some i.toNat else none) else if -(n:Int)<=i then some (i+n).toNat else none
def atI{α:Type}(xs:List α)(i:Int):Option α:=(ixN xs.length i).bind λ j=>xs[j]?
theorem su{n:Nat}{i:Int}{j:Nat}(h:ixN n i=some j):seqIndex? i n=some j/\j < n/\-(n:Int)<=i/\i < n:=by
 unfold ixN at h
 by_cases h0:0<=i
 ·rw [JM h0] at h
  by_cases h1:i < n
  ·rw [JM h1] at h;have e:i.toNat=j:=JU h;exact⟨by rw [seqIndex_of h0 h1,e],by omega,by omega,h1⟩
  ·rw [JL h1] at h;cases h
 ·rw [JL h0] at h
  by_cases h1:-(n:Int)<=i
  ·rw [JM h1] at h;have e:(i+n).toNat=j:=JU h;exact⟨by rw [seqIndex_neg (by omega) h1,e],by omega,h1,by omega⟩
  ·rw [JL h1] at h;cases h
theorem sM{α:Type}{xs:List α}{i:Int}{v:α}(h:atI xs i=some v):∃ j,seqIndex? i xs.length=some j/\xs[j]? = some v/\j < xs.length/\-(xs.length:Int)<=i/\i < xs.length:=by
 unfold atI at h
 cases e:ixN xs.length i with
 | none=>rw [e] at h;cases h
 | some j=>
  rw [e] at h;obtain⟨h1,h2,h3,h4⟩:=su e;exact⟨j,h1,h,h2,h3,h4⟩
theorem fJ{α:Type}{xs:List α}{j:Nat}{v:α}(h:xs[j]? = some v):atI xs (j:Int)=some v:=by
 have hj:j < xs.length:=(JC.mp h).1
 have e:ixN xs.length (j:Int)=some j:=by
  unfold ixN;rw [if_pos (by omega),if_pos (by omega)];simp
 unfold atI;rw [e];exact h
def BE(b:Expr):Prop:=∀ o i,subscripted b false o i=operate [o,i] (getItem o i)
def IxR(X:Cx)(r:R2):Prop:=
 ∀ (value slice:Expr) (pins:List (Addr × Obj)) (s:Shared) (σ:St) (H:Hp) (x y:V) (v u:Value) (Q:VK),Inv X pins σ H s->bG x v->bG y u->r x y H Q →
  subscripted slice false v u=operate [v,u] (getItem v u)->wpAny (model X.prog X.w) X.A (subscriptTail value slice v u) (EP X pins σ Q) X.xe s
def MtR(X:Cx)(id:String)(r:V->List V->Hp->VK->Prop):Prop:=
 ∀ (pins:List (Addr × Obj)) (s:Shared) (σ:St) (H:Hp) (x:V) (xs:List V) (v:Value) (us:List Value) (Q:VK),Inv X pins σ H s->bG x v->bq xs us->r x xs H Q →
  wpAny (model X.prog X.w) X.A (call (.builtin id) (v::us)) (EP X pins σ Q) X.xe s
section
variable {X:Cx}{a b:Expr}{ta tb:TE}{pos:Pos}
theorem IxR.or{r r':R2}(h:IxR X r)(h':IxR X r'):IxR X (λ x y H Q=>r x y H Q\/r' x y H Q):=by
 intro value slice pins s σ H x y v u Q I rx ry q hs
 rcases q with q|q
 ·exact h value slice pins s σ H x y v u Q I rx ry q hs
 ·exact h' value slice pins s σ H x y v u Q I rx ry q hs
theorem yP{r:R2}(hr:IxR X r)(ha:PE X a ta)(hb:PE X b tb)(hs:BE b):PE X (.Subscript a b pos) (tOp r ta tb):=by
 intro pins s σ H Q I h;exact Subscript_ (FV ha hb I h λ v u s2 x y H2 I2 rx ry q=>hr a b pins s2 σ H2 x y v u Q I2 rx ry q (hs _ _))
def IP(K:W.Frag):R2:=λ x y H Q=>∃ p xs i v,x=.ref p/\y=.int i/\SqL K H p xs/\atI xs i=some v/\Q v H
def IM(K:W.Frag):R2:=λ x y H Q=>∃ p xs i v,x=.ref p/\y=.int i/\SqT K H p xs/\atI xs i=some v/\Q v H
theorem ni:IxR X (IP X.K):=by
 intro value slice pins s σ H x y v u Q I rx ry h hs;obtain⟨p,xs,i,z,rfl,rfl,hq,he,q⟩:=h;cases rx;obtain⟨t,rfl⟩:=ry;obtain⟨its,r,pl,hz⟩:=I.list hq;obtain⟨j,h1,h2,h3,h4,h5⟩:=sM he;obtain⟨w,ew,rw'⟩:=r.get h2;have hl:=r.length;have hn:=iY;have fin:EP X pins σ Q w s:=⟨z,H,I,rw',q⟩
 by_cases h0:0<=i
 ·have hj:i.toNat=j:=by
   rw [seqIndex_of h0 h5] at h1;exact JU h1
  exact item_listR pl.isList h0 (by omega) (by rw [hj];simpa using ew) fin hs
 ·have hj:(i+(its.toArray.size:Int)).toNat=j:=by
   rw [seqIndex_neg (by omega) h4] at h1;rw [JQ,←hl];exact JU h1
  exact subscriptTail_builtinR (x:=w) pl.isList.typeIs slot_list_getitem.lookup
   (wpAny_getItem_list_neg (Q:=λ r s'=>r=w/\EP X pins σ Q r s') pl.isList (by omega) (by rw [JQ]<;>omega) (by omega) (by rw [hj];simpa using ew) ⟨rfl,fin⟩) hs
theorem EM:IxR X (IM X.K):=by
 intro value slice pins s σ H x y v u Q I rx ry h hs;obtain⟨p,xs,i,z,rfl,rfl,hq,he,q⟩:=h;cases rx;obtain⟨t,rfl⟩:=ry;obtain⟨its,r,pl,hz⟩:=I.tuple hq;obtain⟨j,h1,h2,h3,h4,h5⟩:=sM he;obtain⟨w,ew,rw'⟩:=r.get h2;have hl:=r.length;have hn:=iY;have fin:EP X pins σ Q w s:=⟨z,H,I,rw',q⟩
 exact subscriptTail_builtinR (x:=w) pl.typeIs slot_tuple_getitem.lookup
  (getItem_tuple (j:=j) (Q:=λ r s'=>r=w/\EP X pins σ Q r s') pl (by omega) (by omega) (by rw [JQ,←hl];exact h1) (by simpa using ew) ⟨rfl,fin⟩) hs
theorem pU(its:List Value)(n j:Nat)(u:Value):Obj.mapSeq (·.setIfInBounds j u) { cls:=.type "list",data:=.seq its.toArray n }={ cls:=.type "list",data:=.seq (its.set j u).toArray n }:=by
 simp [Obj.mapSeq]
theorem Inv.lst{pins:List (Addr × Obj)}{σ:St}{H:Hp}{s:Shared}{p:Addr}{xs:List V}(I:Inv X pins σ H s)(h:H p=some (.lst xs)) :
  ∃ (its:List Value) (n:Nat),bq xs its/\s.heap.get? p=some { cls:=.type "list",data:=.seq its.toArray n }/\xs.length<=sizeLine:=by
 obtain⟨z,its,n,r,e⟩:=I.hok p _ h;exact⟨its,n,r,e,z⟩
theorem Inv.lstUpd{pins:List (Addr × Obj)}{σ:St}{H:Hp}{s:Shared}{p:Addr}{xs ys:List V}{its its':List Value}{n n':Nat}{f:Obj->Obj}(I:Inv X pins σ H s)(h:H p=some (.lst xs))
  (ho:s.heap.get? p=some { cls:=.type "list",data:=.seq its.toArray n }) (hf:f { cls:=.type "list",data:=.seq its.toArray n }={ cls:=.type "list",data:=.seq its'.toArray n' }) (r:bq ys its') (hz:ys.length<=sizeLine) (t:Nat) :
  Inv X pins σ (upd H p (.lst ys)) { s with heap:=s.heap.update p f,toks:=t }:=by
 have e:(s.heap.update p f).get? p=some { cls:=.type "list",data:=.seq its'.toArray n' }:=by
  rw [KN f ho (by rw [hf]<;>rfl),hf]
 refine I.write (x:=p) (e:=p) (by rw [h];trivial) (.inl rfl) (λ b u hb q=>(K4 _ _ (J6 hb)).trans q) ⟨_,e⟩ ?_;exact⟨hz,its',n',r,e⟩
def Ca:V->V->V->Hp->(Hp->Prop)->Prop:=λ o i v H Q=>∃ p xs k j,o=.ref p/\i=.int k/\H p=some (.lst xs)/\ixN xs.length k=some j/\Q (upd H p (.lst (xs.set j v)))
theorem oJ:Ir X Ca:=by
 intro pins s σ H o i v ov iv u Q I ro ri rv h;obtain⟨p,xs,k,j,rfl,rfl,hp,hj,q⟩:=h;cases ro;obtain⟨t,rfl⟩:=ri;obtain⟨its,n,r,ho,hz⟩:=I.lst hp;obtain⟨h1,h2,h3,h4⟩:=su hj;have hl:=r.length;have hn:=iY
 have I':Inv X pins σ (upd H p (.lst (xs.set j v))) { s with heap:=s.heap.update p (Obj.mapSeq (·.setIfInBounds j u)) }:=
  I.lstUpd hp ho (pU its n j u) (r.set rv j) (by rw [Me];exact hz) s.toks
 by_cases h0:0<=k
 ·have hk:k.toNat=j:=by
   rw [seqIndex_of h0 h4] at h1;exact JU h1
  exact W.ki_setAt ho h0 (by omega) (by rw [JQ,←hl];exact h4) (by rw [hk];exact⟨_,I',q⟩)
 ·have hk:(k+(its.toArray.size:Int)).toNat=j:=by
   rw [seqIndex_neg (by omega) h3] at h1;rw [JQ,←hl];exact JU h1
  exact W.ki_setBack ho (by omega) (by rw [JQ,←hl];exact h3) (by omega) (by rw [hk];exact⟨_,I',q⟩)
theorem md(lo hi:Option Int)(n:Nat):(sliceBounds lo hi none n).1=((HT.sIx n 0 lo:Nat):Int)/\(sliceBounds lo hi none n).2.1=((HT.sIx n n hi:Nat):Int)/\(sliceBounds lo hi none n).2.2=1:=by
 refine⟨?_,?_,rfl⟩
 ·cases lo with
  | none=>simp [sliceBounds,HT.sIx]
  | some i=>
   simp only [sliceBounds,HT.sIx,Option.getD_none,show (1:Int) > 0 by decide,Mj]
   by_cases h:i < 0
   ·simp only [h,Mj]<;>omega
   ·simp only [h,if_false]<;>omega
 ·cases hi with
  | none=>simp [sliceBounds,HT.sIx]
  | some i=>
   simp only [sliceBounds,HT.sIx,Option.getD_none,show (1:Int) > 0 by decide,Mj]
   by_cases h:i < 0
   ·simp only [h,Mj]<;>omega
   ·simp only [h,if_false]<;>omega
theorem kh(its:List Value)(lo hi:Option Int):slicePick its.toArray lo hi none=((its.drop (HT.sIx its.length 0 lo)).take (HT.sIx its.length its.length hi - HT.sIx its.length 0 lo)).toArray:=by
 obtain⟨h1,h2,h3⟩:=md lo hi its.toArray.size;unfold slicePick;rw [h1,h2,h3]
 simp only [sliceRange_one,pick_run,JQ]<;>rfl
def IK(K:W.Frag):V->Option Int->Option Int->Hp->VK->Prop:=λ x lo hi H Q=>∃ a xs,x=.ref a/\SqL K H a xs/\∀ p,H p=none->Q (.ref p) (upd H p (.lst (gd xs lo hi)))
theorem zG:SlR X (IK X.K):=by
 intro pins s σ H x v vl vu lo hi sl Q I rx hs pl pu h;obtain⟨a,xs,rfl,hx,q⟩:=h;cases rx;obtain⟨its,r,ht,hz⟩:=I.list hx;have hlen:=r.length;refine⟨"list",_,slot_list_getitem.lookup,ht.isList.typeIs,?_⟩;refine wpAny_getItem_list_slice ht.isList hs pl pu .none (by simp) ?_ (by rw [JQ]<;>omega);rw [kh,←hlen];refine⟨.ref s.heap.objs.size,_,I.laid (t':=s.toks) (o:=.lst (gd xs lo hi)) (λ b ob q=>Jz _ q) (JB _) ?_,rfl,q _ (I.hok.fresh (JB _))⟩;exact⟨JT (iB xs lo hi) hz,_,0,(r.drop (HT.sIx xs.length 0 lo)).take (HT.sIx xs.length xs.length hi - HT.sIx xs.length 0 lo),JK _ rfl⟩
theorem cR:bE X (.builtin "len") (λ xs H Q=>∃ p ys,xs=[.ref p]/\(SqL X.K H p ys\/SqT X.K H p ys)/\Q (.int ys.length) H):=by
 intro pins s σ H xs us Q I r h;obtain⟨p,ys,rfl,hq,q⟩:=h;obtain⟨u,rfl,rx⟩:=mK r;cases rx;have hn:=iY
 rcases hq with hq|hq
 ·obtain⟨its,r',pl,hz⟩:=I.list hq;have hlen:=r'.length;exact Calls.call_len_list pl.isList (by simp only [JQ]<;>omega) ⟨.int ys.length,H,I.tok _,⟨s.toks+1,by rw [JQ,hlen]⟩,q⟩
 ·obtain⟨its,r',pl,hz⟩:=I.tuple hq;have hlen:=r'.length;exact len_tuple pl (by simp only [JQ]<;>omega) ⟨.int ys.length,H,I.tok _,⟨s.toks+1,by rw [JQ,hlen]⟩,q⟩
theorem mD:bE X (.builtin "len") (λ xs H Q=>∃ z,xs=[.str z]/\z.length<=sizeLine/\Q (.int z.length) H):=by
 intro pins s σ H xs us Q I r h;obtain⟨z,rfl,hz,q⟩:=h;obtain⟨u,rfl,t,rfl⟩:=mK r;have hn:=iY;exact len_str (by omega) ⟨.int z.length,H,I.tok _,⟨_,rfl⟩,q⟩
theorem bE.or{f:Value}{r r':List V->Hp->VK->Prop}(h:bE X f r)(h':bE X f r'):bE X f (λ xs H Q=>r xs H Q\/r' xs H Q):=by
 intro pins s σ H xs us Q I rs q
 rcases q with q|q
 ·exact h pins s σ H xs us Q I rs q
 ·exact h' pins s σ H xs us Q I rs q
theorem mC:bE X (.type "list") (λ xs H Q=>∃ p ys,xs=[.ref p]/\(SqL X.K H p ys\/SqT X.K H p ys)/\∀ l,H l=none->Q (.ref l) (upd H l (.lst ys))):=by
 intro pins s σ H xs us Q I r h;obtain⟨p,ys,rfl,hq,q⟩:=h;obtain⟨u,rfl,rx⟩:=mK r;cases rx
 have fin:∀ (its:List Value),bq ys its->ys.length<=sizeLine->∀ (h':Heap) (c':Nat),(∀ b o',s.heap.get? b=some o'->h'.get? b=some o') →
   h'.get? s.heap.objs.size=some { cls:=.type "list",dict:=none,data:=.seq its.toArray c',slots:=#[] }->EP X pins σ Q (.ref s.heap.objs.size) { s with heap:=h' }:=λ its r' hz h' c' kp e=>
  ⟨.ref s.heap.objs.size,_,I.laid (t':=s.toks) kp (JB _) (show bK X.prog X.w _ h' _ (.lst ys) from ⟨hz,its,c',r',e⟩),rfl,q _ (I.hok.fresh (JB _))⟩
 rcases hq with hq|hq
 ·obtain⟨its,r',pl,hz⟩:=I.list hq;have hlen:=r'.length;obtain⟨o,ho,hc,n,hd⟩:=pl.isList;exact call_list_seq p (.inl rfl) ho hc hd (λ h' c' kp e=>fin its r' hz h' c' kp e) (by simp only [JQ]<;>omega)
 ·obtain⟨its,r',pl,hz⟩:=I.tuple hq;have hlen:=r'.length;obtain⟨o,ho,hc,n,hd⟩:=pl;exact call_list_seq p (.inr rfl) ho hc hd (λ h' c' kp e=>fin its r' hz h' c' kp e) (by simp only [JQ]<;>omega)
theorem kJ:bE X (.type "tuple") (λ xs H Q=>∃ p ys,xs=[.ref p]/\((SqL X.K H p ys/\∀ l,H l=none->Q (.ref l) (upd H l (.tup ys)))\/(SqT X.K H p ys/\Q (.ref p) H))):=by
 intro pins s σ H xs us Q I r h;obtain⟨p,ys,rfl,h⟩:=h;obtain⟨u,rfl,rx⟩:=mK r;cases rx
 rcases h with ⟨hq,q⟩|⟨hq,q⟩
 ·obtain⟨its,r',pl,hz⟩:=I.list hq;have hlen:=r'.length;refine call_tuple_list pl.isList (λ h' kp=>?_) (by simp only [JQ]<;>omega);have I1:Inv X pins σ H { s with heap:=h' }:=I.kept (t':=s.toks) kp
  have I2:Inv X pins σ (upd H h'.objs.size (.tup ys)) { s with heap:=h'.push { cls:=.type "tuple",data:=.seq its.toArray } }:=
   I1.laid (t':=s.toks) (λ b o e=>Jz _ e) (JB _) (show bK X.prog X.w _ _ _ (.tup ys) from ⟨hz,its,r',IsTup.new _ _⟩)
  exact⟨.ref h'.objs.size,_,I2,rfl,q _ (I1.hok.fresh (JB _))⟩
 ·obtain⟨its,r',pl,hz⟩:=I.tuple hq;exact call_tuple_same pl ⟨.ref p,H,I,rfl,q⟩
def tyV(K:W.Frag)(T:String)(x:V)(H:Hp):Prop:=match x with
 | .str _=>T = "str"
 | .int _=>T = "int"
 | .ref p=>(T = "list" /\ ∃ xs,SqL K H p xs)\/(T = "tuple" /\ ∃ o,K.lookup p=some o/\o.cls=.type "tuple" /\ o.dict=none) \/
   (T = "dict" /\ ((∃ kvs,H p=some (.dK kvs))\/∃ kvs,H p=some (.dT kvs)))\/(T = "set" /\ ∃ S n,H p=some (.set S n))
 | _=>False
theorem x8{pins:List (Addr × Obj)}{σ:St}{H:Hp}{s:Shared}{T:String}{x:V}{v:Value}(I:Inv X pins σ H s)(r:bG x v)(ty:tyV X.K T x H) :
  s.TypeIs v T/\∀ a,v=.ref a->∃ ob,s.heap.get? a=some ob/\ob.dict=none:=by
 cases x with
 | str z=>
  obtain⟨t,rfl⟩:=r;cases (show T = "str" from ty);exact⟨typeIs_str s z t,λ _ e=>nomatch e⟩
 | int i=>
  obtain⟨t,rfl⟩:=r;cases (show T = "int" from ty);exact⟨typeIs_int s i t,λ _ e=>nomatch e⟩
 | ref p=>
  cases r
  rcases ty with ⟨rfl,xs,hq⟩|⟨rfl,o,hk,hc,hd⟩|⟨rfl,hk⟩|⟨rfl,S,n,hk⟩
  ·obtain⟨its,_,pl,_⟩:=I.list hq;refine⟨pl.isList.typeIs,λ a e=>?_⟩;cases e;obtain⟨o,n,e,c,hd,_⟩:=pl;exact⟨o,e,hd⟩
  ·refine⟨⟨o,I.kIn p o hk,hc⟩,λ a e=>?_⟩;cases e;exact⟨o,I.kIn _ o hk,hd⟩
  ·have z:∃ o,s.heap.get? p=some o/\o.ExactDict:=by
    rcases hk with ⟨kvs,hk⟩|⟨kvs,hk⟩
    ·obtain⟨_,_,_,_,o,_,_,e,ex,_⟩:=I.hok p _ hk;exact⟨o,e,ex⟩
    ·obtain⟨_,_,_,_,o,_,_,e,ex,_⟩:=I.hok p _ hk;exact⟨o,e,ex⟩
   obtain⟨o,e,ex⟩:=z;refine⟨⟨o,e,ex.1⟩,λ a e2=>?_⟩;cases e2;exact⟨o,e,ex.2.1⟩
  ·obtain⟨o,_,_,_,e,ex,_⟩:=I.hok p _ hk;refine⟨⟨o,e,ex.1⟩,λ a e2=>?_⟩;cases e2;exact⟨o,e,ex.2.1⟩
 | _=>exact False.elim ty
def HA(K:W.Frag)(T:String)(r:V->List V->Hp->VK->Prop)(to:TE):TE:=λ σ H Q=>to σ H λ x H1=>tyV K T x H1/\r x [] H1 Q
def tBM(K:W.Frag)(T:String)(r:V->List V->Hp->VK->Prop)(to:TE)(t:TA):TE:=λ σ H Q=>to σ H λ x H1=>tyV K T x H1/\t σ H1 λ xs H2=>r x xs H2 Q
variable {o e:Expr}{es:List Expr}{to:TE}{t:TA}{name:Str}{apos cpos:Pos}{T id:String}{r:V->List V->Hp->VK->Prop}
theorem C9(pa:PlainAttrs T)(slot:Slot T name id)(hty:typeOf (.builtin id)=pure (.type "method_descriptor"))(hm:MtR X id r)(ho:PE X o to)
  (hbase:attributeBase o name X.env (eval o X.env)=eval o X.env:=by rfl) (hline:(apos.endLine == cpos.line)=true:=by rfl):PE X (.Call (.Attribute o name apos) [] [] cpos) (HA X.K T r to):=by
 intro pins s σ H Q I h;refine wpAny_Call_method0_late hbase hline (thn (ho pins s σ H _ I h) λ v s1 ⟨x,H1,I1,r1,ty,q1⟩=>?_);obtain⟨h1,h2⟩:=x8 I1 r1 ty;exact⟨T,id,pa,slot,hty,h1,h2,Md rfl (PySem.evalArgs_none (hm pins s1 σ H1 x [] v [] Q I1 r1 .nil q1))⟩
theorem Gj(pa:PlainAttrs T)(slot:Slot T name id)(hty:typeOf (.builtin id)=pure (.type "method_descriptor"))(hm:MtR X id r)(ho:PE X o to)(ha:PA X (e::es) t)
  (hbase:attributeBase o name X.env (eval o X.env)=eval o X.env:=by rfl)
  (hfew:((backTo cpos (starEach (e::es) X.env)).all (λ x=>!x.1) && (backToKw cpos (keywordEach [] X.env)).all (λ x=>x.1.isSome)
   && decide ((e::es).length+([]:List Keyword).length+(if ([]:List Keyword).isEmpty then 0 else 1) < 30))=true:=by rfl)
  (hline:(apos.endLine == cpos.line)=true:=by rfl) (hs:starEach (e::es) X.env=(false,eval e X.env)::starEach es X.env:=by rfl) (hplain:(backTo cpos (starEach es X.env)).any (·.1)=false:=by rfl) :
  PE X (.Call (.Attribute o name apos) (e::es) [] cpos) (tBM X.K T r to t):=by
 intro pins s σ H Q I h;refine wpAny_Call_method_late hbase hfew hline rfl (thn (ho pins s σ H _ I h) λ v s1 ⟨x,H1,I1,r1,ty,q1⟩=>?_);obtain⟨h1,h2⟩:=x8 I1 r1 ty;refine⟨T,id,pa,slot,hty,h1,h2,?_⟩;have hA:=ha cpos pins s1 σ H1 _ I1 q1;rw [hs] at hA ⊢;refine Md (by show (false || (backTo cpos (starEach es X.env)).any (·.1))=false;rw [hplain]<;>rfl) (Mo ?_);exact thn hA λ us s2 ⟨vs,H2,I2,r2,q2⟩=>hm pins s2 σ H2 x vs v us Q I2 r1 r2 q2
end
def MtM(X:Cx)(id:String)(r:V->List V->Hp->VK->Prop):Prop:=
 ∀ (pins:List (Addr × Obj)) (s:Shared) (σ:St) (H:Hp) (x:V) (xs:List V) (v:Value) (us:List Value) (Q:VK),Inv X pins σ H s->bG x v->bq xs us->r x xs H Q →
  wpAny (model X.prog X.w) X.A (call (.builtin id) (v::us)) (EP X pins σ Q) X.xe s
theorem bq.one:∀ {x:V}{us:List Value},bq [x] us->∃ u,us=[u]/\bG x u
 | _,_,.cons r .nil=>⟨_,rfl,r⟩
theorem bq.zero:∀ {us:List Value},bq [] us->us=[]
 | _,.nil=>rfl
theorem bq.dropLast{xs:List V}{us:List Value}(h:bq xs us):bq xs.dropLast us.dropLast:=by
 induction h with
 | nil=>exact .nil
 | cons r t ih=>
  cases t with
  | nil=>exact .nil
  | cons q t'=>exact .cons r ih
theorem bq.reverse{xs:List V}{us:List Value}(h:bq xs us):bq xs.reverse us.reverse:=by
 induction h with
 | nil=>exact .nil
 | cons r t ih=>rw [Mn,Mn];exact bq.append ih (.cons r .nil)
theorem qu{α:Type}(l:List α):l.eraseIdx (l.length - 1)=l.dropLast:=by
 induction l with
 | nil=>rfl
 | cons a r ih=>
  cases r with
  | nil=>rfl
  | cons b r=>
   have e:(a::b::r).length - 1=((b::r).length - 1)+1:=by
    have h1:(a::b::r).length=r.length+2:=rfl;have h2:(b::r).length=r.length+1:=rfl;omega
   rw [e,List.eraseIdx_cons_succ,ih]
   all_goals rfl
section
variable {X:Cx}{pins:List (Addr × Obj)}{σ:St}{H:Hp}{s:Shared}{l b:Addr}{xs ys zs:List V}
theorem Inv.lset{its its':List Value}{n:Nat}{f:Array Value->Array Value}{t':Nat}(I:Inv X pins σ H s)(hH:H l=some (.lst xs))
  (e:s.heap.get? l=some { cls:=.type "list",data:=.seq its.toArray n }) (hf:f its.toArray=its'.toArray) (hv:bq ys its') (hz:ys.length<=sizeLine) :
  Inv X pins σ (upd H l (.lst ys)) { s with heap:=s.heap.update l (Obj.mapSeq f),toks:=t' }:=by
 have q:=PySem.IsL.update e f;rw [hf] at q;refine I.write (x:=l) (e:=l) (by rw [hH];exact trivial) (.inl rfl) (λ b' u hb hu=>(K4 s.heap (Obj.mapSeq f) (J6 hb)).trans hu) ⟨_,q⟩ ?_;exact⟨hz,its',_,hv,q⟩
theorem Inv.lnew{its:List Value}{t':Nat}(I:Inv X pins σ H s)(hv:bq ys its)(hz:ys.length<=sizeLine) :
  Inv X pins σ (upd H s.heap.objs.size (.lst ys)) { s with heap:=s.heap.push { cls:=.type "list",data:=.seq its.toArray },toks:=t' }:=
 I.laid (λ _ _ q=>Jz _ q) (JB _) ⟨hz,its,0,hv,JK _ rfl⟩
theorem Inv.fresh(I:Inv X pins σ H s):H s.heap.objs.size=none:=I.hok.fresh (JB _)
theorem Inv.lstM(I:Inv X pins σ H s)(hH:H l=some (.lst xs)):xs.length<=sizeLine/\∃ (its:List Value) (n:Nat),bq xs its/\xs.length=its.length/\s.heap.get? l=some { cls:=.type "list",data:=.seq its.toArray n }:=by
 obtain⟨z,its,n,r,e⟩:=I.hok l _ hH;exact⟨z,its,n,r,r.length,e⟩
theorem wz{n:Nat}(h:n<=sizeLine):Builtin.List.listTooLong n=false:=by
 unfold Builtin.List.listTooLong;exact decide_eq_false (by omega)
end
section
variable {X:Cx}
def r6:V->List V->Hp->VK->Prop:=λ x vs H Q=>∃ l xs y,x=.ref l/\vs=[y]/\H l=some (.lst xs)/\xs.length < sizeLine/\Q .non (upd H l (.lst (xs++[y])))
theorem cn:MtM X "list.append" r6:=by
 intro pins s σ H x vs v us Q I rx rv h;obtain⟨l,xs,y,rfl,rfl,hH,hz,q⟩:=h;cases rx;obtain⟨u,rfl,ru⟩:=rv.one;obtain⟨z,its,n,r,hl,e⟩:=I.lstM hH;refine call_meets F.slot_list_append ⟨_,e,rfl⟩ F.entry_list_append (F.args_list_append_2 _ _) (PySem.list_append l its.toArray n u (by rw [JQ];omega)) ⟨e,?_⟩;refine⟨.non,_,I.lset (its':=its++[u]) hH e (by simp) (r.append (.cons ru .nil)) ?_,rfl,q⟩;rw [JA,JH];omega
def rZ:V->List V->Hp->VK->Prop:=λ x vs H Q=>∃ l b xs zs,x=.ref l/\vs=[.ref b]/\H l=some (.lst xs)/\H b=some (.lst zs)/\xs.length+zs.length<=sizeLine/\Q .non (upd H l (.lst (xs++zs)))
theorem fw:MtM X "list.extend" rZ:=by
 intro pins s σ H x vs v us Q I rx rv h;obtain⟨l,b,xs,zs,rfl,rfl,hH,hB,hz,q⟩:=h;cases rx;obtain⟨u,rfl,ru⟩:=rv.one;cases ru;obtain⟨z,its,n,r,hl,e⟩:=I.lstM hH;obtain⟨z2,its2,n2,r2,hl2,e2⟩:=I.lstM hB;have hsz:its.toArray.size+its2.toArray.size<=sizeLine:=by rw [JQ,JQ];omega
 have hlong:¬ (!its.toArray.isEmpty && Builtin.List.listTooLong (its.toArray.size+its2.toArray.size))=true:=by
  rw [wz hsz,Kc];exact JO
 refine call_meets F.slot_list_extend ⟨_,e,rfl⟩ F.entry_list_extend (F.args_list_extend_2 _ _)
  (AutoSeq1.list_extend_list_list_0 l its.toArray n b its2.toArray n2 hlong (by rw [JQ];omega) (by omega)) ⟨e,e2,?_⟩
 refine⟨.non,_,I.lset (its':=its++its2) hH e (by simp) (r.append r2) ?_,rfl,q⟩;rw [JA];omega
def HC:V->List V->Hp->VK->Prop:=λ x vs H Q=>∃ l xs y,x=.ref l/\vs=[]/\H l=some (.lst xs)/\xs[xs.length - 1]? = some y/\Q y (upd H l (.lst xs.dropLast))
theorem kZ:MtM X "list.pop" HC:=by
 intro pins s σ H x vs v us Q I rx rv h;obtain⟨l,xs,y,rfl,rfl,hH,hy,q⟩:=h;cases rx;have hus:=rv.zero;subst hus;obtain⟨z,its,n,r,hl,e⟩:=I.lstM hH;obtain⟨u,hu,ru⟩:=r.get hy
 have hy':its.toArray[its.toArray.size - 1]? = some u:=by
  show its.toArray[its.length - 1]? = some u
  rw [←Array.getElem?_toList,←hl];exact hu
 refine call_meets F.slot_list_pop ⟨_,e,rfl⟩ F.entry_list_pop (F.args_list_pop_1 _) (MeetsSeq.list_pop_last l its.toArray n u hy' (by rw [JQ];omega)) ⟨e,?_⟩;refine⟨y,_,I.lset (its':=its.dropLast) hH e ?_ r.dropLast ?_,ru,q⟩
 ·show its.toArray.eraseIdxIfInBounds (its.toArray.size - 1)=its.dropLast.toArray
  rw [JQ,List.eraseIdxIfInBounds_toArray,qu]
 ·rw [List.length_dropLast];omega
def oK:V->List V->Hp->VK->Prop:=λ x vs H Q=>∃ l xs,x=.ref l/\vs=[]/\H l=some (.lst xs)/\Q .non (upd H l (.lst xs.reverse))
theorem pT:MtM X "list.reverse" oK:=by
 intro pins s σ H x vs v us Q I rx rv h;obtain⟨l,xs,rfl,rfl,hH,q⟩:=h;cases rx;have hus:=rv.zero;subst hus;obtain⟨z,its,n,r,hl,e⟩:=I.lstM hH;refine call_meets F.slot_list_reverse ⟨_,e,rfl⟩ F.entry_list_reverse (F.args_list_reverse_1 _) (AutoSeq1.list_reverse_list_0 l its.toArray n (by rw [JQ];omega)) ⟨e,?_⟩;refine⟨.non,_,I.lset (its':=its.reverse) hH e (by simp) r.reverse ?_,rfl,q⟩;rw [Kv];omega
def HD:R2:=λ x y H Q=>∃ l b xs zs,x=.ref l/\y=.ref b/\H l=some (.lst xs)/\H b=some (.lst zs)/\xs.length+zs.length<=sizeLine/\∀ p,H p=none->Q (.ref p) (upd H p (.lst (xs++zs)))
theorem Dj:OpR X (binaryOp .Add) HD:=by
 intro pins s σ H x y v u Q I rx ry h;obtain⟨l,b,xs,zs,rfl,rfl,hH,hB,hz,q⟩:=h;cases rx;cases ry;obtain⟨z,its,n,r,hl,e⟩:=I.lstM hH;obtain⟨z2,its2,n2,r2,hl2,e2⟩:=I.lstM hB;refine PySem.P.add_list e e2 ?_ (by rw [JQ,JQ];omega);have ea:its.toArray++its2.toArray=(its++its2).toArray:=by simp
 rw [ea];exact⟨.ref _,_,I.lnew (t':=s.toks) (r.append r2) (by rw [JA];omega),rfl,q _ I.fresh⟩
end
section
variable {prog:Program}{w:World}{A:Around}{E:Value->Shared->Prop}{s:Shared}
end
section
variable {X:Cx}
end
end L2
namespace Att
open PySem PySem.W PySem.Calls PyProof.Rows
theorem iM{P:Params}{h:Heap}:∀ (ns:List Int) (vs:List Value),WellAll P h vs (ns.map WData.int)->IntsAre vs ns:=by
 intro ns
 induction ns with
 | nil=>
  intro vs w;rw [List.map_nil] at w;cases w;exact .nil
 | cons n ns ih=>
  intro vs w;rw [KA] at w
  cases w with
  | cons a b=>
   cases a;exact .cons _ _ (ih _ b)
theorem sR{l:OpenLaw}{n:Nat}(hn:l.most=some n){P:Params}{h:Heap}{args:List WData}{vals:List Value}
  (hpre:l.row.toRowW.claim.pre args=true) (hwl:WellAll P h vals args) :
  ∃ a vs ns,vals=[Value.ref a]/\args=[WData.list (ns.map WData.int)]/\h.get? a=some { cls:=.type "list",data:=.seq vs.toArray }/\IntsAre vs ns/\ns.length<=n:=by
 have hsh:WShape.hasAll [] args [.list .int]=true:=(pre_splitW hpre).1;have hc:l.pre.holds [] { args:=args }=true:=(pre_splitW hpre).2;obtain⟨d,r,rfl,h1,h2⟩:=hasAllW_cons hsh;obtain rfl:=hasAllW_nil h2;obtain⟨xs,rfl,h3⟩:=hasW_list h1;obtain⟨ns,rfl⟩:=items_int h3
 have hlen:ns.length<=n:=by
  unfold OpenLaw.pre at hc
  have h4:(WTm.not (.lt (.lit (.int (n:Int))) (.len (.arg 0)))).holds [] { args:=[.list (ns.map .int)] }=true:=by
   have h4:=(holds_andW hc).1;rw [hn] at h4;exact h4
  have h5:=condW_of h4 (w_not (w_lt w_lit (w_len_list (w_arg rfl))));rw [JP] at h5;refine LP λ q=>?_;have q':(n:Int) < ((ns.length:Nat):Int):=by omega
  first
   | (rw [JZ q'] at h5;exact absurd h5 (by decide))
   | (simp at h5;omega)
 cases hwl with
 | cons w1 w2=>
  cases w2
  cases w1 with
  | list ho hall=>exact⟨_,_,ns,rfl,rfl,ho,iM ns _ hall,hlen⟩
theorem sS(l:OpenLaw)(args:List WData):l.row.toRowW.claim.post args (.bool true) args=true:=
 postW_of (r:=l.row.toRowW) (X:=(true == true))
  (show WShape.has [] (.bool true) .bool=true by first|rfl|decide|simp [WShape.has,WShape.arms,WShape.armsAll])
  (show (WTm.eq .res (.lit (.bool true))).value [] { args:=args,res:=some (.bool true),after:=args }=some (.bool (true == true)) from w_eq_bool (w_res rfl) w_lit) rfl
theorem attach_call{l:OpenLaw}{n:Nat}{q:Program}{loose:List Str}{XP:(Str->Option Value)->Heap->Prop}{YP:World->Heap->Prop}{d:DefRec}
  (hn:l.most=some n) (hdf:d.params.defaults=[])
  (call:∀ (w:World) (s₀ s₁:Shared) (mg mb:Str->Option Value) (fa:Addr) (o:Obj) (pm cd doc:Value) (a:Addr) (vs:List Value) (ns:List Int),
   Ground q loose [] XP w s₀ mg mb s₁.heap->YP w s₁.heap →
   s₁.heap.get? fa=some o->o.data=.func (docDef d.name d.params d.body d.scope pm cd doc)->s₁.heap.CodeRec cd d.name->mg d.name=some (.ref fa) →
   s₁.heap.get? a=some { cls:=.type "list",data:=.seq vs.toArray }->IntsAre vs ns->ns.length<=n->s₁.gens=#[] →
   codeAny (model l.prog w) callerA (.call (.ref fa) ⟨[.ref a],[]⟩) (λ r s'=>r=.ok (.ret (.bool true))/\OldK s₁.heap s'.heap/\s'.os=s₁.os/\AllBare s'.gens) s₁) :
  WalkO q loose XP YP l.row.toRowW d [] (λ f vs=>PySem.call f vs):=by
 intro w s₀ s₁ mg mb G Y fa o pm cd doc dV kV ho hd hcd hD hmg hg args vals as hpre hlay hrd hwl hlo;obtain rfl:dV=.none:=Dflts.none hD hdf;obtain rfl:kV=.none:=Dflts.noKw hD;obtain⟨a,vs,ns,rfl,rfl,hobj,hints,hlen⟩:=sR hn hpre hwl;refine enter_call (Lp (call w s₀ s₁ mg mb fa o pm cd doc a vs ns G Y ho (fd_plain hd) hcd hmg hobj hints hlen hg) λ r s' hq=>?_);obtain⟨rfl,h2,h3,h4⟩:=hq;exact⟨.inl ⟨.bool true,.bool true,[],rfl,λ _=>rfl,.bool true,sS l _,λ _=>⟨List.Pairwise.nil,λ _ hm=>(nomatch hm)⟩⟩,h2,h3,h4⟩
section
variable {prog:Program}{w:World}{A:Around}{E:Value->Shared->Prop}{s:Shared}{K:Frag}
def Iy(h:Heap)(L d:Addr):List (Addr × Obj):=(List.range h.objs.size).filterMap λ a=>if a=L\/a=d then none else (h.get? a).map λ o=>(a,o)
end
end Att
namespace L2
open PySem PySem.Spec PyProof.Rows
theorem k8:∀ {vs:List Value}{ns:List Int},IntsAre vs ns->bq (ns.map V.int) vs
 | _,_,.nil=>.nil
 | _,_,.cons n t h=>.cons ⟨t,rfl⟩ (k8 h)
def FW(H:Hp):Prop:=∀ b,H b=none\/∃ o xs,H b=some (.frz o (.lst xs))
theorem w4{P:Program}{w:World}{K:W.Frag}{mg mb:Str->Option Value}{CX:CXT}{k:Nat}{fa a:Addr}{fd:FuncData}{x:Str}{sp:Sp}{s₁:Shared}{vs:List Value}{ns:List Int}
  (KX:K.In s₁.heap) (hns:s₁.heap.Ns mainGlobals mg) (hb:s₁.heap.Ns builtinsNs mb) (hbb:∀ x:Str,x ≠ "__name__" → mb x=bootBuiltins x) (hlim:s₁.heap.NoLimit) (hg:s₁.gens=#[])
  (ha:s₁.heap.get? a=some { cls:=.type "list",data:=.seq vs.toArray }) (hi:IntsAre vs ns) (hl:ns.length<=sizeLine) (hr:gf k callerA)
  (F:∀ base:Heap,K.In base->base.Ns mainGlobals mg->bP P w K mg base CX k fa fd [x] sp) (hbind:∀ (s:Shared) (u:Value),BindsTo s fd ⟨[u],[]⟩ [(x,u)])
  (hsp:∀ H:Hp,FW H->SqL K H a (ns.map V.int)->sp [.ref a] H (λ v _=>v=.bl true) λ _ _ _=>False)
  (hCX:∀ H e s',CX [] H s₁ (λ _ _ _=>False) e s'->False) :
  codeAny (model P w) callerA (.call (.ref fa) ⟨[.ref a],[]⟩) (λ r s'=>r=.ok (.ret (.bool true))/\OldK s₁.heap s'.heap/\s'.os=s₁.os/\AllBare s'.gens) s₁:=by
 have rv:=k8 hi;have lenV:=hi.length
 have core:∀ H:Hp,FW H->SqL K H a (ns.map V.int)->HOk P w H s₁.heap->(∀ b,H b ≠ none->b=a)->(H a ≠ none->K.lookup a=none) →
   codeAny (model P w) callerA (.call (.ref fa) ⟨[.ref a],[]⟩) (λ r s'=>r=.ok (.ret (.bool true))/\OldK s₁.heap s'.heap/\s'.os=s₁.os/\AllBare s'.gens) s₁:=by
  intro H hO hS hok hA hK;have base_of:∀ {b:Addr} {o:Obj},s₁.heap.get? b=some o->H b=none->(vm s₁.heap H).get? b=some o:=λ e n=>xr e n
  have noA:∀ {b:Addr} {o:Obj} {es:Array DictEntry} {ep:Nat},s₁.heap.get? b=some o->o.data=.dict es ep->H b=none:=λ {b o es ep} e d=>by
   cases q:H b with
   | none=>rfl
   | some u=>
    have e':b=a:=hA b (by rw [q];simp);subst e';rw [ha] at e;cases e;have d':Data.seq vs.toArray _=Data.dict es ep:=d;cases d'
  have nsK:∀ {b:Addr} {m:Str->Option Value},s₁.heap.Ns b m->(vm s₁.heap H).Ns b m:=λ {b m} ⟨o,es,ep,e,d,r⟩=>⟨o,es,ep,base_of e (noA e d),d,r⟩
  have hKb:K.In (vm s₁.heap H):=λ b o e=>base_of (KX b o e) (by
   cases q:H b with
   | none=>rfl
   | some u=>
    have e':b=a:=hA b (by rw [q];simp);subst e';rw [hK (by rw [q];simp)] at e;cases e)
  have hM:Mod K mg (vm s₁.heap H):=⟨hKb,nsK hns,⟨mb,nsK hb,hbb⟩,let ⟨mc,h1,h2⟩:=hlim;⟨mc,nsK h1,h2⟩⟩;have e0:x6 P w K mg (vm s₁.heap H) callerA [] s₁ H:=⟨rfl,hM,λ b o e=>Ae e,L3 (uH _ _),trivial,λ b hb=>absurd (show b∈([]:List Addr) from hb) (by simp),hok,.of_eq hg⟩;refine Lp ((F _ hKb (nsK hns)).run callerA [] s₁ H ⟨[.ref a],[]⟩ [.ref a] [.ref a] _ _ hr e0 (hbind s₁ (.ref a)) (.cons rfl .nil) (hsp H hO hS)) λ r s' h=>?_
  cases r with
  | error e=>exact(hCX H e s' h).elim
  | ok fl=>
   cases fl with
   | next=>exact False.elim h
   | brk=>exact False.elim h
   | cont=>exact False.elim h
   | ret u=>
    obtain⟨v,H',os,bare,un,hok',r',q⟩:=h;have q':v=.bl true:=q;subst q';obtain rfl:u=Value.bool true:=r';refine⟨rfl,OldK.of_keep λ b o e=>?_,os,bare⟩
    cases q:H b with
    | none=>exact un.keep b o e q (by intro z;exact absurd (show b∈([]:List Addr) from z) (by simp)) (by simp)
    | some u=>
     rcases hO b with z|⟨ob,xs,z⟩
     ·rw [q] at z;cases z
     ·have z2:=un.frzs b ob _ z;obtain⟨e1,_⟩:=hok b _ z;obtain⟨e2,_⟩:=hok' b _ z2;rw [e] at e1;cases e1;exact e2
 cases hk:K.lookup a with
 | some o=>
  have e:=KX a o hk;rw [ha] at e;cases e;refine core (λ _=>none) (λ _=>.inl rfl) (.inr ⟨_,vs.toArray,_,hk,rfl,rfl,rfl,by rw [JQ,lenV];exact hl,by simpa using rv⟩) (λ b u z=>by have z':(none:Option HO)=some u:=z;cases z') (λ b z=>absurd rfl z) λ z=>absurd rfl z
 | none=>
  refine core (λ b=>if b=a then some (.frz { cls:=.type "list",data:=.seq vs.toArray } (.lst (ns.map V.int))) else none) (λ b=>?_) (.inl (.inr ⟨{ cls:=.type "list",data:=.seq vs.toArray },JM rfl⟩)) (λ b u z=>?_) (λ b z=>?_) λ _=>hk
  ·by_cases hb:b=a
   ·exact .inr ⟨_,_,JM hb⟩
   ·exact .inl (JL hb)
  ·by_cases hb:b=a
   ·have z':=(JM hb).symm.trans z;cases z';subst hb;exact⟨ha,by rw [JP];exact hl,vs,_,rv,ha⟩
   ·have z':=(JL hb).symm.trans z;cases z'
  ·by_cases hb:b=a
   ·exact hb
   ·exact absurd (JL hb) z
abbrev KOf{K:PySem.W.Frag}{h:Heap}(_:K.In h):PySem.W.Frag:=K
theorem Hq{l:W.OpenLaw}{n k:Nat}{q:Program}{loose:List Str}{XP:(Str->Option Value)->Heap->Prop}{YP:World->Heap->Prop}{d:DefRec}{K:Params->W.Frag}{CX:World->CXT}{sp:World->Sp}{x:Str}
  (hn:l.most=some n) (hn2:n<=sizeLine) (hdf:d.params.defaults=[]) (hr:gf k callerA)
  (hY:∀ (w:World) (h:Heap),YP w h->(K w.params).In h)
  (F:∀ (w:World) (mg:Str->Option Value) (fa:Addr) (h:Heap),(K w.params).In h->h.Ns mainGlobals mg->mg d.name=some (.ref fa) →
   ∃ fd:FuncData,(∀ (s:Shared) (u:Value),BindsTo s fd ⟨[u],[]⟩ [(x,u)]) /\
    ∀ base:Heap,(K w.params).In base->base.Ns mainGlobals mg->bP l.prog w (K w.params) mg base (CX w) k fa fd [x] (sp w))
  (hsp:∀ (w:World) (H:Hp) (a:Addr) (ns:List Int),ns.length<=n->FW H->SqL (K w.params) H a (ns.map V.int)->sp w [.ref a] H (λ v _=>v=.bl true) λ _ _ _=>False)
  (hCX:∀ (w:World) (H:Hp) (s:Shared) (e:Value) (s':Shared),CX w [] H s (λ _ _ _=>False) e s'->False) :
  W.WalkO q loose XP YP l.row.toRowW d [] (λ f vs=>PySem.call f vs):=by
 refine Att.attach_call hn hdf λ w s₀ s₁ mg mb fa o pm cd doc a vs ns G Y ho hd hcd hmg hobj hints hlen hg=>?_;have KX:=hY w _ Y;obtain⟨fd,hb,hF⟩:=F w mg fa _ KX G.T.g hmg;exact w4 KX G.T.g G.T.b G.T.builtins G.T.nolimit hg hobj hints (JT hlen hn2) hr hF hb (λ H hO hS=>hsp w H a ns hlen hO hS) λ H e s'=>hCX w H s₁ e s'
def fG(s:Stmt)(j:Nat):Stmt:=match s with
 | .ClassDef _ _ _ body _ _ _ _ _ _ _=>body.getD j (.Pass ⟨0,0,0,0⟩)
 | _=>.Pass ⟨0,0,0,0⟩
def eT(s:Stmt):Arguments:=match s with
 | .FunctionDef _ a _ _ _ _ _ _ _ _=>a
 | _=>{ posonlyargs:=[],args:=[],vararg:=none,kwonlyargs:=[],kw_defaults:=[],kwarg:=none,defaults:=[] }
def dn(s:Stmt):List Stmt:=match s with
 | .FunctionDef _ _ b _ _ _ _ _ _ _=>b
 | _=>[]
def ae(s:Stmt):Scope:=match s with
 | .FunctionDef _ _ _ _ _ _ sc _ _ _=>sc
 | _=>{ kind:=.function,names:=[],isGenerator:=false,isCoroutine:=false }
abbrev CX0:CXT:=λ _ _ _ _ _ _=>False
abbrev E0:XK:=λ _ _ _=>False
theorem pJ{X:Cx}:gM CX0 X E0:=λ _ _ _ _ _ _ _ h=>h.elim
structure Fun(K:W.Frag)(x qual:Str)(st:Stmt)(f:Addr)(fd:FuncData):Prop where
 ex:∃ (oc:Value) (od:Option Addr) (kV doc pm:Value) (an:Option Addr) (cdv ct:Value) (osl:Array (Option Value)),
  fd=W.fnOf x qual (eT st) (dn st) (ae st) .none kV doc pm an cdv ct/\K.lookup f=some ⟨oc,od,.func fd,osl⟩/\W.codeIn K cdv qual=true
 kp:W.keepIn K (.ref f)=true
section
variable {P:Program}{w:World}{K:PySem.W.Frag}{mg:Str->Option Value}{base:Heap}
theorem Fun.ok{x qual:Str}{st:Stmt}{f:Addr}{fd:FuncData}{N ps:List Str}{k:Nat}{sp:Sp}(F:Fun K x qual st f fd)(S:ak N ps (ae st))(len:∀ vs H Q E,sp vs H Q E->vs.length=ps.length)
  (hbody:∀ (cdv:Value) (A:Around) (outer:List Env) (s:Shared) (H:Hp) (vs:List V) (Q:VK) (E:XK),gf k (A.deeper (envOfC qual (ae st) s.heap.objs.size f cdv))->sp vs H Q E →
   ∃ t,PSs (vh CX0 P w K mg base N qual (ae st) f cdv A outer s H E).nox (dn st) t/\t { nx:=λ _ H'=>Q .non H',rt:=Q } (aJ N vs) H):bP P w K mg base CX0 (k+1) f fd ps sp:=by
 obtain⟨oc,od,kV,doc,pm,an,cdv,ct,osl,rfl,lk,hcd⟩:=F.ex;refine Cz lk hcd S len λ A outer s H vs Q E hr hsp=>?_;obtain⟨t,h,q⟩:=hbody cdv A outer s H vs Q E hr hsp;exact⟨t,h.nox,q⟩
theorem Fun.binds{x qual:Str}{st:Stmt}{f:Addr}{fd:FuncData}{ps:List Str}(F:Fun K x qual st f fd)
  (h:∀ (kV doc pm:Value) (an:Option Addr) (cdv ct:Value) (us:List Value),us.length=ps.length->bindArgs (W.fnOf x qual (eT st) (dn st) (ae st) .none kV doc pm an cdv ct) ⟨us,[]⟩=pure (ps.zip us)):aF K fd ps []:=by
 obtain⟨oc,od,kV,doc,pm,an,cdv,ct,osl,rfl,lk,hcd⟩:=F.ex;exact .all (h kV doc pm an cdv ct)
theorem EO{x qual:Str}{st:Stmt}{f:Addr}{oc:Value}{od an:Option Addr}{osl:Array (Option Value)}{kV doc pm cdv ct:Value}(l:K.lookup f=some ⟨oc,od,.func (W.fnOf x qual (eT st) (dn st) (ae st) .none kV doc pm an cdv ct),osl⟩)
  (c:W.codeIn K cdv qual=true) (k:W.keepIn K (.ref f)=true):Fun K x qual st f (W.fnOf x qual (eT st) (dn st) (ae st) .none kV doc pm an cdv ct):=⟨⟨oc,od,kV,doc,pm,an,cdv,ct,osl,rfl,l,c⟩,k⟩
end
theorem ll{n:Nat}(h:n<=1000):n < sizeLine:=Nat.lt_of_le_of_lt h (by decide)
section
variable {X:Cx}
theorem pv(i:Nat){x:Str}{pos:Pos}(hN:X.N[i]? = some x:=by rfl)(hv:Vis X.env.scope x:=by first|exact Or.inl rfl|exact Or.inr (Or.inl rfl)|exact Or.inr (Or.inr rfl))(hd:(x == ("__debug__":Str))=false:=by decide)
  (hcd:(x == ("__classdict__":Str))=false:=by decide):PE X (.Name x pos) (EY i):=C5 hN hv hd hcd
end
theorem Ij{c A B:Prop}[Decidable c](h1:c->A)(h2:¬ c->B):if c then A else B:=by
 by_cases h:c
 ·rw [JM h];exact h1 h
 ·rw [JL h];exact h2 h
def kP(H H':Hp):Prop:=∀ b o,H b=some o->H' b=some o
theorem kP.refl(H:Hp):kP H H:=λ _ _ h=>h
theorem kP.trans{H H1 H2:Hp}(a:kP H H1)(b:kP H1 H2):kP H H2:=λ c o h=>b c o (a c o h)
theorem kP.free{H H':Hp}(e:kP H H'){l:Addr}(h:H' l=Option.none):H l=Option.none:=by
 cases q:H l with
 | none=>rfl
 | some o=>
  rw [e l o q] at h;cases h
theorem kP.seq{K:W.Frag}{H H':Hp}{a:Addr}{xs:List V}(e:kP H H')(h:SqL K H a xs):SqL K H' a xs:=by
 rcases h with (h|⟨o,h⟩)|h
 ·exact .inl (.inl (e _ _ h))
 ·exact .inl (.inr ⟨o,e _ _ h⟩)
 ·exact .inr h
section
variable {κ:Type}[DecidableEq κ]
def dE(kvs:List (κ × V))(k:κ):Option V:=(kvs.find? λ kv=>decide (kv.1=k)).map (·.2)
def eM(kvs:List (κ × V))(k:κ)(v:V):List (κ × V):=
 if (kvs.any λ kv=>decide (kv.1=k))=true then kvs.map (λ kv=>if kv.1=k then (kv.1,v) else kv) else kvs++[(k,v)]
theorem bR{p:κ × V}{r:List (κ × V)}{k:κ}(e:p.1=k):dE (p::r) k=some p.2:=by simp [dE,LW,e]
theorem bS{p:κ × V}{r:List (κ × V)}{k:κ}(e:¬ p.1=k):dE (p::r) k=dE r k:=by simp [dE,LW,e]
theorem eB(k:κ):∀ kvs:List (κ × V),(kvs.any λ kv=>decide (kv.1=k))=(dE kvs k).isSome
 | []=>rfl
 | p::r=>by
  rw [List.any_cons]
  by_cases e:p.1=k
  ·simp only [bR e,JZ e,Bool.true_or,Option.isSome_some]
  ·rw [bS e,JW e,Bool.false_or];exact eB k r
theorem oB(k j:κ)(y:V):∀ kvs:List (κ × V),dE (kvs.map λ kv=>if kv.1=k then (kv.1,y) else kv) j=(dE kvs j).map λ x=>if j=k then y else x
 | []=>rfl
 | p::r=>by
  have ih:=oB k j y r;rw [KA]
  by_cases h:p.1=k
  ·rw [JM h]
   by_cases e:p.1=j
   ·rw [bR (p:=(p.1,y)) e,bR e,Lj,JM (e.symm.trans h)]
   ·rw [bS (p:=(p.1,y)) e,bS e,ih]
  ·rw [JL h]
   by_cases e:p.1=j
   ·rw [bR (p:=p) e,bR e,Lj,JL (λ z=>h (e.trans z))]
   ·rw [bS (p:=p) e,bS e,ih]
theorem k9(k j:κ)(y:V):∀ kvs:List (κ × V),dE kvs k=none->dE (kvs++[(k,y)]) j=if j=k then some y else dE kvs j
 | [],_=>by
  by_cases e:k=j
  ·rw [JM e.symm];exact bR (p:=(k,y)) e
  ·rw [JL (λ z=>e z.symm)];exact bS (p:=(k,y)) e
 | p::r,hn=>by
  rw [List.cons_append];have hk:¬ p.1=k:=λ z=>by rw [bR z] at hn;cases hn
  rw [bS hk] at hn;have ih:=k9 k j y r hn
  by_cases e:p.1=j
  ·rw [bR e,bR e,JL (λ z=>hk (e.trans z))]
  ·rw [bS e,bS e,ih]
theorem oA(kvs:List (κ × V))(k j:κ)(y:V):dE (eM kvs k y) j=if j=k then some y else dE kvs j:=by
 unfold eM
 by_cases a:(kvs.any λ kv=>decide (kv.1=k))=true
 ·rw [JM a,oB];rw [eB] at a
  by_cases e:j=k
  ·obtain⟨x,hx⟩:=LL.mp a;rw [JM e,e,hx,Lj,JM rfl]
  ·rw [JL e]
   cases dE kvs j with
   | none=>rfl
   | some x=>rw [Lj,JL e]
 ·rw [JL a];refine k9 k j y kvs ?_;rw [eB] at a
  cases q:dE kvs k with
  | none=>rfl
  | some x=>rw [q] at a;exact(a rfl).elim
theorem iy(kvs:List (κ × V))(k:κ)(v:V):(eM kvs k v).length<=kvs.length+1:=by
 unfold eM;split
 ·rw [JP];omega
 ·rw [JA,JS,Lu];omega
theorem kM.isSome_eq{o:Option V}{u:Option Value}(r:kM o u):o.isSome=u.isSome:=by
 cases o with
 | none=>cases u with
  | none=>rfl
  | some _=>exact(show False from r).elim
 | some _=>cases u with
  | none=>exact(show False from r).elim
  | some _=>rfl
theorem kM.getD{o:Option V}{u:Option Value}{d:V}{d':Value}(r:kM o u)(rd:bG d d'):bG (o.getD d) (u.getD d'):=by
 cases o with
 | none=>cases u with
  | none=>exact rd
  | some _=>exact(show False from r).elim
 | some _=>cases u with
  | none=>exact(show False from r).elim
  | some _=>exact r
theorem KV.val{kvs:List (κ × V)}{vs:List (κ × Value)}(r:KV kvs vs)(k:κ):kM (dE kvs k) (valueAt vs k):=by
 unfold KV at r
 induction r with
 | nil=>exact True.intro
 | @cons p q ps qs h t ih=>
  obtain⟨h1,h2⟩:=h
  by_cases e:p.1=k
  ·have e':q.1=k:=h1.symm.trans e;have b:valueAt (q::qs) k=some q.2:=by simp [valueAt,LW,e']
   rw [bR e,b];exact h2
  ·have e':¬ q.1=k:=λ z=>e (h1.trans z);have b:valueAt (q::qs) k=valueAt qs k:=by simp [valueAt,LW,e']
   rw [bS e,b];exact ih
theorem KV.any{kvs:List (κ × V)}{vs:List (κ × Value)}(r:KV kvs vs)(k:κ):(kvs.any λ kv=>decide (kv.1=k))=vs.any λ kv=>decide (kv.1=k):=by
 unfold KV at r
 induction r with
 | nil=>rfl
 | cons h t ih=>rw [List.any_cons,List.any_cons,ih,h.1]
theorem KV.repl{kvs:List (κ × V)}{vs:List (κ × Value)}(r:KV kvs vs)(k:κ){y:V}{u:Value}(ry:bG y u) :
  KV (kvs.map λ kv=>if kv.1=k then (kv.1,y) else kv) (vs.map λ kv=>if kv.1=k then (kv.1,u) else kv):=by
 unfold KV at r ⊢
 induction r with
 | nil=>exact .nil
 | @cons p q ps qs h t ih=>
  rw [KA,KA];refine .cons ?_ ih;obtain⟨h1,h2⟩:=h
  by_cases e:p.1=k
  ·rw [JM e,JM (h1.symm.trans e)];exact⟨h1,ry⟩
  ·rw [JL e,JL (λ z=>e (h1.trans z))];exact⟨h1,h2⟩
theorem KV.put{kvs:List (κ × V)}{vs:List (κ × Value)}(r:KV kvs vs)(k:κ){y:V}{u:Value}(ry:bG y u):KV (eM kvs k y) (stored vs k u):=by
 unfold eM stored;rw [r.any k]
 by_cases e:(vs.any λ kv=>decide (kv.1=k))=true
 ·rw [JM e,JM e];exact r.repl k ry
 ·rw [JL e,JL e];exact Paired.snoc r ⟨rfl,ry⟩
theorem KV.length{kvs:List (κ × V)}{vs:List (κ × Value)}(r:KV kvs vs):kvs.length=vs.length:=LG r
end
theorem vt{P:Program}{w:World}{k:Key}{u:Value}(r:bG (kV k) u):(bz P w).is k u=true:=by
 cases k with
 | inl i=>obtain⟨t,e⟩:=(show ∃ t,u=Value.int i t from r);subst e;exact nC P w i t
 | inr x=>obtain⟨t,e⟩:=(show ∃ t,u=Value.str x t from r);subst e;exact nz P w x t
theorem lG{P:Program}{w:World}:∀ {ks:List Key}{us:List Value},bq (ks.map kV) us->ItemsAre (bz P w) ks us
 | [],_,r=>by rw [List.map_nil] at r;cases r;exact .nil
 | k::ks,_,r=>by
  rw [KA] at r
  cases r with
  | cons h t=>exact .cons (vt h) (lG t)
abbrev KT(H:Hp):List (List Key × V)->List (List Key × Addr × Value)->Prop:=Paired λ p q=>p.1=q.1/\H q.2.1=some (.tup (p.1.map kV))/\bG p.2 q.2.2
theorem KT.val{H:Hp}{kvs:List (List Key × V)}{xs:List (List Key × Addr × Value)}(r:KT H kvs xs)(k:List Key):kM (dE kvs k) ((atKey xs k).map (·.2)):=by
 induction r with
 | nil=>exact True.intro
 | @cons p q ps qs h t ih=>
  obtain⟨h1,_,h2⟩:=h
  by_cases e:p.1=k
  ·have e':q.1=k:=h1.symm.trans e;have b:atKey (q::qs) k=some q.2:=by simp [atKey,LW,e']
   rw [bR e,b];exact h2
  ·have e':¬ q.1=k:=λ z=>e (h1.trans z);have b:atKey (q::qs) k=atKey qs k:=by simp [atKey,LW,e']
   rw [bS e,b];exact ih
theorem KT.repl{H:Hp}{kvs:List (List Key × V)}{xs:List (List Key × Addr × Value)}(r:KT H kvs xs)(k:List Key){y:V}{u:Value}(ry:bG y u) :
  KT H (kvs.map λ kv=>if kv.1=k then (kv.1,y) else kv) (xs.map (putAt k u)):=by
 induction r with
 | nil=>exact .nil
 | @cons p q ps qs h t ih=>
  rw [map_cons,map_cons];refine .cons ?_ ih;obtain⟨h1,h2,h3⟩:=h;unfold putAt
  by_cases e:p.1=k
  ·rw [JM e,JM (h1.symm.trans e)];exact⟨h1,h2,ry⟩
  ·rw [JL e,JL (λ z=>e (h1.trans z))];exact⟨h1,h2,h3⟩
theorem KT.put{H:Hp}{kvs:List (List Key × V)}{xs:List (List Key × Addr × Value)}(r:KT H kvs xs)(k:List Key){b:Addr}{y:V}{u:Value}(hb:H b=some (.tup (k.map kV)))(ry:bG y u) :
  KT H (eM kvs k y) (storedH xs k b u):=by
 have e:(kvs.any λ kv=>decide (kv.1=k))=(atKey xs k).isSome:=by
  rw [eB,(r.val k).isSome_eq,Option.isSome_map]
 unfold eM storedH;rw [e]
 by_cases q:(atKey xs k).isSome=true
 ·rw [JM q,JM q];exact r.repl k ry
 ·rw [JL q,JL q];exact Paired.snoc r ⟨rfl,hb,ry⟩
theorem KT.keeps{H H':Hp}{kvs:List (List Key × V)}{xs:List (List Key × Addr × Value)}(r:KT H kvs xs)(ht:∀ b ys,H b=some (.tup ys)->H' b=some (.tup ys)):KT H' kvs xs:=
 Paired.mapP r λ _ _ z=>⟨z.1,ht _ _ z.2.1,z.2.2⟩
section
variable {P:Program}{w:World}{H:Hp}{h:Heap}{a:Addr}
theorem B9{u:HO}(ok:HOk P w H h)(e:Rd H a u):bK P w H h a u:=e.ok ok
theorem rh{kvs:List (Key × V)}(ok:HOk P w H h)(e:Rd H a (.dK kvs)):kvs.length<=sizeLine/\(a == sysModules)=false/\∃ vs,KV kvs vs/\h.DictOf (bz P w) a vs:=
 show bK P w H h a (.dK kvs) from B9 ok e
theorem zm{kvs:List (Key × V)}(ok:HOk P w H h)(e:H a=some (.dK kvs)):kvs.length<=sizeLine/\(a == sysModules)=false/\∃ vs,KV kvs vs/\h.DictOf (bz P w) a vs:=rh ok (.inl e)
theorem oo{ks:List Key}(ok:HOk P w H h)(e:H a=some (.tup (ks.map kV))):(tupleKind (bz P w)).is h ks a:=by
 obtain⟨_,its,r,o,h1,h2,n,h3⟩:=(show bK P w H h a (.tup (ks.map kV)) from ok a _ e);exact⟨o,its.toArray,n,h1,h2,h3,by simpa using lG r⟩
theorem rg{kvs:List (List Key × V)}(ok:HOk P w H h)(e:Rd H a (.dT kvs)):kvs.length<=sizeLine/\(a == sysModules)=false /\
  ∃ xs,KT H kvs xs/\h.DictOfH (tupleKind (bz P w)) a xs:=by
 obtain⟨z,y,xs,r,o,es,ep,h1,h2,h3,h4,h5⟩:=(show bK P w H h a (.dT kvs) from B9 ok e);refine⟨z,y,xs,r,o,es,ep,h1,h2,h3,h4,λ x hx=>?_,h5⟩
 have all:∀ {l:List (List Key × V)} {m:List (List Key × Addr × Value)},KT H l m->∀ x∈m,(tupleKind (bz P w)).is h x.1 x.2.1:=by
  intro l m q
  induction q with
  | nil=>intro x hx;exact nomatch hx
  | @cons p q ps qs hq t ih=>
   intro x hx
   rcases J2.mp hx with e|hx
   ·subst e;exact oo ok (by rw [←hq.1];exact hq.2.1)
   ·exact ih x hx
 exact all r x hx
theorem Hk{kvs:List (List Key × V)}(ok:HOk P w H h)(e:H a=some (.dT kvs)):kvs.length<=sizeLine/\(a == sysModules)=false /\
  ∃ xs,KT H kvs xs/\h.DictOfH (tupleKind (bz P w)) a xs:=rg ok (.inl e)
end
def qS(H:Hp)(a:Addr)(y:V)(r:Option V):Prop:=
 (∃ kvs k,Rd H a (.dK kvs)/\y=kV k/\r=dE kvs k)\/∃ kvs k b,Rd H a (.dT kvs)/\y=.ref b/\H b=some (.tup (k.map kV))/\r=dE kvs k
def BJ(H:Hp)(a:Addr)(y v:V)(H':Hp):Prop:=
 (∃ kvs k,H a=some (.dK kvs)/\y=kV k/\kvs.length < sizeLine/\H'=upd H a (.dK (eM kvs k v))) \/
 ∃ kvs k b,H a=some (.dT kvs)/\y=.ref b/\H b=some (.tup (k.map kV))/\kvs.length < sizeLine/\H'=upd H a (.dT (eM kvs k v))
theorem qS.k{H:Hp}{a:Addr}{kvs:List (Key × V)}{k:Key}(e:H a=some (.dK kvs)):qS H a (kV k) (dE kvs k):=.inl ⟨kvs,k,.inl e,rfl,rfl⟩
theorem BJ.k{H:Hp}{a:Addr}{kvs:List (Key × V)}{k:Key}{v:V}(e:H a=some (.dK kvs))(hl:kvs.length < sizeLine):BJ H a (kV k) v (upd H a (.dK (eM kvs k v))):=.inl ⟨kvs,k,e,rfl,hl,rfl⟩
section
variable {X:Cx}{pins:List (Addr × Obj)}{σ:St}{H:Hp}{s:Shared}{a:Addr}{y v:V}{u r:Value}{o:Option V}{A:Around}{E:Value->Shared->Prop}
theorem Inv.big(I:Inv X pins σ H s):sysModules < s.heap.objs.size:=by
 have h:mainGlobals < s.heap.objs.size:=(I.mod.glob.keeps I.bk).lt;exact LB (by decide) h
theorem uP{Q:Value->Shared->Prop}(hu:A.units+1 < cLine)(I:Inv X pins σ H s)(g:qS H a y (some v))(ry:bG y u)(h:∀ w' s',Inv X pins σ H s'->bG v w'->Q w' s') :
  wpAny (model X.prog X.w) A (getItem (.ref a) u) Q E s:=by
 rcases g with ⟨kvs,k,e,ey,l⟩|⟨kvs,k,b,e,ey,eb,l⟩
 ·subst ey;obtain⟨z,hd,vs,rel,dd⟩:=rh I.hok e;obtain⟨w',hw,rw'⟩:=kM.some_of (v:=v) (o:=valueAt vs k) (by rw [l];exact rel.val k);exact wpAny_getItem_of (vt ry) dd.mapOf hw (h w' _ (I.tok _) rw')
 ·subst ey;cases (show u=Value.ref b from ry);obtain⟨z,hd,xs,rel,dd⟩:=rg I.hok e;obtain⟨w',hw,rw'⟩:=kM.some_of (v:=v) (o:=(atKey xs k).map (·.2)) (by rw [l];exact rel.val k);obtain⟨p,hp,hp2⟩:=J7.mp hw;refine wpAny_getItem_heap (My hu) (oo I.hok eb) dd hp ?_;rw [hp2];exact h w' _ (I.tok _) rw'
theorem sH{h':Heap}{t':Nat}{ob:HO}(I:Inv X pins σ H s)(mu:Mut (H a))(hs:Heap.SameBut a s.heap h')(he:∃ q,h'.get? a=some q)(new:bK X.prog X.w (upd H a ob) h' a ob) :
  Inv X pins σ (upd H a ob) { s with heap:=h',toks:=t' }:=
 I.write (x:=a) (e:=a) mu (.inl rfl) (λ b q hb z=>(hs.2 b hb).trans z) he new
theorem ES{P:Program}{w:World}{H':Hp}{h':Heap}{kvs:List (Key × V)}{vs:List (Key × Value)}(z:kvs.length<=sizeLine)(hd:(a == sysModules)=false)(rel:KV kvs vs)(dd:h'.DictOf (bz P w) a vs) :
  bK P w H' h' a (.dK kvs):=⟨z,hd,vs,rel,dd⟩
theorem uO{H':Hp}{Q:Unit->Shared->Prop}(hu:A.units+1 < cLine)(I:Inv X pins σ H s)(g:BJ H a y v H')(ry:bG y u)(rv:bG v r)(h:∀ s',Inv X pins σ H' s'->Q () s') :
  wpAny (model X.prog X.w) A (setItem (.ref a) u r) Q E s:=by
 rcases g with ⟨kvs,k,e,ey,l,eH⟩|⟨kvs,k,b,e,ey,eb,l,eH⟩
 ·subst ey eH;obtain⟨z,hd,vs,rel,dd⟩:=zm I.hok e;have hz:vs.length<=sizeLine:=by rw [←rel.length];exact z
  have hl:(eM kvs k v).length<=sizeLine:=by have:=iy kvs k v;omega
  refine wpAny_setItem_pairs (hsz:=hz) (vt ry) dd λ h' dd' hs=>h _ ?_;have he:∃ q,h'.get? a=some q:=let ⟨q,_,_,hq,_⟩:=dd';⟨q,hq⟩;exact sH I (by rw [e];exact True.intro) hs he (ES hl hd (rel.put k rv) dd')
 ·subst ey eH;cases (show u=Value.ref b from ry);obtain⟨z,hd,xs,rel,dd⟩:=Hk I.hok e;have hz:xs.length<=sizeLine:=by rw [←LG rel];exact z
  have hl:(eM kvs k v).length<=sizeLine:=by have:=iy kvs k v;omega
  refine wpAny_setItem_heap (hsz:=hz) (My hu) (oo I.hok eb) dd λ h' dd' hs=>h _ ?_;obtain⟨q,es,ep,hq,h2,h3,h4,_,h5⟩:=dd';refine sH I (by rw [e];exact True.intro) hs ⟨q,hq⟩ ⟨hl,hd,_,(rel.put k eb rv).keeps λ c ys ec=>?_,q,es,ep,hq,h2,h3,h4,h5⟩;rw [ah (Gu ec e (λ z=>nomatch z))];exact ec
end
section
variable {X:Cx}{pins:List (Addr × Obj)}{σ:St}{H:Hp}{s:Shared}{a:Addr}{kvs:List (Key × V)}{k:Key}{u:Value}{A:Around}{E:Value->Shared->Prop}
end
def Iu(i:Expr):Prop:=∀ ov iv,subscripted i false ov iv=operate [ov,iv] (getItem ov iv)
theorem zD{prog:Program}{w:World}{A:Around}{E:Value->Shared->Prop}{s:Shared}{env:Env}{value slice:Expr}{pos:Pos}{T id:String}{Q:Value->Shared->Prop}
  (hl:typeLookup (.type T) "__getitem__"=pure (some (.builtin id))) (hs:Iu slice)
  (h:wpAny (model prog w) A (eval value env) (λ o s₁=>wpAny (model prog w) A (eval slice env) (λ i s₂=>s₂.TypeIs o T/\wpAny (model prog w) A (getItem o i) Q E s₂) E s₁) E s) :
  wpAny (model prog w) A (eval (.Subscript value slice pos) env) Q E s:=by
 refine Subscript_ (wpAny_mono h (λ o s₁ h₁=>wpAny_mono h₁ (λ i s₂ h₂=>?_) λ _ _ x=>x) λ _ _ x=>x);obtain⟨hT,h₂⟩:=h₂;unfold subscriptTail;refine wpAny_bind ?_;rw [getitemInPython_of_ne hT.not_modules];refine wpAny_bind (wpAny_specialOf hT hl ?_)
 have fin:wpAny (model prog w) A (subscripted slice false o i) (λ r s₃=>wpAny (model prog w) A (letTemporaryGo value o r >>= λ _=>pure r) Q E s₃) E s₂:=by
  rw [hs o i];exact wpAny_operating (Lo h₂ (λ r s₃ h₃=>Jx (wpAny_letTemporaryGo (JE h₃))) λ _ _ x=>x)
 first
  | exact JE (Jx fin)
  | exact Jx (JE (Jx fin))
  | exact Jx fin
theorem nM{X:Cx}{pins:List (Addr × Obj)}{σ:St}{H:Hp}{s:Shared}{a:Addr}{y:V}{o:Option V}(I:Inv X pins σ H s)(g:qS H a y o):s.TypeIs (.ref a) "dict":=by
 rcases g with ⟨kvs,k,e,_,_⟩|⟨kvs,k,b,e,_,_,_⟩
 ·obtain⟨_,_,vs,_,dd⟩:=rh I.hok e;exact dd.typeIs
 ·obtain⟨_,_,xs,_,dd⟩:=rg I.hok e;exact dd.typeIs
def B5(td ty:TE):TE:=λ σ H Q=>td σ H λ x H1=>ty σ H1 λ y H2=>∃ a v,x=.ref a/\qS H2 a y (some v)/\Q v H2
def B8(td ty tv:TE):TS:=λ D σ H=>tv σ H λ v H1=>td σ H1 λ x H2=>ty σ H2 λ y H3=>∃ a H4,x=.ref a/\BJ H3 a y v H4/\D.nx σ H4
section
variable {X:Cx}{o i e value:Expr}{pos pos' tpos:Pos}{td ty tv:TE}
theorem gR(hu:X.A.units+1 < cLine)(ho:PE X o td)(hi:PE X i ty)(hs:Iu i):PE X (.Subscript o i pos) (B5 td ty):=by
 intro pins s σ H Q I h;refine zD PySem.F.slot_dict_getitem.lookup hs (thn (ho pins s σ H _ I h) λ u s1 ⟨x,H1,I1,rx,q1⟩=>thn (hi pins s1 σ H1 _ I1 q1) λ iv s2 ⟨y,H2,I2,ry,a,v,ex,g,q2⟩=>?_);subst ex;obtain rfl:u=Value.ref a:=rx;exact⟨nM I2 g,uP hu I2 g ry λ w' s3 I3 rw'=>⟨v,H2,I3,rw',q2⟩⟩
theorem zO(hu:X.A.units+1 < cLine)(ho:PE X o td)(hi:PE X i ty)(hv:PE X value tv)(hs:swapsWith value (some (.Subscript o i pos')) pos.line X.env=pure false) :
  PS X (.Assign [.Subscript o i pos'] value pos) (B8 td ty tv):=by
 intro pins s σ H D I h;refine wpAny_Assign_Subscript (thn (hv pins s σ H _ I h) λ r s1 ⟨v,H1,I1,rv,q1⟩=>thn (ho pins s1 σ H1 _ I1 q1) λ u s2 ⟨x,H2,I2,rx,q2⟩=>thn (hi pins s2 σ H2 _ I2 q2) λ iv s3 ⟨y,H3,I3,ry,a,H4,ex,g,q3⟩=>?_) hs;subst ex;obtain rfl:u=Value.ref a:=rx;exact uO hu I3 g ry rv λ s4 I4=>⟨σ,H4,I4,q3⟩
end
theorem xJ{P:Program}{w:World}{H:Hp}(h:Heap)(hb:sysModules < h.objs.size):bK P w H (h.push { cls:=.type "dict",data:=.dict #[] }) h.objs.size (.dK []):=
 ⟨Kw _,Kg.mpr (J6 (JR hb)),[],.nil,Heap.DictOf.new h⟩
def CM:TE:=λ _ H Q=>∀ p,H p=none->Q (.ref p) (upd H p (.dK []))
section
variable {X:Cx}{pos:Pos}
theorem wg:PE X (.Dict [] [] pos) CM:=λ pins s σ H Q I h=>
 wpAny_Dict_empty ⟨.ref s.heap.objs.size,_,I.laid (a:=s.heap.objs.size) (o:=.dK []) (t':=s.toks) (λ _ _ q=>Jz _ q) (JB _) (xJ s.heap I.big),rfl,h _ (I.hok.fresh (JB _))⟩
end
structure M1(X:Cx)(o:Expr)(m:Str)(apos:Pos)(e:Expr)(cpos:Pos):Prop where
 base:attributeBase o m X.env (eval o X.env)=eval o X.env
 few:((backTo cpos (starEach [e] X.env)).all (λ x=>!x.1) && (backToKw cpos (keywordEach [] X.env)).all (λ x=>x.1.isSome)
  && decide (([e]:List Expr).length+([]:List Keyword).length+(if ([]:List Keyword).isEmpty then 0 else 1) < 30))=true
 line:(apos.endLine == cpos.line)=true
 trees:backTo cpos (starEach [e] X.env)=[(false,eval e X.env)]
structure M2(X:Cx)(o:Expr)(m:Str)(apos:Pos)(e f:Expr)(cpos:Pos):Prop where
 base:attributeBase o m X.env (eval o X.env)=eval o X.env
 few:((backTo cpos (starEach [e,f] X.env)).all (λ x=>!x.1) && (backToKw cpos (keywordEach [] X.env)).all (λ x=>x.1.isSome)
  && decide (([e,f]:List Expr).length+([]:List Keyword).length+(if ([]:List Keyword).isEmpty then 0 else 1) < 30))=true
 line:(apos.endLine == cpos.line)=true
 trees:backTo cpos (starEach [e,f] X.env)=[(false,eval e X.env),(false,eval f X.env)]
def IsD(H:Hp)(a:Addr):Prop:=(∃ kvs,Rd H a (.dK kvs))\/∃ kvs,Rd H a (.dT kvs)
theorem EN{X:Cx}{pins:List (Addr × Obj)}{σ:St}{H:Hp}{s:Shared}{a:Addr}(I:Inv X pins σ H s)(d:IsD H a) :
  s.TypeIs (.ref a) "dict" /\ (∀ b,Value.ref a=.ref b->∃ ob,s.heap.get? b=some ob/\ob.dict=none)/\(a == sysModules)=false:=by
 rcases d with ⟨kvs,e⟩|⟨kvs,e⟩
 ·obtain⟨_,hd,vs,_,dd⟩:=rh I.hok e;refine⟨dd.typeIs,λ b q=>?_,hd⟩;cases q;obtain⟨ob,_,_,h1,h2,_⟩:=dd;exact⟨ob,h1,h2.2.1⟩
 ·obtain⟨_,hd,xs,_,dd⟩:=rg I.hok e;refine⟨dd.typeIs,λ b q=>?_,hd⟩;cases q;obtain⟨ob,_,_,h1,h2,_⟩:=dd;exact⟨ob,h1,h2.2.1⟩
section
variable {X:Cx}{pins:List (Addr × Obj)}{σ:St}{H:Hp}{s:Shared}{a:Addr}{y d:V}{u r:Value}{o:Option V}{A:Around}{E:Value->Shared->Prop}
theorem ET{Q:Value->Shared->Prop}(hu:A.units+1 < cLine)(I:Inv X pins σ H s)(g:qS H a y o)(ry:bG y u)(rd:bG d r)(h:∀ w' s',Inv X pins σ H s'->bG (o.getD d) w'->Q w' s') :
  wpAny (model X.prog X.w) A (call (.builtin "dict.get") [.ref a,u,r]) Q E s:=by
 rcases g with ⟨kvs,k,e,ey,l⟩|⟨kvs,k,b,e,ey,eb,l⟩
 ·subst ey;obtain⟨z,hd,vs,rel,dd⟩:=rh I.hok e;refine call_meetsIn LY dd.typeIs PySem.F.entry_dict_get (PySem.F.args_dict_get_3 _ _ _) (meets_dict_get_default (bz X.prog X.w) a (vt ry) hd r) ⟨_,dd.mapOf,h _ _ (I.tok _) ?_⟩;rw [l];exact(rel.val k).getD rd
 ·subst ey;cases (show u=Value.ref b from ry);obtain⟨z,hd,xs,rel,dd⟩:=rg I.hok e;refine call_meetsIn LY dd.typeIs PySem.F.entry_dict_get (PySem.F.args_dict_get_3 _ _ _) (meetsH_dict_get_default (tupleKind (bz X.prog X.w)) a b hd r) ⟨My hu,k,xs,oo I.hok eb,dd,h _ _ (I.tok _) ?_⟩;rw [l];exact(rel.val k).getD rd
end
def yc(td ty tx:TE):TE:=λ σ H Q=>td σ H λ x H1=>∃ a,x=.ref a/\IsD H1 a/\ty σ H1 λ y H2=>tx σ H2 λ z H3=>∃ o,qS H3 a y o/\Q (o.getD z) H3
section
variable {X:Cx}{o e f:Expr}{apos cpos:Pos}{td ty tx:TE}
theorem wj(hu:X.A.units+1 < cLine)(ho:PE X o td)(he:PE X e ty)(hf:PE X f tx)(m:M2 X o "get" apos e f cpos):PE X (.Call (.Attribute o "get" apos) [e,f] [] cpos) (yc td ty tx):=by
 intro pins s σ H Q I h;refine wpAny_Call_method m.base m.few m.line PySem.F.plainAttrs_dict LY PySem.F.type_dict_get (thn (ho pins s σ H _ I h) λ u s1 ⟨x,H1,I1,rx,a,ex,d,q1⟩=>?_);subst ex;obtain rfl:u=Value.ref a:=rx;obtain⟨t1,t2,_⟩:=EN I1 d;refine⟨t1,t2,?_⟩;rw [m.trees]
 refine Md rfl (Mo (MB (thn (he pins s1 σ H1 _ I1 q1) λ iv s2 ⟨y,H2,I2,ry,q2⟩=>
  MB (thn (hf pins s2 σ H2 _ I2 q2) λ fv s3 ⟨z,H3,I3,rz,ov,g,q3⟩=>Calls.spliced_nil ?_))))
 exact ET hu I3 g ry rz λ w' s4 I4 rw'=>⟨_,H3,I4,rw',q3⟩
end
section
variable {X:Cx}{pins:List (Addr × Obj)}{σ:St}{H:Hp}{s:Shared}{a:Addr}{kvs:List (Key × V)}{A:Around}{E:Value->Shared->Prop}
end
section
variable {X:Cx}{pins:List (Addr × Obj)}{σ:St}{H:Hp}{s:Shared}{a:Addr}{y:V}{u:Value}{A:Around}{E:Value->Shared->Prop}
end
section
variable {κ:Type}[DecidableEq κ]
theorem Fd{kvs:List (κ × V)}{k:κ}(h:dE kvs k=none):¬ k∈kvs.map (·.1):=by
 intro m;obtain⟨p,hp,e⟩:=J0.mp m;have q:(kvs.any λ kv=>decide (kv.1=k))=true:=List.any_eq_true.mpr ⟨p,hp,JZ e⟩;rw [eB,h] at q;exact absurd q (by simp)
end
section
variable {X:Cx}
def zq(i j:Int):Prop:=i.natAbs < 2 ^ 256/\j.natAbs < 2 ^ 256
def zr(_ j:Int):Prop:=j ≠ 0/\j.natAbs < 2 ^ 256
theorem EE{j:Int}(h:j ≠ 0)(hj:j.natAbs < 2 ^ 256):j.natAbs.log2 < 9000:=by
 have h0:j.natAbs ≠ 0:=by omega
 have h1:=(Nat.log2_lt h0).mpr hj;omega
theorem wu:OpR X (binaryOp .FloorDiv) (rI zr λ i j=>.int (i.fdiv j)):=opI λ _ _ _ _ _ _ _ hc q=>floordiv_int hc.1 q (.inl (PyProof.noPylong_of_log2 (EE hc.1 hc.2)))
theorem xP:bE X (.builtin "isinstance") (λ xs H Q=>∃ x n ty b,xs=[x,.ty n]/\nY X.K H x ty/\W.kitOne X.K ty (.type n)=some b/\Q (.bl b) H):=by
 intro pins s σ H xs us Q I r h;obtain⟨x,n,ty,b,rfl,hty,hk,q⟩:=h;obtain⟨u,w',rfl,rx,rc⟩:=vp r;cases (show w'=Value.type n from rc);exact uF I rx hty hk (λ tk=>⟨.bl b,H,I.tok _,rfl,q⟩)
theorem uC(K:W.Frag)(A B:String)(r:Bool)
  (h:(if (Value.type A == Value.type B)=true then some true else if W.kitMeta B=true then (fastBuiltinMro A).map (·.contains (.type B)) else none)=some r):W.kitOne K (.type A) (.type B)=some r:=h
mutual
inductive jv (K:PySem.W.Frag) (H:Hp):V->PyData->Prop
 | non:jv K H .non .none
 | bl (b:Bool):jv K H (.bl b) (.bool b)
 | int (i:Int):jv K H (.int i) (.int i)
 | str (x:Str):jv K H (.str x) (.str x)
 | lst {a:Addr} {xs:List V} {ds:List PyData} (h:SqL K H a xs) (r:gG K H xs ds):jv K H (.ref a) (.list ds)
 | tup {a:Addr} {xs:List V} {ds:List PyData} (h:SqT K H a xs) (r:gG K H xs ds):jv K H (.ref a) (.tuple ds)
inductive gG (K:PySem.W.Frag) (H:Hp):List V->List PyData->Prop
 | nil:gG K H [] []
 | cons {x:V} {d:PyData} {xs:List V} {ds:List PyData} (h:jv K H x d) (t:gG K H xs ds):gG K H (x::xs) (d::ds)
end
mutual
theorem jv.reads{pins:List (Addr × Obj)}{σ:St}{H:Hp}{s:Shared}(I:Inv X pins σ H s):∀ {x:V}{d:PyData}{u:Value},jv X.K H x d->bG x u->∃ as,Reads s.heap u d as
 | _,_,_,.non,r=>by cases (show _=Value.none from r);exact⟨_,.none⟩
 | _,_,_,.bl b,r=>by cases (show _=Value.bool b from r);exact⟨_,.bool b⟩
 | _,_,_,.int i,r=>by obtain⟨t,rfl⟩:=r;exact⟨_,.int i t⟩
 | _,_,_,.str x,r=>by obtain⟨t,rfl⟩:=r;exact⟨_,.str x t⟩
 | _,_,_,@jv.lst _ _ a xs ds h q,r=>by
  cases (show _=Value.ref a from r);obtain⟨its,hv,hp,_⟩:=I.list h;obtain⟨o,n,e,c,_,d⟩:=hp;obtain⟨as,z⟩:=gG.reads I q hv;exact⟨_,.list e c d (by simpa using z)⟩
 | _,_,_,@jv.tup _ _ a xs ds h q,r=>by
  cases (show _=Value.ref a from r);obtain⟨its,hv,hp,_⟩:=I.tuple h;obtain⟨o,e,c,n,d⟩:=hp;obtain⟨as,z⟩:=gG.reads I q hv;exact⟨_,.tuple e c d (by simpa using z)⟩
theorem gG.reads{pins:List (Addr × Obj)}{σ:St}{H:Hp}{s:Shared}(I:Inv X pins σ H s):∀ {xs:List V}{ds:List PyData}{us:List Value},gG X.K H xs ds->bq xs us->∃ as,ReadsAll s.heap us ds as
 | _,_,_,.nil,.nil=>⟨_,.nil⟩
 | _,_,_,.cons h t,.cons r q=>by
  obtain⟨as,z⟩:=jv.reads I h r;obtain⟨bs,y⟩:=gG.reads I t q;exact⟨_,.cons z y⟩
end
def IQ(K:W.Frag):R2:=λ x y H Q=>∃ d e,jv K H x d/\jv K H y e/\SeqAt.shaped d=true/\SeqAt.shaped e=true/\Q (.bl (PyData.eqv d e)) H
def IL(K:W.Frag):R2:=λ x y H Q=>∃ d e,jv K H x d/\jv K H y e/\SeqAt.shaped d=true/\SeqAt.shaped e=true/\Q (.bl (!PyData.eqv d e)) H
theorem Di(hu:X.A.units+64 < cLine):OpR X (compareOp .Eq) (IQ X.K):=by
 intro pins s σ H x y v u Q I rx ry h;obtain⟨d,e,hd,he,sd,se,q⟩:=h;obtain⟨as,z⟩:=hd.reads I rx;obtain⟨bs,z'⟩:=he.reads I ry;exact SeqAt.compareEq_shaped z z' sd se hu ⟨.bl _,H,I,rfl,q⟩
theorem Dg(hu:X.A.units+64 < cLine):OpR X (compareOp .NotEq) (IL X.K):=by
 intro pins s σ H x y v u Q I rx ry h;obtain⟨d,e,hd,he,sd,se,q⟩:=h;obtain⟨as,z⟩:=hd.reads I rx;obtain⟨bs,z'⟩:=he.reads I ry;exact SeqAt.compareNe_shaped z z' sd se hu ⟨.bl _,H,I,rfl,q⟩
end
theorem vR{H:Hp}{p:Addr}{o:HO}(h:H p=none):kP H (upd H p o):=λ b u e=>by
 rw [ah (bO e h)];exact e
theorem yE{α:Type}(xs:List α)(i:Int)(h0:0<=i)(h1:i < xs.length):∃ v,atI xs i=some v/\v∈xs:=by
 have hl:i.toNat < xs.length:=by omega
 refine⟨xs[i.toNat],?_,KR hl⟩;have e:((i.toNat:Nat):Int)=i:=by omega
 have:=fJ (xs:=xs) (j:=i.toNat) (v:=xs[i.toNat]) (Jy hl);rw [e] at this;exact this
theorem pb(ns:List Int)(i:Int)(h0:0<=i)(h1:i < ns.length):∃ z,atI (ns.map V.int) i=some (.int z)/\z∈ns:=by
 obtain⟨v,e,m⟩:=yE (ns.map V.int) i h0 (by simpa using h1);obtain⟨z,hz,rfl⟩:=J0.mp m;exact⟨z,e,hz⟩
def kL(cells:List (Str × Addr)):List (Str × NameKind)->List (Str × Addr)->List (Str × Addr)
 | [],acc=>acc
 | (n,k)::r,acc=>if (k == .free)=true then kL cells r ((n,(cells.lookup n).getD 0)::acc) else kL cells r acc
theorem fh{env:Env}:∀ (names:List (Str × NameKind)) (acc:List (Str × Addr)),(∀ y∈names,y.2=.free->∃ c,env.cells.lookup y.1=some c) →
  (forIn names acc (λ (x:Str × NameKind) (cs:List (Str × Addr))=>match x with
   | (name,kind)=>if (kind == .free)=true then (do let a ←cellOf env name;pure (ForInStep.yield ((name,a)::cs))) else (do pure PUnit.unit;pure (ForInStep.yield cs))):Sem (List (Str × Addr)))=pure (kL env.cells names acc)
 | [],acc,_=>rfl
 | (n,k)::r,acc,h=>by
  rw [Mz];have hr:∀ y∈r,y.2=.free->∃ c,env.cells.lookup y.1=some c:=λ y hy=>h y (JG _ hy)
  by_cases hk:(k == .free)=true
  ·obtain⟨c,hc⟩:=h (n,k) mem_cons_self (by simpa using hk);have hc':env.cells.lookup n=some c:=hc;simp only [hk,if_true,kL,hc',Option.getD_some];have e:cellOf env n=pure c:=by unfold cellOf;rw [hc']
   rw [e];exact fh r _ hr
  ·simp only [hk,if_false,kL];exact fh r acc hr
theorem fB{scope:Scope}{env:Env}(h:∀ y∈scope.names,y.2=.free->∃ c,env.cells.lookup y.1=some c):closureFor scope env=pure (kL env.cells scope.names []):=by
 unfold closureFor;have:=fh (env:=env) scope.names [] h
 first
  | exact(KO (λ m=>m >>= λ cs=>pure cs) this).trans (pure_bind _ _)
  | (simp only [] at this ⊢;rw [this];rfl)
theorem j8{cells:List (Str × Addr)}{x:Str}{c:Addr}:∀ {names:List (Str × NameKind)}{acc:List (Str × Addr)},(∀ y∈names,y.2=.free->∃ c,cells.lookup y.1=some c)->(kL cells names acc).lookup x=some c->acc.lookup x=some c\/cells.lookup x=some c
 | [],acc,_,h=>.inl h
 | (n,k)::r,acc,hf,h=>by
  have hr:∀ y∈r,y.2=.free->∃ c,cells.lookup y.1=some c:=λ y hy=>hf y (mem_cons_of_mem _ hy);unfold kL at h
  by_cases hk:(k == .free)=true
  ·rw [JM hk] at h
   rcases j8 hr h with q|q
   ·rw [K9] at q
    cases hx:x == n with
    | true=>
     rw [hx] at q;obtain⟨d,hd⟩:=hf (n,k) JI (by simpa using hk);have e:x=n:=by simpa using hx
     subst e;have hd':cells.lookup x=some d:=hd;rw [hd'] at q ⊢;exact .inr (by simpa using q)
    | false=>rw [hx] at q;exact .inl q
   ·exact .inr q
  ·rw [JL hk] at h;exact j8 hr h
theorem j9{cells:List (Str × Addr)}{x:Str}:∀ {names:List (Str × NameKind)}{acc:List (Str × Addr)},(∀ y∈names,y.2=.free->∃ c,cells.lookup y.1=some c)->(∃ c,acc.lookup x=some c)->∃ c,(kL cells names acc).lookup x=some c
 | [],acc,_,h=>h
 | (n,k)::r,acc,hf,h=>by
  have hr:∀ y∈r,y.2=.free->∃ c,cells.lookup y.1=some c:=λ y hy=>hf y (mem_cons_of_mem _ hy);unfold kL
  by_cases hk:(k == .free)=true
  ·rw [JM hk];refine j9 hr ?_;rw [K9]
   cases hx:x == n with
   | true=>exact⟨_,rfl⟩
   | false=>exact h
  ·rw [JL hk];exact j9 hr h
theorem gC{cells:List (Str × Addr)}{x:Str}:∀ {names:List (Str × NameKind)}{acc:List (Str × Addr)},(∀ y∈names,y.2=.free->∃ c,cells.lookup y.1=some c)->names.lookup x=some .free->∃ c,(kL cells names acc).lookup x=some c
 | [],acc,_,h=>by simp at h
 | (n,k)::r,acc,hf,h=>by
  have hr:∀ y∈r,y.2=.free->∃ c,cells.lookup y.1=some c:=λ y hy=>hf y (mem_cons_of_mem _ hy);rw [lookup_cons] at h;unfold kL
  cases hx:x == n with
  | true=>
   rw [hx] at h;have hk:k=.free:=by simpa using h
   subst hk;rw [JM (show (NameKind.free == NameKind.free)=true from rfl)];refine j9 hr ⟨(cells.lookup n).getD 0,?_⟩;rw [K9,hx]
  | false=>
   rw [hx] at h
   by_cases hk:(k == .free)=true
   ·rw [JM hk];exact gC hr h
   ·rw [JL hk];exact gC hr h
theorem eJ{x:Str}{k:NameKind}:∀ {names:List (Str × NameKind)},names.lookup x=some k->(x,k)∈names
 | [],h=>by simp at h
 | (n,j)::r,h=>by
  rw [K9] at h
  cases hx:x == n with
  | true=>
   rw [hx] at h;have e:x=n:=by simpa using hx
   have e2:j=k:=by simpa using h
   subst e;subst e2;exact JI
  | false=>rw [hx] at h;exact JG _ (eJ h)
theorem cX{env:Env}{x:Str}:∀ {names:List (Str × NameKind)},
  (names.map λ (n,k)=>if (k == NameKind.free && env.scope.kind == .function && env.kindOf n == some .cell) then (n,NameKind.cell) else (n,k)).lookup x
   = (names.lookup x).map λ k=>if (k == NameKind.free && env.scope.kind == .function && env.kindOf x == some .cell) then NameKind.cell else k
 | []=>rfl
 | (n,k)::r=>by
  have ih:=@cX env x r
  show List.lookup x ((if (k == NameKind.free && env.scope.kind == .function && env.kindOf n == some .cell)=true then (n,NameKind.cell) else (n,k))::_)=_
  cases hx:x == n with
  | true=>
   have e:x=n:=by simpa using hx
   subst e
   by_cases hc:(k == NameKind.free && env.scope.kind == .function && env.kindOf x == some .cell)=true
   ·rw [JM hc];simp only [K9,Kp,Lj];rw [JM hc]
   ·rw [JL hc];simp only [K9,Kp,Lj];rw [JL hc]
  | false=>
   by_cases hc:(k == NameKind.free && env.scope.kind == .function && env.kindOf n == some .cell)=true
   ·rw [JM hc];simp only [K9,hx];exact ih
   ·rw [JL hc];simp only [K9,hx];exact ih
abbrev cCx(X:Cx)(scope:Scope)(N':List Str)(C:Addr)(s₀:Shared)(H₀:Hp)(ex:List Addr)(pn:List (Addr × Obj)):Cx:=
 { X with N:=N',s₀:=s₀,H₀:=H₀,env:=compEnvC scope (kL X.env.cells scope.names []) C X.env,outer:=X.stack,stack:=X.stack,ex:=ex,fn:=λ _=>false,pn:=pn,xe:=λ _ _=>False }
def PTs(Y:Cx)(ifs:List Expr)(t:TT):Prop:=
 ∀ (pins:List (Addr × Obj)) (s:Shared) (σ:St) (H:Hp) (Q:Bool->Hp->Prop),Inv Y pins σ H s->t σ H Q →
  wpAny (model Y.prog Y.w) Y.A (forIn ifs true λ c r=>if r=true then do let ok ←isTrue c Y.env (eval c Y.env);pure (ForInStep.yield ok) else pure (ForInStep.yield r)) (TP Y pins σ Q) Y.xe s
def Hr:TT:=λ _ H Q=>Q true H
theorem aX{Y:Cx}:PTs Y [] Hr:=λ _ _ _ H _ I h=>JE ⟨H,I,h⟩
theorem jD{Y:Cx}{c:Expr}{t:TT}(h:PT Y c t):PTs Y [c] t:=λ pins s σ H Q I hw=>PySem.wpAny_tests_one (h pins s σ H Q I hw)
theorem HOk.but{P:Program}{w:World}{H:Hp}{h h':Heap}{C:Addr}(ok:HOk P w H h)(hn:H C=none)(hs:Heap.SameBut C h h'):HOk P w H h':=λ b ob e=>by
 refine(ok b ob e).stay (λ c w' hc q=>(hs.2 c ?_).trans q) (λ _ q=>q) λ _ _ q=>q;rintro rfl
 rcases hc with rfl|hc
 ·rw [hn] at e;cases e
 ·rw [hn] at hc;cases hc
theorem Un.but{fs ex:List Addr}{H H':Hp}{h h1 h2:Heap}{C:Addr}(u:Un fs ex H H' h h1)(hs:Heap.SameBut C h1 h2)(hC:∀ b o,h.get? b=some o->b ≠ C):Un fs ex H H' h h2 where
 keep:=λ b o e n hb hx=>(hs.2 b (hC b o e)).trans (u.keep b o e n hb hx)
 slot:=λ b o e n hb hx=>by
  obtain⟨sl,q⟩:=u.slot b o e n hb hx;exact⟨sl,(hs.2 b (hC b o e)).trans q⟩
 free:=u.free
 there:=λ b o e hx=>by
  obtain⟨o',q⟩:=u.there b o e hx;exact⟨o',(hs.2 b (hC b o e)).trans q⟩
 tups:=u.tups
 frzs:=u.frzs
 tbls:=u.tbls
section
variable {X:Cx}
def yN(k:Nat)(wi:TI)(g:TG)(tt:TT)(te:TE):TE:=λ σ H Q=>wi σ H λ J H1=>∀ D,H1 D=none->∃ W:Nat->Nat->List V->Hp->Prop,(∃ m,W 0 m [] (upd H1 D (.lst [])))/\∀ i m ys H,W i m ys H →
 (J.stop i H/\Q (.ref D) H)\/(J.go i H/\∃ N:List V->Hp->Prop,(∀ ys' H',N ys' H'->∃ m',m' < m/\W (i+1) m' ys' H') /\
  ∀ x H',J.yld i H x H'->g x (List.replicate k none++σ) H' λ σ2 H2=>(∃ vs:St,vs.length=k/\σ2=vs++σ)/\tt σ2 H2 λ b H3=>if b=true then te σ2 H3 λ y H4=>H4 D=some (.lst ys)/\ys.length < sizeLine/\N (ys++[y]) (upd H4 D (.lst (ys++[y]))) else N ys H3)
theorem uQ{Y:Cx}{tg elt iter:Expr}{ifs:List Expr}{scope:Scope}{pos:Pos}{it D:Addr}{g:TG}{tt:TT}{te:TE}{J:It}{fp:List Addr}{tn:Nat->Heap->Prop}{k:Nat}{σ:St}{Q:VK}
  (hc:Y.calm=true) (hx:Y.xe=λ _ _=>False) (hg:PG Y tg g) (ht:PTs Y ifs tt) (he:PE Y elt te) (T:yJ Y.prog Y.w Y.K tg J fp it tn) (hf:∀ H:Hp,(∀ b∈fp,H b=none)->∀ b∈fp,mJ Y [] H b)
  (W:Nat->Nat->List V->Hp->Prop)
  (turn:∀ i m ys H,W i m ys H->(J.stop i H/\Q (.ref D) H)\/(J.go i H/\∃ N:List V->Hp->Prop,(∀ ys' H',N ys' H'->∃ m',m' < m/\W (i+1) m' ys' H') /\
   ∀ x H',J.yld i H x H'->g x (List.replicate k none++σ) H' λ σ2 H2=>(∃ vs:St,vs.length=k/\σ2=vs++σ)/\tt σ2 H2 λ b H3=>if b=true then te σ2 H3 λ y H4=>H4 D=some (.lst ys)/\ys.length < sizeLine/\N (ys++[y]) (upd H4 D (.lst (ys++[y]))) else N ys H3))
  (n:Nat) (s:Shared) (h:∃ i ys H,Inv Y [] (List.replicate k none++σ) H s/\tn i s.heap/\(∀ b∈fp,H b=none)/\W i n ys H) :
  codeAny (model Y.prog Y.w) Y.A (.compLoop (.ListComp elt [⟨tg,iter,ifs,0⟩] scope pos) 0 (.ref it) (.ref D) Y.env) (λ r s'=>r=.ok .next/\∃ H',Inv Y [] (List.replicate k none++σ) H' s'/\Q (.ref D) H') s:=by
 refine codeAny_loop rfl (λ n s=>∃ i ys H,Inv Y [] (List.replicate k none++σ) H s/\tn i s.heap/\(∀ b∈fp,H b=none)/\W i n ys H) ?_ n h;rintro n s3 ⟨i,ys,H3,I3,st3,fr3,w3⟩
 show wpAny _ Y.A ((compTurn (.ListComp elt [⟨tg,iter,ifs,0⟩] scope pos) 0 (.ref it) (.ref D) Y.env).onRaise (λ x=>do noteFrame x Y.env;theTreesLotGoes x)) _ _ s3
 refine PySem.wpAny_noted ?_;rw [PySem.compTurn_list]
 have no:∀ {α:Type} {m:Sem α} {P:α->Shared->Prop} {E:Value->Shared->Prop} {s:Shared},wpAny (model Y.prog Y.w) Y.A m P Y.xe s->wpAny (model Y.prog Y.w) Y.A m P E s:=λ {α m P E s} h=>
  Lo h (λ _ _ q=>q) λ _ _ q=>by rw [hx] at q;exact q.elim
 refine Jx (L6 (Jx ?_))
 rcases turn i n ys H3 w3 with ⟨stop,qn⟩|⟨go,N,hN,step⟩
 ·refine thn (T.done Y rfl rfl rfl hc i [] s3 (List.replicate k none++σ) H3 _ I3 (hf H3 fr3) st3 stop) λ r s4 ⟨hr,I4⟩=>?_;subst hr;exact JE ⟨rfl,H3,I4,qn⟩
 ·refine thn (T.item Y rfl rfl rfl hc i [] s3 (List.replicate k none++σ) H3 _ I3 (hf H3 fr3) st3 go) λ r s4 ⟨u,hr,h4⟩=>?_;subst hr;refine Jx (thn h4 λ _ s5 ⟨x,H5,I5,r5,y5,st5,fr5⟩=>?_);have I5':=I5.pinned (hf H5 fr5) (T.obj _ _ st5);refine Jx (no (thn (hg _ s5 (List.replicate k none++σ) H5 x u _ I5' r5 (step x H5 y5)) λ _ s6 ⟨σ6,H6,I6,⟨vs,hvs,e6⟩,q6⟩=>?_));subst e6
  have forget:∀ {pins:List (Addr × Obj)} {H:Hp} {s:Shared},Inv Y pins (vs++σ) H s->Inv Y pins (List.replicate k none++σ) H s:=λ {pins H s} I=>I.weak (by simp [hvs]) λ i v e=>by
   by_cases hi:i < k
   ·rw [Kr (by simpa using hi)] at e;simp [LN,hi] at e
   ·rw [JX (by simpa using LP hi)] at e;rw [JX (by omega)]
    simpa [hvs] using e
  refine Jx (no (thn (ht _ s6 (vs++σ) H6 _ I6 q6) λ b s7 ⟨H7,I7,q7⟩=>?_))
  have again:∀ {H8:Hp} {s8:Shared} {ys':List V},Inv Y ([]++kX fp s5.heap) (vs++σ) H8 s8->N ys' H8->∃ m,m < n/\∃ i ys H,Inv Y [] (List.replicate k none++σ) H s8/\tn i s8.heap/\(∀ b∈fp,H b=none)/\W i m ys H:=λ {H8 s8 ys'} I8 n8=>by
   obtain⟨m',hm,w8⟩:=hN ys' H8 n8;refine⟨m',hm,i+1,ys',H8,forget I8.unpinned,T.keep _ _ _ st5 λ b hb o e=>(I8.pin (b,o) (J8 _ (J8 _ (eF hb e)))).1,λ b hb=>?_,w8⟩;obtain⟨o,e,d⟩:=T.obj _ _ st5 b hb;exact(I8.pin (b,o) (J8 _ (J8 _ (eF hb e)))).2.1
  cases b with
  | false=>
   rw [JL JO] at q7;exact JE ⟨rfl,again I7 q7⟩
  | true=>
   rw [JM rfl] at q7;refine Jx (Jx (no (thn (he _ s7 (vs++σ) H7 _ I7 q7) λ y s8 ⟨y',H8,I8,ry,q8,l8,n8⟩=>?_)));exact Jx (no (thn (cn _ s8 (vs++σ) H8 (.ref D) [y'] (.ref D) [y] (λ _ H'=>N (ys++[y']) H') I8 rfl (.cons ry .nil) ⟨D,ys,y',rfl,rfl,q8,l8,n8⟩) λ _ s9 ⟨_,H9,I9,_,q9⟩=>JE (JE ⟨rfl,again I9 q9⟩)))
structure gN(X:Cx)(scope:Scope)(N':List Str)(k:Nat):Prop where
 cell:∀ y∈scope.names,y.2 ≠ .cell
 kind:scope.kind=.function
 names:∀ y∈scope.names,y.2=.local->scope.names.lookup y.1=some .local
 free:∀ y∈scope.names,y.2=.free->X.env.scope.names.lookup y.1=some .cell
 len:N'.length=k+X.N.length
 sub:∀ i x,N'[k+i]? = some x->scope.names.lookup x=some .free->X.N[i]? = some x
 loc:∀ i x,N'[k+i]? = some x->scope.names.lookup x ≠ some .local
theorem gN.cells{scope:Scope}{N':List Str}{k:Nat}{pins:List (Addr × Obj)}{σ:St}{H:Hp}{s:Shared}(c:gN X scope N' k)(I:Inv X pins σ H s):∀ y∈scope.names,y.2=.free->∃ a,X.env.cells.lookup y.1=some a:=λ y hy e=>
 I.ok.has y.1 (.inl (c.free y hy e))
theorem xq{scope:Scope}{N':List Str}{k:Nat}{pins:List (Addr × Obj)}{σ:St}{H:Hp}{s s₄:Shared}{fp:List Addr}{m:Str->Option Value}(c:gN X scope N' k)(hc:X.calm=true)(I:Inv X pins σ H s)
  (hf:∀ b∈fp,mJ X pins H b) (hfl:∀ b∈fp,b < s.heap.objs.size) (hb:∀ b∈fp,X.base.get? b=none) (hns:s₄.heap.Ns s.heap.objs.size m) (hk:∀ b o,s.heap.get? b=some o->s₄.heap.get? b=some o) (ho:s₄.os=s.os) (hg:s₄.gens=s.gens) :
  Inv (cCx X scope N' s.heap.objs.size s H fp (X.pn++pins)) [] (List.replicate k none++σ) H s₄:=by
 have hcl:=c.cells I
 have sub:∀ x a,(kL X.env.cells scope.names []).lookup x=some a->X.env.cells.lookup x=some a:=λ x a e=>by
  rcases j8 hcl e with q|q
  ·simp at q
  ·exact q
 have kinds:∀ x,(compEnvC scope (kL X.env.cells scope.names []) s.heap.objs.size X.env).kindOf x=some .cell\/(compEnvC scope (kL X.env.cells scope.names []) s.heap.objs.size X.env).kindOf x=some .free->scope.names.lookup x=some .free:=λ x hx=>by
  have e:(compEnvC scope (kL X.env.cells scope.names []) s.heap.objs.size X.env).kindOf x=(scope.names.lookup x).map λ k=>if (k == NameKind.free && X.env.scope.kind == .function && X.env.kindOf x == some .cell) then NameKind.cell else k:=cX
  rw [e] at hx
  cases q:scope.names.lookup x with
  | none=>rw [q] at hx;simp at hx
  | some j=>
   rw [q] at hx;have hj:j ≠ .cell:=c.cell (x,j) (eJ q)
   cases j<;>simp_all
 have fresh:∀ b,s.heap.objs.size<=b->s.heap.get? b=none:=λ b hb=>Lh hb;have ne:∀ b o,s.heap.get? b=some o->b ≠ s.heap.objs.size:=λ b o e=>JR (JF e)
 have cl_lt:∀ x a,X.env.cells.lookup x=some a->a < s.heap.objs.size:=λ x a e=>by
  obtain⟨v,o,h1,_⟩:=I.cell x a e;exact JF h1
 refine⟨⟨I.ok.mod,c.kind,I.ok.glob,I.ok.blt,JB _,λ x y a e1 e2=>I.ok.inj x y a (sub x a e1) (sub y a e2),λ x hx=>gC hcl (kinds x hx),(λ _ _ z=>nomatch z),I.ok.hd,I.ok.frames,.inl rfl,λ b hb'=>⟨JR (hfl b hb'),λ x a e=>(hf b hb').2.2.2.2.1 x a (sub x a e)⟩,
   I.bs,JT I.ok.bsz I.sz,(λ b o e hb'=>by rw [hb b hb'] at e;cases e),λ b hb' hz=>?_,I.stack,I.stkFree⟩,ho,by rw [hg];exact I.bare,Un.kept hk,⟨m,hns,λ i x v e1 e2 e3=>?_⟩,λ x a e=>?_,I.hok.fresh (JB _),λ x a e=>I.freeC x a (sub x a e),λ p hp=>?_,I.hok.kept hk,?_⟩
 ·rcases J2.mp (I.stkSub b hz) with z|z
  ·exact(hf b hb').2.1 z
  ·exact(hf b hb').2.2.1 z
 ·have hi:k<=i:=by
   refine LP λ hi=>?_;rw [Kr (by simpa using hi)] at e2;simp [LN,hi] at e2
  obtain⟨j,rfl⟩:∃ j,i=k+j:=⟨i - k,by omega⟩;rw [JX (by simp)] at e2;have e2':σ[j]? = some (some v):=by simpa using e2
  have e:(relabel scope X.env).names.lookup x=(scope.names.lookup x).map λ k=>if (k == NameKind.free && X.env.scope.kind == .function && X.env.kindOf x == some .cell) then NameKind.cell else k:=cX
  have hfree:scope.names.lookup x=some .free:=by
   cases q:scope.names.lookup x with
   | none=>
    rcases e3 with z|z|z
    all_goals (have z':(relabel scope X.env).names.lookup x=some _:=z;rw [e,q] at z';simp at z')
   | some j'=>
    have h1:j' ≠ .cell:=c.cell (x,j') (eJ q);have h2:j' ≠ .local:=λ z=>c.loc j x e1 (by rw [q,z])
    rcases e3 with z|z|z
    all_goals (have z':(relabel scope X.env).names.lookup x=some _:=z;rw [e,q] at z';cases j'<;>simp_all)
  have hX:=c.sub j x e1 hfree;have hcellX:=c.free (x,.free) (eJ hfree) rfl;obtain⟨m0,hn0,hl0⟩:=I.loc;obtain⟨u,r,l⟩:=hl0 j x v hX e2' (.inr (.inl hcellX));refine⟨u,r,?_⟩
  rcases l with ⟨z,_⟩|⟨_,a,ea,hz⟩
  ·have z':X.env.scope.names.lookup x=some .local:=z;rw [hcellX] at z';cases z'
  ·obtain⟨a',ea'⟩:=gC (acc:=[]) hcl hfree;have e4:=sub x a' ea';rw [ea] at e4;cases e4;refine .inr ⟨.inl ?_,a,ea',?_⟩
   ·show (relabel scope X.env).names.lookup x=some .cell
    rw [e,hfree];have k1:(X.env.scope.kind == .function)=true:=by rw [I.ok.kind];rfl
    have k2:(X.env.kindOf x == some .cell)=true:=by
     have:X.env.kindOf x=some .cell:=hcellX;rw [this];rfl
    simp [k1,k2]
   ·obtain⟨o,h1,h2⟩:=hz;exact⟨o,hk _ _ h1,h2⟩
 ·obtain⟨v,o,h1,h2⟩:=I.cell x a (sub x a e);exact⟨v,o,hk _ _ h1,h2⟩
 ·have hp':p∈X.pn++pins:=by simpa using hp
  obtain⟨e,n,nl,nf,d⟩:=I.pin p hp';refine⟨hk _ _ e,n,ne _ _ e,λ z=>?_,d⟩
  rcases J2.mp (I.stkSub _ z) with z|z
  ·exact nl z
  ·exact nf z
 ·show (List.replicate k none++σ).length=N'.length
  rw [c.len,JA,List.length_replicate,I.len]
theorem jh{elt iter tg:Expr}{ifs:List Expr}{scope:Scope}{pos:Pos}{g:TG}{tt:TT}{te:TE}{N':List Str}{k:Nat}{it:Addr}{J:It}{fp:List Addr}{tn:Nat->Heap->Prop}{pins:List (Addr × Obj)}{σ:St}{H:Hp}{s:Shared}{Q:VK}{RR:Value->Addr->Result->Shared->Prop}{E:Value->Shared->Prop}
  (c:gN X scope N' k) (hc:X.calm=true) (I:Inv X pins σ H s) (T:yJ X.prog X.w X.K tg J fp it tn) (st:tn 0 s.heap) (hf:∀ b∈fp,mJ X pins H b)
  (hg:∀ C s₀ H₀ ex pn,PG (cCx X scope N' C s₀ H₀ ex pn) tg g) (ht:∀ C s₀ H₀ ex pn,PTs (cCx X scope N' C s₀ H₀ ex pn) ifs tt) (he:∀ C s₀ H₀ ex pn,PE (cCx X scope N' C s₀ H₀ ex pn) elt te)
  (h:∀ D,H D=none->∃ W:Nat->Nat->List V->Hp->Prop,(∃ m,W 0 m [] (upd H D (.lst [])))/\∀ i m ys H,W i m ys H →
   (J.stop i H/\Q (.ref D) H)\/(J.go i H/\∃ N:List V->Hp->Prop,(∀ ys' H',N ys' H'->∃ m',m' < m/\W (i+1) m' ys' H') /\
    ∀ x H',J.yld i H x H'->g x (List.replicate k none++σ) H' λ σ2 H2=>(∃ vs:St,vs.length=k/\σ2=vs++σ)/\tt σ2 H2 λ b H3=>if b=true then te σ2 H3 λ y H4=>H4 D=some (.lst ys)/\ys.length < sizeLine/\N (ys++[y]) (upd H4 D (.lst (ys++[y]))) else N ys H3))
  (fin:∀ D C s' H' m,s'.heap.Ns C m->C ≠ X.env.locals->(∀ x a,X.env.cells.lookup x=some a->a ≠ C)->(H' C=none/\X.s₀.heap.objs.size<=C/\∀ p∈X.pn++pins,p.1 ≠ C)->(∀ h',Heap.SameBut C s'.heap h'->Inv X pins σ H' { s' with heap:=h' })->Q (.ref D) H'->RR (.ref D) C (.ok .next) s') :
  wpAny (model X.prog X.w) X.A (newList []) (λ acc s₃=>wpAny (model X.prog X.w) X.A (newFunctionEnv scope X.env.globals (kL X.env.cells scope.names []) [] X.env.qual none .none (some X.env)) (λ cenv s₄=>
   codeAny (model X.prog X.w) X.A (.compStart (.ListComp elt [⟨tg,iter,ifs,0⟩] scope pos) 0 (.ref it) acc { cenv with scope:=relabel scope X.env }) (RR acc cenv.locals) s₄) E s₃) E s:=by
 refine wpAny_newObj_type (wpAny_newFunctionEnv c.cell (by intro y hy;simp at hy) (λ h₁ hns₁ hsb₁=>?_) c.kind);dsimp only at hns₁ hsb₁ ⊢;have I3:Inv X pins σ (upd H s.heap.objs.size (.lst [])) { s with heap:=s.heap.push { cls:=.type "list",data:=.seq ([]:List Value).toArray },toks:=s.toks }:=I.lnew (ys:=[]) (its:=[]) .nil (Nat.zero_le _);generalize hH2:s.heap.push { cls:=.type "list",dict:=none,data:=.seq ([]:List Value).toArray }=hp at hns₁ hsb₁ I3 ⊢;have hlt:∀ b o,s.heap.get? b=some o->hp.get? b=some o:=λ b o e=>by rw [←hH2];exact Heap.get?_push_of_some _ e
 have hnD:H s.heap.objs.size=none:=I.hok.fresh (JB _);have kp:∀ b o,hp.get? b=some o->h₁.get? b=some o:=λ b o e=>hsb₁.extBut b o (JR (JF e)) (Jz _ e)
 have stk:∀ b∈fp,s.heap.get? b ≠ none:=λ b hb z=>by
  obtain⟨o,e,_⟩:=T.obj _ _ st b hb;rw [z] at e;cases e
 have flt:∀ b∈fp,b < s.heap.objs.size:=λ b hb=>by
  obtain⟨o,e,_⟩:=T.obj _ _ st b hb;exact JF e
 have fpD:∀ b∈fp,b ≠ s.heap.objs.size:=λ b hb=>JR (flt b hb)
 have hf3:∀ b∈fp,mJ X pins (upd H s.heap.objs.size (.lst [])) b:=λ b hb=>by
  obtain⟨a1,a2⟩:=hf b hb;exact⟨by rw [ah (fpD b hb)];exact a1,a2⟩
 have hnb:∀ b∈fp,X.base.get? b=none:=λ b hb=>by
  cases e:X.base.get? b with
  | none=>rfl
  | some o=>
   rcases (hf b hb).2.2.2.1 with z|z
   ·exact absurd z (I.ok.noex b o e)
   ·have:=JF (I.ok.bs b o e).1;exact absurd (JN this z) (K3 _)
 have hsz:s.heap.objs.size < hp.objs.size:=by rw [←hH2,Kx];exact LO _
 have IY:=xq (s₄:={ s with heap:=h₁,toks:=s.toks+([]:List (Str × Value)).length }) (fp:=fp) c hc I3 hf3 (λ b hb=>LB (flt b hb) hsz) hnb hns₁ kp rfl rfl;obtain⟨W,⟨m0,w0⟩,turn⟩:=h s.heap.objs.size hnD
 have run:=uQ (Y:=cCx X scope N' hp.objs.size { s with heap:=hp,toks:=s.toks } (upd H s.heap.objs.size (.lst [])) fp (X.pn++pins)) (tg:=tg) (elt:=elt) (iter:=iter) (ifs:=ifs) (scope:=scope) (pos:=pos) (it:=it) (D:=s.heap.objs.size) (k:=k) (σ:=σ) (Q:=Q)
  hc rfl (hg _ _ _ _ _) (ht _ _ _ _ _) (he _ _ _ _ _) T (λ H' hn b hb=>⟨hn b hb,JR (LB (flt b hb) hsz),λ z=>(IY.ok.exfs b hb) z,.inl hb,λ x a e=>(IY.ok.exf b hb).2 x a e,λ p hp=>by
   have hp':p∈X.pn++pins:=by simpa using hp
   exact(hf b hb).2.2.2.2.2 p hp'⟩) W turn m0
 have st₁:tn 0 h₁:=T.keep _ _ _ st λ b hb o e=>kp b o (hlt b o e);have go:=run { s with heap:=h₁,toks:=s.toks+([]:List (Str × Value)).length } ⟨0,[],_,IY,st₁,λ b hb=>(hf3 b hb).1,w0⟩
 have out:∀ r s',(r=Except.ok Flow.next/\∃ H',Inv (cCx X scope N' hp.objs.size { s with heap:=hp,toks:=s.toks } (upd H s.heap.objs.size (.lst [])) fp (X.pn++pins)) [] (List.replicate k none++σ) H' s'/\Q (.ref s.heap.objs.size) H')->RR (.ref s.heap.objs.size) hp.objs.size r s':=by
  rintro r s' ⟨rfl,H',J',q⟩;obtain⟨m,hn,_⟩:=J'.loc;have hC:hp.objs.size ≠ X.env.locals:=LA (JN I.lt (LC hsz));refine fin _ _ s' H' m hn hC (λ x a e=>?_) ⟨J'.free,JT I.sz (LC hsz),λ p hp'=>JR (LB (JF (I.pin p hp').1) hsz)⟩ (λ h' hs'=>?_) q
  ·obtain⟨v,o,h1,_⟩:=I.cell x a e;exact JR (LB (JF h1) hsz)
  ·refine I.call' (ch:=fp) ?_ ?_ ?_ J'.bare λ b hb=>⟨(hf b hb).2.2.2.1,(hf b hb).2.1,(hf b hb).2.2.2.2.1,(hf b hb).2.2.2.2.2⟩
   ·exact J'.os
   ·have u1:Un (frs X.stack) fp H (upd H s.heap.objs.size (.lst [])) s.heap hp:=Un.laid hlt (JB _) hnD;exact(u1.trans J'.base).but hs' λ b o e=>JR (LB (JF e) hsz)
   ·exact J'.hok.but J'.free hs'
 exact codeAny_compStart_list (Lp go out) (T.self _ 0 _ _ _ st₁ (Lp go out))
theorem zV{elt iter tg:Expr}{ifs:List Expr}{scope:Scope}{pos:Pos}{wi:TI}{g:TG}{tt:TT}{te:TE}{N':List Str}{k:Nat}
  (c:gN X scope N' k) (hc:X.calm=true) (hi:PI X tg iter wi)
  (hg:∀ C s₀ H₀ ex pn,PG (cCx X scope N' C s₀ H₀ ex pn) tg g) (ht:∀ C s₀ H₀ ex pn,PTs (cCx X scope N' C s₀ H₀ ex pn) ifs tt) (he:∀ C s₀ H₀ ex pn,PE (cCx X scope N' C s₀ H₀ ex pn) elt te)
  (hs:∀ x,foldedSetIterable iter X.env x=pure x:=by intro _;rfl):PE X (.ListComp elt [⟨tg,iter,ifs,0⟩] scope pos) (yN k wi g tt te):=by
 intro pins s σ H Q I h;rw [PySem.eval_ListComp];refine Mq (use:=none) rfl hs (fB (c.cells I)) c.kind c.names (thn (hi pins s σ H _ I h) λ v s1 h1=>thn h1 λ itv s2 h2=>?_);obtain⟨it,fp,tn,J,H2,rfl,I2,T,st2,f2,hW⟩:=h2;refine jh (RR:=λ acc C=>PySem.compPost (model X.prog X.w) X.A X.xe none (EP X pins σ Q) acc C) c hc I2 T st2 f2 hg ht he hW ?_;intro D C s' H' m hn _ _ _ hI q;exact⟨m,hn,λ h' hs'=>⟨.ref D,H',hI h' hs',rfl,q⟩⟩
def B0(i:Nat)(te:TE):TS:=λ D σ H=>te σ H λ x H1=>D.nx (σ.set i (some x)) H1
theorem zM{elt iter tg:Expr}{ifs:List Expr}{scope:Scope}{pos spos py:Pos}{wi:TI}{g:TG}{tt:TT}{te:TE}{N':List Str}{k i:Nat}{y:Str}
  (hN:X.N.Nodup) (hi':X.N[i]? = some y) (hy:Loc X.env.scope y)
  (c:gN X scope N' k) (hc:X.calm=true) (hi:PI X tg iter wi)
  (hg:∀ C s₀ H₀ ex pn,PG (cCx X scope N' C s₀ H₀ ex pn) tg g) (ht:∀ C s₀ H₀ ex pn,PTs (cCx X scope N' C s₀ H₀ ex pn) ifs tt) (he:∀ C s₀ H₀ ex pn,PE (cCx X scope N' C s₀ H₀ ex pn) elt te)
  (hsw:swapsWith (.ListComp elt [⟨tg,iter,ifs,0⟩] scope pos) (some (.Name y py)) spos.line X.env=pure true:=by rfl)
  (hs:∀ x,foldedSetIterable iter X.env x=pure x:=by intro _;rfl) (hf:X.fn y=true\/X.env.scope.names.lookup y=some .local:=by first|exact .inl rfl|exact .inr rfl|assumption) :
  PS X (.Assign [.Name y py] (.ListComp elt [⟨tg,iter,ifs,0⟩] scope pos) spos) (B0 i (yN k wi g tt te)):=by
 intro pins s σ H D I h;rw [PySem.exec_Assign_Name_used _ _ _ _ hsw];refine Jx (L6 (Jx ?_))
 show wpAny _ X.A (do let _ ←comprehension (.ListComp elt [⟨tg,iter,ifs,0⟩] scope pos) scope X.env _ (newList []) false (eval iter X.env) (some (assign (.Name y py) X.env))) _ _ s
 refine Jx (thn (Mq (use:=some (assign (.Name y py) X.env)) (Q:=λ _ s'=>SP X pins D .next s') rfl hs (fB (c.cells I)) c.kind c.names (thn (hi pins s σ H _ I h) λ v s1 h1=>thn h1 λ itv s2 h2=>?_)) λ _ s' hq=>JE (JE hq));obtain⟨it,fp,tn,J,H2,rfl,I2,T,st2,f2,hW⟩:=h2;refine jh (Q:=λ x H1=>D.nx (σ.set i (some x)) H1) (RR:=λ acc C=>PySem.compPost (model X.prog X.w) X.A X.xe (some (assign (.Name y py) X.env)) (λ _ s'=>SP X pins D .next s') acc C) c hc I2 T st2 f2 hg ht he hW ?_;intro D' C s' H' m hn hCl hCc hCo hI q
 show wpAny _ X.A (assign (.Name y py) X.env (.ref D')) _ _ s'
 have I':Inv X pins σ H' s':=hI s'.heap (Heap.SameBut.refl _ _);refine wpAny_assign_Name (lj I' hN hi' hy (show bG (.ref D') (.ref D') from rfl) (λ s'' I'' ⟨a,sb,ha⟩=>?_) hf)
 have hCa:C ≠ a:=by
  rcases ha with rfl|ha
  ·exact hCl
  ·exact λ z=>hCc _ _ ha z.symm
 refine⟨m,hn.sameBut sb hCa,λ h' hs'=>⟨_,H',?_,q⟩⟩;exact I''.turned (t':=s''.toks) (λ b o hb e=>(hs'.2 b hb).trans e) hCo.1 hCl (.inr hCo.2.1) hCc hCo.2.2
end
def kT(h:Heap)(e:Addr)(cls:Value)(d:Option Addr)(T:Addr):Prop:=
 ∃ oe vs oT ts,h.get? e=some oe/\oe.cls=cls/\oe.dict=d/\oe.data=.fields vs/\vs[1]? = some (.ref T)/\T ≠ e/\h.get? T=some oT/\oT.data=.fields ts/\ts[3]? = some .none/\vs[2]? = some .none
def CX1(P:Program)(w:World):CXT:=λ outer H s E ev s'=>∃ e T cls d H',ev=.ref e/\s'.os=s.os/\AllBare s'.gens/\Un (frs outer) [] H H' s.heap s'.heap/\HOk P w H' s'.heap /\
 s.heap.get? e=none/\s.heap.get? T=none/\H' e=none/\H' T=none/\kT s'.heap e cls d T/\(∀ dx,d=some dx->∃ fs,H' dx=some (.xd fs))/\E cls d H'
theorem uN(f:Array Value->Array Value)(o:Obj):(Obj.mapFields f o).dict=o.dict:=by
 unfold Obj.mapFields;split<;>rfl
structure rj(fs:List Addr)(e:Addr)(no:Addr->Prop)(h h':Heap):Prop where
 keep:∀ b o,b ≠ e->¬ no b->b ∉ fs->h.get? b=some o->h'.get? b=some o
 slot:∀ b o,b ≠ e->¬ no b->b∈fs->h.get? b=some o->∃ sl,h'.get? b=some { o with slots:=sl }
 size:h.objs.size<=h'.objs.size
section
variable {M:Model}{A:Around}{E:Value->Shared->Prop}{s:Shared}
theorem yz{base:Heap}{env:Env}{outer:List Env}{L e:Addr}{oe:Obj}{vs:Array Value}{head:Value}{hadNext:Bool}{Q:Unit->Shared->Prop}
  (hfr:A.frames=some (env::outer)) (hl:s.heap.FunFrames base (env::outer)) (hf:env.frame=some L) (he:s.heap.get? e=some oe) (hd:oe.data=.fields vs) (hsz:1 < vs.size) (h2c:vs[2]? = some .none)
  (hQ:∀ h',rj (frs (env::outer)) e (λ _=>False) s.heap h'->(∃ T oe' vs' oT ts,s.heap.get? T=none/\h'.get? e=some oe'/\oe'.cls=oe.cls/\oe'.dict=oe.dict/\oe'.data=.fields vs'/\vs'[1]? = some (.ref T)/\T ≠ e/\h'.get? T=some oT/\oT.data=.fields ts/\ts[3]? = some (rawInt L)/\vs'[2]? = some .none)->Q () { s with heap:=h' }) :
  wpAny M A (do let a ←frameOf env;let pl ←entryPlaceOf L hadNext;let b ←EntryCells.newEntry head a .none (rawInt L) .none pl;setField (.ref e) 1 b) Q E s:=by
 have efr:e ∉ frs (env::outer):=λ z=>by
  obtain⟨_,o,q1,q2⟩:=hl.mem z;rw [he] at q1;cases q1;exact q2 vs hd
 refine wpAny_bind (wpAny_frameOf_fun hfr hl hf λ g1 sg=>?_);refine wpAny_bind (wpAny_entryPlaceOf λ pl ipl=>?_);unfold EntryCells.newEntry newFields;refine wpAny_bind (wpAny_newObj_type ?_ (ipl.sizeOk5 _ _ _ _ _));have e1:g1.get? e=some oe:=(sg.2.1 e efr).trans he;generalize hnew:({ cls:=.type "traceback",dict:=none,data:=.fields ([head,.ref L,.none,rawInt L,.none]++(if pl.isEmpty then List.replicate 6 Value.none else pl)).toArray }:Obj)=oN;have dN:oN.data=.fields ([head,.ref L,.none,rawInt L,.none]++(if pl.isEmpty then List.replicate 6 Value.none else pl)).toArray:=by rw [←hnew]
 have e2:(g1.push oN).get? e=some oe:=Jz _ e1;refine Lx e2 hd hsz (hQ _ ?_ ?_)
 ·have other:∀ b o,b ≠ e->g1.get? b=some o->((g1.push oN).update e (Obj.mapFields (·.setIfInBounds 1 (Value.ref g1.objs.size)))).get? b=some o:=λ b o hb q=>by
   rw [K4 _ _ (J6 hb)];exact Jz _ q
  refine⟨λ b o hb _ hfs q=>other b o hb ((sg.2.1 b hfs).trans q),λ b o hb _ _ q=>?_,?_⟩
  ·obtain⟨sl,q'⟩:=sg.2.2 b o q;exact⟨sl,other b _ hb q'⟩
  ·have z1:g1.objs.size=s.heap.objs.size:=sg.1;have z2:=((Ln (g1.push oN) e (Obj.mapFields (·.setIfInBounds 1 (Value.ref g1.objs.size))))).1;rw [z2,Kx];omega
 ·have ne:g1.objs.size ≠ e:=LA (JF e1);have d3:=K7 hd (·.setIfInBounds 1 (Value.ref g1.objs.size));refine⟨g1.objs.size,_,_,oN,_,?_,KN _ e2 (KL d3),Obj.cls_mapFields _ _,uN _ _,d3,by simp [hsz],ne,?_,dN,by simp,by rw [Mp (by decide)];exact h2c⟩
  ·have z1:g1.objs.size=s.heap.objs.size:=sg.1;rw [z1];exact Lh (JB _)
  ·rw [K4 _ _ (J6 ne)];exact JK _ (KL dN)
theorem sC{e T:Addr}{oe oT:Obj}{vs ts:Array Value}{Q:Unit->Shared->Prop}(he:s.heap.get? e=some oe)(hd:oe.data=.fields vs)(h1:vs[1]? = some (.ref T))(hT:s.heap.get? T=some oT)(hdT:oT.data=.fields ts)(h3:3 < ts.size)(ne:T ≠ e)(h2c:vs[2]? = some .none)
  (hQ:∀ h',(∀ b,b ≠ T->h'.get? b=s.heap.get? b)->h'.objs.size=s.heap.objs.size->kT h' e oe.cls oe.dict T->Q () { s with heap:=h' }):wpAny M A (setFlight (.ref e) none) Q E s:=by
 unfold setFlight;refine wpAny_bind (wpAny_field he hd h1 ?_);rw [if_pos (show (Value.ref T != Value.none)=true from by simp)];have sb:=Heap.SameBut.update s.heap T (Obj.mapFields (·.setIfInBounds 3 ((none:Option Addr).elim Value.none λ f=>rawInt f)));refine wpAny_setField hT hdT h3 (hQ _ sb.2 sb.1 ?_);have d3:=Obj.data_mapFields hdT (·.setIfInBounds 3 ((none:Option Addr).elim Value.none λ f=>rawInt f));exact⟨oe,vs,_,_,(sb.2 e (Ne.symm ne)).trans he,rfl,rfl,hd,h1,ne,Heap.get?_update_self _ hT (Obj.isFreed_of_fields d3),d3,by simp [h3],h2c⟩
theorem wy{base:Heap}{env:Env}{outer:List Env}{L e:Addr}{oe:Obj}{vs:Array Value}{Q:Unit->Shared->Prop}
  (hfr:A.frames=some (env::outer)) (hl:s.heap.FunFrames base (env::outer)) (hf:env.frame=some L) (he:s.heap.get? e=some oe) (hd:oe.data=.fields vs) (h1:vs[1]? = some .none) (h2c:vs[2]? = some .none)
  (hQ:∀ h' T,rj (frs (env::outer)) e (λ _=>False) s.heap h'->s.heap.get? T=none->kT h' e oe.cls oe.dict T->Q () { s with heap:=h' }) :
  wpAny M A (noteFrame (.ref e) env) (λ _ s2=>wpAny M A (setFlight (.ref e) none) Q E s2) E s:=by
 unfold noteFrame;simp only [hf];refine wpAny_bind (wpAny_field he hd h1 ?_);rw [if_neg (by decide)];refine yz hfr hl hf he hd (Array.getElem?_eq_some_iff.mp h1).1 h2c λ g ng hx=>?_;obtain⟨T,oe',vs',oT,ts,nT,q1,q2,q2d,q3,q4,ne,q5,q6,q7,q8⟩:=hx;refine sC (s:={ s with heap:=g }) q1 q3 q4 q5 q6 (Array.getElem?_eq_some_iff.mp q7).1 ne q8 λ g' sb sz ex=>?_;rw [q2,q2d] at ex;have lt:∀ b o,s.heap.get? b=some o->b ≠ T:=λ b o q z=>by rw [z,nT] at q;cases q
 exact hQ g' T ⟨λ b o hb hn hfs q=>(sb b (lt b o q)).trans (ng.keep b o hb hn hfs q),λ b o hb hn hfs q=>by
  obtain⟨sl,q'⟩:=ng.slot b o hb hn hfs q;exact⟨sl,(sb b (lt b o q)).trans q'⟩,JT ng.size (L3 sz.symm)⟩ nT ex
theorem lC{base:Heap}{env:Env}{outer:List Env}{L e T:Addr}{cls:Value}{dd:Option Addr}{Q:Unit->Shared->Prop}
  (hfr:A.frames=some (env::outer)) (hl:s.heap.FunFrames base (env::outer)) (hf:env.frame=some L) (hx:kT s.heap e cls dd T) (hfe:e ∉ frs (env::outer)) (hfT:T ∉ frs (env::outer)) (hb:base.get? T=none)
  (hQ:∀ h' T',rj (frs (env::outer)) e (λ b=>b=T) s.heap h'->s.heap.get? T'=none->kT h' e cls dd T'->Q () { s with heap:=h' }) :
  wpAny M A (noteFrame (.ref e) env) (λ _ s2=>wpAny M A (setFlight (.ref e) none) Q E s2) E s:=by
 obtain⟨oe,vs,oT,ts,he,rfl,rfl,hd,h1,ne,hT,hdT,h3,h2c⟩:=hx;unfold noteFrame;simp only [hf];refine wpAny_bind (wpAny_field he hd h1 ?_);rw [if_pos (show (Value.ref T != Value.none)=true from by simp)];refine wpAny_bind (wpAny_field hT hdT h3 ?_);rw [if_neg (show ¬ ((Value.none == rawInt L)=true) from by simp [rawInt])];have sb0:=Heap.SameBut.update s.heap T (Obj.mapFields (·.setIfInBounds 3 Value.none));refine wpAny_bind (wpAny_setField hT hdT (Array.getElem?_eq_some_iff.mp h3).1 ?_);generalize hg0:s.heap.update T (Obj.mapFields (·.setIfInBounds 3 Value.none))=g0 at sb0;have fl:g0.FunFrames base (env::outer):=hl.of_keeps λ b o q hnf=>⟨o,(sb0.2 b (λ z=>by rw [z,hT] at q;cases q;exact hnf ts hdT)).trans q,rfl⟩;have he0:g0.get? e=some oe:=(sb0.2 e (Ne.symm ne)).trans he;refine yz (s:={ s with heap:=g0 }) hfr fl hf he0 hd (Array.getElem?_eq_some_iff.mp h1).1 h2c λ g ng hx=>?_;obtain⟨T',oe',vs',oT',ts',nT,q1,q2,q2d,q3,q4,ne',q5,q6,q7,q8⟩:=hx;refine sC (s:={ s with heap:=g }) q1 q3 q4 q5 q6 (Array.getElem?_eq_some_iff.mp q7).1 ne' q8 λ g' sb sz ex=>?_;rw [q2,q2d] at ex
 have tT:T ≠ T':=λ z=>by
  subst z;have:=KN (Obj.mapFields (·.setIfInBounds 3 Value.none)) hT (KL (K7 hdT _));rw [hg0] at this;have nT':g0.get? T=none:=nT;rw [this] at nT';cases nT'
 have nT0:s.heap.get? T'=none:=(sb0.2 T' (J6 tT)).symm.trans nT;have lt:∀ b o,s.heap.get? b=some o->b ≠ T':=λ b o q z=>by rw [z,nT0] at q;cases q
 exact hQ g' T' ⟨λ b o hb hn hfs q=>(sb b (lt b o q)).trans (ng.keep b o hb (λ z=>z) hfs ((sb0.2 b hn).trans q)),λ b o hb hn hfs q=>by
  obtain⟨sl,q'⟩:=ng.slot b o hb (λ z=>z) hfs ((sb0.2 b hn).trans q);exact⟨sl,(sb b (lt b o q)).trans q'⟩,JT (L3 sb0.1.symm) (JT ng.size (L3 sz.symm))⟩ nT0 ex
end
theorem HOk.noted{P:Program}{w:World}{H:Hp}{h h':Heap}{fs:List Addr}{e:Addr}{no:Addr->Prop}(ok:HOk P w H h)(n:rj fs e no h h')(he:H e=none)(hn:∀ b,no b->H b=none)(hf:∀ b∈fs,H b=none):HOk P w H h':=λ b ob q=>by
 refine(ok b ob q).stay (λ c v hc r=>n.keep c v ?_ ?_ ?_ r) (λ _ z=>z) λ _ _ z=>z
 all_goals
  rcases hc with z|z
  all_goals intro k
 ·rw [←z,k,he] at q;cases q
 ·rw [k,he] at z;cases z
 ·rw [←z,hn _ k] at q;cases q
 ·rw [hn _ k] at z;cases z
 ·rw [←z,hf _ k] at q;cases q
 ·rw [hf _ k] at z;cases z
theorem Un.noted{fs fs':List Addr}{H H':Hp}{h h1 h2:Heap}{e:Addr}{no:Addr->Prop}(u:Un fs [] H H' h h1)(n:rj fs' e no h1 h2)(he:h.get? e=none)(hn:∀ b,no b->h.get? b=none)(hs:∀ b∈fs',b∈fs\/h.get? b=none):Un fs [] H H' h h2:=by
 have ne:∀ b o,h.get? b=some o->b ≠ e/\¬ no b:=λ b o q=>⟨λ z=>(by rw [z,he] at q;cases q),λ z=>(by rw [hn b z] at q;cases q)⟩
 have nf:∀ b o,h.get? b=some o->b ∉ fs->b ∉ fs':=λ b o q hb z=>by
  rcases hs b z with k|k
  ·exact hb k
  ·rw [k] at q;cases q
 refine⟨λ b o q a hb hx=>n.keep b o (ne b o q).1 (ne b o q).2 (nf b o q hb) (u.keep b o q a hb hx),λ b o q a hb hx=>?_,u.free,λ b o q hx=>?_,u.tups,u.frzs,u.tbls⟩
 ·obtain⟨sl,r⟩:=u.slot b o q a hb hx
  by_cases hb':b∈fs'
  ·obtain⟨sl',r'⟩:=n.slot b _ (ne b o q).1 (ne b o q).2 hb' r;exact⟨sl',r'⟩
  ·exact⟨sl,n.keep b _ (ne b o q).1 (ne b o q).2 hb' r⟩
 ·obtain⟨o',r⟩:=u.there b o q hx
  by_cases hb':b∈fs'
  ·obtain⟨sl',r'⟩:=n.slot b _ (ne b o q).1 (ne b o q).2 hb' r;exact⟨_,r'⟩
  ·exact⟨_,n.keep b _ (ne b o q).1 (ne b o q).2 hb' r⟩
def yF(CX:CXT)(X:Cx)(E:XK)(σ:St):Prop:=∀ (pins:List (Addr × Obj)) (H:Hp) (s:Shared) (e:Value) (s':Shared),Inv X pins σ H s->CX X.stack H s E e s'->X.xe e s'
def pe(X:Cx)(E:XK)(σ:St):Prop:=∀ (pins:List (Addr × Obj)) (H:Hp) (s:Shared) (h':Heap) (e:Addr) (C:Addr) (us:List Value),Inv X pins σ H s->Heap.MadeExcOf s.heap h' e (.ref C) us->E (.ref C) none H->X.xe (.ref e) { s with heap:=h' }
theorem bK.there{P:Program}{w:World}{H:Hp}{h:Heap}{a:Addr}{o:HO}(x:bK P w H h a o):∃ ob,h.get? a=some ob:=by
 cases o with
 | lst xs=>obtain⟨_,_,_,_,e⟩:=x;exact⟨_,e⟩
 | tup xs=>obtain⟨_,_,_,ob,e,_⟩:=x;exact⟨ob,e⟩
 | dK kvs=>obtain⟨_,_,_,_,ob,_,_,e,_⟩:=x;exact⟨ob,e⟩
 | dT kvs=>obtain⟨_,_,_,_,ob,_,_,e,_⟩:=x;exact⟨ob,e⟩
 | set S n=>obtain⟨ob,_,_,_,e,_⟩:=x;exact⟨ob,e⟩
 | ins C dx fs=>obtain⟨_,_,_,e,_⟩:=x;exact⟨_,e⟩
 | own y=>exact x
 | xd fs=>obtain⟨_,⟨ob,_,_,e,_⟩,_⟩:=x;exact⟨ob,e⟩
 | rng lo hi=>obtain⟨_,_,_,e⟩:=x;exact⟨_,e⟩
 | frz ob u=>exact⟨_,x.1⟩
 | tbl ps=>exact⟨_,x⟩
 | met f y=>exact⟨_,x⟩
 | ext φ=>exact x.2.1
theorem HOk.gone{P:Program}{w:World}{H:Hp}{h:Heap}{a:Addr}(ok:HOk P w H h)(e:h.get? a=none):H a=none:=by
 cases q:H a with
 | none=>rfl
 | some o=>
  obtain⟨ob,z⟩:=(ok a o q).there;rw [e] at z;cases z
theorem Un.gone{fs:List Addr}{H H':Hp}{h h1:Heap}{a:Addr}(u:Un fs [] H H' h h1)(e:h1.get? a=none):h.get? a=none:=by
 cases q:h.get? a with
 | none=>rfl
 | some o=>
  obtain⟨o',z⟩:=u.there a o q (by simp);rw [e] at z;cases z
theorem pP{P:Program}{w:World}{K:W.Frag}{mg:Str->Option Value}{base:Heap}{N:List Str}{qual:Str}{scope:Scope}{f:Addr}{cd:Value}{A:Around}{outer:List Env}{s₀:Shared}{H₀:Hp}{E:XK}{σ:St} :
  pe (vh (CX1 P w) P w K mg base N qual scope f cd A outer s₀ H₀ E) E σ:=by
 intro pins H s h' e C us I hm hE;obtain⟨t,he,_,_⟩:=hm.there
 show wpAny (model P w) (A.deeper (envOfC qual scope s₀.heap.objs.size f cd)) (leaving (envOfC qual scope s₀.heap.objs.size f cd) (.ref e)) _ _ _
 unfold leaving;have un:Un (frs outer) [] H₀ H s₀.heap s.heap:=I.base;have fl:h'.FunFrames base (envOfC qual scope s₀.heap.objs.size f cd::outer):=I.stack.of_keeps λ b o q _=>⟨o,hm.keeps b o q,rfl⟩;refine wpAny_bind (wy (s:={ s with heap:=h' }) (base:=base) (outer:=outer) I.ok.frames fl rfl he rfl rfl rfl λ g T ng nT ex=>?_)
 have nT':s.heap.get? T=none:=by
  cases q:s.heap.get? T with
  | none=>rfl
  | some o=>
   have z:=hm.keeps T o q;have nT2:h'.get? T=none:=nT;rw [nT2] at z;cases z
 have u2:Un (frs outer) [] H₀ H s₀.heap h':=un.trans (Un.kept hm.keeps);refine⟨e,T,.ref C,none,H,rfl,I.os,I.bare,u2.noted ng (un.gone hm.new) (λ _ z=>z.elim) (λ b hb=>?_),(I.hok.kept hm.keeps).noted ng (I.hok.gone hm.new) (λ _ z=>z.elim) I.stkFree,un.gone hm.new,un.gone nT',I.hok.gone hm.new,I.hok.gone nT',ex,(λ _ z=>nomatch z),hE⟩
 rcases J2.mp (I.stkSub b hb) with z|z
 ·exact .inr (by rw [z];exact Lh (JB _))
 ·exact .inl z
theorem jc{P:Program}{w:World}{K:W.Frag}{mg:Str->Option Value}{base:Heap}{N:List Str}{qual:Str}{scope:Scope}{f:Addr}{cd:Value}{A:Around}{outer:List Env}{s₀:Shared}{H₀:Hp}{E:XK} :
  gM (CX1 P w) (vh (CX1 P w) P w K mg base N qual scope f cd A outer s₀ H₀ E) E:=by
 intro pins σ H s ev s' I hc;obtain⟨e,T,cls,dd,H',rfl,os,bare,un1,hok,ne,nT,He,HT,ex,hxd,hE⟩:=hc
 show wpAny (model P w) (A.deeper (envOfC qual scope s₀.heap.objs.size f cd)) (leaving (envOfC qual scope s₀.heap.objs.size f cd) (.ref e)) _ _ _
 unfold leaving;have I2:Inv _ pins σ H' s':=I.call' (ch:=[]) os un1 hok bare (λ b z=>absurd z (by simp))
 have nf:∀ b,s.heap.get? b=none->b ∉ frs (envOfC qual scope s₀.heap.objs.size f cd::outer):=λ b hb z=>by
  obtain⟨_,o,q,_⟩:=I.stack.mem z;rw [hb] at q;cases q
 have nb:base.get? T=none:=by
  cases q:base.get? T with
  | none=>rfl
  | some o=>
   have:=I.bk T o q;rw [nT] at this;cases this
 have fl:s'.heap.FunFrames base (envOfC qual scope s₀.heap.objs.size f cd::outer):=I2.stack;refine Jx (lC (base:=base) (outer:=outer) I.ok.frames fl rfl ex (nf e ne) (nf T nT) nb λ g T' ng nT' ex'=>?_);have un0:Un (frs outer) [] H₀ H s₀.heap s.heap:=I.base;have un2:Un (frs outer) [] H₀ H' s₀.heap s'.heap:=I2.base;refine⟨e,T',cls,dd,H',rfl,I2.os,bare,un2.noted ng (un0.gone ne) (λ b z=>by rw [z];exact un0.gone nT) (λ b hb=>?_),hok.noted ng He (λ b z=>by rw [z];exact HT) I2.stkFree,un0.gone ne,un2.gone nT',He,hok.gone nT',ex',hxd,hE⟩
 rcases J2.mp (I.stkSub b hb) with z|z
 ·exact .inr (by rw [z];exact Lh (JB _))
 ·exact .inl z
section
variable {X:Cx}
def ye(sp:Sp)(dvs:List V)(E:St->XK)(t:TA):TE:=λ σ H Q=>t σ H λ vs H1=>sp (vs++dvs) H1 Q (E σ)
theorem wo{CX:CXT}{k:Nat}{f:Addr}{fd:FuncData}{ps:List Str}{sp:Sp}{ds:List Value}{dvs:List V}{E:St->XK}{x:Str}{e:Expr}{es:List Expr}{t:TA}{p pos:Pos}
  (F:bP X.prog X.w X.K X.mg X.base CX k f fd ps sp) (hr:gf k X.A) (hg:Gl X x) (hm:X.mg x=some (.ref f)) (hk:W.keepIn X.K (.ref f)=true) (hb:aF X.K fd ps ds) (hd:bq dvs ds) (hx:∀ σ,yF CX X (E σ) σ)
  (ha:PA X (e::es) t) (hdb:(x == ("__debug__":Str))=false:=by decide) (he:starEach (e::es) X.env=(false,eval e X.env)::starEach es X.env:=by rfl) (hpl:(backTo pos (starEach es X.env)).any (·.1)=false:=by rfl) :
  PE X (.Call (.Name x p) (e::es) [] pos) (ye sp dvs E t):=by
 intro pins s σ H Q I h;refine K6 (fF I hg hm ?_ hdb);refine W.callWith_K (h₀:=X.base) I.ok.mod.kin hk (thn (ha pos pins s σ H _ I h) λ us s1 ⟨vs,H1,I1,r,q⟩=>⟨I1.kIn,?_⟩) he hpl;have r2:bq (vs++dvs) (us++ds):=r.append hd;have hl:(us++ds).length=ps.length:=by rw [←r2.length];exact F.len _ _ _ _ q
 refine wpAny_call (Lp (F.run X.A X.stack s1 H1 ⟨us,[]⟩ (us++ds) (vs++dvs) Q (E σ) hr I1.env0 (hb s1 us I1.kIn hl) r2 q) λ rr s' hq=>?_)
 cases rr with
 | error ev=>exact hx σ pins H1 s1 ev s' I1 hq
 | ok fl=>
  cases fl with
  | ret u=>exact I1.after hq
  | next=>exact False.elim hq
  | brk=>exact False.elim hq
  | cont=>exact False.elim hq
set_option genInjectivity false in
structure Jn where
 nm:Str
 q:Str
 N:Addr
 bs:List Value
 bm:List Value
 hdct:Bool
 sn:List Str
 sub:List Value
 ab:Bool
 col:Option Bool
 dd:Option Addr
 k0:Option Value
 k1:Option Value
 k2:Option Value
 k3:Option Value
 k5:Option Value
def yn(K:W.Frag)(C:Addr)(z:Option Value)(bmB:List Value)(newId:String):Bool:=match K.lookup C with
 | some ⟨.type "type",_,.cls dat,slt⟩=>(match dat.mro,slt.toList with
  | .ref C'::up,[_,_,_,_,some (.builtin n),_]=>C' == C && n == newId && !dat.hasDel && W.tailIn K bmB up && W.nsOkIn K dat.ns && W.nsIn K dat.ns "__init__" == some z
  | _,_=>false)
 | _=>false
theorem EU{K:W.Frag}{C:Addr}{z:Option Value}(q0:yn K C z [.type "ValueError",.type "Exception",.type "BaseException",.type "object"] "ValueError.__new__"=true) :
  ∃ c:Jn,K.lookup C=some (excClassObj c.nm c.q C c.N c.bs c.bm c.hdct c.sn c.sub c.ab c.col c.dd c.k0 c.k1 c.k2 c.k3 c.k5 "ValueError.__new__")/\W.tailIn K [.type "ValueError",.type "Exception",.type "BaseException",.type "object"] c.bm=true/\W.nsOkIn K c.N=true/\W.nsIn K c.N "__init__"=some z:=by
 unfold yn at q0;split at q0
 ·rename_i dd0 cdat slots0 look0;split at q0
  ·rename_i Cx0 tl0 g0 g1 g2 g3 nw g5 em es0
   simp only [Kq,Lq,Bool.not_eq_true'] at q0<;>skip
   obtain⟨⟨⟨⟨⟨rfl,rfl⟩,ndel⟩,tok⟩,nok⟩,noi⟩:=q0;obtain⟨c1,c2,c3,c4,c5,c6,c7,c8,c9,c10,c11⟩:=cdat;dsimp only at em ndel nok noi;subst em ndel;obtain⟨lst0⟩:=slots0;have es1:lst0=[g0,g1,g2,g3,some (.builtin "ValueError.__new__"),g5]:=es0;subst es1;exact⟨⟨c1,c5,c4,c2,tl0,c6,c7,c8,c9,c10,dd0,g0,g1,g2,g3,g5⟩,look0,tok,nok,noi⟩
  ·cases q0
 ·cases q0
structure Jl(K:W.Frag)(C:Addr):Prop where
 ex:W.excIn K C [.type "ValueError",.type "Exception",.type "BaseException",.type "object"] "ValueError.__new__"=true
def ya(C:Addr)(E:St->XK)(t:TA):TS:=λ _ σ H=>t σ H λ vs H1=>vs.length<=sizeLine/\E σ (.ref C) none H1
theorem vZ{C:Addr}{x:Str}{e₀:Expr}{rest:List Expr}{np cpos pos:Pos}{t:TA}{E:St->XK}(hc:X.calm=true)(hg:Gl X x)(hmg:X.mg x=some (.ref C))(O:Jl X.K C)(hx:∀ σ,pe X (E σ) σ)(ha:PA X (e₀::rest) t)
  (he:starEach (e₀::rest) X.env=(false,eval e₀ X.env)::starEach rest X.env:=by rfl) (hplain:(backTo cpos (starEach rest X.env)).any (·.1)=false:=by rfl) (hdb:(x == ("__debug__":Str))=false:=by decide) :
  PS X (.Raise (some (.Call (.Name x np) (e₀::rest) [] cpos)) none pos) (ya C E t):=by
 intro pins s σ H D I h;obtain⟨c,look0,tok,nok,noi⟩:=EU (z:=none) O.ex;have nsb:X.base.Ns c.N (X.base.nsMap c.N):=.of_isNs (W.isNs_of_in I.mod.kin nok)
 refine PySem.wpAny_Raise_call_subU (C:=C) (nm:=c.nm) (q:=c.q) (N:=c.N) (bs:=c.bs) (bm:=c.bm) (hdct:=c.hdct) (sn:=c.sn) (sub:=c.sub) (ab:=c.ab) (col:=c.col) (dd:=c.dd) (k0:=c.k0) (k1:=c.k1) (k2:=c.k2) (k3:=c.k3) (k5:=c.k5)
  PySem.F.excBase_ValueError (by decide +kernel) PySem.F.excBase_ValueError (mN:=X.base.nsMap c.N) ((W.tail_of_in I.kIn tok).hasType (by decide +kernel)) (I.ok.hd hc) (by rw [he];exact(Bool.false_or _).trans hplain) (W.nsMap_none_of_in I.mod.kin nok noi) (fF I hg hmg ⟨rfl,?_⟩ hdb)
 have hh:=ha cpos pins s σ H _ I h;rw [he] at hh ⊢;exact Mo (thn hh λ us s2 ⟨vs,H2,I2,r,hl,hE⟩=>⟨rfl,by rw [←r.length];exact hl,I2.kIn _ _ look0,nsb.keeps I2.bk,W.tail_of_in I2.kIn tok,λ h' e hm=>hx σ pins H2 s2 h' e C us I2 hm hE⟩)
abbrev Cx.mark(X:Cx)(e:Addr):Cx:={ X with A:=X.A.mark (some (.ref e)),calm:=false,xe:=λ _ _=>False }
theorem Inv.mark{pins:List (Addr × Obj)}{σ:St}{H:Hp}{s:Shared}(I:Inv X pins σ H s)(e:Addr):Inv (X.mark e) pins σ H s:=
 ⟨⟨I.ok.mod,I.ok.kind,I.ok.glob,I.ok.blt,I.ok.above,I.ok.inj,I.ok.has,I.ok.cab,(λ z=>by cases z),I.ok.frames,I.ok.stk,I.ok.exf,I.ok.bs,I.ok.bsz,I.ok.noex,I.ok.exfs,I.ok.funs,I.ok.frf⟩,I.os,I.bare,I.base,I.loc,I.cell,I.free,I.freeC,I.pin,I.hok,I.len⟩
theorem Inv.unmark{pins:List (Addr × Obj)}{σ:St}{H:Hp}{s:Shared}{e:Addr}(ok:X.Ok)(I:Inv (X.mark e) pins σ H s):Inv X pins σ H s:=
 ⟨ok,I.os,I.bare,I.base,I.loc,I.cell,I.free,I.freeC,I.pin,I.hok,I.len⟩
end
structure FX(K:W.Frag)(x qual:Str)(st:Stmt)(f:Addr)(fd:FuncData):Prop where
 ex:∃ (oc:Value) (od:Option Addr) (dV kV doc pm:Value) (an:Option Addr) (cdv ct:Value) (osl:Array (Option Value)),
  fd=W.fnOf x qual (eT st) (dn st) (ae st) dV kV doc pm an cdv ct/\K.lookup f=some ⟨oc,od,.func fd,osl⟩/\W.codeIn K cdv qual=true
 kp:W.keepIn K (.ref f)=true
section
variable {P:Program}{w:World}{K:PySem.W.Frag}{mg:Str->Option Value}{base:Heap}
theorem FX.ok{CX:CXT}{x qual:Str}{st:Stmt}{f:Addr}{fd:FuncData}{N ps:List Str}{k:Nat}{sp:Sp}(F:FX K x qual st f fd)(S:ak N ps (ae st))(len:∀ vs H Q E,sp vs H Q E->vs.length=ps.length)
  (hbody:∀ (cdv:Value) (A:Around) (outer:List Env) (s:Shared) (H:Hp) (vs:List V) (Q:VK) (E:XK),gf k (A.deeper (envOfC qual (ae st) s.heap.objs.size f cdv))->sp vs H Q E →
   ∃ t,PSs (vh CX P w K mg base N qual (ae st) f cdv A outer s H E) (dn st) t/\t { nx:=λ _ H'=>Q .non H',rt:=Q } (aJ N vs) H):bP P w K mg base CX (k+1) f fd ps sp:=by
 obtain⟨oc,od,dV,kV,doc,pm,an,cdv,ct,osl,rfl,lk,hcd⟩:=F.ex;exact Cz lk hcd S len λ A outer s H vs Q E hr hsp=>hbody cdv A outer s H vs Q E hr hsp
end
open PySem.W
structure vk(K:W.Frag)(C:Addr):Prop where
 ga:W.findIn K (.ref C) "__getattribute__"=some (some (.builtin "BaseException.__getattribute__"))
 no:W.findIn K (.ref C) "__getattr__"=some none
 mb:W.mroIn K C (.type "BaseException")=some true
 mo:W.mroIn K C (.type "object")=some true
 cl:W.findIn K (.ref C) "__class__"=some (some (.builtin "object.__class__"))
 sp:W.specialIn K (.builtin "object.__class__") "__get__"=some (some (.builtin "getset_descriptor.__get__"))
 tk:W.takesIn K (.builtin "object.__class__")=some true
 hd:W.hasDictIn K C=true
section
variable {prog:Program}{w:World}{A:Around}{E:Value->Shared->Prop}{s:Shared}{K:PySem.W.Frag}{x C:Addr}{ox:Obj}{od:Option Obj}{name:Str}
theorem uM{M:Model}{nameV:Value}{Q:Unit->Shared->Prop}(c:vk K C)(X:K.In s.heap)(I:InstAt s.heap x ox C od)(hq:Q () s):wpAny M A (checkBuiltinCall "BaseException.__getattribute__" ⟨[.ref x,nameV],[]⟩) Q E s:=by
 have hk:builtinKind "BaseException.__getattribute__"=some .slot:=by decide +kernel
 have hsplit:splitId "BaseException.__getattribute__"=some ("BaseException", "__getattribute__"):=by decide +kernel
 have ha:=F.args_bexc_ga (.ref x) nameV;have L0:=I.type (M:=M);have L1:=looks_mroIn (M:=M) X c.mb;obtain⟨hh,g,d,t,os⟩:=s;simp only [checkBuiltinCall,hk,hsplit];have LI:Looks M hh (isInstance (.ref x) (.type "BaseException")) true:=L0.andThen L1;refine Jx (LI.at ?_)
 first|exact hq|exact JE hq|(simp only [Bool.not_true,Bool.false_eq_true,if_false];exact hq)
def Iw(M:Model)(A:Around)(P:Value->Shared->Prop)(fin:PySem.Fin)(s:Shared):Prop:=match fin with
 | .done (.ret v)=>P v s
 | .again c=>c.quiet=true/\codeAny M A c (λ r s'=>match r with | .ok (.ret v)=>P v s'|_=>False) s
 | _=>False
theorem xB{Q:Option Value->Shared->Prop}(c:vk K C)(X:K.In s.heap)(I:InstAt s.heap x ox C od)
  (h:∀ A':Around,wpAny (model prog w) A' (Builtin.«object.__getattribute__» ⟨[.ref x,.str name s.toks],[]⟩) (Iw (model prog w) A λ v s'=>wpAny (model prog w) A (handedOut v) (λ v s''=>Q (some v) s'') (λ _ _=>False) s') (λ _ _=>False) { s with toks:=s.toks+1 }) :
  wpAny (model prog w) A (getAttr? (.ref x) name) Q E s:=by
 obtain⟨hh,g,d,t,os⟩:=s;have L0:=I.type (M:=model prog w);have L1:=looks_findIn (M:=model prog w) X c.ga;have L2:=looks_findIn (M:=model prog w) X c.no;unfold getAttr? getAttrBy? getAttrBy;refine wpAny_bind (wpAny_mkText (wpAny_bind (wpAny_attempt (wpAny_holding (wpAny_bind (L0.at (wpAny_bind (L1.at ?_))))))))
 show wpAny _ _ (getAttrByItsOwn _ _ _ _ _ _) _ _ _
 unfold getAttrByItsOwn
 show wpAny _ _ (do let before ←typeLookup (.ref C) "__getattr__";_) _ _ _
 refine wpAny_bind (L2.at (wpAny_bind (wpAny_attempt (wpAny_holding ?_))));unfold callGetattribute;rw [if_neg (by simp)];unfold boundAndCalled;rw [F.attr_ValueError.ga.bind (.ref x)];refine wpAny_bind (wpAny_pure (wpAny_call (codeAny_call_builtin F.attr_ValueError.ga.plain F.entry_bexc_ga (uM c X I ?_))));have fin1:∀ v s',wpAny (model prog w) A (handedOut v) (λ v s''=>Q (some v) s'') (λ _ _=>False) s'->wpAny (model prog w) A (handedOut v) (λ a s'=>wpAny (model prog w) A (pure (some a)) Q E s') (λ e s'=>wpAny (model prog w) A (do if ←isInstance e (.type "AttributeError") then pure none else throw e) Q E s') s':=λ v s' z=>wpAny_mono z (λ _ _ q=>wpAny_pure q) λ _ _ q=>q.elim;refine wpAny_mono (h _) (λ fin s' z=>?_) λ _ _ z=>z.elim
 cases fin with
 | done f=>cases f with
  | ret v=>exact fin1 v s' z
  | _=>exact z.elim
 | again c'=>
  obtain⟨z1,z2⟩:=z;refine⟨z1,Lp z2 λ r s'' q=>?_⟩
  cases r with
  | error e=>exact q.elim
  | ok f=>cases f with
   | ret v=>exact fin1 v s'' q
   | _=>exact q.elim
theorem kI{a g:Value}(hc:(clsIn K C).isSome=true)(ha:findIn K (.ref C) name=some (some a))(hg:specialIn K a "__get__"=some (some g))(ht:takesIn K a=some true):findObj K C od name=some (.bind g a):=by
 obtain⟨cd,hc⟩:=Option.isSome_iff_exists.mp hc;unfold findObj;rw [hc,Option.bind_some,ha,Option.bind_some];simp [hg,ht]
theorem vk.some(c:vk K C):(clsIn K C).isSome=true:=by
 obtain⟨cd,hc,_⟩:=any_some c.hd;rw [hc];rfl
theorem uL{Q:Option Value->Shared->Prop}(c:vk K C)(X:K.In s.heap)(I:InstAt s.heap x ox C od)(hq:Q (some (.ref C)) { s with toks:=s.toks+1 }):wpAny (model prog w) A (getAttr? (.ref x) "__class__") Q E s:=by
 have hf:findObj K C od "__class__"=some (.bind (.builtin "getset_descriptor.__get__") (.builtin "object.__class__")):=kI c.some c.cl c.sp c.tk;refine xB c X I λ A'=>?_;have L0:=I.type (M:=model prog w);have L1:=looks_find (M:=model prog w) X I hf;have cg:∀ {A:Around} {R:Result->Shared->Prop},R (.ok (.ret (.ref C))) { s with toks:=s.toks+1 }->codeAny (model prog w) A (.call (.builtin "getset_descriptor.__get__") ⟨[.builtin "object.__class__",.ref x,.ref C],[]⟩) R { s with toks:=s.toks+1 }:=λ h=>class_get (s:={ s with toks:=s.toks+1 }) (ox:=ox) (od:=od) X I c.mo h;obtain⟨hh,gg,d,t,os⟩:=s;refine Jx (JE (Jx (JE (Jx (L0.at (Jx (L1.at ?_)))))))
 show wpAny _ _ (do ret (←holding [.builtin "object.__class__"] (call (.builtin "getset_descriptor.__get__") [.builtin "object.__class__",.ref x,.ref C]))) _ _ _
 exact Jx (KS (wpAny_call (cg (JE (show Iw _ _ _ (.done (.ret (.ref C))) _ from handed_on rfl hq)))))
theorem oQ(c:vk K C):KitX K (.ref x) (.ref C) (λ h=>InstAt h x ox C od) where
 ty:=λ _ _ _ I=>I.type
 it:=λ _ _ X _=>by
  obtain⟨cdD,hcD,_⟩:=any_some c.hd;unfold clsIn at hcD;split at hcD
  ·rename_i c' d' cd' sl' ho;intro A' Q' E' s' k q;unfold isType loadHead;exact wpAny_bind (wpAny_loadPart (k _ _ (X _ _ ho)) (wpAny_pure q))
  ·cases hcD
 ne:=λ h tp dd its n sl X htp=>by
  obtain⟨cdD,hcD,_⟩:=any_some c.hd;refine Bool.eq_false_iff.mpr λ q=>?_;have e:C=tp:=Value.ref.inj (beq_iff_eq.mp q);subst e;unfold clsIn at hcD;split at hcD
  ·rename_i c' d' cd' sl' ho;have z:=(X _ _ ho).symm.trans htp;cases z
  ·cases hcD
 ca:=λ X I k=>uL c X I k
end
def vf(oe:Obj):HO:=.frz oe (.ext λ _=>True)
structure pL(X:Cx)(pins:List (Addr × Obj))(e:Addr):Prop where
 s0:X.s₀.heap.get? e=none
 loc:e ≠ X.env.locals
 cel:∀ x c,X.env.cells.lookup x=some c->c ≠ e
 fs:e ∉ X.fs
 pin:∀ p∈X.pn++pins,p.1 ≠ e
section
variable {X:Cx}
theorem pL.of{pins:List (Addr × Obj)}{σ:St}{H:Hp}{s:Shared}{e:Addr}(I:Inv X pins σ H s)(hx:X.ex=[])(h:s.heap.get? e=none):pL X pins e where
 s0:=by
  cases q:X.s₀.heap.get? e with
  | none=>rfl
  | some o=>
   obtain⟨o',z⟩:=I.base.there e o q (by rw [hx];simp);rw [h] at z;cases z
 loc:=λ z=>by
  obtain⟨m,⟨o,_,_,q,_⟩,_⟩:=I.loc;rw [←z,h] at q;cases q
 cel:=λ x c q z=>by
  obtain⟨v,o,r,_⟩:=I.cell x c q;rw [z,h] at r;cases r
 fs:=λ z=>by
  obtain⟨_,o,q,_⟩:=I.funs.mem z;rw [h] at q;cases q
 pin:=λ p hp z=>by
  have q:=(I.pin p hp).1;rw [z,h] at q;cases q
theorem Inv.track{pins:List (Addr × Obj)}{σ:St}{H:Hp}{s:Shared}{e:Addr}{oe:Obj}(I:Inv X pins σ H s)(N:pL X pins e)(he:s.heap.get? e=some oe)(hn:H e=none):Inv X pins σ (upd H e (vf oe)) s:=by
 have ne:∀ {b:Addr} {o:HO},H b=some o->b ≠ e:=λ q z=>by rw [z,hn] at q;cases q
 refine⟨I.ok,I.os,I.bare,⟨I.base.keep,I.base.slot,λ b o q n hx=>?_,I.base.there,λ b xs q=>?_,λ b o u q=>?_,λ b ps q=>?_⟩,I.loc,I.cell,?_,λ x c q=>?_,λ p hp=>?_,λ b o q=>?_,I.len⟩
 ·rw [ah (λ z=>by rw [z,N.s0] at q;cases q)];exact I.base.free b o q n hx
 ·have z:=I.base.tups b xs q;rw [ah (ne z)];exact z
 ·have z:=I.base.frzs b o u q;rw [ah (ne z)];exact z
 ·obtain⟨m,z⟩:=I.base.tbls b ps q;exact⟨m,by rw [ah (ne z)];exact z⟩
 ·rw [ah (J6 N.loc)];exact I.free
 ·rw [ah (N.cel x c q)];exact I.freeC x c q
 ·obtain⟨a,b,c,d,f⟩:=I.pin p hp;exact⟨a,by rw [ah (N.pin p hp)];exact b,c,d,f⟩
 ·by_cases hb:b=e
  ·subst hb;rw [ag] at q;cases q;exact⟨he,trivial,⟨oe,he⟩,λ _ _ _ _=>trivial⟩
  ·rw [ah hb] at q;exact(I.hok b o q).stay (λ _ _ _ r=>r) (λ c r=>by rw [ah (ne r)];exact r) λ c xs r=>by rw [ah (ne r)];exact r
def PHs(X:Cx)(hs:List ExceptHandler)(th:Value->Option Addr->TS):Prop:=
 ∀ (pins:List (Addr × Obj)) (s:Shared) (σ:St) (H:Hp) (D:fk) (e T:Addr) (cls:Value) (d:Option Addr),Inv X pins σ H s->pL X pins e->H e=none->kT s.heap e cls d T->th cls d D σ H->wpAny (model X.prog X.w) X.A (handleBy (.ref e) X.env hs) (SP X pins D) X.xe s
theorem Bw{M:Model}{A:Around}{E:Value->Shared->Prop}{s:Shared}{e T:Addr}{cls:Value}{d:Option Addr}{Q:Unit->Shared->Prop}(x:kT s.heap e cls d T)(hQ:∀ h',(∀ b o,s.heap.get? b=some o->h'.get? b=some o)->Q () { s with heap:=h' }) :
  wpAny M A (setFlight (.ref e) none) Q E s:=by
 obtain⟨oe,vs,oT,ts,he,rfl,rfl,hd,h1,ne,hT,hdT,h3,h2c⟩:=x;unfold setFlight;refine wpAny_bind (wpAny_field he hd h1 ?_);rw [if_pos (show (Value.ref T != Value.none)=true from by simp)];refine wpAny_setField hT hdT (Array.getElem?_eq_some_iff.mp h3).1 (hQ _ λ b o q=>?_)
 by_cases hb:b=T
 ·subst hb;rw [hT] at q;cases q
  have same:Obj.mapFields (·.setIfInBounds 3 ((none:Option Addr).elim Value.none λ f=>rawInt f)) oT=oT:=by
   obtain⟨c,d,dat,sl⟩:=oT;cases hdT
   have e3:ts.setIfInBounds 3 ((none:Option Addr).elim Value.none λ f=>rawInt f)=ts:=by
    apply Array.ext_getElem?;intro i
    by_cases hi:i=3
    ·subst hi;obtain⟨hlt,hv⟩:=Kd.mp h3;simp [Array.getElem?_setIfInBounds,hlt,hv]
    ·rw [Mp (J6 hi)]
   show (⟨c,d,.fields (ts.setIfInBounds 3 ((none:Option Addr).elim Value.none λ f=>rawInt f)),sl⟩:Obj)=_
   rw [e3]
  have:=KN (Obj.mapFields (·.setIfInBounds 3 ((none:Option Addr).elim Value.none λ f=>rawInt f))) hT (KL (K7 hdT _));rw [same] at this;exact this
 ·rw [K4 _ _ (J6 hb)];exact q
def Gd:Value->Option Addr->TS:=λ _ _ _ _ _=>False
theorem zQ:PHs X [] Gd:=λ _ _ _ _ _ _ _ _ _ _ _ _ _ h=>h.elim
theorem SP.unmark{pins:List (Addr × Obj)}{D:fk}{f:Flow}{s2:Shared}{e:Addr}(ok:X.Ok)(q:SP (X.mark e) pins D f s2):SP X pins D f s2:=by
 cases f with
 | next=>obtain⟨σ',H',J,q⟩:=q;exact⟨σ',H',J.unmark ok,q⟩
 | brk=>obtain⟨σ',H',J,q⟩:=q;exact⟨σ',H',J.unmark ok,q⟩
 | cont=>obtain⟨σ',H',J,q⟩:=q;exact⟨σ',H',J.unmark ok,q⟩
 | ret u=>obtain⟨v,σ',H',J,r,q⟩:=q;exact⟨v,σ',H',J.unmark ok,r,q⟩
theorem ER{M:Model}{h:Heap}{e T:Addr}{cls:Value}{d:Option Addr}(ex:kT h e cls d T):W.Looks M h (typeOf (.ref e)) cls:=by
 obtain⟨oe,vs,oT,ts,he,rfl,_⟩:=ex;exact(W.Looks.ld he).andThen .now
def Jd(i:Nat):St->Hp->(St->Hp->Prop)->Prop:=λ σ H Q=>Q (σ.set i none) H
def BI(i:Nat)(nx:St->Hp->Prop):St->Hp->Prop:=λ σ H=>Jd i σ H nx
def fk.del(i:Nat)(D:fk):fk:=⟨BI i D.nx,D.rt,BI i D.bk,BI i D.ct⟩
theorem jG{M:Model}{A:Around}{E:Value->Shared->Prop}{pins:List (Addr × Obj)}{σ:St}{H:Hp}{s:Shared}{i:Nat}{x:Str}{pos:Pos}{Q:Unit->Shared->Prop}(I:Inv X pins σ H s)(hi:X.N[i]? = some x)(hk:X.env.scope.names.lookup x=some .local)(hN:X.N.Nodup)
  (h:∀ s',Inv X pins (σ.set i none) H s'->Q () s'):wpAny M A (do bindName X.env x .none;unbindBehindTheSuite X.env x pos) Q E s:=by
 obtain⟨m,hn,hl⟩:=id I.loc;have hcls:(X.env.scope.kind == .class || (X.env.scope.kind == .module && X.env.locals != X.env.globals))=false:=by rw [I.ok.kind];rfl
 have cne:=I.cne;refine PySem.wpAny_nameGoes_keeps hk hn hcls λ h' v hn' hs=>?_;obtain⟨oL,_,_,hoL,_⟩:=id hn;refine h _ ⟨I.ok,I.os,I.bare,⟨λ b o e n hb hx=>?_,λ b o e n hb hx=>?_,I.base.free,λ b o e hx=>?_,I.base.tups,I.base.frzs,I.base.tbls⟩,⟨_,hn',λ j y v' e1 e2 e3=>?_⟩,λ y c e=>?_,I.free,I.freeC,λ p hp=>?_,λ b ob e=>?_,by simpa using I.len⟩
 ·exact(hs.2 b (JR (JN (JF e) I.ok.above))).trans (I.base.keep b o e n hb hx)
 ·obtain⟨sl,e1⟩:=I.base.slot b o e n hb hx;exact⟨sl,(hs.2 b (JR (JN (JF e) I.ok.above))).trans e1⟩
 ·obtain⟨o',e1⟩:=I.base.there b o e hx;exact⟨o',(hs.2 b (JR (JN (JF e) I.ok.above))).trans e1⟩
 ·have hj:j ≠ i:=by
   rintro rfl
   by_cases hlt:j < σ.length
   ·rw [LU hlt] at e2;cases e2
   ·rw [KW (by simpa using LP hlt)] at e2;cases e2
  rw [L7 (J6 hj)] at e2;obtain⟨u',r',q⟩:=hl j y v' e1 e2 e3;refine⟨u',r',?_⟩
  rcases q with ⟨k,e⟩|⟨k,c,e,z⟩
  ·refine .inl ⟨k,?_⟩;have:y ≠ x:=λ e=>hj (jZ hN e1 (e ▸ hi));simp [this,e]
  ·exact .inr ⟨k,c,e,z.sameBut hs (cne y c e)⟩
 ·obtain⟨w',z⟩:=I.cell y c e;exact⟨w',z.sameBut hs (cne y c e)⟩
 ·obtain⟨e,n,ne,nf,d⟩:=I.pin p hp;exact⟨(hs.2 p.1 ne).trans e,n,ne,nf,d⟩
 ·refine(I.hok b ob e).stay (λ c w' hc q=>(hs.2 c ?_).trans q) (λ _ q=>q) λ _ _ q=>q;rintro rfl
  rcases hc with rfl|hc
  ·rw [I.free] at e;cases e
  ·rw [I.free] at hc;cases hc
def yb(K:W.Frag)(C:Value)(i:Nat)(tb:TS)(tr:Value->Option Addr->TS):Value->Option Addr->TS:=λ cls d D σ H=>∃ b,W.exmOne K cls C=some b /\
 if b=true then ∀ (e:Addr) (oe:Obj),H e=none->oe.cls=cls->oe.dict=d->(∃ vs,oe.data=.fields vs)->tb (D.del i) (σ.set i (some (.ref e))) (upd H e (vf oe)) else tr cls d D σ H
theorem CY{x n:Str}{i:Nat}{np pos:Pos}{b₀:Stmt}{body:List Stmt}{rest:List ExceptHandler}{C:Value}{tb:TS}{tr:Value->Option Addr->TS}(hN:X.N.Nodup)(hi:X.N[i]? = some n)(hk:X.env.scope.names.lookup n=some .local)(hg:Gl X x)(hm:X.mg x=some C\/(X.mg x=none/\bootBuiltins x=some C/\x ≠ "__name__"))(hb:∀ e,PSs (X.mark e) (b₀::body) tb)(hr:PHs X rest tr)
  (hdb:(x == ("__debug__":Str))=false:=by decide):PHs X (.ExceptHandler (some (.Name x np)) (some n) (b₀::body) pos::rest) (yb X.K C i tb tr):=by
 intro pins s σ H D e T cls d I N hn ex h;obtain⟨b,hx,h⟩:=h;have Im:=I.mark e
 have ld:∀ {Q:Value->Shared->Prop} {E:Value->Shared->Prop},Q C s->wpAny (model X.prog X.w) (X.A.mark (some (.ref e))) (eval (.Name x np) X.env) Q E s:=λ {Q E} q=>by
  rcases hm with z|⟨z1,z2,z3⟩
  ·exact fF (X:=X.mark e) Im hg z q hdb
  ·exact gL (X:=X.mark e) Im hg z1 z2 q z3 hdb
 refine PySem.wpAny_handleBy_cons (PySem.codeAny_handlers_test (ld ((W.exm_one I.kIn (ER ex) hx).here ?_))) (by intro q;cases q)
 cases b with
 | false=>
  rw [JL JO] at h;exact hr pins s σ H D e T cls d I N hn ex h
 | true=>
  rw [JM rfl] at h;refine PySem.codeAny_handlers_suite_as (Bw ex λ h' kp=>?_);obtain⟨oe,vs,oT,ts,he,hc,hd,hdat,_⟩:=ex;have N':pL (X.mark e) pins e:=⟨N.s0,N.loc,N.cel,N.fs,N.pin⟩;have I':Inv (X.mark e) pins σ (upd H e (vf oe)) { s with heap:=h' }:=(Im.kept (t':=s.toks) kp).track N' (kp _ _ he) hn;refine fm (X:=X.mark e) I' hN hi (.inl hk) (show bG (.ref e) (.ref e) from rfl) (λ s1 I1=>?_) (.inr hk);refine Lo (hb e pins s1 _ _ (D.del i) I1 (h e oe hn hc hd ⟨vs,hdat⟩)) (λ f s2 q=>?_) λ _ _ z=>z.elim
  show wpAny _ X.A _ _ _ s2
  have q':=SP.unmark I.ok q
  cases f with
  | next=>obtain⟨σ',H',J,q⟩:=q';exact jG J hi hk hN λ s3 J3=>⟨_,H',J3,q⟩
  | brk=>obtain⟨σ',H',J,q⟩:=q';exact jG J hi hk hN λ s3 J3=>⟨_,H',J3,q⟩
  | cont=>obtain⟨σ',H',J,q⟩:=q';exact jG J hi hk hN λ s3 J3=>⟨_,H',J3,q⟩
  | ret u=>obtain⟨v,σ',H',J,r,q⟩:=q';exact jG J hi hk hN λ s3 J3=>⟨v,_,H',J3,r,q⟩
def Hs(tb:(St->XK)->TS)(th:Value->Option Addr->TS):TS:=λ D σ H=>tb (λ σ' cls d H'=>th cls d D σ' H') D σ H
abbrev Cx.tried(X:Cx)(E:Value->Shared->Prop)(pn:List (Addr × Obj)):Cx:={ X with xe:=E,pn:=pn }
theorem CU{body:List Stmt}{h₀:ExceptHandler}{hs:List ExceptHandler}{pos:Pos}{tb:(St->XK)->TS}{th:Value->Option Addr->TS}(hstk:X.stack=X.env::X.outer/\X.env.frame=some X.env.locals/\X.ex=[])
  (hb:∀ (EX:St->XK) (E:Value->Shared->Prop) (pn:List (Addr × Obj)),(∀ σ,yF (CX1 X.prog X.w) (X.tried E pn) (EX σ) σ)->PSs (X.tried E pn) body (tb EX)) (hh:PHs X (h₀::hs) th) :
  PS X (.Try body (h₀::hs) [] [] pos) (Hs tb th):=by
 intro pins s σ H D I h;refine PySem.wpAny_Try_except ?_;have okT:∀ E pn,(X.tried E pn).Ok:=λ E pn=>⟨I.ok.mod,I.ok.kind,I.ok.glob,I.ok.blt,I.ok.above,I.ok.inj,I.ok.has,I.ok.cab,I.ok.hd,I.ok.frames,I.ok.stk,I.ok.exf,I.ok.bs,I.ok.bsz,I.ok.noex,I.ok.exfs,I.ok.funs,I.ok.frf⟩
 have back:∀ {E:Value->Shared->Prop} {pins':List (Addr × Obj)} {σ':St} {H':Hp} {s':Shared},Inv (X.tried E (X.pn++pins)) pins' σ' H' s'->Inv X pins σ' H' s':=λ {E pins' σ' H' s'} J=>
  ⟨I.ok,J.os,J.bare,J.base,J.loc,J.cell,J.free,J.freeC,λ p hp=>J.pin p (KD _ hp),J.hok,J.len⟩
 have I0:∀ E,Inv (X.tried E (X.pn++pins)) [] σ H s:=λ E=>⟨okT E _,I.os,I.bare,I.base,I.loc,I.cell,I.free,I.freeC,λ p hp=>I.pin p (by simpa using hp),I.hok,I.len⟩;refine thn (hb (λ σ' cls d H'=>th cls d D σ' H') _ (X.pn++pins) ?_ [] s σ H D (I0 _) h) λ f s1 q=>?_
 ·intro σ1 pins1 H1 s1 ev s2 I1 hc;obtain⟨e,T,cls,dd,H',rfl,os,bare,un1,hok,ne,nT,He,HT,ex,hxd,hE⟩:=hc;have I2:=I1.call' (ch:=[]) os un1 hok bare (λ b z=>absurd z (by simp))
  have nf:∀ b,s1.heap.get? b=none->b ∉ frs (X.env::X.outer):=λ b hb z=>by
   have st:=I1.stack;have st':s1.heap.FunFrames X.base (X.env::X.outer):=by rw [←hstk.1];exact st
   obtain⟨_,o,q,_⟩:=st'.mem z;rw [hb] at q;cases q
  have nb:X.base.get? T=none:=by
   cases q:X.base.get? T with
   | none=>rfl
   | some o=>
    have:=I1.bk T o q;rw [nT] at this;cases this
  have fl:s2.heap.FunFrames X.base (X.env::X.outer):=by rw [←hstk.1];exact I2.stack
  have fr:X.A.frames=some (X.env::X.outer):=by rw [←hstk.1];exact I.ok.frames
  refine lC (base:=X.base) (outer:=X.outer) fr fl hstk.2.1 ex (nf e ne) (nf T nT) nb λ g T' ng nT' ex'=>?_;have fs:∀ b∈frs (X.env::X.outer),b∈frs X.stack:=λ b hb=>by rw [hstk.1];exact hb
  have I3:=I1.call' (s':={ s2 with heap:=g }) (ch:=[]) os (un1.noted ng ne (λ b z=>by rw [z];exact nT) λ b hb=>.inl (fs b hb)) (hok.noted ng He (λ b z=>by rw [z];exact HT) λ b hb=>I2.stkFree b (fs b hb)) bare (λ b z=>absurd z (by simp));exact hh pins _ σ1 H' D e T' cls dd (back I3) (pL.of (back I1) hstk.2.2 ne) He ex' hE
 ·cases f with
  | next=>obtain⟨σ',H',J,q⟩:=q;exact LH ⟨σ',H',back J,q⟩
  | brk=>obtain⟨σ',H',J,q⟩:=q;exact⟨σ',H',back J,q⟩
  | cont=>obtain⟨σ',H',J,q⟩:=q;exact⟨σ',H',back J,q⟩
  | ret u=>obtain⟨v,σ',H',J,r,q⟩:=q;exact⟨v,σ',H',back J,r,q⟩
def kXd:HO->Prop:=λ o=>match o with
 | .xd _=>True
 | _=>False
def vH(H:Hp):Option Addr->Prop
 | none=>True
 | some dx=>∃ o,H dx=some o/\kXd o
theorem uV:bE X (.builtin "isinstance") (λ xs H Q=>∃ e oe C D b,xs=[.ref e,D]/\(∃ u,H e=some (.frz oe u))/\oe.cls=.ref C/\vH H oe.dict/\(∃ vs,oe.data=.fields vs)/\vk X.K C/\(∃ u,bG D u/\W.kitOne X.K (.ref C) u=some b)/\Q (.bl b) H):=by
 intro pins s σ H xs us Q I r h;obtain⟨e,oe,C,D,b,rfl,⟨uu,hH⟩,hc,hd,⟨vs,hv⟩,ec,⟨u,ru,hk⟩,q⟩:=h;obtain⟨u1,u2,rfl,r1,r2⟩:=vp r;cases (show u1=Value.ref e from r1)
 have hu:u2=u:=by
  cases D with
  | ref a=>exact(show u2=Value.ref a from r2).trans (show u=Value.ref a from ru).symm
  | ty n=>exact(show u2=Value.type n from r2).trans (show u=Value.type n from ru).symm
  | non=>exact(show u2=Value.none from r2).trans (show u=Value.none from ru).symm
  | bl b'=>exact(show u2=Value.bool b' from r2).trans (show u=Value.bool b' from ru).symm
  | int i=>obtain⟨t,rfl⟩:=ru;simp [W.kitOne,W.kitCls] at hk
  | str i=>obtain⟨t,rfl⟩:=ru;simp [W.kitOne,W.kitCls] at hk
  | byt i=>obtain⟨t,rfl⟩:=ru;simp [W.kitOne,W.kitCls] at hk
  | flt i=>obtain⟨t,rfl⟩:=ru;simp [W.kitOne,W.kitCls] at hk
 subst hu;obtain⟨he,_⟩:=(show bK X.prog X.w H s.heap e (.frz oe uu) from I.hok e _ hH);have hno:W.notCls oe=true:=by unfold W.notCls;rw [hv]
 cases q0:oe.dict with
 | none=>
  have J:W.InstAt s.heap e oe C none:=⟨he,hc,hno,by rw [q0];trivial⟩;exact Lb (oQ ec) I.kIn J hk (λ z=>nomatch z) λ tk=>⟨.bl b,H,I.tok _,rfl,q⟩
 | some dx=>
  rw [q0] at hd;obtain⟨o,ho,hx⟩:=hd
  cases o with
  | xd fs=>
   obtain⟨mA,hn,_⟩:=I.hok dx _ ho;obtain⟨oD,hoD,_⟩:=lE hn;have J:W.InstAt s.heap e oe C (some oD):=⟨he,hc,hno,by rw [q0];exact hoD⟩;exact Lb (oQ ec) I.kIn J hk (λ z=>nomatch z) λ tk=>⟨.bl b,H,I.tok _,rfl,q⟩
  | _=>exact hx.elim
end
section
variable {prog:Program}{w:World}{A:Around}{R:Result->Shared->Prop}{h:Heap}{g:Array GenState}{d:Drawn}{t:Nat}{os:OsState}{K:Frag}
variable {nm q:Str}{C N fI:Addr}{bs bm bmB:List Value}{hdct:Bool}{sn:List Str}{sub:List Value}{ab:Bool}{col:Option Bool}{dd:Option Addr}{k0 k1 k2 k3 k5:Option Value}{B Bn newId nid initId inN:String}{bmN:List Value}
end
section
variable {prog:Program}{w:World}{A:Around}{E:Value->Shared->Prop}{K:Frag}{x C:Addr}{s:Shared}{name:Str}{v:Value}
end
section
variable {prog:Program}{w:World}{A:Around}{E:Value->Shared->Prop}{s:Shared}{K:PySem.W.Frag}{x C dx:Addr}{ox:Obj}{od:Option Obj}{name:Str}{mA:Str->Option Value}{u:Value}
end
section
variable {prog:Program}{w:World}{A:Around}{E:Value->Shared->Prop}{h:Heap}{g:Array GenState}{d:Drawn}{t:Nat}{os:OsState}{e a0:Addr}{dct:Option Addr}
variable {nm q:Str}{C N:Addr}{bs bm bmB:List Value}{hdct:Bool}{sn:List Str}{sub:List Value}{ab:Bool}{col:Option Bool}{dd:Option Addr}{k0 k1 k2 k3 k5:Option Value}{B newId nid initId:String}
end
section
variable {X:Cx}{pins:List (Addr × Obj)}{σ:St}{H:Hp}{s:Shared}
end
section
variable {X:Cx}{e o value:Expr}{ta tv:TE}{f:Str}{pos pos':Pos}
end
def del(H:Hp)(e:Addr):Hp:=λ b=>if b=e then none else H b
section
variable {X:Cx}
end
theorem Bv{a:Option V}{v:V}{σ:St}{H:Hp}{Q:St->Hp->Prop}:cZ 0 v (a::σ) H Q=Q (some v::σ) H:=rfl
theorem Bu{a0:Option V}{a:Option V}{v:V}{σ:St}{H:Hp}{Q:St->Hp->Prop}:cZ 1 v (a0::a::σ) H Q=Q (a0::some v::σ) H:=rfl
theorem Bt{a0 a1:Option V}{a:Option V}{v:V}{σ:St}{H:Hp}{Q:St->Hp->Prop}:cZ 2 v (a0::a1::a::σ) H Q=Q (a0::a1::some v::σ) H:=rfl
theorem Bs{a0 a1 a2:Option V}{a:Option V}{v:V}{σ:St}{H:Hp}{Q:St->Hp->Prop}:cZ 3 v (a0::a1::a2::a::σ) H Q=Q (a0::a1::a2::some v::σ) H:=rfl
theorem Br{a0 a1 a2 a3:Option V}{a:Option V}{v:V}{σ:St}{H:Hp}{Q:St->Hp->Prop}:cZ 4 v (a0::a1::a2::a3::a::σ) H Q=Q (a0::a1::a2::a3::some v::σ) H:=rfl
theorem Bq{a0 a1 a2 a3 a4:Option V}{a:Option V}{v:V}{σ:St}{H:Hp}{Q:St->Hp->Prop}:cZ 5 v (a0::a1::a2::a3::a4::a::σ) H Q=Q (a0::a1::a2::a3::a4::some v::σ) H:=rfl
theorem Bp{a0 a1 a2 a3 a4 a5:Option V}{a:Option V}{v:V}{σ:St}{H:Hp}{Q:St->Hp->Prop}:cZ 6 v (a0::a1::a2::a3::a4::a5::a::σ) H Q=Q (a0::a1::a2::a3::a4::a5::some v::σ) H:=rfl
theorem Bo{a0 a1 a2 a3 a4 a5 a6:Option V}{a:Option V}{v:V}{σ:St}{H:Hp}{Q:St->Hp->Prop}:cZ 7 v (a0::a1::a2::a3::a4::a5::a6::a::σ) H Q=Q (a0::a1::a2::a3::a4::a5::a6::some v::σ) H:=rfl
theorem Bm{a0 a1 a2 a3 a4 a5 a6 a7:Option V}{a:Option V}{v:V}{σ:St}{H:Hp}{Q:St->Hp->Prop}:cZ 8 v (a0::a1::a2::a3::a4::a5::a6::a7::a::σ) H Q=Q (a0::a1::a2::a3::a4::a5::a6::a7::some v::σ) H:=rfl
theorem Bl{a0 a1 a2 a3 a4 a5 a6 a7 a8:Option V}{a:Option V}{v:V}{σ:St}{H:Hp}{Q:St->Hp->Prop}:cZ 9 v (a0::a1::a2::a3::a4::a5::a6::a7::a8::a::σ) H Q=Q (a0::a1::a2::a3::a4::a5::a6::a7::a8::some v::σ) H:=rfl
theorem xx{a0 a1 a2 a3 a4 a5 a6 a7 a8 a9:Option V}{a:Option V}{v:V}{σ:St}{H:Hp}{Q:St->Hp->Prop}:cZ 10 v (a0::a1::a2::a3::a4::a5::a6::a7::a8::a9::a::σ) H Q=Q (a0::a1::a2::a3::a4::a5::a6::a7::a8::a9::some v::σ) H:=rfl
theorem xw{a0 a1 a2 a3 a4 a5 a6 a7 a8 a9 a10:Option V}{a:Option V}{v:V}{σ:St}{H:Hp}{Q:St->Hp->Prop}:cZ 11 v (a0::a1::a2::a3::a4::a5::a6::a7::a8::a9::a10::a::σ) H Q=Q (a0::a1::a2::a3::a4::a5::a6::a7::a8::a9::a10::some v::σ) H:=rfl
def aW{α:Type}:Option α->(α->Prop)->Prop
 | some x,k=>k x
 | none,_=>False
theorem lB{α:Type}(x:α)(k:α->Prop):aW (some x) k=k x:=rfl
theorem ar{α:Type}{o:Option α}{k:α->Prop}(h:aW o k):∃ x,o=some x/\k x:=by
 cases o with
 | none=>exact h.elim
 | some x=>exact⟨x,rfl,h⟩
def E1:HO->Option (List V)
 | .lst xs=>some xs
 | .tup xs=>some xs
 | .frz _ (.lst xs)=>some xs
 | _=>none
def Fw:HO->Option (List V)
 | .lst xs=>some xs
 | _=>none
def Fg:HO->Option (List V)
 | .tup xs=>some xs
 | _=>none
def cT(H:Hp)(p:Addr):Option (List V):=(H p).bind E1
def aY(H:Hp)(p:Addr):Option (List V):=(H p).bind Fw
def gF(H:Hp)(p:Addr):Option (List V):=(H p).bind Fg
theorem vQ(xs:List V):E1 (.lst xs)=some xs:=rfl
theorem vP(xs:List V):E1 (.tup xs)=some xs:=rfl
theorem wZ(xs:List V):Fw (.lst xs)=some xs:=rfl
theorem vN(xs:List V):Fg (.tup xs)=some xs:=rfl
theorem qJ{α β:Type}(x:α)(f:α->Option β):(some x).bind f=f x:=rfl
abbrev Ext(H H':Hp):Prop:=(∀ a,(H a).isSome=true->H' a=H a)/\∀ (K:PySem.W.Frag) a xs,SqL K H a xs->SqL K H' a xs
def E6(r:R2)(x:V)(Q:VK):VK:=λ y H=>r x y H Q
theorem yu(r:R2)(x y:V)(H:Hp)(Q:VK):(E6 r x Q y H)=(r x y H Q):=rfl
def kOp(r:R2)(tb:TE)(σ:St)(Q:VK):VK:=λ x H=>tb σ H (E6 r x Q)
theorem GR(r:R2)(tb:TE)(σ:St)(Q:VK)(x:V)(H:Hp):(kOp r tb σ Q x H)=(tb σ H (E6 r x Q)):=rfl
theorem GA(r:R2)(ta tb:TE)(σ:St)(H:Hp)(Q:VK):(tOp r ta tb σ H Q)=(ta σ H (kOp r tb σ Q)):=rfl
theorem IS(v:V)(σ:St)(H:Hp)(Q:VK):(tC v σ H Q)=(Q v H):=rfl
def kUn(r:V->Hp->VK->Prop)(Q:VK):VK:=λ x H=>r x H Q
theorem GL(r:V->Hp->VK->Prop)(Q:VK)(x:V)(H:Hp):(kUn r Q x H)=(r x H Q):=rfl
theorem Gx(r:V->Hp->VK->Prop)(ta:TE)(σ:St)(H:Hp)(Q:VK):(tUn r ta σ H Q)=(ta σ H (kUn r Q)):=rfl
def Fl:R2:=λ x y H Q=>y=.non/\Q (.bl (decide (x=.non))) H
theorem p0(H:Hp)(Q:VK):Fl (.non) .non H Q=Q (.bl true) H:=propext ⟨λ h=>h.2,λ h=>⟨rfl,h⟩⟩
theorem pZ(i:Addr)(H:Hp)(Q:VK):Fl (.ref i) .non H Q=Q (.bl false) H:=propext ⟨λ h=>h.2,λ h=>⟨rfl,h⟩⟩
def Cq(Q:Bool->Hp->Prop):VK:=λ x H=>∃ k,x=.bl k/\Q k H
def HW(Q:Bool->Hp->Prop):Bool->Hp->Prop:=λ c H=>Q (!c) H
theorem Ea(Q:Bool->Hp->Prop)(c:Bool)(H:Hp):(HW Q c H)=(Q (!c) H):=rfl
theorem DB(t:TT)(σ:St)(H:Hp)(Q:Bool->Hp->Prop):(Hx t σ H Q)=(t σ H (HW Q)):=rfl
def Ii(u:TT)(σ:St)(Q:Bool->Hp->Prop):Bool->Hp->Prop:=λ c H=>if c=true then u σ H Q else Q false H
theorem Ez(u:TT)(σ:St)(Q:Bool->Hp->Prop)(c:Bool)(H:Hp):(Ii u σ Q c H)=(if c=true then u σ H Q else Q false H):=rfl
theorem DH(t u:TT)(σ:St)(H:Hp)(Q:Bool->Hp->Prop):(Fi t u σ H Q)=(t σ H (Ii u σ Q)):=rfl
def kOr(u:TT)(σ:St)(Q:Bool->Hp->Prop):Bool->Hp->Prop:=λ c H=>if c=true then Q true H else u σ H Q
theorem GQ(u:TT)(σ:St)(Q:Bool->Hp->Prop)(c:Bool)(H:Hp):(kOr u σ Q c H)=(if c=true then Q true H else u σ H Q):=rfl
theorem Gz(t u:TT)(σ:St)(H:Hp)(Q:Bool->Hp->Prop):(tOr t u σ H Q)=(t σ H (kOr u σ Q)):=rfl
def Hh(tb:TE)(σ:St)(Q:VK):VK:=λ x H=>∃ c,x=.bl c/\if c=true then tb σ H Q else Q (.bl false) H
def Jb(tb:TE)(σ:St)(Q:VK):VK:=λ x H=>∃ c,x=.bl c/\if c=true then Q (.bl true) H else tb σ H Q
def Hc(Q:VK):VK:=λ x H=>∃ c,x=.bl c/\Q (.bl (!c)) H
def HY(ta tb:TE)(σ:St)(Q:VK):Bool->Hp->Prop:=λ c H=>if c=true then ta σ H Q else tb σ H Q
theorem Eg(ta tb:TE)(σ:St)(Q:VK)(c:Bool)(H:Hp):(HY ta tb σ Q c H)=(if c=true then ta σ H Q else tb σ H Q):=rfl
theorem GB(t:TT)(ta tb:TE)(σ:St)(H:Hp)(Q:VK):(tIf t ta tb σ H Q)=(t σ H (HY ta tb σ Q)):=rfl
def Fb(r':R2)(y:V)(Q:VK):VK:=λ w H=>r' y w H Q
theorem Eo(r':R2)(y w:V)(Q:VK)(H:Hp):(Fb r' y Q w H)=(r' y w H Q):=rfl
def FL(r':R2)(tc:TE)(σ:St)(y:V)(Q:VK):VK:=λ z H=>∃ k,z=.bl k/\(if k=true then tc σ H (Fb r' y Q) else Q (.bl false) H)
def Ic(r r':R2)(tc:TE)(σ:St)(x:V)(Q:VK):VK:=λ y H=>r x y H (FL r' tc σ y Q)
def Jc(r r':R2)(tb tc:TE)(σ:St)(Q:VK):VK:=λ x H=>tb σ H (Ic r r' tc σ x Q)
theorem DC(σ:St)(H:Hp)(Q:List V->Hp->Prop):(BK σ H Q)=(Q [] H):=rfl
def rS(x:V)(Q:List V->Hp->Prop):List V->Hp->Prop:=λ xs H=>Q (x::xs) H
theorem wW(x:V)(Q:List V->Hp->Prop)(xs:List V)(H:Hp):(rS x Q xs H)=(Q (x::xs) H):=rfl
def Cv(tr:TA)(σ:St)(Q:List V->Hp->Prop):VK:=λ x H=>tr σ H (rS x Q)
theorem A6(tr:TA)(σ:St)(Q:List V->Hp->Prop)(x:V)(H:Hp):(Cv tr σ Q x H)=(tr σ H (rS x Q)):=rfl
theorem Ao(ta:TE)(tr:TA)(σ:St)(H:Hp)(Q:List V->Hp->Prop):(qT ta tr σ H Q)=(ta σ H (Cv tr σ Q)):=rfl
def mP(sp:Sp)(dvs:List V)(E:XK)(Q:VK):List V->Hp->Prop:=λ vs H=>sp (vs++dvs) H Q E
theorem ui(v0:V)(sp:Sp)(dvs:List V)(E:XK)(Q:VK)(H:Hp):mP sp dvs E Q [v0] H=sp (v0::dvs) H Q E:=rfl
theorem uh(v0 v1:V)(sp:Sp)(dvs:List V)(E:XK)(Q:VK)(H:Hp):mP sp dvs E Q [v0,v1] H=sp (v0::v1::dvs) H Q E:=rfl
theorem ug(v0 v1 v2:V)(sp:Sp)(dvs:List V)(E:XK)(Q:VK)(H:Hp):mP sp dvs E Q [v0,v1,v2] H=sp (v0::v1::v2::dvs) H Q E:=rfl
theorem uf(v0 v1 v2 v3:V)(sp:Sp)(dvs:List V)(E:XK)(Q:VK)(H:Hp):mP sp dvs E Q [v0,v1,v2,v3] H=sp (v0::v1::v2::v3::dvs) H Q E:=rfl
theorem ue(v0 v1 v2 v3 v4:V)(sp:Sp)(dvs:List V)(E:XK)(Q:VK)(H:Hp):mP sp dvs E Q [v0,v1,v2,v3,v4] H=sp (v0::v1::v2::v3::v4::dvs) H Q E:=rfl
theorem Aq(sp:Sp)(dvs:List V)(E:XK)(t:TA)(σ:St)(H:Hp)(Q:VK):(B6 sp dvs E t σ H Q)=(t σ H (mP sp dvs E Q)):=rfl
def kCB(r:List V->Hp->VK->Prop)(Q:VK):List V->Hp->Prop:=λ vs H=>r vs H Q
theorem G0(r:List V->Hp->VK->Prop)(Q:VK)(vs:List V)(H:Hp):(kCB r Q vs H)=(r vs H Q):=rfl
theorem GC(r:List V->Hp->VK->Prop)(t:TA)(σ:St)(H:Hp)(Q:VK):(tCB r t σ H Q)=(t σ H (kCB r Q)):=rfl
theorem Ak(nx:St->Hp->Prop)(rt:VK)(bk ct:St->Hp->Prop)(σ:St)(H:Hp):(B3 ⟨nx,rt,bk,ct⟩ σ H)=(nx σ H):=rfl
theorem Dy(t u:TS)(nx:St->Hp->Prop)(rt:VK)(bk ct:St->Hp->Prop)(σ:St)(H:Hp):(Ht t u ⟨nx,rt,bk,ct⟩ σ H)=(t ⟨u ⟨nx,rt,bk,ct⟩,rt,bk,ct⟩ σ H):=rfl
theorem Dz(te:TE)(nx:St->Hp->Prop)(rt:VK)(bk ct:St->Hp->Prop)(σ:St)(H:Hp):(Hu te ⟨nx,rt,bk,ct⟩ σ H)=(te σ H rt):=rfl
def Cu(nx:St->Hp->Prop)(σ:St):VK:=λ x H=>nx σ H
theorem A5(nx:St->Hp->Prop)(σ:St)(x:V)(H:Hp):(Cu nx σ x H)=(nx σ H):=rfl
theorem Am(te:TE)(nx:St->Hp->Prop)(rt:VK)(bk ct:St->Hp->Prop)(σ:St)(H:Hp):(B4 te ⟨nx,rt,bk,ct⟩ σ H)=(te σ H (Cu nx σ)):=rfl
def HX(t u:TS)(D:fk)(σ:St):Bool->Hp->Prop:=λ b H=>if b=true then t D σ H else u D σ H
theorem Ef(t u:TS)(D:fk)(σ:St)(b:Bool)(H:Hp):(HX t u D σ b H)=(if b=true then t D σ H else u D σ H):=rfl
theorem gK(c:TT)(t u:TS)(D:fk)(σ:St)(H:Hp):(EZ c t u D σ H)=(c σ H (HX t u D σ)):=rfl
def Ig(g:TG)(σ:St)(nx:St->Hp->Prop):VK:=λ x H=>g x σ H nx
theorem Ex(g:TG)(σ:St)(nx:St->Hp->Prop)(x:V)(H:Hp):(Ig g σ nx x H)=(g x σ H nx):=rfl
theorem DG(te:TE)(g:TG)(nx:St->Hp->Prop)(rt:VK)(bk ct:St->Hp->Prop)(σ:St)(H:Hp):(Fh te g ⟨nx,rt,bk,ct⟩ σ H)=(te σ H (Ig g σ nx)):=rfl
def HU(i j:Nat)(σ:St)(nx:St->Hp->Prop):List V->Hp->Prop:=λ vs H=>∃ v w,vs=[v,w]/\nx ((σ.set i (some v)).set j (some w)) H
theorem D8(i j:Nat)(σ:St)(nx:St->Hp->Prop)(v w:V)(H:Hp):HU i j σ nx [v,w] H=cZ i v σ H (λ σ' H'=>cZ j w σ' H' nx):=propext ⟨λ ⟨_,_,e,q⟩=>by cases e;exact q,λ q=>⟨v,w,rfl,q⟩⟩
theorem DA(i j:Nat)(ta:TA)(nx:St->Hp->Prop)(rt:VK)(bk ct:St->Hp->Prop)(σ:St)(H:Hp):(Hv i j ta ⟨nx,rt,bk,ct⟩ σ H)=(ta σ H (HU i j σ nx)):=rfl
def kGs(u:TGs)(r:List V)(Q:St->Hp->Prop):St->Hp->Prop:=λ σ' H'=>u r σ' H' Q
theorem GV(u:TGs)(r:List V)(Q:St->Hp->Prop)(σ:St)(H:Hp):(kGs u r Q σ H)=(u r σ H Q):=rfl
section
variable {X:Cx}
theorem OpR.mono{f:Value->Value->Sem Value}{r r':R2}(h:OpR X f r)(m:∀ x y H Q,r' x y H Q->r x y H Q):OpR X f r':=λ pins s σ H x y v u Q I rx ry hq=>h pins s σ H x y v u Q I rx ry (m _ _ _ _ hq)
theorem bE.mono{f:Value}{r r':List V->Hp->VK->Prop}(h:bE X f r)(m:∀ xs H Q,r' xs H Q->r xs H Q):bE X f r':=λ pins s σ H xs us Q I rx hq=>h pins s σ H xs us Q I rx (m _ _ _ hq)
theorem IxR.mono{r r':R2}(h:IxR X r)(m:∀ x y H Q,r' x y H Q->r x y H Q):IxR X r':=λ a b pins s σ H x y v u Q I rx ry hq=>h a b pins s σ H x y v u Q I rx ry (m _ _ _ _ hq)
theorem SlR.mono{r r':V->Option Int->Option Int->Hp->VK->Prop}(h:SlR X r)(m:∀ x lo hi H Q,r' x lo hi H Q->r x lo hi H Q):SlR X r':=λ pins s σ H x v vl vu lo hi sl Q I rx a b c hq=>h pins s σ H x v vl vu lo hi sl Q I rx a b c (m _ _ _ _ _ hq)
theorem PG.mono{tg:Expr}{g g':TG}(h:PG X tg g)(m:∀ v σ H Q,g' v σ H Q->g v σ H Q):PG X tg g':=λ pins s σ H v u Q I r hq=>h pins s σ H v u Q I r (m _ _ _ _ hq)
theorem ic{K:W.Frag}{H:Hp}{p:Addr}{ys:List V}(h:cT H p=some ys):SqL K H p ys\/SqT K H p ys:=by
 unfold cT at h
 cases e:H p with
 | none=>rw [e] at h;cases h
 | some o=>
  rw [e] at h;have h':E1 o=some ys:=h
  cases o with
  | lst xs=>cases h';exact .inl (SqL.of e)
  | tup xs=>cases h';exact .inr (SqT.of e)
  | frz ob u=>
   cases u with
   | lst xs=>cases h';exact .inl (.inl (.inr ⟨ob,e⟩))
   | _=>cases h'
  | _=>cases h'
theorem dH{H:Hp}{p:Addr}{ys:List V}(h:aY H p=some ys):H p=some (.lst ys):=by
 unfold aY at h
 cases e:H p with
 | none=>rw [e] at h;cases h
 | some o=>
  rw [e] at h;have h':Fw o=some ys:=h
  cases o with
  | lst xs=>cases h';rfl
  | _=>cases h'
theorem oa{H:Hp}{p:Addr}{ys:List V}(h:gF H p=some ys):H p=some (.tup ys):=by
 unfold gF at h
 cases e:H p with
 | none=>rw [e] at h;cases h
 | some o=>
  rw [e] at h;have h':Fg o=some ys:=h
  cases o with
  | tup xs=>cases h';rfl
  | _=>cases h'
def FC(H:Hp)(Q:VK):List V->Prop:=λ ys=>Q (.int ys.length) H
theorem Ed(H:Hp)(Q:VK)(ys:List V):FC H Q ys=Q (.int ys.length) H:=rfl
def BO(xs:List V)(H:Hp)(Q:VK):Prop:=match xs with
 | [.ref p]=>aW (cT H p) (FC H Q)
 | [.str z]=>z.length<=sizeLine/\Q (.int z.length) H
 | _=>False
theorem DP(p:Addr)(H:Hp)(Q:VK):BO [.ref p] H Q=aW (cT H p) (FC H Q):=rfl
theorem ao:bE X (.builtin "len") BO:=by
 refine(cR.or mD).mono λ xs H Q h=>?_;unfold BO at h;split at h
 ·rename_i p;obtain⟨ys,e,q⟩:=ar h;exact .inl ⟨p,ys,rfl,ic e,q⟩
 ·rename_i z;exact .inr ⟨z,rfl,h.1,h.2⟩
 ·exact h.elim
def FD(H:Hp)(Q:VK):V->Prop:=λ v=>Q v H
theorem Ee(H:Hp)(Q:VK)(v:V):FD H Q v=Q v H:=rfl
def kIx(i:Int)(H:Hp)(Q:VK):List V->Prop:=λ ys=>aW (atI ys i) (FD H Q)
theorem GU(i:Int)(H:Hp)(Q:VK)(ys:List V):kIx i H Q ys=aW (atI ys i) (FD H Q):=rfl
def qIx:R2:=λ x y H Q=>match x,y with
 | .ref p,.int i=>aW (cT H p) (kIx i H Q)
 | _,_=>False
theorem GF(p:Addr)(i:Int)(H:Hp)(Q:VK):qIx (.ref p) (.int i) H Q=aW (cT H p) (kIx i H Q):=rfl
theorem az:IxR X qIx:=by
 refine(ni.or EM).mono λ x y H Q h=>?_;unfold qIx at h;split at h
 ·rename_i p i;obtain⟨ys,e,q⟩:=ar h;obtain⟨v,e2,q2⟩:=ar q
  rcases ic (K:=X.K) e with z|z
  ·exact .inl ⟨p,ys,i,v,rfl,rfl,z,e2,q2⟩
  ·exact .inr ⟨p,ys,i,v,rfl,rfl,z,e2,q2⟩
 ·exact h.elim
theorem Hn{α:Type}(a:α)(xs:List α):atI (a::xs) 0=some a:=fJ (j:=0) rfl
theorem Hm{α:Type}(a b:α)(xs:List α):atI (a::b::xs) 1=some b:=fJ (j:=1) rfl
theorem Hl{α:Type}(a b c:α)(xs:List α):atI (a::b::c::xs) 2=some c:=fJ (j:=2) rfl
def Hd(H:Hp)(Q:VK):List V->Prop:=λ ys=>∀ l,H l=none->Q (.ref l) (upd H l (.lst ys))
def Cd(xs:List V)(H:Hp)(Q:VK):Prop:=match xs with
 | [.ref p]=>aW (cT H p) (Hd H Q)
 | _=>False
theorem qx:bE X (.type "list") Cd:=by
 refine mC.mono λ xs H Q h=>?_;unfold Cd at h;split at h
 ·rename_i p;obtain⟨ys,e,q⟩:=ar h;exact⟨p,ys,rfl,ic e,q⟩
 ·exact h.elim
def yW(p:Addr)(H:Hp)(Q:VK):HO->Prop:=λ o=>match o with
 | .lst ys=>∀ l,H l=none->Q (.ref l) (upd H l (.tup ys))
 | .tup _=>Q (.ref p) H
 | _=>False
def yi(xs:List V)(H:Hp)(Q:VK):Prop:=match xs with
 | [.ref p]=>aW (H p) (yW p H Q)
 | _=>False
theorem nN:bE X (.type "tuple") yi:=by
 refine kJ.mono λ xs H Q h=>?_;unfold yi at h;split at h
 ·rename_i p;obtain⟨o,e,q⟩:=ar h;unfold yW at q;split at q
  ·rename_i ys;exact⟨p,ys,rfl,.inl ⟨SqL.of e,q⟩⟩
  ·rename_i ys;exact⟨p,ys,rfl,.inr ⟨SqT.of e,q⟩⟩
  ·exact q.elim
 ·exact h.elim
def Ft(xs:List V)(H:Hp)(Q:VK):Prop:=match xs with
 | [.int i]=>Q (.int (if i < 0 then -i else i)) H
 | _=>False
theorem DS(i:Int)(H:Hp)(Q:VK):Ft [.int i] H Q=Q (.int (if i < 0 then -i else i)) H:=rfl
theorem ef:bE X (.builtin "abs") Ft:=by
 refine xQ.mono λ xs H Q h=>?_;unfold Ft at h;split at h
 ·rename_i i;exact⟨i,rfl,h⟩
 ·exact h.elim
def Fo(xs:List V)(H:Hp)(Q:VK):Prop:=match xs with
 | [.int i,.int j]=>Q (.int (if i < j then j else i)) H
 | _=>False
theorem DN(i j:Int)(H:Hp)(Q:VK):Fo [.int i,.int j] H Q=Q (.int (if i < j then j else i)) H:=rfl
theorem cC(hc:X.calm=true):bE X (.builtin "max") Fo:=by
 refine(uU hc).mono λ xs H Q h=>?_;unfold Fo at h;split at h
 ·rename_i i j;exact⟨i,j,rfl,h⟩
 ·exact h.elim
def Fn(xs:List V)(H:Hp)(Q:VK):Prop:=match xs with
 | [.int i,.int j]=>Q (.int (if j < i then j else i)) H
 | _=>False
theorem DM(i j:Int)(H:Hp)(Q:VK):Fn [.int i,.int j] H Q=Q (.int (if j < i then j else i)) H:=rfl
theorem fz(hc:X.calm=true):bE X (.builtin "min") Fn:=by
 refine(uT hc).mono λ xs H Q h=>?_;unfold Fn at h;split at h
 ·rename_i i j;exact⟨i,j,rfl,h⟩
 ·exact h.elim
def tyO:HO->Option String
 | .lst _=>some "list"
 | .tup _=>some "tuple"
 | .frz _ (.lst _)=>some "list"
 | .dK _=>some "dict"
 | .dT _=>some "dict"
 | _=>none
theorem zy(xs:List V):tyO (.lst xs)=some "list":=rfl
theorem zx(xs:List V):tyO (.tup xs)=some "tuple":=rfl
theorem CI(xs:List (Key × V)):tyO (.dK xs)=some "dict":=rfl
def tyN(H:Hp):V->Option String
 | .non=>some "NoneType"
 | .bl _=>some "bool"
 | .int _=>some "int"
 | .str _=>some "str"
 | .ref p=>(H p).bind tyO
 | _=>none
theorem zB(H:Hp):tyN H .non=some "NoneType":=rfl
theorem CK(H:Hp)(b:Bool):tyN H (.bl b)=some "bool":=rfl
theorem zC(H:Hp)(i:Int):tyN H (.int i)=some "int":=rfl
theorem zz(H:Hp)(x:Str):tyN H (.str x)=some "str":=rfl
theorem zA(H:Hp)(p:Addr):tyN H (.ref p)=(H p).bind tyO:=rfl
theorem CJ{K:W.Frag}{H:Hp}{x:V}{t:String}(h:tyN H x=some t):nY K H x (.type t):=by
 cases x with
 | non=>cases h;exact .non
 | bl b=>cases h;exact .bl b
 | int i=>cases h;exact .int i
 | str x=>cases h;exact .str x
 | ref p=>
  have h':(H p).bind tyO=some t:=h
  cases e:H p with
  | none=>rw [e] at h';cases h'
  | some o=>
   rw [e] at h';have h2:tyO o=some t:=h'
   cases o with
   | lst xs=>cases h2;exact .lst e
   | tup xs=>cases h2;exact .tup e
   | dK xs=>cases h2;exact .dK e
   | dT xs=>cases h2;exact .dT e
   | frz ob u=>
    cases u with
    | lst xs=>cases h2;exact .frz e
    | _=>cases h2
   | _=>cases h2
 | _=>cases h
def k6:List String:=["NoneType", "bool", "int", "str", "list", "tuple", "dict"]
def Ik(t n:String):Bool:=t == n || (t == "bool" && n == "int")
theorem xl(K:W.Frag):∀ t∈k6,∀ n∈k6,W.kitOne K (.type t) (.type n)=some (Ik t n):=by
 intro t ht n hn;unfold k6 at ht hn;simp only [mem_cons,not_mem_nil,or_false] at ht hn
 rcases ht with rfl|rfl|rfl|rfl|rfl|rfl|rfl<;>rcases hn with rfl|rfl|rfl|rfl|rfl|rfl|rfl<;>exact uC K _ _ _ (by decide +kernel)
def fj(n:String)(H:Hp)(Q:VK):String->Prop:=λ t=>t∈k6/\Q (.bl (Ik t n)) H
def qO(xs:List V)(H:Hp)(Q:VK):Prop:=match xs with
 | [x,.ty n]=>n∈k6/\aW (tyN H x) (fj n H Q)
 | _=>False
theorem bp:bE X (.builtin "isinstance") qO:=by
 refine xP.mono λ xs H Q h=>?_;unfold qO at h;split at h
 ·rename_i x n;obtain⟨hn,h⟩:=h;obtain⟨t,e,ht,q⟩:=ar h;exact⟨x,n,_,_,rfl,CJ e,xl _ t ht n hn,q⟩
 ·exact h.elim
theorem p5(x:V)(H:Hp)(Q:VK):qO [x,.ty "int"] H Q=aW (tyN H x) (fj "int" H Q):=by
 unfold qO;exact propext ⟨λ h=>h.2,λ h=>⟨by decide,h⟩⟩
theorem nF(x:V)(H:Hp)(Q:VK):qO [x,.ty "bool"] H Q=aW (tyN H x) (fj "bool" H Q):=by
 unfold qO;exact propext ⟨λ h=>h.2,λ h=>⟨by decide,h⟩⟩
theorem my(x:V)(H:Hp)(Q:VK):qO [x,.ty "tuple"] H Q=aW (tyN H x) (fj "tuple" H Q):=by
 unfold qO;exact propext ⟨λ h=>h.2,λ h=>⟨by decide,h⟩⟩
theorem nE(x:V)(H:Hp)(Q:VK):qO [x,.ty "list"] H Q=aW (tyN H x) (fj "list" H Q):=by
 unfold qO;exact propext ⟨λ h=>h.2,λ h=>⟨by decide,h⟩⟩
theorem p3(x:V)(H:Hp)(Q:VK):qO [x,.ty "str"] H Q=aW (tyN H x) (fj "str" H Q):=by
 unfold qO;exact propext ⟨λ h=>h.2,λ h=>⟨by decide,h⟩⟩
theorem ub(H:Hp)(Q:VK):fj "int" H Q "NoneType"=Q (.bl false) H:=propext ⟨λ h=>h.2,λ h=>⟨by decide,h⟩⟩
theorem tZ(H:Hp)(Q:VK):fj "str" H Q "NoneType"=Q (.bl false) H:=propext ⟨λ h=>h.2,λ h=>⟨by decide,h⟩⟩
theorem ua(H:Hp)(Q:VK):fj "list" H Q "NoneType"=Q (.bl false) H:=propext ⟨λ h=>h.2,λ h=>⟨by decide,h⟩⟩
theorem tY(H:Hp)(Q:VK):fj "tuple" H Q "NoneType"=Q (.bl false) H:=propext ⟨λ h=>h.2,λ h=>⟨by decide,h⟩⟩
theorem tX(H:Hp)(Q:VK):fj "bool" H Q "bool"=Q (.bl true) H:=propext ⟨λ h=>h.2,λ h=>⟨by decide,h⟩⟩
theorem tW(H:Hp)(Q:VK):fj "int" H Q "bool"=Q (.bl true) H:=propext ⟨λ h=>h.2,λ h=>⟨by decide,h⟩⟩
theorem tU(H:Hp)(Q:VK):fj "list" H Q "bool"=Q (.bl false) H:=propext ⟨λ h=>h.2,λ h=>⟨by decide,h⟩⟩
theorem tQ(H:Hp)(Q:VK):fj "bool" H Q "int"=Q (.bl false) H:=propext ⟨λ h=>h.2,λ h=>⟨by decide,h⟩⟩
theorem tP(H:Hp)(Q:VK):fj "int" H Q "int"=Q (.bl true) H:=propext ⟨λ h=>h.2,λ h=>⟨by decide,h⟩⟩
theorem tO(H:Hp)(Q:VK):fj "list" H Q "int"=Q (.bl false) H:=propext ⟨λ h=>h.2,λ h=>⟨by decide,h⟩⟩
theorem tN(H:Hp)(Q:VK):fj "tuple" H Q "int"=Q (.bl false) H:=propext ⟨λ h=>h.2,λ h=>⟨by decide,h⟩⟩
theorem tI(H:Hp)(Q:VK):fj "int" H Q "str"=Q (.bl false) H:=propext ⟨λ h=>h.2,λ h=>⟨by decide,h⟩⟩
theorem tG(H:Hp)(Q:VK):fj "str" H Q "str"=Q (.bl true) H:=propext ⟨λ h=>h.2,λ h=>⟨by decide,h⟩⟩
theorem tH(H:Hp)(Q:VK):fj "list" H Q "str"=Q (.bl false) H:=propext ⟨λ h=>h.2,λ h=>⟨by decide,h⟩⟩
theorem tF(H:Hp)(Q:VK):fj "tuple" H Q "str"=Q (.bl false) H:=propext ⟨λ h=>h.2,λ h=>⟨by decide,h⟩⟩
theorem tM(H:Hp)(Q:VK):fj "int" H Q "list"=Q (.bl false) H:=propext ⟨λ h=>h.2,λ h=>⟨by decide,h⟩⟩
theorem tK(H:Hp)(Q:VK):fj "list" H Q "list"=Q (.bl true) H:=propext ⟨λ h=>h.2,λ h=>⟨by decide,h⟩⟩
theorem tJ(H:Hp)(Q:VK):fj "tuple" H Q "list"=Q (.bl false) H:=propext ⟨λ h=>h.2,λ h=>⟨by decide,h⟩⟩
theorem tE(H:Hp)(Q:VK):fj "int" H Q "tuple"=Q (.bl false) H:=propext ⟨λ h=>h.2,λ h=>⟨by decide,h⟩⟩
theorem tD(H:Hp)(Q:VK):fj "list" H Q "tuple"=Q (.bl false) H:=propext ⟨λ h=>h.2,λ h=>⟨by decide,h⟩⟩
theorem tw(H:Hp)(Q:VK):fj "tuple" H Q "tuple"=Q (.bl true) H:=propext ⟨λ h=>h.2,λ h=>⟨by decide,h⟩⟩
theorem tS(H:Hp)(Q:VK):fj "int" H Q "dict"=Q (.bl false) H:=propext ⟨λ h=>h.2,λ h=>⟨by decide,h⟩⟩
theorem tR(H:Hp)(Q:VK):fj "list" H Q "dict"=Q (.bl false) H:=propext ⟨λ h=>h.2,λ h=>⟨by decide,h⟩⟩
def FQ(r:V->List V->Hp->VK->Prop)(x:V)(Q:VK):List V->Hp->Prop:=λ xs H=>r x xs H Q
theorem Et(r:V->List V->Hp->VK->Prop)(x:V)(Q:VK)(xs:List V)(H:Hp):FQ r x Q xs H=r x xs H Q:=rfl
def kBM(K:W.Frag)(T:String)(r:V->List V->Hp->VK->Prop)(t:TA)(σ:St)(Q:VK):VK:=λ x H=>tyV K T x H/\t σ H (FQ r x Q)
theorem G7(K:W.Frag)(T:String)(r:V->List V->Hp->VK->Prop)(t:TA)(σ:St)(Q:VK)(x:V)(H:Hp):kBM K T r t σ Q x H=(tyV K T x H/\t σ H (FQ r x Q)):=rfl
theorem GD(K:W.Frag)(T:String)(r:V->List V->Hp->VK->Prop)(to:TE)(t:TA)(σ:St)(H:Hp)(Q:VK):tBM K T r to t σ H Q=to σ H (kBM K T r t σ Q):=rfl
def Ie(K:W.Frag)(T:String)(r:V->List V->Hp->VK->Prop)(Q:VK):VK:=λ x H=>tyV K T x H/\r x [] H Q
theorem Es(K:W.Frag)(T:String)(r:V->List V->Hp->VK->Prop)(Q:VK)(x:V)(H:Hp):Ie K T r Q x H=(tyV K T x H/\r x [] H Q):=rfl
theorem DF(K:W.Frag)(T:String)(r:V->List V->Hp->VK->Prop)(to:TE)(σ:St)(H:Hp)(Q:VK):HA K T r to σ H Q=to σ H (Ie K T r Q):=rfl
theorem vL(K:W.Frag)(p:Addr)(H:Hp)(h:(aY H p).isSome=true):tyV K "list" (.ref p) H=True:=by
 cases e:aY H p with
 | none=>rw [e] at h;cases h
 | some ys=>exact eq_true (.inl ⟨rfl,ys,SqL.of (dH e)⟩)
def Ih(l:Addr)(y:V)(H:Hp)(Q:VK):List V->Prop:=λ xs=>xs.length < sizeLine/\Q .non (upd H l (.lst (xs++[y])))
theorem Ey(l:Addr)(y:V)(H:Hp)(Q:VK)(xs:List V):Ih l y H Q xs=(xs.length < sizeLine/\Q .non (upd H l (.lst (xs++[y])))):=rfl
theorem tm(l:Addr)(y:V)(H:Hp)(Q:VK):r6 (.ref l) [y] H Q=aW (aY H l) (Ih l y H Q):=by
 refine propext ⟨λ h=>?_,λ h=>?_⟩
 ·obtain⟨_,xs,_,e1,e2,e3,a,b⟩:=h;cases e1;cases e2;have e:aY H l=some xs:=by unfold aY;rw [e3];rfl
  rw [e];exact⟨a,b⟩
 ·obtain⟨xs,e,a,b⟩:=ar h;exact⟨l,xs,y,rfl,rfl,dH e,a,b⟩
def HR(l:Addr)(H:Hp)(Q:VK):List V->Prop:=λ xs=>Q .non (upd H l (.lst xs.reverse))
theorem D6(l:Addr)(H:Hp)(Q:VK)(xs:List V):HR l H Q xs=Q .non (upd H l (.lst xs.reverse)):=rfl
theorem pY(l:Addr)(H:Hp)(Q:VK):oK (.ref l) [] H Q=aW (aY H l) (HR l H Q):=by
 refine propext ⟨λ h=>?_,λ h=>?_⟩
 ·obtain⟨_,xs,e1,_,e3,b⟩:=h;cases e1;have e:aY H l=some xs:=by unfold aY;rw [e3];rfl
  rw [e];exact b
 ·obtain⟨xs,e,b⟩:=ar h;exact⟨l,xs,rfl,rfl,dH e,b⟩
def y7(l:Addr)(H:Hp)(Q:VK)(xs:List V):V->Prop:=λ y=>Q y (upd H l (.lst xs.dropLast))
theorem AU(l:Addr)(H:Hp)(Q:VK)(xs:List V)(y:V):y7 l H Q xs y=Q y (upd H l (.lst xs.dropLast)):=rfl
def HS(l:Addr)(H:Hp)(Q:VK):List V->Prop:=λ xs=>aW (xs[xs.length - 1]?) (y7 l H Q xs)
theorem D7(l:Addr)(H:Hp)(Q:VK)(xs:List V):HS l H Q xs=aW (xs[xs.length - 1]?) (y7 l H Q xs):=rfl
theorem DI(l:Addr)(H:Hp)(Q:VK):HC (.ref l) [] H Q=aW (aY H l) (HS l H Q):=by
 refine propext ⟨λ h=>?_,λ h=>?_⟩
 ·obtain⟨_,xs,y,e1,_,e3,e4,b⟩:=h;cases e1;have e:aY H l=some xs:=by unfold aY;rw [e3];rfl
  rw [e]
  show aW (xs[xs.length - 1]?) _
  rw [e4];exact b
 ·obtain⟨xs,e,b⟩:=ar h;obtain⟨y,e4,b⟩:=ar b;exact⟨l,xs,y,rfl,rfl,dH e,e4,b⟩
def Hf(xs:List V)(H:Hp)(Q:VK):List V->Prop:=λ ys=>xs.length+ys.length<=sizeLine/\∀ p,H p=none->Q (.ref p) (upd H p (.lst (xs++ys)))
def Hg(b:Addr)(H:Hp)(Q:VK):List V->Prop:=λ xs=>aW (aY H b) (Hf xs H Q)
theorem DJ(l b:Addr)(H:Hp)(Q:VK):HD (.ref l) (.ref b) H Q=aW (aY H l) (Hg b H Q):=by
 refine propext ⟨λ h=>?_,λ h=>?_⟩
 ·obtain⟨l',b',xs,zs,e1,e2,e3,e4,hz,hq⟩:=h;cases e1;cases e2;have e:aY H l=some xs:=by unfold aY;rw [e3];rfl
  have e':aY H b=some zs:=by unfold aY;rw [e4];rfl
  rw [e]
  show aW (aY H b) _
  rw [e'];exact⟨hz,hq⟩
 ·obtain⟨xs,e,q⟩:=ar h;obtain⟨zs,e',a,q⟩:=ar q;exact⟨l,b,xs,zs,rfl,rfl,dH e,dH e',a,q⟩
def y6(p:Addr)(xs:List V)(v:V)(H:Hp)(Q:Hp->Prop):Nat->Prop:=λ j=>Q (upd H p (.lst (xs.set j v)))
theorem AR(p:Addr)(xs:List V)(v:V)(H:Hp)(Q:Hp->Prop)(j:Nat):y6 p xs v H Q j=Q (upd H p (.lst (xs.set j v))):=rfl
def HQ(p:Addr)(i:Int)(v:V)(H:Hp)(Q:Hp->Prop):List V->Prop:=λ xs=>aW (ixN xs.length i) (y6 p xs v H Q)
theorem D4(p:Addr)(i:Int)(v:V)(H:Hp)(Q:Hp->Prop)(xs:List V):HQ p i v H Q xs=aW (ixN xs.length i) (y6 p xs v H Q):=rfl
theorem Aw(p:Addr)(i:Int)(v:V)(H:Hp)(Q:Hp->Prop):Ca (.ref p) (.int i) v H Q=aW (aY H p) (HQ p i v H Q):=by
 refine propext ⟨λ h=>?_,λ h=>?_⟩
 ·obtain⟨_,xs,_,j,e1,e2,e3,e4,b⟩:=h;cases e1;cases e2;have e:aY H p=some xs:=by unfold aY;rw [e3];rfl
  rw [e]
  show aW (ixN xs.length i) _
  rw [e4];exact b
 ·obtain⟨xs,e,q⟩:=ar h;obtain⟨j,e4,q⟩:=ar q;exact⟨p,xs,i,j,rfl,rfl,dH e,e4,q⟩
def rR(t:xZ)(o v:V)(σ:St)(Q:St->Hp->Prop):VK:=λ i H=>t o i v H λ H3=>Q σ H3
theorem wO(t:xZ)(o v:V)(σ:St)(Q:St->Hp->Prop)(i:V)(H:Hp):rR t o v σ Q i H=t o i v H (Q σ):=rfl
def yx(ti:TE)(t:xZ)(v:V)(σ:St)(Q:St->Hp->Prop):VK:=λ o H=>ti σ H (rR t o v σ Q)
theorem wQ(ti:TE)(t:xZ)(v:V)(σ:St)(Q:St->Hp->Prop)(o:V)(H:Hp):yx ti t v σ Q o H=ti σ H (rR t o v σ Q):=rfl
theorem EC(to ti:TE)(t:xZ)(v:V)(σ:St)(H:Hp)(Q:St->Hp->Prop):Ip to ti t v σ H Q=to σ H (yx ti t v σ Q):=rfl
def kGT(n:Nat)(t:TGs)(σ:St)(H:Hp)(Q:St->Hp->Prop):List V->Prop:=λ xs=>xs.length=n/\t xs σ H Q
theorem GW(n:Nat)(t:TGs)(σ:St)(H:Hp)(Q:St->Hp->Prop)(xs:List V):kGT n t σ H Q xs=(xs.length=n/\t xs σ H Q):=rfl
def qGT(n:Nat)(t:TGs):TG:=λ v σ H Q=>match v with
 | .ref a=>aW (gF H a) (kGT n t σ H Q)
 | _=>False
theorem GG(n:Nat)(t:TGs)(a:Addr)(σ:St)(H:Hp)(Q:St->Hp->Prop):qGT n t (.ref a) σ H Q=aW (gF H a) (kGT n t σ H Q):=rfl
theorem bN{K:W.Frag}{n:Nat}{t:TGs}{v:V}{σ:St}{H:Hp}{Q:St->Hp->Prop}(h:qGT n t v σ H Q):Io K n t v σ H Q:=by
 unfold qGT at h;split at h
 ·rename_i a;obtain⟨xs,e,hl,q⟩:=ar h;exact⟨a,xs,rfl,SqT.of (oa e),hl,q⟩
 ·exact h.elim
theorem De:OpR X (compareOp .Is) Fl:=Dh
def zd(tb:TS)(D:fk):St->Hp->Prop:=λ σ H=>tb D σ H
theorem aQ(tb:TS)(D:fk)(σ:St)(H:Hp):zd tb D σ H=tb D σ H:=rfl
def FG(g:TG)(tb:TS)(D:fk)(σ:St)(J:It)(H1:Hp):Prop:=∃ W:Nat->Nat->St->Hp->Prop,(∃ m,W 0 m σ H1)/\∀ i m σ H,W i m σ H →
 (J.stop i H/\D.nx σ H)\/(J.go i H/\∃ N:St->Hp->Prop,(∀ σ' H',N σ' H'->∃ m',m' < m/\W (i+1) m' σ' H')/\∀ x H',J.yld i H x H'->g x σ H' λ σ2 H2=>tb { D with nx:=N,ct:=N,bk:=D.nx } σ2 H2)
theorem DD(wi:TI)(g:TG)(tb:TS)(D:fk)(σ:St)(H:Hp):Hy wi g tb D σ H=wi σ H (FG g tb D σ):=rfl
def kR1(R:It->Hp->Prop):List V->Hp->Prop:=λ vs H=>∃ j:Int,vs=[.int j]/\-(2 ^ 62)<=j/\j < 2 ^ 62/\R (Itr 0 j.toNat) H
theorem GN(R:It->Hp->Prop)(j:Int)(H:Hp):kR1 R [.int j] H=(-(2 ^ 62)<=j/\j < 2 ^ 62/\R (Itr 0 j.toNat) H):=propext ⟨λ ⟨_,e,q⟩=>by cases e;exact q,λ q=>⟨j,rfl,q⟩⟩
theorem Bc(ta:TA)(σ:St)(H:Hp)(R:It->Hp->Prop):Cw ta σ H R=ta σ H (kR1 R):=rfl
def qZ(K:W.Frag)(a:Addr)(H:Hp)(R:It->Hp->Prop):HO->Prop:=λ o=>match o with
 | .lst _=>R (Itl K a) H
 | .frz _ (.lst _)=>R (Itl K a) H
 | .tup _=>R (Itt K a) H
 | _=>False
theorem ud(K:W.Frag)(a:Addr)(H:Hp)(R:It->Hp->Prop)(xs:List V):qZ K a H R (.lst xs)=R (Itl K a) H:=rfl
theorem uc(K:W.Frag)(a:Addr)(H:Hp)(R:It->Hp->Prop)(xs:List V):qZ K a H R (.tup xs)=R (Itt K a) H:=rfl
def E8(K:W.Frag)(R:It->Hp->Prop):VK:=λ x H=>match x with
 | .ref a=>aW (H a) (qZ K a H R)
 | _=>False
theorem Eh(K:W.Frag)(R:It->Hp->Prop)(a:Addr)(H:Hp):E8 K R (.ref a) H=aW (H a) (qZ K a H R):=rfl
def FU(K:W.Frag)(tl:TE):TI:=λ σ H R=>tl σ H (E8 K R)
theorem EB(K:W.Frag)(tl:TE)(σ:St)(H:Hp)(R:It->Hp->Prop):FU K tl σ H R=tl σ H (E8 K R):=rfl
theorem yk{tg l:Expr}{tl:TE}(hl:PE X l tl):PI X tg l (FU X.K tl):=by
 intro pins s σ H R I h;refine thn (hl pins s σ H _ I h) λ v s1 ⟨x,H1,I1,r1,q1⟩=>?_;unfold E8 at q1;split at q1
 ·rename_i a;cases r1;obtain⟨o,e,q⟩:=ar q1
  have fp:∀ b∈[s1.heap.objs.size],mJ X pins H1 b:=λ b hb=>by
   have e:b=s1.heap.objs.size:=by simpa using hb
   subst e;exact I1.fpOk (JB _) (I1.hok.fresh (JB _))
  have lst:∀ xs,SqL X.K H1 a xs->R (Itl X.K a) H1->wpAny (model X.prog X.w) X.A (pyIter (.ref a)) (PIE X pins σ tg R) X.xe s1:=λ xs hq q=>by
   obtain⟨its,rv,p,hz⟩:=I1.list hq;refine LX p.isList ?_;exact⟨s1.heap.objs.size,[s1.heap.objs.size],_,_,H1,rfl,I1.kept (t':=s1.toks) λ b o e=>Jz _ e,sQ a _,⟨_,JK _ rfl,rfl,rfl⟩,fp,q⟩
  unfold qZ at q;split at q
  ·exact lst _ (SqL.of e) q
  ·exact lst _ (.inl (.inr ⟨_,e⟩)) q
  ·obtain⟨its,rv,p,hz⟩:=I1.tuple (SqT.of e);refine wpAny_pyIter_tuple (show s1.heap.IsTuple a its.toArray from p) ?_;exact⟨s1.heap.objs.size,[s1.heap.objs.size],_,_,H1,rfl,I1.kept (t':=s1.toks) λ b o e=>Jz _ e,pM a _,⟨_,JK _ rfl,rfl,rfl⟩,fp,q⟩
  ·exact q.elim
 ·exact q1.elim
theorem jH{lo:Int}{n:Nat}{g:TG}{tb:TS}{nx:St->Hp->Prop}{rt:VK}{bk ct:St->Hp->Prop}{σ:St}{H:Hp}(Pv:Nat->St->Hp->Prop)(h0:Pv 0 σ H)
  (hs:∀ i σ H,i < n->Pv i σ H->g (.int (lo+i)) σ H (zd tb ⟨Pv (i+1),rt,nx,Pv (i+1)⟩)) (hd:∀ σ H,Pv n σ H->nx σ H):FG g tb ⟨nx,rt,bk,ct⟩ σ (Itr lo n) H:=uK Pv h0 hs hd
theorem eS{K:W.Frag}{a:Addr}{xs:List V}{g:TG}{tb:TS}{nx:St->Hp->Prop}{rt:VK}{bk ct:St->Hp->Prop}{σ:St}{H:Hp}(Pv:Nat->St->Hp->Prop)(h0:Pv 0 σ H)(hl:∀ i σ H,i<=xs.length->Pv i σ H->H a=some (.lst xs))
  (hs:∀ i x σ H,xs[i]? = some x->Pv i σ H->g x σ H (zd tb ⟨Pv (i+1),rt,nx,Pv (i+1)⟩)) (hd:∀ σ H,Pv xs.length σ H->nx σ H):FG g tb ⟨nx,rt,bk,ct⟩ σ (Itl K a) H:=xA (xs:=xs) Pv h0 (λ i σ H hi p=>SqL.of (hl i σ H hi p)) hs hd
def kWh(tb:TS)(nx:St->Hp->Prop)(rt:VK)(Pv:Nat->St->Hp->Prop)(m:Nat)(σ:St):Bool->Hp->Prop:=λ b H=>if b=true then tb ⟨λ σ' H'=>∃ m',m' < m/\Pv m' σ' H',rt,nx,λ σ' H'=>∃ m',m' < m/\Pv m' σ' H'⟩ σ H else nx σ H
theorem GK(tb:TS)(nx:St->Hp->Prop)(rt:VK)(Pv:Nat->St->Hp->Prop)(m:Nat)(σ:St)(b:Bool)(H:Hp):kWh tb nx rt Pv m σ b H=(if b=true then tb ⟨λ σ' H'=>∃ m',m' < m/\Pv m' σ' H',rt,nx,λ σ' H'=>∃ m',m' < m/\Pv m' σ' H'⟩ σ H else nx σ H):=rfl
theorem zu{c:TT}{tb:TS}{nx:St->Hp->Prop}{rt:VK}{bk ct:St->Hp->Prop}{σ:St}{H:Hp}(Pv:Nat->St->Hp->Prop)(m0:Nat)(h0:Pv m0 σ H)
  (mono:∀ σ H Q Q',(∀ b H1,Q b H1->Q' b H1)->c σ H Q->c σ H Q')
  (hs:∀ m σ H,Pv m σ H->c σ H (kWh tb nx rt Pv m σ)):rm c tb ⟨nx,rt,bk,ct⟩ σ H:=by
 refine⟨Pv,⟨m0,h0⟩,λ m σ H p=>mono σ H _ _ (λ b H1 q=>?_) (hs m σ H p)⟩;unfold kWh at q
 cases b with
 | true=>exact⟨_,λ σ' H' z=>z,q⟩
 | false=>exact q
end
theorem wH(sp:Sp)(dvs:List V)(E:St->XK)(t:TA)(σ:St)(H:Hp)(Q:VK):ye sp dvs E t σ H Q=t σ H (mP sp dvs (E σ) Q):=rfl
def HM(th:Value->Option Addr->TS)(D:fk):St->XK:=λ σ cls d H=>th cls d D σ H
theorem DY(th:Value->Option Addr->TS)(D:fk)(σ:St)(cls:Value)(d:Option Addr)(H:Hp):HM th D σ cls d H=th cls d D σ H:=rfl
theorem Dx(tb:(St->XK)->TS)(th:Value->Option Addr->TS)(D:fk)(σ:St)(H:Hp):Hs tb th D σ H=tb (HM th D) D σ H:=rfl
def yw(C:Addr)(E:XK):List V->Hp->Prop:=λ vs H=>vs.length<=sizeLine/\E (.ref C) none H
theorem wM(C:Addr)(E:XK)(vs:List V)(H:Hp):yw C E vs H=(vs.length<=sizeLine/\E (.ref C) none H):=rfl
theorem wD(C:Addr)(E:St->XK)(t:TA)(D:fk)(σ:St)(H:Hp):ya C E t D σ H=t σ H (yw C (E σ)):=rfl
def yY(i:Nat)(tb:TS)(D:fk):St->Hp->Prop:=λ σ H=>tb D σ H
theorem AM(i:Nat)(tb:TS)(D:fk)(σ:St)(H:Hp):yY i tb D σ H=tb D σ H:=rfl
def yy(i:Nat)(tb:TS)(tr:Value->Option Addr->TS)(cls:Value)(d:Option Addr)(D:fk)(σ:St)(H:Hp):Bool->Prop:=λ b=>if b=true then ∀ (e:Addr) (oe:Obj),H e=none->oe.cls=cls->oe.dict=d->(∃ vs,oe.data=.fields vs)->cZ i (.ref e) σ (upd H e (vf oe)) (yY i tb (D.del i)) else tr cls d D σ H
theorem wR(i:Nat)(tb:TS)(tr:Value->Option Addr->TS)(cls:Value)(d:Option Addr)(D:fk)(σ:St)(H:Hp)(b:Bool):yy i tb tr cls d D σ H b=(if b=true then ∀ (e:Addr) (oe:Obj),H e=none->oe.cls=cls->oe.dict=d->(∃ vs,oe.data=.fields vs)->cZ i (.ref e) σ (upd H e (vf oe)) (yY i tb (D.del i)) else tr cls d D σ H):=rfl
theorem wF(K:W.Frag)(C:Value)(i:Nat)(tb:TS)(tr:Value->Option Addr->TS)(cls:Value)(d:Option Addr)(D:fk)(σ:St)(H:Hp):yb K C i tb tr cls d D σ H=aW (W.exmOne K cls C) (yy i tb tr cls d D σ H):=by
 refine propext ⟨λ ⟨b,e,h⟩=>?_,λ h=>?_⟩
 ·rw [e];exact h
 ·obtain⟨b,e,h⟩:=ar h;exact⟨b,e,h⟩
theorem G8(i:Nat)(nx:St->Hp->Prop)(rt:VK)(bk ct:St->Hp->Prop):fk.del i ⟨nx,rt,bk,ct⟩=⟨BI i nx,rt,BI i bk,BI i ct⟩:=rfl
theorem mz(H:Hp):vH H none=True:=rfl
def Fj:Value->Option Addr
 | .ref C=>some C
 | _=>none
theorem vT(C:Addr):Fj (.ref C)=some C:=rfl
def Fc:V->Option Value
 | .ref C=>some (.ref C)
 | .ty n=>some (.type n)
 | _=>none
theorem xO(C:Addr):Fc (.ref C)=some (.ref C):=rfl
theorem Bz(n:String):Fc (.ty n)=some (.type n):=rfl
def kE4(H:Hp)(Q:VK):Bool->Prop:=λ b=>Q (.bl b) H
theorem yV(H:Hp)(Q:VK)(b:Bool):kE4 H Q b=Q (.bl b) H:=rfl
def kE3(K:W.Frag)(C:Addr)(H:Hp)(Q:VK):Value->Prop:=λ u=>aW (W.kitOne K (.ref C) u) (kE4 H Q)
theorem GX(K:W.Frag)(C:Addr)(H:Hp)(Q:VK)(u:Value):kE3 K C H Q u=aW (W.kitOne K (.ref C) u) (kE4 H Q):=rfl
def kE2(K:W.Frag)(oe:Obj)(D:V)(H:Hp)(Q:VK):Addr->Prop:=λ C=>vH H oe.dict/\(∃ vs,oe.data=.fields vs)/\vk K C/\aW (Fc D) (kE3 K C H Q)
theorem GY(K:W.Frag)(oe:Obj)(D:V)(H:Hp)(Q:VK)(C:Addr):kE2 K oe D H Q C=(vH H oe.dict/\(∃ vs,oe.data=.fields vs)/\vk K C/\aW (Fc D) (kE3 K C H Q)):=rfl
def kE1(K:W.Frag)(D:V)(H:Hp)(Q:VK):HO->Prop:=λ o=>match o with
 | .frz oe (.ext _)=>aW (Fj oe.cls) (kE2 K oe D H Q)
 | _=>False
theorem GZ(K:W.Frag)(D:V)(H:Hp)(Q:VK)(oe:Obj):kE1 K D H Q (vf oe)=aW (Fj oe.cls) (kE2 K oe D H Q):=rfl
def E2(K:W.Frag)(xs:List V)(H:Hp)(Q:VK):Prop:=match xs with
 | [.ref e,D]=>aW (H e) (kE1 K D H Q)
 | _=>False
theorem DQ(K:W.Frag)(e:Addr)(D:V)(H:Hp)(Q:VK):E2 K [.ref e,D] H Q=aW (H e) (kE1 K D H Q):=rfl
theorem uR{X:Cx}:bE X (.builtin "isinstance") (E2 X.K):=by
 refine uV.mono λ xs H Q h=>?_;unfold E2 at h;split at h
 ·rename_i e D;obtain⟨o,h1,h⟩:=ar h;unfold kE1 at h;split at h
  ·rename_i oe φ;obtain⟨C,h2,h⟩:=ar h;obtain⟨h3,h4,h5,h⟩:=h;obtain⟨u,h6,h⟩:=ar h;obtain⟨b,h7,h⟩:=ar h
   have hc:oe.cls=.ref C:=by
    cases q:oe.cls with
    | ref C'=>rw [q] at h2;cases h2;rfl
    | _=>rw [q] at h2;cases h2
   refine⟨e,oe,C,D,b,rfl,⟨_,h1⟩,hc,h3,h4,h5,⟨u,?_,h7⟩,h⟩
   cases D with
   | ref a=>cases h6;rfl
   | ty n=>cases h6;rfl
   | _=>cases h6
  ·exact h.elim
 ·exact h.elim
def kC3(D:Addr)(ys:List V)(N:List V->Hp->Prop):VK:=λ y H=>H D=some (.lst ys)/\ys.length < sizeLine/\N (ys++[y]) (upd H D (.lst (ys++[y])))
def kC2(te:TE)(σ2:St)(D:Addr)(ys:List V)(N:List V->Hp->Prop):Bool->Hp->Prop:=λ b H=>if b=true then te σ2 H (kC3 D ys N) else N ys H
def kC1(k:Nat)(tt:TT)(te:TE)(σ:St)(D:Addr)(ys:List V)(N:List V->Hp->Prop):St->Hp->Prop:=λ σ2 H=>(∃ vs:St,vs.length=k/\σ2=vs++σ)/\tt σ2 H (kC2 te σ2 D ys N)
theorem Dl(σ:St)(H:Hp)(Q:Bool->Hp->Prop):Hr σ H Q=Q true H:=rfl
def vC(k:Nat)(g:TG)(tt:TT)(te:TE)(σ:St)(Q:VK):It->Hp->Prop:=λ J H1=>∀ D,H1 D=none->∃ W:Nat->Nat->List V->Hp->Prop,(∃ m,W 0 m [] (upd H1 D (.lst [])))/\∀ i m ys H,W i m ys H →
 (J.stop i H/\Q (.ref D) H)\/(J.go i H/\∃ N:List V->Hp->Prop,(∀ ys' H',N ys' H'->∃ m',m' < m/\W (i+1) m' ys' H') /\
  ∀ x H',J.yld i H x H'->g x (List.replicate k none++σ) H' (kC1 k tt te σ D ys N))
theorem Ap(k:Nat)(wi:TI)(g:TG)(tt:TT)(te:TE)(σ:St)(H:Hp)(Q:VK):yN k wi g tt te σ H Q=wi σ H (vC k g tt te σ Q):=rfl
def Cr(i:Nat)(σ:St)(nx:St->Hp->Prop):VK:=λ x H=>cZ i x σ H nx
theorem AN(i:Nat)(σ:St)(nx:St->Hp->Prop)(x:V)(H:Hp):Cr i σ nx x H=cZ i x σ H nx:=rfl
theorem Ai(i:Nat)(te:TE)(nx:St->Hp->Prop)(rt:VK)(bk ct:St->Hp->Prop)(σ:St)(H:Hp):B0 i te ⟨nx,rt,bk,ct⟩ σ H=te σ H (Cr i σ nx):=rfl
section
variable {k:Nat}{g:TG}{tt:TT}{te:TE}{σ:St}{Q:VK}{H:Hp}{K:PySem.W.Frag}
end
def aI{α:Type}:List (Option α)->Option (List α)
 | []=>some []
 | o::r=>o.bind λ x=>(aI r).map λ xs=>x::xs
def vg(f:V->Option PyData):HO->Option PyData
 | .lst xs=>(aI (xs.map f)).map .list
 | .tup xs=>(aI (xs.map f)).map .tuple
 | _=>none
def bc(H:Hp)(f:V->Option PyData):V->Option PyData
 | .non=>some .none
 | .bl b=>some (.bool b)
 | .int i=>some (.int i)
 | .str z=>if PyData.strOk z=true then some (.str z) else none
 | .ref p=>(H p).bind (vg f)
 | _=>none
def iS(H:Hp):Nat->V->Option PyData
 | 0,_=>none
 | n+1,x=>bc H (iS H n) x
def noD:V->Option PyData:=λ _=>none
theorem ED(H:Hp)(x:V):iS H 6 x=bc H (bc H (bc H (bc H (bc H (bc H noD))))) x:=rfl
theorem p8(H:Hp)(n:Nat)(z:Str):iS H (n+1) (.str z)=if PyData.strOk z=true then some (.str z) else none:=rfl
theorem p9(H:Hp)(n:Nat)(p:Addr):iS H (n+1) (.ref p)=(H p).bind (vg (iS H n)):=rfl
theorem qa(H:Hp)(f:V->Option PyData):bc H f .non=some .none:=rfl
theorem qb(H:Hp)(f:V->Option PyData)(i:Int):bc H f (.int i)=some (.int i):=rfl
theorem fS(H:Hp)(f:V->Option PyData)(z:Str):bc H f (.str z)=if PyData.strOk z=true then some (.str z) else none:=rfl
theorem cw(H:Hp)(f:V->Option PyData)(p:Addr):bc H f (.ref p)=(H p).bind (vg f):=rfl
theorem eI(f:V->Option PyData)(xs:List V):vg f (.lst xs)=(aI (xs.map f)).map .list:=rfl
theorem eG(f:V->Option PyData)(xs:List V):vg f (.tup xs)=(aI (xs.map f)).map .tuple:=rfl
theorem kH{α:Type}:aI ([]:List (Option α))=some []:=rfl
theorem cc{α:Type}(x:α)(r:List (Option α)):aI (some x::r)=(aI r).map λ xs=>x::xs:=rfl
theorem er(H:Hp)(f:V->Option PyData):∀ ns:List Int,aI ((ns.map V.int).map (bc H f))=some (ns.map PyData.int)
 | []=>rfl
 | i::r=>by
  show (aI ((r.map V.int).map (bc H f))).map _=_
  rw [er H f r];rfl
theorem j7{K:W.Frag}{H:Hp}{n:Nat}(ih:∀ x d,iS H n x=some d->jv K H x d/\d.canLay0=true/\d.depth<=n):∀ (xs:List V) (ds:List PyData),aI (xs.map (iS H n))=some ds->gG K H xs ds/\PyData.canLayAll0 ds=true/\PyData.depthAll ds<=n
 | [],ds,h=>by cases h;exact⟨.nil,rfl,Kw _⟩
 | x::xs,ds,h=>by
  have h':(iS H n x).bind (λ d=>(aI (xs.map (iS H n))).map λ ds=>d::ds)=some ds:=h
  cases e:iS H n x with
  | none=>rw [e] at h';cases h'
  | some d=>
   rw [e] at h';have h2:(aI (xs.map (iS H n))).map (λ ds=>d::ds)=some ds:=h'
   cases e2:aI (xs.map (iS H n)) with
   | none=>rw [e2] at h2;cases h2
   | some es=>
    rw [e2] at h2;cases h2;obtain⟨a,b,c⟩:=ih x d e;obtain⟨a',b',c'⟩:=j7 ih xs es e2;exact⟨.cons a a',by simp [PyData.canLayAll0,b,b'],by simp only [PyData.depthAll];omega⟩
theorem nt{K:W.Frag}{H:Hp}:∀ (n:Nat) (x:V) (d:PyData),iS H n x=some d->jv K H x d/\d.canLay0=true/\d.depth<=n
 | 0,x,d,h=>by cases h
 | n+1,x,d,h=>by
  cases x with
  | non=>cases h;exact⟨.non,rfl,Kw _⟩
  | bl b=>cases h;exact⟨.bl b,rfl,Kw _⟩
  | int i=>cases h;exact⟨.int i,rfl,Kw _⟩
  | str z=>
   rw [p8] at h;split at h
   ·rename_i hz;cases h;exact⟨.str z,by simpa [PyData.canLay0] using hz,Kw _⟩
   ·cases h
  | ref p=>
   rw [p9] at h
   cases e:H p with
   | none=>rw [e] at h;cases h
   | some o=>
    rw [e] at h;have h':vg (iS H n) o=some d:=h
    cases o with
    | lst xs=>
     rw [eI] at h'
     cases e2:aI (xs.map (iS H n)) with
     | none=>rw [e2] at h';cases h'
     | some ds=>
      rw [e2] at h';cases h';obtain⟨a,b,c⟩:=j7 (K:=K) (nt n) xs ds e2;exact⟨.lst (SqL.of e) a,by simpa [PyData.canLay0] using b,by simp only [PyData.depth];omega⟩
    | tup xs=>
     rw [eG] at h'
     cases e2:aI (xs.map (iS H n)) with
     | none=>rw [e2] at h';cases h'
     | some ds=>
      rw [e2] at h';cases h';obtain⟨a,b,c⟩:=j7 (K:=K) (nt n) xs ds e2;exact⟨.tup (SqT.of e) a,by simpa [PyData.canLay0] using b,by simp only [PyData.depth];omega⟩
    | _=>cases h'
  | _=>cases h
theorem dw{K:W.Frag}{H:Hp}{n:Nat}{x:V}{d:PyData}(hn:n<=64)(h:iS H n x=some d):jv K H x d/\SeqAt.shaped d=true:=by
 obtain⟨a,b,c⟩:=nt (K:=K) n x d h;refine⟨a,?_⟩;unfold SeqAt.shaped;rw [b,decide_eq_true (show d.depth<=64 by omega)];rfl
def E9(neg:Bool)(H:Hp)(Q:VK)(d:PyData):PyData->Prop:=λ e=>Q (.bl (if neg=true then !PyData.eqv d e else PyData.eqv d e)) H
theorem wU(H:Hp)(Q:VK)(d e:PyData):E9 true H Q d e=Q (.bl (!PyData.eqv d e)) H:=rfl
theorem wV(H:Hp)(Q:VK)(d e:PyData):E9 false H Q d e=Q (.bl (PyData.eqv d e)) H:=rfl
def FH(neg:Bool)(y:V)(H:Hp)(Q:VK):PyData->Prop:=λ d=>aW (iS H 6 y) (E9 neg H Q d)
theorem Ek(neg:Bool)(y:V)(H:Hp)(Q:VK)(d:PyData):FH neg y H Q d=aW (iS H 6 y) (E9 neg H Q d):=rfl
def qEq(neg:Bool):R2:=λ x y H Q=>if BN x y=true then Q (.bl (if neg=true then !decide (x=y) else decide (x=y))) H else aW (iS H 6 x) (FH neg y H Q)
theorem p6(neg:Bool)(p:Addr)(x:V)(H:Hp)(Q:VK):qEq neg x (.ref p) H Q=aW (iS H 6 x) (FH neg (.ref p) H Q):=by
 show (if BN x (.ref p)=true then _ else _)=_
 rw [JL (by cases x<;>exact JO)]
theorem kF(j:Str)(H:Hp)(Q:VK):qEq false V.non (V.str j) H Q=Q (.bl (false)) H:=by
 have e:decide ((V.non:V)=(V.str j))=false:=by simp
 show Q (.bl (if false=true then !decide (V.non=(V.str j)) else decide (V.non=(V.str j)))) H=_
 rw [e];rfl
theorem ky(j:Str)(H:Hp)(Q:VK):qEq true V.non (V.str j) H Q=Q (.bl (!false)) H:=by
 have e:decide ((V.non:V)=(V.str j))=false:=by simp
 show Q (.bl (if true=true then !decide (V.non=(V.str j)) else decide (V.non=(V.str j)))) H=_
 rw [e];rfl
theorem kG(i:Int)(j:Int)(H:Hp)(Q:VK):qEq false (V.int i) (V.int j) H Q=Q (.bl (decide (i=j))) H:=by
 have e:decide (((V.int i):V)=(V.int j))=decide (i=j):=by simp
 show Q (.bl (if false=true then !decide ((V.int i)=(V.int j)) else decide ((V.int i)=(V.int j)))) H=_
 rw [e];rfl
theorem kC(i:Int)(j:Int)(H:Hp)(Q:VK):qEq true (V.int i) (V.int j) H Q=Q (.bl (!decide (i=j))) H:=by
 have e:decide (((V.int i):V)=(V.int j))=decide (i=j):=by simp
 show Q (.bl (if true=true then !decide ((V.int i)=(V.int j)) else decide ((V.int i)=(V.int j)))) H=_
 rw [e];rfl
theorem nG(i:Bool)(j:Bool)(H:Hp)(Q:VK):qEq false (V.bl i) (V.bl j) H Q=Q (.bl (decide (i=j))) H:=by
 have e:decide (((V.bl i):V)=(V.bl j))=decide (i=j):=by simp
 show Q (.bl (if false=true then !decide ((V.bl i)=(V.bl j)) else decide ((V.bl i)=(V.bl j)))) H=_
 rw [e];rfl
theorem kD(i:Str)(j:Str)(H:Hp)(Q:VK):qEq false (V.str i) (V.str j) H Q=Q (.bl (decide (i=j))) H:=by
 have e:decide (((V.str i):V)=(V.str j))=decide (i=j):=by simp
 show Q (.bl (if false=true then !decide ((V.str i)=(V.str j)) else decide ((V.str i)=(V.str j)))) H=_
 rw [e];rfl
theorem ku(i:Str)(j:Str)(H:Hp)(Q:VK):qEq true (V.str i) (V.str j) H Q=Q (.bl (!decide (i=j))) H:=by
 have e:decide (((V.str i):V)=(V.str j))=decide (i=j):=by simp
 show Q (.bl (if true=true then !decide ((V.str i)=(V.str j)) else decide ((V.str i)=(V.str j)))) H=_
 rw [e];rfl
section
variable {X:Cx}
theorem bt(hu:X.A.units+64 < cLine):OpR X (compareOp .Eq) (qEq false):=by
 refine(Gq.or (Di hu)).mono λ x y H Q h=>?_;unfold qEq at h;split at h
 ·rename_i hs;exact .inl ⟨hs,h⟩
 obtain⟨d,e1,h⟩:=ar h;obtain⟨e,e2,h⟩:=ar h;obtain⟨a,b⟩:=dw (K:=X.K) (by decide) e1;obtain⟨a',b'⟩:=dw (K:=X.K) (by decide) e2;exact .inr ⟨d,e,a,a',b,b',h⟩
theorem df(hu:X.A.units+64 < cLine):OpR X (compareOp .NotEq) (qEq true):=by
 refine(Gm.or (Dg hu)).mono λ x y H Q h=>?_;unfold qEq at h;split at h
 ·rename_i hs;exact .inl ⟨hs,h⟩
 obtain⟨d,e1,h⟩:=ar h;obtain⟨e,e2,h⟩:=ar h;obtain⟨a,b⟩:=dw (K:=X.K) (by decide) e1;obtain⟨a',b'⟩:=dw (K:=X.K) (by decide) e2;exact .inr ⟨d,e,a,a',b,b',h⟩
end
theorem nr(i j:Int):PyData.eqv (.int i) (.int j)=decide (i=j):=Bool.beq_eq_decide_eq i j
theorem xC(i j:Bool):PyData.eqv (.bool i) (.bool j)=decide (i=j):=by cases i<;>cases j<;>rfl
theorem nq(i j:Str):PyData.eqv (.str i) (.str j)=(i == j):=rfl
theorem lI(xs ys:List PyData):PyData.eqv (.tuple xs) (.tuple ys)=PyData.eqvAll xs ys:=by simp only [PyData.eqv]
theorem j2(xs ys:List PyData):PyData.eqv (.list xs) (.list ys)=PyData.eqvAll xs ys:=by simp only [PyData.eqv]
theorem fT:PyData.eqvAll [] []=true:=by simp only [PyData.eqvAll]
theorem fg(x y:PyData)(xs ys:List PyData):PyData.eqvAll (x::xs) (y::ys)=(PyData.eqv x y && PyData.eqvAll xs ys):=by simp only [PyData.eqvAll]
theorem xD(x:PyData)(xs:List PyData):PyData.eqvAll (x::xs) []=false:=by simp only [PyData.eqvAll]
theorem BG(i j:Int):FZ i j=(0 < j/\j < 1073741824):=rfl
theorem EV(i j:Int)(h:-18446744073709551616 < j)(h':j < 18446744073709551616):jw i j=True:=eq_true (.inr ⟨by omega,by omega⟩)
theorem BF(j:Int):FY 10 j=(0<=j/\j<=1000000):=propext ⟨λ h=>⟨h.1,h.2.1⟩,λ h=>⟨h.1,h.2,by decide⟩⟩
theorem Ha(n:Nat)(h:n<=1000):(n<=sizeLine)=True:=eq_true (LC (ll h))
theorem G9(n:Nat)(h:n<=1000):(n < sizeLine)=True:=eq_true (ll h)
theorem Ext.of{H H':Hp}(h:∀ a,(H a).isSome=true->H' a=H a):Ext H H':=⟨h,λ K a xs q=>by
 have s:kP H H':=λ b o e=>(h b (by rw [e];rfl)).trans e;exact s.seq q⟩
theorem Ext.same{H H':Hp}(h:Ext H H'):kP H H':=λ b o e=>(h.1 b (by rw [e];rfl)).trans e
theorem kP.ext{H H':Hp}(h:kP H H'):Ext H H':=Ext.of λ a q=>by
 cases e:H a with
 | none=>rw [e] at q;cases q
 | some o=>exact h a o e
theorem Ext.refl(H:Hp):Ext H H:=(kP.refl H).ext
theorem Ext.trans{H H1 H2:Hp}(a:Ext H H1)(b:Ext H1 H2):Ext H H2:=(a.same.trans b.same).ext
theorem Ext.new{H:Hp}{p:Addr}{o:HO}(h:H p=none):Ext H (upd H p o):=(vR h).ext
theorem Ext.put{H H1:Hp}{p:Addr}{o:HO}(a:Ext H H1)(h:H p=none):Ext H (upd H1 p o):=kP.ext λ b u e=>by
 rw [ah (bO e h)];exact a.same b u e
theorem Ext.free{H H1:Hp}{p:Addr}(a:Ext H H1)(h:H1 p=none):H p=none:=a.same.free h
theorem Ext.at{H H1:Hp}{p:Addr}{o:HO}(a:Ext H H1)(h:H p=some o):H1 p=some o:=a.same _ _ h
theorem Aa{xs:List V}{i:Int}{k:V->Prop}(h0:0<=i)(h1:i < xs.length)(h:∀ v∈xs,k v):aW (atI xs i) k:=by
 obtain⟨v,e,m⟩:=yE xs i h0 h1;rw [e];exact h v m
theorem Jf(CX:CXT)(P:Program)(w:World)(K:W.Frag)(mg:Str->Option Value)(base:Heap)(N:List Str)(qual:Str)(scope:Scope)(f:Addr)(cd:Value)(A:Around)(outer:List Env)(s:Shared)(H:Hp)(E:XK):(vh CX P w K mg base N qual scope f cd A outer s H E).K=K:=rfl
theorem fU{X:Cx}{K:W.Frag}(h:X.K=K):bE X (.builtin "isinstance") (E2 K):=h ▸ uR
theorem oY{K:W.Frag}{C:Addr}(h:W.hasDictIn K C=true):(W.clsIn K C).isSome=true:=by
 obtain⟨cd,hc,_⟩:=W.any_some h;rw [hc];rfl
theorem Bf{K:W.Frag}{A C:Addr}(h1:W.hasDictIn K C=true)(h2:W.typeIn K (.ref C)=some (.type "type"))(h3:W.subIn K (.ref A) (.ref C)=some true):W.kitOne K (.ref A) (.ref C)=some true:=by
 unfold W.kitOne;split
 ·rfl
 ·show (if _ then _ else _)=_
  rw [oY h1,h2,JM (by decide),h3]
theorem EG{K:W.Frag}{A C:Addr}(h0:(A == C)=false)(h1:W.hasDictIn K C=true)(h2:W.typeIn K (.ref C)=some (.type "type"))(h3:W.subIn K (.ref A) (.ref C)=some false):W.kitOne K (.ref A) (.ref C)=some false:=by
 unfold W.kitOne;rw [if_neg (by intro z;have e:A=C:=Value.ref.inj (beq_iff_eq.mp z);rw [e] at h0;simp at h0)]
 show (if _ then _ else _)=_
 rw [oY h1,h2,JM (by decide),h3]
theorem EF{K:W.Frag}{A:Addr}{n:String}{b:Bool}(h1:W.kitMeta n=true)(h3:W.subIn K (.ref A) (.type n)=some b):W.kitOne K (.ref A) (.type n)=some b:=by
 unfold W.kitOne;rw [if_neg (by intro z;have e:=beq_iff_eq.mp z;cases e)]
 show (if _ then _ else _)=_
 rw [JM h1,h3]
def isW(H:Hp):V->Option Bool
 | .int _=>some true
 | .bl _=>some false
 | .non=>some false
 | .str _=>some false
 | .ref p=>((H p).bind tyO).map λ _=>false
 | _=>none
theorem xp(H:Hp)(i:Int):isW H (.int i)=some true:=rfl
theorem xo(H:Hp)(p:Addr):isW H (.ref p)=((H p).bind tyO).map λ _=>false:=rfl
theorem sx{H:Hp}{p:Addr}{b:Bool}(h:isW H (.ref p)=some b):b=false/\∃ o,H p=some o/\(tyO o=some "list" \/ tyO o=some "tuple" \/ tyO o=some "dict"):=by
 rw [xo] at h
 cases e:H p with
 | none=>rw [e] at h;cases h
 | some o=>
  rw [e] at h;have h':(tyO o).map (λ _=>false)=some b:=h
  cases e2:tyO o with
  | none=>rw [e2] at h';cases h'
  | some t=>
   rw [e2] at h';cases h';refine⟨rfl,o,rfl,?_⟩
   cases o with
   | lst xs=>exact .inl rfl
   | tup xs=>exact .inr (.inl rfl)
   | dK xs=>exact .inr (.inr rfl)
   | dT xs=>exact .inr (.inr rfl)
   | frz ob u=>cases u with
    | lst xs=>exact .inl rfl
    | _=>cases e2
   | _=>cases e2
def ME(t:TE):Prop:=∀ σ H (Q Q':VK),(∀ v H,Q v H->Q' v H)->t σ H Q->t σ H Q'
def MT(t:TT):Prop:=∀ σ H (Q Q':Bool->Hp->Prop),(∀ b H,Q b H->Q' b H)->t σ H Q->t σ H Q'
def MA(t:TA):Prop:=∀ σ H (Q Q':List V->Hp->Prop),(∀ b H,Q b H->Q' b H)->t σ H Q->t σ H Q'
def MR(r:R2):Prop:=∀ x y H (Q Q':VK),(∀ v H,Q v H->Q' v H)->r x y H Q->r x y H Q'
def MC(r:List V->Hp->VK->Prop):Prop:=∀ x H (Q Q':VK),(∀ v H,Q v H->Q' v H)->r x H Q->r x H Q'
theorem ck{α:Type}{o:Option α}{k k':α->Prop}(m:∀ x,k x->k' x)(h:aW o k):aW o k':=by
 obtain⟨x,e,q⟩:=ar h;rw [e];exact m x q
theorem rO{i:Nat}:ME (EY i):=λ σ H Q Q' m ⟨v,e,q⟩=>⟨v,e,m _ _ q⟩
theorem HJ{v:V}:ME (tC v):=λ σ H Q Q' m q=>m _ _ q
theorem Co{r:R2}{a b:TE}(hr:MR r)(ha:ME a)(hb:ME b):ME (tOp r a b):=λ σ H Q Q' m q=>ha σ H _ _ (λ _ _ q=>hb σ _ _ _ (λ _ _ q=>hr _ _ _ _ _ m q) q) q
theorem rP{g:Int->Int->V}:MR (rI0 g):=λ x y H Q Q' m ⟨i,j,e,e',q⟩=>⟨i,j,e,e',m _ _ q⟩
theorem yo{n:Bool}:MR (qEq n):=λ x y H Q Q' m q=>by
 unfold qEq at q ⊢
 by_cases hs:BN x y=true
 ·rw [JM hs] at q ⊢;exact m _ _ q
 ·rw [JL hs] at q ⊢;exact ck (λ _ q=>ck (λ _ q=>m _ _ q) q) q
theorem yp:MA BK:=λ σ H Q Q' m q=>m _ _ q
theorem sr{a:TE}{r:TA}(ha:ME a)(hr:MA r):MA (qT a r):=λ σ H Q Q' m q=>ha σ H _ _ (λ _ _ q=>hr σ _ _ _ (λ _ _ q=>m _ _ q) q) q
theorem Cp{r:List V->Hp->VK->Prop}{t:TA}(hr:MC r)(ht:MA t):ME (tCB r t):=λ σ H Q Q' m q=>ht σ H _ _ (λ _ _ q=>hr _ _ _ _ m q) q
theorem so:MC BO:=λ x H Q Q' m q=>by
 unfold BO at q ⊢;split at q
 ·exact ck (λ _ q=>m _ _ q) q
 ·exact⟨q.1,m _ _ q.2⟩
 ·exact q.elim
theorem nc{t:TE}(h:ME t):MT (vq t):=λ σ H Q Q' m q=>h σ H _ _ (λ _ _ ⟨k,e,q⟩=>⟨k,e,m _ _ q⟩) q
theorem yr{t u:TT}(h:MT t)(h':MT u):MT (Fi t u):=λ σ H Q Q' m q=>h σ H _ _ (λ b _ q=>by
 cases b with
 | true=>rw [JM rfl] at q ⊢;exact h' _ _ _ _ m q
 | false=>rw [JL JO] at q ⊢;exact m _ _ q) q
theorem rW{c:TT}{tb:TS}{nx:St->Hp->Prop}{rt:VK}{bk ct:St->Hp->Prop}{σ:St}{H:Hp}(mono:MT c)(Pv:Nat->St->Hp->Prop)(m0:Nat)(h0:Pv m0 σ H)
  (hs:∀ m σ H,Pv m σ H->c σ H (kWh tb nx rt Pv m σ)):rm c tb ⟨nx,rt,bk,ct⟩ σ H:=zu Pv m0 h0 (λ σ H Q Q'=>mono σ H Q Q') hs
theorem oS:∀ {ns ms:List Int},ns.map V.int=ms.map V.int->ns=ms
 | [],[],_=>rfl
 | [],_::_,h=>by cases h
 | _::_,[],h=>by cases h
 | i::r,j::t,h=>by
  simp only [KA,List.cons.injEq,V.int.injEq] at h;rw [h.1,oS h.2]
def y9(F:List Int->Prop):List V->Prop:=λ xs=>∃ ns,xs=ns.map V.int/\F ns
theorem A0(F:List Int->Prop)(ns:List Int):y9 F (ns.map V.int)=F ns:=propext ⟨λ ⟨ms,e,h⟩=>by rw [oS e];exact h,λ h=>⟨ns,rfl,h⟩⟩
theorem xM(xs:List V)(z:Int)(h:0<=z):gd xs none (some z)=xs.take z.toNat:=by
 unfold gd;rw [HT.sIx_none,List.drop_zero,Nat.sub_zero];obtain⟨n,rfl⟩:=Int.eq_ofNat_of_zero_le h;rw [HT.sIx_nat]
 show _=xs.take n
 rcases Nat.le_total n xs.length with q|q
 ·rw [Nat.min_eq_left q]
 ·rw [Mu q,KP (JB _),KP q]
def Ja(lo hi:Option Int)(H:Hp)(Q:VK):List V->Prop:=λ xs=>∀ p,H p=none->Q (.ref p) (upd H p (.lst (gd xs lo hi)))
def HF:V->Option Int->Option Int->Hp->VK->Prop:=λ x lo hi H Q=>match x with
 | .ref a=>aW (aY H a) (Ja lo hi H Q)
 | _=>False
theorem II{X:Cx}:SlR X HF:=zG.mono λ x lo hi H Q h=>by
 unfold HF at h;split at h
 ·rename_i a;obtain⟨xs,e,q⟩:=ar h;exact⟨a,xs,rfl,SqL.of (dH e),q⟩
 ·exact h.elim
def Fx(r:V->Option Int->Option Int->Hp->VK->Prop)(x:V)(l:Option Int)(Q:VK):Option Int->Hp->Prop:=λ u H=>r x l u H Q
theorem DZ(r:V->Option Int->Option Int->Hp->VK->Prop)(x:V)(l:Option Int)(Q:VK)(u:Option Int)(H:Hp):Fx r x l Q u H=r x l u H Q:=rfl
def Fy(r:V->Option Int->Option Int->Hp->VK->Prop)(th:TO)(σ:St)(x:V)(Q:VK):Option Int->Hp->Prop:=λ l H=>th σ H (Fx r x l Q)
theorem D0(r:V->Option Int->Option Int->Hp->VK->Prop)(th:TO)(σ:St)(x:V)(Q:VK)(l:Option Int)(H:Hp):Fy r th σ x Q l H=th σ H (Fx r x l Q):=rfl
def HP(r:V->Option Int->Option Int->Hp->VK->Prop)(tl th:TO)(σ:St)(Q:VK):VK:=λ x H=>tl σ H (Fy r th σ x Q)
theorem D1(r:V->Option Int->Option Int->Hp->VK->Prop)(tl th:TO)(σ:St)(Q:VK)(x:V)(H:Hp):HP r tl th σ Q x H=tl σ H (Fy r th σ x Q):=rfl
theorem Gy(r:V->Option Int->Option Int->Hp->VK->Prop)(te:TE)(tl th:TO)(σ:St)(H:Hp)(Q:VK):tSl r te tl th σ H Q=te σ H (HP r tl th σ Q):=rfl
theorem sY(σ:St)(H:Hp)(Q:Option Int->Hp->Prop):rY σ H Q=Q none H:=rfl
def Cs(Q:Option Int->Hp->Prop):VK:=λ x H=>∃ i,x=.int i/\Q (some i) H
theorem AV(Q:Option Int->Hp->Prop)(i:Int)(H:Hp):Cs Q (.int i) H=Q (some i) H:=propext ⟨λ ⟨_,e,q⟩=>by cases e;exact q,λ q=>⟨i,rfl,q⟩⟩
theorem Aj(t:TE)(σ:St)(H:Hp)(Q:Option Int->Hp->Prop):B1 t σ H Q=t σ H (Cs Q):=rfl
def gD(o:HO)(H:Hp)(Q:VK):Prop:=∀ (p:Addr) (H':Hp),H p=none->Ext H H'->H' p=some o->Q (.ref p) H'
theorem gD.to{o:HO}{H:Hp}{Q:VK}(h:gD o H Q):∀ p,H p=none->Q (.ref p) (upd H p o):=λ p hp=>h p _ hp (Ext.new hp) ag
def kQT(Q:VK):List V->Hp->Prop:=λ xs H=>xs.length<=sizeLine/\gD (.tup xs) H Q
theorem GO(Q:VK)(xs:List V)(H:Hp):kQT Q xs H=(xs.length<=sizeLine/\gD (.tup xs) H Q):=rfl
def kQL(Q:VK):List V->Hp->Prop:=λ xs H=>xs.length<=sizeLine/\gD (.lst xs) H Q
theorem GP(Q:VK)(xs:List V)(H:Hp):kQL Q xs H=(xs.length<=sizeLine/\gD (.lst xs) H Q):=rfl
def HE(t:TA):TE:=λ σ H Q=>t σ H (kQT Q)
theorem DK(t:TA)(σ:St)(H:Hp)(Q:VK):HE t σ H Q=t σ H (kQT Q):=rfl
def Fp(t:TA):TE:=λ σ H Q=>t σ H (kQL Q)
theorem DO(t:TA)(σ:St)(H:Hp)(Q:VK):Fp t σ H Q=t σ H (kQL Q):=rfl
section
variable {X:Cx}{es:List Expr}{t:TA}{pos:Pos}
theorem zS{x1}(h:PA X es t):PE X (.Tuple es x1 pos) (HE t):=by
 intro pins s σ H Q I hq;refine wpAny_Tuple_spliced (thn (h pos pins s σ H _ I hq) λ us s1 ⟨xs,H1,I1,r,z,q⟩=>⟨by rw [←r.length];exact z,?_⟩);have hf:H1 s1.heap.objs.size=none:=I1.hok.fresh (JB _);refine⟨.ref s1.heap.objs.size,upd H1 s1.heap.objs.size (.tup xs),I1.laid (t':=s1.toks) (λ b u e=>Jz _ e) (JB _) ?_,rfl,q.to _ hf⟩;exact⟨z,us,r,⟨_,JK _ rfl,rfl,_,rfl⟩⟩
theorem zT(h:PA X es t):PE X (.List es pos) (Fp t):=by
 intro pins s σ H Q I hq;refine wpAny_List_spliced (thn (h pos pins s σ H _ I hq) λ us s1 ⟨xs,H1,I1,r,z,q⟩=>⟨by rw [←r.length];exact z,?_⟩);have hf:H1 s1.heap.objs.size=none:=I1.hok.fresh (JB _);refine⟨.ref s1.heap.objs.size,upd H1 s1.heap.objs.size (.lst xs),I1.laid (t':=s1.toks) (λ b u e=>Jz _ e) (JB _) ?_,rfl,q.to _ hf⟩;exact⟨z,us,0,r,JK _ rfl⟩
end
def kN(f:List V->HO)(H:Hp)(Q:VK):List V->Prop:=λ ys=>gD (f ys) H Q
theorem IV(f:List V->HO)(H:Hp)(Q:VK)(ys:List V):kN f H Q ys=gD (f ys) H Q:=rfl
def yS(xs:List V)(H:Hp)(Q:VK):Prop:=match xs with
 | [.ref p]=>aW (cT H p) (kN .lst H Q)
 | _=>False
theorem AE(p:Addr)(H:Hp)(Q:VK):yS [.ref p] H Q=aW (cT H p) (kN .lst H Q):=rfl
theorem cx{X:Cx}:bE X (.type "list") yS:=qx.mono λ xs H Q h=>by
 unfold yS at h;split at h
 ·exact ck (λ _ q=>q.to) h
 ·exact h.elim
def kNT(p:Addr)(H:Hp)(Q:VK):HO->Prop:=λ o=>match o with
 | .lst ys=>gD (.tup ys) H Q
 | .tup _=>Q (.ref p) H
 | _=>False
theorem AX(p:Addr)(H:Hp)(Q:VK)(ys:List V):kNT p H Q (.lst ys)=gD (.tup ys) H Q:=rfl
def rN(xs:List V)(H:Hp)(Q:VK):Prop:=match xs with
 | [.ref p]=>aW (H p) (kNT p H Q)
 | _=>False
theorem wJ(p:Addr)(H:Hp)(Q:VK):rN [.ref p] H Q=aW (H p) (kNT p H Q):=rfl
theorem nO{X:Cx}:bE X (.type "tuple") rN:=nN.mono λ xs H Q h=>by
 unfold rN at h;split at h
 ·refine ck (λ o q=>?_) h;unfold kNT at q;unfold yW;split at q
  ·exact q.to
  ·exact q
  ·exact q.elim
 ·exact h.elim
def E7(xs:List V)(H:Hp)(Q:VK):List V->Prop:=λ ys=>xs.length+ys.length<=sizeLine/\gD (.lst (xs++ys)) H Q
theorem Eb(xs:List V)(H:Hp)(Q:VK)(ys:List V):E7 xs H Q ys=(xs.length+ys.length<=sizeLine/\gD (.lst (xs++ys)) H Q):=rfl
def FA(b:Addr)(H:Hp)(Q:VK):List V->Prop:=λ xs=>aW (aY H b) (E7 xs H Q)
theorem Ec(b:Addr)(H:Hp)(Q:VK)(xs:List V):FA b H Q xs=aW (aY H b) (E7 xs H Q):=rfl
def E5:R2:=λ x y H Q=>match x,y with
 | .ref l,.ref b=>aW (aY H l) (FA b H Q)
 | _,_=>False
theorem yt(l b:Addr)(H:Hp)(Q:VK):E5 (.ref l) (.ref b) H Q=aW (aY H l) (FA b H Q):=rfl
theorem bw{X:Cx}:OpR X (binaryOp .Add) E5:=Dj.mono λ x y H Q h=>by
 unfold E5 at h;split at h
 ·rw [DJ];exact ck (λ _ q=>ck (λ _ q=>⟨q.1,q.2.to⟩) q) h
 ·exact h.elim
def kNS(lo hi:Option Int)(H:Hp)(Q:VK):List V->Prop:=λ xs=>gD (.lst (gd xs lo hi)) H Q
theorem GS(lo hi:Option Int)(H:Hp)(Q:VK)(xs:List V):kNS lo hi H Q xs=gD (.lst (gd xs lo hi)) H Q:=rfl
def nSl:V->Option Int->Option Int->Hp->VK->Prop:=λ x lo hi H Q=>match x with
 | .ref a=>aW (aY H a) (kNS lo hi H Q)
 | _=>False
theorem GH(a:Addr)(lo hi:Option Int)(H:Hp)(Q:VK):nSl (.ref a) lo hi H Q=aW (aY H a) (kNS lo hi H Q):=rfl
theorem pG{X:Cx}:SlR X nSl:=II.mono λ x lo hi H Q h=>by
 unfold nSl at h;split at h
 ·exact ck (λ _ q=>q.to) h
 ·exact h.elim
theorem PE.mono{X:Cx}{e:Expr}{t t':TE}(h:PE X e t)(m:∀ σ H Q,t' σ H Q->t σ H Q):PE X e t':=λ pins s σ H Q I q=>h pins s σ H Q I (m _ _ _ q)
def Cm:TE:=λ _ H Q=>gD (.dK []) H Q
theorem AF(σ:St)(H:Hp)(Q:VK):Cm σ H Q=gD (.dK []) H Q:=rfl
theorem eC{X:Cx}{pos:Pos}:PE X (.Dict [] [] pos) Cm:=wg.mono λ _ _ _ h=>h.to
section
variable {prog:Program}{w:World}{A:Around}{E:Value->Shared->Prop}{s:Shared}
end
section
variable {X:Cx}{pos:Pos}
end
section
variable {X:Cx}{tg:Expr}
end
theorem ir:∀ (n:Nat) (ns:List Int) (val:Nat->Int),(∀ i,val i=ns.getD i 0)->n<=ns.length->preSum val n=(ns.take n).sum
 | 0,ns,val,h,hl=>by simp [preSum]
 | n+1,ns,val,h,hl=>by
  have ih:=ir n ns val h (by omega)
  have e:ns.take (n+1)=ns.take n++[ns.getD n 0]:=by
   rw [List.take_succ,Jy (by omega)];simp [List.getD,Jy (show n < ns.length by omega)]
  rw [preSum,ih,e,List.sum_append,h];simp
def yX(H:Hp)(Q:VK):List Int->Prop:=λ ns=>Q (.int ns.sum) H
theorem AK(H:Hp)(Q:VK)(ns:List Int):yX H Q ns=Q (.int ns.sum) H:=rfl
def Fm:List V->Hp->VK->Prop:=λ vs H Q=>match vs with
 | [.ref p]=>aW (aY H p) (y9 (yX H Q))
 | _=>False
theorem DL(p:Addr)(H:Hp)(Q:VK):Fm [.ref p] H Q=aW (aY H p) (y9 (yX H Q)):=rfl
def FP(F:List Bool->Prop):List V->Prop:=λ xs=>∃ bs,xs=bs.map V.bl/\F bs
theorem sL:∀ {ns ms:List Bool},ns.map V.bl=ms.map V.bl->ns=ms
 | [],[],_=>rfl
 | [],_::_,h=>by cases h
 | _::_,[],h=>by cases h
 | i::r,j::t,h=>by
  simp only [KA,List.cons.injEq,V.bl.injEq] at h;rw [h.1,sL h.2]
theorem Er(F:List Bool->Prop)(bs:List Bool):FP F (bs.map V.bl)=F bs:=propext ⟨λ ⟨ms,e,h⟩=>by rw [sL e];exact h,λ h=>⟨bs,rfl,h⟩⟩
def zj(H:Hp)(Q:VK):List Bool->Prop:=λ bs=>Q (.bl (bs.all id)) H
theorem Bb(H:Hp)(Q:VK)(bs:List Bool):zj H Q bs=Q (.bl (bs.all id)) H:=rfl
def Fs:List V->Hp->VK->Prop:=λ vs H Q=>match vs with
 | [.ref p]=>aW (aY H p) (FP (zj H Q))
 | _=>False
theorem DR(p:Addr)(H:Hp)(Q:VK):Fs [.ref p] H Q=aW (aY H p) (FP (zj H Q)):=rfl
section
variable {X:Cx}
theorem cq(hc:X.calm=true):bE X (.builtin "sum") Fm:=by
 intro pins s σ H vs us Q I r h;unfold Fm at h;split at h
 ·rename_i p;obtain⟨xs,e,ns,rfl,q⟩:=ar h
  cases r with
  | cons r rr=>
   cases rr;cases r;obtain⟨its,rv,pl,hz⟩:=I.list (SqL.of (dH e));have hlt:p < s.heap.objs.size:=by obtain⟨_,e,_⟩:=pl.isList;exact JF e
   have hlen:its.length=ns.length:=by have:=rv.length;simpa using this.symm
   refine call_sum_walkAnyS (LX pl.isList ⟨s.heap.objs.size,_,_,_,_,_,_,λ i=>ns.getD i 0,rfl,(Walks.list (show X.A.in1.handled=none from I.ok.hd hc) _ p (JR hlt) its.toArray).toS,⟨⟨_,JK _ rfl,rfl,rfl⟩,pl.isList.push _⟩,λ b hb=>?_,λ i v hP=>?_,λ s' t' hm=>?_⟩)
   ·rw [Kx]
    rcases J2.mp hb with rfl|hb
    ·exact LO _
    ·rw [JD.mp hb];exact Ml hlt
   ·have hv:its[i]? = some v:=by simpa using hP
    have hi:i < ns.length:=by rw [←hlen];exact(JC.mp hv).1
    obtain⟨u,hu,ru⟩:=rv.get (i:=i) (x:=.int (ns.getD i 0)) (by rw [J4,Jy hi];simp [List.getD,Jy hi]);rw [hv] at hu;cases hu;exact ru
   ·obtain⟨hp,g,d,tk,os⟩:=s'
    have kp:∀ b o,s.heap.get? b=some o->hp.get? b=some o:=λ b o e=>hm.heap b o (λ hmem=>by
     have:b=s.heap.objs.size:=by simpa using hmem
     subst this;exact absurd (JF e) (K3 _)) (Jz _ e)
    have e1:g=s.gens:=hm.gens;have e2:d=s.drawn:=hm.drawn;have e3:os=s.os:=hm.os;subst e1 e2 e3;refine⟨.int ns.sum,H,I.kept (t':=tk) kp,?_,q⟩;have es:=ir its.toArray.size ns (λ i=>ns.getD i 0) (λ _=>rfl) (by simp [hlen]);rw [show its.toArray.size=ns.length by simp [hlen],L4] at es;rw [show its.toArray.size=ns.length by simp [hlen],es];exact⟨t',rfl⟩
 ·exact h.elim
theorem vd(bs:List Bool):(List.range bs.length).all (λ i=>bs.getD i false)=bs.all id:=by
 rw [Lz,LR,LR];refine⟨λ h x hx=>?_,λ h i hi=>?_⟩
 ·obtain⟨i,hi,e⟩:=List.getElem_of_mem hx;have:=h i (Kt.mpr hi)
  simpa [List.getD,Jy hi,e] using this
 ·have hi':=Kt.mp hi;have:=h (bs[i]) (KR hi')
  simpa [List.getD,Jy hi'] using this
theorem ik(hc:X.calm=true):bE X (.builtin "all") Fs:=by
 intro pins s σ H vs us Q I r h;unfold Fs at h;split at h
 ·rename_i p;obtain⟨xs,e,bs,rfl,q⟩:=ar h
  cases r with
  | cons r rr=>
   cases rr;cases r;obtain⟨its,rv,pl,hz⟩:=I.list (SqL.of (dH e));have hlt:p < s.heap.objs.size:=by obtain⟨_,e,_⟩:=pl.isList;exact JF e
   have hlen:its.length=bs.length:=by have:=rv.length;simpa using this.symm
   refine call_all_walk (LX pl.isList ⟨s.heap.objs.size,_,_,_,_,_,λ i=>bs.getD i false,rfl,Walks.list (show X.A.in1.handled=none from I.ok.hd hc) _ p (JR hlt) its.toArray,⟨⟨_,JK _ rfl,rfl,rfl⟩,pl.isList.push _⟩,λ i v s' Q' E' hP hQ=>?_,λ h' tk hk=>?_⟩)
   ·have hv:its[i]? = some v:=by simpa using hP
    have hi:i < bs.length:=by rw [←hlen];exact(JC.mp hv).1
    obtain⟨u,hu,ru⟩:=rv.get (i:=i) (x:=.bl (bs.getD i false)) (by rw [J4,Jy hi];simp [List.getD,Jy hi]);rw [hv] at hu;cases hu;have e2:v=.bool (bs.getD i false):=ru;subst e2;exact Kl hQ
   ·have kp:∀ b o,s.heap.get? b=some o->h'.get? b=some o:=λ b o e=>hk b o (λ hmem=>by
     have:b=s.heap.objs.size:=by simpa using hmem
     subst this;exact absurd (JF e) (K3 _)) (Jz _ e)
    refine⟨.bl (bs.all id),H,I.kept (t':=tk) kp,?_,q⟩;rw [show its.toArray.size=bs.length by simp [hlen],vd];exact rfl
 ·exact h.elim
end
structure Src(prog:Program)(w:World)(it:Addr)(fr:List Addr)(st:Nat->Heap->Prop)(val:Nat->Option Value):Prop where
 mem:it∈fr
 there:∀ k h,st k h->∀ b∈fr,∃ o,h.get? b=some o
 keep:∀ k h h',st k h->(∀ b∈fr,∀ o,h.get? b=some o->h'.get? b=some o)->st k h'
 item:∀ (A:Around) k s v (Q:Value->Shared->Prop) (E:Value->Shared->Prop),st k s.heap->val k=some v->(∀ h',st (k+1) h'->Heap.SameBut it s.heap h'->Q v { s with heap:=h' })->wpAny (model prog w) A (Builtin.SmallTypes.nextOf (.ref it)) Q E s
 fin:∀ (A:Around) k s (Q:Value->Shared->Prop) (E:Value->Shared->Prop),A.handled=none->st k s.heap->val k=none->(∀ h' e,Heap.ExtBut it s.heap h'->(∃ o,h'.get? e=some o/\o.cls=.type "StopIteration")->E (.ref e) { s with heap:=h' })->wpAny (model prog w) A (Builtin.SmallTypes.nextOf (.ref it)) Q E s
theorem vO{prog:Program}{w:World}(it l:Addr)(hne:l ≠ it)(xs:Array Value):Src prog w it [it,l] (λ k h=>h.IsListIter it l k/\h.IsList l xs) (λ k=>xs[k]?) where
 mem:=JI
 there:=λ k h st b hb=>by
  rcases J2.mp hb with e|hb
  ·obtain⟨o,q,_⟩:=st.1;exact⟨o,by rw [e];exact q⟩
  ·obtain⟨o,q,_⟩:=st.2;exact⟨o,by rw [JD.mp hb];exact q⟩
 keep:=λ k h h' st q=>⟨st.1.at λ o e=>q it (by simp) o e,st.2.at λ o e=>q l (by simp) o e⟩
 item:=λ A k s v Q E st hv hQ=>wpAny_nextOf_list_item st.1 st.2 hv λ h' a b=>hQ h' ⟨a,st.2.extBut b.extBut hne⟩ b
 fin:=λ A k s Q E hh st hv hE=>wpAny_nextOf_list_end hh st.1 st.2 hv hE
section
variable {prog:Program}{w:World}{A:Around}{E:Value->Shared->Prop}{s:Shared}
theorem kr{j t:Addr}{k:Nat}{xs:Array Value}{v:Value}{Q:Value->Shared->Prop}(hj:s.heap.IsTupleIter j t k)(ht:s.heap.IsTuple t xs)(hv:xs[k]? = some v)
  (hQ:∀ g,g.IsTupleIter j t (k+1)->Heap.SameBut j s.heap g->Q v { s with heap:=g }):wpAny (model prog w) A (Builtin.SmallTypes.nextOf (.ref j)) Q E s:=by
 obtain⟨oj,h0,h1,h2⟩:=id hj;obtain⟨ot,g0,_,n,g1⟩:=ht;unfold Builtin.SmallTypes.nextOf;refine wpAny_bind (wpAny_callSpecial?_slot (name:=Str.ofString "__next__") hj.typeIs F.slot_tuple_iterator_next (wpAny_call_entry F.slot_tuple_iterator_next hj.typeIs F.entry_tuple_iterator_next ?_ (F.args_tuple_iterator_next_1 _)));refine wpAny_bind (m:=field (.ref j) 0) (wpAny_field h0 h2 (x:=.ref t) rfl ?_)
 show wpAny _ _ (if (Value.ref t == Value.none)=true then _ else _) _ _ _
 rw [JL (show ¬ ((.ref t:Value) == .none)=true from JO)];refine Jx (m:=field (.ref j) 1) (Ka h0 h2 (x:=.int k 0) rfl ?_);refine Jx (m:=seqItems? (.ref t)) (K2 g0 g1 ?_);simp only [Kk,hv];refine Jx (Lx h0 h2 (by simp) (JE ⟨v,rfl,JE (hQ _ ⟨_,KN _ h0 (KL (K7 h2 _)),(Obj.cls_mapFields ..).trans h1,?_⟩ (Ln ..))⟩));rw [K7 h2];simp [rawInt]
theorem mx{j t:Addr}{k:Nat}{xs:Array Value}{Q:Value->Shared->Prop}(hh:A.handled=none)(hj:s.heap.IsTupleIter j t k)(ht:s.heap.IsTuple t xs)(hv:xs[k]? = none)
  (hE:∀ g e,Heap.ExtBut j s.heap g->(∃ o,g.get? e=some o/\o.cls=.type "StopIteration")->E (.ref e) { s with heap:=g }):wpAny (model prog w) A (Builtin.SmallTypes.nextOf (.ref j)) Q E s:=by
 obtain⟨oj,h0,h1,h2⟩:=id hj;obtain⟨ot,g0,_,n,g1⟩:=ht;unfold Builtin.SmallTypes.nextOf;refine wpAny_bind (wpAny_callSpecial?_slot (name:=Str.ofString "__next__") hj.typeIs F.slot_tuple_iterator_next (wpAny_call_entry F.slot_tuple_iterator_next hj.typeIs F.entry_tuple_iterator_next ?_ (F.args_tuple_iterator_next_1 _)));refine wpAny_bind (m:=field (.ref j) 0) (wpAny_field h0 h2 (x:=.ref t) rfl ?_)
 show wpAny _ _ (if (Value.ref t == Value.none)=true then _ else _) _ _ _
 rw [JL (show ¬ ((.ref t:Value) == .none)=true from JO)];refine Jx (m:=field (.ref j) 1) (Ka h0 h2 (x:=.int k 0) rfl ?_);refine Jx (m:=seqItems? (.ref t)) (K2 g0 g1 ?_);simp only [Kk,hv];refine Jx (wpAny_rule (Jx (Lx h0 h2 (by simp) (Jx (m:=newExc (.type "StopIteration") []) ?_))));simp only [newExc,newTuple];refine Jx (Ku (Jx (m:=firstArgMember _ _) (wpAny_of_eq (a:=Value.none) (by first|rfl|(simp only [firstArgMember];rfl)) (Ku ?_ (by size_fits)))) (by size_fits));simp only [raiseNew]
 refine Jx (wpAny_handled ?_);first|rw [show A.in1.handled=none from hh]|rw [hh]
 exact Jx (JE (wpAny_throw (hE _ _ (((Ln ..).extBut.push _).push _) ⟨_,JK _ rfl,rfl⟩)))
theorem zF(it l:Addr)(hne:l ≠ it)(xs:Array Value):Src prog w it [it,l] (λ k h=>h.IsTupleIter it l k/\h.IsTuple l xs) (λ k=>xs[k]?) where
 mem:=JI
 there:=λ k h st b hb=>by
  rcases J2.mp hb with e|hb
  ·obtain⟨o,q,_⟩:=st.1;exact⟨o,by rw [e];exact q⟩
  ·obtain⟨o,q,_⟩:=st.2;exact⟨o,by rw [JD.mp hb];exact q⟩
 keep:=λ k h h' st q=>⟨st.1.at λ o e=>q it (by simp) o e,st.2.at λ o e=>q l (by simp) o e⟩
 item:=λ A k s v Q E st hv hQ=>kr st.1 st.2 hv λ h' a b=>hQ h' ⟨a,st.2.extBut b.extBut hne⟩ b
 fin:=λ A k s Q E hh st hv hE=>mx hh st.1 st.2 hv hE
structure i6(z TI TO i j:Addr)(f g:List Addr):Prop where
 ti:TI ≠ z/\TI ≠ TO/\TI ≠ i/\TI ≠ j
 zt:z ≠ TO
 zf:z ∉ f
 zg:z ∉ g
 tf:TO ∉ f
 tg:TO ∉ g
 ig:i ∉ g
 jf:j ∉ f
variable {z TI TO i j:Addr}{f g:List Addr}{ti tj:Nat->Heap->Prop}{vi vj:Nat->Option Value}{k m:Nat}{x y a b:Value}
theorem dG{p q:Addr}{l:List Addr}(hp:p∈l)(hq:q ∉ l):p ≠ q:=λ e=>hq (e ▸ hp)
theorem Src.but{prog:Program}{w:World}{it:Addr}{fr:List Addr}{st:Nat->Heap->Prop}{val:Nat->Option Value}(S:Src prog w it fr st val){k:Nat}{c:Addr}{h h':Heap}(q:st k h)(e:Heap.ExtBut c h h')(hc:c ∉ fr):st k h':=
 S.keep k h h' q λ b hb o ho=>e b o (dG hb hc) ho
theorem sP(S:Src prog w i f ti vi)(T:Src prog w j g tj vj)(D:i6 z TI TO i j f g){Q:Value->Shared->Prop}
  (hz:IsZip s.heap z TI TO .none) (hTI:IsPair s.heap TI (.ref i) (.ref j)) (hTO:IsPair s.heap TO a b) (hi:ti k s.heap) (hj:tj m s.heap) (hx:vi k=some x) (hy:vj m=some y)
  (hQ:∀ h',IsZip h' z TI TO (rawInt s.heap.objs.size)->IsPair h' TO x y->ti (k+1) h'->tj (m+1) h'->IsPair h' s.heap.objs.size x y->h'.objs.size=s.heap.objs.size+1->(∀ c o,c ∉ [z,TO,i,j]->s.heap.get? c=some o->h'.get? c=some o)->Q (.ref s.heap.objs.size) { s with heap:=h' }) :
  wpAny (model prog w) A (Builtin.«zip.__next__» ⟨[.ref z],[]⟩) (λ fin s'=>∃ v,fin=.done (.ret v)/\Q v s') E s:=by
 have iz:i ≠ z:=dG S.mem D.zf;have jz:j ≠ z:=dG T.mem D.zg;have iTO:i ≠ TO:=dG S.mem D.tf;have jTO:j ≠ TO:=dG T.mem D.tg;have ij:i ≠ j:=dG S.mem D.jf;refine wpAny_bind (m:=field (.ref z) 2) (wpAny_field hz rfl (x:=.bool false) rfl ?_);refine wpAny_bind (m:=field (.ref z) 3) (wpAny_field hz rfl (x:=.ref TI) rfl (wpAny_bind (wpAny_seqItems hTI rfl ?_)));refine wpAny_bind (m:=Builtin.SmallTypes.ownedTupleIsFree (.ref z)) ?_;unfold Builtin.SmallTypes.ownedTupleIsFree;refine wpAny_bind (wpAny_field hz rfl (x:=.none) rfl (wpAny_pure ?_));simp only [if_true];refine wpAny_bind (wpAny_rule (wpAny_bind (wpAny_field hz rfl (x:=.ref TO) rfl (wpAny_bind (wpAny_setField_rec hz (by simp) λ q1 z1 s1=>?_)))));replace z1:IsZip q1 z TI TO .ellipsis:=z1;refine wpAny_bind ?_;simp only [List.zipIdx_cons,List.zipIdx_nil,List.forIn_cons,List.forIn_nil];refine wpAny_bind (wpAny_bind (wpAny_onRaise (wpAny_bind (m:=Builtin.SmallTypes.nextOf (.ref i)) (S.item _ k _ x _ _ (S.but hi s1.extBut D.zf) hx λ q2 i2 s2=>wpAny_pure ?_))));have o2:IsPair q2 TO a b:=s2.extBut _ _ iTO.symm (s1.extBut _ _ D.zt.symm hTO);refine wpAny_bind (wpAny_seqItems o2 rfl (wpAny_bind (wpAny_updateSeq_pair o2 λ q3 o3 s3=>wpAny_bind (wpAny_letGo (wpAny_pure ?_)))));replace o3:IsPair q3 TO x b:=o3;have j3:tj m q3:=T.but (T.but (T.but hj s1.extBut D.zg) s2.extBut D.ig) s3.extBut D.tg;refine wpAny_bind (wpAny_bind (wpAny_onRaise (wpAny_bind (m:=Builtin.SmallTypes.nextOf (.ref j)) (T.item _ m _ y _ _ j3 hy λ q4 j4 s4=>wpAny_pure ?_))));have o4:IsPair q4 TO x b:=s4.extBut _ _ jTO.symm o3;refine wpAny_bind (wpAny_seqItems o4 rfl (wpAny_bind (wpAny_updateSeq_pair o4 λ q5 o5 s5=>wpAny_bind (wpAny_letGo (wpAny_pure (wpAny_pure ?_))))));replace o5:IsPair q5 TO x y:=o5;refine wpAny_bind (wpAny_seqItems o5 rfl (wpAny_bind (wpAny_newTuple ?_)));have sz:q5.objs.size=s.heap.objs.size:=by rw [s5.1,s4.1,s3.1,s2.1,s1.1]
 have z5:IsZip q5 z TI TO .ellipsis:=s5.extBut _ _ D.zt (s4.extBut _ _ jz.symm (s3.extBut _ _ D.zt (s2.extBut _ _ iz.symm z1)))
 have k5:∀ c o,c ∉ [z,TO,i,j]->s.heap.get? c=some o->q5.get? c=some o:=λ c o hc e=>by
  simp only [J2,JV,Li,not_or] at hc;exact s5.extBut _ _ hc.2.1 (s4.extBut _ _ hc.2.2.2 (s3.extBut _ _ hc.2.1 (s2.extBut _ _ hc.2.2.1 (s1.extBut _ _ hc.1 e))))
 have i5:ti (k+1) q5:=S.but (S.but (S.but i2 s3.extBut D.tf) s4.extBut D.jf) s5.extBut D.tf;have j5:tj (m+1) q5:=T.but j4 s5.extBut D.tg;have zlt:z < q5.objs.size:=Heap.lt_size z5;refine wpAny_bind (m:=Builtin.SmallTypes.ownedTupleHandOut (.ref z) (.ref q5.objs.size)) ?_;unfold Builtin.SmallTypes.ownedTupleHandOut;have z6:IsZip (q5.push { cls:=.type "tuple",data:=.seq #[x,y] }) z TI TO .ellipsis:=Heap.get?_push_of_some _ z5;refine wpAny_bind (wpAny_setField_rec z6 (by simp) λ q7 z7 s7=>?_);replace z7:IsZip q7 z TI TO (rawInt q5.objs.size):=z7;refine wpAny_setField_rec z7 (by simp) λ q8 z8 s8=>?_;replace z8:IsZip q8 z TI TO (rawInt q5.objs.size):=z8;have up:∀ c o,c ≠ z->q5.get? c=some o->q8.get? c=some o:=λ c o hc e=>s8.extBut _ _ hc (s7.extBut _ _ hc (Heap.get?_push_of_some _ e));have t8:IsPair q8 q5.objs.size x y:=s8.extBut _ _ (Nat.ne_of_gt zlt) (s7.extBut _ _ (Nat.ne_of_gt zlt) (Heap.get?_push_size _ rfl));have n8:q8.objs.size=q5.objs.size+1:=by rw [s8.1,s7.1,Heap.size_push]
 rw [sz] at z8 t8 n8;refine JE ⟨_,rfl,?_⟩
 show Q (.ref q5.objs.size) _
 rw [sz];exact hQ q8 z8 (up _ _ D.zt.symm o5) (S.keep _ _ _ i5 λ c hc o e=>up c o (dG hc D.zf) e) (T.keep _ _ _ j5 λ c hc o e=>up c o (dG hc D.zg) e) t8 n8 λ c o hc e=>up c o (λ q=>hc (by simp [q])) (k5 c o hc e)
theorem vI(hh:A.handled=none)(S:Src prog w i f ti vi)(T:Src prog w j g tj vj)(D:i6 z TI TO i j f g){Q:Fin->Shared->Prop}
  (hz:IsZip s.heap z TI TO .none) (hTI:IsPair s.heap TI (.ref i) (.ref j)) (hTO:IsPair s.heap TO a b) (hi:ti k s.heap) (hj:tj m s.heap) (hxy:vi k=none\/vj m=none)
  (hE:∀ h' e,(∀ c o,c ∉ [z,TO,i,j]->s.heap.get? c=some o->h'.get? c=some o)->(∃ o,h'.get? e=some o/\o.cls=.type "StopIteration")->E (.ref e) { s with heap:=h' }) :
  wpAny (model prog w) A (Builtin.«zip.__next__» ⟨[.ref z],[]⟩) Q E s:=by
 have iz:i ≠ z:=dG S.mem D.zf;have jz:j ≠ z:=dG T.mem D.zg;have iTO:i ≠ TO:=dG S.mem D.tf;have jTO:j ≠ TO:=dG T.mem D.tg;refine wpAny_bind (m:=field (.ref z) 2) (wpAny_field hz rfl (x:=.bool false) rfl ?_);refine wpAny_bind (m:=field (.ref z) 3) (wpAny_field hz rfl (x:=.ref TI) rfl (wpAny_bind (wpAny_seqItems hTI rfl ?_)));refine wpAny_bind (m:=Builtin.SmallTypes.ownedTupleIsFree (.ref z)) ?_;unfold Builtin.SmallTypes.ownedTupleIsFree;refine wpAny_bind (wpAny_field hz rfl (x:=.none) rfl (wpAny_pure ?_));simp only [if_true];refine wpAny_bind (wpAny_rule (wpAny_bind (wpAny_field hz rfl (x:=.ref TO) rfl (wpAny_bind (wpAny_setField_rec hz (by simp) λ q1 z1 s1=>?_)))));replace z1:IsZip q1 z TI TO .ellipsis:=z1;refine wpAny_bind ?_;simp only [List.zipIdx_cons,List.zipIdx_nil,List.forIn_cons,List.forIn_nil];refine wpAny_bind (wpAny_bind (wpAny_onRaise (wpAny_bind (m:=Builtin.SmallTypes.nextOf (.ref i)) ?_)))
 cases hx:vi k with
 | none=>
  refine S.fin _ k _ _ _ hh (S.but hi s1.extBut D.zf) hx λ q2 e s2 ⟨oe,he,hce⟩=>?_;have z2:IsZip q2 z TI TO .ellipsis:=s2 _ _ iz.symm z1;have ez:e ≠ z:=λ q=>by subst q;rw [z2] at he;cases he;simp at hce
  refine K5 z2 (by simp) λ q3 _ s3=>hE q3 e (λ c o hc q=>?_) ⟨oe,s3.extBut _ _ ez he,hce⟩;simp only [J2,JV,Li,not_or] at hc;exact s3.extBut _ _ hc.1 (s2 _ _ hc.2.2.1 (s1.extBut _ _ hc.1 q))
 | some x=>
  have hy:vj m=none:=hxy.resolve_left (by rw [hx];exact Option.some_ne_none x);refine S.item _ k _ x _ _ (S.but hi s1.extBut D.zf) hx λ q2 i2 s2=>JE ?_;have o2:IsPair q2 TO a b:=s2.extBut _ _ iTO.symm (s1.extBut _ _ D.zt.symm hTO);refine Jx (K2 o2 rfl (Jx (Mi o2 λ q3 o3 s3=>Jx (wpAny_letGo (JE ?_)))));have j3:tj m q3:=T.but (T.but (T.but hj s1.extBut D.zg) s2.extBut D.ig) s3.extBut D.tg;refine Jx (Jx (Mw (Jx (m:=Builtin.SmallTypes.nextOf (.ref j)) (T.fin _ m _ _ _ hh j3 hy λ q4 e s4 ⟨oe,he,hce⟩=>?_))));have z4:IsZip q4 z TI TO .ellipsis:=s4 _ _ jz.symm (s3.extBut _ _ D.zt (s2.extBut _ _ iz.symm z1));have ez:e ≠ z:=λ q=>by subst q;rw [z4] at he;cases he;simp at hce
  refine K5 z4 (by simp) λ q5 _ s5=>hE q5 e (λ c o hc q=>?_) ⟨oe,s5.extBut _ _ ez he,hce⟩;simp only [J2,JV,Li,not_or] at hc;exact s5.extBut _ _ hc.1 (s4 _ _ hc.2.2.2 (s3.extBut _ _ hc.2.1 (s2.extBut _ _ hc.2.2.1 (s1.extBut _ _ hc.1 q))))
theorem iT(S:Src prog w i f ti vi)(T:Src prog w j g tj vj)(D:i6 z TI TO i j f g){Q:Option Value->Shared->Prop}
  (hz:IsZip s.heap z TI TO .none) (hTI:IsPair s.heap TI (.ref i) (.ref j)) (hTO:IsPair s.heap TO a b) (hi:ti k s.heap) (hj:tj m s.heap) (hx:vi k=some x) (hy:vj m=some y)
  (hQ:∀ h',IsZip h' z TI TO (rawInt s.heap.objs.size)->IsPair h' TO x y->ti (k+1) h'->tj (m+1) h'->IsPair h' s.heap.objs.size x y->h'.objs.size=s.heap.objs.size+1->(∀ c o,c ∉ [z,TO,i,j]->s.heap.get? c=some o->h'.get? c=some o)->Q (some (.ref s.heap.objs.size)) { s with heap:=h' }) :
  wpAny (model prog w) A (pyNext (.ref z)) Q E s:=by
 have ty:s.TypeIs (.ref z) "zip":=⟨_,hz,rfl⟩;unfold pyNext;exact wpAny_bind (wpAny_attempt (wpAny_callSpecial?_slot (name:=Str.ofString "__next__") ty F.slot_zip_next (wpAny_call_entry F.slot_zip_next ty F.entry_zip_next (sP S T D hz hTI hTO hi hj hx hy λ h' c1 c2 c3 c4 c5 c6 c7=>wpAny_pure (hQ h' c1 c2 c3 c4 c5 c6 c7)) (F.args_zip_next_1 _))))
theorem kg(hh:A.handled=none)(S:Src prog w i f ti vi)(T:Src prog w j g tj vj)(D:i6 z TI TO i j f g){Q:Option Value->Shared->Prop}
  (hz:IsZip s.heap z TI TO .none) (hTI:IsPair s.heap TI (.ref i) (.ref j)) (hTO:IsPair s.heap TO a b) (hi:ti k s.heap) (hj:tj m s.heap) (hxy:vi k=none\/vj m=none)
  (hQ:∀ h',(∀ c o,c ∉ [z,TO,i,j]->s.heap.get? c=some o->h'.get? c=some o)->Q none { s with heap:=h' }):wpAny (model prog w) A (pyNext (.ref z)) Q E s:=by
 have ty:s.TypeIs (.ref z) "zip":=⟨_,hz,rfl⟩;unfold pyNext;refine wpAny_bind (wpAny_attempt (wpAny_callSpecial?_slot (name:=Str.ofString "__next__") ty F.slot_zip_next (wpAny_call_entry F.slot_zip_next ty F.entry_zip_next (vI (show A.in1.handled=none from hh) S T D hz hTI hTO hi hj hxy λ h' e kp he=>?_) (F.args_zip_next_1 _))));obtain⟨o,ho,hc⟩:=he;exact wpAny_bind (wpAny_isInstance (T := "StopIteration") (b:=true) ⟨o,ho,hc⟩ isSubtype_stop (wpAny_pure (hQ _ kp)))
end
def SeqAt(h:Heap)(k:Bool)(l:Addr)(xs:Array Value):Prop:=match k with
 | true=>h.IsTuple l xs
 | false=>h.IsList l xs
def cJ(h:Heap)(k:Bool)(it l:Addr)(n:Nat):Prop:=match k with
 | true=>h.IsTupleIter it l n
 | false=>h.IsListIter it l n
def vF(k:Bool)(l:Addr):Obj:=match k with
 | true=>{ cls:=.type "tuple_iterator",data:=.fields #[.ref l,.int 0 0] }
 | false=>{ cls:=.type "list_iterator",data:=.fields #[.ref l,.int 0 0] }
theorem SeqAt.at{h h':Heap}{k:Bool}{l:Addr}{xs:Array Value}(q:SeqAt h k l xs)(e:∀ o,h.get? l=some o->h'.get? l=some o):SeqAt h' k l xs:=by
 cases k
 ·exact Heap.IsList.at q e
 ·exact Heap.IsTuple.at q e
theorem cJ.at{h h':Heap}{k:Bool}{it l:Addr}{n:Nat}(q:cJ h k it l n)(e:∀ o,h.get? it=some o->h'.get? it=some o):cJ h' k it l n:=by
 cases k
 ·exact Heap.IsListIter.at q e
 ·exact Heap.IsTupleIter.at q e
theorem cJ.obj{h:Heap}{k:Bool}{it l:Addr}{n:Nat}(q:cJ h k it l n):∃ o fs,h.get? it=some o/\o.data=.fields fs:=by
 cases k
 ·obtain⟨o,e,_,d⟩:=(show h.IsListIter it l n from q);exact⟨o,_,e,d⟩
 ·obtain⟨o,e,_,d⟩:=(show h.IsTupleIter it l n from q);exact⟨o,_,e,d⟩
theorem og{prog:Program}{w:World}(k:Bool)(it l:Addr)(hne:l ≠ it)(xs:Array Value):Src prog w it [it,l] (λ n h=>cJ h k it l n/\SeqAt h k l xs) (λ n=>xs[n]?):=by
 cases k
 ·exact vO it l hne xs
 ·exact zF it l hne xs
section
variable {prog:Program}{w:World}{A:Around}{E:Value->Shared->Prop}{s:Shared}
theorem sv{k:Bool}{l:Addr}{xs:Array Value}{Q:Value->Shared->Prop}(h:SeqAt s.heap k l xs)(hQ:Q (.ref s.heap.objs.size) { s with heap:=s.heap.push (vF k l) }):wpAny (model prog w) A (pyIter (.ref l)) Q E s:=by
 cases k
 ·exact LX h hQ
 ·exact wpAny_pyIter_tuple h hQ
abbrev zq1(ka:Bool)(a:Addr)(h:Heap):Heap:=h.push (vF ka a)
abbrev zq2(ka kb:Bool)(a b:Addr)(h:Heap):Heap:=(zq1 ka a h).push (vF kb b)
abbrev zq3(ka kb:Bool)(a b:Addr)(h:Heap):Heap:=(zq2 ka kb a b h).push { cls:=.type "tuple",data:=.seq #[.ref h.objs.size,.ref (zq1 ka a h).objs.size] }
abbrev zq4(ka kb:Bool)(a b:Addr)(h:Heap):Heap:=(zq3 ka kb a b h).push { cls:=.type "tuple",data:=.seq #[.none,.none] }
abbrev zq5(ka kb:Bool)(a b:Addr)(h:Heap):Heap:=(zq4 ka kb a b h).push { cls:=.type "zip",data:=.fields #[.none,.bool false,.bool false,.ref (zq2 ka kb a b h).objs.size,.ref (zq3 ka kb a b h).objs.size] }
theorem sO(ka kb:Bool)(a b:Addr)(xs ys:Array Value):Meets (Builtin.«zip.__new__» ⟨[.type "zip",.ref a,.ref b],[]⟩) (λ _ R s=>SeqAt s.heap ka a xs/\SeqAt s.heap kb b ys/\R (.ok (.ret (.ref (zq4 ka kb a b s.heap).objs.size))) { s with heap:=zq5 ka kb a b s.heap }):=
 .of_wp λ prog w A R s h=>by
  obtain⟨hp,g,d,tk,os⟩:=s;obtain⟨h1,h2,h⟩:=h;have hsub:=sub_zip;have q1:SeqAt (Shared.heap ⟨hp,g,d,tk,os⟩) ka a xs:=h1;have q2:SeqAt (Shared.heap ⟨hp.push (vF ka a),g,d,tk,os⟩) kb b ys:=h2.at λ o e=>Jz _ e
  wp_walk using sv q1,sv q2
  exact⟨_,rfl,h⟩
theorem BA{ka kb:Bool}{a b:Addr}{xs ys:Array Value}{Q:Value->Shared->Prop}(h1:SeqAt s.heap ka a xs)(h2:SeqAt s.heap kb b ys)
  (h:∀ h' n,n=s.heap.objs.size->IsZip h' (n+4) (n+2) (n+3) .none->IsPair h' (n+2) (.ref n) (.ref (n+1))->IsPair h' (n+3) .none .none->cJ h' ka n a 0->cJ h' kb (n+1) b 0->h'.objs.size=n+5->(∀ c o,s.heap.get? c=some o->h'.get? c=some o)->Q (.ref (n+4)) { s with heap:=h' }) :
  wpAny (model prog w) A (call (.type "zip") [.ref a,.ref b]) Q E s:=by
 refine callType_new F.called_zip (by decide) (F.typeCall_zip_2 _ _) (F.newCall_zip_2 _ _) (λ ob=>F.args_object_init_3 ob _ _) F.entry_zip_new (sO ka kb a b xs ys) ⟨h1,h2,?_⟩;have n1:(zq1 ka a s.heap).objs.size=s.heap.objs.size+1:=Kx ..;have n2:(zq2 ka kb a b s.heap).objs.size=s.heap.objs.size+2:=by rw [Kx,n1]
 have n3:(zq3 ka kb a b s.heap).objs.size=s.heap.objs.size+3:=by rw [Kx,n2]
 have n4:(zq4 ka kb a b s.heap).objs.size=s.heap.objs.size+4:=by rw [Kx,n3]
 have n5:(zq5 ka kb a b s.heap).objs.size=s.heap.objs.size+5:=by rw [Kx,n4]
 have f1:cJ (zq1 ka a s.heap) ka s.heap.objs.size a 0:=by
  cases ka<;>exact⟨_,JK _ rfl,rfl,rfl⟩
 have f2:cJ (zq2 ka kb a b s.heap) kb (zq1 ka a s.heap).objs.size b 0:=by
  cases kb<;>exact⟨_,JK _ rfl,rfl,rfl⟩
 have u2:∀ c o,(zq2 ka kb a b s.heap).get? c=some o->(zq5 ka kb a b s.heap).get? c=some o:=λ c o e=>Jz _ (Jz _ (Jz _ e));have g5:(zq5 ka kb a b s.heap).get? (zq4 ka kb a b s.heap).objs.size=some _:=JK _ rfl;have g4:(zq5 ka kb a b s.heap).get? (zq3 ka kb a b s.heap).objs.size=some _:=Jz _ (JK _ rfl);have g3:(zq5 ka kb a b s.heap).get? (zq2 ka kb a b s.heap).objs.size=some _:=Jz _ (Jz _ (JK _ rfl));have e1:cJ (zq5 ka kb a b s.heap) ka s.heap.objs.size a 0:=f1.at λ o e=>u2 _ o (Jz _ e);have e2:cJ (zq5 ka kb a b s.heap) kb (zq1 ka a s.heap).objs.size b 0:=f2.at λ o e=>u2 _ o e
 show _/\_
 rw [n2,n3,n4] at g5;rw [n1,n2] at g3;rw [n3] at g4;rw [n1] at e2;rw [n4];exact⟨⟨_,g5,rfl⟩,h _ _ rfl g5 g3 g4 e1 e2 n5 λ c o e=>u2 c o (Jz _ (Jz _ e))⟩
end
section
variable {X:Cx}{pins:List (Addr × Obj)}{σ:List (Option V)}{H:Hp}{s:Shared}{h':Heap}
theorem Inv.turnNew{t':Nat}{ch:List Addr}{n:Addr}{o:HO}(I:Inv X pins σ H s)(hch:∀ b∈ch,mJ X pins H b)(k:∀ b ob,b ∉ ch->s.heap.get? b=some ob->h'.get? b=some ob)(hn:s.heap.objs.size<=n)(new:bK X.prog X.w (upd H n o) h' n o) :
  Inv X pins σ (upd H n o) { s with heap:=h',toks:=t' }:=by
 have fn:=I.hok.fresh hn;have up:∀ {b u},H b=some u->upd H n o b=some u:=λ {b u} e=>by rw [ah (bO e fn)];exact e
 have nch:∀ {b u},H b=some u->b ∉ ch:=λ {b u} e z=>by rw [(hch b z).1] at e;cases e
 refine I.step (g':=s.gens) (d':=s.drawn) (ch:=ch) (λ b hb=>⟨(hch b hb).2.2.2.1,(hch b hb).2.1,(hch b hb).2.2.2.2.1,(hch b hb).2.2.2.2.2⟩) (λ b ob _ _ hc e _=>k b ob hc e) (λ b ob _ _ hc e _=>⟨ob.slots,k b ob hc e⟩)
  (λ b ob _ e q=>?_) (λ b ob hc e=>⟨ob,k b ob hc e⟩) (λ _ _ e=>up e) (λ _ _ _ e=>up e) (λ b ps e=>⟨#[],by rw [up e];simp⟩) (λ m hm=>?_) (λ b u e=>?_) I.bare
 ·rw [ah (JR (JN (JF e) hn))];exact q
 ·obtain⟨ol,es,ep,ho,r⟩:=hm;exact⟨ol,es,ep,k _ ol (λ z=>(hch _ z).2.1 rfl) ho,r⟩
 ·by_cases hb:b=n
  ·subst hb;rw [ag] at e;cases e;exact new
  ·rw [ah hb] at e;refine(I.hok b u e).stay (λ c v hc q=>k c v ?_ q) (λ c q=>up q) λ c xs q=>up q
   rcases hc with rfl|hc
   ·exact nch e
   ·exact nch hc
theorem Inv.turnL{t':Nat}{ch:List Addr}(I:Inv X pins σ H s)(hch:∀ b∈ch,mJ X pins H b)(k:∀ b ob,b ∉ ch->s.heap.get? b=some ob->h'.get? b=some ob):Inv X pins σ H { s with heap:=h',toks:=t' }:=by
 have nch:∀ {b u},H b=some u->b ∉ ch:=λ {b u} e z=>by rw [(hch b z).1] at e;cases e
 refine I.step (g':=s.gens) (d':=s.drawn) (ch:=ch) (λ b hb=>⟨(hch b hb).2.2.2.1,(hch b hb).2.1,(hch b hb).2.2.2.2.1,(hch b hb).2.2.2.2.2⟩) (λ b ob _ _ hc e _=>k b ob hc e) (λ b ob _ _ hc e _=>⟨ob.slots,k b ob hc e⟩)
  (λ _ _ _ _ q=>q) (λ b ob hc e=>⟨ob,k b ob hc e⟩) (λ _ _ e=>e) (λ _ _ _ e=>e) (λ b ps e=>⟨#[],by rw [e];simp⟩) (λ m hm=>?_) (λ b u e=>?_) I.bare
 ·obtain⟨ol,es,ep,ho,r⟩:=hm;exact⟨ol,es,ep,k _ ol (λ z=>(hch _ z).2.1 rfl) ho,r⟩
 ·refine(I.hok b u e).stay (λ c v hc q=>k c v ?_ q) (λ _ q=>q) λ _ _ q=>q
  rcases hc with rfl|hc
  ·exact nch e
  ·exact nch hc
end
def SqK(k:Bool)(H:Hp)(a:Addr)(xs:List V):Prop:=match k with
 | true=>H a=some (.tup xs)
 | false=>H a=some (.lst xs)
theorem SqK.ne{k:Bool}{H:Hp}{a b:Addr}{xs:List V}(h:SqK k H a xs)(e:H b=none):a ≠ b:=λ z=>by
 subst z;cases k
 ·rw [show H a=some (.lst xs) from h] at e;cases e
 ·rw [show H a=some (.tup xs) from h] at e;cases e
theorem Inv.sq{X:Cx}{pins:List (Addr × Obj)}{σ:St}{H:Hp}{s:Shared}{k:Bool}{a:Addr}{xs:List V}(I:Inv X pins σ H s)(h:SqK k H a xs):∃ its:List Value,bq xs its/\SeqAt s.heap k a its.toArray:=by
 cases k
 ·obtain⟨its,r,p,_⟩:=I.list (SqL.of h);exact⟨its,r,p.isList⟩
 ·obtain⟨its,r,p,_⟩:=I.tuple (SqT.of h);exact⟨its,r,p⟩
def Itz(ka kb:Bool)(a b:Addr)(xs ys:List V):It:=
 ⟨λ i H=>SqK ka H a xs/\SqK kb H b ys/\i < xs.length/\i < ys.length,λ i H x H'=>∃ p u v,H p=none/\x=.ref p/\xs[i]? = some u/\ys[i]? = some v/\H'=upd H p (.tup [u,v]),λ i H=>SqK ka H a xs/\SqK kb H b ys/\(xs.length<=i\/ys.length<=i)⟩
def Tnz(ka kb:Bool)(a b z TI TO p q:Addr)(i:Nat)(h:Heap):Prop:=IsZip h z TI TO .none/\IsPair h TI (.ref p) (.ref q)/\(∃ u v,IsPair h TO u v)/\cJ h ka p a i/\cJ h kb q b i
theorem vM{P:Program}{w:World}{K:W.Frag}{elts:List Expr}{x1}{tp:Pos}(ka kb:Bool)(a b z TI TO p q:Addr)(xs ys:List V)(nd:[z,TI,TO,p,q].Nodup):yJ P w K (.Tuple elts x1 tp) (Itz ka kb a b xs ys) [z,TI,TO,p,q] z (Tnz ka kb a b z TI TO p q) where
 mem:=JI
 obj:=λ i h st c hc=>by
  obtain⟨e1,e2,⟨u,v,e3⟩,e4,e5⟩:=st;simp only [J2,JV,Li] at hc
  rcases hc with rfl|rfl|rfl|rfl|rfl
  ·exact⟨_,e1,λ v z=>by cases z⟩
  ·exact⟨_,e2,λ v z=>by cases z⟩
  ·exact⟨_,e3,λ v z=>by cases z⟩
  ·obtain⟨o,fs,e,d⟩:=e4.obj;exact⟨o,e,λ v z=>by rw [d] at z;cases z⟩
  ·obtain⟨o,fs,e,d⟩:=e5.obj;exact⟨o,e,λ v z=>by rw [d] at z;cases z⟩
 keep:=λ i h h' st k=>by
  obtain⟨e1,e2,⟨u,v,e3⟩,e4,e5⟩:=st;exact⟨k z (by simp) _ e1,k TI (by simp) _ e2,⟨u,v,k TO (by simp) _ e3⟩,e4.at λ o e=>k p (by simp) o e,e5.at λ o e=>k q (by simp) o e⟩
 item:=by
  intro X hP hw hK hc i pins s σ H E I hf st hg;subst hP hw hK;obtain⟨e1,e2,⟨u0,v0,e3⟩,e4,e5⟩:=st;obtain⟨ha,hb,l1,l2⟩:=hg;obtain⟨as,ra,sa⟩:=I.sq ha;obtain⟨bs,rb,sb⟩:=I.sq hb;have hx:xs[i]? = some xs[i]:=Jy l1;have hy:ys[i]? = some ys[i]:=Jy l2;obtain⟨u,hu,ru⟩:=ra.get hx;obtain⟨v,hv,rv⟩:=rb.get hy;have free:∀ c∈[z,TI,TO,p,q],H c=none:=λ c h=>(hf c h).1;have naz:∀ c∈[z,TI,TO,p,q],a ≠ c:=λ c h=>ha.ne (free c h);have nbz:∀ c∈[z,TI,TO,p,q],b ≠ c:=λ c h=>hb.ne (free c h);simp only [Kz,J2,JV,Li,not_or,not_false_eq_true,and_true,Mv] at nd;obtain⟨⟨z1,z2,z3,z4⟩,⟨t1,t2,t3⟩,⟨w1,w2⟩,y1⟩:=nd;have S:=og (prog:=X.prog) (w:=X.w) ka p a (naz p (by simp)) as.toArray;have T:=og (prog:=X.prog) (w:=X.w) kb q b (nbz q (by simp)) bs.toArray;have D:i6 z TI TO p q [p,a] [q,b]:=⟨⟨J6 z1,t1,t2,t3⟩,z2,by simp [z3,J6 (naz z (by simp))],by simp [z4,J6 (nbz z (by simp))],by simp [w1,J6 (naz TO (by simp))],by simp [w2,J6 (nbz TO (by simp))],by simp [y1,J6 (nbz p (by simp))],by simp [J6 y1,J6 (naz q (by simp))]⟩;refine iT S T D e1 e2 e3 ⟨e4,sa⟩ ⟨e5,sb⟩ (x:=u) (y:=v) (by simpa using hu) (by simpa using hv) λ h1 c1 c2 c3 c4 c5 c6 c7=>?_;refine⟨_,rfl,wpAny_letOwnedTupleGo_zip (s:={ s with heap:=h1 }) c1 λ h2 d1 d2=>?_⟩;have lt:z < s.heap.objs.size:=JF e1;have kp:∀ c o,c ∉ [z,TO,p,q]->s.heap.get? c=some o->h2.get? c=some o:=λ c o hc e=>d2.extBut _ _ (λ q=>hc (by simp [q])) (c7 c o hc e);have hn:h2.get? s.heap.objs.size=some { cls:=.type "tuple",data:=.seq #[u,v] }:=d2.extBut _ _ (LA lt) c5;have I2:Inv X pins σ (upd H s.heap.objs.size (.tup [xs[i],ys[i]])) { s with heap:=h2 }:=I.turnNew (t':=s.toks) (ch:=[z,TO,p,q]) (λ c hc=>hf c (by simp only [J2,JV,Li] at hc ⊢;rcases hc with h|h|h|h<;>simp [h])) kp (JB _) ⟨(show 2<=sizeLine by decide),[u,v],.cons ru (.cons rv .nil),⟨_,hn,rfl,_,rfl⟩⟩;have fr:H s.heap.objs.size=none:=I.hok.fresh (JB _);refine⟨.ref s.heap.objs.size,_,I2,rfl,⟨_,_,_,fr,rfl,hx,hy,rfl⟩,⟨d1,d2.extBut _ _ (J6 z1) (c7 TI _ (by simp [J6 z1,t1,t2,t3]) e2),⟨u,v,d2.extBut _ _ (J6 z2) c2⟩,c3.1.at λ o e=>d2.extBut _ _ (J6 z3) e,c4.1.at λ o e=>d2.extBut _ _ (J6 z4) e⟩,λ c hc=>?_⟩
  obtain⟨o,ho,_⟩:∃ o,s.heap.get? c=some o/\True:=by
   simp only [J2,JV,Li] at hc
   rcases hc with rfl|rfl|rfl|rfl|rfl
   ·exact⟨_,e1,trivial⟩
   ·exact⟨_,e2,trivial⟩
   ·exact⟨_,e3,trivial⟩
   ·obtain⟨o,_,e,_⟩:=e4.obj;exact⟨o,e,trivial⟩
   ·obtain⟨o,_,e,_⟩:=e5.obj;exact⟨o,e,trivial⟩
  rw [ah (JR (JF ho))];exact free c hc
 done:=by
  intro X hP hw hK hc i pins s σ H E I hf st hg;subst hP hw hK;obtain⟨e1,e2,⟨u0,v0,e3⟩,e4,e5⟩:=st;obtain⟨ha,hb,l⟩:=hg;obtain⟨as,ra,sa⟩:=I.sq ha;obtain⟨bs,rb,sb⟩:=I.sq hb;have free:∀ c∈[z,TI,TO,p,q],H c=none:=λ c h=>(hf c h).1;have naz:∀ c∈[z,TI,TO,p,q],a ≠ c:=λ c h=>ha.ne (free c h);have nbz:∀ c∈[z,TI,TO,p,q],b ≠ c:=λ c h=>hb.ne (free c h);simp only [Kz,J2,JV,Li,not_or,not_false_eq_true,and_true,Mv] at nd;obtain⟨⟨z1,z2,z3,z4⟩,⟨t1,t2,t3⟩,⟨w1,w2⟩,y1⟩:=nd;have S:=og (prog:=X.prog) (w:=X.w) ka p a (naz p (by simp)) as.toArray;have T:=og (prog:=X.prog) (w:=X.w) kb q b (nbz q (by simp)) bs.toArray;have D:i6 z TI TO p q [p,a] [q,b]:=⟨⟨J6 z1,t1,t2,t3⟩,z2,by simp [z3,J6 (naz z (by simp))],by simp [z4,J6 (nbz z (by simp))],by simp [w1,J6 (naz TO (by simp))],by simp [w2,J6 (nbz TO (by simp))],by simp [y1,J6 (nbz p (by simp))],by simp [J6 y1,J6 (naz q (by simp))]⟩;have la:=ra.length;have lb:=rb.length;refine kg (I.ok.hd hc) S T D e1 e2 e3 ⟨e4,sa⟩ ⟨e5,sb⟩ (l.imp (λ h=>by simp;omega) λ h=>by simp;omega) λ h1 kp=>⟨rfl,I.turnL (t':=s.toks) (ch:=[z,TO,p,q]) (λ c hc=>hf c (by simp only [J2,JV,Li] at hc ⊢;rcases hc with h|h|h|h<;>simp [h])) kp⟩
 self:=λ _ _ _ _ _ st h=>wpAny_pyIter_zip st.1 h
def kZ2(ka:Bool)(a b:Addr)(xs:List V)(H:Hp)(R:It->Hp->Prop):HO->Prop:=λ o=>match o with
 | .lst ys=>R (Itz ka false a b xs ys) H
 | .tup ys=>R (Itz ka true a b xs ys) H
 | _=>False
theorem AI(ka:Bool)(a b:Addr)(xs ys:List V)(H:Hp)(R:It->Hp->Prop):kZ2 ka a b xs H R (.lst ys)=R (Itz ka false a b xs ys) H:=rfl
def kZ1(a b:Addr)(H:Hp)(R:It->Hp->Prop):HO->Prop:=λ o=>match o with
 | .lst xs=>aW (H b) (kZ2 false a b xs H R)
 | .tup xs=>aW (H b) (kZ2 true a b xs H R)
 | _=>False
theorem AJ(a b:Addr)(xs:List V)(H:Hp)(R:It->Hp->Prop):kZ1 a b H R (.lst xs)=aW (H b) (kZ2 false a b xs H R):=rfl
def kZ0(R:It->Hp->Prop):List V->Hp->Prop:=λ vs H=>match vs with
 | [.ref a,.ref b]=>aW (H a) (kZ1 a b H R)
 | _=>False
theorem GJ(R:It->Hp->Prop)(a b:Addr)(H:Hp):kZ0 R [.ref a,.ref b] H=aW (H a) (kZ1 a b H R):=rfl
def Il(ta:TA):TI:=λ σ H R=>ta σ H (kZ0 R)
theorem EA(ta:TA)(σ:St)(H:Hp)(R:It->Hp->Prop):Il ta σ H R=ta σ H (kZ0 R):=rfl
theorem EL{R:It->Hp->Prop}{vs:List V}{H:Hp}(h:kZ0 R vs H):∃ a b ka kb xs ys,vs=[.ref a,.ref b]/\SqK ka H a xs/\SqK kb H b ys/\R (Itz ka kb a b xs ys) H:=by
 unfold kZ0 at h;split at h
 ·rename_i a b;obtain⟨o,e,h⟩:=ar h;unfold kZ1 at h;split at h
  ·rename_i xs;obtain⟨o',e',h⟩:=ar h;unfold kZ2 at h;split at h
   ·exact⟨a,b,false,false,xs,_,rfl,e,e',h⟩
   ·exact⟨a,b,false,true,xs,_,rfl,e,e',h⟩
   ·exact h.elim
  ·rename_i xs;obtain⟨o',e',h⟩:=ar h;unfold kZ2 at h;split at h
   ·exact⟨a,b,true,false,xs,_,rfl,e,e',h⟩
   ·exact⟨a,b,true,true,xs,_,rfl,e,e',h⟩
   ·exact h.elim
  ·exact h.elim
 ·exact h.elim
section
variable {X:Cx}
theorem rM{a b:Expr}{elts:List Expr}{x1}{tp:Pos}{ta:TA}{p pos:Pos}(hg:Gl X "zip")(hm:X.mg "zip"=none)(ha:PA X [a,b] ta)(hs:starEach [a,b] X.env=[(false,eval a X.env),(false,eval b X.env)]:=by rfl)(hs2:starEach [b] X.env=[(false,eval b X.env)]:=by rfl) :
  PI X (.Tuple elts x1 tp) (.Call (.Name "zip" p) [a,b] [] pos) (Il ta):=by
 intro pins s σ H R I h;refine Call_ (gL I hg hm (show bootBuiltins "zip"=some (.type "zip") by decide +kernel) (Ly (thn (ha pos pins s σ H _ I h) λ us s1 ⟨vs,H1,I1,r1,q1⟩=>?_) (by rw [hs,hs2]) (by rw [hs2];rfl)));obtain⟨a,b,ka,kb,xs,ys,rfl,sa,sb,q⟩:=EL q1
 cases r1 with
 | cons r rr=>
  cases rr with
  | cons r' rr=>
   cases rr;cases r;cases r';obtain⟨as,ra,s1a⟩:=I1.sq sa;obtain⟨bs,rb,s1b⟩:=I1.sq sb;refine BA s1a s1b λ h' n hn e1 e2 e3 e4 e5 e6 e7=>?_;have I2:Inv X pins σ H1 { s1 with heap:=h' }:=I1.kept (t':=s1.toks) e7;refine wpAny_pyIter_zip (s:={ s1 with heap:=h' }) e1 ⟨n+4,[n+4,n+2,n+3,n,n+1],_,_,H1,rfl,I2,vM ka kb a b (n+4) (n+2) (n+3) n (n+1) xs ys (by simp),⟨e1,e2,⟨_,_,e3⟩,e4,e5⟩,λ c hc=>?_,q⟩
   have hle:s1.heap.objs.size<=c:=by
    rw [←hn];simp only [J2,JV,Li] at hc
    rcases hc with rfl|rfl|rfl|rfl|rfl
    ·exact LQ ..
    ·exact LQ ..
    ·exact LQ ..
    ·exact JB _
    ·exact LQ ..
   exact I1.fpOk hle (I1.hok.fresh hle)
end
def BU(te:TE)(σ2:St)(N1:VK)(N0:Hp->Prop):Bool->Hp->Prop:=λ b H=>if b=true then te σ2 H N1 else N0 H
theorem aV(te:TE)(σ2:St)(N1:VK)(N0:Hp->Prop)(b:Bool)(H:Hp):BU te σ2 N1 N0 b H=(if b=true then te σ2 H N1 else N0 H):=rfl
def kCm(k:Nat)(tt:TT)(te:TE)(σ:St)(N1:VK)(N0:Hp->Prop):St->Hp->Prop:=λ σ2 H=>(∃ vs:St,vs.length=k/\σ2=vs++σ)/\tt σ2 H (BU te σ2 N1 N0)
theorem bA(tt:TT)(te:TE)(σ:St)(N1:VK)(N0:Hp->Prop)(a:Option V)(H:Hp):kCm 1 tt te σ N1 N0 (a::σ) H=tt (a::σ) H (BU te (a::σ) N1 N0):=propext ⟨λ h=>h.2,λ h=>⟨⟨[a],rfl,rfl⟩,h⟩⟩
theorem cz(tt:TT)(te:TE)(σ:St)(N1:VK)(N0:Hp->Prop)(a b:Option V)(H:Hp):kCm 2 tt te σ N1 N0 (a::b::σ) H=tt (a::b::σ) H (BU te (a::b::σ) N1 N0):=propext ⟨λ h=>h.2,λ h=>⟨⟨[a,b],rfl,rfl⟩,h⟩⟩
theorem Av(σ:St):List.replicate 1 (none:Option V)++σ=none::σ:=rfl
theorem Au(σ:St):List.replicate 2 (none:Option V)++σ=none::none::σ:=rfl
theorem As(σ:St):List.replicate 3 (none:Option V)++σ=none::none::none::σ:=rfl
theorem nh(tt:TT)(te:TE)(σ:St)(N1:VK)(N0:Hp->Prop)(a b c:Option V)(H:Hp):kCm 3 tt te σ N1 N0 (a::b::c::σ) H=tt (a::b::c::σ) H (BU te (a::b::c::σ) N1 N0):=propext ⟨λ h=>h.2,λ h=>⟨⟨[a,b,c],rfl,rfl⟩,h⟩⟩
def Al{α:Type}(R:α->V->Prop)(zs:List α)(ys:List V):Prop:=ys.length=zs.length/\∀ (i:Nat) z y,zs[i]? = some z->ys[i]? = some y->R z y
theorem Al.nil{α:Type}{R:α->V->Prop}:Al R [] []:=⟨rfl,λ i z y h=>by simp at h⟩
theorem Al.snoc{α:Type}{R:α->V->Prop}{zs:List α}{ys:List V}{z:α}{y:V}(h:Al R zs ys)(r:R z y):Al R (zs++[z]) (ys++[y]):=by
 refine⟨by simp [h.1],λ i z' y' h1 h2=>?_⟩
 by_cases hi:i < zs.length
 ·rw [Kr hi] at h1;rw [Kr (by rw [h.1];exact hi)] at h2;exact h.2 i z' y' h1 h2
 ·rw [JX (by omega)] at h1;rw [JX (by rw [h.1];omega),h.1] at h2
  by_cases h0:i - zs.length=0
  ·rw [h0] at h1 h2;simp at h1 h2;subst h1;subst h2;exact r
  ·rw [KW (by simp;omega)] at h1;cases h1
theorem Al.imp{α:Type}{R S:α->V->Prop}{zs:List α}{ys:List V}(h:Al R zs ys)(f:∀ z y,R z y->S z y):Al S zs ys:=⟨h.1,λ i z y a b=>f z y (h.2 i z y a b)⟩
theorem Al.map{α:Type}{f:α->V}{zs:List α}{ys:List V}(h:Al (λ z y=>y=f z) zs ys):ys=zs.map f:=by
 apply List.ext_getElem?;intro i;rw [J4]
 by_cases hi:i < zs.length
 ·have e1:zs[i]? = some zs[i]:=Jy hi;have e2:ys[i]? = some (ys[i]'(by rw [h.1];exact hi)):=Jy _;rw [e1,e2,h.2 i _ _ e1 e2];rfl
 ·have:=h.1;rw [KW (show ys.length<=i by omega),KW (show zs.length<=i by omega)];rfl
section
variable {k:Nat}{g:TG}{tt:TT}{te:TE}{σ:St}{Q:VK}{H:Hp}{K:PySem.W.Frag}
theorem oX{α:Type}{J:It}(zs:List α)(c:α->Bool)(P:α->V->Hp->Prop)(R:Addr->α->V->Hp->Prop)
  (hgo:∀ i z H',zs[i]? = some z->Ext H H'->J.go i H'/\∀ x H'',J.yld i H' x H''->Ext H' H''/\P z x H'')
  (hst:∀ H',Ext H H'->J.stop zs.length H')
  (hR1:∀ D z y H1 H2,R D z y H1->Ext H1 H2->R D z y H2) (hR2:∀ D z y H1 o,R D z y H1->R D z y (upd H1 D o))
  (hl:zs.length<=sizeLine)
  (hs:∀ D z x H' N1 N0,z∈zs->H D=none->Ext H H'->(∃ ys,H' D=some (.lst ys))->P z x H'->(c z=true->∀ y H'',Ext H' H''->R D z y H''->N1 y H'')->(c z=false->∀ H'',Ext H' H''->N0 H'')->g x (List.replicate k none++σ) H' (kCm k tt te σ N1 N0))
  (hd:∀ D ys H',H D=none->Ext H H'->H' D=some (.lst ys)->Al (λ z y=>R D z y H') (zs.filter c) ys->Q (.ref D) H'):vC k g tt te σ Q J H:=by
 intro D hD;refine⟨λ i m ys H'=>m=zs.length - i/\i<=zs.length/\Ext H H'/\H' D=some (.lst ys)/\Al (λ z y=>R D z y H') ((zs.take i).filter c) ys,⟨zs.length,by simp,Kw _,Ext.new hD,ag,by simpa using Al.nil⟩,?_⟩;rintro i m ys H' ⟨rfl,hi,e,hD',al⟩
 by_cases hlt:i < zs.length
 ·have hz:zs[i]? = some zs[i]:=Jy hlt;obtain⟨go,y⟩:=hgo i zs[i] H' hz e;have tk:zs.take (i+1)=zs.take i++[zs[i]]:=by rw [List.take_succ,hz];rfl
  have ln:ys.length < sizeLine:=by
   have h1:=al.1;have h2:=List.length_filter_le c (zs.take i);simp only [KQ] at h2;omega
  refine .inr ⟨go,λ ys' H2=>Ext H H2/\H2 D=some (.lst ys')/\Al (λ z y=>R D z y H2) ((zs.take (i+1)).filter c) ys',λ ys' H2 p=>⟨zs.length - (i+1),by omega,rfl,hlt,p⟩,λ x H2 z=>?_⟩;obtain⟨e2,p2⟩:=y x H2 z;refine hs D zs[i] x H2 (kC3 D ys _) _ (KR hlt) hD (e.trans e2) ⟨ys,e2.at hD'⟩ p2 (λ hc y H3 e3 r3=>?_) λ hc H3 e3=>?_
  ·refine⟨e3.at (e2.at hD'),ln,(e.trans (e2.trans e3)).put hD,ag,?_⟩;rw [tk,LD,show [zs[i]].filter c=[zs[i]] by simp [hc]];exact Al.snoc (al.imp λ z y r=>hR2 _ _ _ _ _ (hR1 _ _ _ _ _ r (e2.trans e3))) (hR2 _ _ _ _ _ r3)
  ·refine⟨e.trans (e2.trans e3),(e2.trans e3).at hD',?_⟩;rw [tk,LD,show [zs[i]].filter c=[] by simp [hc],Lv];exact al.imp λ z y r=>hR1 _ _ _ _ _ r (e2.trans e3)
 ·have e':i=zs.length:=by omega
  subst e';rw [L4] at al;exact .inl ⟨hst H' e,hd D ys H' hD e hD' al⟩
theorem bH{α:Type}{J:It}(zs:List α)(c:α->Bool)(f:α->V)(P:α->V->Hp->Prop)
  (hgo:∀ i z H',zs[i]? = some z->Ext H H'->J.go i H'/\∀ x H'',J.yld i H' x H''->Ext H' H''/\P z x H'')
  (hst:∀ H',Ext H H'->J.stop zs.length H') (hl:zs.length<=sizeLine)
  (hs:∀ D z x H' N1 N0,z∈zs->H D=none->Ext H H'->P z x H'->(c z=true->∀ H'',Ext H' H''->N1 (f z) H'')->(c z=false->∀ H'',Ext H' H''->N0 H'')->g x (List.replicate k none++σ) H' (kCm k tt te σ N1 N0))
  (hd:∀ D H',H D=none->Ext H H'->H' D=some (.lst ((zs.filter c).map f))->Q (.ref D) H'):vC k g tt te σ Q J H:=
 oX zs c P (λ _ z y _=>y=f z) hgo hst (λ _ _ _ _ _ r _=>r) (λ _ _ _ _ _ r=>r) hl (λ D z x H' N1 N0 hz hD e _ p k1 k0=>hs D z x H' N1 N0 hz hD e p (λ hc H'' e'=>k1 hc _ H'' e' rfl) k0) λ D ys H' hD e hD' al=>hd D H' hD e (by rw [←al.map];exact hD')
theorem dF{lo:Int}{n:Nat}:(∀ i z H',(List.range n)[i]? = some z->Ext H H'->(Itr lo n).go i H'/\∀ x H'',(Itr lo n).yld i H' x H''->Ext H' H''/\x=.int (lo+(z:Nat)))/\∀ H',Ext H H'->(Itr lo n).stop (List.range n).length H':=by
 refine⟨λ i z H' hz _=>?_,λ H' _=>by simp [Itr]⟩;obtain⟨h1,h2⟩:=JC.mp hz;have e:i=z:=by simpa using h2
 subst e;exact⟨(show i < n by simpa using h1),λ x H'' y=>⟨by rw [y.1];exact Ext.refl _,y.2⟩⟩
theorem nZ{a:Addr}{xs:List V}(h:H a=some (.lst xs)):(∀ i z H',xs[i]? = some z->Ext H H'->(Itl K a).go i H'/\∀ x H'',(Itl K a).yld i H' x H''->Ext H' H''/\(x=z/\H'' a=some (.lst xs)))/\∀ H',Ext H H'->(Itl K a).stop xs.length H':=
 ⟨λ i z H' hz e=>⟨⟨xs,z,SqL.of (e.at h),hz⟩,λ x H'' y=>⟨by rw [y.1];exact Ext.refl _,JU ((y.2 xs (SqL.of (e.at h))).symm.trans hz),by rw [y.1];exact e.at h⟩⟩,λ H' e=>⟨xs,SqL.of (e.at h),JB _⟩⟩
theorem CG{a:Addr}{xs:List V}(h:H a=some (.tup xs)):(∀ i z H',xs[i]? = some z->Ext H H'->(Itt K a).go i H'/\∀ x H'',(Itt K a).yld i H' x H''->Ext H' H''/\(x=z/\H'' a=some (.tup xs)))/\∀ H',Ext H H'->(Itt K a).stop xs.length H':=
 ⟨λ i z H' hz e=>⟨⟨xs,z,SqT.of (e.at h),hz⟩,λ x H'' y=>⟨by rw [y.1];exact Ext.refl _,JU ((y.2 xs (SqT.of (e.at h))).symm.trans hz),by rw [y.1];exact e.at h⟩⟩,λ H' e=>⟨xs,SqT.of (e.at h),JB _⟩⟩
theorem SqK.ext{kk:Bool}{H H':Hp}{a:Addr}{xs:List V}(h:SqK kk H a xs)(e:Ext H H'):SqK kk H' a xs:=by
 cases kk
 ·exact e.at (show H a=some (.lst xs) from h)
 ·exact e.at (show H a=some (.tup xs) from h)
def IC(z:V × V)(x:V)(H:Hp):Prop:=∃ p,x=.ref p/\H p=some (.tup [z.1,z.2])
theorem CF{ka kb:Bool}{a b:Addr}{xs ys:List V}(ha:SqK ka H a xs)(hb:SqK kb H b ys):(∀ i z H',(xs.zip ys)[i]? = some z->Ext H H'->(Itz ka kb a b xs ys).go i H'/\∀ x H'',(Itz ka kb a b xs ys).yld i H' x H''->Ext H' H''/\IC z x H'')/\∀ H',Ext H H'->(Itz ka kb a b xs ys).stop (xs.zip ys).length H':=by
 refine⟨λ i z H' hz e=>?_,λ H' e=>⟨ha.ext e,hb.ext e,?_⟩⟩
 ·obtain⟨h1,h2⟩:=JC.mp hz;rw [Ll] at h1;refine⟨⟨ha.ext e,hb.ext e,by omega,by omega⟩,λ x H'' y=>?_⟩;obtain⟨p,u,v,hp,rfl,hu,hv,rfl⟩:=y;refine⟨Ext.new hp,p,rfl,?_⟩;rw [ag];rw [Jy (by omega)] at hu hv;cases hu;cases hv;rw [←h2,List.getElem_zip]
 ·rw [Ll];omega
end
def CB(sc:Scope)(N:List Str)(scope:Scope)(N':List Str)(k:Nat):Bool:=
 scope.names.all (λ y=>!(y.2 == .cell)) && (scope.kind == .function) && scope.names.all (λ y=>!(y.2 == .local) || scope.names.lookup y.1 == some .local) && scope.names.all (λ y=>!(y.2 == .free) || sc.names.lookup y.1 == some .cell) && decide (N'.length=k+N.length) &&
  ((N'.drop k).zip N).all (λ p=>(!(scope.names.lookup p.1 == some .free) || decide (p.1=p.2)) && !(scope.names.lookup p.1 == some .local))
theorem aH{X:Cx}{scope:Scope}{N':List Str}{k:Nat}(sc:Scope)(N:List Str)(h1:X.env.scope=sc)(h2:X.N=N)(h:CB sc N scope N' k=true):gN X scope N' k:=by
 unfold CB at h;simp only [Bool.and_eq_true,decide_eq_true_eq] at h;obtain⟨⟨⟨⟨⟨a1,a2⟩,a3⟩,a4⟩,a5⟩,a6⟩:=h;rw [List.all_eq_true] at a1 a3 a4 a6
 have pr:∀ i x,N'[k+i]? = some x->∃ y,N[i]? = some y/\(x,y)∈(N'.drop k).zip N:=λ i x hx=>by
  have h0:=(JC.mp hx).1;have hi:i < N.length:=by omega
  have e1:(N'.drop k)[i]? = some x:=by rw [List.getElem?_drop];exact hx
  have e2:N[i]? = some N[i]:=Jy hi;refine⟨_,e2,K8 (i:=i) ?_⟩;rw [KI];exact⟨e1,e2⟩
 refine⟨λ y hy e=>?_,by simpa using a2,λ y hy e=>?_,λ y hy e=>?_,by rw [h2];exact a5,λ i x hx hf=>?_,λ i x hx hf=>?_⟩
 ·have:=a1 y hy;rw [e] at this;simp at this
 ·have:=a3 y hy;rw [e] at this;simpa using this
 ·have:=a4 y hy;rw [e] at this;rw [h1];simpa using this
 ·obtain⟨y,hy,hm⟩:=pr i x hx;have:=a6 _ hm;simp only [hf] at this;rw [h2,hy];simp at this;rw [this]
 ·obtain⟨y,hy,hm⟩:=pr i x hx;have:=a6 _ hm;simp [hf] at this
def za(H:Hp)(Q:VK):V->Prop:=λ v=>Q v H
theorem A1(H:Hp)(Q:VK)(v:V):za H Q v=Q v H:=rfl
def vz(K:W.Frag)(f:Str)(H:Hp)(Q:VK):HO->Prop:=λ o=>match o with
 | .ins C dx fs=>Cls K C/\dI K C f/\aW (fs.lookup f) (za H Q)
 | _=>False
theorem A2(K:W.Frag)(f:Str)(H:Hp)(Q:VK)(C dx:Addr)(fs:List (Str × V)):vz K f H Q (.ins C dx fs)=(Cls K C/\dI K C f/\aW (fs.lookup f) (za H Q)):=rfl
def BS(K:W.Frag)(f:Str)(Q:VK):VK:=λ x H=>match x with
 | .ref a=>aW (H a) (vz K f H Q)
 | _=>False
theorem Ej(K:W.Frag)(f:Str)(Q:VK)(a:Addr)(H:Hp):BS K f Q (.ref a) H=aW (H a) (vz K f H Q):=rfl
def HI(K:W.Frag)(ta:TE)(f:Str):TE:=λ σ H Q=>ta σ H (BS K f Q)
theorem DX(K:W.Frag)(ta:TE)(f:Str)(σ:St)(H:Hp)(Q:VK):HI K ta f σ H Q=ta σ H (BS K f Q):=rfl
theorem Bg{K:W.Frag}{f:Str}{Q:VK}{x:V}{H:Hp}(h:BS K f Q x H):∃ a C dx fs v,x=.ref a/\H a=some (.ins C dx fs)/\Cls K C/\dI K C f/\fs.lookup f=some v/\Q v H:=by
 unfold BS at h;split at h
 ·obtain⟨o,e,h⟩:=ar h;unfold vz at h;split at h
  ·obtain⟨c,n,h⟩:=h;obtain⟨v,l,q⟩:=ar h;exact⟨_,_,_,_,v,rfl,e,c,n,l,q⟩
  ·exact h.elim
 ·exact h.elim
section
variable {X:Cx}{e o value:Expr}{ta tv:TE}{f:Str}{pos pos':Pos}
theorem zU(he:PE X e ta)(hb:attributeBase e f X.env (eval e X.env)=eval e X.env):PE X (.Attribute e f pos) (HI X.K ta f):=by
 intro pins s σ H Q I h;refine BC hb (thn (he pins s σ H _ I h) λ u s1 ⟨x,H1,I1,rx,q1⟩=>?_);obtain⟨a,C,dx,fs,v,ex,ea,c,n,l,q⟩:=Bg q1;subst ex;obtain rfl:u=Value.ref a:=rx;exact qt I1 ea c n l λ u' s2 I2 ru=>⟨v,H1,I2,ru,q⟩
def vx(K:W.Frag)(f:Str)(y:V)(a:Addr)(σ:St)(nx:St->Hp->Prop)(H:Hp):HO->Prop:=λ o=>match o with
 | .ins C dx fs=>Cls K C/\dI K C f/\fs.length < 1000/\nx σ (upd H a (.ins C dx (eA f y fs)))
 | _=>False
theorem AL(K:W.Frag)(f:Str)(y:V)(a:Addr)(σ:St)(nx:St->Hp->Prop)(H:Hp)(C dx:Addr)(fs:List (Str × V)):vx K f y a σ nx H (.ins C dx fs)=(Cls K C/\dI K C f/\fs.length < 1000/\nx σ (upd H a (.ins C dx (eA f y fs)))):=rfl
def vy(K:W.Frag)(f:Str)(y:V)(σ:St)(nx:St->Hp->Prop):VK:=λ x H=>match x with
 | .ref a=>aW (H a) (vx K f y a σ nx H)
 | _=>False
theorem AO(K:W.Frag)(f:Str)(y:V)(σ:St)(nx:St->Hp->Prop)(a:Addr)(H:Hp):vy K f y σ nx (.ref a) H=aW (H a) (vx K f y a σ nx H):=rfl
def yZ(K:W.Frag)(f:Str)(ta:TE)(σ:St)(nx:St->Hp->Prop):VK:=λ y H=>ta σ H (vy K f y σ nx)
theorem AQ(K:W.Frag)(f:Str)(ta:TE)(σ:St)(nx:St->Hp->Prop)(y:V)(H:Hp):yZ K f ta σ nx y H=ta σ H (vy K f y σ nx):=rfl
def Ci(K:W.Frag)(ta tv:TE)(f:Str):TS:=λ D σ H=>tv σ H (yZ K f ta σ D.nx)
theorem Az(K:W.Frag)(ta tv:TE)(f:Str)(nx:St->Hp->Prop)(rt:VK)(bk ct:St->Hp->Prop)(σ:St)(H:Hp):Ci K ta tv f ⟨nx,rt,bk,ct⟩ σ H=tv σ H (yZ K f ta σ nx):=rfl
theorem jX(ha:PE X o ta)(hv:PE X value tv)(hs:swapsWith value (some (.Attribute o f pos')) pos.line X.env=pure false):PS X (.Assign [.Attribute o f pos'] value pos) (Ci X.K ta tv f):=by
 intro pins s σ H D I h;refine plainObj_wpAny_Assign_Attribute (thn (hv pins s σ H _ I h) λ u s1 ⟨y,H1,I1,ry,q⟩=>thn (ha pins s1 σ H1 _ I1 q) λ ov s2 ⟨x,H2,I2,rx,q1⟩=>?_) hs;unfold vy at q1;split at q1
 ·rename_i a;obtain rfl:ov=Value.ref a:=rx;obtain⟨ob,ea,q1⟩:=ar q1;unfold vx at q1;split at q1
  ·obtain⟨c,n,l,q2⟩:=q1;exact pO I2 ea c n l ry λ s3 I3=>⟨σ,_,I3,q2⟩
  ·exact q1.elim
 ·exact q1.elim
end
def rQ(sp:Sp)(dvs:List V)(E:XK)(a:Addr)(Q:VK):List V->Hp->Prop:=λ vs H=>sp (.ref a::(vs++dvs)) H Q E
theorem p7(sp:Sp)(dvs:List V)(E:XK)(a:Addr)(Q:VK)(H:Hp):rQ sp dvs E a Q [] H=sp (.ref a::dvs) H Q E:=rfl
def oq(C:Addr)(m:Str)(sp:Sp)(dvs:List V)(E:XK)(t:TA)(σ:St)(Q:VK)(a:Addr)(H:Hp):HO->Prop:=λ o=>match o with
 | .ins C' dx fs=>C'=C/\fs.lookup m=none/\t σ H (rQ sp dvs E a Q)
 | _=>False
theorem wN(C:Addr)(m:Str)(sp:Sp)(dvs:List V)(E:XK)(t:TA)(σ:St)(Q:VK)(a:Addr)(H:Hp)(dx:Addr)(fs:List (Str × V)):oq C m sp dvs E t σ Q a H (.ins C dx fs)=(fs.lookup m=none/\t σ H (rQ sp dvs E a Q)):=propext ⟨λ h=>h.2,λ h=>⟨rfl,h⟩⟩
def qX(C:Addr)(m:Str)(sp:Sp)(dvs:List V)(E:XK)(t:TA)(σ:St)(Q:VK):VK:=λ x H=>match x with
 | .ref a=>aW (H a) (oq C m sp dvs E t σ Q a H)
 | _=>False
theorem AY(C:Addr)(m:Str)(sp:Sp)(dvs:List V)(E:XK)(t:TA)(σ:St)(Q:VK)(a:Addr)(H:Hp):qX C m sp dvs E t σ Q (.ref a) H=aW (H a) (oq C m sp dvs E t σ Q a H):=rfl
def Cj(C:Addr)(m:Str)(sp:Sp)(dvs:List V)(E:XK)(ta:TE)(t:TA):TE:=λ σ H Q=>ta σ H (qX C m sp dvs E t σ Q)
theorem AB(C:Addr)(m:Str)(sp:Sp)(dvs:List V)(E:XK)(ta:TE)(t:TA)(σ:St)(H:Hp)(Q:VK):Cj C m sp dvs E ta t σ H Q=ta σ H (qX C m sp dvs E t σ Q):=rfl
theorem xn{C:Addr}{m:Str}{sp:Sp}{dvs:List V}{E:XK}{t:TA}{σ:St}{Q:VK}{x:V}{H:Hp}(h:qX C m sp dvs E t σ Q x H):∃ a dx fs,x=.ref a/\H a=some (.ins C dx fs)/\fs.lookup m=none/\t σ H λ vs H2=>sp (x::(vs++dvs)) H2 Q E:=by
 unfold qX at h;split at h
 ·obtain⟨o,e,h⟩:=ar h;unfold oq at h;split at h
  ·obtain⟨rfl,l,h⟩:=h;exact⟨_,_,_,rfl,e,l,h⟩
  ·exact h.elim
 ·exact h.elim
section
variable {X:Cx}{CX:CXT}{k:Nat}{f C:Addr}{fd:FuncData}{ps:List Str}{sp:Sp}{dvs:List V}{ds:List Value}{E:XK}{x m:Str}{p pos apos:Pos}{e o:Expr}{es:List Expr}{ta:TE}{t:TA}
theorem lq{pl:Sem Bool}(he:PE X o ta)(c:Cls X.K C)(hm:yM X.K C m f)(F:bP X.prog X.w X.K X.mg X.base CX k f fd ps sp)(hr:gf k X.A)(hb:aF X.K fd ps ds)(hd:bq dvs ds)(hx:gM CX X E)
  (ht:eval (.Call (.Attribute o m apos) [] [] pos) X.env=(do
   let ov ←eval o X.env
   standAt apos.atName
   let (f,first) ←holding [ov] (getMethod ov m pl)
   callWith pos f first (backTo pos (starEach [] X.env)) (backToKw pos (keywordEach [] X.env))):=by rfl) :
  PE X (.Call (.Attribute o m apos) [] [] pos) (Cj C m sp dvs E ta BK):=by
 intro pins s σ H Q I h;refine W.methodCall_KW (pl:=pl) (thn (he pins s σ H _ I h) λ u s1 ⟨x,H1,I1,rx,q0⟩=>?_) ht;obtain⟨a,dx,fs,ex,ea,l,q⟩:=xn q0;subst ex;obtain rfl:u=Value.ref a:=rx;refine qr I1 ea c hm l ?_;exact W.callWith_K0 (first:=[.ref a]) I1.kIn hm.kp (yh (us:=[.ref a]) (vs:=[.ref a]) F hr hb hd hx I1 (.cons rfl .nil) q)
end
def y8(x:Addr)(Q:VK):VK:=λ v H=>v=.non/\Q (.ref x) H
theorem AZ(x:Addr)(Q:VK)(H:Hp):y8 x Q .non H=Q (.ref x) H:=propext ⟨λ h=>h.2,λ h=>⟨rfl,h⟩⟩
def qY(C:Addr)(sp:Sp)(dvs:List V)(E:XK)(Q:VK):List V->Hp->Prop:=λ vs H=>∀ (x dx:Addr) (H':Hp),H x=none->H dx=none->dx ≠ x->Ext H H'->H' x=some (.ins C dx [])->H' dx=some (.own x)->sp (.ref x::(vs++dvs)) H' (y8 x Q) E
theorem tu(C:Addr)(sp:Sp)(dvs:List V)(E:XK)(Q:VK)(a b c:V)(H:Hp):qY C sp dvs E Q [a,b,c] H=∀ (x dx:Addr) (H':Hp),H x=none->H dx=none->dx ≠ x->Ext H H'->H' x=some (.ins C dx [])->H' dx=some (.own x)->sp (.ref x::a::b::c::dvs) H' (y8 x Q) E:=rfl
def Ck(C:Addr)(sp:Sp)(dvs:List V)(E:XK)(t:TA):TE:=λ σ H Q=>t σ H (qY C sp dvs E Q)
theorem AD(C:Addr)(sp:Sp)(dvs:List V)(E:XK)(t:TA)(σ:St)(H:Hp)(Q:VK):Ck C sp dvs E t σ H Q=t σ H (qY C sp dvs E Q):=rfl
section
variable {X:Cx}{CX:CXT}{k:Nat}{f C:Addr}{fd:FuncData}{ps:List Str}{sp:Sp}{dvs:List V}{ds:List Value}{E:XK}{x m:Str}{p pos apos:Pos}{e o:Expr}{es:List Expr}{ta:TE}{t:TA}
theorem qY.to{Q:VK}{vs:List V}{H:Hp}(h:qY C sp dvs E Q vs H):∀ x dx,H x=none->H dx=none->dx ≠ x->sp (.ref x::(vs++dvs)) (upd (upd H dx (.own x)) x (.ins C dx [])) (λ v H2=>v=.non/\Q (.ref x) H2) E:=λ x dx hx hd ne=>
 h x dx _ hx hd ne ((Ext.new hd).put hx) ag (by rw [ah ne,ag])
theorem we(M:Mk X.K C f)(F:bP X.prog X.w X.K X.mg X.base CX k f fd ps sp)(hr:gf (k+1) X.A)(hg:Gl X x)(hm:X.mg x=some (.ref C))(hb:aF X.K fd ps ds)(hd:bq dvs ds)(hx:gM CX X E)
  (ha:PA X (e::es) t) (hdb:(x == ("__debug__":Str))=false:=by decide) (he:starEach (e::es) X.env=(false,eval e X.env)::starEach es X.env:=by rfl) (hpl:(backTo pos (starEach es X.env)).any (·.1)=false:=by rfl) :
  PE X (.Call (.Name x p) (e::es) [] pos) (Ck C sp dvs E t):=by
 intro pins s σ H Q I h;refine K6 (fF I hg hm ?_ hdb);refine W.callWith_K (h₀:=X.base) I.ok.mod.kin M.kp (thn (ha pos pins s σ H _ I h) λ us s1 ⟨vs,H1,I1,r,q⟩=>⟨I1.kIn,?_⟩) he hpl;exact vS M F hr hb hd hx I1 r q.to
end
def sk:Expr->Bool
 | .Starred ..=>false
 | _=>true
theorem zE{e:Expr}{es:List Expr}{env:Env}(h:sk e=true):starEach (e::es) env=(false,eval e env)::starEach es env:=by
 cases e<;>first|rfl|cases h
theorem BP{X:Cx}{e:Expr}{es:List Expr}{te:TE}{t:TA}(ha:PE X e te)(hr:PA X es t)(hn:sk e=true:=by rfl):PA X (e::es) (qT te t):=zZ ha hr (zE hn)
def yK(H:Hp)(z:List Int)(y:V):Prop:=∃ q,y=.ref q/\H q=some (.tup (z.map V.int))
theorem yK.ext{H H':Hp}{z:List Int}{y:V}(h:yK H z y)(e:Ext H H'):yK H' z y:=by
 obtain⟨q,rfl,hq⟩:=h;exact⟨q,rfl,e.at hq⟩
def cI(H:Hp)(p:Addr)(zs:List (List Int)):Prop:=∃ ys,H p=some (.lst ys)/\Al (yK H) zs ys
theorem cI.ext{H H':Hp}{p:Addr}{zs:List (List Int)}(h:cI H p zs)(e:Ext H H'):cI H' p zs:=by
 obtain⟨ys,hp,al⟩:=h;exact⟨ys,e.at hp,al.imp λ _ _ r=>r.ext e⟩
theorem oC{H:Hp}{f:V->Option PyData}:∀ {zs:List (List Int)}{ys:List V},Al (yK H) zs ys->aI (ys.map (bc H (bc H f)))=some (zs.map λ z=>PyData.tuple (z.map PyData.int))
 | [],ys,h=>by rw [List.eq_nil_of_length_eq_zero h.1];rfl
 | z::zs,[],h=>by have:=h.1;simp at this
 | z::zs,y::ys,h=>by
  obtain⟨q,rfl,hq⟩:=h.2 0 z y rfl rfl;have ih:=oC (H:=H) (f:=f) (zs:=zs) (ys:=ys) ⟨by have:=h.1;simpa using this,λ i z y a b=>h.2 (i+1) z y (by simpa using a) (by simpa using b)⟩
  have e1:bc H (bc H f) (.ref q)=some (.tuple (z.map PyData.int)):=by
   rw [cw,hq]
   show vg (bc H f) (.tup (z.map V.int))=_
   rw [eG,er];rfl
  rw [KA,e1,cc,ih];rfl
theorem aj{n:Nat}(h:n<=5000):n<=sizeLine:=JT h (by decide)
theorem om{n:Nat}(h:n < 5000):n < sizeLine:=JN h (by decide)
def FN(xs:List V)(H:Hp)(Q:VK):List V->Prop:=λ ys=>xs.length+ys.length<=sizeLine/\∀ (p:Addr) (H':Hp),Ext H H'->H' p=some (.tup (xs++ys))->Q (.ref p) H'
theorem CD(xs:List V)(H:Hp)(Q:VK)(ys:List V):FN xs H Q ys=(xs.length+ys.length<=sizeLine/\∀ (p:Addr) (H':Hp),Ext H H'->H' p=some (.tup (xs++ys))->Q (.ref p) H'):=rfl
def FO(b:Addr)(H:Hp)(Q:VK):List V->Prop:=λ xs=>aW (gF H b) (FN xs H Q)
theorem Ep(b:Addr)(H:Hp)(Q:VK)(xs:List V):FO b H Q xs=aW (gF H b) (FN xs H Q):=rfl
def yT:R2:=λ x y H Q=>match x,y with
 | .ref l,.ref b=>aW (gF H l) (FO b H Q)
 | _,_=>False
theorem AG(l b:Addr)(H:Hp)(Q:VK):yT (.ref l) (.ref b) H Q=aW (gF H l) (FO b H Q):=rfl
theorem wq{X:Cx}:OpR X (binaryOp .Add) yT:=by
 intro pins s σ H x y v u Q I rx ry h;unfold yT at h;split at h
 ·rename_i l b;obtain⟨xs,e1,h⟩:=ar h;obtain⟨ys,e2,hz,k⟩:=ar h;have g1:=oa e1;have g2:=oa e2
  by_cases hx:xs=[]
  ·subst hx;cases rx;cases ry;obtain⟨its,r1,p1,_⟩:=I.tuple (SqT.of g1);obtain⟨its2,r2,p2,_⟩:=I.tuple (SqT.of g2);obtain⟨⟨cls,dd,data,sl⟩,ho,hc,n,hd⟩:=id p1;obtain⟨⟨cls2,dd2,data2,sl2⟩,ho2,hc2,n2,hd2⟩:=id p2;simp only at hc hd hc2 hd2;subst hc hd hc2 hd2;cases r1
   exact concat_meets ⟨_,ho,rfl⟩ ⟨_,ho2,rfl⟩ noFill_tuple_add seq_tuple_add LS LM (LK _ _)
    (tuple_addW0 l b #[] its2.toArray n n2 dd dd2 sl sl2 (by simp)) ⟨ho,ho2,show EP X pins σ Q (.ref b) s from ⟨.ref b,H,I,rfl,k b H (Ext.refl _) (by rw [List.nil_append];exact g2)⟩⟩
  ·refine Ad pins s σ H (.ref l) (.ref b) v u Q I rx ry ⟨l,b,xs,ys,rfl,rfl,SqT.of g1,SqT.of g2,hx,hz,λ hy=>?_,λ hy p hp=>k p _ (Ext.new hp) ag⟩;subst hy;exact k l H (Ext.refl _) (by rw [Lv];exact g1)
 ·exact h.elim
theorem gh{K:W.Frag}{H:Hp}{α:Type}{R:α->V->Hp->Prop}(hR:∀ z y H H',R z y H->Ext H H'->R z y H'){l:Addr}{ys:List V}{zs:List α}(h:H l=some (.lst ys))(al:Al (λ z y=>R z y H) zs ys) :
  (∀ i z H',zs[i]? = some z->Ext H H'->(Itl K l).go i H'/\∀ x H'',(Itl K l).yld i H' x H''->Ext H' H''/\R z x H'')/\∀ H',Ext H H'->(Itl K l).stop zs.length H':=by
 refine⟨λ i z H' hz e=>?_,λ H' e=>⟨ys,SqL.of (e.at h),by rw [al.1];exact JB _⟩⟩;have hi:i < ys.length:=by rw [al.1];exact(JC.mp hz).1
 have hy:ys[i]? = some ys[i]:=Jy hi;refine⟨⟨ys,ys[i],SqL.of (e.at h),hy⟩,λ x H'' y=>?_⟩;have hx:x=ys[i]:=JU ((y.2 ys (SqL.of (e.at h))).symm.trans hy);refine⟨by rw [y.1];exact Ext.refl _,?_⟩;rw [hx,y.1];exact hR _ _ _ _ (al.2 i z _ hz hy) e
def axP(a:Int × Int)(x:V)(H:Hp):Prop:=∃ q,x=.ref q/\H q=some (.tup [.int a.1,.int a.2])
theorem axP.ext{a:Int × Int}{x:V}{H H':Hp}(h:axP a x H)(e:Ext H H'):axP a x H':=by
 obtain⟨q,rfl,hq⟩:=h;exact⟨q,rfl,e.at hq⟩
theorem k7{H:Hp}{axs:List (Int × Int)}{ys:List V}(al:Al (yK H) (axs.map λ a=>[a.1,a.2]) ys):Al (λ a y=>axP a y H) axs ys:=by
 refine⟨by rw [al.1,JP],λ i a y ha hy=>?_⟩;obtain⟨q,hq,h⟩:=al.2 i [a.1,a.2] y (by rw [J4,ha];rfl) hy;exact⟨q,hq,h⟩
section
variable {prog:Program}{w:World}{A:Around}{E:Value->Shared->Prop}{s:Shared}
variable {z TI TO i j:Addr}{f g:List Addr}{ti tj:Nat->Heap->Prop}{vi vj:Nat->Option Value}{k m:Nat}{x y:Value}{t:Addr}{fl:Bool}{ot:Obj}
variable {ka kb:Bool}{a b p q:Addr}{as bs:Array Value}{n:Nat}
end
section
variable {X:Cx}{pins:List (Addr × Obj)}{σ:St}{s:Shared}
end
section
variable {X:Cx}
end
def Fq(xs:List V)(H:Hp)(Q:VK):Prop:=match xs with
 | [.int i]=>Q (.int i) H
 | [.bl k]=>Q (.int (if k=true then 1 else 0)) H
 | _=>False
theorem wI(k:Bool)(H:Hp)(Q:VK):Fq [.bl k] H Q=Q (.int (if k=true then 1 else 0)) H:=rfl
theorem uS{X:Cx}:bE X (.type "int") Fq:=uW.mono λ xs H Q h=>by
 unfold Fq at h;split at h
 ·exact .inl ⟨_,rfl,h⟩
 ·exact .inr ⟨_,rfl,h⟩
 ·exact h.elim
section
variable {X:Cx}
end
def zb(l:Addr)(xs:List V)(H:Hp)(Q:VK):List V->Prop:=λ zs=>xs.length+zs.length<=sizeLine/\Q .non (upd H l (.lst (xs++zs)))
theorem A3(l:Addr)(xs:List V)(H:Hp)(Q:VK)(zs:List V):zb l xs H Q zs=(xs.length+zs.length<=sizeLine/\Q .non (upd H l (.lst (xs++zs)))):=rfl
def Ct(l b:Addr)(H:Hp)(Q:VK):List V->Prop:=λ xs=>aW (aY H b) (zb l xs H Q)
theorem A4(l b:Addr)(H:Hp)(Q:VK)(xs:List V):Ct l b H Q xs=aW (aY H b) (zb l xs H Q):=rfl
theorem sZ(l b:Addr)(H:Hp)(Q:VK):rZ (.ref l) [.ref b] H Q=aW (aY H l) (Ct l b H Q):=by
 refine propext ⟨λ h=>?_,λ h=>?_⟩
 ·obtain⟨l',b',xs,zs,e1,e2,h1,h2,h3,q⟩:=h;cases e1;cases e2;unfold aY;rw [h1]
  show aW (aY H b) _
  unfold aY;rw [h2];exact⟨h3,q⟩
 ·obtain⟨xs,e,h⟩:=ar h;obtain⟨zs,e2,h3,q⟩:=ar h;exact⟨l,b,xs,zs,rfl,rfl,dH e,dH e2,h3,q⟩
section
variable {X:Cx}{a b c d:Expr}{ta tb tc td:TE}{pos:Pos}
end
section
variable {k:Nat}{g:TG}{tt:TT}{te:TE}{σ:St}{Q:VK}{H:Hp}{K:PySem.W.Frag}
theorem cp{α:Type}{J:It}(zs:List α)(c:α->Bool)(P:α->V->Hp->Prop)(R:Addr->α->V->Hp->Prop)
  (hgo:∀ i z H',zs[i]? = some z->Ext H H'->J.go i H'/\∀ x H'',J.yld i H' x H''->Ext H' H''/\P z x H'')
  (hst:∀ H',Ext H H'->J.stop zs.length H')
  (hR1:∀ D z y H1 H2,R D z y H1->Ext H1 H2->R D z y H2) (hR2:∀ D z y H1 xs o,R D z y H1->H1 D=some (.lst xs)->R D z y (upd H1 D o))
  (hl:zs.length<=sizeLine)
  (hs:∀ D z x H' N1 N0,z∈zs->H D=none->Ext H H'->(∃ ys,H' D=some (.lst ys))->P z x H'->(c z=true->∀ y H'',Ext H' H''->R D z y H''->N1 y H'')->(c z=false->∀ H'',Ext H' H''->N0 H'')->g x (List.replicate k none++σ) H' (kCm k tt te σ N1 N0))
  (hd:∀ D ys H',H D=none->Ext H H'->H' D=some (.lst ys)->Al (λ z y=>R D z y H') (zs.filter c) ys->Q (.ref D) H'):vC k g tt te σ Q J H:=by
 intro D hD;refine⟨λ i m ys H'=>m=zs.length - i/\i<=zs.length/\Ext H H'/\H' D=some (.lst ys)/\Al (λ z y=>R D z y H') ((zs.take i).filter c) ys,⟨zs.length,by simp,Kw _,Ext.new hD,ag,by simpa using Al.nil⟩,?_⟩;rintro i m ys H' ⟨rfl,hi,e,hD',al⟩
 by_cases hlt:i < zs.length
 ·have hz:zs[i]? = some zs[i]:=Jy hlt;obtain⟨go,y⟩:=hgo i zs[i] H' hz e;have tk:zs.take (i+1)=zs.take i++[zs[i]]:=by rw [List.take_succ,hz];rfl
  have ln:ys.length < sizeLine:=by
   have h1:=al.1;have h2:=List.length_filter_le c (zs.take i);simp only [KQ] at h2;omega
  refine .inr ⟨go,λ ys' H2=>Ext H H2/\H2 D=some (.lst ys')/\Al (λ z y=>R D z y H2) ((zs.take (i+1)).filter c) ys',λ ys' H2 p=>⟨zs.length - (i+1),by omega,rfl,hlt,p⟩,λ x H2 z=>?_⟩;obtain⟨e2,p2⟩:=y x H2 z;refine hs D zs[i] x H2 (kC3 D ys _) _ (KR hlt) hD (e.trans e2) ⟨ys,e2.at hD'⟩ p2 (λ hc y H3 e3 r3=>?_) λ hc H3 e3=>?_
  ·refine⟨e3.at (e2.at hD'),ln,(e.trans (e2.trans e3)).put hD,ag,?_⟩;rw [tk,LD,show [zs[i]].filter c=[zs[i]] by simp [hc]];exact Al.snoc (al.imp λ z y r=>hR2 _ _ _ _ _ _ (hR1 _ _ _ _ _ r (e2.trans e3)) (e3.at (e2.at hD'))) (hR2 _ _ _ _ _ _ r3 (e3.at (e2.at hD')))
  ·refine⟨e.trans (e2.trans e3),(e2.trans e3).at hD',?_⟩;rw [tk,LD,show [zs[i]].filter c=[] by simp [hc],Lv];exact al.imp λ z y r=>hR1 _ _ _ _ _ r (e2.trans e3)
 ·have e':i=zs.length:=by omega
  subst e';rw [L4] at al;exact .inl ⟨hst H' e,hd D ys H' hD e hD' al⟩
end
section
variable {X:Cx}
end
section
variable {g:TG}{σ:St}{Q:VK}{H:Hp}{K:PySem.W.Frag}
end
section
variable {X:Cx}{CX:CXT}{k:Nat}{f C:Addr}{fd:FuncData}{ps:List Str}{sp:Sp}{dvs:List V}{ds:List Value}{E:St->XK}{x m:Str}{p pos apos:Pos}{e o:Expr}{es:List Expr}{ta:TE}{t:TA}
end
section
variable {X:Cx}{e st:Expr}{te tst:TE}{pos p2:Pos}
end
section
variable {X:Cx}
end
theorem cu{n:Nat}(h:n+64 < cLine):n+1 < cLine:=by omega
def FK(Q:VK)(x:V):VK:=λ y H=>∃ a v,x=.ref a/\qS H a y (some v)/\Q v H
def Ib(ty:TE)(σ:St)(Q:VK):VK:=λ x H=>ty σ H (FK Q x)
theorem En(ty:TE)(σ:St)(Q:VK)(x:V)(H:Hp):Ib ty σ Q x H=ty σ H (FK Q x):=rfl
theorem An(td ty:TE)(σ:St)(H:Hp)(Q:VK):B5 td ty σ H Q=td σ H (Ib ty σ Q):=rfl
theorem rk{H:Hp}{a:Addr}{kvs:List (Key × V)}{k:Key}{v:V}{Q:VK}(e:H a=some (.dK kvs))(h:dE kvs k=some v)(q:Q v H):FK Q (.ref a) (kV k) H:=⟨a,v,rfl,h ▸ qS.k e,q⟩
section
variable {X:Cx}
end
def FI(nx:St->Hp->Prop)(σ:St)(v x:V):VK:=λ y H=>∃ a H4,x=.ref a/\BJ H a y v H4/\nx σ H4
def FJ(ty:TE)(nx:St->Hp->Prop)(σ:St)(v:V):VK:=λ x H=>ty σ H (FI nx σ v x)
theorem El(ty:TE)(nx:St->Hp->Prop)(σ:St)(v x:V)(H:Hp):FJ ty nx σ v x H=ty σ H (FI nx σ v x):=rfl
def Ia(td ty:TE)(nx:St->Hp->Prop)(σ:St):VK:=λ v H=>td σ H (FJ ty nx σ v)
theorem Em(td ty:TE)(nx:St->Hp->Prop)(σ:St)(v:V)(H:Hp):Ia td ty nx σ v H=td σ H (FJ ty nx σ v):=rfl
theorem Ar(td ty tv:TE)(nx:St->Hp->Prop)(rt:VK)(bk ct:St->Hp->Prop)(σ:St)(H:Hp):B8 td ty tv ⟨nx,rt,bk,ct⟩ σ H=tv σ H (Ia td ty nx σ):=rfl
theorem iX{H:Hp}{a:Addr}{kvs:List (Key × V)}{k:Key}{v:V}{nx:St->Hp->Prop}{σ:St}(e:H a=some (.dK kvs))(hl:kvs.length < sizeLine)(q:nx σ (upd H a (.dK (eM kvs k v)))):FI nx σ v (.ref a) (kV k) H:=⟨a,_,rfl,BJ.k e hl,q⟩
def Cc:List V->Hp->VK->Prop:=λ vs H Q=>∃ p kvs ns,vs=[.ref p]/\H p=some (.dK kvs)/\kvs.map (·.1)=ns.map (Sum.inl:Int->Key)/\ns.length < 64/\∀ ms:List Int,ms.Perm ns->ms.Pairwise (·<=·)->gD (.lst (ms.map V.int)) H Q
theorem zv{p:Addr}{kvs:List (Key × V)}{ns:List Int}{H:Hp}{Q:VK}(e:H p=some (.dK kvs))(hk:kvs.map (·.1)=ns.map (Sum.inl:Int->Key))(hl:ns.length < 64)(q:∀ ms:List Int,ms.Perm ns->ms.Pairwise (·<=·)->gD (.lst (ms.map V.int)) H Q):Cc [.ref p] H Q:=⟨p,kvs,ns,rfl,e,hk,hl,q⟩
theorem fe:∀ {us:List Value}{ns:List Int},us.length=ns.length->(∀ (i:Nat) (u:Value),us[i]? = some u->∃ n t,ns[i]? = some n/\u=.int n t)->IntsAre us ns
 | [],[],_,_=>.nil
 | [],_::_,h,_=>by cases h
 | _::_,[],h,_=>by cases h
 | u::us,n::ns,h,k=>by
  obtain⟨m,t,e1,rfl⟩:=k 0 u rfl;cases e1;exact .cons n t (fe (by simpa using h) λ i u e=>k (i+1) u (by simpa using e))
theorem eh:∀ {us:List Value}{ns:List Int},IntsAre us ns->bq (ns.map V.int) us
 | _,_,.nil=>.nil
 | _,_,.cons n t r=>.cons ⟨t,rfl⟩ (eh r)
theorem fQ{α β:Type}{F:α->β->Prop}:∀ {l₁:List α}{l₂:List β},Paired F l₁ l₂->∀ {i:Nat}{a:α},l₁[i]? = some a->∃ b,l₂[i]? = some b/\F a b
 | _,_,.nil,i,a,h=>by simp at h
 | _,_,.cons h₁ t,0,a,h=>by cases h;exact⟨_,rfl,h₁⟩
 | _,_,.cons h₁ t,i+1,a,h=>fQ t (i:=i) (by simpa using h)
section
variable {X:Cx}
theorem qw(hc:X.calm=true):bE X (.builtin "sorted") Cc:=by
 intro pins s σ H vs us Q I r h;obtain⟨p,kvs,ns,rfl,e,hk,hl,q⟩:=h
 cases r with
 | cons r rr=>
  cases rr;cases r;obtain⟨z,hd,xs,rel,dd⟩:=zm I.hok e;obtain⟨ep,hat⟩:=dd.dictAt;have hlen:kvs.length=xs.length:=LG rel;have hln:xs.length=ns.length:=by rw [←hlen];have:=KO List.length hk;simpa using this
  refine Calls.call_function_entry kind_sorted plain_sorted entry_sorted (args_sorted1 _) ?_;unfold Builtin.«sorted»;refine wpAny_bind (m:=checkCount "sorted" 1 1 _) (wpAny_pure ?_);refine wpAny_bind (W.kdu_collect (A:=X.A.in1) (W.kdl_dict (knd:=bz X.prog X.w) (kvs:=xs) (ep:=ep) hd) (show X.A.in1.handled=none from I.ok.hd hc) hat (by omega) λ h' tk acc kp hacc=>?_);have hal:acc.toList.length=ns.length:=by rw [Array.length_toList,hacc.1,hln]
  have hI:IntsAre acc.toList ns:=by
   refine fe hal λ i u hu=>?_;obtain⟨k,x,hx,hku⟩:=hacc.2 i u (by simpa using hu);have hi:i < kvs.length:=by rw [hlen];exact(JC.mp hx).1
   have h1:kvs[i]? = some kvs[i]:=Jy hi;obtain⟨w',hw',rw'⟩:=fQ rel h1;rw [hx] at hw';cases hw';have h2:(kvs.map (·.1))[i]? = some k:=by rw [J4,h1];exact KO some rw'.1
   rw [hk,J4] at h2;obtain⟨n,hn,rfl⟩:=J7.mp h2
   rcases aT (show kR (Sum.inl n) u=true from hku) with ⟨j,t,e1,e2⟩|⟨j,t,e1,e2⟩
   ·cases e1;exact⟨n,t,hn,e2⟩
   ·cases e1
  refine Jx (wpAny_newList ?_ (by rw [hal];exact aj (by omega)));have hoL:(h'.push (seqObj "list" acc.toList.toArray 0)).get? h'.objs.size=some (seqObj "list" acc.toList.toArray 0):=JK _ rfl;refine Jx (KS (Lk slot_list_sort ⟨_,hoL,rfl⟩ entry_list_sort (list_sort_tree hoL hI (by omega) λ out ns' a1 a2 a3=>⟨_,rfl,?_⟩) (args_list_sort _)));refine JE ⟨_,rfl,?_⟩;have I2:Inv X pins σ H { s with heap:=h',toks:=tk }:=I.kept (t':=tk) kp;have fr:=I2.hok.fresh (JB _);obtain⟨e',he'⟩:=sortedHeap_at (out:=out) hoL;refine⟨.ref h'.objs.size,_,I2.laid (t':=tk) (h':=sortedHeap (h'.push (seqObj "list" acc.toList.toArray 0)) h'.objs.size acc.toList out) (o:=.lst (ns'.map V.int)) (λ b u hb=>?_) (JB _) ⟨?_,out.toList,e',eh a1,?_⟩,rfl,q ns' a2 a3 _ _ fr (Ext.new fr) ag⟩
  ·have hb':h'.get? b=some u:=hb;have hlt:=JF hb';rw [sortedHeap_old (JR hlt) (by rw [size_push'];exact Ml hlt)];exact Jz _ hb'
  ·rw [JP,a2.length_eq];exact aj (by omega)
  ·rw [Array.toArray_toList];exact he'
end
def EW{α β:Type}(R1:α->V->Hp->Prop)(R2:β->V->Hp->Prop)(z:α × β)(x:V)(H:Hp):Prop:=∃ p q1 q2,x=.ref p/\H p=some (.tup [q1,q2])/\R1 z.1 q1 H/\R2 z.2 q2 H
theorem mQ{H:Hp}{α β:Type}{R1:α->V->Hp->Prop}{R2:β->V->Hp->Prop}(h1:∀ z y H H',R1 z y H->Ext H H'->R1 z y H')(h2:∀ z y H H',R2 z y H->Ext H H'->R2 z y H'){a b:Addr}{xs ys:List V}{zs:List α}{ws:List β}(ha:H a=some (.lst xs))(hb:H b=some (.lst ys))(al:Al (λ z y=>R1 z y H) zs xs)(bl:Al (λ z y=>R2 z y H) ws ys) :
  (∀ i z H',(zs.zip ws)[i]? = some z->Ext H H'->(Itz false false a b xs ys).go i H'/\∀ x H'',(Itz false false a b xs ys).yld i H' x H''->Ext H' H''/\EW R1 R2 z x H'')/\∀ H',Ext H H'->(Itz false false a b xs ys).stop (zs.zip ws).length H':=by
 have wk:=CF (ka:=false) (kb:=false) ha hb;refine⟨λ i z H' hz e=>?_,λ H' e=>?_⟩
 ·obtain⟨i1,i2⟩:=JC.mp hz;rw [Ll] at i1;have hx:xs[i]? = some (xs[i]'(by rw [al.1];omega)):=Jy _;have hy:ys[i]? = some (ys[i]'(by rw [bl.1];omega)):=Jy _;have g1:=al.2 i zs[i] _ (Jy _) hx;have g2:=bl.2 i ws[i] _ (Jy _) hy;generalize (xs[i]'(by rw [al.1];omega))=x0 at hx g1;generalize (ys[i]'(by rw [bl.1];omega))=y0 at hy g2
  have hzz:(xs.zip ys)[i]? = some (x0,y0):=by
   rw [KI];exact⟨hx,hy⟩
  obtain⟨go,yd⟩:=wk.1 i _ H' hzz e;refine⟨go,λ x H'' y=>?_⟩;obtain⟨e2,p,hp,hp2⟩:=yd x H'' y;have ez:z=(zs[i],ws[i]):=by rw [←i2,List.getElem_zip]
  subst ez;exact⟨e2,p,x0,y0,hp,hp2,h1 _ _ _ _ g1 (e.trans e2),h2 _ _ _ _ g2 (e.trans e2)⟩
 ·have:=wk.2 H' e
  rwa [show (zs.zip ws).length=(xs.zip ys).length by rw [Ll,Ll,al.1,bl.1]]
def tV(i:Nat):TE:=λ σ H Q=>match σ[i]? with
 | some (some v)=>Q v H
 | _=>False
theorem BZ(i:Nat):EY i=tV i:=by
 funext σ H Q;refine propext ⟨λ ⟨v,e,q⟩=>?_,λ h=>?_⟩
 ·unfold tV;rw [e];exact q
 ·unfold tV at h;split at h
  ·rename_i v e;exact⟨v,e,h⟩
  ·exact h.elim
theorem Dw{v:V}{σ:St}{H:Hp}{Q:VK}:tV 0 (some v::σ) H Q=Q v H:=rfl
theorem Dv{a0:Option V}{v:V}{σ:St}{H:Hp}{Q:VK}:tV 1 (a0::some v::σ) H Q=Q v H:=rfl
theorem Du{a0 a1:Option V}{v:V}{σ:St}{H:Hp}{Q:VK}:tV 2 (a0::a1::some v::σ) H Q=Q v H:=rfl
theorem Dt{a0 a1 a2:Option V}{v:V}{σ:St}{H:Hp}{Q:VK}:tV 3 (a0::a1::a2::some v::σ) H Q=Q v H:=rfl
theorem Ds{a0 a1 a2 a3:Option V}{v:V}{σ:St}{H:Hp}{Q:VK}:tV 4 (a0::a1::a2::a3::some v::σ) H Q=Q v H:=rfl
theorem Dr{a0 a1 a2 a3 a4:Option V}{v:V}{σ:St}{H:Hp}{Q:VK}:tV 5 (a0::a1::a2::a3::a4::some v::σ) H Q=Q v H:=rfl
theorem Dq{a0 a1 a2 a3 a4 a5:Option V}{v:V}{σ:St}{H:Hp}{Q:VK}:tV 6 (a0::a1::a2::a3::a4::a5::some v::σ) H Q=Q v H:=rfl
theorem Dp{a0 a1 a2 a3 a4 a5 a6:Option V}{v:V}{σ:St}{H:Hp}{Q:VK}:tV 7 (a0::a1::a2::a3::a4::a5::a6::some v::σ) H Q=Q v H:=rfl
theorem Dn{a0 a1 a2 a3 a4 a5 a6 a7:Option V}{v:V}{σ:St}{H:Hp}{Q:VK}:tV 8 (a0::a1::a2::a3::a4::a5::a6::a7::some v::σ) H Q=Q v H:=rfl
theorem Dm{a0 a1 a2 a3 a4 a5 a6 a7 a8:Option V}{v:V}{σ:St}{H:Hp}{Q:VK}:tV 9 (a0::a1::a2::a3::a4::a5::a6::a7::a8::some v::σ) H Q=Q v H:=rfl
theorem Ah{a0 a1 a2 a3 a4 a5 a6 a7 a8 a9:Option V}{v:V}{σ:St}{H:Hp}{Q:VK}:tV 10 (a0::a1::a2::a3::a4::a5::a6::a7::a8::a9::some v::σ) H Q=Q v H:=rfl
theorem Ag{a0 a1 a2 a3 a4 a5 a6 a7 a8 a9 a10:Option V}{v:V}{σ:St}{H:Hp}{Q:VK}:tV 11 (a0::a1::a2::a3::a4::a5::a6::a7::a8::a9::a10::some v::σ) H Q=Q v H:=rfl
def nI0(g:Int->Int->V):R2:=λ x y H Q=>match x,y with
 | .int i,.int j=>Q (g i j) H
 | _,_=>False
theorem GI(g:Int->Int->V)(i j:Int)(H:Hp)(Q:VK):nI0 g (.int i) (.int j) H Q=Q (g i j) H:=rfl
theorem gJ(g:Int->Int->V):rI0 g=nI0 g:=by
 funext x y H Q;refine propext ⟨λ ⟨i,j,e,e',q⟩=>by subst e e';exact q,λ h=>?_⟩;unfold nI0 at h;split at h
 ·exact⟨_,_,rfl,rfl,h⟩
 ·exact h.elim
def nI(C:Int->Int->Prop)(g:Int->Int->V):R2:=λ x y H Q=>match x,y with
 | .int i,.int j=>C i j/\Q (g i j) H
 | _,_=>False
theorem IU(C:Int->Int->Prop)(g:Int->Int->V)(i j:Int)(H:Hp)(Q:VK):nI C g (.int i) (.int j) H Q=(C i j/\Q (g i j) H):=rfl
theorem qV(C:Int->Int->Prop)(g:Int->Int->V):rI C g=nI C g:=by
 funext x y H Q;refine propext ⟨λ ⟨i,j,e,e',q⟩=>by subst e e';exact q,λ h=>?_⟩;unfold nI at h;split at h
 ·exact⟨_,_,rfl,rfl,h⟩
 ·exact h.elim
def nU(g:Int->V):V->Hp->VK->Prop:=λ x H Q=>match x with
 | .int i=>Q (g i) H
 | _=>False
theorem IT(g:Int->V)(i:Int)(H:Hp)(Q:VK):nU g (.int i) H Q=Q (g i) H:=rfl
theorem Gw(g:Int->V):rU g=nU g:=by
 funext x H Q;refine propext ⟨λ ⟨i,e,q⟩=>by subst e;exact q,λ h=>?_⟩;unfold nU at h;split at h
 ·exact⟨_,rfl,h⟩
 ·exact h.elim
def iZ(Q:Bool->Hp->Prop):VK:=λ x H=>match x with
 | .bl k=>Q k H
 | _=>False
theorem wL(Q:Bool->Hp->Prop)(k:Bool)(H:Hp):iZ Q (.bl k) H=Q k H:=rfl
theorem xm(Q:Bool->Hp->Prop):Cq Q=iZ Q:=by
 funext x H;refine propext ⟨λ ⟨k,e,q⟩=>by subst e;exact q,λ h=>?_⟩;unfold iZ at h;split at h
 ·exact⟨_,rfl,h⟩
 ·exact h.elim
def mO(t:TE):TT:=λ σ H Q=>t σ H (iZ Q)
theorem Ay(t:TE)(σ:St)(H:Hp)(Q:Bool->Hp->Prop):mO t σ H Q=t σ H (iZ Q):=rfl
theorem gz(t:TE):vq t=mO t:=by
 funext σ H Q
 show t σ H (Cq Q)=t σ H (iZ Q)
 rw [xm]
theorem sX(t:TE):tB t=mO t:=gz t
def rf(tb:TE)(σ:St)(Q:VK):VK:=λ x H=>match x with
 | .bl c=>if c=true then tb σ H Q else Q (.bl false) H
 | _=>False
theorem Ba(tb:TE)(σ:St)(Q:VK)(c:Bool)(H:Hp):rf tb σ Q (.bl c) H=(if c=true then tb σ H Q else Q (.bl false) H):=rfl
def yU(ta tb:TE):TE:=λ σ H Q=>ta σ H (rf tb σ Q)
theorem AH(ta tb:TE)(σ:St)(H:Hp)(Q:VK):yU ta tb σ H Q=ta σ H (rf tb σ Q):=rfl
theorem wB(ta tb:TE):B7 ta tb=yU ta tb:=by
 funext σ H Q
 show ta σ H (Hh tb σ Q)=ta σ H (rf tb σ Q)
 congr 1;funext x H;refine propext ⟨λ ⟨k,e,q⟩=>by subst e;exact q,λ h=>?_⟩;unfold rf at h;split at h
 ·exact⟨_,rfl,h⟩
 ·exact h.elim
def BR(tb:TE)(σ:St)(Q:VK):VK:=λ x H=>match x with
 | .bl c=>if c=true then Q (.bl true) H else tb σ H Q
 | _=>False
theorem D9(tb:TE)(σ:St)(Q:VK)(c:Bool)(H:Hp):BR tb σ Q (.bl c) H=(if c=true then Q (.bl true) H else tb σ H Q):=rfl
def Fv(ta tb:TE):TE:=λ σ H Q=>ta σ H (BR tb σ Q)
theorem DV(ta tb:TE)(σ:St)(H:Hp)(Q:VK):Fv ta tb σ H Q=ta σ H (BR tb σ Q):=rfl
theorem Af(ta tb:TE):Hw ta tb=Fv ta tb:=by
 funext σ H Q
 show ta σ H (Jb tb σ Q)=ta σ H (BR tb σ Q)
 congr 1;funext x H;refine propext ⟨λ ⟨k,e,q⟩=>by subst e;exact q,λ h=>?_⟩;unfold BR at h;split at h
 ·exact⟨_,rfl,h⟩
 ·exact h.elim
def qW(Q:VK):VK:=λ x H=>match x with
 | .bl c=>Q (.bl (!c)) H
 | _=>False
theorem AW(Q:VK)(c:Bool)(H:Hp):qW Q (.bl c) H=Q (.bl (!c)) H:=rfl
def yR(ta:TE):TE:=λ σ H Q=>ta σ H (qW Q)
theorem AA(ta:TE)(σ:St)(H:Hp)(Q:VK):yR ta σ H Q=ta σ H (qW Q):=rfl
theorem wA(ta:TE):B2 ta=yR ta:=by
 funext σ H Q
 show ta σ H (Hc Q)=ta σ H (qW Q)
 congr 1;funext x H;refine propext ⟨λ ⟨k,e,q⟩=>by subst e;exact q,λ h=>?_⟩;unfold qW at h;split at h
 ·exact⟨_,rfl,h⟩
 ·exact h.elim
def pK(r':R2)(tc:TE)(σ:St)(y:V)(Q:VK):VK:=λ z H=>match z with
 | .bl k=>if k=true then tc σ H (Fb r' y Q) else Q (.bl false) H
 | _=>False
theorem A7(r':R2)(tc:TE)(σ:St)(y:V)(Q:VK)(k:Bool)(H:Hp):pK r' tc σ y Q (.bl k) H=(if k=true then tc σ H (Fb r' y Q) else Q (.bl false) H):=rfl
theorem Bh(r':R2)(tc:TE)(σ:St)(y:V)(Q:VK):FL r' tc σ y Q=pK r' tc σ y Q:=by
 funext z H;refine propext ⟨λ ⟨k,e,q⟩=>by subst e;exact q,λ h=>?_⟩;unfold pK at h;split at h
 ·exact⟨_,rfl,h⟩
 ·exact h.elim
def vD(r r':R2)(tc:TE)(σ:St)(x:V)(Q:VK):VK:=λ y H=>r x y H (pK r' tc σ y Q)
theorem A8(r r':R2)(tc:TE)(σ:St)(x y:V)(Q:VK)(H:Hp):vD r r' tc σ x Q y H=r x y H (pK r' tc σ y Q):=rfl
def vE(r r':R2)(tb tc:TE)(σ:St)(Q:VK):VK:=λ x H=>tb σ H (vD r r' tc σ x Q)
theorem A9(r r':R2)(tb tc:TE)(σ:St)(Q:VK)(x:V)(H:Hp):vE r r' tb tc σ Q x H=tb σ H (vD r r' tc σ x Q):=rfl
def oi(r r':R2)(ta tb tc:TE):TE:=λ σ H Q=>ta σ H (vE r r' tb tc σ Q)
theorem wK(r r':R2)(ta tb tc:TE)(σ:St)(H:Hp)(Q:VK):oi r r' ta tb tc σ H Q=ta σ H (vE r r' tb tc σ Q):=rfl
theorem lD(r r':R2)(ta tb tc:TE):rp r r' ta tb tc=oi r r' ta tb tc:=by
 funext σ H Q
 show ta σ H (Jc r r' tb tc σ Q)=ta σ H (vE r r' tb tc σ Q)
 congr 1;funext x H1
 show tb σ H1 (Ic r r' tc σ x Q)=tb σ H1 (vD r r' tc σ x Q)
 congr 1;funext y H2
 show r x y H2 (FL r' tc σ y Q)=r x y H2 (pK r' tc σ y Q)
 rw [Bh]
def vG:TGs:=λ vs σ H Q=>match vs with
 | []=>Q σ H
 | _=>False
theorem Bd(σ:St)(H:Hp)(Q:St->Hp->Prop):vG [] σ H Q=Q σ H:=rfl
theorem Bk:Iq=vG:=by
 funext vs σ H Q;refine propext ⟨λ ⟨e,q⟩=>by subst e;exact q,λ h=>?_⟩;unfold vG at h;split at h
 ·exact⟨rfl,h⟩
 ·exact h.elim
def ou(t:TG)(u:TGs):TGs:=λ vs σ H Q=>match vs with
 | v::r=>t v σ H (kGs u r Q)
 | _=>False
theorem wX(t:TG)(u:TGs)(v:V)(r:List V)(σ:St)(H:Hp)(Q:St->Hp->Prop):ou t u (v::r) σ H Q=t v σ H (kGs u r Q):=rfl
theorem xy(t:TG)(u:TGs):Cy t u=ou t u:=by
 funext vs σ H Q;refine propext ⟨λ ⟨v,r,e,q⟩=>by subst e;exact q,λ h=>?_⟩;unfold ou at h;split at h
 ·exact⟨_,_,rfl,h⟩
 ·exact h.elim
theorem ve{α0:Type}{f:α0->List V}{B:α0->Prop}(inj:∀ a a',f a=f a'->a=a')(a:α0):(∃ a',f a=f a'/\B a')=B a:=propext ⟨λ ⟨a',e,q⟩=>by obtain rfl:=inj _ _ e;exact q,λ q=>⟨a,rfl,q⟩⟩
theorem qR{α0:Type}{f:α0->List V}{B:α0->Prop}{vs:List V}{n:Nat}(h:∃ a,vs=f a/\B a)(l:∀ a,(f a).length=n):vs.length=n:=by
 obtain⟨_,rfl,_⟩:=h;exact l _
theorem pD{α0 α1:Type}{f:α0->α1->List V}{B:α0->α1->Prop}(inj:∀ a b a' b',f a b=f a' b'->a=a'/\b=b')(a:α0)(b:α1):(∃ a' b',f a b=f a' b'/\B a' b')=B a b:=propext ⟨λ ⟨a',b',e,q⟩=>by obtain⟨rfl,rfl⟩:=inj _ _ _ _ e;exact q,λ q=>⟨a,b,rfl,q⟩⟩
theorem pF{α0 α1:Type}{f:α0->α1->List V}{B:α0->α1->Prop}{vs:List V}{n:Nat}(h:∃ a b,vs=f a b/\B a b)(l:∀ a b,(f a b).length=n):vs.length=n:=by
 obtain⟨_,_,rfl,_⟩:=h;exact l _ _
theorem qN{α0 α1 α2:Type}{f:α0->α1->α2->List V}{B:α0->α1->α2->Prop}(inj:∀ a b c a' b' c',f a b c=f a' b' c'->a=a'/\b=b'/\c=c')(a:α0)(b:α1)(c:α2):(∃ a' b' c',f a b c=f a' b' c'/\B a' b' c')=B a b c:=propext ⟨λ ⟨a',b',c',e,q⟩=>by obtain⟨rfl,rfl,rfl⟩:=inj _ _ _ _ _ _ e;exact q,λ q=>⟨a,b,c,rfl,q⟩⟩
theorem pE{α0 α1 α2:Type}{f:α0->α1->α2->List V}{B:α0->α1->α2->Prop}{vs:List V}{n:Nat}(h:∃ a b c,vs=f a b c/\B a b c)(l:∀ a b c,(f a b c).length=n):vs.length=n:=by
 obtain⟨_,_,_,rfl,_⟩:=h;exact l _ _ _
theorem BL{α0 α1 α2 α3:Type}{f:α0->α1->α2->α3->List V}{B:α0->α1->α2->α3->Prop}(inj:∀ a b c d a' b' c' d',f a b c d=f a' b' c' d'->a=a'/\b=b'/\c=c'/\d=d')(a:α0)(b:α1)(c:α2)(d:α3):(∃ a' b' c' d',f a b c d=f a' b' c' d'/\B a' b' c' d')=B a b c d:=propext ⟨λ ⟨a',b',c',d',e,q⟩=>by obtain⟨rfl,rfl,rfl,rfl⟩:=inj _ _ _ _ _ _ _ _ e;exact q,λ q=>⟨a,b,c,d,rfl,q⟩⟩
theorem BM{α0 α1 α2 α3:Type}{f:α0->α1->α2->α3->List V}{B:α0->α1->α2->α3->Prop}{vs:List V}{n:Nat}(h:∃ a b c d,vs=f a b c d/\B a b c d)(l:∀ a b c d,(f a b c d).length=n):vs.length=n:=by
 obtain⟨_,_,_,_,rfl,_⟩:=h;exact l _ _ _ _
theorem IG{α0 α1 α2 α3 α4:Type}{f:α0->α1->α2->α3->α4->List V}{B:α0->α1->α2->α3->α4->Prop}(inj:∀ a b c d i a' b' c' d' i',f a b c d i=f a' b' c' d' i'->a=a'/\b=b'/\c=c'/\d=d'/\i=i')(a:α0)(b:α1)(c:α2)(d:α3)(i:α4):(∃ a' b' c' d' i',f a b c d i=f a' b' c' d' i'/\B a' b' c' d' i')=B a b c d i:=propext ⟨λ ⟨a',b',c',d',i',e,q⟩=>by obtain⟨rfl,rfl,rfl,rfl,rfl⟩:=inj _ _ _ _ _ _ _ _ _ _ e;exact q,λ q=>⟨a,b,c,d,i,rfl,q⟩⟩
theorem IH{α0 α1 α2 α3 α4:Type}{f:α0->α1->α2->α3->α4->List V}{B:α0->α1->α2->α3->α4->Prop}{vs:List V}{n:Nat}(h:∃ a b c d i,vs=f a b c d i/\B a b c d i)(l:∀ a b c d i,(f a b c d i).length=n):vs.length=n:=by
 obtain⟨_,_,_,_,_,rfl,_⟩:=h;exact l _ _ _ _ _
theorem IX{P:List Value->Prop}(h:P []):∀ us:List Value,us.length=0->P us:=λ us e=>by
 cases us with
 | nil=>exact h
 | cons a r=>cases e
theorem mI{P:List Value->Prop}(h:∀ a,P [a]):∀ us:List Value,us.length=1->P us:=λ us e=>by
 cases us with
 | nil=>cases e
 | cons x r=>exact IX (P:=λ r=>P (x::r)) (h x) r (LZ e)
theorem nW{P:List Value->Prop}(h:∀ a b,P [a,b]):∀ us:List Value,us.length=2->P us:=λ us e=>by
 cases us with
 | nil=>cases e
 | cons x r=>exact mI (P:=λ r=>P (x::r)) (h x) r (LZ e)
theorem qP{P:List Value->Prop}(h:∀ a b c,P [a,b,c]):∀ us:List Value,us.length=3->P us:=λ us e=>by
 cases us with
 | nil=>cases e
 | cons x r=>exact nW (P:=λ r=>P (x::r)) (h x) r (LZ e)
theorem yH{P:List Value->Prop}(h:∀ a b c d,P [a,b,c,d]):∀ us:List Value,us.length=4->P us:=λ us e=>by
 cases us with
 | nil=>cases e
 | cons x r=>exact qP (P:=λ r=>P (x::r)) (h x) r (LZ e)
theorem IW{P:List Value->Prop}(h:∀ a b c d i,P [a,b,c,d,i]):∀ us:List Value,us.length=5->P us:=λ us e=>by
 cases us with
 | nil=>cases e
 | cons x r=>exact yH (P:=λ r=>P (x::r)) (h x) r (LZ e)
section
variable {X:Cx}
theorem pvN(i:Nat){x:Str}{pos:Pos}(hN:X.N[i]? = some x:=by rfl)(hv:Vis X.env.scope x:=by first|exact Or.inl rfl|exact Or.inr (Or.inl rfl)|exact Or.inr (Or.inr rfl))(hd:(x == ("__debug__":Str))=false:=by decide)
  (hcd:(x == ("__classdict__":Str))=false:=by decide):PE X (.Name x pos) (tV i):=by rw [←BZ];exact pv i hN hv hd hcd
theorem aw:OpR X (binaryOp .Add) (nI0 λ i j=>.int (i+j)):=by rw [←gJ];exact oh
theorem aN:OpR X (binaryOp .Sub) (nI0 λ i j=>.int (i - j)):=by rw [←gJ];exact Dd
theorem dk:OpR X (compareOp .Lt) (nI0 λ i j=>.bl (decide (i < j))):=by rw [←gJ];exact Ce
theorem mM:OpR X (compareOp .LtE) (nI0 λ i j=>.bl (decide (i<=j))):=by rw [←gJ];exact Gn
theorem dm:OpR X (compareOp .Gt) (nI0 λ i j=>.bl (decide (j < i))):=by rw [←gJ];exact Cf
theorem Cg:OpR X (compareOp .GtE) (nI0 λ i j=>.bl (decide (j<=i))):=by rw [←gJ];exact Gp
theorem cy:OpR X (binaryOp .Mult) (nI jw λ i j=>.int (i * j)):=by rw [←qV];exact fW
theorem bQ:OpR X (binaryOp .FloorDiv) (nI FZ λ i j=>.int (i / j)):=by rw [←qV];exact Ac
theorem wx:OpR X (binaryOp .FloorDiv) (nI zr λ i j=>.int (i.fdiv j)):=by rw [←qV];exact wu
theorem aO:OpR X (binaryOp .Mod) (nI (λ _ j=>0 < j) λ i j=>.int (i % j)):=by rw [←qV];exact gI
theorem kY:OpR X (binaryOp .Pow) (nI FY λ i j=>.int (i ^ j.toNat)):=by rw [←qV];exact Df
theorem dY:UnR X (unaryOp .USub) (nU λ i=>.int (-i)):=by rw [←Gw];exact CH
variable {a b c d e:Expr}{ta tb tc td t:TE}{pos:Pos}
theorem vX{op:CmpOp}{r:R2}(ho:OpR X (compareOp op) r)(ha:PE X a ta)(hb:PE X b tb)(hm:behindInMarks op b=false):PT X (.Compare a [op] [b] pos) (mO (tOp r ta tb)):=by rw [←gz];exact m7 ho ha hb hm
theorem zL(h:PE X e t)(he:∀ whole,isTrue e X.env whole=(do let v ←whole;standAt e.pos;holding [v] (truthy v)):=by intro _;rfl):PT X e (mO t):=by rw [←sX];exact CS h he
theorem lr{op op':CmpOp}{r r':R2}(ho:OpR X (compareOp op) r)(ho':OpR X (compareOp op') r')(ha:PE X a ta)(hb:PE X b tb)(hc:PE X c tc)
  (hm:lastMarks [op,op'] [b,c]=false:=by with_unfolding_all rfl):PE X (.Compare a [op,op'] [b,c] pos) (oi r r' ta tb tc):=by rw [←lD];exact wm ho ho' ha hb hc hm
theorem hG{op op':CmpOp}{r r':R2}(ho:OpR X (compareOp op) r)(ho':OpR X (compareOp op') r')(ha:PE X a ta)(hb:PE X b tb)(hc:PE X c tc)
  (hm:lastMarks [op,op'] [b,c]=false:=by with_unfolding_all rfl):PT X (.Compare a [op,op'] [b,c] pos) (mO (oi r r' ta tb tc)):=by rw [←gz,←lD];exact vY ho ho' ha hb hc hm
variable {rest:List Expr}
theorem zY(ha:PE X a ta)(hb:PE X (.BoolOp .And (b::rest) pos) tb):PE X (.BoolOp .And (a::b::rest) pos) (yU ta tb):=by rw [←wB];exact Dc ha hb
theorem ym(ha:PE X a ta)(hb:PE X (.BoolOp .Or (b::rest) pos) tb):PE X (.BoolOp .Or (a::b::rest) pos) (Fv ta tb):=by rw [←Af];exact Gi ha hb
theorem m8(ha:PE X a ta):PE X (.UnaryOp .Not a pos) (yR ta):=by rw [←wA];exact C8 ha
theorem aK:PGs X [] vG:=by rw [←Bk];exact zR
theorem sU{e:Expr}{es:List Expr}{t:TG}{u:TGs}(h1:PG X e t)(h2:PGs X es u)
  (hs:(assignEach (e::es) X.env).map (·.2)=assign e X.env::(assignEach es X.env).map (·.2):=by rfl):PGs X (e::es) (ou t u):=by rw [←xy];exact wb h1 h2 hs
end
theorem i3{c:TT}{t u:TS}{nx:St->Hp->Prop}{rt:VK}{bk ct:St->Hp->Prop}{σ:St}{H:Hp}(R:St->Hp->Prop)(h:∀ nx':St->Hp->Prop,(∀ σ' H',R σ' H'->nx' σ' H')->EZ c t u ⟨nx',rt,bk,ct⟩ σ H)(k:∀ σ' H',R σ' H'->nx σ' H'):EZ c t u ⟨nx,rt,bk,ct⟩ σ H:=h nx k
theorem Cn{i:Nat}:ME (tV i):=by rw [←BZ];exact rO
theorem yq{g:Int->Int->V}:MR (nI0 g):=by rw [←gJ];exact rP
theorem oP{t:TE}(h:ME t):MT (mO t):=by rw [←gz];exact nc h
theorem sm{t:TA}(h:MA t):ME (Fp t):=λ σ H Q Q' m q=>h σ H _ _ (λ xs H1 ⟨l,n⟩=>⟨l,λ p H' a b c=>m _ _ (n p H' a b c)⟩) q
def Fz(lo hi:Option Int)(H:Hp)(Q:VK):List V->Prop:=λ xs=>¬ (HT.sIx xs.length 0 lo=0/\HT.sIx xs.length xs.length hi=xs.length)/\gD (.tup (gd xs lo hi)) H Q
def Fu:V->Option Int->Option Int->Hp->VK->Prop:=λ x lo hi H Q=>match x with
 | .ref a=>aW (gF H a) (Fz lo hi H Q)
 | _=>False
theorem DT(a:Addr)(lo hi:Option Int)(H:Hp)(Q:VK):Fu (.ref a) lo hi H Q=aW (gF H a) (Fz lo hi H Q):=rfl
theorem oW(xs:List V)(z:Int)(h:0<=z):gd xs (some z) none=xs.drop z.toNat:=by
 unfold gd;obtain⟨n,rfl⟩:=Int.eq_ofNat_of_zero_le h;rw [HT.sIx_none,HT.sIx_nat]
 show _=xs.drop n
 rcases Nat.le_total n xs.length with q|q
 ·rw [Nat.min_eq_left q];exact KP (by rw [L5];omega)
 ·rw [Mu q,List.drop_of_length_le (JB _),List.drop_of_length_le q,List.take_nil]
theorem Ge{X:Cx}:SlR X Fu:=CN.mono λ x lo hi H Q h=>by
 unfold Fu at h;split at h
 ·rename_i a;obtain⟨xs,e,w,q⟩:=ar h;exact⟨a,xs,rfl,SqT.of (oa e),w,q.to⟩
 ·exact h.elim
section
variable {X:Cx}
end
section
variable {prog:Program}{w:World}{A:Around}{E:Value->Shared->Prop}{s:Shared}
end
section
variable {X:Cx}
end
section
variable {k:Nat}{g:TG}{tt:TT}{te:TE}{σ:St}{Q:VK}{H:Hp}
end
structure IsC(K:W.Frag)(C:Addr):Prop where
 cl:Cls K C
 fc:W.findIn K (.ref C) "__class__"=some (some (.builtin "object.__class__"))
 ocs:W.specialIn K (.builtin "object.__class__") "__get__"=some (some (.builtin "getset_descriptor.__get__"))
 oct:W.takesIn K (.builtin "object.__class__")=some true
 mo:W.mroIn K C (.type "object")=some true
def BQ(neg:Bool):R2:=λ x y H Q=>match x,y with
 | .bl b,.bl c=>Q (.bl (if neg=true then !(b == c) else b == c)) H
 | _,_=>False
theorem DW(neg b c:Bool)(H:Hp)(Q:VK):BQ neg (.bl b) (.bl c) H Q=Q (.bl (if neg=true then !(b == c) else b == c)) H:=rfl
section
variable {X:Cx}
theorem Ab:OpR X (compareOp .Is) (BQ false):=by
 intro pins s σ H x y v u Q I rx ry h;unfold BQ at h;split at h
 ·rename_i b c;cases (show v=Value.bool b from rx);cases (show u=Value.bool c from ry);refine wpAny_is_plain (by cases b<;>cases c<;>rfl) ⟨.bl (b == c),H,I,?_,h⟩
  cases b<;>cases c<;>rfl
 ·exact h.elim
theorem hV:OpR X (compareOp .IsNot) (BQ true):=by
 intro pins s σ H x y v u Q I rx ry h;unfold BQ at h;split at h
 ·rename_i b c;cases (show v=Value.bool b from rx);cases (show u=Value.bool c from ry);refine wpAny_isNot_plain (by cases b<;>cases c<;>rfl) ⟨.bl (!(b == c)),H,I,?_,h⟩
  cases b<;>cases c<;>rfl
 ·exact h.elim
end
section
variable {prog:Program}{w:World}{A:Around}{E:Value->Shared->Prop}{K:Frag}{x C dx:Addr}{s:Shared}{name:Str}{v:Value}
end
section
variable {X:Cx}{e o value:Expr}{ta tv:TE}{f:Str}{pos pos':Pos}
end
open Sem (wp)
open AutoSeq1 (wpAny_loadPart')
section
variable {X:Cx}
end
def CC(o:Obj):Prop:=∃ vs,o.data=.fields vs/\vs[2]? = some .none
section
variable {prog:Program}{w:World}{A:Around}{E:Value->Shared->Prop}{s:Shared}
end
def Iv(X:Cx):Prop:=∃ (e:Addr) (oe:Obj) (u:HO),X.A.handled=some (.ref e)/\X.H₀ e=some (.frz oe u)/\CC oe
structure Jq(P:Program)(w:World)(K:W.Frag)(tg:Expr)(J:It)(fp:List Addr)(it:Addr)(tn:Nat->Heap->Prop):Prop where
 mem:it∈fp
 obj:∀ i h,tn i h->∀ b∈fp,∃ o,h.get? b=some o/\∀ v,o.data ≠ .cell v
 keep:∀ i h h',tn i h->(∀ b∈fp,∀ o,h.get? b=some o->h'.get? b=some o)->tn i h'
 item:∀ (X:Cx),X.prog=P->X.w=w->X.K=K->Iv X->∀ (i:Nat) (pins:List (Addr × Obj)) (s:Shared) (σ:St) (H:Hp) (E:Value->Shared->Prop),Inv X pins σ H s->(∀ b∈fp,mJ X pins H b)->tn i s.heap->J.go i H →
  wpAny (model P w) X.A (pyNext (.ref it)) (λ r s1=>∃ u,r=some u /\
   wpAny (model P w) X.A (letOwnedTupleGo tg (.ref it) u) (λ _ s2=>∃ x H',Inv X pins σ H' s2/\bG x u/\J.yld i H x H'/\tn (i+1) s2.heap/\∀ b∈fp,H' b=none) E s1) E s
 done:∀ (X:Cx),X.prog=P->X.w=w->X.K=K->Iv X->∀ (i:Nat) (pins:List (Addr × Obj)) (s:Shared) (σ:St) (H:Hp) (E:Value->Shared->Prop),Inv X pins σ H s->(∀ b∈fp,mJ X pins H b)->tn i s.heap->J.stop i H →
  wpAny (model P w) X.A (pyNext (.ref it)) (λ r s1=>r=none/\Inv X pins σ H s1) E s
section
variable {X:Cx}{tg:Expr}
end
structure Ho(k:Nat)(e:Addr)(A:Around):Prop where
 hd:A.handled=some (.ref e)
 dp:A.depth+3 * k+5 < recursionLimit
 un:A.units+16 * k+200 < cLine
structure Jr(P:Program)(w:World)(K:W.Frag)(mg:Str->Option Value)(base:Heap)(CX:CXT)(k:Nat)(f:Addr)(fd:FuncData)(ps:List Str)(sp:Sp):Prop where
 len:∀ vs H Q E,sp vs H Q E->vs.length=ps.length
 run:∀ (A:Around) (outer:List Env) (s:Shared) (H:Hp) (args:Args) (us:List Value) (vs:List V) (Q:VK) (E:XK) (e:Addr) (oe:Obj) (u:HO),Ho k e A->H e=some (.frz oe u)->CC oe->x6 P w K mg base A outer s H->BindsTo s fd args (ps.zip us)->bq vs us->sp vs H Q E →
  codeAny (model P w) A (.call (.ref f) args) (CR CX outer P w H s Q E) s
section
variable {X:Cx}
end
section
variable {prog:Program}{w:World}{A:Around}{E:Value->Shared->Prop}{s:Shared}
structure IB(z TI TO i j l:Addr)(f g e:List Addr):Prop where
 ti:TI ≠ z/\TI ≠ TO/\TI ≠ i/\TI ≠ j/\TI ≠ l
 zt:z ≠ TO
 zf:z ∉ f
 zg:z ∉ g
 ze:z ∉ e
 tf:TO ∉ f
 tg:TO ∉ g
 te:TO ∉ e
 ig:i ∉ g
 ie:i ∉ e
 jf:j ∉ f
 je:j ∉ e
 lf:l ∉ f
 lg:l ∉ g
variable {z TI TO i j l:Addr}{f g e:List Addr}{ti tj tl:Nat->Heap->Prop}{vi vj vl:Nat->Option Value}{k m n:Nat}{x y u a b c:Value}
end
section
variable {prog:Program}{w:World}{A:Around}{E:Value->Shared->Prop}{s:Shared}
end
section
variable {X:Cx}
end
def FE(Q:VK)(a:Addr)(y:V):VK:=λ z H=>∃ o,qS H a y o/\Q (o.getD z) H
def FF(tx:TE)(σ:St)(Q:VK)(a:Addr):VK:=λ y H=>tx σ H (FE Q a y)
theorem Ei(tx:TE)(σ:St)(Q:VK)(a:Addr)(y:V)(H:Hp):FF tx σ Q a y H=tx σ H (FE Q a y):=rfl
def HZ(ty tx:TE)(σ:St)(Q:VK):VK:=λ x H=>∃ a,x=.ref a/\IsD H a/\ty σ H (FF tx σ Q a)
theorem wG(td ty tx:TE)(σ:St)(H:Hp)(Q:VK):yc td ty tx σ H Q=td σ H (HZ ty tx σ Q):=rfl
theorem gO{ty tx:TE}{σ:St}{Q:VK}{H:Hp}{a:Addr}{kvs:List (Key × V)}(e:H a=some (.dK kvs))(q:ty σ H (FF tx σ Q a)):HZ ty tx σ Q (.ref a) H:=⟨a,rfl,.inl ⟨kvs,.inl e⟩,q⟩
theorem kU{Q:VK}{H:Hp}{a:Addr}{kvs:List (Key × V)}{k:Key}{z:V}(e:H a=some (.dK kvs))(q:Q ((dE kvs k).getD z) H):FE Q a (kV k) z H:=⟨_,qS.k e,q⟩
section
variable {X:Cx}
end
def yG(X:Cx)(f:Value)(ks:List Str)(r:List V->List V->Hp->VK->Prop):Prop:=∀ pins s σ H vs us zs ws Q,Inv X pins σ H s->bq vs us->bq zs ws->r vs zs H Q->wpAny (model X.prog X.w) X.A (call f us (ks.zip ws)) (EP X pins σ Q) X.xe s
def FR(r:List V->List V->Hp->VK->Prop)(Q:VK)(vs:List V):List V->Hp->Prop:=λ zs H=>r vs zs H Q
theorem Eu(r:List V->List V->Hp->VK->Prop)(Q:VK)(vs zs:List V)(H:Hp):FR r Q vs zs H=r vs zs H Q:=rfl
def FT(r:List V->List V->Hp->VK->Prop)(tk:TA)(σ:St)(Q:VK):List V->Hp->Prop:=λ vs H=>tk σ H (FR r Q vs)
theorem Ew(r:List V->List V->Hp->VK->Prop)(tk:TA)(σ:St)(Q:VK)(vs:List V)(H:Hp):FT r tk σ Q vs H=tk σ H (FR r Q vs):=rfl
def Hz(r:List V->List V->Hp->VK->Prop)(t tk:TA):TE:=λ σ H Q=>t σ H (FT r tk σ Q)
theorem DE(r:List V->List V->Hp->VK->Prop)(t tk:TA)(σ:St)(H:Hp)(Q:VK):Hz r t tk σ H Q=t σ H (FT r tk σ Q):=rfl
theorem lu{X:Cx}{id:String}{x:Str}{p pos:Pos}{e:Expr}{es:List Expr}{kws:List Keyword}{ks:List Str}{r:List V->List V->Hp->VK->Prop}{t tk:TA}(hc:yG X (.builtin id) ks r)(hg:Gl X x)(hm:X.mg x=none)(hv:bootBuiltins x=some (.builtin id))(ha:PA X (e::es) t)(hk:PK X kws tk)(hn:x ≠ "__name__":=by decide)(hdb:(x == ("__debug__":Str))=false:=by decide)
  (hks:(backToKw pos (keywordEach kws X.env)).filterMap (·.1)=ks:=by rfl)
  (h1:backTo pos (starEach (e::es) X.env)=(false,eval e X.env)::backTo pos (starEach es X.env):=by rfl)
  (h2:(backTo pos (starEach (e::es) X.env)).any (·.1)=false:=by rfl)
  (h3:(backToKw pos (keywordEach kws X.env)).all (·.1.isSome)=true:=by rfl)
  (h4:(backToKw pos (keywordEach kws X.env)).any (·.1.isNone)=false:=by rfl):PE X (.Call (.Name x p) (e::es) kws pos) (Hz r t tk):=by
 intro pins s σ H Q I h;refine K6 (gL I hg hm hv ?_ hn hdb);refine callWith_kw (thn (ha pos pins s σ H _ I h) λ us s1 ⟨vs,H1,I1,r1,q1⟩=>thn (hk pos pins s1 σ H1 _ I1 q1) λ ws s2 ⟨zs,H2,I2,r2,q2⟩=>?_) h1 h2 h3 h4;rw [hks];exact hc pins s2 σ H2 vs us zs ws Q I2 r1 r2 q2
section
variable {prog:Program}{w:World}{A:Around}{R:Result->Shared->Prop}{J:Addr}{fp wr:List Addr}{G:Array GenState->Array GenState->Prop}{n:Nat}{P:Nat->Value->Prop}{St:Nat->Shared->Prop}
end
section
variable {prog:Program}{w:World}{A:Around}{R:Result->Shared->Prop}{J:Addr}{fp wr:List Addr}{G:Array GenState->Array GenState->Prop}{n:Nat}{P:Nat->Value->Prop}{St:Nat->Shared->Prop}
end
abbrev PKy:=List Int × List Int
section
variable {prog:Program}{w:World}
end
section
variable {P:Program}{w:World}{H:Hp}{h:Heap}{a:Addr}
end
section
variable {X:Cx}{pins:List (Addr × Obj)}{σ:St}{H:Hp}{s:Shared}{d b:Addr}{k:PKy}{Z:List PKy}{A:Around}{E:Value->Shared->Prop}
end
section
variable {X:Cx}
end
theorem si{X:Cx}{tg l:Expr}{tl:TE}{K:W.Frag}(hK:X.K=K)(hl:PE X l tl):PI X tg l (FU K tl):=by subst hK;exact yk hl
section
variable {X:Cx}{e st:Expr}{te tst:TE}{pos p2:Pos}
end
def Cb:List V->List V->Hp->VK->Prop:=λ vs zs H Q=>∃ p kvs ns,vs=[.ref p]/\zs=[.bl true]/\H p=some (.dK kvs)/\kvs.map (·.1)=ns.map (Sum.inl:Int->Key)/\ns.length < 64/\∀ ms:List Int,ms.Perm ns->ms.Pairwise (· >= ·)->gD (.lst (ms.map V.int)) H Q
theorem vK{p:Addr}{kvs:List (Key × V)}{ns:List Int}{H:Hp}{Q:VK}(e:H p=some (.dK kvs))(hk:kvs.map (·.1)=ns.map (Sum.inl:Int->Key))(hl:ns.length < 64)(q:∀ ms:List Int,ms.Perm ns->ms.Pairwise (· >= ·)->gD (.lst (ms.map V.int)) H Q):Cb [.ref p] [.bl true] H Q:=⟨p,kvs,ns,rfl,rfl,e,hk,hl,q⟩
section
variable {X:Cx}
theorem ji(hc:X.calm=true):yG X (.builtin "sorted") ["reverse"] Cb:=by
 intro pins s σ H vs us zs ws Q I r rz h;obtain⟨p,kvs,ns,rfl,rfl,e,hk,hl,q⟩:=h
 cases rz with
 | cons rb rz=>
 cases rz;cases rb
 cases r with
 | cons r rr=>
  cases rr;cases r;obtain⟨z,hd,xs,rel,dd⟩:=zm I.hok e;obtain⟨ep,hat⟩:=dd.dictAt;have hlen:kvs.length=xs.length:=LG rel;have hln:xs.length=ns.length:=by rw [←hlen];have:=KO List.length hk;simpa using this
  show wpAny (model X.prog X.w) X.A (call (.builtin "sorted") [.ref p] [(Str.ofString "reverse",.bool true)]) _ _ _
  refine call_function_entry_kw kind_sorted plain_sorted entry_sorted (args_sorted_rev _ _) ?_;unfold Builtin.«sorted»;refine wpAny_bind (m:=checkCount "sorted" 1 1 _) (wpAny_pure ?_);refine wpAny_bind (W.kdu_collect (A:=X.A.in1) (W.kdl_dict (knd:=bz X.prog X.w) (kvs:=xs) (ep:=ep) hd) (show X.A.in1.handled=none from I.ok.hd hc) hat (by omega) λ h' tk acc kp hacc=>?_);have hal:acc.toList.length=ns.length:=by rw [Array.length_toList,hacc.1,hln]
  have hI:IntsAre acc.toList ns:=by
   refine fe hal λ i u hu=>?_;obtain⟨k,x,hx,hku⟩:=hacc.2 i u (by simpa using hu);have hi:i < kvs.length:=by rw [hlen];exact(JC.mp hx).1
   have h1:kvs[i]? = some kvs[i]:=Jy hi;obtain⟨w',hw',rw'⟩:=fQ rel h1;rw [hx] at hw';cases hw';have h2:(kvs.map (·.1))[i]? = some k:=by rw [J4,h1];exact KO some rw'.1
   rw [hk,J4] at h2;obtain⟨n,hn,rfl⟩:=J7.mp h2
   rcases aT (show kR (Sum.inl n) u=true from hku) with ⟨j,t,e1,e2⟩|⟨j,t,e1,e2⟩
   ·cases e1;exact⟨n,t,hn,e2⟩
   ·cases e1
  refine Jx (wpAny_newList ?_ (by rw [hal];exact aj (by omega)));have hoL:(h'.push (seqObj "list" acc.toList.toArray 0)).get? h'.objs.size=some (seqObj "list" acc.toList.toArray 0):=JK _ rfl;refine Jx (KS (wpAny_call_entry_kw slot_list_sort ⟨_,hoL,rfl⟩ entry_list_sort (list_sort_tree_rev hoL hI (by omega) λ out ns' a1 a2 a3=>⟨_,rfl,?_⟩) (args_list_sort_rev _ _)));refine JE ⟨_,rfl,?_⟩;have I2:Inv X pins σ H { s with heap:=h',toks:=tk }:=I.kept (t':=tk) kp;have fr:=I2.hok.fresh (JB _);obtain⟨e',he'⟩:=sortedHeap_at (out:=out) hoL;refine⟨.ref h'.objs.size,_,I2.laid (t':=tk) (h':=sortedHeap (h'.push (seqObj "list" acc.toList.toArray 0)) h'.objs.size acc.toList out) (o:=.lst (ns'.map V.int)) (λ b u hb=>?_) (JB _) ⟨?_,out.toList,e',eh a1,?_⟩,rfl,q ns' a2 a3 _ _ fr (Ext.new fr) ag⟩
  ·have hb':h'.get? b=some u:=hb;have hlt:=JF hb';rw [sortedHeap_old (JR hlt) (by rw [size_push'];exact Ml hlt)];exact Jz _ hb'
  ·rw [JP,a2.length_eq];exact aj (by omega)
  ·rw [Array.toArray_toList];exact he'
end
section
variable {X:Cx}{a b:Expr}{ta tb:TE}{pos:Pos}{rest:List Expr}
def HV(tb:TE)(σ:St)(Q:VK):VK:=λ x H=>(x=.non/\tb σ H Q)\/(∃ p,x=.ref p/\H p=some (.lst [])/\tb σ H Q)\/∃ p y ys,x=.ref p/\H p=some (.lst (y::ys))/\Q x H
def HH(ta tb:TE):TE:=λ σ H Q=>ta σ H (HV tb σ Q)
theorem DU(ta tb:TE)(σ:St)(H:Hp)(Q:VK):HH ta tb σ H Q=ta σ H (HV tb σ Q):=rfl
theorem C6(ha:PE X a ta)(hb:PE X (.BoolOp .Or (b::rest) pos) tb):PE X (.BoolOp .Or (a::b::rest) pos) (HH ta tb):=by
 intro pins s σ H Q I h;refine BoolOp_or (thn (ha pins s σ H _ I h) λ v s1 ⟨x,H1,I1,r1,q1⟩=>?_)
 rcases q1 with ⟨hx,q⟩|⟨p,hx,hp,q⟩|⟨p,y,ys,hx,hp,q⟩
 ·subst hx;refine thn (rl pins s1 σ H1 .non v (λ k H'=>k=false/\H'=H1) I1 r1 ⟨false,rfl,rfl,rfl⟩) λ c s2 ⟨H2,I2,hc,hh⟩=>?_;subst hc hh;exact hb pins s2 σ H2 Q I2 q
 ·subst hx;refine thn (rl pins s1 σ H1 (.ref p) v (λ k H'=>k=false/\H'=H1) I1 r1 ⟨false,.inl ⟨[],SqL.of hp,rfl⟩,rfl,rfl⟩) λ c s2 ⟨H2,I2,hc,hh⟩=>?_;subst hc hh;exact hb pins s2 σ H2 Q I2 q
 ·subst hx;refine thn (rl pins s1 σ H1 (.ref p) v (λ k H'=>k=true/\H'=H1) I1 r1 ⟨true,.inl ⟨y::ys,SqL.of hp,rfl⟩,rfl,rfl⟩) λ c s2 ⟨H2,I2,hc,hh⟩=>?_;subst hc hh;exact⟨.ref p,H2,I2,r1,q⟩
end
end L2
namespace PH
open PySem L2
def vi:V->Int
 | .int i=>i
 | _=>0
theorem iR{α:Type}(l:List α):(l.filter λ _=>true)=l:=List.filter_eq_self.mpr λ _ _=>rfl
def au(a:Int × Int):Int × Int:=(a.1,if a.1 > 1 then a.2 else 0)
def axL(axs:List (Int × Int)):List (List Int):=axs.map λ a=>[a.1,a.2]
def bL(axs:List (Int × Int)):Int:=(axs.map λ a=>min 0 ((a.1 - 1) * a.2)).sum
def bM(axs:List (Int × Int)):Int:=(axs.map λ a=>max 0 ((a.1 - 1) * a.2)).sum
def fE(axs:List (Int × Int)):Prop:=axs.length<=8/\∀ a∈axs,1<=a.1/\a.1<=1000000000
structure fX(room first:Int)(axs:List (Int × Int)):Prop where
 ax:fE axs
 r1:1<=room
 r2:room<=1000000000000000000
 lo:0<=first+bL (axs.map au)
 hi:first+bM (axs.map au) < room
theorem fE.kept{axs:List (Int × Int)}(h:fE axs):fE (axs.map au):=⟨by rw [JP];exact h.1,λ a ha=>by
 obtain⟨b,hb,rfl⟩:=J0.mp ha;exact h.2 b hb⟩
def dM(room first:Int)(l:Addr):List (Str × V):=eA "axes" (.ref l) (eA "first" (.int first) (eA "room" (.int room) []))
theorem Gs:¬ (("room":Str) = "axes"):=by decide +kernel
theorem Gr:¬ (("room":Str) = "first"):=by decide +kernel
theorem Gv:¬ (("first":Str) = "axes"):=by decide +kernel
theorem dg(room first:Int)(l:Addr):(dM room first l).lookup ("room":Str)=some (.int room):=by
 unfold dM;rw [aS,if_neg Gs,aS,if_neg Gr,aS,if_pos rfl]
theorem cD(room first:Int)(l:Addr):(dM room first l).lookup ("first":Str)=some (.int first):=by
 unfold dM;rw [aS,if_neg Gv,aS,if_pos rfl]
theorem dh(room first:Int)(l:Addr):(dM room first l).lookup ("axes":Str)=some (.ref l):=by
 unfold dM;rw [aS,if_pos rfl]
theorem vJ(room first:Int)(l:Addr){m:Str}(h1:¬ m = "axes")(h2:¬ m = "first")(h3:¬ m = "room"):(dM room first l).lookup m=none:=by
 unfold dM;rw [aS,if_neg h1,aS,if_neg h2,aS,if_neg h3];rfl
theorem fb(a:Int × Int)(l:List (Int × Int)):bL (a::l)=min 0 ((a.1 - 1) * a.2)+bL l:=by unfold bL;simp
theorem ff(a:Int × Int)(l:List (Int × Int)):bM (a::l)=max 0 ((a.1 - 1) * a.2)+bM l:=by unfold bM;simp
def Ga(cs:List Int)(a:Int × Int):List Int:=cs.flatMap λ c=>(List.range a.1.toNat).map λ (n:Nat)=>c+(n:Int) * a.2
def Iz(first:Int)(axs:List (Int × Int)):List Int:=axs.foldl Ga [first]
theorem xv(f r:Int)(hr:0 < r)(hf:0<=f):Int.gcd r (f % r)=Int.gcd f r:=by
 obtain⟨n,rfl⟩:=Kn hf;obtain⟨m,rfl⟩:=Kn (Int.le_of_lt hr)
 show Nat.gcd (m:Int).natAbs (((n:Int) % (m:Int))).natAbs=Nat.gcd (n:Int).natAbs (m:Int).natAbs
 rw [←Int.natCast_emod];simp only [Int.natAbs_natCast];rw [Nat.gcd_comm n m,Nat.gcd_rec m n,Nat.gcd_comm]
theorem xu(f:Int)(hf:0<=f):(Int.gcd f 0:Int)=f:=by
 rw [Int.gcd_zero_right];omega
def pH(ns:List Int):Int:=ns.foldl (λ f n=>(Int.gcd f n:Int)) 0
theorem uJ(ns:List Int)(i:Nat)(z:Int)(h:ns[i]? = some z):pH (ns.take (i+1))=(Int.gcd (pH (ns.take i)) z:Int):=by
 unfold pH;rw [List.take_add_one,h];simp [List.foldl_append]
abbrev Tm3:=Int × Int × Int
def iP(zs:List Tm3)(cs:List (Int × Int)):Int:=((zs.zip cs).map λ p=>p.1.1 * p.2.1).sum
def nX(zs:List Tm3)(cs:List (Int × Int)):Int:=((zs.zip cs).map λ p=>p.1.1 * p.2.2).sum
def bX(zs:List Tm3)(cs:List (Int × Int)):List Int:=((zs.zip cs).filter λ p=>decide (p.2.1 < p.2.2)).map λ p=>p.1.1
def dX(g l gr r:Int):Bool:=decide (g < l) || decide (gr < g) || (decide (1 < r) && decide (0 < (g - l) % r))
def CA(zs:List Tm3)(cs:List (Int × Int))(g:Int):Bool:=dX g (iP zs cs) (nX zs cs) (pH (bX zs cs))
structure cG(zs:List Tm3):Prop where
 len:zs.length<=17
 all:∀ z∈zs,(1<=z.1/\z.1<=2000000000000000000)/\(-20000000000<=z.2.1/\z.2.1<=20000000000)/\z.2.1 < z.2.2/\z.2.2<=20000000000
structure fD(zs:List Tm3)(cs:List (Int × Int)):Prop where
 len:cs.length=zs.length
 all:∀ p∈zs.zip cs,p.1.2.1<=p.2.1/\p.2.1<=p.2.2/\p.2.2<=p.1.2.2
theorem nk(ns:List Int):0<=pH ns:=by
 have:∀ (ns:List Int) (a:Int),0<=a->0<=ns.foldl (λ f n=>(Int.gcd f n:Int)) a:=by
  intro ns
  induction ns with
  | nil=>intro a h;exact h
  | cons n ns ih=>intro a h;exact ih _ (by show (0:Int)<=(Int.gcd a n:Int);omega)
 exact this ns 0 (K1 _)
def trP(z:Tm3)(x:V)(H:Hp):Prop:=∃ q,x=.ref q/\H q=some (.tup [.int z.1,.int z.2.1,.int z.2.2])
theorem trP.ext{z:Tm3}{x:V}{H H':Hp}(h:trP z x H)(e:Ext H H'):trP z x H':=by
 obtain⟨q,rfl,hq⟩:=h;exact⟨q,rfl,e.at hq⟩
def LAt{α:Type}(R:α->V->Hp->Prop)(H:Hp)(p:Addr)(zs:List α):Prop:=∃ ys,H p=some (.lst ys)/\Al (λ z y=>R z y H) zs ys
theorem LAt.ext{α:Type}{R:α->V->Hp->Prop}{H H':Hp}{p:Addr}{zs:List α}(hR:∀ z y H H',R z y H->Ext H H'->R z y H')(h:LAt R H p zs)(e:Ext H H'):LAt R H' p zs:=by
 obtain⟨ys,hp,al⟩:=h;exact⟨ys,e.at hp,al.imp λ _ _ r=>hR _ _ _ _ r e⟩
abbrev gv(H:Hp)(p:Addr)(zs:List Tm3):Prop:=LAt trP H p zs
abbrev dP(H:Hp)(p:Addr)(cs:List (Int × Int)):Prop:=LAt axP H p cs
theorem bY{H H':Hp}{p:Addr}{zs:List Tm3}(h:gv H p zs)(e:Ext H H'):gv H' p zs:=LAt.ext (λ _ _ _ _ r e=>r.ext e) h e
theorem br{H H':Hp}{p:Addr}{zs:List (Int × Int)}(h:dP H p zs)(e:Ext H H'):dP H' p zs:=LAt.ext (λ _ _ _ _ r e=>r.ext e) h e
theorem kW{H:Hp}{zs:List Tm3}{ys:List V}(al:Al (λ z y=>trP z y H) zs ys){k:Nat}(hk:k < zs.length):∃ q,atI ys (0+(k:Int))=some (.ref q)/\H q=some (.tup [.int (zs.getD k default).1,.int (zs.getD k default).2.1,.int (zs.getD k default).2.2]):=by
 have hy:ys[k]? = some (ys[k]'(by rw [al.1];exact hk)):=Jy _;obtain⟨q,h1,h2⟩:=al.2 k _ _ (Jy hk) hy;refine⟨q,by rw [Kj];exact fJ (by rw [hy,h1]),?_⟩;rw [show zs.getD k default=zs[k] by simp [List.getD,Jy hk]];exact h2
theorem dc{H:Hp}{zs:List (Int × Int)}{ys:List V}(al:Al (λ z y=>axP z y H) zs ys){k:Nat}(hk:k < zs.length):∃ q,atI ys (0+(k:Int))=some (.ref q)/\H q=some (.tup [.int (zs.getD k default).1,.int (zs.getD k default).2]):=by
 have hy:ys[k]? = some (ys[k]'(by rw [al.1];exact hk)):=Jy _;obtain⟨q,h1,h2⟩:=al.2 k _ _ (Jy hk) hy;refine⟨q,by rw [Kj];exact fJ (by rw [hy,h1]),?_⟩;rw [show zs.getD k default=zs[k] by simp [List.getD,Jy hk]];exact h2
theorem zp{H:Hp}{zs:List (Int × Int)}{ys:List V}(al:Al (λ z y=>axP z y H) zs ys):Al (yK H) (zs.map λ z=>[z.1,z.2]) ys:=by
 refine⟨by rw [al.1,JP],λ i z y hz hy=>?_⟩;rw [J4] at hz;obtain⟨a,ha,rfl⟩:=J7.mp hz;exact al.2 i a y ha hy
theorem Al.cons'{α:Type}{R:α->V->Prop}{z:α}{y:V}{zs:List α}{ys:List V}(r:R z y)(h:Al R zs ys):Al R (z::zs) (y::ys):=⟨by simp [h.1],λ i z' y' a b=>by
 cases i with
 | zero=>cases a;cases b;exact r
 | succ n=>exact h.2 n z' y' (by simpa using a) (by simpa using b)⟩
theorem axP.upd{z:Int × Int}{y:V}{H:Hp}{p:Addr}{xs:List V}{o:HO}(h:axP z y H)(hp:H p=some (.lst xs)):axP z y (upd H p o):=by
 obtain⟨q,rfl,hq⟩:=h;exact⟨q,rfl,by rw [ah (λ e=>by rw [e,hp] at hq;cases hq)];exact hq⟩
def top(i:Nat):Stmt:=PySem.Challenge.pw_pacehall_k55_papers_read.main.body.getD i (.Pass ⟨0,0,0,0⟩)
abbrev fN:Stmt:=top 2
theorem qH:ak ["thing"] ["thing"] (ae fN):=⟨rfl,rfl,rfl,by decide +kernel,rfl,by decide +kernel,by decide +kernel⟩
abbrev dq:Stmt:=top 4
theorem nR:ak ["terms", "case"] ["terms", "case"] (ae dq):=⟨rfl,rfl,rfl,by decide +kernel,rfl,by decide +kernel,by decide +kernel⟩
abbrev cb:Stmt:=top 5
theorem iW:ak ["terms", "case"] ["terms", "case"] (ae cb):=⟨rfl,rfl,rfl,by decide +kernel,rfl,by decide +kernel,by decide +kernel⟩
abbrev dj:Stmt:=top 12
abbrev jb:Stmt:=top 13
abbrev eV:Stmt:=top 18
theorem nV:ak ["thing", "low", "high"] ["thing", "low", "high"] (ae eV):=⟨rfl,rfl,rfl,by decide +kernel,rfl,by decide +kernel,by decide +kernel⟩
abbrev gZ:Stmt:=top 19
theorem vb:ak ["thing"] ["thing"] (ae gZ):=⟨rfl,rfl,rfl,by decide +kernel,rfl,by decide +kernel,by decide +kernel⟩
abbrev g7:Stmt:=top 20
theorem vc:ak ["thing"] ["thing"] (ae g7):=⟨rfl,rfl,rfl,by decide +kernel,rfl,by decide +kernel,by decide +kernel⟩
abbrev eE:Stmt:=top 21
theorem qI:ak ["thing"] ["thing"] (ae eE):=⟨rfl,rfl,rfl,by decide +kernel,rfl,by decide +kernel,by decide +kernel⟩
abbrev eU:Stmt:=top 22
theorem nS:ak ["axis"] ["axis"] (ae eU):=⟨rfl,rfl,rfl,by decide +kernel,rfl,by decide +kernel,by decide +kernel⟩
abbrev bW:Stmt:=fG (top 23) 0
theorem iO:ak ["self", "room", "first", "axes"] ["self", "room", "first", "axes"] (ae bW):=⟨rfl,rfl,rfl,by decide +kernel,rfl,by decide +kernel,by decide +kernel⟩
abbrev fY:Stmt:=fG (top 23) 1
abbrev fZ:Stmt:=fG (top 23) 2
abbrev iq:Stmt:=fG (top 23) 4
abbrev cO:Stmt:=fG (top 23) 7
theorem mH:ak ["self"] ["self"] (ae cO):=⟨rfl,rfl,rfl,by decide +kernel,rfl,by decide +kernel,by decide +kernel⟩
abbrev bV:Stmt:=fG (top 23) 8
theorem iN:ak ["self"] ["self"] (ae bV):=⟨rfl,rfl,rfl,by decide +kernel,rfl,by decide +kernel,by decide +kernel⟩
abbrev cU:Stmt:=top 25
theorem eQ:ak ["one", "other"] ["one", "other"] (ae cU):=⟨rfl,rfl,rfl,by decide +kernel,rfl,by decide +kernel,by decide +kernel⟩
abbrev gP:Stmt:=top 27
theorem BB:ak ["one", "other"] ["one", "other"] (ae gP):=⟨rfl,rfl,rfl,by decide +kernel,rfl,by decide +kernel,by decide +kernel⟩
abbrev di:Stmt:=top 28
theorem aA:ak ["one", "other", "lows", "highs", "pace", "size", "times", "reach", "terms"] ["one", "other"] (ae di):=⟨rfl,rfl,rfl,by decide +kernel,rfl,by decide +kernel,by decide +kernel⟩
abbrev cK:Stmt:=top 30
theorem mF:ak ["terms"] ["terms"] (ae cK):=⟨rfl,rfl,rfl,by decide +kernel,rfl,by decide +kernel,by decide +kernel⟩
abbrev jV:Stmt:=top 31
theorem kd:ak ["case", "k", "at", "upper", "lower"] ["case", "k", "at"] (ae jV):=⟨rfl,rfl,rfl,by decide +kernel,rfl,by decide +kernel,by decide +kernel⟩
abbrev ft:Stmt:=top 32
theorem va:ak ["thing", "word", "many"] ["thing", "word", "many"] (ae ft):=⟨rfl,rfl,rfl,by decide +kernel,rfl,by decide +kernel,by decide +kernel⟩
abbrev cv:Stmt:=top 33
theorem kK:ak ["terms", "case", "number"] ["terms", "case", "number"] (ae cv):=⟨rfl,rfl,rfl,by decide +kernel,rfl,by decide +kernel,by decide +kernel⟩
abbrev g8:Stmt:=top 34
theorem lL:ak ["terms", "goal", "case", "step", "least"] ["terms", "goal", "case", "step"] (ae g8):=⟨rfl,rfl,rfl,by decide +kernel,rfl,by decide +kernel,by decide +kernel⟩
abbrev fM:Stmt:=top 35
theorem qG:ak ["case", "step"] ["case", "step"] (ae fM):=⟨rfl,rfl,rfl,by decide +kernel,rfl,by decide +kernel,by decide +kernel⟩
abbrev fO:Stmt:=top 36
theorem aE:ak ["one", "other", "paper", "found", "cases", "step", "case"] ["one", "other", "paper"] (ae fO):=⟨rfl,rfl,rfl,by decide +kernel,rfl,by decide +kernel,by decide +kernel⟩
abbrev eX:Stmt:=top 38
theorem dA:ak ["_law_script", "_law_k", "_law_many", "_law_number", "_law_cell"] ["_law_script", "_law_k", "_law_many"] (ae eX):=⟨rfl,rfl,rfl,by decide +kernel,rfl,by decide +kernel,by decide +kernel⟩
abbrev ei:Stmt:=top 39
theorem mG:ak ["_law_found"] ["_law_found"] (ae ei):=⟨rfl,rfl,rfl,by decide +kernel,rfl,by decide +kernel,by decide +kernel⟩
abbrev eY:Stmt:=top 40
theorem bo:ak ["_law_script", "_law_at", "_law_factor", "_law_axes_here", "_law_count", "_law_k", "_law_cell", "_law_size", "_law_pace"] ["_law_script", "_law_at", "_law_factor"] (ae eY):=⟨rfl,rfl,rfl,by decide +kernel,rfl,by decide +kernel,by decide +kernel⟩
abbrev bT:Stmt:=top 41
theorem bU:ak ["_law_one", "_law_other", "_law_goal", "_law_low", "_law_more", "_law_least", "_law_greatest", "_law_first", "_law_room"] ["_law_one", "_law_other", "_law_goal", "_law_low", "_law_more"] (ae bT):=⟨rfl,rfl,rfl,by decide +kernel,rfl,by decide +kernel,by decide +kernel⟩
abbrev cL:Stmt:=top 42
theorem ba:ak ["_law_one", "_law_other", "_law_ranges", "_law_axes_here", "_law_sign", "_law_size", "_law_pace", "_law_low", "_law_high", "_law_found"] ["_law_one", "_law_other"] (ae cL):=⟨rfl,rfl,rfl,by decide +kernel,rfl,by decide +kernel,by decide +kernel⟩
abbrev cE:Stmt:=top 43
theorem iD:ak ["_law_terms_here", "_law_case", "_law_least"] ["_law_terms_here", "_law_case"] (ae cE):=⟨rfl,rfl,rfl,by decide +kernel,rfl,by decide +kernel,by decide +kernel⟩
abbrev cW:Stmt:=top 44
theorem bx:ak ["_law_numbers", "_law_found", "_law_other", "_law_one"] ["_law_numbers"] (ae cW):=⟨rfl,rfl,rfl,by decide +kernel,rfl,by decide +kernel,by decide +kernel⟩
abbrev cM:Stmt:=top 45
theorem cS:ak ["_law_terms_here", "_law_goal", "_law_case", "_law_least", "_law_greatest", "_law_rest_here"] ["_law_terms_here", "_law_goal", "_law_case"] (ae cM):=⟨rfl,rfl,rfl,by decide +kernel,rfl,by decide +kernel,by decide +kernel⟩
abbrev eW:Stmt:=top 46
theorem iE:ak ["_law_terms_here", "_law_goal", "_law_case", "_law_by", "_law_k"] ["_law_terms_here", "_law_goal", "_law_case", "_law_by"] (ae eW):=⟨rfl,rfl,rfl,by decide +kernel,rfl,by decide +kernel,by decide +kernel⟩
abbrev dC:Stmt:=top 47
theorem bF:ak ["_law_terms_here", "_law_goal", "_law_case", "_law_step", "_law_least", "_law_greatest", "_law_word", "_law_k", "_law_at"] ["_law_terms_here", "_law_goal", "_law_case", "_law_step"] (ae dC):=⟨rfl,rfl,rfl,by decide +kernel,rfl,by decide +kernel,by decide +kernel⟩
abbrev dt:Stmt:=top 48
theorem b6:ak ["_law_terms_here", "_law_goal", "_law_paper", "_law_bare", "_law_cases", "_law_step", "_law_case", "_law_more"] ["_law_terms_here", "_law_goal", "_law_paper", "_law_bare"] (ae dt):=⟨rfl,rfl,rfl,by decide +kernel,rfl,by decide +kernel,by decide +kernel⟩
abbrev du:Stmt:=top 49
theorem b7:ak ["_law_terms_here", "_law_goal", "_law_case", "_law_least", "_law_greatest", "_law_found", "_law_rest_here", "_law_by"] ["_law_terms_here", "_law_goal", "_law_case"] (ae du):=⟨rfl,rfl,rfl,by decide +kernel,rfl,by decide +kernel,by decide +kernel⟩
abbrev cF:Stmt:=top 50
theorem aL:ak ["_law_script", "_law_terms_here", "_law_goal", "_law_cases", "_law_paper", "_law_case", "_law_cell", "_law_ends_here", "_law_opens", "_law_step", "_law_k"] ["_law_script", "_law_terms_here", "_law_goal"] (ae cF):=⟨rfl,rfl,rfl,by decide +kernel,rfl,by decide +kernel,by decide +kernel⟩
abbrev ej:Stmt:=top 51
theorem bu:ak ["_law_terms_here", "_law_cell", "_law_k", "_law_at", "_law_some"] ["_law_terms_here", "_law_cell"] (ae ej):=⟨rfl,rfl,rfl,by decide +kernel,rfl,by decide +kernel,by decide +kernel⟩
abbrev dB:Stmt:=top 52
theorem fC:ak ["_law_paper", "_law_terms_here", "_law_cell", "_law_at"] ["_law_paper", "_law_terms_here", "_law_cell"] (ae dB):=⟨rfl,rfl,rfl,by decide +kernel,rfl,by decide +kernel,by decide +kernel⟩
abbrev ek:Stmt:=top 53
theorem eo:ak ["_law_views", "_law_terms_here", "_law_goal", "_law_paper", "_law_kept", "_law_found"] ["_law_views", "_law_terms_here", "_law_goal", "_law_paper"] (ae ek):=⟨rfl,rfl,rfl,by decide +kernel,rfl,by decide +kernel,by decide +kernel⟩
abbrev cV:Stmt:=top 54
theorem cY:ak ["_law_views", "_law_paper", "_law_wider", "e"] ["_law_views", "_law_paper"] (ae cV):=⟨rfl,rfl,rfl,by decide +kernel,rfl,by decide +kernel,by decide +kernel⟩
abbrev dr:Stmt:=top 55
theorem bj:ak ["_law_script", "_law_pace", "_law_many", "_law_goal", "_law_views", "_law_paper", "_law_ends_here", "_law_number", "_law_end"] ["_law_script"] (ae dr):=⟨rfl,rfl,rfl,by decide +kernel,rfl,by decide +kernel,by decide +kernel⟩
abbrev jy:Stmt:=top 56
theorem gj:ak ["_law_script", "_law_factor", "_law_one", "_law_other", "_law_terms_here", "_law_cell", "_law_goal", "_law_views", "_law_paper", "_law_k", "_law_things", "_law_thing_here"] ["_law_script"] (ae jy):=⟨rfl,rfl,rfl,by decide +kernel,rfl,by decide +kernel,by decide +kernel⟩
set_option genInjectivity false in
structure Adr where
 a_PaceError:Addr
 a_NoPlace:Addr
 a_NoView:Addr
 a_NoPair:Addr
 a_View:Addr
 a_is_whole:Addr
 d_is_whole:FuncData
 a_least_sum:Addr
 d_least_sum:FuncData
 a_greatest_sum:Addr
 d_greatest_sum:FuncData
 a_is_number_below:Addr
 d_is_number_below:FuncData
 a_is_place:Addr
 d_is_place:FuncData
 a_is_within:Addr
 d_is_within:FuncData
 a_is_size:Addr
 d_is_size:FuncData
 a_is_axis:Addr
 d_is_axis:FuncData
 a_are_axes:Addr
 d_are_axes:FuncData
 a_kept_axis:Addr
 d_kept_axis:FuncData
 a_View___init__:Addr
 d_View___init__:FuncData
 a_View_sizes:Addr
 d_View_sizes:FuncData
 a_View_paces:Addr
 d_View_paces:FuncData
 a_View_cell:Addr
 d_View_cell:FuncData
 a_View_least:Addr
 d_View_least:FuncData
 a_View_greatest:Addr
 d_View_greatest:FuncData
 a_refuse_rooms:Addr
 d_refuse_rooms:FuncData
 a_pulls:Addr
 d_pulls:FuncData
 a_gathered:Addr
 d_gathered:FuncData
 a_first_case:Addr
 d_first_case:FuncData
 a_parted:Addr
 d_parted:FuncData
 a_is_step:Addr
 d_is_step:FuncData
 a_divides_all:Addr
 d_divides_all:FuncData
 a_ends_by:Addr
 d_ends_by:FuncData
 a_parts_by:Addr
 d_parts_by:FuncData
 a_is_apart:Addr
 d_is_apart:FuncData
 a__law_draw:Addr
 d__law_draw:FuncData
 a__law_whole:Addr
 d__law_whole:FuncData
 a__law_axes:Addr
 d__law_axes:FuncData
 a__law_placed:Addr
 d__law_placed:FuncData
 a__law_terms:Addr
 d__law_terms:FuncData
 a__law_sums:Addr
 d__law_sums:FuncData
 a__law_divisor:Addr
 d__law_divisor:FuncData
 a__law_ended:Addr
 d__law_ended:FuncData
 a__law_rest:Addr
 d__law_rest:FuncData
 a__law_behind:Addr
 d__law_behind:FuncData
 a__law_left:Addr
 d__law_left:FuncData
 a__law_ends:Addr
 d__law_ends:FuncData
 a__law_made:Addr
 d__law_made:FuncData
 a__law_thing:Addr
 d__law_thing:FuncData
 a__law_spoilt:Addr
 d__law_spoilt:FuncData
 a__law_asked:Addr
 d__law_asked:FuncData
 a__law_refused:Addr
 d__law_refused:FuncData
 a__law_long:Addr
 d__law_long:FuncData
 a_law:Addr
 d_law:FuncData
structure Tx(K:W.Frag)(mg:Str->Option Value)(t:Adr):Prop where
 m_PaceError:mg "PaceError"=some (.ref t.a_PaceError)
 m_NoPlace:mg "NoPlace"=some (.ref t.a_NoPlace)
 m_NoView:mg "NoView"=some (.ref t.a_NoView)
 m_NoPair:mg "NoPair"=some (.ref t.a_NoPair)
 m_View:mg "View"=some (.ref t.a_View)
 o_NoPair:W.excIn K t.a_NoPair [.type "ValueError",.type "Exception",.type "BaseException",.type "object"] "ValueError.__new__"=true
 x_NoPair_PaceError:W.exmOne K (.ref t.a_NoPair) (.ref t.a_PaceError)=some true
 ocs:W.specialIn K (.builtin "object.__class__") "__get__"=some (some (.builtin "getset_descriptor.__get__"))
 oct:W.takesIn K (.builtin "object.__class__")=some true
 ga_NoPair:W.findIn K (.ref t.a_NoPair) "__getattribute__"=some (some (.builtin "BaseException.__getattribute__"))
 gn_NoPair:W.findIn K (.ref t.a_NoPair) "__getattr__"=some none
 mb_NoPair:W.mroIn K t.a_NoPair (.type "BaseException")=some true
 mo_NoPair:W.mroIn K t.a_NoPair (.type "object")=some true
 fc_NoPair:W.findIn K (.ref t.a_NoPair) "__class__"=some (some (.builtin "object.__class__"))
 hd_NoPair:W.hasDictIn K t.a_NoPair=true
 kc_NoPair_NoPair:W.hasDictIn K t.a_NoPair=true
 kt_NoPair_NoPair:W.typeIn K (.ref t.a_NoPair)=some (.type "type")
 ks_NoPair_NoPair:W.subIn K (.ref t.a_NoPair) (.ref t.a_NoPair)=some true
 kc_NoPair_NoView:W.hasDictIn K t.a_NoView=true
 kt_NoPair_NoView:W.typeIn K (.ref t.a_NoView)=some (.type "type")
 ks_NoPair_NoView:W.subIn K (.ref t.a_NoPair) (.ref t.a_NoView)=some false
 kn_NoPair_NoView:(t.a_NoPair == t.a_NoView)=false
 ks_NoPair_ValueError:W.subIn K (.ref t.a_NoPair) (.type "ValueError")=some true
 m_MOST_ROOM:∃ tk,mg "MOST_ROOM"=some (.int 1000000000000000000 tk)
 m_MOST_SIZE:∃ tk,mg "MOST_SIZE"=some (.int 1000000000 tk)
 m_MOST_AXES:∃ tk,mg "MOST_AXES"=some (.int 8 tk)
 cl_View:Cls K t.a_View
 na_View_axes:dI K t.a_View "axes"
 na_View_first:dI K t.a_View "first"
 na_View_room:dI K t.a_View "room"
 mk_View:Mk K t.a_View t.a_View___init__
 mt_View_sizes:yM K t.a_View "sizes" t.a_View_sizes
 mt_View_paces:yM K t.a_View "paces" t.a_View_paces
 mt_View_cell:yM K t.a_View "cell" t.a_View_cell
 mt_View_least:yM K t.a_View "least" t.a_View_least
 mt_View_greatest:yM K t.a_View "greatest" t.a_View_greatest
 F_is_whole:Fun K "is_whole" "is_whole" fN t.a_is_whole t.d_is_whole
 m_is_whole:mg "is_whole"=some (.ref t.a_is_whole)
 b_is_whole:aF K t.d_is_whole ["thing"] []
 F_least_sum:Fun K "least_sum" "least_sum" dq t.a_least_sum t.d_least_sum
 m_least_sum:mg "least_sum"=some (.ref t.a_least_sum)
 b_least_sum:aF K t.d_least_sum ["terms", "case"] []
 F_greatest_sum:Fun K "greatest_sum" "greatest_sum" cb t.a_greatest_sum t.d_greatest_sum
 m_greatest_sum:mg "greatest_sum"=some (.ref t.a_greatest_sum)
 b_greatest_sum:aF K t.d_greatest_sum ["terms", "case"] []
 F_is_number_below:Fun K "is_number_below" "is_number_below" dj t.a_is_number_below t.d_is_number_below
 m_is_number_below:mg "is_number_below"=some (.ref t.a_is_number_below)
 b_is_number_below:aF K t.d_is_number_below ["thing", "bound"] []
 F_is_place:Fun K "is_place" "is_place" jb t.a_is_place t.d_is_place
 m_is_place:mg "is_place"=some (.ref t.a_is_place)
 b_is_place:aF K t.d_is_place ["sizes", "thing"] []
 F_is_within:Fun K "is_within" "is_within" eV t.a_is_within t.d_is_within
 m_is_within:mg "is_within"=some (.ref t.a_is_within)
 b_is_within:aF K t.d_is_within ["thing", "low", "high"] []
 F_is_size:Fun K "is_size" "is_size" gZ t.a_is_size t.d_is_size
 m_is_size:mg "is_size"=some (.ref t.a_is_size)
 b_is_size:aF K t.d_is_size ["thing"] []
 F_is_axis:Fun K "is_axis" "is_axis" g7 t.a_is_axis t.d_is_axis
 m_is_axis:mg "is_axis"=some (.ref t.a_is_axis)
 b_is_axis:aF K t.d_is_axis ["thing"] []
 F_are_axes:Fun K "are_axes" "are_axes" eE t.a_are_axes t.d_are_axes
 m_are_axes:mg "are_axes"=some (.ref t.a_are_axes)
 b_are_axes:aF K t.d_are_axes ["thing"] []
 F_kept_axis:Fun K "kept_axis" "kept_axis" eU t.a_kept_axis t.d_kept_axis
 m_kept_axis:mg "kept_axis"=some (.ref t.a_kept_axis)
 b_kept_axis:aF K t.d_kept_axis ["axis"] []
 F_View___init__:Fun K "__init__" "View.__init__" bW t.a_View___init__ t.d_View___init__
 b_View___init__:aF K t.d_View___init__ ["self", "room", "first", "axes"] []
 F_View_sizes:Fun K "sizes" "View.sizes" fY t.a_View_sizes t.d_View_sizes
 b_View_sizes:aF K t.d_View_sizes ["self"] []
 F_View_paces:Fun K "paces" "View.paces" fZ t.a_View_paces t.d_View_paces
 b_View_paces:aF K t.d_View_paces ["self"] []
 F_View_cell:Fun K "cell" "View.cell" iq t.a_View_cell t.d_View_cell
 b_View_cell:aF K t.d_View_cell ["self", "place"] []
 F_View_least:Fun K "least" "View.least" cO t.a_View_least t.d_View_least
 b_View_least:aF K t.d_View_least ["self"] []
 F_View_greatest:Fun K "greatest" "View.greatest" bV t.a_View_greatest t.d_View_greatest
 b_View_greatest:aF K t.d_View_greatest ["self"] []
 F_refuse_rooms:Fun K "refuse_rooms" "refuse_rooms" cU t.a_refuse_rooms t.d_refuse_rooms
 m_refuse_rooms:mg "refuse_rooms"=some (.ref t.a_refuse_rooms)
 b_refuse_rooms:aF K t.d_refuse_rooms ["one", "other"] []
 F_pulls:Fun K "pulls" "pulls" gP t.a_pulls t.d_pulls
 m_pulls:mg "pulls"=some (.ref t.a_pulls)
 b_pulls:aF K t.d_pulls ["one", "other"] []
 F_gathered:Fun K "gathered" "gathered" di t.a_gathered t.d_gathered
 m_gathered:mg "gathered"=some (.ref t.a_gathered)
 b_gathered:aF K t.d_gathered ["one", "other"] []
 F_first_case:Fun K "first_case" "first_case" cK t.a_first_case t.d_first_case
 m_first_case:mg "first_case"=some (.ref t.a_first_case)
 b_first_case:aF K t.d_first_case ["terms"] []
 F_parted:Fun K "parted" "parted" jV t.a_parted t.d_parted
 m_parted:mg "parted"=some (.ref t.a_parted)
 b_parted:aF K t.d_parted ["case", "k", "at"] []
 F_is_step:Fun K "is_step" "is_step" ft t.a_is_step t.d_is_step
 m_is_step:mg "is_step"=some (.ref t.a_is_step)
 b_is_step:aF K t.d_is_step ["thing", "word", "many"] []
 F_divides_all:Fun K "divides_all" "divides_all" cv t.a_divides_all t.d_divides_all
 m_divides_all:mg "divides_all"=some (.ref t.a_divides_all)
 b_divides_all:aF K t.d_divides_all ["terms", "case", "number"] []
 F_ends_by:Fun K "ends_by" "ends_by" g8 t.a_ends_by t.d_ends_by
 m_ends_by:mg "ends_by"=some (.ref t.a_ends_by)
 b_ends_by:aF K t.d_ends_by ["terms", "goal", "case", "step"] []
 F_parts_by:Fun K "parts_by" "parts_by" fM t.a_parts_by t.d_parts_by
 m_parts_by:mg "parts_by"=some (.ref t.a_parts_by)
 b_parts_by:aF K t.d_parts_by ["case", "step"] []
 F_is_apart:Fun K "is_apart" "is_apart" fO t.a_is_apart t.d_is_apart
 m_is_apart:mg "is_apart"=some (.ref t.a_is_apart)
 b_is_apart:aF K t.d_is_apart ["one", "other", "paper"] []
 F__law_draw:Fun K "_law_draw" "_law_draw" eX t.a__law_draw t.d__law_draw
 m__law_draw:mg "_law_draw"=some (.ref t.a__law_draw)
 b__law_draw:aF K t.d__law_draw ["_law_script", "_law_k", "_law_many"] []
 F__law_whole:Fun K "_law_whole" "_law_whole" ei t.a__law_whole t.d__law_whole
 m__law_whole:mg "_law_whole"=some (.ref t.a__law_whole)
 b__law_whole:aF K t.d__law_whole ["_law_found"] []
 F__law_axes:Fun K "_law_axes" "_law_axes" eY t.a__law_axes t.d__law_axes
 m__law_axes:mg "_law_axes"=some (.ref t.a__law_axes)
 b__law_axes:aF K t.d__law_axes ["_law_script", "_law_at", "_law_factor"] []
 F__law_placed:Fun K "_law_placed" "_law_placed" bT t.a__law_placed t.d__law_placed
 m__law_placed:mg "_law_placed"=some (.ref t.a__law_placed)
 b__law_placed:aF K t.d__law_placed ["_law_one", "_law_other", "_law_goal", "_law_low", "_law_more"] []
 F__law_terms:Fun K "_law_terms" "_law_terms" cL t.a__law_terms t.d__law_terms
 m__law_terms:mg "_law_terms"=some (.ref t.a__law_terms)
 b__law_terms:aF K t.d__law_terms ["_law_one", "_law_other"] []
 F__law_sums:Fun K "_law_sums" "_law_sums" cE t.a__law_sums t.d__law_sums
 m__law_sums:mg "_law_sums"=some (.ref t.a__law_sums)
 b__law_sums:aF K t.d__law_sums ["_law_terms_here", "_law_case"] []
 F__law_divisor:Fun K "_law_divisor" "_law_divisor" cW t.a__law_divisor t.d__law_divisor
 m__law_divisor:mg "_law_divisor"=some (.ref t.a__law_divisor)
 b__law_divisor:aF K t.d__law_divisor ["_law_numbers"] []
 F__law_ended:Fun K "_law_ended" "_law_ended" cM t.a__law_ended t.d__law_ended
 m__law_ended:mg "_law_ended"=some (.ref t.a__law_ended)
 b__law_ended:aF K t.d__law_ended ["_law_terms_here", "_law_goal", "_law_case"] []
 F__law_rest:Fun K "_law_rest" "_law_rest" eW t.a__law_rest t.d__law_rest
 m__law_rest:mg "_law_rest"=some (.ref t.a__law_rest)
 b__law_rest:aF K t.d__law_rest ["_law_terms_here", "_law_goal", "_law_case", "_law_by"] []
 F__law_behind:Fun K "_law_behind" "_law_behind" dC t.a__law_behind t.d__law_behind
 m__law_behind:mg "_law_behind"=some (.ref t.a__law_behind)
 b__law_behind:aF K t.d__law_behind ["_law_terms_here", "_law_goal", "_law_case", "_law_step"] []
 F__law_left:Fun K "_law_left" "_law_left" dt t.a__law_left t.d__law_left
 m__law_left:mg "_law_left"=some (.ref t.a__law_left)
 b__law_left:aF K t.d__law_left ["_law_terms_here", "_law_goal", "_law_paper", "_law_bare"] []
 F__law_ends:Fun K "_law_ends" "_law_ends" du t.a__law_ends t.d__law_ends
 m__law_ends:mg "_law_ends"=some (.ref t.a__law_ends)
 b__law_ends:aF K t.d__law_ends ["_law_terms_here", "_law_goal", "_law_case"] []
 F__law_made:Fun K "_law_made" "_law_made" cF t.a__law_made t.d__law_made
 m__law_made:mg "_law_made"=some (.ref t.a__law_made)
 b__law_made:aF K t.d__law_made ["_law_script", "_law_terms_here", "_law_goal"] []
 F__law_thing:Fun K "_law_thing" "_law_thing" ej t.a__law_thing t.d__law_thing
 m__law_thing:mg "_law_thing"=some (.ref t.a__law_thing)
 b__law_thing:aF K t.d__law_thing ["_law_terms_here", "_law_cell"] []
 F__law_spoilt:Fun K "_law_spoilt" "_law_spoilt" dB t.a__law_spoilt t.d__law_spoilt
 m__law_spoilt:mg "_law_spoilt"=some (.ref t.a__law_spoilt)
 b__law_spoilt:aF K t.d__law_spoilt ["_law_paper", "_law_terms_here", "_law_cell"] []
 F__law_asked:Fun K "_law_asked" "_law_asked" ek t.a__law_asked t.d__law_asked
 m__law_asked:mg "_law_asked"=some (.ref t.a__law_asked)
 b__law_asked:aF K t.d__law_asked ["_law_views", "_law_terms_here", "_law_goal", "_law_paper"] []
 F__law_refused:Fun K "_law_refused" "_law_refused" cV t.a__law_refused t.d__law_refused
 m__law_refused:mg "_law_refused"=some (.ref t.a__law_refused)
 b__law_refused:aF K t.d__law_refused ["_law_views", "_law_paper"] []
 F__law_long:Fun K "_law_long" "_law_long" dr t.a__law_long t.d__law_long
 m__law_long:mg "_law_long"=some (.ref t.a__law_long)
 b__law_long:aF K t.d__law_long ["_law_script"] []
 F_law:Fun K "law" "law" jy t.a_law t.d_law
 m_law:mg "law"=some (.ref t.a_law)
 b_law:aF K t.d_law ["_law_script"] []
 z_ValueError:mg "ValueError"=none
 z_abs:mg "abs"=none
 z_all:mg "all"=none
 z_bool:mg "bool"=none
 z_int:mg "int"=none
 z_isinstance:mg "isinstance"=none
 z_len:mg "len"=none
 z_list:mg "list"=none
 z_max:mg "max"=none
 z_min:mg "min"=none
 z_range:mg "range"=none
 z_sorted:mg "sorted"=none
 z_str:mg "str"=none
 z_sum:mg "sum"=none
 z_tuple:mg "tuple"=none
 z_zip:mg "zip"=none
theorem Tx.e_NoPair{K:W.Frag}{mg:Str->Option Value}{t:Adr}(T:Tx K mg t):vk K t.a_NoPair:=⟨T.ga_NoPair,T.gn_NoPair,T.mb_NoPair,T.mo_NoPair,T.fc_NoPair,T.ocs,T.oct,T.hd_NoPair⟩
theorem Tx.k_NoPair_NoPair{K:W.Frag}{mg:Str->Option Value}{t:Adr}(T:Tx K mg t):W.kitOne K (.ref t.a_NoPair) (.ref t.a_NoPair)=some true:=Bf T.kc_NoPair_NoPair T.kt_NoPair_NoPair T.ks_NoPair_NoPair
theorem Tx.k_NoPair_NoView{K:W.Frag}{mg:Str->Option Value}{t:Adr}(T:Tx K mg t):W.kitOne K (.ref t.a_NoPair) (.ref t.a_NoView)=some false:=EG T.kn_NoPair_NoView T.kc_NoPair_NoView T.kt_NoPair_NoView T.ks_NoPair_NoView
theorem Tx.k_NoPair_ValueError{K:W.Frag}{mg:Str->Option Value}{t:Adr}(T:Tx K mg t):W.kitOne K (.ref t.a_NoPair) (.type "ValueError")=some true:=EF (by decide +kernel) T.ks_NoPair_ValueError
local macro_rules | `(tactic| trivial) => `(tactic| first | exact Or.inl rfl | exact Or.inr rfl | exact Or.inr (Or.inl rfl) | exact Or.inr (Or.inr rfl) | assumption)
local macro_rules | `(tactic| simp! only [$xs,*]) => do
  let ys := xs.getElems.map λ x => (⟨x.raw⟩ : Lean.TSyntax `Lean.Parser.Tactic.simpLemma)
  let zs ← ("↓reduceIte ↓lB ↓Bv ↓Bu ↓Bt ↓Bs ↓Br ↓Bq ↓Bp ↓Bo ↓Bm ↓Bl ↓xx ↓xw ↓yu ↓GR ↓GA ↓IS ↓GL ↓Gx ↓p0 ↓pZ ↓Ea ↓DB ↓Ez ↓DH ↓GQ ↓Gz ↓Eg ↓GB ↓Eo ↓DC ↓wW ↓A6 ↓Ao ↓ui ↓uh ↓ug ↓uf ↓ue ↓Aq ↓G0 ↓GC ↓Ak ↓Dy ↓Dz ↓A5 ↓Am ↓Ef ↓gK ↓Ex ↓DG ↓D8 ↓DA ↓GV ↓Ed ↓DP ↓Ee ↓GU ↓GF ↓DS ↓DN ↓DM ↓p5 ↓nF ↓my ↓nE ↓p3 ↓ub ↓tZ ↓ua ↓tY ↓tX ↓tW ↓tU ↓tQ ↓tP ↓tO ↓tN ↓tI ↓tG ↓tH ↓tF ↓tM ↓tK ↓tJ ↓tE ↓tD ↓tw ↓tS ↓tR ↓Et ↓G7 ↓GD ↓Es ↓DF ↓Ey ↓tm ↓D6 ↓pY ↓AU ↓D7 ↓DI ↓AR ↓D4 ↓Aw ↓wO ↓wQ ↓EC ↓GW ↓GG ↓aQ ↓DD ↓GN ↓Bc ↓ud ↓uc ↓Eh ↓EB ↓GK ↓wH ↓DY ↓Dx ↓wM ↓wD ↓AM ↓wR ↓wF ↓G8 ↓mz ↓yV ↓GX ↓GY ↓GZ ↓DQ ↓Dl ↓Ap ↓AN ↓Ai ↓ED ↓qa ↓qb ↓fS ↓cw ↓eI ↓eG ↓kH ↓cc ↓wU ↓wV ↓Ek ↓p6 ↓kF ↓ky ↓kG ↓kC ↓nG ↓kD ↓ku ↓A0 ↓DZ ↓D0 ↓D1 ↓Gy ↓sY ↓AV ↓Aj ↓GO ↓GP ↓DK ↓DO ↓IV ↓AE ↓AX ↓wJ ↓Eb ↓Ec ↓yt ↓GS ↓GH ↓AF ↓AK ↓DL ↓Er ↓Bb ↓DR ↓AI ↓AJ ↓GJ ↓EA ↓aV ↓bA ↓cz ↓Av ↓Au ↓As ↓nh ↓A1 ↓A2 ↓Ej ↓DX ↓AL ↓AO ↓AQ ↓Az ↓p7 ↓wN ↓AY ↓AB ↓AZ ↓tu ↓AD ↓Ep ↓AG ↓wI ↓A3 ↓A4 ↓sZ ↓En ↓An ↓El ↓Em ↓Ar ↓Dw ↓Dv ↓Du ↓Dt ↓Ds ↓Dr ↓Dq ↓Dp ↓Dn ↓Dm ↓Ah ↓Ag ↓GI ↓IU ↓IT ↓wL ↓Ay ↓Ba ↓AH ↓D9 ↓DV ↓AW ↓AA ↓A7 ↓A8 ↓A9 ↓wK ↓Bd ↓wX ↓DT ↓DW ↓Ei ↓wG ↓Eu ↓Ew ↓DE ↓DU lB cT aY gF vQ vP wZ vN qJ ag zw zy zx CI zB CK zC zz zA vL xp Jf vT xO Bz Hn Hm Hl nq lI j2 fT fg xD BG EV BF Option.isSome_some Option.isSome_none Option.map_some List.length_cons List.length_nil List.length_map List.map_cons List.map_nil and_true true_and and_self implies_true reduceCtorEq decide_true decide_false Bool.not_true Bool.not_false if_true if_false decide_eq_true_eq Bool.false_eq_true Bool.not_eq_true' decide_eq_false_iff_not Bool.and_true Bool.true_and Bool.and_self Bool.and_eq_true Int.reduceToNat Int.reducePow Int.reduceMul Int.reduceAdd Int.reduceSub Int.reduceNeg Int.reduceLT Int.reduceLE Int.reduceEq Int.reduceNe Int.reduceDiv Int.reduceMod Nat.reduceAdd Nat.reduceLeDiff Nat.reduceLT Nat.reduceMul Nat.reducePow gt_iff_lt ge_iff_le ne_eq false_implies true_implies eq_self String.reduceEq Int.cast_ofNat_Int not_true_eq_false not_false_eq_true false_and and_false List.cons_append List.nil_append List.append_nil Ha G9".splitOn " ").toArray.mapM λ s => if s.startsWith "↓" then `(Lean.Parser.Tactic.simpLemma| ↓ $(Lean.mkIdent (s.replace "↓" "").toName):ident) else `(Lean.Parser.Tactic.simpLemma| $(Lean.mkIdent s.toName):ident)
  `(tactic| simp (config := { failIfUnchanged := false, maxDischargeDepth := 30, maxSteps := 10000000 }) only [$zs,*, $ys,*, *])
local macro_rules | `(%[$xs,*|$k:num]) => do
  let a := xs.getElems
  let s (i : Nat) : String := a[i]!.raw.getId.toString
  let I (n : String) : Lean.TSyntax `term := ⟨(Lean.mkIdent n.toName).raw⟩
  match k.getNat with
  | 49 => `($(a[0]!) (P := $(I "P")) (w := $(I "w")) (base := $(I "base")) $(I "T"))
  | 0 => `(@pvN _ $(a[0]!) _ _ (by rfl) (by trivial) (by decide) (by decide))
  | 1 => if a.size = 1 then `(@BP _ _ _ _ _ $(a[0]!) (@bC _) (by rfl)) else `(@BP _ _ _ _ _ $(a[0]!) $(a[1]!) (by rfl))
  | 2 => `(@dW _ _ _ _)
  | 7 => `(by trivial)
  | 8 => `(by omega)
  | 3 => `(@m9 _ _ _ _ _ _ _ _ _ _ _ _ _ _ _ _ $(I ("G_" ++ s 0)) ($(I "hr.mono") (by decide)) (by rfl) $(I ("T.m_" ++ s 0)) $(I ("T.F_" ++ s 0 ++ ".kp")) $(I ("T.b_" ++ s 0)) .nil pJ $(a[1]!) (by decide) (by rfl) (by rfl))
  | 4 => `(@dS _ _ $(a[0]!) _ _ _ _ ($(a[1]!)).nd rfl (Or.inl rfl) $(a[2]!) (by rfl) (by trivial))
  | 5 => `(@sj _ _ $(a[0]!) _ ($(a[1]!)).nd rfl (Or.inl rfl) (by trivial))
  | 6 => `(@gy _ _ _ _ _ _ _ $(Lean.Syntax.mkStrLit (s 0)) _ $(a[1]!) (by rfl) $(I ("T.z_" ++ s 0)) (by decide +kernel) $(a[2]!) (by decide) (by decide) (by rfl) (by rfl))
  | 9 => `(@dR _ _ _ _ _ _ _ _ $(a)*)
  | 10 => `(@fq _ _ _ _ _ $(a)*)
  | 11 => `(@yP _ _ _ _ _ _ _ $(a)*)
  | 12 => `(@jE _ _ _ $(a)*)
  | 13 => `(@rK _ _ _ _ $(a)*)
  | 14 => `(@zS _ _ _ _ _ $(a)*)
  | 15 => `(@vX _ _ _ _ _ _ _ _ $(a)*)
  | 16 => `(@yO _ _ _ _ _ _ _ _ $(a)*)
  | 17 => `(@av _ _ _ $(a)*)
  | 18 => `(@zT _ _ _ _ $(a)*)
  | 19 => `(@sU _ _ _ _ _ $(a)*)
  | 20 => `(@sj _ _ $(a)*)
  | 21 => `(@bD _ _ _ $(a)*)
  | 22 => `(@zL _ _ _ $(a)*)
  | 23 => `(@yk _ _ _ _ $(a)*)
  | 24 => `(@CT _ _ _ _ $(a)*)
  | 25 => `(@zW _ _ _ _ _ _ _ _ $(a)*)
  | 26 => `(@zV _ _ _ _ _ _ _ _ _ _ _ $(a)*)
  | 27 => `(@CZ _ _ _ _ _ $(a)*)
  | 28 => `(@Gg _ _ _ _ _ _ _ $(a)*)
  | 29 => `(@zU _ _ _ _ _ $(a)*)
  | 30 => `(@zY _ _ _ _ _ _ _ $(a)*)
  | 31 => `(@zN _ _ _ _ $(a)*)
  | 32 => `(@zP _ _ _ $(a)*)
  | 33 => `(@CQ _ _ _ _ _ _ _ $(a)*)
  | 34 => `(@zX _ _ $(a)*)
  | 35 => `(@CW _ _ _ _ _ _ _ _ $(a)*)
  | 36 => `(@wc _ _ _ _ _ _ _ _ _ _ $(a)*)
  | 37 => `(@CP _ _ _ _ $(a)*)
  | 38 => `(@C7 _ _ _ _ _ $(a)*)
  | 39 => `(@zJ _ _ _ _ $(a)*)
  | 40 => `(@Gj _ _ _ _ _ _ _ _ _ _ _ _ $(a)*)
  | 41 => `(@sT _ _ _ _ _ _ $(a)*)
  | 42 => `(@Gh _ _ _ _ _ _ $(a)*)
  | 43 => `(@sV _ _ _ _ _ _ _ _ _ $(a)*)
  | 44 => `(@zO _ _ _ _ _ _ _ _ _ $(a)*)
  | 45 => `(@zM _ _ _ _ _ _ _ _ _ _ _ _ _ $(a)*)
  | 46 => `(@C9 _ _ _ _ _ _ _ _ _ $(a)*)
  | 47 => `(@wj _ _ _ _ _ _ _ _ _ $(a)*)
  | 48 => `(@we _ _ _ _ _ _ _ _ _ _ _ _ _ _ _ _ _ $(a)*)
  | _ => Lean.Macro.throwUnsupported
local macro_rules | `(∅) => `(by rfl)
local macro_rules | `(⋯) => `(by decide)
local macro_rules | `(nofun) => `(by decide +kernel)
local macro_rules | `(tactic| ac_rfl) => `(tactic| simp! only [and_true])
local macro_rules | `(tactic| exists $x:ident) => `(tactic| replace $x := λ (_ : Unit) => $x)
section
variable {P:Program}{w:World}{K:PySem.W.Frag}{mg:Str->Option Value}{base:Heap}{t:Adr}
def rG(K:W.Frag)(a:Addr)(ns:List Int):Sp:=λ vs H Q E=>∃ (k:Int) (m:Int),vs=[.ref a,.int k,.int m]/\(SqL K H a (ns.map V.int)/\ns.length<=63/\(0<=k/\k < 1000)/\0 < m/\∀ z:Int,0<=z->z < m->Q (.int z) H)
theorem aU(K:W.Frag)(a:Addr)(ns:List Int)(k:Int)(m:Int)(H:Hp)(Q:VK)(E:XK):rG K a ns [.ref a,.int k,.int m] H Q E=(SqL K H a (ns.map V.int)/\ns.length<=63/\(0<=k/\k < 1000)/\0 < m/\∀ z:Int,0<=z->z < m->Q (.int z) H):=pD (f:=λ (k:Int) (m:Int)=>[.ref a,.int k,.int m]) (λ _ _ _ _ h=>by cases h;exact⟨rfl,rfl⟩) k m
theorem xh(K:W.Frag)(a:Addr)(ns:List Int){vs:List V}{H:Hp}{Q:VK}{E:XK}(h:rG K a ns vs H Q E):vs.length=3:=pF h λ _ _=>rfl
theorem cQ(T:Tx K mg t)(a:Addr)(ns:List Int):bP P w K mg base CX0 1 t.a__law_draw t.d__law_draw ["_law_script", "_law_k", "_law_many"] (rG K a ns):=by
 refine T.F__law_draw.ok dA (λ vs H Q E h=>xh _ _ _ h) (λ c A o s H vs Q E hr h=>?_)
 ·obtain⟨k,m,rfl,hS,hl,⟨hk0,hk1⟩,hm,kk⟩:=h;have fin:∀ z:Int,Q (.int (z % m)) H:=λ z=>kk _ (Kb _ %[0|8]) (Ko _ hm)
  refine⟨_,(fq (yO (m7 Ce (pv 1) (gy (id := "len") cR ∅ T.z_len nofun (BP (pv 0) bC)) (af _))
   (jE (rK (dR gI (yP ni (pv 0) (pv 1) (λ _ _=>rfl)) (pv 2))))
   ai)
  (fq (dS (i:=3) dA.nd rfl (Or.inl rfl) (dR oh (dR fW (dR fW (pv 1) (pv 1)) dW) dW))
  (fq (yO (m7 Cf (gy (id := "len") cR ∅ T.z_len nofun (BP (pv 0) bC)) dW (af _))
   (fq (dS (i:=4) dA.nd rfl (Or.inl rfl) (dR gI (yP ni (pv 0) (dR gI (pv 1) (gy (id := "len") cR ∅ T.z_len nofun (BP (pv 0) bC))) (λ _ _=>rfl)) dW))
   (jE (dS (i:=3) dA.nd rfl (Or.inl rfl) (dR oh (dR fW (pv 4) (dR oh dW (dR fW (dR fW dW (pv 1)) (pv 1)))) (dR fW (pv 1) dW)))))
   ai)
  (jE (rK (dR gI (dR gI (dR fW (dR gI (pv 3) dW) dW) dW) (pv 2))))))),?_⟩
  refine⟨_,rfl,_,rfl,a,_,rfl,.inl hS,_,_,rfl,rfl,_,rfl,?_⟩;refine Ij (λ h=>?_) (λ h=>?_)
  ·have h1:k < (ns.length:Int):=by simpa using h
   obtain⟨z,hz,_⟩:=pb ns k hk0 h1;exact⟨_,rfl,_,rfl,a,_,k,_,rfl,rfl,hS,hz,_,rfl,_,_,rfl,rfl,hm,fin _⟩
  ·refine⟨_,rfl,_,rfl,_,_,rfl,rfl,.inl ⟨by omega,by omega⟩,_,_,rfl,rfl,.inr ⟨by decide,by decide⟩,_,_,rfl,rfl,?_⟩;refine⟨_,rfl,a,_,rfl,.inl hS,_,_,rfl,rfl,_,rfl,?_⟩;refine Ij (λ h2=>?_) (λ h2=>?_)
   ·have h3:0 < (ns.length:Int):=by simpa using h2
    have h4:(0:Int) < ((ns.map V.int).length:Int):=by simpa using h3
    obtain⟨z,hz,_⟩:=pb ns (k % ((ns.map V.int).length:Int)) (Kb _ %[0|8]) (by have:=Ko k h4;simpa using this);refine⟨_,rfl,_,rfl,_,rfl,a,_,rfl,.inl hS,_,_,rfl,rfl,h4,a,_,_,_,rfl,rfl,hS,hz,_,_,rfl,rfl,(by first|decide|(show (0:Int) < _;decide)),?_⟩;refine⟨_,rfl,_,rfl,_,_,rfl,rfl,.inl ⟨by decide,by decide⟩,_,rfl,_,_,rfl,rfl,.inr ⟨by omega,by omega⟩,_,_,rfl,rfl,_,_,rfl,rfl,?_,?_⟩
    ·refine .inl ⟨?_,?_⟩
     ·have:=Kb z (show (999999937:Int) ≠ 0 by decide);omega
     ·have:=Ko z (show (0:Int) < 999999937 by decide);omega
    refine⟨_,rfl,_,_,rfl,rfl,.inr ⟨by decide,by decide⟩,_,_,rfl,rfl,?_⟩;exact⟨_,rfl,_,_,rfl,rfl,(by first|decide|(show (0:Int) < _;decide)),_,_,rfl,rfl,.inr ⟨by decide,by decide⟩,_,_,rfl,rfl,(by first|decide|(show (0:Int) < _;decide)),_,rfl,_,_,rfl,rfl,hm,fin _⟩
   ·exact⟨_,rfl,_,_,rfl,rfl,(by first|decide|(show (0:Int) < _;decide)),_,_,rfl,rfl,.inr ⟨by decide,by decide⟩,_,_,rfl,rfl,(by first|decide|(show (0:Int) < _;decide)),_,rfl,_,_,rfl,rfl,hm,fin _⟩
def jB  : Sp:=λ vs H Q E=>∃ (x:V),vs=[x]/\(aW (isW H x) (kE4 H Q))
theorem aR  (x:V) (H:Hp) (Q:VK) (E:XK):jB  [x] H Q E=(aW (isW H x) (kE4 H Q)):=ve (f:=λ (x:V)=>[x]) (λ _ _ h=>by cases h;exact rfl) x
theorem lF  {vs:List V}{H:Hp}{Q:VK}{E:XK}(h:jB  vs H Q E):vs.length=1:=qR h λ _=>rfl
theorem fA(T:Tx K mg t):bP P w K mg base CX0 1 t.a__law_whole t.d__law_whole ["_law_found"] jB:=by
 refine T.F__law_whole.ok mG (λ vs H Q E h=>lF h) (λ c A o s H vs Q E hr h=>?_)
 ·obtain⟨x,rfl,h⟩:=h;obtain⟨b,hb,k⟩:=ar h;clear h;rw [yV] at k;refine⟨_,%[%[%[%[isinstance,bp,%[%[0|0],%[%[(.ty "int"),(.type "int"),_,∅,T.z_int,nofun,rfl,⋯,⋯|34]|1]|1]|6],%[(@m8 _ _ _ _ %[isinstance,bp,%[%[0|0],%[%[(.ty "bool"),(.type "bool"),_,∅,T.z_bool,nofun,rfl,⋯,⋯|34]|1]|1]|6])|38]|30]|13]|12],?_⟩;rw [show aJ ["_law_found"] [x]=[some (x)] from rfl]
  cases x with
  | int i=>cases hb;ac_rfl
  | bl i=>cases hb;ac_rfl
  | non=>cases hb;ac_rfl
  | str i=>cases hb;ac_rfl
  | ref p=>
   obtain⟨rfl,o,ho,ht⟩:=sx hb
   rcases ht with ht|ht|ht<;>ac_rfl
  | _=>cases hb
theorem dv(T:Tx K mg t):bP P w K mg base CX0 1 t.a_is_whole t.d_is_whole ["thing"] jB:=by
 refine T.F_is_whole.ok qH (λ vs H Q E h=>lF h) (λ c A o s H vs Q E hr h=>?_)
 ·obtain⟨x,rfl,h⟩:=h;obtain⟨b,hb,k⟩:=ar h;clear h;rw [yV] at k;refine⟨_,%[%[%[%[isinstance,bp,%[%[0|0],%[%[(.ty "int"),(.type "int"),_,∅,T.z_int,nofun,rfl,⋯,⋯|34]|1]|1]|6],%[(@m8 _ _ _ _ %[isinstance,bp,%[%[0|0],%[%[(.ty "bool"),(.type "bool"),_,∅,T.z_bool,nofun,rfl,⋯,⋯|34]|1]|1]|6])|38]|30]|13]|12],?_⟩;rw [show aJ ["thing"] [x]=[some (x)] from rfl]
  cases x with
  | int i=>cases hb;ac_rfl
  | bl i=>cases hb;ac_rfl
  | non=>cases hb;ac_rfl
  | str i=>cases hb;ac_rfl
  | ref p=>
   obtain⟨rfl,o,ho,ht⟩:=sx hb
   rcases ht with ht|ht|ht<;>ac_rfl
  | _=>cases hb
def jJ  : Sp:=λ vs H Q E=>∃ (i:Int) (lo:Int) (hi:Int),vs=[.int i,.int lo,.int hi]/\(Q (.bl (decide (lo<=i) && decide (i<=hi))) H)
theorem jj  (i:Int) (lo:Int) (hi:Int) (H:Hp) (Q:VK) (E:XK):jJ  [.int i,.int lo,.int hi] H Q E=(Q (.bl (decide (lo<=i) && decide (i<=hi))) H):=qN (f:=λ (i:Int) (lo:Int) (hi:Int)=>[.int i,.int lo,.int hi]) (λ _ _ _ _ _ _ h=>by cases h;exact⟨rfl,rfl,rfl⟩) i lo hi
theorem qd  {vs:List V}{H:Hp}{Q:VK}{E:XK}(h:jJ  vs H Q E):vs.length=3:=pE h λ _ _ _=>rfl
theorem gb(T:Tx K mg t):bP P w K mg base CX0 2 t.a_is_within t.d_is_within ["thing", "low", "high"] jJ:=by
 have G_is_whole:=%[dv|49];refine T.F_is_within.ok nV (λ vs H Q E h=>qd h) (λ c A o s H vs Q E hr h=>?_)
 ·obtain⟨i,lo,hi,rfl,k⟩:=h;refine⟨_,%[%[%[%[is_whole,%[%[0|0]|1]|3],%[(@lr _ _ _ _ _ _ _ _ _ _ _ _ mM mM %[1|0] %[0|0] %[2|0] ∅)|38]|30]|13]|12],?_⟩;rw [show aJ ["thing", "low", "high"] [.int i,.int lo,.int hi]=[some (.int i),some (.int lo),some (.int hi)] from rfl]
  by_cases h0:lo<=i
  ·rw [JZ h0,Mh] at k;simp! only [↓aR]
  ·rw [JW h0,Ma] at k;simp! only [↓aR]
def rq  : Sp:=λ vs H Q E=>∃ (i:Int),vs=[.int i]/\(Q (.bl (decide (1<=i) && decide (i<=1000000000))) H)
theorem xR  (i:Int) (H:Hp) (Q:VK) (E:XK):rq  [.int i] H Q E=(Q (.bl (decide (1<=i) && decide (i<=1000000000))) H):=ve (f:=λ (i:Int)=>[.int i]) (λ _ _ h=>by cases h;exact rfl) i
theorem w5  {vs:List V}{H:Hp}{Q:VK}{E:XK}(h:rq  vs H Q E):vs.length=1:=qR h λ _=>rfl
theorem pR(T:Tx K mg t):bP P w K mg base CX0 3 t.a_is_size t.d_is_size ["thing"] rq:=by
 have G_is_within:=%[gb|49];refine T.F_is_size.ok vb (λ vs H Q E h=>w5 h) (λ c A o s H vs Q E hr h=>?_)
 ·obtain⟨i,rfl,k⟩:=h;refine⟨_,%[%[%[is_within,%[%[0|0],%[%[0|2],%[(@gQ _ _ (.int 1000000000) _ _ ∅ T.m_MOST_SIZE.choose_spec ⟨_,rfl⟩ ⋯)|1]|1]|1]|3]|13]|12],?_⟩;rw [show aJ ["thing"] [.int i]=[some (.int i)] from rfl];simp! only [↓jj]
abbrev pz  (p:Addr) (H:Hp) (Q:VK) (E:XK):Prop:=∃ a:Int × Int,H p=some (.tup [.int a.1,.int a.2])/\1<=a.1/\a.1<=1000000000/\Q (.bl true) H
def rH  : Sp:=λ vs H Q E=>∃ (p:Addr),vs=[.ref p]/\(pz  p H Q E)
theorem xV  (p:Addr) (H:Hp) (Q:VK) (E:XK):rH  [.ref p] H Q E=(pz  p H Q E):=ve (f:=λ (p:Addr)=>[.ref p]) (λ _ _ h=>by cases h;exact rfl) p
theorem xi  {vs:List V}{H:Hp}{Q:VK}{E:XK}(h:rH  vs H Q E):vs.length=1:=qR h λ _=>rfl
theorem pS(T:Tx K mg t):bP P w K mg base CX0 4 t.a_is_axis t.d_is_axis ["thing"] rH:=by
 have G_is_size:=%[pR|49];have G_is_whole:=%[dv|49];refine T.F_is_axis.ok vc (λ vs H Q E h=>xi h) (λ c A o s H vs Q E hr h=>?_)
 ·obtain⟨p,rfl,a,hp,h1,h2,k⟩:=h;refine⟨_,%[%[%[%[isinstance,bp,%[%[0|0],%[%[(.ty "tuple"),(.type "tuple"),_,∅,T.z_tuple,nofun,rfl,⋯,⋯|34]|1]|1]|6],%[%[(bt hr.units),%[len,ao,%[%[0|0]|1]|6],%[0|2],(af _)|25],%[%[is_size,%[%[az,%[0|0],%[0|2],(λ _ _=>rfl)|11]|1]|3],%[%[is_whole,%[%[az,%[0|0],%[0|2],(λ _ _=>rfl)|11]|1]|3]|38]|30]|30]|30]|13]|12],?_⟩;rw [show aJ ["thing"] [.ref p]=[some (.ref p)] from rfl];simp! only [↓xR,↓aR]
abbrev ph  (p:Addr) (H:Hp) (Q:VK) (E:XK):Prop:=∃ a:Int × Int,H p=some (.tup [.int a.1,.int a.2])/\∀ (r:Addr) (H':Hp),H r=none->Ext H H'->H' r=some (.tup [.int (au a).1,.int (au a).2])->Q (.ref r) H'
def rB  : Sp:=λ vs H Q E=>∃ (p:Addr),vs=[.ref p]/\(ph  p H Q E)
theorem xT  (p:Addr) (H:Hp) (Q:VK) (E:XK):rB  [.ref p] H Q E=(ph  p H Q E):=ve (f:=λ (p:Addr)=>[.ref p]) (λ _ _ h=>by cases h;exact rfl) p
theorem w9  {vs:List V}{H:Hp}{Q:VK}{E:XK}(h:rB  vs H Q E):vs.length=1:=qR h λ _=>rfl
theorem mf(T:Tx K mg t):bP P w K mg base CX0 1 t.a_kept_axis t.d_kept_axis ["axis"] rB:=by
 refine T.F_kept_axis.ok nS (λ vs H Q E h=>w9 h) (λ c A o s H vs Q E hr h=>?_)
 ·obtain⟨p,rfl,a,hp,k⟩:=h;refine⟨_,%[%[%[%[%[az,%[0|0],%[0|2],(λ _ _=>rfl)|11],%[(@jY _ _ _ _ _ _ _ _ %[dm,%[az,%[0|0],%[0|2],(λ _ _=>rfl)|11],%[0|2],(af _)|15] %[az,%[0|0],%[0|2],(λ _ _=>rfl)|11] %[0|2])|1]|1]|14]|13]|12],?_⟩;rw [show aJ ["axis"] [.ref p]=[some (.ref p)] from rfl];have e1:(au a).1=a.1:=rfl
  by_cases h1:1 < a.1
  ·have e2:(au a).2=a.2:=JM h1;rw [e1,e2] at k;ac_rfl;exact λ r H' h e h'=>k r H' h e h'
  ·have e2:(au a).2=0:=JL h1;rw [e1,e2] at k;ac_rfl;exact λ r H' h e h'=>k r H' h e h'
abbrev pC  (p:Addr) (H:Hp) (Q:VK) (E:XK):Prop:=∃ axs:List (Int × Int),cI H p (axL axs)/\fE axs/\∀ H',Ext H H'->Q (.bl true) H'
def rJ  : Sp:=λ vs H Q E=>∃ (p:Addr),vs=[.ref p]/\(pC  p H Q E)
theorem xW  (p:Addr) (H:Hp) (Q:VK) (E:XK):rJ  [.ref p] H Q E=(pC  p H Q E):=ve (f:=λ (p:Addr)=>[.ref p]) (λ _ _ h=>by cases h;exact rfl) p
theorem xj  {vs:List V}{H:Hp}{Q:VK}{E:XK}(h:rJ  vs H Q E):vs.length=1:=qR h λ _=>rfl
theorem ny(T:Tx K mg t):bP P w K mg base CX0 5 t.a_are_axes t.d_are_axes ["thing"] rJ:=by
 have G_is_axis:=%[pS|49];refine T.F_are_axes.ok qI (λ vs H Q E h=>xj h) (λ c A o s H vs Q E hr h=>?_)
 ·obtain⟨p,rfl,axs,⟨ys,hp,al⟩,ha,k⟩:=h;refine⟨_,%[%[%[%[isinstance,bp,%[%[0|0],%[%[(.ty "list"),(.type "list"),_,∅,T.z_list,nofun,rfl,⋯,⋯|34]|1]|1]|6],%[%[mM,%[len,ao,%[%[0|0]|1]|6],(@gQ _ _ (.int 8) _ _ ∅ T.m_MOST_AXES.choose_spec ⟨_,rfl⟩ ⋯),(af _)|25],%[%[all,(ik rfl),%[%[(["axis", "thing"]),(1),(aH (ae eE) ["thing"] rfl rfl nofun),rfl,%[%[0|0]|23],(λ C s₀ H₀ ex pn=>%[(0),_,(show List.Nodup (["axis", "thing"]:List Str) from by decide +kernel),rfl,(Or.inl rfl),%[0|7]|20]),(λ C s₀ H₀ ex pn=>(@aX _)),(λ C s₀ H₀ ex pn=>%[is_axis,%[%[0|0]|1]|3]),(by intros;rfl)|26]|1]|6]|38]|30]|30]|13]|12],?_⟩;rw [show aJ ["thing"] [.ref p]=[some (.ref p)] from rfl];have hl:ys.length=axs.length:=by rw [al.1];unfold axL;rw [length_map]
  have hl8:(axs.length:Int)<=8:=by have:=ha.1;omega
  ac_rfl;refine bH ys (λ _=>true) (λ _=>.bl true) (λ z x H'=>x=z/\H' p=some (.lst ys)) (nZ hp).1 (nZ hp).2 (aj %[0|8]) ?_ ?_
  ·intro D z x H' N1 N0 hz hD e ⟨hx,_⟩ k1 _;subst hx;obtain⟨i,hi,rfl⟩:=List.getElem_of_mem hz;have hi':i < axs.length:=by rw [←hl];exact hi
   obtain⟨q,hq1,hq2⟩:=al.2 i [axs[i].1,axs[i].2] ys[i] (by unfold axL;rw [getElem?_map,getElem?_eq_getElem hi'];rfl) (getElem?_eq_getElem hi);have hb:=ha.2 _ (getElem_mem hi');have k1':=k1 rfl H' (Ext.refl _);have hq3:=e.at hq2;rw [hq1];clear k1 k hp al;simp! only [↓bA,↓aV];rw [xV];exact⟨axs[i],hq3,hb.1,hb.2,k1'⟩
  ·intro D H' hD e hD';have hD2:H' D=some (.lst ((ys.map λ _=>true).map V.bl)):=by rw [hD',iR,KG];rfl
   have e2:((ys.map λ _=>true).all id)=true:=by rw [List.all_map];simp
   have k2:=k H' e;clear k hD';ac_rfl
theorem HK(x:Int):min 0 x=if x < 0 then x else 0:=by split<;>omega
theorem HL(x:Int):max 0 x=if 0 < x then x else 0:=by split<;>omega
structure aB(C:Addr)(H:Hp)(v:Addr)(room first:Int)(axs:List (Int × Int)):Prop where
 ob:∃ dx l,H v=some (.ins C dx (dM room first l))/\cI H l (axL axs)
theorem aB.ext{C:Addr}{H H':Hp}{v:Addr}{room first:Int}{axs:List (Int × Int)}(h:aB C H v room first axs)(e:Ext H H'):aB C H' v room first axs:=by
 obtain⟨dx,l,h1,h2⟩:=h.ob;exact⟨⟨dx,l,e.at h1,h2.ext e⟩⟩
theorem yQ{m:Str}(h:m∈([("sizes":Str), "paces", "count", "cell", "cell_at", "cells", "least", "greatest"]:List Str)):¬ m = "axes" /\ ¬ m = "first" /\ ¬ m = "room":=by
 revert m
 decide +kernel
theorem vn(room first:Int)(l:Addr){m:Str}(h:m∈([("sizes":Str), "paces", "count", "cell", "cell_at", "cells", "least", "greatest"]:List Str)):(dM room first l).lookup m=none:=vJ room first l (yQ h).1 (yQ h).2.1 (yQ h).2.2
abbrev lT(C:Addr)(v:Addr)(H:Hp)(Q:VK)(E:XK):Prop:=∃ (room first:Int) (axs:List (Int × Int)),aB C H v room first axs/\fE axs/\∀ H',Ext H H'->Q (.int (first+bL axs)) H'
def jC(C:Addr):Sp:=λ vs H Q E=>∃ (v:Addr),vs=[.ref v]/\(lT C v H Q E)
theorem uZ(C:Addr)(v:Addr)(H:Hp)(Q:VK)(E:XK):jC C [.ref v] H Q E=(lT C v H Q E):=ve (f:=λ (v:Addr)=>[.ref v]) (λ _ _ h=>by cases h;exact rfl) v
theorem uo(C:Addr){vs:List V}{H:Hp}{Q:VK}{E:XK}(h:jC C vs H Q E):vs.length=1:=qR h λ _=>rfl
theorem kq(T:Tx K mg t):bP P w K mg base CX0 1 t.a_View_least t.d_View_least ["self"] (jC t.a_View):=by
 refine T.F_View_least.ok mH (λ vs H Q E h=>uo _ h) (λ c A o s H vs Q E hr h=>?_)
 ·obtain⟨v,rfl,room,first,axs,vo,hax,k⟩:=h;obtain⟨dx,l,hv,ys,hl,al⟩:=vo.ob;have c1:=T.cl_View;have c2:=T.na_View_first;have c3:=T.na_View_axes
  have f1:=cD room first l
  have f2:=dh room first l
  refine⟨_,%[%[%[aw,%[%[0|0],rfl|29],%[sum,(cq rfl),%[%[(["size", "pace", "self"]),(2),(aH (ae cO) ["self"] rfl rfl nofun),rfl,%[%[%[0|0],rfl|29]|23],(λ C s₀ H₀ ex pn=>(%[(2),rfl,%[%[(0),_,(show List.Nodup (["size", "pace", "self"]:List Str) from by decide +kernel),rfl,(Or.inl rfl),%[0|7]|20],%[%[(1),_,(show List.Nodup (["size", "pace", "self"]:List Str) from by decide +kernel),rfl,(Or.inl rfl),%[0|7]|20],(@aK _),∅|19],∅|19],∅,∅|27].mono λ _ _ _ _ h=>bN h)),(λ C s₀ H₀ ex pn=>(@aX _)),(λ C s₀ H₀ ex pn=>%[min,(fz rfl),%[%[0|2],%[%[cy,%[aN,%[0|0],%[0|2]|9],%[1|0]|9]|1]|1]|6]),(by intros;rfl)|26]|1]|6]|9]|13]|12],?_⟩;rw [show aJ ["self"] [.ref v]=[some (.ref v)] from rfl];ac_rfl;have wk:=gh (K:=K) (R:=axP) (λ _ _ _ _ h e=>h.ext e) hl (k7 al);refine bH axs (λ _=>true) (λ a=>.int (min 0 ((a.1 - 1) * a.2))) axP wk.1 wk.2 (aj (by have:=hax.1;omega)) ?_ ?_
  ·intro D a x H' N1 N0 ha hD e ⟨q,hx,hq⟩ k1 _;subst hx;have hb:=hax.2 a ha;have k1':=k1 rfl H' (Ext.refl _);have hcm:jw (a.1 - 1) a.2:=.inl ⟨by omega,by omega⟩;rw [HK] at k1';clear k1 k;simp! only [↓cz,↓aV]
  ·intro D H' hD e hD';have hD2:H' D=some (.lst ((axs.map λ a=>min 0 ((a.1 - 1) * a.2)).map V.int)):=by rw [hD',iR,KG];rfl
   have k2:Q (.int (first+(axs.map λ a=>min 0 ((a.1 - 1) * a.2)).sum)) H':=k H' e;clear k hD';ac_rfl
abbrev gc(C:Addr)(v:Addr)(H:Hp)(Q:VK)(E:XK):Prop:=∃ (room first:Int) (axs:List (Int × Int)),aB C H v room first axs/\fE axs/\∀ H',Ext H H'->Q (.int (first+bM axs)) H'
def fL(C:Addr):Sp:=λ vs H Q E=>∃ (v:Addr),vs=[.ref v]/\(gc C v H Q E)
theorem mE(C:Addr)(v:Addr)(H:Hp)(Q:VK)(E:XK):fL C [.ref v] H Q E=(gc C v H Q E):=ve (f:=λ (v:Addr)=>[.ref v]) (λ _ _ h=>by cases h;exact rfl) v
theorem mB(C:Addr){vs:List V}{H:Hp}{Q:VK}{E:XK}(h:fL C vs H Q E):vs.length=1:=qR h λ _=>rfl
theorem gn(T:Tx K mg t):bP P w K mg base CX0 1 t.a_View_greatest t.d_View_greatest ["self"] (fL t.a_View):=by
 refine T.F_View_greatest.ok iN (λ vs H Q E h=>mB _ h) (λ c A o s H vs Q E hr h=>?_)
 ·obtain⟨v,rfl,room,first,axs,vo,hax,k⟩:=h;obtain⟨dx,l,hv,ys,hl,al⟩:=vo.ob;have c1:=T.cl_View;have c2:=T.na_View_first;have c3:=T.na_View_axes
  have f1:=cD room first l
  have f2:=dh room first l
  refine⟨_,%[%[%[aw,%[%[0|0],rfl|29],%[sum,(cq rfl),%[%[(["size", "pace", "self"]),(2),(aH (ae bV) ["self"] rfl rfl nofun),rfl,%[%[%[0|0],rfl|29]|23],(λ C s₀ H₀ ex pn=>(%[(2),rfl,%[%[(0),_,(show List.Nodup (["size", "pace", "self"]:List Str) from by decide +kernel),rfl,(Or.inl rfl),%[0|7]|20],%[%[(1),_,(show List.Nodup (["size", "pace", "self"]:List Str) from by decide +kernel),rfl,(Or.inl rfl),%[0|7]|20],(@aK _),∅|19],∅|19],∅,∅|27].mono λ _ _ _ _ h=>bN h)),(λ C s₀ H₀ ex pn=>(@aX _)),(λ C s₀ H₀ ex pn=>%[max,(cC rfl),%[%[0|2],%[%[cy,%[aN,%[0|0],%[0|2]|9],%[1|0]|9]|1]|1]|6]),(by intros;rfl)|26]|1]|6]|9]|13]|12],?_⟩;rw [show aJ ["self"] [.ref v]=[some (.ref v)] from rfl];ac_rfl;have wk:=gh (K:=K) (R:=axP) (λ _ _ _ _ h e=>h.ext e) hl (k7 al);refine bH axs (λ _=>true) (λ a=>.int (max 0 ((a.1 - 1) * a.2))) axP wk.1 wk.2 (aj (by have:=hax.1;omega)) ?_ ?_
  ·intro D a x H' N1 N0 ha hD e ⟨q,hx,hq⟩ k1 _;subst hx;have hb:=hax.2 a ha;have k1':=k1 rfl H' (Ext.refl _);have hcm:jw (a.1 - 1) a.2:=.inl ⟨by omega,by omega⟩;rw [HL] at k1';clear k1 k;simp! only [↓cz,↓aV]
  ·intro D H' hD e hD';have hD2:H' D=some (.lst ((axs.map λ a=>max 0 ((a.1 - 1) * a.2)).map V.int)):=by rw [hD',iR,KG];rfl
   have k2:Q (.int (first+(axs.map λ a=>max 0 ((a.1 - 1) * a.2)).sum)) H':=k H' e;clear k hD';ac_rfl
def HN(H:Hp)(Q:VK)(f:Int × Int->Int)(axs:List (Int × Int)):Prop:=∀ (r:Addr) (H':Hp),H r=none->Ext H H'->H' r=some (.lst ((axs.map f).map V.int))->Q (.ref r) H'
abbrev qL(C:Addr)(v:Addr)(H:Hp)(Q:VK)(E:XK):Prop:=∃ (room first:Int) (axs:List (Int × Int)),aB C H v room first axs/\axs.length<=8/\HN H Q (λ a=>a.1) axs
def Fe(C:Addr):Sp:=λ vs H Q E=>∃ (v:Addr),vs=[.ref v]/\(qL C v H Q E)
abbrev qM(C:Addr)(v:Addr)(H:Hp)(Q:VK)(E:XK):Prop:=∃ (room first:Int) (axs:List (Int × Int)),aB C H v room first axs/\axs.length<=8/\HN H Q (λ a=>a.2) axs
def Ff(C:Addr):Sp:=λ vs H Q E=>∃ (v:Addr),vs=[.ref v]/\(qM C v H Q E)
def mS(C:Addr):Sp:=λ vs H Q E=>∃ (x:Addr) (room:Int) (first:Int) (l:Addr),vs=[.ref x,.int room,.int first,.ref l]/\(∃ (dx:Addr) (axs:List (Int × Int)),H x=some (.ins C dx [])/\cI H l (axL axs)/\fX room first axs/\∀ (H':Hp) (D:Addr),(∀ H0,Ext H0 H->H0 x=none->Ext H0 H')->H D=none->H' x=some (.ins C dx (dM room first D))->cI H' D (axL (axs.map au))->Q .non H')
theorem il(C:Addr)(x:Addr)(room:Int)(first:Int)(l:Addr)(H:Hp)(Q:VK)(E:XK):mS C [.ref x,.int room,.int first,.ref l] H Q E=(∃ (dx:Addr) (axs:List (Int × Int)),H x=some (.ins C dx [])/\cI H l (axL axs)/\fX room first axs/\∀ (H':Hp) (D:Addr),(∀ H0,Ext H0 H->H0 x=none->Ext H0 H')->H D=none->H' x=some (.ins C dx (dM room first D))->cI H' D (axL (axs.map au))->Q .non H'):=BL (f:=λ (x:Addr) (room:Int) (first:Int) (l:Addr)=>[.ref x,.int room,.int first,.ref l]) (λ _ _ _ _ _ _ _ _ h=>by cases h;exact⟨rfl,rfl,rfl,rfl⟩) x room first l
theorem uj(C:Addr){vs:List V}{H:Hp}{Q:VK}{E:XK}(h:mS C vs H Q E):vs.length=4:=BM h λ _ _ _ _=>rfl
theorem dJ(T:Tx K mg t):bP P w K mg base CX0 6 t.a_View___init__ t.d_View___init__ ["self", "room", "first", "axes"] (mS t.a_View):=by
 have G_is_within:=%[gb|49];have G_is_whole:=%[dv|49];have G_are_axes:=%[ny|49];have G_kept_axis:=%[mf|49];have G_View_least:=%[kq|49];have G_View_greatest:=%[gn|49];refine T.F_View___init__.ok iO (λ vs H Q E h=>uj _ h) (λ c A o s H vs Q E hr h=>?_)
 ·obtain⟨x,room,first,l,rfl,dx,axs,hx,tl,vok,k⟩:=h;have c1:=T.cl_View;have c2:=T.na_View_first;have c3:=T.na_View_axes;have c4:=T.na_View_room;refine⟨_,%[%[(PW.pt %[%[%[%[is_within,%[%[1|0],%[%[0|2],%[(@gQ _ _ (.int 1000000000000000000) _ _ ∅ T.m_MOST_ROOM.choose_spec ⟨_,rfl⟩ ⋯)|1]|1]|1]|3],(by intros;rfl)|22]|24],%[%[%[%[is_whole,%[%[2|0]|1]|3],(by intros;rfl)|22]|24],%[%[%[%[are_axes,%[%[3|0]|1]|3],(by intros;rfl)|22]|24]|37]|28]|28]),%[(@jW _ _)|12],(@ai _)|16],%[(@jX _ _ _ _ _ _ _ _ %[0|0] %[1|0] rfl),%[(@jX _ _ _ _ _ _ _ _ %[0|0] %[2|0] rfl),%[(@jX _ _ _ _ _ _ _ _ %[0|0] %[(["axis", "self", "room", "first", "axes"]),(1),(aH (ae bW) ["self", "room", "first", "axes"] rfl rfl nofun),rfl,%[%[3|0]|23],(λ C s₀ H₀ ex pn=>%[(0),_,(show List.Nodup (["axis", "self", "room", "first", "axes"]:List Str) from by decide +kernel),rfl,(Or.inl rfl),%[0|7]|20]),(λ C s₀ H₀ ex pn=>(@aX _)),(λ C s₀ H₀ ex pn=>%[kept_axis,%[%[0|0]|1]|3]),(by intros;rfl)|26] rfl),%[%[(PW.pt %[%[dk,(@lq _ _ _ _ _ _ _ _ _ _ _ _ _ _ _ _ _ %[0|0] T.cl_View T.mt_View_least G_View_least (hr.mono ⋯) T.b_View_least .nil pJ ∅),%[0|2],(af _)|15],%[%[Cg,(@lq _ _ _ _ _ _ _ _ _ _ _ _ _ _ _ _ _ %[0|0] T.cl_View T.mt_View_greatest G_View_greatest (hr.mono ⋯) T.b_View_greatest .nil pJ ∅),%[1|0],(af _)|15]|37]|28]),%[(@jW _ _)|12],(@ai _)|16]|12]|10]|10]|10]|10],?_⟩;rw [show aJ ["self", "room", "first", "axes"] [.ref x,.int room,.int first,.ref l]=[some (.ref x),some (.int room),some (.int first),some (.ref l)] from rfl];have r1:=vok.r1;have r2:=vok.r2;simp! only [↓jj,↓aR];rw [xW];refine⟨axs,tl,vok.ax,λ H1 e1=>?_⟩;have hx1:=e1.at hx;have tl1:=tl.ext e1;clear hx tl;ac_rfl;refine⟨(show (1:Nat) < 1000 by decide),?_⟩;obtain⟨ys,hl1,al1⟩:=tl1;have hlx:l ≠ x:=λ z=>by rw [z,hx1] at hl1;cases hl1
  have hx2:(upd H1 x (HO.ins t.a_View dx (eA "first" (V.int first) (eA "room" (V.int room) [])))) x=some (HO.ins t.a_View dx (eA "first" (V.int first) (eA "room" (V.int room) []))):=ag
  have hl2:(upd H1 x (HO.ins t.a_View dx (eA "first" (V.int first) (eA "room" (V.int room) [])))) l=some (.lst ys):=by rw [ah hlx];exact hl1
  have al2:Al (λ a y=>axP a y (upd H1 x (HO.ins t.a_View dx (eA "first" (V.int first) (eA "room" (V.int room) []))))) axs ys:=(k7 al1).imp λ a y ⟨q,hy,hq⟩=>⟨q,hy,by rw [ah (λ z=>by rw [z,hx1] at hq;cases hq)];exact hq⟩;have b2:∀ H0,Ext H0 H->H0 x=none->Ext H0 (upd H1 x (HO.ins t.a_View dx (eA "first" (V.int first) (eA "room" (V.int room) [])))):=λ H0 q0 q1=>(q0.trans e1).put q1
  have b3:∀ b,b ≠ x->(upd H1 x (HO.ins t.a_View dx (eA "first" (V.int first) (eA "room" (V.int room) [])))) b=none->H b=none:=λ b hb q=>by rw [ah hb] at q;exact e1.free q
  generalize upd H1 x (HO.ins t.a_View dx (eA "first" (V.int first) (eA "room" (V.int room) [])))=H2 at hx2 hl2 al2 b2 b3;clear hl1 al1 hx1;ac_rfl;have wk:=gh (K:=K) (R:=axP) (λ _ _ _ _ h e=>h.ext e) hl2 al2;refine oX axs (λ _=>true) axP (λ D a y H'=>∃ q,y=.ref q/\q ≠ D/\H' q=some (.tup [.int (au a).1,.int (au a).2])) wk.1 wk.2 (λ D _ y H1 H2 ⟨q,h1,h2,h3⟩ e=>⟨q,h1,h2,e.at h3⟩) (λ D _ y H1 o ⟨q,h1,h2,h3⟩=>⟨q,h1,h2,by rw [ah h2];exact h3⟩) (aj (by have:=vok.ax.1;omega)) ?_ ?_
  ·intro D a y H' N1 N0 ha hD e ⟨ys0,hys0⟩ ⟨q,hy,hq⟩ k1 _;subst hy;have k1':=k1 rfl;clear k1 k;simp! only [↓bA,↓aV];rw [xT];exact⟨a,hq,λ r H'' hr' e' h'=>k1' _ H'' e' ⟨r,rfl,(λ z=>by rw [z,hys0] at hr';cases hr'),h'⟩⟩
  ·intro D zs H3 hD e3 hD3 al3;rw [iR] at al3;have hx3:=e3.at hx2;have hDx:D ≠ x:=λ z=>by rw [z,hx2] at hD;cases hD
   clear wk;ac_rfl;refine⟨(show (2:Nat) < 1000 by decide),?_⟩
   have tt:cI (upd H3 x (HO.ins t.a_View dx (dM room first D))) D (axL (axs.map au)):=by
    refine⟨zs,by rw [ah hDx];exact hD3,?_,λ i z y hz hy=>?_⟩
    ·rw [al3.1];unfold axL;rw [length_map,length_map]
    ·unfold axL at hz;rw [map_map,getElem?_map] at hz;obtain⟨a,ha,rfl⟩:=Option.map_eq_some_iff.mp hz;obtain⟨q,hq1,_,hq3⟩:=al3.2 i a y ha hy;exact⟨q,hq1,by rw [ah (λ z=>by rw [z,hx3] at hq3;cases hq3)];exact hq3⟩
   have b4:∀ H0,Ext H0 H->H0 x=none->Ext H0 (upd H3 x (HO.ins t.a_View dx (dM room first D))):=λ H0 q0 q1=>((b2 H0 q0 q1).trans e3).put q1;have hx4:(upd H3 x (HO.ins t.a_View dx (dM room first D))) x=some (HO.ins t.a_View dx (dM room first D)):=ag
   have f1:=vn room first D (m := "least") nofun
   have f2:=vn room first D (m := "greatest") nofun
   refine⟨f1,?_⟩
   show jC t.a_View [V.ref x] (upd H3 x (HO.ins t.a_View dx (dM room first D))) _ _
   generalize upd H3 x (HO.ins t.a_View dx (dM room first D))=H4 at tt b4 hx4
   have vo:aB t.a_View H4 x room first (axs.map au):=⟨dx,D,hx4,tt⟩
   rw [uZ];refine⟨room,first,axs.map au,vo,vok.ax.kept,λ H5 e5=>?_⟩
   have hlo:¬ first+bL (axs.map au) < 0:=by have:=vok.lo;omega
   have hx5:=e5.at hx4;ac_rfl;rw [mE];refine⟨room,first,axs.map au,vo.ext e5,vok.ax.kept,λ H6 e6=>?_⟩
   have hhi:¬ room<=first+bM (axs.map au):=by have:=vok.hi;omega
   have k':=k H6 D (λ H0 q0 q1=>((b4 H0 q0 q1).trans e5).trans e6) (b3 D hDx hD) (e6.at hx5) ((tt.ext e5).ext e6);clear k;ac_rfl
theorem x9{zs:List Tm3}(h:cG zs){z:Tm3}(hz:z∈zs)(b:Int):jw z.1 b:=.inl (by have:=(h.all z hz).1;omega)
abbrev pf  (p:Addr) (q:Addr) (H:Hp) (Q:VK) (E:XK):Prop:=∃ (zs:List Tm3) (cs:List (Int × Int)),gv H p zs/\dP H q cs/\cG zs/\fD zs cs/\∀ H',Ext H H'->Q (.int (iP zs cs)) H'
def rA  : Sp:=λ vs H Q E=>∃ (p:Addr) (q:Addr),vs=[.ref p,.ref q]/\(pf  p q H Q E)
theorem xS  (p:Addr) (q:Addr) (H:Hp) (Q:VK) (E:XK):rA  [.ref p,.ref q] H Q E=(pf  p q H Q E):=pD (f:=λ (p:Addr) (q:Addr)=>[.ref p,.ref q]) (λ _ _ _ _ h=>by cases h;exact⟨rfl,rfl⟩) p q
theorem w6  {vs:List V}{H:Hp}{Q:VK}{E:XK}(h:rA  vs H Q E):vs.length=2:=pF h λ _ _=>rfl
theorem me(T:Tx K mg t):bP P w K mg base CX0 1 t.a_least_sum t.d_least_sum ["terms", "case"] rA:=by
 refine T.F_least_sum.ok nR (λ vs H Q E h=>w6 h) (λ c A o s H vs Q E hr h=>?_)
 ·obtain⟨p,q,rfl,zs,cs,⟨ys,hp,al⟩,⟨xs,hq,bl⟩,ht,hc,k⟩:=h;refine⟨_,%[%[%[sum,(cq rfl),%[%[(["term", "bounds", "terms", "case"]),(2),(aH (ae dq) ["terms", "case"] rfl rfl nofun),rfl,(@rM _ _ _ _ _ _ _ _ _ ∅ T.z_zip %[%[0|0],%[%[1|0]|1]|1] ∅ ∅),(λ C s₀ H₀ ex pn=>(%[(2),rfl,%[%[(0),_,(show List.Nodup (["term", "bounds", "terms", "case"]:List Str) from by decide +kernel),rfl,(Or.inl rfl),%[0|7]|20],%[%[(1),_,(show List.Nodup (["term", "bounds", "terms", "case"]:List Str) from by decide +kernel),rfl,(Or.inl rfl),%[0|7]|20],(@aK _),∅|19],∅|19],∅,∅|27].mono λ _ _ _ _ h=>bN h)),(λ C s₀ H₀ ex pn=>(@aX _)),(λ C s₀ H₀ ex pn=>%[cy,%[az,%[0|0],%[0|2],(λ _ _=>rfl)|11],%[az,%[1|0],%[0|2],(λ _ _=>rfl)|11]|9]),(by intros;rfl)|26]|1]|6]|13]|12],?_⟩;rw [show aJ ["terms", "case"] [.ref p,.ref q]=[some (.ref p),some (.ref q)] from rfl];ac_rfl;have wk:=mQ (R1:=trP) (R2:=axP) (λ _ _ _ _ h e=>h.ext e) (λ _ _ _ _ h e=>h.ext e) hp hq al bl;refine bH (zs.zip cs) (λ _=>true) (λ z=>.int (z.1.1 * z.2.1)) (EW trP axP) wk.1 wk.2 (aj (by have:=ht.len;rw [Ll];omega)) ?_ ?_
  ·intro D z y H' N1 N0 hz hD e ⟨u,q1,q2,hu,hu2,⟨r1,h1,h1'⟩,⟨r2,h2,h2'⟩⟩ k1 _;subst hu h1 h2;have k1':N1 (.int (z.1.1 * z.2.1)) H':=k1 rfl H' (Ext.refl _);have hcm:=x9 ht (LF hz).1 z.2.1;clear k1 k;simp! only [↓cz,↓aV]
  ·intro D H' hD e hD';rw [iR,show ((zs.zip cs).map λ z=>V.int (z.1.1 * z.2.1))=((zs.zip cs).map λ z=>z.1.1 * z.2.1).map V.int by rw [KG];rfl] at hD';have k2:Q (.int ((zs.zip cs).map λ z=>z.1.1 * z.2.1).sum) H':=k H' e;clear k wk;ac_rfl
abbrev pk  (p:Addr) (q:Addr) (H:Hp) (Q:VK) (E:XK):Prop:=∃ (zs:List Tm3) (cs:List (Int × Int)),gv H p zs/\dP H q cs/\cG zs/\fD zs cs/\∀ H',Ext H H'->Q (.int (nX zs cs)) H'
def rE  : Sp:=λ vs H Q E=>∃ (p:Addr) (q:Addr),vs=[.ref p,.ref q]/\(pk  p q H Q E)
theorem xU  (p:Addr) (q:Addr) (H:Hp) (Q:VK) (E:XK):rE  [.ref p,.ref q] H Q E=(pk  p q H Q E):=pD (f:=λ (p:Addr) (q:Addr)=>[.ref p,.ref q]) (λ _ _ _ _ h=>by cases h;exact⟨rfl,rfl⟩) p q
theorem xf  {vs:List V}{H:Hp}{Q:VK}{E:XK}(h:rE  vs H Q E):vs.length=2:=pF h λ _ _=>rfl
theorem iK(T:Tx K mg t):bP P w K mg base CX0 1 t.a_greatest_sum t.d_greatest_sum ["terms", "case"] rE:=by
 refine T.F_greatest_sum.ok iW (λ vs H Q E h=>xf h) (λ c A o s H vs Q E hr h=>?_)
 ·obtain⟨p,q,rfl,zs,cs,⟨ys,hp,al⟩,⟨xs,hq,bl⟩,ht,hc,k⟩:=h;refine⟨_,%[%[%[sum,(cq rfl),%[%[(["term", "bounds", "terms", "case"]),(2),(aH (ae cb) ["terms", "case"] rfl rfl nofun),rfl,(@rM _ _ _ _ _ _ _ _ _ ∅ T.z_zip %[%[0|0],%[%[1|0]|1]|1] ∅ ∅),(λ C s₀ H₀ ex pn=>(%[(2),rfl,%[%[(0),_,(show List.Nodup (["term", "bounds", "terms", "case"]:List Str) from by decide +kernel),rfl,(Or.inl rfl),%[0|7]|20],%[%[(1),_,(show List.Nodup (["term", "bounds", "terms", "case"]:List Str) from by decide +kernel),rfl,(Or.inl rfl),%[0|7]|20],(@aK _),∅|19],∅|19],∅,∅|27].mono λ _ _ _ _ h=>bN h)),(λ C s₀ H₀ ex pn=>(@aX _)),(λ C s₀ H₀ ex pn=>%[cy,%[az,%[0|0],%[0|2],(λ _ _=>rfl)|11],%[az,%[1|0],%[0|2],(λ _ _=>rfl)|11]|9]),(by intros;rfl)|26]|1]|6]|13]|12],?_⟩;rw [show aJ ["terms", "case"] [.ref p,.ref q]=[some (.ref p),some (.ref q)] from rfl];ac_rfl;have wk:=mQ (R1:=trP) (R2:=axP) (λ _ _ _ _ h e=>h.ext e) (λ _ _ _ _ h e=>h.ext e) hp hq al bl;refine bH (zs.zip cs) (λ _=>true) (λ z=>.int (z.1.1 * z.2.2)) (EW trP axP) wk.1 wk.2 (aj (by have:=ht.len;rw [Ll];omega)) ?_ ?_
  ·intro D z y H' N1 N0 hz hD e ⟨u,q1,q2,hu,hu2,⟨r1,h1,h1'⟩,⟨r2,h2,h2'⟩⟩ k1 _;subst hu h1 h2;have k1':N1 (.int (z.1.1 * z.2.2)) H':=k1 rfl H' (Ext.refl _);have hcm:=x9 ht (LF hz).1 z.2.2;clear k1 k;simp! only [↓cz,↓aV]
  ·intro D H' hD e hD';rw [iR,show ((zs.zip cs).map λ z=>V.int (z.1.1 * z.2.2))=((zs.zip cs).map λ z=>z.1.1 * z.2.2).map V.int by rw [KG];rfl] at hD';have k2:Q (.int ((zs.zip cs).map λ z=>z.1.1 * z.2.2).sum) H':=k H' e;clear k wk;ac_rfl
abbrev Bx:=List (Int × Int)
def InB:Bx->List Int->Prop
 | [],[]=>True
 | b::cs,x::xs=>(b.1<=x/\x<=b.2)/\InB cs xs
 | _,_=>False
def IE:List Tm3->List Int->Int
 | z::zs,x::xs=>z.1 * x+IE zs xs
 | _,_=>0
def ID:Bx->Int
 | []=>1
 | b::cs=>(b.2 - b.1+1) * ID cs
def Jw(cs:Bx):Prop:=∀ b∈cs,b.1<=b.2
def upC(cs:Bx)(k:Nat)(at':Int):Bx:=cs.set k (at'+1,(cs.getD k default).2)
def loC(cs:Bx)(k:Nat)(at':Int):Bx:=cs.set k ((cs.getD k default).1,at')
theorem fD.at{zs:List Tm3}{cs:Bx}(h:fD zs cs){i:Nat}(hi:i < zs.length):(zs.getD i default).2.1<=(cs.getD i default).1/\(cs.getD i default).1<=(cs.getD i default).2/\(cs.getD i default).2<=(zs.getD i default).2.2:=by
 have hc:i < cs.length:=by rw [h.len];exact hi
 have hm:(zs[i],cs[i])∈zs.zip cs:=by
  have:(zs.zip cs)[i]? = some (zs[i],cs[i]):=by rw [KI];exact⟨Jy hi,Jy hc⟩
  exact K8 this
 have:=h.all _ hm;rw [JY,JY,Jy hi,Jy hc];exact this
theorem fD.of{zs:List Tm3}{cs:Bx}(hl:cs.length=zs.length)(h:∀ i:Nat,i < zs.length->(zs.getD i default).2.1<=(cs.getD i default).1/\(cs.getD i default).1<=(cs.getD i default).2/\(cs.getD i default).2<=(zs.getD i default).2.2):fD zs cs:=by
 refine⟨hl,λ p hp=>?_⟩;obtain⟨i,hi⟩:=List.mem_iff_getElem?.mp hp;obtain⟨h1,h2⟩:=KI.mp hi;have hz:=(JC.mp h1).1;have:=h i hz;rw [JY,JY,h1,h2] at this;exact this
theorem lH{cs:Bx}{k i:Nat}{b:Int × Int}(hk:k < cs.length):(cs.set k b).getD i default=if i=k then b else cs.getD i default:=by
 rw [JY,JY,List.getElem?_set]
 by_cases h:i=k
 ·subst h;rw [JM rfl,JM hk,JM rfl];rfl
 ·rw [JL (λ e=>h e.symm),JL h]
theorem fD.part{zs:List Tm3}{cs:Bx}{k:Nat}{a:Int}(h:fD zs cs)(hk:k < zs.length)(h1:(cs.getD k default).1<=a)(h2:a < (cs.getD k default).2):fD zs (upC cs k a)/\fD zs (loC cs k a):=by
 have hc:k < cs.length:=by rw [h.len];exact hk
 have hk':=h.at hk;refine⟨fD.of (by unfold upC;rw [length_set];exact h.len) λ i hi=>?_,fD.of (by unfold loC;rw [length_set];exact h.len) λ i hi=>?_⟩
 ·unfold upC;rw [lH hc]
  by_cases e:i=k
  ·subst e;rw [JM rfl];show _<=a+1/\a+1<=(cs.getD i default).2/\_;omega
  ·rw [JL e];exact h.at hi
 ·unfold loC;rw [lH hc]
  by_cases e:i=k
  ·subst e;rw [JM rfl];show _<=(cs.getD i default).1/\(cs.getD i default).1<=a/\a<=_;omega
  ·rw [JL e];exact h.at hi
def Jt(zs:List Tm3)(g:Int)(cs:Bx):Option (List Int):=if iP zs cs=g then some (cs.map λ b=>b.1) else if nX zs cs=g then some (cs.map λ b=>b.2) else none
def E4(t:Int)(b:Int × Int)(al bg:Int):Int × Int:=(if b.1 < b.2 - bg / t then b.2 - bg / t else b.1,if b.1+al / t < b.2 then b.1+al / t else b.2)
def zo(zs:List Tm3)(cs:Bx)(al bg:Int):Nat->Option (Nat × Int × Int)
 | 0=>none
 | i+1=>if (cs.getD i default).1 < (cs.getD i default).2 then (match zo zs cs al bg i with
   | none=>some (i,E4 (zs.getD i default).1 (cs.getD i default) al bg)
   | some q=>if (E4 (zs.getD i default).1 (cs.getD i default) al bg).2 - (E4 (zs.getD i default).1 (cs.getD i default) al bg).1 < q.2.2 - q.2.1 then some (i,E4 (zs.getD i default).1 (cs.getD i default) al bg) else some q) else zo zs cs al bg i
def Gk(cs:Bx)(q:Nat × Int × Int):Int:=if q.2.2 < (cs.getD q.1 default).2 then q.2.2 else if (cs.getD q.1 default).1 < q.2.1 then q.2.1 - 1 else (cs.getD q.1 default).1
def Jp(zs:List Tm3)(g:Int)(cs:Bx):Nat × Int:=match zo zs cs (g - iP zs cs) (nX zs cs - g) zs.length with
 | none=>(0,0)
 | some q=>(q.1,Gk cs q)
def jx:List (Int × Int)->Int->Int
 | [],_=>0
 | z::l,t=>(if z.1=t then z.2 else 0)+jx l t
def Jv(l:List (Int × Int)):Int:=(l.map λ z=>z.1 * z.2).sum
def Ju(ks:List Int)(f:Int->Int):Int:=(ks.map λ t=>t * f t).sum
def ay(p:Int):Int:=(p.natAbs:Int)
def loP(z:Int × Int):Int:=if 0 < z.1 then 0 else 1 - z.2
def hiP(z:Int × Int):Int:=if 0 < z.1 then z.2 - 1 else 0
def eR(P:List (Int × Int)):Int->Int:=jx (P.map λ z=>(ay z.1,loP z))
def cf(P:List (Int × Int)):Int->Int:=jx (P.map λ z=>(ay z.1,hiP z))
def yI(P:List (Int × Int)):Int->Int:=jx (P.map λ z=>(ay z.1,z.2 - 1))
theorem oU:∀ (P:List (Int × Int)) (t:Int),cf P t - eR P t=yI P t
 | [],_=>rfl
 | z::P,t=>by
  have ih:=oU P t;unfold cf eR yI at ih ⊢;rw [map_cons,map_cons,map_cons]
  show (if ay z.1=t then hiP z else 0)+_ - ((if ay z.1=t then loP z else 0)+_)=(if ay z.1=t then z.2 - 1 else 0)+_
  by_cases e:ay z.1=t
  ·rw [JM e,JM e,JM e];have e1:loP z=(if 0 < z.1 then 0 else 1 - z.2):=rfl;have e2:hiP z=(if 0 < z.1 then z.2 - 1 else 0):=rfl;rw [e1,e2]
   split<;>omega
  ·rw [JL e,JL e,JL e];omega
def Je:List (Int × Int)->List Int->Int
 | z::P,y::ys=>z.1 * y+Je P ys
 | _,_=>0
def InP:List (Int × Int)->List Int->Prop
 | [],[]=>True
 | z::P,y::ys=>(0<=y/\y < z.2)/\InP P ys
 | _,_=>False
def Gb:List (Int × Int)->List Int->List (Int × Int)
 | z::P,y::ys=>(ay z.1,if 0 < z.1 then y else 0 - y)::Gb P ys
 | _,_=>[]
def aG(ks:List Int)(P:List (Int × Int)):List Tm3:=ks.map λ t=>(t,eR P t,cf P t)
def tkF(z:Int × Int)(L:Int->Int):Int:=if L (ay z.1) < z.2 - 1 then L (ay z.1) else z.2 - 1
def IF(L:Int->Int)(a v:Int):Int->Int:=λ t=>if t=a then v else L t
def Hj:(Int->Int)->List (Int × Int)->List Int
 | _,[]=>[]
 | L,z::P=>(if 0<=z.1 then tkF z L else z.2 - 1 - tkF z L)::Hj (IF L (ay z.1) (L (ay z.1) - tkF z L)) P
theorem kc(z:Int × Int)(P:List (Int × Int))(t:Int):yI (z::P) t=(if ay z.1=t then z.2 - 1 else 0)+yI P t:=rfl
theorem yB:∀ {P:List (Int × Int)},(∀ z∈P,(1:Int)<=z.2)->∀ t,0<=yI P t
 | [],_,_=>K1 _
 | z::P,h,t=>by
  have ih:=yB (P:=P) (λ y hy=>h y (JG _ hy)) t;have:=h z JI;rw [kc]
  split<;>omega
def Hb:List Tm3->List Int->Int->Int
 | z::zs,x::xs=>λ t=>if z.1=t then x - z.2.1 else Hb zs xs t
 | _,_=>λ _=>0
def Jo(ks:List Int)(f:Int->Int):Int:=ks.foldr (λ t r=>(1+f t) * r) 1
def aC(A B:List (Int × Int)):List (Int × Int):=(A.map λ a=>(a.2,a.1))++B.map λ a=>(-a.2,a.1)
theorem bf{l b:Addr}{xs ys:List V}{H:Hp}{Q:VK}(h:H l=some (.lst xs))(h':H b=some (.lst ys))(hl:xs.length+ys.length<=sizeLine)(q:gD (.lst (xs++ys)) H Q):E6 E5 (.ref l) Q (.ref b) H:=by
 rw [yu,yt,aY,h]
 show aW (aY H b) (E7 xs H Q)
 rw [aY,h'];exact⟨hl,q⟩
theorem nv{α:Type}{R:α->V->Prop}{as bs:List α}{xs ys:List V}(h1:Al R as xs)(h2:Al R bs ys):Al R (as++bs) (xs++ys):=by
 refine⟨by rw [JA,JA,h1.1,h2.1],λ i z y hz hy=>?_⟩
 by_cases hi:i < as.length
 ·rw [Kr hi] at hz;rw [Kr (by rw [h1.1];exact hi)] at hy;exact h1.2 i z y hz hy
 ·rw [JX %[0|8]] at hz;rw [JX (by rw [h1.1];omega),h1.1] at hy;exact h2.2 _ z y hz hy
theorem gS{α β:Type}{R:β->V->Prop}{f:α->β}{as:List α}{ys:List V}(h:Al (λ a y=>R (f a) y) as ys):Al R (as.map f) ys:=by
 refine⟨by rw [JP];exact h.1,λ i z y hz hy=>?_⟩;rw [J4] at hz;obtain⟨a,ha,rfl⟩:=J7.mp hz;exact h.2 i a y ha hy
abbrev lS(C:Addr)(u:Addr)(v:Addr)(H:Hp)(Q:VK)(E:XK):Prop:=∃ (r1 r2 f1 f2:Int) (A B:List (Int × Int)),aB C H u r1 f1 A/\aB C H v r2 f2 B/\A.length<=8/\B.length<=8/\∀ (r:Addr) (H':Hp),H r=none->Ext H H'->dP H' r (aC A B)->Q (.ref r) H'
def mU(C:Addr):Sp:=λ vs H Q E=>∃ (u:Addr) (v:Addr),vs=[.ref u,.ref v]/\(lS C u v H Q E)
theorem uY(C:Addr)(u:Addr)(v:Addr)(H:Hp)(Q:VK)(E:XK):mU C [.ref u,.ref v] H Q E=(lS C u v H Q E):=pD (f:=λ (u:Addr) (v:Addr)=>[.ref u,.ref v]) (λ _ _ _ _ h=>by cases h;exact⟨rfl,rfl⟩) u v
theorem um(C:Addr){vs:List V}{H:Hp}{Q:VK}{E:XK}(h:mU C vs H Q E):vs.length=2:=pF h λ _ _=>rfl
theorem oO(T:Tx K mg t):bP P w K mg base CX0 1 t.a_pulls t.d_pulls ["one", "other"] (mU t.a_View):=by
 refine T.F_pulls.ok BB (λ vs H Q E h=>um _ h) (λ c A o s H vs Q E hr h=>?_)
 ·obtain⟨u,v,rfl,r1,r2,f1,f2,A,B,vu,vv,hA,hB,k⟩:=h;obtain⟨dx,l,hu,ys,hl,al⟩:=vu.ob;obtain⟨dy,l2,hv,ys2,hl2,al2⟩:=vv.ob;have c1:=T.cl_View;have c3:=T.na_View_axes;have g1:=dh r1 f1 l;have g2:=dh r2 f2 l2;refine⟨_,%[%[%[bw,%[(["size", "pace", "one", "other"]),(2),(aH (ae gP) ["one", "other"] rfl rfl nofun),rfl,%[%[%[0|0],rfl|29]|23],(λ C s₀ H₀ ex pn=>(%[(2),rfl,%[%[(0),_,(show List.Nodup (["size", "pace", "one", "other"]:List Str) from by decide +kernel),rfl,(Or.inl rfl),%[0|7]|20],%[%[(1),_,(show List.Nodup (["size", "pace", "one", "other"]:List Str) from by decide +kernel),rfl,(Or.inl rfl),%[0|7]|20],(@aK _),∅|19],∅|19],∅,∅|27].mono λ _ _ _ _ h=>bN h)),(λ C s₀ H₀ ex pn=>(@aX _)),(λ C s₀ H₀ ex pn=>%[%[%[1|0],%[%[0|0]|1]|1]|14]),(by intros;rfl)|26],%[(["size", "pace", "one", "other"]),(2),(aH (ae gP) ["one", "other"] rfl rfl nofun),rfl,%[%[%[1|0],rfl|29]|23],(λ C s₀ H₀ ex pn=>(%[(2),rfl,%[%[(0),_,(show List.Nodup (["size", "pace", "one", "other"]:List Str) from by decide +kernel),rfl,(Or.inl rfl),%[0|7]|20],%[%[(1),_,(show List.Nodup (["size", "pace", "one", "other"]:List Str) from by decide +kernel),rfl,(Or.inl rfl),%[0|7]|20],(@aK _),∅|19],∅|19],∅,∅|27].mono λ _ _ _ _ h=>bN h)),(λ C s₀ H₀ ex pn=>(@aX _)),(λ C s₀ H₀ ex pn=>%[%[%[dY,%[1|0]|42],%[%[0|0]|1]|1]|14]),(by intros;rfl)|26]|9]|13]|12],?_⟩;rw [show aJ ["one", "other"] [.ref u,.ref v]=[some (.ref u),some (.ref v)] from rfl];exists k;ac_rfl;have wk:=gh (K:=K) (R:=axP) (λ _ _ _ _ h e=>h.ext e) hl (k7 al);refine cp A (λ _=>true) axP (λ D a y H'=>axP (a.2,a.1) y H') wk.1 wk.2 (λ D a y H1 H2 h e=>axP.ext (a:=(a.2,a.1)) h e) (λ D a y H1 xs o h hD=>axP.upd (z:=(a.2,a.1)) h hD) (aj %[0|8]) ?_ ?_
  ·intro D a x H' N1 N0 ha hD e _ ⟨q,hx,hq⟩ k1 _;subst hx;have k1':=k1 rfl;clear k1 k wk;simp! only [↓cz,↓aV];intro t1 H6 ht1 e6 h6;exact k1' _ H6 e6 ⟨t1,rfl,h6⟩
  intro D xs1 H1 hD e1 h1 al1;rw [iR] at al1;have hv1:=e1.at hv;have hl21:=e1.at hl2;exists al1;clear wk;have wk:=gh (K:=K) (R:=axP) (λ _ _ _ _ h e=>h.ext e) hl21 ((k7 al2).imp λ _ _ t=>axP.ext t e1);ac_rfl;refine cp B (λ _=>true) axP (λ D a y H'=>axP (-a.2,a.1) y H') wk.1 wk.2 (λ D a y H1 H2 h e=>axP.ext (a:=(-a.2,a.1)) h e) (λ D a y H1 xs o h hD=>axP.upd (z:=(-a.2,a.1)) h hD) (aj %[0|8]) ?_ ?_
  ·intro D a x H' N1 N0 ha hD e _ ⟨q,hx,hq⟩ k1 _;subst hx;have k1':=k1 rfl;clear k1 k wk;simp! only [↓cz,↓aV];intro t1 H6 ht1 e6 h6;exact k1' _ H6 e6 ⟨t1,rfl,h6⟩
  intro D2 xs2 H2 hD2 e2 h2 al2';rw [iR] at al2';have h1_2:=e2.at h1;have n1:xs1.length=A.length:=(al1 ()).1;have n2:xs2.length=B.length:=al2'.1;have fin:Al (λ z y=>axP z y H2) (aC A B) (xs1++xs2):=nv (gS ((al1 ()).imp λ _ _ t=>axP.ext t e2)) (gS al2');exists fin;clear wk al1 al2' hv1 hl21;refine bf h1_2 h2 (aj %[0|8]) ?_;intro D3 H3 hD3 e3 h3;exact k () D3 H3 ((e1.trans e2).free hD3) (e1.trans (e2.trans e3)) ⟨_,h3,(fin ()).imp λ _ _ t=>axP.ext t e3⟩
abbrev lR(C:Addr)(u:Addr)(v:Addr)(H:Hp)(Q:VK)(E:XK):Prop:=∃ (room f1 f2:Int) (A B:List (Int × Int)),aB C H u room f1 A/\aB C H v room f2 B/\Q .non H
def mT(C:Addr):Sp:=λ vs H Q E=>∃ (u:Addr) (v:Addr),vs=[.ref u,.ref v]/\(lR C u v H Q E)
theorem uX(C:Addr)(u:Addr)(v:Addr)(H:Hp)(Q:VK)(E:XK):mT C [.ref u,.ref v] H Q E=(lR C u v H Q E):=pD (f:=λ (u:Addr) (v:Addr)=>[.ref u,.ref v]) (λ _ _ _ _ h=>by cases h;exact⟨rfl,rfl⟩) u v
theorem uk(C:Addr){vs:List V}{H:Hp}{Q:VK}{E:XK}(h:mT C vs H Q E):vs.length=2:=pF h λ _ _=>rfl
theorem iJ(T:Tx K mg t):bP P w K mg base CX0 1 t.a_refuse_rooms t.d_refuse_rooms ["one", "other"] (mT t.a_View):=by
 refine T.F_refuse_rooms.ok eQ (λ vs H Q E h=>uk _ h) (λ c A o s H vs Q E hr h=>?_)
 ·obtain⟨u,v,rfl,room,f1,f2,A,B,vu,vv,k⟩:=h;obtain⟨dx,D,hu,_⟩:=vu.ob;obtain⟨dy,D2,hv,_⟩:=vv.ob;have c1:=T.cl_View;have c4:=T.na_View_room;have g1:=dg room f1 D;have g2:=dg room f2 D2;refine⟨_,%[%[%[(df hr.units),%[%[0|0],rfl|29],%[%[1|0],rfl|29],(af _)|15],%[(@jW _ _)|12],(@ai _)|16]|12],?_⟩;rw [show aJ ["one", "other"] [.ref u,.ref v]=[some (.ref u),some (.ref v)] from rfl];ac_rfl
theorem g9{kvs:List (Key × V)}{k:Key}(v:V){x:V}(h:dE kvs k=some x):(eM kvs k v).map (·.1)=kvs.map (·.1):=by
 unfold eM;rw [eB,h,Option.isSome_some,if_pos rfl,map_map];refine List.map_congr_left λ p _=>?_
 show (if p.1=k then (p.1,v) else p).1=p.1
 split<;>rfl
theorem fK:∀ (l:List (Int × Int)) (z:Int × Int) (t:Int),jx (l++[z]) t=jx l t+(if z.1=t then z.2 else 0)
 | [],z,t=>by show (if z.1=t then z.2 else 0)+0=0+_;omega
 | y::l,z,t=>by
  show (if y.1=t then y.2 else 0)+jx (l++[z]) t=(if y.1=t then y.2 else 0)+jx l t+_
  rw [fK l z t];omega
theorem gA(P:List (Int × Int))(z:Int × Int)(t:Int):eR (P++[z]) t=eR P t+(if ay z.1=t then loP z else 0):=by
 unfold eR;rw [map_append];exact fK _ _ _
theorem fy(P:List (Int × Int))(z:Int × Int)(t:Int):cf (P++[z]) t=cf P t+(if ay z.1=t then hiP z else 0):=by
 unfold cf;rw [map_append];exact fK _ _ _
theorem dZ{f:Int × Int->Int}{t:Int}:∀ {P:List (Int × Int)},(∀ z∈P,¬ ay z.1=t)->jx (P.map λ z=>(ay z.1,f z)) t=0
 | [],_=>rfl
 | z::P,h=>by
  rw [KA]
  show (if ay z.1=t then f z else 0)+_=0
  rw [JL (h z JI),dZ λ y hy=>h y (JG _ hy)];rfl
theorem fP{kvs:List (Key × V)}{k:Key}{v:V}(h:dE kvs k=none):(eM kvs k v).map (·.1)=kvs.map (·.1)++[k]:=by
 have hn:=L2.Fd h;unfold eM;split
 ·rename_i hc
  exact absurd hc (by
   intro hc;apply hn
   simpa [J0] using hc)
 ·rw [LV];rfl
structure pI(P:List (Int × Int))(ks:List Int)(k1 k2:List (Key × V)):Prop where
 e1:k1.map (·.1)=ks.map (Sum.inl:Int->Key)
 e2:k2.map (·.1)=ks.map (Sum.inl:Int->Key)
 nd:ks.Nodup
 len:ks.length<=P.length
 v1:∀ t∈ks,dE k1 (.inl t)=some (.int (eR P t))
 v2:∀ t∈ks,dE k2 (.inl t)=some (.int (cf P t))
 mem:∀ t,t∈ks ↔ t ≠ 0/\∃ z∈P,ay z.1=t
theorem eD{kvs:List (Key × V)}{ks:List Int}{t:Int}(e:kvs.map (·.1)=ks.map (Sum.inl:Int->Key))(h:¬ t∈ks):dE kvs (.inl t)=none:=by
 cases hv:dE kvs (.inl t) with
 | none=>rfl
 | some v=>
  exfalso;unfold dE at hv;obtain⟨kv,hf,rfl⟩:=Option.map_eq_some_iff.mp hv;have e2:=List.find?_some hf;have e3:kv.1=.inl t:=of_decide_eq_true e2;have hm:kv.1∈kvs.map (·.1):=List.mem_map.mpr ⟨kv,List.mem_of_find?_eq_some hf,rfl⟩;rw [e,e3] at hm;obtain⟨x,hx,ex⟩:=List.mem_map.mp hm;cases ex;exact h hx
theorem pI.get{P:List (Int × Int)}{ks:List Int}{k1 k2:List (Key × V)}(h:pI P ks k1 k2){t:Int}(ht:t ≠ 0):(dE k1 (.inl t)).getD (.int 0)=.int (eR P t)/\(dE k2 (.inl t)).getD (.int 0)=.int (cf P t):=by
 by_cases hm:t∈ks
 ·rw [h.v1 t hm,h.v2 t hm];exact⟨rfl,rfl⟩
 ·have hno:∀ z∈P,¬ ay z.1=t:=λ z hz e=>hm ((h.mem t).mpr ⟨ht,z,hz,e⟩);rw [eD h.e1 hm,eD h.e2 hm];unfold eR cf;rw [dZ hno,dZ hno];exact⟨rfl,rfl⟩
theorem pI.nil:pI [] [] [] []:=⟨rfl,rfl,Mv,JB _,(λ t h=>by cases h),(λ t h=>by cases h),λ t=>⟨(λ h=>by cases h),λ ⟨_,z,hz,_⟩=>by cases hz⟩⟩
theorem pI.skip{P:List (Int × Int)}{ks:List Int}{k1 k2:List (Key × V)}{z:Int × Int}(h:pI P ks k1 k2)(hz:z.1=0):pI (P++[z]) ks k1 k2:=by
 have h0:ay z.1=0:=by rw [hz];rfl
 have hne:∀ t∈ks,¬ ay z.1=t:=λ t ht e=>((h.mem t).mp ht).1 (by rw [←e];exact h0);refine⟨h.e1,h.e2,h.nd,by rw [JA];have:=h.len;omega,λ t ht=>?_,λ t ht=>?_,λ t=>?_⟩
 ·rw [h.v1 t ht,gA,JL (hne t ht),Ky]
 ·rw [h.v2 t ht,fy,JL (hne t ht),Ky]
 ·rw [h.mem t];constructor
  ·rintro ⟨a,y,hy,e⟩;exact⟨a,y,KD _ hy,e⟩
  ·rintro ⟨a,y,hy,e⟩
   rcases J1.mp hy with hy|hy
   ·exact⟨a,y,hy,e⟩
   ·rw [JD.mp hy,h0] at e;exact absurd e.symm a
theorem pI.put{P:List (Int × Int)}{ks:List Int}{k1 k2:List (Key × V)}{z:Int × Int}(h:pI P ks k1 k2)(hz:z.1 ≠ 0):∃ ks',pI (P++[z]) ks' (eM k1 (.inl (ay z.1)) (.int (eR P (ay z.1)+loP z))) (eM k2 (.inl (ay z.1)) (.int (cf P (ay z.1)+hiP z))):=by
 have h0:ay z.1 ≠ 0:=by unfold ay;omega
 have hv:∀ (k:List (Key × V)) (v:V) (t:Int),dE (eM k (.inl (ay z.1)) v) (.inl t)=if ay z.1=t then some v else dE k (.inl t):=λ k v t=>by
  rw [oA]
  by_cases e:ay z.1=t
  ·rw [JM e,JM (by rw [e])]
  ·rw [JL e,JL (λ q=>e (by cases q;rfl))]
 have fin:∀ ks',(∀ t,t∈ks' ↔ t∈ks\/t=ay z.1)->(eM k1 (.inl (ay z.1)) (.int (eR P (ay z.1)+loP z))).map (·.1)=ks'.map (Sum.inl:Int->Key)->(eM k2 (.inl (ay z.1)) (.int (cf P (ay z.1)+hiP z))).map (·.1)=ks'.map (Sum.inl:Int->Key)->ks'.Nodup->ks'.length<=ks.length+1->pI (P++[z]) ks' (eM k1 (.inl (ay z.1)) (.int (eR P (ay z.1)+loP z))) (eM k2 (.inl (ay z.1)) (.int (cf P (ay z.1)+hiP z))):=λ ks' hm a1 a2 a3 a4=>by
  refine⟨a1,a2,a3,by rw [JA,JH];have:=h.len;omega,λ t ht=>?_,λ t ht=>?_,λ t=>?_⟩
  ·rw [hv,gA]
   by_cases e:ay z.1=t
   ·rw [JM e,JM e,e]
   ·rw [JL e,JL e,Ky];exact h.v1 t (((hm t).mp ht).resolve_right λ q=>e q.symm)
  ·rw [hv,fy]
   by_cases e:ay z.1=t
   ·rw [JM e,JM e,e]
   ·rw [JL e,JL e,Ky];exact h.v2 t (((hm t).mp ht).resolve_right λ q=>e q.symm)
  ·rw [hm t,h.mem t];constructor
   ·rintro (⟨a,y,hy,e⟩|e)
    ·exact⟨a,y,KD _ hy,e⟩
    ·exact⟨by rw [e];exact h0,z,J8 _ JI,e.symm⟩
   ·rintro ⟨a,y,hy,e⟩
    rcases J1.mp hy with hy|hy
    ·exact .inl ⟨a,y,hy,e⟩
    ·rw [JD.mp hy] at e;exact .inr e.symm
 by_cases hm:ay z.1∈ks
 ·refine⟨ks,fin ks (λ t=>⟨.inl,λ q=>q.elim id λ e=>by rw [e];exact hm⟩) ?_ ?_ h.nd %[0|8]⟩
  ·rw [g9 _ (h.v1 _ hm)];exact h.e1
  ·rw [g9 _ (h.v2 _ hm)];exact h.e2
 ·refine⟨ks++[ay z.1],fin _ (λ t=>by rw [J1,JD]) ?_ ?_ ?_ (by rw [JA];exact JB _)⟩
  ·rw [fP (eD h.e1 hm),h.e1,LV];rfl
  ·rw [fP (eD h.e2 hm),h.e2,LV];rfl
  ·rw [List.nodup_append];exact⟨h.nd,by simp,λ a ha b hb e=>hm (by rw [JD] at hb;rw [←hb,←e];exact ha)⟩
structure kO(ks:List Int)(P:List (Int × Int)):Prop where
 nd:ks.Nodup
 len:ks.length<=P.length
 mem:∀ t,t∈ks ↔ t ≠ 0/\∃ z∈P,ay z.1=t
 ord:ks.Pairwise (· >= ·)
theorem trP.upd{z:Tm3}{y:V}{H:Hp}{p:Addr}{xs:List V}{o:HO}(h:trP z y H)(hp:H p=some (.lst xs)):trP z y (upd H p o):=by
 obtain⟨q,rfl,hq⟩:=h;exact⟨q,rfl,by rw [ah (λ e=>by rw [e,hp] at hq;cases hq)];exact hq⟩
abbrev pw(C:Addr)(u:Addr)(v:Addr)(H:Hp)(Q:VK)(E:XK):Prop:=∃ (room f1 f2:Int) (A B:List (Int × Int)),aB C H u room f1 A/\aB C H v room f2 B/\fE A/\fE B/\∀ (ks:List Int) (l r:Addr) (H':Hp),Ext H H'->H' r=some (.tup [.ref l,.int (f2 - f1)])->gv H' l (aG ks (aC A B))->kO ks (aC A B)->Q (.ref r) H'
def rF(C:Addr):Sp:=λ vs H Q E=>∃ (u:Addr) (v:Addr),vs=[.ref u,.ref v]/\(pw C u v H Q E)
theorem o8(C:Addr)(u:Addr)(v:Addr)(H:Hp)(Q:VK)(E:XK):rF C [.ref u,.ref v] H Q E=(pw C u v H Q E):=pD (f:=λ (u:Addr) (v:Addr)=>[.ref u,.ref v]) (λ _ _ _ _ h=>by cases h;exact⟨rfl,rfl⟩) u v
theorem xg(C:Addr){vs:List V}{H:Hp}{Q:VK}{E:XK}(h:rF C vs H Q E):vs.length=2:=pF h λ _ _=>rfl
theorem iw(T:Tx K mg t):bP P w K mg base CX0 2 t.a_gathered t.d_gathered ["one", "other"] (rF t.a_View):=by
 have G_refuse_rooms:=%[iJ|49];have G_pulls:=%[oO|49];refine T.F_gathered.ok aA (λ vs H Q E h=>xg _ h) (λ cdv A' outer s H vs Q E hr h=>?_)
 ·obtain⟨u,v,rfl,room,f1,f2,A,B,vu,vv,hA,hB,k⟩:=h;obtain⟨dx,l1,hu,_⟩:=vu.ob;obtain⟨dy,l2,hv,_⟩:=vv.ob;have c1:=T.cl_View;have c4:=T.na_View_first;have g1:=cD room f1 l1;have g2:=cD room f2 l2;refine⟨_,%[%[%[refuse_rooms,%[%[0|0],%[%[1|0]|1]|1]|3],∅|31],%[(@dS _ _ (2) _ _ _ _ aA.nd rfl (Or.inr rfl) (@eC _ _) ∅ %[0|7]),%[(@dS _ _ (3) _ _ _ _ aA.nd rfl (Or.inr rfl) (@eC _ _) ∅ %[0|7]),%[%[J9,rfl,%[%[pulls,%[%[0|0],%[%[1|0]|1]|1]|3]|23],(%[(2),rfl,%[%[4,aA|5],%[%[5,aA|5],(@aK _),∅|19],∅|19],∅,∅|27].mono λ _ _ _ _ h=>bN h),%[%[%[(df hr.units),%[4|0],%[0|2],(af _)|15],%[%[6,aA,%[abs,ef,%[%[4|0]|1]|6]|4],%[%[7,aA,(@jY _ _ _ _ _ _ _ _ %[dm,%[4|0],%[0|2],(af _)|15] %[aN,%[5|0],%[0|2]|9] %[aN,%[0|2],%[5|0]|9])|4],%[%[(cu hr.units),%[2|0],%[6|0],%[aw,%[(cu hr.units),%[2|0],%[6|0],%[0|2],⟨by rfl,by rfl,by rfl,by rfl⟩|47],%[min,(fz rfl),%[%[0|2],%[%[7|0]|1]|1]|6]|9],rfl|44],%[%[(cu hr.units),%[3|0],%[6|0],%[aw,%[(cu hr.units),%[3|0],%[6|0],%[0|2],⟨by rfl,by rfl,by rfl,by rfl⟩|47],%[max,(cC rfl),%[%[0|2],%[%[7|0]|1]|1]|6]|9],rfl|44]|12]|10]|10]|10],(@ai _)|16]|12],(by intros;rfl)|35],%[%[(["times", "one", "other", "lows", "highs", "pace", "size", "!times", "reach", "terms"]),(1),(8),_,aA.nd,rfl,(Or.inl rfl),(aH (ae di) ["one", "other", "lows", "highs", "pace", "size", "times", "reach", "terms"] rfl rfl nofun),rfl,%[(@lu _ ("sorted") _ _ _ _ _ _ _ _ _ _ (ji rfl) ∅ T.z_sorted nofun %[%[2|0]|1] (@sf _ _ _ _ _ _ _ (@bD _ _ _ _) (@yj _)) ⋯ ⋯ ∅ ∅ ∅ ∅ ∅)|23],(λ C s₀ H₀ ex pn=>%[(0),_,(show List.Nodup (["times", "one", "other", "lows", "highs", "pace", "size", "!times", "reach", "terms"]:List Str) from by decide +kernel),rfl,(Or.inl rfl),%[0|7]|20]),(λ C s₀ H₀ ex pn=>(@aX _)),(λ C s₀ H₀ ex pn=>%[%[%[0|0],%[(@gR _ _ _ _ _ _ (cu hr.units) %[3|0] %[0|0] (λ _ _=>rfl)),%[(@gR _ _ _ _ _ _ (cu hr.units) %[4|0] %[0|0] (λ _ _=>rfl))|1]|1]|1]|14]),∅,(by intros;rfl),%[0|7]|45],%[%[%[%[%[8|0],%[%[aN,%[%[1|0],rfl|29],%[%[0|0],rfl|29]|9]|1]|1]|14]|13]|12]|10]|10]|10]|10]|10],?_⟩;rw [show aJ ["one", "other", "lows", "highs", "pace", "size", "times", "reach", "terms"] [.ref u,.ref v]=[some (.ref u),some (.ref v),none,none,none,none,none,none,none] from rfl];clear G_refuse_rooms G_pulls
  have hsz:∀ z∈aC A B,(1:Int)<=z.2:=λ z hz=>by
   unfold aC at hz
   rcases J1.mp hz with hz|hz
   ·obtain⟨a,ha,rfl⟩:=J0.mp hz;exact(hA.2 a ha).1
   ·obtain⟨a,ha,rfl⟩:=J0.mp hz;exact(hB.2 a ha).1
  have hPl:(aC A B).length<=16:=by unfold aC;rw [length_append,length_map,length_map];have:=hA.1;have:=hB.1;omega
  exists k;exists hsz;ac_rfl;rw [uX];refine⟨room,f1,f2,A,B,vu,vv,?_⟩;ac_rfl;intro d1 H1 hd1 e1 h1;ac_rfl;intro d2 H2 hd2 e2 h2;have e02:=e1.trans e2;have h1_2:=e2.at h1;have hd1_0:=hd1;have hd2_0:H d2=none:=e1.free hd2;have n12:d1 ≠ d2:=λ z=>by rw [z,hd2] at h1;cases h1
  clear hd1 hd2 h1;ac_rfl;rw [uY];refine⟨room,room,f1,f2,A,B,vu.ext e02,vv.ext e02,hA.1,hB.1,λ r H3 hr3 e3 t3=>?_⟩;obtain⟨ys,hy3,al⟩:=t3;have e03:=e02.trans e3;have nr1:r ≠ d1:=λ z=>by rw [z,h1_2] at hr3;cases hr3
  have nr2:r ≠ d2:=λ z=>by rw [z,h2] at hr3;cases hr3
  have hyl:ys.length=(aC A B).length:=al.1;generalize aC A B=P' at *;have h1_3:=e3.at h1_2;have h2_3:=e3.at h2;exists al;clear hr3 e1 e2 e3 e02 h1_2 h2;ac_rfl;refine eS (xs:=ys) (λ i σ H'=>∃ (ks:List Int) (k1 k2:List (Key × V)) (v4 v5 v6 v7:Option V),σ=[some (.ref u),some (.ref v),some (.ref d1),some (.ref d2),v4,v5,v6,v7,none]/\Ext H H'/\(∀ b o,b ≠ d1->b ≠ d2->H3 b=some o->H' b=some o)/\H' d1=some (.dK k1)/\H' d2=some (.dK k2)/\pI (P'.take i) ks k1 k2) ⟨[],[],[],none,none,none,none,rfl,e03,λ _ _ _ _ h=>h,h1_3,h2_3,pI.nil⟩ (λ i σ H' _ ⟨_,_,_,_,_,_,_,_,_,kp,_⟩=>kp r _ nr1 nr2 hy3) ?_ ?_
  ·rintro i y _ H4 hi ⟨ks,k1,k2,v4,v5,v6,v7,rfl,e4,kp,h14,h24,gi⟩;have hil:i < P'.length:=by have:=(JC.mp hi).1;omega
   obtain⟨z,hz⟩:∃ z,P'[i]? = some z:=⟨_,Jy hil⟩;obtain⟨q,rfl,hq⟩:=(al ()).2 i z y hz hi;have hz1:=hsz () z (K8 hz);have htk:P'.take (i+1)=P'.take i++[z]:=by rw [Mm,hz];rfl
   have hq4:=kp q _ (λ e=>by rw [e,h1_3] at hq;cases hq) (λ e=>by rw [e,h2_3] at hq;cases hq) hq;have lk1:k1.length < sizeLine:=om (by have:=KO List.length gi.e1;have:=gi.len;rw [JP,JP] at *;rw [KQ] at *;omega);have lk2:k2.length < sizeLine:=om (by have:=KO List.length gi.e2;have:=gi.len;rw [JP,JP] at *;rw [KQ] at *;omega);rw [htk]
   by_cases hz0:z.1=0
   ·have gs:=λ (_:Unit)=>gi.skip hz0;clear gi hi hz k;simp! only [↓aQ];exact⟨ks,k1,k2,_,_,_,_,rfl,e4,kp,rfl,rfl,gs ()⟩
   ·have hab:ay z.1 ≠ 0:=by unfold ay;omega
    obtain⟨b1,b2⟩:=gi.get hab;have gp:=λ (_:Unit)=>gi.put hz0;exists hz1
    have habs:(if z.1 < 0 then -z.1 else z.1)=ay z.1:=by unfold ay;split<;>omega
    clear gi hi hz k
    by_cases hp:0 < z.1
    ·have hmin:(if z.2 - 1 < 0 then z.2 - 1 else 0)=loP z:=by unfold loP;rw [if_pos hp];have:=hz1 ();split<;>omega
     have hmax:(if 0 < z.2 - 1 then z.2 - 1 else 0)=hiP z:=by unfold hiP;rw [if_pos hp];have:=hz1 ();split<;>omega
     simp! only [↓aQ];refine gO h14 ?_;ac_rfl;refine kU (k:=.inl (ay z.1)) h14 ?_;rw [b1];ac_rfl;refine iX (k:=.inl (ay z.1)) h14 lk1 ?_;have h15:upd H4 d1 (.dK (eM k1 (.inl (ay z.1)) (.int (eR (P'.take i) (ay z.1)+loP z)))) d2=some (.dK k2):=by rw [ah (J6 n12)];exact h24
     ac_rfl;refine gO h15 ?_;ac_rfl;refine kU (k:=.inl (ay z.1)) h15 ?_;rw [b2];ac_rfl;refine iX (k:=.inl (ay z.1)) h15 lk2 ?_;obtain⟨ks',gp'⟩:=gp ();exact⟨ks',_,_,_,_,_,_,rfl,(e4.put hd1_0).put hd2_0,λ b o x1 x2 h=>by rw [ah x2,ah x1];exact kp b o x1 x2 h,by rw [ah n12];exact ag,ag,gp'⟩
    ·have hmin:(if 1 - z.2 < 0 then 1 - z.2 else 0)=loP z:=by unfold loP;rw [if_neg hp];have:=hz1 ();split<;>omega
     have hmax:(if 0 < 1 - z.2 then 1 - z.2 else 0)=hiP z:=by unfold hiP;rw [if_neg hp];have:=hz1 ();split<;>omega
     simp! only [↓aQ];refine gO h14 ?_;ac_rfl;refine kU (k:=.inl (ay z.1)) h14 ?_;rw [b1];ac_rfl;refine iX (k:=.inl (ay z.1)) h14 lk1 ?_;have h15:upd H4 d1 (.dK (eM k1 (.inl (ay z.1)) (.int (eR (P'.take i) (ay z.1)+loP z)))) d2=some (.dK k2):=by rw [ah (J6 n12)];exact h24
     ac_rfl;refine gO h15 ?_;ac_rfl;refine kU (k:=.inl (ay z.1)) h15 ?_;rw [b2];ac_rfl;refine iX (k:=.inl (ay z.1)) h15 lk2 ?_;obtain⟨ks',gp'⟩:=gp ();exact⟨ks',_,_,_,_,_,_,rfl,(e4.put hd1_0).put hd2_0,λ b o x1 x2 h=>by rw [ah x2,ah x1];exact kp b o x1 x2 h,by rw [ah n12];exact ag,ag,gp'⟩
  ·rintro _ H4 ⟨ks,k1,k2,v4,v5,v6,v7,rfl,e4,kp,h14,h24,gi⟩;rw [hyl,L4] at gi;have hu4:=e4.at hu;have hv4:=e4.at hv;have hk1:ks.length < 64:=by have:=gi.len;omega
   exists gi;clear al hy3 h1_3 h2_3 hd1_0 hd2_0 kp e03 hsz;ac_rfl;refine vK h14 (gi ()).e1 hk1 λ ms hpm hord=>?_;intro q5 H5 hq5 e5 h5;have h14_5:=e5.at h14;have h24_5:=e5.at h24;have hms:ms.length<=64:=by rw [hpm.length_eq];omega
   exists hpm;exists hord;clear hq5;ac_rfl;have wk:=nZ (K:=K) h5;refine cp (ms.map V.int) (λ _=>true) (λ z x H'=>x=z/\H' q5=some (.lst (ms.map V.int))) (λ D z y H'=>trP (vi z,eR P' (vi z),cf P' (vi z)) y H') wk.1 wk.2 (λ D z y H1 H2 h e=>trP.ext (z:=(vi z,eR P' (vi z),cf P' (vi z))) h e) (λ D z y H1 xs o h hD=>trP.upd (z:=(vi z,eR P' (vi z),cf P' (vi z))) h hD) (aj (by rw [JP];omega)) ?_ ?_
   ·intro D z y H' N1 N0 hz hD e _ ⟨hy,_⟩ kx _;subst hy;obtain⟨t',ht',rfl⟩:=J0.mp hz;have hm:=(hpm ()).mem_iff.mp ht';have w1:=(gi ()).v1 t' hm;have w2:=(gi ()).v2 t' hm;have k1':=kx rfl;have a1:=e.at h14_5;have a2:=e.at h24_5;clear kx k hz wk;simp! only [↓bA,↓aV];refine rk (k:=.inl t') a1 w1 ?_;ac_rfl;refine rk (k:=.inl t') a2 w2 ?_;ac_rfl;intro g H6 _ e6 h6;exact k1' _ H6 e6 ⟨g,rfl,h6⟩
   ·intro D zs H6 hD e6 h6 al6;rw [iR] at al6
    have t6:gv H6 D (aG ms P'):=⟨zs,h6,by
     refine⟨by rw [al6.1];unfold aG;rw [length_map,length_map],λ i z y hz hy=>?_⟩;unfold aG at hz;rw [getElem?_map] at hz;obtain⟨t',ht',rfl⟩:=Option.map_eq_some_iff.mp hz;exact al6.2 i (.int t') y (by rw [getElem?_map,ht'];rfl) hy⟩
    have ko:kO ms P':=⟨(hpm ()).nodup_iff.mpr (gi ()).nd,by rw [(hpm ()).length_eq];exact(gi ()).len,λ t'=>(hpm ()).mem_iff.trans ((gi ()).mem t'),hord ()⟩;have e46:=e5.trans e6;have hu6:=e46.at hu4;have hv6:=e46.at hv4;exists t6;exists ko;clear al6 wk hD h6 h5 hu4 hv4 h14_5 h24_5 h14 h24;ac_rfl;intro r7 H7 _ e7 h7;exact k () ms D r7 H7 (e4.trans (e46.trans e7)) h7 (bY (t6 ()) e7) (ko ())
abbrev jq  (p:Addr) (H:Hp) (Q:VK) (E:XK):Prop:=∃ zs:List Tm3,gv H p zs/\zs.length<=17/\∀ (r:Addr) (H':Hp),Ext H H'->dP H' r (zs.map λ z=>z.2)->Q (.ref r) H'
def jQ  : Sp:=λ vs H Q E=>∃ (p:Addr),vs=[.ref p]/\(jq  p H Q E)
theorem qB  (p:Addr) (H:Hp) (Q:VK) (E:XK):jQ  [.ref p] H Q E=(jq  p H Q E):=ve (f:=λ (p:Addr)=>[.ref p]) (λ _ _ h=>by cases h;exact rfl) p
theorem qk  {vs:List V}{H:Hp}{Q:VK}{E:XK}(h:jQ  vs H Q E):vs.length=1:=qR h λ _=>rfl
theorem dD(T:Tx K mg t):bP P w K mg base CX0 1 t.a_first_case t.d_first_case ["terms"] jQ:=by
 refine T.F_first_case.ok mF (λ vs H Q E h=>qk h) (λ c A o s H vs Q E hr h=>?_)
 ·obtain⟨p,rfl,zs,⟨ys,hp,al⟩,hl,k⟩:=h;refine⟨_,%[%[%[(["term", "terms"]),(1),(aH (ae cK) ["terms"] rfl rfl nofun),rfl,%[%[0|0]|23],(λ C s₀ H₀ ex pn=>%[(0),_,(show List.Nodup (["term", "terms"]:List Str) from by decide +kernel),rfl,(Or.inl rfl),%[0|7]|20]),(λ C s₀ H₀ ex pn=>(@aX _)),(λ C s₀ H₀ ex pn=>%[%[%[az,%[0|0],%[0|2],(λ _ _=>rfl)|11],%[%[az,%[0|0],%[0|2],(λ _ _=>rfl)|11]|1]|1]|14]),(by intros;rfl)|26]|13]|12],?_⟩;rw [show aJ ["terms"] [.ref p]=[some (.ref p)] from rfl];exists k;have wk:=gh (K:=K) (R:=trP) (λ _ _ _ _ h e=>h.ext e) hp al;ac_rfl;refine cp zs (λ _=>true) trP (λ D z y H'=>axP z.2 y H') wk.1 wk.2 (λ D z y H1 H2 h e=>axP.ext (a:=z.2) h e) (λ D z y H1 xs o h hD=>axP.upd (z:=z.2) h hD) (aj %[0|8]) ?_ ?_
  ·intro D z x H' N1 N0 hz hD e _ ⟨q,hx,hq⟩ k1 _;subst hx;have k1':=k1 rfl;clear k1 k wk;simp! only [↓bA,↓aV];intro t1 H6 ht1 e6 h6;exact k1' _ H6 e6 ⟨t1,rfl,h6⟩
  intro D ys2 H2 hD e2 h2 al2;rw [iR] at al2;have k':=k () D H2 e2 ⟨ys2,h2,gS al2⟩;clear k wk al2;ac_rfl
theorem Hi{n:Nat}{c:Int}(h0:0<=c)(h1:c < n):ixN n c=some c.toNat:=by
 unfold ixN;rw [if_pos h0,if_pos %[0|8]]
theorem oz{α:Type}{R:α->V->Prop}{zs:List α}{ys:List V}{k:Nat}{z:α}{y:V}(h:Al R zs ys)(r:R z y):Al R (zs.set k z) (ys.set k y):=by
 refine⟨by rw [Me,Me];exact h.1,λ i a b ha hb=>?_⟩;rw [List.getElem?_set] at ha hb
 by_cases e:k=i
 ·rw [JM e] at ha hb;split at ha
  ·split at hb
   ·cases ha;cases hb;exact r
   ·cases hb
  ·cases ha
 ·rw [JL e] at ha hb;exact h.2 i a b ha hb
abbrev jl  (q:Addr) (k:Int) (a:Int) (H:Hp) (Q:VK) (E:XK):Prop:=∃ (cs:Bx) (m:Nat),k=(m:Int)/\dP H q cs/\m < cs.length/\cs.length<=17/\∀ (r a1 a2:Addr) (H':Hp),H a1=none->H a2=none->Ext H H'->H' r=some (.lst [.ref a1,.ref a2])->dP H' a1 (upC cs m a)->dP H' a2 (loC cs m a)->Q (.ref r) H'
def jL  : Sp:=λ vs H Q E=>∃ (q:Addr) (k:Int) (a:Int),vs=[.ref q,.int k,.int a]/\(jl  q k a H Q E)
theorem qz  (q:Addr) (k:Int) (a:Int) (H:Hp) (Q:VK) (E:XK):jL  [.ref q,.int k,.int a] H Q E=(jl  q k a H Q E):=qN (f:=λ (q:Addr) (k:Int) (a:Int)=>[.ref q,.int k,.int a]) (λ _ _ _ _ _ _ h=>by cases h;exact⟨rfl,rfl,rfl⟩) q k a
theorem qf  {vs:List V}{H:Hp}{Q:VK}{E:XK}(h:jL  vs H Q E):vs.length=3:=pE h λ _ _ _=>rfl
theorem ia(T:Tx K mg t):bP P w K mg base CX0 1 t.a_parted t.d_parted ["case", "k", "at"] jL:=by
 refine T.F_parted.ok kd (λ vs H Q E h=>qf h) (λ c A o s H vs Q E hr h=>?_)
 ·obtain⟨q,_,a,rfl,cs,m,rfl,⟨ys,hq,al⟩,hm,h17,k⟩:=h;refine⟨_,%[%[3,kd,%[cx,∅,T.z_list,nofun,%[%[0|0]|1],⋯,⋯,∅,∅|43]|4],%[%[4,kd,%[cx,∅,T.z_list,nofun,%[%[0|0]|1],⋯,⋯,∅,∅|43]|4],%[(@gH _ _ _ _ _ _ %[%[%[aw,%[2|0],%[0|2]|9],%[%[az,%[az,%[0|0],%[1|0],(λ _ _=>rfl)|11],%[0|2],(λ _ _=>rfl)|11]|1]|1]|14] (@yl _ _ _ _ _ _ _ %[3|0] %[1|0] oJ (by intros;rfl)) ∅ ∅ ∅),%[(@gH _ _ _ _ _ _ %[%[%[az,%[az,%[0|0],%[1|0],(λ _ _=>rfl)|11],%[0|2],(λ _ _=>rfl)|11],%[%[2|0]|1]|1]|14] (@yl _ _ _ _ _ _ _ %[4|0] %[1|0] oJ (by intros;rfl)) ∅ ∅ ∅),%[%[%[%[%[3|0],%[%[4|0]|1]|1]|18]|13]|12]|10]|10]|10]|10],?_⟩;rw [show aJ ["case", "k", "at", "upper", "lower"] [.ref q,.int (m:Int),.int a]=[some (.ref q),some (.int (m:Int)),some (.int a),none,none] from rfl];have hyl:ys.length=cs.length:=al.1;obtain⟨y,hat,hy⟩:=dc al hm;rw [Kj] at hat;have ix:ixN ys.length (m:Int)=some m:=by have:=Hi (n:=ys.length) (c:=(m:Int)) %[0|8] %[0|8];rw [Kk] at this;exact this
  exists hyl;exists k;exists al;ac_rfl;intro p1 H1 hp1 e1 h1;have hq1:=e1.at hq;ac_rfl;intro p2 H2 hp2 e2 h2;have hq2:=e2.at hq1;have h1_2:=e2.at h1;have hy2:=(e1.trans e2).at hy;have hp2_0:H p2=none:=e1.free hp2;have n12:p1 ≠ p2:=λ z=>by rw [z,hp2] at h1;cases h1
  have nq1:q ≠ p1:=λ z=>by rw [z,hp1] at hq;cases hq
  have ny1:y ≠ p1:=λ z=>by rw [z,hp1] at hy;cases hy
  have hp1_0:=hp1;clear hp1 hp2 h1 hq1;ac_rfl;intro t3 H3 ht3 e3 h3;have h1_3:=e3.at h1_2;have h2_3:=e3.at h2;have hq3:=e3.at hq2;have hy3:=e3.at hy2;have nt1:t3 ≠ p1:=λ z=>by rw [z,h1_2] at ht3;cases ht3
  have e03:=e1.trans (e2.trans e3);clear ht3 h1_2 h2 hq2 hy2 e1 e2 e3;ac_rfl;have h2_4:upd H3 p1 (.lst (ys.set m (.ref t3))) p2=some (.lst ys):=by rw [ah (J6 n12)];exact h2_3
  have hq4:upd H3 p1 (.lst (ys.set m (.ref t3))) q=some (.lst ys):=by rw [ah nq1];exact hq3
  have hy4:upd H3 p1 (.lst (ys.set m (.ref t3))) y=some (.tup [.int (cs.getD m default).1,.int (cs.getD m default).2]):=by rw [ah ny1];exact hy3
  have h1_4:upd H3 p1 (.lst (ys.set m (.ref t3))) p1=some (.lst (ys.set m (.ref t3))):=ag;have h3_4:upd H3 p1 (.lst (ys.set m (.ref t3))) t3=some (.tup [.int (a+1),.int (cs.getD m default).2]):=by rw [ah nt1];exact h3
  have e04:Ext H (upd H3 p1 (.lst (ys.set m (.ref t3)))):=e03.put hp1_0;generalize upd H3 p1 (.lst (ys.set m (.ref t3)))=H4 at *;clear h1_3 h2_3 hq3 hy3 h3 e03;ac_rfl;intro t5 H5 ht5 e5 h5;have h2_5:=e5.at h2_4;have nt2:t5 ≠ p2:=λ z=>by rw [z,h2_4] at ht5;cases ht5
  have n32:t3 ≠ p2:=λ z=>by rw [z,h2_4] at h3_4;cases h3_4
  have e05:=e04.trans e5;have h1_5:=e5.at h1_4;have h3_5:=e5.at h3_4;clear ht5 hq4 hy4 h2_4 h1_4 h3_4 e04 e5;ac_rfl;have h2_6:upd H5 p2 (.lst (ys.set m (.ref t5))) p2=some (.lst (ys.set m (.ref t5))):=ag;have h1_6:upd H5 p2 (.lst (ys.set m (.ref t5))) p1=some (.lst (ys.set m (.ref t3))):=by rw [ah n12];exact h1_5
  have h3_6:upd H5 p2 (.lst (ys.set m (.ref t5))) t3=some (.tup [.int (a+1),.int (cs.getD m default).2]):=by rw [ah n32];exact h3_5
  have h5_6:upd H5 p2 (.lst (ys.set m (.ref t5))) t5=some (.tup [.int (cs.getD m default).1,.int a]):=by rw [ah nt2];exact h5
  have e06:Ext H (upd H5 p2 (.lst (ys.set m (.ref t5)))):=e05.put hp2_0;generalize upd H5 p2 (.lst (ys.set m (.ref t5)))=H6 at *;clear h1_5 h2_5 h3_5 h5 e05;intro r H7 hr7 e7 h7;have e07:=e06.trans e7;have al7:=λ (_:Unit)=>(al ()).imp λ _ _ t=>axP.ext t e07;exact k () r p1 p2 H7 hp1_0 hp2_0 e07 h7 ⟨_,e7.at h1_6,oz (al7 ()) ⟨t3,rfl,e7.at h3_6⟩⟩ ⟨_,e7.at h2_6,oz (al7 ()) ⟨t5,rfl,e7.at h5_6⟩⟩
theorem xk{xs:List V}{n:Int}{H:Hp}{Q:VK}(h0:1<=n)(h1:n<=xs.length)(q:gD (.tup (xs.drop n.toNat)) H Q):Fz (some n) none H Q xs:=by
 obtain⟨k,rfl⟩:=Kn (show 0<=n by omega);refine⟨λ e=>?_,?_⟩
 ·have:=e.1;rw [HT.sIx_nat] at this;omega
 ·rw [oW xs _ (show (0:Int)<=(k:Int) by omega)];exact q
def inB:V->Bool
 | .int _=>true
 | _=>false
theorem sy{H:Hp}{y:V}(h:(isW H y).isSome=true):isW H y=some (inB y):=by
 cases y with
 | int i=>rfl
 | bl b=>rfl
 | non=>rfl
 | str z=>rfl
 | ref p=>
  show ((H p).bind tyO).map (λ _=>false)=some false
  have h':(((H p).bind tyO).map λ _=>false).isSome=true:=h
  cases e:(H p).bind tyO with
  | none=>rw [e] at h';cases h'
  | some t=>rfl
 | _=>cases h
def Jj(H:Hp)(xs:List V):Prop:=xs.length<=5/\(∀ y∈xs,(isW H y).isSome=true)/\(xs=[]\/∃ ys,xs=.non::ys\/∃ z,xs=.str z::ys)
def ThV(H:Hp)(x:V):Prop:=x=.non\/(∃ i,x=.int i)\/(∃ z,x=.str z)\/(∃ p xs,x=.ref p/\H p=some (.lst xs))\/∃ p xs,x=.ref p/\H p=some (.tup xs)/\Jj H xs
def gu(xs:List V)(wd:Str)(m:Int):Bool:=decide ((xs.length:Int)=m+1) && (match xs with
 | .str z::ys=>(z == wd) && ys.all inB
 | _=>false)
def qQ(H:Hp)(x:V)(wd:Str)(m:Int):Bool:=match x with
 | .ref p=>(match H p with
  | some (.tup xs)=>gu xs wd m
  | _=>false)
 | _=>false
abbrev jo  (x:V) (wd:Str) (m:Int) (H:Hp) (Q:VK) (E:XK):Prop:=ThV H x/\0<=m/\∀ H',Ext H H'->Q (.bl (qQ H x wd m)) H'
def jP  : Sp:=λ vs H Q E=>∃ (x:V) (wd:Str) (m:Int),vs=[x,.str wd,.int m]/\(jo  x wd m H Q E)
theorem eL  (x:V) (wd:Str) (m:Int) (H:Hp) (Q:VK) (E:XK):jP  [x,.str wd,.int m] H Q E=(jo  x wd m H Q E):=qN (f:=λ (x:V) (wd:Str) (m:Int)=>[x,.str wd,.int m]) (λ _ _ _ _ _ _ h=>by cases h;exact⟨rfl,rfl,rfl⟩) x wd m
theorem qj  {vs:List V}{H:Hp}{Q:VK}{E:XK}(h:jP  vs H Q E):vs.length=3:=pE h λ _ _ _=>rfl
theorem jd(T:Tx K mg t):bP P w K mg base CX0 2 t.a_is_step t.d_is_step ["thing", "word", "many"] jP:=by
 have G_is_whole:=%[dv|49];refine T.F_is_step.ok va (λ vs H Q E h=>qj h) (λ c A o s H vs Q E hr h=>?_)
 ·obtain⟨x,wd,m,rfl,ht,hm,k⟩:=h;refine⟨_,%[%[(PW.pt %[%[%[%[isinstance,bp,%[%[0|0],%[%[(.ty "tuple"),(.type "tuple"),_,∅,T.z_tuple,nofun,rfl,⋯,⋯|34]|1]|1]|6],(by intros;rfl)|22]|24],%[%[(df hr.units),%[len,ao,%[%[0|0]|1]|6],%[aw,%[2|0],%[0|2]|9],(af _)|15],%[%[%[%[isinstance,bp,%[%[az,%[0|0],%[0|2],(λ _ _=>rfl)|11],%[%[(.ty "str"),(.type "str"),_,∅,T.z_str,nofun,rfl,⋯,⋯|34]|1]|1]|6],(by intros;rfl)|22]|24]|37]|28]|28]),%[%[(@bD _ _ _ _)|13]|12],(@ai _)|16],%[%[%[%[(bt hr.units),%[az,%[0|0],%[0|2],(λ _ _=>rfl)|11],%[1|0],(af _)|25],%[%[all,(ik rfl),%[%[(["number", "thing", "word", "many"]),(1),(aH (ae ft) ["thing", "word", "many"] rfl rfl nofun),rfl,%[%[Ge,%[0|0],%[%[0|2]|32],(@bZ _)|36]|23],(λ C s₀ H₀ ex pn=>%[(0),_,(show List.Nodup (["number", "thing", "word", "many"]:List Str) from by decide +kernel),rfl,(Or.inl rfl),%[0|7]|20]),(λ C s₀ H₀ ex pn=>(@aX _)),(λ C s₀ H₀ ex pn=>%[is_whole,%[%[0|0]|1]|3]),(by intros;rfl)|26]|1]|6]|38]|30]|13]|12]|10],?_⟩;rw [show aJ ["thing", "word", "many"] [x,.str wd,.int m]=[some (x),some (.str wd),some (.int m)] from rfl];clear G_is_whole;exists k
  rcases ht with rfl|⟨i,rfl⟩|⟨z,rfl⟩|⟨p,xs,rfl,hp⟩|⟨p,xs,rfl,hp,h5,hw,hh⟩
  ·have k':Q (.bl false) H:=k () H (Ext.refl _);clear k;ac_rfl
  ·have k':Q (.bl false) H:=k () H (Ext.refl _);clear k;ac_rfl
  ·have k':Q (.bl false) H:=k () H (Ext.refl _);clear k;ac_rfl
  ·have k':=k () H (Ext.refl _)
   have e:qQ H (.ref p) wd m=false:=by
    show (match H p with|some (.tup xs)=>_|_=>false)=false
    rw [hp]
   rw [e] at k';clear k e;ac_rfl
  ·have e:qQ H (.ref p) wd m=gu xs wd m:=by
    show (match H p with|some (.tup xs)=>gu xs wd m|_=>false)=_
    rw [hp]
   rw [e] at k;clear e
   by_cases hl:(xs.length:Int)=m+1
   ·rcases hh with rfl|⟨ys,rfl|⟨z,rfl⟩⟩
    ·have hl':(0:Int)=m+1:=hl;omega
    ·have k':=k () H (Ext.refl _);have e2:gu (.non::ys) wd m=false:=by unfold gu;rw [Bool.and_false]
     rw [e2] at k';rw [JS] at hl;clear k e2 hw;ac_rfl
    ·have e2:gu (.str z::ys) wd m=((z == wd) && ys.all inB):=by unfold gu;rw [decide_eq_true hl,Bool.true_and]
     rw [e2] at k;rw [JS] at hl;have hwy:∀ y∈ys,(isW H y).isSome=true:=λ y hy=>hw y (JG _ hy);rw [JS] at h5;exists hwy;clear e2 hw
     by_cases hz:z=wd
     ·subst hz;rw [Kp,Mh] at k;ac_rfl;refine xk ⋯ (by rw [JS];omega) ?_;intro t1 H1 _ e1 h1;have h1':H1 t1=some (.tup ys):=h1;have wk:=CG (K:=K) h1';clear h1 hp;ac_rfl;refine bH ys (λ _=>true) (λ y=>.bl (inB y)) (λ z y H'=>y=z/\H' t1=some (.tup ys)) wk.1 wk.2 (aj %[0|8]) ?_ ?_
      ·intro D v y H' N1 N0 hv hD e ⟨hy,_⟩ k1 _;subst hy
       have hiw:isW H' y=some (inB y):=by
        have h0:=sy (hwy () y hv)
        cases y with
        | ref q=>
         refine sy ?_;have h0':(((H q).bind tyO).map λ _=>false)=some false:=h0
         show ((((H' q).bind tyO).map λ _=>false)).isSome=true
         cases hq:H q with
         | none=>rw [hq] at h0';cases h0'
         | some o=>rw [(e1.trans e).at hq];rw [hq] at h0';rw [h0'];rfl
        | int i=>rfl
        | bl i=>rfl
        | non=>rfl
        | str i=>rfl
        | _=>cases h0
       have k1':N1 (.bl (inB y)) H':=k1 rfl H' (Ext.refl _);generalize inB y=bb at *;clear k1 hv wk;simp! only [↓bA,↓aV,↓aR]
      ·intro D H2 hD e2 h2;have k':=k () H2 (e1.trans e2);have hbl:((ys.filter λ _=>true).map λ y=>V.bl (inB y))=(ys.map inB).map V.bl:=by rw [iR,KG];rfl
       have hall:(ys.map inB).all id=ys.all inB:=by rw [List.all_map];rfl
       rw [hbl] at h2;clear k wk hbl;ac_rfl
     ·have k':=k () H (Ext.refl _);rw [beq_false_of_ne hz,Ma] at k';clear k;ac_rfl
   ·have k':=k () H (Ext.refl _);have e2:gu xs wd m=false:=by unfold gu;rw [decide_eq_false hl,Bool.false_and]
    rw [e2] at k';clear k e2 hw;ac_rfl
theorem jA{xs:List V}{wd:Str}:gu xs wd 0=true ↔ xs=[.str wd]:=by
 unfold gu;constructor
 ·intro h;rw [Kq,KH] at h;obtain⟨h1,h2⟩:=h;have hl:xs.length=1:=by omega
  match xs,hl,h2 with
  | [v],_,h2=>
   cases v with
   | str z=>
    have h3:((z == wd) && true)=true:=h2;rw [Bool.and_true] at h3;rw [eq_of_beq h3]
   | _=>cases h2
 ·rintro rfl
  show (true && ((wd == wd) && true))=true
  rw [Kp];rfl
theorem oE{xs:List V}{wd:Str}:gu xs wd 1=true ↔ ∃ d,xs=[.str wd,.int d]:=by
 unfold gu;constructor
 ·intro h;rw [Kq,KH] at h;obtain⟨h1,h2⟩:=h;have hl:xs.length=2:=by omega
  match xs,hl,h2 with
  | [v,u],_,h2=>
   cases v with
   | str z=>
    have h3:((z == wd) && (inB u && true))=true:=h2;rw [Kq,Bool.and_true] at h3
    cases u with
    | int d=>exact⟨d,by rw [eq_of_beq h3.1]⟩
    | _=>cases h3.2
   | _=>cases h2
 ·rintro ⟨d,rfl⟩
  show (true && ((wd == wd) && true))=true
  rw [Kp];rfl
theorem oF{xs:List V}{wd:Str}:gu xs wd 2=true ↔ ∃ k a,xs=[.str wd,.int k,.int a]:=by
 unfold gu;constructor
 ·intro h;rw [Kq,KH] at h;obtain⟨h1,h2⟩:=h;have hl:xs.length=3:=by omega
  match xs,hl,h2 with
  | [v,u,y],_,h2=>
   cases v with
   | str z=>
    have h3:((z == wd) && (inB u && (inB y && true)))=true:=h2;rw [Kq,Kq,Bool.and_true] at h3
    cases u with
    | int k=>
     cases y with
     | int a=>exact⟨k,a,by rw [eq_of_beq h3.1]⟩
     | _=>cases h3.2.2
    | _=>cases h3.2.1
   | _=>cases h2
 ·rintro ⟨k,a,rfl⟩
  show (true && ((wd == wd) && true))=true
  rw [Kp];rfl
theorem gB{H:Hp}{x:V}{wd:Str}{m:Int}(h:qQ H x wd m=true):∃ p xs,x=.ref p/\H p=some (.tup xs)/\gu xs wd m=true:=by
 cases x with
 | ref p=>
  have h':(match H p with|some (.tup xs)=>gu xs wd m|_=>false)=true:=h
  cases hp:H p with
  | none=>rw [hp] at h';cases h'
  | some o=>
   rw [hp] at h'
   cases o with
   | tup xs=>exact⟨p,xs,rfl,hp,h'⟩
   | _=>cases h'
 | _=>cases h
theorem j0{H H':Hp}{x:V}{wd:Str}{m:Int}(ht:ThV H x)(e:Ext H H'):qQ H' x wd m=qQ H x wd m:=by
 rcases ht with rfl|⟨i,rfl⟩|⟨z,rfl⟩|⟨p,xs,rfl,hp⟩|⟨p,xs,rfl,hp,_⟩
 ·rfl
 ·rfl
 ·rfl
 ·show (match H' p with|some (.tup xs)=>gu xs wd m|_=>false)=(match H p with|some (.tup xs)=>gu xs wd m|_=>false)
  rw [hp,e.at hp]
 ·show (match H' p with|some (.tup xs)=>gu xs wd m|_=>false)=(match H p with|some (.tup xs)=>gu xs wd m|_=>false)
  rw [hp,e.at hp]
theorem Bi{H H':Hp}{y:V}(h:(isW H y).isSome=true)(e:Ext H H'):(isW H' y).isSome=true:=by
 cases y with
 | ref q=>
  have h0:(((H q).bind tyO).map λ _=>false).isSome=true:=h
  show (((H' q).bind tyO).map λ _=>false).isSome=true
  cases hq:H q with
  | none=>rw [hq] at h0;cases h0
  | some o=>rw [e.at hq];rw [hq] at h0;exact h0
 | int i=>rfl
 | bl i=>rfl
 | non=>rfl
 | str i=>rfl
 | _=>cases h
theorem ThV.ext{H H':Hp}{x:V}(h:ThV H x)(e:Ext H H'):ThV H' x:=by
 rcases h with rfl|⟨i,rfl⟩|⟨z,rfl⟩|⟨p,xs,rfl,hp⟩|⟨p,xs,rfl,hp,h5,hw,hh⟩
 ·exact .inl rfl
 ·exact .inr (.inl ⟨i,rfl⟩)
 ·exact .inr (.inr (.inl ⟨z,rfl⟩))
 ·exact .inr (.inr (.inr (.inl ⟨p,xs,rfl,e.at hp⟩)))
 ·exact .inr (.inr (.inr (.inr ⟨p,xs,rfl,e.at hp,h5,λ y hy=>Bi (hw y hy) e,hh⟩)))
def mL(H:Hp)(cs:Bx)(x:V):Prop:=∃ (p:Addr) (k:Nat) (a:Int),x=.ref p/\H p=some (.tup [.str "part",.int (k:Int),.int a])/\k < cs.length/\(cs.getD k default).1<=a/\a < (cs.getD k default).2
abbrev iF  (q:Addr) (x:V) (H:Hp) (Q:VK) (E:XK):Prop:=∃ cs:Bx,dP H q cs/\cs.length<=17/\ThV H x/\∀ (b:Bool) (H':Hp),Ext H H'->(b=true ↔ mL H cs x)->Q (.bl b) H'
def gU  : Sp:=λ vs H Q E=>∃ (q:Addr) (x:V),vs=[.ref q,x]/\(iF  q x H Q E)
theorem nP  (q:Addr) (x:V) (H:Hp) (Q:VK) (E:XK):gU  [.ref q,x] H Q E=(iF  q x H Q E):=pD (f:=λ (q:Addr) (x:V)=>[.ref q,x]) (λ _ _ _ _ h=>by cases h;exact⟨rfl,rfl⟩) q x
theorem nH  {vs:List V}{H:Hp}{Q:VK}{E:XK}(h:gU  vs H Q E):vs.length=2:=pF h λ _ _=>rfl
theorem eZ(T:Tx K mg t):bP P w K mg base CX0 3 t.a_parts_by t.d_parts_by ["case", "step"] gU:=by
 have G_is_step:=%[jd|49];refine T.F_parts_by.ok qG (λ vs H Q E h=>nH h) (λ c A o s H vs Q E hr h=>?_)
 ·obtain⟨q,x,rfl,cs,hq,h17,ht,k⟩:=h;refine⟨_,%[%[(PW.pt %[%[%[%[is_step,%[%[1|0],%[(@av _ _ _ _),%[%[0|2]|1]|1]|1]|3],(by intros;rfl)|22]|24],%[%[(@hG _ _ _ _ _ _ _ _ _ _ _ _ mM dk %[0|2] %[az,%[1|0],%[0|2],(λ _ _=>rfl)|11] %[len,ao,%[%[0|0]|1]|6] ∅)|24]|37]|28]),%[%[(@bD _ _ _ _)|13]|12],(@ai _)|16],%[%[(@lr _ _ _ _ _ _ _ _ _ _ _ _ mM dk %[az,%[az,%[0|0],%[az,%[1|0],%[0|2],(λ _ _=>rfl)|11],(λ _ _=>rfl)|11],%[0|2],(λ _ _=>rfl)|11] %[az,%[1|0],%[0|2],(λ _ _=>rfl)|11] %[az,%[az,%[0|0],%[az,%[1|0],%[0|2],(λ _ _=>rfl)|11],(λ _ _=>rfl)|11],%[0|2],(λ _ _=>rfl)|11] ∅)|13]|12]|10],?_⟩;rw [show aJ ["case", "step"] [.ref q,x]=[some (.ref q),some (x)] from rfl];clear G_is_step;exists k;ac_rfl;rw [eL];refine⟨ht,by decide,λ H1 e1=>?_⟩
  cases hs:qQ H x (Str.ofString "part") 2 with
  | false=>
   have k':=k () false H1 e1 ⟨(λ h=>by cases h),λ ⟨p,m,a,hx,hp,_⟩=>by
    subst hx
    have h2:qQ H (.ref p) (Str.ofString "part") 2=true:=by
     show (match H p with|some (.tup xs)=>gu xs _ 2|_=>false)=true
     rw [hp];exact oF.mpr ⟨_,_,rfl⟩
    rw [hs] at h2;cases h2⟩
   clear k hs ht;ac_rfl
  | true=>
   obtain⟨p,xs,rfl,hp,hxs⟩:=gB hs;obtain⟨kk,aa,rfl⟩:=oF.mp hxs;have hp1:=e1.at hp;obtain⟨ts,hq1,bl⟩:=br hq e1;have htl:ts.length=cs.length:=bl.1
   have iff:∀ b:Bool,(b=true ↔ (∃ m:Nat,kk=(m:Int)/\m < cs.length/\(cs.getD m default).1<=aa/\aa < (cs.getD m default).2))->(b=true ↔ mL H cs (.ref p)):=λ b hb=>by
    rw [hb];constructor
    ·rintro ⟨m,rfl,h1,h2,h3⟩;exact⟨p,m,aa,rfl,hp,h1,h2,h3⟩
    ·rintro ⟨p',m,a',e,hp',h1,h2,h3⟩;cases e;rw [hp] at hp';cases hp';exact⟨m,rfl,h1,h2,h3⟩
   exists iff;exists bl;clear hs hxs ht
   by_cases r1:0<=kk
   ·by_cases r2:kk < (cs.length:Int)
    ·obtain⟨m,rfl⟩:=Kn r1;have hmc:m < cs.length:=by omega
     obtain⟨y,hat,hy⟩:=dc (bl ()) hmc;rw [Kj] at hat
     have k2:=λ (_:Unit)=>λ (b:Bool) (hb:b=true ↔ (cs.getD m default).1<=aa/\aa < (cs.getD m default).2)=>k () b H1 e1 (iff () b (by
      rw [hb]
      exact⟨λ h=>⟨m,rfl,hmc,h.1,h.2⟩,λ ⟨m',e,_,h1,h2⟩=>by
       have e2:m'=m:=by omega
       rw [e2] at h1 h2;exact⟨h1,h2⟩⟩))
     generalize cs.getD m default=ci at *;clear k iff bl
     by_cases r3:ci.1<=aa
     ·by_cases r4:aa < ci.2
      ·have k3:=k2 () true ⟨λ _=>⟨r3,r4⟩,λ _=>rfl⟩;clear k2;ac_rfl
      ·have k3:=k2 () false ⟨(λ h=>by cases h),λ h=>absurd h.2 r4⟩;clear k2;ac_rfl
     ·have k3:=k2 () false ⟨(λ h=>by cases h),λ h=>absurd h.1 r3⟩;clear k2;ac_rfl
    ·have k3:=k () false H1 e1 (iff () false ⟨(λ h=>by cases h),λ ⟨m,e,h,_⟩=>by omega⟩);clear k iff bl;ac_rfl
   ·have k3:=k () false H1 e1 (iff () false ⟨(λ h=>by cases h),λ ⟨m,e,h,_⟩=>by omega⟩);clear k iff bl;ac_rfl
abbrev js  (p:Addr) (q:Addr) (d:Int) (H:Hp) (Q:VK) (E:XK):Prop:=∃ (zs:List Tm3) (cs:List (Int × Int)),gv H p zs/\dP H q cs/\cG zs/\fD zs cs/\2<=d/\∀ (b:Bool) (H':Hp),Ext H H'->(b=true ↔ ∀ n∈bX zs cs,d ∣ n)->Q (.bl b) H'
def jS  : Sp:=λ vs H Q E=>∃ (p:Addr) (q:Addr) (d:Int),vs=[.ref p,.ref q,.int d]/\(js  p q d H Q E)
theorem qD  (p:Addr) (q:Addr) (d:Int) (H:Hp) (Q:VK) (E:XK):jS  [.ref p,.ref q,.int d] H Q E=(js  p q d H Q E):=qN (f:=λ (p:Addr) (q:Addr) (d:Int)=>[.ref p,.ref q,.int d]) (λ _ _ _ _ _ _ h=>by cases h;exact⟨rfl,rfl,rfl⟩) p q d
theorem qm  {vs:List V}{H:Hp}{Q:VK}{E:XK}(h:jS  vs H Q E):vs.length=3:=pE h λ _ _ _=>rfl
theorem iU(T:Tx K mg t):bP P w K mg base CX0 1 t.a_divides_all t.d_divides_all ["terms", "case", "number"] jS:=by
 refine T.F_divides_all.ok kK (λ vs H Q E h=>qm h) (λ c A o s H vs Q E hr h=>?_)
 ·obtain⟨p,q,d,rfl,zs,cs,⟨ys,hp,al⟩,⟨xs,hq,bl⟩,ht,hc,hd,k⟩:=h;refine⟨_,%[%[%[all,(ik rfl),%[%[(["term", "bounds", "terms", "case", "number"]),(2),(aH (ae cv) ["terms", "case", "number"] rfl rfl nofun),rfl,(@rM _ _ _ _ _ _ _ _ _ ∅ T.z_zip %[%[0|0],%[%[1|0]|1]|1] ∅ ∅),(λ C s₀ H₀ ex pn=>(%[(2),rfl,%[%[(0),_,(show List.Nodup (["term", "bounds", "terms", "case", "number"]:List Str) from by decide +kernel),rfl,(Or.inl rfl),%[0|7]|20],%[%[(1),_,(show List.Nodup (["term", "bounds", "terms", "case", "number"]:List Str) from by decide +kernel),rfl,(Or.inl rfl),%[0|7]|20],(@aK _),∅|19],∅|19],∅,∅|27].mono λ _ _ _ _ h=>bN h)),(λ C s₀ H₀ ex pn=>(@jD _ _ _ %[dk,%[az,%[1|0],%[0|2],(λ _ _=>rfl)|11],%[az,%[1|0],%[0|2],(λ _ _=>rfl)|11],(af _)|15])),(λ C s₀ H₀ ex pn=>%[(bt hr.units),%[aO,%[az,%[0|0],%[0|2],(λ _ _=>rfl)|11],%[4|0]|9],%[0|2],(af _)|25]),(by intros;rfl)|26]|1]|6]|13]|12],?_⟩;rw [show aJ ["terms", "case", "number"] [.ref p,.ref q,.int d]=[some (.ref p),some (.ref q),some (.int d)] from rfl];have hd0:0 < d:=by omega
  exists k;ac_rfl;have wk:=mQ (R1:=trP) (R2:=axP) (λ _ _ _ _ h e=>h.ext e) (λ _ _ _ _ h e=>h.ext e) hp hq al bl;refine bH (zs.zip cs) (λ z=>decide (z.2.1 < z.2.2)) (λ z=>.bl (decide (z.1.1 % d=0))) (EW trP axP) wk.1 wk.2 (aj (by have:=ht.len;rw [Ll];omega)) ?_ ?_
  ·intro D z y H' N1 N0 hz hD e ⟨u,q1,q2,hu,hu2,⟨r1,h1,h1'⟩,⟨r2,h2,h2'⟩⟩ k1 k0;subst hu h1 h2
   by_cases hlt:z.2.1 < z.2.2
   ·have k1':N1 (.bl (decide (z.1.1 % d=0))) H':=k1 (JZ hlt) H' (Ext.refl _);clear k1 k0 k;simp! only [↓cz,↓aV]
   ·have k0':N0 H':=k0 (JW hlt) H' (Ext.refl _);clear k1 k0 k;simp! only [↓cz,↓aV]
  ·intro D H' hD e hD';have hbl:(((zs.zip cs).filter λ z=>decide (z.2.1 < z.2.2)).map λ z=>V.bl (decide (z.1.1 % d=0)))=((bX zs cs).map λ n=>decide (n % d=0)).map V.bl:=by unfold bX;rw [map_map,map_map];rfl
   rw [hbl] at hD'
   have hall:((bX zs cs).map λ n=>decide (n % d=0)).all id=true ↔ ∀ n∈bX zs cs,d ∣ n:=by
    rw [List.all_map,LR];exact⟨λ h n hn=>Int.dvd_of_emod_eq_zero (LJ (h n hn)),λ h n hn=>JZ (Int.emod_eq_zero_of_dvd (h n hn))⟩
   generalize (bX zs cs).map (λ n=>decide (n % d=0))=bs at *;have k':=k () (bs.all id) H' e hall;clear k wk hbl hall;ac_rfl
def xY(H:Hp)(zs:List Tm3)(g:Int)(cs:List (Int × Int))(x:V):Prop:=∃ p xs,x=.ref p/\H p=some (.tup xs)/\((xs=[.str "low"]/\g < iP zs cs)\/(xs=[.str "high"]/\nX zs cs < g)\/∃ d:Int,xs=[.str "rest",.int d]/\2<=d/\(∀ n∈bX zs cs,d ∣ n)/\(g - iP zs cs) % d ≠ 0)
abbrev jr  (p:Addr) (g:Int) (q:Addr) (x:V) (H:Hp) (Q:VK) (E:XK):Prop:=∃ (zs:List Tm3) (cs:List (Int × Int)),gv H p zs/\dP H q cs/\cG zs/\fD zs cs/\ThV H x/\∀ (b:Bool) (H':Hp),Ext H H'->(b=true ↔ xY H zs g cs x)->Q (.bl b) H'
def jR  : Sp:=λ vs H Q E=>∃ (p:Addr) (g:Int) (q:Addr) (x:V),vs=[.ref p,.int g,.ref q,x]/\(jr  p g q x H Q E)
theorem qC  (p:Addr) (g:Int) (q:Addr) (x:V) (H:Hp) (Q:VK) (E:XK):jR  [.ref p,.int g,.ref q,x] H Q E=(jr  p g q x H Q E):=BL (f:=λ (p:Addr) (g:Int) (q:Addr) (x:V)=>[.ref p,.int g,.ref q,x]) (λ _ _ _ _ _ _ _ _ h=>by cases h;exact⟨rfl,rfl,rfl,rfl⟩) p g q x
theorem ql  {vs:List V}{H:Hp}{Q:VK}{E:XK}(h:jR  vs H Q E):vs.length=4:=BM h λ _ _ _ _=>rfl
theorem nj{H:Hp}{p:Addr}{xs:List V}{wd:Str}{m:Int}(hp:H p=some (.tup xs)):qQ H (.ref p) wd m=gu xs wd m:=by
 show (match H p with|some (.tup xs)=>gu xs wd m|_=>false)=_
 rw [hp]
theorem fR(T:Tx K mg t):bP P w K mg base CX0 3 t.a_ends_by t.d_ends_by ["terms", "goal", "case", "step"] jR:=by
 have G_least_sum:=%[me|49];have G_greatest_sum:=%[iK|49];have G_is_step:=%[jd|49];have G_divides_all:=%[iU|49];refine T.F_ends_by.ok lL (λ vs H Q E h=>ql h) (λ c A o s H vs Q E hr h=>?_)
 ·obtain⟨p,g,q,x,rfl,zs,cs,hp,hq,ht,hc,hx,k⟩:=h;refine⟨_,%[%[4,lL,%[least_sum,%[%[0|0],%[%[2|0]|1]|1]|3]|4],%[%[%[%[is_step,%[%[3|0],%[(@av _ _ _ _),%[%[0|2]|1]|1]|1]|3],(by intros;rfl)|22],%[%[%[dm,%[4|0],%[1|0],(af _)|25]|13]|12],(@ai _)|16],%[%[%[%[is_step,%[%[3|0],%[(@av _ _ _ _),%[%[0|2]|1]|1]|1]|3],(by intros;rfl)|22],%[%[%[dk,%[greatest_sum,%[%[0|0],%[%[2|0]|1]|1]|3],%[1|0],(af _)|25]|13]|12],(@ai _)|16],%[%[(PW.pt %[%[%[is_step,%[%[3|0],%[(@av _ _ _ _),%[%[0|2]|1]|1]|1]|3],(by intros;rfl)|22],%[%[Cg,%[az,%[3|0],%[0|2],(λ _ _=>rfl)|11],%[0|2],(af _)|15]|39]|33]),%[%[%[%[divides_all,%[%[0|0],%[%[2|0],%[%[az,%[3|0],%[0|2],(λ _ _=>rfl)|11]|1]|1]|1]|3],%[%[(df hr.units),%[aO,%[aN,%[1|0],%[4|0]|9],%[az,%[3|0],%[0|2],(λ _ _=>rfl)|11]|9],%[0|2],(af _)|25]|38]|30]|13]|12],(@ai _)|16],%[%[(@bD _ _ _ _)|13]|12]|10]|10]|10]|10],?_⟩;rw [show aJ ["terms", "goal", "case", "step", "least"] [.ref p,.int g,.ref q,x]=[some (.ref p),some (.int g),some (.ref q),some (x),none] from rfl];clear G_least_sum G_greatest_sum G_is_step G_divides_all;exists k;have n1:(Str.ofString "low") ≠ Str.ofString "high":=by decide +kernel
  have n2:(Str.ofString "low") ≠ Str.ofString "rest":=by decide +kernel
  have n3:(Str.ofString "high") ≠ Str.ofString "rest":=by decide +kernel
  exists n1;exists n2;exists n3;ac_rfl;rw [xS];refine⟨zs,cs,hp,hq,ht,hc,λ H1 e1=>?_⟩;ac_rfl;rw [eL];refine⟨hx.ext e1,by decide,λ H2 e2=>?_⟩;rw [j0 hx e1];have e02:=e1.trans e2
  cases s1:qQ H x (Str.ofString "low") 0 with
  | true=>
   obtain⟨pp,xs,rfl,hpp,hxs⟩:=gB s1;have hxe:=jA.mp hxs;subst hxe
   have k':=λ (_:Unit)=>k () (decide (g < iP zs cs)) H2 e02 (by
    rw [KH];constructor
    ·intro h;exact⟨pp,_,rfl,hpp,.inl ⟨rfl,h⟩⟩
    ·rintro ⟨p',xs',e,hp',h⟩;cases e;rw [hpp] at hp';cases hp'
     rcases h with ⟨_,h⟩|⟨e,_⟩|⟨d,e,_⟩
     ·exact h
     ·exact absurd (by injection e with e _;injection e) (n1 ())
     ·cases e)
   have k2:=k' ();clear k k' s1 hxs hx;ac_rfl
  | false=>
   ac_rfl;rw [eL];refine⟨hx.ext e02,by decide,λ H3 e3=>?_⟩;rw [j0 hx e02];have e03:=e02.trans e3
   cases s2:qQ H x (Str.ofString "high") 0 with
   | true=>
    obtain⟨pp,xs,rfl,hpp,hxs⟩:=gB s2;have hxe:=jA.mp hxs;subst hxe;clear s1 s2 hxs;ac_rfl;rw [xU];refine⟨zs,cs,bY hp e03,br hq e03,ht,hc,λ H4 e4=>?_⟩
    have k2:=k () (decide (nX zs cs < g)) H4 (e03.trans e4) (by
     rw [KH];constructor
     ·intro h;exact⟨pp,_,rfl,hpp,.inr (.inl ⟨rfl,h⟩)⟩
     ·rintro ⟨p',xs',e,hp',h⟩;cases e;rw [hpp] at hp';cases hp'
      rcases h with ⟨e,_⟩|⟨_,h⟩|⟨d,e,_⟩
      ·exact absurd (by injection e with e _;injection e with e;exact e.symm) (n1 ())
      ·exact h
      ·cases e)
    clear k hx;ac_rfl
   | false=>
    ac_rfl;rw [eL];refine⟨hx.ext e03,by decide,λ H4 e4=>?_⟩;rw [j0 hx e03];have e04:=e03.trans e4
    have no12:∀ {H':Prop},xY H zs g cs x->(∀ p d,x=.ref p->H p=some (.tup [.str "rest",.int d])->2<=d->(∀ n∈bX zs cs,d ∣ n)->(g - iP zs cs) % d ≠ 0->H')->H':=λ ⟨p',xs',e,hp',h⟩ hk=>by
     subst e
     rcases h with ⟨e,_⟩|⟨e,_⟩|⟨d,e,h1,h2,h3⟩
     ·subst e;rw [nj hp',jA.mpr rfl] at s1;cases s1
     ·subst e;rw [nj hp',jA.mpr rfl] at s2;cases s2
     ·subst e;exact hk p' d rfl hp' h1 h2 h3
    replace no12:=λ (_:Unit)=>@no12;clear s1 s2
    cases s3:qQ H x (Str.ofString "rest") 1 with
    | false=>
     have k2:=k () false H4 e04 ⟨(λ h=>by cases h),λ h=>no12 () h λ p' d e hp' _ _ _=>by
      subst e;rw [nj hp',oE.mpr ⟨d,rfl⟩] at s3;cases s3⟩
     clear k no12 hx s3;ac_rfl
    | true=>
     obtain⟨pp,xs,rfl,hpp,hxs⟩:=gB s3;obtain⟨d,rfl⟩:=oE.mp hxs;have hpp4:=e04.at hpp
     have kb:∀ b:Bool,(b=true ↔ 2<=d/\(∀ n∈bX zs cs,d ∣ n)/\(g - iP zs cs) % d ≠ 0)->(b=true ↔ xY H zs g cs (.ref pp)):=λ b hb=>by
      rw [hb];constructor
      ·rintro ⟨h1,h2,h3⟩;exact⟨pp,_,rfl,hpp,.inr (.inr ⟨d,rfl,h1,h2,h3⟩)⟩
      ·intro h;refine no12 () h λ p' d' e hp' h1 h2 h3=>?_;cases e;rw [hpp] at hp';cases hp';exact⟨h1,h2,h3⟩
     exists kb;clear s3 hxs no12
     by_cases hd:2<=d
     ·ac_rfl;rw [qD];refine⟨zs,cs,bY hp e04,br hq e04,ht,hc,hd,λ b5 H5 e5 hb5=>?_⟩;have hpp5:=e5.at hpp4;have hd0:0 < d:=by omega
      cases b5 with
      | false=>
       have k2:=k () false H5 (e04.trans e5) (kb () false ⟨(λ h=>by cases h),λ h=>absurd (hb5.mpr h.2.1) ⋯⟩);clear k kb hb5 hx hpp4;ac_rfl
      | true=>
       by_cases hr0:(g - iP zs cs) % d=0
       ·have k2:=k () false H5 (e04.trans e5) (kb () false ⟨(λ h=>by cases h),λ h=>absurd hr0 h.2.2⟩);clear k kb hb5 hx hpp4;ac_rfl
       ·have k2:=k () true H5 (e04.trans e5) (kb () true ⟨λ _=>⟨hd,hb5.mp rfl,hr0⟩,λ _=>rfl⟩);clear k kb hb5 hx hpp4;ac_rfl
     ·have k2:=k () false H4 e04 (kb () false ⟨(λ h=>by cases h),λ h=>absurd h.1 hd⟩);clear k kb hx;ac_rfl
theorem b0{n:Nat}(h:n<=100000):n<=sizeLine:=JT h ⋯
def CsV(H:Hp)(cA pA:Addr)(c:Bx)(y:V):Prop:=∃ a,y=.ref a/\a ≠ cA/\a ≠ pA/\dP H a c
def cH(H:Hp)(cA pA:Addr):List Bx->List V->Prop
 | [],cl=>cl=[]
 | c::st,cl=>∃ cl0 y,cl=cl0++[y]/\CsV H cA pA c y/\cH H cA pA st cl0
theorem CsV.ext{H H':Hp}{cA pA:Addr}{c:Bx}{y:V}(h:CsV H cA pA c y)(e:Ext H H'):CsV H' cA pA c y:=by
 obtain⟨a,h1,h2,h3,h4⟩:=h;exact⟨a,h1,h2,h3,br h4 e⟩
theorem cH.ext{H H':Hp}{cA pA:Addr}(e:Ext H H'):∀ {st:List Bx}{cl:List V},cH H cA pA st cl->cH H' cA pA st cl
 | [],_,h=>h
 | _::_,_,⟨cl0,y,h1,h2,h3⟩=>⟨cl0,y,h1,h2.ext e,cH.ext e h3⟩
theorem CsV.upd{H:Hp}{cA pA b:Addr}{c:Bx}{y:V}{xs:List V}{o:HO}(h:CsV H cA pA c y)(hb:H b=some (.lst xs))(hb2:b=cA\/b=pA):CsV (upd H b o) cA pA c y:=by
 obtain⟨a,h1,h2,h3,ys,h4,al⟩:=h
 have hne:a ≠ b:=λ e=>by
  rcases hb2 with q|q
  ·exact h2 (e.trans q)
  ·exact h3 (e.trans q)
 exact⟨a,h1,h2,h3,ys,by rw [ah hne];exact h4,al.imp λ _ _ t=>axP.upd t hb⟩
theorem cH.upd{H:Hp}{cA pA b:Addr}{xs:List V}{o:HO}(hb:H b=some (.lst xs))(hb2:b=cA\/b=pA):∀ {st:List Bx}{cl:List V},cH H cA pA st cl->cH (upd H b o) cA pA st cl
 | [],_,h=>h
 | _::_,_,⟨cl0,y,h1,h2,h3⟩=>⟨cl0,y,h1,h2.upd hb hb2,cH.upd hb hb2 h3⟩
theorem cH.len{H:Hp}{cA pA:Addr}:∀ {st:List Bx}{cl:List V},cH H cA pA st cl->cl.length=st.length
 | [],_,h=>by have h':_=[]:=h;rw [h'];rfl
 | _::_,_,⟨cl0,y,h1,_,h3⟩=>by rw [h1,JA,cH.len h3];rfl
theorem j1{zs:List Tm3}(h:cG zs):fD zs (zs.map λ z=>z.2):=by
 refine fD.of (by rw [JP]) λ i hi=>?_
 have e:(zs.map λ z=>z.2).getD i default=(zs.getD i default).2:=by
  rw [JY,JY,J4,Jy hi];rfl
 have hm:zs.getD i default=zs[i]:=by rw [JY,Jy hi];rfl
 rw [e,hm];have:=(h.all _ (KR hi)).2.2.1;exact⟨K1 _,by omega,K1 _⟩
def iQ(H:Hp)(zs:List Tm3)(g:Int)(c:Bx)(x:V)(o:Option (List Bx)):Prop:=(∃ (p:Addr) (k:Nat) (a:Int),x=.ref p/\H p=some (.tup [.str "part",.int (k:Int),.int a])/\k < c.length/\(c.getD k default).1<=a/\a < (c.getD k default).2/\o=some [loC c k a,upC c k a])\/(¬ mL H c x/\xY H zs g c x/\o=some [])\/(¬ mL H c x/\¬ xY H zs g c x/\o=none)
theorem iQ.uniq{H:Hp}{zs:List Tm3}{g:Int}{c:Bx}{x:V}{o o':Option (List Bx)}(h:iQ H zs g c x o)(h':iQ H zs g c x o'):o=o':=by
 rcases h with ⟨p,k,a,rfl,hp,b1,b2,b3,rfl⟩|⟨n1,e1,rfl⟩|⟨n1,n2,rfl⟩
 ·rcases h' with ⟨p',k',a',e,hp',_,_,_,rfl⟩|⟨m1,_⟩|⟨m1,_⟩
  ·cases e;rw [hp] at hp';have h2:=HO.tup.inj (JU hp')
   have e1:(k:Int)=(k':Int):=by injection h2 with _ h2;injection h2 with h2 _;injection h2
   have e2:a=a':=by injection h2 with _ h2;injection h2 with _ h2;injection h2 with h2 _;injection h2
   have e3:k=k':=by omega
   rw [e2,e3]
  ·exact absurd ⟨p,k,a,rfl,hp,b1,b2,b3⟩ m1
  ·exact absurd ⟨p,k,a,rfl,hp,b1,b2,b3⟩ m1
 ·rcases h' with ⟨p',k',a',e,hp',b1,b2,b3,rfl⟩|⟨_,_,rfl⟩|⟨_,m2,_⟩
  ·exact absurd ⟨p',k',a',e,hp',b1,b2,b3⟩ n1
  ·rfl
  ·exact absurd e1 m2
 ·rcases h' with ⟨p',k',a',e,hp',b1,b2,b3,rfl⟩|⟨_,m2,_⟩|⟨_,_,rfl⟩
  ·exact absurd ⟨p',k',a',e,hp',b1,b2,b3⟩ n1
  ·exact absurd m2 n2
  ·rfl
def bJ(H:Hp)(zs:List Tm3)(g:Int):List V->List Bx->Option (List Bx)->Prop
 | [],st,o=>o=some st
 | _::_,[],o=>o=none
 | x::xs,c::st,o=>∃ m,iQ H zs g c x m/\match m with
  | none=>o=none
  | some more=>bJ H zs g xs (more++st) o
theorem bJ.uniq{H:Hp}{zs:List Tm3}{g:Int}:∀ {xs:List V}{st:List Bx}{o o':Option (List Bx)},bJ H zs g xs st o->bJ H zs g xs st o'->o=o'
 | [],[],_,_,h,h'=>h.trans h'.symm
 | [],_::_,_,_,h,h'=>h.trans h'.symm
 | _::_,[],_,_,h,h'=>h.trans h'.symm
 | x::xs,c::st,o,o',⟨m,h1,h2⟩,⟨m',h1',h2'⟩=>by
  have e:=h1.uniq h1';subst e
  cases m with
  | none=>exact Eq.trans h2 (Eq.symm h2')
  | some more=>exact bJ.uniq (xs:=xs) h2 h2'
theorem ThV.at{H H':Hp}{p:Addr}(h:ThV H (.ref p))(e:Ext H H'):H' p=H p:=by
 rcases h with h|⟨i,h⟩|⟨z,h⟩|⟨q,xs,h,hp⟩|⟨q,xs,h,hp,_⟩
 ·cases h
 ·cases h
 ·cases h
 ·cases h;rw [hp,e.at hp]
 ·cases h;rw [hp,e.at hp]
theorem hU{H H':Hp}{c:Bx}{x:V}(h:ThV H x)(e:Ext H H'):mL H' c x ↔ mL H c x:=by
 constructor
 ·rintro ⟨p,k,a,rfl,hp,r⟩;exact⟨p,k,a,rfl,by rw [←h.at e];exact hp,r⟩
 ·rintro ⟨p,k,a,rfl,hp,r⟩;exact⟨p,k,a,rfl,by rw [h.at e];exact hp,r⟩
theorem j6{H H':Hp}{zs:List Tm3}{g:Int}{c:Bx}{x:V}(h:ThV H x)(e:Ext H H'):xY H' zs g c x ↔ xY H zs g c x:=by
 constructor
 ·rintro ⟨p,xs,rfl,hp,r⟩;exact⟨p,xs,rfl,by rw [←h.at e];exact hp,r⟩
 ·rintro ⟨p,xs,rfl,hp,r⟩;exact⟨p,xs,rfl,by rw [h.at e];exact hp,r⟩
abbrev iI(C:Addr)(u:Addr)(v:Addr)(x:Addr)(H:Hp)(Q:VK)(E:XK):Prop:=∃ (room f1 f2:Int) (A B:List (Int × Int)) (ts:List V),aB C H u room f1 A/\aB C H v room f2 B/\fE A/\fE B/\H x=some (.lst ts)/\ts.length<=5000/\(∀ y∈ts,ThV H y)/\(∀ ks,kO ks (aC A B)->cG (aG ks (aC A B)))/\∀ (ks:List Int) (b:Bool) (H':Hp),Ext H H'->kO ks (aC A B)->(b=true ↔ bJ H (aG ks (aC A B)) (f2 - f1) ts [(aG ks (aC A B)).map λ z=>z.2] (some []))->Q (.bl b) H'
def gY(C:Addr):Sp:=λ vs H Q E=>∃ (u:Addr) (v:Addr) (x:Addr),vs=[.ref u,.ref v,.ref x]/\(iI C u v x H Q E)
theorem dz(C:Addr)(u:Addr)(v:Addr)(x:Addr)(H:Hp)(Q:VK)(E:XK):gY C [.ref u,.ref v,.ref x] H Q E=(iI C u v x H Q E):=qN (f:=λ (u:Addr) (v:Addr) (x:Addr)=>[.ref u,.ref v,.ref x]) (λ _ _ _ _ _ _ h=>by cases h;exact⟨rfl,rfl,rfl⟩) u v x
theorem nL(C:Addr){vs:List V}{H:Hp}{Q:VK}{E:XK}(h:gY C vs H Q E):vs.length=3:=pE h λ _ _ _=>rfl
theorem iu(T:Tx K mg t):bP P w K mg base CX0 5 t.a_is_apart t.d_is_apart ["one", "other", "paper"] (gY t.a_View):=by
 have G_gathered:=%[iw|49];have G_first_case:=%[dD|49];have G_parts_by:=%[eZ|49];have G_ends_by:=%[fR|49];have G_parted:=%[ia|49];refine T.F_is_apart.ok aE (λ vs H Q E h=>nL _ h) (λ cdv A' outer s H vs Q E hr h=>?_)
 ·obtain⟨u,v,x,rfl,room,f1,f2,A,B,ts,vu,vv,hA,hB,hx,hpl,hth,htm,k⟩:=h;refine⟨_,%[%[3,aE,%[gathered,%[%[0|0],%[%[1|0]|1]|1]|3]|4],%[%[%[%[%[isinstance,bp,%[%[2|0],%[%[(.ty "list"),(.type "list"),_,∅,T.z_list,nofun,rfl,⋯,⋯|34]|1]|1]|6],(by intros;rfl)|22]|24],%[%[(@bD _ _ _ _)|13]|12],(@ai _)|16],%[%[4,aE,%[%[%[first_case,%[%[az,%[3|0],%[0|2],(λ _ _=>rfl)|11]|1]|3]|1]|18]|4],%[%[J9,rfl,%[%[2|0]|23],%[5,aE|5],%[%[%[(bt hr.units),%[len,ao,%[%[4|0]|1]|6],%[0|2],(af _)|15],%[%[(@bD _ _ _ _)|13]|12],(@ai _)|16],%[%[6,aE,%[JJ,KZ,KY,kZ,%[4|0],∅,∅|46]|4],%[%[%[%[parts_by,%[%[6|0],%[%[5|0]|1]|1]|3],(by intros;rfl)|22],%[%[%[JJ,Lf,Le,fw,%[4|0],%[%[parted,%[%[6|0],%[%[az,%[5|0],%[0|2],(λ _ _=>rfl)|11],%[%[az,%[5|0],%[0|2],(λ _ _=>rfl)|11]|1]|1]|1]|3]|1],∅,∅,∅,∅,∅|40],∅|31]|12],%[%[%[%[%[ends_by,%[%[az,%[3|0],%[0|2],(λ _ _=>rfl)|11],%[%[az,%[3|0],%[0|2],(λ _ _=>rfl)|11],%[%[6|0],%[%[5|0]|1]|1]|1]|1]|3],(by intros;rfl)|22]|24],%[%[(@bD _ _ _ _)|13]|12],(@ai _)|16]|12]|16]|12]|10]|10],(by intros;rfl)|35],%[%[%[(bt hr.units),%[len,ao,%[%[4|0]|1]|6],%[0|2],(af _)|25]|13]|12]|10]|10]|10]|10],?_⟩;rw [show aJ ["one", "other", "paper", "found", "cases", "step", "case"] [.ref u,.ref v,.ref x]=[some (.ref u),some (.ref v),some (.ref x),none,none,none,none] from rfl];clear G_gathered G_first_case G_parts_by G_ends_by G_parted;exists k;exists htm;exists hth;ac_rfl;rw [o8];refine⟨room,f1,f2,A,B,vu,vv,hA,hB,λ ks l r0 H1 e1 hr1 t1 ko=>?_⟩;have ht:=htm () ks ko;have k1:=λ (_:Unit)=>λ b H' e=>k () ks b H' e ko;generalize aG ks (aC A B)=zs at *;generalize f2 - f1=g at *;have h17:=ht.len;have hx1:=e1.at hx;clear k htm ko;ac_rfl;rw [qB];refine⟨zs,t1,h17,λ c0 H2 e2 p2=>?_⟩;ac_rfl;intro cA H3 hcA e3 h3;have ncA:c0 ≠ cA:=λ z=>by obtain⟨_,hh,_⟩:=p2;rw [z,hcA] at hh;cases hh
  have hcA1:H1 cA=none:=e2.free hcA;have st3:cH H3 cA cA [zs.map λ z=>z.2] [.ref c0]:=⟨[],.ref c0,rfl,⟨c0,rfl,ncA,ncA,br p2 e3⟩,rfl⟩;have e13:=e2.trans e3;have hx3:=e13.at hx1;exists st3;clear hcA p2 e2 e3;ac_rfl;refine eS (xs:=ts) (λ i σ H'=>∃ (st:List Bx) (cl:List V) (v5 v6:Option V),σ=[some (.ref u),some (.ref v),some (.ref x),some (.ref r0),some (.ref cA),v5,v6]/\Ext H1 H'/\H' cA=some (.lst cl)/\cH H' cA cA st cl/\(∀ c∈st,fD zs c)/\st.length<=i+1/\∀ o,bJ H zs g (ts.drop i) st o->bJ H zs g ts [zs.map λ z=>z.2] o) ⟨[zs.map λ z=>z.2],_,none,none,rfl,e13,h3,st3 (),(λ c hc=>by rw [JD.mp hc];exact j1 ht),JB _,λ o h=>by rw [L9] at h;exact h⟩ (λ i σ H' _ ⟨_,_,_,_,_,e,_⟩=>e.at hx1) ?_ ?_
  ·clear st3 h3 hx3 e13;rintro i y _ H5 hi ⟨st,cl,v5,v6,rfl,e5,h5,stk,hok,hsl,hsuf⟩;have hit:i < ts.length:=(JC.mp hi).1;have hy:ts[i]=y:=(JC.mp hi).2;have hthy:=hth () y (by rw [←hy];exact KR hit);rw [List.drop_eq_getElem_cons hit,hy] at hsuf;have e05:=e1.trans e5;have hthy5:=hthy.ext e05;exists hsuf;exists hok;clear hi hy;have noB:bJ H zs g ts [zs.map λ z=>z.2] none->(false=true ↔ bJ H zs g ts [zs.map λ z=>z.2] (some [])):=λ h=>⟨(λ q=>by cases q),λ h'=>by have:=h.uniq h';cases this⟩;exists noB
   cases st with
   | nil=>
    have hcl:cl=[]:=stk;subst hcl;have k2:=k1 () false H5 e05 (noB () (hsuf () none rfl));clear k1 hsuf hok noB stk;simp! only [↓aQ]
   | cons c st=>
    have hc:=hok () c JI;obtain⟨cl0,y',rfl,hcy,stk'⟩:=stk;obtain⟨a,rfl,nac,_,pa⟩:=hcy;have hcl0:=stk'.len;rw [JS] at hsl;have hcl1:cl0.length<=60000:=by omega
    obtain⟨cl,hcl⟩:∃ cl,cl0++[V.ref a]=cl:=⟨_,rfl⟩;have hlen:¬ (cl.length:Int)=0:=by rw [←hcl,JA,JH];omega
    have hlen2:0 < (cl.length:Int):=by omega
    have hlast:cl[cl.length - 1]? = some (.ref a):=by rw [←hcl,JA,JH,Mf,JX (JB _),Mr];rfl
    have hdrop:cl.dropLast=cl0:=by rw [←hcl,L8]
    rw [hcl] at h5;have h7c:upd H5 cA (.lst cl0) cA=some (.lst cl0):=ag;have cs7:=CsV.upd (o:=.lst cl0) (c:=c) (y:=.ref a) ⟨a,rfl,nac,nac,pa⟩ h5 (.inl rfl);have st7:=cH.upd (o:=.lst cl0) h5 (.inl rfl) stk';have e17:Ext H1 (upd H5 cA (.lst cl0)):=e5.put hcA1;have hr7:=e17.at hr1;exists hcl;exists hcl0;exists st7;clear pa stk';simp! only [↓aQ];generalize upd H5 cA (.lst cl0)=H7 at *;clear h5 hlen hlen2 hlast hdrop hcl e5 hthy5 e05;obtain⟨_,ha',_,_,pa7⟩:=cs7;cases ha';have e07:=e1.trans e17;rw [nP];refine⟨c,pa7,by have:=hc.len;omega,hthy.ext e07,λ b8 H8 e8 hb8=>?_⟩;rw [hU hthy e07] at hb8;have e18:=e17.trans e8;have h8c:=e8.at h7c;have st8:=λ (_:Unit)=>(st7 ()).ext e8;have pa8:=br pa7 e8;have hr8:=e8.at hr7;clear h7c st7 pa7 hr7
    cases b8 with
    | true=>
     obtain⟨pp,m,b,rfl,hpp,hm,hb1,hb2⟩:=hb8.mp rfl;have hpp8:=(e1.trans e18).at hpp;have hbeh:iQ H zs g c (.ref pp) (some [loC c m b,upC c m b]):=.inl ⟨pp,m,b,rfl,hpp,hm,hb1,hb2,rfl⟩;have hmz:m < zs.length:=by rw [←hc.len];exact hm
     obtain⟨o1,o2⟩:=hc.part hmz hb1 hb2;have hc17:c.length<=17:=by have:=hc.len;omega
     exists hbeh;clear hb8;ac_rfl;rw [qz];refine⟨c,m,rfl,pa8,hm,hc17,λ r10 a1 a2 H10 n1 n2 e10 h10 p1 p2=>?_⟩;have e110:=e18.trans e10;have h10c:=e10.at h8c;have st10:=(st8 ()).ext e10;have m1c:a1 ≠ cA:=λ z=>by rw [z,h8c] at n1;cases n1
     have m2c:a2 ≠ cA:=λ z=>by rw [z,h8c] at n2;cases n2
     have stN:cH H10 cA cA (loC c m b::upC c m b::st) (cl0++[.ref a1,.ref a2]):=⟨cl0++[.ref a1],.ref a2,by rw [KC];rfl,⟨a2,rfl,m2c,m2c,p2⟩,cl0,.ref a1,rfl,⟨a1,rfl,m1c,m1c,p1⟩,st10⟩;have stM:=cH.upd (o:=.lst (cl0++[.ref a1,.ref a2])) h10c (.inl rfl) stN;have e111:Ext H1 (upd H10 cA (.lst (cl0++[.ref a1,.ref a2]))):=e110.put hcA1;have hext:cl0.length+2<=sizeLine:=b0 %[0|8];exists stM;clear h8c st8 pa8 hpp8 hr8 n1 n2 st10 stN p1 p2;ac_rfl;refine⟨loC c m b::upC c m b::st,_,_,_,rfl,e111,(by first|rfl|exact ag),stM (),λ d hd=>?_,by rw [JS,JS];omega,λ o h=>hsuf () o ⟨_,hbeh (),h⟩⟩
     rcases J2.mp hd with rfl|hd
     ·exact o2
     ·rcases J2.mp hd with rfl|hd
      ·exact o1
      ·exact hok () d (JG _ hd)
    | false=>
     have hnp:¬ mL H c y:=λ h=>by have:=hb8.mpr h;cases this
     clear hb8;ac_rfl;rw [qC];refine⟨zs,c,bY t1 e18,pa8,ht,hc,hthy.ext (e1.trans e18),λ b9 H9 e9 hb9=>?_⟩;rw [j6 hthy (e1.trans e18)] at hb9;have h9c:=e9.at h8c;have st9:=(st8 ()).ext e9;have e19:=e18.trans e9;exists st9;clear h8c st8 pa8 hr8
     cases b9 with
     | true=>
      have hbeh:iQ H zs g c y (some []):=.inr (.inl ⟨hnp,hb9.mp rfl,rfl⟩);exists hbeh;clear hb9 hnp;ac_rfl;exact⟨st,_,_,_,rfl,e19,(by first|rfl|exact h9c),st9 (),(λ d hd=>hok () d (JG _ hd)),by omega,λ o h=>hsuf () o ⟨_,hbeh (),h⟩⟩
     | false=>
      have hbeh:iQ H zs g c y none:=.inr (.inr ⟨hnp,(λ h=>by have:=hb9.mpr h;cases this),rfl⟩);have k2:=k1 () false H9 (e1.trans e19) (noB () (hsuf () none ⟨_,hbeh,rfl⟩));clear k1 hsuf hok noB hb9 hnp hbeh;ac_rfl
  ·rintro _ H5 ⟨st,cl,v5,v6,rfl,e5,h5,stk,hok,hsl,hsuf⟩;rw [List.drop_length] at hsuf;have hfin:=hsuf (some st) (by cases st<;>rfl);have hcl:=stk.len
   have k2:=k1 () (decide ((cl.length:Int)=0)) H5 (e1.trans e5) (by
    rw [KH];constructor
    ·intro h;have:st=[]:=Km.mp %[0|8];rw [this] at hfin;exact hfin
    ·intro h;have e:=JU (hfin.uniq h);rw [e] at hcl;rw [hcl];rfl)
   clear k1 hsuf hok stk hfin hcl;ac_rfl
structure AxK(A:List (Int × Int)):Prop where
 len:A.length<=3
 sz:∀ a∈A,(1<=a.1/\a.1<=5)/\(-36<=a.2/\a.2<=36)
 prod:(A.foldr (λ a r=>a.1 * r) 1)<=24
theorem hJ:∀ (A:List (Int × Int)) (b:Int × Int),((A++[b]).foldr (λ a r=>a.1 * r) 1)=(A.foldr (λ a r=>a.1 * r) 1) * b.1
 | [],b=>by show b.1 * 1=1 * b.1;omega
 | a::A,b=>by
  show a.1 * ((A++[b]).foldr (λ a r=>a.1 * r) 1)=a.1 * (A.foldr (λ a r=>a.1 * r) 1) * b.1
  rw [hJ A b,Int.mul_assoc]
theorem lp:∀ {A:List (Int × Int)},(∀ a∈A,(1:Int)<=a.1)->1<=(A.foldr (λ a r=>a.1 * r) 1)
 | [],_=>K1 _
 | a::A,h=>by
  have ih:=lp (A:=A) λ b hb=>h b (JG _ hb);have:=Int.mul_le_mul (h a JI) ih ⋯ (by have:=h a JI;omega)
  show 1<=a.1 * _
  omega
abbrev l0(K:PySem.W.Frag)(a:Addr)(ns:List Int)(p:Addr)(i:Int)(f:Int)(H:Hp)(Q:VK)(E:XK):Prop:=p=a/\SqL K H a (ns.map V.int)/\ns.length<=63/\0<=i/\i<=60/\1<=f/\f<=6/\∀ (A:List (Int × Int)) (r:Addr) (H':Hp),Ext H H'->dP H' r A->AxK A->Q (.ref r) H'
def m5(K:W.Frag)(a:Addr)(ns:List Int):Sp:=λ vs H Q E=>∃ (p:Addr) (i:Int) (f:Int),vs=[.ref p,.int i,.int f]/\(l0 K a ns p i f H Q E)
theorem lK(K:W.Frag)(a:Addr)(ns:List Int)(p:Addr)(i:Int)(f:Int)(H:Hp)(Q:VK)(E:XK):m5 K a ns [.ref p,.int i,.int f] H Q E=(l0 K a ns p i f H Q E):=qN (f:=λ (p:Addr) (i:Int) (f:Int)=>[.ref p,.int i,.int f]) (λ _ _ _ _ _ _ h=>by cases h;exact⟨rfl,rfl,rfl⟩) p i f
theorem uA(K:W.Frag)(a:Addr)(ns:List Int){vs:List V}{H:Hp}{Q:VK}{E:XK}(h:m5 K a ns vs H Q E):vs.length=3:=pE h λ _ _ _=>rfl
theorem mq(T:Tx K mg t)(a:Addr)(ns:List Int):bP P w K mg base CX0 2 t.a__law_axes t.d__law_axes ["_law_script", "_law_at", "_law_factor"] (m5 K a ns):=by
 have G__law_draw:=%[cQ|49] a ns;refine T.F__law_axes.ok bo (λ vs H Q E h=>uA _ _ _ h) (λ c A o s H vs Q E hr h=>?_)
 ·obtain⟨_,i0,f,rfl,rfl,hS,hl,i1,i2,f1,f2,kk⟩:=h;rename_i a;refine⟨_,%[%[3,bo,%[(@bC _)|18]|4],%[%[4,bo,%[0|2]|4],%[%[J9,rfl,%[∅,T.z_range,%[%[_law_draw,%[%[0|0],%[%[1|0],%[%[0|2]|1]|1]|1]|3]|1],∅|41],%[5,bo|5],%[%[6,bo,%[_law_draw,%[%[0|0],%[%[aw,%[aw,%[1|0],%[0|2]|9],%[5|0]|9],%[%[kY,%[0|2],%[0|2]|9]|1]|1]|1]|3]|4],%[%[7,bo,%[aw,%[0|2],%[aO,%[6|0],%[0|2]|9]|9]|4],%[%[%[dm,%[cy,%[4|0],%[7|0]|9],%[0|2],(af _)|15],%[%[7,bo,%[0|2]|4]|12],(@ai _)|16],%[%[4,bo,%[cy,%[4|0],%[7|0]|9]|4],%[%[8,bo,%[cy,%[2|0],%[aN,%[aO,%[bQ,%[6|0],%[0|2]|9],%[0|2]|9],%[0|2]|9]|9]|4],%[%[%[(bt hr.units),%[aO,%[bQ,%[6|0],%[0|2]|9],%[0|2]|9],%[0|2],(af _)|15],%[%[8,bo,%[aN,%[aO,%[bQ,%[6|0],%[0|2]|9],%[0|2]|9],%[0|2]|9]|4]|12],(@ai _)|16],%[%[%[JJ,Ki,Kh,cn,%[3|0],%[%[%[%[7|0],%[%[8|0]|1]|1]|14]|1],∅,∅,∅,∅,∅|40],∅|31]|12]|10]|10]|10]|10]|10]|10],(by intros;rfl)|35],%[%[%[3|0]|13]|12]|10]|10]|10],?_⟩;rw [show aJ ["_law_script", "_law_at", "_law_factor", "_law_axes_here", "_law_count", "_law_k", "_law_cell", "_law_size", "_law_pace"] [.ref a,.int i0,.int f]=[some (.ref a),some (.int i0),some (.int f),none,none,none,none,none,none] from rfl];clear G__law_draw;exists kk;ac_rfl;intro r H1 hr1 e1 h1;have hS1:=e1.2 K a _ hS;have hr0:=hr1;clear hr1;ac_rfl;rw [aU];refine⟨hS1,hl,⟨by omega,by omega⟩,by decide,λ n n0 n1=>?_⟩;ac_rfl;refine⟨by omega,by omega,?_⟩;refine jH (λ j σ H'=>∃ (A:List (Int × Int)) (ys:List V) (v5 v6 v7 v8:Option V),σ=[some (.ref a),some (.int i0),some (.int f),some (.ref r),some (.int (A.foldr (λ a r=>a.1 * r) 1)),v5,v6,v7,v8]/\Ext H H'/\H' r=some (.lst ys)/\Al (λ z y=>axP z y H') A ys/\A.length=j/\(∀ a∈A,(1<=a.1/\a.1<=5)/\(-36<=a.2/\a.2<=36))/\(A.foldr (λ a r=>a.1 * r) 1)<=24) ⟨[],[],none,none,none,none,rfl,e1,h1,Al.nil,rfl,(λ a h=>by cases h),by decide⟩ ?_ ?_
  ·rintro j _ H2 hj ⟨A,ys,v5,v6,v7,v8,rfl,e2,h2,al,hAl,hsz,hpr⟩;have hj3:j < 3:=by have:j < n.toNat:=hj;omega
   have hS2:=e2.2 K a _ hS;have hyl:ys.length < sizeLine:=om (by rw [al.1,hAl];omega);have hp1:=lp λ a ha=>(hsz a ha).1.1;exists al;exists hsz;exists hAl;have x5:∀ x:Int,0<=x % 5/\x % 5 < 5:=λ x=>by omega
   have fpos:∀ y:Int,-6<=y->y<=6->-36<=f * y/\f * y<=36:=λ y y1 y2=>by
    have a1:=Ke y2 (show 0<=f by omega);have a2:=Ke y1 (show 0<=f by omega);omega
   have fin:∀ (sz pc:Int) (t6:Addr) (H6:Hp),Ext H2 H6->H6 t6=some (.tup [.int sz,.int pc])->t6 ≠ r->(1<=sz/\sz<=5)->(-36<=pc/\pc<=36)->(A.foldr (λ a r=>a.1 * r) 1) * sz<=24->∃ (A':List (Int × Int)) (ys':List V),A'=A++[(sz,pc)]/\ys'=ys++[.ref t6]/\Ext H (upd H6 r (.lst (ys++[.ref t6])))/\Al (λ z y=>axP z y (upd H6 r (.lst (ys++[.ref t6])))) A' ys'/\A'.length=j+1/\(∀ a∈A',(1<=a.1/\a.1<=5)/\(-36<=a.2/\a.2<=36))/\(A'.foldr (λ a r=>a.1 * r) 1)=(A.foldr (λ a r=>a.1 * r) 1) * sz/\(A'.foldr (λ a r=>a.1 * r) 1)<=24:=λ sz pc t6 H6 e6 h6 ntr s1 s2 s3=>by
    refine⟨_,_,rfl,rfl,(e2.trans e6).put hr0,?_,by rw [JA,hAl (),JH],λ b hb=>?_,hJ _ _,by rw [hJ];exact s3⟩
    ·refine nv ((al ()).imp λ _ _ t=>axP.upd (axP.ext t e6) (e6.at h2)) ⟨rfl,λ i z y hz hy=>?_⟩
     cases i with
     | zero=>simp at hz hy;subst hz;subst hy;exact⟨t6,rfl,by rw [ah ntr];exact h6⟩
     | succ i=>simp at hz
    ·rcases J1.mp hb with hb|hb
     ·exact hsz () b hb
     ·rw [JD.mp hb];exact⟨s1,s2⟩
   obtain⟨cnt,hcnt⟩:∃ cnt,(A.foldr (λ a r=>a.1 * r) 1)=cnt:=⟨_,rfl⟩;rw [hcnt] at hpr hp1 fin ⊢;exists fin;exists fpos;clear hj kk h1 hS1 hcnt;simp! only [↓aQ];rw [aU];refine⟨hS2,hl,⟨by omega,by omega⟩,by decide,λ x x0 x1=>?_⟩;have x5':=x5 x;have y13:-6<=x / 5 % 13 - 6/\x / 5 % 13 - 6<=6:=by omega
   have y41:-36<=x / 260 % 41 - 20/\x / 260 % 41 - 20<=36:=by omega
   have yf:=fpos () _ y13.1 y13.2;have cmf:jw f (x / 5 % 13 - 6):=.inl ⟨by omega,by omega⟩;have cm1:jw cnt (1+x % 5):=.inl ⟨by omega,by omega⟩;have cm2:jw cnt 1:=.inl ⟨by omega,by omega⟩;exists y41;exists yf;clear fpos x5 y13;have go:∀ (sz:Int),(sz=1+x % 5\/sz=1)->(1<=sz/\sz<=5):=λ sz h=>by omega
   exists go
   by_cases hb:24 < cnt * (1+x % 5)
   ·by_cases hq:x / 65 % 4=1
    ·ac_rfl;intro t6 H6 ht6 e6 h6;have h2_6:=e6.at h2;have ntr:t6 ≠ r:=λ z=>by rw [z,h2] at ht6;cases ht6
     obtain⟨A',ys',hA',hys',g1,g2,g3,g4,g5,g6⟩:=fin () (1) (x / 260 % 41 - 20) t6 H6 e6 h6 ntr (go () _ (.inr rfl)) (y41 ()) (by rw [Int.mul_one];exact hpr);rw [hys'] at g2;exists g4;exists g2;clear ht6 fin go hb hq yf y41 h2;ac_rfl;exact⟨A',ys++[.ref t6],_,_,_,_,by rw [g5],g1,by first|rfl|exact ag,g2 (),g3,g4 (),g6⟩
    ·ac_rfl;intro t6 H6 ht6 e6 h6;have h2_6:=e6.at h2;have ntr:t6 ≠ r:=λ z=>by rw [z,h2] at ht6;cases ht6
     obtain⟨A',ys',hA',hys',g1,g2,g3,g4,g5,g6⟩:=fin () (1) (f * (x / 5 % 13 - 6)) t6 H6 e6 h6 ntr (go () _ (.inr rfl)) (yf ()) (by rw [Int.mul_one];exact hpr);rw [hys'] at g2;exists g4;exists g2;clear ht6 fin go hb hq yf y41 h2;ac_rfl;exact⟨A',ys++[.ref t6],_,_,_,_,by rw [g5],g1,by first|rfl|exact ag,g2 (),g3,g4 (),g6⟩
   ·by_cases hq:x / 65 % 4=1
    ·ac_rfl;intro t6 H6 ht6 e6 h6;have h2_6:=e6.at h2;have ntr:t6 ≠ r:=λ z=>by rw [z,h2] at ht6;cases ht6
     obtain⟨A',ys',hA',hys',g1,g2,g3,g4,g5,g6⟩:=fin () (1+x % 5) (x / 260 % 41 - 20) t6 H6 e6 h6 ntr (go () _ (.inl rfl)) (y41 ()) %[0|8];rw [hys'] at g2;exists g4;exists g2;clear ht6 fin go hb hq yf y41 h2;ac_rfl;exact⟨A',ys++[.ref t6],_,_,_,_,by rw [g5],g1,by first|rfl|exact ag,g2 (),g3,g4 (),g6⟩
    ·ac_rfl;intro t6 H6 ht6 e6 h6;have h2_6:=e6.at h2;have ntr:t6 ≠ r:=λ z=>by rw [z,h2] at ht6;cases ht6
     obtain⟨A',ys',hA',hys',g1,g2,g3,g4,g5,g6⟩:=fin () (1+x % 5) (f * (x / 5 % 13 - 6)) t6 H6 e6 h6 ntr (go () _ (.inl rfl)) (yf ()) %[0|8];rw [hys'] at g2;exists g4;exists g2;clear ht6 fin go hb hq yf y41 h2;ac_rfl;exact⟨A',ys++[.ref t6],_,_,_,_,by rw [g5],g1,by first|rfl|exact ag,g2 (),g3,g4 (),g6⟩
  ·rintro _ H2 ⟨A,ys,v5,v6,v7,v8,rfl,e2,h2,al,hAl,hsz,hpr⟩;have k':=kk () A r H2 e2 ⟨ys,h2,al⟩ ⟨by rw [hAl];omega,hsz,hpr⟩;clear kk al hsz;ac_rfl
structure gw(H:Hp)(P:List (Int × Int))(ks:List Int)(kvs:List (Key × V)):Prop where
 e1:kvs.map (·.1)=ks.map (Sum.inl:Int->Key)
 nd:ks.Nodup
 len:ks.length<=P.length
 v:∀ t∈ks,∃ q,dE kvs (.inl t)=some (.ref q)/\H q=some (.tup [.int (eR P t),.int (cf P t)])
 mem:∀ t,t∈ks ↔ t ≠ 0/\∃ z∈P,ay z.1=t
theorem gw.ext{H H':Hp}{P:List (Int × Int)}{ks:List Int}{kvs:List (Key × V)}(h:gw H P ks kvs)(e:Ext H H'):gw H' P ks kvs:=
 ⟨h.e1,h.nd,h.len,λ t ht=>(let ⟨q,h1,h2⟩:=h.v t ht;⟨q,h1,e.at h2⟩),h.mem⟩
theorem gw.upd{H:Hp}{P:List (Int × Int)}{ks:List Int}{kvs k0:List (Key × V)}{d:Addr}{o:HO}(h:gw H P ks kvs)(hd:H d=some (.dK k0)):gw (upd H d o) P ks kvs:=
 ⟨h.e1,h.nd,h.len,λ t ht=>(let ⟨q,h1,h2⟩:=h.v t ht;⟨q,h1,by rw [ah (λ z=>by rw [z,hd] at h2;cases h2)];exact h2⟩),h.mem⟩
theorem gw.nil{H:Hp}:gw H [] [] []:=⟨rfl,Mv,JB _,(λ t h=>by cases h),λ t=>⟨(λ h=>by cases h),λ ⟨_,z,hz,_⟩=>by cases hz⟩⟩
theorem gw.get{H:Hp}{P:List (Int × Int)}{ks:List Int}{kvs:List (Key × V)}{q0:Addr}(h:gw H P ks kvs){t:Int}(ht:t ≠ 0)(h0:H q0=some (.tup [.int 0,.int 0])):∃ q,(dE kvs (.inl t)).getD (.ref q0)=.ref q/\H q=some (.tup [.int (eR P t),.int (cf P t)]):=by
 by_cases hm:t∈ks
 ·obtain⟨q,h1,h2⟩:=h.v t hm;exact⟨q,by rw [h1];rfl,h2⟩
 ·have hno:∀ z∈P,¬ ay z.1=t:=λ z hz e=>hm ((h.mem t).mpr ⟨ht,z,hz,e⟩);refine⟨q0,by rw [eD h.e1 hm];rfl,?_⟩;unfold eR cf;rw [dZ hno,dZ hno];exact h0
theorem gw.skip{H:Hp}{P:List (Int × Int)}{ks:List Int}{kvs:List (Key × V)}{z:Int × Int}(h:gw H P ks kvs)(hz:z.1=0):gw H (P++[z]) ks kvs:=by
 have h0:ay z.1=0:=by rw [hz];rfl
 have hne:∀ t∈ks,¬ ay z.1=t:=λ t ht e=>((h.mem t).mp ht).1 (by rw [←e];exact h0);refine⟨h.e1,h.nd,by rw [JA];have:=h.len;omega,λ t ht=>?_,λ t=>?_⟩
 ·obtain⟨q,h1,h2⟩:=h.v t ht;exact⟨q,h1,by rw [gA,fy,JL (hne t ht),JL (hne t ht),Ky,Ky];exact h2⟩
 ·rw [h.mem t];constructor
  ·rintro ⟨a,y,hy,e⟩;exact⟨a,y,KD _ hy,e⟩
  ·rintro ⟨a,y,hy,e⟩
   rcases J1.mp hy with hy|hy
   ·exact⟨a,y,hy,e⟩
   ·rw [JD.mp hy,h0] at e;exact absurd e.symm a
theorem gw.put{H:Hp}{P:List (Int × Int)}{ks:List Int}{kvs:List (Key × V)}{z:Int × Int}{tq:Addr}(h:gw H P ks kvs)(hz:z.1 ≠ 0)(ht:H tq=some (.tup [.int (eR P (ay z.1)+loP z),.int (cf P (ay z.1)+hiP z)])):∃ ks',gw H (P++[z]) ks' (eM kvs (.inl (ay z.1)) (.ref tq)):=by
 have h0:ay z.1 ≠ 0:=by unfold ay;omega
 have hv:∀ t:Int,dE (eM kvs (.inl (ay z.1)) (.ref tq)) (.inl t)=if ay z.1=t then some (.ref tq) else dE kvs (.inl t):=λ t=>by
  rw [oA]
  by_cases e:ay z.1=t
  ·rw [JM e,JM (by rw [e])]
  ·rw [JL e,JL (λ q=>e (by cases q;rfl))]
 have fin:∀ ks',(∀ t,t∈ks' ↔ t∈ks\/t=ay z.1)->(eM kvs (.inl (ay z.1)) (.ref tq)).map (·.1)=ks'.map (Sum.inl:Int->Key)->ks'.Nodup->ks'.length<=ks.length+1->gw H (P++[z]) ks' (eM kvs (.inl (ay z.1)) (.ref tq)):=λ ks' hm a1 a3 a4=>by
  refine⟨a1,a3,by rw [JA,JH];have:=h.len;omega,λ t ht'=>?_,λ t=>?_⟩
  ·rw [hv,gA,fy]
   by_cases e:ay z.1=t
   ·rw [JM e,JM e,JM e,←e];exact⟨tq,rfl,ht⟩
   ·rw [JL e,JL e,JL e,Ky,Ky];exact h.v t (((hm t).mp ht').resolve_right λ q=>e q.symm)
  ·rw [hm t,h.mem t];constructor
   ·rintro (⟨a,y,hy,e⟩|e)
    ·exact⟨a,y,KD _ hy,e⟩
    ·exact⟨by rw [e];exact h0,z,J8 _ JI,e.symm⟩
   ·rintro ⟨a,y,hy,e⟩
    rcases J1.mp hy with hy|hy
    ·exact .inl ⟨a,y,hy,e⟩
    ·rw [JD.mp hy] at e;exact .inr e.symm
 by_cases hm:ay z.1∈ks
 ·obtain⟨q,h1,_⟩:=h.v _ hm;exact⟨ks,fin ks (λ t=>⟨.inl,λ q=>q.elim id λ e=>by rw [e];exact hm⟩) (by rw [g9 _ h1];exact h.e1) h.nd %[0|8]⟩
 ·refine⟨ks++[ay z.1],fin _ (λ t=>by rw [J1,JD]) ?_ ?_ (by rw [JA];exact JB _)⟩
  ·rw [fP (eD h.e1 hm),h.e1,LV];rfl
  ·rw [List.nodup_append];exact⟨h.nd,by simp,λ a ha b hb e=>hm (by rw [JD] at hb;rw [←hb,←e];exact ha)⟩
theorem sD:∀ {l m:List Int},l.Nodup->m.Nodup->l.Pairwise (· >= ·)->m.Pairwise (· >= ·)->(∀ t,t∈l ↔ t∈m)->l=m
 | [],[],_,_,_,_,_=>rfl
 | [],b::m,_,_,_,_,h=>by have:=(h b).mpr JI;cases this
 | a::l,[],_,_,_,_,h=>by have:=(h a).mp JI;cases this
 | a::l,b::m,n1,n2,p1,p2,h=>by
  obtain⟨a1,a2⟩:=Kz.mp n1;obtain⟨b1,b2⟩:=Kz.mp n2;obtain⟨c1,c2⟩:=List.pairwise_cons.mp p1;obtain⟨d1,d2⟩:=List.pairwise_cons.mp p2
  have hab:a=b:=by
   rcases J2.mp ((h a).mp JI) with e|e
   ·exact e
   ·rcases J2.mp ((h b).mpr JI) with e'|e'
    ·exact e'.symm
    ·have x1:=d1 a e;have x2:=c1 b e';omega
  subst hab;congr 1;refine sD a2 b2 c2 d2 λ t=>⟨λ ht=>?_,λ ht=>?_⟩
  ·exact(J2.mp ((h t).mp (JG _ ht))).resolve_left λ e=>a1 (by rw [←e];exact ht)
  ·exact(J2.mp ((h t).mpr (JG _ ht))).resolve_left λ e=>b1 (by rw [←e];exact ht)
theorem kO.uniq{l m:List Int}{P:List (Int × Int)}(h1:kO l P)(h2:kO m P):l=m:=sD h1.nd h2.nd h1.ord h2.ord λ t=>(h1.mem t).trans (h2.mem t).symm
def sgP(sg:Int)(a:Int × Int):Int × Int:=(sg * (au a).2,a.1)
theorem zK(A B:List (Int × Int)):aC (A.map au) (B.map au)=A.map (sgP 1)++B.map (sgP (-1)):=by
 unfold aC;rw [map_map,map_map];congr 1
 ·refine Mb λ a _=>?_
  show ((au a).2,a.1)=(1 * (au a).2,a.1)
  rw [Int.one_mul]
 ·refine Mb λ a _=>?_
  show (-(au a).2,a.1)=(-1 * (au a).2,a.1)
  rw [Int.neg_one_mul]
abbrev jn  (p:Addr) (q:Addr) (H:Hp) (Q:VK) (E:XK):Prop:=∃ A B:List (Int × Int),dP H p A/\dP H q B/\A.length<=8/\B.length<=8/\(∀ a∈A,(1:Int)<=a.1)/\(∀ a∈B,(1:Int)<=a.1)/\∀ (ks:List Int) (r:Addr) (H':Hp),Ext H H'->gv H' r (aG ks (aC (A.map au) (B.map au)))->kO ks (aC (A.map au) (B.map au))->Q (.ref r) H'
def jN  : Sp:=λ vs H Q E=>∃ (p:Addr) (q:Addr),vs=[.ref p,.ref q]/\(jn  p q H Q E)
theorem qA  (p:Addr) (q:Addr) (H:Hp) (Q:VK) (E:XK):jN  [.ref p,.ref q] H Q E=(jn  p q H Q E):=pD (f:=λ (p:Addr) (q:Addr)=>[.ref p,.ref q]) (λ _ _ _ _ h=>by cases h;exact⟨rfl,rfl⟩) p q
theorem qh  {vs:List V}{H:Hp}{Q:VK}{E:XK}(h:jN  vs H Q E):vs.length=2:=pF h λ _ _=>rfl
theorem kj(T:Tx K mg t):bP P w K mg base CX0 1 t.a__law_terms t.d__law_terms ["_law_one", "_law_other"] jN:=by
 refine T.F__law_terms.ok ba (λ vs H Q E h=>qh h) (λ cdv A' outer s H vs Q E hr h=>?_)
 ·obtain⟨p,q,rfl,A,B,pA,pB,hA,hB,sA,sB,k⟩:=h;refine⟨_,%[(@dS _ _ (2) _ _ _ _ ba.nd rfl (Or.inr rfl) (@eC _ _) ∅ %[0|7]),%[%[J9,rfl,%[%[%[%[%[%[0|0],%[%[0|2]|1]|1]|14],%[%[%[%[1|0],%[%[dY,%[0|2]|42]|1]|1]|14]|1]|1]|18]|23],(%[(2),rfl,%[%[3,ba|5],%[%[4,ba|5],(@aK _),∅|19],∅|19],∅,∅|27].mono λ _ _ _ _ h=>bN h),%[%[J9,rfl,%[%[3|0]|23],(%[(2),rfl,%[%[5,ba|5],%[%[6,ba|5],(@aK _),∅|19],∅|19],∅,∅|27].mono λ _ _ _ _ h=>bN h),%[%[(PW.pt %[%[dm,%[5|0],%[0|2],(af _)|15],%[%[(df hr.units),%[6|0],%[0|2],(af _)|15]|39]|33]),%[(@gH _ _ _ _ _ _ %[(cu hr.units),%[2|0],%[abs,ef,%[%[6|0]|1]|6],%[%[%[0|2],%[%[0|2]|1]|1]|14],⟨by rfl,by rfl,by rfl,by rfl⟩|47] (%[(2),rfl,%[%[7,ba|5],%[%[8,ba|5],(@aK _),∅|19],∅|19],∅,∅|27].mono λ _ _ _ _ h=>bN h) ∅ ∅ ∅),%[%[%[dm,%[cy,%[6|0],%[4|0]|9],%[0|2],(af _)|15],%[%[(cu hr.units),%[2|0],%[abs,ef,%[%[6|0]|1]|6],%[%[%[7|0],%[%[aN,%[aw,%[8|0],%[5|0]|9],%[0|2]|9]|1]|1]|14],rfl|44]|12],%[%[(cu hr.units),%[2|0],%[abs,ef,%[%[6|0]|1]|6],%[%[%[aw,%[aN,%[7|0],%[5|0]|9],%[0|2]|9],%[%[8|0]|1]|1]|14],rfl|44]|12]|16]|12]|10],(@ai _)|16]|12],(by intros;rfl)|35]|12],(by intros;rfl)|35],%[%[(["_law_times", "_law_one", "_law_other", "_law_ranges", "_law_axes_here", "_law_sign", "_law_size", "_law_pace", "_law_low", "_law_high", "_law_found"]),(1),(9),_,ba.nd,rfl,(Or.inl rfl),(aH (ae cL) ["_law_one", "_law_other", "_law_ranges", "_law_axes_here", "_law_sign", "_law_size", "_law_pace", "_law_low", "_law_high", "_law_found"] rfl rfl nofun),rfl,%[%[sorted,(qw rfl),%[%[2|0]|1]|6]|23],(λ C s₀ H₀ ex pn=>%[(0),_,(show List.Nodup (["_law_times", "_law_one", "_law_other", "_law_ranges", "_law_axes_here", "_law_sign", "_law_size", "_law_pace", "_law_low", "_law_high", "_law_found"]:List Str) from by decide +kernel),rfl,(Or.inl rfl),%[0|7]|20]),(λ C s₀ H₀ ex pn=>(@aX _)),(λ C s₀ H₀ ex pn=>%[wq,%[%[%[0|0]|1]|14],(@gR _ _ _ _ _ _ (cu hr.units) %[3|0] %[0|0] (λ _ _=>rfl))|9]),∅,(by intros;rfl),%[0|7]|45],%[%[%[JJ,PySem.F.slot_list_reverse,PySem.F.type_list_reverse,pT,%[9|0],∅,∅|46],∅|31],%[%[%[9|0]|13]|12]|10]|10]|10]|10],?_⟩;rw [show aJ ["_law_one", "_law_other", "_law_ranges", "_law_axes_here", "_law_sign", "_law_size", "_law_pace", "_law_low", "_law_high", "_law_found"] [.ref p,.ref q]=[some (.ref p),some (.ref q),none,none,none,none,none,none,none,none] from rfl];rw [zK] at k;exists k;exists sA;exists sB;ac_rfl;intro d H1 hd1 e1 h1;have hd0:=hd1;ac_rfl;intro t1 H2 _ e2 h2;ac_rfl;intro t2 H3 _ e3 h3;have h2_3:=e3.at h2;ac_rfl;intro l4 H4 hl4 e4 h4;have nl:l4 ≠ d:=λ z=>by rw [z,(e2.trans e3).at h1] at hl4;cases hl4
  have e04:=e1.trans (e2.trans (e3.trans e4));have h1_4:=(e2.trans (e3.trans e4)).at h1;have ht1:=e4.at h2_3;have ht2:=e4.at h3;clear hd1 hl4 h1 h2 h2_3 h3 e1 e2 e3 e4;ac_rfl;refine eS (xs:=[.ref t1,.ref t2]) (λ i σ H'=>∃ (ks:List Int) (kvs:List (Key × V)) (v3 v4 v5 v6 v7 v8:Option V),σ=[some (.ref p),some (.ref q),some (.ref d),v3,v4,v5,v6,v7,v8,none]/\Ext H H'/\(∀ b o,b ≠ d->H4 b=some o->H' b=some o)/\H' d=some (.dK kvs)/\gw H' (if i=0 then [] else if i=1 then A.map (sgP 1) else A.map (sgP 1)++B.map (sgP (-1))) ks kvs) ⟨[],[],none,none,none,none,none,none,rfl,e04,λ _ _ _ h=>h,h1_4,gw.nil⟩ (λ i σ H' _ ⟨_,_,_,_,_,_,_,_,_,_,kp,_⟩=>kp l4 _ nl h4) ?_ ?_
  ·rintro i y _ H5 hi ⟨ks,kvs,v3,v4,v5,v6,v7,v8,rfl,e5,kp,h5d,ri⟩
   obtain⟨tq,axp,Ax,sg,P0,hy,htq,pX,hX8,hX1,hsg,hP8,hP0,hP1⟩:∃ (tq axp:Addr) (Ax:List (Int × Int)) (sg:Int) (P0:List (Int × Int)),y=.ref tq/\H4 tq=some (.tup [.ref axp,.int sg])/\dP H axp Ax/\Ax.length<=8/\(∀ a∈Ax,(1:Int)<=a.1)/\(sg=1\/sg=-1)/\P0.length<=8/\(if i=0 then [] else if i=1 then A.map (sgP 1) else A.map (sgP 1)++B.map (sgP (-1)))=P0/\(if i+1=0 then [] else if i+1=1 then A.map (sgP 1) else A.map (sgP 1)++B.map (sgP (-1)))=P0++Ax.map (sgP sg):=by
    match i,hi with
    | 0,hi=>cases hi;exact⟨t1,p,A,1,[],rfl,ht1,pA,hA,sA (),.inl rfl,by decide,rfl,rfl⟩
    | 1,hi=>cases hi;exact⟨t2,q,B,-1,A.map (sgP 1),rfl,ht2,pB,hB,sB (),.inr rfl,by rw [JP];exact hA,rfl,rfl⟩
    | i+2,hi=>simp at hi
   subst hy;rw [hP0] at ri;rw [hP1];have ht5:=kp tq _ (λ e=>by rw [e,h1_4] at htq;cases htq) htq;obtain⟨ts,hax,alX⟩:=pX;have hax5:=e5.at hax;have htl:ts.length=Ax.length:=alX.1;exists alX;exists htl;exists hX1;have ini:gw H5 (P0++(Ax.map (sgP sg)).take 0) ks kvs:=by rw [List.take_zero,Lv];exact ri
   exists ini;clear hi hP0 hP1 ri htq k pA pB ht1 ht2 h4;simp! only [↓aQ];refine eS (xs:=ts) (λ j σ H'=>∃ (ks:List Int) (kvs:List (Key × V)) (v5 v6 v7 v8:Option V),σ=[some (.ref p),some (.ref q),some (.ref d),some (.ref axp),some (.int sg),v5,v6,v7,v8,none]/\Ext H H'/\(∀ b o,b ≠ d->H4 b=some o->H' b=some o)/\H' d=some (.dK kvs)/\gw H' (P0++(Ax.map (sgP sg)).take j) ks kvs) ⟨ks,kvs,_,_,_,_,rfl,e5,kp,h5d,ini ()⟩ (λ j σ H' _ ⟨_,_,_,_,_,_,_,e,_⟩=>e.at hax) ?_ ?_
   ·clear ini h5d e5 kp ht5 hax5;rintro j y _ H6 hj ⟨ks,kvs,v5,v6,v7,v8,rfl,e6,kp,h6d,ri⟩;have hjA:j < Ax.length:=by have:=(JC.mp hj).1;have:=htl ();omega
    obtain⟨aq,rfl,haq⟩:=(alX ()).2 j Ax[j] y (Jy hjA) hj;have ha6:=e6.at haq;have hsz:=hX1 () Ax[j] (KR hjA)
    have htk:(Ax.map (sgP sg)).take (j+1)=(Ax.map (sgP sg)).take j++[sgP sg Ax[j]]:=by
     rw [Mm,J4,Jy hjA];rfl
    rw [htk,←KC];have hPl:(P0++(Ax.map (sgP sg)).take j).length<=16:=by rw [JA,KQ,JP];omega
    generalize P0++(Ax.map (sgP sg)).take j=PP at *;have lk:kvs.length < sizeLine:=om (by have:=KO List.length ri.e1;have:=ri.len;rw [JP,JP] at *;omega);generalize Ax[j]=a at *;clear hj htk haq
    by_cases hs1:1 < a.1
    ·have hkp:(au a).2=a.2:=by unfold au;rw [if_pos hs1]
     by_cases hp0:a.2=0
     ·have rs:=λ (_:Unit)=>ri.skip (z:=sgP sg a) (by show sg * (au a).2=0;rw [hkp,hp0,Int.mul_zero]);clear ri hkp;simp! only [↓aQ];exact⟨ks,kvs,_,_,_,_,rfl,e6,kp,rfl,rs ()⟩
     obtain⟨z,hz⟩:∃ z,sgP sg a=z:=⟨_,rfl⟩;have hz1:z.1=sg * a.2:=by rw [←hz];show sg * (au a).2=_;rw [hkp]
     have hz2:z.2=a.1:=by rw [←hz];rfl
     have hz0:z.1 ≠ 0:=by rw [hz1];rcases hsg with rfl|rfl<;>omega
     have hab0:ay z.1 ≠ 0:=by unfold ay;omega
     have habs:(if a.2 < 0 then -a.2 else a.2)=ay z.1:=by
      unfold ay;rw [hz1];rcases hsg with rfl|rfl<;>split<;>omega
     have hsgn:(0 < a.2 * sg ↔ 0 < z.1):=by rw [hz1,Mt]
     rw [hz];have cm:jw a.2 sg:=.inr ⟨by rcases hsg with rfl|rfl<;>decide,by rcases hsg with rfl|rfl<;>decide⟩;exists ri;exists hz1;exists hz2;exists hz;exists hsgn;exists hkp;simp! only [↓aQ];refine gO h6d ?_;ac_rfl;intro q0 H8 _ e8 h8;have h8d:=e8.at h6d;have e08:=e6.trans e8;obtain⟨qv,hgv,hqv⟩:=((ri ()).ext e8).get hab0 h8;have ri8:=λ (_:Unit)=>(ri ()).ext e8;have kp8:=λ (_:Unit)=>λ b o (x1:b ≠ d) (h:H4 b=some o)=>e8.at (kp b o x1 h);clear ha6 h6d kp e6;ac_rfl;refine kU (k:=.inl (ay z.1)) h8d ?_;rw [hgv];clear hgv
     by_cases hpos:0 < a.2 * sg
     ·have hzp:=(hsgn ()).mp hpos;have hlo:loP z=0:=by unfold loP;rw [if_pos hzp]
      have hhi:hiP z=a.1 - 1:=by unfold hiP;rw [if_pos hzp,hz2 ()]
      exists hlo;exists hhi;clear hzp;ac_rfl;intro t9 H9 ht9 e9 h9;have h9d:=e9.at h8d;obtain⟨ks',rn⟩:=((ri8 ()).ext e9).put (z:=z) (tq:=t9) hz0 (by rw [h9,hlo (),hhi (),Ky,Int.add_sub_assoc]);have ru:=λ (_:Unit)=>gw.upd (o:=.dK (eM kvs (.inl (ay z.1)) (.ref t9))) rn h9d;clear rn ht9 ri8 h8d ri;ac_rfl;refine iX (k:=.inl (ay z.1)) h9d lk ?_;exact⟨ks',_,_,_,_,_,rfl,(e08.trans e9).put hd0,λ b o x1 h=>by rw [ah x1];exact e9.at (kp8 () b o x1 h),ag,ru ()⟩
     ·have hzp:¬ 0 < z.1:=λ h=>hpos ((hsgn ()).mpr h);have hlo:loP z=1 - a.1:=by unfold loP;rw [if_neg hzp,hz2 ()]
      have hhi:hiP z=0:=by unfold hiP;rw [if_neg hzp]
      exists hlo;exists hhi;clear hzp;ac_rfl;intro t9 H9 ht9 e9 h9;have h9d:=e9.at h8d;obtain⟨ks',rn⟩:=((ri8 ()).ext e9).put (z:=z) (tq:=t9) hz0 (by rw [h9,hlo (),hhi (),Ky,show eR PP (ay z.1) - a.1+1=eR PP (ay z.1)+(1 - a.1) by omega]);have ru:=λ (_:Unit)=>gw.upd (o:=.dK (eM kvs (.inl (ay z.1)) (.ref t9))) rn h9d;clear rn ht9 ri8 h8d ri;ac_rfl;refine iX (k:=.inl (ay z.1)) h9d lk ?_;exact⟨ks',_,_,_,_,_,rfl,(e08.trans e9).put hd0,λ b o x1 h=>by rw [ah x1];exact e9.at (kp8 () b o x1 h),ag,ru ()⟩
    ·have hkp:(au a).2=0:=by unfold au;rw [if_neg hs1]
     have rs:=λ (_:Unit)=>ri.skip (z:=sgP sg a) (by show sg * (au a).2=0;rw [hkp,Int.mul_zero]);clear ri hkp;simp! only [↓aQ];exact⟨ks,kvs,_,_,_,_,rfl,e6,kp,rfl,rs ()⟩
   ·rintro _ H6 ⟨ks,kvs,v5,v6,v7,v8,rfl,e6,kp,h6d,ri⟩;rw [htl (),KP (by rw [JP];exact JB _)] at ri;exact⟨ks,kvs,_,_,_,_,_,_,rfl,e6,kp,h6d,ri⟩
  ·rintro _ H5 ⟨ks,kvs,v3,v4,v5,v6,v7,v8,rfl,e5,kp,h5d,ri⟩;have ri':gw H5 (A.map (sgP 1)++B.map (sgP (-1))) ks kvs:=ri;have hPl:(A.map (sgP 1)++B.map (sgP (-1))).length<=16:=by rw [JA,JP,JP];omega
   generalize A.map (sgP 1)++B.map (sgP (-1))=P' at *;have hk1:ks.length < 64:=by have:=ri'.len;omega
   exists ri';clear ri kp h4 h1_4 ht1 ht2 pA pB e04;ac_rfl;refine zv h5d (ri' ()).e1 hk1 λ ms hpm hord=>?_;intro q6 H6 hq6 e6 h6;have h6d:=e6.at h5d;have ri6:=λ (_:Unit)=>(ri' ()).ext e6;have hms:ms.length<=64:=by rw [hpm.length_eq];omega
   exists hpm;exists hord;clear hq6;ac_rfl;have wk:=nZ (K:=K) h6;refine cp (ms.map V.int) (λ _=>true) (λ z x H'=>x=z/\H' q6=some (.lst (ms.map V.int))) (λ D z y H'=>trP (vi z,eR P' (vi z),cf P' (vi z)) y H') wk.1 wk.2 (λ D z y H1 H2 h e=>trP.ext (z:=(vi z,eR P' (vi z),cf P' (vi z))) h e) (λ D z y H1 xs o h hD=>trP.upd (z:=(vi z,eR P' (vi z),cf P' (vi z))) h hD) (aj (by rw [JP];omega)) ?_ ?_
   ·intro D z y H' N1 N0 hz hD e _ ⟨hy,_⟩ kx _;subst hy;obtain⟨t',ht',rfl⟩:=J0.mp hz;obtain⟨qv,w1,w2⟩:=((ri6 ()).ext e).v t' ((hpm ()).mem_iff.mp ht');have k1':=kx rfl;have a1:=e.at h6d;clear kx k hz wk;simp! only [↓bA,↓aV];intro t9 H9 _ e9 h9;have a19:=e9.at a1;have w29:=e9.at w2;clear a1 w2;ac_rfl;refine rk (k:=.inl t') a19 w1 ?_;ac_rfl;rw [CD];refine⟨aj (by simp),λ g H10 e10 h10=>?_⟩;exact k1' _ H10 (e9.trans e10) ⟨g,rfl,h10⟩
   ·intro D zs H7 hD e7 h7 al7;rw [iR] at al7;have hD0:H D=none:=(e5.trans e6).free hD
    have al8:Al (λ z y=>trP z y H7) (aG ms P') zs:=by
     refine⟨by rw [al7.1];unfold aG;rw [length_map,length_map],λ i z y hz hy=>?_⟩;unfold aG at hz;rw [getElem?_map] at hz;obtain⟨t',ht',rfl⟩:=Option.map_eq_some_iff.mp hz;exact al7.2 i (.int t') y (by rw [getElem?_map,ht'];rfl) hy
    have al9:Al (λ z y=>trP z y H7) (aG ms.reverse P') zs.reverse:=by
     have e1:aG ms.reverse P'=(aG ms P').reverse:=by unfold aG;rw [List.map_reverse]
     rw [e1];refine⟨by rw [Kv,Kv];exact al8.1,λ i z y hz hy=>?_⟩;have hi:i < (aG ms P').length:=by have:=(JC.mp hz).1;rw [Kv] at this;exact this
     rw [List.getElem?_reverse hi] at hz;rw [List.getElem?_reverse (by rw [al8.1];exact hi),al8.1] at hy;exact al8.2 _ z y hz hy
    have ko:kO ms.reverse P':=⟨(List.reverse_perm ms).nodup_iff.mpr ((hpm ()).nodup_iff.mpr (ri' ()).nd),by rw [Kv,(hpm ()).length_eq];exact(ri' ()).len,λ t'=>by rw [List.mem_reverse];exact(hpm ()).mem_iff.trans ((ri' ()).mem t'),List.pairwise_reverse.mpr (hord ())⟩;have fin:=k () ms.reverse D (upd H7 D (.lst zs.reverse)) ((e5.trans (e6.trans e7)).put hD0) ⟨_,ag,al9.imp λ _ _ t=>trP.upd t h7⟩ ko;clear al7 al8 al9 wk ko k hD;ac_rfl
theorem sN(x:Int):0<=ay x:=by unfold ay;omega
def axW(a:Int × Int):Int:=ay a.2 * (a.1 - 1)
def wS:List (Int × Int)->Int
 | []=>0
 | a::A=>axW a+wS A
def wLt(t:Int):List (Int × Int)->Int
 | []=>0
 | a::A=>(if ay a.2 < t then axW a else 0)+wLt t A
theorem yD{a:Int × Int}(h:1<=a.1):0<=axW a:=Int.mul_nonneg (sN _) %[0|8]
theorem BW:∀ {A:List (Int × Int)},(∀ a∈A,1<=a.1)->0<=wS A
 | [],_=>K1 _
 | a::A,h=>by
  have:=yD (h a JI);have:=BW λ b hb=>h b (JG _ hb)
  show 0<=axW a+wS A;omega
structure AxG(A:List (Int × Int)):Prop where
 len:A.length<=4
 sz:∀ a∈A,(1<=a.1/\a.1<=1000000000)/\ay a.2<=10000000000000000/\axW a<=10000000000000000
theorem AxG.one{A:List (Int × Int)}(h:AxG A):∀ a∈A,(1:Int)<=a.1:=λ a ha=>(h.sz a ha).1.1
theorem BX:∀ {A:List (Int × Int)},(∀ a∈A,axW a<=10000000000000000)->wS A<=10000000000000000 * (A.length:Int)
 | [],_=>by decide
 | a::A,h=>by
  have ih:=BX (A:=A) λ b hb=>h b (JG _ hb);have:=h a JI;rw [JS]
  show axW a+wS A<=_
  omega
theorem AxG.wt{A:List (Int × Int)}(h:AxG A):0<=wS A/\wS A<=40000000000000000:=by
 have:=BX λ a ha=>(h.sz a ha).2.2;have:=h.len;exact⟨BW h.one,by omega⟩
theorem AxK.g{A:List (Int × Int)}(h:AxK A):AxG A:=⟨by have:=h.len;omega,λ a ha=>by
 obtain⟨h1,h2⟩:=h.sz a ha;have e:ay a.2<=36/\0<=ay a.2:=by unfold ay;omega
 have m:=Int.mul_le_mul e.1 (show a.1 - 1<=4 by omega) %[0|8] ⋯;exact⟨by omega,by omega,by show ay a.2 * (a.1 - 1)<=_;omega⟩⟩
theorem sJ:∀ {P:List (Int × Int)}{z:Int × Int},(∀ y∈P,(1:Int)<=y.2)->z∈P->z.2 - 1<=yI P (ay z.1)
 | y::P,z,h,hz=>by
  have hP:∀ x∈P,(1:Int)<=x.2:=λ x hx=>h x (JG _ hx);have hn:=yB hP (ay z.1);have hy:=h y JI;rw [kc]
  rcases J2.mp hz with rfl|hz
  ·rw [JM rfl];omega
  ·have:=sJ hP hz
   split<;>omega
theorem yC:∀ {P:List (Int × Int)},(∀ y∈P,1<=y.2/\y.2<=1000000000)->∀ t,yI P t<=999999999 * (P.length:Int)
 | [],_,t=>K1 0
 | y::P,h,t=>by
  have ih:=yC (P:=P) (λ x hx=>h x (JG _ hx)) t;have hy:=h y JI;rw [kc,JS]
  split<;>omega
theorem yv:∀ {P:List (Int × Int)},(∀ y∈P,(1:Int)<=y.2)->∀ t,eR P t<=0/\0<=cf P t
 | [],_,_=>⟨K1 _,K1 _⟩
 | y::P,h,t=>by
  have ih:=yv (P:=P) (λ x hx=>h x (JG _ hx)) t;have hy:=h y JI
  have l1:loP y<=0:=by unfold loP;split<;>omega
  have l2:0<=hiP y:=by unfold hiP;split<;>omega
  show (if ay y.1=t then loP y else 0)+eR P t<=0/\0<=(if ay y.1=t then hiP y else 0)+cf P t
  split<;>omega
theorem vV{A B:List (Int × Int)}{z:Int × Int}(hz:z∈aC A B):∃ a,(a∈A\/a∈B)/\ay z.1=ay a.2/\z.2=a.1/\(z.1=0 ↔ a.2=0):=by
 unfold aC at hz
 rcases J1.mp hz with hz|hz
 ·obtain⟨a,ha,rfl⟩:=J0.mp hz;exact⟨a,.inl ha,rfl,rfl,Iff.rfl⟩
 ·obtain⟨a,ha,rfl⟩:=List.mem_map.mp hz;exact⟨a,.inr ha,by show ay (-a.2)=_;unfold ay;omega,rfl,by show -a.2=0 ↔ _;omega⟩
theorem AxG.tms{A B:List (Int × Int)}{ks:List Int}(hA:AxG A)(hB:AxG B)(hk:kO ks (aC (A.map au) (B.map au))):cG (aG ks (aC (A.map au) (B.map au)))/\ks.length<=8:=by
 have sz:∀ z∈aC (A.map au) (B.map au),(1<=z.2/\z.2<=1000000000)/\(z.1 ≠ 0->2<=z.2)/\ay z.1<=10000000000000000:=λ z hz=>by
  obtain⟨a,ha,e1,e2,e3⟩:=vV hz
  obtain⟨b,rfl,hb⟩:∃ b,a=au b/\((1<=b.1/\b.1<=1000000000)/\ay b.2<=10000000000000000/\axW b<=10000000000000000):=by
   rcases ha with ha|ha
   ·obtain⟨b,hb,rfl⟩:=J0.mp ha;exact⟨b,rfl,hA.sz b hb⟩
   ·obtain⟨b,hb,rfl⟩:=J0.mp ha;exact⟨b,rfl,hB.sz b hb⟩
  have e4:z.2=b.1:=e2;refine⟨by omega,λ h0=>?_,?_⟩
  ·rw [e4];apply Classical.byContradiction;intro hn;exact h0 (e3.mpr (JL %[0|8]))
  ·rw [e1]
   show ay (if b.1 > 1 then b.2 else 0)<=_
   split
   ·exact hb.2.1
   ·decide
 have one:∀ y∈aC (A.map au) (B.map au),(1:Int)<=y.2:=λ y hy=>(sz y hy).1.1
 have hlen:(aC (A.map au) (B.map au)).length<=8:=by
  unfold aC;rw [length_append,length_map,length_map,length_map,length_map];have:=hA.len;have:=hB.len;omega
 have hkl:=hk.len;refine⟨⟨by unfold aG;rw [length_map];omega,λ z hz=>?_⟩,by omega⟩;unfold aG at hz;obtain⟨t,ht,rfl⟩:=List.mem_map.mp hz;obtain⟨t0,y,hy,e⟩:=(hk.mem t).mp ht;have hs:=sz y hy;have y0:y.1 ≠ 0:=λ q=>t0 (by rw [←e,q];rfl);have h2:=hs.2.1 y0;have h3:=hs.2.2;have hc:=sJ one hy;have hc2:=yC (λ x hx=>(sz x hx).1) t;have hl:=yv one t;have hhl:=oU (aC (A.map au) (B.map au)) t;rw [e] at hc h3;have ht':=sN y.1;rw [e] at ht'
 show (1<=t/\t<=2000000000000000000)/\(-20000000000<=eR (aC (A.map au) (B.map au)) t/\eR (aC (A.map au) (B.map au)) t<=20000000000)/\eR (aC (A.map au) (B.map au)) t < cf (aC (A.map au) (B.map au)) t/\cf (aC (A.map au) (B.map au)) t<=20000000000
 omega
theorem gT:∀ l:List (Int × Int),(∀ a∈l,(1:Int)<=a.1)->bL (l.map au)=bL l/\bM (l.map au)=bM l
 | [],_=>⟨rfl,rfl⟩
 | a::r,h=>by
  obtain⟨i1,i2⟩:=gT r λ b hb=>h b (JG _ hb);have ha:=h a JI
  have e:((au a).1 - 1) * (au a).2=(a.1 - 1) * a.2:=by
   show (a.1 - 1) * (if a.1 > 1 then a.2 else 0)=_
   split
   ·rfl
   ·have:a.1=1:=by omega
    rw [this];simp
  rw [KA,fb,ff,fb,ff,e,i1,i2];exact⟨rfl,rfl⟩
theorem rT:∀ {A:List (Int × Int)},(∀ a∈A,1<=a.1)->(-wS A<=bL A/\bL A<=0)/\(0<=bM A/\bM A<=wS A)
 | [],_=>by decide
 | a::A,h=>by
  have ih:=rT (A:=A) λ b hb=>h b (mem_cons_of_mem _ hb);have s:=h a mem_cons_self;have e:axW a=ay a.2 * (a.1 - 1):=rfl;have u1:=Int.mul_le_mul_of_nonneg_left (show a.2<=ay a.2 by unfold ay;omega) (show 0<=a.1 - 1 by omega);have u2:=Int.mul_le_mul_of_nonneg_left (show -ay a.2<=a.2 by unfold ay;omega) (show 0<=a.1 - 1 by omega);have n:=yD (a:=a) s;rw [Int.mul_neg] at u2;rw [fb,ff];rw [Int.mul_comm (a.1 - 1) (ay a.2),←e] at u1 u2
  show (-(axW a+wS A)<=_/\_)/\_/\_<=axW a+wS A
  generalize (a.1 - 1) * a.2=x at *;omega
theorem oR(a:Int × Int):au (au a)=au a:=by
 unfold au
 show (a.1,if a.1 > 1 then (if a.1 > 1 then a.2 else 0) else 0)=_
 by_cases h:a.1 > 1
 ·rw [JM h,JM h]
 ·rw [JL h,JL h]
def AxV(H:Hp)(Z:List (Int × Int))(x:V):Prop:=∃ l,x=.ref l/\dP H l Z/\AxG Z
theorem AxV.ext{H H':Hp}{Z:List (Int × Int)}{x:V}(h:AxV H Z x)(e:Ext H H'):AxV H' Z x:=by
 obtain⟨l,h1,h2,h3⟩:=h;exact⟨l,h1,br h2 e,h3⟩
abbrev iH(C:Addr)(p:Addr)(q:Addr)(g:Int)(lo:Int)(mo:Int)(H:Hp)(Q:VK)(E:XK):Prop:=∃ A B:List (Int × Int),dP H p A/\dP H q B/\AxG A/\AxG B/\(0<=lo/\lo < 4)/\(0<=mo/\mo < 4)/\(-100000000000001000<=g/\g<=100000000000001000)/\∀ (room f:Int) (x1 x2 r:Addr) (H':Hp),Ext H H'->H' r=some (.tup [.ref x1,.ref x2])->aB C H' x1 room f (A.map au)->aB C H' x2 room (f+g) (B.map au)->fX room (f+g) B->room<=900000000000000000->fX (room+1) f (A.map au)->Q (.ref r) H'
def gX(C:Addr):Sp:=λ vs H Q E=>∃ (p:Addr) (q:Addr) (g:Int) (lo:Int) (mo:Int),vs=[.ref p,.ref q,.int g,.int lo,.int mo]/\(iH C p q g lo mo H Q E)
theorem iC(C:Addr)(p:Addr)(q:Addr)(g:Int)(lo:Int)(mo:Int)(H:Hp)(Q:VK)(E:XK):gX C [.ref p,.ref q,.int g,.int lo,.int mo] H Q E=(iH C p q g lo mo H Q E):=IG (f:=λ (p:Addr) (q:Addr) (g:Int) (lo:Int) (mo:Int)=>[.ref p,.ref q,.int g,.int lo,.int mo]) (λ _ _ _ _ _ _ _ _ _ _ h=>by cases h;exact⟨rfl,rfl,rfl,rfl,rfl⟩) p q g lo mo
theorem nK(C:Addr){vs:List V}{H:Hp}{Q:VK}{E:XK}(h:gX C vs H Q E):vs.length=5:=IH h λ _ _ _ _ _=>rfl
theorem eO(T:Tx K mg t):bP P w K mg base CX0 8 t.a__law_placed t.d__law_placed ["_law_one", "_law_other", "_law_goal", "_law_low", "_law_more"] (gX t.a_View):=by
 have G_View___init__:=%[dJ|49];refine T.F__law_placed.ok bU (λ vs H Q E h=>nK _ h) (λ cdv A' outer s H vs Q E hr h=>?_)
 ·obtain⟨p,q,g,lo,mo,rfl,A,B,pA,pB,kA,kB,hlo,hmo,hg,k⟩:=h;refine⟨_,%[%[(["_law_axes_here", "_law_one", "_law_other", "_law_goal", "_law_low", "_law_more", "_law_least", "_law_greatest", "_law_first", "_law_room"]),(1),(5),_,bU.nd,rfl,(Or.inl rfl),(aH (ae bT) ["_law_one", "_law_other", "_law_goal", "_law_low", "_law_more", "_law_least", "_law_greatest", "_law_first", "_law_room"] rfl rfl nofun),rfl,%[%[%[%[0|0],%[%[1|0]|1]|1]|18]|23],(λ C s₀ H₀ ex pn=>%[(0),_,(show List.Nodup (["_law_axes_here", "_law_one", "_law_other", "_law_goal", "_law_low", "_law_more", "_law_least", "_law_greatest", "_law_first", "_law_room"]:List Str) from by decide +kernel),rfl,(Or.inl rfl),%[0|7]|20]),(λ C s₀ H₀ ex pn=>(@aX _)),(λ C s₀ H₀ ex pn=>%[sum,(cq rfl),%[%[(["_law_size", "_law_pace", "_law_axes_here", "_law_one", "_law_other", "_law_goal", "_law_low", "_law_more", "_law_least", "_law_greatest", "_law_first", "_law_room"]),(2),(aH _ ["_law_axes_here", "_law_one", "_law_other", "_law_goal", "_law_low", "_law_more", "_law_least", "_law_greatest", "_law_first", "_law_room"] rfl rfl (by kernel_rfl)),rfl,(@si _ _ _ _ (K) rfl %[0|0]),(λ C s₀ H₀ ex pn=>(%[(2),rfl,%[%[(0),_,(show List.Nodup (["_law_size", "_law_pace", "_law_axes_here", "_law_one", "_law_other", "_law_goal", "_law_low", "_law_more", "_law_least", "_law_greatest", "_law_first", "_law_room"]:List Str) from by decide +kernel),rfl,(Or.inl rfl),%[0|7]|20],%[%[(1),_,(show List.Nodup (["_law_size", "_law_pace", "_law_axes_here", "_law_one", "_law_other", "_law_goal", "_law_low", "_law_more", "_law_least", "_law_greatest", "_law_first", "_law_room"]:List Str) from by decide +kernel),rfl,(Or.inl rfl),%[0|7]|20],(@aK _),∅|19],∅|19],∅,∅|27].mono λ _ _ _ _ h=>bN h)),(λ C s₀ H₀ ex pn=>(@aX _)),(λ C s₀ H₀ ex pn=>%[min,(fz rfl),%[%[0|2],%[%[cy,%[1|0],%[aN,%[0|0],%[0|2]|9]|9]|1]|1]|6]),(by intros;rfl)|26]|1]|6]),∅,(by intros;rfl),%[0|7]|45],%[%[(["_law_axes_here", "_law_one", "_law_other", "_law_goal", "_law_low", "_law_more", "_law_least", "_law_greatest", "_law_first", "_law_room"]),(1),(6),_,bU.nd,rfl,(Or.inl rfl),(aH (ae bT) ["_law_one", "_law_other", "_law_goal", "_law_low", "_law_more", "_law_least", "_law_greatest", "_law_first", "_law_room"] rfl rfl nofun),rfl,%[%[%[%[0|0],%[%[1|0]|1]|1]|18]|23],(λ C s₀ H₀ ex pn=>%[(0),_,(show List.Nodup (["_law_axes_here", "_law_one", "_law_other", "_law_goal", "_law_low", "_law_more", "_law_least", "_law_greatest", "_law_first", "_law_room"]:List Str) from by decide +kernel),rfl,(Or.inl rfl),%[0|7]|20]),(λ C s₀ H₀ ex pn=>(@aX _)),(λ C s₀ H₀ ex pn=>%[sum,(cq rfl),%[%[(["_law_size", "_law_pace", "_law_axes_here", "_law_one", "_law_other", "_law_goal", "_law_low", "_law_more", "_law_least", "_law_greatest", "_law_first", "_law_room"]),(2),(aH _ ["_law_axes_here", "_law_one", "_law_other", "_law_goal", "_law_low", "_law_more", "_law_least", "_law_greatest", "_law_first", "_law_room"] rfl rfl (by kernel_rfl)),rfl,(@si _ _ _ _ (K) rfl %[0|0]),(λ C s₀ H₀ ex pn=>(%[(2),rfl,%[%[(0),_,(show List.Nodup (["_law_size", "_law_pace", "_law_axes_here", "_law_one", "_law_other", "_law_goal", "_law_low", "_law_more", "_law_least", "_law_greatest", "_law_first", "_law_room"]:List Str) from by decide +kernel),rfl,(Or.inl rfl),%[0|7]|20],%[%[(1),_,(show List.Nodup (["_law_size", "_law_pace", "_law_axes_here", "_law_one", "_law_other", "_law_goal", "_law_low", "_law_more", "_law_least", "_law_greatest", "_law_first", "_law_room"]:List Str) from by decide +kernel),rfl,(Or.inl rfl),%[0|7]|20],(@aK _),∅|19],∅|19],∅,∅|27].mono λ _ _ _ _ h=>bN h)),(λ C s₀ H₀ ex pn=>(@aX _)),(λ C s₀ H₀ ex pn=>%[max,(cC rfl),%[%[0|2],%[%[cy,%[1|0],%[aN,%[0|0],%[0|2]|9]|9]|1]|1]|6]),(by intros;rfl)|26]|1]|6]),∅,(by intros;rfl),%[0|7]|45],%[%[7,bU,%[aw,%[max,(cC rfl),%[%[aN,%[0|2],%[az,%[5|0],%[0|2],(λ _ _=>rfl)|11]|9],%[%[aN,%[aN,%[0|2],%[2|0]|9],%[az,%[5|0],%[0|2],(λ _ _=>rfl)|11]|9]|1]|1]|6],%[3|0]|9]|4],%[%[8,bU,%[aw,%[aw,%[max,(cC rfl),%[%[aw,%[7|0],%[az,%[6|0],%[0|2],(λ _ _=>rfl)|11]|9],%[%[aw,%[aw,%[7|0],%[2|0]|9],%[az,%[6|0],%[0|2],(λ _ _=>rfl)|11]|9]|1]|1]|6],%[0|2]|9],%[4|0]|9]|4],%[%[%[%[%[T.mk_View,G_View___init__,(hr.mono ⋯),∅,T.m_View,T.b_View___init__,.nil,pJ,%[%[8|0],%[%[7|0],%[%[cx,∅,T.z_list,nofun,%[%[0|0]|1],⋯,⋯,∅,∅|43]|1]|1]|1],⋯,∅,∅|48],%[%[T.mk_View,G_View___init__,(hr.mono ⋯),∅,T.m_View,T.b_View___init__,.nil,pJ,%[%[8|0],%[%[aw,%[7|0],%[2|0]|9],%[%[cx,∅,T.z_list,nofun,%[%[1|0]|1],⋯,⋯,∅,∅|43]|1]|1]|1],⋯,∅,∅|48]|1]|1]|14]|13]|12]|10]|10]|10]|10],?_⟩;rw [show aJ ["_law_one", "_law_other", "_law_goal", "_law_low", "_law_more", "_law_least", "_law_greatest", "_law_first", "_law_room"] [.ref p,.ref q,.int g,.int lo,.int mo]=[some (.ref p),some (.ref q),some (.int g),some (.int lo),some (.int mo),none,none,none,none] from rfl];clear G_View___init__;obtain⟨ta,hpa,alA⟩:=pA;obtain⟨tb,hqb,alB⟩:=pB;exists k;exists alA;exists alB;ac_rfl;intro l1 H1 hl1 e1 h1;have cA:AxV H1 A (.ref p):=⟨p,rfl,⟨ta,e1.at hpa,(alA ()).imp λ _ _ t=>axP.ext t e1⟩,kA⟩;have cB:AxV H1 B (.ref q):=⟨q,rfl,⟨tb,e1.at hqb,(alB ()).imp λ _ _ t=>axP.ext t e1⟩,kB⟩;have al1:Al (λ Z y=>AxV H1 Z y) [A,B] [.ref p,.ref q]:=Al.cons' cA (Al.cons' cB Al.nil);have wk:=gh (K:=K) (R:=λ Z x H'=>AxV H' Z x) (λ _ _ _ _ h e=>h.ext e) h1 al1;exists cA;exists cB;clear hl1 al1;ac_rfl;refine bH [A,B] (λ _=>true) (λ Z=>.int (bL Z)) (λ Z x H'=>AxV H' Z x) wk.1 wk.2 (aj (by simp)) ?_ ?_
  ·intro D Z x H' N1 N0 hZ hD e hx k1 _;obtain⟨lz,rfl,⟨tz,hlz,alz⟩,kz⟩:=hx;have k1':=λ (_:Unit)=>k1 rfl;have hz3:=kz.len;have kzs:=λ (_:Unit)=>kz.sz;have wk2:=gh (K:=K) (R:=axP) (λ _ _ _ _ h e=>h.ext e) hlz alz;clear k1 wk k cA cB;simp! only [↓bA,↓aV];refine bH Z (λ _=>true) (λ a=>.int (min 0 ((a.1 - 1) * a.2))) axP wk2.1 wk2.2 (aj %[0|8]) ?_ ?_
   ·intro D2 a x H2 M1 M0 ha hD2 e2 ⟨aq,hx,haq⟩ k2 _;subst hx;have k2':M1 (.int (min 0 ((a.1 - 1) * a.2))) H2:=k2 rfl H2 (Ext.refl _);have hz:=kzs () a ha;have cm:jw a.2 (a.1 - 1):=.inr ⟨by omega,by omega⟩;rw [HK,Mt] at k2';clear k2 ha wk2 k1';simp! only [↓cz,↓aV]
   ·intro D2 H2 hD2 e2 h2;have h2':H2 D2=some (.lst ((Z.map λ a=>min 0 ((a.1 - 1) * a.2)).map V.int)):=by rw [h2,iR,KG];rfl
    have hsum:(Z.map λ a=>min 0 ((a.1 - 1) * a.2)).sum=bL Z:=rfl;have k3:=k1' () H2 e2;clear h2 wk2 k1';ac_rfl
  intro D3 H3 hD3 e3 h3;rw [iR] at h3;have h3':H3 D3=some (.lst [.int (bL A),.int (bL B)]):=h3;clear h3 wk hD3;ac_rfl;intro l4 H4 _ e4 h4;have cA4:AxV H4 A (.ref p):=(cA ()).ext (e3.trans e4);have cB4:AxV H4 B (.ref q):=(cB ()).ext (e3.trans e4);have wk:=gh (K:=K) (R:=λ Z x H'=>AxV H' Z x) (λ _ _ _ _ h e=>h.ext e) h4 (Al.cons' cA4 (Al.cons' cB4 Al.nil));have h3_4:=e4.at h3';clear cA4 cB4 h3';ac_rfl;refine bH [A,B] (λ _=>true) (λ Z=>.int (bM Z)) (λ Z x H'=>AxV H' Z x) wk.1 wk.2 (aj (by simp)) ?_ ?_
  ·intro D Z x H' N1 N0 hZ hD e hx k1 _;obtain⟨lz,rfl,⟨tz,hlz,alz⟩,kz⟩:=hx;have k1':=λ (_:Unit)=>k1 rfl;have hz3:=kz.len;have kzs:=λ (_:Unit)=>kz.sz;have wk2:=gh (K:=K) (R:=axP) (λ _ _ _ _ h e=>h.ext e) hlz alz;clear k1 wk k cA cB;simp! only [↓bA,↓aV];refine bH Z (λ _=>true) (λ a=>.int (max 0 ((a.1 - 1) * a.2))) axP wk2.1 wk2.2 (aj %[0|8]) ?_ ?_
   ·intro D2 a x H2 M1 M0 ha hD2 e2 ⟨aq,hx,haq⟩ k2 _;subst hx;have k2':M1 (.int (max 0 ((a.1 - 1) * a.2))) H2:=k2 rfl H2 (Ext.refl _);have hz:=kzs () a ha;have cm:jw a.2 (a.1 - 1):=.inr ⟨by omega,by omega⟩;rw [HL,Mt] at k2';clear k2 ha wk2 k1';simp! only [↓cz,↓aV]
   ·intro D2 H2 hD2 e2 h2;have h2':H2 D2=some (.lst ((Z.map λ a=>max 0 ((a.1 - 1) * a.2)).map V.int)):=by rw [h2,iR,KG];rfl
    have hsum:(Z.map λ a=>max 0 ((a.1 - 1) * a.2)).sum=bM Z:=rfl;have k3:=k1' () H2 e2;clear h2 wk2 k1';ac_rfl
  intro D5 H5 hD5 e5 h5;rw [iR] at h5;have h5':H5 D5=some (.lst [.int (bM A),.int (bM B)]):=h5;have h3_5:=e5.at h3_4;clear h5 wk hD5 h3_4;obtain⟨⟨la1,la2⟩,la3,la4⟩:=rT (λ a ha=>by have:=(kA.sz a ha).1;omega);obtain⟨⟨lb1,lb2⟩,lb3,lb4⟩:=rT (λ a ha=>by have:=(kB.sz a ha).1;omega);have nA:=kA.len;have nB:=kB.len;have wA0:=kA.wt;have wB0:=kB.wt;have axA:fE A:=⟨by omega,λ a ha=>by have:=(kA.sz a ha).1;omega⟩;have axB:fE B:=⟨by omega,λ a ha=>by have:=(kB.sz a ha).1;omega⟩;obtain⟨sA1,sA2⟩:=gT A λ a ha=>(axA.2 a ha).1;obtain⟨sB1,sB2⟩:=gT B λ a ha=>(axB.2 a ha).1;have e05:=e1.trans (e3.trans (e4.trans e5));have hpa5:=e05.at hpa;have hqb5:=e05.at hqb;obtain⟨fx,hfx⟩:∃ fx,(if 0 - bL A < 0 - g - bL B then 0 - g - bL B else 0 - bL A)=fx:=⟨_,rfl⟩
  have fx1:0 - bL A<=fx/\0 - g - bL B<=fx/\fx<=250000000000000000:=by rw [←hfx];split<;>omega
  obtain⟨f,hf⟩:∃ f,fx+lo=f:=⟨_,rfl⟩;obtain⟨lx,hlx⟩:∃ lx,(if f+bM A < f+g+bM B then f+g+bM B else f+bM A)=lx:=⟨_,rfl⟩
  have lx1:f+bM A<=lx/\f+g+bM B<=lx/\lx<=600000000000000000:=by rw [←hlx];split<;>omega
  obtain⟨room,hroom⟩:∃ room,lx+1+mo=room:=⟨_,rfl⟩;have vA:fX room f A:=⟨axA,by omega,by omega,by rw [sA1];omega,by rw [sA2];omega⟩;have hrb:room<=900000000000000000:=by omega
  have vW:fX (room+1) f (A.map au):=⟨axA.kept,by omega,by omega,by rw [KG,show au ∘ au=au from funext oR,sA1];omega,by rw [KG,show au ∘ au=au from funext oR,sA2];omega⟩;have vB:fX room (f+g) B:=⟨axB,by omega,by omega,by rw [sB1];omega,by rw [sB2];omega⟩;clear wA0 wB0 la1 la2 la3 la4 lb1 lb2 lb3 lb4 sA1 sA2 sB1 sB2 axA axB fx1 lx1 nA nB cA cB;ac_rfl;intro q6 H6 _ e6 h6;have hqb6:=e6.at hqb5;have al6:Al (λ z y=>axP z y H6) A ta:=(alA ()).imp λ _ _ t=>axP.ext t (e05.trans e6);clear hpa5;ac_rfl;intro x1 dx1 G1 hx1 hdx1 hne1 g1 k1 k1';rw [il];refine⟨dx1,A,k1,cI.ext ⟨ta,h6,zp al6⟩ g1,vA,λ G2 D2 g2' hD2 hx2 tt2=>?_⟩;have eg:=g2' H6 g1 hx1;have vo1:aB t.a_View G2 x1 room f (A.map au):=⟨dx1,D2,hx2,tt2⟩;have hqb7:=eg.at hqb6;have e07:=e05.trans (e6.trans eg);clear h6 al6 hqb6 k1 k1' hx1 hdx1 hne1 g1 g2' hD2 hx2 tt2;ac_rfl;intro q8 G3 _ e8 h8;have al8:Al (λ z y=>axP z y G3) B tb:=(alB ()).imp λ _ _ t=>axP.ext t (e07.trans e8);clear hqb7;ac_rfl;intro x2 dx2 G4 hx2 hdx2 hne2 g4 k4 k4';rw [il];refine⟨dx2,B,k4,cI.ext ⟨tb,h8,zp al8⟩ g4,vB,λ G5 D5' g5' hD5 hx5 tt5=>?_⟩;have eg2:=e8.trans (g5' G3 g4 hx2);have vo2:aB t.a_View G5 x2 room (f+g) (B.map au):=⟨dx2,D5',hx5,tt5⟩;clear h8 al8 k4 k4' hx2 hdx2 hne2 g4 g5' hD5 hx5 tt5;ac_rfl;intro rr G6 _ e9 h9;exact k () room f x1 x2 rr G6 (e07.trans (eg2.trans e9)) h9 (vo1.ext (eg2.trans e9)) (vo2.ext e9) vB hrb vW
theorem rV{zs:List Tm3}{cs:List (Int × Int)}(h:cs.length=zs.length):zs.zip cs=(List.range zs.length).map λ k=>(zs.getD k default,cs.getD k default):=by
 apply List.ext_getElem?;intro i;rw [J4]
 by_cases hi:i < zs.length
 ·rw [List.getElem?_range hi]
  show _=some (zs.getD i default,cs.getD i default)
  rw [KI,JY,JY,Jy hi,Jy (show i < cs.length by omega)];exact⟨rfl,rfl⟩
 ·rw [KW (by rw [Ll];omega),KW (by rw [Lm];omega)];rfl
theorem wY{zs:List Tm3}{cs:List (Int × Int)}(h:cs.length=zs.length):((List.range zs.length).map λ k=>(zs.getD k default).1 * (cs.getD k default).1).sum=iP zs cs/\((List.range zs.length).map λ k=>(zs.getD k default).1 * (cs.getD k default).2).sum=nX zs cs:=by
 unfold iP nX;rw [rV h,map_map,map_map];exact⟨rfl,rfl⟩
theorem gx{zs:List Tm3}{cs:List (Int × Int)}(h:cs.length=zs.length):(((List.range zs.length).filter λ k=>decide ((cs.getD k default).1 < (cs.getD k default).2)).map λ k=>(zs.getD k default).1)=bX zs cs:=by
 unfold bX;rw [rV h,List.filter_map,map_map];rfl
theorem BY{zs:List Tm3}(h:cG zs){k:Nat}(hk:k < zs.length):1<=(zs.getD k default).1/\(zs.getD k default).1<=2000000000000000000:=by
 rw [JY,Jy hk];exact(h.all _ (KR hk)).1
abbrev lU  (p:Addr) (q:Addr) (H:Hp) (Q:VK) (E:XK):Prop:=∃ (zs:List Tm3) (cs:List (Int × Int)),gv H p zs/\dP H q cs/\cG zs/\cs.length=zs.length/\∀ (r:Addr) (H':Hp),Ext H H'->H' r=some (.tup [.int (iP zs cs),.int (nX zs cs)])->Q (.ref r) H'
def mV  : Sp:=λ vs H Q E=>∃ (p:Addr) (q:Addr),vs=[.ref p,.ref q]/\(lU  p q H Q E)
theorem aZ  (p:Addr) (q:Addr) (H:Hp) (Q:VK) (E:XK):mV  [.ref p,.ref q] H Q E=(lU  p q H Q E):=pD (f:=λ (p:Addr) (q:Addr)=>[.ref p,.ref q]) (λ _ _ _ _ h=>by cases h;exact⟨rfl,rfl⟩) p q
theorem uq  {vs:List V}{H:Hp}{Q:VK}{E:XK}(h:mV  vs H Q E):vs.length=2:=pF h λ _ _=>rfl
theorem cP(T:Tx K mg t):bP P w K mg base CX0 1 t.a__law_sums t.d__law_sums ["_law_terms_here", "_law_case"] mV:=by
 refine T.F__law_sums.ok iD (λ vs H Q E h=>uq h) (λ c A o s H vs Q E hr h=>?_)
 ·obtain⟨p,q,rfl,zs,cs,⟨ts,hp,al⟩,⟨xs,hq,bl⟩,ht,hcl,k⟩:=h;refine⟨_,%[%[2,iD,%[sum,(cq rfl),%[%[(["_law_k", "_law_terms_here", "_law_case", "_law_least"]),(1),(aH (ae cE) ["_law_terms_here", "_law_case", "_law_least"] rfl rfl nofun),rfl,%[∅,T.z_range,%[%[len,ao,%[%[0|0]|1]|6]|1],∅|41],(λ C s₀ H₀ ex pn=>%[(0),_,(show List.Nodup (["_law_k", "_law_terms_here", "_law_case", "_law_least"]:List Str) from by decide +kernel),rfl,(Or.inl rfl),%[0|7]|20]),(λ C s₀ H₀ ex pn=>(@aX _)),(λ C s₀ H₀ ex pn=>%[cy,%[az,%[az,%[1|0],%[0|0],(λ _ _=>rfl)|11],%[0|2],(λ _ _=>rfl)|11],%[az,%[az,%[2|0],%[0|0],(λ _ _=>rfl)|11],%[0|2],(λ _ _=>rfl)|11]|9]),(by intros;rfl)|26]|1]|6]|4],%[%[%[%[%[2|0],%[%[sum,(cq rfl),%[%[(["_law_k", "_law_terms_here", "_law_case", "_law_least"]),(1),(aH (ae cE) ["_law_terms_here", "_law_case", "_law_least"] rfl rfl nofun),rfl,%[∅,T.z_range,%[%[len,ao,%[%[0|0]|1]|6]|1],∅|41],(λ C s₀ H₀ ex pn=>%[(0),_,(show List.Nodup (["_law_k", "_law_terms_here", "_law_case", "_law_least"]:List Str) from by decide +kernel),rfl,(Or.inl rfl),%[0|7]|20]),(λ C s₀ H₀ ex pn=>(@aX _)),(λ C s₀ H₀ ex pn=>%[cy,%[az,%[az,%[1|0],%[0|0],(λ _ _=>rfl)|11],%[0|2],(λ _ _=>rfl)|11],%[az,%[az,%[2|0],%[0|0],(λ _ _=>rfl)|11],%[0|2],(λ _ _=>rfl)|11]|9]),(by intros;rfl)|26]|1]|6]|1]|1]|14]|13]|12]|10],?_⟩;rw [show aJ ["_law_terms_here", "_law_case", "_law_least"] [.ref p,.ref q]=[some (.ref p),some (.ref q),none] from rfl];have h17:=ht.len;have htl:ts.length=zs.length:=al.1;obtain⟨sm1,sm2⟩:=wY hcl;exists k;exists al;exists bl;exists sm1;exists sm2;ac_rfl;refine⟨by omega,by omega,?_⟩;refine bH (List.range ((zs.length:Int)).toNat) (λ _=>true) (λ k=>.int ((zs.getD k default).1 * (cs.getD k default).1)) (λ j x H'=>x=.int (0+(j:Nat))) dF.1 dF.2 (aj (by rw [Lm];omega)) ?_ ?_
  ·intro D k x H' N1 N0 hk hD e hx k1 _;subst hx;have hkr:=Kt.mp hk;have hkz:k < zs.length:=by omega
   have hkc:k < cs.length:=by omega
   obtain⟨c1,c2,hu⟩:=dc (bl ()) hkc;obtain⟨z1,z2,hz⟩:=kW (al ()) hkz;have hp':=e.at hp;have hq':=e.at hq;have hu':=e.at hu;have hz':=e.at hz;have tt:=BY ht hkz;have k1':N1 (.int ((zs.getD k default).1 * (cs.getD k default).1)) H':=k1 rfl H' (Ext.refl _);have cm:jw (zs.getD k default).1 (cs.getD k default).1:=.inl ⟨by omega,by omega⟩;generalize zs.getD k default=zi at *;generalize cs.getD k default=ci at *;clear k1 hk hp hq hu hz sm1 sm2;simp! only [↓bA,↓aV]
  intro D H1 hD e1 h1;rw [iR,Kk,show ((List.range zs.length).map λ k=>V.int ((zs.getD k default).1 * (cs.getD k default).1))=((List.range zs.length).map λ k=>(zs.getD k default).1 * (cs.getD k default).1).map V.int by rw [KG];rfl] at h1;have hp1:=e1.at hp;have sm1':=sm1 ();generalize ((List.range zs.length).map λ k=>(zs.getD k default).1 * (cs.getD k default).1)=ls at h1 sm1';clear hD sm1;ac_rfl;refine⟨by omega,by omega,?_⟩;clear sm1' h1;refine bH (List.range ((zs.length:Int)).toNat) (λ _=>true) (λ k=>.int ((zs.getD k default).1 * (cs.getD k default).2)) (λ j x H'=>x=.int (0+(j:Nat))) dF.1 dF.2 (aj (by rw [Lm];omega)) ?_ ?_
  ·intro D k x H' N1 N0 hk hD e hx k1 _;subst hx;have hkr:=Kt.mp hk;have hkz:k < zs.length:=by omega
   have hkc:k < cs.length:=by omega
   obtain⟨c1,c2,hu⟩:=dc (bl ()) hkc;obtain⟨z1,z2,hz⟩:=kW (al ()) hkz;have hp':=e.at hp1;have hq':=(e1.trans e).at hq;have hu':=(e1.trans e).at hu;have hz':=(e1.trans e).at hz;have tt:=BY ht hkz;have k1':N1 (.int ((zs.getD k default).1 * (cs.getD k default).2)) H':=k1 rfl H' (Ext.refl _);have cm:jw (zs.getD k default).1 (cs.getD k default).2:=.inl ⟨by omega,by omega⟩;generalize zs.getD k default=zi at *;generalize cs.getD k default=ci at *;clear k1 hk hp hq hu hz hp1 sm2;simp! only [↓bA,↓aV]
  intro D2 H2 hD2 e2 h2;rw [iR,Kk,show ((List.range zs.length).map λ k=>V.int ((zs.getD k default).1 * (cs.getD k default).2))=((List.range zs.length).map λ k=>(zs.getD k default).1 * (cs.getD k default).2).map V.int by rw [KG];rfl] at h2;have sm2':=sm2 ();generalize ((List.range zs.length).map λ k=>(zs.getD k default).1 * (cs.getD k default).2)=gs at h2 sm2';clear hD2 sm2;ac_rfl;intro r3 H3 _ e3 h3;exact k () r3 H3 (e1.trans (e2.trans e3)) h3
abbrev pj  (p:Addr) (H:Hp) (Q:VK) (E:XK):Prop:=∃ ns:List Int,H p=some (.lst (ns.map V.int))/\(∀ n∈ns,0<=n)/\Q (.int (pH ns)) H
def rC  : Sp:=λ vs H Q E=>∃ (p:Addr),vs=[.ref p]/\(pj  p H Q E)
theorem o6  (p:Addr) (H:Hp) (Q:VK) (E:XK):rC  [.ref p] H Q E=(pj  p H Q E):=ve (f:=λ (p:Addr)=>[.ref p]) (λ _ _ h=>by cases h;exact rfl) p
theorem xa  {vs:List V}{H:Hp}{Q:VK}{E:XK}(h:rC  vs H Q E):vs.length=1:=qR h λ _=>rfl
theorem eu(T:Tx K mg t):bP P w K mg base CX0 1 t.a__law_divisor t.d__law_divisor ["_law_numbers"] rC:=by
 refine T.F__law_divisor.ok bx (λ vs H Q E h=>xa h) (λ c A o s H vs Q E hr h=>?_)
 ·obtain⟨p,rfl,ns,hp,hn,k⟩:=h;refine⟨_,%[%[1,bx,%[0|2]|4],%[%[J9,rfl,%[%[0|0]|23],%[2,bx|5],%[%[3,bx,%[1|0]|4],%[(@oM _ _ _ _ _ _ J9 %[dm,%[2|0],%[0|2],(af _)|15] %[(@CV _ _ (3) (2) _ _ _ _ _ _ _ _ _ _ _ rfl bx.nd rfl rfl ⋯ rfl rfl %[%[2|0],%[%[aO,%[3|0],%[2|0]|9]|1]|1] rfl ∅)|12]),%[%[1,bx,%[3|0]|4]|12]|10]|10],(by intros;rfl)|35],%[%[%[1|0]|13]|12]|10]|10],?_⟩;rw [show aJ ["_law_numbers", "_law_found", "_law_other", "_law_one"] [.ref p]=[some (.ref p),none,none,none] from rfl];exists hn;ac_rfl;refine eS (xs:=ns.map V.int) (λ i σ H'=>∃ v w:Option V,σ=[some (.ref p),some (.int (pH (ns.take i))),v,w]/\H'=H) ⟨none,none,rfl,rfl⟩ (λ i σ H' _ ⟨_,_,_,e⟩=>by rw [e];exact hp) ?_ ?_
  ·rintro i y _ _ hi ⟨v,w',rfl,rfl⟩;rename_i H;rw [J4] at hi;obtain⟨z,hz,rfl⟩:=J7.mp hi;have e1:=uJ ns i z hz;have hz0:=hn () z (K8 hz);have hg0:=nk (ns.take i);generalize pH (ns.take (i+1))=g1 at *;generalize pH (ns.take i)=g0 at *;exists e1;clear hz hi k;simp! only [↓aQ];refine rW (by repeat' first|exact Cn|exact yq|exact mo_nI|apply oP|apply mo_unN|exact rO|exact HJ|exact rP|exact mo_rI|exact mo_rIsN|exact mo_rNotN|exact yo|exact mo_qIx|exact yp|exact so|apply nc|apply mo_tB|apply mo_not|apply yr|apply mo_or|apply Co|apply mo_un|apply sr|apply sm|apply Cp) (λ m σ H'=>∃ (f r:Int),σ=[some (.ref p),some (.int g0),some (.int r),some (.int f)]/\H'=H/\m=r.toNat/\0<=f/\0<=r/\Int.gcd f r=Int.gcd g0 z) _ ⟨g0,z,rfl,rfl,rfl,hg0,hz0,rfl⟩ ?_;rintro m _ _ ⟨f,r,rfl,rfl,rfl,hf,hr',hg⟩;rename_i H
   by_cases hz:r=0
   ·subst hz;have e:f=g1:=by rw [e1 (),←hg];exact(xu f hf).symm
    clear hg hn e1;ac_rfl;exact⟨_,_,rfl⟩
   ·have hp:0 < r:=by omega
    have e1:=xv f r hp hf;have e2:=Ko f hp;have e3:=Kb f hz;have e4:=λ (_:Unit)=>e1.trans hg;clear hg e1 hn;ac_rfl;exact⟨_,by omega,_,_,rfl,rfl,hr',e3,e4 ()⟩
  ·rintro _ _ ⟨v,w',rfl,rfl⟩;rename_i H;have e2:pH (ns.take (ns.map V.int).length)=pH ns:=by rw [JP,L4]
   rw [e2];clear e2;ac_rfl
theorem xI{g l gr r:Int}(h:g < l):dX g l gr r=true:=by unfold dX;rw [decide_eq_true h];rfl
theorem xH{g l gr r:Int}(h:gr < g):dX g l gr r=true:=by unfold dX;rw [decide_eq_true h,Bool.or_true];rfl
theorem xG{g l gr r:Int}(h:1 < r)(h':(g - l) % r ≠ 0):dX g l gr r=true:=by
 unfold dX;have:=Int.emod_nonneg (g - l) (show r ≠ 0 by omega);rw [decide_eq_true h,decide_eq_true (show 0 < (g - l) % r by omega),Bool.true_and,Bool.or_true]
theorem xF{g l gr r:Int}(h1:¬ g < l)(h2:¬ gr < g)(h3:¬ 1 < r):dX g l gr r=false:=by unfold dX;rw [decide_eq_false h1,decide_eq_false h2,decide_eq_false h3];rfl
theorem xE{g l gr r:Int}(h1:¬ g < l)(h2:¬ gr < g)(h3:(g - l) % r=0):dX g l gr r=false:=by unfold dX;rw [decide_eq_false h1,decide_eq_false h2,h3,decide_eq_false (Int.lt_irrefl 0),Bool.and_false];rfl
abbrev xX  (p:Addr) (g:Int) (q:Addr) (H:Hp) (Q:VK) (E:XK):Prop:=∃ (zs:List Tm3) (cs:List (Int × Int)),gv H p zs/\dP H q cs/\cG zs/\fD zs cs/\∀ H',Ext H H'->Q (.bl (CA zs cs g)) H'
def yg  : Sp:=λ vs H Q E=>∃ (p:Addr) (g:Int) (q:Addr),vs=[.ref p,.int g,.ref q]/\(xX  p g q H Q E)
theorem xb  {vs:List V}{H:Hp}{Q:VK}{E:XK}(h:yg  vs H Q E):vs.length=3:=pE h λ _ _ _=>rfl
theorem kl(T:Tx K mg t):bP P w K mg base CX0 2 t.a__law_ended t.d__law_ended ["_law_terms_here", "_law_goal", "_law_case"] yg:=by
 have G__law_sums:=%[cP|49];have G__law_divisor:=%[eu|49];refine T.F__law_ended.ok cS (λ vs H Q E h=>xb h) (λ c A o s H vs Q E hr h=>?_)
 ·obtain⟨p,g,q,rfl,zs,cs,hp,hq,ht,hc,k⟩:=h;refine⟨_,%[(@gH _ _ _ _ _ _ %[_law_sums,%[%[0|0],%[%[2|0]|1]|1]|3] (%[(2),rfl,%[%[3,cS|5],%[%[4,cS|5],(@aK _),∅|19],∅|19],∅,∅|27].mono λ _ _ _ _ h=>bN h) ∅ ∅ ∅),%[%[5,cS,%[_law_divisor,%[%[(["_law_k", "_law_terms_here", "_law_goal", "_law_case", "_law_least", "_law_greatest", "_law_rest_here"]),(1),(aH (ae cM) ["_law_terms_here", "_law_goal", "_law_case", "_law_least", "_law_greatest", "_law_rest_here"] rfl rfl nofun),rfl,%[∅,T.z_range,%[%[len,ao,%[%[0|0]|1]|6]|1],∅|41],(λ C s₀ H₀ ex pn=>%[(0),_,(show List.Nodup (["_law_k", "_law_terms_here", "_law_goal", "_law_case", "_law_least", "_law_greatest", "_law_rest_here"]:List Str) from by decide +kernel),rfl,(Or.inl rfl),%[0|7]|20]),(λ C s₀ H₀ ex pn=>(@jD _ _ _ %[dk,%[az,%[az,%[3|0],%[0|0],(λ _ _=>rfl)|11],%[0|2],(λ _ _=>rfl)|11],%[az,%[az,%[3|0],%[0|0],(λ _ _=>rfl)|11],%[0|2],(λ _ _=>rfl)|11],(af _)|15])),(λ C s₀ H₀ ex pn=>%[az,%[az,%[1|0],%[0|0],(λ _ _=>rfl)|11],%[0|2],(λ _ _=>rfl)|11]),(by intros;rfl)|26]|1]|3]|4],%[%[(@ym _ _ _ _ _ _ _ %[dm,%[3|0],%[1|0],(af _)|25] (@ym _ _ _ _ _ _ _ %[dk,%[4|0],%[1|0],(af _)|25] %[%[%[dm,%[5|0],%[0|2],(af _)|25],%[%[dm,%[aO,%[aN,%[1|0],%[3|0]|9],%[5|0]|9],%[0|2],(af _)|25]|38]|30]|38]))|13]|12]|10]|10],?_⟩;rw [show aJ ["_law_terms_here", "_law_goal", "_law_case", "_law_least", "_law_greatest", "_law_rest_here"] [.ref p,.int g,.ref q]=[some (.ref p),some (.int g),some (.ref q),none,none,none] from rfl];clear G__law_sums G__law_divisor;have h17:=ht.len;have hcl:=hc.len;have rs:=gx hcl;unfold CA at k;exists k;exists rs;exists hcl;ac_rfl;rw [aZ];refine⟨zs,cs,hp,hq,ht,hcl (),λ r1 H1 e1 h1=>?_⟩;obtain⟨ts,hp1,al⟩:=bY hp e1;obtain⟨xs,hq1,bl⟩:=br hq e1;have htl:ts.length=zs.length:=al.1;exists al;exists bl;clear hp hq;ac_rfl;refine⟨by omega,by omega,?_⟩;refine bH (List.range ((zs.length:Int)).toNat) (λ k=>decide ((cs.getD k default).1 < (cs.getD k default).2)) (λ k=>.int (zs.getD k default).1) (λ j x H'=>x=.int (0+(j:Nat))) dF.1 dF.2 (aj (by rw [length_range];omega)) ?_ ?_
  ·intro D k x H' N1 N0 hk hD e hx k1 k0;subst hx;have hkr:=Kt.mp hk;have hkz:k < zs.length:=by omega
   have hkc:k < cs.length:=by have:=hcl ();omega
   obtain⟨c1,c2,hu⟩:=dc (bl ()) hkc;obtain⟨z1,z2,hz⟩:=kW (al ()) hkz;have hp':=e.at hp1;have hq':=e.at hq1;have hu':=e.at hu;have hz':=e.at hz;generalize zs.getD k default=zi at *;generalize cs.getD k default=ci at *;clear hk hp1 hq1 hu hz rs
   by_cases hlt:ci.1 < ci.2
   ·have k1':N1 (.int zi.1) H':=k1 (JZ hlt) H' (Ext.refl _);clear k1 k0;simp! only [↓bA,↓aV]
   ·have k0':N0 H':=k0 (JW hlt) H' (Ext.refl _);clear k1 k0;simp! only [↓bA,↓aV]
  intro D H2 hD e2 h2;rw [Kk,show (((List.range zs.length).filter λ k=>decide ((cs.getD k default).1 < (cs.getD k default).2)).map λ k=>V.int (zs.getD k default).1)=(bX zs cs).map V.int by rw [←rs (),KG];rfl] at h2
  have hnn:∀ n∈bX zs cs,(0:Int)<=n:=λ n hn=>by
   unfold bX at hn;obtain⟨z,hz,rfl⟩:=List.mem_map.mp hn;have:=(ht.all z.1 (of_mem_zip (show (z.1,z.2)∈zs.zip cs from (List.mem_filter.mp hz).1)).1).1;omega
  have hgn:=nk (bX zs cs);exists hnn;clear hD;ac_rfl;rw [o6];refine⟨_,h2,hnn (),?_⟩;have k':=λ (_:Unit)=>k () H2 (e1.trans e2);clear k hnn h2 rs;generalize pH (bX zs cs)=r at *;generalize iP zs cs=l at *;generalize nX zs cs=gr at *
  by_cases x1:g < l
  ·have k2:=k' ();rw [xI x1] at k2;clear k';ac_rfl
  by_cases x2:gr < g
  ·have k2:=k' ();rw [xH x2] at k2;clear k';ac_rfl
  by_cases x3:1 < r
  ·have hr0:0 < r:=by omega
   by_cases x4:0 < (g - l) % r
   ·have k2:=k' ();rw [xG x3 %[0|8]] at k2;clear k';ac_rfl
   ·have x5:(g - l) % r=0:=by have:=Kb (g - l) (show r ≠ 0 by omega);omega
    have k2:=k' ();rw [xE x1 x2 x5] at k2;clear k' x5;ac_rfl
  ·have k2:=k' ();rw [xF x1 x2 x3] at k2;clear k';ac_rfl
theorem zI{zs:List Tm3}{cs:List (Int × Int)}{d:Int}{k:Nat}(hl:cs.length=zs.length)(h:∀ n∈bX zs cs,d ∣ n)(hk:k < zs.length)(hlt:(cs.getD k default).1 < (cs.getD k default).2):(zs.getD k default).1 % d=0:=by
 refine Int.emod_eq_zero_of_dvd (h _ ?_);rw [←gx hl];exact J0.mpr ⟨k,K0.mpr ⟨Kt.mpr hk,JZ hlt⟩,rfl⟩
def ItV(H:Hp)(y:V):Prop:=y=.non\/(∃ i,y=.int i)\/(∃ b,y=.bl b)\/(∃ z,y=.str z/\PyData.strOk z=true)\/∃ p i,y=.ref p/\H p=some (.lst [.int i])
def Jk(H:Hp)(xs:List V):Prop:=xs.length<=5/\(∀ y∈xs,ItV H y)/\(xs=[]\/∃ ys,xs=.non::ys\/∃ z,xs=.str z::ys)
def ThS(H:Hp)(x:V):Prop:=x=.non\/(∃ i,x=.int i)\/(∃ z,x=.str z/\PyData.strOk z=true)\/(∃ p xs,x=.ref p/\H p=some (.lst xs)/\∀ y∈xs,ItV H y)\/∃ p xs,x=.ref p/\H p=some (.tup xs)/\Jk H xs
theorem ItV.ext{H H':Hp}{y:V}(h:ItV H y)(e:Ext H H'):ItV H' y:=by
 rcases h with h|h|h|h|⟨p,i,h,hp⟩
 ·exact .inl h
 ·exact .inr (.inl h)
 ·exact .inr (.inr (.inl h))
 ·exact .inr (.inr (.inr (.inl h)))
 ·exact .inr (.inr (.inr (.inr ⟨p,i,h,e.at hp⟩)))
theorem ThS.ext{H H':Hp}{y:V}(h:ThS H y)(e:Ext H H'):ThS H' y:=by
 rcases h with h|h|h|⟨p,xs,h,hp,hx⟩|⟨p,xs,h,hp,h1,h2,h3⟩
 ·exact .inl h
 ·exact .inr (.inl h)
 ·exact .inr (.inr (.inl h))
 ·exact .inr (.inr (.inr (.inl ⟨p,xs,h,e.at hp,λ y hy=>(hx y hy).ext e⟩)))
 ·exact .inr (.inr (.inr (.inr ⟨p,xs,h,e.at hp,h1,λ y hy=>(h2 y hy).ext e,h3⟩)))
theorem ItV.wh{H:Hp}{y:V}(h:ItV H y):isW H y=some (inB y):=by
 rcases h with rfl|⟨i,rfl⟩|⟨b,rfl⟩|⟨z,rfl,_⟩|⟨p,i,rfl,hp⟩
 ·rfl
 ·rfl
 ·rfl
 ·rfl
 ·show ((H p).bind tyO).map (λ _=>false)=some false
  rw [hp];rfl
theorem ThS.thv{H:Hp}{y:V}(h:ThS H y):ThV H y:=by
 rcases h with h|h|⟨z,h,_⟩|⟨p,xs,h,hp,_⟩|⟨p,xs,h,hp,h1,h2,h3⟩
 ·exact .inl h
 ·exact .inr (.inl h)
 ·exact .inr (.inr (.inl ⟨z,h⟩))
 ·exact .inr (.inr (.inr (.inl ⟨p,xs,h,hp⟩)))
 ·exact .inr (.inr (.inr (.inr ⟨p,xs,h,hp,h1,λ y hy=>by rw [(h2 y hy).wh];rfl,h3⟩)))
def itD(H:Hp)(y:V):PyData:=(bc H (bc H noD) y).getD .none
theorem ItV.dat{H:Hp}{y:V}(h:ItV H y):(∀ f,bc H (bc H f) y=some (itD H y))/\PyData.eqv (itD H y) (itD H y)=true:=by
 rcases h with rfl|⟨i,rfl⟩|⟨b,rfl⟩|⟨z,rfl,hz⟩|⟨p,i,rfl,hp⟩
 ·exact⟨λ _=>rfl,rfl⟩
 ·exact⟨λ _=>rfl,by show PyData.eqv (.int i) (.int i)=true;rw [nr];exact JZ rfl⟩
 ·exact⟨λ _=>rfl,by show PyData.eqv (.bool b) (.bool b)=true;rw [xC];exact JZ rfl⟩
 ·have e:∀ f,bc H f (.str z)=some (.str z):=λ f=>by rw [fS,JM hz]
  have e2:itD H (.str z)=.str z:=by unfold itD;rw [e];rfl
  exact⟨λ f=>by rw [e,e2],by rw [e2,nq];exact Kp z⟩
 ·have e:∀ f,bc H (bc H f) (.ref p)=some (.list [.int i]):=λ f=>by rw [cw,hp];rfl
  have e2:itD H (.ref p)=.list [.int i]:=by unfold itD;rw [e];rfl
  exact⟨λ f=>by rw [e,e2],by rw [e2,j2,fg,fT,nr];simp⟩
theorem i4{H:Hp}{g:V->Option PyData}{k:V->PyData}:∀ {xs:List V},(∀ y∈xs,g y=some (k y))->aI (xs.map g)=some (xs.map k)
 | [],_=>rfl
 | x::xs,h=>by rw [KA,h x JI,cc,i4 (H:=H) λ y hy=>h y (JG _ hy)];rfl
theorem oy{k:V->PyData}:∀ {xs:List V},(∀ y∈xs,PyData.eqv (k y) (k y)=true)->PyData.eqvAll (xs.map k) (xs.map k)=true
 | [],_=>fT
 | x::xs,h=>by rw [KA,fg,h x JI,oy λ y hy=>h y (JG _ hy)];rfl
def thD(H:Hp)(y:V):PyData:=(bc H (bc H (bc H noD)) y).getD .none
theorem ThS.dat{H:Hp}{y:V}(h:ThS H y):(∀ f,bc H (bc H (bc H f)) y=some (thD H y))/\PyData.eqv (thD H y) (thD H y)=true:=by
 rcases h with rfl|⟨i,rfl⟩|⟨z,rfl,hz⟩|⟨p,xs,rfl,hp,hx⟩|⟨p,xs,rfl,hp,h1,h2,h3⟩
 ·exact⟨λ _=>rfl,rfl⟩
 ·exact⟨λ _=>rfl,by show PyData.eqv (.int i) (.int i)=true;rw [nr];exact JZ rfl⟩
 ·have e:∀ f,bc H f (.str z)=some (.str z):=λ f=>by rw [fS,JM hz]
  have e2:thD H (.str z)=.str z:=by unfold thD;rw [e];rfl
  exact⟨λ f=>by rw [e,e2],by rw [e2,nq];exact Kp z⟩
 ·have e:∀ f,bc H (bc H (bc H f)) (.ref p)=some (.list (xs.map (itD H))):=λ f=>by
   rw [cw,hp]
   show vg (bc H (bc H f)) (.lst xs)=_
   rw [eI,i4 (H:=H) λ y hy=>(hx y hy).dat.1 f];rfl
  have e2:thD H (.ref p)=.list (xs.map (itD H)):=by unfold thD;rw [e];rfl
  exact⟨λ f=>by rw [e,e2],by rw [e2,j2];exact oy λ y hy=>(hx y hy).dat.2⟩
 ·have e:∀ f,bc H (bc H (bc H f)) (.ref p)=some (.tuple (xs.map (itD H))):=λ f=>by
   rw [cw,hp]
   show vg (bc H (bc H f)) (.tup xs)=_
   rw [eG,i4 (H:=H) λ y hy=>(h2 y hy).dat.1 f];rfl
  have e2:thD H (.ref p)=.tuple (xs.map (itD H)):=by unfold thD;rw [e];rfl
  exact⟨λ f=>by rw [e,e2],by rw [e2,lI];exact oy λ y hy=>(h2 y hy).dat.2⟩
def HB(zs:List Tm3)(g:Int)(cs:List (Int × Int))(y:V):Prop:=∃ d,y=.int d/\2<=d/\(∀ n∈bX zs cs,d ∣ n)/\(g - iP zs cs) % d ≠ 0
def RsI(zs:List Tm3)(cs:List (Int × Int))(d:Int)(j:Nat):Prop:=∀ i,i < j->(cs.getD i default).1 < (cs.getD i default).2->(zs.getD i default).1 % d=0
theorem RsI.step{zs:List Tm3}{cs:List (Int × Int)}{d:Int}{j:Nat}(h:RsI zs cs d j)(hj:(cs.getD j default).1 < (cs.getD j default).2->(zs.getD j default).1 % d=0):RsI zs cs d (j+1):=λ i hi hl=>by
 rcases Nat.lt_or_ge i j with q|q
 ·exact h i q hl
 ·have e:i=j:=by omega
  subst e;exact hj hl
theorem RsI.all{zs:List Tm3}{cs:List (Int × Int)}{d:Int}(hl:cs.length=zs.length)(h:RsI zs cs d zs.length):∀ n∈bX zs cs,d ∣ n:=λ n hn=>by
 rw [←gx hl] at hn;obtain⟨k,hk,rfl⟩:=J0.mp hn;obtain⟨h1,h2⟩:=K0.mp hk;exact Int.dvd_of_emod_eq_zero (h k (Kt.mp h1) (LJ h2))
abbrev lV  (p:Addr) (g:Int) (q:Addr) (y:V) (H:Hp) (Q:VK) (E:XK):Prop:=∃ (zs:List Tm3) (cs:List (Int × Int)),gv H p zs/\dP H q cs/\cG zs/\fD zs cs/\ItV H y/\∀ (b:Bool) H',Ext H H'->(b=true ↔ HB zs g cs y)->Q (.bl b) H'
def mW  : Sp:=λ vs H Q E=>∃ (p:Addr) (g:Int) (q:Addr) (y:V),vs=[.ref p,.int g,.ref q,y]/\(lV  p g q y H Q E)
theorem u3  (p:Addr) (g:Int) (q:Addr) (y:V) (H:Hp) (Q:VK) (E:XK):mW  [.ref p,.int g,.ref q,y] H Q E=(lV  p g q y H Q E):=BL (f:=λ (p:Addr) (g:Int) (q:Addr) (y:V)=>[.ref p,.int g,.ref q,y]) (λ _ _ _ _ _ _ _ _ h=>by cases h;exact⟨rfl,rfl,rfl,rfl⟩) p g q y
theorem ur  {vs:List V}{H:Hp}{Q:VK}{E:XK}(h:mW  vs H Q E):vs.length=4:=BM h λ _ _ _ _=>rfl
theorem mh(T:Tx K mg t):bP P w K mg base CX0 2 t.a__law_rest t.d__law_rest ["_law_terms_here", "_law_goal", "_law_case", "_law_by"] mW:=by
 have G__law_sums:=%[cP|49];have G__law_whole:=%[fA|49];refine T.F__law_rest.ok iE (λ vs H Q E h=>ur h) (λ c A o s H vs Q E hr h=>?_)
 ·obtain⟨p,g,q,y,rfl,zs,cs,hp,hq,ht,hc,hy,k⟩:=h;refine⟨_,%[%[(PW.pt %[%[%[%[_law_whole,%[%[3|0]|1]|3],(by intros;rfl)|22]|24],%[%[dk,%[3|0],%[0|2],(af _)|15]|37]|28]),%[%[(@bD _ _ _ _)|13]|12],(@ai _)|16],%[%[J9,rfl,%[∅,T.z_range,%[%[len,ao,%[%[0|0]|1]|6]|1],∅|41],%[4,iE|5],%[%[(PW.pt %[%[dk,%[az,%[az,%[2|0],%[4|0],(λ _ _=>rfl)|11],%[0|2],(λ _ _=>rfl)|11],%[az,%[az,%[2|0],%[4|0],(λ _ _=>rfl)|11],%[0|2],(λ _ _=>rfl)|11],(af _)|15],%[%[dm,%[aO,%[az,%[az,%[0|0],%[4|0],(λ _ _=>rfl)|11],%[0|2],(λ _ _=>rfl)|11],%[3|0]|9],%[0|2],(af _)|15]|39]|33]),%[%[(@bD _ _ _ _)|13]|12],(@ai _)|16]|12],(by intros;rfl)|35],%[%[%[dm,%[aO,%[aN,%[1|0],%[az,%[_law_sums,%[%[0|0],%[%[2|0]|1]|1]|3],%[0|2],(λ _ _=>rfl)|11]|9],%[3|0]|9],%[0|2],(af _)|25]|13]|12]|10]|10],?_⟩;rw [show aJ ["_law_terms_here", "_law_goal", "_law_case", "_law_by", "_law_k"] [.ref p,.int g,.ref q,y]=[some (.ref p),some (.int g),some (.ref q),some (y),none] from rfl];clear G__law_sums G__law_whole;have hw:=hy.wh;have h17:=ht.len;have hcl:=hc.len;obtain⟨ts,hp1,al⟩:=hp;obtain⟨xs,hq1,bl⟩:=hq;have htl:ts.length=zs.length:=al.1;exists k;exists hcl;exists al;exists bl
  cases hyi:inB y with
  | false=>
   have k2:=k () false H (Ext.refl _) ⟨(λ h=>by cases h),λ ⟨d,h,_⟩=>by rw [h] at hyi;cases hyi⟩;rw [hyi] at hw;clear k hy hyi;simp! only [↓aR]
  | true=>
  obtain⟨d,rfl⟩:∃ d,y=.int d:=by
   cases y with
   | int d=>exact⟨d,rfl⟩
   | _=>cases hyi
  have kn:∀ {b:Bool},b=false->¬ (2<=d/\(∀ n∈bX zs cs,d ∣ n)/\(g - iP zs cs) % d ≠ 0)->Q (.bl false) H:=λ _ h=>k () false H (Ext.refl _) ⟨(λ h=>by cases h),λ ⟨d',e,h'⟩=>by cases e;exact absurd h' h⟩;replace kn:=λ (_:Unit)=>@kn;clear hy hyi hw
  by_cases hd2:d < 2
  ·have k2:=kn () (b:=false) rfl %[0|8];clear k kn;simp! only [↓aR]
  have hd0:0 < d:=by omega
  simp! only [↓aR];refine⟨by omega,by omega,?_⟩;refine jH (λ j σ H'=>∃ v:Option V,σ=[some (.ref p),some (.int g),some (.ref q),some (.int d),v]/\H'=H/\RsI zs cs d j) ⟨none,rfl,rfl,λ i hi=>absurd hi (Nat.not_lt_zero _)⟩ ?_ ?_
  ·rintro j _ _ hj ⟨v,rfl,rfl,rs⟩;rename_i H;have hkz:j < zs.length:=by have:j < ((zs.length:Int)).toNat:=hj;omega
   have hkc:j < cs.length:=by have:=hcl ();omega
   obtain⟨c1,c2,hu⟩:=dc (bl ()) hkc;obtain⟨z1,z2,hz⟩:=kW (al ()) hkz;have kn2:=λ (_:Unit)=>λ (h1:(cs.getD j default).1 < (cs.getD j default).2) (h2:0 < (zs.getD j default).1 % d)=>kn () (b:=false) rfl (λ h=>by have:=zI (hcl ()) h.2.1 hkz h1;omega);have rs2:=λ (_:Unit)=>λ h=>rs.step h;generalize zs.getD j default=zi at *;generalize cs.getD j default=ci at *;clear hj k rs kn
   by_cases hlt:ci.1 < ci.2
   ·by_cases hm:0 < zi.1 % d
    ·have k2:=kn2 () hlt hm;clear kn2 rs2;simp! only [↓aQ]
    ·have hm0:zi.1 % d=0:=by have:=Kb zi.1 (show d ≠ 0 by omega);omega
     have rs3:=λ (_:Unit)=>rs2 () λ _=>hm0;clear kn2 rs2 hm;simp! only [↓aQ];exact⟨_,rfl,rs3 ()⟩
   ·have rs3:=λ (_:Unit)=>rs2 () λ h=>absurd h hlt;clear kn2 rs2;simp! only [↓aQ];exact⟨_,rfl,rs3 ()⟩
  ·rintro _ _ ⟨v,rfl,rfl,rs⟩;rename_i H;rw [Kk] at rs;have hall:=λ (_:Unit)=>rs.all (hcl ());clear rs kn;ac_rfl;rw [aZ];refine⟨zs,cs,⟨ts,hp1,al ()⟩,⟨xs,hq1,bl ()⟩,ht,hcl (),λ r1 H1 e1 h1=>?_⟩
   have k':=k () (decide (0 < (g - iP zs cs) % d)) H1 e1 (by
    have hnn:=Kb (g - iP zs cs) (show d ≠ 0 by omega);rw [KH];constructor
    ·intro h;exact⟨d,rfl,by omega,hall (),by omega⟩
    ·rintro ⟨d',e,_,_,h⟩;cases e;omega)
   clear k hall;ac_rfl
theorem oG{xs:List V}{k:Nat}{y:V}(hk:k < xs.length):xs.take k++[y]++xs.drop (k+1)=xs.set k y:=by
 rw [List.set_eq_take_append_cons_drop,JM hk,KC];rfl
def BV(H0 H:Hp)(more:List Bx)(ys:List V):Prop:=Al (λ c y=>∃ a,y=.ref a/\H0 a=none/\dP H a c) more.reverse ys
theorem bB{H:Hp}{zs:List Tm3}{g:Int}{cs:Bx}{x:Addr}{xs:List V}(hx:H x=some (.tup xs))(h1:∀ (k:Nat) (a:Int),xs=[.str "part",.int (k:Int),.int a]->k < cs.length->(cs.getD k default).1<=a->a < (cs.getD k default).2->False)(h2:xs=[.str "low"]->g < iP zs cs->False)(h3:xs=[.str "high"]->nX zs cs < g->False)(h4:∀ d,xs=[.str "rest",.int d]->HB zs g cs (.int d)->False):iQ H zs g cs (.ref x) none:=by
 refine .inr (.inr ⟨?_,?_,rfl⟩)
 ·rintro ⟨p,k,a,e,hp,b1,b2,b3⟩;cases e;rw [hx] at hp;exact h1 k a (HO.tup.inj (JU hp)) b1 b2 b3
 ·rintro ⟨p,ys,e,hp,h⟩;cases e;rw [hx] at hp;have e:=HO.tup.inj (JU hp)
  rcases h with ⟨q,h⟩|⟨q,h⟩|⟨d,q,a1,a2,a3⟩
  ·exact h2 (e.trans q) h
  ·exact h3 (e.trans q) h
  ·exact h4 d (e.trans q) ⟨d,rfl,a1,a2,a3⟩
theorem fH{H:Hp}{zs:List Tm3}{g:Int}{cs:Bx}{x:Addr}{xs:List V}(hx:H x=some (.tup xs))(h3:xs.length ≠ 3)(he:xY H zs g cs (.ref x)):iQ H zs g cs (.ref x) (some []):=by
 refine .inr (.inl ⟨?_,he,rfl⟩);rintro ⟨p,k,a,e,hp,b1,b2,b3⟩;cases e;rw [hx] at hp;rw [HO.tup.inj (JU hp)] at h3;exact h3 rfl
theorem ow{H:Hp}{zs:List Tm3}{g:Int}{cs:Bx}{x:V}(hx:∀ p xs,x=.ref p->H p=some (.tup xs)->False):iQ H zs g cs x none:=by
 refine .inr (.inr ⟨?_,?_,rfl⟩)
 ·rintro ⟨p,k,a,e,hp,_⟩;exact hx _ _ e hp
 ·rintro ⟨p,ys,e,hp,_⟩;exact hx _ _ e hp
def rD  : Sp:=λ vs H Q E=>∃ (p:Addr) (g:Int) (q:Addr) (x:V),vs=[.ref p,.int g,.ref q,x]/\(∃ (zs:List Tm3) (cs:Bx),gv H p zs/\dP H q cs/\cG zs/\fD zs cs/\ThS H x/\(∀ H',Ext H H'->iQ H zs g cs x none->Q .non H')/\∀ (more:List Bx) (r:Addr) (ys:List V) (H':Hp),Ext H H'->iQ H zs g cs x (some more)->H' r=some (.lst ys)->BV H H' more ys->Q (.ref r) H')
theorem o7  (p:Addr) (g:Int) (q:Addr) (x:V) (H:Hp) (Q:VK) (E:XK):rD  [.ref p,.int g,.ref q,x] H Q E=(∃ (zs:List Tm3) (cs:Bx),gv H p zs/\dP H q cs/\cG zs/\fD zs cs/\ThS H x/\(∀ H',Ext H H'->iQ H zs g cs x none->Q .non H')/\∀ (more:List Bx) (r:Addr) (ys:List V) (H':Hp),Ext H H'->iQ H zs g cs x (some more)->H' r=some (.lst ys)->BV H H' more ys->Q (.ref r) H'):=BL (f:=λ (p:Addr) (g:Int) (q:Addr) (x:V)=>[.ref p,.int g,.ref q,x]) (λ _ _ _ _ _ _ _ _ h=>by cases h;exact⟨rfl,rfl,rfl,rfl⟩) p g q x
theorem xc  {vs:List V}{H:Hp}{Q:VK}{E:XK}(h:rD  vs H Q E):vs.length=4:=BM h λ _ _ _ _=>rfl
theorem eP(T:Tx K mg t):bP P w K mg base CX0 3 t.a__law_behind t.d__law_behind ["_law_terms_here", "_law_goal", "_law_case", "_law_step"] rD:=by
 have G__law_sums:=%[cP|49];have G__law_whole:=%[fA|49];have G__law_rest:=%[mh|49];refine T.F__law_behind.ok bF (λ vs H Q E h=>xc h) (λ c A o s H vs Q E hr h=>?_)
 ·obtain⟨p,g,q,x,rfl,zs,cs,hp,hq,ht,hc,hth,kN,k⟩:=h;refine⟨_,%[%[(PW.pt %[%[%[%[isinstance,bp,%[%[3|0],%[%[(.ty "tuple"),(.type "tuple"),_,∅,T.z_tuple,nofun,rfl,⋯,⋯|34]|1]|1]|6],(by intros;rfl)|22]|24],%[%[dk,%[len,ao,%[%[3|0]|1]|6],%[0|2],(af _)|15],%[%[dm,%[len,ao,%[%[3|0]|1]|6],%[0|2],(af _)|15]|37]|28]|28]),%[%[(@dU _ _ _)|13]|12],(@ai _)|16],%[(@gH _ _ _ _ _ _ %[_law_sums,%[%[0|0],%[%[2|0]|1]|1]|3] (%[(2),rfl,%[%[4,bF|5],%[%[5,bF|5],(@aK _),∅|19],∅|19],∅,∅|27].mono λ _ _ _ _ h=>bN h) ∅ ∅ ∅),%[%[(PW.pt %[(PW.pt %[%[(bt hr.units),%[3|0],%[%[(@av _ _ _ _)|1]|14],(af _)|15],%[%[dm,%[4|0],%[1|0],(af _)|15]|39]|33]),%[(PW.pt %[%[(bt hr.units),%[3|0],%[%[(@av _ _ _ _)|1]|14],(af _)|15],%[%[dk,%[5|0],%[1|0],(af _)|15]|39]|33])|37]|28]),%[%[%[(@bC _)|18]|13]|12],(@ai _)|16],%[%[(PW.pt %[%[(bt hr.units),%[len,ao,%[%[3|0]|1]|6],%[0|2],(af _)|15],%[%[(bt hr.units),%[az,%[3|0],%[0|2],(λ _ _=>rfl)|11],(@av _ _ _ _),(af _)|15],%[%[%[_law_rest,%[%[0|0],%[%[1|0],%[%[2|0],%[%[az,%[3|0],%[0|2],(λ _ _=>rfl)|11]|1]|1]|1]|1]|3],(by intros;rfl)|22]|39]|33]|33]),%[%[%[(@bC _)|18]|13]|12],(@ai _)|16],%[%[(PW.pt %[%[dk,%[len,ao,%[%[3|0]|1]|6],%[0|2],(af _)|15],%[%[(df hr.units),%[az,%[3|0],%[0|2],(λ _ _=>rfl)|11],(@av _ _ _ _),(af _)|15],%[%[%[%[_law_whole,%[%[az,%[3|0],%[0|2],(λ _ _=>rfl)|11]|1]|3],(by intros;rfl)|22]|24],%[%[%[%[_law_whole,%[%[az,%[3|0],%[0|2],(λ _ _=>rfl)|11]|1]|3],(by intros;rfl)|22]|24]|37]|28]|28]|28]),%[%[(@dU _ _ _)|13]|12],(@ai _)|16],%[(@gH _ _ _ _ _ _ %[3|0] (%[(3),rfl,%[%[6,bF|5],%[%[7,bF|5],%[%[8,bF|5],(@aK _),∅|19],∅|19],∅|19],∅,∅|27].mono λ _ _ _ _ h=>bN h) ∅ ∅ ∅),%[%[(PW.pt %[%[(@hG _ _ _ _ _ _ _ _ _ _ _ _ mM dk %[0|2] %[7|0] %[len,ao,%[%[0|0]|1]|6] ∅)|24],%[%[(@hG _ _ _ _ _ _ _ _ _ _ _ _ mM dk %[az,%[az,%[2|0],%[7|0],(λ _ _=>rfl)|11],%[0|2],(λ _ _=>rfl)|11] %[8|0] %[az,%[az,%[2|0],%[7|0],(λ _ _=>rfl)|11],%[0|2],(λ _ _=>rfl)|11] ∅)|24]|37]|28]),%[%[(@dU _ _ _)|13]|12],(@ai _)|16],%[%[%[%[%[bw,%[bw,%[pG,%[2|0],(@bZ _),%[%[7|0]|32]|36],%[%[%[%[%[aw,%[8|0],%[0|2]|9],%[%[az,%[az,%[2|0],%[7|0],(λ _ _=>rfl)|11],%[0|2],(λ _ _=>rfl)|11]|1]|1]|14]|1]|18]|9],%[pG,%[2|0],%[%[aw,%[7|0],%[0|2]|9]|32],(@bZ _)|36]|9],%[%[bw,%[bw,%[pG,%[2|0],(@bZ _),%[%[7|0]|32]|36],%[%[%[%[%[az,%[az,%[2|0],%[7|0],(λ _ _=>rfl)|11],%[0|2],(λ _ _=>rfl)|11],%[%[8|0]|1]|1]|14]|1]|18]|9],%[pG,%[2|0],%[%[aw,%[7|0],%[0|2]|9]|32],(@bZ _)|36]|9]|1]|1]|18]|13]|12]|10]|10]|10]|10]|10]|10]|10],?_⟩;rw [show aJ ["_law_terms_here", "_law_goal", "_law_case", "_law_step", "_law_least", "_law_greatest", "_law_word", "_law_k", "_law_at"] [.ref p,.int g,.ref q,x]=[some (.ref p),some (.int g),some (.ref q),some (x),none,none,none,none,none] from rfl];clear G__law_sums G__law_whole G__law_rest;have h17:=ht.len;have hcl:=hc.len;exists k;exists kN;exists hcl;have so1:PyData.strOk (Str.ofString "low")=true:=by decide +kernel
  have so2:PyData.strOk (Str.ofString "high")=true:=by decide +kernel
  have so3:PyData.strOk (Str.ofString "rest")=true:=by decide +kernel
  have so4:PyData.strOk (Str.ofString "part")=true:=by decide +kernel
  have sq1:(Str.ofString "low" == Str.ofString "low")=true:=by decide +kernel
  have sq2:(Str.ofString "high" == Str.ofString "high")=true:=by decide +kernel
  have sq3:(Str.ofString "high" == Str.ofString "low")=false:=by decide +kernel
  have sq3':(Str.ofString "low" == Str.ofString "high")=false:=by decide +kernel
  have sq4:(Str.ofString "rest" == Str.ofString "low")=false:=by decide +kernel
  have sq5:(Str.ofString "rest" == Str.ofString "high")=false:=by decide +kernel
  have sq6:(Str.ofString "part" == Str.ofString "low")=false:=by decide +kernel
  have sq7:(Str.ofString "part" == Str.ofString "high")=false:=by decide +kernel
  have sq8:(Str.ofString "rest" == Str.ofString "rest")=true:=by decide +kernel
  have sq9:(Str.ofString "part" == Str.ofString "part")=true:=by decide +kernel
  have en1:PyData.eqv .none (.str (Str.ofString "low"))=false:=rfl;have en2:PyData.eqv .none (.str (Str.ofString "high"))=false:=rfl
  rcases hth with rfl|⟨i,rfl⟩|⟨z,rfl,hz⟩|⟨x,xs,rfl,hx,_⟩|⟨x,xs,rfl,hx,h5,hit,hh⟩
  ·have k':=kN () H (Ext.refl _) (ow λ _ _ e=>by cases e);clear k kN;ac_rfl
  ·have k':=kN () H (Ext.refl _) (ow λ _ _ e=>by cases e);clear k kN;ac_rfl
  ·have k':=kN () H (Ext.refl _) (ow λ _ _ e=>by cases e);clear k kN;ac_rfl
  ·have k':=kN () H (Ext.refl _) (ow λ p' xs' e h=>by cases e;rw [hx] at h;cases h);clear k kN;ac_rfl
  rcases hh with rfl|⟨ys,hh⟩
  ·have k':=kN () H (Ext.refl _) (bB hx (λ _ _ e=>by cases e) (λ e=>by cases e) (λ e=>by cases e) (λ _ e=>by cases e));clear k kN hit;ac_rfl
  by_cases hl3:3 < (xs.length:Int)
  ·have k':=kN () H (Ext.refl _) (bB hx (λ _ _ e=>by rw [e] at hl3;simp at hl3) (λ e=>by rw [e] at hl3;simp at hl3) (λ e=>by rw [e] at hl3;simp at hl3) (λ _ e=>by rw [e] at hl3;simp at hl3));have hl1:¬ (xs.length:Int) < 1:=by omega
   clear k kN hit hh;ac_rfl
  obtain⟨hd,hxe,hdd⟩:∃ hd,xs=hd::ys/\(hd=.non\/∃ z,hd=.str z/\PyData.strOk z=true):=by
   rcases hh with h|⟨z,h⟩
   ·exact⟨_,h,.inl rfl⟩
   ·refine⟨_,h,.inr ⟨z,rfl,?_⟩⟩
    rcases hit (.str z) (by rw [h];exact JI) with q|⟨_,q⟩|⟨_,q⟩|⟨z',q,hq⟩|⟨_,_,q,_⟩
    ·cases q
    ·cases q
    ·cases q
    ·cases q;exact hq
    ·cases q
  subst hxe;clear hh
  obtain rfl|⟨y1,rfl⟩|⟨y1,y2,rfl⟩:ys=[]\/(∃ y1,ys=[y1])\/∃ y1 y2,ys=[y1,y2]:=by
   match ys,hl3 with
   | [],_=>exact .inl rfl
   | [y1],_=>exact .inr (.inl ⟨_,rfl⟩)
   | [y1,y2],_=>exact .inr (.inr ⟨_,_,rfl⟩)
   | _::_::_::_,h=>exfalso;simp only [JS] at h;omega
  ·clear hit h5 hl3
   rcases hdd with rfl|⟨z,rfl,hz⟩
   ·have k':=λ (_:Unit) H' e=>kN () H' e (bB hx (λ _ _ e=>by cases e) (λ e=>by cases e) (λ e=>by cases e) (λ _ e=>by cases e));clear k kN;ac_rfl;rw [aZ];refine⟨zs,cs,hp,hq,ht,hcl (),λ r1 H1 e1 h1=>?_⟩;have hx1:=e1.at hx;ac_rfl;intro t2 H2 _ e2 h2;have hx2:=e2.at hx1;clear hx hx1 hp hq;ac_rfl;intro t3 H3 _ e3 h3;have hx3:=e3.at hx2;have k2:=k' () H3 (e1.trans (e2.trans e3));clear hx2 h2 k';ac_rfl
   ·by_cases z1:z=Str.ofString "low"
    ·subst z1
     by_cases hb:g < iP zs cs
     ·ac_rfl;rw [aZ];refine⟨zs,cs,hp,hq,ht,hcl (),λ r1 H1 e1 h1=>?_⟩;have hx1:=e1.at hx;ac_rfl;intro t2 H2 _ e2 h2;have hx2:=e2.at hx1;clear hx1 hp hq;ac_rfl;intro r3 H3 _ e3 h3;exact k () [] r3 [] H3 (e1.trans (e2.trans e3)) (fH hx ⋯ ⟨x,_,rfl,hx,.inl ⟨rfl,hb⟩⟩) h3 Al.nil
     ·have k':=λ (_:Unit) H' e=>kN () H' e (bB hx (λ _ _ e=>by cases e) (λ _ h=>hb h) (λ e=>absurd (Lw e).1 (λ e=>by injection e with e;rw [e,Kp] at sq3';cases sq3')) (λ _ e=>by cases e));clear k kN;ac_rfl;rw [aZ];refine⟨zs,cs,hp,hq,ht,hcl (),λ r1 H1 e1 h1=>?_⟩;have hx1:=e1.at hx;ac_rfl;intro t2 H2 _ e2 h2;have hx2:=e2.at hx1;clear hx hx1 hp hq;ac_rfl;intro t3 H3 _ e3 h3;have hx3:=e3.at hx2;have k2:=k' () H3 (e1.trans (e2.trans e3));clear hx2 h2 k';ac_rfl
    have zl:(z == Str.ofString "low")=false:=Kg.mpr z1
    by_cases z2:z=Str.ofString "high"
    ·subst z2;clear zl z1
     by_cases hb:nX zs cs < g
     ·ac_rfl;rw [aZ];refine⟨zs,cs,hp,hq,ht,hcl (),λ r1 H1 e1 h1=>?_⟩;have hx1:=e1.at hx;ac_rfl;intro t2 H2 _ e2 h2;have hx2:=e2.at hx1;clear hx1 hp hq;ac_rfl;intro t3 H3 _ e3 h3;have hx3:=e3.at hx2;clear hx2 h2;ac_rfl;intro r4 H4 _ e4 h4;exact k () [] r4 [] H4 (e1.trans (e2.trans (e3.trans e4))) (fH hx ⋯ ⟨x,_,rfl,hx,.inr (.inl ⟨rfl,hb⟩)⟩) h4 Al.nil
     ·have k':=λ (_:Unit) H' e=>kN () H' e (bB hx (λ _ _ e=>by cases e) (λ e=>absurd (Lw e).1 (λ e=>by injection e with e;rw [e,Kp] at sq3;cases sq3)) (λ _ h=>hb h) (λ _ e=>by cases e));clear k kN;ac_rfl;rw [aZ];refine⟨zs,cs,hp,hq,ht,hcl (),λ r1 H1 e1 h1=>?_⟩;have hx1:=e1.at hx;ac_rfl;intro t2 H2 _ e2 h2;have hx2:=e2.at hx1;clear hx hx1 hp hq;ac_rfl;intro t3 H3 _ e3 h3;have hx3:=e3.at hx2;have k2:=k' () H3 (e1.trans (e2.trans e3));clear hx2 h2 k';ac_rfl
    have zh:(z == Str.ofString "high")=false:=Kg.mpr z2;have k':=λ (_:Unit) H' e=>kN () H' e (bB hx (λ _ _ e=>by cases e) (λ e=>absurd (Lw e).1 (λ e=>by injection e with e;exact z1 e)) (λ e=>absurd (Lw e).1 (λ e=>by injection e with e;exact z2 e)) (λ _ e=>by cases e));clear k kN z1 z2;ac_rfl;rw [aZ];refine⟨zs,cs,hp,hq,ht,hcl (),λ r1 H1 e1 h1=>?_⟩;have hx1:=e1.at hx;ac_rfl;intro t2 H2 _ e2 h2;have hx2:=e2.at hx1;clear hx hx1 hp hq;ac_rfl;intro t3 H3 _ e3 h3;have hx3:=e3.at hx2;have k2:=k' () H3 (e1.trans (e2.trans e3));clear hx2 h2 k';ac_rfl
  ·have hy1:=hit y1 (JG _ JI);clear hit h5 hl3
   rcases hdd with rfl|⟨z,rfl,hz⟩
   ·have k':=λ (_:Unit) H' e=>kN () H' e (bB hx (λ _ _ e=>by cases e) (λ e=>by cases e) (λ e=>by cases e) (λ _ e=>by cases e));clear k kN;ac_rfl;rw [aZ];refine⟨zs,cs,hp,hq,ht,hcl (),λ r1 H1 e1 h1=>?_⟩;have hx1:=e1.at hx;ac_rfl;intro t2 H2 _ e2 h2;have hx2:=e2.at hx1;have d2:=(hy1.ext (e1.trans e2)).dat.1;clear hx hx1 hp hq;ac_rfl;intro t3 H3 _ e3 h3;have hx3:=e3.at hx2;have d3:=(hy1.ext (e1.trans (e2.trans e3))).dat.1;have k2:=k' () H3 (e1.trans (e2.trans e3));clear hx2 h2 k' d2;ac_rfl
   ·by_cases z1:z=Str.ofString "rest"
    ·subst z1;ac_rfl;rw [aZ];refine⟨zs,cs,hp,hq,ht,hcl (),λ r1 H1 e1 h1=>?_⟩;have hx1:=e1.at hx;ac_rfl;intro t2 H2 _ e2 h2;have hx2:=e2.at hx1;have d2:=(hy1.ext (e1.trans e2)).dat.1;clear hx1;ac_rfl;intro t3 H3 _ e3 h3;have hx3:=e3.at hx2;have e03:=e1.trans (e2.trans e3);have hy3:=hy1.ext e03;have d3:=hy3.dat.1;clear hx2 h2 d2;ac_rfl;clear d3;rw [u3];refine⟨zs,cs,bY hp e03,br hq e03,ht,hc,hy3,λ b4 H4 e4 hb4=>?_⟩;have hx4:=e4.at hx3;clear hx3
     cases b4 with
     | true=>
      obtain⟨d,rfl,a1,a2,a3⟩:=hb4.mp rfl;have bh:=fH (zs:=zs) (g:=g) (cs:=cs) hx (by intro h;cases h) ⟨x,_,rfl,hx,.inr (.inr ⟨d,rfl,a1,a2,a3⟩)⟩;clear hb4 a2;ac_rfl;intro r5 H5 _ e5 h5;exact k () [] r5 [] H5 (e03.trans (e4.trans e5)) bh h5 Al.nil
     | false=>
      have k2:=kN () H4 (e03.trans e4) (bB hx (λ _ _ e=>by cases e) (λ e=>by cases e) (λ e=>by cases e) (λ d e h=>by
       have e1:y1=.int d:=by injection e with _ e;injection e
       rw [←e1] at h;exact absurd (hb4.mpr h) ⋯))
      clear k kN hb4;ac_rfl
    have zl:(z == Str.ofString "rest")=false:=Kg.mpr z1;have k':=λ (_:Unit) H' e=>kN () H' e (bB hx (λ _ _ e=>by cases e) (λ e=>by cases e) (λ e=>by cases e) (λ _ e=>absurd (Lw e).1 (λ e=>by injection e with e;exact absurd e z1)));clear k kN;ac_rfl;rw [aZ];refine⟨zs,cs,hp,hq,ht,hcl (),λ r1 H1 e1 h1=>?_⟩;have hx1:=e1.at hx;ac_rfl;intro t2 H2 _ e2 h2;have hx2:=e2.at hx1;have d2:=(hy1.ext (e1.trans e2)).dat.1;clear hx hx1 hp hq;simp! only [Kc];intro t3 H3 _ e3 h3;have hx3:=e3.at hx2;have d3:=(hy1.ext (e1.trans (e2.trans e3))).dat.1;have k2:=k' () H3 (e1.trans (e2.trans e3));clear hx2 h2 k' d2;simp! only [Kc]
  ·have hy1:=hit y1 (JG _ JI);have hy2:=hit y2 (JG _ (JG _ JI));clear hit h5 hl3
   rcases hdd with rfl|⟨z,rfl,hz⟩
   ·have k':=λ (_:Unit) H' e=>kN () H' e (bB hx (λ _ _ e=>by cases e) (λ e=>by cases e) (λ e=>by cases e) (λ _ e=>by cases e));clear k kN;ac_rfl;rw [aZ];refine⟨zs,cs,hp,hq,ht,hcl (),λ r1 H1 e1 h1=>?_⟩;have hx1:=e1.at hx;ac_rfl;intro t2 H2 _ e2 h2;have hx2:=e2.at hx1;have d2:=(hy1.ext (e1.trans e2)).dat.1;have c2:=(hy2.ext (e1.trans e2)).dat.1;clear hx hx1 hp hq;ac_rfl;intro t3 H3 _ e3 h3;have hx3:=e3.at hx2;have d3:=(hy1.ext (e1.trans (e2.trans e3))).dat.1;have c3:=(hy2.ext (e1.trans (e2.trans e3))).dat.1;have k2:=k' () H3 (e1.trans (e2.trans e3));clear hx2 h2 k' d2 c2;ac_rfl
   ·ac_rfl;rw [aZ];refine⟨zs,cs,hp,hq,ht,hcl (),λ r1 H1 e1 h1=>?_⟩;have hx1:=e1.at hx;ac_rfl;intro t2 H2 _ e2 h2;have hx2:=e2.at hx1;have d2:=(hy1.ext (e1.trans e2)).dat.1;have c2:=(hy2.ext (e1.trans e2)).dat.1;clear hx1;simp! only [Kc];intro t3 H3 _ e3 h3;have hx3:=e3.at hx2;have e03:=e1.trans (e2.trans e3);have w1:=(hy1.ext e03).wh;have w2:=(hy2.ext e03).wh;have d3:=(hy1.ext e03).dat.1;have c3:=(hy2.ext e03).dat.1;clear hx2 h2 d2 c2
    by_cases z1:z=Str.ofString "part"
    ·subst z1
     cases hi1:inB y1 with
     | false=>
      have k2:=kN () H3 e03 (bB hx (λ k a e _ _ _=>by
       have e1:y1=.int (k:Int):=by injection e with _ e;injection e
       rw [e1] at hi1;cases hi1) (λ e=>by cases e) (λ e=>by cases e) (λ _ e=>by cases e))
      rw [hi1] at w1;clear k kN hi1;simp! only [Kc,↓aR]
     | true=>
     cases hi2:inB y2 with
     | false=>
      have k2:=kN () H3 e03 (bB hx (λ k a e _ _ _=>by
       have e1:y2=.int a:=by injection e with _ e;injection e with _ e;injection e
       rw [e1] at hi2;cases hi2) (λ e=>by cases e) (λ e=>by cases e) (λ _ e=>by cases e))
      rw [hi1] at w1;rw [hi2] at w2;clear k kN hi1 hi2;simp! only [Kc,↓aR]
     | true=>
     obtain⟨mm,rfl⟩:∃ d,y1=.int d:=by
      cases y1 with
      | int d=>exact⟨d,rfl⟩
      | _=>cases hi1
     obtain⟨a,rfl⟩:∃ d,y2=.int d:=by
      cases y2 with
      | int d=>exact⟨d,rfl⟩
      | _=>cases hi2
     clear hi1 hi2 w1 w2 d3 c3 hy1 hy2
     have kN2:=λ (_:Unit) (h:∀ (k:Nat),mm=(k:Int)->k < cs.length->(cs.getD k default).1<=a->a < (cs.getD k default).2->False)=>kN () H3 e03 (bB hx (λ k a' e h1 h2 h3=>by
      have e1:mm=(k:Int):=by injection e with _ e;injection e with e _;injection e
      have e2:a=a':=by injection e with _ e;injection e with _ e;injection e with e _;injection e
      subst e2;exact h k e1 h1 h2 h3) (λ e=>by cases e) (λ e=>by cases e) (λ _ e=>by cases e))
     have hlt0:(cs.length:Int)=(zs.length:Int):=by have:=hcl ();omega
     by_cases hb0:¬ (0<=mm)
     ·have k2:=kN2 () (λ k h _ _ _=>by omega);clear k kN kN2;simp! only [Kc,↓aR]
     replace hb0:0<=mm:=Ls.mp hb0
     by_cases hb1:¬ (mm < (zs.length:Int))
     ·obtain⟨ts,hp3,al⟩:=bY hp e03;have htl:ts.length=zs.length:=al.1;have k2:=kN2 () (λ k h _ _ _=>by omega);clear k kN kN2 al;simp! only [Kc,↓aR]
     replace hb1:mm < (zs.length:Int):=Ls.mp hb1;obtain⟨m,rfl⟩:=Kn hb0;have hmc:m < cs.length:=by omega
     by_cases ha1:¬ ((cs.getD m default).1<=a)
     ·obtain⟨ts,hp3,al⟩:=bY hp e03;obtain⟨xs,hq3,bl⟩:=br hq e03;have htl:ts.length=zs.length:=al.1;have hxl:xs.length=cs.length:=bl.1;obtain⟨y,hat,hy⟩:=dc bl hmc;rw [Kj] at hat
      have k2:=kN2 () (λ k h _ h2 _=>by
       have:m=k:=by omega
       subst this;exact ha1 h2)
      generalize cs.getD m default=ci at *;clear k kN kN2 al bl;simp! only [Kc,↓aR]
     replace ha1:(cs.getD m default).1<=a:=Ls.mp ha1
     by_cases ha2:¬ (a < (cs.getD m default).2)
     ·obtain⟨ts,hp3,al⟩:=bY hp e03;obtain⟨xs,hq3,bl⟩:=br hq e03;have htl:ts.length=zs.length:=al.1;have hxl:xs.length=cs.length:=bl.1;obtain⟨y,hat,hy⟩:=dc bl hmc;rw [Kj] at hat
      have k2:=kN2 () (λ k h _ _ h2=>by
       have:m=k:=by omega
       subst this;exact ha2 h2)
      generalize cs.getD m default=ci at *;clear k kN kN2 al bl;simp! only [Kc,↓aR]
     replace ha2:a < (cs.getD m default).2:=Ls.mp ha2;have hbeh:iQ H zs g cs (.ref x) (some [loC cs m a,upC cs m a]):=.inl ⟨x,m,a,rfl,hx,hmc,ha1,ha2,rfl⟩;have k:=λ (_:Unit) r ys H' e=>k () _ r ys H' e hbeh;clear kN kN2 hbeh hx;obtain⟨ts,hp3,al⟩:=bY hp e03;obtain⟨xs,hq3,bl⟩:=br hq e03;have htl:ts.length=zs.length:=al.1;have hxl:xs.length=cs.length:=bl.1;obtain⟨y,hat,hy⟩:=dc bl hmc;rw [Kj] at hat;have hm0:(0:Int)<=(m:Int):=by omega
     have hm1:(m:Int) < (zs.length:Int):=by omega
     generalize hci:cs.getD m default=ci at *;exists bl;exists al;exists hci;clear hp hq;have c1:gd xs none (some (m:Int))=xs.take m:=by rw [xM _ _ hm0,Kk]
     have c2:gd xs (some ((m:Int)+1)) none=xs.drop (m+1):=by rw [oW _ _ %[0|8],show ((m:Int)+1).toNat=m+1 by omega]
     have ln1:(xs.take m).length<=17:=by rw [KQ];have:=hcl ();omega
     have ln2:(xs.drop (m+1)).length<=17:=by rw [L5];have:=hcl ();omega
     simp! only [Bool.and_false,↓aR];intro p4 H4 _ e4 h4;have hq4:=e4.at hq3;have hy4:=e4.at hy;clear hq3 hy hp3 hx3;ac_rfl;intro t5 H5 _ e5 h5;have h4_5:=e5.at h4;have hq5:=e5.at hq4;have hy5:=e5.at hy4;clear h4 hq4 hy4;ac_rfl;intro l6 H6 _ e6 h6;have h4_6:=e6.at h4_5;have h5_6:=e6.at h5;have hq6:=e6.at hq5;have hy6:=e6.at hy5;clear h4_5 h5 hq5 hy5;refine bf h4_6 h6 (aj (by simp only [length_cons,length_nil];omega)) ?_;intro l7 H7 _ e7 h7;have h5_7:=e7.at h5_6;have hq7:=e7.at hq6;have hy7:=e7.at hy6;clear h4_6 h5_6 hq6 hy6 h6;ac_rfl;intro l8 H8 _ e8 h8;have h7_8:=e8.at h7;refine bf h7_8 h8 (aj (by simp only [length_append,length_cons,length_nil];omega)) ?_;rw [oG %[0|8]];intro l9 H9 hl9 e9 h9;have e39:=e4.trans (e5.trans (e6.trans (e7.trans (e8.trans e9))));have hl9_0:H l9=none:=e03.free ((e4.trans (e5.trans (e6.trans (e7.trans e8)))).free hl9);have h5_9:=(e8.trans e9).at h5_7;have hq9:=(e8.trans e9).at hq7;have hy9:=(e8.trans e9).at hy7;clear h7 h8 h7_8 h5_7 hq7 hy7 e4 e5 e6 e7 e8 e9 hl9;ac_rfl;intro p4 H4 _ e4 h4;have hq4:=e4.at hq9;have hy4:=e4.at hy9;clear hq9 hy9;ac_rfl;intro t5' H5 _ e5 h5;have h4_5:=e5.at h4;have hq5:=e5.at hq4;clear h4 hq4 hy4;ac_rfl;intro l6 H6 _ e6 h6;have h4_6:=e6.at h4_5;have h5_6:=e6.at h5;have hq6:=e6.at hq5;clear h4_5 h5 hq5;refine bf h4_6 h6 (aj (by simp only [length_cons,length_nil];omega)) ?_;intro l7 H7 _ e7 h7;have h5_7:=e7.at h5_6;have hq7:=e7.at hq6;clear h4_6 h5_6 hq6 h6;ac_rfl;intro l8 H8 _ e8 h8;have h7_8:=e8.at h7;refine bf h7_8 h8 (aj (by simp only [length_append,length_cons,length_nil];omega)) ?_;rw [oG %[0|8]];intro l10 H10 hl10 e9 h10;have e310:=e39.trans (e4.trans (e5.trans (e6.trans (e7.trans (e8.trans e9)))));have hl10_0:H l10=none:=(e03.trans e39).free ((e4.trans (e5.trans (e6.trans (e7.trans e8)))).free hl10);have h9_10:=(e4.trans (e5.trans (e6.trans (e7.trans (e8.trans e9))))).at h9;have h59_10:=(e4.trans (e5.trans (e6.trans (e7.trans (e8.trans e9))))).at h5_9;have h5_10:=(e8.trans e9).at h5_7;clear h7 h8 h7_8 h5_7 hq7 e4 e5 e6 e7 e8 e9 hl10 h9 h5_9;ac_rfl;intro r11 H11 _ e11 h11;have blN:=(bl ()).imp λ _ _ t=>axP.ext t (e310.trans e11);have u1:dP H11 l9 (upC cs m a):=⟨_,e11.at h9_10,by unfold upC;rw [hci ()];exact oz blN ⟨t5,rfl,e11.at h59_10⟩⟩;have u2:dP H11 l10 (loC cs m a):=⟨_,e11.at h10,by unfold loC;rw [hci ()];exact oz blN ⟨t5',rfl,e11.at h5_10⟩⟩;exact k () r11 _ H11 (e03.trans (e310.trans e11)) h11 (Al.cons' ⟨l9,rfl,hl9_0,u1⟩ (Al.cons' ⟨l10,rfl,hl10_0,u2⟩ Al.nil))
    ·have zl:(z == Str.ofString "part")=false:=Kg.mpr z1;have k2:=kN () H3 e03 (bB hx (λ _ _ e=>absurd (Lw e).1 (λ e=>by injection e with e;exact absurd e z1)) (λ e=>by cases e) (λ e=>by cases e) (λ _ e=>by cases e));clear k kN;simp! only [Kc]
def BxA(H:Hp)(c:Bx)(y:V):Prop:=∃ a,y=.ref a/\dP H a c
theorem cH.al{H:Hp}{cA pA:Addr}:∀ {st:List Bx}{cl:List V},cH H cA pA st cl->Al (BxA H) st.reverse cl
 | [],cl,h=>by have h':cl=[]:=h;rw [h'];exact Al.nil
 | c::st,cl,⟨cl0,y,h1,⟨a,h2,_,_,h5⟩,h3⟩=>by
  rw [h1,Mn];exact nv (cH.al h3) (Al.cons' ⟨a,h2,h5⟩ Al.nil)
theorem r9{H:Hp}{f:V->Option PyData}:∀ {cs:List Bx}{ys:List V},Al (BxA H) cs ys->aI (ys.map (bc H (bc H (bc H f))))=some (cs.map λ c=>PyData.list ((c.map λ z=>[z.1,z.2]).map λ z=>PyData.tuple (z.map PyData.int)))
 | [],ys,h=>by
  have:ys=[]:=Km.mp h.1;rw [this];rfl
 | c::cs,[],h=>by have:=h.1;simp at this
 | c::cs,y::ys,h=>by
  obtain⟨a,rfl,ts,h1,h2⟩:=h.2 0 c y rfl rfl;have ih:=r9 (H:=H) (f:=f) (cs:=cs) (ys:=ys) ⟨by have:=h.1;simpa using this,λ i z x hz hx=>h.2 (i+1) z x (by simpa using hz) (by simpa using hx)⟩
  have e1:bc H (bc H (bc H f)) (.ref a)=some (PyData.list ((c.map λ z=>[z.1,z.2]).map λ z=>PyData.tuple (z.map PyData.int))):=by
   rw [cw,h1]
   show vg (bc H (bc H f)) (.lst ts)=_
   rw [eI,oC (zp h2)];rfl
  rw [KA,e1,cc,ih];rfl
theorem rL{H:Hp}{f:V->Option PyData}{cs:List Bx}{ys:List V}(h:Al (BxA H) cs ys)(hn:0 < cs.length):∃ d ds,aI (ys.map (bc H (bc H (bc H f))))=some (d::ds):=by
 rw [r9 h]
 cases cs with
 | nil=>simp at hn
 | cons c cs=>exact⟨_,_,rfl⟩
theorem cH.re{H:Hp}{cA pA cB:Addr}(hb:H cB=none):∀ {st:List Bx}{cl:List V},cH H cA pA st cl->cH H cB cB st cl
 | [],_,h=>h
 | _::_,_,⟨cl0,y,h1,⟨a,h2,_,_,h5⟩,h3⟩=>by
  have n:a ≠ cB:=λ e=>by obtain⟨_,h,_⟩:=h5;rw [e,hb] at h;cases h
  exact⟨cl0,y,h1,⟨a,h2,n,n,h5⟩,cH.re hb h3⟩
theorem cH.cat{H0 H:Hp}{cA cB:Addr}{more st:List Bx}{cl ys:List V}(hs:cH H cA cA st cl)(hm:BV H0 H more ys)(hmm:more=[]\/∃ a b,more=[a,b])(hb:H cB=none):cH H cB cB (more++st) (cl++ys):=by
 have hs':=hs.re hb
 rcases hmm with rfl|⟨a,b,rfl⟩
 ·have:ys=[]:=Km.mp hm.1;rw [this,Lv];exact hs'
 ·have hl:ys.length=2:=hm.1
  obtain⟨y1,y2,rfl⟩:∃ y1 y2,ys=[y1,y2]:=by
   match ys,hl with
   | [y1,y2],_=>exact⟨y1,y2,rfl⟩
  obtain⟨a1,h1,_,p1⟩:=hm.2 0 b y1 rfl rfl;obtain⟨a2,h2,_,p2⟩:=hm.2 1 a y2 rfl rfl;have n1:a1 ≠ cB:=λ e=>by obtain⟨_,h,_⟩:=p1;rw [e,hb] at h;cases h
  have n2:a2 ≠ cB:=λ e=>by obtain⟨_,h,_⟩:=p2;rw [e,hb] at h;cases h
  exact⟨cl++[y1],y2,by rw [KC];rfl,⟨a2,h2,n2,n2,p2⟩,cl,y1,rfl,⟨a1,h1,n1,n1,p1⟩,hs'⟩
theorem iQ.more{H:Hp}{zs:List Tm3}{g:Int}{c:Bx}{x:V}{more:List Bx}(h:iQ H zs g c x (some more))(hc:fD zs c):(more=[]\/∃ a b,more=[a,b])/\∀ d∈more,fD zs d:=by
 rcases h with ⟨p,k,a,_,_,h1,h2,h3,e⟩|⟨_,_,e⟩|⟨_,_,e⟩
 ·cases e;obtain⟨o1,o2⟩:=hc.part (by rw [←hc.len];exact h1) h2 h3;refine⟨.inr ⟨_,_,rfl⟩,λ d hd=>?_⟩
  rcases J2.mp hd with rfl|hd
  ·exact o2
  ·rw [JD.mp hd];exact o1
 ·cases e;exact⟨.inl rfl,λ d hd=>absurd hd JV⟩
 ·cases e
def m3  : Sp:=λ vs H Q E=>∃ (p:Addr) (g:Int) (x:Addr),vs=[.ref p,.int g,.ref x,.bl false]/\(∃ (zs:List Tm3) (ys:List V),gv H p zs/\cG zs/\H x=some (.lst ys)/\ys.length<=5000/\(∀ y∈ys,ThS H y)/\(∀ H',Ext H H'->bJ H zs g ys [zs.map λ z=>z.2] none->Q .non H')/\∀ (st:List Bx) (r:Addr) (cl:List V) (H':Hp),Ext H H'->bJ H zs g ys [zs.map λ z=>z.2] (some st)->H' r=some (.lst cl)->Al (BxA H') st.reverse cl->Q (.ref r) H')
theorem u6  (p:Addr) (g:Int) (x:Addr) (H:Hp) (Q:VK) (E:XK):m3  [.ref p,.int g,.ref x,.bl false] H Q E=(∃ (zs:List Tm3) (ys:List V),gv H p zs/\cG zs/\H x=some (.lst ys)/\ys.length<=5000/\(∀ y∈ys,ThS H y)/\(∀ H',Ext H H'->bJ H zs g ys [zs.map λ z=>z.2] none->Q .non H')/\∀ (st:List Bx) (r:Addr) (cl:List V) (H':Hp),Ext H H'->bJ H zs g ys [zs.map λ z=>z.2] (some st)->H' r=some (.lst cl)->Al (BxA H') st.reverse cl->Q (.ref r) H'):=qN (f:=λ (p:Addr) (g:Int) (x:Addr)=>[.ref p,.int g,.ref x,.bl false]) (λ _ _ _ _ _ _ h=>by cases h;exact⟨rfl,rfl,rfl⟩) p g x
theorem uy  {vs:List V}{H:Hp}{Q:VK}{E:XK}(h:m3  vs H Q E):vs.length=4:=pE h λ _ _ _=>rfl
theorem kf{H H':Hp}{zs:List Tm3}{g:Int}{c:Bx}{x:V}{o:Option (List Bx)}(h:ThV H x)(e:Ext H H')(b:iQ H' zs g c x o):iQ H zs g c x o:=by
 rcases b with ⟨p,k,a,rfl,hp,h1,h2,h3,ho⟩|⟨h1,h2,ho⟩|⟨h1,h2,ho⟩
 ·exact .inl ⟨p,k,a,rfl,by rw [←h.at e];exact hp,h1,h2,h3,ho⟩
 ·rw [hU h e] at h1;rw [j6 h e] at h2;exact .inr (.inl ⟨h1,h2,ho⟩)
 ·rw [hU h e] at h1;rw [j6 h e] at h2;exact .inr (.inr ⟨h1,h2,ho⟩)
theorem ml(T:Tx K mg t):bP P w K mg base CX0 4 t.a__law_left t.d__law_left ["_law_terms_here", "_law_goal", "_law_paper", "_law_bare"] m3:=by
 have G__law_behind:=%[eP|49];have G__law_ended:=%[kl|49];refine T.F__law_left.ok b6 (λ vs H Q E h=>uy h) (λ c A o s H vs Q E hr h=>?_)
 ·obtain⟨p,g,x,rfl,zs,ys,⟨ts,hp,al⟩,ht,hx,hyl,hth,kN,k⟩:=h;refine⟨_,%[%[4,b6,%[%[%[(["_law_times", "_law_low", "_law_high", "_law_terms_here", "_law_goal", "_law_paper", "_law_bare", "_law_cases", "_law_step", "_law_case", "_law_more"]),(3),(aH (ae dt) ["_law_terms_here", "_law_goal", "_law_paper", "_law_bare", "_law_cases", "_law_step", "_law_case", "_law_more"] rfl rfl nofun),rfl,%[%[0|0]|23],(λ C s₀ H₀ ex pn=>(%[(3),rfl,%[%[(0),_,(show List.Nodup (["_law_times", "_law_low", "_law_high", "_law_terms_here", "_law_goal", "_law_paper", "_law_bare", "_law_cases", "_law_step", "_law_case", "_law_more"]:List Str) from by decide +kernel),rfl,(Or.inl rfl),%[0|7]|20],%[%[(1),_,(show List.Nodup (["_law_times", "_law_low", "_law_high", "_law_terms_here", "_law_goal", "_law_paper", "_law_bare", "_law_cases", "_law_step", "_law_case", "_law_more"]:List Str) from by decide +kernel),rfl,(Or.inl rfl),%[0|7]|20],%[%[(2),_,(show List.Nodup (["_law_times", "_law_low", "_law_high", "_law_terms_here", "_law_goal", "_law_paper", "_law_bare", "_law_cases", "_law_step", "_law_case", "_law_more"]:List Str) from by decide +kernel),rfl,(Or.inl rfl),%[0|7]|20],(@aK _),∅|19],∅|19],∅|19],∅,∅|27].mono λ _ _ _ _ h=>bN h)),(λ C s₀ H₀ ex pn=>(@aX _)),(λ C s₀ H₀ ex pn=>%[%[%[1|0],%[%[2|0]|1]|1]|14]),(by intros;rfl)|26]|1]|18]|4],%[%[J9,rfl,%[%[2|0]|23],%[5,b6|5],%[%[%[(bt hr.units),%[4|0],%[(@bC _)|18],(af _)|15],%[%[(@dU _ _ _)|13]|12],(@ai _)|16],%[%[6,b6,%[JJ,KZ,KY,kZ,%[4|0],∅,∅|46]|4],%[%[7,b6,%[_law_behind,%[%[0|0],%[%[1|0],%[%[6|0],%[%[5|0]|1]|1]|1]|1]|3]|4],%[%[(PW.pt %[%[De,%[7|0],(@dU _ _ _),(af _)|15],%[(PW.pt %[%[%[3|0],(by intros;rfl)|22],%[%[(df hr.units),%[7|0],%[(@bC _)|18],(af _)|15],%[%[%[_law_ended,%[%[0|0],%[%[1|0],%[%[6|0]|1]|1]|1]|3],(by intros;rfl)|22]|39]|33]|33])|37]|28]),%[%[(@dU _ _ _)|13]|12],(@ai _)|16],%[%[4,b6,%[bw,%[4|0],%[7|0]|9]|4]|12]|10]|10]|10]|10],(by intros;rfl)|35],%[%[%[4|0]|13]|12]|10]|10],?_⟩;rw [show aJ ["_law_terms_here", "_law_goal", "_law_paper", "_law_bare", "_law_cases", "_law_step", "_law_case", "_law_more"] [.ref p,.int g,.ref x,.bl false]=[some (.ref p),some (.int g),some (.ref x),some (.bl false),none,none,none,none] from rfl];clear G__law_behind G__law_ended;have h17:=ht.len;have wk:=gh (K:=K) (R:=trP) (λ _ _ _ _ h e=>h.ext e) hp al;exists k;exists kN;exists hth;have htr:gv H p zs:=⟨ts,hp,al⟩;ac_rfl;refine cp zs (λ _=>true) trP (λ D z y H'=>axP z.2 y H') wk.1 wk.2 (λ D z y H1 H2 h e=>axP.ext (a:=z.2) h e) (λ D z y H1 xs o h hD=>axP.upd (z:=z.2) h hD) (aj %[0|8]) ?_ ?_
  ·intro D z y H' N1 N0 hz hD e _ ⟨q,hy,hq⟩ k1 _;subst hy;have k1':=k1 rfl;clear k1 k kN wk hth hx hp htr;simp! only [↓nh,↓aV];intro t1 H6 ht1 e6 h6;exact k1' _ H6 e6 ⟨t1,rfl,h6⟩
  intro D zs2 H2 hD e2 h2 al2;rw [iR] at al2;have pr2:dP H2 D (zs.map λ z=>z.2):=⟨zs2,h2,gS al2⟩;clear al2 wk hD;ac_rfl;intro c3 H3 hc3 e3 h3;have hc30:H c3=none:=e2.free hc3
  have st3:cH H3 c3 c3 [zs.map λ z=>z.2] [.ref D]:=by
   have n:D ≠ c3:=λ e=>by rw [e,hc3] at h2;cases h2
   exact⟨[],.ref D,rfl,⟨D,rfl,n,n,br pr2 e3⟩,rfl⟩
  have e03:=e2.trans e3;have hx3:=e03.at hx;clear hc3 pr2 h2 e2 e3;ac_rfl;refine eS (xs:=ys) (λ i σ H'=>∃ (st:List Bx) (ca:Addr) (cl:List V) (v5 v6 v7:Option V),σ=[some (.ref p),some (.int g),some (.ref x),some (.bl false),some (.ref ca),v5,v6,v7]/\Ext H H'/\H ca=none/\H' ca=some (.lst cl)/\cH H' ca ca st cl/\(∀ c∈st,fD zs c)/\st.length<=i+1/\∀ o,bJ H zs g (ys.drop i) st o->bJ H zs g ys [zs.map λ z=>z.2] o) ⟨[zs.map λ z=>z.2],c3,_,none,none,none,rfl,e03,hc30,h3,st3,(λ c hc=>by rw [JD.mp hc];exact j1 ht),JB _,λ o h=>by rw [L9] at h;exact h⟩ (λ i σ H' _ ⟨_,_,_,_,_,_,_,e,_⟩=>e.at hx) ?_ ?_
  ·clear st3 h3 hx3 e03 hc30;rintro i y _ H5 hi ⟨st,ca,cl,v5,v6,v7,rfl,e5,hca,h5,stk,hok,hsl,hsuf⟩;have hit:i < ys.length:=(JC.mp hi).1;have hy:ys[i]=y:=(JC.mp hi).2;have hthy:=hth () y (by rw [←hy];exact KR hit);rw [List.drop_eq_getElem_cons hit,hy] at hsuf;exists hsuf;exists hok;exists hthy;clear hi hy
   cases st with
   | nil=>
    have hcl:cl=[]:=stk;subst hcl;have k2:=λ (_:Unit) H6 e6=>kN () H6 e6 (hsuf () none rfl);clear k kN hsuf hok stk;simp! only [↓aQ];intro n6 H6 hn6 e6 h6;have k3:=k2 () H6 (e5.trans e6);have h5_6:=e6.at h5;clear k2 h5;ac_rfl
   | cons c st=>
    have hc:=hok () c JI;rw [JS] at hsl;obtain⟨cl0,y',rfl,hcy,stk'⟩:=stk;obtain⟨a,rfl,nac,_,pa⟩:=hcy;have hcl0:=stk'.len;obtain⟨cl,hcl⟩:∃ cl,cl0++[V.ref a]=cl:=⟨_,rfl⟩;have stkc:cH H5 ca ca (c::st) cl:=⟨cl0,.ref a,hcl.symm,⟨a,rfl,nac,nac,pa⟩,stk'⟩;have hlen:0 < (cl.length:Int):=by rw [←hcl,JA,JH];omega
    have hlast:cl[cl.length - 1]? = some (.ref a):=by rw [←hcl,JA,JH,Mf,JX (JB _),Mr];rfl
    have hdrop:cl.dropLast=cl0:=by rw [←hcl,L8]
    rw [hcl] at h5;exists stk';exists hcl;exists hcl0;simp! only [↓aQ];intro n6 H6 hn6 e6 h6;have stk6:=stkc.ext e6;obtain⟨dd,ds,hdd⟩:=rL (f:=bc H6 (bc H6 noD)) stk6.al (by rw [Kv,JS];omega);have h5_6:=e6.at h5;have pa6:=br pa e6;have stk'6:=(stk' ()).ext e6;have e06:=e5.trans e6;clear hn6 stkc stk6 h5 stk' pa e6;have h7c:upd H6 ca (.lst cl0) ca=some (.lst cl0):=ag;have cs7:=CsV.upd (o:=.lst cl0) (c:=c) (y:=.ref a) ⟨a,rfl,nac,nac,pa6⟩ h5_6 (.inl rfl);have st7:=cH.upd (o:=.lst cl0) h5_6 (.inl rfl) stk'6;have e07:Ext H (upd H6 ca (.lst cl0)):=e06.put hca;exists st7;exists stk'6;ac_rfl;generalize upd H6 ca (.lst cl0)=H7 at *;clear hdd h5_6 pa6 stk'6 e06 h6 hlen hlast hdrop hcl;obtain⟨_,ha',_,_,pa7⟩:=cs7;cases ha';rw [o7];refine⟨zs,c,bY htr e07,pa7,ht,hc,(hthy ()).ext e07,λ H8 e8 bh=>?_,λ more r8 bs H8 e8 bh h8 beh=>?_⟩
    ·have bh0:=kf (hthy ()).thv e07 bh;have k2:=kN () H8 (e07.trans e8) (hsuf () none ⟨_,bh0,rfl⟩);clear k kN hsuf hok bh bh0 hthy;ac_rfl
    have bh0:=kf (hthy ()).thv e07 bh;have bhm:=bh0.more hc;have e08:=e07.trans e8;have h8c:=e8.at h7c;have st8:=(st7 ()).ext e8;have hcl1:cl0.length<=60000:=by have:=hcl0 ();omega
    have hbl:bs.length=more.length:=by have:=beh.1;rw [Kv] at this;omega
    have hm2:more.length<=2:=by rcases bhm.1 with h|⟨_,_,h⟩<;>rw [h]<;>simp
    exists beh;exists st8;exists bh0;exists bhm;clear bh h7c st7 pa7;ac_rfl;refine⟨b0 %[0|8],?_⟩;intro c12 H12 hc12 e12 h12;have hcn:H c12=none:=e08.free hc12;have stN:=(cH.cat (st8 ()) (beh ()) (bhm ()).1 hc12).ext e12;have eN:=e08.trans e12;exists stN;clear hc12 e12;ac_rfl;refine⟨_,c12,_,_,_,_,rfl,eN,hcn,h12,stN (),λ d hd=>?_,by rw [JA];omega,λ o h=>hsuf () o ⟨_,bh0 (),h⟩⟩
    rcases J1.mp hd with hd|hd
    ·exact(bhm ()).2 d hd
    ·exact hok () d (JG _ hd)
  ·rintro _ H5 ⟨st,ca,cl,v5,v6,v7,rfl,e5,hca,h5,stk,hok,hsl,hsuf⟩;rw [List.drop_length] at hsuf;have hfin:=hsuf (some st) (by cases st<;>rfl);have k':=k () st ca cl H5 e5 hfin h5 stk.al;clear k kN hsuf hok stk hfin;ac_rfl
def StP(H:Hp)(y:V):Prop:=∃ p z zs,y=.ref p/\H p=some (.tup (.str z::zs))/\PyData.strOk z=true/\zs.length<=2/\∀ x∈zs,∃ i,x=.int i
theorem StP.ext{H H':Hp}{y:V}(h:StP H y)(e:Ext H H'):StP H' y:=by
 obtain⟨p,z,zs,h1,h2,h3⟩:=h;exact⟨p,z,zs,h1,e.at h2,h3⟩
theorem StP.upd{H:Hp}{y:V}{r:Addr}{xs:List V}{o:HO}(h:StP H y)(hr:H r=some (.lst xs)):StP (upd H r o) y:=by
 obtain⟨p,z,zs,h1,h2,h3⟩:=h;exact⟨p,z,zs,h1,by rw [ah (λ e=>by rw [e,hr] at h2;cases h2)];exact h2,h3⟩
theorem StP.ths{H:Hp}{y:V}(h:StP H y):ThS H y:=by
 obtain⟨p,z,zs,h1,h2,h3,h4,h5⟩:=h;refine .inr (.inr (.inr (.inr ⟨p,_,h1,h2,by rw [JS];omega,λ x hx=>?_,.inr ⟨zs,.inr ⟨z,rfl⟩⟩⟩)))
 rcases J2.mp hx with rfl|hx
 ·exact .inr (.inr (.inr (.inl ⟨z,rfl,h3⟩)))
 ·exact .inr (.inl (h5 x hx))
def PaL(H:Hp)(ys:List V):Prop:=∀ y∈ys,StP H y
theorem PaL.ext{H H':Hp}{ys:List V}(h:PaL H ys)(e:Ext H H'):PaL H' ys:=λ y hy=>(h y hy).ext e
theorem PaL.upd{H:Hp}{ys:List V}{r:Addr}{xs:List V}{o:HO}(h:PaL H ys)(hr:H r=some (.lst xs)):PaL (upd H r o) ys:=λ y hy=>(h y hy).upd hr
theorem PaL.snoc{H:Hp}{ys:List V}{y:V}(h:PaL H ys)(hy:StP H y):PaL H (ys++[y]):=λ x hx=>by
 rcases J1.mp hx with hx|hx
 ·exact h x hx
 ·rw [JD.mp hx];exact hy
theorem PaL.dat{H:Hp}{ys:List V}(h:PaL H ys)(f:V->Option PyData):aI (ys.map (bc H (bc H (bc H f))))=some (ys.map (thD H)):=i4 (H:=H) λ y hy=>(h y hy).ths.dat.1 f
theorem lh:PyData.strOk (Str.ofString "low")=true:=by decide +kernel
theorem i9:PyData.strOk (Str.ofString "high")=true:=by decide +kernel
theorem i7:PyData.strOk (Str.ofString "rest")=true:=by decide +kernel
theorem i8:PyData.strOk (Str.ofString "part")=true:=by decide +kernel
theorem mR{H:Hp}{p:Addr}(h:H p=some (.tup [.str "low"])):StP H (.ref p):=⟨p,_,[],rfl,h,lh,by decide,λ x hx=>absurd hx JV⟩
theorem oI{H:Hp}{p:Addr}(h:H p=some (.tup [.str "high"])):StP H (.ref p):=⟨p,_,[],rfl,h,i9,by decide,λ x hx=>absurd hx JV⟩
theorem oH{H:Hp}{p:Addr}{d:Int}(h:H p=some (.tup [.str "rest",.int d])):StP H (.ref p):=⟨p,_,[.int d],rfl,h,i7,Nat.le_succ _,λ x hx=>⟨d,JD.mp hx⟩⟩
theorem jI{H:Hp}{p:Addr}{d a:Int}(h:H p=some (.tup [.str "part",.int d,.int a])):StP H (.ref p):=⟨p,_,[.int d,.int a],rfl,h,i8,JB _,λ x hx=>by
 rcases J2.mp hx with rfl|hx
 ·exact⟨d,rfl⟩
 ·exact⟨a,JD.mp hx⟩⟩
def EnI(H H':Hp)(l5 r2:Addr)(bs:List Int)(n:Nat):Prop:=Ext H H'/\H' l5=some (.lst (bs.map V.int))/\∃ ys,H' r2=some (.lst ys)/\ys.length<=n/\PaL H' ys
abbrev lZ  (p:Addr) (g:Int) (q:Addr) (H:Hp) (Q:VK) (E:XK):Prop:=∃ (zs:List Tm3) (cs:List (Int × Int)),gv H p zs/\dP H q cs/\cG zs/\fD zs cs/\∀ (r:Addr) (ys:List V) (H':Hp),Ext H H'->H' r=some (.lst ys)->ys.length<=9->PaL H' ys->Q (.ref r) H'
def m4  : Sp:=λ vs H Q E=>∃ (p:Addr) (g:Int) (q:Addr),vs=[.ref p,.int g,.ref q]/\(lZ  p g q H Q E)
theorem u7  (p:Addr) (g:Int) (q:Addr) (H:Hp) (Q:VK) (E:XK):m4  [.ref p,.int g,.ref q] H Q E=(lZ  p g q H Q E):=qN (f:=λ (p:Addr) (g:Int) (q:Addr)=>[.ref p,.int g,.ref q]) (λ _ _ _ _ _ _ h=>by cases h;exact⟨rfl,rfl,rfl⟩) p g q
theorem uz  {vs:List V}{H:Hp}{Q:VK}{E:XK}(h:m4  vs H Q E):vs.length=3:=pE h λ _ _ _=>rfl
theorem mn(T:Tx K mg t):bP P w K mg base CX0 2 t.a__law_ends t.d__law_ends ["_law_terms_here", "_law_goal", "_law_case"] m4:=by
 have G__law_sums:=%[cP|49];have G__law_divisor:=%[eu|49];refine T.F__law_ends.ok b7 (λ vs H Q E h=>uz h) (λ c A o s H vs Q E hr h=>?_)
 ·obtain⟨p,g,q,rfl,zs,cs,hp,hq,ht,hc,k⟩:=h;refine⟨_,%[(@gH _ _ _ _ _ _ %[_law_sums,%[%[0|0],%[%[2|0]|1]|1]|3] (%[(2),rfl,%[%[3,b7|5],%[%[4,b7|5],(@aK _),∅|19],∅|19],∅,∅|27].mono λ _ _ _ _ h=>bN h) ∅ ∅ ∅),%[%[5,b7,%[(@bC _)|18]|4],%[%[%[dm,%[3|0],%[1|0],(af _)|15],%[%[%[JJ,Ki,Kh,cn,%[5|0],%[%[%[(@av _ _ _ _)|1]|14]|1],∅,∅,∅,∅,∅|40],∅|31]|12],(@ai _)|16],%[%[%[dk,%[4|0],%[1|0],(af _)|15],%[%[%[JJ,Ki,Kh,cn,%[5|0],%[%[%[(@av _ _ _ _)|1]|14]|1],∅,∅,∅,∅,∅|40],∅|31]|12],(@ai _)|16],%[%[6,b7,%[_law_divisor,%[%[(["_law_k", "_law_terms_here", "_law_goal", "_law_case", "_law_least", "_law_greatest", "_law_found", "_law_rest_here", "_law_by"]),(1),(aH (ae du) ["_law_terms_here", "_law_goal", "_law_case", "_law_least", "_law_greatest", "_law_found", "_law_rest_here", "_law_by"] rfl rfl nofun),rfl,%[∅,T.z_range,%[%[len,ao,%[%[0|0]|1]|6]|1],∅|41],(λ C s₀ H₀ ex pn=>%[(0),_,(show List.Nodup (["_law_k", "_law_terms_here", "_law_goal", "_law_case", "_law_least", "_law_greatest", "_law_found", "_law_rest_here", "_law_by"]:List Str) from by decide +kernel),rfl,(Or.inl rfl),%[0|7]|20]),(λ C s₀ H₀ ex pn=>(@jD _ _ _ %[dk,%[az,%[az,%[3|0],%[0|0],(λ _ _=>rfl)|11],%[0|2],(λ _ _=>rfl)|11],%[az,%[az,%[3|0],%[0|0],(λ _ _=>rfl)|11],%[0|2],(λ _ _=>rfl)|11],(af _)|15])),(λ C s₀ H₀ ex pn=>%[az,%[az,%[1|0],%[0|0],(λ _ _=>rfl)|11],%[0|2],(λ _ _=>rfl)|11]),(by intros;rfl)|26]|1]|3]|4],%[%[J9,rfl,%[%[%[%[6|0],%[%[0|2],%[%[0|2],%[%[0|2],%[%[0|2],%[%[0|2],%[%[0|2]|1]|1]|1]|1]|1]|1]|1]|18]|23],%[7,b7|5],%[%[(PW.pt %[%[dm,%[7|0],%[0|2],(af _)|15],%[%[(bt hr.units),%[aO,%[6|0],%[7|0]|9],%[0|2],(af _)|15],%[%[dm,%[aO,%[aN,%[1|0],%[3|0]|9],%[7|0]|9],%[0|2],(af _)|15]|39]|33]|33]),%[%[%[JJ,Ki,Kh,cn,%[5|0],%[%[%[(@av _ _ _ _),%[%[7|0]|1]|1]|14]|1],∅,∅,∅,∅,∅|40],∅|31]|12],(@ai _)|16]|12],(by intros;rfl)|35],%[%[%[5|0]|13]|12]|10]|10]|10]|10]|10]|10],?_⟩;rw [show aJ ["_law_terms_here", "_law_goal", "_law_case", "_law_least", "_law_greatest", "_law_found", "_law_rest_here", "_law_by"] [.ref p,.int g,.ref q]=[some (.ref p),some (.int g),some (.ref q),none,none,none,none,none] from rfl];clear G__law_sums G__law_divisor;have h17:=ht.len;have hcl:=hc.len;have rs:=gx hcl;exists k;exists rs;exists hcl;ac_rfl;rw [aZ];refine⟨zs,cs,hp,hq,ht,hcl (),λ r1 H1 e1 h1=>?_⟩;ac_rfl;intro r2 H2 hr2 e2 h2;have hr0:H r2=none:=e1.free hr2;have e02:=e1.trans e2;generalize iP zs cs=l at *;generalize nX zs cs=gr at *;clear h1 hr2 e1 e2;simp! only [-gK];refine i3 (λ σ' H'=>∃ ys,σ'=[some (.ref p),some (.int g),some (.ref q),some (.int l),some (.int gr),some (.ref r2),none,none]/\Ext H H'/\H' r2=some (.lst ys)/\ys.length<=1/\PaL H' ys) (λ nx' hn=>?_) ?_
  ·exists hn;clear k
   by_cases hb:g < l
   ·ac_rfl;intro t3 H3 _ e3 h3;have h2_3:=e3.at h2;have e03:Ext H (upd H3 r2 (.lst [.ref t3])):=(e02.trans e3).put hr0;have st:=(mR h3).upd (o:=.lst [.ref t3]) h2_3;clear h2;ac_rfl;exact hn () _ _ ⟨_,rfl,e03,(by first|rfl|exact ag),JB _,λ y hy=>by rw [JD.mp hy];exact st⟩
   ·ac_rfl;exact hn () _ _ ⟨_,rfl,e02,h2,Kw _,λ y hy=>absurd hy JV⟩
  rintro _ H3 ⟨ys,rfl,e03,h3,hy1,pl3⟩;exists pl3;clear h2 e02;simp! only [-gK];refine i3 (λ σ' H'=>∃ ys,σ'=[some (.ref p),some (.int g),some (.ref q),some (.int l),some (.int gr),some (.ref r2),none,none]/\Ext H H'/\H' r2=some (.lst ys)/\ys.length<=2/\PaL H' ys) (λ nx' hn=>?_) ?_
  ·exists hn;clear k
   by_cases hb:gr < g
   ·ac_rfl;intro t4 H4 _ e4 h4;have h3_4:=e4.at h3;have e04:Ext H (upd H4 r2 (.lst (ys++[.ref t4]))):=(e03.trans e4).put hr0;have st:=(((pl3 ()).ext e4).snoc (oI h4)).upd (o:=.lst (ys++[.ref t4])) h3_4;exists st;have hlim:ys.length < sizeLine:=b0 %[0|8];clear h3;ac_rfl;exact hn () _ _ ⟨_,rfl,e04,(by first|rfl|exact ag),by rw [JA,JH];omega,st ()⟩
   ·ac_rfl;exact hn () _ _ ⟨_,rfl,e03,h3,by omega,pl3 ()⟩
  clear pl3 hy1 h3 e03 ys;rintro _ H1 ⟨ys,rfl,e01,h3,hy2,pl3⟩;exists pl3;obtain⟨ts,hp1,al⟩:=bY hp e01;obtain⟨xs,hq1,bl⟩:=br hq e01;have htl:ts.length=zs.length:=al.1;exists al;exists bl;clear hp hq;ac_rfl;refine⟨by omega,by omega,?_⟩;refine bH (List.range ((zs.length:Int)).toNat) (λ k=>decide ((cs.getD k default).1 < (cs.getD k default).2)) (λ k=>.int (zs.getD k default).1) (λ j x H'=>x=.int (0+(j:Nat))) dF.1 dF.2 (aj (by rw [Lm];omega)) ?_ ?_
  ·intro D k x H' N1 N0 hk hD e hx k1 k0;subst hx;have hkr:=Kt.mp hk;have hkz:k < zs.length:=by omega
   have hkc:k < cs.length:=by have:=hcl ();omega
   obtain⟨c1,c2,hu⟩:=dc (bl ()) hkc;obtain⟨z1,z2,hz⟩:=kW (al ()) hkz;have hp':=e.at hp1;have hq':=e.at hq1;have hu':=e.at hu;have hz':=e.at hz;generalize zs.getD k default=zi at *;generalize cs.getD k default=ci at *;clear hk hp1 hq1 hu hz rs
   by_cases hlt:ci.1 < ci.2
   ·have k1':N1 (.int zi.1) H':=k1 (JZ hlt) H' (Ext.refl _);clear k1 k0;simp! only [↓bA,↓aV]
   ·have k0':N0 H':=k0 (JW hlt) H' (Ext.refl _);clear k1 k0;simp! only [↓bA,↓aV]
  intro D H2 hD e2 h2;rw [Kk,show (((List.range zs.length).filter λ k=>decide ((cs.getD k default).1 < (cs.getD k default).2)).map λ k=>V.int (zs.getD k default).1)=(bX zs cs).map V.int by rw [←rs (),KG];rfl] at h2
  have hnn:∀ n∈bX zs cs,(0:Int)<=n:=λ n hn=>by
   unfold bX at hn;obtain⟨z,hz,rfl⟩:=List.mem_map.mp hn;have:=(ht.all z.1 (of_mem_zip (show (z.1,z.2)∈zs.zip cs from (List.mem_filter.mp hz).1)).1).1;omega
  have hgn:=nk (bX zs cs);exists hnn;clear hD;ac_rfl;rw [o6];refine⟨_,h2,hnn (),?_⟩;have h3_2:=e2.at h3;have pl2:=λ (_:Unit)=>(pl3 ()).ext e2;have e02:=e01.trans e2;clear hnn h2 rs h3 pl3 e01 e2 hp1 hq1;generalize pH (bX zs cs)=r at *;ac_rfl;intro l5 H5 hl5 e5 h5;have h5':H5 l5=some (.lst (([r,2,3,5,7,4,6]:List Int).map V.int)):=h5;have h3_5:=e5.at h3_2;have pl5:=λ (_:Unit)=>(pl2 ()).ext e5;have e05:=e02.trans e5;have hl0:H l5=none:=e02.free hl5;have n52:l5 ≠ r2:=λ e=>by rw [e,h3_2] at hl5;cases hl5
  clear h5 pl2 h3_2 hl5 e5 e02;ac_rfl;refine eS (xs:=([r,2,3,5,7,4,6]:List Int).map V.int) (λ i σ H'=>∃ (v:Option V),σ=[some (.ref p),some (.int g),some (.ref q),some (.int l),some (.int gr),some (.ref r2),some (.int r),v]/\EnI H H' l5 r2 [r,2,3,5,7,4,6] (2+i)) ⟨none,rfl,e05,h5',ys,h3_5,hy2,pl5 ()⟩ (λ i σ H' _ ⟨_,_,_,e,_⟩=>e) ?_ ?_
  ·clear h5' h3_5 pl5 e05 hy2 ys;rintro i y _ H6 hi ⟨v,rfl,e6,h5,ys,h6,hyl,pl⟩;have hi7:i < 7:=(JC.mp hi).1;obtain⟨b,_,rfl⟩:=J0.mp (K8 hi);exists pl;clear hi k
   by_cases hb1:1 < b
   ·have hb0:0 < b:=by omega
    by_cases hb2:r % b=0
    ·by_cases hb3:0 < (g - l) % b
     ·simp! only [↓aQ];intro t7 H7 _ e7 h7;have h6_7:=e7.at h6;have h5_7:=e7.at h5;have e07:Ext H (upd H7 r2 (.lst (ys++[.ref t7]))):=(e6.trans e7).put hr0;have h5_8:upd H7 r2 (.lst (ys++[.ref t7])) l5=some (.lst (([r,2,3,5,7,4,6]:List Int).map V.int)):=by rw [ah n52];exact h5_7
      have st:=(((pl ()).ext e7).snoc (oH h7)).upd (o:=.lst (ys++[.ref t7])) h6_7;exists st;have hlim:ys.length < sizeLine:=b0 %[0|8];clear h5 h6 h5_7;ac_rfl;exact⟨_,rfl,e07,h5_8,_,(by first|rfl|exact ag),by rw [JA,JH];omega,st ()⟩
     ·simp! only [↓aQ];exact⟨_,rfl,e6,h5,ys,h6,by omega,pl ()⟩
    ·simp! only [↓aQ];exact⟨_,rfl,e6,h5,ys,h6,by omega,pl ()⟩
   ·simp! only [↓aQ];exact⟨_,rfl,e6,h5,ys,h6,by omega,pl ()⟩
  ·rintro _ H6 ⟨v,rfl,e6,h5,ys,h6,hyl,pl⟩;have hyl':ys.length<=9:=hyl;have k':=k () r2 ys H6 e6 h6 hyl' pl;clear k pl;ac_rfl
def MdI(zs:List Tm3)(H H':Hp)(ca pr:Addr)(st:List Bx)(cl ps:List V):Prop:=Ext H H'/\H ca=none/\ca ≠ pr/\H' ca=some (.lst cl)/\H' pr=some (.lst ps)/\cH H' ca pr st cl/\(∀ c∈st,fD zs c)/\st.length<=ps.length+1/\ps.length<=60/\PaL H' ps
theorem cj{xs:List V}{i:Int}{k:V->Prop}(P:V->Prop)(h0:0<=i)(h1:i < xs.length)(ha:∀ v∈xs,P v)(hk:∀ v,P v->k v):aW (atI xs i) k:=Aa h0 h1 λ v hv=>hk v (ha v hv)
theorem cH.re2{H:Hp}{cA pA cB:Addr}(hb:H cB=none):∀ {st:List Bx}{cl:List V},cH H cA pA st cl->cH H cB pA st cl
 | [],_,h=>h
 | _::_,_,⟨cl0,y,h1,⟨a,h2,_,h4,h5⟩,h3⟩=>by
  have n:a ≠ cB:=λ e=>by obtain⟨_,h,_⟩:=h5;rw [e,hb] at h;cases h
  exact⟨cl0,y,h1,⟨a,h2,n,h4,h5⟩,cH.re2 hb h3⟩
theorem cH.cat2{H0 H:Hp}{cA pA cB:Addr}{more st:List Bx}{cl ys:List V}{o:HO}(hs:cH H cA pA st cl)(hm:BV H0 H more ys)(hmm:more=[]\/∃ a b,more=[a,b])(hb:H cB=none)(hp:H0 pA=some o):cH H cB pA (more++st) (cl++ys):=by
 have hs':=hs.re2 hb
 rcases hmm with rfl|⟨a,b,rfl⟩
 ·have:ys=[]:=Km.mp hm.1;rw [this,Lv];exact hs'
 ·have hl:ys.length=2:=hm.1
  obtain⟨y1,y2,rfl⟩:∃ y1 y2,ys=[y1,y2]:=by
   match ys,hl with
   | [y1,y2],_=>exact⟨y1,y2,rfl⟩
  obtain⟨a1,h1,f1,p1⟩:=hm.2 0 b y1 rfl rfl;obtain⟨a2,h2,f2,p2⟩:=hm.2 1 a y2 rfl rfl;have n1:a1 ≠ cB:=λ e=>by obtain⟨_,h,_⟩:=p1;rw [e,hb] at h;cases h
  have n2:a2 ≠ cB:=λ e=>by obtain⟨_,h,_⟩:=p2;rw [e,hb] at h;cases h
  have m1:a1 ≠ pA:=λ e=>by rw [e,hp] at f1;cases f1
  have m2:a2 ≠ pA:=λ e=>by rw [e,hp] at f2;cases f2
  exact⟨cl++[y1],y2,by rw [KC];rfl,⟨a2,h2,n2,m2,p2⟩,cl,y1,rfl,⟨a1,h1,n1,m1,p1⟩,hs'⟩
theorem PaL.ne{H:Hp}{ys:List V}(h:PaL H ys)(hn:ys ≠ [])(f:V->Option PyData):∃ d ds,aI (ys.map (bc H (bc H (bc H f))))=some (d::ds):=by
 rw [h.dat f]
 cases ys with
 | nil=>exact absurd rfl hn
 | cons y ys=>exact⟨_,_,rfl⟩
abbrev lX(K:PySem.W.Frag)(a:Addr)(ns:List Int)(s:Addr)(p:Addr)(g:Int)(H:Hp)(Q:VK)(E:XK):Prop:=s=a/\SqL K H a (ns.map V.int)/\ns.length<=63/\∃ (zs:List Tm3),gv H p zs/\cG zs/\∀ (r:Addr) (ys:List V) (H':Hp),Ext H H'->H' r=some (.lst ys)->ys.length<=60->PaL H' ys->Q (.ref r) H'
def mY(K:W.Frag)(a:Addr)(ns:List Int):Sp:=λ vs H Q E=>∃ (s:Addr) (p:Addr) (g:Int),vs=[.ref s,.ref p,.int g]/\(lX K a ns s p g H Q E)
theorem u4(K:W.Frag)(a:Addr)(ns:List Int)(s:Addr)(p:Addr)(g:Int)(H:Hp)(Q:VK)(E:XK):mY K a ns [.ref s,.ref p,.int g] H Q E=(lX K a ns s p g H Q E):=qN (f:=λ (s:Addr) (p:Addr) (g:Int)=>[.ref s,.ref p,.int g]) (λ _ _ _ _ _ _ h=>by cases h;exact⟨rfl,rfl,rfl⟩) s p g
theorem uw(K:W.Frag)(a:Addr)(ns:List Int){vs:List V}{H:Hp}{Q:VK}{E:XK}(h:mY K a ns vs H Q E):vs.length=3:=pE h λ _ _ _=>rfl
theorem mi(T:Tx K mg t)(a:Addr)(ns:List Int):bP P w K mg base CX0 4 t.a__law_made t.d__law_made ["_law_script", "_law_terms_here", "_law_goal"] (mY K a ns):=by
 have G__law_draw:=%[cQ|49] a ns;have G__law_ends:=%[mn|49];have G__law_behind:=%[eP|49];refine T.F__law_made.ok aL (λ vs H Q E h=>uw _ _ _ h) (λ c A o s H vs Q E hr h=>?_)
 ·obtain⟨_,p,g,rfl,rfl,hS,hl,zs,⟨ts,hp,al⟩,ht,kk⟩:=h;rename_i a;refine⟨_,%[%[3,aL,%[%[%[(["_law_times", "_law_low", "_law_high", "_law_script", "_law_terms_here", "_law_goal", "_law_cases", "_law_paper", "_law_case", "_law_cell", "_law_ends_here", "_law_opens", "_law_step", "_law_k"]),(3),(aH (ae cF) ["_law_script", "_law_terms_here", "_law_goal", "_law_cases", "_law_paper", "_law_case", "_law_cell", "_law_ends_here", "_law_opens", "_law_step", "_law_k"] rfl rfl nofun),rfl,%[%[1|0]|23],(λ C s₀ H₀ ex pn=>(%[(3),rfl,%[%[(0),_,(show List.Nodup (["_law_times", "_law_low", "_law_high", "_law_script", "_law_terms_here", "_law_goal", "_law_cases", "_law_paper", "_law_case", "_law_cell", "_law_ends_here", "_law_opens", "_law_step", "_law_k"]:List Str) from by decide +kernel),rfl,(Or.inl rfl),%[0|7]|20],%[%[(1),_,(show List.Nodup (["_law_times", "_law_low", "_law_high", "_law_script", "_law_terms_here", "_law_goal", "_law_cases", "_law_paper", "_law_case", "_law_cell", "_law_ends_here", "_law_opens", "_law_step", "_law_k"]:List Str) from by decide +kernel),rfl,(Or.inl rfl),%[0|7]|20],%[%[(2),_,(show List.Nodup (["_law_times", "_law_low", "_law_high", "_law_script", "_law_terms_here", "_law_goal", "_law_cases", "_law_paper", "_law_case", "_law_cell", "_law_ends_here", "_law_opens", "_law_step", "_law_k"]:List Str) from by decide +kernel),rfl,(Or.inl rfl),%[0|7]|20],(@aK _),∅|19],∅|19],∅|19],∅,∅|27].mono λ _ _ _ _ h=>bN h)),(λ C s₀ H₀ ex pn=>(@aX _)),(λ C s₀ H₀ ex pn=>%[%[%[1|0],%[%[2|0]|1]|1]|14]),(by intros;rfl)|26]|1]|18]|4],%[%[4,aL,%[(@bC _)|18]|4],%[(@oM _ _ _ _ _ _ J9 (PW.pt %[%[(df hr.units),%[3|0],%[(@bC _)|18],(af _)|15],%[%[dk,%[len,ao,%[%[4|0]|1]|6],%[0|2],(af _)|15]|39]|33]) %[(@dS _ _ (5) _ _ _ _ aL.nd rfl (Or.inr rfl) %[JJ,KZ,KY,kZ,%[3|0],∅,∅|46] ∅ %[0|7]),%[%[6,aL,%[wx,%[_law_draw,%[%[0|0],%[%[aw,%[0|2],%[aO,%[len,ao,%[%[4|0]|1]|6],%[0|2]|9]|9],%[%[kY,%[0|2],%[0|2]|9]|1]|1]|1]|3],%[aw,%[0|2],%[len,ao,%[%[4|0]|1]|6]|9]|9]|4],%[%[7,aL,%[_law_ends,%[%[1|0],%[%[2|0],%[%[5|0]|1]|1]|1]|3]|4],%[%[(["_law_k", "_law_script", "_law_terms_here", "_law_goal", "_law_cases", "_law_paper", "_law_case", "_law_cell", "_law_ends_here", "_law_opens", "_law_step", "!_law_k"]),(1),(8),_,aL.nd,rfl,(Or.inl rfl),(aH (ae cF) ["_law_script", "_law_terms_here", "_law_goal", "_law_cases", "_law_paper", "_law_case", "_law_cell", "_law_ends_here", "_law_opens", "_law_step", "_law_k"] rfl rfl nofun),rfl,%[∅,T.z_range,%[%[len,ao,%[%[1|0]|1]|6]|1],∅|41],(λ C s₀ H₀ ex pn=>%[(0),_,(show List.Nodup (["_law_k", "_law_script", "_law_terms_here", "_law_goal", "_law_cases", "_law_paper", "_law_case", "_law_cell", "_law_ends_here", "_law_opens", "_law_step", "!_law_k"]:List Str) from by decide +kernel),rfl,(Or.inl rfl),%[0|7]|20]),(λ C s₀ H₀ ex pn=>(@jD _ _ _ %[dk,%[az,%[az,%[6|0],%[0|0],(λ _ _=>rfl)|11],%[0|2],(λ _ _=>rfl)|11],%[az,%[az,%[6|0],%[0|0],(λ _ _=>rfl)|11],%[0|2],(λ _ _=>rfl)|11],(af _)|15])),(λ C s₀ H₀ ex pn=>%[0|0]),∅,(by intros;rfl),%[0|7]|45],%[%[9,aL,%[%[(@av _ _ _ _)|1]|14]|4],%[%[%[(df hr.units),%[7|0],%[(@bC _)|18],(af _)|15],%[%[9,aL,%[az,%[7|0],%[aO,%[bQ,%[6|0],%[0|2]|9],%[len,ao,%[%[7|0]|1]|6]|9],(λ _ _=>rfl)|11]|4]|12],(@ai _)|16],%[%[(PW.pt %[%[(df hr.units),%[8|0],%[(@bC _)|18],(af _)|15],%[(PW.pt %[%[(bt hr.units),%[7|0],%[(@bC _)|18],(af _)|15],%[%[(bt hr.units),%[aO,%[6|0],%[0|2]|9],%[0|2],(af _)|15]|37]|28])|39]|33]),%[%[10,aL,%[az,%[8|0],%[aO,%[bQ,%[6|0],%[0|2]|9],%[len,ao,%[%[8|0]|1]|6]|9],(λ _ _=>rfl)|11]|4],%[%[9,aL,%[%[(@av _ _ _ _),%[%[10|0],%[%[aw,%[az,%[az,%[5|0],%[10|0],(λ _ _=>rfl)|11],%[0|2],(λ _ _=>rfl)|11],%[aO,%[bQ,%[6|0],%[0|2]|9],%[aN,%[az,%[az,%[5|0],%[10|0],(λ _ _=>rfl)|11],%[0|2],(λ _ _=>rfl)|11],%[az,%[az,%[5|0],%[10|0],(λ _ _=>rfl)|11],%[0|2],(λ _ _=>rfl)|11]|9]|9]|9]|1]|1]|1]|14]|4]|12]|10],(@ai _)|16],%[%[%[JJ,Ki,Kh,cn,%[4|0],%[%[9|0]|1],∅,∅,∅,∅,∅|40],∅|31],%[%[3,aL,%[bw,%[3|0],(@C6 _ _ _ _ _ _ _ %[_law_behind,%[%[1|0],%[%[2|0],%[%[5|0],%[%[9|0]|1]|1]|1]|1]|3] %[%[(@bC _)|18]|38])|9]|4]|12]|10]|10]|10]|10]|10]|10]|10]|10]),%[%[%[4|0]|13]|12]|10]|10]|10],?_⟩;rw [show aJ ["_law_script", "_law_terms_here", "_law_goal", "_law_cases", "_law_paper", "_law_case", "_law_cell", "_law_ends_here", "_law_opens", "_law_step", "_law_k"] [.ref a,.ref p,.int g]=[some (.ref a),some (.ref p),some (.int g),none,none,none,none,none,none,none,none] from rfl];clear G__law_draw G__law_ends G__law_behind;have h17:=ht.len;have htl0:ts.length=zs.length:=al.1;have wk:=gh (K:=K) (R:=trP) (λ _ _ _ _ h e=>h.ext e) hp al;exists kk;have htr:gv H p zs:=⟨ts,hp,al⟩;ac_rfl;refine cp zs (λ _=>true) trP (λ D z y H'=>axP z.2 y H') wk.1 wk.2 (λ D z y H1 H2 h e=>axP.ext (a:=z.2) h e) (λ D z y H1 xs o h hD=>axP.upd (z:=z.2) h hD) (aj %[0|8]) ?_ ?_
  ·intro D z y H' N1 N0 hz hD e _ ⟨q,hy,hq⟩ k1 _;subst hy;have k1':=k1 rfl;clear k1 kk wk hp htr;simp! only [↓nh,↓aV];intro t1 H6 ht1 e6 h6;exact k1' _ H6 e6 ⟨t1,rfl,h6⟩
  intro D zs2 H2 hD e2 h2 al2;rw [iR] at al2;have pr2:dP H2 D (zs.map λ z=>z.2):=⟨zs2,h2,gS al2⟩;clear al2 wk hD;ac_rfl;intro c3 H3 hc3 e3 h3;have hc30:H c3=none:=e2.free hc3;have nD:D ≠ c3:=λ e=>by rw [e,hc3] at h2;cases h2
  have pr3:=br pr2 e3;have e03:=e2.trans e3;clear hc3 h2 e2 e3 pr2;ac_rfl;intro pr H4 hpr e4 h4;have hpr0:H pr=none:=e03.free hpr;have nD2:D ≠ pr:=λ e=>by obtain⟨_,h,_⟩:=pr3;rw [e,hpr] at h;cases h
  have e04:=e03.trans e4;have ini:MdI zs H H4 c3 pr [zs.map λ z=>z.2] [.ref D] []:=⟨e04,hc30,(λ e=>by rw [e,hpr] at h3;cases h3),e4.at h3,h4,⟨[],.ref D,rfl,⟨D,rfl,nD,nD2,br pr3 e4⟩,rfl⟩,(λ c hc=>by rw [JD.mp hc];exact j1 ht),JB _,Kw _,λ y hy=>absurd hy JV⟩;clear hpr h3 h4 e4 e03 e04 hc30 pr3;ac_rfl;refine rW (by repeat' first|exact Cn|exact yq|exact mo_nI|apply oP|apply mo_unN|exact rO|exact HJ|exact rP|exact mo_rI|exact mo_rIsN|exact mo_rNotN|exact yo|exact mo_qIx|exact yp|exact so|apply nc|apply mo_tB|apply mo_not|apply yr|apply mo_or|apply Co|apply mo_un|apply sr|apply sm|apply Cp) (λ mm σ H'=>∃ (ca:Addr) (st:List Bx) (cl ps:List V) (v5 v6 v7 v8 v9 v10:Option V),σ=[some (.ref a),some (.ref p),some (.int g),some (.ref ca),some (.ref pr),v5,v6,v7,v8,v9,v10]/\mm=60 - ps.length/\MdI zs H H' ca pr st cl ps) _ ⟨c3,_,_,_,none,none,none,none,none,none,rfl,rfl,ini⟩ ?_;clear ini nD nD2;rintro mm _ H5 ⟨ca,st,cl,ps,v5,v6,v7,v8,v9,v10,rfl,rfl,e5,hca,ncp,h5,h5p,stk,hok,hsl,hps,pl⟩;exists pl;exists hok
  cases st with
  | nil=>
   have hcl:cl=[]:=stk;subst hcl;have k':=λ (_:Unit) H6 (e6:Ext H5 H6)=>kk () pr ps H6 (e5.trans e6) (e6.at h5p) hps ((pl ()).ext e6);clear kk pl hok stk;ac_rfl;intro n6 H6 hn6 e6 h6;have k2:=k' () H6 e6;have h5_6:=e6.at h5;clear k' h5;ac_rfl
  | cons c st=>
   have hc:=hok () c JI;rw [JS] at hsl;obtain⟨cl0,y',rfl,hcy,stk'⟩:=stk;obtain⟨q,rfl,nac,nap,pa⟩:=hcy;have hcl0:=stk'.len;obtain⟨cl,hcl⟩:∃ cl,cl0++[V.ref q]=cl:=⟨_,rfl⟩;have stkc:cH H5 ca pr (c::st) cl:=⟨cl0,.ref q,hcl.symm,⟨q,rfl,nac,nap,pa⟩,stk'⟩;have hlen:0 < (cl.length:Int):=by rw [←hcl,JA,JH];omega
   have hlast:cl[cl.length - 1]? = some (.ref q):=by rw [←hcl,JA,JH,Mf,JX (JB _),Mr];rfl
   have hdrop:cl.dropLast=cl0:=by rw [←hcl,L8]
   rw [hcl] at h5;exists stk';exists hcl;exists hcl0;ac_rfl;intro n6 H6 hn6 e6 h6;have stk6:=stkc.ext e6;obtain⟨dd,ds,hdd⟩:=rL (f:=bc H6 (bc H6 noD)) stk6.al (by rw [Kv,JS];omega);have h5_6:=e6.at h5;have h5p6:=e6.at h5p;have pa6:=br pa e6;have stk'6:=(stk' ()).ext e6;have pl6:=(pl ()).ext e6;have e06:=e5.trans e6;clear hn6 stkc stk6 h5 h5p stk' pa pl e6
   by_cases hb:¬ ((ps.length:Int) < 60)
   ·have k2:=kk () pr ps H6 e06 h5p6 hps pl6;clear kk hok stk'6 pl6;ac_rfl
   replace hb:(ps.length:Int) < 60:=Ls.mp hb;have h7c:upd H6 ca (.lst cl0) ca=some (.lst cl0):=ag;have h7p:upd H6 ca (.lst cl0) pr=some (.lst ps):=by rw [ah (J6 ncp)];exact h5p6
   have cs7:=CsV.upd (o:=.lst cl0) (c:=c) (y:=.ref q) ⟨q,rfl,nac,nap,pa6⟩ h5_6 (.inl rfl);have st7:=cH.upd (o:=.lst cl0) h5_6 (.inl rfl) stk'6;have pl7:=pl6.upd (o:=.lst cl0) h5_6;have e07:Ext H (upd H6 ca (.lst cl0)):=e06.put hca;exists st7;exists stk'6;exists pl7;exists pl6;ac_rfl;generalize upd H6 ca (.lst cl0)=H7 at *;clear hdd h5_6 pa6 stk'6 e06 h6 hlen hlast hdrop hcl h5p6 pl6;obtain⟨_,ha',_,_,pa7⟩:=cs7;cases ha';have hS7:=e07.2 K a _ hS;rw [aU];refine⟨hS7,hl,⟨by omega,by omega⟩,by decide,λ zc z0 _=>?_⟩;have hpos:0 < 1+(ps.length:Int):=by omega
   have hdv:zr zc (1+(ps.length:Int)):=⟨by omega,by omega⟩;ac_rfl;clear hdv;generalize zc.fdiv (1+(ps.length:Int))=cell at *;rw [u7];refine⟨zs,c,bY htr e07,pa7,ht,hc,λ r8 ys H8 e8 h8 hy9 pl8=>?_⟩;have e08:=e07.trans e8;have h8c:=e8.at h7c;have h8p:=e8.at h7p;have st8:=λ (_:Unit)=>(st7 ()).ext e8;have plp8:=λ (_:Unit)=>(pl7 ()).ext e8;have pa8:=br pa7 e8;have hp8:=e08.at hp;obtain⟨xs,hq8,bl⟩:=pa8;have hcl:c.length=zs.length:=hc.len;exists bl;exists hcl;exists pl8;clear h7c h7p st7 pl7 pa7 hS7 z0;ac_rfl;refine⟨by omega,by omega,?_⟩;refine bH (List.range ((zs.length:Int)).toNat) (λ k=>decide ((c.getD k default).1 < (c.getD k default).2)) (λ k=>.int (k:Int)) (λ j x H'=>x=.int (0+(j:Nat))) dF.1 dF.2 (aj (by rw [Lm];omega)) ?_ ?_
   ·intro D k x H' N1 N0 hk hD e hx k1 k0;subst hx;have hkr:=Kt.mp hk;have hkc:k < c.length:=by have:=hcl ();omega
    obtain⟨c1,c2,hu⟩:=dc (bl ()) hkc;have hq':=e.at hq8;have hu':=e.at hu;generalize c.getD k default=ci at *;clear hk hp8 hq8 hu h8
    by_cases hlt:ci.1 < ci.2
    ·have k1':N1 (.int (0+(k:Int))) H':=by rw [Kj];exact k1 (JZ hlt) H' (Ext.refl _)
     clear k1 k0;simp! only [↓bA,↓aV]
    ·have k0':N0 H':=k0 (JW hlt) H' (Ext.refl _);clear k1 k0;simp! only [↓bA,↓aV]
   intro o9 H9 ho9 e9 h9
   obtain⟨ks,hks,h9'⟩:∃ ks:List Int,(∀ i∈ks,∃ m:Nat,V.int i=.int (m:Int)/\m < zs.length/\(c.getD m default).1 < (c.getD m default).2)/\H9 o9=some (.lst (ks.map V.int)):=by
    refine⟨((List.range ((zs.length:Int)).toNat).filter λ k=>decide ((c.getD k default).1 < (c.getD k default).2)).map λ (k:Nat)=>(k:Int),λ i hi=>?_,by rw [KG];exact h9⟩;obtain⟨m,hm,rfl⟩:=J0.mp hi;obtain⟨m1,m2⟩:=K0.mp hm;have:=Kt.mp m1;exact⟨m,rfl,by omega,LJ m2⟩
   have h8_9:=e9.at h8;have pl9:=λ (_:Unit)=>(pl8 ()).ext e9;have hq9:=e9.at hq8;exists hks;clear h9 ho9 h8 pl8 hp8 hq8;ac_rfl;intro t10 H10 _ e10 h10;have h8_10:=e10.at h8_9;have pl10:=λ (_:Unit)=>(pl9 ()).ext e10;have h9_10:=e10.at h9';have hq10:=e10.at hq9;clear h8_9 pl9 h9';simp! only [-gK];refine i3 (λ σ' H'=>∃ sp:Addr,σ'=[some (.ref a),some (.ref p),some (.int g),some (.ref ca),some (.ref pr),some (.ref q),some (.int cell),some (.ref r8),some (.ref o9),some (.ref sp),v10]/\Ext H10 H'/\StP H' (.ref sp)) (λ nx' hn=>?_) ?_
   ·exists hn;clear kk
    by_cases hye:ys=[]
    ·subst hye;ac_rfl;intro n11 H11 _ e11 h11;have h8_11:=e11.at h8_10;clear h8_10;ac_rfl;exact hn () _ _ ⟨t10,rfl,e11,(mR h10).ext e11⟩
    ·have hyl:0 < (ys.length:Int):=by
      cases ys with
      | nil=>exact absurd rfl hye
      | cons y ys=>rw [JS];omega
     ac_rfl;intro n11 H11 _ e11 h11;have h8_11:=e11.at h8_10;have pl11:=(pl10 ()).ext e11;obtain⟨dd,ds,hdd⟩:=pl11.ne hye (bc H11 (bc H11 noD));exists pl11;clear h8_10;ac_rfl;refine cj (StP H11) (Kb _ %[0|8]) (Ko _ hyl) (λ v hv=>pl11 () v hv) λ v hv=>?_;have hv':=hv;obtain⟨sp,_,_,rfl,_⟩:=hv';clear hdd pl11;exists hv;ac_rfl;exact hn () _ _ ⟨sp,rfl,e11,hv ()⟩
   rintro _ H11 ⟨sp,rfl,e11,sp11⟩;exists sp11;have h8_11:=e11.at h8_10;have h9_11:=e11.at h9_10;have hq11:=e11.at hq10;have pl11:=λ (_:Unit)=>(pl10 ()).ext e11;clear h8_10 h9_10 pl10 hq10 h10;simp! only [-gK];refine i3 (λ σ' H'=>∃ (sp:Addr) (v:Option V),σ'=[some (.ref a),some (.ref p),some (.int g),some (.ref ca),some (.ref pr),some (.ref q),some (.int cell),some (.ref r8),some (.ref o9),some (.ref sp),v]/\Ext H11 H'/\StP H' (.ref sp)) (λ nx' hn=>?_) ?_
   ·exists hn;clear kk
    by_cases hke:ks=[]
    ·subst hke;ac_rfl;intro n12 H12 _ e12 h12;have h9_12:=e12.at h9_11;clear h9_11;ac_rfl;exact hn () _ _ ⟨sp,_,rfl,e12,(sp11 ()).ext e12⟩
    ·obtain⟨k0,ks0,hk0⟩:∃ k0 ks0,ks=k0::ks0:=by
      cases ks with
      | nil=>exact absurd rfl hke
      | cons y ys=>exact⟨_,_,rfl⟩
     have hkl:0 < (ks.length:Int):=by rw [hk0,JS];omega
     have hkd:∀ (H:Hp) (f:V->Option PyData),aI ((ks.map V.int).map (bc H f))=some (.int k0::ks0.map PyData.int):=λ H f=>by rw [er,hk0];rfl
     exists hk0;ac_rfl;intro n12 H12 _ e12 h12;have hkd':=hkd H12 (bc H12 (bc H12 (bc H12 (bc H12 noD))));have h9_12:=e12.at h9_11;have h8_12:=e12.at h8_11;have pl12:=λ (_:Unit)=>(pl11 ()).ext e12;clear h9_11 h8_11 pl11 hkd;ac_rfl;intro n13 H13 _ e13' h13';have h9_13:=e13'.at h9_12;have h8_13:=e13'.at h8_12;have pl13:=λ (_:Unit)=>(pl12 ()).ext e13';clear h9_12 h8_12 pl12 hkd'
     by_cases hye:ys=[]
     ·subst hye;ac_rfl;refine cj (λ v=>∃ m:Nat,v=.int (m:Int)/\m < zs.length/\(c.getD m default).1 < (c.getD m default).2) (Kb _ %[0|8]) (by rw [JP];exact Ko _ hkl) (λ v hv=>?_) λ v hv=>?_
      ·obtain⟨i,hi,rfl⟩:=J0.mp hv;exact hks () i hi
      obtain⟨m,rfl,hmz,hmlt⟩:=hv;have hmc:m < c.length:=by have:=hcl ();omega
      obtain⟨y,hat,hy⟩:=dc (bl ()) hmc;rw [Kj] at hat;generalize c.getD m default=ci at *;have hq0:0 < ci.2 - ci.1:=by omega
      have hy':=(e9.trans (e10.trans (e11.trans (e12.trans e13')))).at hy;have hq':=(e10.trans (e11.trans (e12.trans e13'))).at hq9;clear hks;ac_rfl;intro t13 H13 _ e13 h13;exact hn () _ _ ⟨t13,_,rfl,e12.trans (e13'.trans e13),jI h13⟩
     ·obtain⟨dd,ds,hdd⟩:=(pl13 ()).ne hye (bc H13 (bc H13 noD))
      by_cases hc7:cell % 7=0
      ·ac_rfl;refine cj (λ v=>∃ m:Nat,v=.int (m:Int)/\m < zs.length/\(c.getD m default).1 < (c.getD m default).2) (Kb _ %[0|8]) (by rw [JP];exact Ko _ hkl) (λ v hv=>?_) λ v hv=>?_
       ·obtain⟨i,hi,rfl⟩:=J0.mp hv;exact hks () i hi
       obtain⟨m,rfl,hmz,hmlt⟩:=hv;have hmc:m < c.length:=by have:=hcl ();omega
       obtain⟨y,hat,hy⟩:=dc (bl ()) hmc;rw [Kj] at hat;generalize c.getD m default=ci at *;have hq0:0 < ci.2 - ci.1:=by omega
       have hy':=(e9.trans (e10.trans (e11.trans (e12.trans e13')))).at hy;have hq':=(e10.trans (e11.trans (e12.trans e13'))).at hq9;clear hks;ac_rfl;intro t13 H13 _ e13 h13;exact hn () _ _ ⟨t13,_,rfl,e12.trans (e13'.trans e13),jI h13⟩
      ·ac_rfl;exact hn () _ _ ⟨sp,_,rfl,e12.trans e13',(sp11 ()).ext (e12.trans e13')⟩
   rintro _ H12 ⟨sp2,v10',rfl,e12,sp12⟩;have e8_12:=e9.trans (e10.trans (e11.trans e12));have h12c:=e8_12.at h8c;have h12p:=e8_12.at h8p;have st12:=(st8 ()).ext e8_12;have pl12:=(plp8 ()).ext e8_12;have e012:=e08.trans e8_12;have hlim:ps.length < sizeLine:=b0 %[0|8];have h13c:upd H12 pr (.lst (ps++[.ref sp2])) ca=some (.lst cl0):=by rw [ah ncp];exact h12c
   have h13p:upd H12 pr (.lst (ps++[.ref sp2])) pr=some (.lst (ps++[.ref sp2])):=ag;have st13:=cH.upd (o:=.lst (ps++[.ref sp2])) h12p (.inr rfl) st12;have pl13:=(pl12.snoc sp12).upd (o:=.lst (ps++[.ref sp2])) h12p;have sp13:=sp12.upd (o:=.lst (ps++[.ref sp2])) h12p;have e013:Ext H (upd H12 pr (.lst (ps++[.ref sp2]))):=e012.put hpr0
   have hpq:dP (upd H12 pr (.lst (ps++[.ref sp2]))) q c:=by
    have h12q:=(e10.trans (e11.trans e12)).at hq9;exact⟨xs,by rw [ah nap];exact h12q,((bl ()).imp λ _ _ t=>axP.upd (axP.ext t e8_12) h12p)⟩
   exists st13;exists pl13;exists sp13;exists hpq;clear h12c st12 pl12 h8_11 h9_11 hq11 pl11 sp11 sp12 st8 plp8 h8c h8p e9 e10 e11 e12 e8_12 e08 e8;ac_rfl;generalize upd H12 pr (.lst (ps++[.ref sp2]))=H13 at *;clear h12p e012;rw [o7]
   have fin:∀ (more:List Bx) (bs:List V) (H14 H15:Hp) (c15:Addr),Ext H13 H14->iQ H13 zs g c (.ref sp2) (some more)\/more=[]->BV H13 H14 more bs->H14 c15=none->Ext H14 H15->H15 c15=some (.lst (cl0++bs))->MdI zs H H15 c15 pr (more++st) (cl0++bs) (ps++[.ref sp2]):=λ more bs H14 H15 c15 e14 bh hv hn15 e15 h15=>by
    have hmm:(more=[]\/∃ a b,more=[a,b])/\∀ d∈more,fD zs d:=by
     rcases bh with bh|bh
     ·exact bh.more hc
     ·rw [bh];exact⟨.inl rfl,λ d hd=>absurd hd JV⟩
    have hm2:more.length<=2:=by rcases hmm.1 with h|⟨_,_,h⟩<;>rw [h]<;>simp
    refine⟨e013.trans (e14.trans e15),(e013.trans e14).free hn15,(λ e=>by rw [e,e14.at h13p] at hn15;cases hn15),h15,(e14.trans e15).at h13p,(cH.cat2 ((st13 ()).ext e14) hv hmm.1 hn15 h13p).ext e15,λ d hd=>?_,by rw [JA,JA,JH];omega,by rw [JA,JH];omega,(pl13 ()).ext (e14.trans e15)⟩
    rcases J1.mp hd with hd|hd
    ·exact hmm.2 d hd
    ·exact hok () d (JG _ hd)
   exists fin;have hdec:60 - (ps++[V.ref sp2]).length < 60 - ps.length:=by rw [JA,JH];omega
   exists hdec;refine⟨zs,c,bY htr e013,hpq (),ht,hc,(sp13 ()).ths,λ H14 e14 bh=>?_,λ more r14 bs H14 e14 bh h14 beh=>?_⟩
   ·clear kk;have h14c:=e14.at h13c;clear h13c;refine .inl ⟨rfl,?_⟩;ac_rfl;intro n15 H15 _ e15 h15;have h15c:=e15.at h14c;have hl2:cl0.length+([]:List V).length<=sizeLine:=b0 (by rw [Lu];have:=hcl0 ();omega);clear h14c;refine bf h15c h15 hl2 ?_;intro c16 H16 hc16 e16 h16;have fi:=fin () [] [] H15 H16 c16 (e14.trans e15) (.inr rfl) Al.nil hc16 e16 h16;clear hc16 e16 e15;ac_rfl;exact⟨_,hdec (),c16,_,_,_,_,_,_,_,_,_,rfl,rfl,fi⟩
   ·clear kk;have hbm:=bh.more hc;have h14c:=e14.at h13c;exists beh;exists bh;clear h13c
    rcases hbm.1 with rfl|⟨b1,b2,rfl⟩
    ·have hbs:bs=[]:=Km.mp (beh ()).1;subst hbs;refine .inr (.inl ⟨r14,rfl,h14,?_⟩);ac_rfl;intro n15 H15 _ e15 h15;have h15c:=e15.at h14c;have hl2:cl0.length+([]:List V).length<=sizeLine:=b0 (by rw [Lu];have:=hcl0 ();omega);clear h14c;refine bf h15c h15 hl2 ?_;intro c16 H16 hc16 e16 h16;have fi:=fin () [] [] H15 H16 c16 (e14.trans e15) (.inr rfl) Al.nil hc16 e16 h16;clear hc16 e16 e15;ac_rfl;exact⟨_,hdec (),c16,_,_,_,_,_,_,_,_,_,rfl,rfl,fi⟩
    ·have hbl:bs.length=2:=(beh ()).1
     obtain⟨y1,y2,rfl⟩:∃ y1 y2,bs=[y1,y2]:=by
      match bs,hbl with
      | [y1,y2],_=>exact⟨y1,y2,rfl⟩
     have hl2:cl0.length+[y1,y2].length<=sizeLine:=b0 (by have:=hcl0 ();simp only [JS,Lu];omega);refine .inr (.inr ⟨r14,y1,[y2],rfl,h14,?_⟩);refine bf h14c h14 hl2 ?_;intro c16 H16 hc16 e16 h16;have fi:=fin () _ _ H14 H16 c16 e14 (.inl (bh ())) (beh ()) hc16 e16 h16;clear hc16 e16;ac_rfl;exact⟨_,hdec (),c16,_,_,_,_,_,_,_,_,_,rfl,rfl,fi⟩
def ItL(H:Hp)(xs:List V):Prop:=∀ y∈xs,ItV H y
theorem ItL.nil{H:Hp}:ItL H []:=λ y hy=>absurd hy JV
theorem ItL.cons{H:Hp}{x:V}{xs:List V}(h:ItV H x)(hs:ItL H xs):ItL H (x::xs):=λ y hy=>by
 rcases J2.mp hy with rfl|hy
 ·exact h
 ·exact hs y hy
def ThL(H:Hp)(xs:List V):Prop:=∀ y∈xs,ThS H y
theorem ThL.nil{H:Hp}:ThL H []:=λ y hy=>absurd hy JV
theorem ThL.ext{H H':Hp}{ys:List V}(h:ThL H ys)(e:Ext H H'):ThL H' ys:=λ y hy=>(h y hy).ext e
theorem ThL.app{H:Hp}{xs ys:List V}(h:ThL H xs)(h':ThL H ys):ThL H (xs++ys):=λ x hx=>by
 rcases J1.mp hx with hx|hx
 ·exact h x hx
 ·exact h' x hx
theorem ThL.snoc{H:Hp}{ys:List V}{y:V}(h:ThL H ys)(hy:ThS H y):ThL H (ys++[y]):=h.app λ x hx=>by rw [JD.mp hx];exact hy
theorem PaL.thl{H:Hp}{ys:List V}(h:PaL H ys):ThL H ys:=λ y hy=>(h y hy).ths
theorem aD{H:Hp}{p:Addr}{xs:List V}(h:H p=some (.tup xs))(hl:xs.length<=5)(hi:ItL H xs)(hh:xs=[]\/∃ ys,xs=.non::ys\/∃ z,xs=.str z::ys):ThS H (.ref p):=.inr (.inr (.inr (.inr ⟨p,xs,rfl,h,hl,hi,hh⟩)))
theorem rX{H:Hp}{p:Addr}{xs:List V}(h:H p=some (.lst xs))(hi:ItL H xs):ThS H (.ref p):=.inr (.inr (.inr (.inl ⟨p,xs,rfl,h,hi⟩)))
abbrev jm  (p:Addr) (c:Int) (H:Hp) (Q:VK) (E:XK):Prop:=∃ ts:List V,H p=some (.lst ts)/\ts.length<=17/\∀ (x:V) (H':Hp),Ext H H'->ThS H' x->Q x H'
def jM  : Sp:=λ vs H Q E=>∃ (p:Addr) (c:Int),vs=[.ref p,.int c]/\(jm  p c H Q E)
theorem fV  (p:Addr) (c:Int) (H:Hp) (Q:VK) (E:XK):jM  [.ref p,.int c] H Q E=(jm  p c H Q E):=pD (f:=λ (p:Addr) (c:Int)=>[.ref p,.int c]) (λ _ _ _ _ h=>by cases h;exact⟨rfl,rfl⟩) p c
theorem qg  {vs:List V}{H:Hp}{Q:VK}{E:XK}(h:jM  vs H Q E):vs.length=2:=pF h λ _ _=>rfl
theorem ki(T:Tx K mg t):bP P w K mg base CX0 1 t.a__law_thing t.d__law_thing ["_law_terms_here", "_law_cell"] jM:=by
 refine T.F__law_thing.ok bu (λ vs H Q E h=>qg h) (λ cdv A outer s H0 vs Q E hr h=>?_)
 ·obtain⟨p,c,rfl,ts,hp,htl,k⟩:=h;refine⟨_,%[%[2,bu,%[aO,%[bQ,%[1|0],%[0|2]|9],%[aw,%[len,ao,%[%[0|0]|1]|6],%[0|2]|9]|9]|4],%[%[3,bu,%[aN,%[aO,%[bQ,%[1|0],%[0|2]|9],%[0|2]|9],%[0|2]|9]|4],%[%[4,bu,%[%[%[%[(@av _ _ _ _)|1]|14],%[%[%[(@av _ _ _ _)|1]|14],%[%[%[(@av _ _ _ _),%[%[0|2]|1]|1]|14],%[%[%[(@av _ _ _ _),%[%[0|2]|1]|1]|14],%[%[%[(@av _ _ _ _),%[%[aw,%[0|2],%[aO,%[bQ,%[1|0],%[0|2]|9],%[0|2]|9]|9]|1]|1]|14],%[%[%[(@av _ _ _ _),%[%[0|2]|1]|1]|14],%[%[%[(@av _ _ _ _),%[%[0|2]|1]|1]|14]|1]|1]|1]|1]|1]|1]|1]|18]|4],%[%[4,bu,%[bw,%[4|0],%[%[%[%[(@av _ _ _ _),%[%[dY,%[0|2]|42]|1]|1]|14],%[%[%[(@av _ _ _ _),%[(@bD _ _ _ _)|1]|1]|14],%[%[%[(@av _ _ _ _),%[(@av _ _ _ _)|1]|1]|14],%[%[%[(@av _ _ _ _),%[(@dU _ _ _)|1]|1]|14],%[%[%[(@av _ _ _ _)|1]|14],%[%[%[(@av _ _ _ _),%[%[0|2],%[%[0|2]|1]|1]|1]|14],%[%[%[(@av _ _ _ _),%[%[0|2]|1]|1]|14]|1]|1]|1]|1]|1]|1]|1]|18]|9]|4],%[%[4,bu,%[bw,%[4|0],%[%[%[%[(@av _ _ _ _),%[%[2|0],%[%[3|0]|1]|1]|1]|14],%[%[%[(@av _ _ _ _),%[%[aN,%[2|0],%[0|2]|9],%[%[3|0]|1]|1]|1]|14],%[%[%[(@av _ _ _ _),%[%[dY,%[0|2]|42],%[%[3|0]|1]|1]|1]|14],%[%[%[(@av _ _ _ _),%[%[2|0],%[(@bD _ _ _ _)|1]|1]|1]|14],%[%[%[(@av _ _ _ _),%[(@bD _ _ _ _),%[%[3|0]|1]|1]|1]|14]|1]|1]|1]|1]|1]|18]|9]|4],%[%[4,bu,%[bw,%[4|0],%[%[%[%[(@av _ _ _ _),%[%[2|0]|1]|1]|14],%[%[%[(@av _ _ _ _),%[%[2|0],%[%[3|0],%[%[3|0]|1]|1]|1]|1]|14],%[%[%[(@av _ _ _ _),%[(@dU _ _ _),%[%[3|0]|1]|1]|1]|14],%[%[%[(@av _ _ _ _),%[%[2|0],%[(@av _ _ _ _)|1]|1]|1]|14],%[%[%[(@av _ _ _ _),%[%[%[%[2|0]|1]|18],%[%[3|0]|1]|1]|1]|14]|1]|1]|1]|1]|1]|18]|9]|4],%[%[4,bu,%[bw,%[4|0],%[%[%[(@bC _)|14],%[(@dU _ _ _),%[%[0|2],%[(@av _ _ _ _),%[%[%[(@av _ _ _ _)|1]|18],%[%[%[(@av _ _ _ _),%[%[2|0],%[%[3|0]|1]|1]|1]|18],%[%[%[(@av _ _ _ _)|1]|14],%[%[%[(@dU _ _ _),%[%[2|0],%[%[3|0]|1]|1]|1]|14],%[%[%[(@av _ _ _ _),%[%[aw,%[kY,%[0|2],%[0|2]|9],%[0|2]|9]|1]|1]|14]|1]|1]|1]|1]|1]|1]|1]|1]|1]|18]|9]|4],%[%[%[az,%[4|0],%[aO,%[1|0],%[len,ao,%[%[4|0]|1]|6]|9],(λ _ _=>rfl)|11]|13]|12]|10]|10]|10]|10]|10]|10]|10],?_⟩;rw [show aJ ["_law_terms_here", "_law_cell", "_law_k", "_law_at", "_law_some"] [.ref p,.int c]=[some (.ref p),some (.int c),none,none,none] from rfl];have so_low:=lh;have so_high:=i9;have so_rest:=i7;have so_part:=i8;have so_two:PyData.strOk (Str.ofString "2")=true:=by decide +kernel
  have so_zero:PyData.strOk (Str.ofString "0")=true:=by decide +kernel
  have so_cap:PyData.strOk (Str.ofString "Low")=true:=by decide +kernel
  exists so_low;exists so_high;exists so_rest;exists so_part;exists so_two;exists so_zero;exists so_cap;exists k;have h64:(0:Int) < (ts.length:Int)+1:=by omega
  have ee:=Ext.refl H0;have ac:ThL H0 []:=ThL.nil;exists ac;ac_rfl;replace ac:=ac ();intro t1 H1 _ e1 h1;replace ac:ThL H1 [.ref t1]:=(ac.ext e1).snoc (aD h1 (by simp) (ItL.cons (.inr (.inr (.inr (.inl ⟨_,rfl,so_low ()⟩)))) ItL.nil) (.inr ⟨_,.inr ⟨_,rfl⟩⟩));replace ee:=ee.trans e1;clear e1 h1;exists ac;ac_rfl;replace ac:=ac ();intro t2 H2 _ e2 h2;replace ac:ThL H2 [.ref t1,.ref t2]:=(ac.ext e2).snoc (aD h2 (by simp) (ItL.cons (.inr (.inr (.inr (.inl ⟨_,rfl,so_high ()⟩)))) ItL.nil) (.inr ⟨_,.inr ⟨_,rfl⟩⟩));replace ee:=ee.trans e2;clear e2 h2;exists ac;ac_rfl;replace ac:=ac ();intro t3 H3 _ e3 h3;replace ac:ThL H3 [.ref t1,.ref t2,.ref t3]:=(ac.ext e3).snoc (aD h3 (by simp) (ItL.cons (.inr (.inr (.inr (.inl ⟨_,rfl,so_rest ()⟩)))) (ItL.cons (.inr (.inl ⟨_,rfl⟩)) ItL.nil)) (.inr ⟨_,.inr ⟨_,rfl⟩⟩));replace ee:=ee.trans e3;clear e3 h3;exists ac;ac_rfl;replace ac:=ac ();intro t4 H4 _ e4 h4;replace ac:ThL H4 [.ref t1,.ref t2,.ref t3,.ref t4]:=(ac.ext e4).snoc (aD h4 (by simp) (ItL.cons (.inr (.inr (.inr (.inl ⟨_,rfl,so_rest ()⟩)))) (ItL.cons (.inr (.inl ⟨_,rfl⟩)) ItL.nil)) (.inr ⟨_,.inr ⟨_,rfl⟩⟩));replace ee:=ee.trans e4;clear e4 h4;exists ac;ac_rfl;replace ac:=ac ();intro t5 H5 _ e5 h5;replace ac:ThL H5 [.ref t1,.ref t2,.ref t3,.ref t4,.ref t5]:=(ac.ext e5).snoc (aD h5 (by simp) (ItL.cons (.inr (.inr (.inr (.inl ⟨_,rfl,so_rest ()⟩)))) (ItL.cons (.inr (.inl ⟨_,rfl⟩)) ItL.nil)) (.inr ⟨_,.inr ⟨_,rfl⟩⟩));replace ee:=ee.trans e5;clear e5 h5;exists ac;ac_rfl;replace ac:=ac ();intro t6 H6 _ e6 h6;replace ac:ThL H6 [.ref t1,.ref t2,.ref t3,.ref t4,.ref t5,.ref t6]:=(ac.ext e6).snoc (aD h6 (by simp) (ItL.cons (.inr (.inr (.inr (.inl ⟨_,rfl,so_rest ()⟩)))) (ItL.cons (.inr (.inl ⟨_,rfl⟩)) ItL.nil)) (.inr ⟨_,.inr ⟨_,rfl⟩⟩));replace ee:=ee.trans e6;clear e6 h6;exists ac;ac_rfl;replace ac:=ac ();intro t7 H7 _ e7 h7;replace ac:ThL H7 [.ref t1,.ref t2,.ref t3,.ref t4,.ref t5,.ref t6,.ref t7]:=(ac.ext e7).snoc (aD h7 (by simp) (ItL.cons (.inr (.inr (.inr (.inl ⟨_,rfl,so_rest ()⟩)))) (ItL.cons (.inr (.inl ⟨_,rfl⟩)) ItL.nil)) (.inr ⟨_,.inr ⟨_,rfl⟩⟩));replace ee:=ee.trans e7;clear e7 h7;exists ac;ac_rfl;replace ac:=ac ();intro l8 H8 _ e8 h8;replace ac:=λ (_:Unit)=>ac.ext e8;replace ee:=ee.trans e8;obtain⟨ws,hws,hl,acl⟩:∃ ws:List V,ws.length=7/\H8 l8=some (.lst ws)/\ThL H8 ws:=⟨_,rfl,h8,ac ()⟩;exists acl;clear h8 ac e8;have ac:ThL H8 []:=ThL.nil;exists ac;ac_rfl;replace ac:=ac ();intro t9 H9 _ e9 h9;replace ac:ThL H9 [.ref t9]:=(ac.ext e9).snoc (aD h9 (by simp) (ItL.cons (.inr (.inr (.inr (.inl ⟨_,rfl,so_rest ()⟩)))) (ItL.cons (.inr (.inl ⟨_,rfl⟩)) ItL.nil)) (.inr ⟨_,.inr ⟨_,rfl⟩⟩));replace ee:=ee.trans e9;replace hl:=e9.at hl;replace acl:=λ (_:Unit)=>(acl ()).ext e9;clear e9 h9;exists ac;ac_rfl;replace ac:=ac ();intro t10 H10 _ e10 h10;replace ac:ThL H10 [.ref t9,.ref t10]:=(ac.ext e10).snoc (aD h10 (by simp) (ItL.cons (.inr (.inr (.inr (.inl ⟨_,rfl,so_rest ()⟩)))) (ItL.cons (.inr (.inr (.inl ⟨_,rfl⟩))) ItL.nil)) (.inr ⟨_,.inr ⟨_,rfl⟩⟩));replace ee:=ee.trans e10;replace hl:=e10.at hl;replace acl:=λ (_:Unit)=>(acl ()).ext e10;clear e10 h10;exists ac;ac_rfl;replace ac:=ac ();intro t11 H11 _ e11 h11;replace ac:ThL H11 [.ref t9,.ref t10,.ref t11]:=(ac.ext e11).snoc (aD h11 (by simp) (ItL.cons (.inr (.inr (.inr (.inl ⟨_,rfl,so_rest ()⟩)))) (ItL.cons (.inr (.inr (.inr (.inl ⟨_,rfl,so_two ()⟩)))) ItL.nil)) (.inr ⟨_,.inr ⟨_,rfl⟩⟩));replace ee:=ee.trans e11;replace hl:=e11.at hl;replace acl:=λ (_:Unit)=>(acl ()).ext e11;clear e11 h11;exists ac;ac_rfl;replace ac:=ac ();intro t12 H12 _ e12 h12;replace ac:ThL H12 [.ref t9,.ref t10,.ref t11,.ref t12]:=(ac.ext e12).snoc (aD h12 (by simp) (ItL.cons (.inr (.inr (.inr (.inl ⟨_,rfl,so_rest ()⟩)))) (ItL.cons (.inl rfl) ItL.nil)) (.inr ⟨_,.inr ⟨_,rfl⟩⟩));replace ee:=ee.trans e12;replace hl:=e12.at hl;replace acl:=λ (_:Unit)=>(acl ()).ext e12;clear e12 h12;exists ac;ac_rfl;replace ac:=ac ();intro t13 H13 _ e13 h13;replace ac:ThL H13 [.ref t9,.ref t10,.ref t11,.ref t12,.ref t13]:=(ac.ext e13).snoc (aD h13 (by simp) (ItL.cons (.inr (.inr (.inr (.inl ⟨_,rfl,so_rest ()⟩)))) ItL.nil) (.inr ⟨_,.inr ⟨_,rfl⟩⟩));replace ee:=ee.trans e13;replace hl:=e13.at hl;replace acl:=λ (_:Unit)=>(acl ()).ext e13;clear e13 h13;exists ac;ac_rfl;replace ac:=ac ();intro t14 H14 _ e14 h14;replace ac:ThL H14 [.ref t9,.ref t10,.ref t11,.ref t12,.ref t13,.ref t14]:=(ac.ext e14).snoc (aD h14 (by simp) (ItL.cons (.inr (.inr (.inr (.inl ⟨_,rfl,so_rest ()⟩)))) (ItL.cons (.inr (.inl ⟨_,rfl⟩)) (ItL.cons (.inr (.inl ⟨_,rfl⟩)) ItL.nil))) (.inr ⟨_,.inr ⟨_,rfl⟩⟩));replace ee:=ee.trans e14;replace hl:=e14.at hl;replace acl:=λ (_:Unit)=>(acl ()).ext e14;clear e14 h14;exists ac;ac_rfl;replace ac:=ac ();intro t15 H15 _ e15 h15;replace ac:ThL H15 [.ref t9,.ref t10,.ref t11,.ref t12,.ref t13,.ref t14,.ref t15]:=(ac.ext e15).snoc (aD h15 (by simp) (ItL.cons (.inr (.inr (.inr (.inl ⟨_,rfl,so_low ()⟩)))) (ItL.cons (.inr (.inl ⟨_,rfl⟩)) ItL.nil)) (.inr ⟨_,.inr ⟨_,rfl⟩⟩));replace ee:=ee.trans e15;replace hl:=e15.at hl;replace acl:=λ (_:Unit)=>(acl ()).ext e15;clear e15 h15;exists ac;ac_rfl;replace ac:=ac ();intro l16 H16 _ e16 h16;replace ac:=λ (_:Unit)=>ac.ext e16;replace ee:=ee.trans e16;replace hl:=e16.at hl;replace acl:=λ (_:Unit)=>(acl ()).ext e16;refine bf hl h16 (aj (by rw [hws];simp)) ?_;intro l17 H17 _ e17 h17;replace acl:=λ (_:Unit)=>((acl ()).app (ac ())).ext e17;replace ee:=ee.trans e17;clear hl;obtain⟨ws,hws,hl,acl⟩:∃ ws:List V,ws.length=14/\H17 l17=some (.lst ws)/\ThL H17 ws:=⟨_,by rw [JA,hws];rfl,h17,acl ()⟩;exists acl;clear h16 h17 ac e16 e17;have ac:ThL H17 []:=ThL.nil;exists ac;ac_rfl;replace ac:=ac ();intro t18 H18 _ e18 h18;replace ac:ThL H18 [.ref t18]:=(ac.ext e18).snoc (aD h18 (by simp) (ItL.cons (.inr (.inr (.inr (.inl ⟨_,rfl,so_part ()⟩)))) (ItL.cons (.inr (.inl ⟨_,rfl⟩)) (ItL.cons (.inr (.inl ⟨_,rfl⟩)) ItL.nil))) (.inr ⟨_,.inr ⟨_,rfl⟩⟩));replace ee:=ee.trans e18;replace hl:=e18.at hl;replace acl:=λ (_:Unit)=>(acl ()).ext e18;clear e18 h18;exists ac;ac_rfl;replace ac:=ac ();intro t19 H19 _ e19 h19;replace ac:ThL H19 [.ref t18,.ref t19]:=(ac.ext e19).snoc (aD h19 (by simp) (ItL.cons (.inr (.inr (.inr (.inl ⟨_,rfl,so_part ()⟩)))) (ItL.cons (.inr (.inl ⟨_,rfl⟩)) (ItL.cons (.inr (.inl ⟨_,rfl⟩)) ItL.nil))) (.inr ⟨_,.inr ⟨_,rfl⟩⟩));replace ee:=ee.trans e19;replace hl:=e19.at hl;replace acl:=λ (_:Unit)=>(acl ()).ext e19;clear e19 h19;exists ac;ac_rfl;replace ac:=ac ();intro t20 H20 _ e20 h20;replace ac:ThL H20 [.ref t18,.ref t19,.ref t20]:=(ac.ext e20).snoc (aD h20 (by simp) (ItL.cons (.inr (.inr (.inr (.inl ⟨_,rfl,so_part ()⟩)))) (ItL.cons (.inr (.inl ⟨_,rfl⟩)) (ItL.cons (.inr (.inl ⟨_,rfl⟩)) ItL.nil))) (.inr ⟨_,.inr ⟨_,rfl⟩⟩));replace ee:=ee.trans e20;replace hl:=e20.at hl;replace acl:=λ (_:Unit)=>(acl ()).ext e20;clear e20 h20;exists ac;ac_rfl;replace ac:=ac ();intro t21 H21 _ e21 h21;replace ac:ThL H21 [.ref t18,.ref t19,.ref t20,.ref t21]:=(ac.ext e21).snoc (aD h21 (by simp) (ItL.cons (.inr (.inr (.inr (.inl ⟨_,rfl,so_part ()⟩)))) (ItL.cons (.inr (.inl ⟨_,rfl⟩)) (ItL.cons (.inr (.inr (.inl ⟨_,rfl⟩))) ItL.nil))) (.inr ⟨_,.inr ⟨_,rfl⟩⟩));replace ee:=ee.trans e21;replace hl:=e21.at hl;replace acl:=λ (_:Unit)=>(acl ()).ext e21;clear e21 h21;exists ac;ac_rfl;replace ac:=ac ();intro t22 H22 _ e22 h22;replace ac:ThL H22 [.ref t18,.ref t19,.ref t20,.ref t21,.ref t22]:=(ac.ext e22).snoc (aD h22 (by simp) (ItL.cons (.inr (.inr (.inr (.inl ⟨_,rfl,so_part ()⟩)))) (ItL.cons (.inr (.inr (.inl ⟨_,rfl⟩))) (ItL.cons (.inr (.inl ⟨_,rfl⟩)) ItL.nil))) (.inr ⟨_,.inr ⟨_,rfl⟩⟩));replace ee:=ee.trans e22;replace hl:=e22.at hl;replace acl:=λ (_:Unit)=>(acl ()).ext e22;clear e22 h22;exists ac;ac_rfl;replace ac:=ac ();intro l23 H23 _ e23 h23;replace ac:=λ (_:Unit)=>ac.ext e23;replace ee:=ee.trans e23;replace hl:=e23.at hl;replace acl:=λ (_:Unit)=>(acl ()).ext e23;refine bf hl h23 (aj (by rw [hws];simp)) ?_;intro l24 H24 _ e24 h24;replace acl:=λ (_:Unit)=>((acl ()).app (ac ())).ext e24;replace ee:=ee.trans e24;clear hl;obtain⟨ws,hws,hl,acl⟩:∃ ws:List V,ws.length=19/\H24 l24=some (.lst ws)/\ThL H24 ws:=⟨_,by rw [JA,hws];rfl,h24,acl ()⟩;exists acl;clear h23 h24 ac e23 e24;have ac:ThL H24 []:=ThL.nil;exists ac;ac_rfl;replace ac:=ac ();intro t25 H25 _ e25 h25;replace ac:ThL H25 [.ref t25]:=(ac.ext e25).snoc (aD h25 (by simp) (ItL.cons (.inr (.inr (.inr (.inl ⟨_,rfl,so_part ()⟩)))) (ItL.cons (.inr (.inl ⟨_,rfl⟩)) ItL.nil)) (.inr ⟨_,.inr ⟨_,rfl⟩⟩));replace ee:=ee.trans e25;replace hl:=e25.at hl;replace acl:=λ (_:Unit)=>(acl ()).ext e25;clear e25 h25;exists ac;ac_rfl;replace ac:=ac ();intro t26 H26 _ e26 h26;replace ac:ThL H26 [.ref t25,.ref t26]:=(ac.ext e26).snoc (aD h26 (by simp) (ItL.cons (.inr (.inr (.inr (.inl ⟨_,rfl,so_part ()⟩)))) (ItL.cons (.inr (.inl ⟨_,rfl⟩)) (ItL.cons (.inr (.inl ⟨_,rfl⟩)) (ItL.cons (.inr (.inl ⟨_,rfl⟩)) ItL.nil)))) (.inr ⟨_,.inr ⟨_,rfl⟩⟩));replace ee:=ee.trans e26;replace hl:=e26.at hl;replace acl:=λ (_:Unit)=>(acl ()).ext e26;clear e26 h26;exists ac;ac_rfl;replace ac:=ac ();intro t27 H27 _ e27 h27;replace ac:ThL H27 [.ref t25,.ref t26,.ref t27]:=(ac.ext e27).snoc (aD h27 (by simp) (ItL.cons (.inr (.inr (.inr (.inl ⟨_,rfl,so_part ()⟩)))) (ItL.cons (.inl rfl) (ItL.cons (.inr (.inl ⟨_,rfl⟩)) ItL.nil))) (.inr ⟨_,.inr ⟨_,rfl⟩⟩));replace ee:=ee.trans e27;replace hl:=e27.at hl;replace acl:=λ (_:Unit)=>(acl ()).ext e27;clear e27 h27;exists ac;ac_rfl;replace ac:=ac ();intro t28 H28 _ e28 h28;replace ac:ThL H28 [.ref t25,.ref t26,.ref t27,.ref t28]:=(ac.ext e28).snoc (aD h28 (by simp) (ItL.cons (.inr (.inr (.inr (.inl ⟨_,rfl,so_part ()⟩)))) (ItL.cons (.inr (.inl ⟨_,rfl⟩)) (ItL.cons (.inr (.inr (.inr (.inl ⟨_,rfl,so_zero ()⟩)))) ItL.nil))) (.inr ⟨_,.inr ⟨_,rfl⟩⟩));replace ee:=ee.trans e28;replace hl:=e28.at hl;replace acl:=λ (_:Unit)=>(acl ()).ext e28;clear e28 h28;exists ac;ac_rfl;replace ac:=ac ();intro tL H29 _ e29 hL;replace ac:=ac.ext e29;replace ee:=ee.trans e29;replace hl:=e29.at hl;replace acl:=λ (_:Unit)=>(acl ()).ext e29;clear e29;exists ac;ac_rfl;replace ac:=ac ();intro t30 H30 _ e30 h30;replace hL:=e30.at hL;replace ac:ThL H30 [.ref t25,.ref t26,.ref t27,.ref t28,.ref t30]:=(ac.ext e30).snoc (aD h30 (by simp) (ItL.cons (.inr (.inr (.inr (.inl ⟨_,rfl,so_part ()⟩)))) (ItL.cons (.inr (.inr (.inr (.inr ⟨_,_,rfl,hL⟩)))) (ItL.cons (.inr (.inl ⟨_,rfl⟩)) ItL.nil))) (.inr ⟨_,.inr ⟨_,rfl⟩⟩));replace ee:=ee.trans e30;replace hl:=e30.at hl;replace acl:=λ (_:Unit)=>(acl ()).ext e30;clear e30 h30 hL;exists ac;ac_rfl;replace ac:=ac ();intro l31 H31 _ e31 h31;replace ac:=λ (_:Unit)=>ac.ext e31;replace ee:=ee.trans e31;replace hl:=e31.at hl;replace acl:=λ (_:Unit)=>(acl ()).ext e31;refine bf hl h31 (aj (by rw [hws];simp)) ?_;intro l32 H32 _ e32 h32;replace acl:=λ (_:Unit)=>((acl ()).app (ac ())).ext e32;replace ee:=ee.trans e32;clear hl;obtain⟨ws,hws,hl,acl⟩:∃ ws:List V,ws.length=24/\H32 l32=some (.lst ws)/\ThL H32 ws:=⟨_,by rw [JA,hws];rfl,h32,acl ()⟩;exists acl;clear h31 h32 ac e31 e32;have ac:ThL H32 []:=ThL.nil;exists ac;ac_rfl;replace ac:=ac ();intro t33 H33 _ e33 h33;replace ac:ThL H33 [.ref t33]:=(ac.ext e33).snoc (aD h33 (by simp) ItL.nil (.inl rfl));replace ee:=ee.trans e33;replace hl:=e33.at hl;replace acl:=λ (_:Unit)=>(acl ()).ext e33;clear e33 h33;replace ac:ThL H33 [.ref t33,.non]:=ac.snoc (.inl rfl);replace ac:ThL H33 [.ref t33,.non,.int 5]:=ac.snoc (.inr (.inl ⟨_,rfl⟩));replace ac:ThL H33 [.ref t33,.non,.int 5,.str "low"]:=ac.snoc (.inr (.inr (.inl ⟨_,rfl,so_low ()⟩)));exists ac;ac_rfl;replace ac:=ac ();intro t34 H34 _ e34 h34;replace ac:ThL H34 [.ref t33,.non,.int 5,.str "low",.ref t34]:=(ac.ext e34).snoc (rX h34 (ItL.cons (.inr (.inr (.inr (.inl ⟨_,rfl,so_low ()⟩)))) ItL.nil));replace ee:=ee.trans e34;replace hl:=e34.at hl;replace acl:=λ (_:Unit)=>(acl ()).ext e34;clear e34 h34;exists ac;ac_rfl;replace ac:=ac ();intro t35 H35 _ e35 h35;replace ac:ThL H35 [.ref t33,.non,.int 5,.str "low",.ref t34,.ref t35]:=(ac.ext e35).snoc (rX h35 (ItL.cons (.inr (.inr (.inr (.inl ⟨_,rfl,so_part ()⟩)))) (ItL.cons (.inr (.inl ⟨_,rfl⟩)) (ItL.cons (.inr (.inl ⟨_,rfl⟩)) ItL.nil))));replace ee:=ee.trans e35;replace hl:=e35.at hl;replace acl:=λ (_:Unit)=>(acl ()).ext e35;clear e35 h35;exists ac;ac_rfl;replace ac:=ac ();intro t36 H36 _ e36 h36;replace ac:ThL H36 [.ref t33,.non,.int 5,.str "low",.ref t34,.ref t35,.ref t36]:=(ac.ext e36).snoc (aD h36 (by simp) (ItL.cons (.inr (.inr (.inr (.inl ⟨_,rfl,so_cap ()⟩)))) ItL.nil) (.inr ⟨_,.inr ⟨_,rfl⟩⟩));replace ee:=ee.trans e36;replace hl:=e36.at hl;replace acl:=λ (_:Unit)=>(acl ()).ext e36;clear e36 h36;exists ac;ac_rfl;replace ac:=ac ();intro t37 H37 _ e37 h37;replace ac:ThL H37 [.ref t33,.non,.int 5,.str "low",.ref t34,.ref t35,.ref t36,.ref t37]:=(ac.ext e37).snoc (aD h37 (by simp) (ItL.cons (.inl rfl) (ItL.cons (.inr (.inl ⟨_,rfl⟩)) (ItL.cons (.inr (.inl ⟨_,rfl⟩)) ItL.nil))) (.inr ⟨_,.inl rfl⟩));replace ee:=ee.trans e37;replace hl:=e37.at hl;replace acl:=λ (_:Unit)=>(acl ()).ext e37;clear e37 h37;exists ac;ac_rfl;replace ac:=ac ();intro t38 H38 _ e38 h38;replace ac:ThL H38 [.ref t33,.non,.int 5,.str "low",.ref t34,.ref t35,.ref t36,.ref t37,.ref t38]:=(ac.ext e38).snoc (aD h38 (by simp) (ItL.cons (.inr (.inr (.inr (.inl ⟨_,rfl,so_rest ()⟩)))) (ItL.cons (.inr (.inl ⟨_,rfl⟩)) ItL.nil)) (.inr ⟨_,.inr ⟨_,rfl⟩⟩));replace ee:=ee.trans e38;replace hl:=e38.at hl;replace acl:=λ (_:Unit)=>(acl ()).ext e38;clear e38 h38;exists ac;ac_rfl;replace ac:=ac ();intro l39 H39 _ e39 h39;replace ac:=λ (_:Unit)=>ac.ext e39;replace ee:=ee.trans e39;replace hl:=e39.at hl;replace acl:=λ (_:Unit)=>(acl ()).ext e39;refine bf hl h39 (aj (by rw [hws];simp)) ?_;intro l40 H40 _ e40 h40;replace acl:=λ (_:Unit)=>((acl ()).app (ac ())).ext e40;replace ee:=ee.trans e40;clear hl;obtain⟨ws,hws,hl,acl⟩:∃ ws:List V,ws.length=33/\H40 l40=some (.lst ws)/\ThL H40 ws:=⟨_,by rw [JA,hws];rfl,h40,acl ()⟩;exists acl;clear h39 h40 ac e39 e40;ac_rfl;refine cj (ThS H40) (Kb _ ⋯) (by rw [hws];exact Ko _ ⋯) (λ v hv=>acl () v hv) λ v hv=>?_;have k2:=k () v H40 ee hv;clear k acl hv hl;ac_rfl
theorem By{xs:List V}{a b:Option Int}{y:V}(h:y∈gd xs a b):y∈xs:=by
 unfold gd at h;exact List.mem_of_mem_drop (List.mem_of_mem_take h)
theorem aM{xs:List V}{a b:Option Int}:(gd xs a b).length<=xs.length:=by
 unfold gd;rw [length_take,length_drop];omega
theorem ThL.cut{H:Hp}{xs:List V}{a b:Option Int}(h:ThL H xs):ThL H (gd xs a b):=λ y hy=>h y (By hy)
theorem ThL.ne{H:Hp}{ys:List V}(h:ThL H ys)(hn:ys ≠ [])(f:V->Option PyData):∃ d ds,aI (ys.map (bc H (bc H (bc H f))))=some (d::ds):=by
 rw [i4 (H:=H) λ y hy=>(h y hy).dat.1 f]
 cases ys with
 | nil=>exact absurd rfl hn
 | cons y ys=>exact⟨_,_,rfl⟩
abbrev iG  (x:Addr) (p:Addr) (c:Int) (H:Hp) (Q:VK) (E:XK):Prop:=∃ ys ts:List V,H x=some (.lst ys)/\ys.length<=60/\ThL H ys/\H p=some (.lst ts)/\ts.length<=17/\∀ (r:Addr) (ws:List V) (H':Hp),Ext H H'->H' r=some (.lst ws)->ws.length<=200->ThL H' ws->Q (.ref r) H'
def gW  : Sp:=λ vs H Q E=>∃ (x:Addr) (p:Addr) (c:Int),vs=[.ref x,.ref p,.int c]/\(iG  x p c H Q E)
theorem nQ  (x:Addr) (p:Addr) (c:Int) (H:Hp) (Q:VK) (E:XK):gW  [.ref x,.ref p,.int c] H Q E=(iG  x p c H Q E):=qN (f:=λ (x:Addr) (p:Addr) (c:Int)=>[.ref x,.ref p,.int c]) (λ _ _ _ _ _ _ h=>by cases h;exact⟨rfl,rfl,rfl⟩) x p c
theorem nJ  {vs:List V}{H:Hp}{Q:VK}{E:XK}(h:gW  vs H Q E):vs.length=3:=pE h λ _ _ _=>rfl
theorem iV(T:Tx K mg t):bP P w K mg base CX0 2 t.a__law_spoilt t.d__law_spoilt ["_law_paper", "_law_terms_here", "_law_cell"] gW:=by
 have G__law_thing:=%[ki|49];refine T.F__law_spoilt.ok fC (λ vs H Q E h=>nJ h) (λ c A o s H vs Q E hr h=>?_)
 ·obtain⟨x,p,c,rfl,ys,ts,hx,hyl,th,hp,htl,k⟩:=h;refine⟨_,%[%[3,fC,%[aO,%[bQ,%[2|0],%[0|2]|9],%[max,(cC rfl),%[%[0|2],%[%[len,ao,%[%[0|0]|1]|6]|1]|1]|6]|9]|4],%[%[(PW.pt %[%[(bt hr.units),%[aO,%[2|0],%[0|2]|9],%[0|2],(af _)|15],%[%[(df hr.units),%[0|0],%[(@bC _)|18],(af _)|15]|39]|33]),%[%[%[bw,%[pG,%[0|0],(@bZ _),%[%[3|0]|32]|36],%[pG,%[0|0],%[%[aw,%[3|0],%[0|2]|9]|32],(@bZ _)|36]|9]|13]|12],(@ai _)|16],%[%[%[(bt hr.units),%[aO,%[2|0],%[0|2]|9],%[0|2],(af _)|15],%[%[%[bw,%[bw,%[pG,%[0|0],(@bZ _),%[%[3|0]|32]|36],%[pG,%[0|0],%[%[3|0]|32],%[%[aw,%[3|0],%[0|2]|9]|32]|36]|9],%[pG,%[0|0],%[%[3|0]|32],(@bZ _)|36]|9]|13]|12],(@ai _)|16],%[%[%[(bt hr.units),%[aO,%[2|0],%[0|2]|9],%[0|2],(af _)|15],%[%[%[bw,%[0|0],%[%[%[_law_thing,%[%[1|0],%[%[bQ,%[2|0],%[0|2]|9]|1]|1]|3]|1]|18]|9]|13]|12],(@ai _)|16],%[%[%[bw,%[bw,%[pG,%[0|0],(@bZ _),%[%[3|0]|32]|36],%[%[%[_law_thing,%[%[1|0],%[%[bQ,%[2|0],%[0|2]|9]|1]|1]|3]|1]|18]|9],%[pG,%[0|0],%[%[aw,%[3|0],%[0|2]|9]|32],(@bZ _)|36]|9]|13]|12]|10]|10]|10]|10],?_⟩;rw [show aJ ["_law_paper", "_law_terms_here", "_law_cell", "_law_at"] [.ref x,.ref p,.int c]=[some (.ref x),some (.ref p),some (.int c),none] from rfl];clear G__law_thing;exists k;exists th
  have hmx:0 < (if 1 < (ys.length:Int) then (ys.length:Int) else 1):=by split<;>omega
  by_cases c0:c % 4=0/\ys ≠ []
  ·obtain⟨c0,hne⟩:=c0;ac_rfl;intro n1 H1 _ e1 h1;have hx1:=e1.at hx;obtain⟨dd,ds,hdd⟩:=((th ()).ext e1).ne hne (bc H1 (bc H1 noD));clear hx;ac_rfl;clear hdd;intro l2 H2 _ e2 h2;have hx2:=e2.at hx1;clear hx1;ac_rfl;intro l3 H3 _ e3 h3;have h2_3:=e3.at h2;refine bf h2_3 h3 (aj (by have:=@aM ys;have:=@aM ys;exact JT (Ks aM aM) %[0|8])) ?_;intro l4 H4 _ e4 h4;have e04:=e1.trans (e2.trans (e3.trans e4));have k2:=k () l4 _ H4 e04 h4 (by rw [JA];exact JT (Ks aM aM) %[0|8]) (((th ()).ext e04).cut.app ((th ()).ext e04).cut);clear k th h2_3 h3 hx2;ac_rfl
  by_cases c1:c % 4=1
  ·have c00:¬ c % 4=0:=by omega
   clear c0;ac_rfl;intro l1 H1 _ e1 h1;have hx1:=e1.at hx;clear hx;ac_rfl;intro l2 H2 _ e2 h2;have h1_2:=e2.at h1;have hx2:=e2.at hx1;clear hx1;refine bf h1_2 h2 (aj (JT (Ks aM aM) %[0|8])) ?_;intro l3 H3 _ e3 h3;have hx3:=e3.at hx2;clear hx2 h1_2 h1 h2;ac_rfl;intro l4 H4 _ e4 h4;have h3_4:=e4.at h3;refine bf h3_4 h4 (aj (by rw [JA];exact JT (Ks (Ks aM aM) aM) %[0|8])) ?_;intro l5 H5 _ e5 h5;have e05:=e1.trans (e2.trans (e3.trans (e4.trans e5)));have k2:=k () l5 _ H5 e05 h5 (by rw [JA,JA];exact JT (Ks (Ks aM aM) aM) %[0|8]) ((((th ()).ext e05).cut.app ((th ()).ext e05).cut).app ((th ()).ext e05).cut);clear k th h3_4 h4 h3 hx3;ac_rfl
  have tail:∀ H1,Ext H H1->True:=λ _ _=>trivial;clear tail
  by_cases c2:c % 4=2
  ·have c00:¬ c % 4=0:=by omega
   clear c0 c1;ac_rfl;rw [fV];refine⟨ts,hp,htl,λ y H1 e1 y1=>?_⟩;have hx1:=e1.at hx;exists y1;clear hx;ac_rfl;intro l2 H2 _ e2 h2;have hx2:=e2.at hx1;refine bf hx2 h2 (aj (by rw [JH];omega)) ?_;intro l3 H3 _ e3 h3;have e03:=e1.trans (e2.trans e3);have k2:=k () l3 _ H3 e03 h3 (by rw [JA,JH];omega) (((th ()).ext e03).snoc ((y1 ()).ext (e2.trans e3)));clear k th hx1 hx2 h2 y1;ac_rfl
  by_cases c3:c % 4=0
  ·have hye:ys=[]:=Classical.byContradiction λ h=>c0 ⟨c3,h⟩;subst hye;clear c0;ac_rfl;intro n1 H1 _ e1 h1;have hx1:=e1.at hx;have hp1:=e1.at hp;clear hx hp;ac_rfl;intro l2 H2 _ e2 h2;have hx2:=e2.at hx1;have hp2:=e2.at hp1;clear hx1 hp1;ac_rfl;rw [fV];refine⟨ts,hp2,htl,λ y H3 e3 y3=>?_⟩;have hx3:=e3.at hx2;have h2_3:=e3.at h2;exists y3;clear hx2 h2 hp2;ac_rfl;intro l4 H4 _ e4 h4;have h2_4:=e4.at h2_3;refine bf h2_4 h4 (aj (by rw [JH];exact JT (KJ aM _) (by simp))) ?_;intro l5 H5 _ e5 h5;have hx5:=(e4.trans e5).at hx3;clear h2_4 h2_3 h4 hx3;ac_rfl;intro l6 H6 _ e6 h6;have h5_6:=e6.at h5;refine bf h5_6 h6 (aj (by rw [JA,JH];exact JT (Ks (KJ aM _) aM) (by simp))) ?_;intro l7 H7 _ e7 h7;have e37:=e4.trans (e5.trans (e6.trans e7));have e07:=e1.trans (e2.trans (e3.trans e37));have k2:=k () l7 _ H7 e07 h7 (by rw [JA,JA,JH];exact JT (Ks (KJ aM _) aM) (by simp)) ((((th ()).ext e07).cut.snoc ((y3 ()).ext e37)).app ((th ()).ext e07).cut);clear k th h5 h6 h5_6 hx5 y3;ac_rfl
  ·clear c0;ac_rfl;intro l2 H2 _ e2 h2;have hx2:=e2.at hx;have hp2:=e2.at hp;clear hx hp;ac_rfl;rw [fV];refine⟨ts,hp2,htl,λ y H3 e3 y3=>?_⟩;have hx3:=e3.at hx2;have h2_3:=e3.at h2;exists y3;clear hx2 h2 hp2;ac_rfl;intro l4 H4 _ e4 h4;have h2_4:=e4.at h2_3;refine bf h2_4 h4 (aj (by rw [JH];exact JT (KJ aM _) %[0|8])) ?_;intro l5 H5 _ e5 h5;have hx5:=(e4.trans e5).at hx3;clear h2_4 h2_3 h4 hx3;ac_rfl;intro l6 H6 _ e6 h6;have h5_6:=e6.at h5;refine bf h5_6 h6 (aj (by rw [JA,JH];exact JT (Ks (KJ aM _) aM) %[0|8])) ?_;intro l7 H7 _ e7 h7;have e37:=e4.trans (e5.trans (e6.trans e7));have e07:=e2.trans (e3.trans e37);have k2:=k () l7 _ H7 e07 h7 (by rw [JA,JA,JH];exact JT (Ks (KJ aM _) aM) %[0|8]) ((((th ()).ext e07).cut.snoc ((y3 ()).ext e37)).app ((th ()).ext e07).cut);clear k th h5 h6 h5_6 hx5 y3;ac_rfl
theorem ip{H H':Hp}{zs:List Tm3}{g:Int}(e:Ext H H'):∀ {xs:List V}{st:List Bx}{o:Option (List Bx)},(∀ y∈xs,ThV H y)->bJ H' zs g xs st o->bJ H zs g xs st o
 | [],[],_,_,h=>h
 | [],_::_,_,_,h=>h
 | _::_,[],_,_,h=>h
 | x::xs,c::st,o,ht,⟨m,h1,h2⟩=>by
  refine⟨m,kf (ht x JI) e h1,?_⟩
  cases m with
  | none=>exact h2
  | some more=>exact ip e (λ y hy=>ht y (JG _ hy)) h2
theorem ThL.dat{H:Hp}{ys:List V}(h:ThL H ys):∃ D,PyData.eqvAll D D=true/\∀ f,aI (ys.map (bc H (bc H (bc H f))))=some D:=⟨ys.map (thD H),oy λ y hy=>(h y hy).dat.2,λ f=>i4 (H:=H) λ y hy=>(h y hy).dat.1 f⟩
def jO(C:Addr):Sp:=λ vs H Q E=>∃ (vw:Addr) (p:Addr) (g:Int) (x:Addr),vs=[.ref vw,.ref p,.int g,.ref x]/\(∃ (u v:Addr) (room f1 f2:Int) (A B:List (Int × Int)) (ks:List Int) (ws:List V),H vw=some (.tup [.ref u,.ref v])/\aB C H u room f1 A/\aB C H v room f2 B/\fE A/\fE B/\g=f2 - f1/\kO ks (aC A B)/\cG (aG ks (aC A B))/\gv H p (aG ks (aC A B))/\H x=some (.lst ws)/\ws.length<=5000/\ThL H ws/\∀ H',Ext H H'->Q (.bl true) H')
theorem eK(C:Addr)(vw:Addr)(p:Addr)(g:Int)(x:Addr)(H:Hp)(Q:VK)(E:XK):jO C [.ref vw,.ref p,.int g,.ref x] H Q E=(∃ (u v:Addr) (room f1 f2:Int) (A B:List (Int × Int)) (ks:List Int) (ws:List V),H vw=some (.tup [.ref u,.ref v])/\aB C H u room f1 A/\aB C H v room f2 B/\fE A/\fE B/\g=f2 - f1/\kO ks (aC A B)/\cG (aG ks (aC A B))/\gv H p (aG ks (aC A B))/\H x=some (.lst ws)/\ws.length<=5000/\ThL H ws/\∀ H',Ext H H'->Q (.bl true) H'):=BL (f:=λ (vw:Addr) (p:Addr) (g:Int) (x:Addr)=>[.ref vw,.ref p,.int g,.ref x]) (λ _ _ _ _ _ _ _ _ h=>by cases h;exact⟨rfl,rfl,rfl,rfl⟩) vw p g x
theorem qi(C:Addr){vs:List V}{H:Hp}{Q:VK}{E:XK}(h:jO C vs H Q E):vs.length=4:=BM h λ _ _ _ _=>rfl
theorem km(T:Tx K mg t):bP P w K mg base CX0 6 t.a__law_asked t.d__law_asked ["_law_views", "_law_terms_here", "_law_goal", "_law_paper"] (jO t.a_View):=by
 have G_is_apart:=%[iu|49];have G__law_left:=%[ml|49];refine T.F__law_asked.ok eo (λ vs H Q E h=>qi _ h) (λ cdv A' outer s H vs Q E hr h=>?_)
 ·obtain⟨vw,p,g,x,rfl,u,v,room,f1,f2,A,B,ks,ws,hv,vu,vv,hA,hB,rfl,ko,ht,tr,hx,hwl,th,k⟩:=h;refine⟨_,%[%[4,eo,%[cx,∅,T.z_list,nofun,%[%[3|0]|1],⋯,⋯,∅,∅|43]|4],%[%[5,eo,%[is_apart,%[%[az,%[0|0],%[0|2],(λ _ _=>rfl)|11],%[%[az,%[0|0],%[0|2],(λ _ _=>rfl)|11],%[%[3|0]|1]|1]|1]|3]|4],%[%[%[%[isinstance,bp,%[%[5|0],%[%[(.ty "bool"),(.type "bool"),_,∅,T.z_bool,nofun,rfl,⋯,⋯|34]|1]|1]|6],%[%[(bt hr.units),%[5|0],%[(bt hr.units),%[_law_left,%[%[1|0],%[%[2|0],%[%[4|0],%[(@bD _ _ _ _)|1]|1]|1]|1]|3],%[(@bC _)|18],(af _)|25],(af _)|25],%[%[(bt hr.units),%[3|0],%[4|0],(af _)|25]|38]|30]|30]|13]|12]|10]|10],?_⟩;rw [show aJ ["_law_views", "_law_terms_here", "_law_goal", "_law_paper", "_law_kept", "_law_found"] [.ref vw,.ref p,.int (f2 - f1),.ref x]=[some (.ref vw),some (.ref p),some (.int (f2 - f1)),some (.ref x),none,none] from rfl];clear G_is_apart G__law_left;exists k;exists th;ac_rfl;intro kp H1 _ e1 h1;have hv1:=e1.at hv;have hx1:=e1.at hx;have th1:=(th ()).ext e1;have thv1:∀ y∈ws,ThV H1 y:=λ y hy=>(th1 y hy).thv;exists thv1;clear hx hv th1;ac_rfl;rw [dz];refine⟨room,f1,f2,A,B,ws,vu.ext e1,vv.ext e1,hA,hB,hx1,hwl,thv1 (),(λ ks' ko'=>by rw [ko'.uniq ko];exact ht),λ ks' b H2 e2 ko' hb=>?_⟩;have eks:=ko'.uniq ko;subst eks;have e02:=e1.trans e2;have tr2:=bY tr e02;have h1_2:=e2.at h1;have hx2:=e2.at hx1;have th2:=(th ()).ext e02;exists th2;generalize aG ks' (aC A B)=zs at *;exists hb;clear hx1 h1 hv1 tr vu vv ko';ac_rfl;rw [u6]
  have fin:∀ H3,Ext H2 H3->∃ D,PyData.eqvAll D D=true/\aI (ws.map (bc H3 (bc H3 (bc H3 (bc H3 (bc H3 noD))))))=some D:=λ H3 e3=>by
   obtain⟨D,d1,d2⟩:=((th2 ()).ext e3).dat;exact⟨D,d1,d2 _⟩
  exists fin;refine⟨zs,ws,tr2,ht,h1_2,hwl,th2 (),λ H3 e3 lf=>?_,λ st r cl H3 e3 lf h3 al3=>?_⟩
  ·have lf':=ip e2 (thv1 ()) lf
   have hbf:b=false:=by
    cases b with
    | false=>rfl
    | true=>have:=lf'.uniq ((hb ()).mp rfl);cases this
   subst hbf;have ed:PyData.eqv .none (.list [])=false:=rfl;clear lf lf' hb;ac_rfl;intro n4 H4 _ e4 h4;have hx4:=(e3.trans e4).at hx2;have hk4:=(e3.trans e4).at h1_2;obtain⟨D,d1,d2⟩:=fin () H4 (e3.trans e4);have k2:=k () H4 (e02.trans (e3.trans e4));clear fin k hx2 h1_2;ac_rfl
  ·have lf':=ip e2 (thv1 ()) lf;have hcl:=al3.1;rw [Kv] at hcl
   by_cases hst:st=[]
   ·subst hst;have hbf:b=true:=(hb ()).mpr lf';have hc0:cl=[]:=Km.mp hcl;subst hbf hc0;clear lf lf' hb al3 hcl;ac_rfl;intro n4 H4 _ e4 h4;have h3_4:=e4.at h3;have hx4:=(e3.trans e4).at hx2;have hk4:=(e3.trans e4).at h1_2;obtain⟨D,d1,d2⟩:=fin () H4 (e3.trans e4);have k2:=k () H4 (e02.trans (e3.trans e4));clear fin k hx2 h1_2 h3;ac_rfl
   ·have hbf:b=false:=by
     cases b with
     | false=>rfl
     | true=>exact absurd (JU (lf'.uniq ((hb ()).mp rfl))) hst
    subst hbf;clear lf lf' hb;ac_rfl;intro n4 H4 _ e4 h4;have h3_4:=e4.at h3;have hx4:=(e3.trans e4).at hx2;have hk4:=(e3.trans e4).at h1_2
    obtain⟨dd,ds,hdd⟩:=rL (f:=bc H4 (bc H4 noD)) (show Al (BxA H4) st.reverse cl from al3.imp λ c y ⟨a,a1,a2⟩=>⟨a,a1,br a2 e4⟩) (by
     rw [Kv]
     cases st with
     | nil=>exact absurd rfl hst
     | cons c st=>rw [JS];omega)
    obtain⟨D,d1,d2⟩:=fin () H4 (e3.trans e4);have k2:=k () H4 (e02.trans (e3.trans e4));clear fin k hx2 h1_2 h3 al3 hcl;ac_rfl
theorem Fun.x{K:W.Frag}{x qual:Str}{st:Stmt}{f:Addr}{fd:FuncData}(F:Fun K x qual st f fd):FX K x qual st f fd:=by
 obtain⟨oc,od,kV,doc,pm,an,cdv,ct,osl,e,lk,hcd⟩:=F.ex;exact⟨⟨oc,od,.none,kV,doc,pm,an,cdv,ct,osl,e,lk,hcd⟩,F.kp⟩
abbrev jk(C cN:Addr)(u:Addr)(v:Addr)(H:Hp)(Q:VK)(E:XK):Prop:=∃ (r1 r2 f1 f2:Int) (A B:List (Int × Int)),aB C H u r1 f1 A/\aB C H v r2 f2 B/\(r1=r2->Q .non H)/\(r1 ≠ r2->∀ H',Ext H H'->E (.ref cN) none H')
def jK(C cN:Addr):Sp:=λ vs H Q E=>∃ (u:Addr) (v:Addr),vs=[.ref u,.ref v]/\(jk C cN u v H Q E)
theorem qy(C cN:Addr)(u:Addr)(v:Addr)(H:Hp)(Q:VK)(E:XK):jK C cN [.ref u,.ref v] H Q E=(jk C cN u v H Q E):=pD (f:=λ (u:Addr) (v:Addr)=>[.ref u,.ref v]) (λ _ _ _ _ h=>by cases h;exact⟨rfl,rfl⟩) u v
theorem qe(C cN:Addr){vs:List V}{H:Hp}{Q:VK}{E:XK}(h:jK C cN vs H Q E):vs.length=2:=pF h λ _ _=>rfl
theorem gq(T:Tx K mg t):bP P w K mg base (CX1 P  w) 1 t.a_refuse_rooms t.d_refuse_rooms ["one", "other"] (jK t.a_View t.a_NoPair):=by
 refine(Fun.x T.F_refuse_rooms).ok eQ (λ vs H Q E h=>qe _ _ h) (λ c A o s H vs Q E hr h=>?_)
 ·obtain⟨u,v,rfl,ra,rb,f1,f2,A,B,vu,vv,kQ,kE⟩:=h;obtain⟨dx,D,hu,_⟩:=vu.ob;obtain⟨dy,D2,hv,_⟩:=vv.ob;have c1:=T.cl_View;have c4:=T.na_View_room;have g1:=dg ra f1 D;have g2:=dg rb f2 D2;refine⟨_,%[%[%[(df hr.units),%[%[0|0],rfl|29],%[%[1|0],rfl|29],(af _)|15],%[(@vZ _ _ _ _ _ _ _ _ _ _ rfl ∅ T.m_NoPair ⟨T.o_NoPair⟩ (λ σ=>pP) %[(@av _ _ _ _)|1] ∅ ∅ ⋯)|12],(@ai _)|16]|12],?_⟩;rw [show aJ ["one", "other"] [.ref u,.ref v]=[some (.ref u),some (.ref v)] from rfl]
  by_cases he:ra=rb
  ·subst he;have k':=kQ rfl;clear kQ kE;ac_rfl
  ·have k':=kE he H (Ext.refl _);clear kQ kE;ac_rfl
abbrev ma(C cN:Addr)(u:Addr)(v:Addr)(H:Hp)(Q:VK)(E:XK):Prop:=∃ (r1 r2 f1 f2:Int) (A B:List (Int × Int)),aB C H u r1 f1 A/\aB C H v r2 f2 B/\r1 ≠ r2/\∀ H',Ext H H'->E (.ref cN) none H'
def m6(C cN:Addr):Sp:=λ vs H Q E=>∃ (u:Addr) (v:Addr),vs=[.ref u,.ref v]/\(ma C cN u v H Q E)
theorem u9(C cN:Addr)(u:Addr)(v:Addr)(H:Hp)(Q:VK)(E:XK):m6 C cN [.ref u,.ref v] H Q E=(ma C cN u v H Q E):=pD (f:=λ (u:Addr) (v:Addr)=>[.ref u,.ref v]) (λ _ _ _ _ h=>by cases h;exact⟨rfl,rfl⟩) u v
theorem uB(C cN:Addr){vs:List V}{H:Hp}{Q:VK}{E:XK}(h:m6 C cN vs H Q E):vs.length=2:=pF h λ _ _=>rfl
theorem mv(T:Tx K mg t):bP P w K mg base (CX1 P  w) 2 t.a_gathered t.d_gathered ["one", "other"] (m6 t.a_View t.a_NoPair):=by
 have G_refuse_rooms:=%[gq|49];have G_pulls:=%[oO|49];refine(Fun.x T.F_gathered).ok aA (λ vs H Q E h=>uB _ _ h) (λ cdv A' outer s H vs Q E hr h=>?_)
 ·obtain⟨u,v,rfl,ra,rb,f1,f2,A,B,vu,vv,hne,k⟩:=h;refine⟨_,%[%[(@m9 _ _ _ _ _ _ _ _ _ _ _ _ _ _ _ _ G_refuse_rooms (hr.mono ⋯) ∅ T.m_refuse_rooms T.F_refuse_rooms.kp T.b_refuse_rooms .nil jc %[%[0|0],%[%[1|0]|1]|1] ⋯ ∅ ∅),∅|31],%[(@dS _ _ (2) _ _ _ _ aA.nd rfl (Or.inr rfl) (@eC _ _) ∅ %[0|7]),%[(@dS _ _ (3) _ _ _ _ aA.nd rfl (Or.inr rfl) (@eC _ _) ∅ %[0|7]),%[%[PassesOwn.leaving,rfl,%[%[pulls,%[%[0|0],%[%[1|0]|1]|1]|3]|23],(%[(2),rfl,%[%[4,aA|5],%[%[5,aA|5],(@aK _),∅|19],∅|19],∅,∅|27].mono λ _ _ _ _ h=>bN h),%[%[%[(df hr.units),%[4|0],%[0|2],(af _)|15],%[%[6,aA,%[abs,ef,%[%[4|0]|1]|6]|4],%[%[7,aA,(@jY _ _ _ _ _ _ _ _ %[dm,%[4|0],%[0|2],(af _)|15] %[aN,%[5|0],%[0|2]|9] %[aN,%[0|2],%[5|0]|9])|4],%[%[(cu hr.units),%[2|0],%[6|0],%[aw,%[(cu hr.units),%[2|0],%[6|0],%[0|2],⟨by rfl,by rfl,by rfl,by rfl⟩|47],%[min,(fz rfl),%[%[0|2],%[%[7|0]|1]|1]|6]|9],rfl|44],%[%[(cu hr.units),%[3|0],%[6|0],%[aw,%[(cu hr.units),%[3|0],%[6|0],%[0|2],⟨by rfl,by rfl,by rfl,by rfl⟩|47],%[max,(cC rfl),%[%[0|2],%[%[7|0]|1]|1]|6]|9],rfl|44]|12]|10]|10]|10],(@ai _)|16]|12],(by intros;rfl)|35],%[%[(["times", "one", "other", "lows", "highs", "pace", "size", "!times", "reach", "terms"]),(1),(8),_,aA.nd,rfl,(Or.inl rfl),(aH (ae di) ["one", "other", "lows", "highs", "pace", "size", "times", "reach", "terms"] rfl rfl nofun),rfl,%[(@lu _ ("sorted") _ _ _ _ _ _ _ _ _ _ (ji rfl) ∅ T.z_sorted nofun %[%[2|0]|1] (@sf _ _ _ _ _ _ _ (@bD _ _ _ _) (@yj _)) ⋯ ⋯ ∅ ∅ ∅ ∅ ∅)|23],(λ C s₀ H₀ ex pn=>%[(0),_,(show List.Nodup (["times", "one", "other", "lows", "highs", "pace", "size", "!times", "reach", "terms"]:List Str) from by decide +kernel),rfl,(Or.inl rfl),%[0|7]|20]),(λ C s₀ H₀ ex pn=>(@aX _)),(λ C s₀ H₀ ex pn=>%[%[%[0|0],%[(@gR _ _ _ _ _ _ (cu hr.units) %[3|0] %[0|0] (λ _ _=>rfl)),%[(@gR _ _ _ _ _ _ (cu hr.units) %[4|0] %[0|0] (λ _ _=>rfl))|1]|1]|1]|14]),∅,(by intros;rfl),%[0|7]|45],%[%[%[%[%[8|0],%[%[aN,%[%[1|0],rfl|29],%[%[0|0],rfl|29]|9]|1]|1]|14]|13]|12]|10]|10]|10]|10]|10],?_⟩;rw [show aJ ["one", "other", "lows", "highs", "pace", "size", "times", "reach", "terms"] [.ref u,.ref v]=[some (.ref u),some (.ref v),none,none,none,none,none,none,none] from rfl];clear G_refuse_rooms G_pulls;ac_rfl;rw [qy];exact⟨ra,rb,f1,f2,A,B,vu,vv,λ e=>absurd e hne,λ _ H' e=>k H' e⟩
abbrev jt(C cN:Addr)(u:Addr)(v:Addr)(x:V)(H:Hp)(Q:VK)(E:XK):Prop:=∃ (r1 r2 f1 f2:Int) (A B:List (Int × Int)),aB C H u r1 f1 A/\aB C H v r2 f2 B/\r1 ≠ r2/\∀ H',Ext H H'->E (.ref cN) none H'
def jT(C cN:Addr):Sp:=λ vs H Q E=>∃ (u:Addr) (v:Addr) (x:V),vs=[.ref u,.ref v,x]/\(jt C cN u v x H Q E)
theorem qE(C cN:Addr)(u:Addr)(v:Addr)(x:V)(H:Hp)(Q:VK)(E:XK):jT C cN [.ref u,.ref v,x] H Q E=(jt C cN u v x H Q E):=qN (f:=λ (u:Addr) (v:Addr) (x:V)=>[.ref u,.ref v,x]) (λ _ _ _ _ _ _ h=>by cases h;exact⟨rfl,rfl,rfl⟩) u v x
theorem qo(C cN:Addr){vs:List V}{H:Hp}{Q:VK}{E:XK}(h:jT C cN vs H Q E):vs.length=3:=pE h λ _ _ _=>rfl
theorem mr(T:Tx K mg t):bP P w K mg base (CX1 P  w) 5 t.a_is_apart t.d_is_apart ["one", "other", "paper"] (jT t.a_View t.a_NoPair):=by
 have G_gathered:=%[mv|49];have G_first_case:=%[dD|49];have G_parts_by:=%[eZ|49];have G_ends_by:=%[fR|49];have G_parted:=%[ia|49];refine(Fun.x T.F_is_apart).ok aE (λ vs H Q E h=>qo _ _ h) (λ cdv A' outer s H vs Q E hr h=>?_)
 ·obtain⟨u,v,x,rfl,ra,rb,f1,f2,A,B,vu,vv,hne,k⟩:=h;refine⟨_,%[%[3,aE,(@m9 _ _ _ _ _ _ _ _ _ _ _ _ _ _ _ _ G_gathered (hr.mono ⋯) ∅ T.m_gathered T.F_gathered.kp T.b_gathered .nil jc %[%[0|0],%[%[1|0]|1]|1] ⋯ ∅ ∅)|4],%[%[%[%[%[isinstance,bp,%[%[2|0],%[%[(.ty "list"),(.type "list"),_,∅,T.z_list,nofun,rfl,⋯,⋯|34]|1]|1]|6],(by intros;rfl)|22]|24],%[%[(@bD _ _ _ _)|13]|12],(@ai _)|16],%[%[4,aE,%[%[%[first_case,%[%[az,%[3|0],%[0|2],(λ _ _=>rfl)|11]|1]|3]|1]|18]|4],%[%[PassesOwn.leaving,rfl,%[%[2|0]|23],%[5,aE|5],%[%[%[(bt hr.units),%[len,ao,%[%[4|0]|1]|6],%[0|2],(af _)|15],%[%[(@bD _ _ _ _)|13]|12],(@ai _)|16],%[%[6,aE,%[JJ,KZ,KY,kZ,%[4|0],∅,∅|46]|4],%[%[%[%[parts_by,%[%[6|0],%[%[5|0]|1]|1]|3],(by intros;rfl)|22],%[%[%[JJ,Lf,Le,fw,%[4|0],%[%[parted,%[%[6|0],%[%[az,%[5|0],%[0|2],(λ _ _=>rfl)|11],%[%[az,%[5|0],%[0|2],(λ _ _=>rfl)|11]|1]|1]|1]|3]|1],∅,∅,∅,∅,∅|40],∅|31]|12],%[%[%[%[%[ends_by,%[%[az,%[3|0],%[0|2],(λ _ _=>rfl)|11],%[%[az,%[3|0],%[0|2],(λ _ _=>rfl)|11],%[%[6|0],%[%[5|0]|1]|1]|1]|1]|3],(by intros;rfl)|22]|24],%[%[(@bD _ _ _ _)|13]|12],(@ai _)|16]|12]|16]|12]|10]|10],(by intros;rfl)|35],%[%[%[(bt hr.units),%[len,ao,%[%[4|0]|1]|6],%[0|2],(af _)|25]|13]|12]|10]|10]|10]|10],?_⟩;rw [show aJ ["one", "other", "paper", "found", "cases", "step", "case"] [.ref u,.ref v,x]=[some (.ref u),some (.ref v),some (x),none,none,none,none] from rfl];clear G_gathered G_first_case G_parts_by G_ends_by G_parted;ac_rfl;rw [u9];exact⟨ra,rb,f1,f2,A,B,vu,vv,hne,k⟩
def kS(H:Hp)(x:V):Prop:=x=.non\/(∃ i,x=.int i)\/(∃ b,x=.bl b)\/(∃ z,x=.str z)\/(∃ p xs,x=.ref p/\H p=some (.tup xs))\/∃ p,x=.ref p/\H p=some (.dK [])
theorem kS.ext{H H':Hp}{x:V}(h:kS H x)(e:Ext H H'):kS H' x:=by
 rcases h with h|h|h|h|⟨p,xs,h,hp⟩|⟨p,h,hp⟩
 ·exact .inl h
 ·exact .inr (.inl h)
 ·exact .inr (.inr (.inl h))
 ·exact .inr (.inr (.inr (.inl h)))
 ·exact .inr (.inr (.inr (.inr (.inl ⟨p,xs,h,e.at hp⟩))))
 ·exact .inr (.inr (.inr (.inr (.inr ⟨p,h,e.at hp⟩))))
abbrev ju(C:Addr)(u:Addr)(v:Addr)(x:V)(H:Hp)(Q:VK)(E:XK):Prop:=∃ (room f1 f2:Int) (A B:List (Int × Int)),aB C H u room f1 A/\aB C H v room f2 B/\fE A/\fE B/\kS H x/\∀ H',Ext H H'->Q (.bl false) H'
def jU(C:Addr):Sp:=λ vs H Q E=>∃ (u:Addr) (v:Addr) (x:V),vs=[.ref u,.ref v,x]/\(ju C u v x H Q E)
theorem qF(C:Addr)(u:Addr)(v:Addr)(x:V)(H:Hp)(Q:VK)(E:XK):jU C [.ref u,.ref v,x] H Q E=(ju C u v x H Q E):=qN (f:=λ (u:Addr) (v:Addr) (x:V)=>[.ref u,.ref v,x]) (λ _ _ _ _ _ _ h=>by cases h;exact⟨rfl,rfl,rfl⟩) u v x
theorem qp(C:Addr){vs:List V}{H:Hp}{Q:VK}{E:XK}(h:jU C vs H Q E):vs.length=3:=pE h λ _ _ _=>rfl
theorem mw(T:Tx K mg t):bP P w K mg base CX0 5 t.a_is_apart t.d_is_apart ["one", "other", "paper"] (jU t.a_View):=by
 have G_gathered:=%[iw|49];have G_first_case:=%[dD|49];have G_parts_by:=%[eZ|49];have G_ends_by:=%[fR|49];have G_parted:=%[ia|49];refine T.F_is_apart.ok aE (λ vs H Q E h=>qp _ h) (λ cdv A' outer s H vs Q E hr h=>?_)
 ·obtain⟨u,v,x,rfl,room,f1,f2,A,B,vu,vv,hA,hB,hx,k⟩:=h;refine⟨_,%[%[3,aE,%[gathered,%[%[0|0],%[%[1|0]|1]|1]|3]|4],%[%[%[%[%[isinstance,bp,%[%[2|0],%[%[(.ty "list"),(.type "list"),_,∅,T.z_list,nofun,rfl,⋯,⋯|34]|1]|1]|6],(by intros;rfl)|22]|24],%[%[(@bD _ _ _ _)|13]|12],(@ai _)|16],%[%[4,aE,%[%[%[first_case,%[%[az,%[3|0],%[0|2],(λ _ _=>rfl)|11]|1]|3]|1]|18]|4],%[%[J9,rfl,%[%[2|0]|23],%[5,aE|5],%[%[%[(bt hr.units),%[len,ao,%[%[4|0]|1]|6],%[0|2],(af _)|15],%[%[(@bD _ _ _ _)|13]|12],(@ai _)|16],%[%[6,aE,%[JJ,KZ,KY,kZ,%[4|0],∅,∅|46]|4],%[%[%[%[parts_by,%[%[6|0],%[%[5|0]|1]|1]|3],(by intros;rfl)|22],%[%[%[JJ,Lf,Le,fw,%[4|0],%[%[parted,%[%[6|0],%[%[az,%[5|0],%[0|2],(λ _ _=>rfl)|11],%[%[az,%[5|0],%[0|2],(λ _ _=>rfl)|11]|1]|1]|1]|3]|1],∅,∅,∅,∅,∅|40],∅|31]|12],%[%[%[%[%[ends_by,%[%[az,%[3|0],%[0|2],(λ _ _=>rfl)|11],%[%[az,%[3|0],%[0|2],(λ _ _=>rfl)|11],%[%[6|0],%[%[5|0]|1]|1]|1]|1]|3],(by intros;rfl)|22]|24],%[%[(@bD _ _ _ _)|13]|12],(@ai _)|16]|12]|16]|12]|10]|10],(by intros;rfl)|35],%[%[%[(bt hr.units),%[len,ao,%[%[4|0]|1]|6],%[0|2],(af _)|25]|13]|12]|10]|10]|10]|10],?_⟩;rw [show aJ ["one", "other", "paper", "found", "cases", "step", "case"] [.ref u,.ref v,x]=[some (.ref u),some (.ref v),some (x),none,none,none,none] from rfl];clear G_gathered G_first_case G_parts_by G_ends_by G_parted;exists k;ac_rfl;rw [o8];refine⟨room,f1,f2,A,B,vu,vv,hA,hB,λ ks l r0 H1 e1 hr1 t1 ko=>?_⟩;have k2:=k () H1 e1;have hx1:=hx.ext e1;clear k hx t1 ko
  rcases hx1 with rfl|⟨i,rfl⟩|⟨b,rfl⟩|⟨z,rfl⟩|⟨p,xs,rfl,hp⟩|⟨p,rfl,hp⟩
  ·ac_rfl
  ·ac_rfl
  ·ac_rfl
  ·ac_rfl
  ·ac_rfl
  ·ac_rfl
abbrev lW(C:Addr)(vw:Addr)(x:V)(H:Hp)(Q:VK)(E:XK):Prop:=∃ (u v:Addr) (room f1 f2:Int) (A B:List (Int × Int)),H vw=some (.tup [.ref u,.ref v])/\aB C H u room f1 A/\aB C H v room f2 B/\fX (room+1) f1 A/\∀ H',Ext H H'->Q (.bl true) H'
def mX(C:Addr):Sp:=λ vs H Q E=>∃ (vw:Addr) (x:V),vs=[.ref vw,x]/\(lW C vw x H Q E)
theorem lJ(C:Addr)(vw:Addr)(x:V)(H:Hp)(Q:VK)(E:XK):mX C [.ref vw,x] H Q E=(lW C vw x H Q E):=pD (f:=λ (vw:Addr) (x:V)=>[.ref vw,x]) (λ _ _ _ _ h=>by cases h;exact⟨rfl,rfl⟩) vw x
theorem uv(C:Addr){vs:List V}{H:Hp}{Q:VK}{E:XK}(h:mX C vs H Q E):vs.length=2:=pF h λ _ _=>rfl
theorem iL(T:Tx K mg t):bP P w K mg base CX0 8 t.a__law_refused t.d__law_refused ["_law_views", "_law_paper"] (mX t.a_View):=by
 have G_is_apart:=%[mr|49];have G_View___init__:=%[dJ|49];refine T.F__law_refused.ok cY (λ vs H Q E h=>uv _ h) (λ cdv A' outer s H vs Q E hr h=>?_)
 ·obtain⟨vw,x,rfl,u,v,room,f1,f2,A,B,hv,vu,vv,vW,k⟩:=h;have hx1:=T.x_NoPair_PaceError;have c1:=T.cl_View;have c2:=T.na_View_room;have c3:=T.na_View_first;have c4:=T.na_View_axes;refine⟨_,%[%[2,cY,%[T.mk_View,G_View___init__,(hr.mono ⋯),∅,T.m_View,T.b_View___init__,.nil,pJ,%[%[aw,%[%[az,%[0|0],%[0|2],(λ _ _=>rfl)|11],rfl|29],%[0|2]|9],%[%[%[az,%[0|0],%[0|2],(λ _ _=>rfl)|11],rfl|29],%[%[cx,∅,T.z_list,nofun,%[%[%[az,%[0|0],%[0|2],(λ _ _=>rfl)|11],rfl|29]|1],⋯,⋯,∅,∅|43]|1]|1]|1],⋯,∅,∅|48]|4],%[(@CU _ _ _ _ _ _ _ ⟨rfl,rfl,rfl⟩ (λ EX E pn hx=>%[%[(@wo _ _ _ _ _ _ _ _ _ _ _ _ _ _ _ _ G_is_apart (hr.mono ⋯) ∅ T.m_is_apart T.F_is_apart.kp T.b_is_apart .nil hx %[%[2|0],%[%[az,%[0|0],%[0|2],(λ _ _=>rfl)|11],%[%[1|0]|1]|1]|1] ⋯ ∅ ∅),∅|31]|12]) (@CY _ _ _ (3) _ _ _ _ _ _ _ _ cY.nd rfl rfl ∅ (.inl T.m_PaceError) (λ ee=>%[%[%[%[isinstance,(fU (K:=K) rfl),%[%[3|0],%[(@gQ _ _ (.ref t.a_NoPair) _ _ ∅ T.m_NoPair rfl ⋯)|1]|1]|6],%[%[isinstance,(fU (K:=K) rfl),%[%[3|0],%[%[(.ty "ValueError"),(.type "ValueError"),_,∅,T.z_ValueError,nofun,rfl,⋯,⋯|34]|1]|1]|6],%[(@m8 _ _ _ _ %[isinstance,(fU (K:=K) rfl),%[%[3|0],%[(@gQ _ _ (.ref t.a_NoView) _ _ ∅ T.m_NoView rfl ⋯)|1]|1]|6])|38]|30]|30]|13]|12]) (@zQ _) ⋯)),%[%[(@bD _ _ _ _)|13]|12]|10]|10],?_⟩;rw [show aJ ["_law_views", "_law_paper", "_law_wider", "e"] [.ref vw,x]=[some (.ref vw),some (x),none,none] from rfl];clear G_is_apart G_View___init__;exists k;obtain⟨dx,D,hu,ys,hD,al⟩:=id vu.ob;have f1':=dg room f1 D;have f2':=cD room f1 D;have f3':=dh room f1 D;exists al;ac_rfl;intro q6 H6 _ e6 h6;have al6:cI H6 q6 (axL A):=⟨ys,h6,(al ()).imp λ _ _ r=>r.ext e6⟩;have hv6:=e6.at hv;clear hv hu hD;ac_rfl;intro x1 dx1 G1 hx1' hdx1 hne1 g1 k1 k1';rw [il];refine⟨dx1,A,k1,cI.ext al6 g1,vW,λ G2 D2 g2' hD2 hx2 tt2=>?_⟩;have eg:=g2' H6 g1 hx1';have vo1:aB t.a_View G2 x1 (room+1) f1 (A.map au):=⟨dx1,D2,hx2,tt2⟩;have hv7:=eg.at hv6;have e07:=e6.trans eg;clear h6 al6 hv6 k1 k1' hx1' hdx1 hne1 g1 g2' hD2 hx2 tt2;ac_rfl;rw [qE];refine⟨_,_,_,_,_,_,vo1,vv.ext e07,%[0|8],λ H1 e1=>?_⟩;ac_rfl;intro e oe he' hcl hdc hdat;have g4:(upd H1 e (vf oe)) e=some (vf oe):=ag;have e2:Ext H (upd H1 e (vf oe)):=e07.trans (e1.trans (Ext.new he'));generalize upd H1 e (vf oe)=H2 at e2 g4;have k2:=k () H2 e2;clear he' k;simp! only [T.e_NoPair,T.k_NoPair_NoPair,T.k_NoPair_NoView,T.k_NoPair_ValueError]
def gE(H:Hp)(pc g n:Int)(y:V):Prop:=∃ p,y=.ref p/\((H p=some (.tup [.str "high"])/\pc * n < g)\/(H p=some (.tup [.str "low"])/\g < pc * n)\/H p=some (.tup [.str "rest",.int pc]))
def dO(H:Hp)(n:Int)(y:V):Prop:=∃ p,y=.ref p/\H p=some (.tup [.str "part",.int 0,.int n])
theorem gE.ext{H H':Hp}{pc g n:Int}{y:V}(h:gE H pc g n y)(e:Ext H H'):gE H' pc g n y:=by
 obtain⟨p,hy,h⟩:=h;refine⟨p,hy,?_⟩
 rcases h with ⟨h,q⟩|⟨h,q⟩|h
 ·exact .inl ⟨e.at h,q⟩
 ·exact .inr (.inl ⟨e.at h,q⟩)
 ·exact .inr (.inr (e.at h))
theorem n9{H:Hp}{p r:Addr}{xs ys:List V}{o:HO}(h:H p=some (.tup xs))(hr:H r=some (.lst ys)):upd H r o p=some (.tup xs):=by
 rw [ah (λ e=>by rw [e,hr] at h;cases h)];exact h
theorem gE.upd{H:Hp}{pc g n:Int}{y:V}{r:Addr}{ys:List V}{o:HO}(h:gE H pc g n y)(hr:H r=some (.lst ys)):gE (upd H r o) pc g n y:=by
 obtain⟨p,hy,h⟩:=h;refine⟨p,hy,?_⟩
 rcases h with ⟨h,q⟩|⟨h,q⟩|h
 ·exact .inl ⟨n9 h hr,q⟩
 ·exact .inr (.inl ⟨n9 h hr,q⟩)
 ·exact .inr (.inr (n9 h hr))
theorem dO.ext{H H':Hp}{n:Int}{y:V}(h:dO H n y)(e:Ext H H'):dO H' n y:=by
 obtain⟨p,hy,h⟩:=h;exact⟨p,hy,e.at h⟩
theorem dO.upd{H:Hp}{n:Int}{y:V}{r:Addr}{ys:List V}{o:HO}(h:dO H n y)(hr:H r=some (.lst ys)):dO (upd H r o) n y:=by
 obtain⟨p,hy,h⟩:=h;exact⟨p,hy,n9 h hr⟩
theorem gE.stp{H:Hp}{pc g n:Int}{y:V}(h:gE H pc g n y):StP H y:=by
 obtain⟨p,rfl,h⟩:=h
 rcases h with ⟨h,q⟩|⟨h,q⟩|h
 ·exact oI h
 ·exact mR h
 ·exact oH h
theorem dO.stp{H:Hp}{n:Int}{y:V}(h:dO H n y):StP H y:=by
 obtain⟨p,rfl,h⟩:=h;exact jI h
theorem ke{H:Hp}{pc g n a b:Int}{y:V}(hp:2<=pc)(hg:g % pc ≠ 0)(h:gE H pc g n y):iQ H [(pc,a,b)] g [(n,n)] y (some []):=by
 obtain⟨p,rfl,h⟩:=h;have e1:iP [(pc,a,b)] [(n,n)]=pc * n:=by show pc * n+0=_;omega
 have e2:nX [(pc,a,b)] [(n,n)]=pc * n:=by show pc * n+0=_;omega
 have e3:bX [(pc,a,b)] [(n,n)]=[]:=by
  unfold bX;rw [show ([(pc,a,b)]:List Tm3).zip [(n,n)]=[((pc,a,b),(n,n))] from rfl,List.filter_cons_of_neg (by simp)];rfl
 have e4:(g - pc * n) % pc=g % pc:=Int.sub_mul_emod_self_left g pc n
 rcases h with ⟨h,q⟩|⟨h,q⟩|h
 ·exact fH h ⋯ ⟨p,_,rfl,h,.inr (.inl ⟨rfl,by rw [e2];exact q⟩)⟩
 ·exact fH h ⋯ ⟨p,_,rfl,h,.inl ⟨rfl,by rw [e1];exact q⟩⟩
 ·exact fH h (by intro z;cases z) ⟨p,_,rfl,h,.inr (.inr ⟨pc,rfl,hp,by rw [e3];exact λ x hx=>absurd hx JV,by rw [e1,e4];exact hg⟩)⟩
theorem lQ{H:Hp}{zs:List Tm3}{g n a b:Int}{y:V}(h:dO H n y)(h1:a<=n)(h2:n < b):iQ H zs g [(a,b)] y (some [[(a,n)],[(n+1,b)]]):=by
 obtain⟨p,rfl,h⟩:=h;exact .inl ⟨p,0,n,rfl,h,Nat.zero_lt_one,h1,h2,rfl⟩
def upS:Nat->List Bx->List Bx
 | 0,st=>st
 | n+1,st=>upS n ([((n:Int),(n:Int))]::st)
def bI(H:Hp)(pc g:Int):Nat->List V->Prop
 | 0,ws=>ws=[]
 | m+1,ws=>∃ ws0 a b,ws=ws0++[a,b]/\dO H m a/\gE H pc g m b/\bI H pc g m ws0
def da(H:Hp):Nat->List V->Prop
 | 0,ps=>ps=[]
 | j+1,ps=>∃ p ps0,ps=p::ps0/\dO H j p/\da H j ps0
def dQ(H:Hp)(pc g:Int):Nat->List V->Prop
 | 0,es=>es=[]
 | n+1,es=>∃ es0 e,es=es0++[e]/\gE H pc g n e/\dQ H pc g n es0
theorem bI.ext{H H':Hp}{pc g:Int}(e:Ext H H'):∀ {m:Nat}{ws:List V},bI H pc g m ws->bI H' pc g m ws
 | 0,_,h=>h
 | _+1,_,⟨ws0,a,b,h1,h2,h3,h4⟩=>⟨ws0,a,b,h1,h2.ext e,h3.ext e,bI.ext e h4⟩
theorem bI.upd{H:Hp}{pc g:Int}{r:Addr}{ys:List V}{o:HO}(hr:H r=some (.lst ys)):∀ {m:Nat}{ws:List V},bI H pc g m ws->bI (upd H r o) pc g m ws
 | 0,_,h=>h
 | _+1,_,⟨ws0,a,b,h1,h2,h3,h4⟩=>⟨ws0,a,b,h1,h2.upd hr,h3.upd hr,bI.upd hr h4⟩
theorem bI.len{H:Hp}{pc g:Int}:∀ {m:Nat}{ws:List V},bI H pc g m ws->ws.length=2 * m
 | 0,_,h=>by have h':_=[]:=h;rw [h'];rfl
 | m+1,_,⟨ws0,a,b,h1,_,_,h4⟩=>by
  have:=bI.len h4;rw [h1,JA]
  show _+2=_
  omega
theorem bI.stp{H:Hp}{pc g:Int}:∀ {m:Nat}{ws:List V},bI H pc g m ws->PaL H ws
 | 0,_,h=>by have h':_=[]:=h;rw [h'];exact λ y hy=>absurd hy JV
 | m+1,_,⟨ws0,a,b,h1,h2,h3,h4⟩=>by
  rw [h1,show [a,b]=[a]++[b] from rfl,←KC];exact((bI.stp h4).snoc h2.stp).snoc h3.stp
theorem da.ext{H H':Hp}(e:Ext H H'):∀ {m:Nat}{ws:List V},da H m ws->da H' m ws
 | 0,_,h=>h
 | _+1,_,⟨p,ps,h1,h2,h4⟩=>⟨p,ps,h1,h2.ext e,da.ext e h4⟩
theorem da.len{H:Hp}:∀ {m:Nat}{ws:List V},da H m ws->ws.length=m
 | 0,_,h=>by have h':_=[]:=h;rw [h'];rfl
 | m+1,_,⟨p,ps,h1,_,h4⟩=>by rw [h1,JS,da.len h4]
theorem da.stp{H:Hp}:∀ {m:Nat}{ws:List V},da H m ws->PaL H ws
 | 0,_,h=>by have h':_=[]:=h;rw [h'];exact λ y hy=>absurd hy JV
 | m+1,_,⟨p,ps,h1,h2,h4⟩=>by
  rw [h1];intro y hy
  rcases J2.mp hy with rfl|hy
  ·exact h2.stp
  ·exact da.stp h4 y hy
theorem dQ.ext{H H':Hp}{pc g:Int}(e:Ext H H'):∀ {m:Nat}{ws:List V},dQ H pc g m ws->dQ H' pc g m ws
 | 0,_,h=>h
 | _+1,_,⟨p,ps,h1,h2,h4⟩=>⟨p,ps,h1,h2.ext e,dQ.ext e h4⟩
theorem dQ.upd{H:Hp}{pc g:Int}{r:Addr}{ys:List V}{o:HO}(hr:H r=some (.lst ys)):∀ {m:Nat}{ws:List V},dQ H pc g m ws->dQ (upd H r o) pc g m ws
 | 0,_,h=>h
 | _+1,_,⟨p,ps,h1,h2,h4⟩=>⟨p,ps,h1,h2.upd hr,dQ.upd hr h4⟩
theorem dQ.len{H:Hp}{pc g:Int}:∀ {m:Nat}{ws:List V},dQ H pc g m ws->ws.length=m
 | 0,_,h=>by have h':_=[]:=h;rw [h'];rfl
 | m+1,_,⟨p,ps,h1,_,h4⟩=>by rw [h1,JA,dQ.len h4];rfl
theorem dQ.stp{H:Hp}{pc g:Int}:∀ {m:Nat}{ws:List V},dQ H pc g m ws->PaL H ws
 | 0,_,h=>by have h':_=[]:=h;rw [h'];exact λ y hy=>absurd hy JV
 | m+1,_,⟨p,ps,h1,h2,h4⟩=>by rw [h1];exact(dQ.stp h4).snoc h2.stp
theorem lA{H:Hp}{pc g x z:Int}{M:Nat}(hp:2<=pc)(hg:g % pc ≠ 0):∀ {m:Nat}{ws:List V},bI H pc g m ws->m<=M->∀ rest o,bJ H [(pc,x,z)] g rest [[((m:Int),(M:Int))]] o->bJ H [(pc,x,z)] g (ws++rest) [[(0,(M:Int))]] o
 | 0,_,h,_,rest,o,hr=>by have h':_=[]:=h;rw [h'];exact hr
 | m+1,_,⟨ws0,a,b,h1,h2,h3,h4⟩,hm,rest,o,hr=>by
  rw [h1,KC];exact lA hp hg h4 %[0|8] _ o ⟨_,lQ h2 (K1 _) %[0|8],⟨_,ke hp hg h3,hr⟩⟩
theorem ly{H:Hp}{zs:List Tm3}{g:Int}:∀ {j:Nat}{ps:List V},da H j ps->∀ st rest o,bJ H zs g rest (upS (j+1) st) o->bJ H zs g (ps++rest) ([(0,(j:Int))]::st) o
 | 0,_,h,st,rest,o,hr=>by have h':_=[]:=h;rw [h'];exact hr
 | j+1,_,⟨p,ps,h1,h2,h4⟩,st,rest,o,hr=>by
  rw [h1];exact⟨_,lQ h2 %[0|8] %[0|8],ly h4 _ rest o hr⟩
theorem oV{H:Hp}{pc g x z:Int}(hp:2<=pc)(hg:g % pc ≠ 0):∀ {n:Nat}{es:List V},dQ H pc g n es->∀ st rest o,bJ H [(pc,x,z)] g rest st o->bJ H [(pc,x,z)] g (es++rest) (upS n st) o
 | 0,_,h,st,rest,o,hr=>by have h':_=[]:=h;rw [h'];exact hr
 | n+1,_,⟨es,e,h1,h2,h4⟩,st,rest,o,hr=>by
  rw [h1,KC];exact oV hp hg h4 _ _ o ⟨_,ke hp hg h2,hr⟩
def gk(H:Hp)(pc g:Int)(M:Nat)(ws:List V)(e:V):Prop:=gE H pc g M e/\(bI H pc g M ws\/∃ ps es,ws=ps++es/\da H M ps/\dQ H pc g M es)
theorem gk.ext{H H':Hp}{pc g:Int}{M:Nat}{ws:List V}{y:V}(h:gk H pc g M ws y)(e:Ext H H'):gk H' pc g M ws y:=by
 refine⟨h.1.ext e,?_⟩
 rcases h.2 with h|⟨ps,es,h1,h2,h3⟩
 ·exact .inl (bI.ext e h)
 ·exact .inr ⟨ps,es,h1,da.ext e h2,dQ.ext e h3⟩
theorem gk.len{H:Hp}{pc g:Int}{M:Nat}{ws:List V}{y:V}(h:gk H pc g M ws y):ws.length=2 * M:=by
 rcases h.2 with h|⟨ps,es,h1,h2,h3⟩
 ·exact bI.len h
 ·rw [h1,JA,da.len h2,dQ.len h3];omega
theorem gk.all{H:Hp}{pc g:Int}{M:Nat}{ws:List V}{y:V}(h:gk H pc g M ws y):PaL H ws/\StP H y:=by
 refine⟨?_,h.1.stp⟩
 rcases h.2 with h|⟨ps,es,h1,h2,h3⟩
 ·exact bI.stp h
 ·rw [h1];intro y hy
  rcases J1.mp hy with hy|hy
  ·exact da.stp h2 y hy
  ·exact dQ.stp h3 y hy
theorem gk.core{H:Hp}{pc g x z:Int}{M:Nat}{ws:List V}{y:V}(hp:2<=pc)(hg:g % pc ≠ 0)(h:gk H pc g M ws y){rest:List V}{o:Option (List Bx)}(hr:bJ H [(pc,x,z)] g rest [[((M:Int),(M:Int))]] o):bJ H [(pc,x,z)] g (ws++rest) [[(0,(M:Int))]] o:=by
 rcases h.2 with h|⟨ps,es,h1,h2,h3⟩
 ·exact lA hp hg h (JB _) rest o hr
 ·rw [h1,KC];exact ly h2 [] _ o (oV hp hg h3 _ _ o hr)
theorem gk.told{H:Hp}{pc g x z:Int}{M:Nat}{ws:List V}{y:V}(hp:2<=pc)(hg:g % pc ≠ 0)(h:gk H pc g M ws y):bJ H [(pc,x,z)] g (ws++[y]) [[(0,(M:Int))]] (some [])/\bJ H [(pc,x,z)] g ws [[(0,(M:Int))]] (some [[((M:Int),(M:Int))]])/\bJ H [(pc,x,z)] g (ws++[y]++[y]) [[(0,(M:Int))]] none:=by
 have be:=ke (a:=x) (b:=z) hp hg h.1;refine⟨h.core hp hg ⟨_,be,rfl⟩,?_,?_⟩
 ·have:=h.core (x:=x) (z:=z) hp hg (rest:=[]) (o:=some [[((M:Int),(M:Int))]]) rfl;rw [Lv] at this;exact this
 ·rw [KC];exact h.core hp hg ⟨_,be,rfl⟩
theorem qc{pc n:Int}{ks:List Int}(hp:2<=pc)(h:kO ks (aC [(n,pc)] [])):aG ks (aC [(n,pc)] [])=[(pc,0,n - 1)]:=by
 have hab:ay pc=pc:=by unfold ay;omega
 have k1:kO [pc] (aC [(n,pc)] []):=⟨Kz.mpr ⟨JV,Mv⟩,JB _,λ t=>by
  constructor
  ·intro ht;rw [JD.mp ht];exact⟨by omega,(pc,n),JD.mpr rfl,hab⟩
  ·rintro ⟨_,z,hz,rfl⟩;rw [JD.mp hz];exact JD.mpr hab,List.pairwise_singleton _ _⟩
 rw [h.uniq k1]
 show [(pc,(if ay pc=pc then (if 0 < pc then 0 else 1 - n) else 0)+0,(if ay pc=pc then (if 0 < pc then n - 1 else 0) else 0)+0)]=_
 rw [hab,JM rfl,JM rfl,JM %[0|8],JM %[0|8],Ky,Ky]
theorem xN(xs:List V)(v:V):gd (xs++[v]) none (some (-1))=xs:=by
 unfold gd;rw [HT.sIx_none,List.drop_zero,Nat.sub_zero]
 have:HT.sIx (xs++[v]).length (xs++[v]).length (some (-1))=xs.length:=by
  show (if (-1:Int) < 0 then ((-1:Int)+(((xs++[v]).length:Nat):Int)).toNat else min ((-1:Int)).toNat (xs++[v]).length)=xs.length
  rw [JM ⋯,JA,JH];omega
 rw [this,List.take_left'];rfl
theorem xK(xs:List V)(v:V):gd (xs++[v]) (some (-1)) none=[v]:=by
 unfold gd
 have h1:HT.sIx (xs++[v]).length 0 (some (-1))=xs.length:=by
  show (if (-1:Int) < 0 then ((-1:Int)+(((xs++[v]).length:Nat):Int)).toNat else min ((-1:Int)).toNat (xs++[v]).length)=xs.length
  rw [JM ⋯,JA,JH];omega
 rw [h1,HT.sIx_none,List.drop_left' rfl,KP];rw [JA,JH];omega
theorem nu(xs:List V)(v:V):atI (xs++[v]) (-1)=some v:=by
 unfold atI ixN;rw [if_neg ⋯,if_pos (by rw [length_append,length_singleton];omega)]
 show (xs++[v])[((-1:Int)+((xs++[v]).length:Int)).toNat]? = some v
 have:((-1:Int)+((xs++[v]).length:Int)).toNat=xs.length:=by rw [JA,JH];omega
 rw [this,JX (JB _),Mr];rfl
theorem pd{H:Hp}{c:Int}:∀ {k s:Nat}{ys:List V},Al (λ (z:Nat) y=>dO H (c - z) y) (List.range' s k) ys->c - s=(k:Int) - 1->da H k ys
 | 0,_,ys,h,_=>Km.mp (by have:=h.1;simpa using this)
 | k+1,s,[],h,_=>by have:=h.1;simp at this
 | k+1,s,y::ys,h,hc=>by
  rw [List.range'_succ] at h;refine⟨y,ys,rfl,?_,pd (k:=k) (s:=s+1) ⟨by have:=h.1;simpa using this,λ i z x hz hx=>h.2 (i+1) z x (by simpa using hz) (by simpa using hx)⟩ %[0|8]⟩;have:dO H (c - (s:Int)) y:=h.2 0 s y rfl rfl;rw [show c - (s:Int)=(k:Int) by omega] at this;exact this
def LgI(H H':Hp)(pp ep:Addr)(pc g:Int)(M i:Nat):Prop:=Ext H H'/\∃ ws es,H' pp=some (.lst ws)/\H' ep=some (.lst es)/\bI H' pc g (min i M) ws/\dQ H' pc g i es
def LgR(H H':Hp)(pq:Addr)(pc g:Int)(M:Nat):Prop:=Ext H H'/\∃ ws e,H' pq=some (.lst (ws++[e]))/\gk H' pc g M ws e
abbrev lY(K:PySem.W.Frag)(a:Addr)(ns:List Int)(s:Addr)(H:Hp)(Q:VK)(E:XK):Prop:=s=a/\SqL K H a (ns.map V.int)/\ns.length<=63/\∀ H',Ext H H'->Q (.bl true) H'
def mZ(K:W.Frag)(a:Addr)(ns:List Int):Sp:=λ vs H Q E=>∃ (s:Addr),vs=[.ref s]/\(lY K a ns s H Q E)
theorem u5(K:W.Frag)(a:Addr)(ns:List Int)(s:Addr)(H:Hp)(Q:VK)(E:XK):mZ K a ns [.ref s] H Q E=(lY K a ns s H Q E):=ve (f:=λ (s:Addr)=>[.ref s]) (λ _ _ h=>by cases h;exact rfl) s
theorem ux(K:W.Frag)(a:Addr)(ns:List Int){vs:List V}{H:Hp}{Q:VK}{E:XK}(h:mZ K a ns vs H Q E):vs.length=1:=qR h λ _=>rfl
theorem mj(T:Tx K mg t)(a:Addr)(ns:List Int):bP P w K mg base CX0 9 t.a__law_long t.d__law_long ["_law_script"] (mZ K a ns):=by
 have G__law_draw:=%[cQ|49] a ns;have G__law_placed:=%[eO|49];have G_is_apart:=%[iu|49];refine T.F__law_long.ok bj (λ vs H Q E h=>ux _ _ _ h) (λ cdv A' outer s H vs Q E hr h=>?_)
 ·obtain⟨_,rfl,rfl,hS,hl,kk⟩:=h;rename_i a;refine⟨_,%[%[1,bj,%[aw,%[0|2],%[_law_draw,%[%[0|0],%[%[0|2],%[%[0|2]|1]|1]|1]|3]|9]|4],%[(@dS _ _ (2) _ _ _ _ bj.nd rfl (Or.inr rfl) %[aw,%[0|2],%[_law_draw,%[%[0|0],%[%[0|2],%[%[0|2]|1]|1]|1]|3]|9] ∅ %[0|7]),%[%[3,bj,%[aw,%[aw,%[cy,%[1|0],%[_law_draw,%[%[0|0],%[%[0|2],%[%[2|0]|1]|1]|1]|3]|9],%[0|2]|9],%[_law_draw,%[%[0|0],%[%[0|2],%[%[aN,%[1|0],%[0|2]|9]|1]|1]|1]|3]|9]|4],%[%[4,bj,%[_law_placed,%[%[%[%[%[%[2|0],%[%[1|0]|1]|1]|14]|1]|18],%[%[(@bC _)|18],%[%[3|0],%[%[_law_draw,%[%[0|0],%[%[0|2],%[%[0|2]|1]|1]|1]|3],%[%[0|2]|1]|1]|1]|1]|1]|3]|4],%[%[5,bj,%[(@bC _)|18]|4],%[%[6,bj,%[(@bC _)|18]|4],%[%[J9,rfl,%[∅,T.z_range,%[%[2|0]|1],∅|41],%[7,bj|5],%[%[8,bj,%[az,%[%[%[%[(@av _ _ _ _)|1]|14],%[%[%[(@av _ _ _ _)|1]|14]|1]|1]|18],%[uS,∅,T.z_int,nofun,%[%[dm,%[cy,%[1|0],%[7|0]|9],%[3|0],(af _)|25]|1],⋯,⋯,∅,∅|43],(λ _ _=>rfl)|11]|4],%[%[%[JJ,Ki,Kh,cn,%[6|0],%[%[az,%[%[%[8|0],%[%[%[(@av _ _ _ _),%[%[1|0]|1]|1]|14]|1]|1]|18],%[_law_draw,%[%[0|0],%[%[aw,%[0|2],%[aO,%[7|0],%[0|2]|9]|9],%[%[0|2]|1]|1]|1]|3],(λ _ _=>rfl)|11]|1],∅,∅,∅,∅,∅|40],∅|31],%[%[%[dk,%[aw,%[7|0],%[0|2]|9],%[2|0],(af _)|15],%[%[%[JJ,Lf,Le,fw,%[5|0],%[%[%[%[%[(@av _ _ _ _),%[%[0|2],%[%[7|0]|1]|1]|1]|14],%[%[az,%[6|0],%[dY,%[0|2]|42],(λ _ _=>rfl)|11]|1]|1]|18]|1],∅,∅,∅,∅,∅|40],∅|31]|12],(@ai _)|16]|12]|10]|10],(by intros;rfl)|35],%[%[%[JJ,Ki,Kh,cn,%[5|0],%[%[az,%[6|0],%[dY,%[0|2]|42],(λ _ _=>rfl)|11]|1],∅,∅,∅,∅,∅|40],∅|31],%[%[%[(bt hr.units),%[_law_draw,%[%[0|0],%[%[0|2],%[%[0|2]|1]|1]|1]|3],%[0|2],(af _)|15],%[%[5,bj,%[bw,%[(["_law_number", "_law_script", "_law_pace", "_law_many", "_law_goal", "_law_views", "_law_paper", "_law_ends_here", "!_law_number", "_law_end"]),(1),(aH (ae dr) ["_law_script", "_law_pace", "_law_many", "_law_goal", "_law_views", "_law_paper", "_law_ends_here", "_law_number", "_law_end"] rfl rfl nofun),rfl,%[∅,T.z_range,%[%[aN,%[2|0],%[0|2]|9]|1],∅|41],(λ C s₀ H₀ ex pn=>%[(0),_,(show List.Nodup (["_law_number", "_law_script", "_law_pace", "_law_many", "_law_goal", "_law_views", "_law_paper", "_law_ends_here", "!_law_number", "_law_end"]:List Str) from by decide +kernel),rfl,(Or.inl rfl),%[0|7]|20]),(λ C s₀ H₀ ex pn=>(@aX _)),(λ C s₀ H₀ ex pn=>%[%[(@av _ _ _ _),%[%[0|2],%[%[aN,%[aN,%[3|0],%[0|2]|9],%[0|0]|9]|1]|1]|1]|14]),(by intros;rfl)|26],%[6|0]|9]|4]|12],(@ai _)|16],%[%[%[hV,%[is_apart,%[%[az,%[4|0],%[0|2],(λ _ _=>rfl)|11],%[%[az,%[4|0],%[0|2],(λ _ _=>rfl)|11],%[%[5|0]|1]|1]|1]|3],(@bD _ _ _ _),(af _)|15],%[%[(@bD _ _ _ _)|13]|12],(@ai _)|16],%[%[%[hV,%[is_apart,%[%[az,%[4|0],%[0|2],(λ _ _=>rfl)|11],%[%[az,%[4|0],%[0|2],(λ _ _=>rfl)|11],%[%[pG,%[5|0],(@bZ _),%[%[dY,%[0|2]|42]|32]|36]|1]|1]|1]|3],(@bD _ _ _ _),(af _)|15],%[%[(@bD _ _ _ _)|13]|12],(@ai _)|16],%[%[%[Ab,%[is_apart,%[%[az,%[4|0],%[0|2],(λ _ _=>rfl)|11],%[%[az,%[4|0],%[0|2],(λ _ _=>rfl)|11],%[%[bw,%[5|0],%[pG,%[5|0],%[%[dY,%[0|2]|42]|32],(@bZ _)|36]|9]|1]|1]|1]|3],(@bD _ _ _ _),(af _)|25]|13]|12]|10]|10]|10]|10]|10]|10]|10]|10]|10]|10]|10],?_⟩;rw [show aJ ["_law_script", "_law_pace", "_law_many", "_law_goal", "_law_views", "_law_paper", "_law_ends_here", "_law_number", "_law_end"] [.ref a]=[some (.ref a),none,none,none,none,none,none,none,none] from rfl];clear G__law_draw G__law_placed G_is_apart;exists kk;ac_rfl;rw [aU];refine⟨hS,hl,⟨by decide,by decide⟩,by decide,λ d1 d10 d11=>?_⟩;obtain⟨pc,hpc⟩:∃ pc,2+d1=pc:=⟨_,rfl⟩;have hp2:2<=pc:=by omega
  have hp51:pc<=51:=by omega
  ac_rfl;clear hpc d10 d11;rw [aU];refine⟨hS,hl,⟨by decide,by decide⟩,by decide,λ d2 d20 d21=>?_⟩;obtain⟨n,hn0⟩:∃ n,200+d2=n:=⟨_,rfl⟩;have hn1:200<=n:=by omega
  have hn2:n<=1000:=by omega
  ac_rfl;clear hn0 d20 d21;rw [aU];refine⟨hS,hl,⟨by decide,by decide⟩,by omega,λ q q0 q1=>?_⟩;have cm1:jw pc q:=.inr ⟨by omega,by omega⟩;have cm1':zq pc q:=⟨by omega,by omega⟩;ac_rfl;rw [aU];refine⟨hS,hl,⟨by decide,by decide⟩,by omega,λ rr r0 r1=>?_⟩;obtain⟨g,hg0⟩:∃ g,pc * q+1+rr=g:=⟨_,rfl⟩
  have hgm:g % pc ≠ 0:=by
   have e:g=(1+rr)+pc * q:=by omega
   rw [e,Int.add_mul_emod_self_left,Int.emod_eq_of_lt %[0|8] %[0|8]];omega
  have hgb:0<=g/\g<=100000:=by
   have h1:=Ke (show q<=1000 by omega) (show 0<=pc by omega);have h2:=Int.mul_nonneg (show 0<=pc by omega) q0;omega
  exists hgm;ac_rfl;clear hg0 q0 q1 r0 r1 cm1 cm1';intro t1 H1 _ e1 h1;ac_rfl;intro l2 H2 _ e2 h2;have pA:dP H2 l2 [(n,pc)]:=⟨_,h2,Al.cons' ⟨t1,rfl,e2.at h1⟩ Al.nil⟩;clear h1 h2;ac_rfl;intro l3 H3 _ e3 h3;have pB:dP H3 l3 []:=⟨_,h3,Al.nil⟩;have e03:=e1.trans (e2.trans e3);have hS3:=e03.2 K a _ hS;clear h3 hS;ac_rfl;rw [aU];refine⟨hS3,hl,⟨by decide,by decide⟩,by decide,λ lo lo0 lo1=>?_⟩
  have kA:AxG [(n,pc)]:=⟨by simp,λ x hx=>by
   rw [List.mem_singleton.mp hx];have:=Int.mul_le_mul_of_nonneg_left (show n - 1<=1000 by omega) (show 0<=ay pc by unfold ay;omega);have hab:ay pc<=51:=by unfold ay;omega
   exact⟨⟨by show 1<=n;omega,by show n<=_;omega⟩,by show ay pc<=_;omega,by show ay pc * (n - 1)<=_;omega⟩⟩
  have kB:AxG ([]:List (Int × Int)):=⟨by decide,λ x hx=>absurd hx JV⟩;ac_rfl;rw [iC];refine⟨[(n,pc)],[],br pA e3,pB,kA,kB,⟨lo0,lo1⟩,⟨by decide,by decide⟩,⟨by omega,by omega⟩,λ room f u v vw H4 e4 h4 v1 v2 _ _ _=>?_⟩
  have hkp:[(n,pc)].map au=[(n,pc)]:=by
   show [(n,if n > 1 then pc else 0)]=_
   rw [JM %[0|8]]
  have htm:=λ (ks:List Int) (hk:kO ks (aC ([(n,pc)].map au) ([].map au)))=>(kA.tms kB hk).1;rw [hkp] at v1 htm;have v2':aB t.a_View H4 v room (f+g) []:=v2;have htm':∀ ks,kO ks (aC [(n,pc)] [])->cG (aG ks (aC [(n,pc)] [])):=htm;have axA:fE [(n,pc)]:=⟨by simp,λ x hx=>by rw [JD.mp hx];exact⟨by show 1<=n;omega,by show n<=_;omega⟩⟩;have axB:fE ([]:List (Int × Int)):=⟨by decide,λ x hx=>absurd hx JV⟩;obtain⟨M,hM⟩:∃ M:Nat,n=(M:Int)+1:=⟨(n - 1).toNat,by omega⟩;have hMb:M<=1000:=by omega
  exists hM;exists htm';exists v1;exists v2';have hS4:=e4.2 K a _ hS3;have e04:=e03.trans e4;clear pA pB hS3 e1 e2 e3 e4 e03 kA kB hkp htm v2 lo0 lo1;ac_rfl;intro pp H5 hpp e5 h5;have hpp4:H4 pp=none:=hpp;clear hpp;ac_rfl;intro ep H6 hep e6 h6;have hep4:H4 ep=none:=e5.free hep;have npe:pp ≠ ep:=λ e=>by rw [←e,h5] at hep;cases hep
  have h5_6:=e6.at h5;have e46:=e5.trans e6;have ini:LgI H4 H6 pp ep pc g M 0:=⟨e46,[],[],h5_6,h6,(by rw [Nat.zero_min];exact rfl),rfl⟩;have hnp:0<=n:=by omega
  clear h5 h6 hep e5 e6 h5_6 e46;ac_rfl;refine⟨by omega,by omega,?_⟩;refine jH (λ i σ H'=>∃ v7 v8:Option V,σ=[some (.ref a),some (.int pc),some (.int n),some (.int g),some (.ref vw),some (.ref pp),some (.ref ep),v7,v8]/\LgI H4 H' pp ep pc g M i) ⟨none,none,rfl,ini⟩ ?_ ?_
  ·clear ini kk;rintro j _ H7 hj ⟨v7,v8,rfl,e7,ws,es,h7p,h7e,pl,el⟩;have hjM:j<=M:=by have:=hM ();have:j < n.toNat:=hj;omega
   have hS7:=e7.2 K a _ hS4;have hel:=dQ.len el;have hwl:=bI.len pl;have cm2:jw pc (0+(j:Int)):=.inr ⟨by omega,by omega⟩;have cm2':zq pc (0+(j:Int)):=⟨by omega,by omega⟩;have hgne:pc * (j:Int) ≠ g:=λ e=>hgm () (by rw [←e];exact Int.mul_emod_right _ _);exists pl;exists el;exists hel;exists hwl;exists hgne;clear hj;simp! only [↓aQ];intro t8 H8 _ e8 h8;ac_rfl;intro t9 H9 _ e9 h9;have h8_9:=e9.at h8;clear h8;ac_rfl;intro l10 H10 _ e10 h10;have h8_10:=e10.at h8_9;have h9_10:=e10.at h9;have e710:=e8.trans (e9.trans e10);clear h8_9 h9 e8 e9 e10
   by_cases hgt:g < pc * (0+(j:Int))
   ·have et:gE H10 pc g j (.ref t9):=⟨_,rfl,.inr (.inl ⟨h9_10,by rw [Kj] at hgt;exact hgt⟩)⟩;exists et;clear h8_10 h9_10;ac_rfl;intro t11 H11 _ e11 h11;have e711:=e710.trans e11;have et11:=λ (_:Unit)=>(et ()).ext e11;clear et h10;ac_rfl;intro l12 H12 _ e12 h12;have e712:=e711.trans e12;have et12:gE H12 pc g j (.ref t9)/\gE H12 pc g j (.ref t11):=⟨(et11 ()).ext e12,⟨_,rfl,.inr (.inr (e12.at h11))⟩⟩;have hS12:=(e7.trans e712).2 K a _ hS4;have h12p:=e712.at h7p;have h12e:=e712.at h7e;exists et12;clear et11 h11 h7p h7e e11 e12 e710 e711 hS7;ac_rfl;rw [aU];refine⟨hS12,hl,⟨by omega,by omega⟩,by decide,λ d d0 d1=>?_⟩;ac_rfl;refine cj (gE H12 pc g j) d0 d1 (λ v hv=>?_) λ ev hev=>?_
    ·rcases J2.mp hv with rfl|hv
     ·exact(et12 ()).1
     ·rw [JD.mp hv];exact(et12 ()).2
    obtain⟨evp,hevp,_⟩:=id hev;have hlim:es.length < sizeLine:=b0 (by have:=hel ();omega);have h13e:upd H12 ep (.lst (es++[ev])) ep=some (.lst (es++[ev])):=ag;have h13p:upd H12 ep (.lst (es++[ev])) pp=some (.lst ws):=by rw [ah npe];exact h12p
    have e13:Ext H4 (upd H12 ep (.lst (es++[ev]))):=(e7.trans e712).put hep4;have pl13:=bI.upd (o:=.lst (es++[ev])) h12e (bI.ext e712 (pl ()));have ev13:=gE.upd (o:=.lst (es++[ev])) hev h12e;have el13:dQ (upd H12 ep (.lst (es++[ev]))) pc g (j+1) (es++[ev]):=⟨es,ev,rfl,ev13,dQ.upd h12e (dQ.ext e712 (el ()))⟩;have hat:=nu es ev;exists pl13;exists el13;exists ev13;exists hev;clear et12 h12 hS12 hevp pl el d0 d1 hgt
    by_cases hlast:0+(j:Int)+1 < n
    ·have hmn:min j M=j:=by have:=hM ();omega
     have hmn2:min (j+1) M=j+1:=by have:=hM ();omega
     have hlim2:ws.length+2<=sizeLine:=b0 (by have:=hwl ();omega);exists hmn;exists hmn2;ac_rfl;generalize upd H12 ep (.lst (es++[ev]))=H13 at *;clear h12p h12e hlim;intro t14 H14 _ e14 h14;have h14p:=e14.at h13p;have h14e:=e14.at h13e;clear h13p h13e;ac_rfl;intro l15 H15 _ e15 h15;have h15p:=e15.at h14p;have h15e:=e15.at h14e;have e1315:=e14.trans e15;have hpt:dO H15 j (.ref t14):=⟨_,rfl,by have:=e15.at h14;rw [Kj] at this;exact this⟩;have e16:Ext H4 (upd H15 pp (.lst (ws++[.ref t14,ev]))):=(e13.trans e1315).put hpp4;have h16p:upd H15 pp (.lst (ws++[.ref t14,ev])) pp=some (.lst (ws++[.ref t14,ev])):=ag;have h16e:upd H15 pp (.lst (ws++[.ref t14,ev])) ep=some (.lst (es++[ev])):=by rw [ah (J6 npe)];exact h15e
     have lg:LgI H4 (upd H15 pp (.lst (ws++[.ref t14,ev]))) pp ep pc g M (j+1):=by
      have pl15:=bI.upd (o:=.lst (ws++[.ref t14,ev])) h15p (bI.ext e1315 (pl13 ()));rw [hmn ()] at pl15;refine⟨e16,_,_,h16p,h16e,?_,dQ.upd h15p (dQ.ext e1315 (el13 ()))⟩;rw [hmn2 ()];exact⟨ws,_,_,rfl,hpt.upd h15p,((ev13 ()).ext e1315).upd h15p,pl15⟩
     clear h16p h16e h14p h14e hpt h14 e14 e15 pl13 el13 ev13 e16;ac_rfl
     first|exact⟨_,_,rfl,lg⟩|exact⟨_,_,rfl⟩
    ·have hmn:min j M=M:=by have:=hM ();omega
     have hmn2:min (j+1) M=M:=by have:=hM ();omega
     have lg:LgI H4 (upd H12 ep (.lst (es++[ev]))) pp ep pc g M (j+1):=⟨e13,_,_,h13p,h13e,by rw [hmn2,←hmn];exact pl13 (),el13 ()⟩;exists hmn;exists hmn2;clear pl13 el13 ev13 h13p h13e e13;ac_rfl
     first|exact⟨_,_,rfl,lg⟩|exact⟨_,_,rfl⟩
   ·have et:gE H10 pc g j (.ref t8):=⟨_,rfl,.inl ⟨h8_10,by rw [Kj] at hgt;have:=hgne ();omega⟩⟩;exists et;clear h8_10 h9_10;ac_rfl;intro t11 H11 _ e11 h11;have e711:=e710.trans e11;have et11:=λ (_:Unit)=>(et ()).ext e11;clear et h10;ac_rfl;intro l12 H12 _ e12 h12;have e712:=e711.trans e12;have et12:gE H12 pc g j (.ref t8)/\gE H12 pc g j (.ref t11):=⟨(et11 ()).ext e12,⟨_,rfl,.inr (.inr (e12.at h11))⟩⟩;have hS12:=(e7.trans e712).2 K a _ hS4;have h12p:=e712.at h7p;have h12e:=e712.at h7e;exists et12;clear et11 h11 h7p h7e e11 e12 e710 e711 hS7;ac_rfl;rw [aU];refine⟨hS12,hl,⟨by omega,by omega⟩,by decide,λ d d0 d1=>?_⟩;ac_rfl;refine cj (gE H12 pc g j) d0 d1 (λ v hv=>?_) λ ev hev=>?_
    ·rcases J2.mp hv with rfl|hv
     ·exact(et12 ()).1
     ·rw [JD.mp hv];exact(et12 ()).2
    obtain⟨evp,hevp,_⟩:=id hev;have hlim:es.length < sizeLine:=b0 (by have:=hel ();omega);have h13e:upd H12 ep (.lst (es++[ev])) ep=some (.lst (es++[ev])):=ag;have h13p:upd H12 ep (.lst (es++[ev])) pp=some (.lst ws):=by rw [ah npe];exact h12p
    have e13:Ext H4 (upd H12 ep (.lst (es++[ev]))):=(e7.trans e712).put hep4;have pl13:=bI.upd (o:=.lst (es++[ev])) h12e (bI.ext e712 (pl ()));have ev13:=gE.upd (o:=.lst (es++[ev])) hev h12e;have el13:dQ (upd H12 ep (.lst (es++[ev]))) pc g (j+1) (es++[ev]):=⟨es,ev,rfl,ev13,dQ.upd h12e (dQ.ext e712 (el ()))⟩;have hat:=nu es ev;exists pl13;exists el13;exists ev13;exists hev;clear et12 h12 hS12 hevp pl el d0 d1 hgt
    by_cases hlast:0+(j:Int)+1 < n
    ·have hmn:min j M=j:=by have:=hM ();omega
     have hmn2:min (j+1) M=j+1:=by have:=hM ();omega
     have hlim2:ws.length+2<=sizeLine:=b0 (by have:=hwl ();omega);exists hmn;exists hmn2;ac_rfl;generalize upd H12 ep (.lst (es++[ev]))=H13 at *;clear h12p h12e hlim;intro t14 H14 _ e14 h14;have h14p:=e14.at h13p;have h14e:=e14.at h13e;clear h13p h13e;ac_rfl;intro l15 H15 _ e15 h15;have h15p:=e15.at h14p;have h15e:=e15.at h14e;have e1315:=e14.trans e15;have hpt:dO H15 j (.ref t14):=⟨_,rfl,by have:=e15.at h14;rw [Kj] at this;exact this⟩;have e16:Ext H4 (upd H15 pp (.lst (ws++[.ref t14,ev]))):=(e13.trans e1315).put hpp4;have h16p:upd H15 pp (.lst (ws++[.ref t14,ev])) pp=some (.lst (ws++[.ref t14,ev])):=ag;have h16e:upd H15 pp (.lst (ws++[.ref t14,ev])) ep=some (.lst (es++[ev])):=by rw [ah (J6 npe)];exact h15e
     have lg:LgI H4 (upd H15 pp (.lst (ws++[.ref t14,ev]))) pp ep pc g M (j+1):=by
      have pl15:=bI.upd (o:=.lst (ws++[.ref t14,ev])) h15p (bI.ext e1315 (pl13 ()));rw [hmn ()] at pl15;refine⟨e16,_,_,h16p,h16e,?_,dQ.upd h15p (dQ.ext e1315 (el13 ()))⟩;rw [hmn2 ()];exact⟨ws,_,_,rfl,hpt.upd h15p,((ev13 ()).ext e1315).upd h15p,pl15⟩
     clear h16p h16e h14p h14e hpt h14 e14 e15 pl13 el13 ev13 e16;ac_rfl
     first|exact⟨_,_,rfl,lg⟩|exact⟨_,_,rfl⟩
    ·have hmn:min j M=M:=by have:=hM ();omega
     have hmn2:min (j+1) M=M:=by have:=hM ();omega
     have lg:LgI H4 (upd H12 ep (.lst (es++[ev]))) pp ep pc g M (j+1):=⟨e13,_,_,h13p,h13e,by rw [hmn2,←hmn];exact pl13 (),el13 ()⟩;exists hmn;exists hmn2;clear pl13 el13 ev13 h13p h13e e13;ac_rfl
     first|exact⟨_,_,rfl,lg⟩|exact⟨_,_,rfl⟩
  ·rintro _ H7 ⟨v7,v8,rfl,e7,ws,es,h7p,h7e,pl,el⟩;have hnN:n.toNat=M+1:=by have:=hM ();omega
   rw [hnN] at pl el;rw [Mu (Nat.le_succ M)] at pl;obtain⟨es0,e,rfl,he,el0⟩:=el;have hwl:=bI.len pl;have hlim:ws.length < sizeLine:=b0 %[0|8];have hat:=nu es0 e;have hS7:=e7.2 K a _ hS4;have e8:Ext H4 (upd H7 pp (.lst (ws++[e]))):=e7.put hpp4;have hS8:=e8.2 K a _ hS4;have h8p:upd H7 pp (.lst (ws++[e])) pp=some (.lst (ws++[e])):=ag;have h8e:upd H7 pp (.lst (ws++[e])) ep=some (.lst (es0++[e])):=by rw [ah (J6 npe)];exact h7e
   have pl8:=bI.upd (o:=.lst (ws++[e])) h7p pl;have he8:=gE.upd (o:=.lst (ws++[e])) he h7p;have el8:=dQ.upd (o:=.lst (ws++[e])) h7p el0;have lg8:LgR H4 (upd H7 pp (.lst (ws++[e]))) pp pc g M:=⟨e8,ws,e,h8p,he8,.inl pl8⟩;exists he8;exists el8;exists lg8;clear pl he el0 pl8 hS7 hwl ini;simp! only [-gK];generalize upd H7 pp (.lst (ws++[e]))=H8 at *;clear h7p h7e hat hlim e7;refine i3 (λ σ' H'=>∃ (pq:Addr),σ'=[some (.ref a),some (.int pc),some (.int n),some (.int g),some (.ref vw),some (.ref pq),some (.ref ep),v7,v8]/\LgR H4 H' pq pc g M) (λ nx' hn=>?_) ?_
   ·exists hn;clear kk v1 v2' htm';ac_rfl;rw [aU];refine⟨hS8,hl,⟨by decide,by decide⟩,by decide,λ d d0 d1=>?_⟩
    by_cases hd:d=1
    ·have hn1':0<=n - 1:=by omega
     ac_rfl;refine⟨by omega,by omega,?_⟩;refine cp (List.range (n - 1).toNat) (λ _=>true) (λ (z:Nat) x H'=>x=.int (0+(z:Int))) (λ D (z:Nat) y H'=>dO H' (n - 2 - z) y) dF.1 dF.2 (λ D z y H1 H2 h e=>dO.ext h e) (λ D z y H1 xs o h hD=>dO.upd h hD) (aj (by rw [Lm];omega)) ?_ ?_
     ·intro D z y H' N1 N0 hz hD e' _ hy k1 _;subst hy;have k1':=k1 rfl;clear k1 hn lg8 he8 el8;simp! only [↓bA,↓aV];intro t1 H9 ht1 e9 h9;rw [Kj] at h9;exact k1' _ H9 e9 ⟨t1,rfl,h9⟩
     intro D zs2 H9 hD e9 h9 al9;rw [iR,List.range_eq_range'] at al9
     have pl9:da H9 M zs2:=by
      have hN:(n - 1).toNat=M:=by have:=hM ();omega
      rw [hN] at al9;exact pd al9 (by have:=hM ();omega)
     have h8e9:=e9.at h8e;have hzl:=da.len pl9;have hel:=dQ.len (el8 ());exists pl9;clear al9 hD;ac_rfl;refine⟨aj (by rw [JA,JH];omega),?_⟩;intro pq H10 _ e10 h10;have e810:=e9.trans e10;have lg:LgR H4 H10 pq pc g M:=⟨e8.trans e810,zs2++es0,e,by rw [KC];exact h10,(he8 ()).ext e810,.inr ⟨zs2,es0,rfl,da.ext e10 (pl9 ()),dQ.ext e810 (el8 ())⟩⟩;clear lg8 he8 el8 pl9 h9 h8e9 hzl hel;ac_rfl;exact hn () _ _ ⟨pq,rfl,lg⟩
    ·ac_rfl;exact hn () _ _ ⟨pp,rfl,lg8 ()⟩
   clear lg8 he8 el8 h8p h8e e8 hS8;rintro _ H9 ⟨pq,rfl,e9,ws,e,h9,lg⟩;have h4_9:=e9.at h4;have hwl:=lg.len;have lal:=lg.all;have hx:f+g - f=g:=by omega
   have F1:∀ (H':Hp),Ext H9 H'->∀ y∈ws++[e],ThV H' y:=λ H' e' y hy=>((lal.1.snoc lal.2) y hy).ths.thv.ext e';have thE:∀ (H':Hp),Ext H9 H'->ThV H' e:=λ H' e'=>lal.2.ths.thv.ext e'
   have tl:∀ (H':Hp) (ks:List Int),Ext H9 H'->kO ks (aC [(n,pc)] [])->bJ H' (aG ks (aC [(n,pc)] [])) (f+g - f) (ws++[e]) [(aG ks (aC [(n,pc)] [])).map λ z=>z.2] (some [])/\bJ H' (aG ks (aC [(n,pc)] [])) (f+g - f) ws [(aG ks (aC [(n,pc)] [])).map λ z=>z.2] (some [[((M:Int),(M:Int))]])/\bJ H' (aG ks (aC [(n,pc)] [])) (f+g - f) (ws++[e]++[e]) [(aG ks (aC [(n,pc)] [])).map λ z=>z.2] none:=λ H' ks e' ko=>by
    rw [qc hp2 ko,hx,show [((pc,0,n - 1):Tm3)].map (λ z=>z.2)=[(0,(M:Int))] by show [((0:Int),n - 1)]=_;rw [show n - 1=(M:Int) by have:=hM ();omega]];exact(lg.ext e').told hp2 (hgm ())
   exists F1;exists thE;exists tl;have e09:=e04.trans e9;clear lal lg hx;ac_rfl;rw [dz];refine⟨room,f,f+g,[(n,pc)],[],ws++[e],(v1 ()).ext e9,(v2' ()).ext e9,axA,axB,h9,(by rw [JA,JH];omega),F1 () H9 (Ext.refl _),htm' (),λ ks b H10 e10 ko hb=>?_⟩;have hbt:b=true:=hb.mpr (tl () H9 ks (Ext.refl _) ko).1;subst hbt;have h9_10:=e10.at h9;have h4_10:=e10.at h4_9;have ct:=xN ws e;have ct2:=xK ws e;clear hb h9 h4_9;ac_rfl;intro l11 H11 _ e11 h11;have h9_11:=e11.at h9_10;have h4_11:=e11.at h4_10;have e911:=e10.trans e11;clear h9_10 h4_10 e10 e11;ac_rfl;rw [dz];refine⟨room,f,f+g,[(n,pc)],[],ws,(v1 ()).ext (e9.trans e911),(v2' ()).ext (e9.trans e911),axA,axB,h11,%[0|8],(λ y hy=>F1 () H11 e911 y (KD _ hy)),htm' (),λ ks b H12 e12 ko hb=>?_⟩
   have hbt:b=false:=by
    cases b with
    | false=>rfl
    | true=>have:=JU ((tl () H11 ks e911 ko).2.1.uniq (hb.mp rfl));cases this
   subst hbt;have h9_12:=e12.at h9_11;have h4_12:=e12.at h4_11;have e912:=e911.trans e12;clear hb h9_11 h4_11 h11 e12 e911;ac_rfl;intro l13 H13 _ e13 h13;have h9_13:=e13.at h9_12;have h4_13:=e13.at h4_12;clear h9_12 h4_12;refine bf h9_13 h13 (aj (by rw [JA,JH];omega)) ?_;intro l14 H14 _ e14 h14;have h4_14:=e14.at h4_13;have e914:=e912.trans (e13.trans e14);clear h9_13 h4_13 h13 e13 e14 e912;ac_rfl;rw [dz];refine⟨room,f,f+g,[(n,pc)],[],ws++[e]++[e],(v1 ()).ext (e9.trans e914),(v2' ()).ext (e9.trans e914),axA,axB,h14,(by rw [JA,JA,JH];omega),(λ y hy=>?_),htm' (),λ ks b H15 e15 ko hb=>?_⟩
   ·rcases J1.mp hy with hy|hy
    ·exact F1 () H14 e914 y hy
    ·rw [JD.mp hy];exact thE () H14 e914
   have hbt:b=false:=by
    cases b with
    | false=>rfl
    | true=>have:=(tl () H14 ks e914 ko).2.2.uniq (hb.mp rfl);cases this
   subst hbt;have k2:=kk () H15 (e09.trans (e914.trans e15));clear hb kk F1 thE tl;ac_rfl;exact k2
abbrev BH(K:PySem.W.Frag)(a:Addr)(H:Hp)(Q:VK)(E:XK):Prop:=∃ ns:List Int,SqL K H a (ns.map V.int)/\ns.length<=63/\∀ H',Q (.bl true) H'
def qU(K:W.Frag):Sp:=λ vs H Q E=>∃ (a:Addr),vs=[.ref a]/\(BH K a H Q E)
theorem Be(K:W.Frag){vs:List V}{H:Hp}{Q:VK}{E:XK}(h:qU K vs H Q E):vs.length=1:=qR h λ _=>rfl
theorem Dk(T:Tx K mg t):bP P w K mg base CX0 10 t.a_law t.d_law ["_law_script"] (qU K):=by
 refine T.F_law.ok gj (λ vs H Q E h=>Be _ h) (λ cdv A' outer s H vs Q E hr h=>?_)
 ·obtain⟨a,rfl,ns,hS,hl,kk⟩:=h;have G__law_draw:=%[cQ|49] a ns;have G__law_long:=%[mj|49] a ns;have G__law_axes:=%[mq|49] a ns;have G__law_terms:=%[kj|49];have G__law_placed:=%[eO|49];have G__law_made:=%[mi|49] a ns;have G__law_asked:=%[km|49];have G__law_spoilt:=%[iV|49];have G_is_apart:=%[mw|49];have G__law_refused:=%[iL|49];refine⟨_,%[%[(PW.pt %[%[(bt hr.units),%[_law_draw,%[%[0|0],%[%[0|2],%[%[0|2]|1]|1]|1]|3],%[0|2],(af _)|15],%[%[%[%[_law_long,%[%[0|0]|1]|3],(by intros;rfl)|22]|24]|39]|33]),%[%[(@bD _ _ _ _)|13]|12],(@ai _)|16],%[%[1,gj,%[aw,%[0|2],%[_law_draw,%[%[0|0],%[%[0|2],%[%[0|2]|1]|1]|1]|3]|9]|4],%[%[2,gj,%[_law_axes,%[%[0|0],%[%[0|2],%[%[1|0]|1]|1]|1]|3]|4],%[%[3,gj,%[_law_axes,%[%[0|0],%[%[0|2],%[%[1|0]|1]|1]|1]|3]|4],%[%[4,gj,%[_law_terms,%[%[2|0],%[%[3|0]|1]|1]|3]|4],%[%[5,gj,%[_law_draw,%[%[0|0],%[%[0|2],%[%[kY,%[0|2],%[0|2]|9]|1]|1]|1]|3]|4],%[%[6,gj,%[az,%[%[%[aN,%[aO,%[5|0],%[0|2]|9],%[0|2]|9],%[%[aw,%[aw,%[cy,%[aN,%[aO,%[5|0],%[0|2]|9],%[0|2]|9],%[1|0]|9],%[0|2]|9],%[aO,%[bQ,%[5|0],%[0|2]|9],%[1|0]|9]|9],%[%[aN,%[aO,%[5|0],%[0|2]|9],%[0|2]|9]|1]|1]|1]|18],%[aO,%[bQ,%[5|0],%[0|2]|9],%[0|2]|9],(λ _ _=>rfl)|11]|4],%[%[7,gj,%[_law_placed,%[%[2|0],%[%[3|0],%[%[6|0],%[%[_law_draw,%[%[0|0],%[%[0|2],%[%[0|2]|1]|1]|1]|3],%[%[_law_draw,%[%[0|0],%[%[0|2],%[%[0|2]|1]|1]|1]|3]|1]|1]|1]|1]|1]|3]|4],%[%[8,gj,%[_law_made,%[%[0|0],%[%[4|0],%[%[6|0]|1]|1]|1]|3]|4],%[%[(PW.pt %[%[%[%[_law_asked,%[%[7|0],%[%[4|0],%[%[6|0],%[%[8|0]|1]|1]|1]|1]|3],(by intros;rfl)|22]|24],%[%[%[%[_law_asked,%[%[7|0],%[%[4|0],%[%[6|0],%[%[(@bC _)|18]|1]|1]|1]|1]|3],(by intros;rfl)|22]|24]|37]|28]),%[%[(@bD _ _ _ _)|13]|12],(@ai _)|16],%[%[J9,rfl,%[∅,T.z_range,%[%[0|2]|1],∅|41],%[9,gj|5],%[%[%[%[%[_law_asked,%[%[7|0],%[%[4|0],%[%[6|0],%[%[_law_spoilt,%[%[8|0],%[%[4|0],%[%[_law_draw,%[%[0|0],%[%[aw,%[0|2],%[9|0]|9],%[%[kY,%[0|2],%[0|2]|9]|1]|1]|1]|3]|1]|1]|1]|3]|1]|1]|1]|1]|3],(by intros;rfl)|22]|24],%[%[(@bD _ _ _ _)|13]|12],(@ai _)|16]|12],(by intros;rfl)|35],%[%[10,gj,%[%[(@dU _ _ _),%[%[0|2],%[(@av _ _ _ _),%[%[nO,∅,T.z_tuple,nofun,%[%[8|0]|1],⋯,⋯,∅,∅|43],%[(@eC _ _),%[(@bD _ _ _ _),%[%[%[(@av _ _ _ _)|1]|14]|1]|1]|1]|1]|1]|1]|1]|18]|4],%[%[11,gj,%[az,%[10|0],%[_law_draw,%[%[0|0],%[%[0|2],%[%[0|2]|1]|1]|1]|3],(λ _ _=>rfl)|11]|4],%[%[%[hV,%[is_apart,%[%[az,%[7|0],%[0|2],(λ _ _=>rfl)|11],%[%[az,%[7|0],%[0|2],(λ _ _=>rfl)|11],%[%[11|0]|1]|1]|1]|3],(@bD _ _ _ _),(af _)|15],%[%[(@bD _ _ _ _)|13]|12],(@ai _)|16],%[%[(PW.pt %[%[%[%[_law_refused,%[%[7|0],%[%[8|0]|1]|1]|3],(by intros;rfl)|22]|24],%[%[%[%[_law_refused,%[%[7|0],%[%[11|0]|1]|1]|3],(by intros;rfl)|22]|24]|37]|28]),%[%[(@bD _ _ _ _)|13]|12],(@ai _)|16],%[%[%[_law_asked,%[%[7|0],%[%[4|0],%[%[6|0],%[%[8|0]|1]|1]|1]|1]|3]|13]|12]|10]|10]|10]|10]|10]|10]|10]|10]|10]|10]|10]|10]|10]|10]|10],?_⟩;rw [show aJ ["_law_script", "_law_factor", "_law_one", "_law_other", "_law_terms_here", "_law_cell", "_law_goal", "_law_views", "_law_paper", "_law_k", "_law_things", "_law_thing_here"] [.ref a]=[some (.ref a),none,none,none,none,none,none,none,none,none,none,none] from rfl];clear G__law_draw G__law_long G__law_axes G__law_terms G__law_placed G__law_made G__law_asked G__law_spoilt G_is_apart G__law_refused;exists kk;simp! only [-gK];refine i3 (λ σ' H'=>σ'=[some (.ref a),none,none,none,none,none,none,none,none,none,none,none]/\Ext H H') (λ nx' hn=>?_) ?_
  ·exists hn;clear kk;ac_rfl;rw [aU];refine⟨hS,hl,⟨by decide,by decide⟩,by decide,λ d d0 d1=>?_⟩
   by_cases hd:d=1
   ·ac_rfl;rw [u5];refine⟨rfl,hS,hl,λ H1 e1=>?_⟩;ac_rfl;exact hn () _ _ ⟨rfl,e1⟩
   ·ac_rfl;exact hn () _ _ ⟨rfl,Ext.refl _⟩
  rintro _ H0 ⟨rfl,e0⟩;replace hS:=e0.2 K a _ hS;clear e0;ac_rfl;rw [aU];refine⟨hS,hl,⟨by decide,by decide⟩,by decide,λ d1 d10 d11=>?_⟩;obtain⟨fa,hfa⟩:∃ fa,1+d1=fa:=⟨_,rfl⟩;have hf1:1<=fa:=by omega
  have hf6:fa<=6:=by omega
  ac_rfl;clear hfa d10 d11;rw [lK];refine⟨rfl,hS,hl,by decide,by decide,hf1,hf6,λ A p H1 e1 pA kA=>?_⟩;have hS1:=e1.2 K a _ hS;clear hS e1;ac_rfl;rw [lK];refine⟨rfl,hS1,hl,by decide,by decide,hf1,hf6,λ B q H2 e2 pB kB=>?_⟩;have hS2:=e2.2 K a _ hS1;have pA2:=br pA e2;clear hS1 pA e2;ac_rfl;rw [qA];refine⟨A,B,pA2,pB,by have:=kA.g.len;omega,by have:=kB.g.len;omega,kA.g.one,kB.g.one,λ ks tp H3 e3 t3 ko=>?_⟩;have ht:=(kA.g.tms kB.g ko).1;have hS3:=e3.2 K a _ hS2;have pA3:=br pA2 e3;have pB3:=br pB e3;exists t3;exists ko;clear hS2 pA2 pB e3;ac_rfl;rw [aU];refine⟨hS3,hl,⟨by decide,by decide⟩,by decide,λ c c0 c1=>?_⟩;have hfp:0 < fa:=by omega
  have cm1:jw (c % 13 - 6) fa:=.inr ⟨by omega,by omega⟩;have cm1':zq (c % 13 - 6) fa:=⟨by omega,by omega⟩;ac_rfl;intro l4 H4 _ e4 h4;have hS4:=e4.2 K a _ hS3;have pA4:=br pA3 e4;have pB4:=br pB3 e4;have t4:=λ (_:Unit)=>bY (t3 ()) e4;clear hS3 pA3 pB3 t3 cm1 cm1' e4;ac_rfl;refine cj (λ v=>∃ g:Int,v=.int g/\-100000<=g/\g<=100000) %[0|8] (by show _ < (3:Int);omega) (λ v hv=>?_) λ v hv=>?_
  ·simp only [J2,JV,Li] at hv
   rcases hv with rfl|rfl|rfl
   ·exact⟨_,rfl,by omega,by omega⟩
   ·have h1:=Ms (show c % 13 - 6<=6 by omega) (show 0<=fa by omega);have h2:=Ms (show -6<=c % 13 - 6 by omega) (show 0<=fa by omega);have h3:=Kb (c / 13) (show fa ≠ 0 by omega);have h4:=Ko (c / 13) hfp;exact⟨_,rfl,by omega,by omega⟩
   ·exact⟨_,rfl,by omega,by omega⟩
  obtain⟨g,rfl,g0,g1⟩:=hv;clear h4 c0 c1;ac_rfl;rw [aU];refine⟨hS4,hl,⟨by decide,by decide⟩,by decide,λ d3 d30 d31=>?_⟩;ac_rfl;rw [aU];refine⟨hS4,hl,⟨by decide,by decide⟩,by decide,λ d4 d40 d41=>?_⟩;ac_rfl;rw [iC];refine⟨A,B,pA4,pB4,kA.g,kB.g,⟨d30,d31⟩,⟨d40,d41⟩,by omega,λ room f u v vw H5 e5 h5 v1 v2 _ _ vW=>?_⟩;have hS5:=e5.2 K a _ hS4;have t5:=λ (_:Unit)=>bY (t4 ()) e5;have hx:g=f+g - f:=by omega
  have axA:fE (A.map au):=fE.kept ⟨by have:=kA.len;omega,λ a ha=>by have:=(kA.sz a ha).1;omega⟩;have axB:fE (B.map au):=fE.kept ⟨by have:=kB.len;omega,λ a ha=>by have:=(kB.sz a ha).1;omega⟩;exists v1;exists v2;exists hx;exists ht;exists vW;clear hS4 pA4 pB4 t4 e5 d30 d31 d40 d41;ac_rfl;rw [u4];refine⟨rfl,hS5,hl,_,t5 (),ht (),λ pp ys H6 e6 h6 hyl pl=>?_⟩;have hS6:=e6.2 K a _ hS5;have h5_6:=e6.at h5;have hv5:=h5;have AS:∀ (H':Hp) (x:Addr) (ws:List V) (Q:VK),Ext H5 H'->H' x=some (.lst ws)->ws.length<=5000->ThL H' ws->(∀ H'',Ext H' H''->Q (.bl true) H'')->(∃ (u v:Addr) (room f1 f2:Int) (A B:List (Int × Int)) (ks:List Int) (ws:List V),H' vw=some (.tup [.ref u,.ref v])/\aB t.a_View H' u room f1 A/\aB t.a_View H' v room f2 B/\fE A/\fE B/\g=f2 - f1/\kO ks (aC A B)/\cG (aG ks (aC A B))/\gv H' tp (aG ks (aC A B))/\H' x=some (.lst ws)/\ws.length<=5000/\ThL H' ws/\∀ H'',Ext H' H''->Q (.bl true) H''):=λ H' x ws Q e hx' hl' ht' hk'=>⟨u,v,room,f,f+g,_,_,ks,ws,e.at h5,(v1 ()).ext e,(v2 ()).ext e,axA,axB,hx (),ko (),ht (),bY (t5 ()) e,hx',hl',ht',hk'⟩;exists AS;have pt:=λ (_:Unit)=>pl.thl;exists pl;have hyl5:ys.length<=5000:=by omega
  clear hS5 h5 pl;ac_rfl;rw [eK];refine AS () H6 pp ys _ e6 h6 hyl5 (pt ()) λ H7 e7=>?_;have e57:=e6.trans e7;have h7:=e7.at h6;have pt7:=λ (_:Unit)=>(pt ()).ext e7;have hS7:=e7.2 K a _ hS6;clear h6 pt hS6 e6 e7 h5_6;ac_rfl;intro l8 H8 _ e8 h8;have e58:=e57.trans e8;ac_rfl;rw [eK];refine AS () H8 l8 [] _ e58 h8 ⋯ ThL.nil λ H9 e9=>?_;have e79:=e8.trans e9;obtain⟨ts,hts,alt⟩:=t5 ()
  have htl:ts.length<=17:=by
   have h1:ts.length=_:=alt.1;have h2:=(ht ()).len;omega
  exists alt;clear h8 e58 e8 e9;ac_rfl;refine jH (λ i σ H'=>∃ v9:Option V,σ=[some (.ref a),some (.int fa),some (.ref p),some (.ref q),some (.ref tp),some (.int c),some (.int g),some (.ref vw),some (.ref pp),v9,none,none]/\Ext H7 H') ⟨none,rfl,e79⟩ ?_ ?_
  ·clear kk;rintro j _ H10 hj ⟨v9,rfl,e10⟩;have hj6:j < 6:=hj;have h10:=e10.at h7;have hS10:=e10.2 K a _ hS7;have hts10:=(e57.trans e10).at hts;clear hj;simp! only [↓aQ];rw [aU];refine⟨hS10,hl,⟨by omega,by omega⟩,by decide,λ d d0 d1=>?_⟩;ac_rfl;rw [nQ];refine⟨ys,ts,h10,hyl,(pt7 ()).ext e10,hts10,htl,λ r ws H11 e11 h11 hwl th11=>?_⟩;exists th11;clear h10 hS10 hts10 d0 d1;ac_rfl;rw [eK];refine AS () H11 r ws _ (e57.trans (e10.trans e11)) h11 %[0|8] (th11 ()) λ H12 e12=>?_;have e712:=e10.trans (e11.trans e12);clear h11 th11 e10 e11 e12;ac_rfl;exact⟨_,rfl,e712⟩
  ·rintro _ H10 ⟨v9,rfl,e10⟩;have h10:=e10.at h7;have hS10:=e10.2 K a _ hS7;clear e79 h7;ac_rfl;intro t11 H11 _ e11 h11;ac_rfl;intro d12 H12 _ e12 h12;ac_rfl;intro t13 H13 _ e13 h13;have n11:kS H13 (.ref t11):=.inr (.inr (.inr (.inr (.inl ⟨_,_,rfl,(e12.trans e13).at h11⟩))));have n12:kS H13 (.ref d12):=.inr (.inr (.inr (.inr (.inr ⟨_,rfl,e13.at h12⟩))));have n13:kS H13 (.ref t13):=.inr (.inr (.inr (.inr (.inl ⟨_,_,rfl,h13⟩))));exists n11;exists n12;exists n13;clear h11 h12 h13;ac_rfl;intro l14 H14 _ e14 h14;have e1014:=e11.trans (e12.trans (e13.trans e14));have e714:=e10.trans e1014;have hS14:=e1014.2 K a _ hS10;have h10_14:=e1014.at h10;have hv14:=(e57.trans e714).at hv5;clear hS10 h10 e1014 e11 e12 e13;ac_rfl;rw [aU];refine⟨hS14,hl,⟨by decide,by decide⟩,by decide,λ d d0 d1=>?_⟩;ac_rfl;refine cj (kS H14) d0 (by show d < (7:Int);exact d1) (λ v hv=>?_) λ x hx14=>?_
   ·simp only [J2,JV,Li] at hv
    rcases hv with rfl|rfl|rfl|rfl|rfl|rfl|rfl
    ·exact .inl rfl
    ·exact .inr (.inl ⟨_,rfl⟩)
    ·exact .inr (.inr (.inr (.inl ⟨_,rfl⟩)))
    ·exact(n11 ()).ext e14
    ·exact(n12 ()).ext e14
    ·exact .inr (.inr (.inl ⟨_,rfl⟩))
    ·exact(n13 ()).ext e14
   have e514:=e57.trans e714;exists hx14;clear n11 n12 n13 h14 d0 d1 hS14 e14;ac_rfl;rw [qF];refine⟨room,f,f+g,_,_,(v1 ()).ext e514,(v2 ()).ext e514,axA,axB,hx14 (),λ H15 e15=>?_⟩;have e515:=e514.trans e15;clear hx14;ac_rfl;rw [lJ];refine⟨u,v,room,f,f+g,_,_,e515.at hv5,(v1 ()).ext e515,(v2 ()).ext e515,vW (),λ H16 e16=>?_⟩;have e516:=e515.trans e16;ac_rfl;rw [lJ];refine⟨u,v,room,f,f+g,_,_,e516.at hv5,(v1 ()).ext e516,(v2 ()).ext e516,vW (),λ H17 e17=>?_⟩;have e1417:=e15.trans (e16.trans e17);have h17:=e1417.at h10_14;clear h10_14 hv14;ac_rfl;rw [eK];refine AS () H17 pp ys _ (e514.trans e1417) h17 hyl5 ((pt7 ()).ext (e714.trans e1417)) λ H18 e18=>?_;have k2:=kk () H18;clear kk AS;ac_rfl
end
theorem IA{l:W.OpenLaw}{w:World}{K:W.Frag}{h:Heap}{mg:Str->Option Value}{fa:Addr}(X:K.In h)(G:h.Ns mainGlobals mg)(hfa:mg "law"=some (.ref fa))
  {C0:Addr} (y0:W.nsIn K mainGlobals "PaceError"=some (some (.ref C0)))
  {C1:Addr} (y1:W.nsIn K mainGlobals "NoPlace"=some (some (.ref C1)))
  {C2:Addr} (y2:W.nsIn K mainGlobals "NoView"=some (some (.ref C2)))
  {C3:Addr} (y3:W.nsIn K mainGlobals "NoPair"=some (some (.ref C3)))
  {C4:Addr} (y4:W.nsIn K mainGlobals "View"=some (some (.ref C4)))
  (o_NoPair:W.excIn K C3 [.type "ValueError",.type "Exception",.type "BaseException",.type "object"] "ValueError.__new__"=true)
  (x_NoPair_PaceError:W.exmOne K (.ref C3) (.ref C0)=some true)
  (ocs:W.specialIn K (.builtin "object.__class__") "__get__"=some (some (.builtin "getset_descriptor.__get__")))
  (oct:W.takesIn K (.builtin "object.__class__")=some true)
  (ga_NoPair:W.findIn K (.ref C3) "__getattribute__"=some (some (.builtin "BaseException.__getattribute__")))
  (gn_NoPair:W.findIn K (.ref C3) "__getattr__"=some none)
  (mb_NoPair:W.mroIn K C3 (.type "BaseException")=some true)
  (mo_NoPair:W.mroIn K C3 (.type "object")=some true)
  (fc_NoPair:W.findIn K (.ref C3) "__class__"=some (some (.builtin "object.__class__")))
  (hd_NoPair:W.hasDictIn K C3=true)
  (kc_NoPair_NoPair:W.hasDictIn K C3=true)
  (kt_NoPair_NoPair:W.typeIn K (.ref C3)=some (.type "type"))
  (ks_NoPair_NoPair:W.subIn K (.ref C3) (.ref C3)=some true)
  (kc_NoPair_NoView:W.hasDictIn K C2=true)
  (kt_NoPair_NoView:W.typeIn K (.ref C2)=some (.type "type"))
  (ks_NoPair_NoView:W.subIn K (.ref C3) (.ref C2)=some false)
  (kn_NoPair_NoView:(C3 == C2)=false)
  (ks_NoPair_ValueError:W.subIn K (.ref C3) (.type "ValueError")=some true)
  {f0:Addr} {d0:FuncData} (a0:W.nsIn K mainGlobals "is_whole"=some (some (.ref f0))) (F0:Fun K "is_whole" "is_whole" fN f0 d0)
  {f1:Addr} {d1:FuncData} (a1:W.nsIn K mainGlobals "least_sum"=some (some (.ref f1))) (F1:Fun K "least_sum" "least_sum" dq f1 d1)
  {f2:Addr} {d2:FuncData} (a2:W.nsIn K mainGlobals "greatest_sum"=some (some (.ref f2))) (F2:Fun K "greatest_sum" "greatest_sum" cb f2 d2)
  {f3:Addr} {d3:FuncData} (a3:W.nsIn K mainGlobals "is_number_below"=some (some (.ref f3))) (F3:Fun K "is_number_below" "is_number_below" dj f3 d3)
  {f4:Addr} {d4:FuncData} (a4:W.nsIn K mainGlobals "is_place"=some (some (.ref f4))) (F4:Fun K "is_place" "is_place" jb f4 d4)
  {f5:Addr} {d5:FuncData} (a5:W.nsIn K mainGlobals "is_within"=some (some (.ref f5))) (F5:Fun K "is_within" "is_within" eV f5 d5)
  {f6:Addr} {d6:FuncData} (a6:W.nsIn K mainGlobals "is_size"=some (some (.ref f6))) (F6:Fun K "is_size" "is_size" gZ f6 d6)
  {f7:Addr} {d7:FuncData} (a7:W.nsIn K mainGlobals "is_axis"=some (some (.ref f7))) (F7:Fun K "is_axis" "is_axis" g7 f7 d7)
  {f8:Addr} {d8:FuncData} (a8:W.nsIn K mainGlobals "are_axes"=some (some (.ref f8))) (F8:Fun K "are_axes" "are_axes" eE f8 d8)
  {f9:Addr} {d9:FuncData} (a9:W.nsIn K mainGlobals "kept_axis"=some (some (.ref f9))) (F9:Fun K "kept_axis" "kept_axis" eU f9 d9)
  {f10:Addr} {d10:FuncData} (F10:Fun K "__init__" "View.__init__" bW f10 d10)
  {f11:Addr} {d11:FuncData} (F11:Fun K "sizes" "View.sizes" fY f11 d11)
  {f12:Addr} {d12:FuncData} (F12:Fun K "paces" "View.paces" fZ f12 d12)
  {f13:Addr} {d13:FuncData} (F13:Fun K "cell" "View.cell" iq f13 d13)
  {f14:Addr} {d14:FuncData} (F14:Fun K "least" "View.least" cO f14 d14)
  {f15:Addr} {d15:FuncData} (F15:Fun K "greatest" "View.greatest" bV f15 d15)
  {f16:Addr} {d16:FuncData} (a16:W.nsIn K mainGlobals "refuse_rooms"=some (some (.ref f16))) (F16:Fun K "refuse_rooms" "refuse_rooms" cU f16 d16)
  {f17:Addr} {d17:FuncData} (a17:W.nsIn K mainGlobals "pulls"=some (some (.ref f17))) (F17:Fun K "pulls" "pulls" gP f17 d17)
  {f18:Addr} {d18:FuncData} (a18:W.nsIn K mainGlobals "gathered"=some (some (.ref f18))) (F18:Fun K "gathered" "gathered" di f18 d18)
  {f19:Addr} {d19:FuncData} (a19:W.nsIn K mainGlobals "first_case"=some (some (.ref f19))) (F19:Fun K "first_case" "first_case" cK f19 d19)
  {f20:Addr} {d20:FuncData} (a20:W.nsIn K mainGlobals "parted"=some (some (.ref f20))) (F20:Fun K "parted" "parted" jV f20 d20)
  {f21:Addr} {d21:FuncData} (a21:W.nsIn K mainGlobals "is_step"=some (some (.ref f21))) (F21:Fun K "is_step" "is_step" ft f21 d21)
  {f22:Addr} {d22:FuncData} (a22:W.nsIn K mainGlobals "divides_all"=some (some (.ref f22))) (F22:Fun K "divides_all" "divides_all" cv f22 d22)
  {f23:Addr} {d23:FuncData} (a23:W.nsIn K mainGlobals "ends_by"=some (some (.ref f23))) (F23:Fun K "ends_by" "ends_by" g8 f23 d23)
  {f24:Addr} {d24:FuncData} (a24:W.nsIn K mainGlobals "parts_by"=some (some (.ref f24))) (F24:Fun K "parts_by" "parts_by" fM f24 d24)
  {f25:Addr} {d25:FuncData} (a25:W.nsIn K mainGlobals "is_apart"=some (some (.ref f25))) (F25:Fun K "is_apart" "is_apart" fO f25 d25)
  {f26:Addr} {d26:FuncData} (a26:W.nsIn K mainGlobals "_law_draw"=some (some (.ref f26))) (F26:Fun K "_law_draw" "_law_draw" eX f26 d26)
  {f27:Addr} {d27:FuncData} (a27:W.nsIn K mainGlobals "_law_whole"=some (some (.ref f27))) (F27:Fun K "_law_whole" "_law_whole" ei f27 d27)
  {f28:Addr} {d28:FuncData} (a28:W.nsIn K mainGlobals "_law_axes"=some (some (.ref f28))) (F28:Fun K "_law_axes" "_law_axes" eY f28 d28)
  {f29:Addr} {d29:FuncData} (a29:W.nsIn K mainGlobals "_law_placed"=some (some (.ref f29))) (F29:Fun K "_law_placed" "_law_placed" bT f29 d29)
  {f30:Addr} {d30:FuncData} (a30:W.nsIn K mainGlobals "_law_terms"=some (some (.ref f30))) (F30:Fun K "_law_terms" "_law_terms" cL f30 d30)
  {f31:Addr} {d31:FuncData} (a31:W.nsIn K mainGlobals "_law_sums"=some (some (.ref f31))) (F31:Fun K "_law_sums" "_law_sums" cE f31 d31)
  {f32:Addr} {d32:FuncData} (a32:W.nsIn K mainGlobals "_law_divisor"=some (some (.ref f32))) (F32:Fun K "_law_divisor" "_law_divisor" cW f32 d32)
  {f33:Addr} {d33:FuncData} (a33:W.nsIn K mainGlobals "_law_ended"=some (some (.ref f33))) (F33:Fun K "_law_ended" "_law_ended" cM f33 d33)
  {f34:Addr} {d34:FuncData} (a34:W.nsIn K mainGlobals "_law_rest"=some (some (.ref f34))) (F34:Fun K "_law_rest" "_law_rest" eW f34 d34)
  {f35:Addr} {d35:FuncData} (a35:W.nsIn K mainGlobals "_law_behind"=some (some (.ref f35))) (F35:Fun K "_law_behind" "_law_behind" dC f35 d35)
  {f36:Addr} {d36:FuncData} (a36:W.nsIn K mainGlobals "_law_left"=some (some (.ref f36))) (F36:Fun K "_law_left" "_law_left" dt f36 d36)
  {f37:Addr} {d37:FuncData} (a37:W.nsIn K mainGlobals "_law_ends"=some (some (.ref f37))) (F37:Fun K "_law_ends" "_law_ends" du f37 d37)
  {f38:Addr} {d38:FuncData} (a38:W.nsIn K mainGlobals "_law_made"=some (some (.ref f38))) (F38:Fun K "_law_made" "_law_made" cF f38 d38)
  {f39:Addr} {d39:FuncData} (a39:W.nsIn K mainGlobals "_law_thing"=some (some (.ref f39))) (F39:Fun K "_law_thing" "_law_thing" ej f39 d39)
  {f40:Addr} {d40:FuncData} (a40:W.nsIn K mainGlobals "_law_spoilt"=some (some (.ref f40))) (F40:Fun K "_law_spoilt" "_law_spoilt" dB f40 d40)
  {f41:Addr} {d41:FuncData} (a41:W.nsIn K mainGlobals "_law_asked"=some (some (.ref f41))) (F41:Fun K "_law_asked" "_law_asked" ek f41 d41)
  {f42:Addr} {d42:FuncData} (a42:W.nsIn K mainGlobals "_law_refused"=some (some (.ref f42))) (F42:Fun K "_law_refused" "_law_refused" cV f42 d42)
  {f43:Addr} {d43:FuncData} (a43:W.nsIn K mainGlobals "_law_long"=some (some (.ref f43))) (F43:Fun K "_law_long" "_law_long" dr f43 d43)
  {f44:Addr} {od44 an44:Option Addr} {sl44:Array (Option Value)} {oc44 kV44 dc44 pm44 cd44 ct44:Value}
  (a44:W.nsIn K mainGlobals "law"=some (some (.ref f44))) (l44:K.lookup f44=some ⟨oc44,od44,.func (W.fnOf "law" "law" (eT jy) (dn jy) (ae jy) .none kV44 dc44 pm44 an44 cd44 ct44),sl44⟩)
  (c44:W.codeIn K cd44 "law"=true) (k44:W.keepIn K (.ref f44)=true)
  (pg_View:W.plainGet K C4 Str.empty=true)
  (hd_View:W.hasDictIn K C4=true)
  (po_View:W.plainOver K C4=true)
  (sa_View:W.findIn K (.ref C4) "__setattr__"=some (some (.builtin "object.__setattr__")))
  (nf_View_axes:W.findIn K (.ref C4) "axes"=some none)
  (nf_View_first:W.findIn K (.ref C4) "first"=some none)
  (nf_View_room:W.findIn K (.ref C4) "room"=some none)
  (fi_View___init__:W.findIn K (.ref C4) "__init__"=some (some (.ref f10)))
  (fn_View___init__:W.isFn K (.ref f10)=true)
  (mm_View:W.makesIn K C4=true)
  (ck_View:W.keepIn K (.ref C4)=true)
  (fi_View_sizes:W.findIn K (.ref C4) "sizes"=some (some (.ref f11)))
  (fn_View_sizes:W.isFn K (.ref f11)=true)
  (fi_View_paces:W.findIn K (.ref C4) "paces"=some (some (.ref f12)))
  (fn_View_paces:W.isFn K (.ref f12)=true)
  (fi_View_cell:W.findIn K (.ref C4) "cell"=some (some (.ref f13)))
  (fn_View_cell:W.isFn K (.ref f13)=true)
  (fi_View_least:W.findIn K (.ref C4) "least"=some (some (.ref f14)))
  (fn_View_least:W.isFn K (.ref f14)=true)
  (fi_View_greatest:W.findIn K (.ref C4) "greatest"=some (some (.ref f15)))
  (fn_View_greatest:W.isFn K (.ref f15)=true)
  {tk0:Tok} (w0:W.nsIn K mainGlobals "MOST_ROOM"=some (some (.int 1000000000000000000 tk0)))
  {tk1:Tok} (w1:W.nsIn K mainGlobals "MOST_SIZE"=some (some (.int 1000000000 tk1)))
  {tk2:Tok} (w2:W.nsIn K mainGlobals "MOST_AXES"=some (some (.int 8 tk2)))
  (z0:W.nsIn K mainGlobals "ValueError"=some none)
  (z1:W.nsIn K mainGlobals "abs"=some none)
  (z2:W.nsIn K mainGlobals "all"=some none)
  (z3:W.nsIn K mainGlobals "bool"=some none)
  (z4:W.nsIn K mainGlobals "int"=some none)
  (z5:W.nsIn K mainGlobals "isinstance"=some none)
  (z6:W.nsIn K mainGlobals "len"=some none)
  (z7:W.nsIn K mainGlobals "list"=some none)
  (z8:W.nsIn K mainGlobals "max"=some none)
  (z9:W.nsIn K mainGlobals "min"=some none)
  (z10:W.nsIn K mainGlobals "range"=some none)
  (z11:W.nsIn K mainGlobals "sorted"=some none)
  (z12:W.nsIn K mainGlobals "str"=some none)
  (z13:W.nsIn K mainGlobals "sum"=some none)
  (z14:W.nsIn K mainGlobals "tuple"=some none)
  (z15:W.nsIn K mainGlobals "zip"=some none)
  : ∃ fd:FuncData,(∀ (s:Shared) (v:Value),BindsTo s fd ⟨[v],[]⟩ [("_law_script",v)])/\∀ base:Heap,K.In base->base.Ns mainGlobals mg->bP l.prog w K mg base CX0 10 fa fd ["_law_script"] (qU K):=by
 have e:=hfa.symm.trans (J5 X G a44);cases e;have F44:=EO (st:=jy) l44 c44 k44;have T:Tx K mg ⟨C0,C1,C2,C3,C4,f0,_,f1,_,f2,_,f3,_,f4,_,f5,_,f6,_,f7,_,f8,_,f9,_,f10,_,f11,_,f12,_,f13,_,f14,_,f15,_,f16,_,f17,_,f18,_,f19,_,f20,_,f21,_,f22,_,f23,_,f24,_,f25,_,f26,_,f27,_,f28,_,f29,_,f30,_,f31,_,f32,_,f33,_,f34,_,f35,_,f36,_,f37,_,f38,_,f39,_,f40,_,f41,_,f42,_,f43,_,fa,_⟩:=⟨J5 X G y0,J5 X G y1,J5 X G y2,J5 X G y3,J5 X G y4,o_NoPair,x_NoPair_PaceError,ocs,oct,ga_NoPair,gn_NoPair,mb_NoPair,mo_NoPair,fc_NoPair,hd_NoPair,kc_NoPair_NoPair,kt_NoPair_NoPair,ks_NoPair_NoPair,kc_NoPair_NoView,kt_NoPair_NoView,ks_NoPair_NoView,kn_NoPair_NoView,ks_NoPair_ValueError,⟨_,J5 X G w0⟩,⟨_,J5 X G w1⟩,⟨_,J5 X G w2⟩,⟨pg_View,hd_View,po_View,sa_View⟩,nf_View_axes,nf_View_first,nf_View_room,⟨mm_View,fi_View___init__,fn_View___init__,ck_View⟩,⟨fi_View_sizes,fn_View_sizes,F11.kp⟩,⟨fi_View_paces,fn_View_paces,F12.kp⟩,⟨fi_View_cell,fn_View_cell,F13.kp⟩,⟨fi_View_least,fn_View_least,F14.kp⟩,⟨fi_View_greatest,fn_View_greatest,F15.kp⟩,F0,J5 X G a0,F0.binds (ps:=["thing"]) (λ _ _ _ _ _ _=>mI (λ _=>rfl)),F1,J5 X G a1,F1.binds (ps:=["terms", "case"]) (λ _ _ _ _ _ _=>nW (λ _ _=>rfl)),F2,J5 X G a2,F2.binds (ps:=["terms", "case"]) (λ _ _ _ _ _ _=>nW (λ _ _=>rfl)),F3,J5 X G a3,F3.binds (ps:=["thing", "bound"]) (λ _ _ _ _ _ _=>nW (λ _ _=>rfl)),F4,J5 X G a4,F4.binds (ps:=["sizes", "thing"]) (λ _ _ _ _ _ _=>nW (λ _ _=>rfl)),F5,J5 X G a5,F5.binds (ps:=["thing", "low", "high"]) (λ _ _ _ _ _ _=>qP (λ _ _ _=>rfl)),F6,J5 X G a6,F6.binds (ps:=["thing"]) (λ _ _ _ _ _ _=>mI (λ _=>rfl)),F7,J5 X G a7,F7.binds (ps:=["thing"]) (λ _ _ _ _ _ _=>mI (λ _=>rfl)),F8,J5 X G a8,F8.binds (ps:=["thing"]) (λ _ _ _ _ _ _=>mI (λ _=>rfl)),F9,J5 X G a9,F9.binds (ps:=["axis"]) (λ _ _ _ _ _ _=>mI (λ _=>rfl)),F10,F10.binds (ps:=["self", "room", "first", "axes"]) (λ _ _ _ _ _ _=>yH (λ _ _ _ _=>rfl)),F11,F11.binds (ps:=["self"]) (λ _ _ _ _ _ _=>mI (λ _=>rfl)),F12,F12.binds (ps:=["self"]) (λ _ _ _ _ _ _=>mI (λ _=>rfl)),F13,F13.binds (ps:=["self", "place"]) (λ _ _ _ _ _ _=>nW (λ _ _=>rfl)),F14,F14.binds (ps:=["self"]) (λ _ _ _ _ _ _=>mI (λ _=>rfl)),F15,F15.binds (ps:=["self"]) (λ _ _ _ _ _ _=>mI (λ _=>rfl)),F16,J5 X G a16,F16.binds (ps:=["one", "other"]) (λ _ _ _ _ _ _=>nW (λ _ _=>rfl)),F17,J5 X G a17,F17.binds (ps:=["one", "other"]) (λ _ _ _ _ _ _=>nW (λ _ _=>rfl)),F18,J5 X G a18,F18.binds (ps:=["one", "other"]) (λ _ _ _ _ _ _=>nW (λ _ _=>rfl)),F19,J5 X G a19,F19.binds (ps:=["terms"]) (λ _ _ _ _ _ _=>mI (λ _=>rfl)),F20,J5 X G a20,F20.binds (ps:=["case", "k", "at"]) (λ _ _ _ _ _ _=>qP (λ _ _ _=>rfl)),F21,J5 X G a21,F21.binds (ps:=["thing", "word", "many"]) (λ _ _ _ _ _ _=>qP (λ _ _ _=>rfl)),F22,J5 X G a22,F22.binds (ps:=["terms", "case", "number"]) (λ _ _ _ _ _ _=>qP (λ _ _ _=>rfl)),F23,J5 X G a23,F23.binds (ps:=["terms", "goal", "case", "step"]) (λ _ _ _ _ _ _=>yH (λ _ _ _ _=>rfl)),F24,J5 X G a24,F24.binds (ps:=["case", "step"]) (λ _ _ _ _ _ _=>nW (λ _ _=>rfl)),F25,J5 X G a25,F25.binds (ps:=["one", "other", "paper"]) (λ _ _ _ _ _ _=>qP (λ _ _ _=>rfl)),F26,J5 X G a26,F26.binds (ps:=["_law_script", "_law_k", "_law_many"]) (λ _ _ _ _ _ _=>qP (λ _ _ _=>rfl)),F27,J5 X G a27,F27.binds (ps:=["_law_found"]) (λ _ _ _ _ _ _=>mI (λ _=>rfl)),F28,J5 X G a28,F28.binds (ps:=["_law_script", "_law_at", "_law_factor"]) (λ _ _ _ _ _ _=>qP (λ _ _ _=>rfl)),F29,J5 X G a29,F29.binds (ps:=["_law_one", "_law_other", "_law_goal", "_law_low", "_law_more"]) (λ _ _ _ _ _ _=>IW (λ _ _ _ _ _=>rfl)),F30,J5 X G a30,F30.binds (ps:=["_law_one", "_law_other"]) (λ _ _ _ _ _ _=>nW (λ _ _=>rfl)),F31,J5 X G a31,F31.binds (ps:=["_law_terms_here", "_law_case"]) (λ _ _ _ _ _ _=>nW (λ _ _=>rfl)),F32,J5 X G a32,F32.binds (ps:=["_law_numbers"]) (λ _ _ _ _ _ _=>mI (λ _=>rfl)),F33,J5 X G a33,F33.binds (ps:=["_law_terms_here", "_law_goal", "_law_case"]) (λ _ _ _ _ _ _=>qP (λ _ _ _=>rfl)),F34,J5 X G a34,F34.binds (ps:=["_law_terms_here", "_law_goal", "_law_case", "_law_by"]) (λ _ _ _ _ _ _=>yH (λ _ _ _ _=>rfl)),F35,J5 X G a35,F35.binds (ps:=["_law_terms_here", "_law_goal", "_law_case", "_law_step"]) (λ _ _ _ _ _ _=>yH (λ _ _ _ _=>rfl)),F36,J5 X G a36,F36.binds (ps:=["_law_terms_here", "_law_goal", "_law_paper", "_law_bare"]) (λ _ _ _ _ _ _=>yH (λ _ _ _ _=>rfl)),F37,J5 X G a37,F37.binds (ps:=["_law_terms_here", "_law_goal", "_law_case"]) (λ _ _ _ _ _ _=>qP (λ _ _ _=>rfl)),F38,J5 X G a38,F38.binds (ps:=["_law_script", "_law_terms_here", "_law_goal"]) (λ _ _ _ _ _ _=>qP (λ _ _ _=>rfl)),F39,J5 X G a39,F39.binds (ps:=["_law_terms_here", "_law_cell"]) (λ _ _ _ _ _ _=>nW (λ _ _=>rfl)),F40,J5 X G a40,F40.binds (ps:=["_law_paper", "_law_terms_here", "_law_cell"]) (λ _ _ _ _ _ _=>qP (λ _ _ _=>rfl)),F41,J5 X G a41,F41.binds (ps:=["_law_views", "_law_terms_here", "_law_goal", "_law_paper"]) (λ _ _ _ _ _ _=>yH (λ _ _ _ _=>rfl)),F42,J5 X G a42,F42.binds (ps:=["_law_views", "_law_paper"]) (λ _ _ _ _ _ _=>nW (λ _ _=>rfl)),F43,J5 X G a43,F43.binds (ps:=["_law_script"]) (λ _ _ _ _ _ _=>mI (λ _=>rfl)),F44,J5 X G a44,F44.binds (ps:=["_law_script"]) (λ _ _ _ _ _ _=>mI (λ _=>rfl)),Kf X G z0,Kf X G z1,Kf X G z2,Kf X G z3,Kf X G z4,Kf X G z5,Kf X G z6,Kf X G z7,Kf X G z8,Kf X G z9,Kf X G z10,Kf X G z11,Kf X G z12,Kf X G z13,Kf X G z14,Kf X G z15⟩;exact⟨W.fnOf "law" "law" (eT jy) (dn jy) (ae jy) .none kV44 dc44 pm44 an44 cd44 ct44,λ s v=>.of_eq rfl,λ base _ _=>Dk T⟩
theorem Js{l:W.OpenLaw}{q:Program}{loose:List Str}{XP:(Str->Option Value)->Heap->Prop}{YP:World->Heap->Prop}{d:DefRec}{K:Params->W.Frag}(hn:l.most=some 63)(hdf:d.params.defaults=[])
  (hY:∀ (w:World) (h:Heap),YP w h->(K w.params).In h)
  (F:∀ (w:World) (mg:Str->Option Value) (fa:Addr) (h:Heap),(K w.params).In h->h.Ns mainGlobals mg->mg d.name=some (.ref fa) →
   ∃ fd:FuncData,(∀ (s:Shared) (u:Value),BindsTo s fd ⟨[u],[]⟩ [("_law_script",u)])/\∀ base:Heap,(K w.params).In base->base.Ns mainGlobals mg->bP l.prog w (K w.params) mg base CX0 10 fa fd ["_law_script"] (qU (K w.params))) :
  W.WalkO q loose XP YP l.row.toRowW d [] (λ f vs=>PySem.call f vs):=
 L2.Hq (n:=63) (k:=10) (x := "_law_script") (CX:=λ _=>CX0) (sp:=λ w=>qU (K w.params)) hn ⋯ hdf ⟨rfl,by decide,by decide⟩ hY F (λ _ _ a ns hl _ hS=>⟨a,rfl,ns,hS,hl,λ _=>rfl⟩) λ _ _ _ _ _ z=>z
end PH
namespace PySem.W.Fast
def tw1747924197637863907:=0
def tw13278157136538600396:=0
def tw5751101472142735006:=0
def tw18194104044396738088:=0
def tw738758123018202848:=0
def tw4570362295200815775:=0
def tw7076774887713021041:=0
def tw8238145496603383656:=0
def tw16883157746509450179:=0
def tw13361943714965687033:=0
def tw2933673842784540853:=0
def tw4578086488636589974:=0
def tw17043526876911082007:=0
def tw1299616478794468737:=0
def tw347916040101122218:=0
def tw2377660071632589407:=0
def tw7843103113384365324:=0
def tw11943463318629877262:=0
def tw9728618684882335346:=0
def tw3951387357543383966:=0
def tw17233140884638507430:=0
def tw6916584997445277515:=0
def tw18052313529658793841:=0
def tw15661727674825266183:=0
def tw17262297762622250568:=0
def tw10440657412661495084:=0
def tw15949994309972556973:=0
def tw9571811365828078693:=0
def tw3870955112626133864:=0
def tw4192917849752823459:=0
def tw5540440157528923598:=0
def tw13443092748351807727:=0
def tw12938723689482842226:=0
def tw13723164196905985671:=0
def tw12969896826342498777:=0
def tw9838981697154640066:=0
def tw14950135502557207395:=0
def tw4329497303126204636:=0
def tw9581046531295521018:=0
def tw5355896109066330481:=0
def tw17838428207856802614:=0
def tw15370340608896451676:=0
def tw15225042010471623352:=0
def tw12537355637474852870:=0
def tw4795850272576401769:=0
def tw695778419955307195:=0
def tw8768001967939671205:=0
def tw14378248967259376698:=0
def tw7162982307748491886:=0
def tw10778976416677190859:=0
def tw3874479560276701734:=0
def tw13131382597295381565:=0
def tw5648771198965921950:=0
def tw11980307004192477742:=0
def tw10256736657870199886:=0
def tw1525935453260127240:=0
def tw7804494851103783057:=0
def tw16095697345879621585:=0
def tw11340555029424697256:=0
def tw5517734663308614074:=0
def tw17750036630208274796:=0
def tw14106123574057718655:=0
def tw1830825854504251881:=0
def tw8424506774934007325:=0
def tw12750221065144637020:=0
def tw6052166196052678482:=0
def tw3844602579795002783:=0
def tw17822083967491048119:=0
def tw8536919762887250048:=0
def tw14769374927247525771:=0
def tw4208143318484342502:=0
def tw976245332587531247:=0
def tw739545187939897682:=0
def tw3173734295550124282:=0
def tw3360441358784720936:=0
def tw9078934909000674317:=0
def tw13198402066781658536:=0
def tw8839988586692904590:=0
def tw17810419425471429472:=0
def tw11586311711665717294:=0
def tw16230918982541079021:=0
def tw16112201379576862385:=0
def tw17597593143634908863:=0
def tw15960823192657792646:=0
def tw2125748043705753597:=0
def tw15549117584825562887:=0
def tw14061290204901753514:=0
def tw4998487092670671781:=0
def tw1535754457579419839:=0
def tw12950862092704508910:=0
def tw2002476081547430188:=0
def tw6011070490184478074:=0
def tw6475289521890684852:=0
def tw10602685987708779503:=0
def tw11538520958603988558:=0
def tw9190937056620808632:=0
def tw6548453531820588887:=0
end PySem.W.Fast
open PySem PySem.W PyProof.Rows
theorem PySem.Challenge.cw_pacehall_k55_papers_read_holds : PySem.Challenge.rw_pacehall_k55_papers_read.Holds := by
 w_on;o_law;k_head;(case hw=>w_witness2)
 k_fill
 refine PH.Js (l:=PySem.Challenge.rw_pacehall_k55_papers_read) rfl rfl (λ w h Y=>PySem.W.kIn_of Y) ?F
 case F=>
  intro w mg fa h KX G hmg
  refine' PH.IA KX G hmg ?y0 ?y1 ?y2 ?y3 ?y4 ?o_NoPair ?x_NoPair_PaceError ?ocs ?oct ?ga_NoPair ?gn_NoPair ?mb_NoPair ?mo_NoPair ?fc_NoPair ?hd_NoPair ?kc_NoPair_NoPair ?kt_NoPair_NoPair ?ks_NoPair_NoPair ?kc_NoPair_NoView ?kt_NoPair_NoView ?ks_NoPair_NoView ?kn_NoPair_NoView ?ks_NoPair_ValueError ?a0 ?F0 ?a1 ?F1 ?a2 ?F2 ?a3 ?F3 ?a4 ?F4 ?a5 ?F5 ?a6 ?F6 ?a7 ?F7 ?a8 ?F8 ?a9 ?F9 ?F10 ?F11 ?F12 ?F13 ?F14 ?F15 ?a16 ?F16 ?a17 ?F17 ?a18 ?F18 ?a19 ?F19 ?a20 ?F20 ?a21 ?F21 ?a22 ?F22 ?a23 ?F23 ?a24 ?F24 ?a25 ?F25 ?a26 ?F26 ?a27 ?F27 ?a28 ?F28 ?a29 ?F29 ?a30 ?F30 ?a31 ?F31 ?a32 ?F32 ?a33 ?F33 ?a34 ?F34 ?a35 ?F35 ?a36 ?F36 ?a37 ?F37 ?a38 ?F38 ?a39 ?F39 ?a40 ?F40 ?a41 ?F41 ?a42 ?F42 ?a43 ?F43 ?a44 ?l44 ?c44 ?k44 ?pg_View ?hd_View ?po_View ?sa_View ?nf_View_axes ?nf_View_first ?nf_View_room ?fi_View___init__ ?fn_View___init__ ?mm_View ?ck_View ?fi_View_sizes ?fn_View_sizes ?fi_View_paces ?fn_View_paces ?fi_View_cell ?fn_View_cell ?fi_View_least ?fn_View_least ?fi_View_greatest ?fn_View_greatest ?w0 ?w1 ?w2 ?z0 ?z1 ?z2 ?z3 ?z4 ?z5 ?z6 ?z7 ?z8 ?z9 ?z10 ?z11 ?z12 ?z13 ?z14 ?z15
  (case y0|y1|y2|y3|y4|fi_View___init__|fi_View_sizes|fi_View_paces|fi_View_cell|fi_View_least|fi_View_greatest|a0=>first|k_is|k_exc|kts_exm|decide|rfl|decide +kernel|kernel_rfl)
  (case a1|a2|a3|a4|a5|a6|a7|a8|a9|a16|a17|a18=>first|k_is|k_exc|kts_exm|decide|rfl|decide +kernel|kernel_rfl)
  (case a19|a20|a21|a22|a23|a24|a25|a26|a27|a28|a29|a30=>first|k_is|k_exc|kts_exm|decide|rfl|decide +kernel|kernel_rfl)
  (case a31|a32|a33|a34|a35|a36|a37|a38|a39|a40|a41|a42=>first|k_is|k_exc|kts_exm|decide|rfl|decide +kernel|kernel_rfl)
  (case a43|a44=>first|k_is|k_exc|kts_exm|decide|rfl|decide +kernel|kernel_rfl)
  (case F0|F1|F2|F3|F4|F5|F6|F7|F8|F9|F10|F11=>(refine' L2.EO ?l ?c ?k;(case l|c|k=>first|k_is|k_exc|kts_exm|decide|rfl|decide +kernel|kernel_rfl)))
  (case F12|F13|F14|F15|F16|F17|F18|F19|F20|F21|F22|F23=>(refine' L2.EO ?l ?c ?k;(case l|c|k=>first|k_is|k_exc|kts_exm|decide|rfl|decide +kernel|kernel_rfl)))
  (case F24|F25|F26|F27|F28|F29|F30|F31|F32|F33|F34|F35=>(refine' L2.EO ?l ?c ?k;(case l|c|k=>first|k_is|k_exc|kts_exm|decide|rfl|decide +kernel|kernel_rfl)))
  (case F36|F37|F38|F39|F40|F41|F42|F43=>(refine' L2.EO ?l ?c ?k;(case l|c|k=>first|k_is|k_exc|kts_exm|decide|rfl|decide +kernel|kernel_rfl)))
  (case o_NoPair|x_NoPair_PaceError|ocs|oct|ga_NoPair|gn_NoPair|mb_NoPair|mo_NoPair|fc_NoPair|hd_NoPair|kc_NoPair_NoPair|kt_NoPair_NoPair=>first|k_is|k_exc|kts_exm|decide|rfl|decide +kernel|kernel_rfl)
  (case ks_NoPair_NoPair|kc_NoPair_NoView|kt_NoPair_NoView|ks_NoPair_NoView|kn_NoPair_NoView|ks_NoPair_ValueError|l44|c44|k44|pg_View|hd_View|po_View=>first|k_is|k_exc|kts_exm|decide|rfl|decide +kernel|kernel_rfl)
  (case sa_View|nf_View_axes|nf_View_first|nf_View_room|fn_View___init__|mm_View|ck_View|fn_View_sizes|fn_View_paces|fn_View_cell|fn_View_least|fn_View_greatest=>first|k_is|k_exc|kts_exm|decide|rfl|decide +kernel|kernel_rfl)
  (case w0|w1|w2|z0|z1|z2|z3|z4|z5|z6|z7|z8=>first|k_is|k_exc|kts_exm|decide|rfl|decide +kernel|kernel_rfl)
  (case z9|z10|z11|z12|z13|z14|z15=>first|k_is|k_exc|kts_exm|decide|rfl|decide +kernel|kernel_rfl)
#print axioms PySem.Challenge.cw_pacehall_k55_papers_read_holds