import PyProof.Rows.All
import Wide.All
import OpenK.AllK
import Wide.FinOn
import Lean
import PyProof.EqAt
import PyProof.EqKinds
import PyProof.TupleCall
import PySem.Challenge.RW_pacehall_k58_whole_nested_paces
set_option Elab.async false
set_option linter.all false
set_option maxRecDepth 100000
set_option maxHeartbeats 0
open List (mem_cons_self mem_cons_of_mem mem_append_left mem_append_right length_cons map_cons length_map append_nil of_mem_zip length_take getElem?_append_right getElem?_append_left getElem?_map length_append size_toArray length_drop length_set length_singleton length_reverse find?_cons length_nil getElem_mem getElem?_eq_getElem lookup_cons mem_cons not_mem_nil take_of_length_le take_length length_zip map_map zip_cons_cons sum_cons getD_eq_getElem?_getD map_congr_left map_append append_assoc)
namespace QL
def JJ:=@List.getElem?_eq_getElem
def JK:=@PySem.wpAny_bind
def JL:=@PySem.Heap.get?_push_of_some
def JM:=@List.getElem?_eq_some_iff
def JN:=@List.mem_cons_of_mem
def JO:=@Nat.le_refl
def JP:=@List.mem_cons_self
def JQ:=@if_neg
def JR:=@if_pos
def JS:=@PySem.Heap.lt_size
def JT:=@List.length_map
def JU:=@List.length_append
def JV:=@PySem.wpAny_pure
def JW:=@List.getD_eq_getElem?_getD
def JX:=@PySem.Heap.get?_push_size
def JY:=@Nat.lt_of_lt_of_le
def JZ:=@Bool.false_ne_true
def J0:=@List.size_toArray
def J1:=@decide_eq_false
def J2:=@Nat.ne_of_lt
def J3:=@decide_eq_true
def J4:=@Int.mul_le_mul_of_nonneg_left
def J5:=@List.getElem?_map
def J6:=@Option.map_eq_some_iff
def J7:=@PySem.W.mg_of
def J8:=@List.mem_map
def J9:=@List.mem_cons
def Ka:=@List.getElem?_append_right
def Kb:=@Int.le_refl
def Kc:=@PySem.F.plainAttrs_list
def Kd:=@List.mem_singleton
def Ke:=@List.mem_append
def Kf:=@List.mem_append_right
def Kg:=@List.length_singleton
def Kh:=@Ne.symm
def Ki:=@PySem.PassesOwn.never
def Kj:=@Option.some.inj
def Kk:=@List.length_cons
def Kl:=@PySem.W.mg_none_of
def Km:=@List.map_cons
def Kn:=@List.nodup_cons
def Ko:=@Int.emod_nonneg
def Kp:=@List.not_mem_nil
def Kq:=@Int.eq_ofNat_of_zero_le
def Kr:=@List.getElem?_append_left
def Ks:=@Int.toNat_natCast
def Kt:=@List.getElem?_zip_eq_some
def Ku:=@Nat.le_trans
def Kv:=@Int.zero_add
def Kw:=@PySem.wpAny_truthy_bool
def Kx:=@PySem.wpAny_field
def Ky:=@Int.emod_lt_of_pos
def Kz:=@Nat.zero_le
def KA:=@List.mem_append_left
def KC:=@congrArg
def KD:=@Int.add_zero
def KG:=@List.map_map
def KH:=@List.take_of_length_le
def KI:=@List.length_zip
def KJ:=@PySem.Heap.size_push
def KL:=@PySem.wpAny_newObj_type
def KN:=@List.length_take
def KO:=@Int.mul_zero
def KP:=@List.mem_filter
def KQ:=@List.getElem_mem
def KR:=@or_false
def KS:=@PySem.wpAny_callSpecial?_slot
def KU:=@PyProof.Rows.callWith_type1
def KW:=@List.getElem?_eq_none
def KY:=@PySem.wpAny_seqItems
def KZ:=@Nat.lt_irrefl
def K0:=@PySem.wpAny_setField_rec
def K1:=@List.mem_of_getElem?
def K2:=@List.lookup_cons
def K3:=@PySem.wpAny_passesOwn
def K4:=@List.mem_range
def K5:=@List.append_nil
def K6:=@Nat.lt_succ_self
def K7:=@beq_eq_false_iff_ne
def K8:=@PySem.mem_of_lookup
def K9:=@Int.mul_add
def La:=@Array.length_toList
def Lb:=@PySem.F.type_list_append
def Lc:=@PySem.F.slot_list_append
def Ld:=@PySem.F.slot_tuple_iterator_next
def Le:=@List.map_congr_left
def Lf:=@List.length_reverse
def Lg:=@Option.map_some
def Lh:=@Int.ediv_nonneg
def Li:=@Bool.eq_iff_iff
def Lj:=@PySem.wpAny_call_entry
def Lk:=@List.take_length
def Ll:=@List.drop_of_length_le
def Lm:=@PyProof.Rows.slot_tuple_getitem
def Ln:=@List.take_add_one
def Lo:=@List.zip_cons_cons
def Lp:=@PySem.wpAny_Call_Name_kw
def Lq:=@PySem.W.kia_one
def Lr:=@Nat.le_add_right
def Ls:=@List.all_eq_true
def Lu:=@List.map_append
def Lv:=@List.length_drop
def Lw:=@List.append_assoc
def Lx:=@Int.fdiv_eq_ediv_of_nonneg
def Ly:=@Nat.lt_trans
def Lz:=@Nat.le_of_lt
def LA:=@List.filter_append
def LB:=@PySem.wpAny_holding
def LC:=@List.of_mem_zip
def LD:=@List.length_nil
def LF:=@List.drop_eq_getElem_cons
def LG:=@PySem.F.args_tuple_add_2
def LH:=@List.length_range
def LI:=@PySem.F.entry_tuple_add
def LJ:=@List.length_eq_zero_iff
def LK:=@List.getElem?_replicate
def LL:=@Int.mul_sub
def LM:=@Int.emod_eq_zero_of_dvd
def LN:=@PySem.codeAny_mono
def LO:=@Nat.min_eq_right
def LP:=@PySem.F.slot_tuple_add
def LQ:=@List.find?_cons
def LR:=@PySem.wpAny_pyIter_list
def LS:=@PySem.wpAny_mono
def LU:=@PySem.F.type_list_pop
def LV:=@PySem.F.slot_list_pop
def LW:=@PySem.F.slot_dict_get
def LX:=@Nat.succ.inj
def LY:=@Nat.ne_of_gt
def LZ:=@Nat.min_eq_left
def L3:=@List.mem_iff_getElem?
def L4:=@Int.mul_comm
def L5:=@PySem.wpAny_standAt
def L6:=@PySem.Paired.length
def L7:=@List.dropLast_concat
def L8:=@List.nodup_nil
def L9:=@Int.mul_nonneg
def Ma:=@Bool.and_false
def Mb:=@List.filterMap_cons
def Mc:=@Int.mul_one
def Md:=@PySem.Calls.callWith_builtin
def Me:=@PySem.wpAny_execs_nil
def Mf:=@List.sum_cons
def Mg:=@List.length_set
def Mh:=@Nat.add_sub_cancel
def Mi:=@List.pairwise_cons
def Mj:=@PySem.F.slot_zip_next
def Ml:=@PySem.wpAny_updateSeq_pair
def Mm:=@if_true
def Mn:=@beq_iff_eq
def Mo:=@Nat.lt_succ_of_lt
def Mp:=@List.reverse_cons
def Mq:=@PySem.wpAny_comprehension_free
def Mr:=@Nat.le_total
def Ms:=@Int.mul_le_mul_of_nonneg_right
def Mt:=@beq_self_eq_true
def Mu:=@Nat.le_of_not_lt
def Mv:=@List.getElem_zip
def Mw:=@List.drop_length
def Mx:=@Bool.and_eq_true
def My:=@PySem.wpAny_onRaise
def Mz:=@PySem.tupleKind_room_in1
def MB:=@List.forIn_cons
def MD:=@List.cons.injEq
def MF:=@PySem.Calls.spliced_cons
end QL
open QL
namespace L2
open PySem PySem.Spec PyProof.Rows
abbrev Key:=Sum Int Str
def kZ:Key->Value->Bool
 | .inl k,v=>Value.isInt k v
 | .inr x,v=>Value.isStrOf x v
def Jy(w:World):Key->Int
 | .inl k=>hashInt k
 | .inr x=>hashStr w x
theorem aK:∀ {k:Key}{v:Value},kZ k v=true->(∃ i t,k=Sum.inl i/\v=Value.int i t)\/(∃ x t,k=Sum.inr x/\v=Value.str x t)
 | .inl i,v,h=>by
  obtain⟨t,e⟩:=Value.isInt_shape (k:=i) (v:=v) h;exact .inl ⟨i,t,rfl,e⟩
 | .inr x,v,h=>by
  obtain⟨t,e⟩:=Value.isStrOf_shape (x:=x) (v:=v) h;exact .inr ⟨x,t,rfl,e⟩
theorem vI(i:Int)(t:Tok):kZ (.inl i) (.int i t)=true:=by simp [kZ,Value.isInt]
theorem vH(x:Str)(t:Tok):kZ (.inr x) (.str x t)=true:=by simp [kZ,Value.isStrOf]
theorem Fz(a b:Int):decide ((Sum.inl a:Key)=Sum.inl b)=(a == b):=by
 by_cases e:a=b
 ·subst e;simp
 ·have h:¬ (Sum.inl a:Key)=Sum.inl b:=λ q=>e (Sum.inl.inj q);rw [J1 h];exact(K7.mpr e).symm
theorem Fw(a b:Str):decide ((Sum.inr a:Key)=Sum.inr b)=decide (a=b):=by
 by_cases e:a=b
 ·subst e;simp
 ·have h:¬ (Sum.inr a:Key)=Sum.inr b:=λ q=>e (Sum.inr.inj q);rw [J1 h,J1 e]
theorem Fy(a:Int)(b:Str):decide ((Sum.inl a:Key)=Sum.inr b)=false:=J1 (λ q=>nomatch q)
theorem Fx(a:Str)(b:Int):decide ((Sum.inr a:Key)=Sum.inl b)=false:=J1 (λ q=>nomatch q)
def bh(prog:Program)(w:World):PySem.KeyKind prog w Key where
 is:=kZ
 hash:=Jy w
 inj:=λ v a b ha hb=>by
  rcases aK ha with ⟨i,t,rfl,rfl⟩|⟨x,t,rfl,rfl⟩
  ·rcases aK hb with ⟨j,u,rfl,e⟩|⟨y,u,rfl,e⟩
   ·injection e with e1 _;rw [e1]
   ·exact nomatch e
  ·rcases aK hb with ⟨j,u,rfl,e⟩|⟨y,u,rfl,e⟩
   ·exact nomatch e
   ·injection e with e1 _;rw [e1]
 byValue:=λ k v h=>by
  rcases aK h with ⟨i,t,rfl,rfl⟩|⟨x,t,rfl,rfl⟩<;>rfl
 pyHash:=λ hv h=>by
  rcases aK hv with ⟨i,t,rfl,rfl⟩|⟨x,t,rfl,rfl⟩
  ·exact wpAny_pyHash_int h
  ·exact wpAny_pyHash_str h
 eqBool:=λ hu hv h=>by
  rcases aK hu with ⟨i,t,rfl,rfl⟩|⟨x,t,rfl,rfl⟩
  ·rcases aK hv with ⟨j,u,rfl,rfl⟩|⟨y,u,rfl,rfl⟩
   ·rw [Fz] at h;exact wpAny_eqBool_int h
   ·rw [Fy] at h;exact SeqAt.EqAt.int_str i t y u _ _ _ _ h
  ·rcases aK hv with ⟨j,u,rfl,rfl⟩|⟨y,u,rfl,rfl⟩
   ·rw [Fx] at h;exact SeqAt.EqAt.str_int x t j u _ _ _ _ h
   ·rw [Fw] at h;exact wpAny_eqBool_str h
 «strs»:=λ k x t v h=>by
  rcases aK h with ⟨i,u,rfl,e⟩|⟨y,u,rfl,e⟩
  ·exact nomatch e
  ·injection e with e1 _
   subst e1
   cases v<;>rfl
theorem nL(prog:Program)(w:World)(i:Int)(t:Tok):(bh prog w).is (.inl i) (.int i t)=true:=vI i t
theorem nK(prog:Program)(w:World)(x:Str)(t:Tok):(bh prog w).is (.inr x) (.str x t)=true:=vH x t
inductive V where
 | non|bl (b:Bool)|int (i:Int)|str (x:Str)|byt (b:Array UInt8)|flt (b:UInt64)|ref (a:Addr)|ty (n:String)
 deriving DecidableEq
def bq:V->Value->Prop
 | .non,u=>u=Value.none
 | .bl b,u=>u=Value.bool b
 | .int i,u=>∃ t,u=Value.int i t
 | .str x,u=>∃ t,u=Value.str x t
 | .byt b,u=>∃ t,u=Value.bytes b t
 | .flt b,u=>∃ t,u=Value.float b t
 | .ref a,u=>u=Value.ref a
 | .ty n,u=>u=Value.type n
abbrev aU:List V->List Value->Prop:=Paired bq
theorem aU.length{xs:List V}{us:List Value}(r:aU xs us):xs.length=us.length:=L6 r
theorem aU.get:∀ {xs:List V}{us:List Value}{i:Nat}{x:V},aU xs us->xs[i]? = some x->∃ u,us[i]? = some u/\bq x u
 | _,_,_,_,.nil,e=>by simp at e
 | _,_,0,_,.cons r _,e=>by simp at e;subst e;exact⟨_,rfl,r⟩
 | _,_,i+1,x,.cons _ t,e=>by
  obtain⟨u,h1,h2⟩:=aU.get (i:=i) (x:=x) t (by simpa using e);exact⟨u,by simpa using h1,h2⟩
theorem aU.set{x:V}{u:Value}(r:bq x u):∀ {xs:List V}{us:List Value}(i:Nat),aU xs us->aU (xs.set i x) (us.set i u)
 | _,_,_,.nil=>.nil
 | _,_,0,.cons _ t=>.cons r t
 | _,_,i+1,.cons q t=>.cons q (aU.set r i t)
theorem aU.append:∀ {xs ys:List V}{us ws:List Value},aU xs us->aU ys ws->aU (xs++ys) (us++ws)
 | _,_,_,_,.nil,s=>s
 | _,_,_,_,.cons r t,s=>.cons r (aU.append t s)
theorem aU.take:∀ {xs:List V}{us:List Value}(n:Nat),aU xs us->aU (xs.take n) (us.take n)
 | _,_,0,_=>.nil
 | _,_,_+1,.nil=>.nil
 | _,_,n+1,.cons r t=>.cons r (aU.take n t)
theorem aU.drop:∀ {xs:List V}{us:List Value}(n:Nat),aU xs us->aU (xs.drop n) (us.drop n)
 | _,_,0,r=>r
 | _,_,_+1,.nil=>.nil
 | _,_,n+1,.cons _ t=>aU.drop n t
def kU:Option V->Option Value->Prop
 | some v,some u=>bq v u
 | none,none=>True
 | _,_=>False
def KV{κ:Type}:List (κ × V)->List (κ × Value)->Prop:=Paired λ (p:κ × V) (q:κ × Value)=>p.1=q.1/\bq p.2 q.2
def kV:Key->V
 | .inl i=>.int i
 | .inr x=>.str x
inductive HO where
 | lst (xs:List V)
 | tup (xs:List V)
 | dK (kvs:List (Key × V))|dT (kvs:List (List Key × V))
 | set (S:Int->Bool) (n:Nat)
 | ins (C dx:Addr) (fs:List (Str × V))
 | own (x:Addr)
 | xd (fs:List (Str × V))
 | met (f x:Addr)
 | rng (lo hi:Int)
 | frz (o:Obj) (u:HO)
 | tbl (ps:Array Value)
 | ext (φ:Heap->Prop)
abbrev Hp:=Addr->Option HO
def upd(H:Hp)(a:Addr)(o:HO):Hp:=λ b=>if b=a then some o else H b
theorem ai{H:Hp}{a:Addr}{o:HO}:upd H a o a=some o:=by unfold upd;rw [if_pos rfl]
theorem ah{H:Hp}{a b:Addr}{o:HO}(h:b ≠ a):upd H a o b=H b:=by unfold upd;rw [if_neg h]
theorem Ap{H:Hp}{a:Addr}{o u:HO}:upd (upd H a o) a u=upd H a u:=by
 funext b;unfold upd;split<;>rfl
theorem Hd{H:Hp}{a b:Addr}{o u:HO}(h:H a=some o)(h':H b=some u)(d:o ≠ u):a ≠ b:=by
 intro e;subst e;rw [h] at h';exact d (Kj h')
theorem bI{H:Hp}{a b:Addr}{o:HO}(h:H a=some o)(h':H b=none):a ≠ b:=by
 intro e;subst e;rw [h] at h';cases h'
section
variable (P:Program)(w:World)
def bX(H:Hp)(h:Heap)(a:Addr):HO->Prop
 | .lst xs=>xs.length<=sizeLine/\∃ (its:List Value) (n:Nat),aU xs its/\h.get? a=some { cls:=.type "list",data:=.seq its.toArray n }
 | .tup xs=>xs.length<=sizeLine/\∃ its:List Value,aU xs its/\IsTup h a its.toArray
 | .dK kvs=>kvs.length<=sizeLine/\(a == sysModules)=false/\∃ vs,KV kvs vs/\h.DictOf (bh P w) a vs
 | .dT kvs=>kvs.length<=sizeLine/\(a == sysModules)=false/\∃ xs:List (List Key × Addr × Value),
   Paired (λ (p:List Key × V) (q:List Key × Addr × Value)=>p.1=q.1/\H q.2.1=some (.tup (p.1.map kV))/\bq p.2 q.2.2) kvs xs /\
   ∃ o es ep,h.get? a=some o/\o.ExactDict/\o.data=.dict es ep/\es.toList=xs.map (entryOfKey (tupleKind (bh P w)))/\(xs.map (·.1)).Nodup
 | .set S n=>h.SetOf (intKind P w) a S n
 | .ins C dx fs=>H dx=some (.own a)/\fs.length<=1000/\dx ≠ a/\h.get? a=some (W.instObj C dx) /\
   ∃ mA,h.Ns1 dx mA/\(∀ f,kU (fs.lookup f) (mA f))/\PySem.Within mA (fs.map (·.1))
 | .own _=>∃ o,h.get? a=some o
 | .xd fs=>∃ mA,h.Ns1 a mA/\∀ f,kU (fs.lookup f) (mA f)
 | .rng lo hi=>∃ t u v,h.get? a=some { cls:=.type "range",data:=.fields #[.int lo t,.int hi u,.int 1 v] }
 | .frz o u=>h.get? a=some o/\bX H h a u
 | .tbl ps=>h.get? a=some { cls:=.none,data:=.fields ps }
 | .met f x=>h.get? a=some (W.methodObj (.ref f) (.ref x))
 | .ext φ=>φ h/\(∃ o,h.get? a=some o)/\∀ h1 h2:Heap,φ h1->(∀ o,h1.get? a=some o->h2.get? a=some o)->φ h2
def HOk(H:Hp)(h:Heap):Prop:=∀ a o,H a=some o->bX P w H h a o
end
section
variable {P:Program}{w:World}{H H':Hp}{h h':Heap}{a:Addr}{o:HO}
theorem bX.lt(x:bX P w H h a o):a < h.objs.size:=by
 cases o with
 | lst xs=>obtain⟨_,_,_,_,e⟩:=x;exact JS e
 | tup xs=>obtain⟨_,_,_,p⟩:=x;exact p.lt
 | dK kvs=>obtain⟨_,_,_,_,o,_,_,e,_⟩:=x;exact JS e
 | dT kvs=>obtain⟨_,_,_,_,o,_,_,e,_⟩:=x;exact JS e
 | set S n=>obtain⟨o,_,_,_,e,_⟩:=x;exact JS e
 | ins C dx fs=>obtain⟨_,_,_,e,_⟩:=x;exact JS e
 | own y=>obtain⟨_,e⟩:=x;exact JS e
 | xd fs=>obtain⟨_,⟨_,_,_,e,_⟩,_⟩:=x;exact JS e
 | rng lo hi=>obtain⟨_,_,_,e⟩:=x;exact JS e
 | frz ob u=>obtain⟨e,_⟩:=x;exact JS e
 | tbl ps=>exact JS (show h.get? a=some _ from x)
 | met f y=>exact JS (show h.get? a=some _ from x)
 | ext φ=>obtain⟨_,⟨_,e⟩,_⟩:=x;exact JS e
theorem Paired.mapP{α β:Type}{F G:α->β->Prop}:∀ {l₁:List α}{l₂:List β},Paired F l₁ l₂->(∀ a b,F a b->G a b)->Paired G l₁ l₂
 | _,_,.nil,_=>.nil
 | _,_,.cons r t,f=>.cons (f _ _ r) (Paired.mapP t f)
theorem bX.stay(x:bX P w H h a o)(k:∀ b u,(b=a\/H b=some (.own a))->h.get? b=some u->h'.get? b=some u)
  (ho:∀ b,H b=some (.own a)->H' b=some (.own a)) (ht:∀ b xs,H b=some (.tup xs)->H' b=some (.tup xs)):bX P w H' h' a o:=by
 induction o with
 | lst xs=>obtain⟨z,its,n,r,e⟩:=x;exact⟨z,its,n,r,k _ _ (.inl rfl) e⟩
 | tup xs=>obtain⟨z,its,r,ob,e,c⟩:=x;exact⟨z,its,r,ob,k _ _ (.inl rfl) e,c⟩
 | dK kvs=>obtain⟨z,y,vs,r,ob,es,ep,e,c⟩:=x;exact⟨z,y,vs,r,ob,es,ep,k _ _ (.inl rfl) e,c⟩
 | dT kvs=>
  obtain⟨z,y,xs,r,ob,es,ep,e,c⟩:=x;exact⟨z,y,xs,Paired.mapP r λ p q z=>⟨z.1,ht _ _ z.2.1,z.2.2⟩,ob,es,ep,k _ _ (.inl rfl) e,c⟩
 | set S n=>obtain⟨ob,es,ep,t,e,c⟩:=x;exact⟨ob,es,ep,t,k _ _ (.inl rfl) e,c⟩
 | ins C dx fs=>
  obtain⟨d,z,ne,e,mA,⟨od,es,ep,e2,c⟩,r⟩:=x;exact⟨ho _ d,z,ne,k _ _ (.inl rfl) e,mA,⟨od,es,ep,k _ _ (.inr d) e2,c⟩,r⟩
 | own y=>obtain⟨ob,e⟩:=x;exact⟨ob,k _ _ (.inl rfl) e⟩
 | xd fs=>obtain⟨mA,⟨od,es,ep,e,c⟩,r⟩:=x;exact⟨mA,⟨od,es,ep,k _ _ (.inl rfl) e,c⟩,r⟩
 | rng lo hi=>obtain⟨t,u,v,e⟩:=x;exact⟨t,u,v,k _ _ (.inl rfl) e⟩
 | frz ob u ih=>obtain⟨e,q⟩:=x;exact⟨k _ _ (.inl rfl) e,ih q⟩
 | tbl ps=>
  have e:h.get? a=some { cls:=.none,data:=.fields ps }:=x
  show h'.get? a=some { cls:=.none,data:=.fields ps }
  exact k a _ (.inl rfl) e
 | met f y=>
  have e:h.get? a=some (W.methodObj (.ref f) (.ref y)):=x
  show h'.get? a=some (W.methodObj (.ref f) (.ref y))
  exact k a _ (.inl rfl) e
 | ext φ=>obtain⟨p,⟨o,e⟩,st⟩:=x;exact⟨st _ _ p λ o q=>k _ _ (.inl rfl) q,⟨o,k _ _ (.inl rfl) e⟩,st⟩
theorem HOk.lt(x:HOk P w H h)(e:H a=some o):a < h.objs.size:=(x a o e).lt
theorem HOk.fresh(x:HOk P w H h)(e:h.objs.size<=a):H a=none:=by
 cases q:H a with
 | none=>rfl
 | some u=>exact absurd (JY (x.lt q) e) (KZ _)
theorem HOk.kept(x:HOk P w H h)(k:∀ b u,h.get? b=some u->h'.get? b=some u):HOk P w H h':=λ a o e=>
 (x a o e).stay (λ b u _ q=>k b u q) (λ _ q=>q) λ _ _ q=>q
theorem HOk.laid(x:HOk P w H h)(k:∀ b u,h.get? b=some u->h'.get? b=some u)(hp:h.objs.size<=a)(new:bX P w (upd H a o) h' a o):HOk P w (upd H a o) h':=λ b u e=>by
 have hn:=x.fresh hp
 by_cases hb:b=a
 ·subst hb;rw [ai] at e;cases e;exact new
 ·rw [ah hb] at e;exact(x b u e).stay (λ c v _ q=>k c v q) (λ c q=>by rw [ah (bI q hn)];exact q) λ c xs q=>by rw [ah (bI q hn)];exact q
end
def Rd(H:Hp)(a:Addr)(u:HO):Prop:=H a=some u\/∃ o,H a=some (.frz o u)
theorem Rd.ok{P:Program}{w:World}{H:Hp}{h:Heap}{a:Addr}{u:HO}(r:Rd H a u)(x:HOk P w H h):bX P w H h a u:=by
 rcases r with r|⟨o,r⟩
 ·exact x a u r
 ·obtain⟨_,q⟩:=x a _ r;exact q
def Mut:Option HO->Prop
 | some (.lst _)=>True
 | some (.dK _)=>True
 | some (.dT _)=>True
 | some (.set _ _)=>True
 | some (.ins _ _ _)=>True
 | some (.ext _)=>True
 | _=>False
section
variable {P:Program}{w:World}{H:Hp}{h h':Heap}{x e:Addr}{o':HO}
theorem HOk.write(ok:HOk P w H h)(mu:Mut (H x))(he:e=x\/H e=some (.own x))(k:∀ b u,b ≠ e->h.get? b=some u->h'.get? b=some u)(heo:∃ u,h'.get? e=some u)
  (new:bX P w (upd H x o') h' x o'):HOk P w (upd H x o') h':=λ b u q=>by
 have nown:∀ c y,H c=some (.own y)->c ≠ x:=λ c y r z=>by subst z;rw [r] at mu;exact mu
 have ntup:∀ c xs,H c=some (.tup xs)->c ≠ x:=λ c xs r z=>by subst z;rw [r] at mu;exact mu
 by_cases hb:b=x
 ·subst hb;rw [ai] at q;cases q;exact new
 ·rw [ah hb] at q
  by_cases hbe:b=e
  ·have q':H b=some (.own x):=by
    rcases he with z|z
    ·exact absurd (hbe.trans z) hb
    ·rw [hbe];exact z
   rw [q] at q';cases q';obtain⟨v,hv⟩:=heo;exact⟨v,by rw [hbe];exact hv⟩
  ·refine(ok b u q).stay (λ c v hc r=>k c v ?_ r) (λ c r=>by rw [ah (nown c b r)];exact r) λ c xs r=>by rw [ah (ntup c xs r)];exact r
   rcases hc with rfl|hc
   ·exact hbe
   ·rintro rfl
    rcases he with z|z
    ·exact nown c b hc z
    ·rw [hc] at z;cases z;exact hb rfl
end
structure Un(fs ex:List Addr)(H H':Hp)(h h':Heap):Prop where
 keep:∀ b o,h.get? b=some o->H b=none->b ∉ fs->b ∉ ex->h'.get? b=some o
 slot:∀ b o,h.get? b=some o->H b=none->b∈fs->b ∉ ex->∃ sl,h'.get? b=some { o with slots:=sl }
 free:∀ b o,h.get? b=some o->H b=none->b ∉ ex->H' b=none
 there:∀ b o,h.get? b=some o->b ∉ ex->∃ o',h'.get? b=some o'
 tups:∀ b xs,H b=some (.tup xs)->H' b=some (.tup xs)
 frzs:∀ b o u,H b=some (.frz o u)->H' b=some (.frz o u)
 tbls:∀ b ps,H b=some (.tbl ps)->∃ more,H' b=some (.tbl (ps++more))
section
variable {fs fs' ex ex':List Addr}{H H1 H2:Hp}{h h1 h2 h':Heap}{a x e:Addr}{o:HO}
theorem Un.any(u:Un fs ex H H1 h h1){b:Addr}{ob:Obj}(q:h.get? b=some ob)(n:H b=none)(hx:b ∉ ex):∃ sl,h1.get? b=some { ob with slots:=sl }:=by
 by_cases hb:b∈fs
 ·exact u.slot b ob q n hb hx
 ·exact⟨ob.slots,u.keep b ob q n hb hx⟩
theorem Un.trans(a:Un fs ex H H1 h h1)(b:Un fs ex H1 H2 h1 h2):Un fs ex H H2 h h2 where
 keep:=λ c ob q n hc hx=>b.keep c ob (a.keep c ob q n hc hx) (a.free c ob q n hx) hc hx
 slot:=λ c ob q n hc hx=>by
  obtain⟨sl,e1⟩:=a.slot c ob q n hc hx;obtain⟨sl',e2⟩:=b.slot c _ e1 (a.free c ob q n hx) hc hx;exact⟨sl',e2⟩
 free:=λ c ob q n hx=>by
  obtain⟨o',e1⟩:=a.there c ob q hx;exact b.free c o' e1 (a.free c ob q n hx) hx
 there:=λ c ob q hx=>by
  obtain⟨o',e1⟩:=a.there c ob q hx;exact b.there c o' e1 hx
 tups:=λ c xs q=>b.tups c xs (a.tups c xs q)
 frzs:=λ c ob xs q=>b.frzs c ob xs (a.frzs c ob xs q)
 tbls:=λ c ps q=>by
  obtain⟨m1,e1⟩:=a.tbls c ps q;obtain⟨m2,e2⟩:=b.tbls c _ e1;exact⟨m1++m2,by rw [e2,Array.append_assoc]⟩
theorem Un.kept(k:∀ b u,h.get? b=some u->h'.get? b=some u):Un fs ex H H h h':=
 ⟨λ b ob q _ _ _=>k b ob q,λ b ob q _ _ _=>⟨ob.slots,k b ob q⟩,λ _ _ _ n _=>n,λ b ob q _=>⟨ob,k b ob q⟩,λ _ _ q=>q,λ _ _ _ q=>q,λ _ ps q=>⟨#[],by rw [q];simp⟩⟩
theorem Un.refl:Un fs ex H H h h:=Un.kept λ _ _ q=>q
theorem Un.laid(k:∀ b u,h.get? b=some u->h'.get? b=some u)(hp:h.objs.size<=a)(hn:H a=none):Un fs ex H (upd H a o) h h' where
 keep:=λ b u q _ _ _=>k b u q
 slot:=λ b u q _ _ _=>⟨u.slots,k b u q⟩
 free:=λ b u q n _=>by rw [ah (J2 (JY (JS q) hp))];exact n
 there:=λ b u q _=>⟨u,k b u q⟩
 tups:=λ b xs q=>by rw [ah (bI q hn)];exact q
 frzs:=λ b u xs q=>by rw [ah (bI q hn)];exact q
 tbls:=λ b ps q=>⟨#[],by rw [ah (bI q hn),q];simp⟩
theorem Un.write(mu:Mut (H x))(he:e=x\/H e=some (.own x))(k:∀ b u,b ≠ e->h.get? b=some u->h'.get? b=some u)(heo:∃ u,h'.get? e=some u):Un fs ex H (upd H x o) h h':=by
 have hx:∀ b,H b=none->b ≠ x:=λ b n z=>by subst z;rw [n] at mu;exact mu
 have hb:∀ b,H b=none->b ≠ e:=λ b n z=>by
  subst z
  rcases he with r|r
  ·exact hx b n r
  ·rw [n] at r;cases r
 have hm:∀ b u,H b=some u->¬ Mut (some u)->b ≠ x:=λ b u q nm z=>by subst z;rw [q] at mu;exact nm mu
 refine⟨λ b u q n _ _=>k b u (hb b n) q,λ b u q n _ _=>⟨u.slots,k b u (hb b n) q⟩,λ b u q n _=>by rw [ah (hx b n)];exact n,λ b u q _=>?_,
  λ b xs q=>by rw [ah (hm b _ q λ z=>z)];exact q,λ b u xs q=>by rw [ah (hm b _ q λ z=>z)];exact q,λ b ps q=>⟨#[],by rw [ah (hm b _ q λ z=>z),q];simp⟩⟩
 by_cases hbe:b=e
 ·subst hbe;exact heo
 ·exact⟨u,k b u hbe q⟩
end
def trk(h:Heap)(H:Hp):List Addr:=(List.range h.objs.size).filter λ a=>(H a).isSome
def wz(h:Heap)(H:Hp):Heap:=W.hideAll h (trk h H)
theorem vL(h:Heap)(H:Hp):(wz h H).objs.size=h.objs.size:=W.hideAll_size _ _
theorem yi{h:Heap}{H:Hp}{b:Addr}{o:Obj}(e:h.get? b=some o)(n:H b=none):(wz h H).get? b=some o:=
 W.hideAll_get _ e λ hm=>by
  have q:(H b).isSome=true:=(KP.mp hm).2;rw [n] at q;simp at q
theorem A4{h:Heap}{H:Hp}{b:Addr}{o:Obj}(e:(wz h H).get? b=some o):h.get? b=some o/\H b=none:=by
 have e':h.get? b=some o:=W.of_hideAll (trk h H) e;refine⟨e',?_⟩
 cases q:H b with
 | none=>rfl
 | some x=>
  have hm:b∈trk h H:=KP.mpr ⟨K4.mpr (JS e'),by simp [q]⟩;have z:(wz h H).get? b=none:=W.hideAll_none (trk h H) hm;rw [z] at e;cases e
def Ct(g h:Heap)(L:Addr):List (Addr × Obj):=(List.range h.objs.size).filterMap λ a=>if a=L\/(g.get? a).isSome=true then none else (h.get? a).map λ o=>(a,o)
def rest(g h:Heap)(L d:Addr):List (Addr × Obj):=(Ct g h L).filter λ p=>decide (p.1 ≠ d)
structure Mod(K:W.Frag)(mg:Str->Option Value)(base:Heap):Prop where
 kin:K.In base
 glob:base.Ns mainGlobals mg
 blt:∃ mb,base.Ns builtinsNs mb/\∀ x:Str,x ≠ "__name__" → mb x=bootBuiltins x
 nolimit:base.NoLimit
structure Cx where
 prog:Program
 w:World
 K:W.Frag
 mg:Str->Option Value
 base:Heap
 A:Around
 N:List Str
 s₀:Shared
 H₀:Hp
 env:Env
 outer:List Env
 stack:List Env
 ex:List Addr
 fn:Str->Bool
 calm:Bool
 pn:List (Addr × Obj)
 xe:Value->Shared->Prop
def frs(l:List Env):List Addr:=l.filterMap (·.frame)
abbrev Cx.fs(X:Cx):List Addr:=frs X.outer
def Vis(sc:Scope)(x:Str):Prop:=sc.names.lookup x=some .local\/sc.names.lookup x=some .cell\/sc.names.lookup x=some .free
def Loc(sc:Scope)(x:Str):Prop:=sc.names.lookup x=some .local\/sc.names.lookup x=some .cell
def JE(env:Env)(h:Heap)(m:Str->Option Value)(x:Str)(u:Value):Prop:=
 (env.kindOf x=some .local/\m x=some u)\/((env.kindOf x=some .cell\/env.kindOf x=some .free)/\∃ c,env.cells.lookup x=some c/\h.IsCell c (some u))
structure Cx.Ok(X:Cx):Prop where
 mod:Mod X.K X.mg X.base
 kind:X.env.scope.kind=.function
 glob:X.env.globals=mainGlobals
 blt:X.env.builtins=builtinsNs
 above:X.s₀.heap.objs.size<=X.env.locals
 inj:∀ x y c,X.env.cells.lookup x=some c->X.env.cells.lookup y=some c->x=y
 has:∀ x,(X.env.kindOf x=some .cell\/X.env.kindOf x=some .free)->∃ c,X.env.cells.lookup x=some c
 cab:∀ x c,X.fn x=true->X.env.cells.lookup x=some c->X.s₀.heap.objs.size<=c
 hd:X.calm=true->X.A.handled=none
 frames:X.A.frames=some X.stack
 stk:X.stack=X.outer\/(X.stack=X.env::X.outer/\X.env.frame=some X.env.locals)
 exf:∀ b∈X.ex,b ≠ X.env.locals/\∀ x c,X.env.cells.lookup x=some c->c ≠ b
 bs:∀ b o,X.base.get? b=some o->X.s₀.heap.get? b=some o/\X.H₀ b=none
 bsz:X.base.objs.size<=X.s₀.heap.objs.size
 noex:∀ b o,X.base.get? b=some o->b ∉ X.ex
 exfs:∀ b∈X.ex,b ∉ X.fs
 funs:X.s₀.heap.FunFrames X.base X.outer
 frf:∀ b∈X.fs,X.H₀ b=none
structure Inv(X:Cx)(pins:List (Addr × Obj))(σ:List (Option V))(H:Hp)(s:Shared):Prop where
 ok:X.Ok
 os:s.os=X.s₀.os
 bare:AllBare s.gens
 base:Un X.fs X.ex X.H₀ H X.s₀.heap s.heap
 loc:∃ m,s.heap.Ns X.env.locals m/\∀ (i:Nat) (x:Str) (v:V),X.N[i]? = some x->σ[i]? = some (some v)->Vis X.env.scope x->∃ u,bq v u/\JE X.env s.heap m x u
 cell:∀ x c,X.env.cells.lookup x=some c->∃ v,s.heap.IsCell c v
 free:H X.env.locals=none
 freeC:∀ x c,X.env.cells.lookup x=some c->H c=none
 pin:∀ p∈X.pn++pins,s.heap.get? p.1=some p.2/\H p.1=none/\p.1 ≠ X.env.locals/\p.1 ∉ X.fs/\∀ v,p.2.data ≠ .cell v
 hok:HOk X.prog X.w H s.heap
 len:σ.length=X.N.length
section
variable {X:Cx}{pins:List (Addr × Obj)}{σ:List (Option V)}{H H':Hp}{s:Shared}{h':Heap}
theorem Cx.Ok.nofr(ok:X.Ok){b:Addr}{o:Obj}(e:X.base.get? b=some o):b ∉ X.fs:=λ hb=>by
 have:=(ok.funs.mem hb).1;rw [e] at this;cases this
theorem Inv.bs(I:Inv X pins σ H s):∀ b o,X.base.get? b=some o->s.heap.get? b=some o/\H b=none:=λ b o e=>
 ⟨I.base.keep b o (I.ok.bs b o e).1 (I.ok.bs b o e).2 (I.ok.nofr e) (I.ok.noex b o e),I.base.free b o (I.ok.bs b o e).1 (I.ok.bs b o e).2 (I.ok.noex b o e)⟩
theorem Inv.bk(I:Inv X pins σ H s):∀ b o,X.base.get? b=some o->s.heap.get? b=some o:=λ b o e=>(I.bs b o e).1
theorem Inv.mod(I:Inv X pins σ H s):Mod X.K X.mg X.base:=I.ok.mod
theorem Inv.kIn(I:Inv X pins σ H s):X.K.In s.heap:=I.ok.mod.kin.keeps I.bk
theorem Inv.lt(I:Inv X pins σ H s):X.env.locals < s.heap.objs.size:=let ⟨_,hn,_⟩:=I.loc;hn.lt
theorem Inv.sz(I:Inv X pins σ H s):X.s₀.heap.objs.size<=s.heap.objs.size:=Ku I.ok.above (Lz I.lt)
theorem Inv.nofs(I:Inv X pins σ H s){a:Addr}(h:s.heap.objs.size<=a):a ∉ X.fs:=λ hb=>by
 obtain⟨_,o,ho,_⟩:=I.ok.funs.mem hb;exact absurd (JY (JS ho) (Ku I.sz h)) (KZ _)
theorem Inv.cne(I:Inv X pins σ H s):∀ x c,X.env.cells.lookup x=some c->c ≠ X.env.locals:=λ x c e z=>by
 obtain⟨v,o,ho,hd⟩:=I.cell x c e;obtain⟨m,⟨o',es,ep,ho',hd',_⟩,_⟩:=I.loc;rw [z,ho'] at ho;cases ho;rw [hd'] at hd;cases hd
theorem Inv.funs(I:Inv X pins σ H s):s.heap.FunFrames X.base X.outer:=by
 have all:∀ (l:List Env),(∀ b∈frs l,b∈X.fs)->X.s₀.heap.FunFrames X.base l->s.heap.FunFrames X.base l:=by
  intro l
  induction l with
  | nil=>intro _ _;trivial
  | cons env r ih=>
   intro hs hl;obtain⟨hk,⟨L,o,hf,hn,ho,hd⟩,hr⟩:=hl;have hL:L∈X.fs:=hs L (by unfold frs;rw [List.filterMap_cons,hf];exact mem_cons_self);obtain⟨sl,e⟩:=I.base.slot L o ho (I.ok.frf L hL) hL λ z=>I.ok.exfs L z hL;exact⟨hk,⟨L,_,hf,hn,e,hd⟩,ih (λ b hb=>hs b (by unfold frs;rw [List.filterMap_cons,hf];exact mem_cons_of_mem _ hb)) hr⟩
 exact all X.outer (λ _ hb=>hb) I.ok.funs
theorem Inv.stack(I:Inv X pins σ H s):s.heap.FunFrames X.base X.stack:=by
 rcases I.ok.stk with e|⟨e,hf⟩
 ·rw [e];exact I.funs
 ·rw [e];obtain⟨m,hn,_⟩:=I.loc;refine .cons (by rw [I.ok.kind];decide) hf hn ?_ I.funs;exact Heap.get?_none_of_le (Ku I.ok.bsz I.ok.above)
theorem Inv.stkSub(I:Inv X pins σ H s):∀ b∈frs X.stack,b∈X.env.locals::X.fs:=λ b hb=>by
 rcases I.ok.stk with e|⟨e,hf⟩
 ·rw [e] at hb;exact JN _ hb
 ·rw [e] at hb;unfold frs at hb;rw [List.filterMap_cons,hf] at hb;exact hb
theorem Inv.stkFree(I:Inv X pins σ H s):∀ b∈frs X.stack,H b=none:=λ b hb=>by
 rcases J9.mp (I.stkSub b hb) with e|hb
 ·rw [e];exact I.free
 ·obtain⟨_,o,ho,_⟩:=I.ok.funs.mem hb;exact I.base.free b o ho (I.ok.frf b hb) λ z=>I.ok.exfs b z hb
theorem Inv.step{g':Array GenState}{t':Nat}{d':Drawn}{ch:List Addr}(I:Inv X pins σ H s)
  (hch:∀ b∈ch,(b∈X.ex\/X.s₀.heap.objs.size<=b)/\b ≠ X.env.locals/\(∀ x c,X.env.cells.lookup x=some c->c ≠ b)/\∀ p∈X.pn++pins,p.1 ≠ b)
  (keep:∀ b o,b ≠ X.env.locals->b ∉ X.fs->b ∉ ch->s.heap.get? b=some o->H b=none->h'.get? b=some o)
  (slot:∀ b o,b ≠ X.env.locals->b∈X.fs->b ∉ ch->s.heap.get? b=some o->H b=none->∃ sl,h'.get? b=some { o with slots:=sl }) (free:∀ b o,b ∉ ch->s.heap.get? b=some o->H b=none->H' b=none)
  (there:∀ b o,b ∉ ch->s.heap.get? b=some o->∃ o',h'.get? b=some o')
  (tups:∀ b xs,H b=some (.tup xs)->H' b=some (.tup xs)) (frzs:∀ b o u,H b=some (.frz o u)->H' b=some (.frz o u)) (tbls:∀ b ps,H b=some (.tbl ps)->∃ more,H' b=some (.tbl (ps++more)))
  (ns:∀ m,s.heap.Ns X.env.locals m->h'.Ns X.env.locals m) (hok:HOk X.prog X.w H' h') (hg:AllBare g') :
  Inv X pins σ H' { s with heap:=h',gens:=g',drawn:=d',toks:=t' }:=by
 have neL:∀ b o,X.s₀.heap.get? b=some o->b ≠ X.env.locals:=λ b o e=>J2 (JY (JS e) I.ok.above)
 have neC:∀ b o,X.s₀.heap.get? b=some o->b ∉ X.ex->b ∉ ch:=λ b o e hx hb=>by
  rcases (hch b hb).1 with z|z
  ·exact hx z
  ·exact absurd (JY (JS e) z) (KZ _)
 have cellK:∀ x c,X.env.cells.lookup x=some c->∀ v,s.heap.IsCell c v->h'.IsCell c v:=λ x c e v ⟨o,ho,hd⟩=>by
  have nch:c ∉ ch:=λ z=>(hch c z).2.2.1 x c e rfl
  by_cases hc:c∈X.fs
  ·obtain⟨sl,q⟩:=slot c o (I.cne x c e) hc nch ho (I.freeC x c e);exact⟨_,q,hd⟩
  ·exact⟨o,keep c o (I.cne x c e) hc nch ho (I.freeC x c e),hd⟩
 refine⟨I.ok,I.os,hg,⟨λ b o e n hb hx=>?_,λ b o e n hb hx=>?_,λ b o e n hx=>?_,λ b o e hx=>?_,λ b xs e=>tups b xs (I.base.tups b xs e),λ b o xs e=>frzs b o xs (I.base.frzs b o xs e),λ b ps e=>?_⟩,?_,λ x c e=>?_,?_,λ x c e=>?_,λ p hp=>?_,hok,I.len⟩
 ·exact keep b o (neL b o e) hb (neC b o e hx) (I.base.keep b o e n hb hx) (I.base.free b o e n hx)
 ·obtain⟨sl,e1⟩:=I.base.slot b o e n hb hx;obtain⟨sl',e2⟩:=slot b _ (neL b o e) hb (neC b o e hx) e1 (I.base.free b o e n hx);exact⟨sl',e2⟩
 ·obtain⟨o',e1⟩:=I.base.there b o e hx;exact free b o' (neC b o e hx) e1 (I.base.free b o e n hx)
 ·obtain⟨o',e1⟩:=I.base.there b o e hx;exact there b o' (neC b o e hx) e1
 ·obtain⟨m1,e1⟩:=I.base.tbls b ps e;obtain⟨m2,e2⟩:=tbls b _ e1;exact⟨m1++m2,by rw [e2,Array.append_assoc]⟩
 ·obtain⟨m,hn,hl⟩:=I.loc;refine⟨m,ns m hn,λ i x v e1 e2 e3=>?_⟩;obtain⟨u,r,l⟩:=hl i x v e1 e2 e3;refine⟨u,r,?_⟩
  rcases l with l|⟨k,c,e,z⟩
  ·exact .inl l
  ·exact .inr ⟨k,c,e,cellK x c e _ z⟩
 ·obtain⟨v,z⟩:=I.cell x c e;exact⟨v,cellK x c e v z⟩
 ·obtain⟨m,⟨o,_,_,ho,_⟩,_⟩:=I.loc;exact free _ o (λ z=>(hch _ z).2.1 rfl) ho I.free
 ·obtain⟨v,o,ho,hd⟩:=I.cell x c e;exact free c o (λ z=>(hch c z).2.2.1 x c e rfl) ho (I.freeC x c e)
 ·obtain⟨e,n,ne,nf,d⟩:=I.pin p hp;have nch:p.1 ∉ ch:=λ z=>(hch p.1 z).2.2.2 p hp rfl;exact⟨keep p.1 p.2 ne nf nch e n,free p.1 p.2 nch e n,ne,nf,d⟩
theorem Inv.un{t':Nat}(I:Inv X pins σ H s)(u:Un X.fs [] H H' s.heap h')(hok:HOk X.prog X.w H' h'):Inv X pins σ H' { s with heap:=h',toks:=t' }:=by
 obtain⟨m,⟨o,es,ep,ho,r⟩,_⟩:=id I.loc;obtain⟨sl,hL⟩:=u.any ho I.free (by simp)
 exact I.step (g':=s.gens) (d':=s.drawn) (ch:=[]) (λ _ z=>nomatch z) (λ b o _ hb _ e n=>u.keep b o e n hb (by simp)) (λ b o _ hb _ e n=>u.slot b o e n hb (by simp)) (λ b o _ e n=>u.free b o e n (by simp)) (λ b o _ e=>u.there b o e (by simp)) u.tups u.frzs u.tbls (λ m' hm=>by
  obtain⟨o',es',ep',ho',r'⟩:=hm;rw [ho] at ho';cases ho';exact⟨_,es',ep',hL,r'⟩) hok I.bare
theorem Inv.call{g':Array GenState}{t':Nat}{d':Drawn}{ch:List Addr}(I:Inv X pins σ H s)(u:Un (frs X.stack) ch H H' s.heap h')(hok:HOk X.prog X.w H' h')(hg:AllBare g')
  (hch:∀ b∈ch,(b∈X.ex\/X.s₀.heap.objs.size<=b)/\b ≠ X.env.locals/\(∀ x c,X.env.cells.lookup x=some c->c ≠ b)/\∀ p∈X.pn++pins,p.1 ≠ b) :
  Inv X pins σ H' { s with heap:=h',gens:=g',drawn:=d',toks:=t' }:=by
 obtain⟨m,⟨o,es,ep,ho,r⟩,_⟩:=id I.loc;obtain⟨sl,hL⟩:=u.any ho I.free λ z=>(hch _ z).2.1 rfl
 exact I.step (ch:=ch) hch (λ b o hL hb hc e n=>u.keep b o e n (λ z=>(J9.mp (I.stkSub b z)).elim hL hb) hc) (λ b o _ _ hc e n=>u.any e n hc) (λ b o hc e n=>u.free b o e n hc) (λ b o hc e=>u.there b o e hc) u.tups u.frzs u.tbls (λ m' hm=>by
  obtain⟨o',es',ep',ho',r'⟩:=hm;rw [ho] at ho';cases ho';exact⟨_,es',ep',hL,r'⟩) hok hg
theorem Inv.turned{t':Nat}{it:Addr}(I:Inv X pins σ H s)(k:∀ b o,b ≠ it->s.heap.get? b=some o->h'.get? b=some o)(hn:H it=none)(hL:it ≠ X.env.locals)
  (h1:it∈X.ex\/X.s₀.heap.objs.size<=it) (h2:∀ x c,X.env.cells.lookup x=some c->c ≠ it) (h3:∀ p∈X.pn++pins,p.1 ≠ it):Inv X pins σ H { s with heap:=h',toks:=t' }:=by
 have nit:∀ b u,H b=some u->b ≠ it:=λ b u e z=>by rw [z,hn] at e;cases e
 refine I.step (g':=s.gens) (d':=s.drawn) (ch:=[it]) (λ b hb=>?_) (λ b o _ _ hc e _=>k b o (λ z=>hc (by simp [z])) e) (λ b o _ _ hc e _=>⟨o.slots,k b o (λ z=>hc (by simp [z])) e⟩) (λ _ _ _ _ n=>n)
  (λ b o hc e=>⟨o,k b o (λ z=>hc (by simp [z])) e⟩) (λ _ _ e=>e) (λ _ _ _ e=>e) (λ b ps e=>⟨#[],by rw [e];simp⟩) (λ m hm=>?_) (λ b u e=>?_) I.bare
 ·have e:b=it:=by simpa using hb
  subst e;exact⟨h1,hL,h2,h3⟩
 ·obtain⟨o,es,ep,ho,r⟩:=hm;exact⟨o,es,ep,k _ o (Kh hL) ho,r⟩
 ·refine(I.hok b u e).stay (λ c v hc q=>k c v ?_ q) (λ _ q=>q) λ _ _ q=>q
  rcases hc with z|z
  ·rw [z];exact nit b u e
  ·exact nit c _ z
theorem Inv.tok(I:Inv X pins σ H s)(t:Nat):Inv X pins σ H { s with toks:=t }:=I.un (h':=s.heap) (t':=t) Un.refl I.hok
theorem Inv.kept{t':Nat}(I:Inv X pins σ H s)(k:∀ b u,s.heap.get? b=some u->h'.get? b=some u):Inv X pins σ H { s with heap:=h',toks:=t' }:=I.un (Un.kept k) (I.hok.kept k)
theorem Inv.laid{a:Addr}{o:HO}{t':Nat}(I:Inv X pins σ H s)(k:∀ b u,s.heap.get? b=some u->h'.get? b=some u)(hp:s.heap.objs.size<=a)(new:bX X.prog X.w (upd H a o) h' a o) :
  Inv X pins σ (upd H a o) { s with heap:=h',toks:=t' }:=I.un (Un.laid k hp (I.hok.fresh hp)) (I.hok.laid k hp new)
theorem Inv.write{x e:Addr}{o:HO}{t':Nat}(I:Inv X pins σ H s)(mu:Mut (H x))(he:e=x\/H e=some (.own x))(k:∀ b u,b ≠ e->s.heap.get? b=some u->h'.get? b=some u)(heo:∃ u,h'.get? e=some u)
  (new:bX X.prog X.w (upd H x o) h' x o):Inv X pins σ (upd H x o) { s with heap:=h',toks:=t' }:=I.un (Un.write mu he k heo) (I.hok.write mu he k heo new)
theorem Inv.weak{σ':List (Option V)}(I:Inv X pins σ H s)(hl:σ'.length=σ.length)(w:∀ (i:Nat) v,σ'[i]? = some (some v)->σ[i]? = some (some v)):Inv X pins σ' H s:=
 ⟨I.ok,I.os,I.bare,I.base,let ⟨m,hn,hl'⟩:=I.loc;⟨m,hn,λ i x v e1 e2 e3=>hl' i x v e1 (w i v e2) e3⟩,I.cell,I.free,I.freeC,I.pin,I.hok,hl.trans I.len⟩
theorem Inv.pins_of{pins':List (Addr × Obj)}(I:Inv X pins σ H s)(h:∀ p∈pins',s.heap.get? p.1=some p.2/\H p.1=none/\p.1 ≠ X.env.locals/\p.1 ∉ X.fs/\∀ v,p.2.data ≠ .cell v):Inv X pins' σ H s:=
 ⟨I.ok,I.os,I.bare,I.base,I.loc,I.cell,I.free,I.freeC,λ p hp=>(Ke.mp hp).elim (λ z=>I.pin p (KA _ z)) (h p),I.hok,I.len⟩
theorem pj{N:List Str}(hN:N.Nodup){i j:Nat}{x:Str}(a:N[i]? = some x)(b:N[j]? = some x):i=j:=by
 obtain⟨h1,e1⟩:=JM.mp a;obtain⟨h2,e2⟩:=JM.mp b;exact(List.getElem_inj hN).mp (e1.trans e2.symm)
theorem lu{M:Model}{A:Around}{E:Value->Shared->Prop}{i:Nat}{x:Str}{v:V}{u:Value}{Q:Unit->Shared->Prop}(I:Inv X pins σ H s)(hN:X.N.Nodup)(hi:X.N[i]? = some x)(hx:Loc X.env.scope x)(r:bq v u)
  (h:∀ s',Inv X pins (σ.set i (some v)) H s'->(∃ a,Heap.SameBut a s.heap s'.heap/\(a=X.env.locals\/X.env.cells.lookup x=some a))->Q () s') (hf:X.fn x=true\/X.env.scope.names.lookup x=some .local:=by first|exact .inl rfl|exact .inr rfl|assumption):wpAny M A (storeName X.env x u) Q E s:=by
 obtain⟨m,hn,hl⟩:=id I.loc;have hcls:(X.env.scope.kind == .class || (X.env.scope.kind == .module && X.env.locals != X.env.globals))=false:=by rw [I.ok.kind];rfl
 have hiσ:i < σ.length:=by rw [I.len];exact(JM.mp hi).1
 have cne:=I.cne
 have tracked:∀ {a:Addr} {h':Heap},(∃ o,s.heap.get? a=some o/\H a=none)->Heap.SameBut a s.heap h'->HOk X.prog X.w H h':=λ {a h'} ha hs b ob e=>by
  obtain⟨_,_,hfree⟩:=ha;refine(I.hok b ob e).stay (λ c w' hc q=>(hs.2 c ?_).trans q) (λ _ q=>q) λ _ _ q=>q;rintro rfl
  rcases hc with rfl|hc
  ·rw [hfree] at e;cases e
  ·rw [hfree] at hc;cases hc
 rcases hx with hk|hk
 ·refine wpAny_storeName_local hk hn (λ h' hn' hs=>?_) hcls;obtain⟨oL,_,_,hoL,_⟩:=id hn;refine h _ ⟨I.ok,I.os,I.bare,⟨λ b o e n hb hx=>?_,λ b o e n hb hx=>?_,I.base.free,λ b o e hx=>?_,I.base.tups,I.base.frzs,I.base.tbls⟩,⟨_,hn',λ j y v' e1 e2 e3=>?_⟩,λ y c e=>?_,I.free,I.freeC,λ p hp=>?_,tracked ⟨oL,hoL,I.free⟩ hs,by simpa using I.len⟩ ⟨_,hs,.inl rfl⟩
  ·exact(hs.2 b (J2 (JY (JS e) I.ok.above))).trans (I.base.keep b o e n hb hx)
  ·obtain⟨sl,e1⟩:=I.base.slot b o e n hb hx;exact⟨sl,(hs.2 b (J2 (JY (JS e) I.ok.above))).trans e1⟩
  ·obtain⟨o',e1⟩:=I.base.there b o e hx;exact⟨o',(hs.2 b (J2 (JY (JS e) I.ok.above))).trans e1⟩
  ·by_cases hj:j=i
   ·subst hj;rw [hi] at e1;cases e1;rw [List.getElem?_set_self hiσ] at e2;cases e2;exact⟨u,r,.inl ⟨hk,by simp⟩⟩
   ·rw [List.getElem?_set_ne (Kh hj)] at e2;obtain⟨u',r',q⟩:=hl j y v' e1 e2 e3;refine⟨u',r',?_⟩
    rcases q with ⟨k,e⟩|⟨k,c,e,z⟩
    ·refine .inl ⟨k,?_⟩;have:y ≠ x:=λ e=>hj (pj hN e1 (e ▸ hi));simp [this,e]
    ·exact .inr ⟨k,c,e,z.sameBut hs (cne y c e)⟩
  ·obtain⟨w',z⟩:=I.cell y c e;exact⟨w',z.sameBut hs (cne y c e)⟩
  ·obtain⟨e,n,ne,nf,d⟩:=I.pin p hp;exact⟨(hs.2 p.1 ne).trans e,n,ne,nf,d⟩
 ·have hfn:X.fn x=true:=by
   rcases hf with z|z
   ·exact z
   ·rw [z] at hk;cases hk
  obtain⟨c,hc⟩:=I.ok.has x (.inl hk);obtain⟨w',z⟩:=I.cell x c hc;refine wpAny_storeName_cell I.ok.kind hk hc z (λ h' hc' hs=>?_);obtain⟨oc,hoc,hocd⟩:=id z;refine h { s with heap:=h' } ⟨I.ok,I.os,I.bare,⟨λ b o e n hb hx=>?_,λ b o e n hb hx=>?_,I.base.free,λ b o e hx=>?_,I.base.tups,I.base.frzs,I.base.tbls⟩,⟨m,hn.sameBut hs (Kh (cne x c hc)),λ j y v' e1 e2 e3=>?_⟩,λ y c' e=>?_,I.free,I.freeC,λ p hp=>?_,tracked ⟨oc,hoc,I.freeC x c hc⟩ hs,by simpa using I.len⟩ ⟨c,hs,.inr hc⟩
  ·exact(hs.2 b (J2 (JY (JS e) (I.ok.cab x c hfn hc)))).trans (I.base.keep b o e n hb hx)
  ·obtain⟨sl,e1⟩:=I.base.slot b o e n hb hx;exact⟨sl,(hs.2 b (J2 (JY (JS e) (I.ok.cab x c hfn hc)))).trans e1⟩
  ·obtain⟨o',e1⟩:=I.base.there b o e hx;exact⟨o',(hs.2 b (J2 (JY (JS e) (I.ok.cab x c hfn hc)))).trans e1⟩
  ·by_cases hj:j=i
   ·subst hj;rw [hi] at e1;cases e1;rw [List.getElem?_set_self hiσ] at e2;cases e2;exact⟨u,r,.inr ⟨.inl hk,c,hc,hc'⟩⟩
   ·rw [List.getElem?_set_ne (Kh hj)] at e2;obtain⟨u',r',q⟩:=hl j y v' e1 e2 e3;refine⟨u',r',?_⟩
    rcases q with q|⟨k,c',e,z'⟩
    ·exact .inl q
    ·refine .inr ⟨k,c',e,z'.sameBut hs ?_⟩;rintro rfl;exact hj (pj hN e1 (I.ok.inj _ _ _ e hc ▸ hi))
  ·by_cases hcc:c'=c
   ·subst hcc;exact⟨_,hc'⟩
   ·obtain⟨w2,z2⟩:=I.cell y c' e;exact⟨w2,z2.sameBut hs hcc⟩
  ·obtain⟨e,n,ne,nf,d⟩:=I.pin p hp;refine⟨(hs.2 p.1 ?_).trans e,n,ne,nf,d⟩;intro q;rw [q,hoc] at e;have q':oc=p.2:=Kj e;exact d w' (by rw [←q'];exact hocd)
theorem gk{M:Model}{A:Around}{E:Value->Shared->Prop}{i:Nat}{x:Str}{v:V}{u:Value}{Q:Unit->Shared->Prop}(I:Inv X pins σ H s)(hN:X.N.Nodup)(hi:X.N[i]? = some x)(hx:Loc X.env.scope x)(r:bq v u)
  (h:∀ s',Inv X pins (σ.set i (some v)) H s'->Q () s') (hf:X.fn x=true\/X.env.scope.names.lookup x=some .local:=by first|exact .inl rfl|exact .inr rfl|assumption):wpAny M A (storeName X.env x u) Q E s:=
 lu I hN hi hx r (λ s' I' _=>h s' I') hf
theorem Inv.call'{s':Shared}{ch:List Addr}(I:Inv X pins σ H s)(ho:s'.os=s.os)(u:Un (frs X.stack) ch H H' s.heap s'.heap)(hok:HOk X.prog X.w H' s'.heap)(hg:AllBare s'.gens)
  (hch:∀ b∈ch,(b∈X.ex\/X.s₀.heap.objs.size<=b)/\b ≠ X.env.locals/\(∀ x c,X.env.cells.lookup x=some c->c ≠ b)/\∀ p∈X.pn++pins,p.1 ≠ b):Inv X pins σ H' s':=by
 obtain⟨h',g',d',t',o'⟩:=s';have e:o'=s.os:=ho;subst e;exact I.call (g':=g') (t':=t') (d':=d') u hok hg hch
end
abbrev XK:=Value->Option Addr->Hp->Prop
abbrev St:=List (Option V)
abbrev VK:=V->Hp->Prop
abbrev TE:=St->Hp->VK->Prop
abbrev TT:=St->Hp->(Bool->Hp->Prop)->Prop
abbrev TA:=St->Hp->(List V->Hp->Prop)->Prop
structure ou where
 nx:St->Hp->Prop
 rt:VK
 bk:St->Hp->Prop:=λ _ _=>False
 ct:St->Hp->Prop:=λ _ _=>False
abbrev TS:=ou->St->Hp->Prop
def EP(X:Cx)(pins:List (Addr × Obj))(σ:St)(Q:VK)(u:Value)(s':Shared):Prop:=∃ v H',Inv X pins σ H' s'/\bq v u/\Q v H'
def TP(X:Cx)(pins:List (Addr × Obj))(σ:St)(Q:Bool->Hp->Prop)(b:Bool)(s':Shared):Prop:=∃ H',Inv X pins σ H' s'/\Q b H'
def AP(X:Cx)(pins:List (Addr × Obj))(σ:St)(Q:List V->Hp->Prop)(us:List Value)(s':Shared):Prop:=∃ vs H',Inv X pins σ H' s'/\aU vs us/\Q vs H'
def SP(X:Cx)(pins:List (Addr × Obj))(D:ou)(f:Flow)(s':Shared):Prop:=
 match f with
 | .next=>∃ σ' H',Inv X pins σ' H' s'/\D.nx σ' H'
 | .brk=>∃ σ' H',Inv X pins σ' H' s'/\D.bk σ' H'
 | .cont=>∃ σ' H',Inv X pins σ' H' s'/\D.ct σ' H'
 | .ret u=>∃ v σ' H',Inv X pins σ' H' s'/\bq v u/\D.rt v H'
def PE(X:Cx)(e:Expr)(t:TE):Prop:=
 ∀ (pins:List (Addr × Obj)) (s:Shared) (σ:St) (H:Hp) (Q:VK),Inv X pins σ H s->t σ H Q->wpAny (model X.prog X.w) X.A (eval e X.env) (EP X pins σ Q) X.xe s
def PT(X:Cx)(e:Expr)(t:TT):Prop:=
 ∀ (pins:List (Addr × Obj)) (s:Shared) (σ:St) (H:Hp) (Q:Bool->Hp->Prop),Inv X pins σ H s->t σ H Q->wpAny (model X.prog X.w) X.A (isTrue e X.env (eval e X.env)) (TP X pins σ Q) X.xe s
def PW(X:Cx)(e:Expr)(t:TT):Prop:=
 ∀ (whole:Sem Value) (pins:List (Addr × Obj)) (s:Shared) (σ:St) (H:Hp) (Q:Bool->Hp->Prop),Inv X pins σ H s->t σ H Q->wpAny (model X.prog X.w) X.A (isTrue e X.env whole) (TP X pins σ Q) X.xe s
theorem PW.pt{X:Cx}{e:Expr}{t:TT}(h:PW X e t):PT X e t:=h _
def PA(X:Cx)(es:List Expr)(t:TA):Prop:=
 ∀ (pos:Pos) (pins:List (Addr × Obj)) (s:Shared) (σ:St) (H:Hp) (Q:List V->Hp->Prop),Inv X pins σ H s->t σ H Q->wpAny (model X.prog X.w) X.A (spliced (backTo pos (starEach es X.env))) (AP X pins σ Q) X.xe s
def PS(X:Cx)(st:Stmt)(t:TS):Prop:=
 ∀ (pins:List (Addr × Obj)) (s:Shared) (σ:St) (H:Hp) (D:ou),Inv X pins σ H s->t D σ H->wpAny (model X.prog X.w) X.A (exec st X.env) (SP X pins D) X.xe s
def PSs(X:Cx)(st:List Stmt)(t:TS):Prop:=
 ∀ (pins:List (Addr × Obj)) (s:Shared) (σ:St) (H:Hp) (D:ou),Inv X pins σ H s->t D σ H->wpAny (model X.prog X.w) X.A (execs st X.env) (SP X pins D) X.xe s
theorem thn{α:Type}{t:Sem α}{Q Q':α->Shared->Prop}{M:Model}{A:Around}{E:Value->Shared->Prop}{s:Shared}(h:wpAny M A t Q E s)(hQ:∀ a s,Q a s->Q' a s):wpAny M A t Q' E s:=LS h hQ λ _ _ x=>x
section
variable {X:Cx}
def FJ(i:Nat):TE:=λ σ H Q=>∃ v,σ[i]? = some (some v)/\Q v H
def tC(v:V):TE:=λ _ H Q=>Q v H
theorem DV{i:Nat}{x:Str}{pos:Pos}(hN:X.N[i]? = some x)(hv:Vis X.env.scope x)(hd:(x == ("__debug__":Str))=false:=by decide)(hcd:(x == ("__classdict__":Str))=false:=by decide):PE X (.Name x pos) (FJ i):=by
 intro pins s σ H Q I h;obtain⟨v,e,h⟩:=h;obtain⟨m,hn,hl⟩:=I.loc;obtain⟨u,r,l⟩:=hl i x v hN e hv;have fin:EP X pins σ Q u s:=⟨v,H,I,r,h⟩
 rcases l with ⟨hk,hm⟩|⟨hk,c,hc,hcell⟩
 ·exact wpAny_Name (wpAny_loadName_local I.ok.kind hk hn hm fin) hd
 ·rcases hk with hk|hk
  ·exact wpAny_Name (wpAny_loadName_cell I.ok.kind hk hc hcell fin) hd
  ·exact wpAny_Name (wpAny_loadName_free I.ok.kind hk hc hcell fin hcd) hd
theorem dH{i j pos}:PE X (.Constant (.int i) j pos) (tC (.int i)):=λ _ _ _ H _ I h=>wpAny_Constant_int ⟨.int i,H,I.tok _,⟨_,rfl⟩,h⟩
theorem cV{b j pos}:PE X (.Constant (.bool b) j pos) (tC (.bl b)):=λ _ _ _ H _ I h=>Constant_bool ⟨.bl b,H,I,rfl,h⟩
theorem dz{j pos}:PE X (.Constant .none j pos) (tC .non):=λ _ _ _ H _ I h=>Constant_none ⟨.non,H,I,rfl,h⟩
theorem br{x j pos}:PE X (.Constant (.str x) j pos) (tC (.str x)):=λ _ _ _ H _ I h=>Calls.Constant_str ⟨.str x,H,I.tok _,⟨_,rfl⟩,h⟩
def Gl(X:Cx)(x:Str):Prop:=X.env.kindOf x=some .globalImplicit
theorem nv{E:Value->Shared->Prop}{pins:List (Addr × Obj)}{s:Shared}{σ:St}{H:Hp}{x:Str}{u:Value}{pos:Pos}{Q:Value->Shared->Prop}(I:Inv X pins σ H s)(hg:Gl X x)(hm:X.mg x=some u)(h:Q u s)
  (hd:(x == ("__debug__":Str))=false:=by decide):wpAny (model X.prog X.w) X.A (eval (.Name x pos) X.env) Q E s:=
 Calls.Name_function_global I.ok.kind hg (Calls.loadGlobal_global (by rw [I.ok.glob];exact I.mod.glob.keeps I.bk) hm h) hd
theorem gL{E:Value->Shared->Prop}{pins:List (Addr × Obj)}{s:Shared}{σ:St}{H:Hp}{x:Str}{u:Value}{pos:Pos}{Q:Value->Shared->Prop}(I:Inv X pins σ H s)(hg:Gl X x)(hm:X.mg x=none)(hv:bootBuiltins x=some u)(h:Q u s)
  (hn:x ≠ "__name__":=by decide) (hd:(x == ("__debug__":Str))=false:=by decide):wpAny (model X.prog X.w) X.A (eval (.Name x pos) X.env) Q E s:=by
 obtain⟨mb,h1,h2⟩:=I.mod.blt;exact Calls.Name_function_global I.ok.kind hg (Calls.loadGlobal_builtin (by rw [I.ok.glob];exact I.mod.glob.keeps I.bk) hm (by rw [I.ok.blt];exact h1.keeps I.bk) ((h2 x hn).trans hv) h) hd
theorem jP{x:Str}{v:V}{u:Value}{pos:Pos}(hg:Gl X x)(hm:X.mg x=some u)(r:bq v u)(hd:(x == ("__debug__":Str))=false:=by decide):PE X (.Name x pos) (tC v):=
 λ _ _ _ H _ I h=>nv I hg hm ⟨v,H,I,r,h⟩ hd
theorem AV{x:Str}{v:V}{u:Value}{pos:Pos}(hg:Gl X x)(hm:X.mg x=none)(hv:bootBuiltins x=some u)(r:bq v u)(hn:x ≠ "__name__":=by decide)(hd:(x == ("__debug__":Str))=false:=by decide):PE X (.Name x pos) (tC v):=
 λ _ _ _ H _ I h=>gL I hg hm hv ⟨v,H,I,r,h⟩ hn hd
variable {a b:Expr}{ta tb:TE}{pos:Pos}
def tB(t:TE):TT:=λ σ H Q=>t σ H λ x H1=>∃ c,x=.bl c/\Q c H1
theorem DN{e:Expr}{t:TE}(h:PE X e t)(he:∀ whole,isTrue e X.env whole=(do let v ←whole;standAt e.pos;holding [v] (truthy v)):=by intro _;rfl):PT X e (tB t):=by
 intro pins s σ H Q I hw;refine isTrue_plain (thn (h pins s σ H _ I hw) λ v s1 ⟨x,H1,I1,r1,q1⟩=>?_) (he _);obtain⟨d,rfl,q⟩:=q1;cases r1;exact Kw ⟨H1,I1,q⟩
variable {tA tB':TT}{rest:List Expr}
def Ih(t u:TT):TT:=λ σ H Q=>t σ H λ c H1=>if c=true then u σ H1 Q else Q false H1
def tOr(t u:TT):TT:=λ σ H Q=>t σ H λ c H1=>if c=true then Q true H1 else u σ H1 Q
def Ib(t:TT):TT:=λ σ H Q=>t σ H λ c H1=>Q (!c) H1
theorem AF(ha:PT X a tA):PW X (.BoolOp .And [a] pos) tA:=by
 intro wh pins s σ H Q I h;refine isTrue_and (thn (ha pins s σ H Q I h) λ c s1 e=>?_)
 cases c with
 | true=>exact isTrue_and_nil e
 | false=>exact e
theorem DJ(ha:PT X a tA):PW X (.BoolOp .Or [a] pos) tA:=by
 intro wh pins s σ H Q I h;refine isTrue_or (thn (ha pins s σ H Q I h) λ c s1 e=>?_)
 cases c with
 | false=>exact isTrue_or_nil e
 | true=>exact e
theorem DK(ha:PT X a tA)(hb:PW X (.BoolOp .And (b::rest) pos) tB'):PW X (.BoolOp .And (a::b::rest) pos) (Ih tA tB'):=by
 intro wh pins s σ H Q I h;refine isTrue_and (thn (ha pins s σ H _ I h) λ c s1 ⟨H1,I1,q1⟩=>?_)
 cases c with
 | true=>exact hb wh pins s1 σ H1 Q I1 q1
 | false=>exact⟨H1,I1,q1⟩
theorem GY(ha:PT X a tA)(hb:PW X (.BoolOp .Or (b::rest) pos) tB'):PW X (.BoolOp .Or (a::b::rest) pos) (tOr tA tB'):=by
 intro wh pins s σ H Q I h;refine isTrue_or (thn (ha pins s σ H _ I h) λ c s1 ⟨H1,I1,q1⟩=>?_)
 cases c with
 | true=>exact⟨H1,I1,q1⟩
 | false=>exact hb wh pins s1 σ H1 Q I1 q1
theorem DO(ha:PT X a tA):PT X (.UnaryOp .Not a pos) (Ib tA):=by
 intro pins s σ H Q I h;exact isTrue_not (ha pins s σ H (λ c H1=>Q (!c) H1) I h)
def CW(ta tb:TE):TE:=λ σ H Q=>ta σ H λ x H1=>∃ c,x=.bl c/\if c=true then tb σ H1 Q else Q (.bl false) H1
def Ia(ta tb:TE):TE:=λ σ H Q=>ta σ H λ x H1=>∃ c,x=.bl c/\if c=true then Q (.bl true) H1 else tb σ H1 Q
def CQ(ta:TE):TE:=λ σ H Q=>ta σ H λ x H1=>∃ c,x=.bl c/\Q (.bl (!c)) H1
theorem DW{op}{t:TE}(h:PE X a t):PE X (.BoolOp op [a] pos) t:=λ pins s σ H Q I hw=>BoolOp_one (h pins s σ H Q I hw)
theorem DY(ha:PE X a ta)(hb:PE X (.BoolOp .And (b::rest) pos) tb):PE X (.BoolOp .And (a::b::rest) pos) (CW ta tb):=by
 intro pins s σ H Q I h;refine BoolOp_and (thn (ha pins s σ H _ I h) λ v s1 ⟨x,H1,I1,r1,q1⟩=>?_);obtain⟨c,rfl,q1⟩:=q1;cases r1;refine Kw ?_
 cases c with
 | true=>exact hb pins s1 σ H1 Q I1 q1
 | false=>exact⟨.bl false,H1,I1,rfl,q1⟩
theorem GZ(ha:PE X a ta)(hb:PE X (.BoolOp .Or (b::rest) pos) tb):PE X (.BoolOp .Or (a::b::rest) pos) (Ia ta tb):=by
 intro pins s σ H Q I h;refine BoolOp_or (thn (ha pins s σ H _ I h) λ v s1 ⟨x,H1,I1,r1,q1⟩=>?_);obtain⟨c,rfl,q1⟩:=q1;cases r1;refine Kw ?_
 cases c with
 | false=>exact hb pins s1 σ H1 Q I1 q1
 | true=>exact⟨.bl true,H1,I1,rfl,q1⟩
theorem DX(ha:PE X a ta):PE X (.UnaryOp .Not a pos) (CQ ta):=by
 intro pins s σ H Q I h;refine UnaryOp_ (thn (ha pins s σ H _ I h) λ v s1 ⟨x,H1,I1,r1,q1⟩=>?_);obtain⟨c,rfl,q1⟩:=q1;cases r1;exact not_of (Kw ⟨.bl (!c),H1,I1,rfl,q1⟩)
def tIf(t:TT)(ta tb:TE):TE:=λ σ H Q=>t σ H λ c H1=>if c=true then ta σ H1 Q else tb σ H1 Q
theorem kg{c:Expr}(hc:PT X c tA)(ha:PE X a ta)(hb:PE X b tb):PE X (.IfExp c a b pos) (tIf tA ta tb):=by
 intro pins s σ H Q I h;refine wpAny_IfExp (thn (hc pins s σ H _ I h) λ d s1 ⟨H1,I1,q1⟩=>?_)
 cases d with
 | true=>exact ha pins s1 σ H1 Q I1 q1
 | false=>exact hb pins s1 σ H1 Q I1 q1
end
def SqL(K:W.Frag)(H:Hp)(a:Addr)(xs:List V):Prop:=
 Rd H a (.lst xs) \/
  ∃ (o:Obj) (its:Array Value) (n:Nat),K.lookup a=some o/\o.cls=.type "list" /\ o.dict=none/\o.data=.seq its n/\its.size<=sizeLine/\aU xs its.toList
def SqT(K:W.Frag)(H:Hp)(a:Addr)(xs:List V):Prop:=
 Rd H a (.tup xs) \/
  ∃ (o:Obj) (its:Array Value) (n:Nat),K.lookup a=some o/\o.cls=.type "tuple" /\ o.data=.seq its n/\its.size<=sizeLine/\aU xs its.toList
def JD:Value->Option V
 | .none=>some .non
 | .bool b=>some (.bl b)
 | .int i _=>some (.int i)
 | .str x _=>some (.str x)
 | .bytes b _=>some (.byt b)
 | .float b _=>some (.flt b)
 | .ref a=>some (.ref a)
 | .type n=>some (.ty n)
 | _=>none
theorem bq.abs{x:V}{u:Value}(r:bq x u):JD u=some x:=by
 cases x with
 | non=>cases r;rfl
 | bl _=>cases r;rfl
 | int _=>obtain⟨t,rfl⟩:=r;rfl
 | str _=>obtain⟨t,rfl⟩:=r;rfl
 | byt _=>obtain⟨t,rfl⟩:=r;rfl
 | flt _=>obtain⟨t,rfl⟩:=r;rfl
 | ref _=>cases r;rfl
 | ty _=>cases r;rfl
theorem bq.inj{x y:V}{u:Value}(r:bq x u)(q:bq y u):x=y:=Kj (r.abs.symm.trans q.abs)
theorem aU.inj:∀ {xs ys:List V}{us:List Value},aU xs us->aU ys us->xs=ys
 | _,_,_,.nil,.nil=>rfl
 | _,_,_,.cons r t,.cons r' t'=>by rw [r.inj r',aU.inj t t']
section
variable {X:Cx}{pins:List (Addr × Obj)}{σ:St}{H:Hp}{s:Shared}{a:Addr}{xs ys:List V}
theorem SqL.of{K:W.Frag}(h:H a=some (.lst xs)):SqL K H a xs:=.inl (.inl h)
theorem SqT.of{K:W.Frag}(h:H a=some (.tup xs)):SqT K H a xs:=.inl (.inl h)
theorem Inv.list(I:Inv X pins σ H s)(h:SqL X.K H a xs):∃ its:List Value,aU xs its/\PlainL s.heap a its.toArray/\xs.length<=sizeLine:=by
 rcases h with h|⟨o,its,n,hk,hc,hd,hs,hz,r⟩
 ·obtain⟨z,its,n,r,e⟩:=h.ok I.hok;exact⟨its,r,⟨_,n,e,rfl,rfl,rfl⟩,z⟩
 ·refine⟨its.toList,r,⟨o,n,I.kIn a o hk,hc,hd,by simpa using hs⟩,?_⟩;have e:=r.length;simp only [La] at e;omega
theorem Inv.tuple(I:Inv X pins σ H s)(h:SqT X.K H a xs):∃ its:List Value,aU xs its/\IsTup s.heap a its.toArray/\xs.length<=sizeLine:=by
 rcases h with h|⟨o,its,n,hk,hc,hs,hz,r⟩
 ·obtain⟨z,its,r,p⟩:=h.ok I.hok;exact⟨its,r,p,z⟩
 ·refine⟨its.toList,r,⟨o,I.kIn a o hk,hc,n,by simpa using hs⟩,?_⟩;have e:=r.length;simp only [La] at e;omega
theorem Inv.list_inj(I:Inv X pins σ H s)(h:SqL X.K H a xs)(h':SqL X.K H a ys):xs=ys:=by
 obtain⟨its,r,⟨o,n,e,_,_,d⟩,_⟩:=I.list h;obtain⟨its',r',⟨o',n',e',_,_,d'⟩,_⟩:=I.list h';rw [e] at e';cases e';rw [d] at d'
 injection d' with d1 _
 have:its=its':=by simpa using KC Array.toList d1
 subst this;exact r.inj r'
theorem Inv.tuple_inj(I:Inv X pins σ H s)(h:SqT X.K H a xs)(h':SqT X.K H a ys):xs=ys:=by
 obtain⟨its,r,⟨o,e,_,n,d⟩,_⟩:=I.tuple h;obtain⟨its',r',⟨o',e',_,n',d'⟩,_⟩:=I.tuple h';rw [e] at e';cases e';rw [d] at d'
 injection d' with d1 _
 have:its=its':=by simpa using KC Array.toList d1
 subst this;exact r.inj r'
end
abbrev Cx.wish(X:Cx)(E:Value->Shared->Prop):Cx:={ X with xe:=E }
abbrev Cx.nox(X:Cx):Cx:=X.wish λ _ _=>False
theorem Cx.Ok.wish{X:Cx}(ok:X.Ok)(E:Value->Shared->Prop):(X.wish E).Ok:=
 ⟨ok.mod,ok.kind,ok.glob,ok.blt,ok.above,ok.inj,ok.has,ok.cab,ok.hd,ok.frames,ok.stk,ok.exf,ok.bs,ok.bsz,ok.noex,ok.exfs,ok.funs,ok.frf⟩
theorem Cx.Ok.unwish{X:Cx}{E:Value->Shared->Prop}(ok:(X.wish E).Ok):X.Ok:=
 ⟨ok.mod,ok.kind,ok.glob,ok.blt,ok.above,ok.inj,ok.has,ok.cab,ok.hd,ok.frames,ok.stk,ok.exf,ok.bs,ok.bsz,ok.noex,ok.exfs,ok.funs,ok.frf⟩
section
variable {X:Cx}{pins:List (Addr × Obj)}{σ:St}{H:Hp}{s:Shared}{E:Value->Shared->Prop}
theorem Inv.wish(I:Inv X pins σ H s)(E:Value->Shared->Prop):Inv (X.wish E) pins σ H s:=⟨I.ok.wish E,I.os,I.bare,I.base,I.loc,I.cell,I.free,I.freeC,I.pin,I.hok,I.len⟩
theorem Inv.unwish(I:Inv (X.wish E) pins σ H s):Inv X pins σ H s:=⟨I.ok.unwish,I.os,I.bare,I.base,I.loc,I.cell,I.free,I.freeC,I.pin,I.hok,I.len⟩
theorem SP.unwish{D:ou}{f:Flow}{s':Shared}(h:SP (X.wish E) pins D f s'):SP X pins D f s':=by
 cases f with
 | next=>obtain⟨σ',H',I,q⟩:=h;exact⟨σ',H',I.unwish,q⟩
 | brk=>obtain⟨σ',H',I,q⟩:=h;exact⟨σ',H',I.unwish,q⟩
 | cont=>obtain⟨σ',H',I,q⟩:=h;exact⟨σ',H',I.unwish,q⟩
 | ret u=>obtain⟨v,σ',H',I,r,q⟩:=h;exact⟨v,σ',H',I.unwish,r,q⟩
theorem PSs.nox{st:List Stmt}{t:TS}(h:PSs X.nox st t):PSs X st t:=λ pins s σ H D I hw=>
 LS (h pins s σ H D (I.wish _) hw) (λ _ _ q=>q.unwish) λ _ _ z=>False.elim z
end
section
variable {X:Cx}{st:Stmt}{rest:List Stmt}{t u:TS}{e:Expr}{te:TE}{pos:Pos}
def CS:TS:=λ D σ H=>D.nx σ H
def HX(t u:TS):TS:=λ D σ H=>t { D with nx:=u D } σ H
theorem ao:PSs X [] CS:=λ _ _ σ H _ I h=>Me ⟨σ,H,I,h⟩
theorem eY(h1:PS X st t)(h2:PSs X rest u):PSs X (st::rest) (HX t u):=by
 intro pins s σ H D I h;refine wpAny_execs_cons (thn (h1 pins s σ H { D with nx:=u D } I h) λ f s1 q=>?_)
 cases f with
 | next=>
  obtain⟨σ',H',I',q⟩:=q;exact h2 pins s1 σ' H' D I' q
 | ret v=>exact q
 | brk=>exact q
 | cont=>exact q
theorem jO(h1:PS X st t):PSs X [st] t:=by
 intro pins s σ H D I h;refine wpAny_execs_cons (thn (h1 pins s σ H D I h) λ f s1 q=>?_)
 cases f with
 | next=>exact Me q
 | ret v=>exact q
 | brk=>exact q
 | cont=>exact q
theorem Inv.quiet{pins:List (Addr × Obj)}{σ:St}{H:Hp}{s:Shared}(I:Inv X pins σ H s):interactive X.env=false:=by simp [interactive,I.ok.kind]
def CT(te:TE):TS:=λ D σ H=>te σ H λ _ H1=>D.nx σ H1
theorem dJ(he:PE X e te)(hs:swapsWith e none pos.line X.env=pure false:=by rfl):PS X (.Expr e pos) (CT te):=by
 intro pins s σ H D I h;exact wpAny_Expr_any (thn (he pins s σ H _ I h) λ v s1 ⟨x,H1,I1,r1,q1⟩=>⟨σ,H1,I1,q1⟩) I.quiet hs
def HY(te:TE):TS:=λ D σ H=>te σ H D.rt
theorem sW(he:PE X e te):PS X (.Return (some e) pos) (HY te):=by
 intro pins s σ H D I h;exact wpAny_Return_some (thn (he pins s σ H _ I h) λ v s1 ⟨x,H1,I1,r1,q1⟩=>⟨x,σ,H1,I1,r1,q1⟩)
def FK(c:TT)(t u:TS):TS:=λ D σ H=>c σ H λ b H1=>if b=true then t D σ H1 else u D σ H1
theorem zK{c:Expr}{a b:List Stmt}{tc:TT}(hc:PT X c tc)(ha:PSs X a t)(hb:PSs X b u):PS X (.If c a b pos) (FK tc t u):=by
 intro pins s σ H D I h;refine wpAny_If (thn (hc pins s σ H _ I h) λ d s1 ⟨H1,I1,q1⟩=>?_)
 cases d with
 | true=>exact ha pins s1 σ H1 D I1 q1
 | false=>exact hb pins s1 σ H1 D I1 q1
def DE:TS:=λ _ _ _=>False
theorem gn:PS X st DE:=λ _ _ _ _ _ _ h=>h.elim
end
abbrev TG:=V->St->Hp->(St->Hp->Prop)->Prop
abbrev TGs:=List V->St->Hp->(St->Hp->Prop)->Prop
def PG(X:Cx)(target:Expr)(t:TG):Prop:=
 ∀ (pins:List (Addr × Obj)) (s:Shared) (σ:St) (H:Hp) (v:V) (u:Value) (Q:St->Hp->Prop),Inv X pins σ H s->bq v u->t v σ H Q →
  wpAny (model X.prog X.w) X.A (assign target X.env u) (λ _ s'=>∃ σ' H',Inv X pins σ' H' s'/\Q σ' H') X.xe s
def PGs(X:Cx)(ts:List Expr)(t:TGs):Prop:=
 ∀ (pins:List (Addr × Obj)) (s:Shared) (σ:St) (H:Hp) (vs:List V) (us:List Value) (Q:St->Hp->Prop),Inv X pins σ H s->aU vs us->t vs σ H Q →
  wpAny (model X.prog X.w) X.A (assignInOrder ((assignEach ts X.env).map (·.2)) us) (λ _ s'=>∃ σ' H',Inv X pins σ' H' s'/\Q σ' H') X.xe s
abbrev yV:=V->V->V->Hp->(Hp->Prop)->Prop
def Jb(X:Cx)(t:yV):Prop:=
 ∀ (pins:List (Addr × Obj)) (s:Shared) (σ:St) (H:Hp) (o i v:V) (ov iv u:Value) (Q:Hp->Prop),Inv X pins σ H s->bq o ov->bq i iv->bq v u->t o i v H Q →
  wpAny (model X.prog X.w) X.A (setItem ov iv u) (λ _ s'=>∃ H',Inv X pins σ H' s'/\Q H') X.xe s
section
variable {X:Cx}{pos:Pos}
def dE(i:Nat):TG:=λ v σ H Q=>Q (σ.set i (some v)) H
theorem tT{i:Nat}{x:Str}(hN:X.N.Nodup)(hi:X.N[i]? = some x)(hx:Loc X.env.scope x)(hf:X.fn x=true\/X.env.scope.names.lookup x=some .local:=by first|exact .inl rfl|exact .inr rfl|assumption):PG X (.Name x pos) (dE i):=by
 intro pins s σ H v u Q I r h;exact wpAny_assign_Name (gk I hN hi hx r (λ s' I'=>⟨_,H,I',h⟩) hf)
def IZ:TGs:=λ vs σ H Q=>vs=[]/\Q σ H
def Dt(t:TG)(u:TGs):TGs:=λ vs σ H Q=>∃ v r,vs=v::r/\t v σ H λ σ' H'=>u r σ' H' Q
theorem AL:PGs X [] IZ:=by
 intro pins s σ H vs us Q I r h;obtain⟨e,h⟩:=h;subst e;cases r;exact assignInOrder_nil ⟨σ,H,I,h⟩
theorem xg{e:Expr}{es:List Expr}{t:TG}{u:TGs}(h1:PG X e t)(h2:PGs X es u)
  (hs:(assignEach (e::es) X.env).map (·.2)=assign e X.env::(assignEach es X.env).map (·.2):=by rfl):PGs X (e::es) (Dt t u):=by
 intro pins s σ H vs us Q I r h;obtain⟨v,vr,e1,h⟩:=h;subst e1
 cases r with
 | cons r rr=>
  rw [hs];refine assignInOrder_cons (thn (h1 pins s σ H _ _ _ I r h) λ _ s1 ⟨σ1,H1,I1,q1⟩=>?_);exact h2 pins s1 σ1 H1 _ _ Q I1 rr q1
def IW(K:W.Frag)(n:Nat)(t:TGs):TG:=λ v σ H Q=>∃ a xs,v=.ref a/\SqT K H a xs/\xs.length=n/\t xs σ H Q
theorem DU{es:List Expr}{k:Nat}{t:TGs}{n:Nat}(hc:X.calm=true)(h:PGs X es t)
  (hn:(assignEach es X.env).length=n:=by rfl) (hst:(assignEach es X.env).findIdx? (·.1)=none:=by rfl):PG X (.Tuple es k pos) (IW X.K n t):=by
 intro pins s σ H v u Q I r hw;obtain⟨a,xs,e1,hq,hl,hw⟩:=hw;subst e1;cases r;obtain⟨its,rv,ht,hz⟩:=I.tuple hq;refine assign_Tuple_tuple (I.ok.hd hc) ht (by simp [hn,←hl,rv.length]) hst λ h' hx=>?_;have I1:Inv X pins σ H { s with heap:=h' }:=I.kept (t':=s.toks) λ b o e=>hx b o (J2 (JS e)) e;exact h pins _ σ H xs _ Q I1 (by simpa using rv) hw
def IX(to ti:TE)(t:yV):TG:=λ v σ H Q=>to σ H λ o H1=>ti σ H1 λ i H2=>t o i v H2 λ H3=>Q σ H3
theorem oC{o i:Expr}{to ti:TE}{t:yV}(ho:PE X o to)(hi:PE X i ti)(hs:Jb X t)
  (ha:∀ v,assign (.Subscript o i pos) X.env v=(do
   let ov ←holding [v] (eval o X.env)
   let iv ←holding [v,ov] (eval i X.env)
   standAt pos
   holding [v,ov,iv] (setItem ov iv v)
   release [v,ov,iv] []):=by intro _;rfl):PG X (.Subscript o i pos) (IX to ti t):=by
 intro pins s σ H v u Q I r h;rw [ha];refine JK (LB (thn (ho pins s σ H _ I h) λ ov s1 ⟨x,H1,I1,r1,q1⟩=>?_));refine JK (LB (thn (hi pins s1 σ H1 _ I1 q1) λ iv s2 ⟨y,H2,I2,r2,q2⟩=>?_));refine JK (L5 (JK (LB (thn (hs pins s2 σ H2 x y v ov iv u _ I2 r1 r2 r q2) λ _ s3 ⟨H3,I3,q3⟩=>?_))));exact wpAny_release ⟨σ,H3,I3,q3⟩
def Gb(te:TE)(g:TG):TS:=λ D σ H=>te σ H λ x H1=>g x σ H1 D.nx
theorem DR{tg e:Expr}{te:TE}{g:TG}(he:PE X e te)(hg:PG X tg g)(hs:swapsWithSole [tg] e pos.line X.env=pure false:=by rfl)(hw:swappedStores [tg] e X.env=pure none:=by rfl)
  (h1:(assignEach [tg] X.env).map (·.2)=[assign tg X.env]:=by rfl):PS X (.Assign [tg] e pos) (Gb te g):=by
 intro pins s σ H D I h;refine wpAny_Assign_stores (thn (he pins s σ H _ I h) λ v s1 ⟨x,H1,I1,r1,q1⟩=>?_) hs hw;rw [h1];exact thn (hg pins s1 σ H1 x v _ I1 r1 q1) λ _ s2 q=>q
theorem gH{i:Nat}{x:Str}{e:Expr}{te:TE}{pos':Pos}(hN:X.N.Nodup)(hi:X.N[i]? = some x)(hx:Loc X.env.scope x)(he:PE X e te)(hs:swapsWith e (some (.Name x pos')) pos.line X.env=pure false:=by rfl)(hf:X.fn x=true\/X.env.scope.names.lookup x=some .local:=by first|exact .inl rfl|exact .inr rfl|assumption) :
  PS X (.Assign [.Name x pos'] e pos) (Gb te (dE i)):=by
 intro pins s σ H D I h;refine wpAny_Assign_Name (thn (he pins s σ H _ I h) λ v s1 ⟨y,H1,I1,r1,q1⟩=>?_) hs;exact gk I1 hN hi hx r1 (λ s2 I2=>⟨_,H1,I2,q1⟩) hf
def HZ(i j:Nat)(ta:TA):TS:=λ D σ H=>ta σ H λ vs H1=>∃ v w,vs=[v,w]/\D.nx ((σ.set i (some v)).set j (some w)) H1
theorem DP{i j:Nat}{x y:Str}{a b:Expr}{ta:TA}{px py pt:Pos}{kt k2 pt2}(hc:X.calm=true)(hN:X.N.Nodup)(hi:X.N[i]? = some x)(hj:X.N[j]? = some y)(hij:i ≠ j)
  (hx:X.env.scope.names.lookup x=some .local) (hy:X.env.scope.names.lookup y=some .local) (ha:PA X [a,b] ta)
  (hw:swappedStores [.Tuple [.Name x px,.Name y py] kt pt] (.Tuple [a,b] k2 pt2) X.env=pure (some [x,y]))
  (hs:swapsWithSole [.Tuple [.Name x px,.Name y py] kt pt] (.Tuple [a,b] k2 pt2) pos.line X.env=pure false:=by rfl) :
  PS X (.Assign [.Tuple [.Name x px,.Name y py] kt pt] (.Tuple [a,b] k2 pt2) pos) (HZ i j ta):=by
 intro pins s σ H D I h;rw [exec_Assign_arm];refine JK (L5 ?_);rw [hs];refine JK (JV ?_);rw [JQ (by decide)];refine JK (Tuple_ (thn (ha _ pins s σ H _ I h) λ us s1 ⟨vs,H1,I1,r1,q1⟩=>?_));obtain⟨v,w,e1,q1⟩:=q1;subst e1
 obtain⟨u1,u2,rfl,rv,rw'⟩:∃ u1 u2,us=[u1,u2]/\bq v u1/\bq w u2:=by
  cases r1 with
  | cons p q=>
   cases q with
   | cons p' q'=>
    cases q';exact⟨_,_,rfl,p,p'⟩
 refine KL ?_ (by show 2<=sizeLine;decide);have I2:Inv X pins σ H1 { s1 with heap:=s1.heap.push { cls:=.type "tuple",data:=.seq [u1,u2].toArray } }:=I1.kept (t':=s1.toks) λ b o e=>JL _ e;rw [hw];refine JK (JV ?_)
 show wpAny (model X.prog X.w) X.A (do rule "assign.swapped-stores";let items ←unpackItems (.ref s1.heap.objs.size) 2 none;assignInOrder [λ v=>bindName X.env y v,λ v=>bindName X.env x v] items.reverse;pure Flow.next) _ _ _
 refine JK (wpAny_rule (JK (unpackItems_tuple (items:=#[u1,u2]) (I.ok.hd hc) (IsTup.new s1.heap _) λ h' hx'=>?_)));have I3:=I2.kept (h':=h') (t':=s1.toks) λ b o e=>hx' b o (J2 (JS e)) e
 show wpAny _ _ (assignInOrder [λ v=>bindName X.env y v,λ v=>bindName X.env x v] [u2,u1] >>= λ _=>pure Flow.next) _ _ _
 refine JK (assignInOrder_cons (wpAny_bindName (gk I3 hN hj (.inl hy) rw' (λ s2 I4=>?_) (.inr hy))));refine assignInOrder_cons (wpAny_bindName (gk I4 hN hi (.inl hx) rv (λ s3 I5=>assignInOrder_nil (JV ?_)) (.inr hx)));rw [List.set_comm _ _ (Kh hij)] at I5;exact⟨_,H1,I5,q1⟩
end
section
variable {X:Cx}{pos:Pos}
def sD(c:TT)(tb:TS):TS:=λ D σ H=>∃ W:Nat->St->Hp->Prop,(∃ m,W m σ H)/\∀ m σ H,W m σ H →
 c σ H λ b H1=>if b=true then ∃ N:St->Hp->Prop,(∀ σ' H',N σ' H'->∃ m',m' < m/\W m' σ' H')/\tb { D with nx:=N,ct:=N,bk:=D.nx } σ H1 else D.nx σ H1
theorem ke{c:Expr}{body:List Stmt}{tc:TT}{tb:TS}(hp:PassesOwn (model X.prog X.w) X.A X.env X.xe)(hc:PT X c tc)(hb:PSs X body tb):PS X (.While c body [] pos) (sD tc tb):=by
 intro pins s σ H D I h;obtain⟨W,⟨m0,w0⟩,turn⟩:=h;refine wpAny_While (codeAny_whileLoop (λ n s'=>∃ σ' H',Inv X pins σ' H' s'/\W n σ' H') ?_ m0 ⟨σ,H,I,w0⟩);rintro n s1 ⟨σ1,H1,I1,w1⟩;refine K3 hp (thn (hc pins s1 σ1 H1 _ I1 (turn n σ1 H1 w1)) λ b s2 ⟨H2,I2,q2⟩=>?_)
 cases b with
 | true=>
  obtain⟨N,hN,q2⟩:=q2;rw [JR rfl];refine K3 hp (thn (hb pins s2 σ1 H2 _ I2 q2) λ f s3 q3=>?_)
  cases f with
  | next=>
   obtain⟨σ3,H3,I3,n3⟩:=q3;obtain⟨m',hm,w3⟩:=hN σ3 H3 n3;exact⟨m',hm,σ3,H3,I3,w3⟩
  | cont=>
   obtain⟨σ3,H3,I3,n3⟩:=q3;obtain⟨m',hm,w3⟩:=hN σ3 H3 n3;exact⟨m',hm,σ3,H3,I3,w3⟩
  | brk=>exact q3
  | ret v=>exact q3
 | false=>
  rw [JQ JZ];exact Me ⟨σ1,H2,I2,q2⟩
end
structure It where
 go:Nat->Hp->Prop
 yld:Nat->Hp->V->Hp->Prop
 stop:Nat->Hp->Prop
def mN(X:Cx)(pins:List (Addr × Obj))(H:Hp)(b:Addr):Prop:=
 H b=none/\b ≠ X.env.locals/\b ∉ X.fs/\(b∈X.ex\/X.s₀.heap.objs.size<=b)/\(∀ x c,X.env.cells.lookup x=some c->c ≠ b)/\∀ p∈X.pn++pins,p.1 ≠ b
theorem Inv.fpOk{X:Cx}{pins:List (Addr × Obj)}{σ:St}{H H':Hp}{s:Shared}{b:Addr}(I:Inv X pins σ H s)(hb:s.heap.objs.size<=b)(hn:H' b=none):mN X pins H' b:=by
 refine⟨hn,LY (JY I.lt hb),I.nofs hb,.inr (Ku I.sz hb),λ x c e z=>?_,λ p hp z=>?_⟩
 ·obtain⟨v,q⟩:=I.cell x c e;exact absurd (JY q.lt (by rw [z];exact hb)) (KZ _)
 ·exact absurd (JY (JS (I.pin p hp).1) (by rw [z];exact hb)) (KZ _)
structure yU(P:Program)(w:World)(K:W.Frag)(tg:Expr)(J:It)(fp:List Addr)(it:Addr)(tn:Nat->Heap->Prop):Prop where
 mem:it∈fp
 obj:∀ i h,tn i h->∀ b∈fp,∃ o,h.get? b=some o/\∀ v,o.data ≠ .cell v
 keep:∀ i h h',tn i h->(∀ b∈fp,∀ o,h.get? b=some o->h'.get? b=some o)->tn i h'
 item:∀ (X:Cx),X.prog=P->X.w=w->X.K=K->X.calm=true->∀ (i:Nat) (pins:List (Addr × Obj)) (s:Shared) (σ:St) (H:Hp) (E:Value->Shared->Prop),Inv X pins σ H s->(∀ b∈fp,mN X pins H b)->tn i s.heap->J.go i H →
  wpAny (model P w) X.A (pyNext (.ref it)) (λ r s1=>∃ u,r=some u /\
   wpAny (model P w) X.A (letOwnedTupleGo tg (.ref it) u) (λ _ s2=>∃ x H',Inv X pins σ H' s2/\bq x u/\J.yld i H x H'/\tn (i+1) s2.heap/\∀ b∈fp,H' b=none) E s1) E s
 done:∀ (X:Cx),X.prog=P->X.w=w->X.K=K->X.calm=true->∀ (i:Nat) (pins:List (Addr × Obj)) (s:Shared) (σ:St) (H:Hp) (E:Value->Shared->Prop),Inv X pins σ H s->(∀ b∈fp,mN X pins H b)->tn i s.heap->J.stop i H →
  wpAny (model P w) X.A (pyNext (.ref it)) (λ r s1=>r=none/\Inv X pins σ H s1) E s
 self:∀ (A:Around) (i:Nat) (s:Shared) (Q:Value->Shared->Prop) (E:Value->Shared->Prop),tn i s.heap->Q (.ref it) s->wpAny (model P w) A (pyIter (.ref it)) Q E s
abbrev TI:=St->Hp->(It->Hp->Prop)->Prop
def PIE(X:Cx)(pins:List (Addr × Obj))(σ:St)(tg:Expr)(R:It->Hp->Prop)(itv:Value)(s2:Shared):Prop:=
 ∃ (it:Addr) (fp:List Addr) (tn:Nat->Heap->Prop) (J:It) (H':Hp),itv=.ref it/\Inv X pins σ H' s2/\yU X.prog X.w X.K tg J fp it tn/\tn 0 s2.heap/\(∀ b∈fp,mN X pins H' b)/\R J H'
def PI(X:Cx)(tg iter:Expr)(wi:TI):Prop:=
 ∀ (pins:List (Addr × Obj)) (s:Shared) (σ:St) (H:Hp) (R:It->Hp->Prop),Inv X pins σ H s->wi σ H R →
  wpAny (model X.prog X.w) X.A (eval iter X.env) (λ v s1=>wpAny (model X.prog X.w) X.A (pyIter v) (PIE X pins σ tg R) X.xe s1) X.xe s
theorem Ah{M:Model}{A:Around}{E:Value->Shared->Prop}{s:Shared}{tg:Expr}{it:Addr}{u:Value}{o:Obj}{n:String}{vs:Array Value}{Q:Unit->Shared->Prop}(ho:s.heap.get? it=some o)(hc:o.cls=.type n)(hd:o.data=.fields vs)
    (hn:["enumerate", "zip", "dict_itemiterator", "dict_reverseitemiterator", "odict_iterator", "itertools.zip_longest", "itertools.pairwise"].contains n=false) (hQ:Q () s):wpAny M A (letOwnedTupleGo tg (.ref it) u) Q E s:=by
  unfold letOwnedTupleGo
  cases tg<;>first
    | exact JV hQ
    | (cases u<;>first
        | exact JV hQ
        | (refine JK (wpAny_load ho ?_)
           rw [hc,hd]
           show wpAny M A (if (["enumerate", "zip", "dict_itemiterator", "dict_reverseitemiterator", "odict_iterator", "itertools.zip_longest", "itertools.pairwise"].contains n && vs[0]? == some (rawInt _))=true then _ else _) Q E s
           rw [JQ (by intro h;rw [hn,Bool.false_and] at h;cases h)];exact JV hQ))
def Itl(K:W.Frag)(a:Addr):It:=
 ⟨λ i H=>∃ xs x,SqL K H a xs/\xs[i]? = some x,λ i H x H'=>H'=H/\∀ xs,SqL K H a xs->xs[i]? = some x,λ i H=>∃ xs,SqL K H a xs/\xs.length<=i⟩
def Itt(K:W.Frag)(a:Addr):It:=
 ⟨λ i H=>∃ xs x,SqT K H a xs/\xs[i]? = some x,λ i H x H'=>H'=H/\∀ xs,SqT K H a xs->xs[i]? = some x,λ i H=>∃ xs,SqT K H a xs/\xs.length<=i⟩
def Itr(lo:Int)(n:Nat):It:=⟨λ i _=>i < n,λ i H x H'=>H'=H/\x=.int (lo+i),λ i _=>n<=i⟩
theorem uz{P:Program}{w:World}{K:W.Frag}{tg:Expr}(a it:Addr):yU P w K tg (Itl K a) [it] it (λ i h=>h.IsListIter it a i) where
 mem:=by simp
 obj:=λ i h st b hb=>by
  have e:b=it:=by simpa using hb
  subst e;obtain⟨o,e,c,d⟩:=st;exact⟨o,e,λ v z=>by rw [d] at z;cases z⟩
 keep:=λ i h h' st k=>st.at λ o e=>k it (by simp) o e
 item:=by
  intro X hP hw hK hc i pins s σ H E I hf st hg;subst hP hw hK;obtain⟨xs,x,hq,hx⟩:=hg;obtain⟨its,rv,p,hz⟩:=I.list hq;obtain⟨u,hu,ru⟩:=rv.get hx;obtain⟨f0,f1,f2,f3,f4,f5⟩:=hf it (by simp);refine wpAny_pyNext_list_item st p.isList (x:=u) (by simpa using hu) λ h' st' sb=>?_;have I1:Inv X pins σ H { s with heap:=h' }:=I.turned (t':=s.toks) (λ b o hb e=>(sb.2 b hb).trans e) f0 f1 f3 f4 f5;obtain⟨o,e,c,d⟩:=id st';exact⟨u,rfl,Ah (s:={ s with heap:=h' }) e c d (by decide) ⟨x,H,I1,ru,⟨rfl,λ ys hy=>by rw [I.list_inj hy hq];exact hx⟩,st',λ b hb=>(hf b hb).1⟩⟩
 done:=by
  intro X hP hw hK hc i pins s σ H E I hf st hg;subst hP hw hK;obtain⟨xs,hq,hx⟩:=hg;obtain⟨its,rv,p,hz⟩:=I.list hq;obtain⟨f0,f1,f2,f3,f4,f5⟩:=hf it (by simp);have hl:=rv.length;exact wpAny_pyNext_list_end (I.ok.hd hc) st p.isList (by simp;omega) λ h' eb=>⟨rfl,I.turned (t':=s.toks) (λ b o hb e=>eb b o hb e) f0 f1 f3 f4 f5⟩
 self:=λ _ _ _ _ _ st h=>wpAny_pyIter_listiter st h
theorem qf{P:Program}{w:World}{K:W.Frag}{tg:Expr}(a it:Addr):yU P w K tg (Itt K a) [it] it (λ i h=>h.IsTupleIter it a i) where
 mem:=by simp
 obj:=λ i h st b hb=>by
  have e:b=it:=by simpa using hb
  subst e;obtain⟨o,e,c,d⟩:=st;exact⟨o,e,λ v z=>by rw [d] at z;cases z⟩
 keep:=λ i h h' st k=>st.at λ o e=>k it (by simp) o e
 item:=by
  intro X hP hw hK hc i pins s σ H E I hf st hg;subst hP hw hK;obtain⟨xs,x,hq,hx⟩:=hg;obtain⟨its,rv,p,hz⟩:=I.tuple hq;obtain⟨u,hu,ru⟩:=rv.get hx;obtain⟨f0,f1,f2,f3,f4,f5⟩:=hf it (by simp);refine wpAny_pyNext_tuple_item st (show s.heap.IsTuple a its.toArray from p) (x:=u) (by simpa using hu) λ h' st' sb=>?_;have I1:Inv X pins σ H { s with heap:=h' }:=I.turned (t':=s.toks) (λ b o hb e=>(sb.2 b hb).trans e) f0 f1 f3 f4 f5;obtain⟨o,e,c,d⟩:=id st';exact⟨u,rfl,Ah (s:={ s with heap:=h' }) e c d (by decide) ⟨x,H,I1,ru,⟨rfl,λ ys hy=>by rw [I.tuple_inj hy hq];exact hx⟩,st',λ b hb=>(hf b hb).1⟩⟩
 done:=by
  intro X hP hw hK hc i pins s σ H E I hf st hg;subst hP hw hK;obtain⟨xs,hq,hx⟩:=hg;obtain⟨its,rv,p,hz⟩:=I.tuple hq;obtain⟨f0,f1,f2,f3,f4,f5⟩:=hf it (by simp);have hl:=rv.length;exact wpAny_pyNext_tuple_end (I.ok.hd hc) st (show s.heap.IsTuple a its.toArray from p) (by simp;omega) λ h' eb=>⟨rfl,I.turned (t':=s.toks) (λ b o hb e=>eb b o hb e) f0 f1 f3 f4 f5⟩
 self:=λ _ _ _ _ _ st h=>wpAny_pyIter_tupleiter st h
theorem qg{P:Program}{w:World}{K:PySem.W.Frag}{tg:Expr}(it:Addr)(lo:Int)(n:Nat):yU P w K tg (Itr lo n) [it] it (λ i h=>IsRangeIter h it (lo+(i:Nat) * 1) ((n:Int) - (i:Nat)) 1) where
 mem:=by simp
 obj:=λ i h st b hb=>by
  have e:b=it:=by simpa using hb
  subst e
  exact⟨_,st,λ v z=>by
   have z':Data.fields _=Data.cell v:=z;cases z'⟩
 keep:=λ i h h' st k=>k it (by simp) _ st
 item:=by
  intro X hP hw hK hc i pins s σ H E I hf st hg;subst hP hw hK;obtain⟨f0,f1,f2,f3,f4,f5⟩:=hf it (by simp);have W:=Walks.range (prog:=X.prog) (w:=X.w) (I.ok.hd hc) it lo 1 n;refine W.item i s _ _ hg st λ v h' tk hv st' kk=>?_;obtain⟨t,rfl⟩:=hv;have I1:Inv X pins σ H { s with heap:=h',toks:=tk }:=I.turned (λ b o hb e=>kk b o (by simpa using hb) e) f0 f1 f3 f4 f5;refine⟨_,rfl,Ah (s:={ s with heap:=h',toks:=tk }) (n := "range_iterator") st' rfl rfl (by decide) ⟨.int (lo+i),H,I1,⟨t,?_⟩,⟨rfl,rfl⟩,st',λ b hb=>(hf b hb).1⟩⟩;rw [Mc]
 done:=by
  intro X hP hw hK hc i pins s σ H E I hf st hg;subst hP hw hK;obtain⟨f0,f1,f2,f3,f4,f5⟩:=hf it (by simp);exact wpAny_pyNext_range_end (I.ok.hd hc) st (by have:n<=i:=hg;omega) λ h' eb=>⟨rfl,I.turned (t':=s.toks) (λ b o hb e=>eb b o hb e) f0 f1 f3 f4 f5⟩
 self:=λ _ _ _ _ _ st h=>wpAny_pyIter_rangeiter st h
section
variable {X:Cx}{tg:Expr}
theorem w9{pins:List (Addr × Obj)}{σ:St}{H:Hp}{s:Shared}{R:It->Hp->Prop}{E:Value->Shared->Prop}{lo hi:Int}{t u v:Tok}{tk:Nat}(I:Inv X pins σ H s)(h1:-(2 ^ 62)<=lo)(h2:lo < 2 ^ 62)(h3:-(2 ^ 62)<=hi)(h4:hi < 2 ^ 62)
  (q:R (Itr lo (hi - lo).toNat) H):wpAny (model X.prog X.w) X.A (pyIter (.ref s.heap.objs.size)) (PIE X pins σ tg R) E { s with heap:=s.heap.push { cls:=.type "range",data:=.fields #[.int lo t,.int hi u,.int 1 v] },toks:=tk }:=by
 refine wpAny_pyIter_range (IsRange.new ..) (small_one h1 h2 h3 h4) ?_;have I1:Inv X pins σ H { s with heap:=s.heap.push { cls:=.type "range",data:=.fields #[.int lo t,.int hi u,.int 1 v] },toks:=tk }:=I.kept λ b o e=>JL _ e
 refine⟨(s.heap.push { cls:=.type "range",data:=.fields #[.int lo t,.int hi u,.int 1 v] }).objs.size,[(s.heap.push { cls:=.type "range",data:=.fields #[.int lo t,.int hi u,.int 1 v] }).objs.size],_,_,H,rfl,
  I1.kept (t':=tk) λ b o e=>JL _ e,qg _ lo (hi - lo).toNat,?_,λ b hb=>?_,q⟩
 ·have e1:lo+((0:Nat):Int) * 1=lo:=by simp
  have e2:(((hi - lo).toNat:Nat):Int) - ((0:Nat):Int)=Builtin.Range.rangeSize lo hi 1:=by rw [rangeSize_one];split<;>omega
  show IsRangeIter _ _ (lo+((0:Nat):Int) * 1) ((((hi - lo).toNat:Nat):Int) - ((0:Nat):Int)) 1
  rw [e1,e2];exact JX _ rfl
 ·have e:b=(s.heap.push { cls:=.type "range",data:=.fields #[.int lo t,.int hi u,.int 1 v] }).objs.size:=by simpa using hb
  subst e;exact I1.fpOk (JO _) (I1.hok.fresh (JO _))
def Dr(ta:TA):TI:=λ σ H R=>ta σ H λ vs H1=>∃ j:Int,vs=[.int j]/\-(2 ^ 62)<=j/\j < 2 ^ 62/\R (Itr 0 j.toNat) H1
theorem dO{a:Expr}{ta:TA}{p pos:Pos}(hg:Gl X "range")(hm:X.mg "range"=none)(ha:PA X [a] ta)(hs:starEach [a] X.env=[(false,eval a X.env)]:=by rfl):PI X tg (.Call (.Name "range" p) [a] [] pos) (Dr ta):=by
 intro pins s σ H R I h;refine Call_ (gL I hg hm boot_range (KU (thn (ha pos pins s σ H _ I h) λ us s1 ⟨vs,H1,I1,r1,q1⟩=>?_) hs rfl));obtain⟨j,e,q1,q2,q⟩:=q1;subst e
 cases r1 with
 | cons r rr=>
  cases rr;obtain⟨t,rfl⟩:=r;exact call_range_1 (w9 I1 (by omega) (by omega) q1 q2 (by simpa using q))
def Ic(wi:TI)(g:TG)(tb:TS):TS:=λ D σ H=>wi σ H λ J H1=>∃ W:Nat->Nat->St->Hp->Prop,(∃ m,W 0 m σ H1)/\∀ i m σ H,W i m σ H →
 (J.stop i H/\D.nx σ H)\/(J.go i H/\∃ N:St->Hp->Prop,(∀ σ' H',N σ' H'->∃ m',m' < m/\W (i+1) m' σ' H')/\∀ x H',J.yld i H x H'->g x σ H' λ σ2 H2=>tb { D with nx:=N,ct:=N,bk:=D.nx } σ2 H2)
def k7(fp:List Addr)(h:Heap):List (Addr × Obj):=fp.filterMap λ b=>(h.get? b).map λ o=>(b,o)
theorem et{fp:List Addr}{h:Heap}{b:Addr}{o:Obj}(hb:b∈fp)(e:h.get? b=some o):(b,o)∈k7 fp h:=List.mem_filterMap.mpr ⟨b,hb,by rw [e];rfl⟩
theorem uN{fp:List Addr}{h:Heap}{p:Addr × Obj}(hp:p∈k7 fp h):p.1∈fp/\h.get? p.1=some p.2:=by
 obtain⟨b,hb,e⟩:=List.mem_filterMap.mp hp
 cases q:h.get? b with
 | none=>rw [q] at e;cases e
 | some o=>
  rw [q] at e;have e':(b,o)=p:=Kj e;subst e';exact⟨hb,q⟩
theorem Inv.pinned{pins:List (Addr × Obj)}{σ:St}{H:Hp}{s:Shared}{fp:List Addr}(I:Inv X pins σ H s)(hf:∀ b∈fp,mN X pins H b)(ho:∀ b∈fp,∃ o,s.heap.get? b=some o/\∀ v,o.data ≠ .cell v):Inv X (pins++k7 fp s.heap) σ H s:=
 I.pins_of λ p hp=>(Ke.mp hp).elim (λ z=>I.pin p (Kf _ z)) λ z=>by
  obtain⟨hb,e⟩:=uN z;obtain⟨f0,f1,f2,_⟩:=hf p.1 hb;obtain⟨o,e',d⟩:=ho p.1 hb;rw [e] at e';cases e';exact⟨e,f0,f1,f2,d⟩
theorem Inv.unpinned{pins pl:List (Addr × Obj)}{σ:St}{H:Hp}{s:Shared}(I:Inv X (pins++pl) σ H s):Inv X pins σ H s:=I.pins_of λ p hp=>I.pin p (Kf _ (KA _ hp))
theorem DQ{iter:Expr}{body:List Stmt}{wi:TI}{g:TG}{tb:TS}{pos:Pos}(hp:PassesOwn (model X.prog X.w) X.A X.env X.xe)(hc:X.calm=true)(hi:PI X tg iter wi)(hg:PG X tg g)(hb:PSs X body tb)
  (hs:∀ x,foldedSetIterable iter X.env x=pure x:=by intro _;rfl):PS X (.For tg iter body [] pos) (Ic wi g tb):=by
 intro pins s σ H D I h;refine wpAny_For (thn (hi pins s σ H _ I h) λ v s1 h1=>thn h1 λ itv s2 h2=>?_) hs;obtain⟨it,fp,tn,J,H2,e,I2,T,st2,f2,W,⟨m0,w0⟩,turn⟩:=h2;subst e;have stat:∀ {H':Hp},(∀ b∈fp,H' b=none)->∀ b∈fp,mN X pins H' b:=λ hn b hb=>⟨hn b hb,(f2 b hb).2⟩;refine codeAny_forLoop_any (λ n s'=>∃ i σ' H',Inv X pins σ' H' s'/\tn i s'.heap/\(∀ b∈fp,H' b=none)/\W i n σ' H') ?_ m0 ⟨0,σ,H2,I2,st2,λ b hb=>(f2 b hb).1,w0⟩;rintro n s3 ⟨i,σ3,H3,I3,st3,fr3,w3⟩
 rcases turn i n σ3 H3 w3 with ⟨stop,qn⟩|⟨go,N,hN,step⟩
 ·refine K3 hp (thn (T.done X rfl rfl rfl hc i pins s3 σ3 H3 X.xe I3 (stat fr3) st3 stop) λ r s4 ⟨hr,I4⟩=>?_);subst hr;exact Me ⟨σ3,H3,I4,qn⟩
 ·refine K3 hp (thn (T.item X rfl rfl rfl hc i pins s3 σ3 H3 X.xe I3 (stat fr3) st3 go) λ r s4 ⟨u,hr,h4⟩=>?_);subst hr;refine K3 hp (thn h4 λ _ s5 ⟨x,H5,I5,r5,y5,st5,fr5⟩=>?_);have I5':=I5.pinned (stat fr5) (T.obj _ _ st5);refine K3 hp (thn (hg _ s5 σ3 H5 x u _ I5' r5 (step x H5 y5)) λ _ s6 ⟨σ6,H6,I6,q6⟩=>?_);refine K3 hp (thn (hb _ s6 σ6 H6 _ I6 q6) λ f s7 q7=>?_)
  have again:∀ {σ7:St} {H7:Hp},Inv X (pins++k7 fp s5.heap) σ7 H7 s7->N σ7 H7->∃ m,m < n/\∃ i σ' H',Inv X pins σ' H' s7/\tn i s7.heap/\(∀ b∈fp,H' b=none)/\W i m σ' H':=λ {σ7 H7} I7 n7=>by
   obtain⟨m',hm,w7⟩:=hN σ7 H7 n7;refine⟨m',hm,i+1,σ7,H7,I7.unpinned,T.keep _ _ _ st5 λ b hb o e=>(I7.pin (b,o) (Kf _ (Kf _ (et hb e)))).1,λ b hb=>?_,w7⟩;obtain⟨o,e,d⟩:=T.obj _ _ st5 b hb;exact(I7.pin (b,o) (Kf _ (Kf _ (et hb e)))).2.1
  cases f with
  | next=>obtain⟨σ7,H7,I7,n7⟩:=q7;exact again I7 n7
  | cont=>obtain⟨σ7,H7,I7,n7⟩:=q7;exact again I7 n7
  | brk=>obtain⟨σ7,H7,I7,q7⟩:=q7;exact⟨σ7,H7,I7.unpinned,q7⟩
  | ret v=>obtain⟨x7,σ7,H7,I7,r7,q7⟩:=q7;exact⟨x7,σ7,H7,I7.unpinned,r7,q7⟩
end
theorem yn{K:PySem.W.Frag}{a:Addr}{xs:List V}{g:TG}{tb:TS}{D:ou}{σ:St}{H:Hp}(Pv:Nat->St->Hp->Prop)(h0:Pv 0 σ H)(hl:∀ i σ H,i<=xs.length->Pv i σ H->SqL K H a xs)
  (hs:∀ i x σ H,xs[i]? = some x->Pv i σ H->g x σ H λ σ2 H2=>tb { D with nx:=Pv (i+1),ct:=Pv (i+1),bk:=D.nx } σ2 H2) (hd:∀ σ H,Pv xs.length σ H->D.nx σ H) :
  ∃ W:Nat->Nat->St->Hp->Prop,(∃ m,W 0 m σ H)/\∀ i m σ H,W i m σ H →
   ((Itl K a).stop i H/\D.nx σ H)\/((Itl K a).go i H/\∃ N:St->Hp->Prop,(∀ σ' H',N σ' H'->∃ m',m' < m/\W (i+1) m' σ' H')/\∀ x H',(Itl K a).yld i H x H'->g x σ H' λ σ2 H2=>tb { D with nx:=N,ct:=N,bk:=D.nx } σ2 H2):=by
 refine⟨λ i m σ H=>m=xs.length - i/\i<=xs.length/\Pv i σ H,⟨xs.length,by simp,Kz _,h0⟩,?_⟩;rintro i m σ H ⟨rfl,hi,p⟩;have q:=hl i σ H hi p
 by_cases hlt:i < xs.length
 ·refine .inr ⟨⟨xs,xs[i],q,by simp [hlt]⟩,Pv (i+1),λ σ' H' p'=>⟨xs.length - (i+1),by omega,rfl,hlt,p'⟩,λ x H' y=>?_⟩;obtain⟨e,y⟩:=y;subst e;exact hs i x σ _ (y xs q) p
 ·have e:i=xs.length:=by omega
  subst e;exact .inl ⟨⟨xs,q,JO _⟩,hd σ H p⟩
theorem vN{lo:Int}{n:Nat}{g:TG}{tb:TS}{D:ou}{σ:St}{H:Hp}(Pv:Nat->St->Hp->Prop)(h0:Pv 0 σ H)
  (hs:∀ i σ H,i < n->Pv i σ H->g (.int (lo+i)) σ H λ σ2 H2=>tb { D with nx:=Pv (i+1),ct:=Pv (i+1),bk:=D.nx } σ2 H2) (hd:∀ σ H,Pv n σ H->D.nx σ H) :
  ∃ W:Nat->Nat->St->Hp->Prop,(∃ m,W 0 m σ H)/\∀ i m σ H,W i m σ H →
   ((Itr lo n).stop i H/\D.nx σ H)\/((Itr lo n).go i H/\∃ N:St->Hp->Prop,(∀ σ' H',N σ' H'->∃ m',m' < m/\W (i+1) m' σ' H')/\∀ x H',(Itr lo n).yld i H x H'->g x σ H' λ σ2 H2=>tb { D with nx:=N,ct:=N,bk:=D.nx } σ2 H2):=by
 refine⟨λ i m σ H=>m=n - i/\i<=n/\Pv i σ H,⟨n,by simp,Kz _,h0⟩,?_⟩;rintro i m σ H ⟨rfl,hi,p⟩
 by_cases hlt:i < n
 ·refine .inr ⟨hlt,Pv (i+1),λ σ' H' p'=>⟨n - (i+1),by omega,rfl,hlt,p'⟩,λ x H' y=>?_⟩;obtain⟨e,y⟩:=y;subst e y;exact hs i σ _ hlt p
 ·have e:i=n:=by omega
  subst e;exact .inl ⟨JO _,hd σ H p⟩
abbrev R2:=V->V->Hp->VK->Prop
def OpR(X:Cx)(f:Value->Value->Sem Value)(r:R2):Prop:=
 ∀ (pins:List (Addr × Obj)) (s:Shared) (σ:St) (H:Hp) (x y:V) (v u:Value) (Q:VK),Inv X pins σ H s->bq x v->bq y u->r x y H Q →
  wpAny (model X.prog X.w) X.A (f v u) (EP X pins σ Q) X.xe s
def UnR(X:Cx)(f:Value->Sem Value)(r:V->Hp->VK->Prop):Prop:=
 ∀ (pins:List (Addr × Obj)) (s:Shared) (σ:St) (H:Hp) (x:V) (v:Value) (Q:VK),Inv X pins σ H s->bq x v->r x H Q →
  wpAny (model X.prog X.w) X.A (f v) (EP X pins σ Q) X.xe s
def bK(X:Cx)(f:Value)(r:List V->Hp->VK->Prop):Prop:=
 ∀ (pins:List (Addr × Obj)) (s:Shared) (σ:St) (H:Hp) (xs:List V) (us:List Value) (Q:VK),Inv X pins σ H s->aU xs us->r xs H Q →
  wpAny (model X.prog X.w) X.A (call f us) (EP X pins σ Q) X.xe s
def tOp(r:R2)(ta tb:TE):TE:=λ σ H Q=>ta σ H λ x H1=>tb σ H1 λ y H2=>r x y H2 Q
def tUn(r:V->Hp->VK->Prop)(ta:TE):TE:=λ σ H Q=>ta σ H λ x H1=>r x H1 Q
def rI(C:Int->Int->Prop)(g:Int->Int->V):R2:=λ x y H Q=>∃ i j,x=.int i/\y=.int j/\C i j/\Q (g i j) H
def rI0(g:Int->Int->V):R2:=λ x y H Q=>∃ i j,x=.int i/\y=.int j/\Q (g i j) H
def rU(g:Int->V):V->Hp->VK->Prop:=λ x H Q=>∃ i,x=.int i/\Q (g i) H
section
variable {X:Cx}{a b c:Expr}{ta tb tc:TE}{pos:Pos}
theorem GO(ha:PE X a ta)(hb:PE X b tb){pins:List (Addr × Obj)}{s:Shared}{σ:St}{H:Hp}{R:V->V->Hp->Prop}(I:Inv X pins σ H s)
  (h:ta σ H λ x H1=>tb σ H1 λ y H2=>R x y H2) {Q:Value->Shared->Prop} {f:Value->Value->Sem Value}
  (hf:∀ v u s2 x y H2,Inv X pins σ H2 s2->bq x v->bq y u->R x y H2->wpAny (model X.prog X.w) X.A (f v u) Q X.xe s2) :
  wpAny (model X.prog X.w) X.A (eval a X.env) (λ v s₁=>wpAny (model X.prog X.w) X.A (eval b X.env) (λ u s₂=>wpAny (model X.prog X.w) X.A (f v u) Q X.xe s₂) X.xe s₁) X.xe s:=by
 refine thn (ha pins s σ H _ I h) λ v s1 ⟨x,H1,I1,r1,q1⟩=>?_;refine thn (hb pins s1 σ H1 _ I1 q1) λ u s2 ⟨y,H2,I2,r2,q2⟩=>?_;exact hf v u s2 x y H2 I2 r1 r2 q2
theorem dG{op:Operator}{r:R2}(ho:OpR X (binaryOp op) r)(ha:PE X a ta)(hb:PE X b tb):PE X (.BinOp a op b pos) (tOp r ta tb):=by
 intro pins s σ H Q I h;exact wpAny_BinOp (GO ha hb I h λ v u s2 x y H2 I2 rx ry q=>ho pins s2 σ H2 x y v u Q I2 rx ry q)
theorem zL{op:UnaryOp}{r:V->Hp->VK->Prop}(ho:UnR X (unaryOp op) r)(ha:PE X a ta):PE X (.UnaryOp op a pos) (tUn r ta):=by
 intro pins s σ H Q I h;exact UnaryOp_ (thn (ha pins s σ H _ I h) λ v s1 ⟨x,H1,I1,r1,q1⟩=>ho pins s1 σ H1 x v Q I1 r1 q1)
theorem opI{f:Value->Value->Sem Value}{C:Int->Int->Prop}{g:Int->Int->Int}
  (rule:∀ (i j:Int) (t u:Tok) (s:Shared) (Q:Value->Shared->Prop) (E:Value->Shared->Prop),C i j->Q (.int (g i j) s.toks) { s with toks:=s.toks+1 }->wpAny (model X.prog X.w) X.A (f (.int i t) (.int j u)) Q E s) :
  OpR X f (rI C λ i j=>.int (g i j)):=by
 intro pins s σ H x y v u Q I rx ry h;obtain⟨i,j,rfl,rfl,hc,q⟩:=h;obtain⟨t,rfl⟩:=rx;obtain⟨t',rfl⟩:=ry;exact rule i j t t' s _ _ hc ⟨.int (g i j),H,I.tok _,⟨_,rfl⟩,q⟩
theorem Ir{f:Value->Value->Sem Value}{g:Int->Int->Int}
  (rule:∀ (i j:Int) (t u:Tok) (s:Shared) (Q:Value->Shared->Prop) (E:Value->Shared->Prop),Q (.int (g i j) s.toks) { s with toks:=s.toks+1 }->wpAny (model X.prog X.w) X.A (f (.int i t) (.int j u)) Q E s) :
  OpR X f (rI0 λ i j=>.int (g i j)):=by
 intro pins s σ H x y v u Q I rx ry h;obtain⟨i,j,rfl,rfl,q⟩:=h;obtain⟨t,rfl⟩:=rx;obtain⟨t',rfl⟩:=ry;exact rule i j t t' s _ _ ⟨.int (g i j),H,I.tok _,⟨_,rfl⟩,q⟩
theorem FN{f:Value->Value->Sem Value}{g:Int->Int->Bool}
  (rule:∀ (i j:Int) (t u:Tok) (s:Shared) (Q:Value->Shared->Prop) (E:Value->Shared->Prop),Q (.bool (g i j)) s->wpAny (model X.prog X.w) X.A (f (.int i t) (.int j u)) Q E s) :
  OpR X f (rI0 λ i j=>.bl (g i j)):=by
 intro pins s σ H x y v u Q I rx ry h;obtain⟨i,j,rfl,rfl,q⟩:=h;obtain⟨t,rfl⟩:=rx;obtain⟨t',rfl⟩:=ry;exact rule i j t t' s _ _ ⟨.bl (g i j),H,I,rfl,q⟩
def GS(i j:Int):Prop:=0 < j/\j < 1073741824
def GR(i j:Int):Prop:=0<=j/\j<=1000000/\i.natAbs < 2 ^ 64
def iQ(i j:Int):Prop:=(-(2 ^ 64) < i/\i < 2 ^ 64)\/(-(2 ^ 64) < j/\j < 2 ^ 64)
theorem iQ.ok{i j:Int}(h:iQ i j):IntMulOk i j:=by
 rcases h with ⟨h1,h2⟩|⟨h1,h2⟩
 ·exact .of_left (intBits_le_64 h1 h2)
 ·exact .of_right (intBits_le_64 h1 h2)
theorem oG:OpR X (binaryOp .Add) (rI0 λ i j=>.int (i+j)):=Ir λ _ _ _ _ _ _ _ q=>add_int q
theorem DZ:OpR X (binaryOp .Sub) (rI0 λ i j=>.int (i - j)):=Ir λ _ _ _ _ _ _ _ q=>sub_int q
theorem fQ:OpR X (binaryOp .Mult) (rI iQ λ i j=>.int (i * j)):=opI λ _ _ _ _ _ _ _ hc q=>mul_int q hc.ok
theorem A2:OpR X (binaryOp .FloorDiv) (rI GS λ i j=>.int (i / j)):=opI λ i j _ _ _ _ _ hc q=>by
 have h1:(0:Int) < j:=hc.1;have h2:j < 1073741824:=hc.2;exact floordiv_int (by omega) (by rw [Lx i (by omega)];exact q) (.inl (PyProof.noPylong_small (by omega)))
theorem gI:OpR X (binaryOp .Mod) (rI (λ _ j=>0 < j) λ i j=>.int (i % j)):=opI λ i j _ _ _ _ _ hc q=>by
 have h1:(0:Int) < j:=hc;exact mod_int' (by omega) (by rw [Int.fmod_eq_emod_of_nonneg i (by omega)];exact q)
theorem D0:OpR X (binaryOp .Pow) (rI GR λ i j=>.int (i ^ j.toNat)):=opI λ _ _ _ _ _ _ _ hc q=>pow_int_small hc.1 hc.2.1 hc.2.2 q
theorem unI{f:Value->Sem Value}{g:Int->Int}
  (rule:∀ (i:Int) (t:Tok) (s:Shared) (Q:Value->Shared->Prop) (E:Value->Shared->Prop),Q (.int (g i) s.toks) { s with toks:=s.toks+1 }->wpAny (model X.prog X.w) X.A (f (.int i t)) Q E s) :
  UnR X f (rU λ i=>.int (g i)):=by
 intro pins s σ H x v Q I rx h;obtain⟨i,rfl,q⟩:=h;obtain⟨t,rfl⟩:=rx;exact rule i t s _ _ ⟨.int (g i),H,I.tok _,⟨_,rfl⟩,q⟩
theorem DB:UnR X (unaryOp .USub) (rU λ i=>.int (-i)):=unI λ _ _ _ _ _ q=>neg_int q
end
def CF:V->V->Bool
 | .non,.non=>true | .non,.int _=>true | .int _,.non=>true | .non,.bl _=>true | .bl _,.non=>true | .non,.str _=>true | .str _,.non=>true
 | .int _,.int _=>true | .bl _,.bl _=>true | .str _,.str _=>true | .byt _,.byt _=>true
 | .int _,.str _=>true | .str _,.int _=>true | .bl _,.str _=>true | .str _,.bl _=>true
 | _,_=>false
def rEq:R2:=λ x y H Q=>CF x y=true/\Q (.bl (decide (x=y))) H
def rNe:R2:=λ x y H Q=>CF x y=true/\Q (.bl (!decide (x=y))) H
theorem uj{i j:Int}:decide (V.int i=V.int j)=(i == j):=by
 rw [Li];simp
theorem zq{i j:Bool}:decide (V.bl i=V.bl j)=(i == j):=by
 rw [Li];simp
theorem ui{i j:Str}:decide (V.str i=V.str j)=(i == j):=by
 rw [Li];simp
theorem uk{i j:Array UInt8}:decide (V.byt i=V.byt j)=(i.toList == j.toList):=by
 rw [Li];cases i;cases j;simp
section
variable {X:Cx}{a b c:Expr}{ta tb tc:TE}{pos:Pos}
theorem aH{pins:List (Addr × Obj)}{σ:St}{H:Hp}{s:Shared}{Q:VK}{k k':Bool}(I:Inv X pins σ H s)(q:Q (.bl k) H)(e:k=k'):EP X pins σ Q (.bool k') s:=by
 subst e;exact⟨.bl k,H,I,rfl,q⟩
theorem Ha:OpR X (compareOp .Eq) rEq:=by
 intro pins s σ H x y v u Q I rx ry h;obtain⟨hs,q⟩:=h
 cases x with
 | non=>
  cases rx
  cases y with
  | non=>cases ry;exact PySem.EqNone.eq_none_none (aH I q (by simp))
  | bl j=>cases ry;exact PySem.EqNone.eq_none_bool (aH I q (by simp))
  | int j=>obtain⟨t',rfl⟩:=ry;exact PySem.EqNone.eq_none_int (aH I q (by simp))
  | str j=>obtain⟨t',rfl⟩:=ry;exact PySem.EqNone.eq_none_str (aH I q (by simp))
  | _=>exact absurd (show false=true from hs) JZ
 | bl i=>
  cases rx
  cases y with
  | non=>cases ry;exact PySem.EqNone.eq_bool_none (aH I q (by simp))
  | bl j=>cases ry;exact eq_bool (aH I q zq)
  | str j=>obtain⟨t',rfl⟩:=ry;exact PySem.EqMixed.eq_bool_str (aH I q (by simp))
  | _=>exact absurd (show false=true from hs) JZ
 | int i=>
  obtain⟨t,rfl⟩:=rx
  cases y with
  | non=>cases ry;exact PySem.EqNone.eq_int_none (aH I q (by simp))
  | int j=>obtain⟨t',rfl⟩:=ry;exact eq_int (aH I q uj)
  | str j=>obtain⟨t',rfl⟩:=ry;exact PySem.EqMixed.eq_int_str (aH I q (by simp))
  | _=>exact absurd (show false=true from hs) JZ
 | str i=>
  obtain⟨t,rfl⟩:=rx
  cases y with
  | non=>cases ry;exact PySem.EqNone.eq_str_none (aH I q (by simp))
  | bl j=>cases ry;exact PySem.EqMixed.eq_str_bool (aH I q (by simp))
  | int j=>obtain⟨t',rfl⟩:=ry;exact PySem.EqMixed.eq_str_int (aH I q (by simp))
  | str j=>obtain⟨t',rfl⟩:=ry;exact eq_str (aH I q ui)
  | _=>exact absurd (show false=true from hs) JZ
 | byt i=>
  obtain⟨t,rfl⟩:=rx
  cases y with
  | byt j=>obtain⟨t',rfl⟩:=ry;exact W.eq_bytes (aH I q uk)
  | _=>exact absurd (show false=true from hs) JZ
 | _=>cases y<;>exact absurd (show false=true from hs) JZ
theorem G7:OpR X (compareOp .NotEq) rNe:=by
 intro pins s σ H x y v u Q I rx ry h;obtain⟨hs,q⟩:=h
 cases x with
 | non=>
  cases rx
  cases y with
  | non=>cases ry;exact PySem.EqNone.ne_none_none (aH I q (by simp))
  | bl j=>cases ry;exact PySem.EqNone.ne_none_bool (aH I q (by simp))
  | int j=>obtain⟨t',rfl⟩:=ry;exact PySem.EqNone.ne_none_int (aH I q (by simp))
  | str j=>obtain⟨t',rfl⟩:=ry;exact PySem.EqNone.ne_none_str (aH I q (by simp))
  | _=>exact absurd (show false=true from hs) JZ
 | bl i=>
  cases rx
  cases y with
  | non=>cases ry;exact PySem.EqNone.ne_bool_none (aH I q (by simp))
  | bl j=>cases ry;exact ne_bool (aH I q (KC not zq))
  | str j=>obtain⟨t',rfl⟩:=ry;exact PySem.EqMixed.ne_bool_str (aH I q (by simp))
  | _=>exact absurd (show false=true from hs) JZ
 | int i=>
  obtain⟨t,rfl⟩:=rx
  cases y with
  | non=>cases ry;exact PySem.EqNone.ne_int_none (aH I q (by simp))
  | int j=>obtain⟨t',rfl⟩:=ry;exact ne_int (aH I q (KC not uj))
  | str j=>obtain⟨t',rfl⟩:=ry;exact PySem.EqMixed.ne_int_str (aH I q (by simp))
  | _=>exact absurd (show false=true from hs) JZ
 | str i=>
  obtain⟨t,rfl⟩:=rx
  cases y with
  | non=>cases ry;exact PySem.EqNone.ne_str_none (aH I q (by simp))
  | bl j=>cases ry;exact PySem.EqMixed.ne_str_bool (aH I q (by simp))
  | int j=>obtain⟨t',rfl⟩:=ry;exact PySem.EqMixed.ne_str_int (aH I q (by simp))
  | str j=>obtain⟨t',rfl⟩:=ry;exact ne_str (aH I q (KC not ui))
  | _=>exact absurd (show false=true from hs) JZ
 | byt i=>
  obtain⟨t,rfl⟩:=rx
  cases y with
  | byt j=>obtain⟨t',rfl⟩:=ry;exact W.ne_bytes (aH I q (KC not uk))
  | _=>exact absurd (show false=true from hs) JZ
 | _=>cases y<;>exact absurd (show false=true from hs) JZ
theorem De:OpR X (compareOp .Lt) (rI0 λ i j=>.bl (decide (i < j))):=FN λ _ _ _ _ _ _ _ q=>lt_int q
theorem G8:OpR X (compareOp .LtE) (rI0 λ i j=>.bl (decide (i<=j))):=FN λ _ _ _ _ _ _ _ q=>le_int q
theorem Df:OpR X (compareOp .Gt) (rI0 λ i j=>.bl (decide (j < i))):=FN λ _ _ _ _ _ _ _ q=>gt_int q
theorem G9:OpR X (compareOp .GtE) (rI0 λ i j=>.bl (decide (j<=i))):=FN λ _ _ _ _ _ _ _ q=>ge_int q
theorem D4:OpR X (compareOp .Is) (λ x y H Q=>y=.non/\Q (.bl (decide (x=.non))) H):=by
 intro pins s σ H x y v u Q I rx ry h;obtain⟨rfl,q⟩:=h;cases ry;refine is_none_gen (aH I q ?_)
 cases x<;>first
  | (cases rx;rfl)
  | (obtain⟨t,rfl⟩:=rx;rfl)
theorem A0:OpR X (compareOp .IsNot) (λ x y H Q=>y=.non/\Q (.bl (!decide (x=.non))) H):=by
 intro pins s σ H x y v u Q I rx ry h;obtain⟨rfl,q⟩:=h;cases ry;refine isnot_none_gen (aH I q ?_)
 cases x<;>first
  | (cases rx;rfl)
  | (obtain⟨t,rfl⟩:=rx;rfl)
theorem OpR.or{f:Value->Value->Sem Value}{r r':R2}(h:OpR X f r)(h':OpR X f r'):OpR X f (λ x y H Q=>r x y H Q\/r' x y H Q):=by
 intro pins s σ H x y v u Q I rx ry q
 rcases q with q|q
 ·exact h pins s σ H x y v u Q I rx ry q
 ·exact h' pins s σ H x y v u Q I rx ry q
theorem ae(b:Expr){op:CmpOp}(h:op ≠ .In:=by decide)(h2:op ≠ .NotIn:=by decide):behindInMarks op b=false:=by
 have e1:(op == CmpOp.In)=false:=by cases op<;>first|rfl|exact absurd rfl h
 have e2:(op == CmpOp.NotIn)=false:=by cases op<;>first|rfl|exact absurd rfl h2
 cases b<;>simp [behindInMarks,e1,e2]
theorem AS{op:CmpOp}{r:R2}(ho:OpR X (compareOp op) r)(ha:PE X a ta)(hb:PE X b tb)(hm:behindInMarks op b=false):PE X (.Compare a [op] [b] pos) (tOp r ta tb):=by
 intro pins s σ H Q I h;exact wpAny_Compare1 (GO ha hb I h λ v u s2 x y H2 I2 rx ry q=>ho pins s2 σ H2 x y v u Q I2 rx ry q) hm
def wA(t:TE):TT:=λ σ H Q=>t σ H λ x H'=>∃ k,x=.bl k/\Q k H'
theorem ni{op:CmpOp}{r:R2}(ho:OpR X (compareOp op) r)(ha:PE X a ta)(hb:PE X b tb)(hm:behindInMarks op b=false):PT X (.Compare a [op] [b] pos) (wA (tOp r ta tb)):=by
 intro pins s σ H Q I h
 refine wpAny_isTrue_Compare1 (thn (ha pins s σ H _ I h) λ v s1 ⟨x,H1,I1,r1,q1⟩=>thn (hb pins s1 σ H1 _ I1 q1) λ u s2 ⟨y,H2,I2,r2,q2⟩=>
  thn (ho pins s2 σ H2 x y v u _ I2 r1 r2 q2) λ c s3 ⟨z,H3,I3,r3,k,e,q3⟩=>?_) hm
 subst e;cases r3;exact Kw ⟨H3,I3,q3⟩
def sE(r r':R2)(ta tb tc:TE):TE:=λ σ H Q=>ta σ H λ x H1=>tb σ H1 λ y H2=>r x y H2 λ z H3=>∃ k,z=.bl k /\
 (if k=true then tc σ H3 λ w' H4=>r' y w' H4 Q else Q (.bl false) H3)
theorem xl{op op':CmpOp}{r r':R2}(ho:OpR X (compareOp op) r)(ho':OpR X (compareOp op') r')(ha:PE X a ta)(hb:PE X b tb)(hc:PE X c tc)
  (hm:lastMarks [op,op'] [b,c]=false:=by with_unfolding_all rfl):PE X (.Compare a [op,op'] [b,c] pos) (sE r r' ta tb tc):=by
 intro pins s σ H Q I h
 refine Compare_chain (thn (ha pins s σ H _ I h) λ v s1 ⟨x,H1,I1,r1,q1⟩=>chain_link (thn (hb pins s1 σ H1 _ I1 q1) λ u s2 ⟨y,H2,I2,r2,q2⟩=>
  thn (ho pins s2 σ H2 x y v u _ I2 r1 r2 q2) λ d s3 ⟨z,H3,I3,r3,k,e,q3⟩=>?_)) hm
 subst e;cases r3;refine Kw ?_
 cases k with
 | false=>exact ite_ff ⟨.bl false,H3,I3,rfl,q3⟩
 | true=>exact ite_tt (chain_last (thn (hc pins s3 σ H3 _ I3 q3) λ w' s4 ⟨z',H4,I4,r4,q4⟩=>ho' pins s4 σ H4 y z' u w' Q I4 r2 r4 q4))
theorem xc{op op':CmpOp}{r r':R2}(ho:OpR X (compareOp op) r)(ho':OpR X (compareOp op') r')(ha:PE X a ta)(hb:PE X b tb)(hc:PE X c tc)
  (hm:lastMarks [op,op'] [b,c]=false:=by with_unfolding_all rfl):PT X (.Compare a [op,op'] [b,c] pos) (wA (sE r r' ta tb tc)):=by
 intro pins s σ H Q I h
 refine isTrue_chain (thn (ha pins s σ H _ I h) λ v s1 ⟨x,H1,I1,r1,q1⟩=>test_link (thn (hb pins s1 σ H1 _ I1 q1) λ u s2 ⟨y,H2,I2,r2,q2⟩=>
  thn (ho pins s2 σ H2 x y v u _ I2 r1 r2 q2) λ d s3 ⟨z,H3,I3,r3,k,e,q3⟩=>?_)) hm
 subst e;cases r3;refine Kw ?_
 cases k with
 | false=>
  obtain⟨k',e',q'⟩:=q3;cases e';exact ite_ff ⟨H3,I3,q'⟩
 | true=>
  refine ite_tt (test_last (thn (hc pins s3 σ H3 _ I3 q3) λ w' s4 ⟨z',H4,I4,r4,q4⟩=>thn (ho' pins s4 σ H4 y z' u w' _ I4 r2 r4 q4) λ d' s5 ⟨z2,H5,I5,r5,k2,e2,q5⟩=>?_));subst e2;cases r5;exact Kw ⟨H5,I5,q5⟩
theorem k8:(sizeLine:Nat) < 2 ^ 63:=by rw [sizeLine_eq];decide
theorem rR{x:V}{us:List Value}(r:aU [x] us):∃ u,us=[u]/\bq x u:=by
 cases r with
 | cons r1 r2=>cases r2;exact⟨_,rfl,r1⟩
theorem zD{x y:V}{us:List Value}(r:aU [x,y] us):∃ u w',us=[u,w']/\bq x u/\bq y w':=by
 cases r with
 | cons r1 r2=>
  cases r2 with
  | cons r3 r4=>cases r4;exact⟨_,_,rfl,r1,r3⟩
theorem yC:bK X (.builtin "abs") (λ xs H Q=>∃ i,xs=[.int i]/\Q (.int (if i < 0 then -i else i)) H):=by
 intro pins s σ H xs us Q I r h;obtain⟨i,rfl,q⟩:=h;obtain⟨u,rfl,t,rfl⟩:=rR r;exact call_abs_int λ u tk=>⟨.int (if i < 0 then -i else i),H,I.tok _,⟨_,rfl⟩,q⟩
theorem vW(hc:X.calm=true):bK X (.builtin "max") (λ xs H Q=>∃ i j,xs=[.int i,.int j]/\Q (.int (if j > i then j else i)) H):=by
 intro pins s σ H xs us Q I r h;obtain⟨i,j,rfl,q⟩:=h;obtain⟨u,w',rfl,⟨t,rfl⟩,⟨t',rfl⟩⟩:=zD r;refine max_two_ints (I.ok.hd hc) λ h' tk k=>⟨_,H,I.kept k,?_,q⟩
 by_cases hj:j > i
 ·rw [JR hj,JR hj];exact⟨_,rfl⟩
 ·rw [JQ hj,JQ hj];exact⟨_,rfl⟩
theorem vV(hc:X.calm=true):bK X (.builtin "min") (λ xs H Q=>∃ i j,xs=[.int i,.int j]/\Q (.int (if j < i then j else i)) H):=by
 intro pins s σ H xs us Q I r h;obtain⟨i,j,rfl,q⟩:=h;obtain⟨u,w',rfl,⟨t,rfl⟩,⟨t',rfl⟩⟩:=zD r;refine min_two_ints (I.ok.hd hc) λ h' tk k=>⟨_,H,I.kept k,?_,q⟩
 by_cases hj:j < i
 ·rw [JR hj,JR hj];exact⟨_,rfl⟩
 ·rw [JQ hj,JQ hj];exact⟨_,rfl⟩
end
structure zA(h:Heap)(x dx C:Addr)(mA:Str->Option Value):Prop where
 obj:h.get? x=some (W.instObj C dx)
 ns:h.Ns1 dx mA
 ne:dx ≠ x
theorem vh{h:Heap}{dx:Addr}{mA:Str->Option Value}(n:h.Ns1 dx mA):∃ od,h.get? dx=some od/\∀ name,W.lookIn name od=some (mA name):=by
 obtain⟨o,es,ep,ho,hd,hk,_,hm⟩:=n;refine⟨o,ho,λ name=>?_⟩;have e:=hm name;unfold nsFind findBy at e;rw [←Array.find?_toList] at e;unfold W.lookIn;rw [hd];dsimp only;split
 ·rename_i y q;rw [q] at e;exact KC some e
 ·rename_i q;rw [q] at e
  have a:es.toList.any (·.refKey)=false:=by
   rw [List.any_eq_false];intro y hy;obtain⟨z,t,hkey⟩:=hk y (Array.mem_toList_iff.mp hy);simp [DictEntry.refKey,hkey]
  have a':¬ es.toList.any (·.refKey)=true:=by rw [a];exact JZ
  rw [JQ a'];exact KC some e
theorem zA.look{h:Heap}{x dx C:Addr}{mA:Str->Option Value}(I:zA h x dx C mA):∃ od,W.InstAt h x (W.instObj C dx) C (some od)/\∀ name,W.lookIn name od=some (mA name):=
 let ⟨od,ho,hl⟩:=vh I.ns
 ⟨od,⟨I.obj,rfl,rfl,ho⟩,hl⟩
section
variable {prog:Program}{w:World}{A:Around}{E:Value->Shared->Prop}{s:Shared}{K:PySem.W.Frag}{x dx C f:Addr}{mA:Str->Option Value}{name:Str}{v:Value}
theorem B7{expr:Bool}{Q:Value->Shared->Prop}(X:K.In s.heap)(I:zA s.heap x dx C mA)(hg:W.plainGet K C name=true)(hh:W.hasDictIn K C=true)
  (ha:W.findIn K (.ref C) name=some none) (hv:mA name=some v) (hv':W.handedIn v=true) (h:Q v { s with toks:=s.toks+1 }) :
  wpAny (model prog w) A (getAttr (.ref x) name expr) Q E s:=by
 obtain⟨od,J,hl⟩:=I.look;exact W.get_value X J (W.plainGet_of hg).1 (W.findObj_own hh ha rfl (by rw [hl,hv])) hv' h
theorem yj{pl:Sem Bool}{Q:Value × List Value->Shared->Prop}(X:K.In s.heap)(I:zA s.heap x dx C mA)(hg:W.plainGet K C name=true)
  (hf:W.findIn K (.ref C) name=some (some (.ref f))) (ht:W.isFn K (.ref f)=true) (hv:mA name=none) (h:Q (.ref f,[.ref x]) s) :
  wpAny (model prog w) A (getMethod (.ref x) name pl) Q E s:=by
 obtain⟨od,J,hl⟩:=I.look;exact W.method_fn X J (W.plainGet_of hg).1 (W.plainGet_of hg).2 hf (Mn.mp ht) (by show (W.lookIn name od).map (·.isSome)=some false;rw [hl,hv];rfl) h
theorem AD{ns:List Str}{Q:Unit->Shared->Prop}(X:K.In s.heap)(I:zA s.heap x dx C mA)
  (hs:W.findIn K (.ref C) "__setattr__"=some (some (.builtin "object.__setattr__"))) (hp:W.plainOver K C=true) (ht:W.takerIn K C name=some none) (hh:W.hasDictIn K C=true)
  (hw:PySem.Within mA ns) (hsz:ns.length<=sizeLine)
  (h:∀ h',zA h' x dx C (λ y=>if y=name then some v else mA y)->Heap.SameBut dx s.heap h'->Q () { s with heap:=h',toks:=s.toks+2 }) :
  wpAny (model prog w) A (setAttr (.ref x) name v) Q E s:=by
 obtain⟨od,J,hl⟩:=I.look;refine W.set_plain X J hs (W.osa_open (s:={ s with toks:=s.toks+1 }) (r:=none) X J hp ht λ b=>?_);obtain⟨cd,hc,hd'⟩:=W.any_some hh;have hx:s.heap.get? x=some ⟨.ref C,some dx,.plain,#[]⟩:=I.obj;refine JK (JV (JK (JK (wpAny_loadPart hx (JK (W.Looks.here (s:={ s with toks:=s.toks+1 }) (W.looks_clsIn X hc) ?_))))));rw [hd'];refine JV (a:=some dx) (JK (JV (JK ?_)));refine wpAny_nsSet1 (s:={ s with toks:=s.toks+1 }) I.ns λ h' hn2 hs2=>?_;obtain⟨oD,esD,epD,hoD,hdD,hcD⟩:=hn2.count (PySem.Within.cons name v hw);refine JK (wpAny_lookBehind hoD (by rw [hdD];exact pastItsLine_dict (Ku hcD (by rw [Kk];omega))) ?_);exact JV (h _ ⟨(hs2.2 _ (Kh I.ne)).trans I.obj,hn2,I.ne⟩ hs2)
theorem xu{R:Result->Shared->Prop}{vs:List Value}{kw:List (Str × Value)}(X:K.In s.heap)(hm:W.makesIn K C=true)
  (hi:W.findIn K (.ref C) "__init__"=some (some (.ref f))) (hf:W.typeIn K (.ref f)=some (.type "function"))
  (h:codeAny (model prog w) (A.under (.builtin "type.__call__" ⟨.ref C::vs,kw⟩)) (.call (.ref f) ⟨.ref (s.heap.objs.size+1)::vs,kw⟩) (W.InitBack (s.heap.objs.size+1) R)
   { s with heap:=(s.heap.push W.emptyDict).push (W.instObj C s.heap.objs.size) }) :
  codeAny (model prog w) A (.call (.ref C) ⟨vs,kw⟩) R s:=by
 obtain⟨hh,g,d,t,os⟩:=s;exact W.make_core (W.makes_of X hm) (W.looks_findIn X hi) (λ self=>W.bind_fn X self hf) (.inl rfl) h
end
def dZ(f:Str)(v:V):List (Str × V)->List (Str × V)
 | []=>[(f,v)]
 | (g,x)::r=>if g=f then (g,v)::r else (g,x)::dZ f v r
theorem aJ(f g:Str)(v:V):∀ fs:List (Str × V),(dZ f v fs).lookup g=if g=f then some v else fs.lookup g
 | []=>by
  show List.lookup g [(f,v)]=_
  by_cases h:g=f
  ·have hb:(g == f)=true:=Mn.mpr h;simp only [List.lookup,hb,JR h]
  ·have hb:(g == f)=false:=K7.mpr h;simp only [List.lookup,hb,JQ h]
 | (k,x)::r=>by
  have ih:=aJ f g v r;rw [show dZ f v ((k,x)::r)=(if k=f then (k,v)::r else (k,x)::dZ f v r) from rfl]
  by_cases hk:k=f
  ·rw [JR hk]
   by_cases h:g=k
   ·have hb:(g == k)=true:=Mn.mpr h;simp only [List.lookup,hb,JR (h.trans hk)]
   ·have hb:(g == k)=false:=K7.mpr h;simp only [List.lookup,hb,JQ (λ e:g=f=>h (e.trans hk.symm))]
  ·rw [JQ hk]
   by_cases h:g=k
   ·have hb:(g == k)=true:=Mn.mpr h;simp only [List.lookup,hb,JQ (λ e:g=f=>hk (h.symm.trans e))]
   ·have hb:(g == k)=false:=K7.mpr h;simp only [List.lookup,hb];exact ih
theorem hU(f:Str)(v:V):∀ fs:List (Str × V),f∈(dZ f v fs).map (·.1)/\∀ g,g∈fs.map (·.1)->g∈(dZ f v fs).map (·.1)
 | []=>⟨by simp [dZ],λ g h=>by simp at h⟩
 | (k,x)::r=>by
  obtain⟨i1,i2⟩:=hU f v r;rw [show dZ f v ((k,x)::r)=(if k=f then (k,v)::r else (k,x)::dZ f v r) from rfl]
  by_cases hk:k=f
  ·rw [JR hk];subst hk;exact⟨by simp,λ g h=>by simpa using h⟩
  ·rw [JQ hk];refine⟨?_,λ g h=>?_⟩
   ·rw [Km];exact JN _ i1
   ·rw [Km] at h ⊢
    rcases J9.mp h with e|e
    ·exact J9.mpr (.inl e)
    ·exact JN _ (i2 g e)
theorem iu(f:Str)(v:V):∀ fs:List (Str × V),(dZ f v fs).length<=fs.length+1
 | []=>by simp [dZ]
 | (k,x)::r=>by
  have ih:=iu f v r;rw [show dZ f v ((k,x)::r)=(if k=f then (k,v)::r else (k,x)::dZ f v r) from rfl]
  by_cases hk:k=f
  ·rw [JR hk,Kk,Kk];omega
  ·rw [JQ hk,Kk,Kk];omega
theorem kU.some_of{v:V}{o:Option Value}(r:kU (some v) o):∃ u,o=some u/\bq v u:=by
 cases o with
 | none=>exact(show False from r).elim
 | some u=>exact⟨u,rfl,r⟩
theorem kU.none_of{o:Option Value}(r:kU none o):o=none:=by
 cases o with
 | none=>rfl
 | some u=>exact(show False from r).elim
theorem vM{v:V}{u:Value}(r:bq v u):W.handedIn u=true:=by
 cases v with
 | non=>cases (show u=Value.none from r);rfl
 | bl b=>cases (show u=Value.bool b from r);rfl
 | int i=>obtain⟨t,e⟩:=(show ∃ t,u=Value.int i t from r);cases e;rfl
 | str x=>obtain⟨t,e⟩:=(show ∃ t,u=Value.str x t from r);cases e;rfl
 | byt b=>obtain⟨t,e⟩:=(show ∃ t,u=Value.bytes b t from r);cases e;rfl
 | flt b=>obtain⟨t,e⟩:=(show ∃ t,u=Value.float b t from r);cases e;rfl
 | ref a=>cases (show u=Value.ref a from r);rfl
 | ty n=>cases (show u=Value.type n from r);rfl
section
variable {P:Program}{w:World}{H H':Hp}{h h':Heap}{a C dx:Addr}{fs fs':List (Str × V)}
theorem jS(hok:HOk P w H h)(e:H a=some (.ins C dx fs)):∃ mA,zA h a dx C mA/\(∀ f,kU (fs.lookup f) (mA f))/\PySem.Within mA (fs.map (·.1))/\fs.length<=1000/\H dx=some (.own a):=by
 obtain⟨d,z,ne,ob,mA,n,r,q⟩:=(show bX P w H h a (.ins C dx fs) from hok a _ e);exact⟨mA,⟨ob,n,ne⟩,r,q,z,d⟩
end
structure Cls(K:W.Frag)(C:Addr):Prop where
 pg:W.plainGet K C Str.empty=true
 hd:W.hasDictIn K C=true
 po:W.plainOver K C=true
 sa:W.findIn K (.ref C) "__setattr__"=some (some (.builtin "object.__setattr__"))
theorem Cls.get{K:W.Frag}{C:Addr}(c:Cls K C)(f:Str):W.plainGet K C f=true:=c.pg
def dC(K:W.Frag)(C:Addr)(f:Str):Prop:=W.findIn K (.ref C) f=some none
theorem dC.taker{K:W.Frag}{C:Addr}{f:Str}(n:dC K C f):W.takerIn K C f=some none:=by
 unfold W.takerIn;rw [show W.findIn K (.ref C) f=some none from n];rfl
structure zB(K:W.Frag)(C:Addr)(m:Str)(f:Addr):Prop where
 at_:W.findIn K (.ref C) m=some (some (.ref f))
 fn:W.isFn K (.ref f)=true
 kp:W.keepIn K (.ref f)=true
section
variable {X:Cx}{pins:List (Addr × Obj)}{σ:St}{H:Hp}{s:Shared}{a C dx:Addr}{fs:List (Str × V)}{f:Str}{v:V}{A:Around}{E:Value->Shared->Prop}
theorem qT{b:Bool}{Q:Value->Shared->Prop}(I:Inv X pins σ H s)(e:H a=some (.ins C dx fs))(c:Cls X.K C)(n:dC X.K C f)(l:fs.lookup f=some v)
  (h:∀ u s',Inv X pins σ H s'->bq v u->Q u s'):wpAny (model X.prog X.w) A (getAttr (.ref a) f b) Q E s:=by
 obtain⟨mA,O,r,_,_,_⟩:=jS I.hok e;obtain⟨u,hu,ru⟩:=kU.some_of (v:=v) (o:=mA f) (by rw [←l];exact r f);exact B7 I.kIn O (c.get f) c.hd n hu (vM ru) (h u _ (I.tok _) ru)
theorem qS{m:Str}{g:Addr}{pl:Sem Bool}{Q:Value × List Value->Shared->Prop}(I:Inv X pins σ H s)(e:H a=some (.ins C dx fs))(c:Cls X.K C)(k:zB X.K C m g)(l:fs.lookup m=none)
  (h:Q (.ref g,[.ref a]) s):wpAny (model X.prog X.w) A (getMethod (.ref a) m pl) Q E s:=by
 obtain⟨mA,O,r,_,_,_⟩:=jS I.hok e;have hn:mA m=none:=kU.none_of (by rw [←l];exact r m);exact yj I.kIn O (c.get m) k.at_ k.fn hn h
theorem qh{y:V}{u:Value}{Q:Unit->Shared->Prop}(I:Inv X pins σ H s)(e:H a=some (.ins C dx fs))(c:Cls X.K C)(n:dC X.K C f)(hl:fs.length < 1000)(ry:bq y u)
  (h:∀ s',Inv X pins σ (upd H a (.ins C dx (dZ f y fs))) s'->Q () s'):wpAny (model X.prog X.w) A (setAttr (.ref a) f u) Q E s:=by
 obtain⟨mA,O,r,wi,_,ho⟩:=jS I.hok e;have hz:(fs.map (·.1)).length<=sizeLine:=by rw [JT,sizeLine_eq];omega
 refine AD I.kIn O c.sa c.po n.taker c.hd wi hz λ h' O' sb=>h _ ?_;have hd:∃ o,h'.get? dx=some o:=let ⟨o,_,_,e',_⟩:=O'.ns;⟨o,e'⟩;refine I.write (x:=a) (e:=dx) (by rw [e];exact True.intro) (.inr ho) (λ b q hb z=>(sb.2 b hb).trans z) hd ?_;refine⟨by rw [ah O.ne];exact ho,?_,O.ne,O'.obj,_,O'.ns,λ g=>?_,λ g hg=>?_⟩
 ·have:=iu f y fs;omega
 ·show kU ((dZ f y fs).lookup g) (if g=f then some u else mA g)
  rw [aJ]
  by_cases q:g=f
  ·rw [JR q,JR q];exact ry
  ·rw [JQ q,JQ q];exact r g
 ·by_cases q:g=f
  ·rw [q];exact(hU f y fs).1
  ·refine(hU f y fs).2 g (wi g λ z=>hg ?_)
   show (if g=f then some u else mA g)=none
   rw [JQ q];exact z
theorem Inv.made(I:Inv X pins σ H s):Inv X pins σ (upd (upd H s.heap.objs.size (.own (s.heap.objs.size+1))) (s.heap.objs.size+1) (.ins C s.heap.objs.size []))
  { s with heap:=(s.heap.push W.emptyDict).push (W.instObj C s.heap.objs.size) }:=by
 have e1:(s.heap.push W.emptyDict).get? s.heap.objs.size=some W.emptyDict:=JX s.heap rfl
 have e2:((s.heap.push W.emptyDict).push (W.instObj C s.heap.objs.size)).get? (s.heap.objs.size+1)=some (W.instObj C s.heap.objs.size):=by
  have:=JX (s.heap.push W.emptyDict) (o:=W.instObj C s.heap.objs.size) rfl
  rwa [KJ] at this
 have e3:(s.heap.push W.emptyDict).Ns s.heap.objs.size (λ _=>none):=⟨W.emptyDict,#[],_,e1,rfl,(λ e he=>absurd he (by simp)),λ _=>rfl⟩;have I1:=I.laid (a:=s.heap.objs.size) (o:=.own (s.heap.objs.size+1)) (h':=s.heap.push W.emptyDict) (t':=s.toks) (λ b u q=>JL _ q) (JO _) ⟨_,e1⟩;refine I1.laid (a:=s.heap.objs.size+1) (o:=.ins C s.heap.objs.size []) (t':=s.toks) (λ b u q=>JL _ q) (Nat.le_of_eq (KJ _ _)) ?_;have ne:s.heap.objs.size ≠ s.heap.objs.size+1:=J2 (K6 _);refine⟨by rw [ah ne,ai],Kz _,ne,e2,λ _=>none,(Heap.Ns1.of_empty e3).at λ o q=>JL _ q,λ _=>True.intro,λ y hy=>absurd rfl hy⟩
theorem Cs{prog:Program}{w:World}{env:Env}{e:Expr}{f:Str}{pos:Pos}{s:Shared}{Q:Value->Shared->Prop}(hb:attributeBase e f env (eval e env)=eval e env)
  (h:wpAny (model prog w) A (eval e env) (λ o s₁=>wpAny (model prog w) A (getAttr o f true) Q E s₁) E s):wpAny (model prog w) A (eval (.Attribute e f pos) env) Q E s:=
 Attribute_any_ h (by rw [arm_eval_Attribute,hb])
end
section
variable {X:Cx}{o e value:Expr}{f:Str}{pos pos' tpos:Pos}{ta tv:TE}
end
section
variable {X:Cx}{pins:List (Addr × Obj)}{σ:St}{H:Hp}{s:Shared}{A:Around}{E:Value->Shared->Prop}{Q:Value->Shared->Prop}{c:Value}{b:Bool}
inductive oq (K:PySem.W.Frag) (H:Hp):V->Value->Prop where
 | non:oq K H .non (.type "NoneType")
 | bl (x:Bool):oq K H (.bl x) (.type "bool")
 | int (i:Int):oq K H (.int i) (.type "int")
 | str (x:Str):oq K H (.str x) (.type "str")
 | flt (x:UInt64):oq K H (.flt x) (.type "float")
 | lst {a:Addr} {xs:List V} (e:H a=some (.lst xs)):oq K H (.ref a) (.type "list")
 | frz {a:Addr} {o:Obj} {xs:List V} (e:H a=some (.frz o (.lst xs))):oq K H (.ref a) (.type "list")
 | tup {a:Addr} {xs:List V} (e:H a=some (.tup xs)):oq K H (.ref a) (.type "tuple")
 | dK {a:Addr} {kvs:List (Key × V)} (e:H a=some (.dK kvs)):oq K H (.ref a) (.type "dict")
 | dT {a:Addr} {kvs:List (List Key × V)} (e:H a=some (.dT kvs)):oq K H (.ref a) (.type "dict")
 | ins {a C dx:Addr} {fs:List (Str × V)} (e:H a=some (.ins C dx fs)) (cl:Cls K C) (ha:PySem.W.findIn K (.ref C) "__class__"=some (some (.builtin "object.__class__")))
   (hn:PySem.W.specialIn K (.builtin "object.__class__") "__get__"=some (some (.builtin "getset_descriptor.__get__"))) (htk:PySem.W.takesIn K (.builtin "object.__class__")=some true)
   (hm:PySem.W.mroIn K C (.type "object")=some true):oq K H (.ref a) (.ref C)
theorem vJ{x:V}{u t:Value}(I:Inv X pins σ H s)(rx:bq x u)(ty:oq X.K H x t)(e:W.kitOne X.K t c=some b)(h:∀ tk,Q (.bool b) { s with toks:=tk }) :
  wpAny (model X.prog X.w) A (call (.builtin "isinstance") [u,c]) Q E s:=by
 cases ty with
 | non=>cases (show u=Value.none from rx);exact Lq W.kitx_none I.kIn True.intro e (λ z=>nomatch z) h
 | bl y=>cases (show u=Value.bool y from rx);exact Lq W.kitx_bool I.kIn True.intro e (λ z=>nomatch z) h
 | int i=>obtain⟨t,q⟩:=(show ∃ t,u=Value.int i t from rx);cases q;exact Lq W.kitx_int I.kIn True.intro e (λ z=>nomatch z) h
 | str y=>obtain⟨t,q⟩:=(show ∃ t,u=Value.str y t from rx);cases q;exact Lq W.kitx_str I.kIn True.intro e (λ z=>nomatch z) h
 | flt y=>obtain⟨t,q⟩:=(show ∃ t,u=Value.float y t from rx);cases q;exact Lq W.kitx_float I.kIn True.intro e (λ z=>nomatch z) h
 | @lst a xs ea=>
  cases (show u=Value.ref a from rx);obtain⟨_,_,n,_,h1⟩:=(show bX X.prog X.w H s.heap a (.lst xs) from I.hok a _ ea);exact Lq W.kitx_list I.kIn ⟨_,h1,rfl⟩ e (λ z=>nomatch z) h
 | @frz a ob xs ea=>
  cases (show u=Value.ref a from rx);obtain⟨_,_,_,n,_,h1⟩:=(show bX X.prog X.w H s.heap a (.frz ob (.lst xs)) from I.hok a _ ea);exact Lq W.kitx_list I.kIn ⟨_,h1,rfl⟩ e (λ z=>nomatch z) h
 | @tup a xs ea=>
  cases (show u=Value.ref a from rx);obtain⟨_,_,_,p⟩:=(show bX X.prog X.w H s.heap a (.tup xs) from I.hok a _ ea);obtain⟨o,h1,h2,_⟩:=p;exact Lq W.kitx_tuple I.kIn ⟨o,h1,h2⟩ e (λ z=>nomatch z) h
 | @dK a kvs ea=>
  cases (show u=Value.ref a from rx);obtain⟨_,_,vs,_,p⟩:=(show bX X.prog X.w H s.heap a (.dK kvs) from I.hok a _ ea);obtain⟨o,es,ep,h1,h2,_⟩:=p;exact Lq W.kitx_dict I.kIn ⟨o,h1,h2.1⟩ e (λ z=>nomatch z) h
 | @dT a kvs ea=>
  cases (show u=Value.ref a from rx);obtain⟨_,_,xs,_,o,es,ep,h1,h2,_⟩:=(show bX X.prog X.w H s.heap a (.dT kvs) from I.hok a _ ea);exact Lq W.kitx_dict I.kIn ⟨o,h1,h2.1⟩ e (λ z=>nomatch z) h
 | @ins a C dx fs ea cl ha hn htk hm=>
  cases (show u=Value.ref a from rx);obtain⟨mA,O,_⟩:=jS I.hok ea;obtain⟨od,J,_⟩:=O.look;exact Lq (W.kitx_own (cl.get _) cl.hd ha hn htk hm) I.kIn J e (λ z=>nomatch z) h
end
structure gh(k:Nat)(A:Around):Prop where
 hd:A.handled=none
 dp:A.depth+3 * k+5 < recursionLimit
 un:A.units+16 * k+200 < cLine
theorem gh.mono{j k:Nat}{A:Around}(r:gh k A)(h:j<=k):gh j A:=⟨r.hd,by have:=r.dp;omega,by have:=r.un;omega⟩
theorem gh.deeper{k:Nat}{A:Around}(r:gh (k+1) A)(env:Env):gh k (A.deeper env):=
 ⟨r.hd,by have:=r.dp;show A.depth+1+3 * k+5 < _;omega,by have:=r.un;show A.units+3+16 * k+200 < _;omega⟩
theorem qu{A:Around}{C:Addr}{us:List Value}{kw:List (Str × Value)}:(A.under (.builtin "type.__call__" ⟨.ref C::us,kw⟩)).depth=A.depth+1:=by
 first|rfl|simp [Around.under,Code.weight,Code.isCreation,Code.isGuard,Code.isCaller,Code.frames,Code.isFrame,guardIds]
theorem qt{A:Around}{C:Addr}{us:List Value}{kw:List (Str × Value)}:(A.under (.builtin "type.__call__" ⟨.ref C::us,kw⟩)).units=A.units+1:=by
 first|rfl|simp [Around.under,Code.cUnits,Code.frames,Code.isFrame]
theorem gh.make{k:Nat}{A:Around}(r:gh (k+1) A)(C:Addr)(us:List Value)(kw:List (Str × Value)):gh k (A.under (.builtin "type.__call__" ⟨.ref C::us,kw⟩)):=
 ⟨r.hd,by have:=r.dp;rw [qu];omega,by have:=r.un;rw [qt];omega⟩
theorem gh.depth{k:Nat}{A:Around}(r:gh k A):A.depth < recursionLimit:=by have:=r.dp;omega
theorem gh.units{k:Nat}{A:Around}(r:gh k A):A.units+64 < cLine:=by have:=r.un;omega
def CD:TA:=λ _ H Q=>Q [] H
def rS(ta:TE)(tr:TA):TA:=λ σ H Q=>ta σ H λ x H1=>tr σ H1 λ xs H2=>Q (x::xs) H2
section
variable {X:Cx}{e:Expr}{es:List Expr}{te:TE}{t:TA}{pos:Pos}
theorem cX:PA X [] CD:=λ _ _ _ _ H Q I h=>Calls.spliced_nil ⟨[],H,I,.nil,h⟩
theorem AY(ha:PE X e te)(hr:PA X es t)(hs:starEach (e::es) X.env=(false,eval e X.env)::starEach es X.env:=by rfl):PA X (e::es) (rS te t):=by
 intro pos pins s σ H Q I h;rw [hs]
 show wpAny _ _ (spliced ((false,eval e X.env)::backTo pos (starEach es X.env))) _ _ s
 refine MF (thn (ha pins s σ H _ I h) λ u s1 ⟨x,H1,I1,r1,q1⟩=>?_);exact thn (hr pos pins s1 σ H1 _ I1 q1) λ us s2 ⟨xs,H2,I2,r2,q2⟩=>⟨x::xs,H2,I2,.cons r1 r2,q2⟩
end
abbrev Sp:=List V->Hp->VK->XK->Prop
abbrev CXT:=List Env->Hp->Shared->XK->Value->Shared->Prop
structure yW(P:Program)(w:World)(K:W.Frag)(mg:Str->Option Value)(base:Heap)(A:Around)(outer:List Env)(s:Shared)(H:Hp):Prop where
 frames:A.frames=some outer
 mod:Mod K mg base
 bs:∀ b o,base.get? b=some o->s.heap.get? b=some o/\H b=none
 bsz:base.objs.size<=s.heap.objs.size
 funs:s.heap.FunFrames base outer
 frf:∀ b∈frs outer,H b=none
 hok:HOk P w H s.heap
 bare:AllBare s.gens
def CE(outer:List Env)(P:Program)(w:World)(H:Hp)(s:Shared)(Q:VK)(u:Value)(s':Shared):Prop:=
 ∃ v H',s'.os=s.os/\AllBare s'.gens/\Un (frs outer) [] H H' s.heap s'.heap/\HOk P w H' s'.heap/\bq v u/\Q v H'
def CR(CX:CXT)(outer:List Env)(P:Program)(w:World)(H:Hp)(s:Shared)(Q:VK)(E:XK)(r:Result)(s':Shared):Prop:=
 match r with
 | .ok (.ret u)=>CE outer P w H s Q u s'
 | .ok _=>False
 | .error e=>CX outer H s E e s'
structure bC(P:Program)(w:World)(K:W.Frag)(mg:Str->Option Value)(base:Heap)(CX:CXT)(k:Nat)(f:Addr)(fd:FuncData)(ps:List Str)(sp:Sp):Prop where
 len:∀ vs H Q E,sp vs H Q E->vs.length=ps.length
 run:∀ (A:Around) (outer:List Env) (s:Shared) (H:Hp) (args:Args) (us:List Value) (vs:List V) (Q:VK) (E:XK),gh k A->yW P w K mg base A outer s H->BindsTo s fd args (ps.zip us)->aU vs us->sp vs H Q E →
  codeAny (model P w) A (.call (.ref f) args) (CR CX outer P w H s Q E) s
theorem bC.imp{P:Program}{w:World}{K:W.Frag}{mg:Str->Option Value}{base:Heap}{CX:CXT}{k:Nat}{f:Addr}{fd:FuncData}{ps:List Str}{sp sp':Sp}(F:bC P w K mg base CX k f fd ps sp)
  (h:∀ vs H Q E,sp' vs H Q E->sp vs H Q E):bC P w K mg base CX k f fd ps sp':=
 ⟨λ vs H Q E q=>F.len vs H Q E (h _ _ _ _ q),λ A outer s H args us vs Q E hr he hb hv hs=>F.run A outer s H args us vs Q E hr he hb hv (h _ _ _ _ hs)⟩
theorem yW.make{P:Program}{w:World}{K:W.Frag}{mg:Str->Option Value}{base:Heap}{A:Around}{outer:List Env}{s:Shared}{H:Hp}(e:yW P w K mg base A outer s H)(C:Addr)(us:List Value)(kw:List (Str × Value)) :
  yW P w K mg base (A.under (.builtin "type.__call__" ⟨.ref C::us,kw⟩)) outer s H:=⟨by first|exact e.frames|(simpa [Around.under,Code.envs,Code.isFrame,pushEnvs] using e.frames),e.mod,e.bs,e.bsz,e.funs,e.frf,e.hok,e.bare⟩
section
variable {X:Cx}{pins:List (Addr × Obj)}{σ:St}{H:Hp}{s s':Shared}
theorem Inv.env0(I:Inv X pins σ H s):yW X.prog X.w X.K X.mg X.base X.A X.stack s H:=
 ⟨I.ok.frames,I.ok.mod,I.bs,Ku I.ok.bsz I.sz,I.stack,I.stkFree,I.hok,I.bare⟩
theorem Inv.after{Q:VK}{u:Value}(I:Inv X pins σ H s)(h:CE X.stack X.prog X.w H s Q u s'):EP X pins σ Q u s':=by
 obtain⟨v,H',os,bare,un,hok,r,q⟩:=h;obtain⟨hh,g,d,t,os'⟩:=s';obtain rfl:os'=s.os:=os;exact⟨v,H',I.call (h':=hh) (g':=g) (d':=d) (t':=t) (ch:=[]) un hok bare (λ b z=>absurd z (by simp)),r,q⟩
end
def CV(sp:Sp)(dvs:List V)(E:XK)(t:TA):TE:=λ σ H Q=>t σ H λ vs H1=>sp (vs++dvs) H1 Q E
def aB(K:W.Frag)(fd:FuncData)(ps:List Str)(ds:List Value):Prop:=
 ∀ (s:Shared) (us:List Value),K.In s.heap->(us++ds).length=ps.length->BindsTo s fd ⟨us,[]⟩ (ps.zip (us++ds))
theorem aB.all{K:W.Frag}{fd:FuncData}{ps:List Str}(h:∀ us:List Value,us.length=ps.length->bindArgs fd ⟨us,[]⟩=pure (ps.zip us)):aB K fd ps []:=λ s us _ hl=>by
 rw [K5] at hl ⊢;exact .of_eq (h us hl)
def jg(CX:CXT)(X:Cx)(E:XK):Prop:=∀ (pins:List (Addr × Obj)) (σ:St) (H:Hp) (s:Shared) (e:Value) (s':Shared),Inv X pins σ H s->CX X.stack H s E e s'->X.xe e s'
section
variable {X:Cx}{CX:CXT}{k:Nat}{f C:Addr}{fd:FuncData}{ps:List Str}{sp:Sp}{dvs:List V}{ds:List Value}{E:XK}{x m:Str}{p pos apos:Pos}{e o:Expr}{es:List Expr}{ta:TE}{t:TA}
theorem y9{pins:List (Addr × Obj)}{σ:St}{H:Hp}{s:Shared}{Q:VK}{us:List Value}{vs:List V}(F:bC X.prog X.w X.K X.mg X.base CX k f fd ps sp)(hr:gh k X.A)(hb:aB X.K fd ps ds)(hd:aU dvs ds)(hx:jg CX X E)
  (I:Inv X pins σ H s) (r:aU vs us) (h:sp (vs++dvs) H Q E):wpAny (model X.prog X.w) X.A (call (.ref f) us) (EP X pins σ Q) X.xe s:=by
 have r2:aU (vs++dvs) (us++ds):=r.append hd;have hl:(us++ds).length=ps.length:=by rw [←r2.length];exact F.len _ _ _ _ h
 refine wpAny_call (LN (F.run X.A X.stack s H ⟨us,[]⟩ (us++ds) (vs++dvs) Q E hr I.env0 (hb s us I.kIn hl) r2 h) λ r s' hq=>?_)
 cases r with
 | error e=>exact hx pins σ H s e s' I hq
 | ok fl=>
  cases fl with
  | ret u=>exact I.after hq
  | next=>exact False.elim hq
  | brk=>exact False.elim hq
  | cont=>exact False.elim hq
theorem AU(F:bC X.prog X.w X.K X.mg X.base CX k f fd ps sp)(hr:gh k X.A)(hg:Gl X x)(hm:X.mg x=some (.ref f))(hk:W.keepIn X.K (.ref f)=true)(hb:aB X.K fd ps ds)(hd:aU dvs ds)(hx:jg CX X E)
  (ha:PA X (e::es) t) (hdb:(x == ("__debug__":Str))=false:=by decide) (he:starEach (e::es) X.env=(false,eval e X.env)::starEach es X.env:=by rfl) (hpl:(backTo pos (starEach es X.env)).any (·.1)=false:=by rfl) :
  PE X (.Call (.Name x p) (e::es) [] pos) (CV sp dvs E t):=by
 intro pins s σ H Q I h;refine Lp (nv I hg hm ?_ hdb);refine W.callWith_K (h₀:=X.base) I.ok.mod.kin hk (thn (ha pos pins s σ H _ I h) λ us s1 ⟨vs,H1,I1,r,q⟩=>⟨I1.kIn,?_⟩) he hpl;exact y9 F hr hb hd hx I1 r q
structure Mk(K:W.Frag)(C f:Addr):Prop where
 makes:W.makesIn K C=true
 init:W.findIn K (.ref C) "__init__"=some (some (.ref f))
 fn:W.isFn K (.ref f)=true
 kp:W.keepIn K (.ref C)=true
theorem w6{pins:List (Addr × Obj)}{σ:St}{H:Hp}{s:Shared}{Q:VK}{us:List Value}{vs:List V}(M:Mk X.K C f)(F:bC X.prog X.w X.K X.mg X.base CX k f fd ps sp)(hr:gh (k+1) X.A)(hb:aB X.K fd ps ds)(hd:aU dvs ds)
  (hx:jg CX X E) (I:Inv X pins σ H s) (r:aU vs us)
  (h:∀ x dx,H x=none->H dx=none->dx ≠ x->sp (.ref x::(vs++dvs)) (upd (upd H dx (.own x)) x (.ins C dx [])) (λ v H2=>v=.non/\Q (.ref x) H2) E) :
  wpAny (model X.prog X.w) X.A (call (.ref C) us) (EP X pins σ Q) X.xe s:=by
 have hq:=h (s.heap.objs.size+1) s.heap.objs.size (I.hok.fresh (Nat.le_succ _)) (I.hok.fresh (JO _)) (J2 (K6 _));have I2:=Inv.made (C:=C) I;have r2:aU (V.ref (s.heap.objs.size+1)::(vs++dvs)) (Value.ref (s.heap.objs.size+1)::(us++ds)):=.cons rfl (r.append hd)
 have hl:(Value.ref (s.heap.objs.size+1)::us++ds).length=ps.length:=by
  have e:=r2.length;rw [F.len _ _ _ _ hq] at e;exact e.symm
 refine wpAny_call (xu (f:=f) I.kIn M.makes M.init (Mn.mp M.fn) (LN (F.run _ X.stack _ _ ⟨Value.ref (s.heap.objs.size+1)::us,[]⟩ (Value.ref (s.heap.objs.size+1)::(us++ds)) _ _ E (hr.make C us [])
  (I2.env0.make C us []) (hb _ (Value.ref (s.heap.objs.size+1)::us) I2.kIn hl) r2 hq) λ r s' hq'=>?_))
 cases r with
 | error e=>exact hx pins σ _ _ e s' I2 hq'
 | ok fl=>
  cases fl with
  | ret u=>
   obtain⟨v,H',I3,rv,ev,q3⟩:=I2.after hq';subst ev;exact⟨rv,⟨V.ref (s.heap.objs.size+1),H',I3,rfl,q3⟩⟩
  | next=>exact False.elim hq'
  | brk=>exact False.elim hq'
  | cont=>exact False.elim hq'
end
def PK(X:Cx)(kws:List Keyword)(t:TA):Prop:=
 ∀ (pos:Pos) (pins:List (Addr × Obj)) (s:Shared) (σ:St) (H:Hp) (Q:List V->Hp->Prop),Inv X pins σ H s->t σ H Q->wpAny (model X.prog X.w) X.A (evalAll ((backToKw pos (keywordEach kws X.env)).map (·.2))) (AP X pins σ Q) X.xe s
section
variable {X:Cx}{CX:CXT}{k:Nat}{f C:Addr}{fd:FuncData}{ps ks:List Str}{sp:Sp}{E:XK}{x m:Str}{p pos apos kpos:Pos}{e o:Expr}{es:List Expr}{kws:List Keyword}{te ta:TE}{t tk:TA}{nm:Option Str}
theorem DS:PK X [] CD:=λ _ _ _ _ H Q I h=>wpAny_evalAll_nil ⟨[],H,I,.nil,h⟩
theorem AJ(ha:PE X e te)(hr:PK X kws t):PK X (⟨nm,e,kpos⟩ :: kws) (rS te t):=by
 intro pos pins s σ H Q I h
 show wpAny _ _ (evalAll ((do let v ←eval e X.env;standAt pos;pure v)::(backToKw pos (keywordEach kws X.env)).map (·.2))) _ _ s
 refine wpAny_evalAll_cons (JK (thn (ha pins s σ H _ I h) λ u s1 ⟨x,H1,I1,r1,q1⟩=>JK (L5 (JV ?_))));exact thn (hr pos pins s1 σ H1 _ I1 q1) λ us s2 ⟨xs,H2,I2,r2,q2⟩=>⟨x::xs,H2,I2,.cons r1 r2,q2⟩
variable {g:List Value->List Value->List Value}{gV:List V->List V->List V}
end
structure ak(N P:List Str)(sc:Scope):Prop where
 kind:sc.kind=.function
 co:sc.isCoroutine=false
 gen:sc.isGenerator=false
 nd:N.Nodup
 pre:N.take P.length=P
 par:∀ x∈P,sc.names.lookup x=some .local\/sc.names.lookup x=some .cell
 nofree:∀ y∈sc.names,y.2 ≠ .free
theorem lT{kindOf:Str->Option NameKind}{x:Str}:∀ {binds:List (Str × Value)}{m:Str->Option Value},(∀ v,(x,v) ∉ binds)->bindL kindOf binds m x=m x
 | [],_,_=>rfl
 | (n,v)::r,m,h=>by
  unfold bindL;rw [lT λ w hw=>h w (mem_cons_of_mem _ hw)];split
  ·have:x ≠ n:=by rintro rfl;exact h v JP
   simp [this]
  ·rfl
theorem lV{kindOf:Str->Option NameKind}{x:Str}:∀ {binds:List (Str × Value)}{m:Str->Option Value},(∀ v,(x,v) ∉ binds)->bindC kindOf binds m x=m x
 | [],_,_=>rfl
 | (n,v)::r,m,h=>by
  unfold bindC;rw [lV λ w hw=>h w (mem_cons_of_mem _ hw)];split
  ·rfl
  ·have:x ≠ n:=by rintro rfl;exact h v JP
   simp [this]
theorem lU{kindOf:Str->Option NameKind}{x:Str}{v:Value}:∀ {P:List Str}{vs:List Value}{i:Nat}{m:Str->Option Value},P.Nodup->P[i]? = some x->vs[i]? = some v->kindOf x=some .local →
  bindL kindOf (P.zip vs) m x=some v
 | [],_,_,_,_,h,_,_=>by simp at h
 | _::_,[],_,_,_,_,h,_=>by simp at h
 | p::P,w::vs,0,m,nd,h1,h2,hk=>by
  simp at h1 h2;subst h1;subst h2
  show bindL kindOf ((p,w)::P.zip vs) m p=_
  unfold bindL;rw [lT λ v hv=>(List.nodup_cons.mp nd).1 (of_mem_zip hv).1,if_pos hk];simp
 | p::P,w::vs,i+1,m,nd,h1,h2,hk=>by
  show bindL kindOf ((p,w)::P.zip vs) m x=_
  unfold bindL;exact lU (i:=i) (List.nodup_cons.mp nd).2 (by simpa using h1) (by simpa using h2) hk
theorem lW{kindOf:Str->Option NameKind}{x:Str}{v:Value}:∀ {P:List Str}{vs:List Value}{i:Nat}{m:Str->Option Value},P.Nodup->P[i]? = some x->vs[i]? = some v->kindOf x ≠ some .local →
  bindC kindOf (P.zip vs) m x=some v
 | [],_,_,_,_,h,_,_=>by simp at h
 | _::_,[],_,_,_,_,h,_=>by simp at h
 | p::P,w::vs,0,m,nd,h1,h2,hk=>by
  simp at h1 h2;subst h1;subst h2
  show bindC kindOf ((p,w)::P.zip vs) m p=_
  unfold bindC;rw [lV λ v hv=>(List.nodup_cons.mp nd).1 (of_mem_zip hv).1,if_neg hk];simp
 | p::P,w::vs,i+1,m,nd,h1,h2,hk=>by
  show bindC kindOf ((p,w)::P.zip vs) m x=_
  unfold bindC;exact lW (i:=i) (List.nodup_cons.mp nd).2 (by simpa using h1) (by simpa using h2) hk
def start(N:List Str)(vs:List V):St:=vs.map some++List.replicate (N.length - vs.length) none
def yT(CX:CXT)(P:Program)(w:World)(K:W.Frag)(mg:Str->Option Value)(base:Heap)(N:List Str)(qual:Str)(scope:Scope)(f:Addr)(cd:Value)(A:Around)(outer:List Env)(s:Shared)(H:Hp)(E:XK):Cx where
 prog:=P
 w:=w
 K:=K
 mg:=mg
 base:=base
 A:=A.deeper (envOfC qual scope s.heap.objs.size f cd)
 N:=N
 s₀:=s
 H₀:=H
 env:=envOfC qual scope s.heap.objs.size f cd
 outer:=outer
 stack:=envOfC qual scope s.heap.objs.size f cd::outer
 ex:=[]
 calm:=true
 fn:=λ _=>true
 pn:=[]
 xe:=λ e s'=>wpAny (model P w) (A.deeper (envOfC qual scope s.heap.objs.size f cd)) (leaving (envOfC qual scope s.heap.objs.size f cd) e) (λ _ s''=>CX outer H s E e s'') (λ e' s''=>CX outer H s E e' s'') s'
theorem pJ{sc:Scope}{n:Nat}{x:Str}(h:sc.names.lookup x=some .cell):∃ c,(cellsFrom n sc.names []).lookup x=some c:=by
 have q:=W.cellsFrom_some sc.names n [] (.inl h);exact Option.isSome_iff_exists.mp q
theorem vK{CX:CXT}{P:Program}{w:World}{K:W.Frag}{mg:Str->Option Value}{base:Heap}{N ps:List Str}{qual:Str}{scope:Scope}{f:Addr}{cd:Value}{A:Around}{outer:List Env}{s s1:Shared}{H:Hp}{E:XK}{us:List Value}{vs:List V}
  (S:ak N ps scope) (hd:A.handled=none) (e0:yW P w K mg base A outer s H) (hl:vs.length=ps.length) (r:aU vs us)
  (x:InCallC s s.heap.objs.size (bindL (envOfC qual scope s.heap.objs.size f cd).kindOf (ps.zip us) λ _=>none) (cellsFrom (s.heap.objs.size+1) scope.names []) (bindC (envOfC qual scope s.heap.objs.size f cd).kindOf (ps.zip us) λ _=>none) s1) :
  Inv (yT CX P w K mg base N qual scope f cd A outer s H E) [] (start N vs) H s1:=by
 have hpl:ps.length<=N.length:=by have:=KC List.length S.pre;rw [KN] at this;omega
 obtain⟨h1,tk,rfl,hk⟩:=x.done;have noA:∀ b:Addr,b ∉ (yT CX P w K mg base N qual scope f cd A outer s H E).ex:=λ b z=>absurd (show b∈([]:List Addr) from z) (by simp)
 refine⟨⟨e0.mod,S.kind,rfl,rfl,JO _,λ y z c h1 h2=>?_,λ y hy=>?_,λ y c _ h=>?_,λ _=>hd,Around.frames_deeper e0.frames,.inr ⟨rfl,rfl⟩,λ b z=>absurd z (noA b),e0.bs,e0.bsz,λ b _ _=>noA b,λ b z=>absurd z (noA b),e0.funs,e0.frf⟩,
  rfl,e0.bare,Un.kept hk,⟨_,x.toInCall.ns,λ i y v h1 h2 h3=>?_⟩,λ y c h=>⟨_,x.cell y c h⟩,e0.hok.fresh (JO _),λ y c h=>?_,λ p hp=>absurd (show p∈([]:List (Addr × Obj)) from hp) (by simp),e0.hok.kept hk,?_⟩
 ·exact name_of_addr x.apart (K8 h1) (K8 h2)
 ·have hy:scope.names.lookup y=some .cell\/scope.names.lookup y=some .free:=hy
  rcases hy with hy|hy
  ·exact pJ hy
  ·exact absurd rfl (S.nofree _ (K8 hy))
 ·exact Lz (x.above y c (K8 h))
 ·have hi:i < vs.length:=by
   unfold start at h2
   by_cases hi:i < vs.length
   ·exact hi
   ·rw [Ka (by simpa using hi)] at h2;rw [LK] at h2
    split at h2<;>cases h2
  have ha:vs[i]? = some v:=by
   unfold start at h2;rw [getElem?_append_left (by simpa using hi),getElem?_map] at h2
   cases e:vs[i]? with
   | none=>rw [e] at h2;cases h2
   | some a=>rw [e] at h2;cases h2;rfl
  obtain⟨u,hu,rv⟩:=r.get ha
  have hp:ps[i]? = some y:=by
   rw [←S.pre,List.getElem?_take_of_lt (by omega)];exact h1
  have ndP:ps.Nodup:=by rw [←S.pre];exact S.nd.sublist (List.take_sublist _ _)
  refine⟨u,rv,?_⟩
  rcases S.par y (K1 hp) with k|k
  ·exact .inl ⟨k,lU ndP hp hu k⟩
  ·obtain⟨c,e⟩:=pJ (n:=s.heap.objs.size+1) k;refine .inr ⟨.inl k,c,e,?_⟩;have q:=x.cell y c e;rw [lW ndP hp hu (by show scope.names.lookup y ≠ _;rw [k];decide)] at q;exact q
 ·exact e0.hok.fresh (Lz (x.above y c (K8 h)))
 ·unfold start
  show _=N.length
  rw [JU,JT,List.length_replicate];omega
theorem Du{CX:CXT}{P:Program}{w:World}{K:W.Frag}{mg:Str->Option Value}{base:Heap}{k:Nat}{f:Addr}{name qual:Str}{params:Arguments}{body:List Stmt}{scope:Scope}{dV kV doc pm cdv ct oc:Value}{an od:Option Addr}
  {osl:Array (Option Value)} {N ps:List Str} {sp:Sp} (lk:K.lookup f=some ⟨oc,od,.func (W.fnOf name qual params body scope dV kV doc pm an cdv ct),osl⟩) (hcd:W.codeIn K cdv qual=true) (S:ak N ps scope)
  (len:∀ vs H Q E,sp vs H Q E->vs.length=ps.length)
  (hbody:∀ (A:Around) (outer:List Env) (s:Shared) (H:Hp) (vs:List V) (Q:VK) (E:XK),gh k (A.deeper (envOfC qual scope s.heap.objs.size f cdv))->sp vs H Q E →
   ∃ t,PSs (yT CX P w K mg base N qual scope f cdv A outer s H E) body t/\t { nx:=λ _ H'=>Q .non H',rt:=Q } (start N vs) H) :
  bC P w K mg base CX (k+1) f (W.fnOf name qual params body scope dV kV doc pm an cdv ct) ps sp:=by
 refine⟨len,λ A outer s H args us vs Q E hr e0 hb r hsp=>?_⟩;have hl:=len _ _ _ _ hsp;have KX:K.In s.heap:=e0.mod.kin.keeps λ b o e=>(e0.bs b o e).1;have lim:s.heap.NoLimit:=e0.mod.nolimit.keeps λ b o e=>(e0.bs b o e).1
 have hkind:∀ y∈ps.zip us,scope.names.lookup y.1=some .local\/(scope.names.lookup y.1=some .cell/\((cellsFrom (s.heap.objs.size+1) scope.names []).lookup y.1).isSome=true):=λ ⟨n,v⟩ hy=>by
  rcases S.par n (LC hy).1 with q|q
  ·exact .inl q
  ·exact .inr ⟨q,W.cellsFrom_some _ _ _ (.inl q)⟩
 refine codeAny_call_function hr.depth (KX _ _ lk) rfl S.co S.gen rfl (W.codeRec_of KX hcd) (hb _ _ _ _ ?_);refine wpAny_newFunctionEnv_cells S.kind hkind λ env he s1 x=>?_;subst he;refine⟨lim.keeps x.toInCall.keep,codeAny_func ?_⟩;obtain⟨t,ht,hq⟩:=hbody A outer s H vs Q E (hr.deeper _) hsp;have I:Inv (yT CX P w K mg base N qual scope f cdv A outer s H E) [] (start N vs) H s1:=vK S hr.hd e0 hl r x;refine LS (ht [] s1 (start N vs) H _ I hq) (λ fl s' hs=>?_) λ e s' hs=>hs
 have fin:∀ {σ':St} {H':Hp} {v:V} {u:Value},Inv (yT CX P w K mg base N qual scope f cdv A outer s H E) [] σ' H' s'->bq v u->Q v H'->CE outer P w H s Q u s':=
  λ {σ' H' v u} J rv q=>⟨v,H',J.os,J.bare,J.base,J.hok,rv,q⟩
 cases fl with
 | ret u=>
  obtain⟨v,σ',H',J,rv,q⟩:=hs;exact fin J rv q
 | next=>
  obtain⟨σ',H',J,q⟩:=hs;exact fin (v:=V.non) (u:=Value.none) J rfl q
 | brk=>
  obtain⟨_,_,_,q⟩:=hs;exact False.elim q
 | cont=>
  obtain⟨_,_,_,q⟩:=hs;exact False.elim q
section
variable {X:Cx}{x:Str}{p pos:Pos}{e:Expr}{es:List Expr}{t:TA}{id T:String}{r:List V->Hp->VK->Prop}
def tCB(r:List V->Hp->VK->Prop)(t:TA):TE:=λ σ H Q=>t σ H λ vs H1=>r vs H1 Q
theorem gu(hc:bK X (.builtin id) r)(hg:Gl X x)(hm:X.mg x=none)(hv:bootBuiltins x=some (.builtin id))(ha:PA X (e::es) t)(hn:x ≠ "__name__":=by decide)(hdb:(x == ("__debug__":Str))=false:=by decide)
  (he:starEach (e::es) X.env=(false,eval e X.env)::starEach es X.env:=by rfl) (hpl:(backTo pos (starEach es X.env)).any (·.1)=false:=by rfl):PE X (.Call (.Name x p) (e::es) [] pos) (tCB r t):=by
 intro pins s σ H Q I h;refine Lp (gL I hg hm hv ?_ hn hdb);exact PyProof.Rows.callWith_builtin1 (thn (ha pos pins s σ H _ I h) λ us s1 ⟨vs,H1,I1,r1,q1⟩=>hc pins s1 σ H1 vs us Q I1 r1 q1) he hpl
theorem uH(hc:bK X (.type T) r)(hg:Gl X x)(hm:X.mg x=none)(hv:bootBuiltins x=some (.type T))(ha:PA X (e::es) t)(hn:x ≠ "__name__":=by decide)(hdb:(x == ("__debug__":Str))=false:=by decide)
  (he:starEach (e::es) X.env=(false,eval e X.env)::starEach es X.env:=by rfl) (hpl:(backTo pos (starEach es X.env)).any (·.1)=false:=by rfl):PE X (.Call (.Name x p) (e::es) [] pos) (tCB r t):=by
 intro pins s σ H Q I h;refine Lp (gL I hg hm hv ?_ hn hdb);exact KU (thn (ha pos pins s σ H _ I h) λ us s1 ⟨vs,H1,I1,r1,q1⟩=>hc pins s1 σ H1 vs us Q I1 r1 q1) he hpl
end
end L2
namespace HT
open PySem PyProof.Rows
section
open PySem.SeqAt
open PySem.AutoSeq1 (wpAny_loadPart')
open PySem.MeetsSeq PySem.MeetsSeq2 PySem.MeetsSeq3
end
section
variable {prog:Program}{w:World}{A:Around}{E:Value->Shared->Prop}{s:Shared}
theorem cat_tup{t b:Addr}{vs ws:List Value}{Q:Value->Shared->Prop}(ht:IsTup s.heap t vs.toArray)(hb:IsTup s.heap b ws.toArray)(hv:vs ≠ [])
  (h1:ws=[]->Q (.ref t) s) (h2:ws ≠ []->Q (.ref s.heap.objs.size) { s with heap:=s.heap.push { cls:=.type "tuple",data:=.seq (vs++ws).toArray } })
  (hsz:vs.length+ws.length<=sizeLine):wpAny (model prog w) A (binaryOp .Add (.ref t) (.ref b)) Q E s:=by
 obtain⟨⟨cls,dd,data,sl⟩,ho,hc,n,hd⟩:=id ht;obtain⟨⟨cls2,dd2,data2,sl2⟩,ho2,hc2,n2,hd2⟩:=id hb;simp only at hc hd hc2 hd2;subst hc hd hc2 hd2;have e:vs.toArray++ws.toArray=(vs++ws).toArray:=by simp
 by_cases hw:ws=[]
 ·exact concat_meets ⟨_,ho,rfl⟩ ⟨_,ho2,rfl⟩ noFill_tuple_add seq_tuple_add LP LI (LG _ _)
   (tuple_addW1 t b vs.toArray ws.toArray n n2 dd dd2 sl sl2 (by simpa using hv) (by simp [hw])) ⟨ho,ho2,h1 hw⟩
 ·refine concat_meets ⟨_,ho,rfl⟩ ⟨_,ho2,rfl⟩ noFill_tuple_add seq_tuple_add LP LI (LG _ _)
   (tuple_addW2 t b vs.toArray ws.toArray n n2 dd dd2 sl sl2 (by simpa using hv) (by simpa using hw) (by rw [J0,J0];exact hsz)) ⟨ho,ho2,?_⟩
  rw [e];exact h2 hw
def sIx(n d:Nat):Option Int->Nat
 | none=>d
 | some v=>if v < 0 then (v+(n:Int)).toNat else min v.toNat n
theorem sIx_none(n d:Nat):sIx n d none=d:=rfl
theorem sIx_nat(n d k:Nat):sIx n d (some (k:Int))=min k n:=by
 show (if (k:Int) < 0 then ((k:Int)+(n:Int)).toNat else min (k:Int).toNat n)=min k n
 rw [JQ (by omega),Ks]
theorem DI(n d:Nat)(hd:d<=n)(o:Option Int):sIx n d o<=n:=by
 cases o with
 | none=>exact hd
 | some v=>
  show (if v < 0 then (v+(n:Int)).toNat else min v.toNat n)<=n
  by_cases hv:v < 0
  ·rw [JR hv];omega
  ·rw [JQ hv];exact Nat.min_le_right _ _
theorem uo(v:Int)(n d:Nat):(if v < 0 then max (v+(n:Int)) 0 else min v (n:Int))=((sIx n d (some v):Nat):Int):=by
 show (if v < 0 then max (v+(n:Int)) 0 else min v (n:Int))=(((if v < 0 then (v+(n:Int)).toNat else min v.toNat n):Nat):Int)
 by_cases hv:v < 0
 ·simp only [JR hv];omega
 ·simp only [JQ hv];omega
theorem rC(lo hi:Option Int)(n:Nat):Builtin.Slice.sliceAdjust lo hi 1 (n:Int)=(((sIx n 0 lo:Nat):Int),((sIx n n hi:Nat):Int)):=by
 have h1:¬ ((1:Int) < 0):=by omega
 unfold Builtin.Slice.sliceAdjust;simp only [h1,if_false];refine Prod.ext ?_ ?_
 ·cases lo with
  | none=>rfl
  | some v=>exact uo v n 0
 ·cases hi with
  | none=>rfl
  | some v=>exact uo v n n
theorem qi(i j:Nat):Builtin.Slice.slicePlaces (i:Int) (j:Int) 1=j - i:=by
 unfold Builtin.Slice.slicePlaces;have h1:(1:Int) > 0:=by omega
 simp only [h1,Mm,Int.ediv_one]
 split<;>omega
theorem jj{v:Value}{o:Option Int}{Q:Option Int->Shared->Prop}(p:IsPart v o)(h:Q o s):wpAny (model prog w) A (Builtin.Slice.slicePartIndex v) Q E s:=by
 cases p with
 | none=>exact slicePart_none h
 | int i t=>exact slicePart_int h
theorem fZ{sl:Addr}{vl vu:Value}{lo hi:Option Int}{n:Nat}{Q:Int × Int × Nat->Shared->Prop}(hs:s.heap.IsSliceOf sl vl vu .none)(pl:IsPart vl lo)(pu:IsPart vu hi)
  (h:Q (((sIx n 0 lo:Nat):Int),1,sIx n n hi - sIx n 0 lo) s):wpAny (model prog w) A (Builtin.Slice.sliceApplied (.ref sl) (pure (n:Int))) Q E s:=by
 obtain⟨os,hos,hcs,hds⟩:=id hs;unfold Builtin.Slice.sliceApplied Builtin.Slice.sliceFields;refine wpAny_bind (wpAny_bind (wpAny_field hos hds (x:=vl) rfl (wpAny_bind (wpAny_field hos hds (x:=vu) rfl (wpAny_bind (wpAny_field hos hds (x:=.none) rfl (wpAny_pure ?_)))))));refine wpAny_bind (slicePart_none ?_)
 show wpAny _ _ (if ((1:Int) == 0)=true then _ else _) _ _ s
 rw [JQ (by decide)];refine JK (jj pl (JK (jj pu (JK (JV ?_)))))
 show wpAny _ _ (match Builtin.Slice.sliceAdjust lo hi 1 (n:Int) with|(lo,hi)=>pure (lo,(1:Int),Builtin.Slice.slicePlaces lo hi 1)) _ _ s
 rw [rC lo hi n]
 show wpAny _ _ (pure (((sIx n 0 lo:Nat):Int),(1:Int),Builtin.Slice.slicePlaces ((sIx n 0 lo:Nat):Int) ((sIx n n hi:Nat):Int) 1)) _ _ s
 rw [qi];exact JV h
theorem xf(xs:Array Value)(i k:Nat):((List.range k).filterMap λ (m:Nat)=>xs[((i:Int)+(m:Int) * 1).toNat]?).toArray=((xs.toList.drop i).take k).toArray:=by
 have e:(λ (m:Nat)=>xs[((i:Int)+(m:Int) * 1).toNat]?)=λ m=>xs[i+m]?:=by
  funext m;have:((i:Int)+(m:Int) * 1).toNat=i+m:=by omega
  rw [this]
 rw [e];have:=pick_run xs i k;rw [List.filterMap_map] at this;have e2:((λ x=>xs[x]?) ∘ λ x=>i+x)=λ m=>xs[i+m]?:=rfl;rw [e2] at this;rw [this]
theorem getItem_tuple_cut{t sl:Addr}{items:Array Value}{vl vu:Value}{lo hi:Option Int}{Q:Value->Shared->Prop}(ht:IsTup s.heap t items)(hs:s.heap.IsSliceOf sl vl vu .none)(pl:IsPart vl lo)(pu:IsPart vu hi)
  (hw:¬ (sIx items.size 0 lo=0/\sIx items.size items.size hi=items.size))
  (h:Q (.ref s.heap.objs.size) { s with heap:=s.heap.push { cls:=.type "tuple",data:=.seq ((items.toList.drop (sIx items.size 0 lo)).take (sIx items.size items.size hi - sIx items.size 0 lo)).toArray } })
  (hsz:items.size<=sizeLine):wpAny (model prog w) A (getItem (.ref t) (.ref sl)) Q E s:=by
 have htake:sizeOk (.seq ((items.toList.drop (sIx items.size 0 lo)).take (sIx items.size items.size hi - sIx items.size 0 lo)).toArray):=by
  show ((items.toList.drop (sIx items.size 0 lo)).take (sIx items.size items.size hi - sIx items.size 0 lo)).toArray.size<=sizeLine
  rw [J0,KN,Lv,La];omega
 have hj:sIx items.size items.size hi<=items.size:=DI _ _ (Nat.le_refl _) hi;obtain⟨os,hos,hcs,hds⟩:=id hs;have hTs:s.TypeIs (.ref sl) "slice":=⟨os,hos,hcs⟩;unfold getItem
 try with_reducible refine LB ?_
 first|refine JK (JV ?_)|skip
 refine JK (wpAny_sequenceKey ht.typeIs (by decide) ?_)
 refine JK (KS (name:=Str.ofString "__getitem__") ht.typeIs Lm
  (Lj Lm ht.typeIs entry_tuple_getitem ?_ (args_tuple_getitem _ _)))
 show wpAny _ _ (Builtin.Tuple.tupleItemsOf (.ref t) >>= _) _ _ s
 refine JK (tupleItemsOf_ ht ?_);refine JK (wpAny_typeOf hTs ?_);rw [JR (by decide)];refine JK (fZ hs pl pu ?_)
 have hno:¬ ((((sIx items.size 0 lo:Nat):Int) == 0 && (1:Int) == 1 && (sIx items.size items.size hi - sIx items.size 0 lo) == items.size)=true):=by
  intro q;rw [Mx,Mx] at q;have q1:((sIx items.size 0 lo:Nat):Int)=0:=eq_of_beq q.1.1;have q2:sIx items.size items.size hi - sIx items.size 0 lo=items.size:=eq_of_beq q.2;exact hw ⟨by omega,by omega⟩
 show wpAny _ _ (if (((sIx items.size 0 lo:Nat):Int) == 0 && (1:Int) == 1 && (sIx items.size items.size hi - sIx items.size 0 lo) == items.size)=true then _ else _) _ _ s
 rw [JQ hno,xf]
 first
  | exact JK (m:=Builtin.Tuple.tupleExact _) (KL (JV ⟨_,rfl,JV h⟩) htake)
  | exact JK (m:=Builtin.Tuple.tupleExact _) (KL (JK (JV (JV ⟨_,rfl,JV h⟩))) htake)
  | exact JK (JK (m:=Builtin.Tuple.tupleExact _) (KL (JV (JV ⟨_,rfl,JV h⟩)) htake))
  | exact JK (JK (m:=Builtin.Tuple.tupleExact _) (KL (JV ⟨_,rfl,JV h⟩) htake))
end
end HT
namespace L2
open PySem PySem.Spec PyProof.Rows
abbrev TO:=St->Hp->(Option Int->Hp->Prop)->Prop
def PO(X:Cx)(e:Option Expr)(t:TO):Prop:=
 ∀ (pins:List (Addr × Obj)) (s:Shared) (σ:St) (H:Hp) (Q:Option Int->Hp->Prop),Inv X pins σ H s->t σ H Q →
  wpAny (model X.prog X.w) X.A (evalPart e X.env) (λ u s'=>∃ o H',Inv X pins σ H' s'/\IsPart u o/\Q o H') X.xe s
def tM:TO:=λ _ H Q=>Q none H
def CP(t:TE):TO:=λ σ H Q=>t σ H λ x H1=>∃ i,x=.int i/\Q (some i) H1
section
variable {X:Cx}{e:Expr}{te:TE}{lo hi:Option Expr}{tl th:TO}{pos p2:Pos}
theorem eI:PO X none tM:=by
 intro pins s σ H Q I h;rw [evalPart_none];exact JV ⟨none,H,I,.none,h⟩
theorem eG(h:PE X e te):PO X (some e) (CP te):=by
 intro pins s σ H Q I hw;rw [evalPart_some];refine thn (h pins s σ H _ I hw) λ u s1 ⟨x,H1,I1,r1,q1⟩=>?_;obtain⟨i,rfl,q⟩:=q1;obtain⟨t,rfl⟩:=r1;exact⟨some i,H1,I1,.int i t,q⟩
def SlR(X:Cx)(r:V->Option Int->Option Int->Hp->VK->Prop):Prop:=
 ∀ (pins:List (Addr × Obj)) (s:Shared) (σ:St) (H:Hp) (x:V) (v vl vu:Value) (lo hi:Option Int) (sl:Addr) (Q:VK),Inv X pins σ H s->bq x v->s.heap.IsSliceOf sl vl vu .none->IsPart vl lo->IsPart vu hi->r x lo hi H Q →
  ∃ T id,typeLookup (.type T) "__getitem__"=pure (some (.builtin id))/\s.TypeIs v T/\wpAny (model X.prog X.w) X.A (getItem v (.ref sl)) (EP X pins σ Q) X.xe s
def tSl(r:V->Option Int->Option Int->Hp->VK->Prop)(te:TE)(tl th:TO):TE:=λ σ H Q=>te σ H λ x H1=>tl σ H1 λ l H2=>th σ H2 λ u H3=>r x l u H3 Q
theorem xi{r:V->Option Int->Option Int->Hp->VK->Prop}(hr:SlR X r)(he:PE X e te)(hl:PO X lo tl)(hu:PO X hi th):PE X (.Subscript e (.Slice lo hi none p2) pos) (tSl r te tl th):=by
 intro pins s σ H Q I h;refine Subscript_ (thn (he pins s σ H _ I h) λ v s1 ⟨x,H1,I1,r1,q1⟩=>?_);refine wpAny_Slice (thn (hl pins s1 σ H1 _ I1 q1) λ vl s2 ⟨l,H2,I2,pl,q2⟩=>thn (hu pins s2 σ H2 _ I2 q2) λ vu s3 ⟨u,H3,I3,pu,q3⟩=>?_);rw [evalPart_none];refine JV ?_;have I4:Inv X pins σ H3 { s3 with heap:=s3.heap.push { cls:=.type "slice",data:=.fields #[vl,vu,.none] } }:=I3.kept (t':=s3.toks) λ b ob q=>JL _ q;obtain⟨T,id,hT,ht,hg⟩:=hr pins { s3 with heap:=s3.heap.push { cls:=.type "slice",data:=.fields #[vl,vu,.none] } } σ H3 x v vl vu l u s3.heap.objs.size Q I4 r1 (Heap.IsSliceOf.new ..) pl pu q3
 show wpAny (model X.prog X.w) X.A (subscriptTail e (.Slice lo hi none p2) v (.ref s3.heap.objs.size)) (EP X pins σ Q) X.xe { s3 with heap:=s3.heap.push { cls:=.type "slice",data:=.fields #[vl,vu,.none] } }
 exact tail_any (ops:=[.ref s3.heap.objs.size,v]) ht hT hg (by with_unfolding_all rfl)
def ja(xs:List V)(lo hi:Option Int):List V:=(xs.drop (HT.sIx xs.length 0 lo)).take (HT.sIx xs.length xs.length hi - HT.sIx xs.length 0 lo)
theorem iy(xs:List V)(lo hi:Option Int):(ja xs lo hi).length<=xs.length:=by
 unfold ja;rw [length_take,length_drop];omega
def Jm(K:W.Frag):V->Option Int->Option Int->Hp->VK->Prop:=λ x lo hi H Q=>∃ a xs,x=.ref a/\SqT K H a xs /\
 ¬ (HT.sIx xs.length 0 lo=0/\HT.sIx xs.length xs.length hi=xs.length)/\∀ p,H p=none->Q (.ref p) (upd H p (.tup (ja xs lo hi)))
theorem DG:SlR X (Jm X.K):=by
 intro pins s σ H x v vl vu lo hi sl Q I rx hs pl pu h;obtain⟨a,xs,rfl,hx,hw,q⟩:=h;cases rx;obtain⟨its,r,ht,hz⟩:=I.tuple hx;have hlen:its.toArray.size=xs.length:=by rw [J0];exact r.length.symm
 refine⟨"tuple",_,Lm.lookup,ht.typeIs,?_⟩;refine HT.getItem_tuple_cut ht hs pl pu (by rw [hlen];exact hw) ?_ (by rw [hlen];exact hz);rw [hlen];refine⟨.ref s.heap.objs.size,_,I.laid (t':=s.toks) (o:=.tup (ja xs lo hi)) (λ b ob q=>JL _ q) (JO _) ?_,rfl,q _ (I.hok.fresh (JO _))⟩;exact⟨Ku (iy xs lo hi) hz,_,(r.drop (HT.sIx xs.length 0 lo)).take (HT.sIx xs.length xs.length hi - HT.sIx xs.length 0 lo),IsTup.new _ _⟩
def GX(K:W.Frag):R2:=λ x y H Q=>∃ a b xs ys,x=.ref a/\y=.ref b/\SqT K H a xs/\SqT K H b ys/\xs ≠ []/\xs.length+ys.length<=sizeLine /\
 (ys=[]->Q (.ref a) H)/\(ys ≠ []->∀ p,H p=none->Q (.ref p) (upd H p (.tup (xs++ys))))
theorem aU.nil_iff{xs:List V}{us:List Value}(r:aU xs us):us=[] ↔ xs=[]:=by
 cases r with
 | nil=>simp
 | cons _ _=>simp
theorem A3:OpR X (binaryOp .Add) (GX X.K):=by
 intro pins s σ H x y v u Q I rx ry h;obtain⟨a,b,xs,ys,rfl,rfl,ha,hb,hx,hz,q1,q2⟩:=h;cases rx;cases ry;obtain⟨its,r1,p1,_⟩:=I.tuple ha;obtain⟨its2,r2,p2,_⟩:=I.tuple hb;refine HT.cat_tup p1 p2 (λ z=>hx (r1.nil_iff.mp z)) (λ z=>⟨.ref a,H,I,rfl,q1 (r2.nil_iff.mp z)⟩) (λ z=>?_) (by rw [←r1.length,←r2.length];exact hz);refine⟨.ref s.heap.objs.size,_,I.laid (t':=s.toks) (o:=.tup (xs++ys)) (λ b ob q=>JL _ q) (JO _) ?_,rfl,q2 (λ w=>z (r2.nil_iff.mpr w)) _ (I.hok.fresh (JO _))⟩;exact⟨by rw [JU];exact hz,_,r1.append r2,IsTup.new _ _⟩
end
def ixN(n:Nat)(i:Int):Option Nat:=if 0<=i then (if i < n then some i.toNat else none) else if -(n:Int)<=i then some (i+n).toNat else none
def atI{α:Type}(xs:List α)(i:Int):Option α:=(ixN xs.length i).bind λ j=>xs[j]?
theorem tY{n:Nat}{i:Int}{j:Nat}(h:ixN n i=some j):seqIndex? i n=some j/\j < n/\-(n:Int)<=i/\i < n:=by
 unfold ixN at h
 by_cases h0:0<=i
 ·rw [JR h0] at h
  by_cases h1:i < n
  ·rw [JR h1] at h;have e:i.toNat=j:=Kj h;exact⟨by rw [seqIndex_of h0 h1,e],by omega,by omega,h1⟩
  ·rw [JQ h1] at h;cases h
 ·rw [JQ h0] at h
  by_cases h1:-(n:Int)<=i
  ·rw [JR h1] at h;have e:(i+n).toNat=j:=Kj h;exact⟨by rw [seqIndex_neg (by omega) h1,e],by omega,h1,by omega⟩
  ·rw [JQ h1] at h;cases h
theorem uu{α:Type}{xs:List α}{i:Int}{v:α}(h:atI xs i=some v):∃ j,seqIndex? i xs.length=some j/\xs[j]? = some v/\j < xs.length/\-(xs.length:Int)<=i/\i < xs.length:=by
 unfold atI at h
 cases e:ixN xs.length i with
 | none=>rw [e] at h;cases h
 | some j=>
  rw [e] at h;obtain⟨h1,h2,h3,h4⟩:=tY e;exact⟨j,h1,h,h2,h3,h4⟩
theorem eJ{α:Type}{xs:List α}{j:Nat}{v:α}(h:xs[j]? = some v):atI xs (j:Int)=some v:=by
 have hj:j < xs.length:=(JM.mp h).1
 have e:ixN xs.length (j:Int)=some j:=by
  unfold ixN;rw [if_pos (by omega),if_pos (by omega)];simp
 unfold atI;rw [e];exact h
def Cu(b:Expr):Prop:=∀ o i,subscripted b false o i=operate [o,i] (getItem o i)
def IxR(X:Cx)(r:R2):Prop:=
 ∀ (value slice:Expr) (pins:List (Addr × Obj)) (s:Shared) (σ:St) (H:Hp) (x y:V) (v u:Value) (Q:VK),Inv X pins σ H s->bq x v->bq y u->r x y H Q →
  subscripted slice false v u=operate [v,u] (getItem v u)->wpAny (model X.prog X.w) X.A (subscriptTail value slice v u) (EP X pins σ Q) X.xe s
def MtR(X:Cx)(id:String)(r:V->List V->Hp->VK->Prop):Prop:=
 ∀ (pins:List (Addr × Obj)) (s:Shared) (σ:St) (H:Hp) (x:V) (xs:List V) (v:Value) (us:List Value) (Q:VK),Inv X pins σ H s->bq x v->aU xs us->r x xs H Q →
  wpAny (model X.prog X.w) X.A (call (.builtin id) (v::us)) (EP X pins σ Q) X.xe s
section
variable {X:Cx}{a b:Expr}{ta tb:TE}{pos:Pos}
theorem IxR.or{r r':R2}(h:IxR X r)(h':IxR X r'):IxR X (λ x y H Q=>r x y H Q\/r' x y H Q):=by
 intro value slice pins s σ H x y v u Q I rx ry q hs
 rcases q with q|q
 ·exact h value slice pins s σ H x y v u Q I rx ry q hs
 ·exact h' value slice pins s σ H x y v u Q I rx ry q hs
theorem zM{r:R2}(hr:IxR X r)(ha:PE X a ta)(hb:PE X b tb)(hs:Cu b):PE X (.Subscript a b pos) (tOp r ta tb):=by
 intro pins s σ H Q I h;exact Subscript_ (GO ha hb I h λ v u s2 x y H2 I2 rx ry q=>hr a b pins s2 σ H2 x y v u Q I2 rx ry q (hs _ _))
def Jq(K:W.Frag):R2:=λ x y H Q=>∃ p xs i v,x=.ref p/\y=.int i/\SqL K H p xs/\atI xs i=some v/\Q v H
def Jp(K:W.Frag):R2:=λ x y H Q=>∃ p xs i v,x=.ref p/\y=.int i/\SqT K H p xs/\atI xs i=some v/\Q v H
theorem ny:IxR X (Jq X.K):=by
 intro value slice pins s σ H x y v u Q I rx ry h hs;obtain⟨p,xs,i,z,rfl,rfl,hq,he,q⟩:=h;cases rx;obtain⟨t,rfl⟩:=ry;obtain⟨its,r,pl,hz⟩:=I.list hq;obtain⟨j,h1,h2,h3,h4,h5⟩:=uu he;obtain⟨w,ew,rw'⟩:=r.get h2;have hl:=r.length;have hn:=k8;have fin:EP X pins σ Q w s:=⟨z,H,I,rw',q⟩
 by_cases h0:0<=i
 ·have hj:i.toNat=j:=by
   rw [seqIndex_of h0 h5] at h1;exact Kj h1
  exact item_listR pl.isList h0 (by omega) (by rw [hj];simpa using ew) fin hs
 ·have hj:(i+(its.toArray.size:Int)).toNat=j:=by
   rw [seqIndex_neg (by omega) h4] at h1;rw [J0,←hl];exact Kj h1
  exact subscriptTail_builtinR (x:=w) pl.isList.typeIs slot_list_getitem.lookup
   (wpAny_getItem_list_neg (Q:=λ r s'=>r=w/\EP X pins σ Q r s') pl.isList (by omega) (by rw [J0]<;>omega) (by omega) (by rw [hj];simpa using ew) ⟨rfl,fin⟩) hs
theorem FC:IxR X (Jp X.K):=by
 intro value slice pins s σ H x y v u Q I rx ry h hs;obtain⟨p,xs,i,z,rfl,rfl,hq,he,q⟩:=h;cases rx;obtain⟨t,rfl⟩:=ry;obtain⟨its,r,pl,hz⟩:=I.tuple hq;obtain⟨j,h1,h2,h3,h4,h5⟩:=uu he;obtain⟨w,ew,rw'⟩:=r.get h2;have hl:=r.length;have hn:=k8;have fin:EP X pins σ Q w s:=⟨z,H,I,rw',q⟩
 exact subscriptTail_builtinR (x:=w) pl.typeIs slot_tuple_getitem.lookup
  (getItem_tuple (j:=j) (Q:=λ r s'=>r=w/\EP X pins σ Q r s') pl (by omega) (by omega) (by rw [J0,←hl];exact h1) (by simpa using ew) ⟨rfl,fin⟩) hs
theorem qr(its:List Value)(n j:Nat)(u:Value):Obj.mapSeq (·.setIfInBounds j u) { cls:=.type "list",data:=.seq its.toArray n }={ cls:=.type "list",data:=.seq (its.set j u).toArray n }:=by
 simp [Obj.mapSeq]
theorem Inv.lst{pins:List (Addr × Obj)}{σ:St}{H:Hp}{s:Shared}{p:Addr}{xs:List V}(I:Inv X pins σ H s)(h:H p=some (.lst xs)) :
  ∃ (its:List Value) (n:Nat),aU xs its/\s.heap.get? p=some { cls:=.type "list",data:=.seq its.toArray n }/\xs.length<=sizeLine:=by
 obtain⟨z,its,n,r,e⟩:=I.hok p _ h;exact⟨its,n,r,e,z⟩
theorem Inv.lstUpd{pins:List (Addr × Obj)}{σ:St}{H:Hp}{s:Shared}{p:Addr}{xs ys:List V}{its its':List Value}{n n':Nat}{f:Obj->Obj}(I:Inv X pins σ H s)(h:H p=some (.lst xs))
  (ho:s.heap.get? p=some { cls:=.type "list",data:=.seq its.toArray n }) (hf:f { cls:=.type "list",data:=.seq its.toArray n }={ cls:=.type "list",data:=.seq its'.toArray n' }) (r:aU ys its') (hz:ys.length<=sizeLine) (t:Nat) :
  Inv X pins σ (upd H p (.lst ys)) { s with heap:=s.heap.update p f,toks:=t }:=by
 have e:(s.heap.update p f).get? p=some { cls:=.type "list",data:=.seq its'.toArray n' }:=by
  rw [Heap.get?_update_self f ho (by rw [hf]<;>rfl),hf]
 refine I.write (x:=p) (e:=p) (by rw [h];trivial) (.inl rfl) (λ b u hb q=>(Heap.get?_update_other _ _ (Kh hb)).trans q) ⟨_,e⟩ ?_;exact⟨hz,its',n',r,e⟩
def C6:V->V->V->Hp->(Hp->Prop)->Prop:=λ o i v H Q=>∃ p xs k j,o=.ref p/\i=.int k/\H p=some (.lst xs)/\ixN xs.length k=some j/\Q (upd H p (.lst (xs.set j v)))
theorem gm:Jb X C6:=by
 intro pins s σ H o i v ov iv u Q I ro ri rv h;obtain⟨p,xs,k,j,rfl,rfl,hp,hj,q⟩:=h;cases ro;obtain⟨t,rfl⟩:=ri;obtain⟨its,n,r,ho,hz⟩:=I.lst hp;obtain⟨h1,h2,h3,h4⟩:=tY hj;have hl:=r.length;have hn:=k8
 have I':Inv X pins σ (upd H p (.lst (xs.set j v))) { s with heap:=s.heap.update p (Obj.mapSeq (·.setIfInBounds j u)) }:=
  I.lstUpd hp ho (qr its n j u) (r.set rv j) (by rw [Mg];exact hz) s.toks
 by_cases h0:0<=k
 ·have hk:k.toNat=j:=by
   rw [seqIndex_of h0 h4] at h1;exact Kj h1
  exact W.ki_setAt ho h0 (by omega) (by rw [J0,←hl];exact h4) (by rw [hk];exact⟨_,I',q⟩)
 ·have hk:(k+(its.toArray.size:Int)).toNat=j:=by
   rw [seqIndex_neg (by omega) h3] at h1;rw [J0,←hl];exact Kj h1
  exact W.ki_setBack ho (by omega) (by rw [J0,←hl];exact h3) (by omega) (by rw [hk];exact⟨_,I',q⟩)
theorem mn(lo hi:Option Int)(n:Nat):(sliceBounds lo hi none n).1=((HT.sIx n 0 lo:Nat):Int)/\(sliceBounds lo hi none n).2.1=((HT.sIx n n hi:Nat):Int)/\(sliceBounds lo hi none n).2.2=1:=by
 refine⟨?_,?_,rfl⟩
 ·cases lo with
  | none=>simp [sliceBounds,HT.sIx]
  | some i=>
   simp only [sliceBounds,HT.sIx,Option.getD_none,show (1:Int) > 0 by decide,Mm]
   by_cases h:i < 0
   ·simp only [h,Mm]<;>omega
   ·simp only [h,if_false]<;>omega
 ·cases hi with
  | none=>simp [sliceBounds,HT.sIx]
  | some i=>
   simp only [sliceBounds,HT.sIx,Option.getD_none,show (1:Int) > 0 by decide,Mm]
   by_cases h:i < 0
   ·simp only [h,Mm]<;>omega
   ·simp only [h,if_false]<;>omega
theorem kD(its:List Value)(lo hi:Option Int):slicePick its.toArray lo hi none=((its.drop (HT.sIx its.length 0 lo)).take (HT.sIx its.length its.length hi - HT.sIx its.length 0 lo)).toArray:=by
 obtain⟨h1,h2,h3⟩:=mn lo hi its.toArray.size;unfold slicePick;rw [h1,h2,h3]
 simp only [sliceRange_one,pick_run,J0]<;>rfl
def Jn(K:W.Frag):V->Option Int->Option Int->Hp->VK->Prop:=λ x lo hi H Q=>∃ a xs,x=.ref a/\SqL K H a xs/\∀ p,H p=none->Q (.ref p) (upd H p (.lst (ja xs lo hi)))
theorem AB:SlR X (Jn X.K):=by
 intro pins s σ H x v vl vu lo hi sl Q I rx hs pl pu h;obtain⟨a,xs,rfl,hx,q⟩:=h;cases rx;obtain⟨its,r,ht,hz⟩:=I.list hx;have hlen:=r.length;refine⟨"list",_,slot_list_getitem.lookup,ht.isList.typeIs,?_⟩;refine wpAny_getItem_list_slice ht.isList hs pl pu .none (by simp) ?_ (by rw [J0]<;>omega);rw [kD,←hlen];refine⟨.ref s.heap.objs.size,_,I.laid (t':=s.toks) (o:=.lst (ja xs lo hi)) (λ b ob q=>JL _ q) (JO _) ?_,rfl,q _ (I.hok.fresh (JO _))⟩;exact⟨Ku (iy xs lo hi) hz,_,0,(r.drop (HT.sIx xs.length 0 lo)).take (HT.sIx xs.length xs.length hi - HT.sIx xs.length 0 lo),JX _ rfl⟩
theorem cF:bK X (.builtin "len") (λ xs H Q=>∃ p ys,xs=[.ref p]/\(SqL X.K H p ys\/SqT X.K H p ys)/\Q (.int ys.length) H):=by
 intro pins s σ H xs us Q I r h;obtain⟨p,ys,rfl,hq,q⟩:=h;obtain⟨u,rfl,rx⟩:=rR r;cases rx;have hn:=k8
 rcases hq with hq|hq
 ·obtain⟨its,r',pl,hz⟩:=I.list hq;have hlen:=r'.length;exact Calls.call_len_list pl.isList (by simp only [J0]<;>omega) ⟨.int ys.length,H,I.tok _,⟨s.toks+1,by rw [J0,hlen]⟩,q⟩
 ·obtain⟨its,r',pl,hz⟩:=I.tuple hq;have hlen:=r'.length;exact len_tuple pl (by simp only [J0]<;>omega) ⟨.int ys.length,H,I.tok _,⟨s.toks+1,by rw [J0,hlen]⟩,q⟩
theorem mE:bK X (.builtin "len") (λ xs H Q=>∃ z,xs=[.str z]/\z.length<=sizeLine/\Q (.int z.length) H):=by
 intro pins s σ H xs us Q I r h;obtain⟨z,rfl,hz,q⟩:=h;obtain⟨u,rfl,t,rfl⟩:=rR r;have hn:=k8;exact len_str (by omega) ⟨.int z.length,H,I.tok _,⟨_,rfl⟩,q⟩
theorem bK.or{f:Value}{r r':List V->Hp->VK->Prop}(h:bK X f r)(h':bK X f r'):bK X f (λ xs H Q=>r xs H Q\/r' xs H Q):=by
 intro pins s σ H xs us Q I rs q
 rcases q with q|q
 ·exact h pins s σ H xs us Q I rs q
 ·exact h' pins s σ H xs us Q I rs q
theorem mD:bK X (.type "list") (λ xs H Q=>∃ p ys,xs=[.ref p]/\(SqL X.K H p ys\/SqT X.K H p ys)/\∀ l,H l=none->Q (.ref l) (upd H l (.lst ys))):=by
 intro pins s σ H xs us Q I r h;obtain⟨p,ys,rfl,hq,q⟩:=h;obtain⟨u,rfl,rx⟩:=rR r;cases rx
 have fin:∀ (its:List Value),aU ys its->ys.length<=sizeLine->∀ (h':Heap) (c':Nat),(∀ b o',s.heap.get? b=some o'->h'.get? b=some o') →
   h'.get? s.heap.objs.size=some { cls:=.type "list",dict:=none,data:=.seq its.toArray c',slots:=#[] }->EP X pins σ Q (.ref s.heap.objs.size) { s with heap:=h' }:=λ its r' hz h' c' kp e=>
  ⟨.ref s.heap.objs.size,_,I.laid (t':=s.toks) kp (JO _) (show bX X.prog X.w _ h' _ (.lst ys) from ⟨hz,its,c',r',e⟩),rfl,q _ (I.hok.fresh (JO _))⟩
 rcases hq with hq|hq
 ·obtain⟨its,r',pl,hz⟩:=I.list hq;have hlen:=r'.length;obtain⟨o,ho,hc,n,hd⟩:=pl.isList;exact call_list_seq p (.inl rfl) ho hc hd (λ h' c' kp e=>fin its r' hz h' c' kp e) (by simp only [J0]<;>omega)
 ·obtain⟨its,r',pl,hz⟩:=I.tuple hq;have hlen:=r'.length;obtain⟨o,ho,hc,n,hd⟩:=pl;exact call_list_seq p (.inr rfl) ho hc hd (λ h' c' kp e=>fin its r' hz h' c' kp e) (by simp only [J0]<;>omega)
theorem kQ:bK X (.type "tuple") (λ xs H Q=>∃ p ys,xs=[.ref p]/\((SqL X.K H p ys/\∀ l,H l=none->Q (.ref l) (upd H l (.tup ys)))\/(SqT X.K H p ys/\Q (.ref p) H))):=by
 intro pins s σ H xs us Q I r h;obtain⟨p,ys,rfl,h⟩:=h;obtain⟨u,rfl,rx⟩:=rR r;cases rx
 rcases h with ⟨hq,q⟩|⟨hq,q⟩
 ·obtain⟨its,r',pl,hz⟩:=I.list hq;have hlen:=r'.length;refine call_tuple_list pl.isList (λ h' kp=>?_) (by simp only [J0]<;>omega);have I1:Inv X pins σ H { s with heap:=h' }:=I.kept (t':=s.toks) kp
  have I2:Inv X pins σ (upd H h'.objs.size (.tup ys)) { s with heap:=h'.push { cls:=.type "tuple",data:=.seq its.toArray } }:=
   I1.laid (t':=s.toks) (λ b o e=>JL _ e) (JO _) (show bX X.prog X.w _ _ _ (.tup ys) from ⟨hz,its,r',IsTup.new _ _⟩)
  exact⟨.ref h'.objs.size,_,I2,rfl,q _ (I1.hok.fresh (JO _))⟩
 ·obtain⟨its,r',pl,hz⟩:=I.tuple hq;exact call_tuple_same pl ⟨.ref p,H,I,rfl,q⟩
def tyV(K:W.Frag)(T:String)(x:V)(H:Hp):Prop:=match x with
 | .str _=>T = "str"
 | .int _=>T = "int"
 | .ref p=>(T = "list" /\ ∃ xs,SqL K H p xs)\/(T = "tuple" /\ ∃ o,K.lookup p=some o/\o.cls=.type "tuple" /\ o.dict=none) \/
   (T = "dict" /\ ((∃ kvs,H p=some (.dK kvs))\/∃ kvs,H p=some (.dT kvs)))\/(T = "set" /\ ∃ S n,H p=some (.set S n))
 | _=>False
theorem yY{pins:List (Addr × Obj)}{σ:St}{H:Hp}{s:Shared}{T:String}{x:V}{v:Value}(I:Inv X pins σ H s)(r:bq x v)(ty:tyV X.K T x H) :
  s.TypeIs v T/\∀ a,v=.ref a->∃ ob,s.heap.get? a=some ob/\ob.dict=none:=by
 cases x with
 | str z=>
  obtain⟨t,rfl⟩:=r;cases (show T = "str" from ty);exact⟨typeIs_str s z t,λ _ e=>nomatch e⟩
 | int i=>
  obtain⟨t,rfl⟩:=r;cases (show T = "int" from ty);exact⟨typeIs_int s i t,λ _ e=>nomatch e⟩
 | ref p=>
  cases r
  rcases ty with ⟨rfl,xs,hq⟩|⟨rfl,o,hk,hc,hd⟩|⟨rfl,hk⟩|⟨rfl,S,n,hk⟩
  ·obtain⟨its,_,pl,_⟩:=I.list hq;refine⟨pl.isList.typeIs,λ a e=>?_⟩;cases e;obtain⟨o,n,e,c,hd,_⟩:=pl;exact⟨o,e,hd⟩
  ·refine⟨⟨o,I.kIn p o hk,hc⟩,λ a e=>?_⟩;cases e;exact⟨o,I.kIn _ o hk,hd⟩
  ·have z:∃ o,s.heap.get? p=some o/\o.ExactDict:=by
    rcases hk with ⟨kvs,hk⟩|⟨kvs,hk⟩
    ·obtain⟨_,_,_,_,o,_,_,e,ex,_⟩:=I.hok p _ hk;exact⟨o,e,ex⟩
    ·obtain⟨_,_,_,_,o,_,_,e,ex,_⟩:=I.hok p _ hk;exact⟨o,e,ex⟩
   obtain⟨o,e,ex⟩:=z;refine⟨⟨o,e,ex.1⟩,λ a e2=>?_⟩;cases e2;exact⟨o,e,ex.2.1⟩
  ·obtain⟨o,_,_,_,e,ex,_⟩:=I.hok p _ hk;refine⟨⟨o,e,ex.1⟩,λ a e2=>?_⟩;cases e2;exact⟨o,e,ex.2.1⟩
 | _=>exact False.elim ty
def Ig(K:W.Frag)(T:String)(r:V->List V->Hp->VK->Prop)(to:TE):TE:=λ σ H Q=>to σ H λ x H1=>tyV K T x H1/\r x [] H1 Q
def tBM(K:W.Frag)(T:String)(r:V->List V->Hp->VK->Prop)(to:TE)(t:TA):TE:=λ σ H Q=>to σ H λ x H1=>tyV K T x H1/\t σ H1 λ xs H2=>r x xs H2 Q
variable {o e:Expr}{es:List Expr}{to:TE}{t:TA}{name:Str}{apos cpos:Pos}{T id:String}{r:V->List V->Hp->VK->Prop}
theorem oF(pa:PlainAttrs T)(slot:Slot T name id)(hty:typeOf (.builtin id)=pure (.type "method_descriptor"))(hm:MtR X id r)(ho:PE X o to)
  (hbase:attributeBase o name X.env (eval o X.env)=eval o X.env:=by rfl) (hline:(apos.endLine == cpos.line)=true:=by rfl):PE X (.Call (.Attribute o name apos) [] [] cpos) (Ig X.K T r to):=by
 intro pins s σ H Q I h;refine wpAny_Call_method0_late hbase hline (thn (ho pins s σ H _ I h) λ v s1 ⟨x,H1,I1,r1,ty,q1⟩=>?_);obtain⟨h1,h2⟩:=yY I1 r1 ty;exact⟨T,id,pa,slot,hty,h1,h2,Md rfl (PySem.evalArgs_none (hm pins s1 σ H1 x [] v [] Q I1 r1 .nil q1))⟩
theorem G0(pa:PlainAttrs T)(slot:Slot T name id)(hty:typeOf (.builtin id)=pure (.type "method_descriptor"))(hm:MtR X id r)(ho:PE X o to)(ha:PA X (e::es) t)
  (hbase:attributeBase o name X.env (eval o X.env)=eval o X.env:=by rfl)
  (hfew:((backTo cpos (starEach (e::es) X.env)).all (λ x=>!x.1) && (backToKw cpos (keywordEach [] X.env)).all (λ x=>x.1.isSome)
   && decide ((e::es).length+([]:List Keyword).length+(if ([]:List Keyword).isEmpty then 0 else 1) < 30))=true:=by rfl)
  (hline:(apos.endLine == cpos.line)=true:=by rfl) (hs:starEach (e::es) X.env=(false,eval e X.env)::starEach es X.env:=by rfl) (hplain:(backTo cpos (starEach es X.env)).any (·.1)=false:=by rfl) :
  PE X (.Call (.Attribute o name apos) (e::es) [] cpos) (tBM X.K T r to t):=by
 intro pins s σ H Q I h;refine wpAny_Call_method_late hbase hfew hline rfl (thn (ho pins s σ H _ I h) λ v s1 ⟨x,H1,I1,r1,ty,q1⟩=>?_);obtain⟨h1,h2⟩:=yY I1 r1 ty;refine⟨T,id,pa,slot,hty,h1,h2,?_⟩;have hA:=ha cpos pins s1 σ H1 _ I1 q1;rw [hs] at hA ⊢;refine Md (by show (false || (backTo cpos (starEach es X.env)).any (·.1))=false;rw [hplain]<;>rfl) (Calls.evalArgs_plain ?_);exact thn hA λ us s2 ⟨vs,H2,I2,r2,q2⟩=>hm pins s2 σ H2 x vs v us Q I2 r1 r2 q2
end
def MtM(X:Cx)(id:String)(r:V->List V->Hp->VK->Prop):Prop:=
 ∀ (pins:List (Addr × Obj)) (s:Shared) (σ:St) (H:Hp) (x:V) (xs:List V) (v:Value) (us:List Value) (Q:VK),Inv X pins σ H s->bq x v->aU xs us->r x xs H Q →
  wpAny (model X.prog X.w) X.A (call (.builtin id) (v::us)) (EP X pins σ Q) X.xe s
theorem aU.one:∀ {x:V}{us:List Value},aU [x] us->∃ u,us=[u]/\bq x u
 | _,_,.cons r .nil=>⟨_,rfl,r⟩
theorem aU.zero:∀ {us:List Value},aU [] us->us=[]
 | _,.nil=>rfl
theorem aU.dropLast{xs:List V}{us:List Value}(h:aU xs us):aU xs.dropLast us.dropLast:=by
 induction h with
 | nil=>exact .nil
 | cons r t ih=>
  cases t with
  | nil=>exact .nil
  | cons q t'=>exact .cons r ih
theorem aU.reverse{xs:List V}{us:List Value}(h:aU xs us):aU xs.reverse us.reverse:=by
 induction h with
 | nil=>exact .nil
 | cons r t ih=>rw [Mp,Mp];exact aU.append ih (.cons r .nil)
theorem qU{α:Type}(l:List α):l.eraseIdx (l.length - 1)=l.dropLast:=by
 induction l with
 | nil=>rfl
 | cons a r ih=>
  cases r with
  | nil=>rfl
  | cons b r=>
   have e:(a::b::r).length - 1=((b::r).length - 1)+1:=by
    have h1:(a::b::r).length=r.length+2:=rfl;have h2:(b::r).length=r.length+1:=rfl;omega
   rw [e,List.eraseIdx_cons_succ,ih]
   all_goals rfl
section
variable {X:Cx}{pins:List (Addr × Obj)}{σ:St}{H:Hp}{s:Shared}{l b:Addr}{xs ys zs:List V}
theorem Inv.lset{its its':List Value}{n:Nat}{f:Array Value->Array Value}{t':Nat}(I:Inv X pins σ H s)(hH:H l=some (.lst xs))
  (e:s.heap.get? l=some { cls:=.type "list",data:=.seq its.toArray n }) (hf:f its.toArray=its'.toArray) (hv:aU ys its') (hz:ys.length<=sizeLine) :
  Inv X pins σ (upd H l (.lst ys)) { s with heap:=s.heap.update l (Obj.mapSeq f),toks:=t' }:=by
 have q:=PySem.IsL.update e f;rw [hf] at q;refine I.write (x:=l) (e:=l) (by rw [hH];exact trivial) (.inl rfl) (λ b' u hb hu=>(Heap.get?_update_other s.heap (Obj.mapSeq f) (Kh hb)).trans hu) ⟨_,q⟩ ?_;exact⟨hz,its',_,hv,q⟩
theorem Inv.lnew{its:List Value}{t':Nat}(I:Inv X pins σ H s)(hv:aU ys its)(hz:ys.length<=sizeLine) :
  Inv X pins σ (upd H s.heap.objs.size (.lst ys)) { s with heap:=s.heap.push { cls:=.type "list",data:=.seq its.toArray },toks:=t' }:=
 I.laid (λ _ _ q=>JL _ q) (JO _) ⟨hz,its,0,hv,JX _ rfl⟩
theorem Inv.fresh(I:Inv X pins σ H s):H s.heap.objs.size=none:=I.hok.fresh (JO _)
theorem Inv.lstM(I:Inv X pins σ H s)(hH:H l=some (.lst xs)):xs.length<=sizeLine/\∃ (its:List Value) (n:Nat),aU xs its/\xs.length=its.length/\s.heap.get? l=some { cls:=.type "list",data:=.seq its.toArray n }:=by
 obtain⟨z,its,n,r,e⟩:=I.hok l _ hH;exact⟨z,its,n,r,r.length,e⟩
theorem xq{n:Nat}(h:n<=sizeLine):Builtin.List.listTooLong n=false:=by
 unfold Builtin.List.listTooLong;exact decide_eq_false (by omega)
end
section
variable {X:Cx}
def tQ:V->List V->Hp->VK->Prop:=λ x vs H Q=>∃ l xs y,x=.ref l/\vs=[y]/\H l=some (.lst xs)/\xs.length < sizeLine/\Q .non (upd H l (.lst (xs++[y])))
theorem dP:MtM X "list.append" tQ:=by
 intro pins s σ H x vs v us Q I rx rv h;obtain⟨l,xs,y,rfl,rfl,hH,hz,q⟩:=h;cases rx;obtain⟨u,rfl,ru⟩:=rv.one;obtain⟨z,its,n,r,hl,e⟩:=I.lstM hH;refine call_meets F.slot_list_append ⟨_,e,rfl⟩ F.entry_list_append (F.args_list_append_2 _ _) (PySem.list_append l its.toArray n u (by rw [J0];omega)) ⟨e,?_⟩;refine⟨.non,_,I.lset (its':=its++[u]) hH e (by simp) (r.append (.cons ru .nil)) ?_,rfl,q⟩;rw [JU,Kg];omega
def tP:V->List V->Hp->VK->Prop:=λ x vs H Q=>∃ l b xs zs,x=.ref l/\vs=[.ref b]/\H l=some (.lst xs)/\H b=some (.lst zs)/\xs.length+zs.length<=sizeLine/\Q .non (upd H l (.lst (xs++zs)))
theorem lG:MtM X "list.extend" tP:=by
 intro pins s σ H x vs v us Q I rx rv h;obtain⟨l,b,xs,zs,rfl,rfl,hH,hB,hz,q⟩:=h;cases rx;obtain⟨u,rfl,ru⟩:=rv.one;cases ru;obtain⟨z,its,n,r,hl,e⟩:=I.lstM hH;obtain⟨z2,its2,n2,r2,hl2,e2⟩:=I.lstM hB;have hsz:its.toArray.size+its2.toArray.size<=sizeLine:=by rw [J0,J0];omega
 have hlong:¬ (!its.toArray.isEmpty && Builtin.List.listTooLong (its.toArray.size+its2.toArray.size))=true:=by
  rw [xq hsz,Ma];exact JZ
 refine call_meets F.slot_list_extend ⟨_,e,rfl⟩ F.entry_list_extend (F.args_list_extend_2 _ _)
  (AutoSeq1.list_extend_list_list_0 l its.toArray n b its2.toArray n2 hlong (by rw [J0];omega) (by omega)) ⟨e,e2,?_⟩
 refine⟨.non,_,I.lset (its':=its++its2) hH e (by simp) (r.append r2) ?_,rfl,q⟩;rw [JU];omega
def Il:V->List V->Hp->VK->Prop:=λ x vs H Q=>∃ l xs y,x=.ref l/\vs=[]/\H l=some (.lst xs)/\xs[xs.length - 1]? = some y/\Q y (upd H l (.lst xs.dropLast))
theorem tw:MtM X "list.pop" Il:=by
 intro pins s σ H x vs v us Q I rx rv h;obtain⟨l,xs,y,rfl,rfl,hH,hy,q⟩:=h;cases rx;have hus:=rv.zero;subst hus;obtain⟨z,its,n,r,hl,e⟩:=I.lstM hH;obtain⟨u,hu,ru⟩:=r.get hy
 have hy':its.toArray[its.toArray.size - 1]? = some u:=by
  show its.toArray[its.length - 1]? = some u
  rw [←Array.getElem?_toList,←hl];exact hu
 refine call_meets F.slot_list_pop ⟨_,e,rfl⟩ F.entry_list_pop (F.args_list_pop_1 _) (MeetsSeq.list_pop_last l its.toArray n u hy' (by rw [J0];omega)) ⟨e,?_⟩;refine⟨y,_,I.lset (its':=its.dropLast) hH e ?_ r.dropLast ?_,ru,q⟩
 ·show its.toArray.eraseIdxIfInBounds (its.toArray.size - 1)=its.dropLast.toArray
  rw [J0,List.eraseIdxIfInBounds_toArray,qU]
 ·rw [List.length_dropLast];omega
def pb:V->List V->Hp->VK->Prop:=λ x vs H Q=>∃ l xs,x=.ref l/\vs=[]/\H l=some (.lst xs)/\Q .non (upd H l (.lst xs.reverse))
theorem qq:MtM X "list.reverse" pb:=by
 intro pins s σ H x vs v us Q I rx rv h;obtain⟨l,xs,rfl,rfl,hH,q⟩:=h;cases rx;have hus:=rv.zero;subst hus;obtain⟨z,its,n,r,hl,e⟩:=I.lstM hH;refine call_meets F.slot_list_reverse ⟨_,e,rfl⟩ F.entry_list_reverse (F.args_list_reverse_1 _) (AutoSeq1.list_reverse_list_0 l its.toArray n (by rw [J0];omega)) ⟨e,?_⟩;refine⟨.non,_,I.lset (its':=its.reverse) hH e (by simp) r.reverse ?_,rfl,q⟩;rw [Lf];omega
def Im:R2:=λ x y H Q=>∃ l b xs zs,x=.ref l/\y=.ref b/\H l=some (.lst xs)/\H b=some (.lst zs)/\xs.length+zs.length<=sizeLine/\∀ p,H p=none->Q (.ref p) (upd H p (.lst (xs++zs)))
theorem D7:OpR X (binaryOp .Add) Im:=by
 intro pins s σ H x y v u Q I rx ry h;obtain⟨l,b,xs,zs,rfl,rfl,hH,hB,hz,q⟩:=h;cases rx;cases ry;obtain⟨z,its,n,r,hl,e⟩:=I.lstM hH;obtain⟨z2,its2,n2,r2,hl2,e2⟩:=I.lstM hB;refine PySem.P.add_list e e2 ?_ (by rw [J0,J0];omega);have ea:its.toArray++its2.toArray=(its++its2).toArray:=by simp
 rw [ea];exact⟨.ref _,_,I.lnew (t':=s.toks) (r.append r2) (by rw [JU];omega),rfl,q _ I.fresh⟩
end
section
variable {prog:Program}{w:World}{A:Around}{E:Value->Shared->Prop}{s:Shared}
end
section
variable {X:Cx}
end
end L2
namespace Att
open PySem PySem.W PySem.Calls PyProof.Rows
theorem iK{P:Params}{h:Heap}:∀ (ns:List Int) (vs:List Value),WellAll P h vs (ns.map WData.int)->IntsAre vs ns:=by
 intro ns
 induction ns with
 | nil=>
  intro vs w;rw [List.map_nil] at w;cases w;exact .nil
 | cons n ns ih=>
  intro vs w;rw [Km] at w
  cases w with
  | cons a b=>
   cases a;exact .cons _ _ (ih _ b)
theorem uD{l:OpenLaw}{n:Nat}(hn:l.most=some n){P:Params}{h:Heap}{args:List WData}{vals:List Value}
  (hpre:l.row.toRowW.claim.pre args=true) (hwl:WellAll P h vals args) :
  ∃ a vs ns,vals=[Value.ref a]/\args=[WData.list (ns.map WData.int)]/\h.get? a=some { cls:=.type "list",data:=.seq vs.toArray }/\IntsAre vs ns/\ns.length<=n:=by
 have hsh:WShape.hasAll [] args [.list .int]=true:=(pre_splitW hpre).1;have hc:l.pre.holds [] { args:=args }=true:=(pre_splitW hpre).2;obtain⟨d,r,rfl,h1,h2⟩:=hasAllW_cons hsh;obtain rfl:=hasAllW_nil h2;obtain⟨xs,rfl,h3⟩:=hasW_list h1;obtain⟨ns,rfl⟩:=items_int h3
 have hlen:ns.length<=n:=by
  unfold OpenLaw.pre at hc
  have h4:(WTm.not (.lt (.lit (.int (n:Int))) (.len (.arg 0)))).holds [] { args:=[.list (ns.map .int)] }=true:=by
   have h4:=(holds_andW hc).1;rw [hn] at h4;exact h4
  have h5:=condW_of h4 (w_not (w_lt w_lit (w_len_list (w_arg rfl))));rw [JT] at h5;refine Mu λ q=>?_;have q':(n:Int) < ((ns.length:Nat):Int):=by omega
  first
   | (rw [J3 q'] at h5;exact absurd h5 (by decide))
   | (simp at h5;omega)
 cases hwl with
 | cons w1 w2=>
  cases w2
  cases w1 with
  | list ho hall=>exact⟨_,_,ns,rfl,rfl,ho,iK ns _ hall,hlen⟩
theorem uF(l:OpenLaw)(args:List WData):l.row.toRowW.claim.post args (.bool true) args=true:=
 postW_of (r:=l.row.toRowW) (X:=(true == true))
  (show WShape.has [] (.bool true) .bool=true by first|rfl|decide|simp [WShape.has,WShape.arms,WShape.armsAll])
  (show (WTm.eq .res (.lit (.bool true))).value [] { args:=args,res:=some (.bool true),after:=args }=some (.bool (true == true)) from w_eq_bool (w_res rfl) w_lit) rfl
theorem attach_call{l:OpenLaw}{n:Nat}{q:Program}{loose:List Str}{XP:(Str->Option Value)->Heap->Prop}{YP:World->Heap->Prop}{d:DefRec}
  (hn:l.most=some n) (hdf:d.params.defaults=[])
  (call:∀ (w:World) (s₀ s₁:Shared) (mg mb:Str->Option Value) (fa:Addr) (o:Obj) (pm cd doc:Value) (a:Addr) (vs:List Value) (ns:List Int),
   Ground q loose [] XP w s₀ mg mb s₁.heap->YP w s₁.heap →
   s₁.heap.get? fa=some o->o.data=.func (docDef d.name d.params d.body d.scope pm cd doc)->s₁.heap.CodeRec cd d.name->mg d.name=some (.ref fa) →
   s₁.heap.get? a=some { cls:=.type "list",data:=.seq vs.toArray }->IntsAre vs ns->ns.length<=n->s₁.gens=#[] →
   codeAny (model l.prog w) callerA (.call (.ref fa) ⟨[.ref a],[]⟩) (λ r s'=>r=.ok (.ret (.bool true))/\OldK s₁.heap s'.heap/\s'.os=s₁.os/\AllBare s'.gens) s₁) :
  WalkO q loose XP YP l.row.toRowW d [] (λ f vs=>PySem.call f vs):=by
 intro w s₀ s₁ mg mb G Y fa o pm cd doc dV kV ho hd hcd hD hmg hg args vals as hpre hlay hrd hwl hlo;obtain rfl:dV=.none:=Dflts.none hD hdf;obtain rfl:kV=.none:=Dflts.noKw hD;obtain⟨a,vs,ns,rfl,rfl,hobj,hints,hlen⟩:=uD hn hpre hwl;refine enter_call (LN (call w s₀ s₁ mg mb fa o pm cd doc a vs ns G Y ho (fd_plain hd) hcd hmg hobj hints hlen hg) λ r s' hq=>?_);obtain⟨rfl,h2,h3,h4⟩:=hq;exact⟨.inl ⟨.bool true,.bool true,[],rfl,λ _=>rfl,.bool true,uF l _,λ _=>⟨List.Pairwise.nil,λ _ hm=>(nomatch hm)⟩⟩,h2,h3,h4⟩
section
variable {prog:Program}{w:World}{A:Around}{E:Value->Shared->Prop}{s:Shared}{K:Frag}
def Jf(h:Heap)(L d:Addr):List (Addr × Obj):=(List.range h.objs.size).filterMap λ a=>if a=L\/a=d then none else (h.get? a).map λ o=>(a,o)
end
end Att
namespace L2
open PySem PySem.Spec PyProof.Rows
theorem lj:∀ {vs:List Value}{ns:List Int},IntsAre vs ns->aU (ns.map V.int) vs
 | _,_,.nil=>.nil
 | _,_,.cons n t h=>.cons ⟨t,rfl⟩ (lj h)
def GQ(H:Hp):Prop:=∀ b,H b=none\/∃ o xs,H b=some (.frz o (.lst xs))
theorem xJ{P:Program}{w:World}{K:W.Frag}{mg mb:Str->Option Value}{CX:CXT}{k:Nat}{fa a:Addr}{fd:FuncData}{x:Str}{sp:Sp}{s₁:Shared}{vs:List Value}{ns:List Int}
  (KX:K.In s₁.heap) (hns:s₁.heap.Ns mainGlobals mg) (hb:s₁.heap.Ns builtinsNs mb) (hbb:∀ x:Str,x ≠ "__name__" → mb x=bootBuiltins x) (hlim:s₁.heap.NoLimit) (hg:s₁.gens=#[])
  (ha:s₁.heap.get? a=some { cls:=.type "list",data:=.seq vs.toArray }) (hi:IntsAre vs ns) (hl:ns.length<=sizeLine) (hr:gh k callerA)
  (F:∀ base:Heap,K.In base->base.Ns mainGlobals mg->bC P w K mg base CX k fa fd [x] sp) (hbind:∀ (s:Shared) (u:Value),BindsTo s fd ⟨[u],[]⟩ [(x,u)])
  (hsp:∀ H:Hp,GQ H->SqL K H a (ns.map V.int)->sp [.ref a] H (λ v _=>v=.bl true) λ _ _ _=>False)
  (hCX:∀ H e s',CX [] H s₁ (λ _ _ _=>False) e s'->False) :
  codeAny (model P w) callerA (.call (.ref fa) ⟨[.ref a],[]⟩) (λ r s'=>r=.ok (.ret (.bool true))/\OldK s₁.heap s'.heap/\s'.os=s₁.os/\AllBare s'.gens) s₁:=by
 have rv:=lj hi;have lenV:=hi.length
 have core:∀ H:Hp,GQ H->SqL K H a (ns.map V.int)->HOk P w H s₁.heap->(∀ b,H b ≠ none->b=a)->(H a ≠ none->K.lookup a=none) →
   codeAny (model P w) callerA (.call (.ref fa) ⟨[.ref a],[]⟩) (λ r s'=>r=.ok (.ret (.bool true))/\OldK s₁.heap s'.heap/\s'.os=s₁.os/\AllBare s'.gens) s₁:=by
  intro H hO hS hok hA hK;have base_of:∀ {b:Addr} {o:Obj},s₁.heap.get? b=some o->H b=none->(wz s₁.heap H).get? b=some o:=λ e n=>yi e n
  have noA:∀ {b:Addr} {o:Obj} {es:Array DictEntry} {ep:Nat},s₁.heap.get? b=some o->o.data=.dict es ep->H b=none:=λ {b o es ep} e d=>by
   cases q:H b with
   | none=>rfl
   | some u=>
    have e':b=a:=hA b (by rw [q];simp);subst e';rw [ha] at e;cases e;have d':Data.seq vs.toArray _=Data.dict es ep:=d;cases d'
  have nsK:∀ {b:Addr} {m:Str->Option Value},s₁.heap.Ns b m->(wz s₁.heap H).Ns b m:=λ {b m} ⟨o,es,ep,e,d,r⟩=>⟨o,es,ep,base_of e (noA e d),d,r⟩
  have hKb:K.In (wz s₁.heap H):=λ b o e=>base_of (KX b o e) (by
   cases q:H b with
   | none=>rfl
   | some u=>
    have e':b=a:=hA b (by rw [q];simp);subst e';rw [hK (by rw [q];simp)] at e;cases e)
  have hM:Mod K mg (wz s₁.heap H):=⟨hKb,nsK hns,⟨mb,nsK hb,hbb⟩,let ⟨mc,h1,h2⟩:=hlim;⟨mc,nsK h1,h2⟩⟩;have e0:yW P w K mg (wz s₁.heap H) callerA [] s₁ H:=⟨rfl,hM,λ b o e=>A4 e,Nat.le_of_eq (vL _ _),trivial,λ b hb=>absurd (show b∈([]:List Addr) from hb) (by simp),hok,.of_eq hg⟩;refine LN ((F _ hKb (nsK hns)).run callerA [] s₁ H ⟨[.ref a],[]⟩ [.ref a] [.ref a] _ _ hr e0 (hbind s₁ (.ref a)) (.cons rfl .nil) (hsp H hO hS)) λ r s' h=>?_
  cases r with
  | error e=>exact(hCX H e s' h).elim
  | ok fl=>
   cases fl with
   | next=>exact False.elim h
   | brk=>exact False.elim h
   | cont=>exact False.elim h
   | ret u=>
    obtain⟨v,H',os,bare,un,hok',r',q⟩:=h;have q':v=.bl true:=q;subst q';obtain rfl:u=Value.bool true:=r';refine⟨rfl,OldK.of_keep λ b o e=>?_,os,bare⟩
    cases q:H b with
    | none=>exact un.keep b o e q (by intro z;exact absurd (show b∈([]:List Addr) from z) (by simp)) (by simp)
    | some u=>
     rcases hO b with z|⟨ob,xs,z⟩
     ·rw [q] at z;cases z
     ·have z2:=un.frzs b ob _ z;obtain⟨e1,_⟩:=hok b _ z;obtain⟨e2,_⟩:=hok' b _ z2;rw [e] at e1;cases e1;exact e2
 cases hk:K.lookup a with
 | some o=>
  have e:=KX a o hk;rw [ha] at e;cases e;refine core (λ _=>none) (λ _=>.inl rfl) (.inr ⟨_,vs.toArray,_,hk,rfl,rfl,rfl,by rw [J0,lenV];exact hl,by simpa using rv⟩) (λ b u z=>by have z':(none:Option HO)=some u:=z;cases z') (λ b z=>absurd rfl z) λ z=>absurd rfl z
 | none=>
  refine core (λ b=>if b=a then some (.frz { cls:=.type "list",data:=.seq vs.toArray } (.lst (ns.map V.int))) else none) (λ b=>?_) (.inl (.inr ⟨{ cls:=.type "list",data:=.seq vs.toArray },JR rfl⟩)) (λ b u z=>?_) (λ b z=>?_) λ _=>hk
  ·by_cases hb:b=a
   ·exact .inr ⟨_,_,JR hb⟩
   ·exact .inl (JQ hb)
  ·by_cases hb:b=a
   ·have z':=(JR hb).symm.trans z;cases z';subst hb;exact⟨ha,by rw [JT];exact hl,vs,_,rv,ha⟩
   ·have z':=(JQ hb).symm.trans z;cases z'
  ·by_cases hb:b=a
   ·exact hb
   ·exact absurd (JQ hb) z
abbrev KOf{K:PySem.W.Frag}{h:Heap}(_:K.In h):PySem.W.Frag:=K
theorem HV{l:W.OpenLaw}{n k:Nat}{q:Program}{loose:List Str}{XP:(Str->Option Value)->Heap->Prop}{YP:World->Heap->Prop}{d:DefRec}{K:Params->W.Frag}{CX:World->CXT}{sp:World->Sp}{x:Str}
  (hn:l.most=some n) (hn2:n<=sizeLine) (hdf:d.params.defaults=[]) (hr:gh k callerA)
  (hY:∀ (w:World) (h:Heap),YP w h->(K w.params).In h)
  (F:∀ (w:World) (mg:Str->Option Value) (fa:Addr) (h:Heap),(K w.params).In h->h.Ns mainGlobals mg->mg d.name=some (.ref fa) →
   ∃ fd:FuncData,(∀ (s:Shared) (u:Value),BindsTo s fd ⟨[u],[]⟩ [(x,u)]) /\
    ∀ base:Heap,(K w.params).In base->base.Ns mainGlobals mg->bC l.prog w (K w.params) mg base (CX w) k fa fd [x] (sp w))
  (hsp:∀ (w:World) (H:Hp) (a:Addr) (ns:List Int),ns.length<=n->GQ H->SqL (K w.params) H a (ns.map V.int)->sp w [.ref a] H (λ v _=>v=.bl true) λ _ _ _=>False)
  (hCX:∀ (w:World) (H:Hp) (s:Shared) (e:Value) (s':Shared),CX w [] H s (λ _ _ _=>False) e s'->False) :
  W.WalkO q loose XP YP l.row.toRowW d [] (λ f vs=>PySem.call f vs):=by
 refine Att.attach_call hn hdf λ w s₀ s₁ mg mb fa o pm cd doc a vs ns G Y ho hd hcd hmg hobj hints hlen hg=>?_;have KX:=hY w _ Y;obtain⟨fd,hb,hF⟩:=F w mg fa _ KX G.T.g hmg;exact xJ KX G.T.g G.T.b G.T.builtins G.T.nolimit hg hobj hints (Ku hlen hn2) hr hF hb (λ H hO hS=>hsp w H a ns hlen hO hS) λ H e s'=>hCX w H s₁ e s'
def fw(s:Stmt)(j:Nat):Stmt:=match s with
 | .ClassDef _ _ _ body _ _ _ _ _ _ _=>body.getD j (.Pass ⟨0,0,0,0⟩)
 | _=>.Pass ⟨0,0,0,0⟩
def cO(s:Stmt):Arguments:=match s with
 | .FunctionDef _ a _ _ _ _ _ _ _ _=>a
 | _=>{ posonlyargs:=[],args:=[],vararg:=none,kwonlyargs:=[],kw_defaults:=[],kwarg:=none,defaults:=[] }
def b7(s:Stmt):List Stmt:=match s with
 | .FunctionDef _ _ b _ _ _ _ _ _ _=>b
 | _=>[]
def aa(s:Stmt):Scope:=match s with
 | .FunctionDef _ _ _ _ _ _ sc _ _ _=>sc
 | _=>{ kind:=.function,names:=[],isGenerator:=false,isCoroutine:=false }
abbrev CX0:CXT:=λ _ _ _ _ _ _=>False
abbrev E0:XK:=λ _ _ _=>False
theorem rV{X:Cx}:jg CX0 X E0:=λ _ _ _ _ _ _ _ h=>h.elim
structure Fun(K:W.Frag)(x qual:Str)(st:Stmt)(f:Addr)(fd:FuncData):Prop where
 ex:∃ (oc:Value) (od:Option Addr) (kV doc pm:Value) (an:Option Addr) (cdv ct:Value) (osl:Array (Option Value)),
  fd=W.fnOf x qual (cO st) (b7 st) (aa st) .none kV doc pm an cdv ct/\K.lookup f=some ⟨oc,od,.func fd,osl⟩/\W.codeIn K cdv qual=true
 kp:W.keepIn K (.ref f)=true
section
variable {P:Program}{w:World}{K:PySem.W.Frag}{mg:Str->Option Value}{base:Heap}
theorem Fun.ok{x qual:Str}{st:Stmt}{f:Addr}{fd:FuncData}{N ps:List Str}{k:Nat}{sp:Sp}(F:Fun K x qual st f fd)(S:ak N ps (aa st))(len:∀ vs H Q E,sp vs H Q E->vs.length=ps.length)
  (hbody:∀ (cdv:Value) (A:Around) (outer:List Env) (s:Shared) (H:Hp) (vs:List V) (Q:VK) (E:XK),gh k (A.deeper (envOfC qual (aa st) s.heap.objs.size f cdv))->sp vs H Q E →
   ∃ t,PSs (yT CX0 P w K mg base N qual (aa st) f cdv A outer s H E).nox (b7 st) t/\t { nx:=λ _ H'=>Q .non H',rt:=Q } (start N vs) H):bC P w K mg base CX0 (k+1) f fd ps sp:=by
 obtain⟨oc,od,kV,doc,pm,an,cdv,ct,osl,rfl,lk,hcd⟩:=F.ex;refine Du lk hcd S len λ A outer s H vs Q E hr hsp=>?_;obtain⟨t,h,q⟩:=hbody cdv A outer s H vs Q E hr hsp;exact⟨t,h.nox,q⟩
theorem Fun.binds{x qual:Str}{st:Stmt}{f:Addr}{fd:FuncData}{ps:List Str}(F:Fun K x qual st f fd)
  (h:∀ (kV doc pm:Value) (an:Option Addr) (cdv ct:Value) (us:List Value),us.length=ps.length->bindArgs (W.fnOf x qual (cO st) (b7 st) (aa st) .none kV doc pm an cdv ct) ⟨us,[]⟩=pure (ps.zip us)):aB K fd ps []:=by
 obtain⟨oc,od,kV,doc,pm,an,cdv,ct,osl,rfl,lk,hcd⟩:=F.ex;exact .all (h kV doc pm an cdv ct)
theorem FE{x qual:Str}{st:Stmt}{f:Addr}{oc:Value}{od an:Option Addr}{osl:Array (Option Value)}{kV doc pm cdv ct:Value}(l:K.lookup f=some ⟨oc,od,.func (W.fnOf x qual (cO st) (b7 st) (aa st) .none kV doc pm an cdv ct),osl⟩)
  (c:W.codeIn K cdv qual=true) (k:W.keepIn K (.ref f)=true):Fun K x qual st f (W.fnOf x qual (cO st) (b7 st) (aa st) .none kV doc pm an cdv ct):=⟨⟨oc,od,kV,doc,pm,an,cdv,ct,osl,rfl,l,c⟩,k⟩
end
theorem uC{n:Nat}(h:n<=1000):n < sizeLine:=Nat.lt_of_le_of_lt h (by decide)
section
variable {X:Cx}
theorem pv(i:Nat){x:Str}{pos:Pos}(hN:X.N[i]? = some x:=by rfl)(hv:Vis X.env.scope x:=by first|exact Or.inl rfl|exact Or.inr (Or.inl rfl)|exact Or.inr (Or.inr rfl))(hd:(x == ("__debug__":Str))=false:=by decide)
  (hcd:(x == ("__classdict__":Str))=false:=by decide):PE X (.Name x pos) (FJ i):=DV hN hv hd hcd
end
theorem IT{c A B:Prop}[Decidable c](h1:c->A)(h2:¬ c->B):if c then A else B:=by
 by_cases h:c
 ·rw [JR h];exact h1 h
 ·rw [JQ h];exact h2 h
def kX(H H':Hp):Prop:=∀ b o,H b=some o->H' b=some o
theorem kX.refl(H:Hp):kX H H:=λ _ _ h=>h
theorem kX.trans{H H1 H2:Hp}(a:kX H H1)(b:kX H1 H2):kX H H2:=λ c o h=>b c o (a c o h)
theorem kX.free{H H':Hp}(e:kX H H'){l:Addr}(h:H' l=Option.none):H l=Option.none:=by
 cases q:H l with
 | none=>rfl
 | some o=>
  rw [e l o q] at h;cases h
theorem kX.seq{K:W.Frag}{H H':Hp}{a:Addr}{xs:List V}(e:kX H H')(h:SqL K H a xs):SqL K H' a xs:=by
 rcases h with (h|⟨o,h⟩)|h
 ·exact .inl (.inl (e _ _ h))
 ·exact .inl (.inr ⟨o,e _ _ h⟩)
 ·exact .inr h
section
variable {κ:Type}[DecidableEq κ]
def di(kvs:List (κ × V))(k:κ):Option V:=(kvs.find? λ kv=>decide (kv.1=k)).map (·.2)
def cT(kvs:List (κ × V))(k:κ)(v:V):List (κ × V):=
 if (kvs.any λ kv=>decide (kv.1=k))=true then kvs.map (λ kv=>if kv.1=k then (kv.1,v) else kv) else kvs++[(k,v)]
theorem bN{p:κ × V}{r:List (κ × V)}{k:κ}(e:p.1=k):di (p::r) k=some p.2:=by simp [di,LQ,e]
theorem bO{p:κ × V}{r:List (κ × V)}{k:κ}(e:¬ p.1=k):di (p::r) k=di r k:=by simp [di,LQ,e]
theorem ed(k:κ):∀ kvs:List (κ × V),(kvs.any λ kv=>decide (kv.1=k))=(di kvs k).isSome
 | []=>rfl
 | p::r=>by
  rw [List.any_cons]
  by_cases e:p.1=k
  ·simp only [bN e,J3 e,Bool.true_or,Option.isSome_some]
  ·rw [bO e,J1 e,Bool.false_or];exact ed k r
theorem oW(k j:κ)(y:V):∀ kvs:List (κ × V),di (kvs.map λ kv=>if kv.1=k then (kv.1,y) else kv) j=(di kvs j).map λ x=>if j=k then y else x
 | []=>rfl
 | p::r=>by
  have ih:=oW k j y r;rw [Km]
  by_cases h:p.1=k
  ·rw [JR h]
   by_cases e:p.1=j
   ·rw [bN (p:=(p.1,y)) e,bN e,Lg,JR (e.symm.trans h)]
   ·rw [bO (p:=(p.1,y)) e,bO e,ih]
  ·rw [JQ h]
   by_cases e:p.1=j
   ·rw [bN (p:=p) e,bN e,Lg,JQ (λ z=>h (e.trans z))]
   ·rw [bO (p:=p) e,bO e,ih]
theorem ll(k j:κ)(y:V):∀ kvs:List (κ × V),di kvs k=none->di (kvs++[(k,y)]) j=if j=k then some y else di kvs j
 | [],_=>by
  by_cases e:k=j
  ·rw [JR e.symm];exact bN (p:=(k,y)) e
  ·rw [JQ (λ z=>e z.symm)];exact bO (p:=(k,y)) e
 | p::r,hn=>by
  rw [List.cons_append];have hk:¬ p.1=k:=λ z=>by rw [bN z] at hn;cases hn
  rw [bO hk] at hn;have ih:=ll k j y r hn
  by_cases e:p.1=j
  ·rw [bN e,bN e,JQ (λ z=>hk (e.trans z))]
  ·rw [bO e,bO e,ih]
theorem jU(kvs:List (κ × V))(k j:κ)(y:V):di (cT kvs k y) j=if j=k then some y else di kvs j:=by
 unfold cT
 by_cases a:(kvs.any λ kv=>decide (kv.1=k))=true
 ·rw [JR a,oW];rw [ed] at a
  by_cases e:j=k
  ·obtain⟨x,hx⟩:=Option.isSome_iff_exists.mp a;rw [JR e,e,hx,Lg,JR rfl]
  ·rw [JQ e]
   cases di kvs j with
   | none=>rfl
   | some x=>rw [Lg,JQ e]
 ·rw [JQ a];refine ll k j y kvs ?_;rw [ed] at a
  cases q:di kvs k with
  | none=>rfl
  | some x=>rw [q] at a;exact(a rfl).elim
theorem ir(kvs:List (κ × V))(k:κ)(v:V):(cT kvs k v).length<=kvs.length+1:=by
 unfold cT;split
 ·rw [JT];omega
 ·rw [JU,Kk,LD];omega
theorem kU.isSome_eq{o:Option V}{u:Option Value}(r:kU o u):o.isSome=u.isSome:=by
 cases o with
 | none=>cases u with
  | none=>rfl
  | some _=>exact(show False from r).elim
 | some _=>cases u with
  | none=>exact(show False from r).elim
  | some _=>rfl
theorem kU.getD{o:Option V}{u:Option Value}{d:V}{d':Value}(r:kU o u)(rd:bq d d'):bq (o.getD d) (u.getD d'):=by
 cases o with
 | none=>cases u with
  | none=>exact rd
  | some _=>exact(show False from r).elim
 | some _=>cases u with
  | none=>exact(show False from r).elim
  | some _=>exact r
theorem KV.val{kvs:List (κ × V)}{vs:List (κ × Value)}(r:KV kvs vs)(k:κ):kU (di kvs k) (valueAt vs k):=by
 unfold KV at r
 induction r with
 | nil=>exact True.intro
 | @cons p q ps qs h t ih=>
  obtain⟨h1,h2⟩:=h
  by_cases e:p.1=k
  ·have e':q.1=k:=h1.symm.trans e;have b:valueAt (q::qs) k=some q.2:=by simp [valueAt,LQ,e']
   rw [bN e,b];exact h2
  ·have e':¬ q.1=k:=λ z=>e (h1.trans z);have b:valueAt (q::qs) k=valueAt qs k:=by simp [valueAt,LQ,e']
   rw [bO e,b];exact ih
theorem KV.any{kvs:List (κ × V)}{vs:List (κ × Value)}(r:KV kvs vs)(k:κ):(kvs.any λ kv=>decide (kv.1=k))=vs.any λ kv=>decide (kv.1=k):=by
 unfold KV at r
 induction r with
 | nil=>rfl
 | cons h t ih=>rw [List.any_cons,List.any_cons,ih,h.1]
theorem KV.repl{kvs:List (κ × V)}{vs:List (κ × Value)}(r:KV kvs vs)(k:κ){y:V}{u:Value}(ry:bq y u) :
  KV (kvs.map λ kv=>if kv.1=k then (kv.1,y) else kv) (vs.map λ kv=>if kv.1=k then (kv.1,u) else kv):=by
 unfold KV at r ⊢
 induction r with
 | nil=>exact .nil
 | @cons p q ps qs h t ih=>
  rw [Km,Km];refine .cons ?_ ih;obtain⟨h1,h2⟩:=h
  by_cases e:p.1=k
  ·rw [JR e,JR (h1.symm.trans e)];exact⟨h1,ry⟩
  ·rw [JQ e,JQ (λ z=>e (h1.trans z))];exact⟨h1,h2⟩
theorem KV.put{kvs:List (κ × V)}{vs:List (κ × Value)}(r:KV kvs vs)(k:κ){y:V}{u:Value}(ry:bq y u):KV (cT kvs k y) (stored vs k u):=by
 unfold cT stored;rw [r.any k]
 by_cases e:(vs.any λ kv=>decide (kv.1=k))=true
 ·rw [JR e,JR e];exact r.repl k ry
 ·rw [JQ e,JQ e];exact Paired.snoc r ⟨rfl,ry⟩
theorem KV.length{kvs:List (κ × V)}{vs:List (κ × Value)}(r:KV kvs vs):kvs.length=vs.length:=L6 r
end
theorem wC{P:Program}{w:World}{k:Key}{u:Value}(r:bq (kV k) u):(bh P w).is k u=true:=by
 cases k with
 | inl i=>obtain⟨t,e⟩:=(show ∃ t,u=Value.int i t from r);subst e;exact nL P w i t
 | inr x=>obtain⟨t,e⟩:=(show ∃ t,u=Value.str x t from r);subst e;exact nK P w x t
theorem lJ{P:Program}{w:World}:∀ {ks:List Key}{us:List Value},aU (ks.map kV) us->ItemsAre (bh P w) ks us
 | [],_,r=>by rw [List.map_nil] at r;cases r;exact .nil
 | k::ks,_,r=>by
  rw [Km] at r
  cases r with
  | cons h t=>exact .cons (wC h) (lJ t)
abbrev KT(H:Hp):List (List Key × V)->List (List Key × Addr × Value)->Prop:=Paired λ p q=>p.1=q.1/\H q.2.1=some (.tup (p.1.map kV))/\bq p.2 q.2.2
theorem KT.val{H:Hp}{kvs:List (List Key × V)}{xs:List (List Key × Addr × Value)}(r:KT H kvs xs)(k:List Key):kU (di kvs k) ((atKey xs k).map (·.2)):=by
 induction r with
 | nil=>exact True.intro
 | @cons p q ps qs h t ih=>
  obtain⟨h1,_,h2⟩:=h
  by_cases e:p.1=k
  ·have e':q.1=k:=h1.symm.trans e;have b:atKey (q::qs) k=some q.2:=by simp [atKey,LQ,e']
   rw [bN e,b];exact h2
  ·have e':¬ q.1=k:=λ z=>e (h1.trans z);have b:atKey (q::qs) k=atKey qs k:=by simp [atKey,LQ,e']
   rw [bO e,b];exact ih
theorem KT.repl{H:Hp}{kvs:List (List Key × V)}{xs:List (List Key × Addr × Value)}(r:KT H kvs xs)(k:List Key){y:V}{u:Value}(ry:bq y u) :
  KT H (kvs.map λ kv=>if kv.1=k then (kv.1,y) else kv) (xs.map (putAt k u)):=by
 induction r with
 | nil=>exact .nil
 | @cons p q ps qs h t ih=>
  rw [map_cons,map_cons];refine .cons ?_ ih;obtain⟨h1,h2,h3⟩:=h;unfold putAt
  by_cases e:p.1=k
  ·rw [JR e,JR (h1.symm.trans e)];exact⟨h1,h2,ry⟩
  ·rw [JQ e,JQ (λ z=>e (h1.trans z))];exact⟨h1,h2,h3⟩
theorem KT.put{H:Hp}{kvs:List (List Key × V)}{xs:List (List Key × Addr × Value)}(r:KT H kvs xs)(k:List Key){b:Addr}{y:V}{u:Value}(hb:H b=some (.tup (k.map kV)))(ry:bq y u) :
  KT H (cT kvs k y) (storedH xs k b u):=by
 have e:(kvs.any λ kv=>decide (kv.1=k))=(atKey xs k).isSome:=by
  rw [ed,(r.val k).isSome_eq,Option.isSome_map]
 unfold cT storedH;rw [e]
 by_cases q:(atKey xs k).isSome=true
 ·rw [JR q,JR q];exact r.repl k ry
 ·rw [JQ q,JQ q];exact Paired.snoc r ⟨rfl,hb,ry⟩
theorem KT.keeps{H H':Hp}{kvs:List (List Key × V)}{xs:List (List Key × Addr × Value)}(r:KT H kvs xs)(ht:∀ b ys,H b=some (.tup ys)->H' b=some (.tup ys)):KT H' kvs xs:=
 Paired.mapP r λ _ _ z=>⟨z.1,ht _ _ z.2.1,z.2.2⟩
section
variable {P:Program}{w:World}{H:Hp}{h:Heap}{a:Addr}
theorem CZ{u:HO}(ok:HOk P w H h)(e:Rd H a u):bX P w H h a u:=e.ok ok
theorem su{kvs:List (Key × V)}(ok:HOk P w H h)(e:Rd H a (.dK kvs)):kvs.length<=sizeLine/\(a == sysModules)=false/\∃ vs,KV kvs vs/\h.DictOf (bh P w) a vs:=
 show bX P w H h a (.dK kvs) from CZ ok e
theorem Aj{kvs:List (Key × V)}(ok:HOk P w H h)(e:H a=some (.dK kvs)):kvs.length<=sizeLine/\(a == sysModules)=false/\∃ vs,KV kvs vs/\h.DictOf (bh P w) a vs:=su ok (.inl e)
theorem oM{ks:List Key}(ok:HOk P w H h)(e:H a=some (.tup (ks.map kV))):(tupleKind (bh P w)).is h ks a:=by
 obtain⟨_,its,r,o,h1,h2,n,h3⟩:=(show bX P w H h a (.tup (ks.map kV)) from ok a _ e);exact⟨o,its.toArray,n,h1,h2,h3,by simpa using lJ r⟩
theorem sk{kvs:List (List Key × V)}(ok:HOk P w H h)(e:Rd H a (.dT kvs)):kvs.length<=sizeLine/\(a == sysModules)=false /\
  ∃ xs,KT H kvs xs/\h.DictOfH (tupleKind (bh P w)) a xs:=by
 obtain⟨z,y,xs,r,o,es,ep,h1,h2,h3,h4,h5⟩:=(show bX P w H h a (.dT kvs) from CZ ok e);refine⟨z,y,xs,r,o,es,ep,h1,h2,h3,h4,λ x hx=>?_,h5⟩
 have all:∀ {l:List (List Key × V)} {m:List (List Key × Addr × Value)},KT H l m->∀ x∈m,(tupleKind (bh P w)).is h x.1 x.2.1:=by
  intro l m q
  induction q with
  | nil=>intro x hx;exact nomatch hx
  | @cons p q ps qs hq t ih=>
   intro x hx
   rcases J9.mp hx with e|hx
   ·subst e;exact oM ok (by rw [←hq.1];exact hq.2.1)
   ·exact ih x hx
 exact all r x hx
theorem HP{kvs:List (List Key × V)}(ok:HOk P w H h)(e:H a=some (.dT kvs)):kvs.length<=sizeLine/\(a == sysModules)=false /\
  ∃ xs,KT H kvs xs/\h.DictOfH (tupleKind (bh P w)) a xs:=sk ok (.inl e)
end
def rQ(H:Hp)(a:Addr)(y:V)(r:Option V):Prop:=
 (∃ kvs k,Rd H a (.dK kvs)/\y=kV k/\r=di kvs k)\/∃ kvs k b,Rd H a (.dT kvs)/\y=.ref b/\H b=some (.tup (k.map kV))/\r=di kvs k
def CB(H:Hp)(a:Addr)(y v:V)(H':Hp):Prop:=
 (∃ kvs k,H a=some (.dK kvs)/\y=kV k/\kvs.length < sizeLine/\H'=upd H a (.dK (cT kvs k v))) \/
 ∃ kvs k b,H a=some (.dT kvs)/\y=.ref b/\H b=some (.tup (k.map kV))/\kvs.length < sizeLine/\H'=upd H a (.dT (cT kvs k v))
theorem rQ.k{H:Hp}{a:Addr}{kvs:List (Key × V)}{k:Key}(e:H a=some (.dK kvs)):rQ H a (kV k) (di kvs k):=.inl ⟨kvs,k,.inl e,rfl,rfl⟩
theorem CB.k{H:Hp}{a:Addr}{kvs:List (Key × V)}{k:Key}{v:V}(e:H a=some (.dK kvs))(hl:kvs.length < sizeLine):CB H a (kV k) v (upd H a (.dK (cT kvs k v))):=.inl ⟨kvs,k,e,rfl,hl,rfl⟩
section
variable {X:Cx}{pins:List (Addr × Obj)}{σ:St}{H:Hp}{s:Shared}{a:Addr}{y v:V}{u r:Value}{o:Option V}{A:Around}{E:Value->Shared->Prop}
theorem Inv.big(I:Inv X pins σ H s):sysModules < s.heap.objs.size:=by
 have h:mainGlobals < s.heap.objs.size:=(I.mod.glob.keeps I.bk).lt;exact Ly (by decide) h
theorem vT{Q:Value->Shared->Prop}(hu:A.units+1 < cLine)(I:Inv X pins σ H s)(g:rQ H a y (some v))(ry:bq y u)(h:∀ w' s',Inv X pins σ H s'->bq v w'->Q w' s') :
  wpAny (model X.prog X.w) A (getItem (.ref a) u) Q E s:=by
 rcases g with ⟨kvs,k,e,ey,l⟩|⟨kvs,k,b,e,ey,eb,l⟩
 ·subst ey;obtain⟨z,hd,vs,rel,dd⟩:=su I.hok e;obtain⟨w',hw,rw'⟩:=kU.some_of (v:=v) (o:=valueAt vs k) (by rw [l];exact rel.val k);exact wpAny_getItem_of (wC ry) dd.mapOf hw (h w' _ (I.tok _) rw')
 ·subst ey;cases (show u=Value.ref b from ry);obtain⟨z,hd,xs,rel,dd⟩:=sk I.hok e;obtain⟨w',hw,rw'⟩:=kU.some_of (v:=v) (o:=(atKey xs k).map (·.2)) (by rw [l];exact rel.val k);obtain⟨p,hp,hp2⟩:=J6.mp hw;refine wpAny_getItem_heap (Mz hu) (oM I.hok eb) dd hp ?_;rw [hp2];exact h w' _ (I.tok _) rw'
theorem um{h':Heap}{t':Nat}{ob:HO}(I:Inv X pins σ H s)(mu:Mut (H a))(hs:Heap.SameBut a s.heap h')(he:∃ q,h'.get? a=some q)(new:bX X.prog X.w (upd H a ob) h' a ob) :
  Inv X pins σ (upd H a ob) { s with heap:=h',toks:=t' }:=
 I.write (x:=a) (e:=a) mu (.inl rfl) (λ b q hb z=>(hs.2 b hb).trans z) he new
theorem FF{P:Program}{w:World}{H':Hp}{h':Heap}{kvs:List (Key × V)}{vs:List (Key × Value)}(z:kvs.length<=sizeLine)(hd:(a == sysModules)=false)(rel:KV kvs vs)(dd:h'.DictOf (bh P w) a vs) :
  bX P w H' h' a (.dK kvs):=⟨z,hd,vs,rel,dd⟩
theorem vS{H':Hp}{Q:Unit->Shared->Prop}(hu:A.units+1 < cLine)(I:Inv X pins σ H s)(g:CB H a y v H')(ry:bq y u)(rv:bq v r)(h:∀ s',Inv X pins σ H' s'->Q () s') :
  wpAny (model X.prog X.w) A (setItem (.ref a) u r) Q E s:=by
 rcases g with ⟨kvs,k,e,ey,l,eH⟩|⟨kvs,k,b,e,ey,eb,l,eH⟩
 ·subst ey eH;obtain⟨z,hd,vs,rel,dd⟩:=Aj I.hok e;have hz:vs.length<=sizeLine:=by rw [←rel.length];exact z
  have hl:(cT kvs k v).length<=sizeLine:=by have:=ir kvs k v;omega
  refine wpAny_setItem_pairs (hsz:=hz) (wC ry) dd λ h' dd' hs=>h _ ?_;have he:∃ q,h'.get? a=some q:=let ⟨q,_,_,hq,_⟩:=dd';⟨q,hq⟩;exact um I (by rw [e];exact True.intro) hs he (FF hl hd (rel.put k rv) dd')
 ·subst ey eH;cases (show u=Value.ref b from ry);obtain⟨z,hd,xs,rel,dd⟩:=HP I.hok e;have hz:xs.length<=sizeLine:=by rw [←L6 rel];exact z
  have hl:(cT kvs k v).length<=sizeLine:=by have:=ir kvs k v;omega
  refine wpAny_setItem_heap (hsz:=hz) (Mz hu) (oM I.hok eb) dd λ h' dd' hs=>h _ ?_;obtain⟨q,es,ep,hq,h2,h3,h4,_,h5⟩:=dd';refine um I (by rw [e];exact True.intro) hs ⟨q,hq⟩ ⟨hl,hd,_,(rel.put k eb rv).keeps λ c ys ec=>?_,q,es,ep,hq,h2,h3,h4,h5⟩;rw [ah (Hd ec e (λ z=>nomatch z))];exact ec
end
section
variable {X:Cx}{pins:List (Addr × Obj)}{σ:St}{H:Hp}{s:Shared}{a:Addr}{kvs:List (Key × V)}{k:Key}{u:Value}{A:Around}{E:Value->Shared->Prop}
end
def Jc(i:Expr):Prop:=∀ ov iv,subscripted i false ov iv=operate [ov,iv] (getItem ov iv)
theorem Ay{prog:Program}{w:World}{A:Around}{E:Value->Shared->Prop}{s:Shared}{env:Env}{value slice:Expr}{pos:Pos}{T id:String}{Q:Value->Shared->Prop}
  (hl:typeLookup (.type T) "__getitem__"=pure (some (.builtin id))) (hs:Jc slice)
  (h:wpAny (model prog w) A (eval value env) (λ o s₁=>wpAny (model prog w) A (eval slice env) (λ i s₂=>s₂.TypeIs o T/\wpAny (model prog w) A (getItem o i) Q E s₂) E s₁) E s) :
  wpAny (model prog w) A (eval (.Subscript value slice pos) env) Q E s:=by
 refine Subscript_ (wpAny_mono h (λ o s₁ h₁=>wpAny_mono h₁ (λ i s₂ h₂=>?_) λ _ _ x=>x) λ _ _ x=>x);obtain⟨hT,h₂⟩:=h₂;unfold subscriptTail;refine wpAny_bind ?_;rw [getitemInPython_of_ne hT.not_modules];refine wpAny_bind (wpAny_specialOf hT hl ?_)
 have fin:wpAny (model prog w) A (subscripted slice false o i) (λ r s₃=>wpAny (model prog w) A (letTemporaryGo value o r >>= λ _=>pure r) Q E s₃) E s₂:=by
  rw [hs o i];exact wpAny_operating (LS h₂ (λ r s₃ h₃=>JK (wpAny_letTemporaryGo (JV h₃))) λ _ _ x=>x)
 first
  | exact JV (JK fin)
  | exact JK (JV (JK fin))
  | exact JK fin
theorem nW{X:Cx}{pins:List (Addr × Obj)}{σ:St}{H:Hp}{s:Shared}{a:Addr}{y:V}{o:Option V}(I:Inv X pins σ H s)(g:rQ H a y o):s.TypeIs (.ref a) "dict":=by
 rcases g with ⟨kvs,k,e,_,_⟩|⟨kvs,k,b,e,_,_,_⟩
 ·obtain⟨_,_,vs,_,dd⟩:=su I.hok e;exact dd.typeIs
 ·obtain⟨_,_,xs,_,dd⟩:=sk I.hok e;exact dd.typeIs
def CU(td ty:TE):TE:=λ σ H Q=>td σ H λ x H1=>ty σ H1 λ y H2=>∃ a v,x=.ref a/\rQ H2 a y (some v)/\Q v H2
def CY(td ty tv:TE):TS:=λ D σ H=>tv σ H λ v H1=>td σ H1 λ x H2=>ty σ H2 λ y H3=>∃ a H4,x=.ref a/\CB H3 a y v H4/\D.nx σ H4
section
variable {X:Cx}{o i e value:Expr}{pos pos' tpos:Pos}{td ty tv:TE}
theorem nk(hu:X.A.units+1 < cLine)(ho:PE X o td)(hi:PE X i ty)(hs:Jc i):PE X (.Subscript o i pos) (CU td ty):=by
 intro pins s σ H Q I h;refine Ay PySem.F.slot_dict_getitem.lookup hs (thn (ho pins s σ H _ I h) λ u s1 ⟨x,H1,I1,rx,q1⟩=>thn (hi pins s1 σ H1 _ I1 q1) λ iv s2 ⟨y,H2,I2,ry,a,v,ex,g,q2⟩=>?_);subst ex;obtain rfl:u=Value.ref a:=rx;exact⟨nW I2 g,vT hu I2 g ry λ w' s3 I3 rw'=>⟨v,H2,I3,rw',q2⟩⟩
theorem AI(hu:X.A.units+1 < cLine)(ho:PE X o td)(hi:PE X i ty)(hv:PE X value tv)(hs:swapsWith value (some (.Subscript o i pos')) pos.line X.env=pure false) :
  PS X (.Assign [.Subscript o i pos'] value pos) (CY td ty tv):=by
 intro pins s σ H D I h;refine wpAny_Assign_Subscript (thn (hv pins s σ H _ I h) λ r s1 ⟨v,H1,I1,rv,q1⟩=>thn (ho pins s1 σ H1 _ I1 q1) λ u s2 ⟨x,H2,I2,rx,q2⟩=>thn (hi pins s2 σ H2 _ I2 q2) λ iv s3 ⟨y,H3,I3,ry,a,H4,ex,g,q3⟩=>?_) hs;subst ex;obtain rfl:u=Value.ref a:=rx;exact vS hu I3 g ry rv λ s4 I4=>⟨σ,H4,I4,q3⟩
end
theorem yy{P:Program}{w:World}{H:Hp}(h:Heap)(hb:sysModules < h.objs.size):bX P w H (h.push { cls:=.type "dict",data:=.dict #[] }) h.objs.size (.dK []):=
 ⟨Kz _,K7.mpr (Kh (J2 hb)),[],.nil,Heap.DictOf.new h⟩
def DF:TE:=λ _ H Q=>∀ p,H p=none->Q (.ref p) (upd H p (.dK []))
section
variable {X:Cx}{pos:Pos}
theorem xj:PE X (.Dict [] [] pos) DF:=λ pins s σ H Q I h=>
 wpAny_Dict_empty ⟨.ref s.heap.objs.size,_,I.laid (a:=s.heap.objs.size) (o:=.dK []) (t':=s.toks) (λ _ _ q=>JL _ q) (JO _) (yy s.heap I.big),rfl,h _ (I.hok.fresh (JO _))⟩
end
structure M1(X:Cx)(o:Expr)(m:Str)(apos:Pos)(e:Expr)(cpos:Pos):Prop where
 base:attributeBase o m X.env (eval o X.env)=eval o X.env
 few:((backTo cpos (starEach [e] X.env)).all (λ x=>!x.1) && (backToKw cpos (keywordEach [] X.env)).all (λ x=>x.1.isSome)
  && decide (([e]:List Expr).length+([]:List Keyword).length+(if ([]:List Keyword).isEmpty then 0 else 1) < 30))=true
 line:(apos.endLine == cpos.line)=true
 trees:backTo cpos (starEach [e] X.env)=[(false,eval e X.env)]
structure M2(X:Cx)(o:Expr)(m:Str)(apos:Pos)(e f:Expr)(cpos:Pos):Prop where
 base:attributeBase o m X.env (eval o X.env)=eval o X.env
 few:((backTo cpos (starEach [e,f] X.env)).all (λ x=>!x.1) && (backToKw cpos (keywordEach [] X.env)).all (λ x=>x.1.isSome)
  && decide (([e,f]:List Expr).length+([]:List Keyword).length+(if ([]:List Keyword).isEmpty then 0 else 1) < 30))=true
 line:(apos.endLine == cpos.line)=true
 trees:backTo cpos (starEach [e,f] X.env)=[(false,eval e X.env),(false,eval f X.env)]
def IsD(H:Hp)(a:Addr):Prop:=(∃ kvs,Rd H a (.dK kvs))\/∃ kvs,Rd H a (.dT kvs)
theorem FD{X:Cx}{pins:List (Addr × Obj)}{σ:St}{H:Hp}{s:Shared}{a:Addr}(I:Inv X pins σ H s)(d:IsD H a) :
  s.TypeIs (.ref a) "dict" /\ (∀ b,Value.ref a=.ref b->∃ ob,s.heap.get? b=some ob/\ob.dict=none)/\(a == sysModules)=false:=by
 rcases d with ⟨kvs,e⟩|⟨kvs,e⟩
 ·obtain⟨_,hd,vs,_,dd⟩:=su I.hok e;refine⟨dd.typeIs,λ b q=>?_,hd⟩;cases q;obtain⟨ob,_,_,h1,h2,_⟩:=dd;exact⟨ob,h1,h2.2.1⟩
 ·obtain⟨_,hd,xs,_,dd⟩:=sk I.hok e;refine⟨dd.typeIs,λ b q=>?_,hd⟩;cases q;obtain⟨ob,_,_,h1,h2,_⟩:=dd;exact⟨ob,h1,h2.2.1⟩
section
variable {X:Cx}{pins:List (Addr × Obj)}{σ:St}{H:Hp}{s:Shared}{a:Addr}{y d:V}{u r:Value}{o:Option V}{A:Around}{E:Value->Shared->Prop}
theorem FG{Q:Value->Shared->Prop}(hu:A.units+1 < cLine)(I:Inv X pins σ H s)(g:rQ H a y o)(ry:bq y u)(rd:bq d r)(h:∀ w' s',Inv X pins σ H s'->bq (o.getD d) w'->Q w' s') :
  wpAny (model X.prog X.w) A (call (.builtin "dict.get") [.ref a,u,r]) Q E s:=by
 rcases g with ⟨kvs,k,e,ey,l⟩|⟨kvs,k,b,e,ey,eb,l⟩
 ·subst ey;obtain⟨z,hd,vs,rel,dd⟩:=su I.hok e;refine call_meetsIn LW dd.typeIs PySem.F.entry_dict_get (PySem.F.args_dict_get_3 _ _ _) (meets_dict_get_default (bh X.prog X.w) a (wC ry) hd r) ⟨_,dd.mapOf,h _ _ (I.tok _) ?_⟩;rw [l];exact(rel.val k).getD rd
 ·subst ey;cases (show u=Value.ref b from ry);obtain⟨z,hd,xs,rel,dd⟩:=sk I.hok e;refine call_meetsIn LW dd.typeIs PySem.F.entry_dict_get (PySem.F.args_dict_get_3 _ _ _) (meetsH_dict_get_default (tupleKind (bh X.prog X.w)) a b hd r) ⟨Mz hu,k,xs,oM I.hok eb,dd,h _ _ (I.tok _) ?_⟩;rw [l];exact(rel.val k).getD rd
end
def y6(td ty tx:TE):TE:=λ σ H Q=>td σ H λ x H1=>∃ a,x=.ref a/\IsD H1 a/\ty σ H1 λ y H2=>tx σ H2 λ z H3=>∃ o,rQ H3 a y o/\Q (o.getD z) H3
section
variable {X:Cx}{o e f:Expr}{apos cpos:Pos}{td ty tx:TE}
theorem xk(hu:X.A.units+1 < cLine)(ho:PE X o td)(he:PE X e ty)(hf:PE X f tx)(m:M2 X o "get" apos e f cpos):PE X (.Call (.Attribute o "get" apos) [e,f] [] cpos) (y6 td ty tx):=by
 intro pins s σ H Q I h;refine wpAny_Call_method m.base m.few m.line PySem.F.plainAttrs_dict LW PySem.F.type_dict_get (thn (ho pins s σ H _ I h) λ u s1 ⟨x,H1,I1,rx,a,ex,d,q1⟩=>?_);subst ex;obtain rfl:u=Value.ref a:=rx;obtain⟨t1,t2,_⟩:=FD I1 d;refine⟨t1,t2,?_⟩;rw [m.trees]
 refine Md rfl (Calls.evalArgs_plain (MF (thn (he pins s1 σ H1 _ I1 q1) λ iv s2 ⟨y,H2,I2,ry,q2⟩=>
  MF (thn (hf pins s2 σ H2 _ I2 q2) λ fv s3 ⟨z,H3,I3,rz,ov,g,q3⟩=>Calls.spliced_nil ?_))))
 exact FG hu I3 g ry rz λ w' s4 I4 rw'=>⟨_,H3,I4,rw',q3⟩
end
section
variable {X:Cx}{pins:List (Addr × Obj)}{σ:St}{H:Hp}{s:Shared}{a:Addr}{kvs:List (Key × V)}{A:Around}{E:Value->Shared->Prop}
end
section
variable {X:Cx}{pins:List (Addr × Obj)}{σ:St}{H:Hp}{s:Shared}{a:Addr}{y:V}{u:Value}{A:Around}{E:Value->Shared->Prop}
end
section
variable {κ:Type}[DecidableEq κ]
theorem FX{kvs:List (κ × V)}{k:κ}(h:di kvs k=none):¬ k∈kvs.map (·.1):=by
 intro m;obtain⟨p,hp,e⟩:=J8.mp m;have q:(kvs.any λ kv=>decide (kv.1=k))=true:=List.any_eq_true.mpr ⟨p,hp,J3 e⟩;rw [ed,h] at q;exact absurd q (by simp)
end
section
variable {X:Cx}
def sx(_ j:Int):Prop:=j ≠ 0/\j.natAbs < 2 ^ 256
theorem Fu{j:Int}(h:j ≠ 0)(hj:j.natAbs < 2 ^ 256):j.natAbs.log2 < 9000:=by
 have h0:j.natAbs ≠ 0:=by omega
 have h1:=(Nat.log2_lt h0).mpr hj;omega
theorem xp:OpR X (binaryOp .FloorDiv) (rI sx λ i j=>.int (i.fdiv j)):=opI λ _ _ _ _ _ _ _ hc q=>floordiv_int hc.1 q (.inl (PyProof.noPylong_of_log2 (Fu hc.1 hc.2)))
theorem yB:bK X (.builtin "isinstance") (λ xs H Q=>∃ x n ty b,xs=[x,.ty n]/\oq X.K H x ty/\W.kitOne X.K ty (.type n)=some b/\Q (.bl b) H):=by
 intro pins s σ H xs us Q I r h;obtain⟨x,n,ty,b,rfl,hty,hk,q⟩:=h;obtain⟨u,w',rfl,rx,rc⟩:=zD r;cases (show w'=Value.type n from rc);exact vJ I rx hty hk (λ tk=>⟨.bl b,H,I.tok _,rfl,q⟩)
theorem vG(K:W.Frag)(A B:String)(r:Bool)
  (h:(if (Value.type A == Value.type B)=true then some true else if W.kitMeta B=true then (fastBuiltinMro A).map (·.contains (.type B)) else none)=some r):W.kitOne K (.type A) (.type B)=some r:=h
mutual
inductive jF (K:PySem.W.Frag) (H:Hp):V->PyData->Prop
 | non:jF K H .non .none
 | bl (b:Bool):jF K H (.bl b) (.bool b)
 | int (i:Int):jF K H (.int i) (.int i)
 | str (x:Str):jF K H (.str x) (.str x)
 | lst {a:Addr} {xs:List V} {ds:List PyData} (h:SqL K H a xs) (r:gF K H xs ds):jF K H (.ref a) (.list ds)
 | tup {a:Addr} {xs:List V} {ds:List PyData} (h:SqT K H a xs) (r:gF K H xs ds):jF K H (.ref a) (.tuple ds)
inductive gF (K:PySem.W.Frag) (H:Hp):List V->List PyData->Prop
 | nil:gF K H [] []
 | cons {x:V} {d:PyData} {xs:List V} {ds:List PyData} (h:jF K H x d) (t:gF K H xs ds):gF K H (x::xs) (d::ds)
end
mutual
theorem jF.reads{pins:List (Addr × Obj)}{σ:St}{H:Hp}{s:Shared}(I:Inv X pins σ H s):∀ {x:V}{d:PyData}{u:Value},jF X.K H x d->bq x u->∃ as,Reads s.heap u d as
 | _,_,_,.non,r=>by cases (show _=Value.none from r);exact⟨_,.none⟩
 | _,_,_,.bl b,r=>by cases (show _=Value.bool b from r);exact⟨_,.bool b⟩
 | _,_,_,.int i,r=>by obtain⟨t,rfl⟩:=r;exact⟨_,.int i t⟩
 | _,_,_,.str x,r=>by obtain⟨t,rfl⟩:=r;exact⟨_,.str x t⟩
 | _,_,_,@jF.lst _ _ a xs ds h q,r=>by
  cases (show _=Value.ref a from r);obtain⟨its,hv,hp,_⟩:=I.list h;obtain⟨o,n,e,c,_,d⟩:=hp;obtain⟨as,z⟩:=gF.reads I q hv;exact⟨_,.list e c d (by simpa using z)⟩
 | _,_,_,@jF.tup _ _ a xs ds h q,r=>by
  cases (show _=Value.ref a from r);obtain⟨its,hv,hp,_⟩:=I.tuple h;obtain⟨o,e,c,n,d⟩:=hp;obtain⟨as,z⟩:=gF.reads I q hv;exact⟨_,.tuple e c d (by simpa using z)⟩
theorem gF.reads{pins:List (Addr × Obj)}{σ:St}{H:Hp}{s:Shared}(I:Inv X pins σ H s):∀ {xs:List V}{ds:List PyData}{us:List Value},gF X.K H xs ds->aU xs us->∃ as,ReadsAll s.heap us ds as
 | _,_,_,.nil,.nil=>⟨_,.nil⟩
 | _,_,_,.cons h t,.cons r q=>by
  obtain⟨as,z⟩:=jF.reads I h r;obtain⟨bs,y⟩:=gF.reads I t q;exact⟨_,.cons z y⟩
end
def Jr(K:W.Frag):R2:=λ x y H Q=>∃ d e,jF K H x d/\jF K H y e/\SeqAt.shaped d=true/\SeqAt.shaped e=true/\Q (.bl (PyData.eqv d e)) H
def Jo(K:W.Frag):R2:=λ x y H Q=>∃ d e,jF K H x d/\jF K H y e/\SeqAt.shaped d=true/\SeqAt.shaped e=true/\Q (.bl (!PyData.eqv d e)) H
theorem D6(hu:X.A.units+64 < cLine):OpR X (compareOp .Eq) (Jr X.K):=by
 intro pins s σ H x y v u Q I rx ry h;obtain⟨d,e,hd,he,sd,se,q⟩:=h;obtain⟨as,z⟩:=hd.reads I rx;obtain⟨bs,z'⟩:=he.reads I ry;exact SeqAt.compareEq_shaped z z' sd se hu ⟨.bl _,H,I,rfl,q⟩
theorem D1(hu:X.A.units+64 < cLine):OpR X (compareOp .NotEq) (Jo X.K):=by
 intro pins s σ H x y v u Q I rx ry h;obtain⟨d,e,hd,he,sd,se,q⟩:=h;obtain⟨as,z⟩:=hd.reads I rx;obtain⟨bs,z'⟩:=he.reads I ry;exact SeqAt.compareNe_shaped z z' sd se hu ⟨.bl _,H,I,rfl,q⟩
end
theorem w5{H:Hp}{p:Addr}{o:HO}(h:H p=none):kX H (upd H p o):=λ b u e=>by
 rw [ah (bI e h)];exact e
theorem zu{α:Type}(xs:List α)(i:Int)(h0:0<=i)(h1:i < xs.length):∃ v,atI xs i=some v/\v∈xs:=by
 have hl:i.toNat < xs.length:=by omega
 refine⟨xs[i.toNat],?_,KQ hl⟩;have e:((i.toNat:Nat):Int)=i:=by omega
 have:=eJ (xs:=xs) (j:=i.toNat) (v:=xs[i.toNat]) (JJ hl);rw [e] at this;exact this
theorem pN(ns:List Int)(i:Int)(h0:0<=i)(h1:i < ns.length):∃ z,atI (ns.map V.int) i=some (.int z)/\z∈ns:=by
 obtain⟨v,e,m⟩:=zu (ns.map V.int) i h0 (by simpa using h1);obtain⟨z,hz,rfl⟩:=J8.mp m;exact⟨z,e,hz⟩
def kT(cells:List (Str × Addr)):List (Str × NameKind)->List (Str × Addr)->List (Str × Addr)
 | [],acc=>acc
 | (n,k)::r,acc=>if (k == .free)=true then kT cells r ((n,(cells.lookup n).getD 0)::acc) else kT cells r acc
theorem eT{env:Env}:∀ (names:List (Str × NameKind)) (acc:List (Str × Addr)),(∀ y∈names,y.2=.free->∃ c,env.cells.lookup y.1=some c) →
  (forIn names acc (λ (x:Str × NameKind) (cs:List (Str × Addr))=>match x with
   | (name,kind)=>if (kind == .free)=true then (do let a ←cellOf env name;pure (ForInStep.yield ((name,a)::cs))) else (do pure PUnit.unit;pure (ForInStep.yield cs))):Sem (List (Str × Addr)))=pure (kT env.cells names acc)
 | [],acc,_=>rfl
 | (n,k)::r,acc,h=>by
  rw [MB];have hr:∀ y∈r,y.2=.free->∃ c,env.cells.lookup y.1=some c:=λ y hy=>h y (JN _ hy)
  by_cases hk:(k == .free)=true
  ·obtain⟨c,hc⟩:=h (n,k) mem_cons_self (by simpa using hk);have hc':env.cells.lookup n=some c:=hc;simp only [hk,if_true,kT,hc',Option.getD_some];have e:cellOf env n=pure c:=by unfold cellOf;rw [hc']
   rw [e];exact eT r _ hr
  ·simp only [hk,if_false,kT];exact eT r acc hr
theorem fj{scope:Scope}{env:Env}(h:∀ y∈scope.names,y.2=.free->∃ c,env.cells.lookup y.1=some c):closureFor scope env=pure (kT env.cells scope.names []):=by
 unfold closureFor;have:=eT (env:=env) scope.names [] h
 first
  | exact(KC (λ m=>m >>= λ cs=>pure cs) this).trans (pure_bind _ _)
  | (simp only [] at this ⊢;rw [this];rfl)
theorem kq{cells:List (Str × Addr)}{x:Str}{c:Addr}:∀ {names:List (Str × NameKind)}{acc:List (Str × Addr)},(∀ y∈names,y.2=.free->∃ c,cells.lookup y.1=some c)->(kT cells names acc).lookup x=some c->acc.lookup x=some c\/cells.lookup x=some c
 | [],acc,_,h=>.inl h
 | (n,k)::r,acc,hf,h=>by
  have hr:∀ y∈r,y.2=.free->∃ c,cells.lookup y.1=some c:=λ y hy=>hf y (mem_cons_of_mem _ hy);unfold kT at h
  by_cases hk:(k == .free)=true
  ·rw [JR hk] at h
   rcases kq hr h with q|q
   ·rw [K2] at q
    cases hx:x == n with
    | true=>
     rw [hx] at q;obtain⟨d,hd⟩:=hf (n,k) JP (by simpa using hk);have e:x=n:=by simpa using hx
     subst e;have hd':cells.lookup x=some d:=hd;rw [hd'] at q ⊢;exact .inr (by simpa using q)
    | false=>rw [hx] at q;exact .inl q
   ·exact .inr q
  ·rw [JQ hk] at h;exact kq hr h
theorem kr{cells:List (Str × Addr)}{x:Str}:∀ {names:List (Str × NameKind)}{acc:List (Str × Addr)},(∀ y∈names,y.2=.free->∃ c,cells.lookup y.1=some c)->(∃ c,acc.lookup x=some c)->∃ c,(kT cells names acc).lookup x=some c
 | [],acc,_,h=>h
 | (n,k)::r,acc,hf,h=>by
  have hr:∀ y∈r,y.2=.free->∃ c,cells.lookup y.1=some c:=λ y hy=>hf y (mem_cons_of_mem _ hy);unfold kT
  by_cases hk:(k == .free)=true
  ·rw [JR hk];refine kr hr ?_;rw [K2]
   cases hx:x == n with
   | true=>exact⟨_,rfl⟩
   | false=>exact h
  ·rw [JQ hk];exact kr hr h
theorem gz{cells:List (Str × Addr)}{x:Str}:∀ {names:List (Str × NameKind)}{acc:List (Str × Addr)},(∀ y∈names,y.2=.free->∃ c,cells.lookup y.1=some c)->names.lookup x=some .free->∃ c,(kT cells names acc).lookup x=some c
 | [],acc,_,h=>by simp at h
 | (n,k)::r,acc,hf,h=>by
  have hr:∀ y∈r,y.2=.free->∃ c,cells.lookup y.1=some c:=λ y hy=>hf y (mem_cons_of_mem _ hy);rw [lookup_cons] at h;unfold kT
  cases hx:x == n with
  | true=>
   rw [hx] at h;have hk:k=.free:=by simpa using h
   subst hk;rw [JR (show (NameKind.free == NameKind.free)=true from rfl)];refine kr hr ⟨(cells.lookup n).getD 0,?_⟩;rw [K2,hx]
  | false=>
   rw [hx] at h
   by_cases hk:(k == .free)=true
   ·rw [JR hk];exact gz hr h
   ·rw [JQ hk];exact gz hr h
theorem eu{x:Str}{k:NameKind}:∀ {names:List (Str × NameKind)},names.lookup x=some k->(x,k)∈names
 | [],h=>by simp at h
 | (n,j)::r,h=>by
  rw [K2] at h
  cases hx:x == n with
  | true=>
   rw [hx] at h;have e:x=n:=by simpa using hx
   have e2:j=k:=by simpa using h
   subst e;subst e2;exact JP
  | false=>rw [hx] at h;exact JN _ (eu h)
theorem cS{env:Env}{x:Str}:∀ {names:List (Str × NameKind)},
  (names.map λ (n,k)=>if (k == NameKind.free && env.scope.kind == .function && env.kindOf n == some .cell) then (n,NameKind.cell) else (n,k)).lookup x
   = (names.lookup x).map λ k=>if (k == NameKind.free && env.scope.kind == .function && env.kindOf x == some .cell) then NameKind.cell else k
 | []=>rfl
 | (n,k)::r=>by
  have ih:=@cS env x r
  show List.lookup x ((if (k == NameKind.free && env.scope.kind == .function && env.kindOf n == some .cell)=true then (n,NameKind.cell) else (n,k))::_)=_
  cases hx:x == n with
  | true=>
   have e:x=n:=by simpa using hx
   subst e
   by_cases hc:(k == NameKind.free && env.scope.kind == .function && env.kindOf x == some .cell)=true
   ·rw [JR hc];simp only [K2,Mt,Lg];rw [JR hc]
   ·rw [JQ hc];simp only [K2,Mt,Lg];rw [JQ hc]
  | false=>
   by_cases hc:(k == NameKind.free && env.scope.kind == .function && env.kindOf n == some .cell)=true
   ·rw [JR hc];simp only [K2,hx];exact ih
   ·rw [JQ hc];simp only [K2,hx];exact ih
abbrev cCx(X:Cx)(scope:Scope)(N':List Str)(C:Addr)(s₀:Shared)(H₀:Hp)(ex:List Addr)(pn:List (Addr × Obj)):Cx:=
 { X with N:=N',s₀:=s₀,H₀:=H₀,env:=compEnvC scope (kT X.env.cells scope.names []) C X.env,outer:=X.stack,stack:=X.stack,ex:=ex,fn:=λ _=>false,pn:=pn,xe:=λ _ _=>False }
def PTs(Y:Cx)(ifs:List Expr)(t:TT):Prop:=
 ∀ (pins:List (Addr × Obj)) (s:Shared) (σ:St) (H:Hp) (Q:Bool->Hp->Prop),Inv Y pins σ H s->t σ H Q →
  wpAny (model Y.prog Y.w) Y.A (forIn ifs true λ c r=>if r=true then do let ok ←isTrue c Y.env (eval c Y.env);pure (ForInStep.yield ok) else pure (ForInStep.yield r)) (TP Y pins σ Q) Y.xe s
def HW:TT:=λ _ H Q=>Q true H
theorem aM{Y:Cx}:PTs Y [] HW:=λ _ _ _ H _ I h=>JV ⟨H,I,h⟩
theorem nh{Y:Cx}{c:Expr}{t:TT}(h:PT Y c t):PTs Y [c] t:=λ pins s σ H Q I hw=>PySem.wpAny_tests_one (h pins s σ H Q I hw)
theorem HOk.but{P:Program}{w:World}{H:Hp}{h h':Heap}{C:Addr}(ok:HOk P w H h)(hn:H C=none)(hs:Heap.SameBut C h h'):HOk P w H h':=λ b ob e=>by
 refine(ok b ob e).stay (λ c w' hc q=>(hs.2 c ?_).trans q) (λ _ q=>q) λ _ _ q=>q;rintro rfl
 rcases hc with rfl|hc
 ·rw [hn] at e;cases e
 ·rw [hn] at hc;cases hc
theorem Un.but{fs ex:List Addr}{H H':Hp}{h h1 h2:Heap}{C:Addr}(u:Un fs ex H H' h h1)(hs:Heap.SameBut C h1 h2)(hC:∀ b o,h.get? b=some o->b ≠ C):Un fs ex H H' h h2 where
 keep:=λ b o e n hb hx=>(hs.2 b (hC b o e)).trans (u.keep b o e n hb hx)
 slot:=λ b o e n hb hx=>by
  obtain⟨sl,q⟩:=u.slot b o e n hb hx;exact⟨sl,(hs.2 b (hC b o e)).trans q⟩
 free:=u.free
 there:=λ b o e hx=>by
  obtain⟨o',q⟩:=u.there b o e hx;exact⟨o',(hs.2 b (hC b o e)).trans q⟩
 tups:=u.tups
 frzs:=u.frzs
 tbls:=u.tbls
section
variable {X:Cx}
def zE(k:Nat)(wi:TI)(g:TG)(tt:TT)(te:TE):TE:=λ σ H Q=>wi σ H λ J H1=>∀ D,H1 D=none->∃ W:Nat->Nat->List V->Hp->Prop,(∃ m,W 0 m [] (upd H1 D (.lst [])))/\∀ i m ys H,W i m ys H →
 (J.stop i H/\Q (.ref D) H)\/(J.go i H/\∃ N:List V->Hp->Prop,(∀ ys' H',N ys' H'->∃ m',m' < m/\W (i+1) m' ys' H') /\
  ∀ x H',J.yld i H x H'->g x (List.replicate k none++σ) H' λ σ2 H2=>(∃ vs:St,vs.length=k/\σ2=vs++σ)/\tt σ2 H2 λ b H3=>if b=true then te σ2 H3 λ y H4=>H4 D=some (.lst ys)/\ys.length < sizeLine/\N (ys++[y]) (upd H4 D (.lst (ys++[y]))) else N ys H3)
theorem vU{Y:Cx}{tg elt iter:Expr}{ifs:List Expr}{scope:Scope}{pos:Pos}{it D:Addr}{g:TG}{tt:TT}{te:TE}{J:It}{fp:List Addr}{tn:Nat->Heap->Prop}{k:Nat}{σ:St}{Q:VK}
  (hc:Y.calm=true) (hx:Y.xe=λ _ _=>False) (hg:PG Y tg g) (ht:PTs Y ifs tt) (he:PE Y elt te) (T:yU Y.prog Y.w Y.K tg J fp it tn) (hf:∀ H:Hp,(∀ b∈fp,H b=none)->∀ b∈fp,mN Y [] H b)
  (W:Nat->Nat->List V->Hp->Prop)
  (turn:∀ i m ys H,W i m ys H->(J.stop i H/\Q (.ref D) H)\/(J.go i H/\∃ N:List V->Hp->Prop,(∀ ys' H',N ys' H'->∃ m',m' < m/\W (i+1) m' ys' H') /\
   ∀ x H',J.yld i H x H'->g x (List.replicate k none++σ) H' λ σ2 H2=>(∃ vs:St,vs.length=k/\σ2=vs++σ)/\tt σ2 H2 λ b H3=>if b=true then te σ2 H3 λ y H4=>H4 D=some (.lst ys)/\ys.length < sizeLine/\N (ys++[y]) (upd H4 D (.lst (ys++[y]))) else N ys H3))
  (n:Nat) (s:Shared) (h:∃ i ys H,Inv Y [] (List.replicate k none++σ) H s/\tn i s.heap/\(∀ b∈fp,H b=none)/\W i n ys H) :
  codeAny (model Y.prog Y.w) Y.A (.compLoop (.ListComp elt [⟨tg,iter,ifs,0⟩] scope pos) 0 (.ref it) (.ref D) Y.env) (λ r s'=>r=.ok .next/\∃ H',Inv Y [] (List.replicate k none++σ) H' s'/\Q (.ref D) H') s:=by
 refine codeAny_loop rfl (λ n s=>∃ i ys H,Inv Y [] (List.replicate k none++σ) H s/\tn i s.heap/\(∀ b∈fp,H b=none)/\W i n ys H) ?_ n h;rintro n s3 ⟨i,ys,H3,I3,st3,fr3,w3⟩
 show wpAny _ Y.A ((compTurn (.ListComp elt [⟨tg,iter,ifs,0⟩] scope pos) 0 (.ref it) (.ref D) Y.env).onRaise (λ x=>do noteFrame x Y.env;theTreesLotGoes x)) _ _ s3
 refine PySem.wpAny_noted ?_;rw [PySem.compTurn_list]
 have no:∀ {α:Type} {m:Sem α} {P:α->Shared->Prop} {E:Value->Shared->Prop} {s:Shared},wpAny (model Y.prog Y.w) Y.A m P Y.xe s->wpAny (model Y.prog Y.w) Y.A m P E s:=λ {α m P E s} h=>
  LS h (λ _ _ q=>q) λ _ _ q=>by rw [hx] at q;exact q.elim
 refine JK (L5 (JK ?_))
 rcases turn i n ys H3 w3 with ⟨stop,qn⟩|⟨go,N,hN,step⟩
 ·refine thn (T.done Y rfl rfl rfl hc i [] s3 (List.replicate k none++σ) H3 _ I3 (hf H3 fr3) st3 stop) λ r s4 ⟨hr,I4⟩=>?_;subst hr;exact JV ⟨rfl,H3,I4,qn⟩
 ·refine thn (T.item Y rfl rfl rfl hc i [] s3 (List.replicate k none++σ) H3 _ I3 (hf H3 fr3) st3 go) λ r s4 ⟨u,hr,h4⟩=>?_;subst hr;refine JK (thn h4 λ _ s5 ⟨x,H5,I5,r5,y5,st5,fr5⟩=>?_);have I5':=I5.pinned (hf H5 fr5) (T.obj _ _ st5);refine JK (no (thn (hg _ s5 (List.replicate k none++σ) H5 x u _ I5' r5 (step x H5 y5)) λ _ s6 ⟨σ6,H6,I6,⟨vs,hvs,e6⟩,q6⟩=>?_));subst e6
  have forget:∀ {pins:List (Addr × Obj)} {H:Hp} {s:Shared},Inv Y pins (vs++σ) H s->Inv Y pins (List.replicate k none++σ) H s:=λ {pins H s} I=>I.weak (by simp [hvs]) λ i v e=>by
   by_cases hi:i < k
   ·rw [Kr (by simpa using hi)] at e;simp [LK,hi] at e
   ·rw [Ka (by simpa using Mu hi)] at e;rw [Ka (by omega)]
    simpa [hvs] using e
  refine JK (no (thn (ht _ s6 (vs++σ) H6 _ I6 q6) λ b s7 ⟨H7,I7,q7⟩=>?_))
  have again:∀ {H8:Hp} {s8:Shared} {ys':List V},Inv Y ([]++k7 fp s5.heap) (vs++σ) H8 s8->N ys' H8->∃ m,m < n/\∃ i ys H,Inv Y [] (List.replicate k none++σ) H s8/\tn i s8.heap/\(∀ b∈fp,H b=none)/\W i m ys H:=λ {H8 s8 ys'} I8 n8=>by
   obtain⟨m',hm,w8⟩:=hN ys' H8 n8;refine⟨m',hm,i+1,ys',H8,forget I8.unpinned,T.keep _ _ _ st5 λ b hb o e=>(I8.pin (b,o) (Kf _ (Kf _ (et hb e)))).1,λ b hb=>?_,w8⟩;obtain⟨o,e,d⟩:=T.obj _ _ st5 b hb;exact(I8.pin (b,o) (Kf _ (Kf _ (et hb e)))).2.1
  cases b with
  | false=>
   rw [JQ JZ] at q7;exact JV ⟨rfl,again I7 q7⟩
  | true=>
   rw [JR rfl] at q7;refine JK (JK (no (thn (he _ s7 (vs++σ) H7 _ I7 q7) λ y s8 ⟨y',H8,I8,ry,q8,l8,n8⟩=>?_)));exact JK (no (thn (dP _ s8 (vs++σ) H8 (.ref D) [y'] (.ref D) [y] (λ _ H'=>N (ys++[y']) H') I8 rfl (.cons ry .nil) ⟨D,ys,y',rfl,rfl,q8,l8,n8⟩) λ _ s9 ⟨_,H9,I9,_,q9⟩=>JV (JV ⟨rfl,again I9 q9⟩)))
structure gN(X:Cx)(scope:Scope)(N':List Str)(k:Nat):Prop where
 cell:∀ y∈scope.names,y.2 ≠ .cell
 kind:scope.kind=.function
 names:∀ y∈scope.names,y.2=.local->scope.names.lookup y.1=some .local
 free:∀ y∈scope.names,y.2=.free->X.env.scope.names.lookup y.1=some .cell
 len:N'.length=k+X.N.length
 sub:∀ i x,N'[k+i]? = some x->scope.names.lookup x=some .free->X.N[i]? = some x
 loc:∀ i x,N'[k+i]? = some x->scope.names.lookup x ≠ some .local
theorem gN.cells{scope:Scope}{N':List Str}{k:Nat}{pins:List (Addr × Obj)}{σ:St}{H:Hp}{s:Shared}(c:gN X scope N' k)(I:Inv X pins σ H s):∀ y∈scope.names,y.2=.free->∃ a,X.env.cells.lookup y.1=some a:=λ y hy e=>
 I.ok.has y.1 (.inl (c.free y hy e))
theorem yg{scope:Scope}{N':List Str}{k:Nat}{pins:List (Addr × Obj)}{σ:St}{H:Hp}{s s₄:Shared}{fp:List Addr}{m:Str->Option Value}(c:gN X scope N' k)(hc:X.calm=true)(I:Inv X pins σ H s)
  (hf:∀ b∈fp,mN X pins H b) (hfl:∀ b∈fp,b < s.heap.objs.size) (hb:∀ b∈fp,X.base.get? b=none) (hns:s₄.heap.Ns s.heap.objs.size m) (hk:∀ b o,s.heap.get? b=some o->s₄.heap.get? b=some o) (ho:s₄.os=s.os) (hg:s₄.gens=s.gens) :
  Inv (cCx X scope N' s.heap.objs.size s H fp (X.pn++pins)) [] (List.replicate k none++σ) H s₄:=by
 have hcl:=c.cells I
 have sub:∀ x a,(kT X.env.cells scope.names []).lookup x=some a->X.env.cells.lookup x=some a:=λ x a e=>by
  rcases kq hcl e with q|q
  ·simp at q
  ·exact q
 have kinds:∀ x,(compEnvC scope (kT X.env.cells scope.names []) s.heap.objs.size X.env).kindOf x=some .cell\/(compEnvC scope (kT X.env.cells scope.names []) s.heap.objs.size X.env).kindOf x=some .free->scope.names.lookup x=some .free:=λ x hx=>by
  have e:(compEnvC scope (kT X.env.cells scope.names []) s.heap.objs.size X.env).kindOf x=(scope.names.lookup x).map λ k=>if (k == NameKind.free && X.env.scope.kind == .function && X.env.kindOf x == some .cell) then NameKind.cell else k:=cS
  rw [e] at hx
  cases q:scope.names.lookup x with
  | none=>rw [q] at hx;simp at hx
  | some j=>
   rw [q] at hx;have hj:j ≠ .cell:=c.cell (x,j) (eu q)
   cases j<;>simp_all
 have fresh:∀ b,s.heap.objs.size<=b->s.heap.get? b=none:=λ b hb=>Heap.get?_none_of_le hb;have ne:∀ b o,s.heap.get? b=some o->b ≠ s.heap.objs.size:=λ b o e=>J2 (JS e)
 have cl_lt:∀ x a,X.env.cells.lookup x=some a->a < s.heap.objs.size:=λ x a e=>by
  obtain⟨v,o,h1,_⟩:=I.cell x a e;exact JS h1
 refine⟨⟨I.ok.mod,c.kind,I.ok.glob,I.ok.blt,JO _,λ x y a e1 e2=>I.ok.inj x y a (sub x a e1) (sub y a e2),λ x hx=>gz hcl (kinds x hx),(λ _ _ z=>nomatch z),I.ok.hd,I.ok.frames,.inl rfl,λ b hb'=>⟨J2 (hfl b hb'),λ x a e=>(hf b hb').2.2.2.2.1 x a (sub x a e)⟩,
   I.bs,Ku I.ok.bsz I.sz,(λ b o e hb'=>by rw [hb b hb'] at e;cases e),λ b hb' hz=>?_,I.stack,I.stkFree⟩,ho,by rw [hg];exact I.bare,Un.kept hk,⟨m,hns,λ i x v e1 e2 e3=>?_⟩,λ x a e=>?_,I.hok.fresh (JO _),λ x a e=>I.freeC x a (sub x a e),λ p hp=>?_,I.hok.kept hk,?_⟩
 ·rcases J9.mp (I.stkSub b hz) with z|z
  ·exact(hf b hb').2.1 z
  ·exact(hf b hb').2.2.1 z
 ·have hi:k<=i:=by
   refine Mu λ hi=>?_;rw [Kr (by simpa using hi)] at e2;simp [LK,hi] at e2
  obtain⟨j,rfl⟩:∃ j,i=k+j:=⟨i - k,by omega⟩;rw [Ka (by simp)] at e2;have e2':σ[j]? = some (some v):=by simpa using e2
  have e:(relabel scope X.env).names.lookup x=(scope.names.lookup x).map λ k=>if (k == NameKind.free && X.env.scope.kind == .function && X.env.kindOf x == some .cell) then NameKind.cell else k:=cS
  have hfree:scope.names.lookup x=some .free:=by
   cases q:scope.names.lookup x with
   | none=>
    rcases e3 with z|z|z
    all_goals (have z':(relabel scope X.env).names.lookup x=some _:=z;rw [e,q] at z';simp at z')
   | some j'=>
    have h1:j' ≠ .cell:=c.cell (x,j') (eu q);have h2:j' ≠ .local:=λ z=>c.loc j x e1 (by rw [q,z])
    rcases e3 with z|z|z
    all_goals (have z':(relabel scope X.env).names.lookup x=some _:=z;rw [e,q] at z';cases j'<;>simp_all)
  have hX:=c.sub j x e1 hfree;have hcellX:=c.free (x,.free) (eu hfree) rfl;obtain⟨m0,hn0,hl0⟩:=I.loc;obtain⟨u,r,l⟩:=hl0 j x v hX e2' (.inr (.inl hcellX));refine⟨u,r,?_⟩
  rcases l with ⟨z,_⟩|⟨_,a,ea,hz⟩
  ·have z':X.env.scope.names.lookup x=some .local:=z;rw [hcellX] at z';cases z'
  ·obtain⟨a',ea'⟩:=gz (acc:=[]) hcl hfree;have e4:=sub x a' ea';rw [ea] at e4;cases e4;refine .inr ⟨.inl ?_,a,ea',?_⟩
   ·show (relabel scope X.env).names.lookup x=some .cell
    rw [e,hfree];have k1:(X.env.scope.kind == .function)=true:=by rw [I.ok.kind];rfl
    have k2:(X.env.kindOf x == some .cell)=true:=by
     have:X.env.kindOf x=some .cell:=hcellX;rw [this];rfl
    simp [k1,k2]
   ·obtain⟨o,h1,h2⟩:=hz;exact⟨o,hk _ _ h1,h2⟩
 ·obtain⟨v,o,h1,h2⟩:=I.cell x a (sub x a e);exact⟨v,o,hk _ _ h1,h2⟩
 ·have hp':p∈X.pn++pins:=by simpa using hp
  obtain⟨e,n,nl,nf,d⟩:=I.pin p hp';refine⟨hk _ _ e,n,ne _ _ e,λ z=>?_,d⟩
  rcases J9.mp (I.stkSub _ z) with z|z
  ·exact nl z
  ·exact nf z
 ·show (List.replicate k none++σ).length=N'.length
  rw [c.len,JU,List.length_replicate,I.len]
theorem jo{elt iter tg:Expr}{ifs:List Expr}{scope:Scope}{pos:Pos}{g:TG}{tt:TT}{te:TE}{N':List Str}{k:Nat}{it:Addr}{J:It}{fp:List Addr}{tn:Nat->Heap->Prop}{pins:List (Addr × Obj)}{σ:St}{H:Hp}{s:Shared}{Q:VK}{RR:Value->Addr->Result->Shared->Prop}{E:Value->Shared->Prop}
  (c:gN X scope N' k) (hc:X.calm=true) (I:Inv X pins σ H s) (T:yU X.prog X.w X.K tg J fp it tn) (st:tn 0 s.heap) (hf:∀ b∈fp,mN X pins H b)
  (hg:∀ C s₀ H₀ ex pn,PG (cCx X scope N' C s₀ H₀ ex pn) tg g) (ht:∀ C s₀ H₀ ex pn,PTs (cCx X scope N' C s₀ H₀ ex pn) ifs tt) (he:∀ C s₀ H₀ ex pn,PE (cCx X scope N' C s₀ H₀ ex pn) elt te)
  (h:∀ D,H D=none->∃ W:Nat->Nat->List V->Hp->Prop,(∃ m,W 0 m [] (upd H D (.lst [])))/\∀ i m ys H,W i m ys H →
   (J.stop i H/\Q (.ref D) H)\/(J.go i H/\∃ N:List V->Hp->Prop,(∀ ys' H',N ys' H'->∃ m',m' < m/\W (i+1) m' ys' H') /\
    ∀ x H',J.yld i H x H'->g x (List.replicate k none++σ) H' λ σ2 H2=>(∃ vs:St,vs.length=k/\σ2=vs++σ)/\tt σ2 H2 λ b H3=>if b=true then te σ2 H3 λ y H4=>H4 D=some (.lst ys)/\ys.length < sizeLine/\N (ys++[y]) (upd H4 D (.lst (ys++[y]))) else N ys H3))
  (fin:∀ D C s' H' m,s'.heap.Ns C m->C ≠ X.env.locals->(∀ x a,X.env.cells.lookup x=some a->a ≠ C)->(H' C=none/\X.s₀.heap.objs.size<=C/\∀ p∈X.pn++pins,p.1 ≠ C)->(∀ h',Heap.SameBut C s'.heap h'->Inv X pins σ H' { s' with heap:=h' })->Q (.ref D) H'->RR (.ref D) C (.ok .next) s') :
  wpAny (model X.prog X.w) X.A (newList []) (λ acc s₃=>wpAny (model X.prog X.w) X.A (newFunctionEnv scope X.env.globals (kT X.env.cells scope.names []) [] X.env.qual none .none (some X.env)) (λ cenv s₄=>
   codeAny (model X.prog X.w) X.A (.compStart (.ListComp elt [⟨tg,iter,ifs,0⟩] scope pos) 0 (.ref it) acc { cenv with scope:=relabel scope X.env }) (RR acc cenv.locals) s₄) E s₃) E s:=by
 refine wpAny_newObj_type (wpAny_newFunctionEnv c.cell (by intro y hy;simp at hy) (λ h₁ hns₁ hsb₁=>?_) c.kind);dsimp only at hns₁ hsb₁ ⊢;have I3:Inv X pins σ (upd H s.heap.objs.size (.lst [])) { s with heap:=s.heap.push { cls:=.type "list",data:=.seq ([]:List Value).toArray },toks:=s.toks }:=I.lnew (ys:=[]) (its:=[]) .nil (Nat.zero_le _);generalize hH2:s.heap.push { cls:=.type "list",dict:=none,data:=.seq ([]:List Value).toArray }=hp at hns₁ hsb₁ I3 ⊢;have hlt:∀ b o,s.heap.get? b=some o->hp.get? b=some o:=λ b o e=>by rw [←hH2];exact Heap.get?_push_of_some _ e
 have hnD:H s.heap.objs.size=none:=I.hok.fresh (JO _);have kp:∀ b o,hp.get? b=some o->h₁.get? b=some o:=λ b o e=>hsb₁.extBut b o (J2 (JS e)) (JL _ e)
 have stk:∀ b∈fp,s.heap.get? b ≠ none:=λ b hb z=>by
  obtain⟨o,e,_⟩:=T.obj _ _ st b hb;rw [z] at e;cases e
 have flt:∀ b∈fp,b < s.heap.objs.size:=λ b hb=>by
  obtain⟨o,e,_⟩:=T.obj _ _ st b hb;exact JS e
 have fpD:∀ b∈fp,b ≠ s.heap.objs.size:=λ b hb=>J2 (flt b hb)
 have hf3:∀ b∈fp,mN X pins (upd H s.heap.objs.size (.lst [])) b:=λ b hb=>by
  obtain⟨a1,a2⟩:=hf b hb;exact⟨by rw [ah (fpD b hb)];exact a1,a2⟩
 have hnb:∀ b∈fp,X.base.get? b=none:=λ b hb=>by
  cases e:X.base.get? b with
  | none=>rfl
  | some o=>
   rcases (hf b hb).2.2.2.1 with z|z
   ·exact absurd z (I.ok.noex b o e)
   ·have:=JS (I.ok.bs b o e).1;exact absurd (JY this z) (KZ _)
 have hsz:s.heap.objs.size < hp.objs.size:=by rw [←hH2,KJ];exact K6 _
 have IY:=yg (s₄:={ s with heap:=h₁,toks:=s.toks+([]:List (Str × Value)).length }) (fp:=fp) c hc I3 hf3 (λ b hb=>Ly (flt b hb) hsz) hnb hns₁ kp rfl rfl;obtain⟨W,⟨m0,w0⟩,turn⟩:=h s.heap.objs.size hnD
 have run:=vU (Y:=cCx X scope N' hp.objs.size { s with heap:=hp,toks:=s.toks } (upd H s.heap.objs.size (.lst [])) fp (X.pn++pins)) (tg:=tg) (elt:=elt) (iter:=iter) (ifs:=ifs) (scope:=scope) (pos:=pos) (it:=it) (D:=s.heap.objs.size) (k:=k) (σ:=σ) (Q:=Q)
  hc rfl (hg _ _ _ _ _) (ht _ _ _ _ _) (he _ _ _ _ _) T (λ H' hn b hb=>⟨hn b hb,J2 (Ly (flt b hb) hsz),λ z=>(IY.ok.exfs b hb) z,.inl hb,λ x a e=>(IY.ok.exf b hb).2 x a e,λ p hp=>by
   have hp':p∈X.pn++pins:=by simpa using hp
   exact(hf b hb).2.2.2.2.2 p hp'⟩) W turn m0
 have st₁:tn 0 h₁:=T.keep _ _ _ st λ b hb o e=>kp b o (hlt b o e);have go:=run { s with heap:=h₁,toks:=s.toks+([]:List (Str × Value)).length } ⟨0,[],_,IY,st₁,λ b hb=>(hf3 b hb).1,w0⟩
 have out:∀ r s',(r=Except.ok Flow.next/\∃ H',Inv (cCx X scope N' hp.objs.size { s with heap:=hp,toks:=s.toks } (upd H s.heap.objs.size (.lst [])) fp (X.pn++pins)) [] (List.replicate k none++σ) H' s'/\Q (.ref s.heap.objs.size) H')->RR (.ref s.heap.objs.size) hp.objs.size r s':=by
  rintro r s' ⟨rfl,H',J',q⟩;obtain⟨m,hn,_⟩:=J'.loc;have hC:hp.objs.size ≠ X.env.locals:=LY (JY I.lt (Lz hsz));refine fin _ _ s' H' m hn hC (λ x a e=>?_) ⟨J'.free,Ku I.sz (Lz hsz),λ p hp'=>J2 (Ly (JS (I.pin p hp').1) hsz)⟩ (λ h' hs'=>?_) q
  ·obtain⟨v,o,h1,_⟩:=I.cell x a e;exact J2 (Ly (JS h1) hsz)
  ·refine I.call' (ch:=fp) ?_ ?_ ?_ J'.bare λ b hb=>⟨(hf b hb).2.2.2.1,(hf b hb).2.1,(hf b hb).2.2.2.2.1,(hf b hb).2.2.2.2.2⟩
   ·exact J'.os
   ·have u1:Un (frs X.stack) fp H (upd H s.heap.objs.size (.lst [])) s.heap hp:=Un.laid hlt (JO _) hnD;exact(u1.trans J'.base).but hs' λ b o e=>J2 (Ly (JS e) hsz)
   ·exact J'.hok.but J'.free hs'
 exact codeAny_compStart_list (LN go out) (T.self _ 0 _ _ _ st₁ (LN go out))
theorem AR{elt iter tg:Expr}{ifs:List Expr}{scope:Scope}{pos:Pos}{wi:TI}{g:TG}{tt:TT}{te:TE}{N':List Str}{k:Nat}
  (c:gN X scope N' k) (hc:X.calm=true) (hi:PI X tg iter wi)
  (hg:∀ C s₀ H₀ ex pn,PG (cCx X scope N' C s₀ H₀ ex pn) tg g) (ht:∀ C s₀ H₀ ex pn,PTs (cCx X scope N' C s₀ H₀ ex pn) ifs tt) (he:∀ C s₀ H₀ ex pn,PE (cCx X scope N' C s₀ H₀ ex pn) elt te)
  (hs:∀ x,foldedSetIterable iter X.env x=pure x:=by intro _;rfl):PE X (.ListComp elt [⟨tg,iter,ifs,0⟩] scope pos) (zE k wi g tt te):=by
 intro pins s σ H Q I h;rw [PySem.eval_ListComp];refine Mq (use:=none) rfl hs (fj (c.cells I)) c.kind c.names (thn (hi pins s σ H _ I h) λ v s1 h1=>thn h1 λ itv s2 h2=>?_);obtain⟨it,fp,tn,J,H2,rfl,I2,T,st2,f2,hW⟩:=h2;refine jo (RR:=λ acc C=>PySem.compPost (model X.prog X.w) X.A X.xe none (EP X pins σ Q) acc C) c hc I2 T st2 f2 hg ht he hW ?_;intro D C s' H' m hn _ _ _ hI q;exact⟨m,hn,λ h' hs'=>⟨.ref D,H',hI h' hs',rfl,q⟩⟩
def CO(i:Nat)(te:TE):TS:=λ D σ H=>te σ H λ x H1=>D.nx (σ.set i (some x)) H1
theorem AH{elt iter tg:Expr}{ifs:List Expr}{scope:Scope}{pos spos py:Pos}{wi:TI}{g:TG}{tt:TT}{te:TE}{N':List Str}{k i:Nat}{y:Str}
  (hN:X.N.Nodup) (hi':X.N[i]? = some y) (hy:Loc X.env.scope y)
  (c:gN X scope N' k) (hc:X.calm=true) (hi:PI X tg iter wi)
  (hg:∀ C s₀ H₀ ex pn,PG (cCx X scope N' C s₀ H₀ ex pn) tg g) (ht:∀ C s₀ H₀ ex pn,PTs (cCx X scope N' C s₀ H₀ ex pn) ifs tt) (he:∀ C s₀ H₀ ex pn,PE (cCx X scope N' C s₀ H₀ ex pn) elt te)
  (hsw:swapsWith (.ListComp elt [⟨tg,iter,ifs,0⟩] scope pos) (some (.Name y py)) spos.line X.env=pure true:=by rfl)
  (hs:∀ x,foldedSetIterable iter X.env x=pure x:=by intro _;rfl) (hf:X.fn y=true\/X.env.scope.names.lookup y=some .local:=by first|exact .inl rfl|exact .inr rfl|assumption) :
  PS X (.Assign [.Name y py] (.ListComp elt [⟨tg,iter,ifs,0⟩] scope pos) spos) (CO i (zE k wi g tt te)):=by
 intro pins s σ H D I h;rw [PySem.exec_Assign_Name_used _ _ _ _ hsw];refine JK (L5 (JK ?_))
 show wpAny _ X.A (do let _ ←comprehension (.ListComp elt [⟨tg,iter,ifs,0⟩] scope pos) scope X.env _ (newList []) false (eval iter X.env) (some (assign (.Name y py) X.env))) _ _ s
 refine JK (thn (Mq (use:=some (assign (.Name y py) X.env)) (Q:=λ _ s'=>SP X pins D .next s') rfl hs (fj (c.cells I)) c.kind c.names (thn (hi pins s σ H _ I h) λ v s1 h1=>thn h1 λ itv s2 h2=>?_)) λ _ s' hq=>JV (JV hq));obtain⟨it,fp,tn,J,H2,rfl,I2,T,st2,f2,hW⟩:=h2;refine jo (Q:=λ x H1=>D.nx (σ.set i (some x)) H1) (RR:=λ acc C=>PySem.compPost (model X.prog X.w) X.A X.xe (some (assign (.Name y py) X.env)) (λ _ s'=>SP X pins D .next s') acc C) c hc I2 T st2 f2 hg ht he hW ?_;intro D' C s' H' m hn hCl hCc hCo hI q
 show wpAny _ X.A (assign (.Name y py) X.env (.ref D')) _ _ s'
 have I':Inv X pins σ H' s':=hI s'.heap (Heap.SameBut.refl _ _);refine wpAny_assign_Name (lu I' hN hi' hy (show bq (.ref D') (.ref D') from rfl) (λ s'' I'' ⟨a,sb,ha⟩=>?_) hf)
 have hCa:C ≠ a:=by
  rcases ha with rfl|ha
  ·exact hCl
  ·exact λ z=>hCc _ _ ha z.symm
 refine⟨m,hn.sameBut sb hCa,λ h' hs'=>⟨_,H',?_,q⟩⟩;exact I''.turned (t':=s''.toks) (λ b o hb e=>(hs'.2 b hb).trans e) hCo.1 hCl (.inr hCo.2.1) hCc hCo.2.2
end
section
variable {M:Model}{A:Around}{E:Value->Shared->Prop}{s:Shared}
end
section
variable {X:Cx}
set_option genInjectivity false in
end
structure FW(K:W.Frag)(x qual:Str)(st:Stmt)(f:Addr)(fd:FuncData):Prop where
 ex:∃ (oc:Value) (od:Option Addr) (dV kV doc pm:Value) (an:Option Addr) (cdv ct:Value) (osl:Array (Option Value)),
  fd=W.fnOf x qual (cO st) (b7 st) (aa st) dV kV doc pm an cdv ct/\K.lookup f=some ⟨oc,od,.func fd,osl⟩/\W.codeIn K cdv qual=true
 kp:W.keepIn K (.ref f)=true
section
variable {P:Program}{w:World}{K:PySem.W.Frag}{mg:Str->Option Value}{base:Heap}
theorem FW.ok{CX:CXT}{x qual:Str}{st:Stmt}{f:Addr}{fd:FuncData}{N ps:List Str}{k:Nat}{sp:Sp}(F:FW K x qual st f fd)(S:ak N ps (aa st))(len:∀ vs H Q E,sp vs H Q E->vs.length=ps.length)
  (hbody:∀ (cdv:Value) (A:Around) (outer:List Env) (s:Shared) (H:Hp) (vs:List V) (Q:VK) (E:XK),gh k (A.deeper (envOfC qual (aa st) s.heap.objs.size f cdv))->sp vs H Q E →
   ∃ t,PSs (yT CX P w K mg base N qual (aa st) f cdv A outer s H E) (b7 st) t/\t { nx:=λ _ H'=>Q .non H',rt:=Q } (start N vs) H):bC P w K mg base CX (k+1) f fd ps sp:=by
 obtain⟨oc,od,dV,kV,doc,pm,an,cdv,ct,osl,rfl,lk,hcd⟩:=F.ex;exact Du lk hcd S len λ A outer s H vs Q E hr hsp=>hbody cdv A outer s H vs Q E hr hsp
theorem Cm{x qual:Str}{st:Stmt}{f:Addr}{oc:Value}{od an:Option Addr}{osl:Array (Option Value)}{dV kV doc pm cdv ct:Value}(l:K.lookup f=some ⟨oc,od,.func (W.fnOf x qual (cO st) (b7 st) (aa st) dV kV doc pm an cdv ct),osl⟩)
  (c:W.codeIn K cdv qual=true) (k:W.keepIn K (.ref f)=true):FW K x qual st f (W.fnOf x qual (cO st) (b7 st) (aa st) dV kV doc pm an cdv ct):=⟨⟨oc,od,dV,kV,doc,pm,an,cdv,ct,osl,rfl,l,c⟩,k⟩
end
open PySem.W
section
variable {prog:Program}{w:World}{A:Around}{E:Value->Shared->Prop}{s:Shared}{K:PySem.W.Frag}{x C:Addr}{ox:Obj}{od:Option Obj}{name:Str}
end
section
variable {X:Cx}
end
section
variable {prog:Program}{w:World}{A:Around}{R:Result->Shared->Prop}{h:Heap}{g:Array GenState}{d:Drawn}{t:Nat}{os:OsState}{K:Frag}
variable {nm q:Str}{C N fI:Addr}{bs bm bmB:List Value}{hdct:Bool}{sn:List Str}{sub:List Value}{ab:Bool}{col:Option Bool}{dd:Option Addr}{k0 k1 k2 k3 k5:Option Value}{B Bn newId nid initId inN:String}{bmN:List Value}
end
section
variable {prog:Program}{w:World}{A:Around}{E:Value->Shared->Prop}{K:Frag}{x C:Addr}{s:Shared}{name:Str}{v:Value}
end
section
variable {prog:Program}{w:World}{A:Around}{E:Value->Shared->Prop}{s:Shared}{K:PySem.W.Frag}{x C dx:Addr}{ox:Obj}{od:Option Obj}{name:Str}{mA:Str->Option Value}{u:Value}
end
section
variable {prog:Program}{w:World}{A:Around}{E:Value->Shared->Prop}{h:Heap}{g:Array GenState}{d:Drawn}{t:Nat}{os:OsState}{e a0:Addr}{dct:Option Addr}
variable {nm q:Str}{C N:Addr}{bs bm bmB:List Value}{hdct:Bool}{sn:List Str}{sub:List Value}{ab:Bool}{col:Option Bool}{dd:Option Addr}{k0 k1 k2 k3 k5:Option Value}{B newId nid initId:String}
end
section
variable {X:Cx}{pins:List (Addr × Obj)}{σ:St}{H:Hp}{s:Shared}
end
section
variable {X:Cx}{e o value:Expr}{ta tv:TE}{f:Str}{pos pos':Pos}
end
def del(H:Hp)(e:Addr):Hp:=λ b=>if b=e then none else H b
section
variable {X:Cx}
end
theorem Ck{a:Option V}{v:V}{σ:St}{H:Hp}{Q:St->Hp->Prop}:dE 0 v (a::σ) H Q=Q (some v::σ) H:=rfl
theorem Cj{a0:Option V}{a:Option V}{v:V}{σ:St}{H:Hp}{Q:St->Hp->Prop}:dE 1 v (a0::a::σ) H Q=Q (a0::some v::σ) H:=rfl
theorem Ci{a0 a1:Option V}{a:Option V}{v:V}{σ:St}{H:Hp}{Q:St->Hp->Prop}:dE 2 v (a0::a1::a::σ) H Q=Q (a0::a1::some v::σ) H:=rfl
theorem Cg{a0 a1 a2:Option V}{a:Option V}{v:V}{σ:St}{H:Hp}{Q:St->Hp->Prop}:dE 3 v (a0::a1::a2::a::σ) H Q=Q (a0::a1::a2::some v::σ) H:=rfl
theorem Cf{a0 a1 a2 a3:Option V}{a:Option V}{v:V}{σ:St}{H:Hp}{Q:St->Hp->Prop}:dE 4 v (a0::a1::a2::a3::a::σ) H Q=Q (a0::a1::a2::a3::some v::σ) H:=rfl
theorem Ce{a0 a1 a2 a3 a4:Option V}{a:Option V}{v:V}{σ:St}{H:Hp}{Q:St->Hp->Prop}:dE 5 v (a0::a1::a2::a3::a4::a::σ) H Q=Q (a0::a1::a2::a3::a4::some v::σ) H:=rfl
theorem Cd{a0 a1 a2 a3 a4 a5:Option V}{a:Option V}{v:V}{σ:St}{H:Hp}{Q:St->Hp->Prop}:dE 6 v (a0::a1::a2::a3::a4::a5::a::σ) H Q=Q (a0::a1::a2::a3::a4::a5::some v::σ) H:=rfl
theorem Cc{a0 a1 a2 a3 a4 a5 a6:Option V}{a:Option V}{v:V}{σ:St}{H:Hp}{Q:St->Hp->Prop}:dE 7 v (a0::a1::a2::a3::a4::a5::a6::a::σ) H Q=Q (a0::a1::a2::a3::a4::a5::a6::some v::σ) H:=rfl
theorem Cb{a0 a1 a2 a3 a4 a5 a6 a7:Option V}{a:Option V}{v:V}{σ:St}{H:Hp}{Q:St->Hp->Prop}:dE 8 v (a0::a1::a2::a3::a4::a5::a6::a7::a::σ) H Q=Q (a0::a1::a2::a3::a4::a5::a6::a7::some v::σ) H:=rfl
theorem Ca{a0 a1 a2 a3 a4 a5 a6 a7 a8:Option V}{a:Option V}{v:V}{σ:St}{H:Hp}{Q:St->Hp->Prop}:dE 9 v (a0::a1::a2::a3::a4::a5::a6::a7::a8::a::σ) H Q=Q (a0::a1::a2::a3::a4::a5::a6::a7::a8::some v::σ) H:=rfl
theorem yl{a0 a1 a2 a3 a4 a5 a6 a7 a8 a9:Option V}{a:Option V}{v:V}{σ:St}{H:Hp}{Q:St->Hp->Prop}:dE 10 v (a0::a1::a2::a3::a4::a5::a6::a7::a8::a9::a::σ) H Q=Q (a0::a1::a2::a3::a4::a5::a6::a7::a8::a9::some v::σ) H:=rfl
theorem yk{a0 a1 a2 a3 a4 a5 a6 a7 a8 a9 a10:Option V}{a:Option V}{v:V}{σ:St}{H:Hp}{Q:St->Hp->Prop}:dE 11 v (a0::a1::a2::a3::a4::a5::a6::a7::a8::a9::a10::a::σ) H Q=Q (a0::a1::a2::a3::a4::a5::a6::a7::a8::a9::a10::some v::σ) H:=rfl
def aP{α:Type}:Option α->(α->Prop)->Prop
 | some x,k=>k x
 | none,_=>False
theorem lD{α:Type}(x:α)(k:α->Prop):aP (some x) k=k x:=rfl
theorem au{α:Type}{o:Option α}{k:α->Prop}(h:aP o k):∃ x,o=some x/\k x:=by
 cases o with
 | none=>exact h.elim
 | some x=>exact⟨x,rfl,h⟩
def FL:HO->Option (List V)
 | .lst xs=>some xs
 | .tup xs=>some xs
 | .frz _ (.lst xs)=>some xs
 | _=>none
def Gp:HO->Option (List V)
 | .lst xs=>some xs
 | _=>none
def Ga:HO->Option (List V)
 | .tup xs=>some xs
 | _=>none
def cN(H:Hp)(p:Addr):Option (List V):=(H p).bind FL
def aL(H:Hp)(p:Addr):Option (List V):=(H p).bind Gp
def gD(H:Hp)(p:Addr):Option (List V):=(H p).bind Ga
theorem wZ(xs:List V):FL (.lst xs)=some xs:=rfl
theorem wY(xs:List V):FL (.tup xs)=some xs:=rfl
theorem xI(xs:List V):Gp (.lst xs)=some xs:=rfl
theorem wW(xs:List V):Ga (.tup xs)=some xs:=rfl
theorem rB{α β:Type}(x:α)(f:α->Option β):(some x).bind f=f x:=rfl
abbrev Ext(H H':Hp):Prop:=(∀ a,(H a).isSome=true->H' a=H a)/\∀ (K:PySem.W.Frag) a xs,SqL K H a xs->SqL K H' a xs
def FP(r:R2)(x:V)(Q:VK):VK:=λ y H=>r x y H Q
theorem zm(r:R2)(x y:V)(H:Hp)(Q:VK):(FP r x Q y H)=(r x y H Q):=rfl
def kOp(r:R2)(tb:TE)(σ:St)(Q:VK):VK:=λ x H=>tb σ H (FP r x Q)
theorem HA(r:R2)(tb:TE)(σ:St)(Q:VK)(x:V)(H:Hp):(kOp r tb σ Q x H)=(tb σ H (FP r x Q)):=rfl
theorem Hk(r:R2)(ta tb:TE)(σ:St)(H:Hp)(Q:VK):(tOp r ta tb σ H Q)=(ta σ H (kOp r tb σ Q)):=rfl
theorem Jt(v:V)(σ:St)(H:Hp)(Q:VK):(tC v σ H Q)=(Q v H):=rfl
def kUn(r:V->Hp->VK->Prop)(Q:VK):VK:=λ x H=>r x H Q
theorem Hv(r:V->Hp->VK->Prop)(Q:VK)(x:V)(H:Hp):(kUn r Q x H)=(r x H Q):=rfl
theorem Hh(r:V->Hp->VK->Prop)(ta:TE)(σ:St)(H:Hp)(Q:VK):(tUn r ta σ H Q)=(ta σ H (kUn r Q)):=rfl
def Gd:R2:=λ x y H Q=>y=.non/\Q (.bl (decide (x=.non))) H
def zJ:R2:=λ x y H Q=>y=.non/\Q (.bl (!decide (x=.non))) H
theorem qy(H:Hp)(Q:VK):Gd (.non) .non H Q=Q (.bl true) H:=propext ⟨λ h=>h.2,λ h=>⟨rfl,h⟩⟩
theorem nN(H:Hp)(Q:VK):zJ (.non) .non H Q=Q (.bl false) H:=propext ⟨λ h=>h.2,λ h=>⟨rfl,h⟩⟩
theorem qx(i:Addr)(H:Hp)(Q:VK):Gd (.ref i) .non H Q=Q (.bl false) H:=propext ⟨λ h=>h.2,λ h=>⟨rfl,h⟩⟩
theorem nM(i:Addr)(H:Hp)(Q:VK):zJ (.ref i) .non H Q=Q (.bl true) H:=propext ⟨λ h=>h.2,λ h=>⟨rfl,h⟩⟩
def Dk(Q:Bool->Hp->Prop):VK:=λ x H=>∃ k,x=.bl k/\Q k H
def IF(Q:Bool->Hp->Prop):Bool->Hp->Prop:=λ c H=>Q (!c) H
theorem EV(Q:Bool->Hp->Prop)(c:Bool)(H:Hp):(IF Q c H)=(Q (!c) H):=rfl
theorem Eo(t:TT)(σ:St)(H:Hp)(Q:Bool->Hp->Prop):(Ib t σ H Q)=(t σ H (IF Q)):=rfl
def IS(u:TT)(σ:St)(Q:Bool->Hp->Prop):Bool->Hp->Prop:=λ c H=>if c=true then u σ H Q else Q false H
theorem Fn(u:TT)(σ:St)(Q:Bool->Hp->Prop)(c:Bool)(H:Hp):(IS u σ Q c H)=(if c=true then u σ H Q else Q false H):=rfl
theorem Ew(t u:TT)(σ:St)(H:Hp)(Q:Bool->Hp->Prop):(Ih t u σ H Q)=(t σ H (IS u σ Q)):=rfl
def kOr(u:TT)(σ:St)(Q:Bool->Hp->Prop):Bool->Hp->Prop:=λ c H=>if c=true then Q true H else u σ H Q
theorem Hz(u:TT)(σ:St)(Q:Bool->Hp->Prop)(c:Bool)(H:Hp):(kOr u σ Q c H)=(if c=true then Q true H else u σ H Q):=rfl
theorem Hj(t u:TT)(σ:St)(H:Hp)(Q:Bool->Hp->Prop):(tOr t u σ H Q)=(t σ H (kOr u σ Q)):=rfl
def HM(tb:TE)(σ:St)(Q:VK):VK:=λ x H=>∃ c,x=.bl c/\if c=true then tb σ H Q else Q (.bl false) H
def JA(tb:TE)(σ:St)(Q:VK):VK:=λ x H=>∃ c,x=.bl c/\if c=true then Q (.bl true) H else tb σ H Q
def HI(Q:VK):VK:=λ x H=>∃ c,x=.bl c/\Q (.bl (!c)) H
def IH(ta tb:TE)(σ:St)(Q:VK):Bool->Hp->Prop:=λ c H=>if c=true then ta σ H Q else tb σ H Q
theorem E2(ta tb:TE)(σ:St)(Q:VK)(c:Bool)(H:Hp):(IH ta tb σ Q c H)=(if c=true then ta σ H Q else tb σ H Q):=rfl
theorem Hl(t:TT)(ta tb:TE)(σ:St)(H:Hp)(Q:VK):(tIf t ta tb σ H Q)=(t σ H (IH ta tb σ Q)):=rfl
def FV(r':R2)(y:V)(Q:VK):VK:=λ w H=>r' y w H Q
theorem Fd(r':R2)(y w:V)(Q:VK)(H:Hp):(FV r' y Q w H)=(r' y w H Q):=rfl
def GF(r':R2)(tc:TE)(σ:St)(y:V)(Q:VK):VK:=λ z H=>∃ k,z=.bl k/\(if k=true then tc σ H (FV r' y Q) else Q (.bl false) H)
def IL(r r':R2)(tc:TE)(σ:St)(x:V)(Q:VK):VK:=λ y H=>r x y H (GF r' tc σ y Q)
def JB(r r':R2)(tb tc:TE)(σ:St)(Q:VK):VK:=λ x H=>tb σ H (IL r r' tc σ x Q)
theorem Ep(σ:St)(H:Hp)(Q:List V->Hp->Prop):(CD σ H Q)=(Q [] H):=rfl
def tI(x:V)(Q:List V->Hp->Prop):List V->Hp->Prop:=λ xs H=>Q (x::xs) H
theorem xF(x:V)(Q:List V->Hp->Prop)(xs:List V)(H:Hp):(tI x Q xs H)=(Q (x::xs) H):=rfl
def Dq(tr:TA)(σ:St)(Q:List V->Hp->Prop):VK:=λ x H=>tr σ H (tI x Q)
theorem BR(tr:TA)(σ:St)(Q:List V->Hp->Prop)(x:V)(H:Hp):(Dq tr σ Q x H)=(tr σ H (tI x Q)):=rfl
theorem Bd(ta:TE)(tr:TA)(σ:St)(H:Hp)(Q:List V->Hp->Prop):(rS ta tr σ H Q)=(ta σ H (Dq tr σ Q)):=rfl
def qe(sp:Sp)(dvs:List V)(E:XK)(Q:VK):List V->Hp->Prop:=λ vs H=>sp (vs++dvs) H Q E
theorem vg(v0:V)(sp:Sp)(dvs:List V)(E:XK)(Q:VK)(H:Hp):qe sp dvs E Q [v0] H=sp (v0::dvs) H Q E:=rfl
theorem vf(v0 v1:V)(sp:Sp)(dvs:List V)(E:XK)(Q:VK)(H:Hp):qe sp dvs E Q [v0,v1] H=sp (v0::v1::dvs) H Q E:=rfl
theorem ve(v0 v1 v2:V)(sp:Sp)(dvs:List V)(E:XK)(Q:VK)(H:Hp):qe sp dvs E Q [v0,v1,v2] H=sp (v0::v1::v2::dvs) H Q E:=rfl
theorem vd(v0 v1 v2 v3:V)(sp:Sp)(dvs:List V)(E:XK)(Q:VK)(H:Hp):qe sp dvs E Q [v0,v1,v2,v3] H=sp (v0::v1::v2::v3::dvs) H Q E:=rfl
theorem vc(v0 v1 v2 v3 v4:V)(sp:Sp)(dvs:List V)(E:XK)(Q:VK)(H:Hp):qe sp dvs E Q [v0,v1,v2,v3,v4] H=sp (v0::v1::v2::v3::v4::dvs) H Q E:=rfl
theorem Bf(sp:Sp)(dvs:List V)(E:XK)(t:TA)(σ:St)(H:Hp)(Q:VK):(CV sp dvs E t σ H Q)=(t σ H (qe sp dvs E Q)):=rfl
def kCB(r:List V->Hp->VK->Prop)(Q:VK):List V->Hp->Prop:=λ vs H=>r vs H Q
theorem HF(r:List V->Hp->VK->Prop)(Q:VK)(vs:List V)(H:Hp):(kCB r Q vs H)=(r vs H Q):=rfl
theorem Hm(r:List V->Hp->VK->Prop)(t:TA)(σ:St)(H:Hp)(Q:VK):(tCB r t σ H Q)=(t σ H (kCB r Q)):=rfl
theorem Ba(nx:St->Hp->Prop)(rt:VK)(bk ct:St->Hp->Prop)(σ:St)(H:Hp):(CS ⟨nx,rt,bk,ct⟩ σ H)=(nx σ H):=rfl
theorem zk(t u:TS)(nx:St->Hp->Prop)(rt:VK)(bk ct:St->Hp->Prop)(σ:St)(H:Hp):(HX t u ⟨nx,rt,bk,ct⟩ σ H)=(t ⟨u ⟨nx,rt,bk,ct⟩,rt,bk,ct⟩ σ H):=rfl
theorem Em(te:TE)(nx:St->Hp->Prop)(rt:VK)(bk ct:St->Hp->Prop)(σ:St)(H:Hp):(HY te ⟨nx,rt,bk,ct⟩ σ H)=(te σ H rt):=rfl
def Dp(nx:St->Hp->Prop)(σ:St):VK:=λ x H=>nx σ H
theorem BQ(nx:St->Hp->Prop)(σ:St)(x:V)(H:Hp):(Dp nx σ x H)=(nx σ H):=rfl
theorem Bb(te:TE)(nx:St->Hp->Prop)(rt:VK)(bk ct:St->Hp->Prop)(σ:St)(H:Hp):(CT te ⟨nx,rt,bk,ct⟩ σ H)=(te σ H (Dp nx σ)):=rfl
def IG(t u:TS)(D:ou)(σ:St):Bool->Hp->Prop:=λ b H=>if b=true then t D σ H else u D σ H
theorem E1(t u:TS)(D:ou)(σ:St)(b:Bool)(H:Hp):(IG t u D σ b H)=(if b=true then t D σ H else u D σ H):=rfl
theorem oK(c:TT)(t u:TS)(D:ou)(σ:St)(H:Hp):(FK c t u D σ H)=(c σ H (IG t u D σ)):=rfl
def IP(g:TG)(σ:St)(nx:St->Hp->Prop):VK:=λ x H=>g x σ H nx
theorem Fl(g:TG)(σ:St)(nx:St->Hp->Prop)(x:V)(H:Hp):(IP g σ nx x H)=(g x σ H nx):=rfl
theorem Eu(te:TE)(g:TG)(nx:St->Hp->Prop)(rt:VK)(bk ct:St->Hp->Prop)(σ:St)(H:Hp):(Gb te g ⟨nx,rt,bk,ct⟩ σ H)=(te σ H (IP g σ nx)):=rfl
def IE(i j:Nat)(σ:St)(nx:St->Hp->Prop):List V->Hp->Prop:=λ vs H=>∃ v w,vs=[v,w]/\nx ((σ.set i (some v)).set j (some w)) H
theorem ET(i j:Nat)(σ:St)(nx:St->Hp->Prop)(v w:V)(H:Hp):IE i j σ nx [v,w] H=dE i v σ H (λ σ' H'=>dE j w σ' H' nx):=propext ⟨λ ⟨_,_,e,q⟩=>by cases e;exact q,λ q=>⟨v,w,rfl,q⟩⟩
theorem En(i j:Nat)(ta:TA)(nx:St->Hp->Prop)(rt:VK)(bk ct:St->Hp->Prop)(σ:St)(H:Hp):(HZ i j ta ⟨nx,rt,bk,ct⟩ σ H)=(ta σ H (IE i j σ nx)):=rfl
def kGs(u:TGs)(r:List V)(Q:St->Hp->Prop):St->Hp->Prop:=λ σ' H'=>u r σ' H' Q
theorem HD(u:TGs)(r:List V)(Q:St->Hp->Prop)(σ:St)(H:Hp):(kGs u r Q σ H)=(u r σ H Q):=rfl
section
variable {X:Cx}
theorem OpR.mono{f:Value->Value->Sem Value}{r r':R2}(h:OpR X f r)(m:∀ x y H Q,r' x y H Q->r x y H Q):OpR X f r':=λ pins s σ H x y v u Q I rx ry hq=>h pins s σ H x y v u Q I rx ry (m _ _ _ _ hq)
theorem bK.mono{f:Value}{r r':List V->Hp->VK->Prop}(h:bK X f r)(m:∀ xs H Q,r' xs H Q->r xs H Q):bK X f r':=λ pins s σ H xs us Q I rx hq=>h pins s σ H xs us Q I rx (m _ _ _ hq)
theorem IxR.mono{r r':R2}(h:IxR X r)(m:∀ x y H Q,r' x y H Q->r x y H Q):IxR X r':=λ a b pins s σ H x y v u Q I rx ry hq=>h a b pins s σ H x y v u Q I rx ry (m _ _ _ _ hq)
theorem SlR.mono{r r':V->Option Int->Option Int->Hp->VK->Prop}(h:SlR X r)(m:∀ x lo hi H Q,r' x lo hi H Q->r x lo hi H Q):SlR X r':=λ pins s σ H x v vl vu lo hi sl Q I rx a b c hq=>h pins s σ H x v vl vu lo hi sl Q I rx a b c (m _ _ _ _ _ hq)
theorem PG.mono{tg:Expr}{g g':TG}(h:PG X tg g)(m:∀ v σ H Q,g' v σ H Q->g v σ H Q):PG X tg g':=λ pins s σ H v u Q I r hq=>h pins s σ H v u Q I r (m _ _ _ _ hq)
theorem hV{K:W.Frag}{H:Hp}{p:Addr}{ys:List V}(h:cN H p=some ys):SqL K H p ys\/SqT K H p ys:=by
 unfold cN at h
 cases e:H p with
 | none=>rw [e] at h;cases h
 | some o=>
  rw [e] at h;have h':FL o=some ys:=h
  cases o with
  | lst xs=>cases h';exact .inl (SqL.of e)
  | tup xs=>cases h';exact .inr (SqT.of e)
  | frz ob u=>
   cases u with
   | lst xs=>cases h';exact .inl (.inl (.inr ⟨ob,e⟩))
   | _=>cases h'
  | _=>cases h'
theorem cY{H:Hp}{p:Addr}{ys:List V}(h:aL H p=some ys):H p=some (.lst ys):=by
 unfold aL at h
 cases e:H p with
 | none=>rw [e] at h;cases h
 | some o=>
  rw [e] at h;have h':Gp o=some ys:=h
  cases o with
  | lst xs=>cases h';rfl
  | _=>cases h'
theorem oy{H:Hp}{p:Addr}{ys:List V}(h:gD H p=some ys):H p=some (.tup ys):=by
 unfold gD at h
 cases e:H p with
 | none=>rw [e] at h;cases h
 | some o=>
  rw [e] at h;have h':Ga o=some ys:=h
  cases o with
  | tup xs=>cases h';rfl
  | _=>cases h'
def Gv(H:Hp)(Q:VK):List V->Prop:=λ ys=>Q (.int ys.length) H
theorem EY(H:Hp)(Q:VK)(ys:List V):Gv H Q ys=Q (.int ys.length) H:=rfl
def CG(xs:List V)(H:Hp)(Q:VK):Prop:=match xs with
 | [.ref p]=>aP (cN H p) (Gv H Q)
 | [.str z]=>z.length<=sizeLine/\Q (.int z.length) H
 | _=>False
theorem EE(p:Addr)(H:Hp)(Q:VK):CG [.ref p] H Q=aP (cN H p) (Gv H Q):=rfl
theorem ar:bK X (.builtin "len") CG:=by
 refine(cF.or mE).mono λ xs H Q h=>?_;unfold CG at h;split at h
 ·rename_i p;obtain⟨ys,e,q⟩:=au h;exact .inl ⟨p,ys,rfl,hV e,q⟩
 ·rename_i z;exact .inr ⟨z,rfl,h.1,h.2⟩
 ·exact h.elim
def Gw(H:Hp)(Q:VK):V->Prop:=λ v=>Q v H
theorem EZ(H:Hp)(Q:VK)(v:V):Gw H Q v=Q v H:=rfl
def kIx(i:Int)(H:Hp)(Q:VK):List V->Prop:=λ ys=>aP (atI ys i) (Gw H Q)
theorem HC(i:Int)(H:Hp)(Q:VK)(ys:List V):kIx i H Q ys=aP (atI ys i) (Gw H Q):=rfl
def qIx:R2:=λ x y H Q=>match x,y with
 | .ref p,.int i=>aP (cN H p) (kIx i H Q)
 | _,_=>False
theorem Ho(p:Addr)(i:Int)(H:Hp)(Q:VK):qIx (.ref p) (.int i) H Q=aP (cN H p) (kIx i H Q):=rfl
theorem az:IxR X qIx:=by
 refine(ny.or FC).mono λ x y H Q h=>?_;unfold qIx at h;split at h
 ·rename_i p i;obtain⟨ys,e,q⟩:=au h;obtain⟨v,e2,q2⟩:=au q
  rcases hV (K:=X.K) e with z|z
  ·exact .inl ⟨p,ys,i,v,rfl,rfl,z,e2,q2⟩
  ·exact .inr ⟨p,ys,i,v,rfl,rfl,z,e2,q2⟩
 ·exact h.elim
theorem HS{α:Type}(a:α)(xs:List α):atI (a::xs) 0=some a:=eJ (j:=0) rfl
theorem HR{α:Type}(a b:α)(xs:List α):atI (a::b::xs) 1=some b:=eJ (j:=1) rfl
theorem HQ{α:Type}(a b c:α)(xs:List α):atI (a::b::c::xs) 2=some c:=eJ (j:=2) rfl
def HJ(H:Hp)(Q:VK):List V->Prop:=λ ys=>∀ l,H l=none->Q (.ref l) (upd H l (.lst ys))
def C9(xs:List V)(H:Hp)(Q:VK):Prop:=match xs with
 | [.ref p]=>aP (cN H p) (HJ H Q)
 | _=>False
theorem rf:bK X (.type "list") C9:=by
 refine mD.mono λ xs H Q h=>?_;unfold C9 at h;split at h
 ·rename_i p;obtain⟨ys,e,q⟩:=au h;exact⟨p,ys,rfl,hV e,q⟩
 ·exact h.elim
def zX(p:Addr)(H:Hp)(Q:VK):HO->Prop:=λ o=>match o with
 | .lst ys=>∀ l,H l=none->Q (.ref l) (upd H l (.tup ys))
 | .tup _=>Q (.ref p) H
 | _=>False
def za(xs:List V)(H:Hp)(Q:VK):Prop:=match xs with
 | [.ref p]=>aP (H p) (zX p H Q)
 | _=>False
theorem nX:bK X (.type "tuple") za:=by
 refine kQ.mono λ xs H Q h=>?_;unfold za at h;split at h
 ·rename_i p;obtain⟨o,e,q⟩:=au h;unfold zX at q;split at q
  ·rename_i ys;exact⟨p,ys,rfl,.inl ⟨SqL.of e,q⟩⟩
  ·rename_i ys;exact⟨p,ys,rfl,.inr ⟨SqT.of e,q⟩⟩
  ·exact q.elim
 ·exact h.elim
def Gi(xs:List V)(H:Hp)(Q:VK):Prop:=match xs with
 | [.int i]=>Q (.int (if i < 0 then -i else i)) H
 | _=>False
theorem EG(i:Int)(H:Hp)(Q:VK):Gi [.int i] H Q=Q (.int (if i < 0 then -i else i)) H:=rfl
theorem bQ:bK X (.builtin "abs") Gi:=by
 refine yC.mono λ xs H Q h=>?_;unfold Gi at h;split at h
 ·rename_i i;exact⟨i,rfl,h⟩
 ·exact h.elim
def Gg(xs:List V)(H:Hp)(Q:VK):Prop:=match xs with
 | [.int i,.int j]=>Q (.int (if i < j then j else i)) H
 | _=>False
theorem EC(i j:Int)(H:Hp)(Q:VK):Gg [.int i,.int j] H Q=Q (.int (if i < j then j else i)) H:=rfl
theorem c8(hc:X.calm=true):bK X (.builtin "max") Gg:=by
 refine(vW hc).mono λ xs H Q h=>?_;unfold Gg at h;split at h
 ·rename_i i j;exact⟨i,j,rfl,h⟩
 ·exact h.elim
def Gf(xs:List V)(H:Hp)(Q:VK):Prop:=match xs with
 | [.int i,.int j]=>Q (.int (if j < i then j else i)) H
 | _=>False
theorem EB(i j:Int)(H:Hp)(Q:VK):Gf [.int i,.int j] H Q=Q (.int (if j < i then j else i)) H:=rfl
theorem dQ(hc:X.calm=true):bK X (.builtin "min") Gf:=by
 refine(vV hc).mono λ xs H Q h=>?_;unfold Gf at h;split at h
 ·rename_i i j;exact⟨i,j,rfl,h⟩
 ·exact h.elim
def tyO:HO->Option String
 | .lst _=>some "list"
 | .tup _=>some "tuple"
 | .frz _ (.lst _)=>some "list"
 | .dK _=>some "dict"
 | .dT _=>some "dict"
 | _=>none
theorem Ar(xs:List V):tyO (.lst xs)=some "list":=rfl
theorem Aq(xs:List V):tyO (.tup xs)=some "tuple":=rfl
def tyN(H:Hp):V->Option String
 | .non=>some "NoneType"
 | .bl _=>some "bool"
 | .int _=>some "int"
 | .str _=>some "str"
 | .ref p=>(H p).bind tyO
 | _=>none
theorem Av(H:Hp):tyN H .non=some "NoneType":=rfl
theorem DD(H:Hp)(b:Bool):tyN H (.bl b)=some "bool":=rfl
theorem Aw(H:Hp)(i:Int):tyN H (.int i)=some "int":=rfl
theorem As(H:Hp)(x:Str):tyN H (.str x)=some "str":=rfl
theorem Au(H:Hp)(p:Addr):tyN H (.ref p)=(H p).bind tyO:=rfl
theorem DC{K:W.Frag}{H:Hp}{x:V}{t:String}(h:tyN H x=some t):oq K H x (.type t):=by
 cases x with
 | non=>cases h;exact .non
 | bl b=>cases h;exact .bl b
 | int i=>cases h;exact .int i
 | str x=>cases h;exact .str x
 | ref p=>
  have h':(H p).bind tyO=some t:=h
  cases e:H p with
  | none=>rw [e] at h';cases h'
  | some o=>
   rw [e] at h';have h2:tyO o=some t:=h'
   cases o with
   | lst xs=>cases h2;exact .lst e
   | tup xs=>cases h2;exact .tup e
   | dK xs=>cases h2;exact .dK e
   | dT xs=>cases h2;exact .dT e
   | frz ob u=>
    cases u with
    | lst xs=>cases h2;exact .frz e
    | _=>cases h2
   | _=>cases h2
 | _=>cases h
def k9:List String:=["NoneType", "bool", "int", "str", "list", "tuple", "dict"]
def IU(t n:String):Bool:=t == n || (t == "bool" && n == "int")
theorem x8(K:W.Frag):∀ t∈k9,∀ n∈k9,W.kitOne K (.type t) (.type n)=some (IU t n):=by
 intro t ht n hn;unfold k9 at ht hn;simp only [mem_cons,not_mem_nil,or_false] at ht hn
 rcases ht with rfl|rfl|rfl|rfl|rfl|rfl|rfl<;>rcases hn with rfl|rfl|rfl|rfl|rfl|rfl|rfl<;>exact vG K _ _ _ (by decide +kernel)
def kS(n:String)(H:Hp)(Q:VK):String->Prop:=λ t=>t∈k9/\Q (.bl (IU t n)) H
def rM(xs:List V)(H:Hp)(Q:VK):Prop:=match xs with
 | [x,.ty n]=>n∈k9/\aP (tyN H x) (kS n H Q)
 | _=>False
theorem aI:bK X (.builtin "isinstance") rM:=by
 refine yB.mono λ xs H Q h=>?_;unfold rM at h;split at h
 ·rename_i x n;obtain⟨hn,h⟩:=h;obtain⟨t,e,ht,q⟩:=au h;exact⟨x,n,_,_,rfl,DC e,x8 _ t ht n hn,q⟩
 ·exact h.elim
theorem qA(x:V)(H:Hp)(Q:VK):rM [x,.ty "int"] H Q=aP (tyN H x) (kS "int" H Q):=by
 unfold rM;exact propext ⟨λ h=>h.2,λ h=>⟨by decide,h⟩⟩
theorem nP(x:V)(H:Hp)(Q:VK):rM [x,.ty "bool"] H Q=aP (tyN H x) (kS "bool" H Q):=by
 unfold rM;exact propext ⟨λ h=>h.2,λ h=>⟨by decide,h⟩⟩
theorem mB(x:V)(H:Hp)(Q:VK):rM [x,.ty "tuple"] H Q=aP (tyN H x) (kS "tuple" H Q):=by
 unfold rM;exact propext ⟨λ h=>h.2,λ h=>⟨by decide,h⟩⟩
theorem nO(x:V)(H:Hp)(Q:VK):rM [x,.ty "list"] H Q=aP (tyN H x) (kS "list" H Q):=by
 unfold rM;exact propext ⟨λ h=>h.2,λ h=>⟨by decide,h⟩⟩
theorem qz(x:V)(H:Hp)(Q:VK):rM [x,.ty "str"] H Q=aP (tyN H x) (kS "str" H Q):=by
 unfold rM;exact propext ⟨λ h=>h.2,λ h=>⟨by decide,h⟩⟩
theorem u7(H:Hp)(Q:VK):kS "int" H Q "NoneType"=Q (.bl false) H:=propext ⟨λ h=>h.2,λ h=>⟨by decide,h⟩⟩
theorem u6(H:Hp)(Q:VK):kS "bool" H Q "bool"=Q (.bl true) H:=propext ⟨λ h=>h.2,λ h=>⟨by decide,h⟩⟩
theorem u5(H:Hp)(Q:VK):kS "int" H Q "bool"=Q (.bl true) H:=propext ⟨λ h=>h.2,λ h=>⟨by decide,h⟩⟩
theorem u3(H:Hp)(Q:VK):kS "bool" H Q "int"=Q (.bl false) H:=propext ⟨λ h=>h.2,λ h=>⟨by decide,h⟩⟩
theorem uZ(H:Hp)(Q:VK):kS "int" H Q "int"=Q (.bl true) H:=propext ⟨λ h=>h.2,λ h=>⟨by decide,h⟩⟩
theorem uW(H:Hp)(Q:VK):kS "int" H Q "str"=Q (.bl false) H:=propext ⟨λ h=>h.2,λ h=>⟨by decide,h⟩⟩
theorem uV(H:Hp)(Q:VK):kS "str" H Q "str"=Q (.bl true) H:=propext ⟨λ h=>h.2,λ h=>⟨by decide,h⟩⟩
theorem uY(H:Hp)(Q:VK):kS "int" H Q "list"=Q (.bl false) H:=propext ⟨λ h=>h.2,λ h=>⟨by decide,h⟩⟩
theorem uX(H:Hp)(Q:VK):kS "list" H Q "list"=Q (.bl true) H:=propext ⟨λ h=>h.2,λ h=>⟨by decide,h⟩⟩
theorem uU(H:Hp)(Q:VK):kS "int" H Q "tuple"=Q (.bl false) H:=propext ⟨λ h=>h.2,λ h=>⟨by decide,h⟩⟩
theorem uT(H:Hp)(Q:VK):kS "tuple" H Q "tuple"=Q (.bl true) H:=propext ⟨λ h=>h.2,λ h=>⟨by decide,h⟩⟩
theorem u4(H:Hp)(Q:VK):kS "int" H Q "dict"=Q (.bl false) H:=propext ⟨λ h=>h.2,λ h=>⟨by decide,h⟩⟩
def GJ(r:V->List V->Hp->VK->Prop)(x:V)(Q:VK):List V->Hp->Prop:=λ xs H=>r x xs H Q
theorem Fh(r:V->List V->Hp->VK->Prop)(x:V)(Q:VK)(xs:List V)(H:Hp):GJ r x Q xs H=r x xs H Q:=rfl
def kBM(K:W.Frag)(T:String)(r:V->List V->Hp->VK->Prop)(t:TA)(σ:St)(Q:VK):VK:=λ x H=>tyV K T x H/\t σ H (GJ r x Q)
theorem HG(K:W.Frag)(T:String)(r:V->List V->Hp->VK->Prop)(t:TA)(σ:St)(Q:VK)(x:V)(H:Hp):kBM K T r t σ Q x H=(tyV K T x H/\t σ H (GJ r x Q)):=rfl
theorem Hn(K:W.Frag)(T:String)(r:V->List V->Hp->VK->Prop)(to:TE)(t:TA)(σ:St)(H:Hp)(Q:VK):tBM K T r to t σ H Q=to σ H (kBM K T r t σ Q):=rfl
def IM(K:W.Frag)(T:String)(r:V->List V->Hp->VK->Prop)(Q:VK):VK:=λ x H=>tyV K T x H/\r x [] H Q
theorem Fg(K:W.Frag)(T:String)(r:V->List V->Hp->VK->Prop)(Q:VK)(x:V)(H:Hp):IM K T r Q x H=(tyV K T x H/\r x [] H Q):=rfl
theorem Et(K:W.Frag)(T:String)(r:V->List V->Hp->VK->Prop)(to:TE)(σ:St)(H:Hp)(Q:VK):Ig K T r to σ H Q=to σ H (IM K T r Q):=rfl
theorem wU(K:W.Frag)(p:Addr)(H:Hp)(h:(aL H p).isSome=true):tyV K "list" (.ref p) H=True:=by
 cases e:aL H p with
 | none=>rw [e] at h;cases h
 | some ys=>exact eq_true (.inl ⟨rfl,ys,SqL.of (cY e)⟩)
def IQ(l:Addr)(y:V)(H:Hp)(Q:VK):List V->Prop:=λ xs=>xs.length < sizeLine/\Q .non (upd H l (.lst (xs++[y])))
theorem Fm(l:Addr)(y:V)(H:Hp)(Q:VK)(xs:List V):IQ l y H Q xs=(xs.length < sizeLine/\Q .non (upd H l (.lst (xs++[y])))):=rfl
theorem uR(l:Addr)(y:V)(H:Hp)(Q:VK):tQ (.ref l) [y] H Q=aP (aL H l) (IQ l y H Q):=by
 refine propext ⟨λ h=>?_,λ h=>?_⟩
 ·obtain⟨_,xs,_,e1,e2,e3,a,b⟩:=h;cases e1;cases e2;have e:aL H l=some xs:=by unfold aL;rw [e3];rfl
  rw [e];exact⟨a,b⟩
 ·obtain⟨xs,e,a,b⟩:=au h;exact⟨l,xs,y,rfl,rfl,cY e,a,b⟩
def IC(l:Addr)(H:Hp)(Q:VK):List V->Prop:=λ xs=>Q .non (upd H l (.lst xs.reverse))
theorem ER(l:Addr)(H:Hp)(Q:VK)(xs:List V):IC l H Q xs=Q .non (upd H l (.lst xs.reverse)):=rfl
theorem qw(l:Addr)(H:Hp)(Q:VK):pb (.ref l) [] H Q=aP (aL H l) (IC l H Q):=by
 refine propext ⟨λ h=>?_,λ h=>?_⟩
 ·obtain⟨_,xs,e1,_,e3,b⟩:=h;cases e1;have e:aL H l=some xs:=by unfold aL;rw [e3];rfl
  rw [e];exact b
 ·obtain⟨xs,e,b⟩:=au h;exact⟨l,xs,rfl,rfl,cY e,b⟩
def Ab(l:Addr)(H:Hp)(Q:VK)(xs:List V):V->Prop:=λ y=>Q y (upd H l (.lst xs.dropLast))
theorem BF(l:Addr)(H:Hp)(Q:VK)(xs:List V)(y:V):Ab l H Q xs y=Q y (upd H l (.lst xs.dropLast)):=rfl
def ID(l:Addr)(H:Hp)(Q:VK):List V->Prop:=λ xs=>aP (xs[xs.length - 1]?) (Ab l H Q xs)
theorem ES(l:Addr)(H:Hp)(Q:VK)(xs:List V):ID l H Q xs=aP (xs[xs.length - 1]?) (Ab l H Q xs):=rfl
theorem Ex(l:Addr)(H:Hp)(Q:VK):Il (.ref l) [] H Q=aP (aL H l) (ID l H Q):=by
 refine propext ⟨λ h=>?_,λ h=>?_⟩
 ·obtain⟨_,xs,y,e1,_,e3,e4,b⟩:=h;cases e1;have e:aL H l=some xs:=by unfold aL;rw [e3];rfl
  rw [e]
  show aP (xs[xs.length - 1]?) _
  rw [e4];exact b
 ·obtain⟨xs,e,b⟩:=au h;obtain⟨y,e4,b⟩:=au b;exact⟨l,xs,y,rfl,rfl,cY e,e4,b⟩
def HK(xs:List V)(H:Hp)(Q:VK):List V->Prop:=λ ys=>xs.length+ys.length<=sizeLine/\∀ p,H p=none->Q (.ref p) (upd H p (.lst (xs++ys)))
def HL(b:Addr)(H:Hp)(Q:VK):List V->Prop:=λ xs=>aP (aL H b) (HK xs H Q)
theorem Ey(l b:Addr)(H:Hp)(Q:VK):Im (.ref l) (.ref b) H Q=aP (aL H l) (HL b H Q):=by
 refine propext ⟨λ h=>?_,λ h=>?_⟩
 ·obtain⟨l',b',xs,zs,e1,e2,e3,e4,hz,hq⟩:=h;cases e1;cases e2;have e:aL H l=some xs:=by unfold aL;rw [e3];rfl
  have e':aL H b=some zs:=by unfold aL;rw [e4];rfl
  rw [e]
  show aP (aL H b) _
  rw [e'];exact⟨hz,hq⟩
 ·obtain⟨xs,e,q⟩:=au h;obtain⟨zs,e',a,q⟩:=au q;exact⟨l,b,xs,zs,rfl,rfl,cY e,cY e',a,q⟩
def Aa(p:Addr)(xs:List V)(v:V)(H:Hp)(Q:Hp->Prop):Nat->Prop:=λ j=>Q (upd H p (.lst (xs.set j v)))
theorem BE(p:Addr)(xs:List V)(v:V)(H:Hp)(Q:Hp->Prop)(j:Nat):Aa p xs v H Q j=Q (upd H p (.lst (xs.set j v))):=rfl
def IB(p:Addr)(i:Int)(v:V)(H:Hp)(Q:Hp->Prop):List V->Prop:=λ xs=>aP (ixN xs.length i) (Aa p xs v H Q)
theorem EO(p:Addr)(i:Int)(v:V)(H:Hp)(Q:Hp->Prop)(xs:List V):IB p i v H Q xs=aP (ixN xs.length i) (Aa p xs v H Q):=rfl
theorem Bk(p:Addr)(i:Int)(v:V)(H:Hp)(Q:Hp->Prop):C6 (.ref p) (.int i) v H Q=aP (aL H p) (IB p i v H Q):=by
 refine propext ⟨λ h=>?_,λ h=>?_⟩
 ·obtain⟨_,xs,_,j,e1,e2,e3,e4,b⟩:=h;cases e1;cases e2;have e:aL H p=some xs:=by unfold aL;rw [e3];rfl
  rw [e]
  show aP (ixN xs.length i) _
  rw [e4];exact b
 ·obtain⟨xs,e,q⟩:=au h;obtain⟨j,e4,q⟩:=au q;exact⟨p,xs,i,j,rfl,rfl,cY e,e4,q⟩
def tH(t:yV)(o v:V)(σ:St)(Q:St->Hp->Prop):VK:=λ i H=>t o i v H λ H3=>Q σ H3
theorem xB(t:yV)(o v:V)(σ:St)(Q:St->Hp->Prop)(i:V)(H:Hp):tH t o v σ Q i H=t o i v H (Q σ):=rfl
def zp(ti:TE)(t:yV)(v:V)(σ:St)(Q:St->Hp->Prop):VK:=λ o H=>ti σ H (tH t o v σ Q)
theorem xC(ti:TE)(t:yV)(v:V)(σ:St)(Q:St->Hp->Prop)(o:V)(H:Hp):zp ti t v σ Q o H=ti σ H (tH t o v σ Q):=rfl
theorem Fq(to ti:TE)(t:yV)(v:V)(σ:St)(H:Hp)(Q:St->Hp->Prop):IX to ti t v σ H Q=to σ H (zp ti t v σ Q):=rfl
def kGT(n:Nat)(t:TGs)(σ:St)(H:Hp)(Q:St->Hp->Prop):List V->Prop:=λ xs=>xs.length=n/\t xs σ H Q
theorem HE(n:Nat)(t:TGs)(σ:St)(H:Hp)(Q:St->Hp->Prop)(xs:List V):kGT n t σ H Q xs=(xs.length=n/\t xs σ H Q):=rfl
def qGT(n:Nat)(t:TGs):TG:=λ v σ H Q=>match v with
 | .ref a=>aP (gD H a) (kGT n t σ H Q)
 | _=>False
theorem Hq(n:Nat)(t:TGs)(a:Addr)(σ:St)(H:Hp)(Q:St->Hp->Prop):qGT n t (.ref a) σ H Q=aP (gD H a) (kGT n t σ H Q):=rfl
theorem aX{K:W.Frag}{n:Nat}{t:TGs}{v:V}{σ:St}{H:Hp}{Q:St->Hp->Prop}(h:qGT n t v σ H Q):IW K n t v σ H Q:=by
 unfold qGT at h;split at h
 ·rename_i a;obtain⟨xs,e,hl,q⟩:=au h;exact⟨a,xs,rfl,SqT.of (oy e),hl,q⟩
 ·exact h.elim
theorem sZ:OpR X (compareOp .Is) Gd:=D4
theorem xn:OpR X (compareOp .IsNot) zJ:=A0
def si(tb:TS)(D:ou):St->Hp->Prop:=λ σ H=>tb D σ H
theorem aQ(tb:TS)(D:ou)(σ:St)(H:Hp):si tb D σ H=tb D σ H:=rfl
def CJ(g:TG)(tb:TS)(D:ou)(σ:St)(J:It)(H1:Hp):Prop:=∃ W:Nat->Nat->St->Hp->Prop,(∃ m,W 0 m σ H1)/\∀ i m σ H,W i m σ H →
 (J.stop i H/\D.nx σ H)\/(J.go i H/\∃ N:St->Hp->Prop,(∀ σ' H',N σ' H'->∃ m',m' < m/\W (i+1) m' σ' H')/\∀ x H',J.yld i H x H'->g x σ H' λ σ2 H2=>tb { D with nx:=N,ct:=N,bk:=D.nx } σ2 H2)
theorem Er(wi:TI)(g:TG)(tb:TS)(D:ou)(σ:St)(H:Hp):Ic wi g tb D σ H=wi σ H (CJ g tb D σ):=rfl
def kR1(R:It->Hp->Prop):List V->Hp->Prop:=λ vs H=>∃ j:Int,vs=[.int j]/\-(2 ^ 62)<=j/\j < 2 ^ 62/\R (Itr 0 j.toNat) H
theorem Hw(R:It->Hp->Prop)(j:Int)(H:Hp):kR1 R [.int j] H=(-(2 ^ 62)<=j/\j < 2 ^ 62/\R (Itr 0 j.toNat) H):=propext ⟨λ ⟨_,e,q⟩=>by cases e;exact q,λ q=>⟨j,rfl,q⟩⟩
theorem BY(ta:TA)(σ:St)(H:Hp)(R:It->Hp->Prop):Dr ta σ H R=ta σ H (kR1 R):=rfl
def sf(K:W.Frag)(a:Addr)(H:Hp)(R:It->Hp->Prop):HO->Prop:=λ o=>match o with
 | .lst _=>R (Itl K a) H
 | .frz _ (.lst _)=>R (Itl K a) H
 | .tup _=>R (Itt K a) H
 | _=>False
theorem va(K:W.Frag)(a:Addr)(H:Hp)(R:It->Hp->Prop)(xs:List V):sf K a H R (.lst xs)=R (Itl K a) H:=rfl
theorem u9(K:W.Frag)(a:Addr)(H:Hp)(R:It->Hp->Prop)(xs:List V):sf K a H R (.tup xs)=R (Itt K a) H:=rfl
def FR(K:W.Frag)(R:It->Hp->Prop):VK:=λ x H=>match x with
 | .ref a=>aP (H a) (sf K a H R)
 | _=>False
theorem E3(K:W.Frag)(R:It->Hp->Prop)(a:Addr)(H:Hp):FR K R (.ref a) H=aP (H a) (sf K a H R):=rfl
def GN(K:W.Frag)(tl:TE):TI:=λ σ H R=>tl σ H (FR K R)
theorem Fp(K:W.Frag)(tl:TE)(σ:St)(H:Hp)(R:It->Hp->Prop):GN K tl σ H R=tl σ H (FR K R):=rfl
theorem zc{tg l:Expr}{tl:TE}(hl:PE X l tl):PI X tg l (GN X.K tl):=by
 intro pins s σ H R I h;refine thn (hl pins s σ H _ I h) λ v s1 ⟨x,H1,I1,r1,q1⟩=>?_;unfold FR at q1;split at q1
 ·rename_i a;cases r1;obtain⟨o,e,q⟩:=au q1
  have fp:∀ b∈[s1.heap.objs.size],mN X pins H1 b:=λ b hb=>by
   have e:b=s1.heap.objs.size:=by simpa using hb
   subst e;exact I1.fpOk (JO _) (I1.hok.fresh (JO _))
  have lst:∀ xs,SqL X.K H1 a xs->R (Itl X.K a) H1->wpAny (model X.prog X.w) X.A (pyIter (.ref a)) (PIE X pins σ tg R) X.xe s1:=λ xs hq q=>by
   obtain⟨its,rv,p,hz⟩:=I1.list hq;refine LR p.isList ?_;exact⟨s1.heap.objs.size,[s1.heap.objs.size],_,_,H1,rfl,I1.kept (t':=s1.toks) λ b o e=>JL _ e,uz a _,⟨_,JX _ rfl,rfl,rfl⟩,fp,q⟩
  unfold sf at q;split at q
  ·exact lst _ (SqL.of e) q
  ·exact lst _ (.inl (.inr ⟨_,e⟩)) q
  ·obtain⟨its,rv,p,hz⟩:=I1.tuple (SqT.of e);refine wpAny_pyIter_tuple (show s1.heap.IsTuple a its.toArray from p) ?_;exact⟨s1.heap.objs.size,[s1.heap.objs.size],_,_,H1,rfl,I1.kept (t':=s1.toks) λ b o e=>JL _ e,qf a _,⟨_,JX _ rfl,rfl,rfl⟩,fp,q⟩
  ·exact q.elim
 ·exact q1.elim
theorem uf{lo:Int}{n:Nat}{g:TG}{tb:TS}{nx:St->Hp->Prop}{rt:VK}{bk ct:St->Hp->Prop}{σ:St}{H:Hp}(Pv:Nat->St->Hp->Prop)(h0:Pv 0 σ H)
  (hs:∀ i σ H,i < n->Pv i σ H->g (.int (lo+i)) σ H (si tb ⟨Pv (i+1),rt,nx,Pv (i+1)⟩)) (hd:∀ σ H,Pv n σ H->nx σ H):CJ g tb ⟨nx,rt,bk,ct⟩ σ (Itr lo n) H:=vN Pv h0 hs hd
theorem dM{K:W.Frag}{a:Addr}{xs:List V}{g:TG}{tb:TS}{nx:St->Hp->Prop}{rt:VK}{bk ct:St->Hp->Prop}{σ:St}{H:Hp}(Pv:Nat->St->Hp->Prop)(h0:Pv 0 σ H)(hl:∀ i σ H,i<=xs.length->Pv i σ H->H a=some (.lst xs))
  (hs:∀ i x σ H,xs[i]? = some x->Pv i σ H->g x σ H (si tb ⟨Pv (i+1),rt,nx,Pv (i+1)⟩)) (hd:∀ σ H,Pv xs.length σ H->nx σ H):CJ g tb ⟨nx,rt,bk,ct⟩ σ (Itl K a) H:=yn (xs:=xs) Pv h0 (λ i σ H hi p=>SqL.of (hl i σ H hi p)) hs hd
def kWh(tb:TS)(nx:St->Hp->Prop)(rt:VK)(Pv:Nat->St->Hp->Prop)(m:Nat)(σ:St):Bool->Hp->Prop:=λ b H=>if b=true then tb ⟨λ σ' H'=>∃ m',m' < m/\Pv m' σ' H',rt,nx,λ σ' H'=>∃ m',m' < m/\Pv m' σ' H'⟩ σ H else nx σ H
theorem Hu(tb:TS)(nx:St->Hp->Prop)(rt:VK)(Pv:Nat->St->Hp->Prop)(m:Nat)(σ:St)(b:Bool)(H:Hp):kWh tb nx rt Pv m σ b H=(if b=true then tb ⟨λ σ' H'=>∃ m',m' < m/\Pv m' σ' H',rt,nx,λ σ' H'=>∃ m',m' < m/\Pv m' σ' H'⟩ σ H else nx σ H):=rfl
theorem An{c:TT}{tb:TS}{nx:St->Hp->Prop}{rt:VK}{bk ct:St->Hp->Prop}{σ:St}{H:Hp}(Pv:Nat->St->Hp->Prop)(m0:Nat)(h0:Pv m0 σ H)
  (mono:∀ σ H Q Q',(∀ b H1,Q b H1->Q' b H1)->c σ H Q->c σ H Q')
  (hs:∀ m σ H,Pv m σ H->c σ H (kWh tb nx rt Pv m σ)):sD c tb ⟨nx,rt,bk,ct⟩ σ H:=by
 refine⟨Pv,⟨m0,h0⟩,λ m σ H p=>mono σ H _ _ (λ b H1 q=>?_) (hs m σ H p)⟩;unfold kWh at q
 cases b with
 | true=>exact⟨_,λ σ' H' z=>z,q⟩
 | false=>exact q
end
def kE4(H:Hp)(Q:VK):Bool->Prop:=λ b=>Q (.bl b) H
theorem zW(H:Hp)(Q:VK)(b:Bool):kE4 H Q b=Q (.bl b) H:=rfl
def kC3(D:Addr)(ys:List V)(N:List V->Hp->Prop):VK:=λ y H=>H D=some (.lst ys)/\ys.length < sizeLine/\N (ys++[y]) (upd H D (.lst (ys++[y])))
def kC2(te:TE)(σ2:St)(D:Addr)(ys:List V)(N:List V->Hp->Prop):Bool->Hp->Prop:=λ b H=>if b=true then te σ2 H (kC3 D ys N) else N ys H
def kC1(k:Nat)(tt:TT)(te:TE)(σ:St)(D:Addr)(ys:List V)(N:List V->Hp->Prop):St->Hp->Prop:=λ σ2 H=>(∃ vs:St,vs.length=k/\σ2=vs++σ)/\tt σ2 H (kC2 te σ2 D ys N)
theorem Eb(σ:St)(H:Hp)(Q:Bool->Hp->Prop):HW σ H Q=Q true H:=rfl
def wH(k:Nat)(g:TG)(tt:TT)(te:TE)(σ:St)(Q:VK):It->Hp->Prop:=λ J H1=>∀ D,H1 D=none->∃ W:Nat->Nat->List V->Hp->Prop,(∃ m,W 0 m [] (upd H1 D (.lst [])))/\∀ i m ys H,W i m ys H →
 (J.stop i H/\Q (.ref D) H)\/(J.go i H/\∃ N:List V->Hp->Prop,(∀ ys' H',N ys' H'->∃ m',m' < m/\W (i+1) m' ys' H') /\
  ∀ x H',J.yld i H x H'->g x (List.replicate k none++σ) H' (kC1 k tt te σ D ys N))
theorem Be(k:Nat)(wi:TI)(g:TG)(tt:TT)(te:TE)(σ:St)(H:Hp)(Q:VK):zE k wi g tt te σ H Q=wi σ H (wH k g tt te σ Q):=rfl
def Dl(i:Nat)(σ:St)(nx:St->Hp->Prop):VK:=λ x H=>dE i x σ H nx
theorem BB(i:Nat)(σ:St)(nx:St->Hp->Prop)(x:V)(H:Hp):Dl i σ nx x H=dE i x σ H nx:=rfl
theorem A8(i:Nat)(te:TE)(nx:St->Hp->Prop)(rt:VK)(bk ct:St->Hp->Prop)(σ:St)(H:Hp):CO i te ⟨nx,rt,bk,ct⟩ σ H=te σ H (Dl i σ nx):=rfl
section
variable {k:Nat}{g:TG}{tt:TT}{te:TE}{σ:St}{Q:VK}{H:Hp}{K:PySem.W.Frag}
end
def aT{α:Type}:List (Option α)->Option (List α)
 | []=>some []
 | o::r=>o.bind λ x=>(aT r).map λ xs=>x::xs
def yS(f:V->Option PyData):HO->Option PyData
 | .lst xs=>(aT (xs.map f)).map .list
 | .tup xs=>(aT (xs.map f)).map .tuple
 | _=>none
def eD(H:Hp)(f:V->Option PyData):V->Option PyData
 | .non=>some .none
 | .bl b=>some (.bool b)
 | .int i=>some (.int i)
 | .str z=>if PyData.strOk z=true then some (.str z) else none
 | .ref p=>(H p).bind (yS f)
 | _=>none
def iT(H:Hp):Nat->V->Option PyData
 | 0,_=>none
 | n+1,x=>eD H (iT H n) x
def noD:V->Option PyData:=λ _=>none
theorem Fs(H:Hp)(x:V):iT H 6 x=eD H (eD H (eD H (eD H (eD H (eD H noD))))) x:=rfl
theorem qD(H:Hp)(n:Nat)(z:Str):iT H (n+1) (.str z)=if PyData.strOk z=true then some (.str z) else none:=rfl
theorem qE(H:Hp)(n:Nat)(p:Addr):iT H (n+1) (.ref p)=(H p).bind (yS (iT H n)):=rfl
theorem qG(H:Hp)(f:V->Option PyData)(i:Int):eD H f (.int i)=some (.int i):=rfl
theorem qF(H:Hp)(f:V->Option PyData)(z:Str):eD H f (.str z)=if PyData.strOk z=true then some (.str z) else none:=rfl
theorem fK(H:Hp)(f:V->Option PyData)(p:Addr):eD H f (.ref p)=(H p).bind (yS f):=rfl
theorem fJ(f:V->Option PyData)(xs:List V):yS f (.lst xs)=(aT (xs.map f)).map .list:=rfl
theorem fH(f:V->Option PyData)(xs:List V):yS f (.tup xs)=(aT (xs.map f)).map .tuple:=rfl
theorem kP{α:Type}:aT ([]:List (Option α))=some []:=rfl
theorem cR{α:Type}(x:α)(r:List (Option α)):aT (some x::r)=(aT r).map λ xs=>x::xs:=rfl
theorem fX(H:Hp)(f:V->Option PyData):∀ ns:List Int,aT ((ns.map V.int).map (eD H f))=some (ns.map PyData.int)
 | []=>rfl
 | i::r=>by
  show (aT ((r.map V.int).map (eD H f))).map _=_
  rw [fX H f r];rfl
theorem kn{K:W.Frag}{H:Hp}{n:Nat}(ih:∀ x d,iT H n x=some d->jF K H x d/\d.canLay0=true/\d.depth<=n):∀ (xs:List V) (ds:List PyData),aT (xs.map (iT H n))=some ds->gF K H xs ds/\PyData.canLayAll0 ds=true/\PyData.depthAll ds<=n
 | [],ds,h=>by cases h;exact⟨.nil,rfl,Kz _⟩
 | x::xs,ds,h=>by
  have h':(iT H n x).bind (λ d=>(aT (xs.map (iT H n))).map λ ds=>d::ds)=some ds:=h
  cases e:iT H n x with
  | none=>rw [e] at h';cases h'
  | some d=>
   rw [e] at h';have h2:(aT (xs.map (iT H n))).map (λ ds=>d::ds)=some ds:=h'
   cases e2:aT (xs.map (iT H n)) with
   | none=>rw [e2] at h2;cases h2
   | some es=>
    rw [e2] at h2;cases h2;obtain⟨a,b,c⟩:=ih x d e;obtain⟨a',b',c'⟩:=kn ih xs es e2;exact⟨.cons a a',by simp [PyData.canLayAll0,b,b'],by simp only [PyData.depthAll];omega⟩
theorem nD{K:W.Frag}{H:Hp}:∀ (n:Nat) (x:V) (d:PyData),iT H n x=some d->jF K H x d/\d.canLay0=true/\d.depth<=n
 | 0,x,d,h=>by cases h
 | n+1,x,d,h=>by
  cases x with
  | non=>cases h;exact⟨.non,rfl,Kz _⟩
  | bl b=>cases h;exact⟨.bl b,rfl,Kz _⟩
  | int i=>cases h;exact⟨.int i,rfl,Kz _⟩
  | str z=>
   rw [qD] at h;split at h
   ·rename_i hz;cases h;exact⟨.str z,by simpa [PyData.canLay0] using hz,Kz _⟩
   ·cases h
  | ref p=>
   rw [qE] at h
   cases e:H p with
   | none=>rw [e] at h;cases h
   | some o=>
    rw [e] at h;have h':yS (iT H n) o=some d:=h
    cases o with
    | lst xs=>
     rw [fJ] at h'
     cases e2:aT (xs.map (iT H n)) with
     | none=>rw [e2] at h';cases h'
     | some ds=>
      rw [e2] at h';cases h';obtain⟨a,b,c⟩:=kn (K:=K) (nD n) xs ds e2;exact⟨.lst (SqL.of e) a,by simpa [PyData.canLay0] using b,by simp only [PyData.depth];omega⟩
    | tup xs=>
     rw [fH] at h'
     cases e2:aT (xs.map (iT H n)) with
     | none=>rw [e2] at h';cases h'
     | some ds=>
      rw [e2] at h';cases h';obtain⟨a,b,c⟩:=kn (K:=K) (nD n) xs ds e2;exact⟨.tup (SqT.of e) a,by simpa [PyData.canLay0] using b,by simp only [PyData.depth];omega⟩
    | _=>cases h'
  | _=>cases h
theorem dr{K:W.Frag}{H:Hp}{n:Nat}{x:V}{d:PyData}(hn:n<=64)(h:iT H n x=some d):jF K H x d/\SeqAt.shaped d=true:=by
 obtain⟨a,b,c⟩:=nD (K:=K) n x d h;refine⟨a,?_⟩;unfold SeqAt.shaped;rw [b,decide_eq_true (show d.depth<=64 by omega)];rfl
def FT(neg:Bool)(H:Hp)(Q:VK)(d:PyData):PyData->Prop:=λ e=>Q (.bl (if neg=true then !PyData.eqv d e else PyData.eqv d e)) H
theorem xD(H:Hp)(Q:VK)(d e:PyData):FT true H Q d e=Q (.bl (!PyData.eqv d e)) H:=rfl
theorem xE(H:Hp)(Q:VK)(d e:PyData):FT false H Q d e=Q (.bl (PyData.eqv d e)) H:=rfl
def Gz(neg:Bool)(y:V)(H:Hp)(Q:VK):PyData->Prop:=λ d=>aP (iT H 6 y) (FT neg H Q d)
theorem E6(neg:Bool)(y:V)(H:Hp)(Q:VK)(d:PyData):Gz neg y H Q d=aP (iT H 6 y) (FT neg H Q d):=rfl
def qEq(neg:Bool):R2:=λ x y H Q=>if CF x y=true then Q (.bl (if neg=true then !decide (x=y) else decide (x=y))) H else aP (iT H 6 x) (Gz neg y H Q)
theorem qB(neg:Bool)(p:Addr)(x:V)(H:Hp)(Q:VK):qEq neg x (.ref p) H Q=aP (iT H 6 x) (Gz neg (.ref p) H Q):=by
 show (if CF x (.ref p)=true then _ else _)=_
 rw [JQ (by cases x<;>exact JZ)]
theorem kO(i:Int)(j:Int)(H:Hp)(Q:VK):qEq false (V.int i) (V.int j) H Q=Q (.bl (decide (i=j))) H:=by
 have e:decide (((V.int i):V)=(V.int j))=decide (i=j):=by simp
 show Q (.bl (if false=true then !decide ((V.int i)=(V.int j)) else decide ((V.int i)=(V.int j)))) H=_
 rw [e];rfl
theorem kL(i:Int)(j:Int)(H:Hp)(Q:VK):qEq true (V.int i) (V.int j) H Q=Q (.bl (!decide (i=j))) H:=by
 have e:decide (((V.int i):V)=(V.int j))=decide (i=j):=by simp
 show Q (.bl (if true=true then !decide ((V.int i)=(V.int j)) else decide ((V.int i)=(V.int j)))) H=_
 rw [e];rfl
theorem kM(i:Str)(j:Str)(H:Hp)(Q:VK):qEq false (V.str i) (V.str j) H Q=Q (.bl (decide (i=j))) H:=by
 have e:decide (((V.str i):V)=(V.str j))=decide (i=j):=by simp
 show Q (.bl (if false=true then !decide ((V.str i)=(V.str j)) else decide ((V.str i)=(V.str j)))) H=_
 rw [e];rfl
theorem kK(i:Str)(j:Str)(H:Hp)(Q:VK):qEq true (V.str i) (V.str j) H Q=Q (.bl (!decide (i=j))) H:=by
 have e:decide (((V.str i):V)=(V.str j))=decide (i=j):=by simp
 show Q (.bl (if true=true then !decide ((V.str i)=(V.str j)) else decide ((V.str i)=(V.str j)))) H=_
 rw [e];rfl
section
variable {X:Cx}
theorem aV(hu:X.A.units+64 < cLine):OpR X (compareOp .Eq) (qEq false):=by
 refine(Ha.or (D6 hu)).mono λ x y H Q h=>?_;unfold qEq at h;split at h
 ·rename_i hs;exact .inl ⟨hs,h⟩
 obtain⟨d,e1,h⟩:=au h;obtain⟨e,e2,h⟩:=au h;obtain⟨a,b⟩:=dr (K:=X.K) (by decide) e1;obtain⟨a',b'⟩:=dr (K:=X.K) (by decide) e2;exact .inr ⟨d,e,a,a',b,b',h⟩
theorem ck(hu:X.A.units+64 < cLine):OpR X (compareOp .NotEq) (qEq true):=by
 refine(G7.or (D1 hu)).mono λ x y H Q h=>?_;unfold qEq at h;split at h
 ·rename_i hs;exact .inl ⟨hs,h⟩
 obtain⟨d,e1,h⟩:=au h;obtain⟨e,e2,h⟩:=au h;obtain⟨a,b⟩:=dr (K:=X.K) (by decide) e1;obtain⟨a',b'⟩:=dr (K:=X.K) (by decide) e2;exact .inr ⟨d,e,a,a',b,b',h⟩
end
theorem Cn(i j:Str):PyData.eqv (.str i) (.str j)=(i == j):=rfl
theorem vP(xs ys:List PyData):PyData.eqv (.tuple xs) (.tuple ys)=PyData.eqvAll xs ys:=by simp only [PyData.eqv]
theorem yp(xs ys:List PyData):PyData.eqv (.list xs) (.list ys)=PyData.eqvAll xs ys:=by simp only [PyData.eqv]
theorem qV:PyData.eqvAll [] []=true:=by simp only [PyData.eqvAll]
theorem nV(x y:PyData)(xs ys:List PyData):PyData.eqvAll (x::xs) (y::ys)=(PyData.eqv x y && PyData.eqvAll xs ys):=by simp only [PyData.eqvAll]
theorem yq(x:PyData)(xs:List PyData):PyData.eqvAll (x::xs) []=false:=by simp only [PyData.eqvAll]
theorem Cw(i j:Int):GS i j=(0 < j/\j < 1073741824):=rfl
theorem FI(i j:Int)(h:-18446744073709551616 < i)(h':i < 18446744073709551616):iQ i j=True:=eq_true (.inl ⟨by omega,by omega⟩)
theorem Cv(j:Int):GR 10 j=(0<=j/\j<=1000000):=propext ⟨λ h=>⟨h.1,h.2.1⟩,λ h=>⟨h.1,h.2,by decide⟩⟩
theorem HH(n:Nat)(h:n<=1000):(n<=sizeLine)=True:=eq_true (Lz (uC h))
theorem Ext.of{H H':Hp}(h:∀ a,(H a).isSome=true->H' a=H a):Ext H H':=⟨h,λ K a xs q=>by
 have s:kX H H':=λ b o e=>(h b (by rw [e];rfl)).trans e;exact s.seq q⟩
theorem Ext.same{H H':Hp}(h:Ext H H'):kX H H':=λ b o e=>(h.1 b (by rw [e];rfl)).trans e
theorem kX.ext{H H':Hp}(h:kX H H'):Ext H H':=Ext.of λ a q=>by
 cases e:H a with
 | none=>rw [e] at q;cases q
 | some o=>exact h a o e
theorem Ext.refl(H:Hp):Ext H H:=(kX.refl H).ext
theorem Ext.trans{H H1 H2:Hp}(a:Ext H H1)(b:Ext H1 H2):Ext H H2:=(a.same.trans b.same).ext
theorem Ext.new{H:Hp}{p:Addr}{o:HO}(h:H p=none):Ext H (upd H p o):=(w5 h).ext
theorem Ext.put{H H1:Hp}{p:Addr}{o:HO}(a:Ext H H1)(h:H p=none):Ext H (upd H1 p o):=kX.ext λ b u e=>by
 rw [ah (bI e h)];exact a.same b u e
theorem Ext.free{H H1:Hp}{p:Addr}(a:Ext H H1)(h:H1 p=none):H p=none:=a.same.free h
theorem Ext.at{H H1:Hp}{p:Addr}{o:HO}(a:Ext H H1)(h:H p=some o):H1 p=some o:=a.same _ _ h
theorem AZ{xs:List V}{i:Int}{k:V->Prop}(h0:0<=i)(h1:i < xs.length)(h:∀ v∈xs,k v):aP (atI xs i) k:=by
 obtain⟨v,e,m⟩:=zu xs i h0 h1;rw [e];exact h v m
theorem JC(CX:CXT)(P:Program)(w:World)(K:W.Frag)(mg:Str->Option Value)(base:Heap)(N:List Str)(qual:Str)(scope:Scope)(f:Addr)(cd:Value)(A:Around)(outer:List Env)(s:Shared)(H:Hp)(E:XK):(yT CX P w K mg base N qual scope f cd A outer s H E).K=K:=rfl
theorem fi:∀ {a b:List Char},a.map Char.toNat=b.map Char.toNat->a=b
 | [],[],_=>rfl
 | [],_::_,h=>by cases h
 | _::_,[],h=>by cases h
 | x::r,y::q,h=>by
  simp only [Km,MD] at h
  have e:x=y:=by
   have z:x.val.toNat=y.val.toNat:=h.1;exact Char.ext (UInt32.toNat_inj.mp z)
  rw [e,fi h.2]
theorem my(a b:String):(Str.ofString a=Str.ofString b)=(a=b):=by
 refine propext ⟨λ h=>?_,λ h=>by rw [h]⟩;rw [Str.ofString_eq_toList,Str.ofString_eq_toList] at h;have e:(a.toList.map Char.toNat).toArray=(b.toList.map Char.toNat).toArray:=KC Str.cps h;have e2:=fi (KC Array.toList e);exact String.ext e2
def isW(H:Hp):V->Option Bool
 | .int _=>some true
 | .bl _=>some false
 | .non=>some false
 | .str _=>some false
 | .ref p=>((H p).bind tyO).map λ _=>false
 | _=>none
theorem yf(H:Hp)(i:Int):isW H (.int i)=some true:=rfl
theorem ye(H:Hp)(p:Addr):isW H (.ref p)=((H p).bind tyO).map λ _=>false:=rfl
theorem t7{H:Hp}{p:Addr}{b:Bool}(h:isW H (.ref p)=some b):b=false/\∃ o,H p=some o/\(tyO o=some "list" \/ tyO o=some "tuple" \/ tyO o=some "dict"):=by
 rw [ye] at h
 cases e:H p with
 | none=>rw [e] at h;cases h
 | some o=>
  rw [e] at h;have h':(tyO o).map (λ _=>false)=some b:=h
  cases e2:tyO o with
  | none=>rw [e2] at h';cases h'
  | some t=>
   rw [e2] at h';cases h';refine⟨rfl,o,rfl,?_⟩
   cases o with
   | lst xs=>exact .inl rfl
   | tup xs=>exact .inr (.inl rfl)
   | dK xs=>exact .inr (.inr rfl)
   | dT xs=>exact .inr (.inr rfl)
   | frz ob u=>cases u with
    | lst xs=>exact .inl rfl
    | _=>cases e2
   | _=>cases e2
def ME(t:TE):Prop:=∀ σ H (Q Q':VK),(∀ v H,Q v H->Q' v H)->t σ H Q->t σ H Q'
def MT(t:TT):Prop:=∀ σ H (Q Q':Bool->Hp->Prop),(∀ b H,Q b H->Q' b H)->t σ H Q->t σ H Q'
def MA(t:TA):Prop:=∀ σ H (Q Q':List V->Hp->Prop),(∀ b H,Q b H->Q' b H)->t σ H Q->t σ H Q'
def MR(r:R2):Prop:=∀ x y H (Q Q':VK),(∀ v H,Q v H->Q' v H)->r x y H Q->r x y H Q'
def MC(r:List V->Hp->VK->Prop):Prop:=∀ x H (Q Q':VK),(∀ v H,Q v H->Q' v H)->r x H Q->r x H Q'
theorem b6{α:Type}{o:Option α}{k k':α->Prop}(m:∀ x,k x->k' x)(h:aP o k):aP o k':=by
 obtain⟨x,e,q⟩:=au h;rw [e];exact m x q
theorem oI{i:Nat}:ME (FJ i):=λ σ H Q Q' m ⟨v,e,q⟩=>⟨v,e,m _ _ q⟩
theorem Gn{v:V}:ME (tC v):=λ σ H Q Q' m q=>m _ _ q
theorem zU{r:R2}{a b:TE}(hr:MR r)(ha:ME a)(hb:ME b):ME (tOp r a b):=λ σ H Q Q' m q=>ha σ H _ _ (λ _ _ q=>hb σ _ _ _ (λ _ _ q=>hr _ _ _ _ _ m q) q) q
theorem oJ{g:Int->Int->V}:MR (rI0 g):=λ x y H Q Q' m ⟨i,j,e,e',q⟩=>⟨i,j,e,e',m _ _ q⟩
theorem tD{n:Bool}:MR (qEq n):=λ x y H Q Q' m q=>by
 unfold qEq at q ⊢
 by_cases hs:CF x y=true
 ·rw [JR hs] at q ⊢;exact m _ _ q
 ·rw [JQ hs] at q ⊢;exact b6 (λ _ q=>b6 (λ _ q=>m _ _ q) q) q
theorem tE:MA CD:=λ σ H Q Q' m q=>m _ _ q
theorem nu{a:TE}{r:TA}(ha:ME a)(hr:MA r):MA (rS a r):=λ σ H Q Q' m q=>ha σ H _ _ (λ _ _ q=>hr σ _ _ _ (λ _ _ q=>m _ _ q) q) q
theorem zV{r:List V->Hp->VK->Prop}{t:TA}(hr:MC r)(ht:MA t):ME (tCB r t):=λ σ H Q Q' m q=>ht σ H _ _ (λ _ _ q=>hr _ _ _ _ m q) q
theorem nt:MC CG:=λ x H Q Q' m q=>by
 unfold CG at q ⊢;split at q
 ·exact b6 (λ _ q=>m _ _ q) q
 ·exact⟨q.1,m _ _ q.2⟩
 ·exact q.elim
theorem jQ{t:TE}(h:ME t):MT (wA t):=λ σ H Q Q' m q=>h σ H _ _ (λ _ _ ⟨k,e,q⟩=>⟨k,e,m _ _ q⟩) q
theorem mR{c:TT}{tb:TS}{nx:St->Hp->Prop}{rt:VK}{bk ct:St->Hp->Prop}{σ:St}{H:Hp}(mono:MT c)(Pv:Nat->St->Hp->Prop)(m0:Nat)(h0:Pv m0 σ H)
  (hs:∀ m σ H,Pv m σ H->c σ H (kWh tb nx rt Pv m σ)):sD c tb ⟨nx,rt,bk,ct⟩ σ H:=An Pv m0 h0 (λ σ H Q Q'=>mono σ H Q Q') hs
theorem pw:∀ {ns ms:List Int},ns.map V.int=ms.map V.int->ns=ms
 | [],[],_=>rfl
 | [],_::_,h=>by cases h
 | _::_,[],h=>by cases h
 | i::r,j::t,h=>by
  simp only [Km,MD,V.int.injEq] at h;rw [h.1,pw h.2]
def Ad(F:List Int->Prop):List V->Prop:=λ xs=>∃ ns,xs=ns.map V.int/\F ns
theorem BL(F:List Int->Prop)(ns:List Int):Ad F (ns.map V.int)=F ns:=propext ⟨λ ⟨ms,e,h⟩=>by rw [pw e];exact h,λ h=>⟨ns,rfl,h⟩⟩
theorem yz(xs:List V)(z:Int)(h:0<=z):ja xs none (some z)=xs.take z.toNat:=by
 unfold ja;rw [HT.sIx_none,List.drop_zero,Nat.sub_zero];obtain⟨n,rfl⟩:=Int.eq_ofNat_of_zero_le h;rw [HT.sIx_nat]
 show _=xs.take n
 rcases Mr n xs.length with q|q
 ·rw [LZ q]
 ·rw [LO q,KH (JO _),KH q]
def Jz(lo hi:Option Int)(H:Hp)(Q:VK):List V->Prop:=λ xs=>∀ p,H p=none->Q (.ref p) (upd H p (.lst (ja xs lo hi)))
def Ip:V->Option Int->Option Int->Hp->VK->Prop:=λ x lo hi H Q=>match x with
 | .ref a=>aP (aL H a) (Jz lo hi H Q)
 | _=>False
theorem Jl{X:Cx}:SlR X Ip:=AB.mono λ x lo hi H Q h=>by
 unfold Ip at h;split at h
 ·rename_i a;obtain⟨xs,e,q⟩:=au h;exact⟨a,xs,rfl,SqL.of (cY e),q⟩
 ·exact h.elim
def Gq(r:V->Option Int->Option Int->Hp->VK->Prop)(x:V)(l:Option Int)(Q:VK):Option Int->Hp->Prop:=λ u H=>r x l u H Q
theorem EL(r:V->Option Int->Option Int->Hp->VK->Prop)(x:V)(l:Option Int)(Q:VK)(u:Option Int)(H:Hp):Gq r x l Q u H=r x l u H Q:=rfl
def Gr(r:V->Option Int->Option Int->Hp->VK->Prop)(th:TO)(σ:St)(x:V)(Q:VK):Option Int->Hp->Prop:=λ l H=>th σ H (Gq r x l Q)
theorem EM(r:V->Option Int->Option Int->Hp->VK->Prop)(th:TO)(σ:St)(x:V)(Q:VK)(l:Option Int)(H:Hp):Gr r th σ x Q l H=th σ H (Gq r x l Q):=rfl
def IA(r:V->Option Int->Option Int->Hp->VK->Prop)(tl th:TO)(σ:St)(Q:VK):VK:=λ x H=>tl σ H (Gr r th σ x Q)
theorem EN(r:V->Option Int->Option Int->Hp->VK->Prop)(tl th:TO)(σ:St)(Q:VK)(x:V)(H:Hp):IA r tl th σ Q x H=tl σ H (Gr r th σ x Q):=rfl
theorem Hi(r:V->Option Int->Option Int->Hp->VK->Prop)(te:TE)(tl th:TO)(σ:St)(H:Hp)(Q:VK):tSl r te tl th σ H Q=te σ H (IA r tl th σ Q):=rfl
theorem uP(σ:St)(H:Hp)(Q:Option Int->Hp->Prop):tM σ H Q=Q none H:=rfl
def Dm(Q:Option Int->Hp->Prop):VK:=λ x H=>∃ i,x=.int i/\Q (some i) H
theorem BG(Q:Option Int->Hp->Prop)(i:Int)(H:Hp):Dm Q (.int i) H=Q (some i) H:=propext ⟨λ ⟨_,e,q⟩=>by cases e;exact q,λ q=>⟨i,rfl,q⟩⟩
theorem A9(t:TE)(σ:St)(H:Hp)(Q:Option Int->Hp->Prop):CP t σ H Q=t σ H (Dm Q):=rfl
def gB(o:HO)(H:Hp)(Q:VK):Prop:=∀ (p:Addr) (H':Hp),H p=none->Ext H H'->H' p=some o->Q (.ref p) H'
theorem gB.to{o:HO}{H:Hp}{Q:VK}(h:gB o H Q):∀ p,H p=none->Q (.ref p) (upd H p o):=λ p hp=>h p _ hp (Ext.new hp) ai
def kQT(Q:VK):List V->Hp->Prop:=λ xs H=>xs.length<=sizeLine/\gB (.tup xs) H Q
theorem Hx(Q:VK)(xs:List V)(H:Hp):kQT Q xs H=(xs.length<=sizeLine/\gB (.tup xs) H Q):=rfl
def kQL(Q:VK):List V->Hp->Prop:=λ xs H=>xs.length<=sizeLine/\gB (.lst xs) H Q
theorem Hy(Q:VK)(xs:List V)(H:Hp):kQL Q xs H=(xs.length<=sizeLine/\gB (.lst xs) H Q):=rfl
def Io(t:TA):TE:=λ σ H Q=>t σ H (kQT Q)
theorem Ez(t:TA)(σ:St)(H:Hp)(Q:VK):Io t σ H Q=t σ H (kQT Q):=rfl
def Iq(t:TA):TE:=λ σ H Q=>t σ H (kQL Q)
theorem ED(t:TA)(σ:St)(H:Hp)(Q:VK):Iq t σ H Q=t σ H (kQL Q):=rfl
section
variable {X:Cx}{es:List Expr}{t:TA}{pos:Pos}
theorem AN{x1}(h:PA X es t):PE X (.Tuple es x1 pos) (Io t):=by
 intro pins s σ H Q I hq;refine wpAny_Tuple_spliced (thn (h pos pins s σ H _ I hq) λ us s1 ⟨xs,H1,I1,r,z,q⟩=>⟨by rw [←r.length];exact z,?_⟩);have hf:H1 s1.heap.objs.size=none:=I1.hok.fresh (JO _);refine⟨.ref s1.heap.objs.size,upd H1 s1.heap.objs.size (.tup xs),I1.laid (t':=s1.toks) (λ b u e=>JL _ e) (JO _) ?_,rfl,q.to _ hf⟩;exact⟨z,us,r,⟨_,JX _ rfl,rfl,_,rfl⟩⟩
theorem AO(h:PA X es t):PE X (.List es pos) (Iq t):=by
 intro pins s σ H Q I hq;refine wpAny_List_spliced (thn (h pos pins s σ H _ I hq) λ us s1 ⟨xs,H1,I1,r,z,q⟩=>⟨by rw [←r.length];exact z,?_⟩);have hf:H1 s1.heap.objs.size=none:=I1.hok.fresh (JO _);refine⟨.ref s1.heap.objs.size,upd H1 s1.heap.objs.size (.lst xs),I1.laid (t':=s1.toks) (λ b u e=>JL _ e) (JO _) ?_,rfl,q.to _ hf⟩;exact⟨z,us,0,r,JX _ rfl⟩
end
def kN(f:List V->HO)(H:Hp)(Q:VK):List V->Prop:=λ ys=>gB (f ys) H Q
theorem Jw(f:List V->HO)(H:Hp)(Q:VK)(ys:List V):kN f H Q ys=gB (f ys) H Q:=rfl
def zQ(xs:List V)(H:Hp)(Q:VK):Prop:=match xs with
 | [.ref p]=>aP (cN H p) (kN .lst H Q)
 | _=>False
theorem Br(p:Addr)(H:Hp)(Q:VK):zQ [.ref p] H Q=aP (cN H p) (kN .lst H Q):=rfl
theorem eA{X:Cx}:bK X (.type "list") zQ:=rf.mono λ xs H Q h=>by
 unfold zQ at h;split at h
 ·exact b6 (λ _ q=>q.to) h
 ·exact h.elim
def kNT(p:Addr)(H:Hp)(Q:VK):HO->Prop:=λ o=>match o with
 | .lst ys=>gB (.tup ys) H Q
 | .tup _=>Q (.ref p) H
 | _=>False
theorem BI(p:Addr)(H:Hp)(Q:VK)(ys:List V):kNT p H Q (.lst ys)=gB (.tup ys) H Q:=rfl
def tu(xs:List V)(H:Hp)(Q:VK):Prop:=match xs with
 | [.ref p]=>aP (H p) (kNT p H Q)
 | _=>False
theorem xw(p:Addr)(H:Hp)(Q:VK):tu [.ref p] H Q=aP (H p) (kNT p H Q):=rfl
theorem iC{X:Cx}:bK X (.type "tuple") tu:=nX.mono λ xs H Q h=>by
 unfold tu at h;split at h
 ·refine b6 (λ o q=>?_) h;unfold kNT at q;unfold zX;split at q
  ·exact q.to
  ·exact q
  ·exact q.elim
 ·exact h.elim
def FQ(xs:List V)(H:Hp)(Q:VK):List V->Prop:=λ ys=>xs.length+ys.length<=sizeLine/\gB (.lst (xs++ys)) H Q
theorem EW(xs:List V)(H:Hp)(Q:VK)(ys:List V):FQ xs H Q ys=(xs.length+ys.length<=sizeLine/\gB (.lst (xs++ys)) H Q):=rfl
def Gu(b:Addr)(H:Hp)(Q:VK):List V->Prop:=λ xs=>aP (aL H b) (FQ xs H Q)
theorem EX(b:Addr)(H:Hp)(Q:VK)(xs:List V):Gu b H Q xs=aP (aL H b) (FQ xs H Q):=rfl
def FO:R2:=λ x y H Q=>match x,y with
 | .ref l,.ref b=>aP (aL H l) (Gu b H Q)
 | _,_=>False
theorem zl(l b:Addr)(H:Hp)(Q:VK):FO (.ref l) (.ref b) H Q=aP (aL H l) (Gu b H Q):=rfl
theorem ft{X:Cx}:OpR X (binaryOp .Add) FO:=D7.mono λ x y H Q h=>by
 unfold FO at h;split at h
 ·rw [Ey];exact b6 (λ _ q=>b6 (λ _ q=>⟨q.1,q.2.to⟩) q) h
 ·exact h.elim
def kNS(lo hi:Option Int)(H:Hp)(Q:VK):List V->Prop:=λ xs=>gB (.lst (ja xs lo hi)) H Q
theorem HB(lo hi:Option Int)(H:Hp)(Q:VK)(xs:List V):kNS lo hi H Q xs=gB (.lst (ja xs lo hi)) H Q:=rfl
def nSl:V->Option Int->Option Int->Hp->VK->Prop:=λ x lo hi H Q=>match x with
 | .ref a=>aP (aL H a) (kNS lo hi H Q)
 | _=>False
theorem Hr(a:Addr)(lo hi:Option Int)(H:Hp)(Q:VK):nSl (.ref a) lo hi H Q=aP (aL H a) (kNS lo hi H Q):=rfl
theorem Cz{X:Cx}:SlR X nSl:=Jl.mono λ x lo hi H Q h=>by
 unfold nSl at h;split at h
 ·exact b6 (λ _ q=>q.to) h
 ·exact h.elim
theorem PE.mono{X:Cx}{e:Expr}{t t':TE}(h:PE X e t)(m:∀ σ H Q,t' σ H Q->t σ H Q):PE X e t':=λ pins s σ H Q I q=>h pins s σ H Q I (m _ _ _ q)
def Dj:TE:=λ _ H Q=>gB (.dK []) H Q
theorem Bs(σ:St)(H:Hp)(Q:VK):Dj σ H Q=gB (.dK []) H Q:=rfl
theorem gq{X:Cx}{pos:Pos}:PE X (.Dict [] [] pos) Dj:=xj.mono λ _ _ _ h=>h.to
section
variable {prog:Program}{w:World}{A:Around}{E:Value->Shared->Prop}{s:Shared}
end
section
variable {X:Cx}{pos:Pos}
end
section
variable {X:Cx}{tg:Expr}
end
theorem ip:∀ (n:Nat) (ns:List Int) (val:Nat->Int),(∀ i,val i=ns.getD i 0)->n<=ns.length->preSum val n=(ns.take n).sum
 | 0,ns,val,h,hl=>by simp [preSum]
 | n+1,ns,val,h,hl=>by
  have ih:=ip n ns val h (by omega)
  have e:ns.take (n+1)=ns.take n++[ns.getD n 0]:=by
   rw [List.take_succ,JJ (by omega)];simp [List.getD,JJ (show n < ns.length by omega)]
  rw [preSum,ih,e,List.sum_append,h];simp
def zY(H:Hp)(Q:VK):List Int->Prop:=λ ns=>Q (.int ns.sum) H
theorem Bz(H:Hp)(Q:VK)(ns:List Int):zY H Q ns=Q (.int ns.sum) H:=rfl
def Ge:List V->Hp->VK->Prop:=λ vs H Q=>match vs with
 | [.ref p]=>aP (aL H p) (Ad (zY H Q))
 | _=>False
theorem EA(p:Addr)(H:Hp)(Q:VK):Ge [.ref p] H Q=aP (aL H p) (Ad (zY H Q)):=rfl
def GI(F:List Bool->Prop):List V->Prop:=λ xs=>∃ bs,xs=bs.map V.bl/\F bs
theorem ur:∀ {ns ms:List Bool},ns.map V.bl=ms.map V.bl->ns=ms
 | [],[],_=>rfl
 | [],_::_,h=>by cases h
 | _::_,[],h=>by cases h
 | i::r,j::t,h=>by
  simp only [Km,MD,V.bl.injEq] at h;rw [h.1,ur h.2]
theorem Ff(F:List Bool->Prop)(bs:List Bool):GI F (bs.map V.bl)=F bs:=propext ⟨λ ⟨ms,e,h⟩=>by rw [ur e];exact h,λ h=>⟨bs,rfl,h⟩⟩
def Ag(H:Hp)(Q:VK):List Bool->Prop:=λ bs=>Q (.bl (bs.all id)) H
theorem BX(H:Hp)(Q:VK)(bs:List Bool):Ag H Q bs=Q (.bl (bs.all id)) H:=rfl
def Gh:List V->Hp->VK->Prop:=λ vs H Q=>match vs with
 | [.ref p]=>aP (aL H p) (GI (Ag H Q))
 | _=>False
theorem EF(p:Addr)(H:Hp)(Q:VK):Gh [.ref p] H Q=aP (aL H p) (GI (Ag H Q)):=rfl
section
variable {X:Cx}
theorem bP(hc:X.calm=true):bK X (.builtin "sum") Ge:=by
 intro pins s σ H vs us Q I r h;unfold Ge at h;split at h
 ·rename_i p;obtain⟨xs,e,ns,rfl,q⟩:=au h
  cases r with
  | cons r rr=>
   cases rr;cases r;obtain⟨its,rv,pl,hz⟩:=I.list (SqL.of (cY e));have hlt:p < s.heap.objs.size:=by obtain⟨_,e,_⟩:=pl.isList;exact JS e
   have hlen:its.length=ns.length:=by have:=rv.length;simpa using this.symm
   refine call_sum_walkAnyS (LR pl.isList ⟨s.heap.objs.size,_,_,_,_,_,_,λ i=>ns.getD i 0,rfl,(Walks.list (show X.A.in1.handled=none from I.ok.hd hc) _ p (J2 hlt) its.toArray).toS,⟨⟨_,JX _ rfl,rfl,rfl⟩,pl.isList.push _⟩,λ b hb=>?_,λ i v hP=>?_,λ s' t' hm=>?_⟩)
   ·rw [KJ]
    rcases J9.mp hb with rfl|hb
    ·exact K6 _
    ·rw [Kd.mp hb];exact Mo hlt
   ·have hv:its[i]? = some v:=by simpa using hP
    have hi:i < ns.length:=by rw [←hlen];exact(JM.mp hv).1
    obtain⟨u,hu,ru⟩:=rv.get (i:=i) (x:=.int (ns.getD i 0)) (by rw [J5,JJ hi];simp [List.getD,JJ hi]);rw [hv] at hu;cases hu;exact ru
   ·obtain⟨hp,g,d,tk,os⟩:=s'
    have kp:∀ b o,s.heap.get? b=some o->hp.get? b=some o:=λ b o e=>hm.heap b o (λ hmem=>by
     have:b=s.heap.objs.size:=by simpa using hmem
     subst this;exact absurd (JS e) (KZ _)) (JL _ e)
    have e1:g=s.gens:=hm.gens;have e2:d=s.drawn:=hm.drawn;have e3:os=s.os:=hm.os;subst e1 e2 e3;refine⟨.int ns.sum,H,I.kept (t':=tk) kp,?_,q⟩;have es:=ip its.toArray.size ns (λ i=>ns.getD i 0) (λ _=>rfl) (by simp [hlen]);rw [show its.toArray.size=ns.length by simp [hlen],Lk] at es;rw [show its.toArray.size=ns.length by simp [hlen],es];exact⟨t',rfl⟩
 ·exact h.elim
theorem wt(bs:List Bool):(List.range bs.length).all (λ i=>bs.getD i false)=bs.all id:=by
 rw [Li,Ls,Ls];refine⟨λ h x hx=>?_,λ h i hi=>?_⟩
 ·obtain⟨i,hi,e⟩:=List.getElem_of_mem hx;have:=h i (K4.mpr hi)
  simpa [List.getD,JJ hi,e] using this
 ·have hi':=K4.mp hi;have:=h (bs[i]) (KQ hi')
  simpa [List.getD,JJ hi'] using this
theorem ia(hc:X.calm=true):bK X (.builtin "all") Gh:=by
 intro pins s σ H vs us Q I r h;unfold Gh at h;split at h
 ·rename_i p;obtain⟨xs,e,bs,rfl,q⟩:=au h
  cases r with
  | cons r rr=>
   cases rr;cases r;obtain⟨its,rv,pl,hz⟩:=I.list (SqL.of (cY e));have hlt:p < s.heap.objs.size:=by obtain⟨_,e,_⟩:=pl.isList;exact JS e
   have hlen:its.length=bs.length:=by have:=rv.length;simpa using this.symm
   refine call_all_walk (LR pl.isList ⟨s.heap.objs.size,_,_,_,_,_,λ i=>bs.getD i false,rfl,Walks.list (show X.A.in1.handled=none from I.ok.hd hc) _ p (J2 hlt) its.toArray,⟨⟨_,JX _ rfl,rfl,rfl⟩,pl.isList.push _⟩,λ i v s' Q' E' hP hQ=>?_,λ h' tk hk=>?_⟩)
   ·have hv:its[i]? = some v:=by simpa using hP
    have hi:i < bs.length:=by rw [←hlen];exact(JM.mp hv).1
    obtain⟨u,hu,ru⟩:=rv.get (i:=i) (x:=.bl (bs.getD i false)) (by rw [J5,JJ hi];simp [List.getD,JJ hi]);rw [hv] at hu;cases hu;have e2:v=.bool (bs.getD i false):=ru;subst e2;exact Kw hQ
   ·have kp:∀ b o,s.heap.get? b=some o->h'.get? b=some o:=λ b o e=>hk b o (λ hmem=>by
     have:b=s.heap.objs.size:=by simpa using hmem
     subst this;exact absurd (JS e) (KZ _)) (JL _ e)
    refine⟨.bl (bs.all id),H,I.kept (t':=tk) kp,?_,q⟩;rw [show its.toArray.size=bs.length by simp [hlen],wt];exact rfl
 ·exact h.elim
end
structure Src(prog:Program)(w:World)(it:Addr)(fr:List Addr)(st:Nat->Heap->Prop)(val:Nat->Option Value):Prop where
 mem:it∈fr
 there:∀ k h,st k h->∀ b∈fr,∃ o,h.get? b=some o
 keep:∀ k h h',st k h->(∀ b∈fr,∀ o,h.get? b=some o->h'.get? b=some o)->st k h'
 item:∀ (A:Around) k s v (Q:Value->Shared->Prop) (E:Value->Shared->Prop),st k s.heap->val k=some v->(∀ h',st (k+1) h'->Heap.SameBut it s.heap h'->Q v { s with heap:=h' })->wpAny (model prog w) A (Builtin.SmallTypes.nextOf (.ref it)) Q E s
 fin:∀ (A:Around) k s (Q:Value->Shared->Prop) (E:Value->Shared->Prop),A.handled=none->st k s.heap->val k=none->(∀ h' e,Heap.ExtBut it s.heap h'->(∃ o,h'.get? e=some o/\o.cls=.type "StopIteration")->E (.ref e) { s with heap:=h' })->wpAny (model prog w) A (Builtin.SmallTypes.nextOf (.ref it)) Q E s
theorem wX{prog:Program}{w:World}(it l:Addr)(hne:l ≠ it)(xs:Array Value):Src prog w it [it,l] (λ k h=>h.IsListIter it l k/\h.IsList l xs) (λ k=>xs[k]?) where
 mem:=JP
 there:=λ k h st b hb=>by
  rcases J9.mp hb with e|hb
  ·obtain⟨o,q,_⟩:=st.1;exact⟨o,by rw [e];exact q⟩
  ·obtain⟨o,q,_⟩:=st.2;exact⟨o,by rw [Kd.mp hb];exact q⟩
 keep:=λ k h h' st q=>⟨st.1.at λ o e=>q it (by simp) o e,st.2.at λ o e=>q l (by simp) o e⟩
 item:=λ A k s v Q E st hv hQ=>wpAny_nextOf_list_item st.1 st.2 hv λ h' a b=>hQ h' ⟨a,st.2.extBut b.extBut hne⟩ b
 fin:=λ A k s Q E hh st hv hE=>wpAny_nextOf_list_end hh st.1 st.2 hv hE
section
variable {prog:Program}{w:World}{A:Around}{E:Value->Shared->Prop}{s:Shared}
theorem kJ{j t:Addr}{k:Nat}{xs:Array Value}{v:Value}{Q:Value->Shared->Prop}(hj:s.heap.IsTupleIter j t k)(ht:s.heap.IsTuple t xs)(hv:xs[k]? = some v)
  (hQ:∀ g,g.IsTupleIter j t (k+1)->Heap.SameBut j s.heap g->Q v { s with heap:=g }):wpAny (model prog w) A (Builtin.SmallTypes.nextOf (.ref j)) Q E s:=by
 obtain⟨oj,h0,h1,h2⟩:=id hj;obtain⟨ot,g0,_,n,g1⟩:=ht;unfold Builtin.SmallTypes.nextOf;refine wpAny_bind (wpAny_callSpecial?_slot (name:=Str.ofString "__next__") hj.typeIs F.slot_tuple_iterator_next (wpAny_call_entry F.slot_tuple_iterator_next hj.typeIs F.entry_tuple_iterator_next ?_ (F.args_tuple_iterator_next_1 _)));refine wpAny_bind (m:=field (.ref j) 0) (wpAny_field h0 h2 (x:=.ref t) rfl ?_)
 show wpAny _ _ (if (Value.ref t == Value.none)=true then _ else _) _ _ _
 rw [JQ (show ¬ ((.ref t:Value) == .none)=true from JZ)];refine JK (m:=field (.ref j) 1) (Kx h0 h2 (x:=.int k 0) rfl ?_);refine JK (m:=seqItems? (.ref t)) (KY g0 g1 ?_);simp only [Ks,hv];refine JK (wpAny_setField h0 h2 (by simp) (JV ⟨v,rfl,JV (hQ _ ⟨_,Heap.get?_update_self _ h0 (Obj.isFreed_of_fields (Obj.data_mapFields h2 _)),(Obj.cls_mapFields ..).trans h1,?_⟩ (Heap.SameBut.update ..))⟩));rw [Obj.data_mapFields h2];simp [rawInt]
theorem mz{j t:Addr}{k:Nat}{xs:Array Value}{Q:Value->Shared->Prop}(hh:A.handled=none)(hj:s.heap.IsTupleIter j t k)(ht:s.heap.IsTuple t xs)(hv:xs[k]? = none)
  (hE:∀ g e,Heap.ExtBut j s.heap g->(∃ o,g.get? e=some o/\o.cls=.type "StopIteration")->E (.ref e) { s with heap:=g }):wpAny (model prog w) A (Builtin.SmallTypes.nextOf (.ref j)) Q E s:=by
 obtain⟨oj,h0,h1,h2⟩:=id hj;obtain⟨ot,g0,_,n,g1⟩:=ht;unfold Builtin.SmallTypes.nextOf;refine wpAny_bind (wpAny_callSpecial?_slot (name:=Str.ofString "__next__") hj.typeIs F.slot_tuple_iterator_next (wpAny_call_entry F.slot_tuple_iterator_next hj.typeIs F.entry_tuple_iterator_next ?_ (F.args_tuple_iterator_next_1 _)));refine wpAny_bind (m:=field (.ref j) 0) (wpAny_field h0 h2 (x:=.ref t) rfl ?_)
 show wpAny _ _ (if (Value.ref t == Value.none)=true then _ else _) _ _ _
 rw [JQ (show ¬ ((.ref t:Value) == .none)=true from JZ)];refine JK (m:=field (.ref j) 1) (Kx h0 h2 (x:=.int k 0) rfl ?_);refine JK (m:=seqItems? (.ref t)) (KY g0 g1 ?_);simp only [Ks,hv];refine JK (wpAny_rule (JK (wpAny_setField h0 h2 (by simp) (JK (m:=newExc (.type "StopIteration") []) ?_))));simp only [newExc,newTuple];refine JK (KL (JK (m:=firstArgMember _ _) (wpAny_of_eq (a:=Value.none) (by first|rfl|(simp only [firstArgMember];rfl)) (KL ?_ (by size_fits)))) (by size_fits));simp only [raiseNew]
 refine JK (wpAny_handled ?_);first|rw [show A.in1.handled=none from hh]|rw [hh]
 exact JK (JV (wpAny_throw (hE _ _ (((Heap.SameBut.update ..).extBut.push _).push _) ⟨_,JX _ rfl,rfl⟩)))
theorem AA(it l:Addr)(hne:l ≠ it)(xs:Array Value):Src prog w it [it,l] (λ k h=>h.IsTupleIter it l k/\h.IsTuple l xs) (λ k=>xs[k]?) where
 mem:=JP
 there:=λ k h st b hb=>by
  rcases J9.mp hb with e|hb
  ·obtain⟨o,q,_⟩:=st.1;exact⟨o,by rw [e];exact q⟩
  ·obtain⟨o,q,_⟩:=st.2;exact⟨o,by rw [Kd.mp hb];exact q⟩
 keep:=λ k h h' st q=>⟨st.1.at λ o e=>q it (by simp) o e,st.2.at λ o e=>q l (by simp) o e⟩
 item:=λ A k s v Q E st hv hQ=>kJ st.1 st.2 hv λ h' a b=>hQ h' ⟨a,st.2.extBut b.extBut hne⟩ b
 fin:=λ A k s Q E hh st hv hE=>mz hh st.1 st.2 hv hE
structure jh(z TI TO i j:Addr)(f g:List Addr):Prop where
 ti:TI ≠ z/\TI ≠ TO/\TI ≠ i/\TI ≠ j
 zt:z ≠ TO
 zf:z ∉ f
 zg:z ∉ g
 tf:TO ∉ f
 tg:TO ∉ g
 ig:i ∉ g
 jf:j ∉ f
variable {z TI TO i j:Addr}{f g:List Addr}{ti tj:Nat->Heap->Prop}{vi vj:Nat->Option Value}{k m:Nat}{x y a b:Value}
theorem dA{p q:Addr}{l:List Addr}(hp:p∈l)(hq:q ∉ l):p ≠ q:=λ e=>hq (e ▸ hp)
theorem Src.but{prog:Program}{w:World}{it:Addr}{fr:List Addr}{st:Nat->Heap->Prop}{val:Nat->Option Value}(S:Src prog w it fr st val){k:Nat}{c:Addr}{h h':Heap}(q:st k h)(e:Heap.ExtBut c h h')(hc:c ∉ fr):st k h':=
 S.keep k h h' q λ b hb o ho=>e b o (dA hb hc) ho
theorem uy(S:Src prog w i f ti vi)(T:Src prog w j g tj vj)(D:jh z TI TO i j f g){Q:Value->Shared->Prop}
  (hz:IsZip s.heap z TI TO .none) (hTI:IsPair s.heap TI (.ref i) (.ref j)) (hTO:IsPair s.heap TO a b) (hi:ti k s.heap) (hj:tj m s.heap) (hx:vi k=some x) (hy:vj m=some y)
  (hQ:∀ h',IsZip h' z TI TO (rawInt s.heap.objs.size)->IsPair h' TO x y->ti (k+1) h'->tj (m+1) h'->IsPair h' s.heap.objs.size x y->h'.objs.size=s.heap.objs.size+1->(∀ c o,c ∉ [z,TO,i,j]->s.heap.get? c=some o->h'.get? c=some o)->Q (.ref s.heap.objs.size) { s with heap:=h' }) :
  wpAny (model prog w) A (Builtin.«zip.__next__» ⟨[.ref z],[]⟩) (λ fin s'=>∃ v,fin=.done (.ret v)/\Q v s') E s:=by
 have iz:i ≠ z:=dA S.mem D.zf;have jz:j ≠ z:=dA T.mem D.zg;have iTO:i ≠ TO:=dA S.mem D.tf;have jTO:j ≠ TO:=dA T.mem D.tg;have ij:i ≠ j:=dA S.mem D.jf;refine wpAny_bind (m:=field (.ref z) 2) (wpAny_field hz rfl (x:=.bool false) rfl ?_);refine wpAny_bind (m:=field (.ref z) 3) (wpAny_field hz rfl (x:=.ref TI) rfl (wpAny_bind (wpAny_seqItems hTI rfl ?_)));refine wpAny_bind (m:=Builtin.SmallTypes.ownedTupleIsFree (.ref z)) ?_;unfold Builtin.SmallTypes.ownedTupleIsFree;refine wpAny_bind (wpAny_field hz rfl (x:=.none) rfl (wpAny_pure ?_));simp only [if_true];refine wpAny_bind (wpAny_rule (wpAny_bind (wpAny_field hz rfl (x:=.ref TO) rfl (wpAny_bind (wpAny_setField_rec hz (by simp) λ q1 z1 s1=>?_)))));replace z1:IsZip q1 z TI TO .ellipsis:=z1;refine wpAny_bind ?_;simp only [List.zipIdx_cons,List.zipIdx_nil,List.forIn_cons,List.forIn_nil];refine wpAny_bind (wpAny_bind (wpAny_onRaise (wpAny_bind (m:=Builtin.SmallTypes.nextOf (.ref i)) (S.item _ k _ x _ _ (S.but hi s1.extBut D.zf) hx λ q2 i2 s2=>wpAny_pure ?_))));have o2:IsPair q2 TO a b:=s2.extBut _ _ iTO.symm (s1.extBut _ _ D.zt.symm hTO);refine wpAny_bind (wpAny_seqItems o2 rfl (wpAny_bind (wpAny_updateSeq_pair o2 λ q3 o3 s3=>wpAny_bind (wpAny_letGo (wpAny_pure ?_)))));replace o3:IsPair q3 TO x b:=o3;have j3:tj m q3:=T.but (T.but (T.but hj s1.extBut D.zg) s2.extBut D.ig) s3.extBut D.tg;refine wpAny_bind (wpAny_bind (wpAny_onRaise (wpAny_bind (m:=Builtin.SmallTypes.nextOf (.ref j)) (T.item _ m _ y _ _ j3 hy λ q4 j4 s4=>wpAny_pure ?_))));have o4:IsPair q4 TO x b:=s4.extBut _ _ jTO.symm o3;refine wpAny_bind (wpAny_seqItems o4 rfl (wpAny_bind (wpAny_updateSeq_pair o4 λ q5 o5 s5=>wpAny_bind (wpAny_letGo (wpAny_pure (wpAny_pure ?_))))));replace o5:IsPair q5 TO x y:=o5;refine wpAny_bind (wpAny_seqItems o5 rfl (wpAny_bind (wpAny_newTuple ?_)));have sz:q5.objs.size=s.heap.objs.size:=by rw [s5.1,s4.1,s3.1,s2.1,s1.1]
 have z5:IsZip q5 z TI TO .ellipsis:=s5.extBut _ _ D.zt (s4.extBut _ _ jz.symm (s3.extBut _ _ D.zt (s2.extBut _ _ iz.symm z1)))
 have k5:∀ c o,c ∉ [z,TO,i,j]->s.heap.get? c=some o->q5.get? c=some o:=λ c o hc e=>by
  simp only [J9,Kp,KR,not_or] at hc;exact s5.extBut _ _ hc.2.1 (s4.extBut _ _ hc.2.2.2 (s3.extBut _ _ hc.2.1 (s2.extBut _ _ hc.2.2.1 (s1.extBut _ _ hc.1 e))))
 have i5:ti (k+1) q5:=S.but (S.but (S.but i2 s3.extBut D.tf) s4.extBut D.jf) s5.extBut D.tf;have j5:tj (m+1) q5:=T.but j4 s5.extBut D.tg;have zlt:z < q5.objs.size:=Heap.lt_size z5;refine wpAny_bind (m:=Builtin.SmallTypes.ownedTupleHandOut (.ref z) (.ref q5.objs.size)) ?_;unfold Builtin.SmallTypes.ownedTupleHandOut;have z6:IsZip (q5.push { cls:=.type "tuple",data:=.seq #[x,y] }) z TI TO .ellipsis:=Heap.get?_push_of_some _ z5;refine wpAny_bind (wpAny_setField_rec z6 (by simp) λ q7 z7 s7=>?_);replace z7:IsZip q7 z TI TO (rawInt q5.objs.size):=z7;refine wpAny_setField_rec z7 (by simp) λ q8 z8 s8=>?_;replace z8:IsZip q8 z TI TO (rawInt q5.objs.size):=z8;have up:∀ c o,c ≠ z->q5.get? c=some o->q8.get? c=some o:=λ c o hc e=>s8.extBut _ _ hc (s7.extBut _ _ hc (Heap.get?_push_of_some _ e));have t8:IsPair q8 q5.objs.size x y:=s8.extBut _ _ (Nat.ne_of_gt zlt) (s7.extBut _ _ (Nat.ne_of_gt zlt) (Heap.get?_push_size _ rfl));have n8:q8.objs.size=q5.objs.size+1:=by rw [s8.1,s7.1,Heap.size_push]
 rw [sz] at z8 t8 n8;refine JV ⟨_,rfl,?_⟩
 show Q (.ref q5.objs.size) _
 rw [sz];exact hQ q8 z8 (up _ _ D.zt.symm o5) (S.keep _ _ _ i5 λ c hc o e=>up c o (dA hc D.zf) e) (T.keep _ _ _ j5 λ c hc o e=>up c o (dA hc D.zg) e) t8 n8 λ c o hc e=>up c o (λ q=>hc (by simp [q])) (k5 c o hc e)
theorem wO(hh:A.handled=none)(S:Src prog w i f ti vi)(T:Src prog w j g tj vj)(D:jh z TI TO i j f g){Q:Fin->Shared->Prop}
  (hz:IsZip s.heap z TI TO .none) (hTI:IsPair s.heap TI (.ref i) (.ref j)) (hTO:IsPair s.heap TO a b) (hi:ti k s.heap) (hj:tj m s.heap) (hxy:vi k=none\/vj m=none)
  (hE:∀ h' e,(∀ c o,c ∉ [z,TO,i,j]->s.heap.get? c=some o->h'.get? c=some o)->(∃ o,h'.get? e=some o/\o.cls=.type "StopIteration")->E (.ref e) { s with heap:=h' }) :
  wpAny (model prog w) A (Builtin.«zip.__next__» ⟨[.ref z],[]⟩) Q E s:=by
 have iz:i ≠ z:=dA S.mem D.zf;have jz:j ≠ z:=dA T.mem D.zg;have iTO:i ≠ TO:=dA S.mem D.tf;have jTO:j ≠ TO:=dA T.mem D.tg;refine wpAny_bind (m:=field (.ref z) 2) (wpAny_field hz rfl (x:=.bool false) rfl ?_);refine wpAny_bind (m:=field (.ref z) 3) (wpAny_field hz rfl (x:=.ref TI) rfl (wpAny_bind (wpAny_seqItems hTI rfl ?_)));refine wpAny_bind (m:=Builtin.SmallTypes.ownedTupleIsFree (.ref z)) ?_;unfold Builtin.SmallTypes.ownedTupleIsFree;refine wpAny_bind (wpAny_field hz rfl (x:=.none) rfl (wpAny_pure ?_));simp only [if_true];refine wpAny_bind (wpAny_rule (wpAny_bind (wpAny_field hz rfl (x:=.ref TO) rfl (wpAny_bind (wpAny_setField_rec hz (by simp) λ q1 z1 s1=>?_)))));replace z1:IsZip q1 z TI TO .ellipsis:=z1;refine wpAny_bind ?_;simp only [List.zipIdx_cons,List.zipIdx_nil,List.forIn_cons,List.forIn_nil];refine wpAny_bind (wpAny_bind (wpAny_onRaise (wpAny_bind (m:=Builtin.SmallTypes.nextOf (.ref i)) ?_)))
 cases hx:vi k with
 | none=>
  refine S.fin _ k _ _ _ hh (S.but hi s1.extBut D.zf) hx λ q2 e s2 ⟨oe,he,hce⟩=>?_;have z2:IsZip q2 z TI TO .ellipsis:=s2 _ _ iz.symm z1;have ez:e ≠ z:=λ q=>by subst q;rw [z2] at he;cases he;simp at hce
  refine K0 z2 (by simp) λ q3 _ s3=>hE q3 e (λ c o hc q=>?_) ⟨oe,s3.extBut _ _ ez he,hce⟩;simp only [J9,Kp,KR,not_or] at hc;exact s3.extBut _ _ hc.1 (s2 _ _ hc.2.2.1 (s1.extBut _ _ hc.1 q))
 | some x=>
  have hy:vj m=none:=hxy.resolve_left (by rw [hx];exact Option.some_ne_none x);refine S.item _ k _ x _ _ (S.but hi s1.extBut D.zf) hx λ q2 i2 s2=>JV ?_;have o2:IsPair q2 TO a b:=s2.extBut _ _ iTO.symm (s1.extBut _ _ D.zt.symm hTO);refine JK (KY o2 rfl (JK (Ml o2 λ q3 o3 s3=>JK (wpAny_letGo (JV ?_)))));have j3:tj m q3:=T.but (T.but (T.but hj s1.extBut D.zg) s2.extBut D.ig) s3.extBut D.tg;refine JK (JK (My (JK (m:=Builtin.SmallTypes.nextOf (.ref j)) (T.fin _ m _ _ _ hh j3 hy λ q4 e s4 ⟨oe,he,hce⟩=>?_))));have z4:IsZip q4 z TI TO .ellipsis:=s4 _ _ jz.symm (s3.extBut _ _ D.zt (s2.extBut _ _ iz.symm z1));have ez:e ≠ z:=λ q=>by subst q;rw [z4] at he;cases he;simp at hce
  refine K0 z4 (by simp) λ q5 _ s5=>hE q5 e (λ c o hc q=>?_) ⟨oe,s5.extBut _ _ ez he,hce⟩;simp only [J9,Kp,KR,not_or] at hc;exact s5.extBut _ _ hc.1 (s4 _ _ hc.2.2.2 (s3.extBut _ _ hc.2.1 (s2.extBut _ _ hc.2.2.1 (s1.extBut _ _ hc.1 q))))
theorem iW(S:Src prog w i f ti vi)(T:Src prog w j g tj vj)(D:jh z TI TO i j f g){Q:Option Value->Shared->Prop}
  (hz:IsZip s.heap z TI TO .none) (hTI:IsPair s.heap TI (.ref i) (.ref j)) (hTO:IsPair s.heap TO a b) (hi:ti k s.heap) (hj:tj m s.heap) (hx:vi k=some x) (hy:vj m=some y)
  (hQ:∀ h',IsZip h' z TI TO (rawInt s.heap.objs.size)->IsPair h' TO x y->ti (k+1) h'->tj (m+1) h'->IsPair h' s.heap.objs.size x y->h'.objs.size=s.heap.objs.size+1->(∀ c o,c ∉ [z,TO,i,j]->s.heap.get? c=some o->h'.get? c=some o)->Q (some (.ref s.heap.objs.size)) { s with heap:=h' }) :
  wpAny (model prog w) A (pyNext (.ref z)) Q E s:=by
 have ty:s.TypeIs (.ref z) "zip":=⟨_,hz,rfl⟩;unfold pyNext;exact wpAny_bind (wpAny_attempt (wpAny_callSpecial?_slot (name:=Str.ofString "__next__") ty F.slot_zip_next (wpAny_call_entry F.slot_zip_next ty F.entry_zip_next (uy S T D hz hTI hTO hi hj hx hy λ h' c1 c2 c3 c4 c5 c6 c7=>wpAny_pure (hQ h' c1 c2 c3 c4 c5 c6 c7)) (F.args_zip_next_1 _))))
theorem kC(hh:A.handled=none)(S:Src prog w i f ti vi)(T:Src prog w j g tj vj)(D:jh z TI TO i j f g){Q:Option Value->Shared->Prop}
  (hz:IsZip s.heap z TI TO .none) (hTI:IsPair s.heap TI (.ref i) (.ref j)) (hTO:IsPair s.heap TO a b) (hi:ti k s.heap) (hj:tj m s.heap) (hxy:vi k=none\/vj m=none)
  (hQ:∀ h',(∀ c o,c ∉ [z,TO,i,j]->s.heap.get? c=some o->h'.get? c=some o)->Q none { s with heap:=h' }):wpAny (model prog w) A (pyNext (.ref z)) Q E s:=by
 have ty:s.TypeIs (.ref z) "zip":=⟨_,hz,rfl⟩;unfold pyNext;refine wpAny_bind (wpAny_attempt (wpAny_callSpecial?_slot (name:=Str.ofString "__next__") ty F.slot_zip_next (wpAny_call_entry F.slot_zip_next ty F.entry_zip_next (wO (show A.in1.handled=none from hh) S T D hz hTI hTO hi hj hxy λ h' e kp he=>?_) (F.args_zip_next_1 _))));obtain⟨o,ho,hc⟩:=he;exact wpAny_bind (wpAny_isInstance (T := "StopIteration") (b:=true) ⟨o,ho,hc⟩ isSubtype_stop (wpAny_pure (hQ _ kp)))
end
def SeqAt(h:Heap)(k:Bool)(l:Addr)(xs:Array Value):Prop:=match k with
 | true=>h.IsTuple l xs
 | false=>h.IsList l xs
def cx(h:Heap)(k:Bool)(it l:Addr)(n:Nat):Prop:=match k with
 | true=>h.IsTupleIter it l n
 | false=>h.IsListIter it l n
def wK(k:Bool)(l:Addr):Obj:=match k with
 | true=>{ cls:=.type "tuple_iterator",data:=.fields #[.ref l,.int 0 0] }
 | false=>{ cls:=.type "list_iterator",data:=.fields #[.ref l,.int 0 0] }
theorem SeqAt.at{h h':Heap}{k:Bool}{l:Addr}{xs:Array Value}(q:SeqAt h k l xs)(e:∀ o,h.get? l=some o->h'.get? l=some o):SeqAt h' k l xs:=by
 cases k
 ·exact Heap.IsList.at q e
 ·exact Heap.IsTuple.at q e
theorem cx.at{h h':Heap}{k:Bool}{it l:Addr}{n:Nat}(q:cx h k it l n)(e:∀ o,h.get? it=some o->h'.get? it=some o):cx h' k it l n:=by
 cases k
 ·exact Heap.IsListIter.at q e
 ·exact Heap.IsTupleIter.at q e
theorem cx.obj{h:Heap}{k:Bool}{it l:Addr}{n:Nat}(q:cx h k it l n):∃ o fs,h.get? it=some o/\o.data=.fields fs:=by
 cases k
 ·obtain⟨o,e,_,d⟩:=(show h.IsListIter it l n from q);exact⟨o,_,e,d⟩
 ·obtain⟨o,e,_,d⟩:=(show h.IsTupleIter it l n from q);exact⟨o,_,e,d⟩
theorem oz{prog:Program}{w:World}(k:Bool)(it l:Addr)(hne:l ≠ it)(xs:Array Value):Src prog w it [it,l] (λ n h=>cx h k it l n/\SeqAt h k l xs) (λ n=>xs[n]?):=by
 cases k
 ·exact wX it l hne xs
 ·exact AA it l hne xs
section
variable {prog:Program}{w:World}{A:Around}{E:Value->Shared->Prop}{s:Shared}
theorem tZ{k:Bool}{l:Addr}{xs:Array Value}{Q:Value->Shared->Prop}(h:SeqAt s.heap k l xs)(hQ:Q (.ref s.heap.objs.size) { s with heap:=s.heap.push (wK k l) }):wpAny (model prog w) A (pyIter (.ref l)) Q E s:=by
 cases k
 ·exact LR h hQ
 ·exact wpAny_pyIter_tuple h hQ
abbrev zq1(ka:Bool)(a:Addr)(h:Heap):Heap:=h.push (wK ka a)
abbrev zq2(ka kb:Bool)(a b:Addr)(h:Heap):Heap:=(zq1 ka a h).push (wK kb b)
abbrev zq3(ka kb:Bool)(a b:Addr)(h:Heap):Heap:=(zq2 ka kb a b h).push { cls:=.type "tuple",data:=.seq #[.ref h.objs.size,.ref (zq1 ka a h).objs.size] }
abbrev zq4(ka kb:Bool)(a b:Addr)(h:Heap):Heap:=(zq3 ka kb a b h).push { cls:=.type "tuple",data:=.seq #[.none,.none] }
abbrev zq5(ka kb:Bool)(a b:Addr)(h:Heap):Heap:=(zq4 ka kb a b h).push { cls:=.type "zip",data:=.fields #[.none,.bool false,.bool false,.ref (zq2 ka kb a b h).objs.size,.ref (zq3 ka kb a b h).objs.size] }
theorem ux(ka kb:Bool)(a b:Addr)(xs ys:Array Value):Meets (Builtin.«zip.__new__» ⟨[.type "zip",.ref a,.ref b],[]⟩) (λ _ R s=>SeqAt s.heap ka a xs/\SeqAt s.heap kb b ys/\R (.ok (.ret (.ref (zq4 ka kb a b s.heap).objs.size))) { s with heap:=zq5 ka kb a b s.heap }):=
 .of_wp λ prog w A R s h=>by
  obtain⟨hp,g,d,tk,os⟩:=s;obtain⟨h1,h2,h⟩:=h;have hsub:=sub_zip;have q1:SeqAt (Shared.heap ⟨hp,g,d,tk,os⟩) ka a xs:=h1;have q2:SeqAt (Shared.heap ⟨hp.push (wK ka a),g,d,tk,os⟩) kb b ys:=h2.at λ o e=>JL _ e
  wp_walk using tZ q1,tZ q2
  exact⟨_,rfl,h⟩
theorem Co{ka kb:Bool}{a b:Addr}{xs ys:Array Value}{Q:Value->Shared->Prop}(h1:SeqAt s.heap ka a xs)(h2:SeqAt s.heap kb b ys)
  (h:∀ h' n,n=s.heap.objs.size->IsZip h' (n+4) (n+2) (n+3) .none->IsPair h' (n+2) (.ref n) (.ref (n+1))->IsPair h' (n+3) .none .none->cx h' ka n a 0->cx h' kb (n+1) b 0->h'.objs.size=n+5->(∀ c o,s.heap.get? c=some o->h'.get? c=some o)->Q (.ref (n+4)) { s with heap:=h' }) :
  wpAny (model prog w) A (call (.type "zip") [.ref a,.ref b]) Q E s:=by
 refine callType_new F.called_zip (by decide) (F.typeCall_zip_2 _ _) (F.newCall_zip_2 _ _) (λ ob=>F.args_object_init_3 ob _ _) F.entry_zip_new (ux ka kb a b xs ys) ⟨h1,h2,?_⟩;have n1:(zq1 ka a s.heap).objs.size=s.heap.objs.size+1:=KJ ..;have n2:(zq2 ka kb a b s.heap).objs.size=s.heap.objs.size+2:=by rw [KJ,n1]
 have n3:(zq3 ka kb a b s.heap).objs.size=s.heap.objs.size+3:=by rw [KJ,n2]
 have n4:(zq4 ka kb a b s.heap).objs.size=s.heap.objs.size+4:=by rw [KJ,n3]
 have n5:(zq5 ka kb a b s.heap).objs.size=s.heap.objs.size+5:=by rw [KJ,n4]
 have f1:cx (zq1 ka a s.heap) ka s.heap.objs.size a 0:=by
  cases ka<;>exact⟨_,JX _ rfl,rfl,rfl⟩
 have f2:cx (zq2 ka kb a b s.heap) kb (zq1 ka a s.heap).objs.size b 0:=by
  cases kb<;>exact⟨_,JX _ rfl,rfl,rfl⟩
 have u2:∀ c o,(zq2 ka kb a b s.heap).get? c=some o->(zq5 ka kb a b s.heap).get? c=some o:=λ c o e=>JL _ (JL _ (JL _ e));have g5:(zq5 ka kb a b s.heap).get? (zq4 ka kb a b s.heap).objs.size=some _:=JX _ rfl;have g4:(zq5 ka kb a b s.heap).get? (zq3 ka kb a b s.heap).objs.size=some _:=JL _ (JX _ rfl);have g3:(zq5 ka kb a b s.heap).get? (zq2 ka kb a b s.heap).objs.size=some _:=JL _ (JL _ (JX _ rfl));have e1:cx (zq5 ka kb a b s.heap) ka s.heap.objs.size a 0:=f1.at λ o e=>u2 _ o (JL _ e);have e2:cx (zq5 ka kb a b s.heap) kb (zq1 ka a s.heap).objs.size b 0:=f2.at λ o e=>u2 _ o e
 show _/\_
 rw [n2,n3,n4] at g5;rw [n1,n2] at g3;rw [n3] at g4;rw [n1] at e2;rw [n4];exact⟨⟨_,g5,rfl⟩,h _ _ rfl g5 g3 g4 e1 e2 n5 λ c o e=>u2 c o (JL _ (JL _ e))⟩
end
section
variable {X:Cx}{pins:List (Addr × Obj)}{σ:List (Option V)}{H:Hp}{s:Shared}{h':Heap}
theorem Inv.turnNew{t':Nat}{ch:List Addr}{n:Addr}{o:HO}(I:Inv X pins σ H s)(hch:∀ b∈ch,mN X pins H b)(k:∀ b ob,b ∉ ch->s.heap.get? b=some ob->h'.get? b=some ob)(hn:s.heap.objs.size<=n)(new:bX X.prog X.w (upd H n o) h' n o) :
  Inv X pins σ (upd H n o) { s with heap:=h',toks:=t' }:=by
 have fn:=I.hok.fresh hn;have up:∀ {b u},H b=some u->upd H n o b=some u:=λ {b u} e=>by rw [ah (bI e fn)];exact e
 have nch:∀ {b u},H b=some u->b ∉ ch:=λ {b u} e z=>by rw [(hch b z).1] at e;cases e
 refine I.step (g':=s.gens) (d':=s.drawn) (ch:=ch) (λ b hb=>⟨(hch b hb).2.2.2.1,(hch b hb).2.1,(hch b hb).2.2.2.2.1,(hch b hb).2.2.2.2.2⟩) (λ b ob _ _ hc e _=>k b ob hc e) (λ b ob _ _ hc e _=>⟨ob.slots,k b ob hc e⟩)
  (λ b ob _ e q=>?_) (λ b ob hc e=>⟨ob,k b ob hc e⟩) (λ _ _ e=>up e) (λ _ _ _ e=>up e) (λ b ps e=>⟨#[],by rw [up e];simp⟩) (λ m hm=>?_) (λ b u e=>?_) I.bare
 ·rw [ah (J2 (JY (JS e) hn))];exact q
 ·obtain⟨ol,es,ep,ho,r⟩:=hm;exact⟨ol,es,ep,k _ ol (λ z=>(hch _ z).2.1 rfl) ho,r⟩
 ·by_cases hb:b=n
  ·subst hb;rw [ai] at e;cases e;exact new
  ·rw [ah hb] at e;refine(I.hok b u e).stay (λ c v hc q=>k c v ?_ q) (λ c q=>up q) λ c xs q=>up q
   rcases hc with rfl|hc
   ·exact nch e
   ·exact nch hc
theorem Inv.turnL{t':Nat}{ch:List Addr}(I:Inv X pins σ H s)(hch:∀ b∈ch,mN X pins H b)(k:∀ b ob,b ∉ ch->s.heap.get? b=some ob->h'.get? b=some ob):Inv X pins σ H { s with heap:=h',toks:=t' }:=by
 have nch:∀ {b u},H b=some u->b ∉ ch:=λ {b u} e z=>by rw [(hch b z).1] at e;cases e
 refine I.step (g':=s.gens) (d':=s.drawn) (ch:=ch) (λ b hb=>⟨(hch b hb).2.2.2.1,(hch b hb).2.1,(hch b hb).2.2.2.2.1,(hch b hb).2.2.2.2.2⟩) (λ b ob _ _ hc e _=>k b ob hc e) (λ b ob _ _ hc e _=>⟨ob.slots,k b ob hc e⟩)
  (λ _ _ _ _ q=>q) (λ b ob hc e=>⟨ob,k b ob hc e⟩) (λ _ _ e=>e) (λ _ _ _ e=>e) (λ b ps e=>⟨#[],by rw [e];simp⟩) (λ m hm=>?_) (λ b u e=>?_) I.bare
 ·obtain⟨ol,es,ep,ho,r⟩:=hm;exact⟨ol,es,ep,k _ ol (λ z=>(hch _ z).2.1 rfl) ho,r⟩
 ·refine(I.hok b u e).stay (λ c v hc q=>k c v ?_ q) (λ _ q=>q) λ _ _ q=>q
  rcases hc with rfl|hc
  ·exact nch e
  ·exact nch hc
end
def SqK(k:Bool)(H:Hp)(a:Addr)(xs:List V):Prop:=match k with
 | true=>H a=some (.tup xs)
 | false=>H a=some (.lst xs)
theorem SqK.ne{k:Bool}{H:Hp}{a b:Addr}{xs:List V}(h:SqK k H a xs)(e:H b=none):a ≠ b:=λ z=>by
 subst z;cases k
 ·rw [show H a=some (.lst xs) from h] at e;cases e
 ·rw [show H a=some (.tup xs) from h] at e;cases e
theorem Inv.sq{X:Cx}{pins:List (Addr × Obj)}{σ:St}{H:Hp}{s:Shared}{k:Bool}{a:Addr}{xs:List V}(I:Inv X pins σ H s)(h:SqK k H a xs):∃ its:List Value,aU xs its/\SeqAt s.heap k a its.toArray:=by
 cases k
 ·obtain⟨its,r,p,_⟩:=I.list (SqL.of h);exact⟨its,r,p.isList⟩
 ·obtain⟨its,r,p,_⟩:=I.tuple (SqT.of h);exact⟨its,r,p⟩
def Itz(ka kb:Bool)(a b:Addr)(xs ys:List V):It:=
 ⟨λ i H=>SqK ka H a xs/\SqK kb H b ys/\i < xs.length/\i < ys.length,λ i H x H'=>∃ p u v,H p=none/\x=.ref p/\xs[i]? = some u/\ys[i]? = some v/\H'=upd H p (.tup [u,v]),λ i H=>SqK ka H a xs/\SqK kb H b ys/\(xs.length<=i\/ys.length<=i)⟩
def Tnz(ka kb:Bool)(a b z TI TO p q:Addr)(i:Nat)(h:Heap):Prop:=IsZip h z TI TO .none/\IsPair h TI (.ref p) (.ref q)/\(∃ u v,IsPair h TO u v)/\cx h ka p a i/\cx h kb q b i
theorem wV{P:Program}{w:World}{K:W.Frag}{elts:List Expr}{x1}{tp:Pos}(ka kb:Bool)(a b z TI TO p q:Addr)(xs ys:List V)(nd:[z,TI,TO,p,q].Nodup):yU P w K (.Tuple elts x1 tp) (Itz ka kb a b xs ys) [z,TI,TO,p,q] z (Tnz ka kb a b z TI TO p q) where
 mem:=JP
 obj:=λ i h st c hc=>by
  obtain⟨e1,e2,⟨u,v,e3⟩,e4,e5⟩:=st;simp only [J9,Kp,KR] at hc
  rcases hc with rfl|rfl|rfl|rfl|rfl
  ·exact⟨_,e1,λ v z=>by cases z⟩
  ·exact⟨_,e2,λ v z=>by cases z⟩
  ·exact⟨_,e3,λ v z=>by cases z⟩
  ·obtain⟨o,fs,e,d⟩:=e4.obj;exact⟨o,e,λ v z=>by rw [d] at z;cases z⟩
  ·obtain⟨o,fs,e,d⟩:=e5.obj;exact⟨o,e,λ v z=>by rw [d] at z;cases z⟩
 keep:=λ i h h' st k=>by
  obtain⟨e1,e2,⟨u,v,e3⟩,e4,e5⟩:=st;exact⟨k z (by simp) _ e1,k TI (by simp) _ e2,⟨u,v,k TO (by simp) _ e3⟩,e4.at λ o e=>k p (by simp) o e,e5.at λ o e=>k q (by simp) o e⟩
 item:=by
  intro X hP hw hK hc i pins s σ H E I hf st hg;subst hP hw hK;obtain⟨e1,e2,⟨u0,v0,e3⟩,e4,e5⟩:=st;obtain⟨ha,hb,l1,l2⟩:=hg;obtain⟨as,ra,sa⟩:=I.sq ha;obtain⟨bs,rb,sb⟩:=I.sq hb;have hx:xs[i]? = some xs[i]:=JJ l1;have hy:ys[i]? = some ys[i]:=JJ l2;obtain⟨u,hu,ru⟩:=ra.get hx;obtain⟨v,hv,rv⟩:=rb.get hy;have free:∀ c∈[z,TI,TO,p,q],H c=none:=λ c h=>(hf c h).1;have naz:∀ c∈[z,TI,TO,p,q],a ≠ c:=λ c h=>ha.ne (free c h);have nbz:∀ c∈[z,TI,TO,p,q],b ≠ c:=λ c h=>hb.ne (free c h);simp only [Kn,J9,Kp,KR,not_or,not_false_eq_true,and_true,L8] at nd;obtain⟨⟨z1,z2,z3,z4⟩,⟨t1,t2,t3⟩,⟨w1,w2⟩,y1⟩:=nd;have S:=oz (prog:=X.prog) (w:=X.w) ka p a (naz p (by simp)) as.toArray;have T:=oz (prog:=X.prog) (w:=X.w) kb q b (nbz q (by simp)) bs.toArray;have D:jh z TI TO p q [p,a] [q,b]:=⟨⟨Kh z1,t1,t2,t3⟩,z2,by simp [z3,Kh (naz z (by simp))],by simp [z4,Kh (nbz z (by simp))],by simp [w1,Kh (naz TO (by simp))],by simp [w2,Kh (nbz TO (by simp))],by simp [y1,Kh (nbz p (by simp))],by simp [Kh y1,Kh (naz q (by simp))]⟩;refine iW S T D e1 e2 e3 ⟨e4,sa⟩ ⟨e5,sb⟩ (x:=u) (y:=v) (by simpa using hu) (by simpa using hv) λ h1 c1 c2 c3 c4 c5 c6 c7=>?_;refine⟨_,rfl,wpAny_letOwnedTupleGo_zip (s:={ s with heap:=h1 }) c1 λ h2 d1 d2=>?_⟩;have lt:z < s.heap.objs.size:=JS e1;have kp:∀ c o,c ∉ [z,TO,p,q]->s.heap.get? c=some o->h2.get? c=some o:=λ c o hc e=>d2.extBut _ _ (λ q=>hc (by simp [q])) (c7 c o hc e);have hn:h2.get? s.heap.objs.size=some { cls:=.type "tuple",data:=.seq #[u,v] }:=d2.extBut _ _ (LY lt) c5;have I2:Inv X pins σ (upd H s.heap.objs.size (.tup [xs[i],ys[i]])) { s with heap:=h2 }:=I.turnNew (t':=s.toks) (ch:=[z,TO,p,q]) (λ c hc=>hf c (by simp only [J9,Kp,KR] at hc ⊢;rcases hc with h|h|h|h<;>simp [h])) kp (JO _) ⟨(show 2<=sizeLine by decide),[u,v],.cons ru (.cons rv .nil),⟨_,hn,rfl,_,rfl⟩⟩;have fr:H s.heap.objs.size=none:=I.hok.fresh (JO _);refine⟨.ref s.heap.objs.size,_,I2,rfl,⟨_,_,_,fr,rfl,hx,hy,rfl⟩,⟨d1,d2.extBut _ _ (Kh z1) (c7 TI _ (by simp [Kh z1,t1,t2,t3]) e2),⟨u,v,d2.extBut _ _ (Kh z2) c2⟩,c3.1.at λ o e=>d2.extBut _ _ (Kh z3) e,c4.1.at λ o e=>d2.extBut _ _ (Kh z4) e⟩,λ c hc=>?_⟩
  obtain⟨o,ho,_⟩:∃ o,s.heap.get? c=some o/\True:=by
   simp only [J9,Kp,KR] at hc
   rcases hc with rfl|rfl|rfl|rfl|rfl
   ·exact⟨_,e1,trivial⟩
   ·exact⟨_,e2,trivial⟩
   ·exact⟨_,e3,trivial⟩
   ·obtain⟨o,_,e,_⟩:=e4.obj;exact⟨o,e,trivial⟩
   ·obtain⟨o,_,e,_⟩:=e5.obj;exact⟨o,e,trivial⟩
  rw [ah (J2 (JS ho))];exact free c hc
 done:=by
  intro X hP hw hK hc i pins s σ H E I hf st hg;subst hP hw hK;obtain⟨e1,e2,⟨u0,v0,e3⟩,e4,e5⟩:=st;obtain⟨ha,hb,l⟩:=hg;obtain⟨as,ra,sa⟩:=I.sq ha;obtain⟨bs,rb,sb⟩:=I.sq hb;have free:∀ c∈[z,TI,TO,p,q],H c=none:=λ c h=>(hf c h).1;have naz:∀ c∈[z,TI,TO,p,q],a ≠ c:=λ c h=>ha.ne (free c h);have nbz:∀ c∈[z,TI,TO,p,q],b ≠ c:=λ c h=>hb.ne (free c h);simp only [Kn,J9,Kp,KR,not_or,not_false_eq_true,and_true,L8] at nd;obtain⟨⟨z1,z2,z3,z4⟩,⟨t1,t2,t3⟩,⟨w1,w2⟩,y1⟩:=nd;have S:=oz (prog:=X.prog) (w:=X.w) ka p a (naz p (by simp)) as.toArray;have T:=oz (prog:=X.prog) (w:=X.w) kb q b (nbz q (by simp)) bs.toArray;have D:jh z TI TO p q [p,a] [q,b]:=⟨⟨Kh z1,t1,t2,t3⟩,z2,by simp [z3,Kh (naz z (by simp))],by simp [z4,Kh (nbz z (by simp))],by simp [w1,Kh (naz TO (by simp))],by simp [w2,Kh (nbz TO (by simp))],by simp [y1,Kh (nbz p (by simp))],by simp [Kh y1,Kh (naz q (by simp))]⟩;have la:=ra.length;have lb:=rb.length;refine kC (I.ok.hd hc) S T D e1 e2 e3 ⟨e4,sa⟩ ⟨e5,sb⟩ (l.imp (λ h=>by simp;omega) λ h=>by simp;omega) λ h1 kp=>⟨rfl,I.turnL (t':=s.toks) (ch:=[z,TO,p,q]) (λ c hc=>hf c (by simp only [J9,Kp,KR] at hc ⊢;rcases hc with h|h|h|h<;>simp [h])) kp⟩
 self:=λ _ _ _ _ _ st h=>wpAny_pyIter_zip st.1 h
def kZ2(ka:Bool)(a b:Addr)(xs:List V)(H:Hp)(R:It->Hp->Prop):HO->Prop:=λ o=>match o with
 | .lst ys=>R (Itz ka false a b xs ys) H
 | .tup ys=>R (Itz ka true a b xs ys) H
 | _=>False
theorem Bv(ka:Bool)(a b:Addr)(xs ys:List V)(H:Hp)(R:It->Hp->Prop):kZ2 ka a b xs H R (.lst ys)=R (Itz ka false a b xs ys) H:=rfl
def kZ1(a b:Addr)(H:Hp)(R:It->Hp->Prop):HO->Prop:=λ o=>match o with
 | .lst xs=>aP (H b) (kZ2 false a b xs H R)
 | .tup xs=>aP (H b) (kZ2 true a b xs H R)
 | _=>False
theorem By(a b:Addr)(xs:List V)(H:Hp)(R:It->Hp->Prop):kZ1 a b H R (.lst xs)=aP (H b) (kZ2 false a b xs H R):=rfl
theorem Bw(a b:Addr)(xs:List V)(H:Hp)(R:It->Hp->Prop):kZ1 a b H R (.tup xs)=aP (H b) (kZ2 true a b xs H R):=rfl
def kZ0(R:It->Hp->Prop):List V->Hp->Prop:=λ vs H=>match vs with
 | [.ref a,.ref b]=>aP (H a) (kZ1 a b H R)
 | _=>False
theorem Ht(R:It->Hp->Prop)(a b:Addr)(H:Hp):kZ0 R [.ref a,.ref b] H=aP (H a) (kZ1 a b H R):=rfl
def IV(ta:TA):TI:=λ σ H R=>ta σ H (kZ0 R)
theorem Fo(ta:TA)(σ:St)(H:Hp)(R:It->Hp->Prop):IV ta σ H R=ta σ H (kZ0 R):=rfl
theorem FA{R:It->Hp->Prop}{vs:List V}{H:Hp}(h:kZ0 R vs H):∃ a b ka kb xs ys,vs=[.ref a,.ref b]/\SqK ka H a xs/\SqK kb H b ys/\R (Itz ka kb a b xs ys) H:=by
 unfold kZ0 at h;split at h
 ·rename_i a b;obtain⟨o,e,h⟩:=au h;unfold kZ1 at h;split at h
  ·rename_i xs;obtain⟨o',e',h⟩:=au h;unfold kZ2 at h;split at h
   ·exact⟨a,b,false,false,xs,_,rfl,e,e',h⟩
   ·exact⟨a,b,false,true,xs,_,rfl,e,e',h⟩
   ·exact h.elim
  ·rename_i xs;obtain⟨o',e',h⟩:=au h;unfold kZ2 at h;split at h
   ·exact⟨a,b,true,false,xs,_,rfl,e,e',h⟩
   ·exact⟨a,b,true,true,xs,_,rfl,e,e',h⟩
   ·exact h.elim
  ·exact h.elim
 ·exact h.elim
section
variable {X:Cx}
theorem DT{a b:Expr}{elts:List Expr}{x1}{tp:Pos}{ta:TA}{p pos:Pos}(hg:Gl X "zip")(hm:X.mg "zip"=none)(ha:PA X [a,b] ta)(hs:starEach [a,b] X.env=[(false,eval a X.env),(false,eval b X.env)]:=by rfl)(hs2:starEach [b] X.env=[(false,eval b X.env)]:=by rfl) :
  PI X (.Tuple elts x1 tp) (.Call (.Name "zip" p) [a,b] [] pos) (IV ta):=by
 intro pins s σ H R I h;refine Call_ (gL I hg hm (show bootBuiltins "zip"=some (.type "zip") by decide +kernel) (KU (thn (ha pos pins s σ H _ I h) λ us s1 ⟨vs,H1,I1,r1,q1⟩=>?_) (by rw [hs,hs2]) (by rw [hs2];rfl)));obtain⟨a,b,ka,kb,xs,ys,rfl,sa,sb,q⟩:=FA q1
 cases r1 with
 | cons r rr=>
  cases rr with
  | cons r' rr=>
   cases rr;cases r;cases r';obtain⟨as,ra,s1a⟩:=I1.sq sa;obtain⟨bs,rb,s1b⟩:=I1.sq sb;refine Co s1a s1b λ h' n hn e1 e2 e3 e4 e5 e6 e7=>?_;have I2:Inv X pins σ H1 { s1 with heap:=h' }:=I1.kept (t':=s1.toks) e7;refine wpAny_pyIter_zip (s:={ s1 with heap:=h' }) e1 ⟨n+4,[n+4,n+2,n+3,n,n+1],_,_,H1,rfl,I2,wV ka kb a b (n+4) (n+2) (n+3) n (n+1) xs ys (by simp),⟨e1,e2,⟨_,_,e3⟩,e4,e5⟩,λ c hc=>?_,q⟩
   have hle:s1.heap.objs.size<=c:=by
    rw [←hn];simp only [J9,Kp,KR] at hc
    rcases hc with rfl|rfl|rfl|rfl|rfl
    ·exact Lr ..
    ·exact Lr ..
    ·exact Lr ..
    ·exact JO _
    ·exact Lr ..
   exact I1.fpOk hle (I1.hok.fresh hle)
end
def CL(te:TE)(σ2:St)(N1:VK)(N0:Hp->Prop):Bool->Hp->Prop:=λ b H=>if b=true then te σ2 H N1 else N0 H
theorem aN(te:TE)(σ2:St)(N1:VK)(N0:Hp->Prop)(b:Bool)(H:Hp):CL te σ2 N1 N0 b H=(if b=true then te σ2 H N1 else N0 H):=rfl
def kCm(k:Nat)(tt:TT)(te:TE)(σ:St)(N1:VK)(N0:Hp->Prop):St->Hp->Prop:=λ σ2 H=>(∃ vs:St,vs.length=k/\σ2=vs++σ)/\tt σ2 H (CL te σ2 N1 N0)
theorem bE(tt:TT)(te:TE)(σ:St)(N1:VK)(N0:Hp->Prop)(a:Option V)(H:Hp):kCm 1 tt te σ N1 N0 (a::σ) H=tt (a::σ) H (CL te (a::σ) N1 N0):=propext ⟨λ h=>h.2,λ h=>⟨⟨[a],rfl,rfl⟩,h⟩⟩
theorem bM(tt:TT)(te:TE)(σ:St)(N1:VK)(N0:Hp->Prop)(a b:Option V)(H:Hp):kCm 2 tt te σ N1 N0 (a::b::σ) H=tt (a::b::σ) H (CL te (a::b::σ) N1 N0):=propext ⟨λ h=>h.2,λ h=>⟨⟨[a,b],rfl,rfl⟩,h⟩⟩
theorem Bj(σ:St):List.replicate 1 (none:Option V)++σ=none::σ:=rfl
theorem Bi(σ:St):List.replicate 2 (none:Option V)++σ=none::none::σ:=rfl
theorem Bh(σ:St):List.replicate 3 (none:Option V)++σ=none::none::none::σ:=rfl
theorem tX(tt:TT)(te:TE)(σ:St)(N1:VK)(N0:Hp->Prop)(a b c:Option V)(H:Hp):kCm 3 tt te σ N1 N0 (a::b::c::σ) H=tt (a::b::c::σ) H (CL te (a::b::c::σ) N1 N0):=propext ⟨λ h=>h.2,λ h=>⟨⟨[a,b,c],rfl,rfl⟩,h⟩⟩
def Al{α:Type}(R:α->V->Prop)(zs:List α)(ys:List V):Prop:=ys.length=zs.length/\∀ (i:Nat) z y,zs[i]? = some z->ys[i]? = some y->R z y
theorem Al.nil{α:Type}{R:α->V->Prop}:Al R [] []:=⟨rfl,λ i z y h=>by simp at h⟩
theorem Al.snoc{α:Type}{R:α->V->Prop}{zs:List α}{ys:List V}{z:α}{y:V}(h:Al R zs ys)(r:R z y):Al R (zs++[z]) (ys++[y]):=by
 refine⟨by simp [h.1],λ i z' y' h1 h2=>?_⟩
 by_cases hi:i < zs.length
 ·rw [Kr hi] at h1;rw [Kr (by rw [h.1];exact hi)] at h2;exact h.2 i z' y' h1 h2
 ·rw [Ka (by omega)] at h1;rw [Ka (by rw [h.1];omega),h.1] at h2
  by_cases h0:i - zs.length=0
  ·rw [h0] at h1 h2;simp at h1 h2;subst h1;subst h2;exact r
  ·rw [KW (by simp;omega)] at h1;cases h1
theorem Al.imp{α:Type}{R S:α->V->Prop}{zs:List α}{ys:List V}(h:Al R zs ys)(f:∀ z y,R z y->S z y):Al S zs ys:=⟨h.1,λ i z y a b=>f z y (h.2 i z y a b)⟩
theorem Al.map{α:Type}{f:α->V}{zs:List α}{ys:List V}(h:Al (λ z y=>y=f z) zs ys):ys=zs.map f:=by
 apply List.ext_getElem?;intro i;rw [J5]
 by_cases hi:i < zs.length
 ·have e1:zs[i]? = some zs[i]:=JJ hi;have e2:ys[i]? = some (ys[i]'(by rw [h.1];exact hi)):=JJ _;rw [e1,e2,h.2 i _ _ e1 e2];rfl
 ·have:=h.1;rw [KW (show ys.length<=i by omega),KW (show zs.length<=i by omega)];rfl
section
variable {k:Nat}{g:TG}{tt:TT}{te:TE}{σ:St}{Q:VK}{H:Hp}{K:PySem.W.Frag}
theorem pI{α:Type}{J:It}(zs:List α)(c:α->Bool)(P:α->V->Hp->Prop)(R:Addr->α->V->Hp->Prop)
  (hgo:∀ i z H',zs[i]? = some z->Ext H H'->J.go i H'/\∀ x H'',J.yld i H' x H''->Ext H' H''/\P z x H'')
  (hst:∀ H',Ext H H'->J.stop zs.length H')
  (hR1:∀ D z y H1 H2,R D z y H1->Ext H1 H2->R D z y H2) (hR2:∀ D z y H1 o,R D z y H1->R D z y (upd H1 D o))
  (hl:zs.length<=sizeLine)
  (hs:∀ D z x H' N1 N0,z∈zs->H D=none->Ext H H'->(∃ ys,H' D=some (.lst ys))->P z x H'->(c z=true->∀ y H'',Ext H' H''->R D z y H''->N1 y H'')->(c z=false->∀ H'',Ext H' H''->N0 H'')->g x (List.replicate k none++σ) H' (kCm k tt te σ N1 N0))
  (hd:∀ D ys H',H D=none->Ext H H'->H' D=some (.lst ys)->Al (λ z y=>R D z y H') (zs.filter c) ys->Q (.ref D) H'):wH k g tt te σ Q J H:=by
 intro D hD;refine⟨λ i m ys H'=>m=zs.length - i/\i<=zs.length/\Ext H H'/\H' D=some (.lst ys)/\Al (λ z y=>R D z y H') ((zs.take i).filter c) ys,⟨zs.length,by simp,Kz _,Ext.new hD,ai,by simpa using Al.nil⟩,?_⟩;rintro i m ys H' ⟨rfl,hi,e,hD',al⟩
 by_cases hlt:i < zs.length
 ·have hz:zs[i]? = some zs[i]:=JJ hlt;obtain⟨go,y⟩:=hgo i zs[i] H' hz e;have tk:zs.take (i+1)=zs.take i++[zs[i]]:=by rw [List.take_succ,hz];rfl
  have ln:ys.length < sizeLine:=by
   have h1:=al.1;have h2:=List.length_filter_le c (zs.take i);simp only [KN] at h2;omega
  refine .inr ⟨go,λ ys' H2=>Ext H H2/\H2 D=some (.lst ys')/\Al (λ z y=>R D z y H2) ((zs.take (i+1)).filter c) ys',λ ys' H2 p=>⟨zs.length - (i+1),by omega,rfl,hlt,p⟩,λ x H2 z=>?_⟩;obtain⟨e2,p2⟩:=y x H2 z;refine hs D zs[i] x H2 (kC3 D ys _) _ (KQ hlt) hD (e.trans e2) ⟨ys,e2.at hD'⟩ p2 (λ hc y H3 e3 r3=>?_) λ hc H3 e3=>?_
  ·refine⟨e3.at (e2.at hD'),ln,(e.trans (e2.trans e3)).put hD,ai,?_⟩;rw [tk,LA,show [zs[i]].filter c=[zs[i]] by simp [hc]];exact Al.snoc (al.imp λ z y r=>hR2 _ _ _ _ _ (hR1 _ _ _ _ _ r (e2.trans e3))) (hR2 _ _ _ _ _ r3)
  ·refine⟨e.trans (e2.trans e3),(e2.trans e3).at hD',?_⟩;rw [tk,LA,show [zs[i]].filter c=[] by simp [hc],K5];exact al.imp λ z y r=>hR1 _ _ _ _ _ r (e2.trans e3)
 ·have e':i=zs.length:=by omega
  subst e';rw [Lk] at al;exact .inl ⟨hst H' e,hd D ys H' hD e hD' al⟩
theorem bc{α:Type}{J:It}(zs:List α)(c:α->Bool)(f:α->V)(P:α->V->Hp->Prop)
  (hgo:∀ i z H',zs[i]? = some z->Ext H H'->J.go i H'/\∀ x H'',J.yld i H' x H''->Ext H' H''/\P z x H'')
  (hst:∀ H',Ext H H'->J.stop zs.length H') (hl:zs.length<=sizeLine)
  (hs:∀ D z x H' N1 N0,z∈zs->H D=none->Ext H H'->P z x H'->(c z=true->∀ H'',Ext H' H''->N1 (f z) H'')->(c z=false->∀ H'',Ext H' H''->N0 H'')->g x (List.replicate k none++σ) H' (kCm k tt te σ N1 N0))
  (hd:∀ D H',H D=none->Ext H H'->H' D=some (.lst ((zs.filter c).map f))->Q (.ref D) H'):wH k g tt te σ Q J H:=
 pI zs c P (λ _ z y _=>y=f z) hgo hst (λ _ _ _ _ _ r _=>r) (λ _ _ _ _ _ r=>r) hl (λ D z x H' N1 N0 hz hD e _ p k1 k0=>hs D z x H' N1 N0 hz hD e p (λ hc H'' e'=>k1 hc _ H'' e' rfl) k0) λ D ys H' hD e hD' al=>hd D H' hD e (by rw [←al.map];exact hD')
theorem jb{lo:Int}{n:Nat}:(∀ i z H',(List.range n)[i]? = some z->Ext H H'->(Itr lo n).go i H'/\∀ x H'',(Itr lo n).yld i H' x H''->Ext H' H''/\x=.int (lo+(z:Nat)))/\∀ H',Ext H H'->(Itr lo n).stop (List.range n).length H':=by
 refine⟨λ i z H' hz _=>?_,λ H' _=>by simp [Itr]⟩;obtain⟨h1,h2⟩:=JM.mp hz;have e:i=z:=by simpa using h2
 subst e;exact⟨(show i < n by simpa using h1),λ x H'' y=>⟨by rw [y.1];exact Ext.refl _,y.2⟩⟩
theorem ow{a:Addr}{xs:List V}(h:H a=some (.lst xs)):(∀ i z H',xs[i]? = some z->Ext H H'->(Itl K a).go i H'/\∀ x H'',(Itl K a).yld i H' x H''->Ext H' H''/\(x=z/\H'' a=some (.lst xs)))/\∀ H',Ext H H'->(Itl K a).stop xs.length H':=
 ⟨λ i z H' hz e=>⟨⟨xs,z,SqL.of (e.at h),hz⟩,λ x H'' y=>⟨by rw [y.1];exact Ext.refl _,Kj ((y.2 xs (SqL.of (e.at h))).symm.trans hz),by rw [y.1];exact e.at h⟩⟩,λ H' e=>⟨xs,SqL.of (e.at h),JO _⟩⟩
theorem Dz{a:Addr}{xs:List V}(h:H a=some (.tup xs)):(∀ i z H',xs[i]? = some z->Ext H H'->(Itt K a).go i H'/\∀ x H'',(Itt K a).yld i H' x H''->Ext H' H''/\(x=z/\H'' a=some (.tup xs)))/\∀ H',Ext H H'->(Itt K a).stop xs.length H':=
 ⟨λ i z H' hz e=>⟨⟨xs,z,SqT.of (e.at h),hz⟩,λ x H'' y=>⟨by rw [y.1];exact Ext.refl _,Kj ((y.2 xs (SqT.of (e.at h))).symm.trans hz),by rw [y.1];exact e.at h⟩⟩,λ H' e=>⟨xs,SqT.of (e.at h),JO _⟩⟩
theorem SqK.ext{kk:Bool}{H H':Hp}{a:Addr}{xs:List V}(h:SqK kk H a xs)(e:Ext H H'):SqK kk H' a xs:=by
 cases kk
 ·exact e.at (show H a=some (.lst xs) from h)
 ·exact e.at (show H a=some (.tup xs) from h)
def Jj(z:V × V)(x:V)(H:Hp):Prop:=∃ p,x=.ref p/\H p=some (.tup [z.1,z.2])
theorem yX{ka kb:Bool}{a b:Addr}{xs ys:List V}(ha:SqK ka H a xs)(hb:SqK kb H b ys):(∀ i z H',(xs.zip ys)[i]? = some z->Ext H H'->(Itz ka kb a b xs ys).go i H'/\∀ x H'',(Itz ka kb a b xs ys).yld i H' x H''->Ext H' H''/\Jj z x H'')/\∀ H',Ext H H'->(Itz ka kb a b xs ys).stop (xs.zip ys).length H':=by
 refine⟨λ i z H' hz e=>?_,λ H' e=>⟨ha.ext e,hb.ext e,?_⟩⟩
 ·obtain⟨h1,h2⟩:=JM.mp hz;rw [KI] at h1;refine⟨⟨ha.ext e,hb.ext e,by omega,by omega⟩,λ x H'' y=>?_⟩;obtain⟨p,u,v,hp,rfl,hu,hv,rfl⟩:=y;refine⟨Ext.new hp,p,rfl,?_⟩;rw [ai];rw [JJ (by omega)] at hu hv;cases hu;cases hv;rw [←h2,Mv]
 ·rw [KI];omega
theorem ud{tb:TS}{nx:St->Hp->Prop}{rt:VK}{bk ct:St->Hp->Prop}{ka kb:Bool}{a b:Addr}{xs ys:List V}(Pv:Nat->St->Hp->Prop)(h0:Pv 0 σ H)(hl:∀ i σ H,Pv i σ H->SqK ka H a xs/\SqK kb H b ys)
  (hs:∀ i u v p σ H H',xs[i]? = some u->ys[i]? = some v->Pv i σ H->H p=none->Ext H H'->H' p=some (.tup [u,v])->g (.ref p) σ H' (si tb ⟨Pv (i+1),rt,nx,Pv (i+1)⟩)) (hd:∀ σ H,Pv (min xs.length ys.length) σ H->nx σ H):CJ g tb ⟨nx,rt,bk,ct⟩ σ (Itz ka kb a b xs ys) H:=by
 refine⟨λ i m σ H=>m=min xs.length ys.length - i/\i<=min xs.length ys.length/\Pv i σ H,⟨min xs.length ys.length,by simp,Kz _,h0⟩,?_⟩;rintro i m σ H ⟨rfl,hi,p⟩;obtain⟨qa,qb⟩:=hl i σ H p
 by_cases hlt:i < min xs.length ys.length
 ·refine .inr ⟨⟨qa,qb,by omega,by omega⟩,Pv (i+1),λ σ' H' p'=>⟨min xs.length ys.length - (i+1),by omega,rfl,hlt,p'⟩,λ x H' y=>?_⟩;obtain⟨r,u,v,hr,rfl,hu,hv,rfl⟩:=y;exact hs i u v r σ H _ hu hv p hr (Ext.new hr) ai
 ·have e:i=min xs.length ys.length:=by omega
  subst e;exact .inl ⟨⟨qa,qb,by omega⟩,hd σ H p⟩
end
def Dv(sc:Scope)(N:List Str)(scope:Scope)(N':List Str)(k:Nat):Bool:=
 scope.names.all (λ y=>!(y.2 == .cell)) && (scope.kind == .function) && scope.names.all (λ y=>!(y.2 == .local) || scope.names.lookup y.1 == some .local) && scope.names.all (λ y=>!(y.2 == .free) || sc.names.lookup y.1 == some .cell) && decide (N'.length=k+N.length) &&
  ((N'.drop k).zip N).all (λ p=>(!(scope.names.lookup p.1 == some .free) || decide (p.1=p.2)) && !(scope.names.lookup p.1 == some .local))
theorem aG{X:Cx}{scope:Scope}{N':List Str}{k:Nat}(sc:Scope)(N:List Str)(h1:X.env.scope=sc)(h2:X.N=N)(h:Dv sc N scope N' k=true):gN X scope N' k:=by
 unfold Dv at h;simp only [Bool.and_eq_true,decide_eq_true_eq] at h;obtain⟨⟨⟨⟨⟨a1,a2⟩,a3⟩,a4⟩,a5⟩,a6⟩:=h;rw [List.all_eq_true] at a1 a3 a4 a6
 have pr:∀ i x,N'[k+i]? = some x->∃ y,N[i]? = some y/\(x,y)∈(N'.drop k).zip N:=λ i x hx=>by
  have h0:=(JM.mp hx).1;have hi:i < N.length:=by omega
  have e1:(N'.drop k)[i]? = some x:=by rw [List.getElem?_drop];exact hx
  have e2:N[i]? = some N[i]:=JJ hi;refine⟨_,e2,K1 (i:=i) ?_⟩;rw [Kt];exact⟨e1,e2⟩
 refine⟨λ y hy e=>?_,by simpa using a2,λ y hy e=>?_,λ y hy e=>?_,by rw [h2];exact a5,λ i x hx hf=>?_,λ i x hx hf=>?_⟩
 ·have:=a1 y hy;rw [e] at this;simp at this
 ·have:=a3 y hy;rw [e] at this;simpa using this
 ·have:=a4 y hy;rw [e] at this;rw [h1];simpa using this
 ·obtain⟨y,hy,hm⟩:=pr i x hx;have:=a6 _ hm;simp only [hf] at this;rw [h2,hy];simp at this;rw [this]
 ·obtain⟨y,hy,hm⟩:=pr i x hx;have:=a6 _ hm;simp [hf] at this
def Ae(H:Hp)(Q:VK):V->Prop:=λ v=>Q v H
theorem BM(H:Hp)(Q:VK)(v:V):Ae H Q v=Q v H:=rfl
def wG(K:W.Frag)(f:Str)(H:Hp)(Q:VK):HO->Prop:=λ o=>match o with
 | .ins C dx fs=>Cls K C/\dC K C f/\aP (fs.lookup f) (Ae H Q)
 | _=>False
theorem BN(K:W.Frag)(f:Str)(H:Hp)(Q:VK)(C dx:Addr)(fs:List (Str × V)):wG K f H Q (.ins C dx fs)=(Cls K C/\dC K C f/\aP (fs.lookup f) (Ae H Q)):=rfl
def CK(K:W.Frag)(f:Str)(Q:VK):VK:=λ x H=>match x with
 | .ref a=>aP (H a) (wG K f H Q)
 | _=>False
theorem E5(K:W.Frag)(f:Str)(Q:VK)(a:Addr)(H:Hp):CK K f Q (.ref a) H=aP (H a) (wG K f H Q):=rfl
def Iu(K:W.Frag)(ta:TE)(f:Str):TE:=λ σ H Q=>ta σ H (CK K f Q)
theorem EK(K:W.Frag)(ta:TE)(f:Str)(σ:St)(H:Hp)(Q:VK):Iu K ta f σ H Q=ta σ H (CK K f Q):=rfl
theorem B5{K:W.Frag}{f:Str}{Q:VK}{x:V}{H:Hp}(h:CK K f Q x H):∃ a C dx fs v,x=.ref a/\H a=some (.ins C dx fs)/\Cls K C/\dC K C f/\fs.lookup f=some v/\Q v H:=by
 unfold CK at h;split at h
 ·obtain⟨o,e,h⟩:=au h;unfold wG at h;split at h
  ·obtain⟨c,n,h⟩:=h;obtain⟨v,l,q⟩:=au h;exact⟨_,_,_,_,v,rfl,e,c,n,l,q⟩
  ·exact h.elim
 ·exact h.elim
section
variable {X:Cx}{e o value:Expr}{ta tv:TE}{f:Str}{pos pos':Pos}
theorem AQ(he:PE X e ta)(hb:attributeBase e f X.env (eval e X.env)=eval e X.env):PE X (.Attribute e f pos) (Iu X.K ta f):=by
 intro pins s σ H Q I h;refine Cs hb (thn (he pins s σ H _ I h) λ u s1 ⟨x,H1,I1,rx,q1⟩=>?_);obtain⟨a,C,dx,fs,v,ex,ea,c,n,l,q⟩:=B5 q1;subst ex;obtain rfl:u=Value.ref a:=rx;exact qT I1 ea c n l λ u' s2 I2 ru=>⟨v,H1,I2,ru,q⟩
def wD(K:W.Frag)(f:Str)(y:V)(a:Addr)(σ:St)(nx:St->Hp->Prop)(H:Hp):HO->Prop:=λ o=>match o with
 | .ins C dx fs=>Cls K C/\dC K C f/\fs.length < 1000/\nx σ (upd H a (.ins C dx (dZ f y fs)))
 | _=>False
theorem BA(K:W.Frag)(f:Str)(y:V)(a:Addr)(σ:St)(nx:St->Hp->Prop)(H:Hp)(C dx:Addr)(fs:List (Str × V)):wD K f y a σ nx H (.ins C dx fs)=(Cls K C/\dC K C f/\fs.length < 1000/\nx σ (upd H a (.ins C dx (dZ f y fs)))):=rfl
def wF(K:W.Frag)(f:Str)(y:V)(σ:St)(nx:St->Hp->Prop):VK:=λ x H=>match x with
 | .ref a=>aP (H a) (wD K f y a σ nx H)
 | _=>False
theorem BC(K:W.Frag)(f:Str)(y:V)(σ:St)(nx:St->Hp->Prop)(a:Addr)(H:Hp):wF K f y σ nx (.ref a) H=aP (H a) (wD K f y a σ nx H):=rfl
def zZ(K:W.Frag)(f:Str)(ta:TE)(σ:St)(nx:St->Hp->Prop):VK:=λ y H=>ta σ H (wF K f y σ nx)
theorem BD(K:W.Frag)(f:Str)(ta:TE)(σ:St)(nx:St->Hp->Prop)(y:V)(H:Hp):zZ K f ta σ nx y H=ta σ H (wF K f y σ nx):=rfl
def Dg(K:W.Frag)(ta tv:TE)(f:Str):TS:=λ D σ H=>tv σ H (zZ K f ta σ D.nx)
theorem Bm(K:W.Frag)(ta tv:TE)(f:Str)(nx:St->Hp->Prop)(rt:VK)(bk ct:St->Hp->Prop)(σ:St)(H:Hp):Dg K ta tv f ⟨nx,rt,bk,ct⟩ σ H=tv σ H (zZ K f ta σ nx):=rfl
theorem kf(ha:PE X o ta)(hv:PE X value tv)(hs:swapsWith value (some (.Attribute o f pos')) pos.line X.env=pure false):PS X (.Assign [.Attribute o f pos'] value pos) (Dg X.K ta tv f):=by
 intro pins s σ H D I h;refine plainObj_wpAny_Assign_Attribute (thn (hv pins s σ H _ I h) λ u s1 ⟨y,H1,I1,ry,q⟩=>thn (ha pins s1 σ H1 _ I1 q) λ ov s2 ⟨x,H2,I2,rx,q1⟩=>?_) hs;unfold wF at q1;split at q1
 ·rename_i a;obtain rfl:ov=Value.ref a:=rx;obtain⟨ob,ea,q1⟩:=au q1;unfold wD at q1;split at q1
  ·obtain⟨c,n,l,q2⟩:=q1;exact qh I2 ea c n l ry λ s3 I3=>⟨σ,_,I3,q2⟩
  ·exact q1.elim
 ·exact q1.elim
end
def tG(sp:Sp)(dvs:List V)(E:XK)(a:Addr)(Q:VK):List V->Hp->Prop:=λ vs H=>sp (.ref a::(vs++dvs)) H Q E
theorem qC(sp:Sp)(dvs:List V)(E:XK)(a:Addr)(Q:VK)(H:Hp):tG sp dvs E a Q [] H=sp (.ref a::dvs) H Q E:=rfl
def oN(C:Addr)(m:Str)(sp:Sp)(dvs:List V)(E:XK)(t:TA)(σ:St)(Q:VK)(a:Addr)(H:Hp):HO->Prop:=λ o=>match o with
 | .ins C' dx fs=>C'=C/\fs.lookup m=none/\t σ H (tG sp dvs E a Q)
 | _=>False
theorem xA(C:Addr)(m:Str)(sp:Sp)(dvs:List V)(E:XK)(t:TA)(σ:St)(Q:VK)(a:Addr)(H:Hp)(dx:Addr)(fs:List (Str × V)):oN C m sp dvs E t σ Q a H (.ins C dx fs)=(fs.lookup m=none/\t σ H (tG sp dvs E a Q)):=propext ⟨λ h=>h.2,λ h=>⟨rfl,h⟩⟩
def rY(C:Addr)(m:Str)(sp:Sp)(dvs:List V)(E:XK)(t:TA)(σ:St)(Q:VK):VK:=λ x H=>match x with
 | .ref a=>aP (H a) (oN C m sp dvs E t σ Q a H)
 | _=>False
theorem BJ(C:Addr)(m:Str)(sp:Sp)(dvs:List V)(E:XK)(t:TA)(σ:St)(Q:VK)(a:Addr)(H:Hp):rY C m sp dvs E t σ Q (.ref a) H=aP (H a) (oN C m sp dvs E t σ Q a H):=rfl
def Dh(C:Addr)(m:Str)(sp:Sp)(dvs:List V)(E:XK)(ta:TE)(t:TA):TE:=λ σ H Q=>ta σ H (rY C m sp dvs E t σ Q)
theorem Bp(C:Addr)(m:Str)(sp:Sp)(dvs:List V)(E:XK)(ta:TE)(t:TA)(σ:St)(H:Hp)(Q:VK):Dh C m sp dvs E ta t σ H Q=ta σ H (rY C m sp dvs E t σ Q):=rfl
theorem yc{C:Addr}{m:Str}{sp:Sp}{dvs:List V}{E:XK}{t:TA}{σ:St}{Q:VK}{x:V}{H:Hp}(h:rY C m sp dvs E t σ Q x H):∃ a dx fs,x=.ref a/\H a=some (.ins C dx fs)/\fs.lookup m=none/\t σ H λ vs H2=>sp (x::(vs++dvs)) H2 Q E:=by
 unfold rY at h;split at h
 ·obtain⟨o,e,h⟩:=au h;unfold oN at h;split at h
  ·obtain⟨rfl,l,h⟩:=h;exact⟨_,_,_,rfl,e,l,h⟩
  ·exact h.elim
 ·exact h.elim
section
variable {X:Cx}{CX:CXT}{k:Nat}{f C:Addr}{fd:FuncData}{ps:List Str}{sp:Sp}{dvs:List V}{ds:List Value}{E:XK}{x m:Str}{p pos apos:Pos}{e o:Expr}{es:List Expr}{ta:TE}{t:TA}
theorem ly{pl:Sem Bool}(he:PE X o ta)(c:Cls X.K C)(hm:zB X.K C m f)(F:bC X.prog X.w X.K X.mg X.base CX k f fd ps sp)(hr:gh k X.A)(hb:aB X.K fd ps ds)(hd:aU dvs ds)(hx:jg CX X E)
  (ht:eval (.Call (.Attribute o m apos) [] [] pos) X.env=(do
   let ov ←eval o X.env
   standAt apos.atName
   let (f,first) ←holding [ov] (getMethod ov m pl)
   callWith pos f first (backTo pos (starEach [] X.env)) (backToKw pos (keywordEach [] X.env))):=by rfl) :
  PE X (.Call (.Attribute o m apos) [] [] pos) (Dh C m sp dvs E ta CD):=by
 intro pins s σ H Q I h;refine W.methodCall_KW (pl:=pl) (thn (he pins s σ H _ I h) λ u s1 ⟨x,H1,I1,rx,q0⟩=>?_) ht;obtain⟨a,dx,fs,ex,ea,l,q⟩:=yc q0;subst ex;obtain rfl:u=Value.ref a:=rx;refine qS I1 ea c hm l ?_;exact W.callWith_K0 (first:=[.ref a]) I1.kIn hm.kp (y9 (us:=[.ref a]) (vs:=[.ref a]) F hr hb hd hx I1 (.cons rfl .nil) q)
end
def Ac(x:Addr)(Q:VK):VK:=λ v H=>v=.non/\Q (.ref x) H
theorem BK(x:Addr)(Q:VK)(H:Hp):Ac x Q .non H=Q (.ref x) H:=propext ⟨λ h=>h.2,λ h=>⟨rfl,h⟩⟩
def rZ(C:Addr)(sp:Sp)(dvs:List V)(E:XK)(Q:VK):List V->Hp->Prop:=λ vs H=>∀ (x dx:Addr) (H':Hp),H x=none->H dx=none->dx ≠ x->Ext H H'->H' x=some (.ins C dx [])->H' dx=some (.own x)->sp (.ref x::(vs++dvs)) H' (Ac x Q) E
theorem uS(C:Addr)(sp:Sp)(dvs:List V)(E:XK)(Q:VK)(a b c:V)(H:Hp):rZ C sp dvs E Q [a,b,c] H=∀ (x dx:Addr) (H':Hp),H x=none->H dx=none->dx ≠ x->Ext H H'->H' x=some (.ins C dx [])->H' dx=some (.own x)->sp (.ref x::a::b::c::dvs) H' (Ac x Q) E:=rfl
def Di(C:Addr)(sp:Sp)(dvs:List V)(E:XK)(t:TA):TE:=λ σ H Q=>t σ H (rZ C sp dvs E Q)
theorem Bq(C:Addr)(sp:Sp)(dvs:List V)(E:XK)(t:TA)(σ:St)(H:Hp)(Q:VK):Di C sp dvs E t σ H Q=t σ H (rZ C sp dvs E Q):=rfl
section
variable {X:Cx}{CX:CXT}{k:Nat}{f C:Addr}{fd:FuncData}{ps:List Str}{sp:Sp}{dvs:List V}{ds:List Value}{E:XK}{x m:Str}{p pos apos:Pos}{e o:Expr}{es:List Expr}{ta:TE}{t:TA}
theorem rZ.to{Q:VK}{vs:List V}{H:Hp}(h:rZ C sp dvs E Q vs H):∀ x dx,H x=none->H dx=none->dx ≠ x->sp (.ref x::(vs++dvs)) (upd (upd H dx (.own x)) x (.ins C dx [])) (λ v H2=>v=.non/\Q (.ref x) H2) E:=λ x dx hx hd ne=>
 h x dx _ hx hd ne ((Ext.new hd).put hx) ai (by rw [ah ne,ai])
theorem pe(M:Mk X.K C f)(F:bC X.prog X.w X.K X.mg X.base CX k f fd ps sp)(hr:gh (k+1) X.A)(hg:Gl X x)(hm:X.mg x=some (.ref C))(hb:aB X.K fd ps ds)(hd:aU dvs ds)(hx:jg CX X E)
  (ha:PA X (e::es) t) (hdb:(x == ("__debug__":Str))=false:=by decide) (he:starEach (e::es) X.env=(false,eval e X.env)::starEach es X.env:=by rfl) (hpl:(backTo pos (starEach es X.env)).any (·.1)=false:=by rfl) :
  PE X (.Call (.Name x p) (e::es) [] pos) (Di C sp dvs E t):=by
 intro pins s σ H Q I h;refine Lp (nv I hg hm ?_ hdb);refine W.callWith_K (h₀:=X.base) I.ok.mod.kin M.kp (thn (ha pos pins s σ H _ I h) λ us s1 ⟨vs,H1,I1,r,q⟩=>⟨I1.kIn,?_⟩) he hpl;exact w6 M F hr hb hd hx I1 r q.to
end
def tW:Expr->Bool
 | .Starred ..=>false
 | _=>true
theorem Az{e:Expr}{es:List Expr}{env:Env}(h:tW e=true):starEach (e::es) env=(false,eval e env)::starEach es env:=by
 cases e<;>first|rfl|cases h
theorem CH{X:Cx}{e:Expr}{es:List Expr}{te:TE}{t:TA}(ha:PE X e te)(hr:PA X es t)(hn:tW e=true:=by rfl):PA X (e::es) (rS te t):=AY ha hr (Az hn)
def zz(H:Hp)(z:List Int)(y:V):Prop:=∃ q,y=.ref q/\H q=some (.tup (z.map V.int))
theorem zz.ext{H H':Hp}{z:List Int}{y:V}(h:zz H z y)(e:Ext H H'):zz H' z y:=by
 obtain⟨q,rfl,hq⟩:=h;exact⟨q,rfl,e.at hq⟩
def dB(H:Hp)(p:Addr)(zs:List (List Int)):Prop:=∃ ys,H p=some (.lst ys)/\Al (zz H) zs ys
theorem dB.ext{H H':Hp}{p:Addr}{zs:List (List Int)}(h:dB H p zs)(e:Ext H H'):dB H' p zs:=by
 obtain⟨ys,hp,al⟩:=h;exact⟨ys,e.at hp,al.imp λ _ _ r=>r.ext e⟩
theorem oX{H:Hp}{f:V->Option PyData}:∀ {zs:List (List Int)}{ys:List V},Al (zz H) zs ys->aT (ys.map (eD H (eD H f)))=some (zs.map λ z=>PyData.tuple (z.map PyData.int))
 | [],ys,h=>by rw [List.eq_nil_of_length_eq_zero h.1];rfl
 | z::zs,[],h=>by have:=h.1;simp at this
 | z::zs,y::ys,h=>by
  obtain⟨q,rfl,hq⟩:=h.2 0 z y rfl rfl;have ih:=oX (H:=H) (f:=f) (zs:=zs) (ys:=ys) ⟨by have:=h.1;simpa using this,λ i z y a b=>h.2 (i+1) z y (by simpa using a) (by simpa using b)⟩
  have e1:eD H (eD H f) (.ref q)=some (.tuple (z.map PyData.int)):=by
   rw [fK,hq]
   show yS (eD H f) (.tup (z.map V.int))=_
   rw [fH,fX];rfl
  rw [Km,e1,cR,ih];rfl
theorem ay{n:Nat}(h:n<=5000):n<=sizeLine:=Ku h (by decide)
theorem fR{n:Nat}(h:n < 5000):n < sizeLine:=JY h (by decide)
def GG(xs:List V)(H:Hp)(Q:VK):List V->Prop:=λ ys=>xs.length+ys.length<=sizeLine/\∀ (p:Addr) (H':Hp),Ext H H'->H' p=some (.tup (xs++ys))->Q (.ref p) H'
theorem Dy(xs:List V)(H:Hp)(Q:VK)(ys:List V):GG xs H Q ys=(xs.length+ys.length<=sizeLine/\∀ (p:Addr) (H':Hp),Ext H H'->H' p=some (.tup (xs++ys))->Q (.ref p) H'):=rfl
def GH(b:Addr)(H:Hp)(Q:VK):List V->Prop:=λ xs=>aP (gD H b) (GG xs H Q)
theorem Fe(b:Addr)(H:Hp)(Q:VK)(xs:List V):GH b H Q xs=aP (gD H b) (GG xs H Q):=rfl
def zR:R2:=λ x y H Q=>match x,y with
 | .ref l,.ref b=>aP (gD H l) (GH b H Q)
 | _,_=>False
theorem Bt(l b:Addr)(H:Hp)(Q:VK):zR (.ref l) (.ref b) H Q=aP (gD H l) (GH b H Q):=rfl
theorem xo{X:Cx}:OpR X (binaryOp .Add) zR:=by
 intro pins s σ H x y v u Q I rx ry h;unfold zR at h;split at h
 ·rename_i l b;obtain⟨xs,e1,h⟩:=au h;obtain⟨ys,e2,hz,k⟩:=au h;have g1:=oy e1;have g2:=oy e2
  by_cases hx:xs=[]
  ·subst hx;cases rx;cases ry;obtain⟨its,r1,p1,_⟩:=I.tuple (SqT.of g1);obtain⟨its2,r2,p2,_⟩:=I.tuple (SqT.of g2);obtain⟨⟨cls,dd,data,sl⟩,ho,hc,n,hd⟩:=id p1;obtain⟨⟨cls2,dd2,data2,sl2⟩,ho2,hc2,n2,hd2⟩:=id p2;simp only at hc hd hc2 hd2;subst hc hd hc2 hd2;cases r1
   exact concat_meets ⟨_,ho,rfl⟩ ⟨_,ho2,rfl⟩ noFill_tuple_add seq_tuple_add LP LI (LG _ _)
    (tuple_addW0 l b #[] its2.toArray n n2 dd dd2 sl sl2 (by simp)) ⟨ho,ho2,show EP X pins σ Q (.ref b) s from ⟨.ref b,H,I,rfl,k b H (Ext.refl _) (by rw [List.nil_append];exact g2)⟩⟩
  ·refine A3 pins s σ H (.ref l) (.ref b) v u Q I rx ry ⟨l,b,xs,ys,rfl,rfl,SqT.of g1,SqT.of g2,hx,hz,λ hy=>?_,λ hy p hp=>k p _ (Ext.new hp) ai⟩;subst hy;exact k l H (Ext.refl _) (by rw [K5];exact g1)
 ·exact h.elim
theorem fq{K:W.Frag}{H:Hp}{α:Type}{R:α->V->Hp->Prop}(hR:∀ z y H H',R z y H->Ext H H'->R z y H'){l:Addr}{ys:List V}{zs:List α}(h:H l=some (.lst ys))(al:Al (λ z y=>R z y H) zs ys) :
  (∀ i z H',zs[i]? = some z->Ext H H'->(Itl K l).go i H'/\∀ x H'',(Itl K l).yld i H' x H''->Ext H' H''/\R z x H'')/\∀ H',Ext H H'->(Itl K l).stop zs.length H':=by
 refine⟨λ i z H' hz e=>?_,λ H' e=>⟨ys,SqL.of (e.at h),by rw [al.1];exact JO _⟩⟩;have hi:i < ys.length:=by rw [al.1];exact(JM.mp hz).1
 have hy:ys[i]? = some ys[i]:=JJ hi;refine⟨⟨ys,ys[i],SqL.of (e.at h),hy⟩,λ x H'' y=>?_⟩;have hx:x=ys[i]:=Kj ((y.2 ys (SqL.of (e.at h))).symm.trans hy);refine⟨by rw [y.1];exact Ext.refl _,?_⟩;rw [hx,y.1];exact hR _ _ _ _ (al.2 i z _ hz hy) e
def axP(a:Int × Int)(x:V)(H:Hp):Prop:=∃ q,x=.ref q/\H q=some (.tup [.int a.1,.int a.2])
theorem axP.ext{a:Int × Int}{x:V}{H H':Hp}(h:axP a x H)(e:Ext H H'):axP a x H':=by
 obtain⟨q,rfl,hq⟩:=h;exact⟨q,rfl,e.at hq⟩
theorem lh{H:Hp}{axs:List (Int × Int)}{ys:List V}(al:Al (zz H) (axs.map λ a=>[a.1,a.2]) ys):Al (λ a y=>axP a y H) axs ys:=by
 refine⟨by rw [al.1,JT],λ i a y ha hy=>?_⟩;obtain⟨q,hq,h⟩:=al.2 i [a.1,a.2] y (by rw [J5,ha];rfl) hy;exact⟨q,hq,h⟩
section
variable {prog:Program}{w:World}{A:Around}{E:Value->Shared->Prop}{s:Shared}
variable {z TI TO i j:Addr}{f g:List Addr}{ti tj:Nat->Heap->Prop}{vi vj:Nat->Option Value}{k m:Nat}{x y:Value}{t:Addr}{fl:Bool}{ot:Obj}
variable {ka kb:Bool}{a b p q:Addr}{as bs:Array Value}{n:Nat}
end
section
variable {X:Cx}{pins:List (Addr × Obj)}{σ:St}{s:Shared}
end
section
variable {X:Cx}
end
section
variable {X:Cx}
end
def Af(l:Addr)(xs:List V)(H:Hp)(Q:VK):List V->Prop:=λ zs=>xs.length+zs.length<=sizeLine/\Q .non (upd H l (.lst (xs++zs)))
theorem BO(l:Addr)(xs:List V)(H:Hp)(Q:VK)(zs:List V):Af l xs H Q zs=(xs.length+zs.length<=sizeLine/\Q .non (upd H l (.lst (xs++zs)))):=rfl
def Dn(l b:Addr)(H:Hp)(Q:VK):List V->Prop:=λ xs=>aP (aL H b) (Af l xs H Q)
theorem BP(l b:Addr)(H:Hp)(Q:VK)(xs:List V):Dn l b H Q xs=aP (aL H b) (Af l xs H Q):=rfl
theorem uQ(l b:Addr)(H:Hp)(Q:VK):tP (.ref l) [.ref b] H Q=aP (aL H l) (Dn l b H Q):=by
 refine propext ⟨λ h=>?_,λ h=>?_⟩
 ·obtain⟨l',b',xs,zs,e1,e2,h1,h2,h3,q⟩:=h;cases e1;cases e2;unfold aL;rw [h1]
  show aP (aL H b) _
  unfold aL;rw [h2];exact⟨h3,q⟩
 ·obtain⟨xs,e,h⟩:=au h;obtain⟨zs,e2,h3,q⟩:=au h;exact⟨l,b,xs,zs,rfl,rfl,cY e,cY e2,h3,q⟩
section
variable {X:Cx}{a b c d:Expr}{ta tb tc td:TE}{pos:Pos}
end
section
variable {k:Nat}{g:TG}{tt:TT}{te:TE}{σ:St}{Q:VK}{H:Hp}{K:PySem.W.Frag}
theorem cZ{α:Type}{J:It}(zs:List α)(c:α->Bool)(P:α->V->Hp->Prop)(R:Addr->α->V->Hp->Prop)
  (hgo:∀ i z H',zs[i]? = some z->Ext H H'->J.go i H'/\∀ x H'',J.yld i H' x H''->Ext H' H''/\P z x H'')
  (hst:∀ H',Ext H H'->J.stop zs.length H')
  (hR1:∀ D z y H1 H2,R D z y H1->Ext H1 H2->R D z y H2) (hR2:∀ D z y H1 xs o,R D z y H1->H1 D=some (.lst xs)->R D z y (upd H1 D o))
  (hl:zs.length<=sizeLine)
  (hs:∀ D z x H' N1 N0,z∈zs->H D=none->Ext H H'->(∃ ys,H' D=some (.lst ys))->P z x H'->(c z=true->∀ y H'',Ext H' H''->R D z y H''->N1 y H'')->(c z=false->∀ H'',Ext H' H''->N0 H'')->g x (List.replicate k none++σ) H' (kCm k tt te σ N1 N0))
  (hd:∀ D ys H',H D=none->Ext H H'->H' D=some (.lst ys)->Al (λ z y=>R D z y H') (zs.filter c) ys->Q (.ref D) H'):wH k g tt te σ Q J H:=by
 intro D hD;refine⟨λ i m ys H'=>m=zs.length - i/\i<=zs.length/\Ext H H'/\H' D=some (.lst ys)/\Al (λ z y=>R D z y H') ((zs.take i).filter c) ys,⟨zs.length,by simp,Kz _,Ext.new hD,ai,by simpa using Al.nil⟩,?_⟩;rintro i m ys H' ⟨rfl,hi,e,hD',al⟩
 by_cases hlt:i < zs.length
 ·have hz:zs[i]? = some zs[i]:=JJ hlt;obtain⟨go,y⟩:=hgo i zs[i] H' hz e;have tk:zs.take (i+1)=zs.take i++[zs[i]]:=by rw [List.take_succ,hz];rfl
  have ln:ys.length < sizeLine:=by
   have h1:=al.1;have h2:=List.length_filter_le c (zs.take i);simp only [KN] at h2;omega
  refine .inr ⟨go,λ ys' H2=>Ext H H2/\H2 D=some (.lst ys')/\Al (λ z y=>R D z y H2) ((zs.take (i+1)).filter c) ys',λ ys' H2 p=>⟨zs.length - (i+1),by omega,rfl,hlt,p⟩,λ x H2 z=>?_⟩;obtain⟨e2,p2⟩:=y x H2 z;refine hs D zs[i] x H2 (kC3 D ys _) _ (KQ hlt) hD (e.trans e2) ⟨ys,e2.at hD'⟩ p2 (λ hc y H3 e3 r3=>?_) λ hc H3 e3=>?_
  ·refine⟨e3.at (e2.at hD'),ln,(e.trans (e2.trans e3)).put hD,ai,?_⟩;rw [tk,LA,show [zs[i]].filter c=[zs[i]] by simp [hc]];exact Al.snoc (al.imp λ z y r=>hR2 _ _ _ _ _ _ (hR1 _ _ _ _ _ r (e2.trans e3)) (e3.at (e2.at hD'))) (hR2 _ _ _ _ _ _ r3 (e3.at (e2.at hD')))
  ·refine⟨e.trans (e2.trans e3),(e2.trans e3).at hD',?_⟩;rw [tk,LA,show [zs[i]].filter c=[] by simp [hc],K5];exact al.imp λ z y r=>hR1 _ _ _ _ _ r (e2.trans e3)
 ·have e':i=zs.length:=by omega
  subst e';rw [Lk] at al;exact .inl ⟨hst H' e,hd D ys H' hD e hD' al⟩
end
def Ite(l:Addr)(xs:List V):It:=
 ⟨λ i H=>H l=some (.lst xs)/\i < xs.length,λ i H x H'=>∃ p u,H p=none/\x=.ref p/\xs[i]? = some u/\H'=upd H p (.tup [.int (i:Int),u]),λ i H=>H l=some (.lst xs)/\i=xs.length⟩
def Tne(l e it:Addr)(i:Nat)(h:Heap):Prop:=(∃ old,IsEnum h e it (i:Int) old)/\h.IsListIter it l i
theorem uA{P:Program}{w:World}{K:PySem.W.Frag}{elts:List Expr}{x1}{tp:Pos}(l e it:Addr)(xs:List V)(ne:e ≠ it):yU P w K (.Tuple elts x1 tp) (Ite l xs) [e,it] e (Tne l e it) where
 mem:=JP
 obj:=λ i h st c hc=>by
  obtain⟨⟨old,e1⟩,e2⟩:=st;simp only [J9,Kp,KR] at hc
  rcases hc with rfl|rfl
  ·exact⟨_,e1,λ v z=>by cases z⟩
  ·obtain⟨o,e,_,d⟩:=e2;exact⟨o,e,λ v z=>by rw [d] at z;cases z⟩
 keep:=λ i h h' st k=>by
  obtain⟨⟨old,e1⟩,e2⟩:=st;exact⟨⟨old,k e (by simp) _ e1⟩,e2.at λ o q=>k it (by simp) o q⟩
 item:=by
  intro X hP hw hK hc i pins s σ H E I hf st hg;subst hP hw hK;obtain⟨ha,l1⟩:=hg;obtain⟨as,ra,pl,_⟩:=I.list (SqL.of ha);have hx:xs[i]? = some xs[i]:=JJ l1;obtain⟨u,hu,ru⟩:=ra.get hx;have free:∀ c∈[e,it],H c=none:=λ c h=>(hf c h).1;have nle:l ≠ e:=λ z=>by have:=free e (by simp);rw [←z,ha] at this;cases this
  have nlt:l ≠ it:=λ z=>by have:=free it (by simp);rw [←z,ha] at this;cases this
  have W:=WalksT.enumerate (prog:=X.prog) (w:=X.w) (I.ok.hd hc) e it l ne nle nlt as.toArray;have la:=ra.length;obtain⟨e1,e2⟩:=st;obtain⟨old,e1'⟩:=e1;refine W.item i s _ E (by simp;omega) ⟨⟨old,e1'⟩,e2,pl.isList⟩ λ T vals h1 tk hp hle hT hmid kp=>⟨_,rfl,?_⟩;refine W.go elts x1 tp i T ⟨h1,s.gens,s.drawn,tk,s.os⟩ _ E hmid λ h2 st2 kp2=>?_;have nT:=W.apart i T h1 hmid;obtain⟨tk',x,hx',rfl⟩:=hp
  have hxu:x=u:=by
   have:as[i]? = some x:=by simpa using hx'
   rw [hu] at this;exact(Kj this).symm
  subst hxu;have hT2:h2.IsTuple T #[.int (i:Int) tk',x]:=hT.at λ o q=>kp2 T o nT q;have I2:Inv X pins σ (upd H T (.tup [.int (i:Int),xs[i]])) { s with heap:=h2,toks:=tk }:=I.turnNew (t':=tk) (ch:=[e,it]) (λ c hc=>hf c hc) (λ c o hc q=>kp2 c o hc (kp c o hc q)) hle ⟨(show 2<=sizeLine by decide),[.int (i:Int) tk',x],.cons ⟨tk',rfl⟩ (.cons ru .nil),hT2⟩;have fr:H T=none:=I.hok.fresh hle;refine⟨.ref T,_,I2,rfl,⟨_,_,fr,rfl,hx,rfl⟩,⟨st2.1,st2.2.1⟩,λ c hc=>?_⟩
  have hlt:c < s.heap.objs.size:=by
   simp only [J9,Kp,KR] at hc
   rcases hc with rfl|rfl
   ·exact JS e1'
   ·obtain⟨o,q,_⟩:=e2;exact JS q
  rw [ah (J2 (JY hlt hle))];exact free c hc
 done:=by
  intro X hP hw hK hc i pins s σ H E I hf st hg;subst hP hw hK;obtain⟨ha,rfl⟩:=hg;obtain⟨as,ra,pl,_⟩:=I.list (SqL.of ha);have free:∀ c∈[e,it],H c=none:=λ c h=>(hf c h).1;have nle:l ≠ e:=λ z=>by have:=free e (by simp);rw [←z,ha] at this;cases this
  have nlt:l ≠ it:=λ z=>by have:=free it (by simp);rw [←z,ha] at this;cases this
  have W:=WalksT.enumerate (prog:=X.prog) (w:=X.w) (I.ok.hd hc) e it l ne nle nlt as.toArray;have la:=ra.length;have hsz:as.toArray.size=xs.length:=by simp [la]
  obtain⟨e1,e2⟩:=st;refine W.done s _ E (by rw [hsz];exact⟨e1,e2,pl.isList⟩) λ h' tk kp=>⟨rfl,I.turnL (t':=tk) (ch:=[e,it]) (λ c hc=>hf c hc) kp⟩
 self:=λ A i s Q E st h=>by
  obtain⟨⟨old,e1⟩,e2⟩:=st;exact wpAny_pyIter_enum e1 h
def GA(l:Addr)(H:Hp)(R:It->Hp->Prop):List V->Prop:=λ xs=>R (Ite l xs) H
theorem E7(l:Addr)(H:Hp)(R:It->Hp->Prop)(xs:List V):GA l H R xs=R (Ite l xs) H:=rfl
def FU(R:It->Hp->Prop):List V->Hp->Prop:=λ vs H=>match vs with
 | [.ref l]=>aP (aL H l) (GA l H R)
 | _=>False
theorem E8(R:It->Hp->Prop)(l:Addr)(H:Hp):FU R [.ref l] H=aP (aL H l) (GA l H R):=rfl
def Ds(ta:TA):TI:=λ σ H R=>ta σ H (FU R)
theorem BZ(ta:TA)(σ:St)(H:Hp)(R:It->Hp->Prop):Ds ta σ H R=ta σ H (FU R):=rfl
section
variable {X:Cx}
theorem AK{a:Expr}{elts:List Expr}{x1}{tp:Pos}{ta:TA}{p pos:Pos}(hg:Gl X "enumerate")(hm:X.mg "enumerate"=none)(ha:PA X [a] ta)(he:starEach [a] X.env=[(false,eval a X.env)]:=by rfl) :
  PI X (.Tuple elts x1 tp) (.Call (.Name "enumerate" p) [a] [] pos) (Ds ta):=by
 intro pins s σ H R I h;refine Call_ (gL I hg hm (show bootBuiltins "enumerate"=some (.type "enumerate") by decide +kernel) (PyProof.Rows.callWith_type1 (thn (ha pos pins s σ H _ I h) λ us s1 ⟨vs,H1,I1,r1,q1⟩=>?_) (by rw [he];rfl) (by rfl)));unfold FU at q1;split at q1
 ·rename_i l;obtain⟨xs,e,q⟩:=au q1;replace e:=cY e
  cases r1 with
  | cons r rr=>
   cases rr;cases r;obtain⟨as,ra,pl,_⟩:=I1.list (SqL.of e);refine call_enumerate_list pl.isList λ h' e1 e2 e3 e4=>?_;have I2:Inv X pins σ H1 { s1 with heap:=h' }:=I1.kept (t':=s1.toks) e4;refine wpAny_pyIter_enum (s:={ s1 with heap:=h' }) e1 ⟨s1.heap.objs.size+1,[s1.heap.objs.size+1,s1.heap.objs.size],_,_,H1,rfl,I2,uA l (s1.heap.objs.size+1) s1.heap.objs.size xs (by simp),⟨⟨_,e1⟩,e2⟩,λ c hc=>?_,q⟩
   have hle:s1.heap.objs.size<=c:=by
    simp only [J9,Kp,KR] at hc
    rcases hc with rfl|rfl
    ·exact Lr ..
    ·exact JO _
   exact I1.fpOk hle (I1.hok.fresh hle)
 ·exact q1.elim
end
section
variable {g:TG}{σ:St}{Q:VK}{H:Hp}{K:PySem.W.Frag}
theorem yo{tb:TS}{nx:St->Hp->Prop}{rt:VK}{bk ct:St->Hp->Prop}{l:Addr}{xs:List V}(Pv:Nat->St->Hp->Prop)(h0:Pv 0 σ H)(hl:∀ i σ H,Pv i σ H->H l=some (.lst xs))
  (hs:∀ i u p σ H H',xs[i]? = some u->Pv i σ H->H p=none->Ext H H'->H' p=some (.tup [.int (i:Int),u])->g (.ref p) σ H' (si tb ⟨Pv (i+1),rt,nx,Pv (i+1)⟩)) (hd:∀ σ H,Pv xs.length σ H->nx σ H):CJ g tb ⟨nx,rt,bk,ct⟩ σ (Ite l xs) H:=by
 refine⟨λ i m σ H=>m=xs.length - i/\i<=xs.length/\Pv i σ H,⟨xs.length,by simp,Kz _,h0⟩,?_⟩;rintro i m σ H ⟨rfl,hi,p⟩;have qa:=hl i σ H p
 by_cases hlt:i < xs.length
 ·refine .inr ⟨⟨qa,hlt⟩,Pv (i+1),λ σ' H' p'=>⟨xs.length - (i+1),by omega,rfl,hlt,p'⟩,λ x H' y=>?_⟩;obtain⟨r,u,hr,rfl,hu,rfl⟩:=y;exact hs i u r σ H _ hu p hr (Ext.new hr) ai
 ·have e:i=xs.length:=by omega
  subst e;exact .inl ⟨⟨qa,rfl⟩,hd σ H p⟩
end
section
variable {X:Cx}{CX:CXT}{k:Nat}{f C:Addr}{fd:FuncData}{ps:List Str}{sp:Sp}{dvs:List V}{ds:List Value}{E:St->XK}{x m:Str}{p pos apos:Pos}{e o:Expr}{es:List Expr}{ta:TE}{t:TA}
end
section
variable {X:Cx}{e st:Expr}{te tst:TE}{pos p2:Pos}
end
section
variable {X:Cx}
end
theorem cw{n:Nat}(h:n+64 < cLine):n+1 < cLine:=by omega
def GD(Q:VK)(x:V):VK:=λ y H=>∃ a v,x=.ref a/\rQ H a y (some v)/\Q v H
def IK(ty:TE)(σ:St)(Q:VK):VK:=λ x H=>ty σ H (GD Q x)
theorem Fc(ty:TE)(σ:St)(Q:VK)(x:V)(H:Hp):IK ty σ Q x H=ty σ H (GD Q x):=rfl
theorem Bc(td ty:TE)(σ:St)(H:Hp)(Q:VK):CU td ty σ H Q=td σ H (IK ty σ Q):=rfl
theorem sC{H:Hp}{a:Addr}{kvs:List (Key × V)}{k:Key}{v:V}{Q:VK}(e:H a=some (.dK kvs))(h:di kvs k=some v)(q:Q v H):GD Q (.ref a) (kV k) H:=⟨a,v,rfl,h ▸ rQ.k e,q⟩
section
variable {X:Cx}
end
def GB(nx:St->Hp->Prop)(σ:St)(v x:V):VK:=λ y H=>∃ a H4,x=.ref a/\CB H a y v H4/\nx σ H4
def GC(ty:TE)(nx:St->Hp->Prop)(σ:St)(v:V):VK:=λ x H=>ty σ H (GB nx σ v x)
theorem E9(ty:TE)(nx:St->Hp->Prop)(σ:St)(v x:V)(H:Hp):GC ty nx σ v x H=ty σ H (GB nx σ v x):=rfl
def IJ(td ty:TE)(nx:St->Hp->Prop)(σ:St):VK:=λ v H=>td σ H (GC ty nx σ v)
theorem Fb(td ty:TE)(nx:St->Hp->Prop)(σ:St)(v:V)(H:Hp):IJ td ty nx σ v H=td σ H (GC ty nx σ v):=rfl
theorem Bg(td ty tv:TE)(nx:St->Hp->Prop)(rt:VK)(bk ct:St->Hp->Prop)(σ:St)(H:Hp):CY td ty tv ⟨nx,rt,bk,ct⟩ σ H=tv σ H (IJ td ty nx σ):=rfl
theorem fP{H:Hp}{a:Addr}{kvs:List (Key × V)}{k:Key}{v:V}{nx:St->Hp->Prop}{σ:St}(e:H a=some (.dK kvs))(hl:kvs.length < sizeLine)(q:nx σ (upd H a (.dK (cT kvs k v)))):GB nx σ v (.ref a) (kV k) H:=⟨a,_,rfl,CB.k e hl,q⟩
def C8:List V->Hp->VK->Prop:=λ vs H Q=>∃ p kvs ns,vs=[.ref p]/\H p=some (.dK kvs)/\kvs.map (·.1)=ns.map (Sum.inl:Int->Key)/\ns.length < 64/\∀ ms:List Int,ms.Perm ns->ms.Pairwise (·<=·)->gB (.lst (ms.map V.int)) H Q
theorem Ao{p:Addr}{kvs:List (Key × V)}{ns:List Int}{H:Hp}{Q:VK}(e:H p=some (.dK kvs))(hk:kvs.map (·.1)=ns.map (Sum.inl:Int->Key))(hl:ns.length < 64)(q:∀ ms:List Int,ms.Perm ns->ms.Pairwise (·<=·)->gB (.lst (ms.map V.int)) H Q):C8 [.ref p] H Q:=⟨p,kvs,ns,rfl,e,hk,hl,q⟩
theorem eR:∀ {us:List Value}{ns:List Int},us.length=ns.length->(∀ (i:Nat) (u:Value),us[i]? = some u->∃ n t,ns[i]? = some n/\u=.int n t)->IntsAre us ns
 | [],[],_,_=>.nil
 | [],_::_,h,_=>by cases h
 | _::_,[],h,_=>by cases h
 | u::us,n::ns,h,k=>by
  obtain⟨m,t,e1,rfl⟩:=k 0 u rfl;cases e1;exact .cons n t (eR (by simpa using h) λ i u e=>k (i+1) u (by simpa using e))
theorem dR:∀ {us:List Value}{ns:List Int},IntsAre us ns->aU (ns.map V.int) us
 | _,_,.nil=>.nil
 | _,_,.cons n t r=>.cons ⟨t,rfl⟩ (dR r)
theorem fG{α β:Type}{F:α->β->Prop}:∀ {l₁:List α}{l₂:List β},Paired F l₁ l₂->∀ {i:Nat}{a:α},l₁[i]? = some a->∃ b,l₂[i]? = some b/\F a b
 | _,_,.nil,i,a,h=>by simp at h
 | _,_,.cons h₁ t,0,a,h=>by cases h;exact⟨_,rfl,h₁⟩
 | _,_,.cons h₁ t,i+1,a,h=>fG t (i:=i) (by simpa using h)
section
variable {X:Cx}
theorem qZ(hc:X.calm=true):bK X (.builtin "sorted") C8:=by
 intro pins s σ H vs us Q I r h;obtain⟨p,kvs,ns,rfl,e,hk,hl,q⟩:=h
 cases r with
 | cons r rr=>
  cases rr;cases r;obtain⟨z,hd,xs,rel,dd⟩:=Aj I.hok e;obtain⟨ep,hat⟩:=dd.dictAt;have hlen:kvs.length=xs.length:=L6 rel;have hln:xs.length=ns.length:=by rw [←hlen];have:=KC List.length hk;simpa using this
  refine Calls.call_function_entry kind_sorted plain_sorted entry_sorted (args_sorted1 _) ?_;unfold Builtin.«sorted»;refine wpAny_bind (m:=checkCount "sorted" 1 1 _) (wpAny_pure ?_);refine wpAny_bind (W.kdu_collect (A:=X.A.in1) (W.kdl_dict (knd:=bh X.prog X.w) (kvs:=xs) (ep:=ep) hd) (show X.A.in1.handled=none from I.ok.hd hc) hat (by omega) λ h' tk acc kp hacc=>?_);have hal:acc.toList.length=ns.length:=by rw [Array.length_toList,hacc.1,hln]
  have hI:IntsAre acc.toList ns:=by
   refine eR hal λ i u hu=>?_;obtain⟨k,x,hx,hku⟩:=hacc.2 i u (by simpa using hu);have hi:i < kvs.length:=by rw [hlen];exact(JM.mp hx).1
   have h1:kvs[i]? = some kvs[i]:=JJ hi;obtain⟨w',hw',rw'⟩:=fG rel h1;rw [hx] at hw';cases hw';have h2:(kvs.map (·.1))[i]? = some k:=by rw [J5,h1];exact KC some rw'.1
   rw [hk,J5] at h2;obtain⟨n,hn,rfl⟩:=J6.mp h2
   rcases aK (show kZ (Sum.inl n) u=true from hku) with ⟨j,t,e1,e2⟩|⟨j,t,e1,e2⟩
   ·cases e1;exact⟨n,t,hn,e2⟩
   ·cases e1
  refine JK (wpAny_newList ?_ (by rw [hal];exact ay (by omega)));have hoL:(h'.push (seqObj "list" acc.toList.toArray 0)).get? h'.objs.size=some (seqObj "list" acc.toList.toArray 0):=JX _ rfl;refine JK (LB (Lj slot_list_sort ⟨_,hoL,rfl⟩ entry_list_sort (list_sort_tree hoL hI (by omega) λ out ns' a1 a2 a3=>⟨_,rfl,?_⟩) (args_list_sort _)));refine JV ⟨_,rfl,?_⟩;have I2:Inv X pins σ H { s with heap:=h',toks:=tk }:=I.kept (t':=tk) kp;have fr:=I2.hok.fresh (JO _);obtain⟨e',he'⟩:=sortedHeap_at (out:=out) hoL;refine⟨.ref h'.objs.size,_,I2.laid (t':=tk) (h':=sortedHeap (h'.push (seqObj "list" acc.toList.toArray 0)) h'.objs.size acc.toList out) (o:=.lst (ns'.map V.int)) (λ b u hb=>?_) (JO _) ⟨?_,out.toList,e',dR a1,?_⟩,rfl,q ns' a2 a3 _ _ fr (Ext.new fr) ai⟩
  ·have hb':h'.get? b=some u:=hb;have hlt:=JS hb';rw [sortedHeap_old (J2 hlt) (by rw [size_push'];exact Mo hlt)];exact JL _ hb'
  ·rw [JT,a2.length_eq];exact ay (by omega)
  ·rw [Array.toArray_toList];exact he'
end
def zy{α β:Type}(R1:α->V->Hp->Prop)(R2:β->V->Hp->Prop)(z:α × β)(x:V)(H:Hp):Prop:=∃ p q1 q2,x=.ref p/\H p=some (.tup [q1,q2])/\R1 z.1 q1 H/\R2 z.2 q2 H
theorem jJ{H:Hp}{α β:Type}{R1:α->V->Hp->Prop}{R2:β->V->Hp->Prop}(h1:∀ z y H H',R1 z y H->Ext H H'->R1 z y H')(h2:∀ z y H H',R2 z y H->Ext H H'->R2 z y H'){a b:Addr}{xs ys:List V}{zs:List α}{ws:List β}(ha:H a=some (.lst xs))(hb:H b=some (.lst ys))(al:Al (λ z y=>R1 z y H) zs xs)(bl:Al (λ z y=>R2 z y H) ws ys) :
  (∀ i z H',(zs.zip ws)[i]? = some z->Ext H H'->(Itz false false a b xs ys).go i H'/\∀ x H'',(Itz false false a b xs ys).yld i H' x H''->Ext H' H''/\zy R1 R2 z x H'')/\∀ H',Ext H H'->(Itz false false a b xs ys).stop (zs.zip ws).length H':=by
 have wk:=yX (ka:=false) (kb:=false) ha hb;refine⟨λ i z H' hz e=>?_,λ H' e=>?_⟩
 ·obtain⟨i1,i2⟩:=JM.mp hz;rw [KI] at i1;have hx:xs[i]? = some (xs[i]'(by rw [al.1];omega)):=JJ _;have hy:ys[i]? = some (ys[i]'(by rw [bl.1];omega)):=JJ _;have g1:=al.2 i zs[i] _ (JJ _) hx;have g2:=bl.2 i ws[i] _ (JJ _) hy;generalize (xs[i]'(by rw [al.1];omega))=x0 at hx g1;generalize (ys[i]'(by rw [bl.1];omega))=y0 at hy g2
  have hzz:(xs.zip ys)[i]? = some (x0,y0):=by
   rw [Kt];exact⟨hx,hy⟩
  obtain⟨go,yd⟩:=wk.1 i _ H' hzz e;refine⟨go,λ x H'' y=>?_⟩;obtain⟨e2,p,hp,hp2⟩:=yd x H'' y;have ez:z=(zs[i],ws[i]):=by rw [←i2,Mv]
  subst ez;exact⟨e2,p,x0,y0,hp,hp2,h1 _ _ _ _ g1 (e.trans e2),h2 _ _ _ _ g2 (e.trans e2)⟩
 ·have:=wk.2 H' e
  rwa [show (zs.zip ws).length=(xs.zip ys).length by rw [KI,KI,al.1,bl.1]]
def tV(i:Nat):TE:=λ σ H Q=>match σ[i]? with
 | some (some v)=>Q v H
 | _=>False
theorem CN(i:Nat):FJ i=tV i:=by
 funext σ H Q;refine propext ⟨λ ⟨v,e,q⟩=>?_,λ h=>?_⟩
 ·unfold tV;rw [e];exact q
 ·unfold tV at h;split at h
  ·rename_i v e;exact⟨v,e,h⟩
  ·exact h.elim
theorem El{v:V}{σ:St}{H:Hp}{Q:VK}:tV 0 (some v::σ) H Q=Q v H:=rfl
theorem Ek{a0:Option V}{v:V}{σ:St}{H:Hp}{Q:VK}:tV 1 (a0::some v::σ) H Q=Q v H:=rfl
theorem Ej{a0 a1:Option V}{v:V}{σ:St}{H:Hp}{Q:VK}:tV 2 (a0::a1::some v::σ) H Q=Q v H:=rfl
theorem Ei{a0 a1 a2:Option V}{v:V}{σ:St}{H:Hp}{Q:VK}:tV 3 (a0::a1::a2::some v::σ) H Q=Q v H:=rfl
theorem Eh{a0 a1 a2 a3:Option V}{v:V}{σ:St}{H:Hp}{Q:VK}:tV 4 (a0::a1::a2::a3::some v::σ) H Q=Q v H:=rfl
theorem Eg{a0 a1 a2 a3 a4:Option V}{v:V}{σ:St}{H:Hp}{Q:VK}:tV 5 (a0::a1::a2::a3::a4::some v::σ) H Q=Q v H:=rfl
theorem Ef{a0 a1 a2 a3 a4 a5:Option V}{v:V}{σ:St}{H:Hp}{Q:VK}:tV 6 (a0::a1::a2::a3::a4::a5::some v::σ) H Q=Q v H:=rfl
theorem Ee{a0 a1 a2 a3 a4 a5 a6:Option V}{v:V}{σ:St}{H:Hp}{Q:VK}:tV 7 (a0::a1::a2::a3::a4::a5::a6::some v::σ) H Q=Q v H:=rfl
theorem Ed{a0 a1 a2 a3 a4 a5 a6 a7:Option V}{v:V}{σ:St}{H:Hp}{Q:VK}:tV 8 (a0::a1::a2::a3::a4::a5::a6::a7::some v::σ) H Q=Q v H:=rfl
theorem Ec{a0 a1 a2 a3 a4 a5 a6 a7 a8:Option V}{v:V}{σ:St}{H:Hp}{Q:VK}:tV 9 (a0::a1::a2::a3::a4::a5::a6::a7::a8::some v::σ) H Q=Q v H:=rfl
theorem A7{a0 a1 a2 a3 a4 a5 a6 a7 a8 a9:Option V}{v:V}{σ:St}{H:Hp}{Q:VK}:tV 10 (a0::a1::a2::a3::a4::a5::a6::a7::a8::a9::some v::σ) H Q=Q v H:=rfl
theorem A6{a0 a1 a2 a3 a4 a5 a6 a7 a8 a9 a10:Option V}{v:V}{σ:St}{H:Hp}{Q:VK}:tV 11 (a0::a1::a2::a3::a4::a5::a6::a7::a8::a9::a10::some v::σ) H Q=Q v H:=rfl
def nI0(g:Int->Int->V):R2:=λ x y H Q=>match x,y with
 | .int i,.int j=>Q (g i j) H
 | _,_=>False
theorem Hs(g:Int->Int->V)(i j:Int)(H:Hp)(Q:VK):nI0 g (.int i) (.int j) H Q=Q (g i j) H:=rfl
theorem gK(g:Int->Int->V):rI0 g=nI0 g:=by
 funext x y H Q;refine propext ⟨λ ⟨i,j,e,e',q⟩=>by subst e e';exact q,λ h=>?_⟩;unfold nI0 at h;split at h
 ·exact⟨_,_,rfl,rfl,h⟩
 ·exact h.elim
def nI(C:Int->Int->Prop)(g:Int->Int->V):R2:=λ x y H Q=>match x,y with
 | .int i,.int j=>C i j/\Q (g i j) H
 | _,_=>False
theorem Jv(C:Int->Int->Prop)(g:Int->Int->V)(i j:Int)(H:Hp)(Q:VK):nI C g (.int i) (.int j) H Q=(C i j/\Q (g i j) H):=rfl
theorem rW(C:Int->Int->Prop)(g:Int->Int->V):rI C g=nI C g:=by
 funext x y H Q;refine propext ⟨λ ⟨i,j,e,e',q⟩=>by subst e e';exact q,λ h=>?_⟩;unfold nI at h;split at h
 ·exact⟨_,_,rfl,rfl,h⟩
 ·exact h.elim
def nU(g:Int->V):V->Hp->VK->Prop:=λ x H Q=>match x with
 | .int i=>Q (g i) H
 | _=>False
theorem Ju(g:Int->V)(i:Int)(H:Hp)(Q:VK):nU g (.int i) H Q=Q (g i) H:=rfl
theorem Hg(g:Int->V):rU g=nU g:=by
 funext x H Q;refine propext ⟨λ ⟨i,e,q⟩=>by subst e;exact q,λ h=>?_⟩;unfold nU at h;split at h
 ·exact⟨_,rfl,h⟩
 ·exact h.elim
def jc(Q:Bool->Hp->Prop):VK:=λ x H=>match x with
 | .bl k=>Q k H
 | _=>False
theorem xy(Q:Bool->Hp->Prop)(k:Bool)(H:Hp):jc Q (.bl k) H=Q k H:=rfl
theorem x9(Q:Bool->Hp->Prop):Dk Q=jc Q:=by
 funext x H;refine propext ⟨λ ⟨k,e,q⟩=>by subst e;exact q,λ h=>?_⟩;unfold jc at h;split at h
 ·exact⟨_,rfl,h⟩
 ·exact h.elim
def mO(t:TE):TT:=λ σ H Q=>t σ H (jc Q)
theorem Bl(t:TE)(σ:St)(H:Hp)(Q:Bool->Hp->Prop):mO t σ H Q=t σ H (jc Q):=rfl
theorem gv(t:TE):wA t=mO t:=by
 funext σ H Q
 show t σ H (Dk Q)=t σ H (jc Q)
 rw [x9]
theorem uO(t:TE):tB t=mO t:=gv t
def sj(tb:TE)(σ:St)(Q:VK):VK:=λ x H=>match x with
 | .bl c=>if c=true then tb σ H Q else Q (.bl false) H
 | _=>False
theorem BW(tb:TE)(σ:St)(Q:VK)(c:Bool)(H:Hp):sj tb σ Q (.bl c) H=(if c=true then tb σ H Q else Q (.bl false) H):=rfl
def zS(ta tb:TE):TE:=λ σ H Q=>ta σ H (sj tb σ Q)
theorem Bu(ta tb:TE)(σ:St)(H:Hp)(Q:VK):zS ta tb σ H Q=ta σ H (sj tb σ Q):=rfl
theorem xt(ta tb:TE):CW ta tb=zS ta tb:=by
 funext σ H Q
 show ta σ H (HM tb σ Q)=ta σ H (sj tb σ Q)
 congr 1;funext x H;refine propext ⟨λ ⟨k,e,q⟩=>by subst e;exact q,λ h=>?_⟩;unfold sj at h;split at h
 ·exact⟨_,rfl,h⟩
 ·exact h.elim
def CI(tb:TE)(σ:St)(Q:VK):VK:=λ x H=>match x with
 | .bl c=>if c=true then Q (.bl true) H else tb σ H Q
 | _=>False
theorem EU(tb:TE)(σ:St)(Q:VK)(c:Bool)(H:Hp):CI tb σ Q (.bl c) H=(if c=true then Q (.bl true) H else tb σ H Q):=rfl
def Gk(ta tb:TE):TE:=λ σ H Q=>ta σ H (CI tb σ Q)
theorem EI(ta tb:TE)(σ:St)(H:Hp)(Q:VK):Gk ta tb σ H Q=ta σ H (CI tb σ Q):=rfl
theorem A5(ta tb:TE):Ia ta tb=Gk ta tb:=by
 funext σ H Q
 show ta σ H (JA tb σ Q)=ta σ H (CI tb σ Q)
 congr 1;funext x H;refine propext ⟨λ ⟨k,e,q⟩=>by subst e;exact q,λ h=>?_⟩;unfold CI at h;split at h
 ·exact⟨_,rfl,h⟩
 ·exact h.elim
def rX(Q:VK):VK:=λ x H=>match x with
 | .bl c=>Q (.bl (!c)) H
 | _=>False
theorem BH(Q:VK)(c:Bool)(H:Hp):rX Q (.bl c) H=Q (.bl (!c)) H:=rfl
def zP(ta:TE):TE:=λ σ H Q=>ta σ H (rX Q)
theorem Bo(ta:TE)(σ:St)(H:Hp)(Q:VK):zP ta σ H Q=ta σ H (rX Q):=rfl
theorem xr(ta:TE):CQ ta=zP ta:=by
 funext σ H Q
 show ta σ H (HI Q)=ta σ H (rX Q)
 congr 1;funext x H;refine propext ⟨λ ⟨k,e,q⟩=>by subst e;exact q,λ h=>?_⟩;unfold rX at h;split at h
 ·exact⟨_,rfl,h⟩
 ·exact h.elim
def qd(r':R2)(tc:TE)(σ:St)(y:V)(Q:VK):VK:=λ z H=>match z with
 | .bl k=>if k=true then tc σ H (FV r' y Q) else Q (.bl false) H
 | _=>False
theorem BS(r':R2)(tc:TE)(σ:St)(y:V)(Q:VK)(k:Bool)(H:Hp):qd r' tc σ y Q (.bl k) H=(if k=true then tc σ H (FV r' y Q) else Q (.bl false) H):=rfl
theorem B6(r':R2)(tc:TE)(σ:St)(y:V)(Q:VK):GF r' tc σ y Q=qd r' tc σ y Q:=by
 funext z H;refine propext ⟨λ ⟨k,e,q⟩=>by subst e;exact q,λ h=>?_⟩;unfold qd at h;split at h
 ·exact⟨_,rfl,h⟩
 ·exact h.elim
def wI(r r':R2)(tc:TE)(σ:St)(x:V)(Q:VK):VK:=λ y H=>r x y H (qd r' tc σ y Q)
theorem BU(r r':R2)(tc:TE)(σ:St)(x y:V)(Q:VK)(H:Hp):wI r r' tc σ x Q y H=r x y H (qd r' tc σ y Q):=rfl
def wJ(r r':R2)(tb tc:TE)(σ:St)(Q:VK):VK:=λ x H=>tb σ H (wI r r' tc σ x Q)
theorem BV(r r':R2)(tb tc:TE)(σ:St)(Q:VK)(x:V)(H:Hp):wJ r r' tb tc σ Q x H=tb σ H (wI r r' tc σ x Q):=rfl
def oH(r r':R2)(ta tb tc:TE):TE:=λ σ H Q=>ta σ H (wJ r r' tb tc σ Q)
theorem xx(r r':R2)(ta tb tc:TE)(σ:St)(H:Hp)(Q:VK):oH r r' ta tb tc σ H Q=ta σ H (wJ r r' tb tc σ Q):=rfl
theorem lF(r r':R2)(ta tb tc:TE):sE r r' ta tb tc=oH r r' ta tb tc:=by
 funext σ H Q
 show ta σ H (JB r r' tb tc σ Q)=ta σ H (wJ r r' tb tc σ Q)
 congr 1;funext x H1
 show tb σ H1 (IL r r' tc σ x Q)=tb σ H1 (wI r r' tc σ x Q)
 congr 1;funext y H2
 show r x y H2 (GF r' tc σ y Q)=r x y H2 (qd r' tc σ y Q)
 rw [B6]
def wL:TGs:=λ vs σ H Q=>match vs with
 | []=>Q σ H
 | _=>False
theorem B0(σ:St)(H:Hp)(Q:St->Hp->Prop):wL [] σ H Q=Q σ H:=rfl
theorem B9:IZ=wL:=by
 funext vs σ H Q;refine propext ⟨λ ⟨e,q⟩=>by subst e;exact q,λ h=>?_⟩;unfold wL at h;split at h
 ·exact⟨rfl,h⟩
 ·exact h.elim
def oP(t:TG)(u:TGs):TGs:=λ vs σ H Q=>match vs with
 | v::r=>t v σ H (kGs u r Q)
 | _=>False
theorem xG(t:TG)(u:TGs)(v:V)(r:List V)(σ:St)(H:Hp)(Q:St->Hp->Prop):oP t u (v::r) σ H Q=t v σ H (kGs u r Q):=rfl
theorem ym(t:TG)(u:TGs):Dt t u=oP t u:=by
 funext vs σ H Q;refine propext ⟨λ ⟨v,r,e,q⟩=>by subst e;exact q,λ h=>?_⟩;unfold oP at h;split at h
 ·exact⟨_,_,rfl,h⟩
 ·exact h.elim
theorem rJ{α0:Type}{f:α0->List V}{B:α0->Prop}(inj:∀ a a',f a=f a'->a=a')(a:α0):(∃ a',f a=f a'/\B a')=B a:=propext ⟨λ ⟨a',e,q⟩=>by obtain rfl:=inj _ _ e;exact q,λ q=>⟨a,rfl,q⟩⟩
theorem p9{α0:Type}{f:α0->List V}{B:α0->Prop}{vs:List V}{n:Nat}(h:∃ a,vs=f a/\B a)(l:∀ a,(f a).length=n):vs.length=n:=by
 obtain⟨_,rfl,_⟩:=h;exact l _
theorem rH{α0 α1:Type}{f:α0->α1->List V}{B:α0->α1->Prop}(inj:∀ a b a' b',f a b=f a' b'->a=a'/\b=b')(a:α0)(b:α1):(∃ a' b',f a b=f a' b'/\B a' b')=B a b:=propext ⟨λ ⟨a',b',e,q⟩=>by obtain⟨rfl,rfl⟩:=inj _ _ _ _ e;exact q,λ q=>⟨a,b,rfl,q⟩⟩
theorem rL{α0 α1:Type}{f:α0->α1->List V}{B:α0->α1->Prop}{vs:List V}{n:Nat}(h:∃ a b,vs=f a b/\B a b)(l:∀ a b,(f a b).length=n):vs.length=n:=by
 obtain⟨_,_,rfl,_⟩:=h;exact l _ _
theorem rG{α0 α1 α2:Type}{f:α0->α1->α2->List V}{B:α0->α1->α2->Prop}(inj:∀ a b c a' b' c',f a b c=f a' b' c'->a=a'/\b=b'/\c=c')(a:α0)(b:α1)(c:α2):(∃ a' b' c',f a b c=f a' b' c'/\B a' b' c')=B a b c:=propext ⟨λ ⟨a',b',c',e,q⟩=>by obtain⟨rfl,rfl,rfl⟩:=inj _ _ _ _ _ _ e;exact q,λ q=>⟨a,b,c,rfl,q⟩⟩
theorem rK{α0 α1 α2:Type}{f:α0->α1->α2->List V}{B:α0->α1->α2->Prop}{vs:List V}{n:Nat}(h:∃ a b c,vs=f a b c/\B a b c)(l:∀ a b c,(f a b c).length=n):vs.length=n:=by
 obtain⟨_,_,_,rfl,_⟩:=h;exact l _ _ _
theorem yO{α0 α1 α2 α3:Type}{f:α0->α1->α2->α3->List V}{B:α0->α1->α2->α3->Prop}(inj:∀ a b c d a' b' c' d',f a b c d=f a' b' c' d'->a=a'/\b=b'/\c=c'/\d=d')(a:α0)(b:α1)(c:α2)(d:α3):(∃ a' b' c' d',f a b c d=f a' b' c' d'/\B a' b' c' d')=B a b c d:=propext ⟨λ ⟨a',b',c',d',e,q⟩=>by obtain⟨rfl,rfl,rfl,rfl⟩:=inj _ _ _ _ _ _ _ _ e;exact q,λ q=>⟨a,b,c,d,rfl,q⟩⟩
theorem yP{α0 α1 α2 α3:Type}{f:α0->α1->α2->α3->List V}{B:α0->α1->α2->α3->Prop}{vs:List V}{n:Nat}(h:∃ a b c d,vs=f a b c d/\B a b c d)(l:∀ a b c d,(f a b c d).length=n):vs.length=n:=by
 obtain⟨_,_,_,_,rfl,_⟩:=h;exact l _ _ _ _
theorem Ii{α0 α1 α2 α3 α4:Type}{f:α0->α1->α2->α3->α4->List V}{B:α0->α1->α2->α3->α4->Prop}(inj:∀ a b c d i a' b' c' d' i',f a b c d i=f a' b' c' d' i'->a=a'/\b=b'/\c=c'/\d=d'/\i=i')(a:α0)(b:α1)(c:α2)(d:α3)(i:α4):(∃ a' b' c' d' i',f a b c d i=f a' b' c' d' i'/\B a' b' c' d' i')=B a b c d i:=propext ⟨λ ⟨a',b',c',d',i',e,q⟩=>by obtain⟨rfl,rfl,rfl,rfl,rfl⟩:=inj _ _ _ _ _ _ _ _ _ _ e;exact q,λ q=>⟨a,b,c,d,i,rfl,q⟩⟩
theorem Ij{α0 α1 α2 α3 α4:Type}{f:α0->α1->α2->α3->α4->List V}{B:α0->α1->α2->α3->α4->Prop}{vs:List V}{n:Nat}(h:∃ a b c d i,vs=f a b c d i/\B a b c d i)(l:∀ a b c d i,(f a b c d i).length=n):vs.length=n:=by
 obtain⟨_,_,_,_,_,rfl,_⟩:=h;exact l _ _ _ _ _
theorem Jx{P:List Value->Prop}(h:P []):∀ us:List Value,us.length=0->P us:=λ us e=>by
 cases us with
 | nil=>exact h
 | cons a r=>cases e
theorem kW{P:List Value->Prop}(h:∀ a,P [a]):∀ us:List Value,us.length=1->P us:=λ us e=>by
 cases us with
 | nil=>cases e
 | cons x r=>exact Jx (P:=λ r=>P (x::r)) (h x) r (LX e)
theorem mL{P:List Value->Prop}(h:∀ a b,P [a,b]):∀ us:List Value,us.length=2->P us:=λ us e=>by
 cases us with
 | nil=>cases e
 | cons x r=>exact kW (P:=λ r=>P (x::r)) (h x) r (LX e)
theorem rN{P:List Value->Prop}(h:∀ a b c,P [a,b,c]):∀ us:List Value,us.length=3->P us:=λ us e=>by
 cases us with
 | nil=>cases e
 | cons x r=>exact mL (P:=λ r=>P (x::r)) (h x) r (LX e)
theorem wu{P:List Value->Prop}(h:∀ a b c d,P [a,b,c,d]):∀ us:List Value,us.length=4->P us:=λ us e=>by
 cases us with
 | nil=>cases e
 | cons x r=>exact rN (P:=λ r=>P (x::r)) (h x) r (LX e)
theorem Iy{P:List Value->Prop}(h:∀ a b c d i,P [a,b,c,d,i]):∀ us:List Value,us.length=5->P us:=λ us e=>by
 cases us with
 | nil=>cases e
 | cons x r=>exact wu (P:=λ r=>P (x::r)) (h x) r (LX e)
section
variable {X:Cx}
theorem pvN(i:Nat){x:Str}{pos:Pos}(hN:X.N[i]? = some x:=by rfl)(hv:Vis X.env.scope x:=by first|exact Or.inl rfl|exact Or.inr (Or.inl rfl)|exact Or.inr (Or.inr rfl))(hd:(x == ("__debug__":Str))=false:=by decide)
  (hcd:(x == ("__classdict__":Str))=false:=by decide):PE X (.Name x pos) (tV i):=by rw [←CN];exact pv i hN hv hd hcd
theorem aD:OpR X (binaryOp .Add) (nI0 λ i j=>.int (i+j)):=by rw [←gK];exact oG
theorem aE:OpR X (binaryOp .Sub) (nI0 λ i j=>.int (i - j)):=by rw [←gK];exact DZ
theorem cj:OpR X (compareOp .Lt) (nI0 λ i j=>.bl (decide (i < j))):=by rw [←gK];exact De
theorem iV:OpR X (compareOp .LtE) (nI0 λ i j=>.bl (decide (i<=j))):=by rw [←gK];exact G8
theorem cW:OpR X (compareOp .Gt) (nI0 λ i j=>.bl (decide (j < i))):=by rw [←gK];exact Df
theorem zN:OpR X (compareOp .GtE) (nI0 λ i j=>.bl (decide (j<=i))):=by rw [←gK];exact G9
theorem aW:OpR X (binaryOp .Mult) (nI iQ λ i j=>.int (i * j)):=by rw [←rW];exact fQ
theorem cM:OpR X (binaryOp .FloorDiv) (nI GS λ i j=>.int (i / j)):=by rw [←rW];exact A2
theorem kh:OpR X (binaryOp .FloorDiv) (nI sx λ i j=>.int (i.fdiv j)):=by rw [←rW];exact xp
theorem aS:OpR X (binaryOp .Mod) (nI (λ _ j=>0 < j) λ i j=>.int (i % j)):=by rw [←rW];exact gI
theorem gJ:OpR X (binaryOp .Pow) (nI GR λ i j=>.int (i ^ j.toNat)):=by rw [←rW];exact D0
theorem mU:UnR X (unaryOp .USub) (nU λ i=>.int (-i)):=by rw [←Hg];exact DB
variable {a b c d e:Expr}{ta tb tc td t:TE}{pos:Pos}
theorem xb{op:CmpOp}{r:R2}(ho:OpR X (compareOp op) r)(ha:PE X a ta)(hb:PE X b tb)(hm:behindInMarks op b=false):PT X (.Compare a [op] [b] pos) (mO (tOp r ta tb)):=by rw [←gv];exact ni ho ha hb hm
theorem AG(h:PE X e t)(he:∀ whole,isTrue e X.env whole=(do let v ←whole;standAt e.pos;holding [v] (truthy v)):=by intro _;rfl):PT X e (mO t):=by rw [←uO];exact DN h he
theorem lC{op op':CmpOp}{r r':R2}(ho:OpR X (compareOp op) r)(ho':OpR X (compareOp op') r')(ha:PE X a ta)(hb:PE X b tb)(hc:PE X c tc)
  (hm:lastMarks [op,op'] [b,c]=false:=by with_unfolding_all rfl):PE X (.Compare a [op,op'] [b,c] pos) (oH r r' ta tb tc):=by rw [←lF];exact xl ho ho' ha hb hc hm
theorem uE{op op':CmpOp}{r r':R2}(ho:OpR X (compareOp op) r)(ho':OpR X (compareOp op') r')(ha:PE X a ta)(hb:PE X b tb)(hc:PE X c tc)
  (hm:lastMarks [op,op'] [b,c]=false:=by with_unfolding_all rfl):PT X (.Compare a [op,op'] [b,c] pos) (mO (oH r r' ta tb tc)):=by rw [←gv,←lF];exact xc ho ho' ha hb hc hm
variable {rest:List Expr}
theorem AW(ha:PE X a ta)(hb:PE X (.BoolOp .And (b::rest) pos) tb):PE X (.BoolOp .And (a::b::rest) pos) (zS ta tb):=by rw [←xt];exact DY ha hb
theorem zd(ha:PE X a ta)(hb:PE X (.BoolOp .Or (b::rest) pos) tb):PE X (.BoolOp .Or (a::b::rest) pos) (Gk ta tb):=by rw [←A5];exact GZ ha hb
theorem nj(ha:PE X a ta):PE X (.UnaryOp .Not a pos) (zP ta):=by rw [←xr];exact DX ha
theorem aA:PGs X [] wL:=by rw [←B9];exact AL
theorem uG{e:Expr}{es:List Expr}{t:TG}{u:TGs}(h1:PG X e t)(h2:PGs X es u)
  (hs:(assignEach (e::es) X.env).map (·.2)=assign e X.env::(assignEach es X.env).map (·.2):=by rfl):PGs X (e::es) (oP t u):=by rw [←ym];exact xg h1 h2 hs
end
theorem oO{c:TT}{t u:TS}{nx:St->Hp->Prop}{rt:VK}{bk ct:St->Hp->Prop}{σ:St}{H:Hp}(R:St->Hp->Prop)(h:∀ nx':St->Hp->Prop,(∀ σ' H',R σ' H'->nx' σ' H')->FK c t u ⟨nx',rt,bk,ct⟩ σ H)(k:∀ σ' H',R σ' H'->nx σ' H'):FK c t u ⟨nx,rt,bk,ct⟩ σ H:=h nx k
theorem zT{i:Nat}:ME (tV i):=by rw [←CN];exact oI
theorem tF{g:Int->Int->V}:MR (nI0 g):=by rw [←gK];exact oJ
theorem ki{t:TE}(h:ME t):MT (mO t):=by rw [←gv];exact jQ h
def Gs(lo hi:Option Int)(H:Hp)(Q:VK):List V->Prop:=λ xs=>¬ (HT.sIx xs.length 0 lo=0/\HT.sIx xs.length xs.length hi=xs.length)/\gB (.tup (ja xs lo hi)) H Q
def Gj:V->Option Int->Option Int->Hp->VK->Prop:=λ x lo hi H Q=>match x with
 | .ref a=>aP (gD H a) (Gs lo hi H Q)
 | _=>False
theorem EH(a:Addr)(lo hi:Option Int)(H:Hp)(Q:VK):Gj (.ref a) lo hi H Q=aP (gD H a) (Gs lo hi H Q):=rfl
theorem pH(xs:List V)(z:Int)(h:0<=z):ja xs (some z) none=xs.drop z.toNat:=by
 unfold ja;obtain⟨n,rfl⟩:=Int.eq_ofNat_of_zero_le h;rw [HT.sIx_none,HT.sIx_nat]
 show _=xs.drop n
 rcases Mr n xs.length with q|q
 ·rw [LZ q];exact KH (by rw [Lv];omega)
 ·rw [LO q,Ll (JO _),Ll q,List.take_nil]
theorem GV{X:Cx}:SlR X Gj:=DG.mono λ x lo hi H Q h=>by
 unfold Gj at h;split at h
 ·rename_i a;obtain⟨xs,e,w,q⟩:=au h;exact⟨a,xs,rfl,SqT.of (oy e),w,q.to⟩
 ·exact h.elim
section
variable {X:Cx}
end
section
variable {prog:Program}{w:World}{A:Around}{E:Value->Shared->Prop}{s:Shared}
end
section
variable {X:Cx}
end
section
variable {k:Nat}{g:TG}{tt:TT}{te:TE}{σ:St}{Q:VK}{H:Hp}
end
structure IsC(K:W.Frag)(C:Addr):Prop where
 cl:Cls K C
 fc:W.findIn K (.ref C) "__class__"=some (some (.builtin "object.__class__"))
 ocs:W.specialIn K (.builtin "object.__class__") "__get__"=some (some (.builtin "getset_descriptor.__get__"))
 oct:W.takesIn K (.builtin "object.__class__")=some true
 mo:W.mroIn K C (.type "object")=some true
def Gm(neg:Bool):R2:=λ x y H Q=>match x,y with
 | .bl b,.bl c=>Q (.bl (if neg=true then !(b == c) else b == c)) H
 | _,_=>False
theorem EJ(neg b c:Bool)(H:Hp)(Q:VK):Gm neg (.bl b) (.bl c) H Q=Q (.bl (if neg=true then !(b == c) else b == c)) H:=rfl
section
variable {X:Cx}
theorem uK:OpR X (compareOp .IsNot) (Gm true):=by
 intro pins s σ H x y v u Q I rx ry h;unfold Gm at h;split at h
 ·rename_i b c;cases (show v=Value.bool b from rx);cases (show u=Value.bool c from ry);refine wpAny_isNot_plain (by cases b<;>cases c<;>rfl) ⟨.bl (!(b == c)),H,I,?_,h⟩
  cases b<;>cases c<;>rfl
 ·exact h.elim
end
section
variable {prog:Program}{w:World}{A:Around}{E:Value->Shared->Prop}{K:Frag}{x C dx:Addr}{s:Shared}{name:Str}{v:Value}
end
section
variable {X:Cx}{e o value:Expr}{ta tv:TE}{f:Str}{pos pos':Pos}
end
open Sem (wp)
open AutoSeq1 (wpAny_loadPart')
section
variable {X:Cx}
end
def Dw(o:Obj):Prop:=∃ vs,o.data=.fields vs/\vs[2]? = some .none
section
variable {prog:Program}{w:World}{A:Around}{E:Value->Shared->Prop}{s:Shared}
end
def Jd(X:Cx):Prop:=∃ (e:Addr) (oe:Obj) (u:HO),X.A.handled=some (.ref e)/\X.H₀ e=some (.frz oe u)/\Dw oe
structure JG(P:Program)(w:World)(K:W.Frag)(tg:Expr)(J:It)(fp:List Addr)(it:Addr)(tn:Nat->Heap->Prop):Prop where
 mem:it∈fp
 obj:∀ i h,tn i h->∀ b∈fp,∃ o,h.get? b=some o/\∀ v,o.data ≠ .cell v
 keep:∀ i h h',tn i h->(∀ b∈fp,∀ o,h.get? b=some o->h'.get? b=some o)->tn i h'
 item:∀ (X:Cx),X.prog=P->X.w=w->X.K=K->Jd X->∀ (i:Nat) (pins:List (Addr × Obj)) (s:Shared) (σ:St) (H:Hp) (E:Value->Shared->Prop),Inv X pins σ H s->(∀ b∈fp,mN X pins H b)->tn i s.heap->J.go i H →
  wpAny (model P w) X.A (pyNext (.ref it)) (λ r s1=>∃ u,r=some u /\
   wpAny (model P w) X.A (letOwnedTupleGo tg (.ref it) u) (λ _ s2=>∃ x H',Inv X pins σ H' s2/\bq x u/\J.yld i H x H'/\tn (i+1) s2.heap/\∀ b∈fp,H' b=none) E s1) E s
 done:∀ (X:Cx),X.prog=P->X.w=w->X.K=K->Jd X->∀ (i:Nat) (pins:List (Addr × Obj)) (s:Shared) (σ:St) (H:Hp) (E:Value->Shared->Prop),Inv X pins σ H s->(∀ b∈fp,mN X pins H b)->tn i s.heap->J.stop i H →
  wpAny (model P w) X.A (pyNext (.ref it)) (λ r s1=>r=none/\Inv X pins σ H s1) E s
section
variable {X:Cx}{tg:Expr}
end
structure HU(k:Nat)(e:Addr)(A:Around):Prop where
 hd:A.handled=some (.ref e)
 dp:A.depth+3 * k+5 < recursionLimit
 un:A.units+16 * k+200 < cLine
structure JH(P:Program)(w:World)(K:W.Frag)(mg:Str->Option Value)(base:Heap)(CX:CXT)(k:Nat)(f:Addr)(fd:FuncData)(ps:List Str)(sp:Sp):Prop where
 len:∀ vs H Q E,sp vs H Q E->vs.length=ps.length
 run:∀ (A:Around) (outer:List Env) (s:Shared) (H:Hp) (args:Args) (us:List Value) (vs:List V) (Q:VK) (E:XK) (e:Addr) (oe:Obj) (u:HO),HU k e A->H e=some (.frz oe u)->Dw oe->yW P w K mg base A outer s H->BindsTo s fd args (ps.zip us)->aU vs us->sp vs H Q E →
  codeAny (model P w) A (.call (.ref f) args) (CR CX outer P w H s Q E) s
section
variable {X:Cx}
end
section
variable {prog:Program}{w:World}{A:Around}{E:Value->Shared->Prop}{s:Shared}
structure Ji(z TI TO i j l:Addr)(f g e:List Addr):Prop where
 ti:TI ≠ z/\TI ≠ TO/\TI ≠ i/\TI ≠ j/\TI ≠ l
 zt:z ≠ TO
 zf:z ∉ f
 zg:z ∉ g
 ze:z ∉ e
 tf:TO ∉ f
 tg:TO ∉ g
 te:TO ∉ e
 ig:i ∉ g
 ie:i ∉ e
 jf:j ∉ f
 je:j ∉ e
 lf:l ∉ f
 lg:l ∉ g
variable {z TI TO i j l:Addr}{f g e:List Addr}{ti tj tl:Nat->Heap->Prop}{vi vj vl:Nat->Option Value}{k m n:Nat}{x y u a b c:Value}
end
section
variable {prog:Program}{w:World}{A:Around}{E:Value->Shared->Prop}{s:Shared}
end
section
variable {X:Cx}
end
def Gx(Q:VK)(a:Addr)(y:V):VK:=λ z H=>∃ o,rQ H a y o/\Q (o.getD z) H
def Gy(tx:TE)(σ:St)(Q:VK)(a:Addr):VK:=λ y H=>tx σ H (Gx Q a y)
theorem E4(tx:TE)(σ:St)(Q:VK)(a:Addr)(y:V)(H:Hp):Gy tx σ Q a y H=tx σ H (Gx Q a y):=rfl
def II(ty tx:TE)(σ:St)(Q:VK):VK:=λ x H=>∃ a,x=.ref a/\IsD H a/\ty σ H (Gy tx σ Q a)
theorem xv(td ty tx:TE)(σ:St)(H:Hp)(Q:VK):y6 td ty tx σ H Q=td σ H (II ty tx σ Q):=rfl
theorem eF{ty tx:TE}{σ:St}{Q:VK}{H:Hp}{a:Addr}{kvs:List (Key × V)}(e:H a=some (.dK kvs))(q:ty σ H (Gy tx σ Q a)):II ty tx σ Q (.ref a) H:=⟨a,rfl,.inl ⟨kvs,.inl e⟩,q⟩
theorem gG{Q:VK}{H:Hp}{a:Addr}{kvs:List (Key × V)}{k:Key}{z:V}(e:H a=some (.dK kvs))(q:Q ((di kvs k).getD z) H):Gx Q a (kV k) z H:=⟨_,rQ.k e,q⟩
section
variable {X:Cx}
end
def zx(X:Cx)(f:Value)(ks:List Str)(r:List V->List V->Hp->VK->Prop):Prop:=∀ pins s σ H vs us zs ws Q,Inv X pins σ H s->aU vs us->aU zs ws->r vs zs H Q->wpAny (model X.prog X.w) X.A (call f us (ks.zip ws)) (EP X pins σ Q) X.xe s
def GK(r:List V->List V->Hp->VK->Prop)(Q:VK)(vs:List V):List V->Hp->Prop:=λ zs H=>r vs zs H Q
theorem Fi(r:List V->List V->Hp->VK->Prop)(Q:VK)(vs zs:List V)(H:Hp):GK r Q vs zs H=r vs zs H Q:=rfl
def GL(r:List V->List V->Hp->VK->Prop)(tk:TA)(σ:St)(Q:VK):List V->Hp->Prop:=λ vs H=>tk σ H (GK r Q vs)
theorem Fj(r:List V->List V->Hp->VK->Prop)(tk:TA)(σ:St)(Q:VK)(vs:List V)(H:Hp):GL r tk σ Q vs H=tk σ H (GK r Q vs):=rfl
def Ie(r:List V->List V->Hp->VK->Prop)(t tk:TA):TE:=λ σ H Q=>t σ H (GL r tk σ Q)
theorem Es(r:List V->List V->Hp->VK->Prop)(t tk:TA)(σ:St)(H:Hp)(Q:VK):Ie r t tk σ H Q=t σ H (GL r tk σ Q):=rfl
theorem uI{X:Cx}{id:String}{x:Str}{p pos:Pos}{e:Expr}{es:List Expr}{kws:List Keyword}{ks:List Str}{r:List V->List V->Hp->VK->Prop}{t tk:TA}(hc:zx X (.builtin id) ks r)(hg:Gl X x)(hm:X.mg x=none)(hv:bootBuiltins x=some (.builtin id))(ha:PA X (e::es) t)(hk:PK X kws tk)(hn:x ≠ "__name__":=by decide)(hdb:(x == ("__debug__":Str))=false:=by decide)
  (hks:(backToKw pos (keywordEach kws X.env)).filterMap (·.1)=ks:=by rfl)
  (h1:backTo pos (starEach (e::es) X.env)=(false,eval e X.env)::backTo pos (starEach es X.env):=by rfl)
  (h2:(backTo pos (starEach (e::es) X.env)).any (·.1)=false:=by rfl)
  (h3:(backToKw pos (keywordEach kws X.env)).all (·.1.isSome)=true:=by rfl)
  (h4:(backToKw pos (keywordEach kws X.env)).any (·.1.isNone)=false:=by rfl):PE X (.Call (.Name x p) (e::es) kws pos) (Ie r t tk):=by
 intro pins s σ H Q I h;refine Lp (gL I hg hm hv ?_ hn hdb);refine callWith_kw (thn (ha pos pins s σ H _ I h) λ us s1 ⟨vs,H1,I1,r1,q1⟩=>thn (hk pos pins s1 σ H1 _ I1 q1) λ ws s2 ⟨zs,H2,I2,r2,q2⟩=>?_) h1 h2 h3 h4;rw [hks];exact hc pins s2 σ H2 vs us zs ws Q I2 r1 r2 q2
section
variable {prog:Program}{w:World}{A:Around}{R:Result->Shared->Prop}{J:Addr}{fp wr:List Addr}{G:Array GenState->Array GenState->Prop}{n:Nat}{P:Nat->Value->Prop}{St:Nat->Shared->Prop}
end
section
variable {prog:Program}{w:World}{A:Around}{R:Result->Shared->Prop}{J:Addr}{fp wr:List Addr}{G:Array GenState->Array GenState->Prop}{n:Nat}{P:Nat->Value->Prop}{St:Nat->Shared->Prop}
end
abbrev PKy:=List Int × List Int
section
variable {prog:Program}{w:World}
end
section
variable {P:Program}{w:World}{H:Hp}{h:Heap}{a:Addr}
end
section
variable {X:Cx}{pins:List (Addr × Obj)}{σ:St}{H:Hp}{s:Shared}{d b:Addr}{k:PKy}{Z:List PKy}{A:Around}{E:Value->Shared->Prop}
end
section
variable {X:Cx}
end
theorem tS{X:Cx}{tg l:Expr}{tl:TE}{K:W.Frag}(hK:X.K=K)(hl:PE X l tl):PI X tg l (GN K tl):=by subst hK;exact zc hl
section
variable {X:Cx}{e st:Expr}{te tst:TE}{pos p2:Pos}
end
def C7:List V->List V->Hp->VK->Prop:=λ vs zs H Q=>∃ p kvs ns,vs=[.ref p]/\zs=[.bl true]/\H p=some (.dK kvs)/\kvs.map (·.1)=ns.map (Sum.inl:Int->Key)/\ns.length < 64/\∀ ms:List Int,ms.Perm ns->ms.Pairwise (· >= ·)->gB (.lst (ms.map V.int)) H Q
theorem wR{p:Addr}{kvs:List (Key × V)}{ns:List Int}{H:Hp}{Q:VK}(e:H p=some (.dK kvs))(hk:kvs.map (·.1)=ns.map (Sum.inl:Int->Key))(hl:ns.length < 64)(q:∀ ms:List Int,ms.Perm ns->ms.Pairwise (· >= ·)->gB (.lst (ms.map V.int)) H Q):C7 [.ref p] [.bl true] H Q:=⟨p,kvs,ns,rfl,rfl,e,hk,hl,q⟩
section
variable {X:Cx}
theorem qY(hc:X.calm=true):zx X (.builtin "sorted") ["reverse"] C7:=by
 intro pins s σ H vs us zs ws Q I r rz h;obtain⟨p,kvs,ns,rfl,rfl,e,hk,hl,q⟩:=h
 cases rz with
 | cons rb rz=>
 cases rz;cases rb
 cases r with
 | cons r rr=>
  cases rr;cases r;obtain⟨z,hd,xs,rel,dd⟩:=Aj I.hok e;obtain⟨ep,hat⟩:=dd.dictAt;have hlen:kvs.length=xs.length:=L6 rel;have hln:xs.length=ns.length:=by rw [←hlen];have:=KC List.length hk;simpa using this
  show wpAny (model X.prog X.w) X.A (call (.builtin "sorted") [.ref p] [(Str.ofString "reverse",.bool true)]) _ _ _
  refine call_function_entry_kw kind_sorted plain_sorted entry_sorted (args_sorted_rev _ _) ?_;unfold Builtin.«sorted»;refine wpAny_bind (m:=checkCount "sorted" 1 1 _) (wpAny_pure ?_);refine wpAny_bind (W.kdu_collect (A:=X.A.in1) (W.kdl_dict (knd:=bh X.prog X.w) (kvs:=xs) (ep:=ep) hd) (show X.A.in1.handled=none from I.ok.hd hc) hat (by omega) λ h' tk acc kp hacc=>?_);have hal:acc.toList.length=ns.length:=by rw [Array.length_toList,hacc.1,hln]
  have hI:IntsAre acc.toList ns:=by
   refine eR hal λ i u hu=>?_;obtain⟨k,x,hx,hku⟩:=hacc.2 i u (by simpa using hu);have hi:i < kvs.length:=by rw [hlen];exact(JM.mp hx).1
   have h1:kvs[i]? = some kvs[i]:=JJ hi;obtain⟨w',hw',rw'⟩:=fG rel h1;rw [hx] at hw';cases hw';have h2:(kvs.map (·.1))[i]? = some k:=by rw [J5,h1];exact KC some rw'.1
   rw [hk,J5] at h2;obtain⟨n,hn,rfl⟩:=J6.mp h2
   rcases aK (show kZ (Sum.inl n) u=true from hku) with ⟨j,t,e1,e2⟩|⟨j,t,e1,e2⟩
   ·cases e1;exact⟨n,t,hn,e2⟩
   ·cases e1
  refine JK (wpAny_newList ?_ (by rw [hal];exact ay (by omega)));have hoL:(h'.push (seqObj "list" acc.toList.toArray 0)).get? h'.objs.size=some (seqObj "list" acc.toList.toArray 0):=JX _ rfl;refine JK (LB (wpAny_call_entry_kw slot_list_sort ⟨_,hoL,rfl⟩ entry_list_sort (list_sort_tree_rev hoL hI (by omega) λ out ns' a1 a2 a3=>⟨_,rfl,?_⟩) (args_list_sort_rev _ _)));refine JV ⟨_,rfl,?_⟩;have I2:Inv X pins σ H { s with heap:=h',toks:=tk }:=I.kept (t':=tk) kp;have fr:=I2.hok.fresh (JO _);obtain⟨e',he'⟩:=sortedHeap_at (out:=out) hoL;refine⟨.ref h'.objs.size,_,I2.laid (t':=tk) (h':=sortedHeap (h'.push (seqObj "list" acc.toList.toArray 0)) h'.objs.size acc.toList out) (o:=.lst (ns'.map V.int)) (λ b u hb=>?_) (JO _) ⟨?_,out.toList,e',dR a1,?_⟩,rfl,q ns' a2 a3 _ _ fr (Ext.new fr) ai⟩
  ·have hb':h'.get? b=some u:=hb;have hlt:=JS hb';rw [sortedHeap_old (J2 hlt) (by rw [size_push'];exact Mo hlt)];exact JL _ hb'
  ·rw [JT,a2.length_eq];exact ay (by omega)
  ·rw [Array.toArray_toList];exact he'
end
end L2
namespace PH
open PySem L2
def vi:V->Int
 | .int i=>i
 | _=>0
theorem iO{α:Type}(l:List α):(l.filter λ _=>true)=l:=List.filter_eq_self.mpr λ _ _=>rfl
def aF(a:Int × Int):Int × Int:=(a.1,if a.1 > 1 then a.2 else 0)
def axL(axs:List (Int × Int)):List (List Int):=axs.map λ a=>[a.1,a.2]
def bG(axs:List (Int × Int)):Int:=(axs.map λ a=>min 0 ((a.1 - 1) * a.2)).sum
def bH(axs:List (Int × Int)):Int:=(axs.map λ a=>max 0 ((a.1 - 1) * a.2)).sum
def mK(axs:List (Int × Int)):Prop:=axs.length<=8/\∀ a∈axs,1<=a.1/\a.1<=1000000000
structure oS(room first:Int)(axs:List (Int × Int)):Prop where
 ax:mK axs
 r1:1<=room
 r2:room<=1000000000000000000
 lo:0<=first+bG (axs.map aF)
 hi:first+bH (axs.map aF) < room
theorem mK.kept{axs:List (Int × Int)}(h:mK axs):mK (axs.map aF):=⟨by rw [JT];exact h.1,λ a ha=>by
 obtain⟨b,hb,rfl⟩:=J8.mp ha;exact h.2 b hb⟩
def dD(room first:Int)(l:Addr):List (Str × V):=dZ "axes" (.ref l) (dZ "first" (.int first) (dZ "room" (.int room) []))
theorem Hc:¬ (("room":Str) = "axes"):=by decide +kernel
theorem Hb:¬ (("room":Str) = "first"):=by decide +kernel
theorem He:¬ (("first":Str) = "axes"):=by decide +kernel
theorem ji(room first:Int)(l:Addr):(dD room first l).lookup ("room":Str)=some (.int room):=by
 unfold dD;rw [aJ,if_neg Hc,aJ,if_neg Hb,aJ,if_pos rfl]
theorem dk(room first:Int)(l:Addr):(dD room first l).lookup ("first":Str)=some (.int first):=by
 unfold dD;rw [aJ,if_neg He,aJ,if_pos rfl]
theorem dc(room first:Int)(l:Addr):(dD room first l).lookup ("axes":Str)=some (.ref l):=by
 unfold dD;rw [aJ,if_pos rfl]
theorem wQ(room first:Int)(l:Addr){m:Str}(h1:¬ m = "axes")(h2:¬ m = "first")(h3:¬ m = "room"):(dD room first l).lookup m=none:=by
 unfold dD;rw [aJ,if_neg h1,aJ,if_neg h2,aJ,if_neg h3];rfl
theorem eQ(a:Int × Int)(l:List (Int × Int)):bG (a::l)=min 0 ((a.1 - 1) * a.2)+bG l:=by unfold bG;simp
theorem eS(a:Int × Int)(l:List (Int × Int)):bH (a::l)=max 0 ((a.1 - 1) * a.2)+bH l:=by unfold bH;simp
def GU(cs:List Int)(a:Int × Int):List Int:=cs.flatMap λ c=>(List.range a.1.toNat).map λ (n:Nat)=>c+(n:Int) * a.2
def Jg(first:Int)(axs:List (Int × Int)):List Int:=axs.foldl GU [first]
theorem pC(f r:Int)(hr:0 < r)(hf:0<=f):Int.gcd r (f % r)=Int.gcd f r:=by
 obtain⟨n,rfl⟩:=Kq hf;obtain⟨m,rfl⟩:=Kq (Int.le_of_lt hr)
 show Nat.gcd (m:Int).natAbs (((n:Int) % (m:Int))).natAbs=Nat.gcd (n:Int).natAbs (m:Int).natAbs
 rw [←Int.natCast_emod];simp only [Int.natAbs_natCast];rw [Nat.gcd_comm n m,Nat.gcd_rec m n,Nat.gcd_comm]
theorem B8(a b:Int):Int.gcd (if a < 0 then -a else a) (if b < 0 then -b else b)=Int.gcd a b:=by
 have h:∀ x:Int,(if x < 0 then -x else x).natAbs=x.natAbs:=by
  intro x;split
  ·exact Int.natAbs_neg x
  ·rfl
 show Nat.gcd _ _=Nat.gcd _ _
 rw [h a,h b]
theorem zw(a:Int):0<=(if a < 0 then -a else a):=by split<;>omega
theorem pz(f:Int)(hf:0<=f):(Int.gcd f 0:Int)=f:=by
 rw [Int.gcd_zero_right];omega
def iS(ns:List Int):Int:=ns.foldl (λ f n=>(Int.gcd f n:Int)) 0
theorem lL(ns:List Int)(i:Nat)(z:Int)(h:ns[i]? = some z):iS (ns.take (i+1))=(Int.gcd (iS (ns.take i)) z:Int):=by
 unfold iS;rw [List.take_add_one,h];simp [List.foldl_append]
abbrev Tm3:=Int × Int × Int
def bp(zs:List Tm3)(cs:List (Int × Int)):Int:=((zs.zip cs).map λ p=>p.1.1 * p.2.1).sum
def b9(zs:List Tm3)(cs:List (Int × Int)):Int:=((zs.zip cs).map λ p=>p.1.1 * p.2.2).sum
def b5(zs:List Tm3)(cs:List (Int × Int)):List Int:=((zs.zip cs).filter λ p=>decide (p.2.1 < p.2.2)).map λ p=>p.1.1
def b8(g l gr r:Int):Bool:=decide (g < l) || decide (gr < g) || (decide (1 < r) && decide (0 < (g - l) % r))
def cK(zs:List Tm3)(cs:List (Int × Int))(g:Int):Bool:=b8 g (bp zs cs) (b9 zs cs) (iS (b5 zs cs))
structure cL(zs:List Tm3):Prop where
 len:zs.length<=17
 all:∀ z∈zs,(1<=z.1/\z.1<=2000000000000000000)/\(-2000000000<=z.2.1/\z.2.1<=2000000000)/\z.2.1 < z.2.2/\z.2.2<=2000000000
structure cJ(zs:List Tm3)(cs:List (Int × Int)):Prop where
 len:cs.length=zs.length
 all:∀ p∈zs.zip cs,p.1.2.1<=p.2.1/\p.2.1<=p.2.2/\p.2.2<=p.1.2.2
theorem nC(ns:List Int):0<=iS ns:=by
 have:∀ (ns:List Int) (a:Int),0<=a->0<=ns.foldl (λ f n=>(Int.gcd f n:Int)) a:=by
  intro ns
  induction ns with
  | nil=>intro a h;exact h
  | cons n ns ih=>intro a h;exact ih _ (by show (0:Int)<=(Int.gcd a n:Int);omega)
 exact this ns 0 (Kb _)
def trP(z:Tm3)(x:V)(H:Hp):Prop:=∃ q,x=.ref q/\H q=some (.tup [.int z.1,.int z.2.1,.int z.2.2])
theorem trP.ext{z:Tm3}{x:V}{H H':Hp}(h:trP z x H)(e:Ext H H'):trP z x H':=by
 obtain⟨q,rfl,hq⟩:=h;exact⟨q,rfl,e.at hq⟩
def LAt{α:Type}(R:α->V->Hp->Prop)(H:Hp)(p:Addr)(zs:List α):Prop:=∃ ys,H p=some (.lst ys)/\Al (λ z y=>R z y H) zs ys
theorem LAt.ext{α:Type}{R:α->V->Hp->Prop}{H H':Hp}{p:Addr}{zs:List α}(hR:∀ z y H H',R z y H->Ext H H'->R z y H')(h:LAt R H p zs)(e:Ext H H'):LAt R H' p zs:=by
 obtain⟨ys,hp,al⟩:=h;exact⟨ys,e.at hp,al.imp λ _ _ r=>hR _ _ _ _ r e⟩
abbrev gg(H:Hp)(p:Addr)(zs:List Tm3):Prop:=LAt trP H p zs
abbrev cU(H:Hp)(p:Addr)(cs:List (Int × Int)):Prop:=LAt axP H p cs
theorem bL{H H':Hp}{p:Addr}{zs:List Tm3}(h:gg H p zs)(e:Ext H H'):gg H' p zs:=LAt.ext (λ _ _ _ _ r e=>r.ext e) h e
theorem aC{H H':Hp}{p:Addr}{zs:List (Int × Int)}(h:cU H p zs)(e:Ext H H'):cU H' p zs:=LAt.ext (λ _ _ _ _ r e=>r.ext e) h e
theorem k6{H:Hp}{zs:List Tm3}{ys:List V}(al:Al (λ z y=>trP z y H) zs ys){k:Nat}(hk:k < zs.length):∃ q,atI ys (0+(k:Int))=some (.ref q)/\H q=some (.tup [.int (zs.getD k default).1,.int (zs.getD k default).2.1,.int (zs.getD k default).2.2]):=by
 have hy:ys[k]? = some (ys[k]'(by rw [al.1];exact hk)):=JJ _;obtain⟨q,h1,h2⟩:=al.2 k _ _ (JJ hk) hy;refine⟨q,by rw [Kv];exact eJ (by rw [hy,h1]),?_⟩;rw [show zs.getD k default=zs[k] by simp [List.getD,JJ hk]];exact h2
theorem eW{H:Hp}{zs:List (Int × Int)}{ys:List V}(al:Al (λ z y=>axP z y H) zs ys){k:Nat}(hk:k < zs.length):∃ q,atI ys (0+(k:Int))=some (.ref q)/\H q=some (.tup [.int (zs.getD k default).1,.int (zs.getD k default).2]):=by
 have hy:ys[k]? = some (ys[k]'(by rw [al.1];exact hk)):=JJ _;obtain⟨q,h1,h2⟩:=al.2 k _ _ (JJ hk) hy;refine⟨q,by rw [Kv];exact eJ (by rw [hy,h1]),?_⟩;rw [show zs.getD k default=zs[k] by simp [List.getD,JJ hk]];exact h2
theorem Ak{H:Hp}{zs:List (Int × Int)}{ys:List V}(al:Al (λ z y=>axP z y H) zs ys):Al (zz H) (zs.map λ z=>[z.1,z.2]) ys:=by
 refine⟨by rw [al.1,JT],λ i z y hz hy=>?_⟩;rw [J5] at hz;obtain⟨a,ha,rfl⟩:=J6.mp hz;exact al.2 i a y ha hy
theorem Al.cons'{α:Type}{R:α->V->Prop}{z:α}{y:V}{zs:List α}{ys:List V}(r:R z y)(h:Al R zs ys):Al R (z::zs) (y::ys):=⟨by simp [h.1],λ i z' y' a b=>by
 cases i with
 | zero=>cases a;cases b;exact r
 | succ n=>exact h.2 n z' y' (by simpa using a) (by simpa using b)⟩
theorem axP.upd{z:Int × Int}{y:V}{H:Hp}{p:Addr}{xs:List V}{o:HO}(h:axP z y H)(hp:H p=some (.lst xs)):axP z y (upd H p o):=by
 obtain⟨q,rfl,hq⟩:=h;exact⟨q,rfl,by rw [ah (λ e=>by rw [e,hp] at hq;cases hq)];exact hq⟩
def top(i:Nat):Stmt:=PySem.Challenge.pw_pacehall_k58_whole_nested_paces.main.body.getD i (.Pass ⟨0,0,0,0⟩)
abbrev fC:Stmt:=top 2
theorem rm:ak ["thing"] ["thing"] (aa fC):=⟨rfl,rfl,rfl,by decide +kernel,rfl,by decide +kernel,by decide +kernel⟩
abbrev g8:Stmt:=top 3
theorem da:ak ["one", "other", "found", "rest", "smaller"] ["one", "other"] (aa g8):=⟨rfl,rfl,rfl,by decide +kernel,rfl,by decide +kernel,by decide +kernel⟩
abbrev dS:Stmt:=top 4
theorem cG:ak ["numbers", "found", "number"] ["numbers"] (aa dS):=⟨rfl,rfl,rfl,by decide +kernel,rfl,by decide +kernel,by decide +kernel⟩
abbrev dm:Stmt:=top 6
theorem og:ak ["terms", "case"] ["terms", "case"] (aa dm):=⟨rfl,rfl,rfl,by decide +kernel,rfl,by decide +kernel,by decide +kernel⟩
abbrev bZ:Stmt:=top 7
theorem i8:ak ["terms", "case"] ["terms", "case"] (aa bZ):=⟨rfl,rfl,rfl,by decide +kernel,rfl,by decide +kernel,by decide +kernel⟩
abbrev eZ:Stmt:=top 8
theorem wg:ak ["terms", "case"] ["terms", "case"] (aa eZ):=⟨rfl,rfl,rfl,by decide +kernel,rfl,by decide +kernel,by decide +kernel⟩
abbrev kd:Stmt:=top 9
theorem ky:ak ["terms", "goal", "case", "least", "rest"] ["terms", "goal", "case"] (aa kd):=⟨rfl,rfl,rfl,by decide +kernel,rfl,by decide +kernel,by decide +kernel⟩
abbrev dg:Stmt:=top 17
abbrev jk:Stmt:=top 18
abbrev eL:Stmt:=top 23
theorem oi:ak ["thing", "low", "high"] ["thing", "low", "high"] (aa eL):=⟨rfl,rfl,rfl,by decide +kernel,rfl,by decide +kernel,by decide +kernel⟩
abbrev gZ:Stmt:=top 24
theorem wm:ak ["thing"] ["thing"] (aa gZ):=⟨rfl,rfl,rfl,by decide +kernel,rfl,by decide +kernel,by decide +kernel⟩
abbrev g6:Stmt:=top 25
theorem wo:ak ["thing"] ["thing"] (aa g6):=⟨rfl,rfl,rfl,by decide +kernel,rfl,by decide +kernel,by decide +kernel⟩
abbrev er:Stmt:=top 26
theorem rq:ak ["thing"] ["thing"] (aa er):=⟨rfl,rfl,rfl,by decide +kernel,rfl,by decide +kernel,by decide +kernel⟩
abbrev eK:Stmt:=top 27
theorem oh:ak ["axis"] ["axis"] (aa eK):=⟨rfl,rfl,rfl,by decide +kernel,rfl,by decide +kernel,by decide +kernel⟩
abbrev bV:Stmt:=fw (top 28) 0
theorem iM:ak ["self", "room", "first", "axes"] ["self", "room", "first", "axes"] (aa bV):=⟨rfl,rfl,rfl,by decide +kernel,rfl,by decide +kernel,by decide +kernel⟩
abbrev fS:Stmt:=fw (top 28) 1
abbrev fT:Stmt:=fw (top 28) 2
abbrev il:Stmt:=fw (top 28) 4
abbrev cD:Stmt:=fw (top 28) 7
theorem mJ:ak ["self"] ["self"] (aa cD):=⟨rfl,rfl,rfl,by decide +kernel,rfl,by decide +kernel,by decide +kernel⟩
abbrev bU:Stmt:=fw (top 28) 8
theorem iL:ak ["self"] ["self"] (aa bU):=⟨rfl,rfl,rfl,by decide +kernel,rfl,by decide +kernel,by decide +kernel⟩
abbrev cP:Stmt:=top 30
theorem i7:ak ["one", "other"] ["one", "other"] (aa cP):=⟨rfl,rfl,rfl,by decide +kernel,rfl,by decide +kernel,by decide +kernel⟩
abbrev gP:Stmt:=top 32
theorem Cr:ak ["one", "other"] ["one", "other"] (aa gP):=⟨rfl,rfl,rfl,by decide +kernel,rfl,by decide +kernel,by decide +kernel⟩
abbrev eo:Stmt:=top 33
theorem bJ:ak ["one", "other", "lows", "highs", "pace", "size", "times", "reach", "terms"] ["one", "other"] (aa eo):=⟨rfl,rfl,rfl,by decide +kernel,rfl,by decide +kernel,by decide +kernel⟩
abbrev cy:Stmt:=top 36
theorem mG:ak ["terms"] ["terms"] (aa cy):=⟨rfl,rfl,rfl,by decide +kernel,rfl,by decide +kernel,by decide +kernel⟩
abbrev j9:Stmt:=top 37
theorem ku:ak ["case", "k", "at", "upper", "lower"] ["case", "k", "at"] (aa j9):=⟨rfl,rfl,rfl,by decide +kernel,rfl,by decide +kernel,by decide +kernel⟩
abbrev aR:Stmt:=top 38
theorem fO:ak ["terms", "goal", "case"] ["terms", "goal", "case"] (aa aR):=⟨rfl,rfl,rfl,by decide +kernel,rfl,by decide +kernel,by decide +kernel⟩
abbrev fB:Stmt:=top 39
theorem rl:ak ["times", "bounds", "above_least", "below_greatest"] ["times", "bounds", "above_least", "below_greatest"] (aa fB):=⟨rfl,rfl,rfl,by decide +kernel,rfl,by decide +kernel,by decide +kernel⟩
abbrev gY:Stmt:=top 40
theorem bw:ak ["terms", "goal", "case", "above_least", "below_greatest", "best", "k", "bounds", "kept"] ["terms", "goal", "case"] (aa gY):=⟨rfl,rfl,rfl,by decide +kernel,rfl,by decide +kernel,by decide +kernel⟩
abbrev bF:Stmt:=top 41
theorem aw:ak ["one", "other", "terms", "numbers", "left", "term", "number", "place", "pace", "size", "taken", "many"] ["one", "other", "terms", "numbers"] (aa bF):=⟨rfl,rfl,rfl,by decide +kernel,rfl,by decide +kernel,by decide +kernel⟩
abbrev ee:Stmt:=top 42
theorem bz:ak ["one", "other", "most", "found", "terms", "goal", "cases", "paper", "looked", "case", "step", "numbers"] ["one", "other", "most"] (aa ee):=⟨rfl,rfl,rfl,by decide +kernel,rfl,by decide +kernel,by decide +kernel⟩
abbrev fb:Stmt:=top 43
theorem wj:ak ["thing", "word", "many"] ["thing", "word", "many"] (aa fb):=⟨rfl,rfl,rfl,by decide +kernel,rfl,by decide +kernel,by decide +kernel⟩
abbrev cg:Stmt:=top 44
theorem kR:ak ["terms", "case", "number"] ["terms", "case", "number"] (aa cg):=⟨rfl,rfl,rfl,by decide +kernel,rfl,by decide +kernel,by decide +kernel⟩
abbrev g7:Stmt:=top 45
theorem lS:ak ["terms", "goal", "case", "step", "least"] ["terms", "goal", "case", "step"] (aa g7):=⟨rfl,rfl,rfl,by decide +kernel,rfl,by decide +kernel,by decide +kernel⟩
abbrev fA:Stmt:=top 46
theorem rk:ak ["case", "step"] ["case", "step"] (aa fA):=⟨rfl,rfl,rfl,by decide +kernel,rfl,by decide +kernel,by decide +kernel⟩
abbrev fD:Stmt:=top 47
theorem df:ak ["one", "other", "paper", "found", "cases", "step", "case"] ["one", "other", "paper"] (aa fD):=⟨rfl,rfl,rfl,by decide +kernel,rfl,by decide +kernel,by decide +kernel⟩
abbrev eP:Stmt:=top 49
theorem dt:ak ["_law_script", "_law_k", "_law_many", "_law_number", "_law_cell_here"] ["_law_script", "_law_k", "_law_many"] (aa eP):=⟨rfl,rfl,rfl,by decide +kernel,rfl,by decide +kernel,by decide +kernel⟩
abbrev dU:Stmt:=top 50
theorem mH:ak ["_law_found"] ["_law_found"] (aa dU):=⟨rfl,rfl,rfl,by decide +kernel,rfl,by decide +kernel,by decide +kernel⟩
abbrev bS:Stmt:=top 51
theorem bT:ak ["_law_one", "_law_other", "_law_goal", "_law_low", "_law_more", "_law_least", "_law_greatest", "_law_first", "_law_room"] ["_law_one", "_law_other", "_law_goal", "_law_low", "_law_more"] (aa bS):=⟨rfl,rfl,rfl,by decide +kernel,rfl,by decide +kernel,by decide +kernel⟩
abbrev cz:Stmt:=top 52
theorem aO:ak ["_law_one", "_law_other", "_law_ranges", "_law_axes", "_law_sign", "_law_size_here", "_law_pace", "_law_low", "_law_high", "_law_found"] ["_law_one", "_law_other"] (aa cz):=⟨rfl,rfl,rfl,by decide +kernel,rfl,by decide +kernel,by decide +kernel⟩
abbrev cq:Stmt:=top 53
theorem cu:ak ["_law_place", "_law_axes", "_law_at", "_law_axis"] ["_law_place", "_law_axes"] (aa cq):=⟨rfl,rfl,rfl,by decide +kernel,rfl,by decide +kernel,by decide +kernel⟩
abbrev dq:Stmt:=top 54
theorem oo:ak ["_law_first", "_law_axes", "_law_place"] ["_law_first", "_law_axes", "_law_place"] (aa dq):=⟨rfl,rfl,rfl,by decide +kernel,rfl,by decide +kernel,by decide +kernel⟩
abbrev fE:Stmt:=top 55
theorem rA:ak ["_law_found", "_law_one", "_law_other", "_law_goal"] ["_law_found", "_law_one", "_law_other", "_law_goal"] (aa fE):=⟨rfl,rfl,rfl,by decide +kernel,rfl,by decide +kernel,by decide +kernel⟩
abbrev cn:Stmt:=top 56
theorem iD:ak ["_law_terms_here", "_law_case", "_law_least"] ["_law_terms_here", "_law_case"] (aa cn):=⟨rfl,rfl,rfl,by decide +kernel,rfl,by decide +kernel,by decide +kernel⟩
abbrev cQ:Stmt:=top 57
theorem aZ:ak ["_law_numbers", "_law_found", "_law_other", "_law_one"] ["_law_numbers"] (aa cQ):=⟨rfl,rfl,rfl,by decide +kernel,rfl,by decide +kernel,by decide +kernel⟩
abbrev cC:Stmt:=top 58
theorem cH:ak ["_law_terms_here", "_law_goal", "_law_case", "_law_least", "_law_greatest", "_law_rest_here"] ["_law_terms_here", "_law_goal", "_law_case"] (aa cC):=⟨rfl,rfl,rfl,by decide +kernel,rfl,by decide +kernel,by decide +kernel⟩
abbrev eO:Stmt:=top 59
theorem iE:ak ["_law_terms_here", "_law_goal", "_law_case", "_law_by", "_law_k"] ["_law_terms_here", "_law_goal", "_law_case", "_law_by"] (aa eO):=⟨rfl,rfl,rfl,by decide +kernel,rfl,by decide +kernel,by decide +kernel⟩
abbrev dv:Stmt:=top 60
theorem bj:ak ["_law_terms_here", "_law_goal", "_law_case", "_law_step", "_law_least", "_law_greatest", "_law_word", "_law_k", "_law_at"] ["_law_terms_here", "_law_goal", "_law_case", "_law_step"] (aa dv):=⟨rfl,rfl,rfl,by decide +kernel,rfl,by decide +kernel,by decide +kernel⟩
abbrev dn:Stmt:=top 61
theorem bY:ak ["_law_terms_here", "_law_goal", "_law_paper", "_law_bare", "_law_cases", "_law_step", "_law_case", "_law_more"] ["_law_terms_here", "_law_goal", "_law_paper", "_law_bare"] (aa dn):=⟨rfl,rfl,rfl,by decide +kernel,rfl,by decide +kernel,by decide +kernel⟩
abbrev dX:Stmt:=top 62
theorem mI:ak ["_law_found", "_law_terms_here", "_law_goal", "_law_most"] ["_law_found", "_law_terms_here", "_law_goal", "_law_most"] (aa dX):=⟨rfl,rfl,rfl,by decide +kernel,rfl,by decide +kernel,by decide +kernel⟩
abbrev eM:Stmt:=top 63
theorem om:ak ["_law_cell_here"] ["_law_cell_here"] (aa eM):=⟨rfl,rfl,rfl,by decide +kernel,rfl,by decide +kernel,by decide +kernel⟩
abbrev du:Stmt:=top 64
theorem av:ak ["_law_script", "_law_one", "_law_other", "_law_below", "_law_goal", "_law_k", "_law_cell_here", "_law_times", "_law_sizes", "_law_way", "_law_most", "_law_signs"] ["_law_script"] (aa du):=⟨rfl,rfl,rfl,by decide +kernel,rfl,by decide +kernel,by decide +kernel⟩
abbrev dW:Stmt:=top 65
theorem fW:ak ["_law_found", "_law_one", "_law_other", "_law_goal", "_law_sure", "_law_terms_here"] ["_law_found", "_law_one", "_law_other", "_law_goal", "_law_sure"] (aa dW):=⟨rfl,rfl,rfl,by decide +kernel,rfl,by decide +kernel,by decide +kernel⟩
abbrev jH:Stmt:=top 66
theorem eU:ak ["_law_script", "_law_one", "_law_other", "_law_goal", "_law_below", "_law_cell_here", "_law_way", "_law_here", "_law_there", "_law_most", "_law_found", "_law_back"] ["_law_script"] (aa jH):=⟨rfl,rfl,rfl,by decide +kernel,rfl,by decide +kernel,by decide +kernel⟩
set_option genInjectivity false in
structure Adr where
 a_PaceError:Addr
 a_NoPlace:Addr
 a_NoView:Addr
 a_NoPair:Addr
 a_NoMost:Addr
 a_View:Addr
 a_is_whole:Addr
 d_is_whole:FuncData
 a_divisor:Addr
 d_divisor:FuncData
 a_divisor_of:Addr
 d_divisor_of:FuncData
 a_least_sum:Addr
 d_least_sum:FuncData
 a_greatest_sum:Addr
 d_greatest_sum:FuncData
 a_rest_of:Addr
 d_rest_of:FuncData
 a_end_of:Addr
 d_end_of:FuncData
 a_is_number_below:Addr
 d_is_number_below:FuncData
 a_is_place:Addr
 d_is_place:FuncData
 a_is_within:Addr
 d_is_within:FuncData
 a_is_size:Addr
 d_is_size:FuncData
 a_is_axis:Addr
 d_is_axis:FuncData
 a_are_axes:Addr
 d_are_axes:FuncData
 a_kept_axis:Addr
 d_kept_axis:FuncData
 a_View___init__:Addr
 d_View___init__:FuncData
 a_View_sizes:Addr
 d_View_sizes:FuncData
 a_View_paces:Addr
 d_View_paces:FuncData
 a_View_cell:Addr
 d_View_cell:FuncData
 a_View_least:Addr
 d_View_least:FuncData
 a_View_greatest:Addr
 d_View_greatest:FuncData
 a_refuse_rooms:Addr
 d_refuse_rooms:FuncData
 a_pulls:Addr
 d_pulls:FuncData
 a_gathered:Addr
 d_gathered:FuncData
 a_first_case:Addr
 d_first_case:FuncData
 a_parted:Addr
 d_parted:FuncData
 a_numbers_at_once:Addr
 d_numbers_at_once:FuncData
 a_narrowed:Addr
 d_narrowed:FuncData
 a_parting:Addr
 d_parting:FuncData
 a_places_by_numbers:Addr
 d_places_by_numbers:FuncData
 a_shares:Addr
 d_shares:FuncData
 a_is_step:Addr
 d_is_step:FuncData
 a_divides_all:Addr
 d_divides_all:FuncData
 a_ends_by:Addr
 d_ends_by:FuncData
 a_parts_by:Addr
 d_parts_by:FuncData
 a_is_apart:Addr
 d_is_apart:FuncData
 a__law_draw:Addr
 d__law_draw:FuncData
 a__law_whole:Addr
 d__law_whole:FuncData
 a__law_placed:Addr
 d__law_placed:FuncData
 a__law_terms:Addr
 d__law_terms:FuncData
 a__law_is_place:Addr
 d__law_is_place:FuncData
 a__law_cell:Addr
 d__law_cell:FuncData
 a__law_met:Addr
 d__law_met:FuncData
 a__law_sums:Addr
 d__law_sums:FuncData
 a__law_divisor:Addr
 d__law_divisor:FuncData
 a__law_ended:Addr
 d__law_ended:FuncData
 a__law_rest:Addr
 d__law_rest:FuncData
 a__law_behind:Addr
 d__law_behind:FuncData
 a__law_left:Addr
 d__law_left:FuncData
 a__law_apart:Addr
 d__law_apart:FuncData
 a__law_size:Addr
 d__law_size:FuncData
 a__law_nested:Addr
 d__law_nested:FuncData
 a__law_right:Addr
 d__law_right:FuncData
 a_law:Addr
 d_law:FuncData
structure Tx(K:W.Frag)(mg:Str->Option Value)(t:Adr):Prop where
 m_PaceError:mg "PaceError"=some (.ref t.a_PaceError)
 m_NoPlace:mg "NoPlace"=some (.ref t.a_NoPlace)
 m_NoView:mg "NoView"=some (.ref t.a_NoView)
 m_NoPair:mg "NoPair"=some (.ref t.a_NoPair)
 m_NoMost:mg "NoMost"=some (.ref t.a_NoMost)
 m_View:mg "View"=some (.ref t.a_View)
 m_MOST_ROOM:∃ tk,mg "MOST_ROOM"=some (.int 1000000000000000000 tk)
 m_MOST_SIZE:∃ tk,mg "MOST_SIZE"=some (.int 1000000000 tk)
 m_MOST_AXES:∃ tk,mg "MOST_AXES"=some (.int 8 tk)
 m_MOST_CASES:∃ tk,mg "MOST_CASES"=some (.int 100000 tk)
 cl_View:Cls K t.a_View
 na_View_axes:dC K t.a_View "axes"
 na_View_first:dC K t.a_View "first"
 na_View_room:dC K t.a_View "room"
 mk_View:Mk K t.a_View t.a_View___init__
 mt_View_sizes:zB K t.a_View "sizes" t.a_View_sizes
 mt_View_paces:zB K t.a_View "paces" t.a_View_paces
 mt_View_cell:zB K t.a_View "cell" t.a_View_cell
 mt_View_least:zB K t.a_View "least" t.a_View_least
 mt_View_greatest:zB K t.a_View "greatest" t.a_View_greatest
 F_is_whole:Fun K "is_whole" "is_whole" fC t.a_is_whole t.d_is_whole
 m_is_whole:mg "is_whole"=some (.ref t.a_is_whole)
 b_is_whole:aB K t.d_is_whole ["thing"] []
 F_divisor:Fun K "divisor" "divisor" g8 t.a_divisor t.d_divisor
 m_divisor:mg "divisor"=some (.ref t.a_divisor)
 b_divisor:aB K t.d_divisor ["one", "other"] []
 F_divisor_of:Fun K "divisor_of" "divisor_of" dS t.a_divisor_of t.d_divisor_of
 m_divisor_of:mg "divisor_of"=some (.ref t.a_divisor_of)
 b_divisor_of:aB K t.d_divisor_of ["numbers"] []
 F_least_sum:Fun K "least_sum" "least_sum" dm t.a_least_sum t.d_least_sum
 m_least_sum:mg "least_sum"=some (.ref t.a_least_sum)
 b_least_sum:aB K t.d_least_sum ["terms", "case"] []
 F_greatest_sum:Fun K "greatest_sum" "greatest_sum" bZ t.a_greatest_sum t.d_greatest_sum
 m_greatest_sum:mg "greatest_sum"=some (.ref t.a_greatest_sum)
 b_greatest_sum:aB K t.d_greatest_sum ["terms", "case"] []
 F_rest_of:Fun K "rest_of" "rest_of" eZ t.a_rest_of t.d_rest_of
 m_rest_of:mg "rest_of"=some (.ref t.a_rest_of)
 b_rest_of:aB K t.d_rest_of ["terms", "case"] []
 F_end_of:Fun K "end_of" "end_of" kd t.a_end_of t.d_end_of
 m_end_of:mg "end_of"=some (.ref t.a_end_of)
 b_end_of:aB K t.d_end_of ["terms", "goal", "case"] []
 F_is_number_below:Fun K "is_number_below" "is_number_below" dg t.a_is_number_below t.d_is_number_below
 m_is_number_below:mg "is_number_below"=some (.ref t.a_is_number_below)
 b_is_number_below:aB K t.d_is_number_below ["thing", "bound"] []
 F_is_place:Fun K "is_place" "is_place" jk t.a_is_place t.d_is_place
 m_is_place:mg "is_place"=some (.ref t.a_is_place)
 b_is_place:aB K t.d_is_place ["sizes", "thing"] []
 F_is_within:Fun K "is_within" "is_within" eL t.a_is_within t.d_is_within
 m_is_within:mg "is_within"=some (.ref t.a_is_within)
 b_is_within:aB K t.d_is_within ["thing", "low", "high"] []
 F_is_size:Fun K "is_size" "is_size" gZ t.a_is_size t.d_is_size
 m_is_size:mg "is_size"=some (.ref t.a_is_size)
 b_is_size:aB K t.d_is_size ["thing"] []
 F_is_axis:Fun K "is_axis" "is_axis" g6 t.a_is_axis t.d_is_axis
 m_is_axis:mg "is_axis"=some (.ref t.a_is_axis)
 b_is_axis:aB K t.d_is_axis ["thing"] []
 F_are_axes:Fun K "are_axes" "are_axes" er t.a_are_axes t.d_are_axes
 m_are_axes:mg "are_axes"=some (.ref t.a_are_axes)
 b_are_axes:aB K t.d_are_axes ["thing"] []
 F_kept_axis:Fun K "kept_axis" "kept_axis" eK t.a_kept_axis t.d_kept_axis
 m_kept_axis:mg "kept_axis"=some (.ref t.a_kept_axis)
 b_kept_axis:aB K t.d_kept_axis ["axis"] []
 F_View___init__:Fun K "__init__" "View.__init__" bV t.a_View___init__ t.d_View___init__
 b_View___init__:aB K t.d_View___init__ ["self", "room", "first", "axes"] []
 F_View_sizes:Fun K "sizes" "View.sizes" fS t.a_View_sizes t.d_View_sizes
 b_View_sizes:aB K t.d_View_sizes ["self"] []
 F_View_paces:Fun K "paces" "View.paces" fT t.a_View_paces t.d_View_paces
 b_View_paces:aB K t.d_View_paces ["self"] []
 F_View_cell:Fun K "cell" "View.cell" il t.a_View_cell t.d_View_cell
 b_View_cell:aB K t.d_View_cell ["self", "place"] []
 F_View_least:Fun K "least" "View.least" cD t.a_View_least t.d_View_least
 b_View_least:aB K t.d_View_least ["self"] []
 F_View_greatest:Fun K "greatest" "View.greatest" bU t.a_View_greatest t.d_View_greatest
 b_View_greatest:aB K t.d_View_greatest ["self"] []
 F_refuse_rooms:Fun K "refuse_rooms" "refuse_rooms" cP t.a_refuse_rooms t.d_refuse_rooms
 m_refuse_rooms:mg "refuse_rooms"=some (.ref t.a_refuse_rooms)
 b_refuse_rooms:aB K t.d_refuse_rooms ["one", "other"] []
 F_pulls:Fun K "pulls" "pulls" gP t.a_pulls t.d_pulls
 m_pulls:mg "pulls"=some (.ref t.a_pulls)
 b_pulls:aB K t.d_pulls ["one", "other"] []
 F_gathered:Fun K "gathered" "gathered" eo t.a_gathered t.d_gathered
 m_gathered:mg "gathered"=some (.ref t.a_gathered)
 b_gathered:aB K t.d_gathered ["one", "other"] []
 F_first_case:Fun K "first_case" "first_case" cy t.a_first_case t.d_first_case
 m_first_case:mg "first_case"=some (.ref t.a_first_case)
 b_first_case:aB K t.d_first_case ["terms"] []
 F_parted:Fun K "parted" "parted" j9 t.a_parted t.d_parted
 m_parted:mg "parted"=some (.ref t.a_parted)
 b_parted:aB K t.d_parted ["case", "k", "at"] []
 F_numbers_at_once:Fun K "numbers_at_once" "numbers_at_once" aR t.a_numbers_at_once t.d_numbers_at_once
 m_numbers_at_once:mg "numbers_at_once"=some (.ref t.a_numbers_at_once)
 b_numbers_at_once:aB K t.d_numbers_at_once ["terms", "goal", "case"] []
 F_narrowed:Fun K "narrowed" "narrowed" fB t.a_narrowed t.d_narrowed
 m_narrowed:mg "narrowed"=some (.ref t.a_narrowed)
 b_narrowed:aB K t.d_narrowed ["times", "bounds", "above_least", "below_greatest"] []
 F_parting:Fun K "parting" "parting" gY t.a_parting t.d_parting
 m_parting:mg "parting"=some (.ref t.a_parting)
 b_parting:aB K t.d_parting ["terms", "goal", "case"] []
 F_places_by_numbers:Fun K "places_by_numbers" "places_by_numbers" bF t.a_places_by_numbers t.d_places_by_numbers
 m_places_by_numbers:mg "places_by_numbers"=some (.ref t.a_places_by_numbers)
 b_places_by_numbers:aB K t.d_places_by_numbers ["one", "other", "terms", "numbers"] []
 F_shares:FW K "shares" "shares" ee t.a_shares t.d_shares
 m_shares:mg "shares"=some (.ref t.a_shares)
 b_shares:aB K t.d_shares ["one", "other", "most"] []
 b_shares_2:∃ tk,aB K t.d_shares ["one", "other", "most"] [Value.int 1000 tk]
 F_is_step:Fun K "is_step" "is_step" fb t.a_is_step t.d_is_step
 m_is_step:mg "is_step"=some (.ref t.a_is_step)
 b_is_step:aB K t.d_is_step ["thing", "word", "many"] []
 F_divides_all:Fun K "divides_all" "divides_all" cg t.a_divides_all t.d_divides_all
 m_divides_all:mg "divides_all"=some (.ref t.a_divides_all)
 b_divides_all:aB K t.d_divides_all ["terms", "case", "number"] []
 F_ends_by:Fun K "ends_by" "ends_by" g7 t.a_ends_by t.d_ends_by
 m_ends_by:mg "ends_by"=some (.ref t.a_ends_by)
 b_ends_by:aB K t.d_ends_by ["terms", "goal", "case", "step"] []
 F_parts_by:Fun K "parts_by" "parts_by" fA t.a_parts_by t.d_parts_by
 m_parts_by:mg "parts_by"=some (.ref t.a_parts_by)
 b_parts_by:aB K t.d_parts_by ["case", "step"] []
 F_is_apart:Fun K "is_apart" "is_apart" fD t.a_is_apart t.d_is_apart
 m_is_apart:mg "is_apart"=some (.ref t.a_is_apart)
 b_is_apart:aB K t.d_is_apart ["one", "other", "paper"] []
 F__law_draw:Fun K "_law_draw" "_law_draw" eP t.a__law_draw t.d__law_draw
 m__law_draw:mg "_law_draw"=some (.ref t.a__law_draw)
 b__law_draw:aB K t.d__law_draw ["_law_script", "_law_k", "_law_many"] []
 F__law_whole:Fun K "_law_whole" "_law_whole" dU t.a__law_whole t.d__law_whole
 m__law_whole:mg "_law_whole"=some (.ref t.a__law_whole)
 b__law_whole:aB K t.d__law_whole ["_law_found"] []
 F__law_placed:Fun K "_law_placed" "_law_placed" bS t.a__law_placed t.d__law_placed
 m__law_placed:mg "_law_placed"=some (.ref t.a__law_placed)
 b__law_placed:aB K t.d__law_placed ["_law_one", "_law_other", "_law_goal", "_law_low", "_law_more"] []
 F__law_terms:Fun K "_law_terms" "_law_terms" cz t.a__law_terms t.d__law_terms
 m__law_terms:mg "_law_terms"=some (.ref t.a__law_terms)
 b__law_terms:aB K t.d__law_terms ["_law_one", "_law_other"] []
 F__law_is_place:Fun K "_law_is_place" "_law_is_place" cq t.a__law_is_place t.d__law_is_place
 m__law_is_place:mg "_law_is_place"=some (.ref t.a__law_is_place)
 b__law_is_place:aB K t.d__law_is_place ["_law_place", "_law_axes"] []
 F__law_cell:Fun K "_law_cell" "_law_cell" dq t.a__law_cell t.d__law_cell
 m__law_cell:mg "_law_cell"=some (.ref t.a__law_cell)
 b__law_cell:aB K t.d__law_cell ["_law_first", "_law_axes", "_law_place"] []
 F__law_met:Fun K "_law_met" "_law_met" fE t.a__law_met t.d__law_met
 m__law_met:mg "_law_met"=some (.ref t.a__law_met)
 b__law_met:aB K t.d__law_met ["_law_found", "_law_one", "_law_other", "_law_goal"] []
 F__law_sums:Fun K "_law_sums" "_law_sums" cn t.a__law_sums t.d__law_sums
 m__law_sums:mg "_law_sums"=some (.ref t.a__law_sums)
 b__law_sums:aB K t.d__law_sums ["_law_terms_here", "_law_case"] []
 F__law_divisor:Fun K "_law_divisor" "_law_divisor" cQ t.a__law_divisor t.d__law_divisor
 m__law_divisor:mg "_law_divisor"=some (.ref t.a__law_divisor)
 b__law_divisor:aB K t.d__law_divisor ["_law_numbers"] []
 F__law_ended:Fun K "_law_ended" "_law_ended" cC t.a__law_ended t.d__law_ended
 m__law_ended:mg "_law_ended"=some (.ref t.a__law_ended)
 b__law_ended:aB K t.d__law_ended ["_law_terms_here", "_law_goal", "_law_case"] []
 F__law_rest:Fun K "_law_rest" "_law_rest" eO t.a__law_rest t.d__law_rest
 m__law_rest:mg "_law_rest"=some (.ref t.a__law_rest)
 b__law_rest:aB K t.d__law_rest ["_law_terms_here", "_law_goal", "_law_case", "_law_by"] []
 F__law_behind:Fun K "_law_behind" "_law_behind" dv t.a__law_behind t.d__law_behind
 m__law_behind:mg "_law_behind"=some (.ref t.a__law_behind)
 b__law_behind:aB K t.d__law_behind ["_law_terms_here", "_law_goal", "_law_case", "_law_step"] []
 F__law_left:Fun K "_law_left" "_law_left" dn t.a__law_left t.d__law_left
 m__law_left:mg "_law_left"=some (.ref t.a__law_left)
 b__law_left:aB K t.d__law_left ["_law_terms_here", "_law_goal", "_law_paper", "_law_bare"] []
 F__law_apart:Fun K "_law_apart" "_law_apart" dX t.a__law_apart t.d__law_apart
 m__law_apart:mg "_law_apart"=some (.ref t.a__law_apart)
 b__law_apart:aB K t.d__law_apart ["_law_found", "_law_terms_here", "_law_goal", "_law_most"] []
 F__law_size:Fun K "_law_size" "_law_size" eM t.a__law_size t.d__law_size
 m__law_size:mg "_law_size"=some (.ref t.a__law_size)
 b__law_size:aB K t.d__law_size ["_law_cell_here"] []
 F__law_nested:Fun K "_law_nested" "_law_nested" du t.a__law_nested t.d__law_nested
 m__law_nested:mg "_law_nested"=some (.ref t.a__law_nested)
 b__law_nested:aB K t.d__law_nested ["_law_script"] []
 F__law_right:Fun K "_law_right" "_law_right" dW t.a__law_right t.d__law_right
 m__law_right:mg "_law_right"=some (.ref t.a__law_right)
 b__law_right:aB K t.d__law_right ["_law_found", "_law_one", "_law_other", "_law_goal", "_law_sure"] []
 F_law:Fun K "law" "law" jH t.a_law t.d_law
 m_law:mg "law"=some (.ref t.a_law)
 b_law:aB K t.d_law ["_law_script"] []
 z_ValueError:mg "ValueError"=none
 z_abs:mg "abs"=none
 z_all:mg "all"=none
 z_bool:mg "bool"=none
 z_enumerate:mg "enumerate"=none
 z_int:mg "int"=none
 z_isinstance:mg "isinstance"=none
 z_len:mg "len"=none
 z_list:mg "list"=none
 z_max:mg "max"=none
 z_min:mg "min"=none
 z_range:mg "range"=none
 z_sorted:mg "sorted"=none
 z_str:mg "str"=none
 z_sum:mg "sum"=none
 z_tuple:mg "tuple"=none
 z_zip:mg "zip"=none
local macro_rules | `(tactic| trivial) => `(tactic| first | exact Or.inl rfl | exact Or.inr rfl | exact Or.inr (Or.inl rfl) | exact Or.inr (Or.inr rfl) | assumption)
local macro_rules | `(tactic| simp! only [$xs,*]) => do
  let ys := xs.getElems.map λ x => (⟨x.raw⟩ : Lean.TSyntax `Lean.Parser.Tactic.simpLemma)
  let zs ← ("↓reduceIte ↓lD ↓Ck ↓Cj ↓Ci ↓Cg ↓Cf ↓Ce ↓Cd ↓Cc ↓Cb ↓Ca ↓yl ↓yk ↓zm ↓HA ↓Hk ↓Jt ↓Hv ↓Hh ↓qy ↓nN ↓qx ↓nM ↓EV ↓Eo ↓Fn ↓Ew ↓Hz ↓Hj ↓E2 ↓Hl ↓Fd ↓Ep ↓xF ↓BR ↓Bd ↓vg ↓vf ↓ve ↓vd ↓vc ↓Bf ↓HF ↓Hm ↓Ba ↓zk ↓Em ↓BQ ↓Bb ↓E1 ↓oK ↓Fl ↓Eu ↓ET ↓En ↓HD ↓EY ↓EE ↓EZ ↓HC ↓Ho ↓EG ↓EC ↓EB ↓qA ↓nP ↓mB ↓nO ↓qz ↓u7 ↓u6 ↓u5 ↓u3 ↓uZ ↓uW ↓uV ↓uY ↓uX ↓uU ↓uT ↓u4 ↓Fh ↓HG ↓Hn ↓Fg ↓Et ↓Fm ↓uR ↓ER ↓qw ↓BF ↓ES ↓Ex ↓BE ↓EO ↓Bk ↓xB ↓xC ↓Fq ↓HE ↓Hq ↓aQ ↓Er ↓Hw ↓BY ↓va ↓u9 ↓E3 ↓Fp ↓Hu ↓zW ↓Eb ↓Be ↓BB ↓A8 ↓Fs ↓qG ↓qF ↓fK ↓fJ ↓fH ↓kP ↓cR ↓xD ↓xE ↓E6 ↓qB ↓kO ↓kL ↓kM ↓kK ↓BL ↓EL ↓EM ↓EN ↓Hi ↓uP ↓BG ↓A9 ↓Hx ↓Hy ↓Ez ↓ED ↓Jw ↓Br ↓BI ↓xw ↓EW ↓EX ↓zl ↓HB ↓Hr ↓Bs ↓Bz ↓EA ↓Ff ↓BX ↓EF ↓Bv ↓By ↓Bw ↓Ht ↓Fo ↓aN ↓bE ↓bM ↓Bj ↓Bi ↓Bh ↓tX ↓BM ↓BN ↓E5 ↓EK ↓BA ↓BC ↓BD ↓Bm ↓qC ↓xA ↓BJ ↓Bp ↓BK ↓uS ↓Bq ↓Fe ↓Bt ↓BO ↓BP ↓uQ ↓E7 ↓E8 ↓BZ ↓Fc ↓Bc ↓E9 ↓Fb ↓Bg ↓El ↓Ek ↓Ej ↓Ei ↓Eh ↓Eg ↓Ef ↓Ee ↓Ed ↓Ec ↓A7 ↓A6 ↓Hs ↓Jv ↓Ju ↓xy ↓Bl ↓BW ↓Bu ↓EU ↓EI ↓BH ↓Bo ↓BS ↓BU ↓BV ↓xx ↓B0 ↓xG ↓EH ↓EJ ↓E4 ↓xv ↓Fi ↓Fj ↓Es lD cN aL gD wZ wY xI wW rB ai Ap Ar Aq Av DD Aw As Au wU yf JC my HS HR HQ Cn vP yp qV nV yq Cw FI Cv Option.isSome_some Option.isSome_none Option.map_some List.length_cons List.length_nil List.length_map List.map_cons List.map_nil and_true true_and and_self implies_true reduceCtorEq decide_true decide_false Bool.not_true Bool.not_false if_true if_false decide_eq_true_eq Bool.false_eq_true Bool.not_eq_true' decide_eq_false_iff_not Bool.and_true Bool.true_and Bool.and_self Bool.and_eq_true Int.reduceToNat Int.reducePow Int.reduceMul Int.reduceAdd Int.reduceSub Int.reduceNeg Int.reduceLT Int.reduceLE Int.reduceEq Int.reduceNe Int.reduceDiv Int.reduceMod Nat.reduceAdd Nat.reduceLeDiff Nat.reduceLT Nat.reduceMul Nat.reducePow gt_iff_lt ge_iff_le ne_eq false_implies true_implies eq_self String.reduceEq Int.cast_ofNat_Int not_true_eq_false not_false_eq_true false_and and_false List.cons_append List.nil_append List.append_nil HH".splitOn " ").toArray.mapM λ s => if s.startsWith "↓" then `(Lean.Parser.Tactic.simpLemma| ↓ $(Lean.mkIdent (s.replace "↓" "").toName):ident) else `(Lean.Parser.Tactic.simpLemma| $(Lean.mkIdent s.toName):ident)
  `(tactic| simp (config := { failIfUnchanged := false, maxDischargeDepth := 30, maxSteps := 10000000 }) only [$zs,*, $ys,*, *])
local macro_rules | `(%[$xs,*|$k:num]) => do
  let a := xs.getElems
  let s (i : Nat) : String := a[i]!.raw.getId.toString
  let I (n : String) : Lean.TSyntax `term := ⟨(Lean.mkIdent n.toName).raw⟩
  match k.getNat with
  | 46 => `($(a[0]!) (P := $(I "P")) (w := $(I "w")) (base := $(I "base")) $(I "T"))
  | 0 => `(@pvN _ $(a[0]!) _ _ (by rfl) (by trivial) (by decide) (by decide))
  | 1 => if a.size = 1 then `(@CH _ _ _ _ _ $(a[0]!) (@cX _) (by rfl)) else `(@CH _ _ _ _ _ $(a[0]!) $(a[1]!) (by rfl))
  | 2 => `(@dH _ _ _ _)
  | 7 => `(by trivial)
  | 8 => `(by omega)
  | 3 => `(@AU _ _ _ _ _ _ _ _ _ _ _ _ _ _ _ _ $(I ("G_" ++ s 0)) ($(I "hr.mono") (by decide)) (by rfl) $(I ("T.m_" ++ s 0)) $(I ("T.F_" ++ s 0 ++ ".kp")) $(I ("T.b_" ++ s 0)) .nil rV $(a[1]!) (by decide) (by rfl) (by rfl))
  | 4 => `(@gH _ _ $(a[0]!) _ _ _ _ ($(a[1]!)).nd rfl (Or.inl rfl) $(a[2]!) (by rfl) (by trivial))
  | 5 => `(@tT _ _ $(a[0]!) _ ($(a[1]!)).nd rfl (Or.inl rfl) (by trivial))
  | 6 => `(@gu _ _ _ _ _ _ _ $(Lean.Syntax.mkStrLit (s 0)) _ $(a[1]!) (by rfl) $(I ("T.z_" ++ s 0)) (by decide +kernel) $(a[2]!) (by decide) (by decide) (by rfl) (by rfl))
  | 9 => `(@dG _ _ _ _ _ _ _ _ $(a)*)
  | 10 => `(@zM _ _ _ _ _ _ _ $(a)*)
  | 11 => `(@eY _ _ _ _ _ $(a)*)
  | 12 => `(@jO _ _ _ $(a)*)
  | 13 => `(@sW _ _ _ _ $(a)*)
  | 14 => `(@xb _ _ _ _ _ _ _ _ $(a)*)
  | 15 => `(@uG _ _ _ _ _ $(a)*)
  | 16 => `(@zK _ _ _ _ _ _ _ _ $(a)*)
  | 17 => `(@tT _ _ $(a)*)
  | 18 => `(@AN _ _ _ _ _ $(a)*)
  | 19 => `(@AG _ _ _ $(a)*)
  | 20 => `(@GY _ _ _ _ _ _ _ $(a)*)
  | 21 => `(@DU _ _ _ _ _ $(a)*)
  | 22 => `(@DO _ _ _ _ $(a)*)
  | 23 => `(@AO _ _ _ _ $(a)*)
  | 24 => `(@zc _ _ _ _ $(a)*)
  | 25 => `(@AR _ _ _ _ _ _ _ _ _ _ _ $(a)*)
  | 26 => `(@br _ _ _ $(a)*)
  | 27 => `(@AS _ _ _ _ _ _ _ _ $(a)*)
  | 28 => `(@DJ _ _ _ _ $(a)*)
  | 29 => `(@cV _ _ _ $(a)*)
  | 30 => `(@AV _ _ $(a)*)
  | 31 => `(@AW _ _ _ _ _ _ _ $(a)*)
  | 32 => `(@DK _ _ _ _ _ _ _ $(a)*)
  | 33 => `(@DQ _ _ _ _ _ _ _ _ $(a)*)
  | 34 => `(@DW _ _ _ _ _ $(a)*)
  | 35 => `(@AF _ _ _ _ $(a)*)
  | 36 => `(@AQ _ _ _ _ _ $(a)*)
  | 37 => `(@DR _ _ _ _ _ _ $(a)*)
  | 38 => `(@DT _ _ _ _ _ _ _ _ _ $(a)*)
  | 39 => `(@xi _ _ _ _ _ _ _ _ _ _ $(a)*)
  | 40 => `(@AI _ _ _ _ _ _ _ _ _ $(a)*)
  | 41 => `(@uH _ _ _ _ _ _ _ _ _ $(a)*)
  | 42 => `(@G0 _ _ _ _ _ _ _ _ _ _ _ _ $(a)*)
  | 43 => `(@xk _ _ _ _ _ _ _ _ _ $(a)*)
  | 44 => `(@AH _ _ _ _ _ _ _ _ _ _ _ _ _ $(a)*)
  | 45 => `(@uE _ _ _ _ _ _ _ _ _ _ _ _ $(a)*)
  | _ => Lean.Macro.throwUnsupported
local macro_rules | `(∅) => `(by rfl)
local macro_rules | `(⋯) => `(by decide)
local macro_rules | `(nofun) => `(by decide +kernel)
local macro_rules | `(tactic| ac_rfl) => `(tactic| simp! only [and_true])
local macro_rules | `(tactic| exists $x:ident) => `(tactic| replace $x := λ (_ : Unit) => $x)
section
variable {P:Program}{w:World}{K:PySem.W.Frag}{mg:Str->Option Value}{base:Heap}{t:Adr}
def sS(K:W.Frag)(a:Addr)(ns:List Int):Sp:=λ vs H Q E=>∃ (k:Int) (m:Int),vs=[.ref a,.int k,.int m]/\(SqL K H a (ns.map V.int)/\ns.length<=63/\(0<=k/\k < 1000)/\0 < m/\∀ z:Int,0<=z->z < m->Q (.int z) H)
theorem ej(K:W.Frag)(a:Addr)(ns:List Int)(k:Int)(m:Int)(H:Hp)(Q:VK)(E:XK):sS K a ns [.ref a,.int k,.int m] H Q E=(SqL K H a (ns.map V.int)/\ns.length<=63/\(0<=k/\k < 1000)/\0 < m/\∀ z:Int,0<=z->z < m->Q (.int z) H):=rH (f:=λ (k:Int) (m:Int)=>[.ref a,.int k,.int m]) (λ _ _ _ _ h=>by cases h;exact⟨rfl,rfl⟩) k m
theorem xX(K:W.Frag)(a:Addr)(ns:List Int){vs:List V}{H:Hp}{Q:VK}{E:XK}(h:sS K a ns vs H Q E):vs.length=3:=rL h λ _ _=>rfl
theorem fV(T:Tx K mg t)(a:Addr)(ns:List Int):bC P w K mg base CX0 1 t.a__law_draw t.d__law_draw ["_law_script", "_law_k", "_law_many"] (sS K a ns):=by
 refine T.F__law_draw.ok dt (λ vs H Q E h=>xX _ _ _ h) (λ c A o s H vs Q E hr h=>?_)
 ·obtain⟨k,m,rfl,hS,hl,⟨hk0,hk1⟩,hm,kk⟩:=h;have fin:∀ z:Int,Q (.int (z % m)) H:=λ z=>kk _ (Ko _ %[0|8]) (Ky _ hm)
  refine⟨_,(eY (zK (ni De (pv 1) (gu (id := "len") cF ∅ T.z_len nofun (CH (pv 0) cX)) (ae _))
   (jO (sW (dG gI (zM ny (pv 0) (pv 1) (λ _ _=>rfl)) (pv 2))))
   ao)
  (eY (gH (i:=3) dt.nd rfl (Or.inl rfl) (dG oG (dG fQ (dG fQ (pv 1) (pv 1)) dH) dH))
  (eY (zK (ni Df (gu (id := "len") cF ∅ T.z_len nofun (CH (pv 0) cX)) dH (ae _))
   (eY (gH (i:=4) dt.nd rfl (Or.inl rfl) (dG gI (zM ny (pv 0) (dG gI (pv 1) (gu (id := "len") cF ∅ T.z_len nofun (CH (pv 0) cX))) (λ _ _=>rfl)) dH))
   (jO (gH (i:=3) dt.nd rfl (Or.inl rfl) (dG oG (dG fQ (pv 4) (dG oG dH (dG fQ (dG fQ dH (pv 1)) (pv 1)))) (dG fQ (pv 1) dH)))))
   ao)
  (jO (sW (dG gI (dG gI (dG fQ (dG gI (pv 3) dH) dH) dH) (pv 2))))))),?_⟩
  refine⟨_,rfl,_,rfl,a,_,rfl,.inl hS,_,_,rfl,rfl,_,rfl,?_⟩;refine IT (λ h=>?_) (λ h=>?_)
  ·have h1:k < (ns.length:Int):=by simpa using h
   obtain⟨z,hz,_⟩:=pN ns k hk0 h1;exact⟨_,rfl,_,rfl,a,_,k,_,rfl,rfl,hS,hz,_,rfl,_,_,rfl,rfl,hm,fin _⟩
  ·refine⟨_,rfl,_,rfl,_,_,rfl,rfl,.inl ⟨by omega,by omega⟩,_,_,rfl,rfl,.inr ⟨by decide,by decide⟩,_,_,rfl,rfl,?_⟩;refine⟨_,rfl,a,_,rfl,.inl hS,_,_,rfl,rfl,_,rfl,?_⟩;refine IT (λ h2=>?_) (λ h2=>?_)
   ·have h3:0 < (ns.length:Int):=by simpa using h2
    have h4:(0:Int) < ((ns.map V.int).length:Int):=by simpa using h3
    obtain⟨z,hz,_⟩:=pN ns (k % ((ns.map V.int).length:Int)) (Ko _ %[0|8]) (by have:=Ky k h4;simpa using this);refine⟨_,rfl,_,rfl,_,rfl,a,_,rfl,.inl hS,_,_,rfl,rfl,h4,a,_,_,_,rfl,rfl,hS,hz,_,_,rfl,rfl,(by first|decide|(show (0:Int) < _;decide)),?_⟩;refine⟨_,rfl,_,rfl,_,_,rfl,rfl,.inl ⟨by decide,by decide⟩,_,rfl,_,_,rfl,rfl,.inr ⟨by omega,by omega⟩,_,_,rfl,rfl,_,_,rfl,rfl,?_,?_⟩
    ·refine .inl ⟨?_,?_⟩
     ·have:=Ko z (show (999999937:Int) ≠ 0 by decide);omega
     ·have:=Ky z (show (0:Int) < 999999937 by decide);omega
    refine⟨_,rfl,_,_,rfl,rfl,.inr ⟨by decide,by decide⟩,_,_,rfl,rfl,?_⟩;exact⟨_,rfl,_,_,rfl,rfl,(by first|decide|(show (0:Int) < _;decide)),_,_,rfl,rfl,.inr ⟨by decide,by decide⟩,_,_,rfl,rfl,(by first|decide|(show (0:Int) < _;decide)),_,rfl,_,_,rfl,rfl,hm,fin _⟩
   ·exact⟨_,rfl,_,_,rfl,rfl,(by first|decide|(show (0:Int) < _;decide)),_,_,rfl,rfl,.inr ⟨by decide,by decide⟩,_,_,rfl,rfl,(by first|decide|(show (0:Int) < _;decide)),_,rfl,_,_,rfl,rfl,hm,fin _⟩
def jL  : Sp:=λ vs H Q E=>∃ (x:V),vs=[x]/\(aP (isW H x) (kE4 H Q))
theorem bR  (x:V) (H:Hp) (Q:VK) (E:XK):jL  [x] H Q E=(aP (isW H x) (kE4 H Q)):=rJ (f:=λ (x:V)=>[x]) (λ _ _ h=>by cases h;exact rfl) x
theorem lI  {vs:List V}{H:Hp}{Q:VK}{E:XK}(h:jL  vs H Q E):vs.length=1:=p9 h λ _=>rfl
theorem dw(T:Tx K mg t):bC P w K mg base CX0 1 t.a__law_whole t.d__law_whole ["_law_found"] jL:=by
 refine T.F__law_whole.ok mH (λ vs H Q E h=>lI h) (λ c A o s H vs Q E hr h=>?_)
 ·obtain⟨x,rfl,h⟩:=h;obtain⟨b,hb,k⟩:=au h;clear h;rw [zW] at k;refine⟨_,%[%[%[%[isinstance,aI,%[%[0|0],%[%[(.ty "int"),(.type "int"),_,∅,T.z_int,nofun,rfl,⋯,⋯|30]|1]|1]|6],%[(@nj _ _ _ _ %[isinstance,aI,%[%[0|0],%[%[(.ty "bool"),(.type "bool"),_,∅,T.z_bool,nofun,rfl,⋯,⋯|30]|1]|1]|6])|34]|31]|13]|12],?_⟩;rw [show start ["_law_found"] [x]=[some (x)] from rfl]
  cases x with
  | int i=>cases hb;ac_rfl
  | bl i=>cases hb;ac_rfl
  | non=>cases hb;ac_rfl
  | str i=>cases hb;ac_rfl
  | ref p=>
   obtain⟨rfl,o,ho,ht⟩:=t7 hb
   rcases ht with ht|ht|ht<;>ac_rfl
  | _=>cases hb
theorem cp(T:Tx K mg t):bC P w K mg base CX0 1 t.a_is_whole t.d_is_whole ["thing"] jL:=by
 refine T.F_is_whole.ok rm (λ vs H Q E h=>lI h) (λ c A o s H vs Q E hr h=>?_)
 ·obtain⟨x,rfl,h⟩:=h;obtain⟨b,hb,k⟩:=au h;clear h;rw [zW] at k;refine⟨_,%[%[%[%[isinstance,aI,%[%[0|0],%[%[(.ty "int"),(.type "int"),_,∅,T.z_int,nofun,rfl,⋯,⋯|30]|1]|1]|6],%[(@nj _ _ _ _ %[isinstance,aI,%[%[0|0],%[%[(.ty "bool"),(.type "bool"),_,∅,T.z_bool,nofun,rfl,⋯,⋯|30]|1]|1]|6])|34]|31]|13]|12],?_⟩;rw [show start ["thing"] [x]=[some (x)] from rfl]
  cases x with
  | int i=>cases hb;ac_rfl
  | bl i=>cases hb;ac_rfl
  | non=>cases hb;ac_rfl
  | str i=>cases hb;ac_rfl
  | ref p=>
   obtain⟨rfl,o,ho,ht⟩:=t7 hb
   rcases ht with ht|ht|ht<;>ac_rfl
  | _=>cases hb
def jV  : Sp:=λ vs H Q E=>∃ (i:Int) (lo:Int) (hi:Int),vs=[.int i,.int lo,.int hi]/\(Q (.bl (decide (lo<=i) && decide (i<=hi))) H)
theorem jq  (i:Int) (lo:Int) (hi:Int) (H:Hp) (Q:VK) (E:XK):jV  [.int i,.int lo,.int hi] H Q E=(Q (.bl (decide (lo<=i) && decide (i<=hi))) H):=rG (f:=λ (i:Int) (lo:Int) (hi:Int)=>[.int i,.int lo,.int hi]) (λ _ _ _ _ _ _ h=>by cases h;exact⟨rfl,rfl,rfl⟩) i lo hi
theorem qH  {vs:List V}{H:Hp}{Q:VK}{E:XK}(h:jV  vs H Q E):vs.length=3:=rK h λ _ _ _=>rfl
theorem fU(T:Tx K mg t):bC P w K mg base CX0 2 t.a_is_within t.d_is_within ["thing", "low", "high"] jV:=by
 have G_is_whole:=%[cp|46];refine T.F_is_within.ok oi (λ vs H Q E h=>qH h) (λ c A o s H vs Q E hr h=>?_)
 ·obtain⟨i,lo,hi,rfl,k⟩:=h;refine⟨_,%[%[%[%[is_whole,%[%[0|0]|1]|3],%[(@lC _ _ _ _ _ _ _ _ _ _ _ _ iV iV %[1|0] %[0|0] %[2|0] ∅)|34]|31]|13]|12],?_⟩;rw [show start ["thing", "low", "high"] [.int i,.int lo,.int hi]=[some (.int i),some (.int lo),some (.int hi)] from rfl]
  by_cases h0:lo<=i
  ·rw [J3 h0,Bool.true_and] at k;simp! only [↓bR]
  ·rw [J1 h0,Bool.false_and] at k;simp! only [↓bR]
def sF  : Sp:=λ vs H Q E=>∃ (i:Int),vs=[.int i]/\(Q (.bl (decide (1<=i) && decide (i<=1000000000))) H)
theorem yD  (i:Int) (H:Hp) (Q:VK) (E:XK):sF  [.int i] H Q E=(Q (.bl (decide (1<=i) && decide (i<=1000000000))) H):=rJ (f:=λ (i:Int)=>[.int i]) (λ _ _ h=>by cases h;exact rfl) i
theorem xK  {vs:List V}{H:Hp}{Q:VK}{E:XK}(h:sF  vs H Q E):vs.length=1:=p9 h λ _=>rfl
theorem ql(T:Tx K mg t):bC P w K mg base CX0 3 t.a_is_size t.d_is_size ["thing"] sF:=by
 have G_is_within:=%[fU|46];refine T.F_is_size.ok wm (λ vs H Q E h=>xK h) (λ c A o s H vs Q E hr h=>?_)
 ·obtain⟨i,rfl,k⟩:=h;refine⟨_,%[%[%[is_within,%[%[0|0],%[%[0|2],%[(@jP _ _ (.int 1000000000) _ _ ∅ T.m_MOST_SIZE.choose_spec ⟨_,rfl⟩ ⋯)|1]|1]|1]|3]|13]|12],?_⟩;rw [show start ["thing"] [.int i]=[some (.int i)] from rfl];simp! only [↓jq]
abbrev p6  (p:Addr) (H:Hp) (Q:VK) (E:XK):Prop:=∃ a:Int × Int,H p=some (.tup [.int a.1,.int a.2])/\1<=a.1/\a.1<=1000000000/\Q (.bl true) H
def sU  : Sp:=λ vs H Q E=>∃ (p:Addr),vs=[.ref p]/\(p6  p H Q E)
theorem yM  (p:Addr) (H:Hp) (Q:VK) (E:XK):sU  [.ref p] H Q E=(p6  p H Q E):=rJ (f:=λ (p:Addr)=>[.ref p]) (λ _ _ h=>by cases h;exact rfl) p
theorem xY  {vs:List V}{H:Hp}{Q:VK}{E:XK}(h:sU  vs H Q E):vs.length=1:=p9 h λ _=>rfl
theorem qm(T:Tx K mg t):bC P w K mg base CX0 4 t.a_is_axis t.d_is_axis ["thing"] sU:=by
 have G_is_size:=%[ql|46];have G_is_whole:=%[cp|46];refine T.F_is_axis.ok wo (λ vs H Q E h=>xY h) (λ c A o s H vs Q E hr h=>?_)
 ·obtain⟨p,rfl,a,hp,h1,h2,k⟩:=h;refine⟨_,%[%[%[%[isinstance,aI,%[%[0|0],%[%[(.ty "tuple"),(.type "tuple"),_,∅,T.z_tuple,nofun,rfl,⋯,⋯|30]|1]|1]|6],%[%[(aV hr.units),%[len,ar,%[%[0|0]|1]|6],%[0|2],(ae _)|27],%[%[is_size,%[%[az,%[0|0],%[0|2],(λ _ _=>rfl)|10]|1]|3],%[%[is_whole,%[%[az,%[0|0],%[0|2],(λ _ _=>rfl)|10]|1]|3]|34]|31]|31]|31]|13]|12],?_⟩;rw [show start ["thing"] [.ref p]=[some (.ref p)] from rfl];simp! only [↓yD,↓bR]
abbrev pS  (p:Addr) (H:Hp) (Q:VK) (E:XK):Prop:=∃ a:Int × Int,H p=some (.tup [.int a.1,.int a.2])/\∀ (r:Addr) (H':Hp),H r=none->Ext H H'->H' r=some (.tup [.int (aF a).1,.int (aF a).2])->Q (.ref r) H'
def sJ  : Sp:=λ vs H Q E=>∃ (p:Addr),vs=[.ref p]/\(pS  p H Q E)
theorem yG  (p:Addr) (H:Hp) (Q:VK) (E:XK):sJ  [.ref p] H Q E=(pS  p H Q E):=rJ (f:=λ (p:Addr)=>[.ref p]) (λ _ _ h=>by cases h;exact rfl) p
theorem xP  {vs:List V}{H:Hp}{Q:VK}{E:XK}(h:sJ  vs H Q E):vs.length=1:=p9 h λ _=>rfl
theorem mq(T:Tx K mg t):bC P w K mg base CX0 1 t.a_kept_axis t.d_kept_axis ["axis"] sJ:=by
 refine T.F_kept_axis.ok oh (λ vs H Q E h=>xP h) (λ c A o s H vs Q E hr h=>?_)
 ·obtain⟨p,rfl,a,hp,k⟩:=h;refine⟨_,%[%[%[%[%[az,%[0|0],%[0|2],(λ _ _=>rfl)|10],%[(@kg _ _ _ _ _ _ _ _ %[cW,%[az,%[0|0],%[0|2],(λ _ _=>rfl)|10],%[0|2],(ae _)|14] %[az,%[0|0],%[0|2],(λ _ _=>rfl)|10] %[0|2])|1]|1]|18]|13]|12],?_⟩;rw [show start ["axis"] [.ref p]=[some (.ref p)] from rfl];have e1:(aF a).1=a.1:=rfl
  by_cases h1:1 < a.1
  ·have e2:(aF a).2=a.2:=JR h1;rw [e1,e2] at k;ac_rfl;exact λ r H' h e h'=>k r H' h e h'
  ·have e2:(aF a).2=0:=JQ h1;rw [e1,e2] at k;ac_rfl;exact λ r H' h e h'=>k r H' h e h'
abbrev p7  (p:Addr) (H:Hp) (Q:VK) (E:XK):Prop:=∃ axs:List (Int × Int),dB H p (axL axs)/\mK axs/\∀ H',Ext H H'->Q (.bl true) H'
def sV  : Sp:=λ vs H Q E=>∃ (p:Addr),vs=[.ref p]/\(p7  p H Q E)
theorem yN  (p:Addr) (H:Hp) (Q:VK) (E:XK):sV  [.ref p] H Q E=(p7  p H Q E):=rJ (f:=λ (p:Addr)=>[.ref p]) (λ _ _ h=>by cases h;exact rfl) p
theorem xZ  {vs:List V}{H:Hp}{Q:VK}{E:XK}(h:sV  vs H Q E):vs.length=1:=p9 h λ _=>rfl
theorem nH(T:Tx K mg t):bC P w K mg base CX0 5 t.a_are_axes t.d_are_axes ["thing"] sV:=by
 have G_is_axis:=%[qm|46];refine T.F_are_axes.ok rq (λ vs H Q E h=>xZ h) (λ c A o s H vs Q E hr h=>?_)
 ·obtain⟨p,rfl,axs,⟨ys,hp,al⟩,ha,k⟩:=h;refine⟨_,%[%[%[%[isinstance,aI,%[%[0|0],%[%[(.ty "list"),(.type "list"),_,∅,T.z_list,nofun,rfl,⋯,⋯|30]|1]|1]|6],%[%[iV,%[len,ar,%[%[0|0]|1]|6],(@jP _ _ (.int 8) _ _ ∅ T.m_MOST_AXES.choose_spec ⟨_,rfl⟩ ⋯),(ae _)|27],%[%[all,(ia rfl),%[%[(["axis", "thing"]),(1),(aG (aa er) ["thing"] rfl rfl nofun),rfl,%[%[0|0]|24],(λ C s₀ H₀ ex pn=>%[(0),_,(show List.Nodup (["axis", "thing"]:List Str) from by decide +kernel),rfl,(Or.inl rfl),%[0|7]|17]),(λ C s₀ H₀ ex pn=>(@aM _)),(λ C s₀ H₀ ex pn=>%[is_axis,%[%[0|0]|1]|3]),(by intros;rfl)|25]|1]|6]|34]|31]|31]|13]|12],?_⟩;rw [show start ["thing"] [.ref p]=[some (.ref p)] from rfl];have hl:ys.length=axs.length:=by rw [al.1];unfold axL;rw [length_map]
  have hl8:(axs.length:Int)<=8:=by have:=ha.1;omega
  ac_rfl;refine bc ys (λ _=>true) (λ _=>.bl true) (λ z x H'=>x=z/\H' p=some (.lst ys)) (ow hp).1 (ow hp).2 (ay %[0|8]) ?_ ?_
  ·intro D z x H' N1 N0 hz hD e ⟨hx,_⟩ k1 _;subst hx;obtain⟨i,hi,rfl⟩:=List.getElem_of_mem hz;have hi':i < axs.length:=by rw [←hl];exact hi
   obtain⟨q,hq1,hq2⟩:=al.2 i [axs[i].1,axs[i].2] ys[i] (by unfold axL;rw [getElem?_map,getElem?_eq_getElem hi'];rfl) (getElem?_eq_getElem hi);have hb:=ha.2 _ (getElem_mem hi');have k1':=k1 rfl H' (Ext.refl _);have hq3:=e.at hq2;rw [hq1];clear k1 k hp al;simp! only [↓bE,↓aN];rw [yM];exact⟨axs[i],hq3,hb.1,hb.2,k1'⟩
  ·intro D H' hD e hD';have hD2:H' D=some (.lst ((ys.map λ _=>true).map V.bl)):=by rw [hD',iO,KG];rfl
   have e2:((ys.map λ _=>true).all id)=true:=by rw [List.all_map];simp
   have k2:=k H' e;clear k hD';ac_rfl
theorem Iv(x:Int):min 0 x=if x < 0 then x else 0:=by split<;>omega
theorem Iw(x:Int):max 0 x=if 0 < x then x else 0:=by split<;>omega
structure bf(C:Addr)(H:Hp)(v:Addr)(room first:Int)(axs:List (Int × Int)):Prop where
 ob:∃ dx l,H v=some (.ins C dx (dD room first l))/\dB H l (axL axs)
theorem bf.ext{C:Addr}{H H':Hp}{v:Addr}{room first:Int}{axs:List (Int × Int)}(h:bf C H v room first axs)(e:Ext H H'):bf C H' v room first axs:=by
 obtain⟨dx,l,h1,h2⟩:=h.ob;exact⟨⟨dx,l,e.at h1,h2.ext e⟩⟩
theorem zO{m:Str}(h:m∈([("sizes":Str), "paces", "count", "cell", "cell_at", "cells", "least", "greatest"]:List Str)):¬ m = "axes" /\ ¬ m = "first" /\ ¬ m = "room":=by
 revert m
 decide +kernel
theorem vn(room first:Int)(l:Addr){m:Str}(h:m∈([("sizes":Str), "paces", "count", "cell", "cell_at", "cells", "least", "greatest"]:List Str)):(dD room first l).lookup m=none:=wQ room first l (zO h).1 (zO h).2.1 (zO h).2.2
abbrev lZ(C:Addr)(v:Addr)(H:Hp)(Q:VK)(E:XK):Prop:=∃ (room first:Int) (axs:List (Int × Int)),bf C H v room first axs/\mK axs/\∀ H',Ext H H'->Q (.int (first+bG axs)) H'
def jM(C:Addr):Sp:=λ vs H Q E=>∃ (v:Addr),vs=[.ref v]/\(lZ C v H Q E)
theorem vY(C:Addr)(v:Addr)(H:Hp)(Q:VK)(E:XK):jM C [.ref v] H Q E=(lZ C v H Q E):=rJ (f:=λ (v:Addr)=>[.ref v]) (λ _ _ h=>by cases h;exact rfl) v
theorem vq(C:Addr){vs:List V}{H:Hp}{Q:VK}{E:XK}(h:jM C vs H Q E):vs.length=1:=p9 h λ _=>rfl
theorem kI(T:Tx K mg t):bC P w K mg base CX0 1 t.a_View_least t.d_View_least ["self"] (jM t.a_View):=by
 refine T.F_View_least.ok mJ (λ vs H Q E h=>vq _ h) (λ c A o s H vs Q E hr h=>?_)
 ·obtain⟨v,rfl,room,first,axs,vo,hax,k⟩:=h;obtain⟨dx,l,hv,ys,hl,al⟩:=vo.ob;have c1:=T.cl_View;have c2:=T.na_View_first;have c3:=T.na_View_axes
  have f1:=dk room first l
  have f2:=dc room first l
  refine⟨_,%[%[%[aD,%[%[0|0],rfl|36],%[sum,(bP rfl),%[%[(["size", "pace", "self"]),(2),(aG (aa cD) ["self"] rfl rfl nofun),rfl,%[%[%[0|0],rfl|36]|24],(λ C s₀ H₀ ex pn=>(%[(2),rfl,%[%[(0),_,(show List.Nodup (["size", "pace", "self"]:List Str) from by decide +kernel),rfl,(Or.inl rfl),%[0|7]|17],%[%[(1),_,(show List.Nodup (["size", "pace", "self"]:List Str) from by decide +kernel),rfl,(Or.inl rfl),%[0|7]|17],(@aA _),∅|15],∅|15],∅,∅|21].mono λ _ _ _ _ h=>aX h)),(λ C s₀ H₀ ex pn=>(@aM _)),(λ C s₀ H₀ ex pn=>%[min,(dQ rfl),%[%[0|2],%[%[aW,%[aE,%[0|0],%[0|2]|9],%[1|0]|9]|1]|1]|6]),(by intros;rfl)|25]|1]|6]|9]|13]|12],?_⟩;rw [show start ["self"] [.ref v]=[some (.ref v)] from rfl];ac_rfl;have wk:=fq (K:=K) (R:=axP) (λ _ _ _ _ h e=>h.ext e) hl (lh al);refine bc axs (λ _=>true) (λ a=>.int (min 0 ((a.1 - 1) * a.2))) axP wk.1 wk.2 (ay (by have:=hax.1;omega)) ?_ ?_
  ·intro D a x H' N1 N0 ha hD e ⟨q,hx,hq⟩ k1 _;subst hx;have hb:=hax.2 a ha;have k1':=k1 rfl H' (Ext.refl _);have hcm:iQ (a.1 - 1) a.2:=.inl ⟨by omega,by omega⟩;rw [Iv] at k1';clear k1 k;simp! only [↓bM,↓aN]
  ·intro D H' hD e hD';have hD2:H' D=some (.lst ((axs.map λ a=>min 0 ((a.1 - 1) * a.2)).map V.int)):=by rw [hD',iO,KG];rfl
   have k2:Q (.int (first+(axs.map λ a=>min 0 ((a.1 - 1) * a.2)).sum)) H':=k H' e;clear k hD';ac_rfl
abbrev fY(C:Addr)(v:Addr)(H:Hp)(Q:VK)(E:XK):Prop:=∃ (room first:Int) (axs:List (Int × Int)),bf C H v room first axs/\mK axs/\∀ H',Ext H H'->Q (.int (first+bH axs)) H'
def fz(C:Addr):Sp:=λ vs H Q E=>∃ (v:Addr),vs=[.ref v]/\(fY C v H Q E)
theorem mF(C:Addr)(v:Addr)(H:Hp)(Q:VK)(E:XK):fz C [.ref v] H Q E=(fY C v H Q E):=rJ (f:=λ (v:Addr)=>[.ref v]) (λ _ _ h=>by cases h;exact rfl) v
theorem mC(C:Addr){vs:List V}{H:Hp}{Q:VK}{E:XK}(h:fz C vs H Q E):vs.length=1:=p9 h λ _=>rfl
theorem gd(T:Tx K mg t):bC P w K mg base CX0 1 t.a_View_greatest t.d_View_greatest ["self"] (fz t.a_View):=by
 refine T.F_View_greatest.ok iL (λ vs H Q E h=>mC _ h) (λ c A o s H vs Q E hr h=>?_)
 ·obtain⟨v,rfl,room,first,axs,vo,hax,k⟩:=h;obtain⟨dx,l,hv,ys,hl,al⟩:=vo.ob;have c1:=T.cl_View;have c2:=T.na_View_first;have c3:=T.na_View_axes
  have f1:=dk room first l
  have f2:=dc room first l
  refine⟨_,%[%[%[aD,%[%[0|0],rfl|36],%[sum,(bP rfl),%[%[(["size", "pace", "self"]),(2),(aG (aa bU) ["self"] rfl rfl nofun),rfl,%[%[%[0|0],rfl|36]|24],(λ C s₀ H₀ ex pn=>(%[(2),rfl,%[%[(0),_,(show List.Nodup (["size", "pace", "self"]:List Str) from by decide +kernel),rfl,(Or.inl rfl),%[0|7]|17],%[%[(1),_,(show List.Nodup (["size", "pace", "self"]:List Str) from by decide +kernel),rfl,(Or.inl rfl),%[0|7]|17],(@aA _),∅|15],∅|15],∅,∅|21].mono λ _ _ _ _ h=>aX h)),(λ C s₀ H₀ ex pn=>(@aM _)),(λ C s₀ H₀ ex pn=>%[max,(c8 rfl),%[%[0|2],%[%[aW,%[aE,%[0|0],%[0|2]|9],%[1|0]|9]|1]|1]|6]),(by intros;rfl)|25]|1]|6]|9]|13]|12],?_⟩;rw [show start ["self"] [.ref v]=[some (.ref v)] from rfl];ac_rfl;have wk:=fq (K:=K) (R:=axP) (λ _ _ _ _ h e=>h.ext e) hl (lh al);refine bc axs (λ _=>true) (λ a=>.int (max 0 ((a.1 - 1) * a.2))) axP wk.1 wk.2 (ay (by have:=hax.1;omega)) ?_ ?_
  ·intro D a x H' N1 N0 ha hD e ⟨q,hx,hq⟩ k1 _;subst hx;have hb:=hax.2 a ha;have k1':=k1 rfl H' (Ext.refl _);have hcm:iQ (a.1 - 1) a.2:=.inl ⟨by omega,by omega⟩;rw [Iw] at k1';clear k1 k;simp! only [↓bM,↓aN]
  ·intro D H' hD e hD';have hD2:H' D=some (.lst ((axs.map λ a=>max 0 ((a.1 - 1) * a.2)).map V.int)):=by rw [hD',iO,KG];rfl
   have k2:Q (.int (first+(axs.map λ a=>max 0 ((a.1 - 1) * a.2)).sum)) H':=k H' e;clear k hD';ac_rfl
def Iz(H:Hp)(Q:VK)(f:Int × Int->Int)(axs:List (Int × Int)):Prop:=∀ (r:Addr) (H':Hp),H r=none->Ext H H'->H' r=some (.lst ((axs.map f).map V.int))->Q (.ref r) H'
abbrev rD(C:Addr)(v:Addr)(H:Hp)(Q:VK)(E:XK):Prop:=∃ (room first:Int) (axs:List (Int × Int)),bf C H v room first axs/\axs.length<=8/\Iz H Q (λ a=>a.1) axs
def FY(C:Addr):Sp:=λ vs H Q E=>∃ (v:Addr),vs=[.ref v]/\(rD C v H Q E)
abbrev rE(C:Addr)(v:Addr)(H:Hp)(Q:VK)(E:XK):Prop:=∃ (room first:Int) (axs:List (Int × Int)),bf C H v room first axs/\axs.length<=8/\Iz H Q (λ a=>a.2) axs
def FZ(C:Addr):Sp:=λ vs H Q E=>∃ (v:Addr),vs=[.ref v]/\(rE C v H Q E)
def mV(C:Addr):Sp:=λ vs H Q E=>∃ (x:Addr) (room:Int) (first:Int) (l:Addr),vs=[.ref x,.int room,.int first,.ref l]/\(∃ (dx:Addr) (axs:List (Int × Int)),H x=some (.ins C dx [])/\dB H l (axL axs)/\oS room first axs/\∀ (H':Hp) (D:Addr),(∀ H0,Ext H0 H->H0 x=none->Ext H0 H')->H D=none->H' x=some (.ins C dx (dD room first D))->dB H' D (axL (axs.map aF))->Q .non H')
theorem lN(C:Addr)(x:Addr)(room:Int)(first:Int)(l:Addr)(H:Hp)(Q:VK)(E:XK):mV C [.ref x,.int room,.int first,.ref l] H Q E=(∃ (dx:Addr) (axs:List (Int × Int)),H x=some (.ins C dx [])/\dB H l (axL axs)/\oS room first axs/\∀ (H':Hp) (D:Addr),(∀ H0,Ext H0 H->H0 x=none->Ext H0 H')->H D=none->H' x=some (.ins C dx (dD room first D))->dB H' D (axL (axs.map aF))->Q .non H'):=yO (f:=λ (x:Addr) (room:Int) (first:Int) (l:Addr)=>[.ref x,.int room,.int first,.ref l]) (λ _ _ _ _ _ _ _ _ h=>by cases h;exact⟨rfl,rfl,rfl,rfl⟩) x room first l
theorem vk(C:Addr){vs:List V}{H:Hp}{Q:VK}{E:XK}(h:mV C vs H Q E):vs.length=4:=yP h λ _ _ _ _=>rfl
theorem gf(T:Tx K mg t):bC P w K mg base CX0 6 t.a_View___init__ t.d_View___init__ ["self", "room", "first", "axes"] (mV t.a_View):=by
 have G_is_within:=%[fU|46];have G_is_whole:=%[cp|46];have G_are_axes:=%[nH|46];have G_kept_axis:=%[mq|46];have G_View_least:=%[kI|46];have G_View_greatest:=%[gd|46];refine T.F_View___init__.ok iM (λ vs H Q E h=>vk _ h) (λ c A o s H vs Q E hr h=>?_)
 ·obtain⟨x,room,first,l,rfl,dx,axs,hx,tl,vok,k⟩:=h;have c1:=T.cl_View;have c2:=T.na_View_first;have c3:=T.na_View_axes;have c4:=T.na_View_room;refine⟨_,%[%[(PW.pt %[%[%[%[is_within,%[%[1|0],%[%[0|2],%[(@jP _ _ (.int 1000000000000000000) _ _ ∅ T.m_MOST_ROOM.choose_spec ⟨_,rfl⟩ ⋯)|1]|1]|1]|3],(by intros;rfl)|19]|22],%[%[%[%[is_whole,%[%[2|0]|1]|3],(by intros;rfl)|19]|22],%[%[%[%[are_axes,%[%[3|0]|1]|3],(by intros;rfl)|19]|22]|28]|20]|20]),%[(@gn _ _)|12],(@ao _)|16],%[(@kf _ _ _ _ _ _ _ _ %[0|0] %[1|0] rfl),%[(@kf _ _ _ _ _ _ _ _ %[0|0] %[2|0] rfl),%[(@kf _ _ _ _ _ _ _ _ %[0|0] %[(["axis", "self", "room", "first", "axes"]),(1),(aG (aa bV) ["self", "room", "first", "axes"] rfl rfl nofun),rfl,%[%[3|0]|24],(λ C s₀ H₀ ex pn=>%[(0),_,(show List.Nodup (["axis", "self", "room", "first", "axes"]:List Str) from by decide +kernel),rfl,(Or.inl rfl),%[0|7]|17]),(λ C s₀ H₀ ex pn=>(@aM _)),(λ C s₀ H₀ ex pn=>%[kept_axis,%[%[0|0]|1]|3]),(by intros;rfl)|25] rfl),%[%[(PW.pt %[%[cj,(@ly _ _ _ _ _ _ _ _ _ _ _ _ _ _ _ _ _ %[0|0] T.cl_View T.mt_View_least G_View_least (hr.mono ⋯) T.b_View_least .nil rV ∅),%[0|2],(ae _)|14],%[%[zN,(@ly _ _ _ _ _ _ _ _ _ _ _ _ _ _ _ _ _ %[0|0] T.cl_View T.mt_View_greatest G_View_greatest (hr.mono ⋯) T.b_View_greatest .nil rV ∅),%[1|0],(ae _)|14]|28]|20]),%[(@gn _ _)|12],(@ao _)|16]|12]|11]|11]|11]|11],?_⟩;rw [show start ["self", "room", "first", "axes"] [.ref x,.int room,.int first,.ref l]=[some (.ref x),some (.int room),some (.int first),some (.ref l)] from rfl];have r1:=vok.r1;have r2:=vok.r2;simp! only [↓jq,↓bR];rw [yN];refine⟨axs,tl,vok.ax,λ H1 e1=>?_⟩;have hx1:=e1.at hx;have tl1:=tl.ext e1;clear hx tl;ac_rfl;refine⟨(show (1:Nat) < 1000 by decide),?_⟩;obtain⟨ys,hl1,al1⟩:=tl1;have hlx:l ≠ x:=λ z=>by rw [z,hx1] at hl1;cases hl1
  have hx2:(upd H1 x (HO.ins t.a_View dx (dZ "first" (V.int first) (dZ "room" (V.int room) [])))) x=some (HO.ins t.a_View dx (dZ "first" (V.int first) (dZ "room" (V.int room) []))):=ai
  have hl2:(upd H1 x (HO.ins t.a_View dx (dZ "first" (V.int first) (dZ "room" (V.int room) [])))) l=some (.lst ys):=by rw [ah hlx];exact hl1
  have al2:Al (λ a y=>axP a y (upd H1 x (HO.ins t.a_View dx (dZ "first" (V.int first) (dZ "room" (V.int room) []))))) axs ys:=(lh al1).imp λ a y ⟨q,hy,hq⟩=>⟨q,hy,by rw [ah (λ z=>by rw [z,hx1] at hq;cases hq)];exact hq⟩;have b2:∀ H0,Ext H0 H->H0 x=none->Ext H0 (upd H1 x (HO.ins t.a_View dx (dZ "first" (V.int first) (dZ "room" (V.int room) [])))):=λ H0 q0 q1=>(q0.trans e1).put q1
  have b3:∀ b,b ≠ x->(upd H1 x (HO.ins t.a_View dx (dZ "first" (V.int first) (dZ "room" (V.int room) [])))) b=none->H b=none:=λ b hb q=>by rw [ah hb] at q;exact e1.free q
  generalize upd H1 x (HO.ins t.a_View dx (dZ "first" (V.int first) (dZ "room" (V.int room) [])))=H2 at hx2 hl2 al2 b2 b3;clear hl1 al1 hx1;ac_rfl;have wk:=fq (K:=K) (R:=axP) (λ _ _ _ _ h e=>h.ext e) hl2 al2;refine pI axs (λ _=>true) axP (λ D a y H'=>∃ q,y=.ref q/\q ≠ D/\H' q=some (.tup [.int (aF a).1,.int (aF a).2])) wk.1 wk.2 (λ D _ y H1 H2 ⟨q,h1,h2,h3⟩ e=>⟨q,h1,h2,e.at h3⟩) (λ D _ y H1 o ⟨q,h1,h2,h3⟩=>⟨q,h1,h2,by rw [ah h2];exact h3⟩) (ay (by have:=vok.ax.1;omega)) ?_ ?_
  ·intro D a y H' N1 N0 ha hD e ⟨ys0,hys0⟩ ⟨q,hy,hq⟩ k1 _;subst hy;have k1':=k1 rfl;clear k1 k;simp! only [↓bE,↓aN];rw [yG];exact⟨a,hq,λ r H'' hr' e' h'=>k1' _ H'' e' ⟨r,rfl,(λ z=>by rw [z,hys0] at hr';cases hr'),h'⟩⟩
  ·intro D zs H3 hD e3 hD3 al3;rw [iO] at al3;have hx3:=e3.at hx2;have hDx:D ≠ x:=λ z=>by rw [z,hx2] at hD;cases hD
   clear wk;ac_rfl;refine⟨(show (2:Nat) < 1000 by decide),?_⟩
   have tt:dB (upd H3 x (HO.ins t.a_View dx (dD room first D))) D (axL (axs.map aF)):=by
    refine⟨zs,by rw [ah hDx];exact hD3,?_,λ i z y hz hy=>?_⟩
    ·rw [al3.1];unfold axL;rw [length_map,length_map]
    ·unfold axL at hz;rw [map_map,getElem?_map] at hz;obtain⟨a,ha,rfl⟩:=Option.map_eq_some_iff.mp hz;obtain⟨q,hq1,_,hq3⟩:=al3.2 i a y ha hy;exact⟨q,hq1,by rw [ah (λ z=>by rw [z,hx3] at hq3;cases hq3)];exact hq3⟩
   have b4:∀ H0,Ext H0 H->H0 x=none->Ext H0 (upd H3 x (HO.ins t.a_View dx (dD room first D))):=λ H0 q0 q1=>((b2 H0 q0 q1).trans e3).put q1;have hx4:(upd H3 x (HO.ins t.a_View dx (dD room first D))) x=some (HO.ins t.a_View dx (dD room first D)):=ai
   have f1:=vn room first D (m := "least") nofun
   have f2:=vn room first D (m := "greatest") nofun
   refine⟨f1,?_⟩
   show jM t.a_View [V.ref x] (upd H3 x (HO.ins t.a_View dx (dD room first D))) _ _
   generalize upd H3 x (HO.ins t.a_View dx (dD room first D))=H4 at tt b4 hx4
   have vo:bf t.a_View H4 x room first (axs.map aF):=⟨dx,D,hx4,tt⟩
   rw [vY];refine⟨room,first,axs.map aF,vo,vok.ax.kept,λ H5 e5=>?_⟩
   have hlo:¬ first+bG (axs.map aF) < 0:=by have:=vok.lo;omega
   have hx5:=e5.at hx4;ac_rfl;rw [mF];refine⟨room,first,axs.map aF,vo.ext e5,vok.ax.kept,λ H6 e6=>?_⟩
   have hhi:¬ room<=first+bH (axs.map aF):=by have:=vok.hi;omega
   have k':=k H6 D (λ H0 q0 q1=>((b4 H0 q0 q1).trans e5).trans e6) (b3 D hDx hD) (e6.at hx5) ((tt.ext e5).ext e6);clear k;ac_rfl
def zH  : Sp:=λ vs H Q E=>∃ (a:Int) (b:Int),vs=[.int a,.int b]/\(Q (.int (Int.gcd a b:Int)) H)
theorem Cq  (a:Int) (b:Int) (H:Hp) (Q:VK) (E:XK):zH  [.int a,.int b] H Q E=(Q (.int (Int.gcd a b:Int)) H):=rH (f:=λ (a:Int) (b:Int)=>[.int a,.int b]) (λ _ _ _ _ h=>by cases h;exact⟨rfl,rfl⟩) a b
theorem B4  {vs:List V}{H:Hp}{Q:VK}{E:XK}(h:zH  vs H Q E):vs.length=2:=rL h λ _ _=>rfl
theorem qp(T:Tx K mg t):bC P w K mg base CX0 1 t.a_divisor t.d_divisor ["one", "other"] zH:=by
 refine T.F_divisor.ok da (λ vs H Q E h=>B4 h) (λ c A o s H vs Q E hr h=>?_)
 ·obtain⟨a,b,rfl,k⟩:=h;refine⟨_,%[%[2,da,%[abs,bQ,%[%[0|0]|1]|6]|4],%[%[3,da,%[abs,bQ,%[%[1|0]|1]|6]|4],%[(@ke _ _ _ _ _ _ Ki %[(ck hr.units),%[3|0],%[0|2],(ae _)|14] %[%[4,da,%[aS,%[2|0],%[3|0]|9]|4],%[%[2,da,%[3|0]|4],%[%[3,da,%[4|0]|4]|12]|11]|11]),%[%[%[2|0]|13]|12]|11]|11]|11],?_⟩;rw [show start ["one", "other", "found", "rest", "smaller"] [.int a,.int b]=[some (.int a),some (.int b),none,none,none] from rfl];ac_rfl;refine mR (by repeat' first|exact zT|exact tF|exact mo_nI|apply ki|apply mo_unN|exact oI|exact Gn|exact oJ|exact mo_rI|exact mo_rIsN|exact mo_rNotN|exact tD|exact mo_qIx|exact tE|exact nt|apply jQ|apply mo_tB|apply mo_not|apply mo_and|apply mo_or|apply zU|apply mo_un|apply nu|apply mo_qLst|apply zV) (λ m σ H'=>∃ (f r:Int) (sm:Option V),σ=[some (.int a),some (.int b),some (.int f),some (.int r),sm]/\H'=H/\m=r.toNat/\0<=f/\0<=r/\Int.gcd f r=Int.gcd a b) _ ⟨_,_,_,rfl,rfl,rfl,zw a,zw b,B8 a b⟩ ?_;rintro m _ _ ⟨f,r,sm,rfl,rfl,rfl,hf,hr',hg⟩;rename_i H
  by_cases hz:r=0
  ·subst hz;have e:f=(Int.gcd a b:Int):=by rw [←hg];exact(pz f hf).symm
   rw [←e] at k;clear e hg;ac_rfl
  ·have hp:0 < r:=by omega
   have e1:=pC f r hp hf;have e2:=Ky f hp;have e3:=Ko f hz;have fin:∃ m',m' < r.toNat/\∃ (f' r':Int) (sm':Option V),([some (V.int a),some (V.int b),some (V.int r),some (V.int (f % r)),some (V.int (f % r))]:St)=[some (V.int a),some (V.int b),some (V.int f'),some (V.int r'),sm']/\m'=r'.toNat/\0<=f'/\0<=r'/\Int.gcd f' r'=Int.gcd a b:=⟨_,by omega,r,f % r,_,rfl,rfl,hr',e3,e1.trans hg⟩;clear k e1 hg;ac_rfl
abbrev p0  (p:Addr) (H:Hp) (Q:VK) (E:XK):Prop:=∃ ns:List Int,H p=some (.lst (ns.map V.int))/\Q (.int (iS ns)) H
def sQ  : Sp:=λ vs H Q E=>∃ (p:Addr),vs=[.ref p]/\(p0  p H Q E)
theorem yL  (p:Addr) (H:Hp) (Q:VK) (E:XK):sQ  [.ref p] H Q E=(p0  p H Q E):=rJ (f:=λ (p:Addr)=>[.ref p]) (λ _ _ h=>by cases h;exact rfl) p
theorem xV  {vs:List V}{H:Hp}{Q:VK}{E:XK}(h:sQ  vs H Q E):vs.length=1:=p9 h λ _=>rfl
theorem kE(T:Tx K mg t):bC P w K mg base CX0 2 t.a_divisor_of t.d_divisor_of ["numbers"] sQ:=by
 have G_divisor:=%[qp|46];refine T.F_divisor_of.ok cG (λ vs H Q E h=>xV h) (λ c A o s H vs Q E hr h=>?_)
 ·obtain⟨p,rfl,ns,hp,k⟩:=h;refine⟨_,%[%[1,cG,%[0|2]|4],%[%[Ki,rfl,%[%[0|0]|24],%[2,cG|5],%[%[1,cG,%[divisor,%[%[1|0],%[%[2|0]|1]|1]|3]|4]|12],(by intros;rfl)|33],%[%[%[1|0]|13]|12]|11]|11],?_⟩;rw [show start ["numbers", "found", "number"] [.ref p]=[some (.ref p),none,none] from rfl];clear G_divisor;ac_rfl;refine dM (xs:=ns.map V.int) (λ i σ H'=>∃ v:Option V,σ=[some (.ref p),some (.int (iS (ns.take i))),v]/\H'=H) ⟨none,rfl,rfl⟩ (λ i σ H' _ ⟨_,_,e⟩=>by rw [e];exact hp) ?_ ?_
  ·rintro i y _ _ hi ⟨v,rfl,rfl⟩;rename_i H;rw [J5] at hi;obtain⟨z,hz,rfl⟩:=J6.mp hi;have e1:=lL ns i z hz;clear hz hi k;simp! only [↓aQ];rw [Cq];ac_rfl;exact⟨_,rfl⟩
  ·rintro _ _ ⟨v,rfl,rfl⟩;rename_i H;have e2:iS (ns.take (ns.map V.int).length)=iS ns:=by rw [JT,Lk]
   rw [e2];ac_rfl
theorem yZ{zs:List Tm3}(h:cL zs){z:Tm3}(hz:z∈zs)(b:Int):iQ z.1 b:=.inl (by have:=(h.all z hz).1;omega)
abbrev pR  (p:Addr) (q:Addr) (H:Hp) (Q:VK) (E:XK):Prop:=∃ (zs:List Tm3) (cs:List (Int × Int)),gg H p zs/\cU H q cs/\cL zs/\cJ zs cs/\∀ H',Ext H H'->Q (.int (bp zs cs)) H'
def sI  : Sp:=λ vs H Q E=>∃ (p:Addr) (q:Addr),vs=[.ref p,.ref q]/\(pR  p q H Q E)
theorem ei  (p:Addr) (q:Addr) (H:Hp) (Q:VK) (E:XK):sI  [.ref p,.ref q] H Q E=(pR  p q H Q E):=rH (f:=λ (p:Addr) (q:Addr)=>[.ref p,.ref q]) (λ _ _ _ _ h=>by cases h;exact⟨rfl,rfl⟩) p q
theorem xO  {vs:List V}{H:Hp}{Q:VK}{E:XK}(h:sI  vs H Q E):vs.length=2:=rL h λ _ _=>rfl
theorem cE(T:Tx K mg t):bC P w K mg base CX0 1 t.a_least_sum t.d_least_sum ["terms", "case"] sI:=by
 refine T.F_least_sum.ok og (λ vs H Q E h=>xO h) (λ c A o s H vs Q E hr h=>?_)
 ·obtain⟨p,q,rfl,zs,cs,⟨ys,hp,al⟩,⟨xs,hq,bl⟩,ht,hc,k⟩:=h;refine⟨_,%[%[%[sum,(bP rfl),%[%[(["term", "bounds", "terms", "case"]),(2),(aG (aa dm) ["terms", "case"] rfl rfl nofun),rfl,%[∅,T.z_zip,%[%[0|0],%[%[1|0]|1]|1],∅,∅|38],(λ C s₀ H₀ ex pn=>(%[(2),rfl,%[%[(0),_,(show List.Nodup (["term", "bounds", "terms", "case"]:List Str) from by decide +kernel),rfl,(Or.inl rfl),%[0|7]|17],%[%[(1),_,(show List.Nodup (["term", "bounds", "terms", "case"]:List Str) from by decide +kernel),rfl,(Or.inl rfl),%[0|7]|17],(@aA _),∅|15],∅|15],∅,∅|21].mono λ _ _ _ _ h=>aX h)),(λ C s₀ H₀ ex pn=>(@aM _)),(λ C s₀ H₀ ex pn=>%[aW,%[az,%[0|0],%[0|2],(λ _ _=>rfl)|10],%[az,%[1|0],%[0|2],(λ _ _=>rfl)|10]|9]),(by intros;rfl)|25]|1]|6]|13]|12],?_⟩;rw [show start ["terms", "case"] [.ref p,.ref q]=[some (.ref p),some (.ref q)] from rfl];ac_rfl;have wk:=jJ (R1:=trP) (R2:=axP) (λ _ _ _ _ h e=>h.ext e) (λ _ _ _ _ h e=>h.ext e) hp hq al bl;refine bc (zs.zip cs) (λ _=>true) (λ z=>.int (z.1.1 * z.2.1)) (zy trP axP) wk.1 wk.2 (ay (by have:=ht.len;rw [KI];omega)) ?_ ?_
  ·intro D z y H' N1 N0 hz hD e ⟨u,q1,q2,hu,hu2,⟨r1,h1,h1'⟩,⟨r2,h2,h2'⟩⟩ k1 _;subst hu h1 h2;have k1':N1 (.int (z.1.1 * z.2.1)) H':=k1 rfl H' (Ext.refl _);have hcm:=yZ ht (LC hz).1 z.2.1;clear k1 k;simp! only [↓bM,↓aN]
  ·intro D H' hD e hD';rw [iO,show ((zs.zip cs).map λ z=>V.int (z.1.1 * z.2.1))=((zs.zip cs).map λ z=>z.1.1 * z.2.1).map V.int by rw [KG];rfl] at hD';have k2:Q (.int ((zs.zip cs).map λ z=>z.1.1 * z.2.1).sum) H':=k H' e;clear k wk;ac_rfl
abbrev pZ  (p:Addr) (q:Addr) (H:Hp) (Q:VK) (E:XK):Prop:=∃ (zs:List Tm3) (cs:List (Int × Int)),gg H p zs/\cU H q cs/\cL zs/\cJ zs cs/\∀ H',Ext H H'->Q (.int (b9 zs cs)) H'
def sP  : Sp:=λ vs H Q E=>∃ (p:Addr) (q:Addr),vs=[.ref p,.ref q]/\(pZ  p q H Q E)
theorem gA  (p:Addr) (q:Addr) (H:Hp) (Q:VK) (E:XK):sP  [.ref p,.ref q] H Q E=(pZ  p q H Q E):=rH (f:=λ (p:Addr) (q:Addr)=>[.ref p,.ref q]) (λ _ _ _ _ h=>by cases h;exact⟨rfl,rfl⟩) p q
theorem xU  {vs:List V}{H:Hp}{Q:VK}{E:XK}(h:sP  vs H Q E):vs.length=2:=rL h λ _ _=>rfl
theorem bW(T:Tx K mg t):bC P w K mg base CX0 1 t.a_greatest_sum t.d_greatest_sum ["terms", "case"] sP:=by
 refine T.F_greatest_sum.ok i8 (λ vs H Q E h=>xU h) (λ c A o s H vs Q E hr h=>?_)
 ·obtain⟨p,q,rfl,zs,cs,⟨ys,hp,al⟩,⟨xs,hq,bl⟩,ht,hc,k⟩:=h;refine⟨_,%[%[%[sum,(bP rfl),%[%[(["term", "bounds", "terms", "case"]),(2),(aG (aa bZ) ["terms", "case"] rfl rfl nofun),rfl,%[∅,T.z_zip,%[%[0|0],%[%[1|0]|1]|1],∅,∅|38],(λ C s₀ H₀ ex pn=>(%[(2),rfl,%[%[(0),_,(show List.Nodup (["term", "bounds", "terms", "case"]:List Str) from by decide +kernel),rfl,(Or.inl rfl),%[0|7]|17],%[%[(1),_,(show List.Nodup (["term", "bounds", "terms", "case"]:List Str) from by decide +kernel),rfl,(Or.inl rfl),%[0|7]|17],(@aA _),∅|15],∅|15],∅,∅|21].mono λ _ _ _ _ h=>aX h)),(λ C s₀ H₀ ex pn=>(@aM _)),(λ C s₀ H₀ ex pn=>%[aW,%[az,%[0|0],%[0|2],(λ _ _=>rfl)|10],%[az,%[1|0],%[0|2],(λ _ _=>rfl)|10]|9]),(by intros;rfl)|25]|1]|6]|13]|12],?_⟩;rw [show start ["terms", "case"] [.ref p,.ref q]=[some (.ref p),some (.ref q)] from rfl];ac_rfl;have wk:=jJ (R1:=trP) (R2:=axP) (λ _ _ _ _ h e=>h.ext e) (λ _ _ _ _ h e=>h.ext e) hp hq al bl;refine bc (zs.zip cs) (λ _=>true) (λ z=>.int (z.1.1 * z.2.2)) (zy trP axP) wk.1 wk.2 (ay (by have:=ht.len;rw [KI];omega)) ?_ ?_
  ·intro D z y H' N1 N0 hz hD e ⟨u,q1,q2,hu,hu2,⟨r1,h1,h1'⟩,⟨r2,h2,h2'⟩⟩ k1 _;subst hu h1 h2;have k1':N1 (.int (z.1.1 * z.2.2)) H':=k1 rfl H' (Ext.refl _);have hcm:=yZ ht (LC hz).1 z.2.2;clear k1 k;simp! only [↓bM,↓aN]
  ·intro D H' hD e hD';rw [iO,show ((zs.zip cs).map λ z=>V.int (z.1.1 * z.2.2))=((zs.zip cs).map λ z=>z.1.1 * z.2.2).map V.int by rw [KG];rfl] at hD';have k2:Q (.int ((zs.zip cs).map λ z=>z.1.1 * z.2.2).sum) H':=k H' e;clear k wk;ac_rfl
abbrev pP  (p:Addr) (q:Addr) (H:Hp) (Q:VK) (E:XK):Prop:=∃ (zs:List Tm3) (cs:List (Int × Int)),gg H p zs/\cU H q cs/\cL zs/\cJ zs cs/\∀ H',Ext H H'->Q (.int (iS (b5 zs cs))) H'
def sG  : Sp:=λ vs H Q E=>∃ (p:Addr) (q:Addr),vs=[.ref p,.ref q]/\(pP  p q H Q E)
theorem yE  (p:Addr) (q:Addr) (H:Hp) (Q:VK) (E:XK):sG  [.ref p,.ref q] H Q E=(pP  p q H Q E):=rH (f:=λ (p:Addr) (q:Addr)=>[.ref p,.ref q]) (λ _ _ _ _ h=>by cases h;exact⟨rfl,rfl⟩) p q
theorem xM  {vs:List V}{H:Hp}{Q:VK}{E:XK}(h:sG  vs H Q E):vs.length=2:=rL h λ _ _=>rfl
theorem qj(T:Tx K mg t):bC P w K mg base CX0 3 t.a_rest_of t.d_rest_of ["terms", "case"] sG:=by
 have G_divisor_of:=%[kE|46];refine T.F_rest_of.ok wg (λ vs H Q E h=>xM h) (λ c A o s H vs Q E hr h=>?_)
 ·obtain⟨p,q,rfl,zs,cs,⟨ys,hp,al⟩,⟨xs,hq,bl⟩,ht,hc,k⟩:=h;refine⟨_,%[%[%[divisor_of,%[%[(["term", "bounds", "terms", "case"]),(2),(aG (aa eZ) ["terms", "case"] rfl rfl nofun),rfl,%[∅,T.z_zip,%[%[0|0],%[%[1|0]|1]|1],∅,∅|38],(λ C s₀ H₀ ex pn=>(%[(2),rfl,%[%[(0),_,(show List.Nodup (["term", "bounds", "terms", "case"]:List Str) from by decide +kernel),rfl,(Or.inl rfl),%[0|7]|17],%[%[(1),_,(show List.Nodup (["term", "bounds", "terms", "case"]:List Str) from by decide +kernel),rfl,(Or.inl rfl),%[0|7]|17],(@aA _),∅|15],∅|15],∅,∅|21].mono λ _ _ _ _ h=>aX h)),(λ C s₀ H₀ ex pn=>(@nh _ _ _ %[cj,%[az,%[1|0],%[0|2],(λ _ _=>rfl)|10],%[az,%[1|0],%[0|2],(λ _ _=>rfl)|10],(ae _)|14])),(λ C s₀ H₀ ex pn=>%[az,%[0|0],%[0|2],(λ _ _=>rfl)|10]),(by intros;rfl)|25]|1]|3]|13]|12],?_⟩;rw [show start ["terms", "case"] [.ref p,.ref q]=[some (.ref p),some (.ref q)] from rfl];clear G_divisor_of;ac_rfl;have wk:=jJ (R1:=trP) (R2:=axP) (λ _ _ _ _ h e=>h.ext e) (λ _ _ _ _ h e=>h.ext e) hp hq al bl;refine bc (zs.zip cs) (λ z=>decide (z.2.1 < z.2.2)) (λ z=>.int z.1.1) (zy trP axP) wk.1 wk.2 (ay (by have:=ht.len;rw [KI];omega)) ?_ ?_
  ·intro D z y H' N1 N0 hz hD e ⟨u,q1,q2,hu,hu2,⟨r1,h1,h1'⟩,⟨r2,h2,h2'⟩⟩ k1 k0;subst hu h1 h2
   by_cases hlt:z.2.1 < z.2.2
   ·have k1':N1 (.int z.1.1) H':=k1 (J3 hlt) H' (Ext.refl _);clear k1 k0 k;simp! only [↓bM,↓aN]
   ·have k0':N0 H':=k0 (J1 hlt) H' (Ext.refl _);clear k1 k0 k;simp! only [↓bM,↓aN]
  ·intro D H' hD e hD';rw [show (((zs.zip cs).filter λ z=>decide (z.2.1 < z.2.2)).map λ z=>V.int z.1.1)=(b5 zs cs).map V.int by unfold b5;rw [map_map];rfl] at hD';have k2:=k H' e;clear k wk;ac_rfl;rw [yL];exact⟨_,hD',k2⟩
def wx(H:Hp)(s:List V)(v:V):Prop:=∃ r,v=.ref r/\H r=some (.tup s)
theorem wx.ext{H H':Hp}{s:List V}{v:V}(h:wx H s v)(e:Ext H H'):wx H' s v:=by
 obtain⟨r,h1,h2⟩:=h;exact⟨r,h1,e.at h2⟩
def CA(g l gr r:Int):Option (List V):=if g < l then some [.str "low"] else if gr < g then some [.str "high"] else if 1 < r/\(g - l) % r ≠ 0 then some [.str "rest",.int r] else none
def yQ(zs:List Tm3)(cs:List (Int × Int))(g:Int):Option (List V):=CA g (bp zs cs) (b9 zs cs) (iS (b5 zs cs))
def I0(H:Hp):Option (List V)->V->Prop
 | none,v=>v=.non
 | some s,v=>wx H s v
theorem qX{g l gr r:Int}:(CA g l gr r).isSome=b8 g l gr r:=by
 unfold CA b8
 by_cases h1:g < l
 ·rw [JR h1,J3 h1];rfl
 rw [JQ h1,J1 h1]
 by_cases h2:gr < g
 ·rw [JR h2,J3 h2];rfl
 rw [JQ h2,J1 h2]
 by_cases h3:1 < r
 ·have:=Ko (g - l) (show r ≠ 0 by omega)
  by_cases h4:(g - l) % r=0
  ·rw [JQ (λ h=>h.2 h4),h4,J1 (Int.lt_irrefl 0),Ma];rfl
  ·rw [JR ⟨h3,h4⟩,J3 h3,J3 (show 0 < (g - l) % r by omega)];rfl
 ·rw [JQ (λ h=>h3 h.1),J1 h3];rfl
theorem yr{zs:List Tm3}{cs:List (Int × Int)}{g:Int}{o:Option (List V)}(h:yQ zs cs g=o):cK zs cs g=o.isSome:=by
 rw [←h];exact qX.symm
abbrev mj  (p:Addr) (g:Int) (q:Addr) (H:Hp) (Q:VK) (E:XK):Prop:=∃ (zs:List Tm3) (cs:List (Int × Int)),gg H p zs/\cU H q cs/\cL zs/\cJ zs cs/\∀ v H',Ext H H'->I0 H' (yQ zs cs g) v->Q v H'
def m9  : Sp:=λ vs H Q E=>∃ (p:Addr) (g:Int) (q:Addr),vs=[.ref p,.int g,.ref q]/\(mj  p g q H Q E)
theorem wc  (p:Addr) (g:Int) (q:Addr) (H:Hp) (Q:VK) (E:XK):m9  [.ref p,.int g,.ref q] H Q E=(mj  p g q H Q E):=rG (f:=λ (p:Addr) (g:Int) (q:Addr)=>[.ref p,.int g,.ref q]) (λ _ _ _ _ _ _ h=>by cases h;exact⟨rfl,rfl,rfl⟩) p g q
theorem vE  {vs:List V}{H:Hp}{Q:VK}{E:XK}(h:m9  vs H Q E):vs.length=3:=rK h λ _ _ _=>rfl
theorem uM(T:Tx K mg t):bC P w K mg base CX0 4 t.a_end_of t.d_end_of ["terms", "goal", "case"] m9:=by
 have G_least_sum:=%[cE|46];have G_greatest_sum:=%[bW|46];have G_rest_of:=%[qj|46];refine T.F_end_of.ok ky (λ vs H Q E h=>vE h) (λ c A o s H vs Q E hr h=>?_)
 ·obtain⟨p,g,q,rfl,zs,cs,hp,hq,ht,hc,k⟩:=h;refine⟨_,%[%[3,ky,%[least_sum,%[%[0|0],%[%[2|0]|1]|1]|3]|4],%[%[%[cW,%[3|0],%[1|0],(ae _)|14],%[%[%[%[(@br _ _ _ _)|1]|18]|13]|12],(@ao _)|16],%[%[%[cj,%[greatest_sum,%[%[0|0],%[%[2|0]|1]|1]|3],%[1|0],(ae _)|14],%[%[%[%[(@br _ _ _ _)|1]|18]|13]|12],(@ao _)|16],%[%[4,ky,%[rest_of,%[%[0|0],%[%[2|0]|1]|1]|3]|4],%[%[(PW.pt %[%[cW,%[4|0],%[0|2],(ae _)|14],%[%[(ck hr.units),%[aS,%[aE,%[1|0],%[3|0]|9],%[4|0]|9],%[0|2],(ae _)|14]|35]|32]),%[%[%[%[(@br _ _ _ _),%[%[4|0]|1]|1]|18]|13]|12],(@ao _)|16],%[%[(@dz _ _ _)|13]|12]|11]|11]|11]|11]|11],?_⟩;rw [show start ["terms", "goal", "case", "least", "rest"] [.ref p,.int g,.ref q]=[some (.ref p),some (.int g),some (.ref q),none,none] from rfl];clear G_least_sum G_greatest_sum G_rest_of;unfold yQ at k;have en:∀ o,CA g (bp zs cs) (b9 zs cs) (iS (b5 zs cs))=o->∀ v H',Ext H H'->I0 H' o v->Q v H':=λ o ho v H' e h=>k v H' e (by rw [ho];exact h);unfold CA at en;exists en;clear k;ac_rfl;rw [ei];refine⟨zs,cs,hp,hq,ht,hc,λ H1 e1=>?_⟩
  by_cases h1:g < bp zs cs
  ·have k:=en () _ (JR h1);exists k;clear en;ac_rfl;intro r H2 hr2 e2 h2;exact k () _ H2 (e1.trans e2) ⟨r,rfl,h2⟩
  ac_rfl;rw [gA];refine⟨zs,cs,bL hp e1,aC hq e1,ht,hc,λ H2 e2=>?_⟩
  by_cases h2:b9 zs cs < g
  ·have k:=en () _ (by rw [JQ h1,JR h2]);exists k;clear en;ac_rfl;intro r H3 hr3 e3 h3;exact k () _ H3 (e1.trans (e2.trans e3)) ⟨r,rfl,h3⟩
  ac_rfl;rw [yE];refine⟨zs,cs,bL hp (e1.trans e2),aC hq (e1.trans e2),ht,hc,λ H3 e3=>?_⟩;have hgn:=nC (b5 zs cs);generalize iS (b5 zs cs)=r at en hgn
  by_cases h3:1 < r
  ·have hr0:0 < r:=by omega
   by_cases h4:(g - bp zs cs) % r=0
   ·have k2:=en () none (by rw [JQ h1,JQ h2,JQ (λ h=>h.2 h4)]) .non H3 (e1.trans (e2.trans e3)) rfl;clear en;ac_rfl
   ·have k:=en () _ (by rw [JQ h1,JQ h2,JR ⟨h3,h4⟩]);exists k;clear en;ac_rfl;intro r' H4 hr4 e4 h4';exact k () _ H4 (e1.trans (e2.trans (e3.trans e4))) ⟨r',rfl,h4'⟩
  ·have k2:=en () none (by rw [JQ h1,JQ h2,JQ (λ h=>h3 h.1)]) .non H3 (e1.trans (e2.trans e3)) rfl;clear en;ac_rfl
abbrev Bx:=List (Int × Int)
def InB:Bx->List Int->Prop
 | [],[]=>True
 | b::cs,x::xs=>(b.1<=x/\x<=b.2)/\InB cs xs
 | _,_=>False
def i9:List Tm3->List Int->Int
 | z::zs,x::xs=>z.1 * x+i9 zs xs
 | _,_=>0
def Jk:Bx->Int
 | []=>1
 | b::cs=>(b.2 - b.1+1) * Jk cs
def Je(cs:Bx):Prop:=∀ b∈cs,b.1<=b.2
theorem bt(z:Tm3)(b:Int × Int)(zs:List Tm3)(cs:Bx):bp (z::zs) (b::cs)=z.1 * b.1+bp zs cs/\b9 (z::zs) (b::cs)=z.1 * b.2+b9 zs cs:=by
 unfold bp b9;rw [zip_cons_cons,map_cons,map_cons,sum_cons,sum_cons];exact⟨rfl,rfl⟩
theorem ic:∀ {zs:List Tm3}{cs:Bx}{xs:List Int},(∀ z∈zs,(0:Int)<=z.1)->cs.length=zs.length->InB cs xs->bp zs cs<=i9 zs xs/\i9 zs xs<=b9 zs cs
 | [],[],[],_,_,_=>⟨Kb _,Kb _⟩
 | [],_::_,_,_,h,_=>by simp at h
 | _::_,[],_,_,h,_=>by simp at h
 | _,[],_::_,_,_,h=>h.elim
 | _,_::_,[],_,_,h=>h.elim
 | z::zs,b::cs,x::xs,hz,hl,hx=>by
  have ih:=ic (zs:=zs) (cs:=cs) (xs:=xs) (λ y hy=>hz y (JN _ hy)) (by simpa using hl) hx.2;have h0:=hz z JP;have m1:=J4 hx.1.1 h0;have m2:=J4 hx.1.2 h0;obtain⟨s1,s2⟩:=bt z b zs cs;rw [s1,s2]
  show z.1 * b.1+bp zs cs<=z.1 * x+i9 zs xs/\z.1 * x+i9 zs xs<=z.1 * b.2+b9 zs cs
  omega
theorem pD:∀ (ns:List Int) (a:Int),(ns.foldl (λ f n=>(Int.gcd f n:Int)) a ∣ a)/\∀ n∈ns,ns.foldl (λ f n=>(Int.gcd f n:Int)) a ∣ n
 | [],a=>⟨Int.dvd_refl _,λ _ h=>by cases h⟩
 | n::ns,a=>by
  obtain⟨h1,h2⟩:=pD ns (Int.gcd a n:Int);refine⟨Int.dvd_trans h1 (Int.gcd_dvd_left ..),λ m hm=>?_⟩
  rcases J9.mp hm with rfl|hm
  ·exact Int.dvd_trans h1 (Int.gcd_dvd_right ..)
  ·exact h2 m hm
theorem o9(d:Int):∀ {zs:List Tm3}{cs:Bx}{xs:List Int},cs.length=zs.length->InB cs xs->(∀ n∈b5 zs cs,d ∣ n)->d ∣ i9 zs xs - bp zs cs
 | [],[],[],_,_,_=>⟨0,by rw [KO];rfl⟩
 | [],_::_,_,h,_,_=>by simp at h
 | _::_,[],_,h,_,_=>by simp at h
 | _,[],_::_,_,h,_=>h.elim
 | _,_::_,[],_,h,_=>h.elim
 | z::zs,b::cs,x::xs,hl,hx,hd=>by
  have hd':∀ n∈b5 zs cs,d ∣ n:=λ n hn=>hd n (by
   unfold b5 at hn ⊢;rw [zip_cons_cons];obtain⟨p,hp,e⟩:=List.mem_map.mp hn;obtain⟨q1,q2⟩:=List.mem_filter.mp hp;exact List.mem_map.mpr ⟨p,List.mem_filter.mpr ⟨mem_cons_of_mem _ q1,q2⟩,e⟩)
  have ih:=o9 d (zs:=zs) (cs:=cs) (xs:=xs) (by simpa using hl) hx.2 hd';rw [(bt z b zs cs).1]
  show d ∣ z.1 * x+i9 zs xs - (z.1 * b.1+bp zs cs)
  have e:z.1 * x+i9 zs xs - (z.1 * b.1+bp zs cs)=z.1 * (x - b.1)+(i9 zs xs - bp zs cs):=by rw [LL];omega
  rw [e];refine Int.dvd_add ?_ ih
  by_cases hb:b.1 < b.2
  ·have:d ∣ z.1:=hd z.1 (by
    unfold b5;rw [zip_cons_cons];exact List.mem_map.mpr ⟨(z,b),List.mem_filter.mpr ⟨mem_cons_self,decide_eq_true hb⟩,rfl⟩)
   exact Int.dvd_trans this (Int.dvd_mul_right ..)
  ·have:x - b.1=0:=by have:=hx.1;omega
   rw [this,KO];exact⟨0,by rw [KO]⟩
theorem InB.len:∀ {cs:Bx}{xs:List Int},InB cs xs->xs.length=cs.length
 | [],[],_=>rfl
 | [],_::_,h=>h.elim
 | _::_,[],h=>h.elim
 | _::_,_::_,h=>KC (· + 1) (InB.len h.2)
def upC(cs:Bx)(k:Nat)(at':Int):Bx:=cs.set k (at'+1,(cs.getD k default).2)
def loC(cs:Bx)(k:Nat)(at':Int):Bx:=cs.set k ((cs.getD k default).1,at')
theorem tU:∀ {cs:Bx}{xs:List Int}{k:Nat}{a:Int},k < cs.length->InB cs xs->InB (upC cs k a) xs\/InB (loC cs k a) xs
 | [],_,_,_,h,_=>by simp at h
 | _::_,[],_,_,_,h=>h.elim
 | b::cs,x::xs,0,a,_,hx=>by
  by_cases h:x<=a
  ·exact .inr ⟨⟨hx.1.1,h⟩,hx.2⟩
  ·exact .inl ⟨⟨by show a+1<=x;omega,hx.1.2⟩,hx.2⟩
 | b::cs,x::xs,k+1,a,hk,hx=>by
  rcases tU (cs:=cs) (k:=k) (a:=a) (by simpa using hk) hx.2 with h|h
  ·exact .inl ⟨hx.1,h⟩
  ·exact .inr ⟨hx.1,h⟩
theorem ua:∀ {cs ds:Bx}{xs:List Int},InB cs xs->ds.length=cs.length->(∀ i:Nat,i < cs.length->(ds.getD i default).1<=(cs.getD i default).1/\(cs.getD i default).2<=(ds.getD i default).2)->InB ds xs
 | [],[],[],_,_,_=>trivial
 | [],_::_,_,_,h,_=>by simp at h
 | _::_,[],_,_,h,_=>by simp at h
 | [],_,_::_,h,_,_=>h.elim
 | _::_,_,[],h,_,_=>h.elim
 | b::cs,d::ds,x::xs,hx,hl,h=>by
  have h0:=h 0 (by simp);have h0':d.1<=b.1/\b.2<=d.2:=h0;refine⟨by have:=hx.1;omega,ua hx.2 (by simpa using hl) λ i hi=>?_⟩;exact h (i+1) (by simpa using hi)
theorem cJ.at{zs:List Tm3}{cs:Bx}(h:cJ zs cs){i:Nat}(hi:i < zs.length):(zs.getD i default).2.1<=(cs.getD i default).1/\(cs.getD i default).1<=(cs.getD i default).2/\(cs.getD i default).2<=(zs.getD i default).2.2:=by
 have hc:i < cs.length:=by rw [h.len];exact hi
 have hm:(zs[i],cs[i])∈zs.zip cs:=by
  have:(zs.zip cs)[i]? = some (zs[i],cs[i]):=by rw [Kt];exact⟨JJ hi,JJ hc⟩
  exact K1 this
 have:=h.all _ hm;rw [JW,JW,JJ hi,JJ hc];exact this
theorem cJ.of{zs:List Tm3}{cs:Bx}(hl:cs.length=zs.length)(h:∀ i:Nat,i < zs.length->(zs.getD i default).2.1<=(cs.getD i default).1/\(cs.getD i default).1<=(cs.getD i default).2/\(cs.getD i default).2<=(zs.getD i default).2.2):cJ zs cs:=by
 refine⟨hl,λ p hp=>?_⟩;obtain⟨i,hi⟩:=L3.mp hp;obtain⟨h1,h2⟩:=Kt.mp hi;have hz:=(JM.mp h1).1;have:=h i hz;rw [JW,JW,h1,h2] at this;exact this
theorem cJ.bx{zs:List Tm3}{cs:Bx}(h:cJ zs cs):Je cs:=λ b hb=>by
 obtain⟨i,hi⟩:=L3.mp hb;have hl:=(JM.mp hi).1;have:=(h.at (i:=i) (by rw [←h.len];exact hl)).2.1;rw [JW,hi] at this;exact this
theorem lK{cs:Bx}{k i:Nat}{b:Int × Int}(hk:k < cs.length):(cs.set k b).getD i default=if i=k then b else cs.getD i default:=by
 rw [JW,JW,List.getElem?_set]
 by_cases h:i=k
 ·subst h;rw [JR rfl,JR hk,JR rfl];rfl
 ·rw [JQ (λ e=>h e.symm),JQ h]
theorem cJ.part{zs:List Tm3}{cs:Bx}{k:Nat}{a:Int}(h:cJ zs cs)(hk:k < zs.length)(h1:(cs.getD k default).1<=a)(h2:a < (cs.getD k default).2):cJ zs (upC cs k a)/\cJ zs (loC cs k a):=by
 have hc:k < cs.length:=by rw [h.len];exact hk
 have hk':=h.at hk;refine⟨cJ.of (by unfold upC;rw [length_set];exact h.len) λ i hi=>?_,cJ.of (by unfold loC;rw [length_set];exact h.len) λ i hi=>?_⟩
 ·unfold upC;rw [lK hc]
  by_cases e:i=k
  ·subst e;rw [JR rfl];show _<=a+1/\a+1<=(cs.getD i default).2/\_;omega
  ·rw [JQ e];exact h.at hi
 ·unfold loC;rw [lK hc]
  by_cases e:i=k
  ·subst e;rw [JR rfl];show _<=(cs.getD i default).1/\(cs.getD i default).1<=a/\a<=_;omega
  ·rw [JQ e];exact h.at hi
theorem oV:∀ {zs:List Tm3}{cs:Bx},cs.length=zs.length->i9 zs (cs.map λ b=>b.1)=bp zs cs/\i9 zs (cs.map λ b=>b.2)=b9 zs cs
 | [],[],_=>⟨rfl,rfl⟩
 | [],_::_,h=>by simp at h
 | _::_,[],h=>by simp at h
 | z::zs,b::cs,h=>by
  obtain⟨i1,i2⟩:=oV (zs:=zs) (cs:=cs) (by simpa using h);obtain⟨s1,s2⟩:=bt z b zs cs;rw [s1,s2,←i1,←i2];exact⟨rfl,rfl⟩
theorem uc:∀ {cs:Bx},Je cs->InB cs (cs.map λ b=>b.1)/\InB cs (cs.map λ b=>b.2)
 | [],_=>⟨trivial,trivial⟩
 | b::cs,h=>by
  have ih:=uc (cs:=cs) λ c hc=>h c (JN _ hc);have hb:=h b JP;exact⟨⟨⟨Kb _,hb⟩,ih.1⟩,⟨hb,Kb _⟩,ih.2⟩
def rO(zs:List Tm3)(g:Int)(cs:Bx):Option (List Int):=if bp zs cs=g then some (cs.map λ b=>b.1) else if b9 zs cs=g then some (cs.map λ b=>b.2) else none
theorem D9{zs:List Tm3}{g:Int}{cs:Bx}{xs:List Int}(h:cJ zs cs)(hx:rO zs g cs=some xs):InB cs xs/\i9 zs xs=g:=by
 obtain⟨v1,v2⟩:=oV h.len;obtain⟨i1,i2⟩:=uc h.bx;unfold rO at hx;split at hx
 ·rename_i e;cases hx;exact⟨i1,v1.trans e⟩
 ·split at hx
  ·rename_i e;cases hx;exact⟨i2,v2.trans e⟩
  ·cases hx
def gC(t:Int)(b:Int × Int)(al bg:Int):Int × Int:=(if b.1 < b.2 - bg / t then b.2 - bg / t else b.1,if b.1+al / t < b.2 then b.1+al / t else b.2)
def cv(zs:List Tm3)(cs:Bx)(al bg:Int):Nat->Option (Nat × Int × Int)
 | 0=>none
 | i+1=>if (cs.getD i default).1 < (cs.getD i default).2 then (match cv zs cs al bg i with
   | none=>some (i,gC (zs.getD i default).1 (cs.getD i default) al bg)
   | some q=>if (gC (zs.getD i default).1 (cs.getD i default) al bg).2 - (gC (zs.getD i default).1 (cs.getD i default) al bg).1 < q.2.2 - q.2.1 then some (i,gC (zs.getD i default).1 (cs.getD i default) al bg) else some q) else cv zs cs al bg i
theorem gQ{zs:List Tm3}{cs:Bx}{al bg:Int}:∀ {i:Nat}{q:Nat × Int × Int},cv zs cs al bg i=some q->q.1 < i/\(cs.getD q.1 default).1 < (cs.getD q.1 default).2/\q.2=gC (zs.getD q.1 default).1 (cs.getD q.1 default) al bg
 | 0,q,h=>by cases h
 | i+1,q,h=>by
  have ih:=λ q h=>gQ (zs:=zs) (cs:=cs) (al:=al) (bg:=bg) (i:=i) (q:=q) h;unfold cv at h;split at h
  ·rename_i hlt;split at h
   ·cases h;exact⟨K6 _,hlt,rfl⟩
   ·rename_i q' hq;split at h
    ·cases h;exact⟨K6 _,hlt,rfl⟩
    ·cases h;have:=ih _ hq;exact⟨by omega,this.2⟩
  ·have:=ih _ h;exact⟨by omega,this.2⟩
theorem ib{zs:List Tm3}{cs:Bx}{al bg:Int}:∀ {i:Nat},(∃ k,k < i/\(cs.getD k default).1 < (cs.getD k default).2)->∃ q,cv zs cs al bg i=some q
 | 0,⟨k,h,_⟩=>absurd h (Nat.not_lt_zero _)
 | i+1,⟨k,hk,hlt⟩=>by
  unfold cv
  by_cases h:(cs.getD i default).1 < (cs.getD i default).2
  ·rw [JR h]
   cases cv zs cs al bg i with
   | none=>exact⟨_,rfl⟩
   | some q=>
    dsimp only;split
    ·exact⟨_,rfl⟩
    ·exact⟨_,rfl⟩
  ·rw [JQ h];have hki:k ≠ i:=λ e=>h (by rw [←e];exact hlt);exact ib ⟨k,by omega,hlt⟩
def ba(cs:Bx)(q:Nat × Int × Int):Int:=if q.2.2 < (cs.getD q.1 default).2 then q.2.2 else if (cs.getD q.1 default).1 < q.2.1 then q.2.1 - 1 else (cs.getD q.1 default).1
theorem AX{zs:List Tm3}{cs:Bx}{al bg:Int}{i:Nat}{q:Nat × Int × Int}(hz:∀ j,j < i->(1:Int)<=(zs.getD j default).1)(ha:0<=al)(hb:0<=bg)(h:cv zs cs al bg i=some q):(cs.getD q.1 default).1<=ba cs q/\ba cs q < (cs.getD q.1 default).2:=by
 obtain⟨h1,h2,h3⟩:=gQ h;have ht:=hz q.1 h1;have d1:=Lh ha (show 0<=(zs.getD q.1 default).1 by omega);have d2:=Lh hb (show 0<=(zs.getD q.1 default).1 by omega);have e1:q.2.1=(gC (zs.getD q.1 default).1 (cs.getD q.1 default) al bg).1:=by rw [←h3]
 have e2:q.2.2=(gC (zs.getD q.1 default).1 (cs.getD q.1 default) al bg).2:=by rw [←h3]
 unfold gC at e1 e2;have e1':q.2.1=if (cs.getD q.1 default).1 < (cs.getD q.1 default).2 - bg / (zs.getD q.1 default).1 then (cs.getD q.1 default).2 - bg / (zs.getD q.1 default).1 else (cs.getD q.1 default).1:=e1
 have e2':q.2.2=if (cs.getD q.1 default).1+al / (zs.getD q.1 default).1 < (cs.getD q.1 default).2 then (cs.getD q.1 default).1+al / (zs.getD q.1 default).1 else (cs.getD q.1 default).2:=e2
 unfold ba;rw [e1',e2']
 repeat' split
 all_goals omega
theorem tN:∀ {zs:List Tm3}{cs:Bx},cs.length=zs.length->(∀ i:Nat,i < zs.length->(cs.getD i default).1=(cs.getD i default).2)->bp zs cs=b9 zs cs
 | [],[],_,_=>rfl
 | [],_::_,h,_=>by simp at h
 | _::_,[],h,_=>by simp at h
 | z::zs,b::cs,h,he=>by
  have ih:=tN (zs:=zs) (cs:=cs) (by simpa using h) λ i hi=>he (i+1) (by simpa using hi);obtain⟨s1,s2⟩:=bt z b zs cs;have h0:b.1=b.2:=he 0 (by simp);rw [s1,s2,ih,h0]
theorem hJ{zs:List Tm3}{cs:Bx}{g:Int}(h:cK zs cs g=false):bp zs cs<=g/\g<=b9 zs cs:=by
 unfold cK b8 at h;rw [Bool.or_eq_false_iff,Bool.or_eq_false_iff] at h;have h1:=of_decide_eq_false h.1.1;have h2:=of_decide_eq_false h.1.2;omega
theorem uJ{zs:List Tm3}{cs:Bx}{g:Int}(hc:cJ zs cs)(h:cK zs cs g=false)(hn:rO zs g cs=none):∃ k,k < zs.length/\(cs.getD k default).1 < (cs.getD k default).2:=by
 apply Classical.byContradiction;intro hno;obtain⟨h1,h2⟩:=hJ h
 have he:=tN hc.len λ i hi=>by
  have:=(hc.at hi).2.1;apply Classical.byContradiction;intro hne;exact hno ⟨i,hi,by omega⟩
 unfold rO at hn;rw [if_pos %[0|8]] at hn;cases hn
def Dc(zs:List Tm3)(g:Int)(cs:Bx):Nat × Int:=match cv zs cs (g - bp zs cs) (b9 zs cs - g) zs.length with
 | none=>(0,0)
 | some q=>(q.1,ba cs q)
theorem xm{zs:List Tm3}{g:Int}{cs:Bx}(hz:∀ z∈zs,(1:Int)<=z.1)(hc:cJ zs cs)(h:cK zs cs g=false)(hn:rO zs g cs=none):∃ q,cv zs cs (g - bp zs cs) (b9 zs cs - g) zs.length=some q/\Dc zs g cs=(q.1,ba cs q)/\q.1 < zs.length/\(cs.getD q.1 default).1<=ba cs q/\ba cs q < (cs.getD q.1 default).2:=by
 obtain⟨q,hq⟩:=ib (zs:=zs) (al:=g - bp zs cs) (bg:=b9 zs cs - g) (uJ hc h hn);obtain⟨h1,h2⟩:=hJ h;have hp:=AX (λ j hj=>by rw [getD_eq_getElem?_getD,getElem?_eq_getElem hj];exact hz _ (getElem_mem hj)) %[0|8] %[0|8] hq;refine⟨q,hq,?_,(gQ hq).1,hp⟩;unfold Dc;rw [hq]
def dI(zs:List Tm3)(g:Int)(c:Bx)(s:List V)(more:List Bx):Prop:=(s=[.str "low"]/\g < bp zs c/\more=[])\/(s=[.str "high"]/\b9 zs c < g/\more=[])\/(∃ d:Int,s=[.str "rest",.int d]/\2<=d/\(∀ n∈b5 zs c,d ∣ n)/\0 < (g - bp zs c) % d/\more=[])\/∃ (k:Nat) (a:Int),s=[.str "part",.int (k:Int),.int a]/\k < zs.length/\(c.getD k default).1<=a/\a < (c.getD k default).2/\cK zs c g=false/\more=[loC c k a,upC c k a]
def Rep(zs:List Tm3)(g:Int):List Bx->List (List V)->List Bx->Prop
 | st,[],st'=>st=st'
 | [],_::_,_=>False
 | c::st,s::p,st'=>∃ more,dI zs g c s more/\cJ zs c/\Rep zs g (more++st) p st'
theorem Rep.snoc{zs:List Tm3}{g:Int}{c:Bx}{s:List V}{more st1:List Bx}(hs:dI zs g c s more)(hc:cJ zs c):∀ {p:List (List V)}{st:List Bx},Rep zs g st p (c::st1)->Rep zs g st (p++[s]) (more++st1)
 | [],st,h=>by
  have e:st=c::st1:=by cases st<;>exact h
  subst e;exact⟨more,hs,hc,by show Rep zs g (more++st1) [] (more++st1);cases more++st1<;>rfl⟩
 | _::_,[],h=>h.elim
 | _::_,_::_,⟨m,h1,h2,h3⟩=>⟨m,h1,h2,Rep.snoc hs hc h3⟩
theorem vR{zs:List Tm3}{g:Int}{c:Bx}{s:List V}(h:yQ zs c g=some s):dI zs g c s []:=by
 unfold yQ CA at h;split at h
 ·rename_i h1;cases h;exact .inl ⟨rfl,h1,rfl⟩
 split at h
 ·rename_i h1;cases h;exact .inr (.inl ⟨rfl,h1,rfl⟩)
 split at h
 ·rename_i h1;cases h;have:=Ko (g - bp zs c) (show iS (b5 zs c) ≠ 0 by omega);exact .inr (.inr (.inl ⟨_,rfl,by omega,(pD (b5 zs c) 0).2,by omega,rfl⟩))
 ·cases h
structure GP(zs:List Tm3)(g:Int)(pf:Bx->Int):Prop where
 one:∀ c,cJ zs c->1<=pf c
 part:∀ c q,cJ zs c->cK zs c g=false->rO zs g c=none->cv zs c (g - bp zs c) (b9 zs c - g) zs.length=some q->pf (loC c q.1 (ba c q))+pf (upC c q.1 (ba c q))+1<=pf c
def iN(pf:Bx->Int):List Bx->Int
 | []=>0
 | c::st=>pf c+iN pf st
structure StI(zs:List Tm3)(g:Int)(pf:Bx->Int)(F:Bx)(most:Int)(st:List Bx)(looked:Int)(pp:List (List V)):Prop where
 ok:∀ c∈st,cJ zs c
 pot:looked+iN pf st<=most
 len:(pp.length:Int)=looked
 rep:Rep zs g [F] pp st
theorem sX{zs:List Tm3}{g:Int}{pf:Bx->Int}(hp:GP zs g pf):∀ {st:List Bx},(∀ c∈st,cJ zs c)->0<=iN pf st/\(st.length:Int)<=iN pf st
 | [],_=>⟨Kb _,Kb _⟩
 | c::st,h=>by
  have ih:=sX hp (st:=st) λ d hd=>h d (JN _ hd);have:=hp.one c (h c JP)
  show 0<=pf c+iN pf st/\((st.length+1:Nat):Int)<=pf c+iN pf st
  omega
theorem StI.step{zs:List Tm3}{g:Int}{pf:Bx->Int}{F c:Bx}{most looked:Int}{st:List Bx}{pp:List (List V)}(hz:∀ z∈zs,(1:Int)<=z.1)(hpf:GP zs g pf)(h:StI zs g pf F most (c::st) looked pp):looked < most/\cJ zs c/\(∀ s,yQ zs c g=some s->StI zs g pf F most st (looked+1) (pp++[s]))/\(yQ zs c g=none->(∀ xs,rO zs g c=some xs->InB c xs/\i9 zs xs=g)/\(rO zs g c=none->∃ q,cv zs c (g - bp zs c) (b9 zs c - g) zs.length=some q/\q.1 < zs.length/\pf (loC c q.1 (ba c q))+pf (upC c q.1 (ba c q))+1<=pf c/\StI zs g pf F most (loC c q.1 (ba c q)::upC c q.1 (ba c q)::st) (looked+1) (pp++[[.str "part",.int (q.1:Int),.int (ba c q)]]))):=by
 have hc:=h.ok c JP;have hst:∀ d∈st,cJ zs d:=λ d hd=>h.ok d (JN _ hd);have hv:=hpf.one c hc;have hp:=h.pot;have hn:=sX hpf hst;have hlen:=h.len;have ep:iN pf (c::st)=pf c+iN pf st:=rfl;rw [ep] at hp;have lsn:∀ s:List V,((pp++[s]).length:Int)=looked+1:=λ s=>by rw [JU,Kg];omega
 refine⟨by omega,hc,λ s he=>?_,λ he=>⟨λ xs hx=>D9 hc hx,λ hno=>?_⟩⟩
 ·exact⟨hst,by omega,lsn s,Rep.snoc (vR he) hc h.rep⟩
 ·have he':cK zs c g=false:=yr he;obtain⟨q,hq,hpf',hk,a1,a2⟩:=xm hz hc he' hno;obtain⟨o1,o2⟩:=hc.part hk a1 a2;have hpv:=hpf.part c q hc he' hno hq;have ep2:iN pf (loC c q.1 (ba c q)::upC c q.1 (ba c q)::st)=pf (loC c q.1 (ba c q))+(pf (upC c q.1 (ba c q))+iN pf st):=rfl;refine⟨q,hq,hk,hpv,λ d hd=>?_,by rw [ep2];omega,lsn _,Rep.snoc (more:=[loC c q.1 (ba c q),upC c q.1 (ba c q)]) (.inr (.inr (.inr ⟨q.1,ba c q,rfl,hk,a1,a2,he',rfl⟩))) hc h.rep⟩
  rcases J9.mp hd with rfl|hd
  ·exact o2
  ·rcases J9.mp hd with rfl|hd
   ·exact o1
   ·exact hst d hd
theorem StI.done{zs:List Tm3}{g:Int}{pf:Bx->Int}{F:Bx}{most looked:Int}{pp:List (List V)}(h:StI zs g pf F most [] looked pp):Rep zs g [F] pp []/\(pp.length:Int)<=most:=by
 have h1:=h.pot;have h2:=h.len;have e:iN pf []=0:=rfl;rw [e] at h1;exact⟨h.rep,by omega⟩
def kY:List Tm3->Int
 | []=>0
 | z::zs=>z.1 * (z.2.2 - z.2.1)+kY zs
def sv:List Tm3->Prop
 | []=>True
 | z::zs=>kY zs < z.1/\sv zs
def opn:Bx->Nat
 | []=>0
 | b::c=>(if b.1 < b.2 then 1 else 0)+opn c
def rF:List Tm3->Bx->Int
 | z::zs,b::c=>if b.1 < b.2 then z.1 * (b.2 - b.1) else rF zs c
 | _,_=>0
def dj:Bx->Nat
 | []=>0
 | b::c=>if b.1 < b.2 then 0 else dj c+1
def InZ:List Tm3->Bx->Prop
 | [],[]=>True
 | z::zs,b::c=>(z.2.1<=b.1/\b.1<=b.2/\b.2<=z.2.2)/\InZ zs c
 | _,_=>False
theorem cJ.inz:∀ {zs:List Tm3}{c:Bx},cJ zs c->InZ zs c
 | [],[],_=>trivial
 | [],_::_,h=>by have:=h.len;simp at this
 | _::_,[],h=>by have:=h.len;simp at this
 | z::zs,b::c,h=>⟨h.all (z,b) (by rw [Lo];exact JP),cJ.inz ⟨by have:=h.len;simpa using this,λ p hp=>h.all p (by rw [Lo];exact JN _ hp)⟩⟩
theorem y7:∀ {zs:List Tm3}{c:Bx},InZ zs c->(∀ z∈zs,(1:Int)<=z.1)->0<=b9 zs c - bp zs c/\b9 zs c - bp zs c<=kY zs
 | [],[],_,_=>⟨Kb _,Kb _⟩
 | [],_::_,h,_=>h.elim
 | _::_,[],h,_=>h.elim
 | z::zs,b::c,h,hz=>by
  have ih:=y7 h.2 λ y hy=>hz y (JN _ hy);have h1:=hz z JP;obtain⟨s1,s2⟩:=bt z b zs c;obtain⟨⟨a1,a2,a3⟩,_⟩:=h;have m1:=L9 (show 0<=z.1 by omega) (show 0<=b.2 - b.1 by omega);have m2:=J4 (show b.2 - b.1<=z.2.2 - z.2.1 by omega) (show 0<=z.1 by omega);rw [LL] at m1 m2;rw [s1,s2]
  show _/\_<=z.1 * (z.2.2 - z.2.1)+kY zs
  omega
theorem oY:∀ {zs:List Tm3}{c:Bx},InZ zs c->(∀ z∈zs,(1:Int)<=z.1)->sv zs->0 < opn c->dj c < zs.length/\(c.getD (dj c) default).1 < (c.getD (dj c) default).2/\rF zs c=(zs.getD (dj c) default).1 * ((c.getD (dj c) default).2 - (c.getD (dj c) default).1)/\∃ S,0<=S/\S < (zs.getD (dj c) default).1/\b9 zs c - bp zs c=(zs.getD (dj c) default).1 * ((c.getD (dj c) default).2 - (c.getD (dj c) default).1)+S
 | [],[],_,_,_,h=>absurd h ⋯
 | [],_::_,h,_,_,_=>h.elim
 | _::_,[],h,_,_,_=>h.elim
 | z::zs,b::c,h,hz,hf,ho=>by
  obtain⟨s1,s2⟩:=bt z b zs c;have hz':∀ y∈zs,(1:Int)<=y.1:=λ y hy=>hz y (JN _ hy)
  by_cases hb:b.1 < b.2
  ·have e1:dj (b::c)=0:=JR hb;have e2:rF (z::zs) (b::c)=z.1 * (b.2 - b.1):=JR hb;rw [e1,e2];obtain⟨p1,p2⟩:=y7 h.2 hz';have hf1:kY zs < z.1:=hf.1;refine⟨by simp,hb,rfl,b9 zs c - bp zs c,p1,?_,?_⟩
   ·show _ < z.1;omega
   ·show b9 (z::zs) (b::c) - bp (z::zs) (b::c)=z.1 * (b.2 - b.1)+_
    rw [s1,s2,LL];omega
  ·have e1:dj (b::c)=dj c+1:=JQ hb;have e2:rF (z::zs) (b::c)=rF zs c:=JQ hb;have e3:opn (b::c)=0+opn c:=by show (if b.1 < b.2 then 1 else 0)+opn c=_;rw [JQ hb]
   have ih:=oY h.2 hz' hf.2 %[0|8];have hbb:b.1=b.2:=by have:=h.1.2.1;omega
   rw [e1,e2,s1,s2,hbb];obtain⟨i1,i2,i3,S,i4,i5,i6⟩:=ih;exact⟨by simpa using i1,i2,i3,S,i4,i5,by show _=(zs.getD (dj c) default).1 * ((c.getD (dj c) default).2 - (c.getD (dj c) default).1)+S;omega⟩
theorem lq:∀ {c:Bx}{j:Nat},(c.getD j default).1 < (c.getD j default).2->dj c<=j/\0 < opn c
 | [],j,h=>by
  have h':(0:Int) < 0:=h;omega
 | b::c,0,h=>by
  have h':b.1 < b.2:=h;have e1:dj (b::c)=0:=JR h';have e3:opn (b::c)=1+opn c:=by show (if b.1 < b.2 then 1 else 0)+opn c=_;rw [JR h']
  omega
 | b::c,j+1,h=>by
  have ih:=lq (c:=c) (j:=j) h;have e3:opn (b::c)=(if b.1 < b.2 then 1 else 0)+opn c:=rfl
  by_cases hb:b.1 < b.2
  ·have e1:dj (b::c)=0:=JR hb;omega
  ·have e1:dj (b::c)=dj c+1:=JQ hb;omega
theorem jK:∀ {zs:List Tm3}{c:Bx}{k:Nat}{b:Int × Int},c.length=zs.length->k < c.length->bp zs (c.set k b)=bp zs c+(zs.getD k default).1 * (b.1 - (c.getD k default).1)/\b9 zs (c.set k b)=b9 zs c+(zs.getD k default).1 * (b.2 - (c.getD k default).2)
 | _,[],_,_,_,h=>by simp at h
 | [],_::_,_,_,h,_=>by simp at h
 | z::zs,d::c,0,b,_,_=>by
  obtain⟨s1,s2⟩:=bt z d zs c;obtain⟨r1,r2⟩:=bt z b zs c
  show bp (z::zs) (b::c)=bp (z::zs) (d::c)+z.1 * (b.1 - d.1)/\b9 (z::zs) (b::c)=b9 (z::zs) (d::c)+z.1 * (b.2 - d.2)
  rw [s1,s2,r1,r2,LL,LL];omega
 | z::zs,d::c,k+1,b,hl,hk=>by
  obtain⟨i1,i2⟩:=jK (zs:=zs) (c:=c) (k:=k) (b:=b) (by simpa using hl) (by simpa using hk);obtain⟨s1,s2⟩:=bt z d zs c;obtain⟨r1,r2⟩:=bt z d zs (c.set k b)
  show bp (z::zs) (d::c.set k b)=bp (z::zs) (d::c)+(zs.getD k default).1 * (b.1 - (c.getD k default).1)/\b9 (z::zs) (d::c.set k b)=b9 (z::zs) (d::c)+(zs.getD k default).1 * (b.2 - (c.getD k default).2)
  rw [s1,s2,r1,r2,i1,i2];omega
theorem nq:∀ {c:Bx}{k:Nat}{b:Int × Int},k < c.length->(c.getD k default).1 < (c.getD k default).2->opn (c.set k b)+1=opn c+(if b.1 < b.2 then 1 else 0)
 | [],_,_,h,_=>by simp at h
 | d::c,0,b,_,h=>by
  have h':d.1 < d.2:=h
  show (if b.1 < b.2 then 1 else 0)+opn c+1=(if d.1 < d.2 then 1 else 0)+opn c+_
  rw [JR h'];omega
 | d::c,k+1,b,hk,h=>by
  have ih:=nq (c:=c) (k:=k) (b:=b) (by simpa using hk) h
  show (if d.1 < d.2 then 1 else 0)+opn (c.set k b)+1=(if d.1 < d.2 then 1 else 0)+opn c+_
  omega
theorem oZ:∀ {zs:List Tm3}{c:Bx}{b:Int × Int},c.length=zs.length->0 < opn c->b.1 < b.2->rF zs (c.set (dj c) b)=(zs.getD (dj c) default).1 * (b.2 - b.1)
 | _,[],_,_,h,_=>absurd h ⋯
 | [],_::_,_,h,_,_=>by simp at h
 | z::zs,d::c,b,hl,ho,hb=>by
  by_cases hd:d.1 < d.2
  ·have e1:dj (d::c)=0:=JR hd;rw [e1];exact JR hb
  ·have e1:dj (d::c)=dj c+1:=JQ hd;have e3:opn (d::c)=0+opn c:=by show (if d.1 < d.2 then 1 else 0)+opn c=_;rw [JQ hd]
   rw [e1]
   show (if d.1 < d.2 then _ else rF zs (c.set (dj c) b))=_
   rw [JQ hd,oZ (by simpa using hl) %[0|8] hb];rfl
def wdF(q:Int × Int):Int:=q.2 - q.1
theorem pL{zs:List Tm3}{cs:Bx}{al bg:Int}:∀ {i:Nat}{q:Nat × Int × Int},cv zs cs al bg i=some q->∀ j,j < i->(cs.getD j default).1 < (cs.getD j default).2->wdF q.2<=wdF (gC (zs.getD j default).1 (cs.getD j default) al bg)/\(q.1<=j\/wdF q.2 < wdF (gC (zs.getD j default).1 (cs.getD j default) al bg))
 | 0,q,h,_,hj,_=>by omega
 | i+1,q,h,j,hj,ho=>by
  have ih:=λ q h=>pL (zs:=zs) (cs:=cs) (al:=al) (bg:=bg) (i:=i) (q:=q) h;have bo:=λ q h=>gQ (zs:=zs) (cs:=cs) (al:=al) (bg:=bg) (i:=i) (q:=q) h;unfold cv at h;split at h
  ·rename_i hlt;split at h
   ·rename_i hn;cases h
    by_cases e:j=i
    ·subst e;exact⟨Kb _,.inl (JO _)⟩
    ·obtain⟨q',hq'⟩:=ib (zs:=zs) (al:=al) (bg:=bg) (i:=i) ⟨j,by omega,ho⟩;rw [hn] at hq';cases hq'
   ·rename_i q' hq';split at h
    ·rename_i hl2;cases h
     by_cases e:j=i
     ·subst e;exact⟨Kb _,.inl (JO _)⟩
     ·have:=ih _ hq' j %[0|8] ho;have hl3:wdF (gC (zs.getD i default).1 (cs.getD i default) al bg) < wdF q'.2:=hl2
      show wdF (gC (zs.getD i default).1 (cs.getD i default) al bg)<=_/\(_\/wdF (gC (zs.getD i default).1 (cs.getD i default) al bg) < _)
      omega
    ·rename_i hl2;cases h
     by_cases e:j=i
     ·subst e;have hl3:¬ wdF (gC (zs.getD j default).1 (cs.getD j default) al bg) < wdF q.2:=hl2;have:=(bo _ hq').1;exact⟨by omega,.inl %[0|8]⟩
     ·exact ih _ hq' j %[0|8] ho
  ·rename_i hlt
   by_cases e:j=i
   ·subst e;exact absurd ho hlt
   ·exact ih _ h j %[0|8] ho
def pfF(zs:List Tm3)(g:Int)(c:Bx):Int:=if cK zs c g=true\/opn c=0 then 1 else 4 * (opn c:Int)+(if rF zs c<=g - bp zs c then -1 else 1)
theorem oE{zs:List Tm3}{g:Int}{c:Bx}(h:cK zs c g=true):pfF zs g c=1:=JR (.inl h)
theorem wB{zs:List Tm3}{g:Int}{c:Bx}:1<=pfF zs g c/\pfF zs g c<=4 * (opn c:Int)+1:=by
 unfold pfF;split
 ·omega
 ·rename_i h;have:opn c ≠ 0:=λ e=>h (.inr e)
  split<;>omega
theorem xh{zs:List Tm3}{g:Int}{c:Bx}(h:rF zs c<=g - bp zs c)(ho:0 < opn c):pfF zs g c<=4 * (opn c:Int) - 1:=by
 unfold pfF;rw [if_pos h]
 split<;>omega
theorem vQ{zs:List Tm3}{g:Int}{c:Bx}(h:g < bp zs c):cK zs c g=true:=by unfold cK b8;rw [decide_eq_true h];rfl
theorem qW{zs:List Tm3}{g:Int}{c:Bx}(h:b9 zs c < g):cK zs c g=true:=by unfold cK b8;rw [decide_eq_true h,Bool.or_true];rfl
theorem jd(x:Int){t:Int}(ht:1<=t):t * (x / t)<=x/\x < t * (x / t)+t:=⟨Int.mul_ediv_self_le %[0|8],Int.lt_mul_ediv_self_add %[0|8]⟩
theorem Hf{t al bg S:Int}{b:Int × Int}(t1:1<=t)(hb:b.1 < b.2)(h0:0<=al)(h1:0<=bg)(e:al+bg=t * (b.2 - b.1)+S)(S1:S < t):wdF (gC t b al bg)<=0:=by
 obtain⟨d1,_⟩:=jd al t1;obtain⟨d2,_⟩:=jd bg t1;have a0:=Lh h0 (show 0<=t by omega);have b0:=Lh h1 (show 0<=t by omega)
 show (if b.1+al / t < b.2 then b.1+al / t else b.2) - (if b.1 < b.2 - bg / t then b.2 - bg / t else b.1)<=0
 generalize al / t=a at *;generalize bg / t=bb at *
 have hab:a+bb < b.2 - b.1+1:=by
  refine Int.lt_of_mul_lt_mul_left (a:=t) ?_ %[0|8];rw [K9,K9,Mc];omega
 split<;>split<;>omega
theorem DA{zs:List Tm3}{g:Int}{c:Bx}{k:Nat}{x:Int}(hl:c.length=zs.length)(hk:k < c.length)(t1:1<=(zs.getD k default).1)(hx:(g - bp zs c) / (zs.getD k default).1<=x - (c.getD k default).1):cK zs (upC c k x) g=true:=by
 refine vQ ?_;unfold upC;rw [(jK hl hk).1]
 show g < bp zs c+(zs.getD k default).1 * (x+1 - (c.getD k default).1)
 obtain⟨_,d⟩:=jd (g - bp zs c) t1;have m:=J4 hx (show 0<=(zs.getD k default).1 by omega);rw [show x+1 - (c.getD k default).1=x - (c.getD k default).1+1 by omega,K9,Mc];omega
theorem Fv{zs:List Tm3}{g:Int}{c:Bx}{k:Nat}{x:Int}(hl:c.length=zs.length)(hk:k < c.length)(t1:1<=(zs.getD k default).1)(hx:(b9 zs c - g) / (zs.getD k default).1+1<=(c.getD k default).2 - x):cK zs (loC c k x) g=true:=by
 refine qW ?_;unfold loC;rw [(jK hl hk).2]
 show b9 zs c+(zs.getD k default).1 * (x - (c.getD k default).2) < g
 obtain⟨_,d⟩:=jd (b9 zs c - g) t1;have m:=J4 hx (show 0<=(zs.getD k default).1 by omega);rw [K9,Mc] at m;rw [show x - (c.getD k default).2=-((c.getD k default).2 - x) by omega,Int.mul_neg];omega
theorem AM{zs:List Tm3}{g:Int}{c:Bx}{q:Nat × Int × Int}(hz:∀ z∈zs,(1:Int)<=z.1)(hf:sv zs)(hc:cJ zs c)(he:cK zs c g=false)(hq:cv zs c (g - bp zs c) (b9 zs c - g) zs.length=some q):pfF zs g (loC c q.1 (ba c q))+pfF zs g (upC c q.1 (ba c q))+1<=pfF zs g c:=by
 obtain⟨g1,g2⟩:=hJ he;obtain⟨k1,k2,k3⟩:=gQ hq;have hlen:=hc.len;have kc:q.1 < c.length:=by omega
 obtain⟨tf,op⟩:=lq k2;obtain⟨w1,w2,w3,S,S0,S1,w4⟩:=oY hc.inz hz hf op;obtain⟨m1,m2⟩:=pL hq (dj c) w1 w2
 have ht:∀ j,j < zs.length->1<=(zs.getD j default).1:=λ j hj=>by
  rw [JW,JJ hj];exact hz _ (KQ hj)
 have pfc:pfF zs g c=4 * (opn c:Int)+(if rF zs c<=g - bp zs c then -1 else 1):=by
  unfold pfF;exact if_neg (by rw [he];intro h;rcases h with h|h;cases h;omega)
 have wtop:=Hf (ht _ w1) w2 (show 0<=g - bp zs c by omega) (show 0<=b9 zs c - g by omega) (S:=S) %[0|8] S1;have t1:=ht _ k1;have a0:=Lh (show 0<=g - bp zs c by omega) (show 0<=(zs.getD q.1 default).1 by omega);have b0:=Lh (show 0<=b9 zs c - g by omega) (show 0<=(zs.getD q.1 default).1 by omega);have e1:q.2.1=if (c.getD q.1 default).1 < (c.getD q.1 default).2 - (b9 zs c - g) / (zs.getD q.1 default).1 then (c.getD q.1 default).2 - (b9 zs c - g) / (zs.getD q.1 default).1 else (c.getD q.1 default).1:=by rw [k3];rfl
 have e2:q.2.2=if (c.getD q.1 default).1+(g - bp zs c) / (zs.getD q.1 default).1 < (c.getD q.1 default).2 then (c.getD q.1 default).1+(g - bp zs c) / (zs.getD q.1 default).1 else (c.getD q.1 default).2:=by rw [k3];rfl
 have ew:wdF q.2=q.2.2 - q.2.1:=rfl;have ue:=λ x=>DA (zs:=zs) (g:=g) (c:=c) (k:=q.1) (x:=x) hlen kc t1;have le:=λ x=>Fv (zs:=zs) (g:=g) (c:=c) (k:=q.1) (x:=x) hlen kc t1
 by_cases hn:wdF q.2 < 0
 ·-- no number is left: both parts are cK
  have hlt:q.2.2 < (c.getD q.1 default).2:=by rw [e2];rw [e1,e2] at ew;split<;>(split at ew<;>split at ew<;>omega)
  have ek:ba c q=q.2.2:=JR hlt
  have h22:q.2.2=(c.getD q.1 default).1+(g - bp zs c) / (zs.getD q.1 default).1:=by
   rw [e2] at hlt ⊢;split at hlt
   ·rename_i h;rw [JR h]
   ·omega
  have h21:(b9 zs c - g) / (zs.getD q.1 default).1+1<=(c.getD q.1 default).2 - q.2.2:=by
   rw [ew,e1] at hn
   split at hn<;>omega
  rw [ek,oE (ue _ %[0|8]),oE (le _ h21),pfc]
  split<;>omega
 ·have hqt:q.1=dj c:=by
   rcases m2 with h|h
   ·omega
   ·omega
  have hw0:q.2.2=q.2.1:=by omega
  by_cases hlt:q.2.2 < (c.getD q.1 default).2
  ·have ek:ba c q=q.2.2:=JR hlt
   have h22:q.2.2=(c.getD q.1 default).1+(g - bp zs c) / (zs.getD q.1 default).1:=by
    rw [e2] at hlt ⊢;split at hlt
    ·rename_i h;rw [JR h]
    ·omega
   have hnt:¬ rF zs c<=g - bp zs c:=by
    obtain⟨_,d⟩:=jd (g - bp zs c) t1;rw [w3,←hqt];have m:=J4 (show (g - bp zs c) / (zs.getD q.1 default).1+1<=(c.getD q.1 default).2 - (c.getD q.1 default).1 by omega) (show 0<=(zs.getD q.1 default).1 by omega);rw [K9,Mc] at m;omega
   rw [ek,oE (ue _ %[0|8]),pfc,JQ hnt];have os:=nq (b:=((c.getD q.1 default).1,q.2.2)) kc k2;have el:loC c q.1 q.2.2=c.set q.1 ((c.getD q.1 default).1,q.2.2):=rfl
   by_cases ho:(c.getD q.1 default).1 < q.2.2
   ·rw [JR ho] at os
    have tt:rF zs (loC c q.1 q.2.2)<=g - bp zs (loC c q.1 q.2.2):=by
     have s:=(jK (b:=((c.getD q.1 default).1,q.2.2)) hlen kc).1;rw [el,s];rw [hqt] at ho ⊢;rw [oZ hlen op ho]
     show (zs.getD (dj c) default).1 * (q.2.2 - (c.getD (dj c) default).1)<=g - (bp zs c+(zs.getD (dj c) default).1 * ((c.getD (dj c) default).1 - (c.getD (dj c) default).1))
     rw [Int.sub_self,KO,KD];rw [hqt] at h22;rw [h22,show (c.getD (dj c) default).1+(g - bp zs c) / (zs.getD (dj c) default).1 - (c.getD (dj c) default).1=(g - bp zs c) / (zs.getD (dj c) default).1 by omega];exact(jd _ (ht _ w1)).1
    have:=xh tt (by rw [el];omega);rw [el] at this ⊢;omega
   ·rw [JQ ho] at os;have:=(wB (zs:=zs) (g:=g) (c:=loC c q.1 q.2.2)).2;rw [el] at this ⊢;omega
  ·have h22:q.2.2=(c.getD q.1 default).2:=by
    rw [e2] at hlt ⊢;split at hlt
    ·rename_i h;rw [JR h];omega
    ·rename_i h;rw [JQ h]
   have ek:ba c q=(c.getD q.1 default).2 - 1:=by
    show (if q.2.2 < (c.getD q.1 default).2 then q.2.2 else if (c.getD q.1 default).1 < q.2.1 then q.2.1 - 1 else (c.getD q.1 default).1)=_
    rw [JQ hlt,JR %[0|8]];omega
   have hb0:(b9 zs c - g) / (zs.getD q.1 default).1=0:=by
    rw [←hw0,h22] at e1
    split at e1<;>omega
   rw [ek,oE (le _ %[0|8]),pfc];have os:=nq (b:=((c.getD q.1 default).2 - 1+1,(c.getD q.1 default).2)) kc k2;have el:upC c q.1 ((c.getD q.1 default).2 - 1)=c.set q.1 ((c.getD q.1 default).2 - 1+1,(c.getD q.1 default).2):=rfl;rw [JQ (show ¬ (c.getD q.1 default).2 - 1+1 < (c.getD q.1 default).2 by omega)] at os;have:=(wB (zs:=zs) (g:=g) (c:=upC c q.1 ((c.getD q.1 default).2 - 1))).2;rw [el] at this ⊢
   split<;>omega
def dF:List (Int × Int)->Int->Int
 | [],_=>0
 | z::l,t=>(if z.1=t then z.2 else 0)+dF l t
def yR(l:List (Int × Int)):Int:=(l.map λ z=>z.1 * z.2).sum
def iR(ks:List Int)(f:Int->Int):Int:=(ks.map λ t=>t * f t).sum
theorem bu(k:Int)(ks:List Int)(f:Int->Int):iR (k::ks) f=k * f k+iR ks f:=by unfold iR;rw [map_cons,sum_cons]
theorem fe:∀ {ks:List Int}{f:Int->Int},(∀ t∈ks,f t=0)->iR ks f=0
 | [],_,_=>rfl
 | k::ks,f,h=>by rw [bu,h k JP,fe λ t ht=>h t (JN _ ht)];omega
theorem kl:∀ (ks:List Int) (f g:Int->Int),iR ks (λ t=>f t+g t)=iR ks f+iR ks g
 | [],_,_=>rfl
 | k::ks,f,g=>by rw [bu,bu,bu,kl ks f g,K9];omega
theorem jm:∀ {ks:List Int}{f g:Int->Int},(∀ t∈ks,f t=g t)->iR ks f=iR ks g
 | [],_,_,_=>rfl
 | k::ks,f,g,h=>by rw [bu,bu,h k JP,jm λ t ht=>h t (JN _ ht)]
theorem kj:∀ {ks:List Int}{a c:Int},ks.Nodup->(a=0\/a∈ks)->iR ks (λ t=>if a=t then c else 0)=a * c
 | [],a,c,_,h=>by
  rcases h with rfl|h
  ·rw [Int.zero_mul];rfl
  ·cases h
 | k::ks,a,c,hn,h=>by
  rw [bu];obtain⟨hk,hn'⟩:=Kn.mp hn
  by_cases e:a=k
  ·subst e;rw [JR rfl,fe λ t ht=>JQ λ e=>hk (by rw [e];exact ht)];omega
  ·rw [JQ e,kj hn' (h.imp id λ hm=>(J9.mp hm).resolve_left e),KO];omega
theorem zF{ks:List Int}(hn:ks.Nodup):∀ {l:List (Int × Int)},(∀ z∈l,z.1=0\/z.1∈ks)->iR ks (dF l)=yR l
 | [],_=>fe λ _ _=>rfl
 | z::l,h=>by
  have ih:=zF hn (l:=l) λ y hy=>h y (mem_cons_of_mem _ hy);have e:dF (z::l)=λ t=>(if z.1=t then z.2 else 0)+dF l t:=rfl;rw [e,kl,kj hn (h z mem_cons_self),ih];unfold yR;rw [map_cons,sum_cons]
def af(p:Int):Int:=(p.natAbs:Int)
def loP(z:Int × Int):Int:=if 0 < z.1 then 0 else 1 - z.2
def hiP(z:Int × Int):Int:=if 0 < z.1 then z.2 - 1 else 0
def cI(P:List (Int × Int)):Int->Int:=dF (P.map λ z=>(af z.1,loP z))
def bD(P:List (Int × Int)):Int->Int:=dF (P.map λ z=>(af z.1,hiP z))
def fm(P:List (Int × Int)):Int->Int:=dF (P.map λ z=>(af z.1,z.2 - 1))
theorem gx:∀ (P:List (Int × Int)) (t:Int),bD P t - cI P t=fm P t
 | [],_=>rfl
 | z::P,t=>by
  have ih:=gx P t;unfold bD cI fm at ih ⊢;rw [map_cons,map_cons,map_cons]
  show (if af z.1=t then hiP z else 0)+_ - ((if af z.1=t then loP z else 0)+_)=(if af z.1=t then z.2 - 1 else 0)+_
  by_cases e:af z.1=t
  ·rw [JR e,JR e,JR e];have e1:loP z=(if 0 < z.1 then 0 else 1 - z.2):=rfl;have e2:hiP z=(if 0 < z.1 then z.2 - 1 else 0):=rfl;rw [e1,e2]
   split<;>omega
  ·rw [JQ e,JQ e,JQ e];omega
def rP:List (Int × Int)->List Int->Int
 | z::P,y::ys=>z.1 * y+rP P ys
 | _,_=>0
def InP:List (Int × Int)->List Int->Prop
 | [],[]=>True
 | z::P,y::ys=>(0<=y/\y < z.2)/\InP P ys
 | _,_=>False
def jG:List (Int × Int)->List Int->List (Int × Int)
 | z::P,y::ys=>(af z.1,if 0 < z.1 then y else 0 - y)::jG P ys
 | _,_=>[]
theorem ik:∀ {P:List (Int × Int)}{ys:List Int},InP P ys->∀ t,cI P t<=dF (jG P ys) t/\dF (jG P ys) t<=bD P t
 | [],[],_,_=>⟨Kb _,Kb _⟩
 | [],_::_,h,_=>h.elim
 | _::_,[],h,_=>h.elim
 | z::P,y::ys,h,t=>by
  have ih:=ik h.2 t;unfold cI bD at ih ⊢;rw [map_cons,map_cons]
  show (if af z.1=t then loP z else 0)+_<=(if af z.1=t then (if 0 < z.1 then y else 0 - y) else 0)+dF (jG P ys) t/\(if af z.1=t then (if 0 < z.1 then y else 0 - y) else 0)+dF (jG P ys) t<=(if af z.1=t then hiP z else 0)+_
  have:=h.1
  by_cases e:af z.1=t
  ·rw [JR e,JR e,JR e];have e1:loP z=(if 0 < z.1 then 0 else 1 - z.2):=rfl;have e2:hiP z=(if 0 < z.1 then z.2 - 1 else 0):=rfl;rw [e1,e2]
   split<;>omega
  ·rw [JQ e,JQ e,JQ e];omega
theorem o7:∀ {P:List (Int × Int)}{ys:List Int},InP P ys->yR (jG P ys)=rP P ys
 | [],[],_=>rfl
 | [],_::_,h=>h.elim
 | _::_,[],h=>h.elim
 | z::P,y::ys,h=>by
  have ih:=o7 h.2;unfold yR at ih ⊢
  show (((af z.1,if 0 < z.1 then y else 0 - y)::jG P ys).map λ z=>z.1 * z.2).sum=z.1 * y+rP P ys
  rw [Km,Mf,ih];congr 1
  show af z.1 * (if 0 < z.1 then y else 0 - y)=z.1 * y
  unfold af;split
  ·rw [show ((z.1.natAbs:Nat):Int)=z.1 by omega]
  ·rw [show ((z.1.natAbs:Nat):Int)=-z.1 by omega,Int.zero_sub,Int.neg_mul_neg]
theorem lr{ks:List Int}:∀ {P:List (Int × Int)}{ys:List Int},(∀ z∈P,af z.1=0\/af z.1∈ks)->∀ z∈jG P ys,z.1=0\/z.1∈ks
 | [],_,_,_,h=>by cases h
 | _::_,[],_,_,h=>by cases h
 | z::P,y::ys,hk,q,hq=>by
  rcases J9.mp hq with rfl|hq
  ·exact hk z JP
  ·exact lr (λ x hx=>hk x (JN _ hx)) q hq
def ag(ks:List Int)(P:List (Int × Int)):List Tm3:=ks.map λ t=>(t,cI P t,bD P t)
theorem oU(P:List (Int × Int))(f:Int->Int):∀ ks:List Int,i9 (ag ks P) (ks.map f)=iR ks f
 | []=>rfl
 | k::ks=>by
  rw [bu,←oU P f ks];rfl
theorem ub{P:List (Int × Int)}{f:Int->Int}(h:∀ t,cI P t<=f t/\f t<=bD P t):∀ ks:List Int,InB ((ag ks P).map λ z=>z.2) (ks.map f)
 | []=>trivial
 | k::ks=>⟨h k,ub h ks⟩
theorem vO{ks:List Int}{P:List (Int × Int)}{ys:List Int}{g:Int}(hn:ks.Nodup)(hk:∀ z∈P,af z.1=0\/af z.1∈ks)(hy:InP P ys)(hg:rP P ys=g):∃ xs,InB ((ag ks P).map λ z=>z.2) xs/\i9 (ag ks P) xs=g:=
 ⟨ks.map (dF (jG P ys)),ub (ik hy) ks,by rw [oU,zF hn (lr hk),o7 hy,hg]⟩
def tkF(z:Int × Int)(L:Int->Int):Int:=if L (af z.1) < z.2 - 1 then L (af z.1) else z.2 - 1
def p8(L:Int->Int)(a v:Int):Int->Int:=λ t=>if t=a then v else L t
def eE:(Int->Int)->List (Int × Int)->List Int
 | _,[]=>[]
 | L,z::P=>(if 0<=z.1 then tkF z L else z.2 - 1 - tkF z L)::eE (p8 L (af z.1) (L (af z.1) - tkF z L)) P
theorem eh(z:Int × Int)(P:List (Int × Int))(t:Int):fm (z::P) t=(if af z.1=t then z.2 - 1 else 0)+fm P t:=rfl
theorem oQ:∀ {P:List (Int × Int)},(∀ z∈P,(1:Int)<=z.2)->∀ t,0<=fm P t
 | [],_,_=>Kb _
 | z::P,h,t=>by
  have ih:=oQ (P:=P) (λ y hy=>h y (JN _ hy)) t;have:=h z JP;rw [eh]
  split<;>omega
theorem lM{z:Int × Int}{P:List (Int × Int)}{L:Int->Int}(h1:1<=z.2)(hP:∀ y∈P,(1:Int)<=y.2)(h:∀ t,0<=L t/\L t<=fm (z::P) t):(0<=tkF z L/\tkF z L<=z.2 - 1)/\∀ t,0<=p8 L (af z.1) (L (af z.1) - tkF z L) t/\p8 L (af z.1) (L (af z.1) - tkF z L) t<=fm P t:=by
 have ha:=h (af z.1);rw [eh,if_pos rfl] at ha;have hc:=oQ hP (af z.1);refine⟨by unfold tkF;split<;>omega,λ t=>?_⟩;unfold p8
 by_cases e:t=af z.1
 ·rw [if_pos e,e];unfold tkF
  split<;>omega
 ·rw [JQ e];have:=h t;rw [eh,JQ (λ q=>e q.symm)] at this;omega
theorem ug:∀ {P:List (Int × Int)}{L:Int->Int},(∀ y∈P,(1:Int)<=y.2)->(∀ t,0<=L t/\L t<=fm P t)->InP P (eE L P)
 | [],_,_,_=>trivial
 | z::P,L,h1,h=>by
  have hP:∀ y∈P,(1:Int)<=y.2:=λ y hy=>h1 y (JN _ hy);obtain⟨a,b⟩:=lM (h1 z JP) hP h;refine⟨?_,ug hP b⟩
  show 0<=(if 0<=z.1 then tkF z L else z.2 - 1 - tkF z L)/\(if 0<=z.1 then tkF z L else z.2 - 1 - tkF z L) < z.2
  split<;>omega
theorem pF{ks:List Int}(hn:ks.Nodup):∀ {P:List (Int × Int)}{L:Int->Int},(∀ y∈P,(1:Int)<=y.2)->(∀ z∈P,af z.1=0\/af z.1∈ks)->(∀ t,0<=L t/\L t<=fm P t)->rP P (eE L P)=yR (P.map λ z=>(af z.1,loP z))+iR ks L
 | [],L,_,_,h=>by
  rw [fe λ t _=>by have:=h t;have e:fm [] t=0:=rfl;omega];rfl
 | z::P,L,h1,hk,h=>by
  have hP:∀ y∈P,(1:Int)<=y.2:=λ y hy=>h1 y (JN _ hy);obtain⟨a,b⟩:=lM (h1 z JP) hP h;have ih:=pF hn hP (λ y hy=>hk y (JN _ hy)) b
  have hL:L=λ t=>p8 L (af z.1) (L (af z.1) - tkF z L) t+(if af z.1=t then tkF z L else 0):=funext λ t=>by
   unfold p8
   by_cases e:t=af z.1
   ·rw [JR e,JR e.symm,e];omega
   ·rw [JQ e,JQ (λ q=>e q.symm)];omega
  have hkS:iR ks L=iR ks (p8 L (af z.1) (L (af z.1) - tkF z L))+af z.1 * tkF z L:=by
   conv=>lhs;rw [hL]
   rw [kl,kj hn (hk z JP)]
  show z.1 * (if 0<=z.1 then tkF z L else z.2 - 1 - tkF z L)+rP P (eE (p8 L (af z.1) (L (af z.1) - tkF z L)) P)=yR ((af z.1,loP z)::P.map λ z=>(af z.1,loP z))+iR ks L
  rw [ih,hkS];unfold yR;rw [map_cons,sum_cons]
  have key:z.1 * (if 0<=z.1 then tkF z L else z.2 - 1 - tkF z L)=af z.1 * loP z+af z.1 * tkF z L:=by
   have e1:loP z=(if 0 < z.1 then 0 else 1 - z.2):=rfl;rw [e1];unfold af
   rcases Int.lt_trichotomy z.1 0 with h|h|h
   ·rw [JQ %[0|8],JQ %[0|8],show ((z.1.natAbs:Nat):Int)=-z.1 by omega,←K9,show 1 - z.2+tkF z L=-(z.2 - 1 - tkF z L) by omega,Int.neg_mul_neg]
   ·rw [h];simp
   ·rw [JR %[0|8],JR h,show ((z.1.natAbs:Nat):Int)=z.1 by omega,KO,Kv]
  rw [key];dsimp only;omega
def cc:List Tm3->List Int->Int->Int
 | z::zs,x::xs=>λ t=>if z.1=t then x - z.2.1 else cc zs xs t
 | _,_=>λ _=>0
theorem iw{P:List (Int × Int)}(hc:∀ t,0<=fm P t):∀ {ks:List Int}{xs:List Int},InB ((ag ks P).map λ z=>z.2) xs->∀ t,0<=cc (ag ks P) xs t/\cc (ag ks P) xs t<=fm P t
 | [],[],_,t=>⟨Kb _,hc t⟩
 | [],_::_,h,_=>h.elim
 | _::_,[],h,_=>h.elim
 | k::ks,x::xs,h,t=>by
  show 0<=(if k=t then x - cI P k else cc (ag ks P) xs t)/\(if k=t then x - cI P k else cc (ag ks P) xs t)<=fm P t
  by_cases e:k=t
  ·rw [JR e];have h1:cI P k<=x/\x<=bD P k:=h.1;have:=gx P k;rw [←e];omega
  ·rw [JQ e];exact iw hc h.2 t
theorem pq{P:List (Int × Int)}:∀ {ks:List Int}{xs:List Int},ks.Nodup->InB ((ag ks P).map λ z=>z.2) xs->iR ks (cc (ag ks P) xs)=i9 (ag ks P) xs - iR ks (cI P)
 | [],[],_,_=>rfl
 | [],_::_,_,h=>h.elim
 | _::_,[],_,h=>h.elim
 | k::ks,x::xs,hn,h=>by
  obtain⟨hk,hn'⟩:=Kn.mp hn;have ih:=pq hn' h.2;rw [bu,bu]
  have e1:cc (ag (k::ks) P) (x::xs) k=x - cI P k:=by
   show (if k=k then x - cI P k else cc (ag ks P) xs k)=_
   rw [JR rfl]
  have e2:iR ks (cc (ag (k::ks) P) (x::xs))=iR ks (cc (ag ks P) xs):=jm λ t ht=>by
   show (if k=t then x - cI P k else cc (ag ks P) xs t)=_
   rw [JQ λ e=>hk (by rw [e];exact ht)]
  rw [e1,e2,ih]
  show _=k * x+i9 (ag ks P) xs - _
  rw [LL];omega
theorem meet{ks:List Int}{P:List (Int × Int)}{xs:List Int}(hn:ks.Nodup)(h1:∀ y∈P,(1:Int)<=y.2)(hk:∀ z∈P,af z.1=0\/af z.1∈ks)(hx:InB ((ag ks P).map λ z=>z.2) xs):InP P (eE (cc (ag ks P) xs) P)/\rP P (eE (cc (ag ks P) xs) P)=i9 (ag ks P) xs:=by
 have hb:=iw (oQ h1) hx;refine⟨ug h1 hb,?_⟩;rw [pF hn h1 hk hb,pq hn hx]
 have:iR ks (cI P)=yR (P.map λ z=>(af z.1,loP z)):=zF hn λ z hz=>by
  obtain⟨y,hy,rfl⟩:=J8.mp hz;exact hk y hy
 omega
def JF(ks:List Int)(f:Int->Int):Int:=ks.foldr (λ t r=>(1+f t) * r) 1
def aj(A B:List (Int × Int)):List (Int × Int):=(A.map λ a=>(a.2,a.1))++B.map λ a=>(-a.2,a.1)
theorem gO{l b:Addr}{xs ys:List V}{H:Hp}{Q:VK}(h:H l=some (.lst xs))(h':H b=some (.lst ys))(hl:xs.length+ys.length<=sizeLine)(q:gB (.lst (xs++ys)) H Q):FP FO (.ref l) Q (.ref b) H:=by
 rw [zm,zl,aL,h]
 show aP (aL H b) (FQ xs H Q)
 rw [aL,h'];exact⟨hl,q⟩
theorem gR{α:Type}{R:α->V->Prop}{as bs:List α}{xs ys:List V}(h1:Al R as xs)(h2:Al R bs ys):Al R (as++bs) (xs++ys):=by
 refine⟨by rw [JU,JU,h1.1,h2.1],λ i z y hz hy=>?_⟩
 by_cases hi:i < as.length
 ·rw [Kr hi] at hz;rw [Kr (by rw [h1.1];exact hi)] at hy;exact h1.2 i z y hz hy
 ·rw [Ka %[0|8]] at hz;rw [Ka (by rw [h1.1];omega),h1.1] at hy;exact h2.2 _ z y hz hy
theorem jT{α β:Type}{R:β->V->Prop}{f:α->β}{as:List α}{ys:List V}(h:Al (λ a y=>R (f a) y) as ys):Al R (as.map f) ys:=by
 refine⟨by rw [JT];exact h.1,λ i z y hz hy=>?_⟩;rw [J5] at hz;obtain⟨a,ha,rfl⟩:=J6.mp hz;exact h.2 i a y ha hy
abbrev lY(C:Addr)(u:Addr)(v:Addr)(H:Hp)(Q:VK)(E:XK):Prop:=∃ (r1 r2 f1 f2:Int) (A B:List (Int × Int)),bf C H u r1 f1 A/\bf C H v r2 f2 B/\A.length<=8/\B.length<=8/\∀ (r:Addr) (H':Hp),H r=none->Ext H H'->cU H' r (aj A B)->Q (.ref r) H'
def mX(C:Addr):Sp:=λ vs H Q E=>∃ (u:Addr) (v:Addr),vs=[.ref u,.ref v]/\(lY C u v H Q E)
theorem lO(C:Addr)(u:Addr)(v:Addr)(H:Hp)(Q:VK)(E:XK):mX C [.ref u,.ref v] H Q E=(lY C u v H Q E):=rH (f:=λ (u:Addr) (v:Addr)=>[.ref u,.ref v]) (λ _ _ _ _ h=>by cases h;exact⟨rfl,rfl⟩) u v
theorem vp(C:Addr){vs:List V}{H:Hp}{Q:VK}{E:XK}(h:mX C vs H Q E):vs.length=2:=rL h λ _ _=>rfl
theorem ph(T:Tx K mg t):bC P w K mg base CX0 1 t.a_pulls t.d_pulls ["one", "other"] (mX t.a_View):=by
 refine T.F_pulls.ok Cr (λ vs H Q E h=>vp _ h) (λ c A o s H vs Q E hr h=>?_)
 ·obtain⟨u,v,rfl,r1,r2,f1,f2,A,B,vu,vv,hA,hB,k⟩:=h;obtain⟨dx,l,hu,ys,hl,al⟩:=vu.ob;obtain⟨dy,l2,hv,ys2,hl2,al2⟩:=vv.ob;have c1:=T.cl_View;have c3:=T.na_View_axes;have g1:=dc r1 f1 l;have g2:=dc r2 f2 l2;refine⟨_,%[%[%[ft,%[(["size", "pace", "one", "other"]),(2),(aG (aa gP) ["one", "other"] rfl rfl nofun),rfl,%[%[%[0|0],rfl|36]|24],(λ C s₀ H₀ ex pn=>(%[(2),rfl,%[%[(0),_,(show List.Nodup (["size", "pace", "one", "other"]:List Str) from by decide +kernel),rfl,(Or.inl rfl),%[0|7]|17],%[%[(1),_,(show List.Nodup (["size", "pace", "one", "other"]:List Str) from by decide +kernel),rfl,(Or.inl rfl),%[0|7]|17],(@aA _),∅|15],∅|15],∅,∅|21].mono λ _ _ _ _ h=>aX h)),(λ C s₀ H₀ ex pn=>(@aM _)),(λ C s₀ H₀ ex pn=>%[%[%[1|0],%[%[0|0]|1]|1]|18]),(by intros;rfl)|25],%[(["size", "pace", "one", "other"]),(2),(aG (aa gP) ["one", "other"] rfl rfl nofun),rfl,%[%[%[1|0],rfl|36]|24],(λ C s₀ H₀ ex pn=>(%[(2),rfl,%[%[(0),_,(show List.Nodup (["size", "pace", "one", "other"]:List Str) from by decide +kernel),rfl,(Or.inl rfl),%[0|7]|17],%[%[(1),_,(show List.Nodup (["size", "pace", "one", "other"]:List Str) from by decide +kernel),rfl,(Or.inl rfl),%[0|7]|17],(@aA _),∅|15],∅|15],∅,∅|21].mono λ _ _ _ _ h=>aX h)),(λ C s₀ H₀ ex pn=>(@aM _)),(λ C s₀ H₀ ex pn=>%[%[(@zL _ _ _ _ _ _ mU %[1|0]),%[%[0|0]|1]|1]|18]),(by intros;rfl)|25]|9]|13]|12],?_⟩;rw [show start ["one", "other"] [.ref u,.ref v]=[some (.ref u),some (.ref v)] from rfl];exists k;ac_rfl;have wk:=fq (K:=K) (R:=axP) (λ _ _ _ _ h e=>h.ext e) hl (lh al);refine cZ A (λ _=>true) axP (λ D a y H'=>axP (a.2,a.1) y H') wk.1 wk.2 (λ D a y H1 H2 h e=>axP.ext (a:=(a.2,a.1)) h e) (λ D a y H1 xs o h hD=>axP.upd (z:=(a.2,a.1)) h hD) (ay %[0|8]) ?_ ?_
  ·intro D a x H' N1 N0 ha hD e _ ⟨q,hx,hq⟩ k1 _;subst hx;have k1':=k1 rfl;clear k1 k wk;simp! only [↓bM,↓aN];intro t1 H6 ht1 e6 h6;exact k1' _ H6 e6 ⟨t1,rfl,h6⟩
  intro D xs1 H1 hD e1 h1 al1;rw [iO] at al1;have hv1:=e1.at hv;have hl21:=e1.at hl2;exists al1;clear wk;have wk:=fq (K:=K) (R:=axP) (λ _ _ _ _ h e=>h.ext e) hl21 ((lh al2).imp λ _ _ t=>axP.ext t e1);ac_rfl;refine cZ B (λ _=>true) axP (λ D a y H'=>axP (-a.2,a.1) y H') wk.1 wk.2 (λ D a y H1 H2 h e=>axP.ext (a:=(-a.2,a.1)) h e) (λ D a y H1 xs o h hD=>axP.upd (z:=(-a.2,a.1)) h hD) (ay %[0|8]) ?_ ?_
  ·intro D a x H' N1 N0 ha hD e _ ⟨q,hx,hq⟩ k1 _;subst hx;have k1':=k1 rfl;clear k1 k wk;simp! only [↓bM,↓aN];intro t1 H6 ht1 e6 h6;exact k1' _ H6 e6 ⟨t1,rfl,h6⟩
  intro D2 xs2 H2 hD2 e2 h2 al2';rw [iO] at al2';have h1_2:=e2.at h1;have n1:xs1.length=A.length:=(al1 ()).1;have n2:xs2.length=B.length:=al2'.1;have fin:Al (λ z y=>axP z y H2) (aj A B) (xs1++xs2):=gR (jT ((al1 ()).imp λ _ _ t=>axP.ext t e2)) (jT al2');exists fin;clear wk al1 al2' hv1 hl21;refine gO h1_2 h2 (ay %[0|8]) ?_;intro D3 H3 hD3 e3 h3;exact k () D3 H3 ((e1.trans e2).free hD3) (e1.trans (e2.trans e3)) ⟨_,h3,(fin ()).imp λ _ _ t=>axP.ext t e3⟩
abbrev lX(C:Addr)(u:Addr)(v:Addr)(H:Hp)(Q:VK)(E:XK):Prop:=∃ (room f1 f2:Int) (A B:List (Int × Int)),bf C H u room f1 A/\bf C H v room f2 B/\Q .non H
def mW(C:Addr):Sp:=λ vs H Q E=>∃ (u:Addr) (v:Addr),vs=[.ref u,.ref v]/\(lX C u v H Q E)
theorem vX(C:Addr)(u:Addr)(v:Addr)(H:Hp)(Q:VK)(E:XK):mW C [.ref u,.ref v] H Q E=(lX C u v H Q E):=rH (f:=λ (u:Addr) (v:Addr)=>[.ref u,.ref v]) (λ _ _ _ _ h=>by cases h;exact⟨rfl,rfl⟩) u v
theorem vm(C:Addr){vs:List V}{H:Hp}{Q:VK}{E:XK}(h:mW C vs H Q E):vs.length=2:=rL h λ _ _=>rfl
theorem iI(T:Tx K mg t):bC P w K mg base CX0 1 t.a_refuse_rooms t.d_refuse_rooms ["one", "other"] (mW t.a_View):=by
 refine T.F_refuse_rooms.ok i7 (λ vs H Q E h=>vm _ h) (λ c A o s H vs Q E hr h=>?_)
 ·obtain⟨u,v,rfl,room,f1,f2,A,B,vu,vv,k⟩:=h;obtain⟨dx,D,hu,_⟩:=vu.ob;obtain⟨dy,D2,hv,_⟩:=vv.ob;have c1:=T.cl_View;have c4:=T.na_View_room;have g1:=ji room f1 D;have g2:=ji room f2 D2;refine⟨_,%[%[%[(ck hr.units),%[%[0|0],rfl|36],%[%[1|0],rfl|36],(ae _)|14],%[(@gn _ _)|12],(@ao _)|16]|12],?_⟩;rw [show start ["one", "other"] [.ref u,.ref v]=[some (.ref u),some (.ref v)] from rfl];ac_rfl
theorem g9{kvs:List (Key × V)}{k:Key}(v:V){x:V}(h:di kvs k=some x):(cT kvs k v).map (·.1)=kvs.map (·.1):=by
 unfold cT;rw [ed,h,Option.isSome_some,if_pos rfl,map_map];refine map_congr_left λ p _=>?_
 show (if p.1=k then (p.1,v) else p).1=p.1
 split<;>rfl
theorem fy:∀ (l:List (Int × Int)) (z:Int × Int) (t:Int),dF (l++[z]) t=dF l t+(if z.1=t then z.2 else 0)
 | [],z,t=>by show (if z.1=t then z.2 else 0)+0=0+_;omega
 | y::l,z,t=>by
  show (if y.1=t then y.2 else 0)+dF (l++[z]) t=(if y.1=t then y.2 else 0)+dF l t+_
  rw [fy l z t];omega
theorem gw(P:List (Int × Int))(z:Int × Int)(t:Int):cI (P++[z]) t=cI P t+(if af z.1=t then loP z else 0):=by
 unfold cI;rw [map_append];exact fy _ _ _
theorem ff(P:List (Int × Int))(z:Int × Int)(t:Int):bD (P++[z]) t=bD P t+(if af z.1=t then hiP z else 0):=by
 unfold bD;rw [map_append];exact fy _ _ _
theorem dN{f:Int × Int->Int}{t:Int}:∀ {P:List (Int × Int)},(∀ z∈P,¬ af z.1=t)->dF (P.map λ z=>(af z.1,f z)) t=0
 | [],_=>rfl
 | z::P,h=>by
  rw [Km]
  show (if af z.1=t then f z else 0)+_=0
  rw [JQ (h z JP),dN λ y hy=>h y (JN _ hy)];rfl
theorem fF{kvs:List (Key × V)}{k:Key}{v:V}(h:di kvs k=none):(cT kvs k v).map (·.1)=kvs.map (·.1)++[k]:=by
 have hn:=L2.FX h;unfold cT;split
 ·rename_i hc
  exact absurd hc (by
   intro hc;apply hn
   simpa [J8] using hc)
 ·rw [Lu];rfl
structure qc(P:List (Int × Int))(ks:List Int)(k1 k2:List (Key × V)):Prop where
 e1:k1.map (·.1)=ks.map (Sum.inl:Int->Key)
 e2:k2.map (·.1)=ks.map (Sum.inl:Int->Key)
 nd:ks.Nodup
 len:ks.length<=P.length
 v1:∀ t∈ks,di k1 (.inl t)=some (.int (cI P t))
 v2:∀ t∈ks,di k2 (.inl t)=some (.int (bD P t))
 mem:∀ t,t∈ks ↔ t ≠ 0/\∃ z∈P,af z.1=t
theorem ef{kvs:List (Key × V)}{ks:List Int}{t:Int}(e:kvs.map (·.1)=ks.map (Sum.inl:Int->Key))(h:¬ t∈ks):di kvs (.inl t)=none:=by
 cases hv:di kvs (.inl t) with
 | none=>rfl
 | some v=>
  exfalso;unfold di at hv;obtain⟨kv,hf,rfl⟩:=Option.map_eq_some_iff.mp hv;have e2:=List.find?_some hf;have e3:kv.1=.inl t:=of_decide_eq_true e2;have hm:kv.1∈kvs.map (·.1):=List.mem_map.mpr ⟨kv,List.mem_of_find?_eq_some hf,rfl⟩;rw [e,e3] at hm;obtain⟨x,hx,ex⟩:=List.mem_map.mp hm;cases ex;exact h hx
theorem qc.get{P:List (Int × Int)}{ks:List Int}{k1 k2:List (Key × V)}(h:qc P ks k1 k2){t:Int}(ht:t ≠ 0):(di k1 (.inl t)).getD (.int 0)=.int (cI P t)/\(di k2 (.inl t)).getD (.int 0)=.int (bD P t):=by
 by_cases hm:t∈ks
 ·rw [h.v1 t hm,h.v2 t hm];exact⟨rfl,rfl⟩
 ·have hno:∀ z∈P,¬ af z.1=t:=λ z hz e=>hm ((h.mem t).mpr ⟨ht,z,hz,e⟩);rw [ef h.e1 hm,ef h.e2 hm];unfold cI bD;rw [dN hno,dN hno];exact⟨rfl,rfl⟩
theorem qc.nil:qc [] [] [] []:=⟨rfl,rfl,L8,JO _,(λ t h=>by cases h),(λ t h=>by cases h),λ t=>⟨(λ h=>by cases h),λ ⟨_,z,hz,_⟩=>by cases hz⟩⟩
theorem qc.skip{P:List (Int × Int)}{ks:List Int}{k1 k2:List (Key × V)}{z:Int × Int}(h:qc P ks k1 k2)(hz:z.1=0):qc (P++[z]) ks k1 k2:=by
 have h0:af z.1=0:=by rw [hz];rfl
 have hne:∀ t∈ks,¬ af z.1=t:=λ t ht e=>((h.mem t).mp ht).1 (by rw [←e];exact h0);refine⟨h.e1,h.e2,h.nd,by rw [JU];have:=h.len;omega,λ t ht=>?_,λ t ht=>?_,λ t=>?_⟩
 ·rw [h.v1 t ht,gw,JQ (hne t ht),KD]
 ·rw [h.v2 t ht,ff,JQ (hne t ht),KD]
 ·rw [h.mem t];constructor
  ·rintro ⟨a,y,hy,e⟩;exact⟨a,y,KA _ hy,e⟩
  ·rintro ⟨a,y,hy,e⟩
   rcases Ke.mp hy with hy|hy
   ·exact⟨a,y,hy,e⟩
   ·rw [Kd.mp hy,h0] at e;exact absurd e.symm a
theorem qc.put{P:List (Int × Int)}{ks:List Int}{k1 k2:List (Key × V)}{z:Int × Int}(h:qc P ks k1 k2)(hz:z.1 ≠ 0):∃ ks',qc (P++[z]) ks' (cT k1 (.inl (af z.1)) (.int (cI P (af z.1)+loP z))) (cT k2 (.inl (af z.1)) (.int (bD P (af z.1)+hiP z))):=by
 have h0:af z.1 ≠ 0:=by unfold af;omega
 have hv:∀ (k:List (Key × V)) (v:V) (t:Int),di (cT k (.inl (af z.1)) v) (.inl t)=if af z.1=t then some v else di k (.inl t):=λ k v t=>by
  rw [jU]
  by_cases e:af z.1=t
  ·rw [JR e,JR (by rw [e])]
  ·rw [JQ e,JQ (λ q=>e (by cases q;rfl))]
 have fin:∀ ks',(∀ t,t∈ks' ↔ t∈ks\/t=af z.1)->(cT k1 (.inl (af z.1)) (.int (cI P (af z.1)+loP z))).map (·.1)=ks'.map (Sum.inl:Int->Key)->(cT k2 (.inl (af z.1)) (.int (bD P (af z.1)+hiP z))).map (·.1)=ks'.map (Sum.inl:Int->Key)->ks'.Nodup->ks'.length<=ks.length+1->qc (P++[z]) ks' (cT k1 (.inl (af z.1)) (.int (cI P (af z.1)+loP z))) (cT k2 (.inl (af z.1)) (.int (bD P (af z.1)+hiP z))):=λ ks' hm a1 a2 a3 a4=>by
  refine⟨a1,a2,a3,by rw [JU,Kg];have:=h.len;omega,λ t ht=>?_,λ t ht=>?_,λ t=>?_⟩
  ·rw [hv,gw]
   by_cases e:af z.1=t
   ·rw [JR e,JR e,e]
   ·rw [JQ e,JQ e,KD];exact h.v1 t (((hm t).mp ht).resolve_right λ q=>e q.symm)
  ·rw [hv,ff]
   by_cases e:af z.1=t
   ·rw [JR e,JR e,e]
   ·rw [JQ e,JQ e,KD];exact h.v2 t (((hm t).mp ht).resolve_right λ q=>e q.symm)
  ·rw [hm t,h.mem t];constructor
   ·rintro (⟨a,y,hy,e⟩|e)
    ·exact⟨a,y,KA _ hy,e⟩
    ·exact⟨by rw [e];exact h0,z,Kf _ JP,e.symm⟩
   ·rintro ⟨a,y,hy,e⟩
    rcases Ke.mp hy with hy|hy
    ·exact .inl ⟨a,y,hy,e⟩
    ·rw [Kd.mp hy] at e;exact .inr e.symm
 by_cases hm:af z.1∈ks
 ·refine⟨ks,fin ks (λ t=>⟨.inl,λ q=>q.elim id λ e=>by rw [e];exact hm⟩) ?_ ?_ h.nd %[0|8]⟩
  ·rw [g9 _ (h.v1 _ hm)];exact h.e1
  ·rw [g9 _ (h.v2 _ hm)];exact h.e2
 ·refine⟨ks++[af z.1],fin _ (λ t=>by rw [Ke,Kd]) ?_ ?_ ?_ (by rw [JU];exact JO _)⟩
  ·rw [fF (ef h.e1 hm),h.e1,Lu];rfl
  ·rw [fF (ef h.e2 hm),h.e2,Lu];rfl
  ·rw [List.nodup_append];exact⟨h.nd,by simp,λ a ha b hb e=>hm (by rw [Kd] at hb;rw [←hb,←e];exact ha)⟩
structure iP(ks:List Int)(P:List (Int × Int)):Prop where
 nd:ks.Nodup
 len:ks.length<=P.length
 mem:∀ t,t∈ks ↔ t ≠ 0/\∃ z∈P,af z.1=t
 ord:ks.Pairwise (· >= ·)
theorem trP.upd{z:Tm3}{y:V}{H:Hp}{p:Addr}{xs:List V}{o:HO}(h:trP z y H)(hp:H p=some (.lst xs)):trP z y (upd H p o):=by
 obtain⟨q,rfl,hq⟩:=h;exact⟨q,rfl,by rw [ah (λ e=>by rw [e,hp] at hq;cases hq)];exact hq⟩
abbrev p5(C:Addr)(u:Addr)(v:Addr)(H:Hp)(Q:VK)(E:XK):Prop:=∃ (room f1 f2:Int) (A B:List (Int × Int)),bf C H u room f1 A/\bf C H v room f2 B/\mK A/\mK B/\∀ (ks:List Int) (l r:Addr) (H':Hp),Ext H H'->H' r=some (.tup [.ref l,.int (f2 - f1)])->gg H' l (ag ks (aj A B))->iP ks (aj A B)->Q (.ref r) H'
def sR(C:Addr):Sp:=λ vs H Q E=>∃ (u:Addr) (v:Addr),vs=[.ref u,.ref v]/\(p5 C u v H Q E)
theorem pK(C:Addr)(u:Addr)(v:Addr)(H:Hp)(Q:VK)(E:XK):sR C [.ref u,.ref v] H Q E=(p5 C u v H Q E):=rH (f:=λ (u:Addr) (v:Addr)=>[.ref u,.ref v]) (λ _ _ _ _ h=>by cases h;exact⟨rfl,rfl⟩) u v
theorem xW(C:Addr){vs:List V}{H:Hp}{Q:VK}{E:XK}(h:sR C vs H Q E):vs.length=2:=rL h λ _ _=>rfl
theorem iq(T:Tx K mg t):bC P w K mg base CX0 2 t.a_gathered t.d_gathered ["one", "other"] (sR t.a_View):=by
 have G_refuse_rooms:=%[iI|46];have G_pulls:=%[ph|46];refine T.F_gathered.ok bJ (λ vs H Q E h=>xW _ h) (λ cdv A' outer s H vs Q E hr h=>?_)
 ·obtain⟨u,v,rfl,room,f1,f2,A,B,vu,vv,hA,hB,k⟩:=h;obtain⟨dx,l1,hu,_⟩:=vu.ob;obtain⟨dy,l2,hv,_⟩:=vv.ob;have c1:=T.cl_View;have c4:=T.na_View_first;have g1:=dk room f1 l1;have g2:=dk room f2 l2;refine⟨_,%[(@dJ _ _ _ _ %[refuse_rooms,%[%[0|0],%[%[1|0]|1]|1]|3] ∅),%[(@gH _ _ (2) _ _ _ _ bJ.nd rfl (Or.inr rfl) (@gq _ _) ∅ %[0|7]),%[(@gH _ _ (3) _ _ _ _ bJ.nd rfl (Or.inr rfl) (@gq _ _) ∅ %[0|7]),%[%[Ki,rfl,%[%[pulls,%[%[0|0],%[%[1|0]|1]|1]|3]|24],(%[(2),rfl,%[%[4,bJ|5],%[%[5,bJ|5],(@aA _),∅|15],∅|15],∅,∅|21].mono λ _ _ _ _ h=>aX h),%[%[%[(ck hr.units),%[4|0],%[0|2],(ae _)|14],%[%[6,bJ,%[abs,bQ,%[%[4|0]|1]|6]|4],%[%[7,bJ,(@kg _ _ _ _ _ _ _ _ %[cW,%[4|0],%[0|2],(ae _)|14] %[aE,%[5|0],%[0|2]|9] %[aE,%[0|2],%[5|0]|9])|4],%[%[(cw hr.units),%[2|0],%[6|0],%[aD,%[(cw hr.units),%[2|0],%[6|0],%[0|2],⟨by rfl,by rfl,by rfl,by rfl⟩|43],%[min,(dQ rfl),%[%[0|2],%[%[7|0]|1]|1]|6]|9],rfl|40],%[%[(cw hr.units),%[3|0],%[6|0],%[aD,%[(cw hr.units),%[3|0],%[6|0],%[0|2],⟨by rfl,by rfl,by rfl,by rfl⟩|43],%[max,(c8 rfl),%[%[0|2],%[%[7|0]|1]|1]|6]|9],rfl|40]|12]|11]|11]|11],(@ao _)|16]|12],(by intros;rfl)|33],%[%[(["times", "one", "other", "lows", "highs", "pace", "size", "!times", "reach", "terms"]),(1),(8),_,bJ.nd,rfl,(Or.inl rfl),(aG (aa eo) ["one", "other", "lows", "highs", "pace", "size", "times", "reach", "terms"] rfl rfl nofun),rfl,%[(@uI _ ("sorted") _ _ _ _ _ _ _ _ _ _ (qY rfl) ∅ T.z_sorted nofun %[%[2|0]|1] (@AJ _ _ _ _ _ _ _ (@cV _ _ _ _) (@DS _)) ⋯ ⋯ ∅ ∅ ∅ ∅ ∅)|24],(λ C s₀ H₀ ex pn=>%[(0),_,(show List.Nodup (["times", "one", "other", "lows", "highs", "pace", "size", "!times", "reach", "terms"]:List Str) from by decide +kernel),rfl,(Or.inl rfl),%[0|7]|17]),(λ C s₀ H₀ ex pn=>(@aM _)),(λ C s₀ H₀ ex pn=>%[%[%[0|0],%[(@nk _ _ _ _ _ _ (cw hr.units) %[3|0] %[0|0] (λ _ _=>rfl)),%[(@nk _ _ _ _ _ _ (cw hr.units) %[4|0] %[0|0] (λ _ _=>rfl))|1]|1]|1]|18]),∅,(by intros;rfl),%[0|7]|44],%[%[%[%[%[8|0],%[%[aE,%[%[1|0],rfl|36],%[%[0|0],rfl|36]|9]|1]|1]|18]|13]|12]|11]|11]|11]|11]|11],?_⟩;rw [show start ["one", "other", "lows", "highs", "pace", "size", "times", "reach", "terms"] [.ref u,.ref v]=[some (.ref u),some (.ref v),none,none,none,none,none,none,none] from rfl];clear G_refuse_rooms G_pulls
  have hsz:∀ z∈aj A B,(1:Int)<=z.2:=λ z hz=>by
   unfold aj at hz
   rcases Ke.mp hz with hz|hz
   ·obtain⟨a,ha,rfl⟩:=J8.mp hz;exact(hA.2 a ha).1
   ·obtain⟨a,ha,rfl⟩:=J8.mp hz;exact(hB.2 a ha).1
  have hPl:(aj A B).length<=16:=by unfold aj;rw [length_append,length_map,length_map];have:=hA.1;have:=hB.1;omega
  exists k;exists hsz;ac_rfl;rw [vX];refine⟨room,f1,f2,A,B,vu,vv,?_⟩;ac_rfl;intro d1 H1 hd1 e1 h1;ac_rfl;intro d2 H2 hd2 e2 h2;have e02:=e1.trans e2;have h1_2:=e2.at h1;have hd1_0:=hd1;have hd2_0:H d2=none:=e1.free hd2;have n12:d1 ≠ d2:=λ z=>by rw [z,hd2] at h1;cases h1
  clear hd1 hd2 h1;ac_rfl;rw [lO];refine⟨room,room,f1,f2,A,B,vu.ext e02,vv.ext e02,hA.1,hB.1,λ r H3 hr3 e3 t3=>?_⟩;obtain⟨ys,hy3,al⟩:=t3;have e03:=e02.trans e3;have nr1:r ≠ d1:=λ z=>by rw [z,h1_2] at hr3;cases hr3
  have nr2:r ≠ d2:=λ z=>by rw [z,h2] at hr3;cases hr3
  have hyl:ys.length=(aj A B).length:=al.1;generalize aj A B=P' at *;have h1_3:=e3.at h1_2;have h2_3:=e3.at h2;exists al;clear hr3 e1 e2 e3 e02 h1_2 h2;ac_rfl;refine dM (xs:=ys) (λ i σ H'=>∃ (ks:List Int) (k1 k2:List (Key × V)) (v4 v5 v6 v7:Option V),σ=[some (.ref u),some (.ref v),some (.ref d1),some (.ref d2),v4,v5,v6,v7,none]/\Ext H H'/\(∀ b o,b ≠ d1->b ≠ d2->H3 b=some o->H' b=some o)/\H' d1=some (.dK k1)/\H' d2=some (.dK k2)/\qc (P'.take i) ks k1 k2) ⟨[],[],[],none,none,none,none,rfl,e03,λ _ _ _ _ h=>h,h1_3,h2_3,qc.nil⟩ (λ i σ H' _ ⟨_,_,_,_,_,_,_,_,_,kp,_⟩=>kp r _ nr1 nr2 hy3) ?_ ?_
  ·rintro i y _ H4 hi ⟨ks,k1,k2,v4,v5,v6,v7,rfl,e4,kp,h14,h24,gi⟩;have hil:i < P'.length:=by have:=(JM.mp hi).1;omega
   obtain⟨z,hz⟩:∃ z,P'[i]? = some z:=⟨_,JJ hil⟩;obtain⟨q,rfl,hq⟩:=(al ()).2 i z y hz hi;have hz1:=hsz () z (K1 hz);have htk:P'.take (i+1)=P'.take i++[z]:=by rw [Ln,hz];rfl
   have hq4:=kp q _ (λ e=>by rw [e,h1_3] at hq;cases hq) (λ e=>by rw [e,h2_3] at hq;cases hq) hq;have lk1:k1.length < sizeLine:=fR (by have:=KC List.length gi.e1;have:=gi.len;rw [JT,JT] at *;rw [KN] at *;omega);have lk2:k2.length < sizeLine:=fR (by have:=KC List.length gi.e2;have:=gi.len;rw [JT,JT] at *;rw [KN] at *;omega);rw [htk]
   by_cases hz0:z.1=0
   ·have gs:=λ (_:Unit)=>gi.skip hz0;clear gi hi hz k;simp! only [↓aQ];exact⟨ks,k1,k2,_,_,_,_,rfl,e4,kp,rfl,rfl,gs ()⟩
   ·have hab:af z.1 ≠ 0:=by unfold af;omega
    obtain⟨b1,b2⟩:=gi.get hab;have gp:=λ (_:Unit)=>gi.put hz0;exists hz1
    have habs:(if z.1 < 0 then -z.1 else z.1)=af z.1:=by unfold af;split<;>omega
    clear gi hi hz k
    by_cases hp:0 < z.1
    ·have hmin:(if z.2 - 1 < 0 then z.2 - 1 else 0)=loP z:=by unfold loP;rw [if_pos hp];have:=hz1 ();split<;>omega
     have hmax:(if 0 < z.2 - 1 then z.2 - 1 else 0)=hiP z:=by unfold hiP;rw [if_pos hp];have:=hz1 ();split<;>omega
     simp! only [↓aQ];refine eF h14 ?_;ac_rfl;refine gG (k:=.inl (af z.1)) h14 ?_;rw [b1];ac_rfl;refine fP (k:=.inl (af z.1)) h14 lk1 ?_;have h15:upd H4 d1 (.dK (cT k1 (.inl (af z.1)) (.int (cI (P'.take i) (af z.1)+loP z)))) d2=some (.dK k2):=by rw [ah (Kh n12)];exact h24
     ac_rfl;refine eF h15 ?_;ac_rfl;refine gG (k:=.inl (af z.1)) h15 ?_;rw [b2];ac_rfl;refine fP (k:=.inl (af z.1)) h15 lk2 ?_;obtain⟨ks',gp'⟩:=gp ();exact⟨ks',_,_,_,_,_,_,rfl,(e4.put hd1_0).put hd2_0,λ b o x1 x2 h=>by rw [ah x2,ah x1];exact kp b o x1 x2 h,by rw [ah n12];exact ai,ai,gp'⟩
    ·have hmin:(if 1 - z.2 < 0 then 1 - z.2 else 0)=loP z:=by unfold loP;rw [if_neg hp];have:=hz1 ();split<;>omega
     have hmax:(if 0 < 1 - z.2 then 1 - z.2 else 0)=hiP z:=by unfold hiP;rw [if_neg hp];have:=hz1 ();split<;>omega
     simp! only [↓aQ];refine eF h14 ?_;ac_rfl;refine gG (k:=.inl (af z.1)) h14 ?_;rw [b1];ac_rfl;refine fP (k:=.inl (af z.1)) h14 lk1 ?_;have h15:upd H4 d1 (.dK (cT k1 (.inl (af z.1)) (.int (cI (P'.take i) (af z.1)+loP z)))) d2=some (.dK k2):=by rw [ah (Kh n12)];exact h24
     ac_rfl;refine eF h15 ?_;ac_rfl;refine gG (k:=.inl (af z.1)) h15 ?_;rw [b2];ac_rfl;refine fP (k:=.inl (af z.1)) h15 lk2 ?_;obtain⟨ks',gp'⟩:=gp ();exact⟨ks',_,_,_,_,_,_,rfl,(e4.put hd1_0).put hd2_0,λ b o x1 x2 h=>by rw [ah x2,ah x1];exact kp b o x1 x2 h,by rw [ah n12];exact ai,ai,gp'⟩
  ·rintro _ H4 ⟨ks,k1,k2,v4,v5,v6,v7,rfl,e4,kp,h14,h24,gi⟩;rw [hyl,Lk] at gi;have hu4:=e4.at hu;have hv4:=e4.at hv;have hk1:ks.length < 64:=by have:=gi.len;omega
   exists gi;clear al hy3 h1_3 h2_3 hd1_0 hd2_0 kp e03 hsz;ac_rfl;refine wR h14 (gi ()).e1 hk1 λ ms hpm hord=>?_;intro q5 H5 hq5 e5 h5;have h14_5:=e5.at h14;have h24_5:=e5.at h24;have hms:ms.length<=64:=by rw [hpm.length_eq];omega
   exists hpm;exists hord;clear hq5;ac_rfl;have wk:=ow (K:=K) h5;refine cZ (ms.map V.int) (λ _=>true) (λ z x H'=>x=z/\H' q5=some (.lst (ms.map V.int))) (λ D z y H'=>trP (vi z,cI P' (vi z),bD P' (vi z)) y H') wk.1 wk.2 (λ D z y H1 H2 h e=>trP.ext (z:=(vi z,cI P' (vi z),bD P' (vi z))) h e) (λ D z y H1 xs o h hD=>trP.upd (z:=(vi z,cI P' (vi z),bD P' (vi z))) h hD) (ay (by rw [JT];omega)) ?_ ?_
   ·intro D z y H' N1 N0 hz hD e _ ⟨hy,_⟩ kx _;subst hy;obtain⟨t',ht',rfl⟩:=J8.mp hz;have hm:=(hpm ()).mem_iff.mp ht';have w1:=(gi ()).v1 t' hm;have w2:=(gi ()).v2 t' hm;have k1':=kx rfl;have a1:=e.at h14_5;have a2:=e.at h24_5;clear kx k hz wk;simp! only [↓bE,↓aN];refine sC (k:=.inl t') a1 w1 ?_;ac_rfl;refine sC (k:=.inl t') a2 w2 ?_;ac_rfl;intro g H6 _ e6 h6;exact k1' _ H6 e6 ⟨g,rfl,h6⟩
   ·intro D zs H6 hD e6 h6 al6;rw [iO] at al6
    have t6:gg H6 D (ag ms P'):=⟨zs,h6,by
     refine⟨by rw [al6.1];unfold ag;rw [length_map,length_map],λ i z y hz hy=>?_⟩;unfold ag at hz;rw [getElem?_map] at hz;obtain⟨t',ht',rfl⟩:=Option.map_eq_some_iff.mp hz;exact al6.2 i (.int t') y (by rw [getElem?_map,ht'];rfl) hy⟩
    have ko:iP ms P':=⟨(hpm ()).nodup_iff.mpr (gi ()).nd,by rw [(hpm ()).length_eq];exact(gi ()).len,λ t'=>(hpm ()).mem_iff.trans ((gi ()).mem t'),hord ()⟩;have e46:=e5.trans e6;have hu6:=e46.at hu4;have hv6:=e46.at hv4;exists t6;exists ko;clear al6 wk hD h6 h5 hu4 hv4 h14_5 h24_5 h14 h24;ac_rfl;intro r7 H7 _ e7 h7;exact k () ms D r7 H7 (e4.trans (e46.trans e7)) h7 (bL (t6 ()) e7) (ko ())
abbrev jC  (p:Addr) (H:Hp) (Q:VK) (E:XK):Prop:=∃ zs:List Tm3,gg H p zs/\zs.length<=17/\∀ (r:Addr) (H':Hp),Ext H H'->cU H' r (zs.map λ z=>z.2)->Q (.ref r) H'
def j6  : Sp:=λ vs H Q E=>∃ (p:Addr),vs=[.ref p]/\(jC  p H Q E)
theorem jt  (p:Addr) (H:Hp) (Q:VK) (E:XK):j6  [.ref p] H Q E=(jC  p H Q E):=rJ (f:=λ (p:Addr)=>[.ref p]) (λ _ _ h=>by cases h;exact rfl) p
theorem qP  {vs:List V}{H:Hp}{Q:VK}{E:XK}(h:j6  vs H Q E):vs.length=1:=p9 h λ _=>rfl
theorem fg(T:Tx K mg t):bC P w K mg base CX0 1 t.a_first_case t.d_first_case ["terms"] j6:=by
 refine T.F_first_case.ok mG (λ vs H Q E h=>qP h) (λ c A o s H vs Q E hr h=>?_)
 ·obtain⟨p,rfl,zs,⟨ys,hp,al⟩,hl,k⟩:=h;refine⟨_,%[%[%[(["term", "terms"]),(1),(aG (aa cy) ["terms"] rfl rfl nofun),rfl,%[%[0|0]|24],(λ C s₀ H₀ ex pn=>%[(0),_,(show List.Nodup (["term", "terms"]:List Str) from by decide +kernel),rfl,(Or.inl rfl),%[0|7]|17]),(λ C s₀ H₀ ex pn=>(@aM _)),(λ C s₀ H₀ ex pn=>%[%[%[az,%[0|0],%[0|2],(λ _ _=>rfl)|10],%[%[az,%[0|0],%[0|2],(λ _ _=>rfl)|10]|1]|1]|18]),(by intros;rfl)|25]|13]|12],?_⟩;rw [show start ["terms"] [.ref p]=[some (.ref p)] from rfl];exists k;have wk:=fq (K:=K) (R:=trP) (λ _ _ _ _ h e=>h.ext e) hp al;ac_rfl;refine cZ zs (λ _=>true) trP (λ D z y H'=>axP z.2 y H') wk.1 wk.2 (λ D z y H1 H2 h e=>axP.ext (a:=z.2) h e) (λ D z y H1 xs o h hD=>axP.upd (z:=z.2) h hD) (ay %[0|8]) ?_ ?_
  ·intro D z x H' N1 N0 hz hD e _ ⟨q,hx,hq⟩ k1 _;subst hx;have k1':=k1 rfl;clear k1 k wk;simp! only [↓bE,↓aN];intro t1 H6 ht1 e6 h6;exact k1' _ H6 e6 ⟨t1,rfl,h6⟩
  intro D ys2 H2 hD e2 h2 al2;rw [iO] at al2;have k':=k () D H2 e2 ⟨ys2,h2,jT al2⟩;clear k wk al2;ac_rfl
theorem HN{n:Nat}{c:Int}(h0:0<=c)(h1:c < n):ixN n c=some c.toNat:=by
 unfold ixN;rw [if_pos h0,if_pos %[0|8]]
theorem oR{α:Type}{R:α->V->Prop}{zs:List α}{ys:List V}{k:Nat}{z:α}{y:V}(h:Al R zs ys)(r:R z y):Al R (zs.set k z) (ys.set k y):=by
 refine⟨by rw [Mg,Mg];exact h.1,λ i a b ha hb=>?_⟩;rw [List.getElem?_set] at ha hb
 by_cases e:k=i
 ·rw [JR e] at ha hb;split at ha
  ·split at hb
   ·cases ha;cases hb;exact r
   ·cases hb
  ·cases ha
 ·rw [JQ e] at ha hb;exact h.2 i a b ha hb
abbrev jv  (q:Addr) (k:Int) (a:Int) (H:Hp) (Q:VK) (E:XK):Prop:=∃ (cs:Bx) (m:Nat),k=(m:Int)/\cU H q cs/\m < cs.length/\cs.length<=17/\∀ (r a1 a2:Addr) (H':Hp),H a1=none->H a2=none->Ext H H'->H' r=some (.lst [.ref a1,.ref a2])->cU H' a1 (upC cs m a)->cU H' a2 (loC cs m a)->Q (.ref r) H'
def jX  : Sp:=λ vs H Q E=>∃ (q:Addr) (k:Int) (a:Int),vs=[.ref q,.int k,.int a]/\(jv  q k a H Q E)
theorem jr  (q:Addr) (k:Int) (a:Int) (H:Hp) (Q:VK) (E:XK):jX  [.ref q,.int k,.int a] H Q E=(jv  q k a H Q E):=rG (f:=λ (q:Addr) (k:Int) (a:Int)=>[.ref q,.int k,.int a]) (λ _ _ _ _ _ _ h=>by cases h;exact⟨rfl,rfl,rfl⟩) q k a
theorem qJ  {vs:List V}{H:Hp}{Q:VK}{E:XK}(h:jX  vs H Q E):vs.length=3:=rK h λ _ _ _=>rfl
theorem lE(T:Tx K mg t):bC P w K mg base CX0 1 t.a_parted t.d_parted ["case", "k", "at"] jX:=by
 refine T.F_parted.ok ku (λ vs H Q E h=>qJ h) (λ c A o s H vs Q E hr h=>?_)
 ·obtain⟨q,_,a,rfl,cs,m,rfl,⟨ys,hq,al⟩,hm,h17,k⟩:=h;refine⟨_,%[%[3,ku,%[eA,∅,T.z_list,nofun,%[%[0|0]|1],⋯,⋯,∅,∅|41]|4],%[%[4,ku,%[eA,∅,T.z_list,nofun,%[%[0|0]|1],⋯,⋯,∅,∅|41]|4],%[%[%[%[%[aD,%[2|0],%[0|2]|9],%[%[az,%[az,%[0|0],%[1|0],(λ _ _=>rfl)|10],%[0|2],(λ _ _=>rfl)|10]|1]|1]|18],(@oC _ _ _ _ _ _ _ %[3|0] %[1|0] gm (by intros;rfl)),∅,∅,∅|37],%[%[%[%[%[az,%[az,%[0|0],%[1|0],(λ _ _=>rfl)|10],%[0|2],(λ _ _=>rfl)|10],%[%[2|0]|1]|1]|18],(@oC _ _ _ _ _ _ _ %[4|0] %[1|0] gm (by intros;rfl)),∅,∅,∅|37],%[%[%[%[%[3|0],%[%[4|0]|1]|1]|23]|13]|12]|11]|11]|11]|11],?_⟩;rw [show start ["case", "k", "at", "upper", "lower"] [.ref q,.int (m:Int),.int a]=[some (.ref q),some (.int (m:Int)),some (.int a),none,none] from rfl];have hyl:ys.length=cs.length:=al.1;obtain⟨y,hat,hy⟩:=eW al hm;rw [Kv] at hat;have ix:ixN ys.length (m:Int)=some m:=by have:=HN (n:=ys.length) (c:=(m:Int)) %[0|8] %[0|8];rw [Ks] at this;exact this
  exists hyl;exists k;exists al;ac_rfl;intro p1 H1 hp1 e1 h1;have hq1:=e1.at hq;ac_rfl;intro p2 H2 hp2 e2 h2;have hq2:=e2.at hq1;have h1_2:=e2.at h1;have hy2:=(e1.trans e2).at hy;have hp2_0:H p2=none:=e1.free hp2;have n12:p1 ≠ p2:=λ z=>by rw [z,hp2] at h1;cases h1
  have nq1:q ≠ p1:=λ z=>by rw [z,hp1] at hq;cases hq
  have ny1:y ≠ p1:=λ z=>by rw [z,hp1] at hy;cases hy
  have hp1_0:=hp1;clear hp1 hp2 h1 hq1;ac_rfl;intro t3 H3 ht3 e3 h3;have h1_3:=e3.at h1_2;have h2_3:=e3.at h2;have hq3:=e3.at hq2;have hy3:=e3.at hy2;have nt1:t3 ≠ p1:=λ z=>by rw [z,h1_2] at ht3;cases ht3
  have e03:=e1.trans (e2.trans e3);clear ht3 h1_2 h2 hq2 hy2 e1 e2 e3;ac_rfl;have h2_4:upd H3 p1 (.lst (ys.set m (.ref t3))) p2=some (.lst ys):=by rw [ah (Kh n12)];exact h2_3
  have hq4:upd H3 p1 (.lst (ys.set m (.ref t3))) q=some (.lst ys):=by rw [ah nq1];exact hq3
  have hy4:upd H3 p1 (.lst (ys.set m (.ref t3))) y=some (.tup [.int (cs.getD m default).1,.int (cs.getD m default).2]):=by rw [ah ny1];exact hy3
  have h1_4:upd H3 p1 (.lst (ys.set m (.ref t3))) p1=some (.lst (ys.set m (.ref t3))):=ai;have h3_4:upd H3 p1 (.lst (ys.set m (.ref t3))) t3=some (.tup [.int (a+1),.int (cs.getD m default).2]):=by rw [ah nt1];exact h3
  have e04:Ext H (upd H3 p1 (.lst (ys.set m (.ref t3)))):=e03.put hp1_0;generalize upd H3 p1 (.lst (ys.set m (.ref t3)))=H4 at *;clear h1_3 h2_3 hq3 hy3 h3 e03;ac_rfl;intro t5 H5 ht5 e5 h5;have h2_5:=e5.at h2_4;have nt2:t5 ≠ p2:=λ z=>by rw [z,h2_4] at ht5;cases ht5
  have n32:t3 ≠ p2:=λ z=>by rw [z,h2_4] at h3_4;cases h3_4
  have e05:=e04.trans e5;have h1_5:=e5.at h1_4;have h3_5:=e5.at h3_4;clear ht5 hq4 hy4 h2_4 h1_4 h3_4 e04 e5;ac_rfl;have h2_6:upd H5 p2 (.lst (ys.set m (.ref t5))) p2=some (.lst (ys.set m (.ref t5))):=ai;have h1_6:upd H5 p2 (.lst (ys.set m (.ref t5))) p1=some (.lst (ys.set m (.ref t3))):=by rw [ah n12];exact h1_5
  have h3_6:upd H5 p2 (.lst (ys.set m (.ref t5))) t3=some (.tup [.int (a+1),.int (cs.getD m default).2]):=by rw [ah n32];exact h3_5
  have h5_6:upd H5 p2 (.lst (ys.set m (.ref t5))) t5=some (.tup [.int (cs.getD m default).1,.int a]):=by rw [ah nt2];exact h5
  have e06:Ext H (upd H5 p2 (.lst (ys.set m (.ref t5)))):=e05.put hp2_0;generalize upd H5 p2 (.lst (ys.set m (.ref t5)))=H6 at *;clear h1_5 h2_5 h3_5 h5 e05;intro r H7 hr7 e7 h7;have e07:=e06.trans e7;have al7:=λ (_:Unit)=>(al ()).imp λ _ _ t=>axP.ext t e07;exact k () r p1 p2 H7 hp1_0 hp2_0 e07 h7 ⟨_,e7.at h1_6,oR (al7 ()) ⟨t3,rfl,e7.at h3_6⟩⟩ ⟨_,e7.at h2_6,oR (al7 ()) ⟨t5,rfl,e7.at h5_6⟩⟩
def Js(H:Hp):Option (List Int)->V->Prop
 | none,v=>v=.non
 | some xs,v=>∃ r,v=.ref r/\H r=some (.lst (xs.map V.int))
abbrev uw  (p:Addr) (g:Int) (q:Addr) (H:Hp) (Q:VK) (E:XK):Prop:=∃ (zs:List Tm3) (cs:Bx),gg H p zs/\cU H q cs/\cL zs/\cJ zs cs/\∀ v H',Ext H H'->Js H' (rO zs g cs) v->Q v H'
def zG  : Sp:=λ vs H Q E=>∃ (p:Addr) (g:Int) (q:Addr),vs=[.ref p,.int g,.ref q]/\(uw  p g q H Q E)
theorem Cp  (p:Addr) (g:Int) (q:Addr) (H:Hp) (Q:VK) (E:XK):zG  [.ref p,.int g,.ref q] H Q E=(uw  p g q H Q E):=rG (f:=λ (p:Addr) (g:Int) (q:Addr)=>[.ref p,.int g,.ref q]) (λ _ _ _ _ _ _ h=>by cases h;exact⟨rfl,rfl,rfl⟩) p g q
theorem B2  {vs:List V}{H:Hp}{Q:VK}{E:XK}(h:zG  vs H Q E):vs.length=3:=rK h λ _ _ _=>rfl
theorem fk(T:Tx K mg t):bC P w K mg base CX0 4 t.a_numbers_at_once t.d_numbers_at_once ["terms", "goal", "case"] zG:=by
 have G_least_sum:=%[cE|46];have G_greatest_sum:=%[bW|46];refine T.F_numbers_at_once.ok fO (λ vs H Q E h=>B2 h) (λ c A o s H vs Q E hr h=>?_)
 ·obtain⟨p,g,q,rfl,zs,cs,hp,hq,ht,hc,k⟩:=h;refine⟨_,%[%[%[(aV hr.units),%[least_sum,%[%[0|0],%[%[2|0]|1]|1]|3],%[1|0],(ae _)|14],%[%[%[(["bounds", "terms", "goal", "case"]),(1),(aG (aa aR) ["terms", "goal", "case"] rfl rfl nofun),rfl,%[%[2|0]|24],(λ C s₀ H₀ ex pn=>%[(0),_,(show List.Nodup (["bounds", "terms", "goal", "case"]:List Str) from by decide +kernel),rfl,(Or.inl rfl),%[0|7]|17]),(λ C s₀ H₀ ex pn=>(@aM _)),(λ C s₀ H₀ ex pn=>%[az,%[0|0],%[0|2],(λ _ _=>rfl)|10]),(by intros;rfl)|25]|13]|12],(@ao _)|16],%[%[%[(aV hr.units),%[greatest_sum,%[%[0|0],%[%[2|0]|1]|1]|3],%[1|0],(ae _)|14],%[%[%[(["bounds", "terms", "goal", "case"]),(1),(aG (aa aR) ["terms", "goal", "case"] rfl rfl nofun),rfl,%[%[2|0]|24],(λ C s₀ H₀ ex pn=>%[(0),_,(show List.Nodup (["bounds", "terms", "goal", "case"]:List Str) from by decide +kernel),rfl,(Or.inl rfl),%[0|7]|17]),(λ C s₀ H₀ ex pn=>(@aM _)),(λ C s₀ H₀ ex pn=>%[az,%[0|0],%[0|2],(λ _ _=>rfl)|10]),(by intros;rfl)|25]|13]|12],(@ao _)|16],%[%[(@dz _ _ _)|13]|12]|11]|11],?_⟩;rw [show start ["terms", "goal", "case"] [.ref p,.int g,.ref q]=[some (.ref p),some (.int g),some (.ref q)] from rfl];clear G_least_sum G_greatest_sum;have h17:cs.length<=17:=by rw [hc.len];exact ht.len
  unfold rO at k;have hq0:=hq;obtain⟨ys,hqy,al⟩:=hq0;exists k;exists al;ac_rfl;rw [ei];refine⟨zs,cs,hp,hq,ht,hc,λ H1 e1=>?_⟩
  by_cases h1:bp zs cs=g
  ·rw [JR h1] at k;have hq1:=e1.at hqy;have wk:=fq (K:=K) (R:=axP) (λ _ _ _ _ h e=>h.ext e) hq1 ((al ()).imp λ _ _ t=>axP.ext t e1);ac_rfl;refine bc cs (λ _=>true) (λ b=>.int b.1) axP wk.1 wk.2 (ay %[0|8]) ?_ ?_
   ·intro D b x H' N1 N0 hb hD e ⟨q',hx,hq'⟩ k1 _;subst hx;have k1':=k1 rfl H' (Ext.refl _);clear k1 k wk;simp! only [↓bE,↓aN]
   intro D H2 hD e2 h2;rw [iO] at h2;have k':=k () (.ref D) H2 (e1.trans e2) ⟨D,rfl,by rw [h2,KG];rfl⟩;clear k wk h2;ac_rfl
  rw [JQ h1] at k;ac_rfl;rw [gA];refine⟨zs,cs,bL hp e1,aC hq e1,ht,hc,λ H2 e2=>?_⟩;have e02:=e1.trans e2
  by_cases h2:b9 zs cs=g
  ·rw [JR h2] at k;have hq1:=e02.at hqy;have wk:=fq (K:=K) (R:=axP) (λ _ _ _ _ h e=>h.ext e) hq1 ((al ()).imp λ _ _ t=>axP.ext t e02);ac_rfl;refine bc cs (λ _=>true) (λ b=>.int b.2) axP wk.1 wk.2 (ay %[0|8]) ?_ ?_
   ·intro D b x H' N1 N0 hb hD e ⟨q',hx,hq'⟩ k1 _;subst hx;have k1':=k1 rfl H' (Ext.refl _);clear k1 k wk;simp! only [↓bE,↓aN]
   intro D H3 hD e3 h3;rw [iO] at h3;have k':=k () (.ref D) H3 (e02.trans e3) ⟨D,rfl,by rw [h3,KG];rfl⟩;clear k wk h3;ac_rfl
  ·rw [JQ h2] at k;have k':=k () .non H2 e02 rfl;clear k;ac_rfl
abbrev jw  (i:Int) (b:Addr) (al:Int) (bg:Int) (H:Hp) (Q:VK) (E:XK):Prop:=∃ c:Int × Int,H b=some (.tup [.int c.1,.int c.2])/\1<=i/\i<=2000000000000000000/\∀ (r:Addr) (H':Hp),H r=none->Ext H H'->H' r=some (.tup [.int (gC i c al bg).1,.int (gC i c al bg).2])->Q (.ref r) H'
def jY  : Sp:=λ vs H Q E=>∃ (i:Int) (b:Addr) (al:Int) (bg:Int),vs=[.int i,.ref b,.int al,.int bg]/\(jw  i b al bg H Q E)
theorem rg  (i:Int) (b:Addr) (al:Int) (bg:Int) (H:Hp) (Q:VK) (E:XK):jY  [.int i,.ref b,.int al,.int bg] H Q E=(jw  i b al bg H Q E):=yO (f:=λ (i:Int) (b:Addr) (al:Int) (bg:Int)=>[.int i,.ref b,.int al,.int bg]) (λ _ _ _ _ _ _ _ _ h=>by cases h;exact⟨rfl,rfl,rfl,rfl⟩) i b al bg
theorem qK  {vs:List V}{H:Hp}{Q:VK}{E:XK}(h:jY  vs H Q E):vs.length=4:=yP h λ _ _ _ _=>rfl
theorem nF(T:Tx K mg t):bC P w K mg base CX0 1 t.a_narrowed t.d_narrowed ["times", "bounds", "above_least", "below_greatest"] jY:=by
 refine T.F_narrowed.ok rl (λ vs H Q E h=>qK h) (λ c A o s H vs Q E hr h=>?_)
 ·obtain⟨i,b,al,bg,rfl,c,hb,i1,i2,k⟩:=h;refine⟨_,%[%[%[%[%[max,(c8 rfl),%[%[az,%[1|0],%[0|2],(λ _ _=>rfl)|10],%[%[aE,%[az,%[1|0],%[0|2],(λ _ _=>rfl)|10],%[kh,%[3|0],%[0|0]|9]|9]|1]|1]|6],%[%[min,(dQ rfl),%[%[az,%[1|0],%[0|2],(λ _ _=>rfl)|10],%[%[aD,%[az,%[1|0],%[0|2],(λ _ _=>rfl)|10],%[kh,%[2|0],%[0|0]|9]|9]|1]|1]|6]|1]|1]|18]|13]|12],?_⟩;rw [show start ["times", "bounds", "above_least", "below_greatest"] [.int i,.ref b,.int al,.int bg]=[some (.int i),some (.ref b),some (.int al),some (.int bg)] from rfl];have d1:sx al i:=⟨by omega,by omega⟩;have d2:sx bg i:=⟨by omega,by omega⟩;unfold gC at k;exists k;ac_rfl;intro r H1 hr e1 h1;rw [Int.fdiv_eq_ediv_of_nonneg _ %[0|8],Int.fdiv_eq_ediv_of_nonneg _ %[0|8]] at h1;exact k () r H1 hr e1 h1
def wM(H:Hp):Option (Nat × Int × Int)->V->Prop
 | none,v=>v=.non
 | some q,v=>∃ r kp,v=.ref r/\H r=some (.tup [.int (q.1:Int),.ref kp])/\H kp=some (.tup [.int q.2.1,.int q.2.2])
theorem wM.ext{H H':Hp}{o:Option (Nat × Int × Int)}{v:V}(h:wM H o v)(e:Ext H H'):wM H' o v:=by
 cases o with
 | none=>exact h
 | some q=>
  obtain⟨r,kp,h1,h2,h3⟩:=h;exact⟨r,kp,h1,e.at h2,e.at h3⟩
theorem wq(zs:List Tm3)(cs:Bx)(al bg:Int)(i:Nat):cv zs cs al bg (i+1)=if (cs.getD i default).1 < (cs.getD i default).2 then (match cv zs cs al bg i with|none=>some (i,gC (zs.getD i default).1 (cs.getD i default) al bg)|some q=>if (gC (zs.getD i default).1 (cs.getD i default) al bg).2 - (gC (zs.getD i default).1 (cs.getD i default) al bg).1 < q.2.2 - q.2.1 then some (i,gC (zs.getD i default).1 (cs.getD i default) al bg) else some q) else cv zs cs al bg i:=rfl
abbrev pQ  (p:Addr) (g:Int) (q:Addr) (H:Hp) (Q:VK) (E:XK):Prop:=∃ (zs:List Tm3) (cs:Bx) (b:Nat × Int × Int),gg H p zs/\cU H q cs/\cL zs/\cJ zs cs/\cv zs cs (g - bp zs cs) (b9 zs cs - g) zs.length=some b/\b.1 < zs.length/\∀ (r:Addr) (H':Hp),Ext H H'->H' r=some (.tup [.str "part",.int (b.1:Int),.int (ba cs b)])->Q (.ref r) H'
def sH  : Sp:=λ vs H Q E=>∃ (p:Addr) (g:Int) (q:Addr),vs=[.ref p,.int g,.ref q]/\(pQ  p g q H Q E)
theorem yF  (p:Addr) (g:Int) (q:Addr) (H:Hp) (Q:VK) (E:XK):sH  [.ref p,.int g,.ref q] H Q E=(pQ  p g q H Q E):=rG (f:=λ (p:Addr) (g:Int) (q:Addr)=>[.ref p,.int g,.ref q]) (λ _ _ _ _ _ _ h=>by cases h;exact⟨rfl,rfl,rfl⟩) p g q
theorem xN  {vs:List V}{H:Hp}{Q:VK}{E:XK}(h:sH  vs H Q E):vs.length=3:=rK h λ _ _ _=>rfl
theorem qk(T:Tx K mg t):bC P w K mg base CX0 4 t.a_parting t.d_parting ["terms", "goal", "case"] sH:=by
 have G_least_sum:=%[cE|46];have G_greatest_sum:=%[bW|46];have G_narrowed:=%[nF|46];refine T.F_parting.ok bw (λ vs H Q E h=>xN h) (λ c A o s H vs Q E hr h=>?_)
 ·obtain⟨p,g,q,rfl,zs,cs,b,hp,hq,ht,hc,hb,hbl,k⟩:=h;refine⟨_,%[%[3,bw,%[aE,%[1|0],%[least_sum,%[%[0|0],%[%[2|0]|1]|1]|3]|9]|4],%[%[4,bw,%[aE,%[greatest_sum,%[%[0|0],%[%[2|0]|1]|1]|3],%[1|0]|9]|4],%[%[5,bw,(@dz _ _ _)|4],%[%[Ki,rfl,(@AK _ _ _ _ _ _ _ _ ∅ T.z_enumerate %[%[2|0]|1] ∅),(%[(2),rfl,%[%[6,bw|5],%[%[7,bw|5],(@aA _),∅|15],∅|15],∅,∅|21].mono λ _ _ _ _ h=>aX h),%[%[%[cj,%[az,%[7|0],%[0|2],(λ _ _=>rfl)|10],%[az,%[7|0],%[0|2],(λ _ _=>rfl)|10],(ae _)|14],%[%[8,bw,%[narrowed,%[%[az,%[az,%[0|0],%[6|0],(λ _ _=>rfl)|10],%[0|2],(λ _ _=>rfl)|10],%[%[7|0],%[%[3|0],%[%[4|0]|1]|1]|1]|1]|3]|4],%[%[(PW.pt %[%[sZ,%[5|0],(@dz _ _ _),(ae _)|14],%[%[cj,%[aE,%[az,%[8|0],%[0|2],(λ _ _=>rfl)|10],%[az,%[8|0],%[0|2],(λ _ _=>rfl)|10]|9],%[aE,%[az,%[az,%[5|0],%[0|2],(λ _ _=>rfl)|10],%[0|2],(λ _ _=>rfl)|10],%[az,%[az,%[5|0],%[0|2],(λ _ _=>rfl)|10],%[0|2],(λ _ _=>rfl)|10]|9],(ae _)|14]|28]|20]),%[%[5,bw,%[%[%[6|0],%[%[8|0]|1]|1]|18]|4]|12],(@ao _)|16]|12]|11],(@ao _)|16]|12],(by intros;rfl)|33],%[%[6,bw,%[az,%[5|0],%[0|2],(λ _ _=>rfl)|10]|4],%[%[8,bw,%[az,%[5|0],%[0|2],(λ _ _=>rfl)|10]|4],%[%[%[cj,%[az,%[8|0],%[0|2],(λ _ _=>rfl)|10],%[az,%[az,%[2|0],%[6|0],(λ _ _=>rfl)|10],%[0|2],(λ _ _=>rfl)|10],(ae _)|14],%[%[%[%[(@br _ _ _ _),%[%[6|0],%[%[az,%[8|0],%[0|2],(λ _ _=>rfl)|10]|1]|1]|1]|18]|13]|12],(@ao _)|16],%[%[%[cW,%[az,%[8|0],%[0|2],(λ _ _=>rfl)|10],%[az,%[az,%[2|0],%[6|0],(λ _ _=>rfl)|10],%[0|2],(λ _ _=>rfl)|10],(ae _)|14],%[%[%[%[(@br _ _ _ _),%[%[6|0],%[%[aE,%[az,%[8|0],%[0|2],(λ _ _=>rfl)|10],%[0|2]|9]|1]|1]|1]|18]|13]|12],(@ao _)|16],%[%[%[%[(@br _ _ _ _),%[%[6|0],%[%[az,%[az,%[2|0],%[6|0],(λ _ _=>rfl)|10],%[0|2],(λ _ _=>rfl)|10]|1]|1]|1]|18]|13]|12]|11]|11]|11]|11]|11]|11]|11]|11],?_⟩;rw [show start ["terms", "goal", "case", "above_least", "below_greatest", "best", "k", "bounds", "kept"] [.ref p,.int g,.ref q]=[some (.ref p),some (.int g),some (.ref q),none,none,none,none,none,none] from rfl];clear G_least_sum G_greatest_sum G_narrowed;have h17:=ht.len;have hcl:=hc.len;obtain⟨xs,hpx,alp⟩:=hp;obtain⟨ys,hqy,alq⟩:=hq;have hp:gg H p zs:=⟨xs,hpx,alp⟩;have hq:cU H q cs:=⟨ys,hqy,alq⟩;have hyl:ys.length=cs.length:=alq.1
  have tl:∀ i,i < zs.length->1<=(zs.getD i default).1/\(zs.getD i default).1<=2000000000000000000:=λ i hi=>by
   rw [JW,JJ hi];exact(ht.all _ (KQ hi)).1
  exists k;exists tl;exists alp;exists alq;exists hyl;exists hcl;exists hb;ac_rfl;rw [ei];refine⟨zs,cs,hp,hq,ht,hc,λ H1 e1=>?_⟩;ac_rfl;rw [gA];refine⟨zs,cs,bL hp e1,aC hq e1,ht,hc,λ H2 e2=>?_⟩;have e02:=e1.trans e2;have hq2:=e02.at hqy;clear e1 e2;ac_rfl;generalize g - bp zs cs=al at *;generalize b9 zs cs - g=bg at *;refine yo (xs:=ys) (λ i σ H'=>∃ (vb:V) (v6 v7 v8:Option V),σ=[some (.ref p),some (.int g),some (.ref q),some (.int al),some (.int bg),some vb,v6,v7,v8]/\Ext H H'/\wM H' (cv zs cs al bg i) vb) ⟨.non,none,none,none,rfl,e02,rfl⟩ (λ i σ H' ⟨_,_,_,_,_,e,_⟩=>e.at hqy) ?_ ?_
  ·rintro i u pp _ H3 H4 hi ⟨vb,v6,v7,v8,rfl,e3,bv⟩ hpp e4 h4;have hic:i < cs.length:=by have:=(JM.mp hi).1;have:=hyl ();omega
   have hiz:i < zs.length:=by have:=hcl ();omega
   obtain⟨c1,c2,hu⟩:=eW (alq ()) hic;rw [Kv,eJ hi] at c2;cases c2;obtain⟨z1,z2,hz⟩:=k6 (alp ()) hiz;rw [Kv] at z2;have e04:=e3.trans e4;have hu4:=e04.at hu;have hz4:=e04.at hz;have hp4:=e04.at hpx;have tli:=tl () i hiz;have bv4:=λ (_:Unit)=>bv.ext e4;have bs:=wq zs cs al bg i;generalize cv zs cs al bg (i+1)=o1 at *;generalize cv zs cs al bg i=o0 at *;generalize zs.getD i default=zi at *;generalize cs.getD i default=ci at *;exists bs;clear bv hi hpp hu hz k hb hq2
   by_cases hlt:ci.1 < ci.2
   ·have bs':=bs ();rw [JR hlt] at bs';exists bs';clear bs;simp! only [↓aQ];rw [rg];refine⟨ci,hu4,tli.1,tli.2,λ r5 H5 hr5 e5 h5=>?_⟩;have e05:=e04.trans e5;generalize gC zi.1 ci al bg=nr at *;clear hr5
    cases o0 with
    | none=>
     have hvb:vb=.non:=bv4 ();subst hvb;have bs2:o1=some (i,nr):=bs' ();clear bs' bv4;ac_rfl;intro r6 H6 _ e6 h6;refine⟨_,_,_,_,rfl,e05.trans e6,?_⟩;exact⟨r6,r5,rfl,h6,e6.at h5⟩
    | some q0=>
     obtain⟨rb,kb,hvb,hrb,hkb⟩:=bv4 ();subst hvb;have hrb5:=e5.at hrb;have hkb5:=e5.at hkb;have bs2:o1=if nr.2 - nr.1 < q0.2.2 - q0.2.1 then some (i,nr) else some q0:=bs' ()
     exists bs2;clear bs' bv4 hrb hkb
     by_cases hl2:nr.2 - nr.1 < q0.2.2 - q0.2.1
     ·have bs3:=bs2 ();rw [JR hl2] at bs3;exists bs3;clear bs2;ac_rfl;intro r6 H6 _ e6 h6;refine⟨_,_,_,_,rfl,e05.trans e6,?_⟩;rw [bs3 ()];exact⟨r6,r5,rfl,h6,e6.at h5⟩
     ·have bs3:=bs2 ();rw [JQ hl2] at bs3;exists bs3;clear bs2;ac_rfl;refine⟨_,_,_,_,rfl,e05,?_⟩;rw [bs3 ()];exact⟨rb,kb,rfl,hrb5,hkb5⟩
   ·have bs':=bs ();rw [JQ hlt] at bs';exists bs';clear bs;simp! only [↓aQ];exact⟨_,_,_,_,rfl,e04,by rw [bs' ()];exact bv4 ()⟩
  ·rintro _ H3 ⟨vb,v6,v7,v8,rfl,e3,bv⟩;rw [hyl (),hcl (),hb ()] at bv;obtain⟨rb,kb,hvb,hrb,hkb⟩:=bv;subst hvb;have hbc:b.1 < cs.length:=by have:=hcl ();omega
   obtain⟨c1,c2,hu⟩:=eW (alq ()) hbc;rw [Kv] at c2;have hu3:=e3.at hu;have hq3:=e3.at hqy;have hpk:∀ x,(if b.2.2 < (cs.getD b.1 default).2 then b.2.2 else if (cs.getD b.1 default).1 < b.2.1 then b.2.1 - 1 else (cs.getD b.1 default).1)=x->ba cs b=x:=λ x h=>h;generalize ba cs b=pk at *;generalize cs.getD b.1 default=cb at *;exists hpk;clear hu hq2
   by_cases h1:b.2.2 < cb.2
   ·ac_rfl;intro r4 H4 _ e4 h4;exact k () r4 H4 (e3.trans e4) (by rw [h4,hpk () b.2.2 (by rw [JR h1])])
   by_cases h2:cb.1 < b.2.1
   ·ac_rfl;intro r4 H4 _ e4 h4;exact k () r4 H4 (e3.trans e4) (by rw [h4,hpk () (b.2.1 - 1) (by rw [JQ h1,JR h2])])
   ·ac_rfl;intro r4 H4 _ e4 h4;exact k () r4 H4 (e3.trans e4) (by rw [h4,hpk () cb.1 (by rw [JQ h1,JQ h2])])
theorem yA(xs:List V)(z:Int)(h:0<=z):ja xs (some z) none=xs.drop z.toNat:=by
 unfold ja;obtain⟨n,rfl⟩:=Int.eq_ofNat_of_zero_le h;rw [HT.sIx_none,HT.sIx_nat]
 show _=xs.drop n
 rcases Mr n xs.length with q|q
 ·rw [LZ q];exact KH (by rw [Lv];omega)
 ·rw [LO q,Ll (JO _),Ll q,List.take_nil]
theorem FH(xs:List V)(z:Int)(h:0<=z):ja xs none (some z)=xs.take z.toNat:=by
 unfold ja;obtain⟨n,rfl⟩:=Int.eq_ofNat_of_zero_le h;rw [HT.sIx_none,HT.sIx_nat,List.drop_zero,Nat.sub_zero]
 show xs.take (min n xs.length)=xs.take n
 rcases Mr n xs.length with q|q
 ·rw [LZ q]
 ·rw [LO q,Lk,KH q]
def DL(kvs:List (Key × V))(L:Int->Int):Prop:=∀ t,(di kvs (.inl t)).getD (.int 0)=.int (L t)
theorem DL.nil:DL [] (λ _=>0):=λ _=>rfl
theorem DL.put{kvs:List (Key × V)}{L:Int->Int}(h:DL kvs L)(a v:Int):DL (cT kvs (.inl a) (.int v)) (p8 L a v):=λ t=>by
 rw [jU];unfold p8
 by_cases e:t=a
 ·rw [JR e,JR (by rw [e])];rfl
 ·rw [JQ e,JQ (λ q=>e (by cases q;rfl))];exact h t
theorem lH{z:Tm3}{x:Int}:∀ {zs:List Tm3}{xs:List Int},xs.length=zs.length->(∀ y∈zs,¬ y.1=z.1)->cc (zs++[z]) (xs++[x])=p8 (cc zs xs) z.1 (x - z.2.1)
 | [],[],_,_=>funext λ t=>by
  show (if z.1=t then x - z.2.1 else 0)=if t=z.1 then x - z.2.1 else 0
  by_cases e:z.1=t
  ·rw [JR e,JR e.symm]
  ·rw [JQ e,JQ (λ q=>e q.symm)]
 | [],_::_,h,_=>by simp at h
 | _::_,[],h,_=>by simp at h
 | y::zs,u::xs,h,hn=>funext λ t=>by
  have ih:=congrFun (lH (z:=z) (x:=x) (zs:=zs) (xs:=xs) (by simpa using h) λ w hw=>hn w (JN _ hw)) t;have hy:=hn y JP
  show (if y.1=t then u - y.2.1 else cc (zs++[z]) (xs++[x]) t)=if t=z.1 then x - z.2.1 else if y.1=t then u - y.2.1 else cc zs xs t
  rw [ih];unfold p8
  by_cases e:t=z.1
  ·rw [JR e,JR e,JQ (λ q=>hy (q.trans e))]
  ·rw [JQ e,JQ e]
theorem pd{κ:Type}[DecidableEq κ](kvs:List (κ × V))(k:κ)(v:V):(cT kvs k v).length<=kvs.length+1:=by
 unfold cT;split
 ·rw [JT];omega
 ·rw [JU,Kg];exact JO _
abbrev ml(C:Addr)(u:Addr)(v:Addr)(p:Addr)(q:Addr)(H:Hp)(Q:VK)(E:XK):Prop:=∃ (r1 r2 f1 f2:Int) (A B:List (Int × Int)) (zs:List Tm3) (xs:List Int),bf C H u r1 f1 A/\bf C H v r2 f2 B/\A.length<=8/\B.length<=8/\gg H p zs/\zs.length<=17/\(zs.map λ z=>z.1).Nodup/\H q=some (.lst (xs.map V.int))/\xs.length=zs.length/\∀ (r a1 a2:Addr) (H':Hp),Ext H H'->H' r=some (.tup [.str "shared",.ref a1,.ref a2])->H' a1=some (.tup (((eE (cc zs xs) (aj A B)).take A.length).map V.int))->H' a2=some (.tup (((eE (cc zs xs) (aj A B)).drop A.length).map V.int))->Q (.ref r) H'
def nc(C:Addr):Sp:=λ vs H Q E=>∃ (u:Addr) (v:Addr) (p:Addr) (q:Addr),vs=[.ref u,.ref v,.ref p,.ref q]/\(ml C u v p q H Q E)
theorem we(C:Addr)(u:Addr)(v:Addr)(p:Addr)(q:Addr)(H:Hp)(Q:VK)(E:XK):nc C [.ref u,.ref v,.ref p,.ref q] H Q E=(ml C u v p q H Q E):=yO (f:=λ (u:Addr) (v:Addr) (p:Addr) (q:Addr)=>[.ref u,.ref v,.ref p,.ref q]) (λ _ _ _ _ _ _ _ _ h=>by cases h;exact⟨rfl,rfl,rfl,rfl⟩) u v p q
theorem vF(C:Addr){vs:List V}{H:Hp}{Q:VK}{E:XK}(h:nc C vs H Q E):vs.length=4:=yP h λ _ _ _ _=>rfl
theorem eC(T:Tx K mg t):bC P w K mg base CX0 2 t.a_places_by_numbers t.d_places_by_numbers ["one", "other", "terms", "numbers"] (nc t.a_View):=by
 have G_pulls:=%[ph|46];refine T.F_places_by_numbers.ok aw (λ vs H Q E h=>vF _ h) (λ cdv A' outer s H vs Q E hr h=>?_)
 ·obtain⟨u,v,p,q,rfl,r1,r2,f1,f2,A,B,zs,xs,vu,vv,hA,hB,⟨ts,hp,al⟩,h17,hnd,hq,hxl,k⟩:=h;obtain⟨dx,lx,hu,⟨ax,hax,alA⟩⟩:=vu.ob;have c1:=T.cl_View;have c3:=T.na_View_axes;have g1:=dc r1 f1 lx;refine⟨_,%[%[4,aw,(@gq _ _)|4],%[%[PassesOwn.never,rfl,%[∅,T.z_zip,%[%[2|0],%[%[3|0]|1]|1],∅,∅|38],(%[(2),rfl,%[%[5,aw|5],%[%[6,aw|5],(@aA _),∅|15],∅|15],∅,∅|21].mono λ _ _ _ _ h=>aX h),%[%[(cw hr.units),%[4|0],%[az,%[5|0],%[0|2],(λ _ _=>rfl)|10],%[aE,%[6|0],%[az,%[5|0],%[0|2],(λ _ _=>rfl)|10]|9],rfl|40]|12],(by intros;rfl)|33],%[%[7,aw,%[(@cX _)|23]|4],%[%[PassesOwn.never,rfl,%[%[pulls,%[%[0|0],%[%[1|0]|1]|1]|3]|24],(%[(2),rfl,%[%[8,aw|5],%[%[9,aw|5],(@aA _),∅|15],∅|15],∅,∅|21].mono λ _ _ _ _ h=>aX h),%[%[10,aw,%[min,(dQ rfl),%[%[aE,%[9|0],%[0|2]|9],%[%[(cw hr.units),%[4|0],%[abs,bQ,%[%[8|0]|1]|6],%[0|2],⟨by rfl,by rfl,by rfl,by rfl⟩|43]|1]|1]|6]|4],%[%[(cw hr.units),%[4|0],%[abs,bQ,%[%[8|0]|1]|6],%[aE,%[(cw hr.units),%[4|0],%[abs,bQ,%[%[8|0]|1]|6],%[0|2],⟨by rfl,by rfl,by rfl,by rfl⟩|43],%[10|0]|9],rfl|40],%[(@dJ _ _ _ _ %[PySem.F.plainAttrs_list,PySem.F.slot_list_append,PySem.F.type_list_append,dP,%[7|0],%[(@kg _ _ _ _ _ _ _ _ %[zN,%[8|0],%[0|2],(ae _)|14] %[10|0] %[aE,%[aE,%[9|0],%[0|2]|9],%[10|0]|9])|1],∅,∅,∅,∅,∅|42] ∅)|12]|11]|11],(by intros;rfl)|33],%[%[11,aw,%[len,ar,%[%[%[0|0],rfl|36]|1]|6]|4],%[%[%[%[(@br _ _ _ _),%[%[iC,∅,T.z_tuple,nofun,%[%[Cz,%[7|0],(@eI _),(@eG _ _ _ %[11|0])|39]|1],⋯,⋯,∅,∅|41],%[%[iC,∅,T.z_tuple,nofun,%[%[Cz,%[7|0],(@eG _ _ _ %[11|0]),(@eI _)|39]|1],⋯,⋯,∅,∅|41]|1]|1]|1]|18]|13]|12]|11]|11]|11]|11]|11],?_⟩;rw [show start ["one", "other", "terms", "numbers", "left", "term", "number", "place", "pace", "size", "taken", "many"] [.ref u,.ref v,.ref p,.ref q]=[some (.ref u),some (.ref v),some (.ref p),some (.ref q),none,none,none,none,none,none,none,none] from rfl];clear G_pulls;have haxl:ax.length=A.length:=by rw [alA.1];unfold axL;rw [length_map]
  have htl:ts.length=zs.length:=al.1;exists k;exists hnd;exists al;exists haxl;exists htl;exists hxl;ac_rfl;intro d H1 hd1 e1 h1;have hp1:=e1.at hp;have hq1:=e1.at hq;have hd0:=hd1;clear hd1;ac_rfl;refine ud (ka:=false) (kb:=false) (xs:=ts) (ys:=xs.map V.int) (λ i σ H'=>∃ (kvs:List (Key × V)) (v5 v6:Option V),σ=[some (.ref u),some (.ref v),some (.ref p),some (.ref q),some (.ref d),v5,v6,none,none,none,none,none]/\Ext H H'/\H' d=some (.dK kvs)/\kvs.length<=i/\DL kvs (cc (zs.take i) (xs.take i))) ⟨[],none,none,rfl,e1,h1,JO _,DL.nil⟩ (λ i σ H' ⟨_,_,_,_,e,_⟩=>⟨e.at hp,e.at hq⟩) ?_ ?_
  ·rintro i x y w' _ H2 H3 hx hy ⟨kvs,v5,v6,rfl,e2,h2,hkl,dl⟩ hw e3 h3;have hiz:i < zs.length:=by have:=(JM.mp hx).1;have:=htl ();omega
   have hzi:zs[i]? = some zs[i]:=JJ hiz;obtain⟨tq,rfl,htq⟩:=(al ()).2 i zs[i] x hzi hx;rw [J5] at hy;obtain⟨n,hn,rfl⟩:=J6.mp hy;have hz1:zs.take (i+1)=zs.take i++[zs[i]]:=by rw [Ln,hzi];rfl
   have hx1:xs.take (i+1)=xs.take i++[n]:=by rw [Ln,hn];rfl
   have hnew:∀ y∈zs.take i,¬ y.1=zs[i].1:=λ y hy e=>by
    obtain⟨j,hj⟩:=L3.mp hy;have hjl:j < i:=by have:=(JM.mp hj).1;rw [KN] at this;omega
    rw [List.getElem?_take_of_lt hjl] at hj;have hne:=List.pairwise_iff_getElem.mp (hnd ()) j i (by rw [JT];omega) (by rw [JT];omega) hjl;rw [List.getElem_map,List.getElem_map] at hne;have hj':zs[j]' %[0|8]=y:=by have:=JM.mp hj;exact this.2
    exact hne (by rw [hj'];exact e)
   have hls:=lH (z:=zs[i]) (x:=n) (zs:=zs.take i) (xs:=xs.take i) (by rw [KN,KN,hxl ()]) hnew;rw [←hz1,←hx1] at hls;have dl':=dl.put zs[i].1 (n - zs[i].2.1);rw [←hls] at dl';have e03:=e2.trans e3;have ht3:=e03.at htq;have h2_3:=e3.at h2;have hkl':=pd kvs (Sum.inl zs[i].1:Key) (.int (n - zs[i].2.1));have lk:kvs.length < sizeLine:=fR %[0|8];generalize zs[i]=z at *;generalize cc (zs.take (i+1)) (xs.take (i+1))=L1 at *;exists dl';clear hx hy hzi hn hz1 hx1 hnew hls dl htq h2 k e2 e3 hp1 hq1 h1 e1;simp! only [↓aQ];refine fP (k:=.inl z.1) h2_3 lk ?_;exact⟨_,_,_,rfl,e03.put hd0,ai,by omega,dl' ()⟩
  ·rintro _ H2 ⟨kvs,v5,v6,rfl,e2,h2,hkl,dl⟩;have hmn:min ts.length (xs.map V.int).length=zs.length:=by rw [JT,htl (),hxl ()];exact Nat.min_self _
   rw [hmn,take_length,take_of_length_le (by rw [hxl ()];exact Nat.le_refl _)] at dl;rw [hmn] at hkl;have hPl:(aj A B).length=A.length+B.length:=by unfold aj;rw [length_append,length_map,length_map]
   clear hp1 hq1 h1 e1 hmn hnd al;ac_rfl;intro pl H3 hpl e3 h3;have e03:=e2.trans e3;have h2_3:=e3.at h2;have hpl0:H pl=none:=e2.free hpl;have ndp:d ≠ pl:=λ z=>by rw [z,hpl] at h2;cases h2
   clear hpl h2 e3;ac_rfl;rw [lO];refine⟨r1,r2,f1,f2,A,B,vu.ext e03,vv.ext e03,hA,hB,λ r H4 hr4 e4 t4=>?_⟩;obtain⟨ys,hy4,aly⟩:=t4;have e04:=e03.trans e4;have h2_4:=e4.at h2_3;have h3_4:=e4.at h3;have nrd:r ≠ d:=λ z=>by rw [z,h2_3] at hr4;cases hr4
   have nrp:r ≠ pl:=λ z=>by rw [z,h3] at hr4;cases hr4
   have hyl:ys.length=(aj A B).length:=aly.1;generalize aj A B=P' at *;generalize cc zs xs=L0 at *;exists aly;exists hyl;exists hPl;exists dl;clear hr4 h2_3 h3 e4;ac_rfl;refine dM (xs:=ys) (λ i σ H'=>∃ (kvs:List (Key × V)) (L:Int->Int) (ps:List Int) (v8 v9 v10:Option V),σ=[some (.ref u),some (.ref v),some (.ref p),some (.ref q),some (.ref d),v5,v6,some (.ref pl),v8,v9,v10,none]/\Ext H H'/\(∀ b o,b ≠ d->b ≠ pl->H4 b=some o->H' b=some o)/\H' d=some (.dK kvs)/\H' pl=some (.lst (ps.map V.int))/\kvs.length<=17+i/\ps.length=i/\DL kvs L/\eE L0 P'=ps++eE L (P'.drop i)) ⟨kvs,L0,[],none,none,none,rfl,e04,λ _ _ _ _ h=>h,h2_4,h3_4,by omega,rfl,dl (),rfl⟩ (λ i σ H' _ ⟨_,_,_,_,_,_,_,_,kp,_⟩=>kp r _ nrd nrp hy4) ?_ ?_
   ·rintro i y _ H5 hi ⟨kvs,L,ps,v8,v9,v10,rfl,e5,kp,h5d,h5p,hkl5,hps,dl5,hfill⟩;have hiP:i < P'.length:=by have:=(JM.mp hi).1;have:=hyl ();omega
    obtain⟨tq,rfl,htq⟩:=(aly ()).2 i P'[i] y (JJ hiP) hi;have ht5:=kp tq _ (λ e=>by rw [e,h2_4] at htq;cases htq) (λ e=>by rw [e,h3_4] at htq;cases htq) htq;rw [LF hiP] at hfill
    have hf2:eE L0 P'=(ps++[if 0<=P'[i].1 then tkF P'[i] L else P'[i].2 - 1 - tkF P'[i] L])++eE (p8 L (af P'[i].1) (L (af P'[i].1) - tkF P'[i] L)) (P'.drop (i+1)):=by
     rw [hfill,Lw];rfl
    have hP16:=hPl ();have b1:=dl5 (af P'[i].1);have dl6:=dl5.put (af P'[i].1) (L (af P'[i].1) - tkF P'[i] L);have hkl':=pd kvs (Sum.inl (af P'[i].1):Key) (.int (L (af P'[i].1) - tkF P'[i] L));have lk:kvs.length < sizeLine:=fR %[0|8];have lp:ps.length < sizeLine:=fR %[0|8]
    have habs:(if P'[i].1 < 0 then -P'[i].1 else P'[i].1)=af P'[i].1:=by unfold af;split<;>omega
    have htk:(if L (af P'[i].1) < P'[i].2 - 1 then L (af P'[i].1) else P'[i].2 - 1)=tkF P'[i] L:=rfl;generalize P'[i]=z at *;exists hf2;exists hps;exists dl6;clear hfill dl5 hi htq k hy4 h2_4 h3_4 e04 e03 e2 dl;simp! only [↓aQ];refine eF h5d ?_;ac_rfl;refine gG (k:=.inl (af z.1)) h5d ?_;rw [b1];ac_rfl;refine eF h5d ?_;ac_rfl;refine gG (k:=.inl (af z.1)) h5d ?_;rw [b1];ac_rfl;refine fP (k:=.inl (af z.1)) h5d lk ?_;have h6d:upd H5 d (.dK (cT kvs (.inl (af z.1)) (.int (L (af z.1) - tkF z L)))) d=some (.dK (cT kvs (.inl (af z.1)) (.int (L (af z.1) - tkF z L)))):=ai;have h6p:upd H5 d (.dK (cT kvs (.inl (af z.1)) (.int (L (af z.1) - tkF z L)))) pl=some (.lst (ps.map V.int)):=by rw [ah (Kh ndp)];exact h5p
    have e06:Ext H (upd H5 d (.dK (cT kvs (.inl (af z.1)) (.int (L (af z.1) - tkF z L))))):=e5.put hd0;have kp6:∀ b o,b ≠ d->b ≠ pl->H4 b=some o->upd H5 d (.dK (cT kvs (.inl (af z.1)) (.int (L (af z.1) - tkF z L)))) b=some o:=λ b o x1 x2 h=>by rw [ah x1];exact kp b o x1 x2 h
    generalize upd H5 d (.dK (cT kvs (.inl (af z.1)) (.int (L (af z.1) - tkF z L))))=H6 at *;exists kp6;clear h5d h5p kp e5 ht5
    by_cases hz0:0<=z.1
    ·have hf3:=hf2 ();rw [JR hz0] at hf3;exists hf3;clear hf2;ac_rfl;exact⟨_,_,ps++[tkF z L],_,_,_,rfl,e06.put hpl0,λ b o x1 x2 h=>by rw [ah x2];exact kp6 () b o x1 x2 h,by rw [ah ndp];exact h6d,by rw [Lu];rfl,by omega,by rw [JU,Kg,hps ()],dl6 (),hf3 ()⟩
    ·have hf3:=hf2 ();rw [JQ hz0] at hf3;exists hf3;clear hf2;ac_rfl;exact⟨_,_,ps++[z.2 - 1 - tkF z L],_,_,_,rfl,e06.put hpl0,λ b o x1 x2 h=>by rw [ah x2];exact kp6 () b o x1 x2 h,by rw [ah ndp];exact h6d,by rw [Lu];rfl,by omega,by rw [JU,Kg,hps ()],dl6 (),hf3 ()⟩
   ·rintro _ H5 ⟨kvs,L,ps,v8,v9,v10,rfl,e5,kp,h5d,h5p,hkl5,hps,dl5,hfill⟩;rw [hyl (),Mw] at hfill;have hfe:eE L0 P'=ps:=by rw [hfill];show ps++[]=ps;rw [K5]
    rw [hfe] at k;have hu5:=e5.at hu;have hax5:=e5.at hax;have ct:=FH (ps.map V.int) (A.length:Int) %[0|8];have cf:=yA (ps.map V.int) (A.length:Int) %[0|8];rw [Ks] at ct cf;have hal:(ax.length:Int)=(A.length:Int):=by rw [haxl ()]
    clear kp h5d hkl5 dl5 hfill hfe aly hy4 h2_4 h3_4;ac_rfl;intro q6 H6 _ e6 h6;clear hu5 hax5;have h5p6:=e6.at h5p;ac_rfl;intro q7 H7 _ e7 h7;have h5p7:=e7.at h5p6;ac_rfl;intro q8 H8 _ e8 h8;have h7_8:=e8.at h7;ac_rfl;intro q9 H9 _ e9 h9;have h7_9:=e9.at h7_8;ac_rfl;intro r10 H10 _ e10 h10;exact k () r10 q7 q9 H10 (e5.trans (e6.trans (e7.trans (e8.trans (e9.trans e10))))) h10 (by rw [e10.at h7_9,List.map_take]) (by rw [e10.at h9,List.map_drop])
theorem jR{n:Nat}(h:n<=100000):n<=sizeLine:=Ku h ⋯
theorem Ft{n:Nat}(h:n < 100000):n < sizeLine:=JY h ⋯
def CsV(H:Hp)(cA pA:Addr)(c:Bx)(y:V):Prop:=∃ a,y=.ref a/\a ≠ cA/\a ≠ pA/\cU H a c
def dh(H:Hp)(cA pA:Addr):List Bx->List V->Prop
 | [],cl=>cl=[]
 | c::st,cl=>∃ cl0 y,cl=cl0++[y]/\CsV H cA pA c y/\dh H cA pA st cl0
theorem CsV.ext{H H':Hp}{cA pA:Addr}{c:Bx}{y:V}(h:CsV H cA pA c y)(e:Ext H H'):CsV H' cA pA c y:=by
 obtain⟨a,h1,h2,h3,h4⟩:=h;exact⟨a,h1,h2,h3,aC h4 e⟩
theorem dh.ext{H H':Hp}{cA pA:Addr}(e:Ext H H'):∀ {st:List Bx}{cl:List V},dh H cA pA st cl->dh H' cA pA st cl
 | [],_,h=>h
 | _::_,_,⟨cl0,y,h1,h2,h3⟩=>⟨cl0,y,h1,h2.ext e,dh.ext e h3⟩
theorem CsV.upd{H:Hp}{cA pA b:Addr}{c:Bx}{y:V}{xs:List V}{o:HO}(h:CsV H cA pA c y)(hb:H b=some (.lst xs))(hb2:b=cA\/b=pA):CsV (upd H b o) cA pA c y:=by
 obtain⟨a,h1,h2,h3,ys,h4,al⟩:=h
 have hne:a ≠ b:=λ e=>by
  rcases hb2 with q|q
  ·exact h2 (e.trans q)
  ·exact h3 (e.trans q)
 exact⟨a,h1,h2,h3,ys,by rw [ah hne];exact h4,al.imp λ _ _ t=>axP.upd t hb⟩
theorem dh.upd{H:Hp}{cA pA b:Addr}{xs:List V}{o:HO}(hb:H b=some (.lst xs))(hb2:b=cA\/b=pA):∀ {st:List Bx}{cl:List V},dh H cA pA st cl->dh (upd H b o) cA pA st cl
 | [],_,h=>h
 | _::_,_,⟨cl0,y,h1,h2,h3⟩=>⟨cl0,y,h1,h2.upd hb hb2,dh.upd hb hb2 h3⟩
theorem dh.len{H:Hp}{cA pA:Addr}:∀ {st:List Bx}{cl:List V},dh H cA pA st cl->cl.length=st.length
 | [],_,h=>by have h':_=[]:=h;rw [h'];rfl
 | _::_,_,⟨cl0,y,h1,_,h3⟩=>by rw [h1,JU,dh.len h3];rfl
theorem uB(ks:List Int)(P:List (Int × Int)):(ag ks P).map (λ z=>z.1)=ks:=by
 unfold ag;rw [map_map];exact List.map_id ks
theorem yh{zs:List Tm3}{c:Bx}{xs:List Int}(h:cJ zs c)(hx:InB c xs):InB (zs.map λ z=>z.2) xs:=by
 refine ua hx (by rw [JT,h.len]) λ i hi=>?_;have hz:i < zs.length:=by rw [←h.len];exact hi
 have:=h.at hz
 have e:(zs.map λ z=>z.2).getD i default=(zs.getD i default).2:=by
  rw [JW,JW,J5,JJ hz];rfl
 rw [e];exact⟨this.1,this.2.2⟩
theorem pE{zs:List Tm3}(h:cL zs):cJ zs (zs.map λ z=>z.2):=by
 refine cJ.of (by rw [JT]) λ i hi=>?_
 have e:(zs.map λ z=>z.2).getD i default=(zs.getD i default).2:=by
  rw [JW,JW,J5,JJ hi];rfl
 have hm:zs.getD i default=zs[i]:=by rw [JW,JJ hi];rfl
 rw [e,hm];have:=(h.all _ (KQ hi)).2.2.1;exact⟨Kb _,by omega,Kb _⟩
def plF(ks:List Int)(P:List (Int × Int))(xs:List Int):List Int:=eE (cc (ag ks P) xs) P
theorem wx.upd{H:Hp}{s:List V}{v:V}{b:Addr}{xs:List V}{o:HO}(h:wx H s v)(hb:H b=some (.lst xs)):wx (upd H b o) s v:=by
 obtain⟨r,h1,h2⟩:=h;exact⟨r,h1,by rw [ah (λ e=>by rw [e,hb] at h2;cases h2)];exact h2⟩
def mM(H:Hp)(pp:List (List V))(ys:List V):Prop:=Al (λ s y=>wx H s y) pp ys
theorem mM.ext{H H':Hp}{pp:List (List V)}{ys:List V}(h:mM H pp ys)(e:Ext H H'):mM H' pp ys:=Al.imp h λ _ _ t=>wx.ext t e
theorem mM.upd{H:Hp}{pp:List (List V)}{ys:List V}{b:Addr}{xs:List V}{o:HO}(h:mM H pp ys)(hb:H b=some (.lst xs)):mM (upd H b o) pp ys:=Al.imp h λ _ _ t=>wx.upd t hb
theorem mM.snoc{H:Hp}{pp:List (List V)}{ys:List V}{s:List V}{r:Addr}(h:mM H pp ys)(hr:H r=some (.tup s)):mM H (pp++[s]) (ys++[.ref r]):=gR h (Al.cons' ⟨r,rfl,hr⟩ Al.nil)
def jI(H:Hp)(a:Addr)(pp:List (List V)):Prop:=∃ ys,H a=some (.lst ys)/\mM H pp ys
structure Ja(A B:List (Int × Int))(g most:Int):Prop where
 tm:∀ ks,iP ks (aj A B)->cL (ag ks (aj A B))/\∃ pf,GP (ag ks (aj A B)) g pf/\pf ((ag ks (aj A B)).map λ z=>z.2)<=60000/\pf ((ag ks (aj A B)).map λ z=>z.2)<=most
structure mP(A B:List (Int × Int))(g most:Int)(ks:List Int)(o:Option (List Int))(pp:List (List V)):Prop where
 kok:iP ks (aj A B)
 sh:∀ xs,o=some xs->InP (aj A B) (plF ks (aj A B) xs)/\rP (aj A B) (plF ks (aj A B) xs)=g
 ap:o=none->Rep (ag ks (aj A B)) g [(ag ks (aj A B)).map λ z=>z.2] pp []/\(pp.length:Int)<=most/\pp.length<=60000
def ShV(H0 H:Hp)(r:Addr)(n:Nat)(ks:List Int)(P:List (Int × Int))(pp:List (List V)):Option (List Int)->Prop
 | some xs=>∃ a1 a2,H r=some (.tup [.str "shared",.ref a1,.ref a2])/\H a1=some (.tup (((plF ks P xs).take n).map V.int))/\H a2=some (.tup (((plF ks P xs).drop n).map V.int))
 | none=>∃ a1,H0 a1=none/\H r=some (.tup [.str "apart",.ref a1])/\jI H a1 pp
abbrev ju(C:Addr)(u:Addr)(v:Addr)(m:Int)(H:Hp)(Q:VK)(E:XK):Prop:=∃ (room f1 f2:Int) (A B:List (Int × Int)),bf C H u room f1 A/\bf C H v room f2 B/\mK A/\mK B/\1<=m/\m<=100000/\Ja A B (f2 - f1) m/\∀ (ks:List Int) (o:Option (List Int)) (pp:List (List V)) (r:Addr) (H':Hp),Ext H H'->mP A B (f2 - f1) m ks o pp->ShV H H' r A.length ks (aj A B) pp o->Q (.ref r) H'
def jW(C:Addr):Sp:=λ vs H Q E=>∃ (u:Addr) (v:Addr) (m:Int),vs=[.ref u,.ref v,.int m]/\(ju C u v m H Q E)
theorem fL(C:Addr)(u:Addr)(v:Addr)(m:Int)(H:Hp)(Q:VK)(E:XK):jW C [.ref u,.ref v,.int m] H Q E=(ju C u v m H Q E):=rG (f:=λ (u:Addr) (v:Addr) (m:Int)=>[.ref u,.ref v,.int m]) (λ _ _ _ _ _ _ h=>by cases h;exact⟨rfl,rfl,rfl⟩) u v m
theorem qI(C:Addr){vs:List V}{H:Hp}{Q:VK}{E:XK}(h:jW C vs H Q E):vs.length=3:=rK h λ _ _ _=>rfl
theorem uL(T:Tx K mg t):bC P w K mg base CX0 5 t.a_shares t.d_shares ["one", "other", "most"] (jW t.a_View):=by
 have G_gathered:=%[iq|46];have G_is_whole:=%[cp|46];have G_first_case:=%[fg|46];have G_end_of:=%[uM|46];have G_numbers_at_once:=%[fk|46];have G_places_by_numbers:=%[eC|46];have G_parting:=%[qk|46];have G_parted:=%[lE|46];refine T.F_shares.ok bz (λ vs H Q E h=>qI _ h) (λ cdv A' outer s H vs Q E hr h=>?_)
 ·obtain⟨u,v,most,rfl,room,f1,f2,A,B,vu,vv,hA,hB,m1,m2,sh,k⟩:=h;refine⟨_,%[%[3,bz,%[gathered,%[%[0|0],%[%[1|0]|1]|1]|3]|4],%[%[(PW.pt %[%[%[%[is_whole,%[%[2|0]|1]|3],(by intros;rfl)|19]|22],%[%[cj,%[2|0],%[0|2],(ae _)|14],%[%[cW,%[2|0],(@jP _ _ (.int 100000) _ _ ∅ T.m_MOST_CASES.choose_spec ⟨_,rfl⟩ ⋯),(ae _)|14]|28]|20]|20]),%[(@gn _ _)|12],(@ao _)|16],%[%[4,bz,%[az,%[3|0],%[0|2],(λ _ _=>rfl)|10]|4],%[%[5,bz,%[az,%[3|0],%[0|2],(λ _ _=>rfl)|10]|4],%[%[6,bz,%[%[%[first_case,%[%[4|0]|1]|3]|1]|23]|4],%[%[7,bz,%[(@cX _)|23]|4],%[%[8,bz,%[0|2]|4],%[(@ke _ _ _ _ _ _ PassesOwn.leaving %[cW,%[len,ar,%[%[6|0]|1]|6],%[0|2],(ae _)|14] %[%[%[(aV hr.units),%[8|0],%[2|0],(ae _)|14],%[%[%[%[(@br _ _ _ _)|1]|18]|13]|12],(@ao _)|16],%[%[8,bz,%[aD,%[8|0],%[0|2]|9]|4],%[%[9,bz,(@oF _ _ _ _ _ _ _ _ _ Kc LV LU tw %[6|0] ∅ ∅)|4],%[%[10,bz,%[end_of,%[%[4|0],%[%[5|0],%[%[9|0]|1]|1]|1]|3]|4],%[%[%[sZ,%[10|0],(@dz _ _ _),(ae _)|14],%[%[11,bz,%[numbers_at_once,%[%[4|0],%[%[5|0],%[%[9|0]|1]|1]|1]|3]|4],%[%[%[xn,%[11|0],(@dz _ _ _),(ae _)|14],%[%[%[places_by_numbers,%[%[0|0],%[%[1|0],%[%[4|0],%[%[11|0]|1]|1]|1]|1]|3]|13]|12],(@ao _)|16],%[%[10,bz,%[parting,%[%[4|0],%[%[5|0],%[%[9|0]|1]|1]|1]|3]|4],%[(@dJ _ _ _ _ %[Kc,PySem.F.slot_list_extend,PySem.F.type_list_extend,lG,%[6|0],%[%[parted,%[%[9|0],%[%[az,%[10|0],%[0|2],(λ _ _=>rfl)|10],%[%[az,%[10|0],%[0|2],(λ _ _=>rfl)|10]|1]|1]|1]|3]|1],∅,∅,∅,∅,∅|42] ∅)|12]|11]|11]|11],(@ao _)|16],%[(@dJ _ _ _ _ %[Kc,Lc,Lb,dP,%[7|0],%[%[10|0]|1],∅,∅,∅,∅,∅|42] ∅)|12]|11]|11]|11]|11]|11]),%[%[%[%[(@br _ _ _ _),%[%[7|0]|1]|1]|18]|13]|12]|11]|11]|11]|11]|11]|11]|11]|11],?_⟩;rw [show start ["one", "other", "most", "found", "terms", "goal", "cases", "paper", "looked", "case", "step", "numbers"] [.ref u,.ref v,.int most]=[some (.ref u),some (.ref v),some (.int most),none,none,none,none,none,none,none,none,none] from rfl];clear G_gathered G_is_whole G_first_case G_end_of G_numbers_at_once G_places_by_numbers G_parting G_parted
  have hsz:∀ z∈aj A B,(1:Int)<=z.2:=λ z hz=>by
   unfold aj at hz
   rcases Ke.mp hz with hz|hz
   ·obtain⟨a,ha,rfl⟩:=J8.mp hz;exact(hA.2 a ha).1
   ·obtain⟨a,ha,rfl⟩:=J8.mp hz;exact(hB.2 a ha).1
  exists k;exists sh;exists hsz;ac_rfl;rw [pK];refine⟨room,f1,f2,A,B,vu,vv,hA,hB,λ ks l r0 H1 e1 hr1 t1 ko=>?_⟩;obtain⟨ht,pf,hPf,hM,hm⟩:=(sh ()).tm ks ko
  have hkz:∀ z∈aj A B,af z.1=0\/af z.1∈ks:=λ z hz=>by
   by_cases e:af z.1=0
   ·exact .inl e
   ·exact .inr ((ko.mem _).mpr ⟨e,z,hz,rfl⟩)
  have hz1:∀ z∈ag ks (aj A B),(1:Int)<=z.1:=λ z hz=>(ht.all z hz).1.1;have hnd:((ag ks (aj A B)).map λ z=>z.1).Nodup:=by rw [uB];exact ko.nd
  have hfin:∀ xs pp,InB ((ag ks (aj A B)).map λ z=>z.2) xs->i9 (ag ks (aj A B)) xs=f2 - f1->mP A B (f2 - f1) most ks (some xs) pp:=λ xs pp h2 h3=>by
   obtain⟨i1,i2⟩:=meet ko.nd (hsz ()) hkz h2;exact⟨ko,(λ ys e=>by cases e;exact⟨i1,i2.trans h3⟩),λ e=>by cases e⟩
  have hfin0:∀ pp,Rep (ag ks (aj A B)) (f2 - f1) [(ag ks (aj A B)).map λ z=>z.2] pp []->(pp.length:Int)<=pf ((ag ks (aj A B)).map λ z=>z.2)->mP A B (f2 - f1) most ks none pp:=λ pp h2 h3=>⟨ko,(λ ys e=>by cases e),λ _=>⟨h2,by omega,by omega⟩⟩
  have ini:StI (ag ks (aj A B)) (f2 - f1) pf ((ag ks (aj A B)).map λ z=>z.2) (pf ((ag ks (aj A B)).map λ z=>z.2)) [(ag ks (aj A B)).map λ z=>z.2] 0 []:=by
   have ep:iN pf [(ag ks (aj A B)).map λ z=>z.2]=pf ((ag ks (aj A B)).map λ z=>z.2)+0:=rfl;exact⟨λ c hc=>by rw [Kd.mp hc];exact pE ht,by rw [ep];omega,rfl,rfl⟩
  have hF1:=hPf.one _ (pE ht);have hA8:=hA.1;have hB8:=hB.1;have hpf:∀ xs,eE (cc (ag ks (aj A B)) xs) (aj A B)=plF ks (aj A B) xs:=λ _=>rfl;generalize ag ks (aj A B)=zs at *;generalize hMe:pf (zs.map λ z=>z.2)=M at *;clear hMe;have h17:=ht.len;exists ini;exists hz1;exists hnd;exists hfin;exists hfin0;exists hpf;have hm1:¬ most < 1:=by omega
  have hm2:¬ 100000 < most:=by omega
  exists hPf;clear sh hsz hkz ko;simp! only [↓bR];rw [jt];refine⟨zs,t1,h17,λ c0 H2 e2 p2=>?_⟩;have hr2:=e2.at hr1;ac_rfl;intro cA H3 hcA e3 h3;have ncA:c0 ≠ cA:=λ z=>by obtain⟨_,hh,_⟩:=p2;rw [z,hcA] at hh;cases hh
  ac_rfl;intro pA H4 hpA e4 h4;have npA:c0 ≠ pA:=λ z=>by obtain⟨_,hh,_⟩:=p2;rw [z] at hh;rw [e3.at hh] at hpA;cases hpA
  have ncp:cA ≠ pA:=λ z=>by rw [z] at h3;rw [h3] at hpA;cases hpA
  have e14:=e2.trans (e3.trans e4);have hcA1:H1 cA=none:=e2.free hcA;have hpA1:H1 pA=none:=(e2.trans e3).free hpA;have h3_4:=e4.at h3;have stk0:dh H4 cA pA [zs.map λ z=>z.2] [.ref c0]:=⟨[],.ref c0,rfl,⟨c0,rfl,ncA,npA,aC p2 (e3.trans e4)⟩,rfl⟩;exists stk0;clear hcA hpA p2 hr2 h3 e2 e3 e4;ac_rfl;refine mR (by repeat' first|exact zT|exact tF|exact mo_nI|apply ki|apply mo_unN|exact oI|exact Gn|exact oJ|exact mo_rI|exact mo_rIsN|exact mo_rNotN|exact tD|exact mo_qIx|exact tE|exact nt|apply jQ|apply mo_tB|apply mo_not|apply mo_and|apply mo_or|apply zU|apply mo_un|apply nu|apply mo_qLst|apply zV) (λ mm σ H'=>∃ (st:List Bx) (cl pl:List V) (pp:List (List V)) (lk:Int) (v9 v10 v11:Option V),σ=[some (.ref u),some (.ref v),some (.int most),some (.ref r0),some (.ref l),some (.int (f2 - f1)),some (.ref cA),some (.ref pA),some (.int lk),v9,v10,v11]/\mm=(iN pf st).toNat/\Ext H1 H'/\H' cA=some (.lst cl)/\H' pA=some (.lst pl)/\mM H' pp pl/\dh H' cA pA st cl/\StI zs (f2 - f1) pf (zs.map λ z=>z.2) M st lk pp) _ ⟨[zs.map λ z=>z.2],[.ref c0],[],[],0,none,none,none,rfl,rfl,e14,h3_4,h4,Al.nil,stk0 (),ini ()⟩ ?_;rintro mm _ H5 ⟨st,cl,pl,pp,lk,v9,v10,v11,rfl,rfl,e5,h5c,h5p,hpl,stk,hI⟩
  cases st with
  | nil=>
   have hcl:cl=[]:=stk;subst hcl;obtain⟨q2,q3⟩:=hI.done;have hres:=hfin0 () pp q2 q3;exists hres;exists hpl;have hpA0:H pA=none:=e1.free hpA1;clear hI q2 q3 hfin hfin0 stk ini stk0;ac_rfl;intro r6 H6 _ e6 h6;exact k () ks none pp r6 H6 (e1.trans (e5.trans e6)) (hres ()) ⟨pA,hpA0,h6,_,e6.at h5p,(hpl ()).ext e6⟩
  | cons c st=>
   obtain⟨cl0,y,rfl,hcy,stk'⟩:=stk;obtain⟨hlt,hc,hend,hgo⟩:=hI.step (hz1 ()) (hPf ());obtain⟨a,rfl,nac,nap,pa⟩:=hcy;have hokS:∀ d∈st,cJ zs d:=λ d hd=>hI.ok d (JN _ hd);have hpn:=sX (hPf ()) hokS;have hv1:=(hPf ()).one c hc;have hpot:=hI.pot;have hlk0:0<=lk:=by have:=hI.len;omega
   have ep:iN pf (c::st)=pf c+iN pf st:=rfl;have hcl0:=stk'.len;have hlkm:¬ lk=most:=by omega
   have hplk:pl.length < sizeLine:=Ft (by have:=hI.len;have:=hpl.1;omega);have hext:cl0.length+2<=sizeLine:=jR %[0|8];have hdec:(iN pf st).toNat < (iN pf (c::st)).toNat:=by omega
   obtain⟨cl,hcl⟩:∃ cl,cl0++[V.ref a]=cl:=⟨_,rfl⟩;have hlen:0 < (cl.length:Int):=by rw [←hcl,JU,Kg];omega
   have hlast:cl[cl.length - 1]? = some (.ref a):=by rw [←hcl,JU,Kg,Mh,Ka (JO _),Nat.sub_self];rfl
   have hdrop:cl.dropLast=cl0:=by rw [←hcl,L7]
   rw [hcl] at h5c;have cs6:=CsV.upd (o:=.lst cl0) (c:=c) (y:=.ref a) ⟨a,rfl,nac,nap,pa⟩ h5c (.inl rfl);have st6:=dh.upd (o:=.lst cl0) h5c (.inl rfl) stk';have e6:Ext H1 (upd H5 cA (.lst cl0)):=e5.put hcA1;have h6c:upd H5 cA (.lst cl0) cA=some (.lst cl0):=ai;have h6p:upd H5 cA (.lst cl0) pA=some (.lst pl):=by rw [ah (Kh ncp)];exact h5p
   have pl6:mM (upd H5 cA (.lst cl0)) pp pl:=hpl.upd h5c;exists pl6;exists hend;exists hgo;exists hI;exists hpn;exists hdec;exists ep;exists hpot;exists hcl0;exists st6;clear stk' pa hcl hokS h3_4 h4 stk0 ini e14 hfin0 hpl;ac_rfl;generalize upd H5 cA (.lst cl0)=H6 at *;clear h5c h5p e5 hlen hlast hdrop;obtain⟨a',ha',_,_,pa6⟩:=cs6;cases ha';rw [wc];refine⟨zs,c,bL t1 e6,pa6,ht,hc,λ v7 H7 e7 hv7=>?_⟩;have e17:=e6.trans e7;have h7c:=e7.at h6c;have h7p:=e7.at h6p;have st7:=λ (_:Unit)=>(st6 ()).ext e7;have pa7:=aC pa6 e7;have pl7:=λ (_:Unit)=>(pl6 ()).ext e7
   cases hee:yQ zs c (f2 - f1) with
   | some ss=>
    rw [hee] at hv7;obtain⟨r7,rfl,hr7⟩:=hv7;have hI':=λ (_:Unit)=>hend () ss hee;have plN:=λ (_:Unit)=>mM.upd (o:=.lst (pl++[.ref r7])) ((pl7 ()).snoc hr7) h7p;clear hend hgo h6c h6p st6 e6 pa6 hee k pl6 pl7;ac_rfl;exact⟨(iN pf st).toNat,hdec (),st,cl0,pl++[.ref r7],_,lk+1,_,_,_,rfl,rfl,e17.put hpA1,(by first|rfl|(rw [ah ncp];exact h7c)),(by first|rfl|exact ai),plN (),dh.upd h7p (.inr rfl) (st7 ()),hI' ()⟩
   | none=>
    rw [hee] at hv7;have hv7':v7=.non:=hv7;subst hv7';obtain⟨hg1,hg2⟩:=hgo () hee;exists hg1;exists hg2;clear hend hgo h6c h6p st6 e6 pa6 hee pl6;ac_rfl;rw [Cp];refine⟨zs,c,bL t1 e17,pa7,ht,hc,λ v8 H8 e8 hv8=>?_⟩;have e18:=e17.trans e8;have h8c:=e8.at h7c;have h8p:=e8.at h7p;have st8:=λ (_:Unit)=>(st7 ()).ext e8;have pl8:=λ (_:Unit)=>(pl7 ()).ext e8;have pa8:=aC pa7 e8;clear h7c h7p st7 pa7 pl7
    cases hna:rO zs (f2 - f1) c with
    | some xs=>
     rw [hna] at hv8;obtain⟨r8,rfl,hr8⟩:=hv8;obtain⟨q2,q3⟩:=hg1 () xs hna;have hin:=yh hc q2;have hres:=hfin () xs pp hin q3;have hxl:xs.length=zs.length:=by rw [hin.len,JT]
     exists hres;exists hxl;clear hg1 hg2 hna q2 q3 hin hfin pl8;ac_rfl;rw [we];refine⟨room,room,f1,f2,A,B,zs,xs,vu.ext (e1.trans e18),vv.ext (e1.trans e18),hA8,hB8,bL t1 e18,h17,hnd (),hr8,hxl (),λ r9 a1 a2 H9 e9 w1 w2 w3=>?_⟩;rw [hpf ()] at w2 w3;have k':=k () ks (some xs) pp r9 H9 (e1.trans (e18.trans e9)) (hres ()) ⟨a1,a2,w1,w2,w3⟩;clear k;ac_rfl
    | none=>
     rw [hna] at hv8;have hv8':v8=.non:=hv8;subst hv8';obtain⟨q,hq1,hq2,hpv,hI'⟩:=hg2 () hna;exists hI';have hqc:q.1 < c.length:=by rw [hc.len];exact hq2
     have hc17:c.length<=17:=by rw [hc.len];exact h17
     have hdec2:(iN pf (loC c q.1 (ba c q)::upC c q.1 (ba c q)::st)).toNat < (iN pf (c::st)).toNat:=by
      have e2':iN pf (loC c q.1 (ba c q)::upC c q.1 (ba c q)::st)=pf (loC c q.1 (ba c q))+(pf (upC c q.1 (ba c q))+iN pf st):=rfl;have:=ep ();have:=(hpn ()).1;omega
     exists hdec2;clear hg1 hg2 hna hfin hpv k;ac_rfl;rw [yF];refine⟨zs,c,q,bL t1 e18,pa8,ht,hc,hq1,hq2,λ r9 H9 e9 h9=>?_⟩;have e19:=e18.trans e9;have h9c:=e9.at h8c;have h9p:=e9.at h8p;have st9:=λ (_:Unit)=>(st8 ()).ext e9;have pl9:=λ (_:Unit)=>((pl8 ()).ext e9).snoc h9;have pa9:=aC pa8 e9;clear h8c h8p st8 pa8 pl8;ac_rfl;rw [jr];refine⟨c,q.1,rfl,pa9,hqc,hc17,λ r10 a1 a2 H10 n1 n2 e10 h10 p1 p2=>?_⟩;have e110:=e19.trans e10;have h10c:=e10.at h9c;have h10p:=e10.at h9p;have st10:=(st9 ()).ext e10;have pl11:=λ (_:Unit)=>mM.upd (o:=.lst (cl0++[.ref a1,.ref a2])) ((pl9 ()).ext e10) h10c;have m1c:a1 ≠ cA:=λ z=>by rw [z,h9c] at n1;cases n1
     have m1p:a1 ≠ pA:=λ z=>by rw [z,h9p] at n1;cases n1
     have m2c:a2 ≠ cA:=λ z=>by rw [z,h9c] at n2;cases n2
     have m2p:a2 ≠ pA:=λ z=>by rw [z,h9p] at n2;cases n2
     have stN:dh H10 cA pA (loC c q.1 (ba c q)::upC c q.1 (ba c q)::st) (cl0++[.ref a1,.ref a2]):=⟨cl0++[.ref a1],.ref a2,by rw [Lw];rfl,⟨a2,rfl,m2c,m2p,p2⟩,cl0,.ref a1,rfl,⟨a1,rfl,m1c,m1p,p1⟩,st10⟩;have stM:=dh.upd (o:=.lst (cl0++[.ref a1,.ref a2])) h10c (.inl rfl) stN;have h11p:upd H10 cA (.lst (cl0++[.ref a1,.ref a2])) pA=some (.lst pl):=by rw [ah (Kh ncp)];exact h10p
     have h11c:upd H10 cA (.lst (cl0++[.ref a1,.ref a2])) cA=some (.lst (cl0++[.ref a1,.ref a2])):=ai;have e111:Ext H1 (upd H10 cA (.lst (cl0++[.ref a1,.ref a2]))):=e110.put hcA1;exists stM;clear h9c h9p st9 pa9 n1 n2 st10 stN p1 p2 h10p pl9;ac_rfl;generalize upd H10 cA (.lst (cl0++[.ref a1,.ref a2]))=H11 at *;clear h10c;ac_rfl;exact⟨_,hdec2 (),_,_,pl++[.ref r9],_,lk+1,_,_,_,rfl,rfl,e111.put hpA1,(by first|rfl|(rw [ah ncp];exact h11c)),(by first|rfl|exact ai),mM.upd (pl11 ()) h11p,dh.upd h11p (.inr rfl) (stM ()),hI' ()⟩
theorem Am{K:W.Frag}{ka kb:Bool}{H:Hp}{α β:Type}{R1:α->V->Hp->Prop}{R2:β->V->Hp->Prop}(h1:∀ z y H H',R1 z y H->Ext H H'->R1 z y H')(h2:∀ z y H H',R2 z y H->Ext H H'->R2 z y H'){a b:Addr}{xs ys:List V}{zs:List α}{ws:List β}(ha:SqK ka H a xs)(hb:SqK kb H b ys)(al:Al (λ z y=>R1 z y H) zs xs)(bl:Al (λ z y=>R2 z y H) ws ys) :
  (∀ i z H',(zs.zip ws)[i]? = some z->Ext H H'->(Itz ka kb a b xs ys).go i H'/\∀ x H'',(Itz ka kb a b xs ys).yld i H' x H''->Ext H' H''/\zy R1 R2 z x H'')/\∀ H',Ext H H'->(Itz ka kb a b xs ys).stop (zs.zip ws).length H':=by
 have wk:=yX (ka:=ka) (kb:=kb) ha hb;refine⟨λ i z H' hz e=>?_,λ H' e=>?_⟩
 ·obtain⟨i1,i2⟩:=JM.mp hz;rw [KI] at i1;have hx:xs[i]? = some (xs[i]'(by rw [al.1];omega)):=JJ _;have hy:ys[i]? = some (ys[i]'(by rw [bl.1];omega)):=JJ _;have g1:=al.2 i zs[i] _ (JJ _) hx;have g2:=bl.2 i ws[i] _ (JJ _) hy;generalize (xs[i]'(by rw [al.1];omega))=x0 at hx g1;generalize (ys[i]'(by rw [bl.1];omega))=y0 at hy g2
  have hzz:(xs.zip ys)[i]? = some (x0,y0):=by
   rw [Kt];exact⟨hx,hy⟩
  obtain⟨go,yd⟩:=wk.1 i _ H' hzz e;refine⟨go,λ x H'' y=>?_⟩;obtain⟨e2,p,hp,hp2⟩:=yd x H'' y;have ez:z=(zs[i],ws[i]):=by rw [←i2,Mv]
  subst ez;exact⟨e2,p,x0,y0,hp,hp2,h1 _ _ _ _ g1 (e.trans e2),h2 _ _ _ _ g2 (e.trans e2)⟩
 ·have:=wk.2 H' e
  rwa [show (zs.zip ws).length=(xs.zip ys).length by rw [KI,KI,al.1,bl.1]]
def eB:List (Int × Int)->List Int->Int
 | a::A,y::ys=>a.2 * y+eB A ys
 | _,_=>0
theorem pG:∀ (A:List (Int × Int)) (ys:List Int),((ys.zip A).map λ z=>z.1 * z.2.2).sum=eB A ys
 | [],[]=>rfl
 | [],_::_=>rfl
 | _::_,[]=>rfl
 | a::A,y::ys=>by
  rw [Lo,Km,Mf,pG A ys]
  show y * a.2+_=a.2 * y+_
  rw [L4]
abbrev mi  (f:Int) (q:Addr) (p:Addr) (H:Hp) (Q:VK) (E:XK):Prop:=∃ (A:List (Int × Int)) (ys:List Int),cU H q A/\H p=some (.tup (ys.map V.int))/\A.length<=8/\(∀ a∈A,-100000000000000000<=a.2/\a.2<=100000000000000000)/\∀ H',Ext H H'->Q (.int (f+eB A ys)) H'
def m8  : Sp:=λ vs H Q E=>∃ (f:Int) (q:Addr) (p:Addr),vs=[.int f,.ref q,.ref p]/\(mi  f q p H Q E)
theorem lR  (f:Int) (q:Addr) (p:Addr) (H:Hp) (Q:VK) (E:XK):m8  [.int f,.ref q,.ref p] H Q E=(mi  f q p H Q E):=rG (f:=λ (f:Int) (q:Addr) (p:Addr)=>[.int f,.ref q,.ref p]) (λ _ _ _ _ _ _ h=>by cases h;exact⟨rfl,rfl,rfl⟩) f q p
theorem vD  {vs:List V}{H:Hp}{Q:VK}{E:XK}(h:m8  vs H Q E):vs.length=3:=rK h λ _ _ _=>rfl
theorem mx(T:Tx K mg t):bC P w K mg base CX0 1 t.a__law_cell t.d__law_cell ["_law_first", "_law_axes", "_law_place"] m8:=by
 refine T.F__law_cell.ok oo (λ vs H Q E h=>vD h) (λ cdv A' outer s H vs Q E hr h=>?_)
 ·obtain⟨f,q,p,rfl,A,ys,⟨ts,hq,al⟩,hp,h8,hb,k⟩:=h;refine⟨_,%[%[%[aD,%[0|0],%[sum,(bP rfl),%[%[(["_law_at", "_law_axis", "_law_first", "_law_axes", "_law_place"]),(2),(aG (aa dq) ["_law_first", "_law_axes", "_law_place"] rfl rfl nofun),rfl,%[∅,T.z_zip,%[%[2|0],%[%[1|0]|1]|1],∅,∅|38],(λ C s₀ H₀ ex pn=>(%[(2),rfl,%[%[(0),_,(show List.Nodup (["_law_at", "_law_axis", "_law_first", "_law_axes", "_law_place"]:List Str) from by decide +kernel),rfl,(Or.inl rfl),%[0|7]|17],%[%[(1),_,(show List.Nodup (["_law_at", "_law_axis", "_law_first", "_law_axes", "_law_place"]:List Str) from by decide +kernel),rfl,(Or.inl rfl),%[0|7]|17],(@aA _),∅|15],∅|15],∅,∅|21].mono λ _ _ _ _ h=>aX h)),(λ C s₀ H₀ ex pn=>(@aM _)),(λ C s₀ H₀ ex pn=>%[aW,%[0|0],%[az,%[1|0],%[0|2],(λ _ _=>rfl)|10]|9]),(by intros;rfl)|25]|1]|6]|9]|13]|12],?_⟩;rw [show start ["_law_first", "_law_axes", "_law_place"] [.int f,.ref q,.ref p]=[some (.int f),some (.ref q),some (.ref p)] from rfl];have wk:=Am (K:=K) (ka:=true) (kb:=false) (R1:=λ (z:Int) y (_:Hp)=>y=.int z) (R2:=axP) (λ _ _ _ _ h _=>h) (λ _ _ _ _ h e=>h.ext e) (zs:=ys) (ws:=A) hp hq ⟨by rw [JT],λ i z y hz hy=>by rw [J5,hz] at hy;cases hy;rfl⟩ al;exists k;exists hb;ac_rfl;refine bc (ys.zip A) (λ _=>true) (λ z=>.int (z.1 * z.2.2)) (zy (λ (z:Int) y (_:Hp)=>y=.int z) axP) wk.1 wk.2 (ay (by rw [KI];omega)) ?_ ?_
  ·intro D z x H' N1 N0 hz hD e hx k1 _;obtain⟨p1,q1,q2,rfl,hp1,rfl,q3,rfl,hq3⟩:=hx;have k1':N1 (.int (z.1 * z.2.2)) H':=k1 rfl H' (Ext.refl _);have hz2:=hb () z.2 (LC (show (z.1,z.2)∈ys.zip A from hz)).2;have cm:iQ z.1 z.2.2:=.inr ⟨by omega,by omega⟩;clear k1 wk k hz;simp! only [↓bM,↓aN]
  ·intro D H1 hD e1 h1;have h1':H1 D=some (.lst (((ys.zip A).map λ z=>z.1 * z.2.2).map V.int)):=by rw [h1,iO,KG];rfl
   have hsum:=pG A ys;have k':=k () H1 e1;rw [←hsum] at k';clear k wk h1 hsum;ac_rfl
def InA:List (Int × Int)->List Int->Prop
 | [],[]=>True
 | a::A,y::ys=>(0<=y/\y < a.1)/\InA A ys
 | _,_=>False
theorem InA.len:∀ {A:List (Int × Int)}{ys:List Int},InA A ys->ys.length=A.length
 | [],[],_=>rfl
 | [],_::_,h=>h.elim
 | _::_,[],h=>h.elim
 | _::_,_::_,h=>KC (· + 1) (InA.len h.2)
theorem InA.at:∀ {A:List (Int × Int)}{ys:List Int}{i:Nat}{a:Int × Int}{y:Int},InA A ys->A[i]? = some a->ys[i]? = some y->0<=y/\y < a.1
 | a::A,y::ys,0,b,z,h,h1,h2=>by cases h1;cases h2;exact h.1
 | a::A,y::ys,i+1,b,z,h,h1,h2=>InA.at h.2 (by simpa using h1) (by simpa using h2)
 | [],_,_,_,_,_,h1,_=>by simp at h1
 | _::_,[],_,_,_,h,_,_=>h.elim
abbrev mh  (p:Addr) (q:Addr) (H:Hp) (Q:VK) (E:XK):Prop:=∃ (A:List (Int × Int)) (ys:List Int),cU H q A/\H p=some (.tup (ys.map V.int))/\A.length<=8/\InA A ys/\∀ H',Ext H H'->Q (.bl true) H'
def m7  : Sp:=λ vs H Q E=>∃ (p:Addr) (q:Addr),vs=[.ref p,.ref q]/\(mh  p q H Q E)
theorem lQ  (p:Addr) (q:Addr) (H:Hp) (Q:VK) (E:XK):m7  [.ref p,.ref q] H Q E=(mh  p q H Q E):=rH (f:=λ (p:Addr) (q:Addr)=>[.ref p,.ref q]) (λ _ _ _ _ h=>by cases h;exact⟨rfl,rfl⟩) p q
theorem vC  {vs:List V}{H:Hp}{Q:VK}{E:XK}(h:m7  vs H Q E):vs.length=2:=rL h λ _ _=>rfl
theorem gc(T:Tx K mg t):bC P w K mg base CX0 2 t.a__law_is_place t.d__law_is_place ["_law_place", "_law_axes"] m7:=by
 have G__law_whole:=%[dw|46];refine T.F__law_is_place.ok cu (λ vs H Q E h=>vC h) (λ cdv A' outer s H vs Q E hr h=>?_)
 ·obtain⟨p,q,rfl,A,ys,⟨ts,hq,al⟩,hp,h8,hin,k⟩:=h;refine⟨_,%[%[(PW.pt %[%[%[%[isinstance,aI,%[%[0|0],%[%[(.ty "tuple"),(.type "tuple"),_,∅,T.z_tuple,nofun,rfl,⋯,⋯|30]|1]|1]|6],(by intros;rfl)|19]|22],%[%[(ck hr.units),%[len,ar,%[%[0|0]|1]|6],%[len,ar,%[%[1|0]|1]|6],(ae _)|14]|28]|20]),%[%[(@cV _ _ _ _)|13]|12],(@ao _)|16],%[%[Ki,rfl,%[∅,T.z_zip,%[%[0|0],%[%[1|0]|1]|1],∅,∅|38],(%[(2),rfl,%[%[2,cu|5],%[%[3,cu|5],(@aA _),∅|15],∅|15],∅,∅|21].mono λ _ _ _ _ h=>aX h),%[%[(PW.pt %[%[%[%[_law_whole,%[%[2|0]|1]|3],(by intros;rfl)|19]|22],%[%[%[iV,cj,%[0|2],%[2|0],%[az,%[3|0],%[0|2],(λ _ _=>rfl)|10],∅|45]|22]|28]|20]),%[%[(@cV _ _ _ _)|13]|12],(@ao _)|16]|12],(by intros;rfl)|33],%[%[(@cV _ _ _ _)|13]|12]|11]|11],?_⟩;rw [show start ["_law_place", "_law_axes", "_law_at", "_law_axis"] [.ref p,.ref q]=[some (.ref p),some (.ref q),none,none] from rfl];clear G__law_whole;have htl:ts.length=A.length:=al.1;have hyl:=hin.len;have hll:(ys.length:Int)=(ts.length:Int):=by omega
  exists k;exists al;exists hin;exists htl;exists hyl;ac_rfl;refine ud (ka:=true) (kb:=false) (xs:=ys.map V.int) (ys:=ts) (λ i σ H'=>∃ v2 v3:Option V,σ=[some (.ref p),some (.ref q),v2,v3]/\Ext H H') ⟨none,none,rfl,Ext.refl _⟩ (λ i σ H' ⟨_,_,_,e⟩=>⟨e.at hp,e.at hq⟩) ?_ ?_
  ·rintro i x y w' _ H2 H3 hx hy ⟨v2,v3,rfl,e2⟩ hw e3 h3;rw [J5] at hx;obtain⟨n,hn,rfl⟩:=J6.mp hx;have hiA:i < A.length:=by have:=(JM.mp hy).1;have:=htl ();omega
   obtain⟨tq,rfl,htq⟩:=(al ()).2 i A[i] y (JJ hiA) hy;obtain⟨n0,n1⟩:=(hin ()).at (JJ hiA) hn;have e03:=e2.trans e3;have ht3:=e03.at htq;generalize A[i]=b at *;clear hx hy hn hw k htq e2 e3;simp! only [↓aQ,↓bR];exact⟨_,_,rfl,e03⟩
  ·rintro _ H2 ⟨v2,v3,rfl,e2⟩;have k':=k () H2 e2;clear k;ac_rfl
abbrev pT  (x:Addr) (p:Addr) (q:Addr) (g:Int) (H:Hp) (Q:VK) (E:XK):Prop:=∃ (A B:List (Int × Int)) (ys zs:List Int) (a1 a2:Addr),H x=some (.tup [.str "shared",.ref a1,.ref a2])/\H a1=some (.tup (ys.map V.int))/\H a2=some (.tup (zs.map V.int))/\cU H p A/\cU H q B/\A.length<=8/\B.length<=8/\InA A ys/\InA B zs/\(∀ a∈A,-100000000000000000<=a.2/\a.2<=100000000000000000)/\(∀ a∈B,-100000000000000000<=a.2/\a.2<=100000000000000000)/\eB A ys=g+eB B zs/\∀ H',Ext H H'->Q (.bl true) H'
def sL  : Sp:=λ vs H Q E=>∃ (x:Addr) (p:Addr) (q:Addr) (g:Int),vs=[.ref x,.ref p,.ref q,.int g]/\(pT  x p q g H Q E)
theorem yH  (x:Addr) (p:Addr) (q:Addr) (g:Int) (H:Hp) (Q:VK) (E:XK):sL  [.ref x,.ref p,.ref q,.int g] H Q E=(pT  x p q g H Q E):=yO (f:=λ (x:Addr) (p:Addr) (q:Addr) (g:Int)=>[.ref x,.ref p,.ref q,.int g]) (λ _ _ _ _ _ _ _ _ h=>by cases h;exact⟨rfl,rfl,rfl,rfl⟩) x p q g
theorem xQ  {vs:List V}{H:Hp}{Q:VK}{E:XK}(h:sL  vs H Q E):vs.length=4:=yP h λ _ _ _ _=>rfl
theorem nJ(T:Tx K mg t):bC P w K mg base CX0 3 t.a__law_met t.d__law_met ["_law_found", "_law_one", "_law_other", "_law_goal"] sL:=by
 have G__law_is_place:=%[gc|46];have G__law_cell:=%[mx|46];refine T.F__law_met.ok rA (λ vs H Q E h=>xQ h) (λ cdv A' outer s H vs Q E hr h=>?_)
 ·obtain⟨x,p,q,g,rfl,A,B,ys,zs,a1,a2,hx,h1,h2,hp,hq,hA,hB,iA,iB,bA,bB,hd,k⟩:=h;refine⟨_,%[%[(PW.pt %[%[%[%[isinstance,aI,%[%[0|0],%[%[(.ty "tuple"),(.type "tuple"),_,∅,T.z_tuple,nofun,rfl,⋯,⋯|30]|1]|1]|6],(by intros;rfl)|19]|22],%[%[(ck hr.units),%[len,ar,%[%[0|0]|1]|6],%[0|2],(ae _)|14],%[%[(ck hr.units),%[az,%[0|0],%[0|2],(λ _ _=>rfl)|10],(@br _ _ _ _),(ae _)|14]|28]|20]|20]),%[%[(@cV _ _ _ _)|13]|12],(@ao _)|16],%[%[(PW.pt %[%[%[%[_law_is_place,%[%[az,%[0|0],%[0|2],(λ _ _=>rfl)|10],%[%[1|0]|1]|1]|3],(by intros;rfl)|19]|22],%[%[%[%[_law_is_place,%[%[az,%[0|0],%[0|2],(λ _ _=>rfl)|10],%[%[2|0]|1]|1]|3],(by intros;rfl)|19]|22]|28]|20]),%[%[(@cV _ _ _ _)|13]|12],(@ao _)|16],%[%[%[(aV hr.units),%[_law_cell,%[%[0|2],%[%[1|0],%[%[az,%[0|0],%[0|2],(λ _ _=>rfl)|10]|1]|1]|1]|3],%[_law_cell,%[%[3|0],%[%[2|0],%[%[az,%[0|0],%[0|2],(λ _ _=>rfl)|10]|1]|1]|1]|3],(ae _)|27]|13]|12]|11]|11],?_⟩;rw [show start ["_law_found", "_law_one", "_law_other", "_law_goal"] [.ref x,.ref p,.ref q,.int g]=[some (.ref x),some (.ref p),some (.ref q),some (.int g)] from rfl];clear G__law_is_place G__law_cell;exists k;exists hd;exists iA;exists iB;exists bA;exists bB;ac_rfl;rw [lQ];refine⟨A,ys,hp,h1,hA,iA (),λ H1 e1=>?_⟩;have hx1:=e1.at hx;ac_rfl;rw [lQ];refine⟨B,zs,aC hq e1,e1.at h2,hB,iB (),λ H2 e2=>?_⟩;have e02:=e1.trans e2;have hx2:=e2.at hx1;ac_rfl;rw [lR];refine⟨A,ys,aC hp e02,e02.at h1,hA,bA (),λ H3 e3=>?_⟩;have e03:=e02.trans e3;have hx3:=e3.at hx2;ac_rfl;rw [lR];refine⟨B,zs,aC hq e03,e03.at h2,hB,bB (),λ H4 e4=>?_⟩;ac_rfl;rw [J3 (show 0+eB A ys=g+eB B zs by have:=hd ();omega)];exact k () H4 (e03.trans e4)
structure gj(H:Hp)(P:List (Int × Int))(ks:List Int)(kvs:List (Key × V)):Prop where
 e1:kvs.map (·.1)=ks.map (Sum.inl:Int->Key)
 nd:ks.Nodup
 len:ks.length<=P.length
 v:∀ t∈ks,∃ q,di kvs (.inl t)=some (.ref q)/\H q=some (.tup [.int (cI P t),.int (bD P t)])
 mem:∀ t,t∈ks ↔ t ≠ 0/\∃ z∈P,af z.1=t
theorem gj.ext{H H':Hp}{P:List (Int × Int)}{ks:List Int}{kvs:List (Key × V)}(h:gj H P ks kvs)(e:Ext H H'):gj H' P ks kvs:=
 ⟨h.e1,h.nd,h.len,λ t ht=>(let ⟨q,h1,h2⟩:=h.v t ht;⟨q,h1,e.at h2⟩),h.mem⟩
theorem gj.upd{H:Hp}{P:List (Int × Int)}{ks:List Int}{kvs k0:List (Key × V)}{d:Addr}{o:HO}(h:gj H P ks kvs)(hd:H d=some (.dK k0)):gj (upd H d o) P ks kvs:=
 ⟨h.e1,h.nd,h.len,λ t ht=>(let ⟨q,h1,h2⟩:=h.v t ht;⟨q,h1,by rw [ah (λ z=>by rw [z,hd] at h2;cases h2)];exact h2⟩),h.mem⟩
theorem gj.nil{H:Hp}:gj H [] [] []:=⟨rfl,L8,JO _,(λ t h=>by cases h),λ t=>⟨(λ h=>by cases h),λ ⟨_,z,hz,_⟩=>by cases hz⟩⟩
theorem gj.get{H:Hp}{P:List (Int × Int)}{ks:List Int}{kvs:List (Key × V)}{q0:Addr}(h:gj H P ks kvs){t:Int}(ht:t ≠ 0)(h0:H q0=some (.tup [.int 0,.int 0])):∃ q,(di kvs (.inl t)).getD (.ref q0)=.ref q/\H q=some (.tup [.int (cI P t),.int (bD P t)]):=by
 by_cases hm:t∈ks
 ·obtain⟨q,h1,h2⟩:=h.v t hm;exact⟨q,by rw [h1];rfl,h2⟩
 ·have hno:∀ z∈P,¬ af z.1=t:=λ z hz e=>hm ((h.mem t).mpr ⟨ht,z,hz,e⟩);refine⟨q0,by rw [ef h.e1 hm];rfl,?_⟩;unfold cI bD;rw [dN hno,dN hno];exact h0
theorem gj.skip{H:Hp}{P:List (Int × Int)}{ks:List Int}{kvs:List (Key × V)}{z:Int × Int}(h:gj H P ks kvs)(hz:z.1=0):gj H (P++[z]) ks kvs:=by
 have h0:af z.1=0:=by rw [hz];rfl
 have hne:∀ t∈ks,¬ af z.1=t:=λ t ht e=>((h.mem t).mp ht).1 (by rw [←e];exact h0);refine⟨h.e1,h.nd,by rw [JU];have:=h.len;omega,λ t ht=>?_,λ t=>?_⟩
 ·obtain⟨q,h1,h2⟩:=h.v t ht;exact⟨q,h1,by rw [gw,ff,JQ (hne t ht),JQ (hne t ht),KD,KD];exact h2⟩
 ·rw [h.mem t];constructor
  ·rintro ⟨a,y,hy,e⟩;exact⟨a,y,KA _ hy,e⟩
  ·rintro ⟨a,y,hy,e⟩
   rcases Ke.mp hy with hy|hy
   ·exact⟨a,y,hy,e⟩
   ·rw [Kd.mp hy,h0] at e;exact absurd e.symm a
theorem gj.put{H:Hp}{P:List (Int × Int)}{ks:List Int}{kvs:List (Key × V)}{z:Int × Int}{tq:Addr}(h:gj H P ks kvs)(hz:z.1 ≠ 0)(ht:H tq=some (.tup [.int (cI P (af z.1)+loP z),.int (bD P (af z.1)+hiP z)])):∃ ks',gj H (P++[z]) ks' (cT kvs (.inl (af z.1)) (.ref tq)):=by
 have h0:af z.1 ≠ 0:=by unfold af;omega
 have hv:∀ t:Int,di (cT kvs (.inl (af z.1)) (.ref tq)) (.inl t)=if af z.1=t then some (.ref tq) else di kvs (.inl t):=λ t=>by
  rw [jU]
  by_cases e:af z.1=t
  ·rw [JR e,JR (by rw [e])]
  ·rw [JQ e,JQ (λ q=>e (by cases q;rfl))]
 have fin:∀ ks',(∀ t,t∈ks' ↔ t∈ks\/t=af z.1)->(cT kvs (.inl (af z.1)) (.ref tq)).map (·.1)=ks'.map (Sum.inl:Int->Key)->ks'.Nodup->ks'.length<=ks.length+1->gj H (P++[z]) ks' (cT kvs (.inl (af z.1)) (.ref tq)):=λ ks' hm a1 a3 a4=>by
  refine⟨a1,a3,by rw [JU,Kg];have:=h.len;omega,λ t ht'=>?_,λ t=>?_⟩
  ·rw [hv,gw,ff]
   by_cases e:af z.1=t
   ·rw [JR e,JR e,JR e,←e];exact⟨tq,rfl,ht⟩
   ·rw [JQ e,JQ e,JQ e,KD,KD];exact h.v t (((hm t).mp ht').resolve_right λ q=>e q.symm)
  ·rw [hm t,h.mem t];constructor
   ·rintro (⟨a,y,hy,e⟩|e)
    ·exact⟨a,y,KA _ hy,e⟩
    ·exact⟨by rw [e];exact h0,z,Kf _ JP,e.symm⟩
   ·rintro ⟨a,y,hy,e⟩
    rcases Ke.mp hy with hy|hy
    ·exact .inl ⟨a,y,hy,e⟩
    ·rw [Kd.mp hy] at e;exact .inr e.symm
 by_cases hm:af z.1∈ks
 ·obtain⟨q,h1,_⟩:=h.v _ hm;exact⟨ks,fin ks (λ t=>⟨.inl,λ q=>q.elim id λ e=>by rw [e];exact hm⟩) (by rw [g9 _ h1];exact h.e1) h.nd %[0|8]⟩
 ·refine⟨ks++[af z.1],fin _ (λ t=>by rw [Ke,Kd]) ?_ ?_ (by rw [JU];exact JO _)⟩
  ·rw [fF (ef h.e1 hm),h.e1,Lu];rfl
  ·rw [List.nodup_append];exact⟨h.nd,by simp,λ a ha b hb e=>hm (by rw [Kd] at hb;rw [←hb,←e];exact ha)⟩
theorem uh:∀ {l m:List Int},l.Nodup->m.Nodup->l.Pairwise (· >= ·)->m.Pairwise (· >= ·)->(∀ t,t∈l ↔ t∈m)->l=m
 | [],[],_,_,_,_,_=>rfl
 | [],b::m,_,_,_,_,h=>by have:=(h b).mpr JP;cases this
 | a::l,[],_,_,_,_,h=>by have:=(h a).mp JP;cases this
 | a::l,b::m,n1,n2,p1,p2,h=>by
  obtain⟨a1,a2⟩:=Kn.mp n1;obtain⟨b1,b2⟩:=Kn.mp n2;obtain⟨c1,c2⟩:=Mi.mp p1;obtain⟨d1,d2⟩:=Mi.mp p2
  have hab:a=b:=by
   rcases J9.mp ((h a).mp JP) with e|e
   ·exact e
   ·rcases J9.mp ((h b).mpr JP) with e'|e'
    ·exact e'.symm
    ·have x1:=d1 a e;have x2:=c1 b e';omega
  subst hab;congr 1;refine uh a2 b2 c2 d2 λ t=>⟨λ ht=>?_,λ ht=>?_⟩
  ·exact(J9.mp ((h t).mp (JN _ ht))).resolve_left λ e=>a1 (by rw [←e];exact ht)
  ·exact(J9.mp ((h t).mpr (JN _ ht))).resolve_left λ e=>b1 (by rw [←e];exact ht)
theorem iP.uniq{l m:List Int}{P:List (Int × Int)}(h1:iP l P)(h2:iP m P):l=m:=uh h1.nd h2.nd h1.ord h2.ord λ t=>(h1.mem t).trans (h2.mem t).symm
theorem km:∀ {A B:List (Int × Int)}{ys zs:List Int},InA A ys->InA B zs->InP (aj A B) (ys++zs)
 | [],[],[],[],_,_=>trivial
 | [],[],[],_::_,_,h=>h.elim
 | [],_::_,[],[],_,h=>h.elim
 | [],b::B,[],z::zs,h1,h2=>⟨h2.1,km (A:=[]) (ys:=[]) trivial h2.2⟩
 | [],_,_::_,_,h,_=>h.elim
 | _::_,_,[],_,h,_=>h.elim
 | a::A,B,y::ys,zs,h1,h2=>⟨h1.1,km h1.2 h2⟩
theorem gy:∀ {A B:List (Int × Int)}{ys zs:List Int},InA A ys->InA B zs->rP (aj A B) (ys++zs)=eB A ys - eB B zs
 | [],[],[],[],_,_=>rfl
 | [],[],[],_::_,_,h=>h.elim
 | [],_::_,[],[],_,h=>h.elim
 | [],b::B,[],z::zs,h1,h2=>by
  have ih:=gy (A:=[]) (ys:=[]) (B:=B) (zs:=zs) trivial h2.2
  show -b.2 * z+rP (aj [] B) ([]++zs)=0 - (b.2 * z+eB B zs)
  rw [ih,Int.neg_mul]
  show _+(0 - eB B zs)=_
  omega
 | [],_,_::_,_,h,_=>h.elim
 | _::_,_,[],_,h,_=>h.elim
 | a::A,B,y::ys,zs,h1,h2=>by
  have ih:=gy h1.2 h2
  show a.2 * y+rP (aj A B) (ys++zs)=a.2 * y+eB A ys - eB B zs
  rw [ih];omega
theorem jN:∀ {A B:List (Int × Int)}{xs:List Int},InP (aj A B) xs->InA A (xs.take A.length)/\InA B (xs.drop A.length)
 | [],[],[],_=>⟨trivial,trivial⟩
 | [],[],_::_,h=>h.elim
 | [],_::_,[],h=>h.elim
 | [],b::B,z::zs,h=>⟨trivial,h.1,(jN (A:=[]) (B:=B) (xs:=zs) h.2).2⟩
 | _::_,_,[],h=>h.elim
 | a::A,B,y::xs,h=>⟨⟨h.1,(jN h.2).1⟩,(jN h.2).2⟩
def sgP(sg:Int)(a:Int × Int):Int × Int:=(sg * (aF a).2,a.1)
theorem ng(A B:List (Int × Int)):aj (A.map aF) (B.map aF)=A.map (sgP 1)++B.map (sgP (-1)):=by
 unfold aj;rw [map_map,map_map];congr 1
 ·refine Le λ a _=>?_
  show ((aF a).2,a.1)=(1 * (aF a).2,a.1)
  rw [Int.one_mul]
 ·refine Le λ a _=>?_
  show (-(aF a).2,a.1)=(-1 * (aF a).2,a.1)
  rw [Int.neg_one_mul]
abbrev jx  (p:Addr) (q:Addr) (H:Hp) (Q:VK) (E:XK):Prop:=∃ A B:List (Int × Int),cU H p A/\cU H q B/\A.length<=8/\B.length<=8/\(∀ a∈A,(1:Int)<=a.1)/\(∀ a∈B,(1:Int)<=a.1)/\∀ (ks:List Int) (r:Addr) (H':Hp),Ext H H'->gg H' r (ag ks (aj (A.map aF) (B.map aF)))->iP ks (aj (A.map aF) (B.map aF))->Q (.ref r) H'
def jZ  : Sp:=λ vs H Q E=>∃ (p:Addr) (q:Addr),vs=[.ref p,.ref q]/\(jx  p q H Q E)
theorem js  (p:Addr) (q:Addr) (H:Hp) (Q:VK) (E:XK):jZ  [.ref p,.ref q] H Q E=(jx  p q H Q E):=rH (f:=λ (p:Addr) (q:Addr)=>[.ref p,.ref q]) (λ _ _ _ _ h=>by cases h;exact⟨rfl,rfl⟩) p q
theorem qL  {vs:List V}{H:Hp}{Q:VK}{E:XK}(h:jZ  vs H Q E):vs.length=2:=rL h λ _ _=>rfl
theorem fh(T:Tx K mg t):bC P w K mg base CX0 1 t.a__law_terms t.d__law_terms ["_law_one", "_law_other"] jZ:=by
 refine T.F__law_terms.ok aO (λ vs H Q E h=>qL h) (λ cdv A' outer s H vs Q E hr h=>?_)
 ·obtain⟨p,q,rfl,A,B,pA,pB,hA,hB,sA,sB,k⟩:=h;refine⟨_,%[(@gH _ _ (2) _ _ _ _ aO.nd rfl (Or.inr rfl) (@gq _ _) ∅ %[0|7]),%[%[Ki,rfl,%[%[%[%[%[%[0|0],%[%[0|2]|1]|1]|18],%[%[%[%[1|0],%[(@zL _ _ _ _ _ _ mU %[0|2])|1]|1]|18]|1]|1]|23]|24],(%[(2),rfl,%[%[3,aO|5],%[%[4,aO|5],(@aA _),∅|15],∅|15],∅,∅|21].mono λ _ _ _ _ h=>aX h),%[%[Ki,rfl,%[%[3|0]|24],(%[(2),rfl,%[%[5,aO|5],%[%[6,aO|5],(@aA _),∅|15],∅|15],∅,∅|21].mono λ _ _ _ _ h=>aX h),%[%[(PW.pt %[%[cW,%[5|0],%[0|2],(ae _)|14],%[%[(ck hr.units),%[6|0],%[0|2],(ae _)|14]|35]|32]),%[%[%[(cw hr.units),%[2|0],%[abs,bQ,%[%[6|0]|1]|6],%[%[%[0|2],%[%[0|2]|1]|1]|18],⟨by rfl,by rfl,by rfl,by rfl⟩|43],(%[(2),rfl,%[%[7,aO|5],%[%[8,aO|5],(@aA _),∅|15],∅|15],∅,∅|21].mono λ _ _ _ _ h=>aX h),∅,∅,∅|37],%[%[%[cW,%[aW,%[6|0],%[4|0]|9],%[0|2],(ae _)|14],%[%[(cw hr.units),%[2|0],%[abs,bQ,%[%[6|0]|1]|6],%[%[%[7|0],%[%[aE,%[aD,%[8|0],%[5|0]|9],%[0|2]|9]|1]|1]|18],rfl|40]|12],%[%[(cw hr.units),%[2|0],%[abs,bQ,%[%[6|0]|1]|6],%[%[%[aD,%[aE,%[7|0],%[5|0]|9],%[0|2]|9],%[%[8|0]|1]|1]|18],rfl|40]|12]|16]|12]|11],(@ao _)|16]|12],(by intros;rfl)|33]|12],(by intros;rfl)|33],%[%[(["_law_times", "_law_one", "_law_other", "_law_ranges", "_law_axes", "_law_sign", "_law_size_here", "_law_pace", "_law_low", "_law_high", "_law_found"]),(1),(9),_,aO.nd,rfl,(Or.inl rfl),(aG (aa cz) ["_law_one", "_law_other", "_law_ranges", "_law_axes", "_law_sign", "_law_size_here", "_law_pace", "_law_low", "_law_high", "_law_found"] rfl rfl nofun),rfl,%[%[sorted,(qZ rfl),%[%[2|0]|1]|6]|24],(λ C s₀ H₀ ex pn=>%[(0),_,(show List.Nodup (["_law_times", "_law_one", "_law_other", "_law_ranges", "_law_axes", "_law_sign", "_law_size_here", "_law_pace", "_law_low", "_law_high", "_law_found"]:List Str) from by decide +kernel),rfl,(Or.inl rfl),%[0|7]|17]),(λ C s₀ H₀ ex pn=>(@aM _)),(λ C s₀ H₀ ex pn=>%[xo,%[%[%[0|0]|1]|18],(@nk _ _ _ _ _ _ (cw hr.units) %[3|0] %[0|0] (λ _ _=>rfl))|9]),∅,(by intros;rfl),%[0|7]|44],%[(@dJ _ _ _ _ (@oF _ _ _ _ _ _ _ _ _ Kc PySem.F.slot_list_reverse PySem.F.type_list_reverse qq %[9|0] ∅ ∅) ∅),%[%[%[9|0]|13]|12]|11]|11]|11]|11],?_⟩;rw [show start ["_law_one", "_law_other", "_law_ranges", "_law_axes", "_law_sign", "_law_size_here", "_law_pace", "_law_low", "_law_high", "_law_found"] [.ref p,.ref q]=[some (.ref p),some (.ref q),none,none,none,none,none,none,none,none] from rfl];rw [ng] at k;exists k;exists sA;exists sB;ac_rfl;intro d H1 hd1 e1 h1;have hd0:=hd1;ac_rfl;intro t1 H2 _ e2 h2;ac_rfl;intro t2 H3 _ e3 h3;have h2_3:=e3.at h2;ac_rfl;intro l4 H4 hl4 e4 h4;have nl:l4 ≠ d:=λ z=>by rw [z,(e2.trans e3).at h1] at hl4;cases hl4
  have e04:=e1.trans (e2.trans (e3.trans e4));have h1_4:=(e2.trans (e3.trans e4)).at h1;have ht1:=e4.at h2_3;have ht2:=e4.at h3;clear hd1 hl4 h1 h2 h2_3 h3 e1 e2 e3 e4;ac_rfl;refine dM (xs:=[.ref t1,.ref t2]) (λ i σ H'=>∃ (ks:List Int) (kvs:List (Key × V)) (v3 v4 v5 v6 v7 v8:Option V),σ=[some (.ref p),some (.ref q),some (.ref d),v3,v4,v5,v6,v7,v8,none]/\Ext H H'/\(∀ b o,b ≠ d->H4 b=some o->H' b=some o)/\H' d=some (.dK kvs)/\gj H' (if i=0 then [] else if i=1 then A.map (sgP 1) else A.map (sgP 1)++B.map (sgP (-1))) ks kvs) ⟨[],[],none,none,none,none,none,none,rfl,e04,λ _ _ _ h=>h,h1_4,gj.nil⟩ (λ i σ H' _ ⟨_,_,_,_,_,_,_,_,_,_,kp,_⟩=>kp l4 _ nl h4) ?_ ?_
  ·rintro i y _ H5 hi ⟨ks,kvs,v3,v4,v5,v6,v7,v8,rfl,e5,kp,h5d,ri⟩
   obtain⟨tq,axp,Ax,sg,P0,hy,htq,pX,hX8,hX1,hsg,hP8,hP0,hP1⟩:∃ (tq axp:Addr) (Ax:List (Int × Int)) (sg:Int) (P0:List (Int × Int)),y=.ref tq/\H4 tq=some (.tup [.ref axp,.int sg])/\cU H axp Ax/\Ax.length<=8/\(∀ a∈Ax,(1:Int)<=a.1)/\(sg=1\/sg=-1)/\P0.length<=8/\(if i=0 then [] else if i=1 then A.map (sgP 1) else A.map (sgP 1)++B.map (sgP (-1)))=P0/\(if i+1=0 then [] else if i+1=1 then A.map (sgP 1) else A.map (sgP 1)++B.map (sgP (-1)))=P0++Ax.map (sgP sg):=by
    match i,hi with
    | 0,hi=>cases hi;exact⟨t1,p,A,1,[],rfl,ht1,pA,hA,sA (),.inl rfl,by decide,rfl,rfl⟩
    | 1,hi=>cases hi;exact⟨t2,q,B,-1,A.map (sgP 1),rfl,ht2,pB,hB,sB (),.inr rfl,by rw [JT];exact hA,rfl,rfl⟩
    | i+2,hi=>simp at hi
   subst hy;rw [hP0] at ri;rw [hP1];have ht5:=kp tq _ (λ e=>by rw [e,h1_4] at htq;cases htq) htq;obtain⟨ts,hax,alX⟩:=pX;have hax5:=e5.at hax;have htl:ts.length=Ax.length:=alX.1;exists alX;exists htl;exists hX1;have ini:gj H5 (P0++(Ax.map (sgP sg)).take 0) ks kvs:=by rw [List.take_zero,K5];exact ri
   exists ini;clear hi hP0 hP1 ri htq k pA pB ht1 ht2 h4;simp! only [↓aQ];refine dM (xs:=ts) (λ j σ H'=>∃ (ks:List Int) (kvs:List (Key × V)) (v5 v6 v7 v8:Option V),σ=[some (.ref p),some (.ref q),some (.ref d),some (.ref axp),some (.int sg),v5,v6,v7,v8,none]/\Ext H H'/\(∀ b o,b ≠ d->H4 b=some o->H' b=some o)/\H' d=some (.dK kvs)/\gj H' (P0++(Ax.map (sgP sg)).take j) ks kvs) ⟨ks,kvs,_,_,_,_,rfl,e5,kp,h5d,ini ()⟩ (λ j σ H' _ ⟨_,_,_,_,_,_,_,e,_⟩=>e.at hax) ?_ ?_
   ·clear ini h5d e5 kp ht5 hax5;rintro j y _ H6 hj ⟨ks,kvs,v5,v6,v7,v8,rfl,e6,kp,h6d,ri⟩;have hjA:j < Ax.length:=by have:=(JM.mp hj).1;have:=htl ();omega
    obtain⟨aq,rfl,haq⟩:=(alX ()).2 j Ax[j] y (JJ hjA) hj;have ha6:=e6.at haq;have hsz:=hX1 () Ax[j] (KQ hjA)
    have htk:(Ax.map (sgP sg)).take (j+1)=(Ax.map (sgP sg)).take j++[sgP sg Ax[j]]:=by
     rw [Ln,J5,JJ hjA];rfl
    rw [htk,←Lw];have hPl:(P0++(Ax.map (sgP sg)).take j).length<=16:=by rw [JU,KN,JT];omega
    generalize P0++(Ax.map (sgP sg)).take j=PP at *;have lk:kvs.length < sizeLine:=fR (by have:=KC List.length ri.e1;have:=ri.len;rw [JT,JT] at *;omega);generalize Ax[j]=a at *;clear hj htk haq
    by_cases hs1:1 < a.1
    ·have hkp:(aF a).2=a.2:=by unfold aF;rw [if_pos hs1]
     by_cases hp0:a.2=0
     ·have rs:=λ (_:Unit)=>ri.skip (z:=sgP sg a) (by show sg * (aF a).2=0;rw [hkp,hp0,KO]);clear ri hkp;simp! only [↓aQ];exact⟨ks,kvs,_,_,_,_,rfl,e6,kp,rfl,rs ()⟩
     obtain⟨z,hz⟩:∃ z,sgP sg a=z:=⟨_,rfl⟩;have hz1:z.1=sg * a.2:=by rw [←hz];show sg * (aF a).2=_;rw [hkp]
     have hz2:z.2=a.1:=by rw [←hz];rfl
     have hz0:z.1 ≠ 0:=by rw [hz1];rcases hsg with rfl|rfl<;>omega
     have hab0:af z.1 ≠ 0:=by unfold af;omega
     have habs:(if a.2 < 0 then -a.2 else a.2)=af z.1:=by
      unfold af;rw [hz1];rcases hsg with rfl|rfl<;>split<;>omega
     have hsgn:(0 < a.2 * sg ↔ 0 < z.1):=by rw [hz1,L4]
     rw [hz];have cm:iQ a.2 sg:=.inr ⟨by rcases hsg with rfl|rfl<;>decide,by rcases hsg with rfl|rfl<;>decide⟩;exists ri;exists hz1;exists hz2;exists hz;exists hsgn;exists hkp;simp! only [↓aQ];refine eF h6d ?_;ac_rfl;intro q0 H8 _ e8 h8;have h8d:=e8.at h6d;have e08:=e6.trans e8;obtain⟨qv,hgv,hqv⟩:=((ri ()).ext e8).get hab0 h8;have ri8:=λ (_:Unit)=>(ri ()).ext e8;have kp8:=λ (_:Unit)=>λ b o (x1:b ≠ d) (h:H4 b=some o)=>e8.at (kp b o x1 h);clear ha6 h6d kp e6;ac_rfl;refine gG (k:=.inl (af z.1)) h8d ?_;rw [hgv];clear hgv
     by_cases hpos:0 < a.2 * sg
     ·have hzp:=(hsgn ()).mp hpos;have hlo:loP z=0:=by unfold loP;rw [if_pos hzp]
      have hhi:hiP z=a.1 - 1:=by unfold hiP;rw [if_pos hzp,hz2 ()]
      exists hlo;exists hhi;clear hzp;ac_rfl;intro t9 H9 ht9 e9 h9;have h9d:=e9.at h8d;obtain⟨ks',rn⟩:=((ri8 ()).ext e9).put (z:=z) (tq:=t9) hz0 (by rw [h9,hlo (),hhi (),KD,Int.add_sub_assoc]);have ru:=λ (_:Unit)=>gj.upd (o:=.dK (cT kvs (.inl (af z.1)) (.ref t9))) rn h9d;clear rn ht9 ri8 h8d ri;ac_rfl;refine fP (k:=.inl (af z.1)) h9d lk ?_;exact⟨ks',_,_,_,_,_,rfl,(e08.trans e9).put hd0,λ b o x1 h=>by rw [ah x1];exact e9.at (kp8 () b o x1 h),ai,ru ()⟩
     ·have hzp:¬ 0 < z.1:=λ h=>hpos ((hsgn ()).mpr h);have hlo:loP z=1 - a.1:=by unfold loP;rw [if_neg hzp,hz2 ()]
      have hhi:hiP z=0:=by unfold hiP;rw [if_neg hzp]
      exists hlo;exists hhi;clear hzp;ac_rfl;intro t9 H9 ht9 e9 h9;have h9d:=e9.at h8d;obtain⟨ks',rn⟩:=((ri8 ()).ext e9).put (z:=z) (tq:=t9) hz0 (by rw [h9,hlo (),hhi (),KD,show cI PP (af z.1) - a.1+1=cI PP (af z.1)+(1 - a.1) by omega]);have ru:=λ (_:Unit)=>gj.upd (o:=.dK (cT kvs (.inl (af z.1)) (.ref t9))) rn h9d;clear rn ht9 ri8 h8d ri;ac_rfl;refine fP (k:=.inl (af z.1)) h9d lk ?_;exact⟨ks',_,_,_,_,_,rfl,(e08.trans e9).put hd0,λ b o x1 h=>by rw [ah x1];exact e9.at (kp8 () b o x1 h),ai,ru ()⟩
    ·have hkp:(aF a).2=0:=by unfold aF;rw [if_neg hs1]
     have rs:=λ (_:Unit)=>ri.skip (z:=sgP sg a) (by show sg * (aF a).2=0;rw [hkp,KO]);clear ri hkp;simp! only [↓aQ];exact⟨ks,kvs,_,_,_,_,rfl,e6,kp,rfl,rs ()⟩
   ·rintro _ H6 ⟨ks,kvs,v5,v6,v7,v8,rfl,e6,kp,h6d,ri⟩;rw [htl (),KH (by rw [JT];exact JO _)] at ri;exact⟨ks,kvs,_,_,_,_,_,_,rfl,e6,kp,h6d,ri⟩
  ·rintro _ H5 ⟨ks,kvs,v3,v4,v5,v6,v7,v8,rfl,e5,kp,h5d,ri⟩;have ri':gj H5 (A.map (sgP 1)++B.map (sgP (-1))) ks kvs:=ri;have hPl:(A.map (sgP 1)++B.map (sgP (-1))).length<=16:=by rw [JU,JT,JT];omega
   generalize A.map (sgP 1)++B.map (sgP (-1))=P' at *;have hk1:ks.length < 64:=by have:=ri'.len;omega
   exists ri';clear ri kp h4 h1_4 ht1 ht2 pA pB e04;ac_rfl;refine Ao h5d (ri' ()).e1 hk1 λ ms hpm hord=>?_;intro q6 H6 hq6 e6 h6;have h6d:=e6.at h5d;have ri6:=λ (_:Unit)=>(ri' ()).ext e6;have hms:ms.length<=64:=by rw [hpm.length_eq];omega
   exists hpm;exists hord;clear hq6;ac_rfl;have wk:=ow (K:=K) h6;refine cZ (ms.map V.int) (λ _=>true) (λ z x H'=>x=z/\H' q6=some (.lst (ms.map V.int))) (λ D z y H'=>trP (vi z,cI P' (vi z),bD P' (vi z)) y H') wk.1 wk.2 (λ D z y H1 H2 h e=>trP.ext (z:=(vi z,cI P' (vi z),bD P' (vi z))) h e) (λ D z y H1 xs o h hD=>trP.upd (z:=(vi z,cI P' (vi z),bD P' (vi z))) h hD) (ay (by rw [JT];omega)) ?_ ?_
   ·intro D z y H' N1 N0 hz hD e _ ⟨hy,_⟩ kx _;subst hy;obtain⟨t',ht',rfl⟩:=J8.mp hz;obtain⟨qv,w1,w2⟩:=((ri6 ()).ext e).v t' ((hpm ()).mem_iff.mp ht');have k1':=kx rfl;have a1:=e.at h6d;clear kx k hz wk;simp! only [↓bE,↓aN];intro t9 H9 _ e9 h9;have a19:=e9.at a1;have w29:=e9.at w2;clear a1 w2;ac_rfl;refine sC (k:=.inl t') a19 w1 ?_;ac_rfl;rw [Dy];refine⟨ay (by simp),λ g H10 e10 h10=>?_⟩;exact k1' _ H10 (e9.trans e10) ⟨g,rfl,h10⟩
   ·intro D zs H7 hD e7 h7 al7;rw [iO] at al7;have hD0:H D=none:=(e5.trans e6).free hD
    have al8:Al (λ z y=>trP z y H7) (ag ms P') zs:=by
     refine⟨by rw [al7.1];unfold ag;rw [length_map,length_map],λ i z y hz hy=>?_⟩;unfold ag at hz;rw [getElem?_map] at hz;obtain⟨t',ht',rfl⟩:=Option.map_eq_some_iff.mp hz;exact al7.2 i (.int t') y (by rw [getElem?_map,ht'];rfl) hy
    have al9:Al (λ z y=>trP z y H7) (ag ms.reverse P') zs.reverse:=by
     have e1:ag ms.reverse P'=(ag ms P').reverse:=by unfold ag;rw [List.map_reverse]
     rw [e1];refine⟨by rw [Lf,Lf];exact al8.1,λ i z y hz hy=>?_⟩;have hi:i < (ag ms P').length:=by have:=(JM.mp hz).1;rw [Lf] at this;exact this
     rw [List.getElem?_reverse hi] at hz;rw [List.getElem?_reverse (by rw [al8.1];exact hi),al8.1] at hy;exact al8.2 _ z y hz hy
    have ko:iP ms.reverse P':=⟨(List.reverse_perm ms).nodup_iff.mpr ((hpm ()).nodup_iff.mpr (ri' ()).nd),by rw [Lf,(hpm ()).length_eq];exact(ri' ()).len,λ t'=>by rw [List.mem_reverse];exact(hpm ()).mem_iff.trans ((ri' ()).mem t'),List.pairwise_reverse.mpr (hord ())⟩;have fin:=k () ms.reverse D (upd H7 D (.lst zs.reverse)) ((e5.trans (e6.trans e7)).put hD0) ⟨_,ai,al9.imp λ _ _ t=>trP.upd t h7⟩ ko;clear al7 al8 al9 wk ko k hD;ac_rfl
def mQ(A B:List (Int × Int))(g:Int):Prop:=∃ ys zs,InA A ys/\InA B zs/\eB A ys=g+eB B zs
theorem mQ.swap{A B:List (Int × Int)}{g:Int}:mQ B A (0 - g) ↔ mQ A B g:=
 ⟨λ ⟨ys,zs,h1,h2,e⟩=>⟨zs,ys,h2,h1,by omega⟩,λ ⟨ys,zs,h1,h2,e⟩=>⟨zs,ys,h2,h1,by omega⟩⟩
theorem gS(x:Int):0<=af x:=by unfold af;omega
def axW(a:Int × Int):Int:=af a.2 * (a.1 - 1)
def wS:List (Int × Int)->Int
 | []=>0
 | a::A=>axW a+wS A
def wLt(t:Int):List (Int × Int)->Int
 | []=>0
 | a::A=>(if af a.2 < t then axW a else 0)+wLt t A
theorem sy:∀ A B:List (Int × Int),wS (A++B)=wS A+wS B
 | [],B=>(Kv _).symm
 | a::A,B=>by show axW a+wS (A++B)=axW a+wS A+wS B;rw [sy A B];omega
theorem mS(t:Int):∀ A B:List (Int × Int),wLt t (A++B)=wLt t A+wLt t B
 | [],B=>(Kv _).symm
 | a::A,B=>by show _+wLt t (A++B)=_+wLt t A+wLt t B;rw [mS t A B];omega
theorem tK{a:Int × Int}(h:1<=a.1):0<=axW a:=L9 (gS _) %[0|8]
theorem iU:∀ {A:List (Int × Int)},(∀ a∈A,1<=a.1)->0<=wS A
 | [],_=>Kb _
 | a::A,h=>by
  have:=tK (h a JP);have:=iU λ b hb=>h b (JN _ hb)
  show 0<=axW a+wS A;omega
theorem gM:∀ {A:List (Int × Int)},(∀ a∈A,2<=a.1)->∀ a∈A,af a.2<=wS A
 | a::A,h,b,hb=>by
  have hA:∀ x∈A,(2:Int)<=x.1:=λ x hx=>h x (JN _ hx);have h2:=h a JP;have n1:=iU (A:=A) λ x hx=>by have:=hA x hx;omega
  have n2:=tK (a:=a) %[0|8]
  show af b.2<=axW a+wS A
  rcases J9.mp hb with rfl|hb
  ·have:=J4 (show 1<=b.1 - 1 by omega) (gS b.2);have e:axW b=af b.2 * (b.1 - 1):=rfl;omega
  ·have:=gM hA b hb;omega
theorem mT{t:Int}:∀ {A:List (Int × Int)},(∀ a∈A,af a.2 < t)->wLt t A=wS A
 | [],_=>rfl
 | a::A,h=>by
  show (if af a.2 < t then axW a else 0)+wLt t A=axW a+wS A
  rw [JR (h a JP),mT λ b hb=>h b (JN _ hb)]
theorem eX{t:Int}:∀ {A:List (Int × Int)},(∀ a∈A,t<=af a.2)->wLt t A=0
 | [],_=>rfl
 | a::A,h=>by
  show (if af a.2 < t then axW a else 0)+wLt t A=0
  rw [JQ (by have:=h a JP;omega),eX λ b hb=>h b (JN _ hb)];rfl
structure AxN(A:List (Int × Int)):Prop where
 len:A.length<=8
 sz:∀ a∈A,(2<=a.1/\a.1<=1000)/\a.2 ≠ 0
theorem AxN.kept{A:List (Int × Int)}(h:AxN A):A.map aF=A:=by
 refine(Le λ a ha=>?_).trans (List.map_id A)
 show (a.1,if a.1 > 1 then a.2 else 0)=a
 rw [JR (by have:=(h.sz a ha).1;omega)]
theorem AxN.axes{A:List (Int × Int)}(h:AxN A):mK A:=⟨h.len,λ a ha=>by have:=(h.sz a ha).1;omega⟩
def Dx(A B:List (Int × Int)):Prop:=∀ a,a∈A\/a∈B->wLt (af a.2) A+wLt (af a.2) B < af a.2
structure gE(A B:List (Int × Int))(g be:Int):Prop where
 kA:AxN A
 kB:AxN B
 wd:wS A+wS B=be
 le:be<=100000000000000000
 fall:Dx A B
 meet:mQ A B g
theorem InA.app:∀ {A A1:List (Int × Int)}{ys ys1:List Int},InA A ys->InA A1 ys1->InA (A++A1) (ys++ys1)/\eB (A++A1) (ys++ys1)=eB A ys+eB A1 ys1
 | [],_,[],_,_,h=>⟨h,(Kv _).symm⟩
 | [],_,_::_,_,h,_=>h.elim
 | _::_,_,[],_,h,_=>h.elim
 | a::A,A1,y::ys,ys1,h,h1=>by
  obtain⟨i1,i2⟩:=InA.app h.2 h1;refine⟨⟨h.1,i1⟩,?_⟩
  show a.2 * y+eB (A++A1) (ys++ys1)=a.2 * y+eB A ys+eB A1 ys1
  rw [i2];omega
theorem gE.start:gE [] [] 0 0:=⟨⟨by decide,λ a h=>by cases h⟩,⟨by decide,λ a h=>by cases h⟩,rfl,by decide,(λ a h=>by rcases h with h|h<;>cases h),[],[],trivial,trivial,rfl⟩
theorem gE.nn{A B:List (Int × Int)}{g be:Int}(h:gE A B g be):0<=wS A/\0<=wS B/\0<=be:=by
 have a:=iU (A:=A) λ a ha=>by have:=(h.kA.sz a ha).1;omega
 have b:=iU (A:=B) λ a ha=>by have:=(h.kB.sz a ha).1;omega
 have:=h.wd;omega
theorem gE.add{A B A1 B1:List (Int × Int)}{g be t g' be':Int}{ys1 zs1:List Int}(h:gE A B g be)(ht:be < t)(hA1:∀ a∈A1,af a.2=t/\2<=a.1/\a.1<=1000)(hB1:∀ a∈B1,af a.2=t/\2<=a.1/\a.1<=1000)(lA:A.length+A1.length<=8)(lB:B.length+B1.length<=8)(iA:InA A1 ys1)(iB:InA B1 zs1)(hbe:be+(wS A1+wS B1)=be')(hle:be'<=100000000000000000)(hg:g+eB A1 ys1 - eB B1 zs1=g'):gE (A++A1) (B++B1) g' be':=by
 obtain⟨n1,n2,n3⟩:=h.nn;have t0:t ≠ 0:=by omega
 have nz:∀ {p:Int},af p=t->p ≠ 0:=λ e q=>t0 (by rw [←e,q];rfl)
 have oA:∀ a∈A,af a.2 < t:=λ a ha=>by
  have:=gM (λ a ha=>(h.kA.sz a ha).1.1) a ha;have:=h.wd;omega
 have oB:∀ a∈B,af a.2 < t:=λ a ha=>by
  have:=gM (λ a ha=>(h.kB.sz a ha).1.1) a ha;have:=h.wd;omega
 refine⟨⟨by rw [JU];exact lA,λ a ha=>?_⟩,⟨by rw [JU];exact lB,λ a ha=>?_⟩,?_,hle,λ a ha=>?_,?_⟩
 ·rcases Ke.mp ha with ha|ha
  ·exact h.kA.sz a ha
  ·exact⟨(hA1 a ha).2,nz (hA1 a ha).1⟩
 ·rcases Ke.mp ha with ha|ha
  ·exact h.kB.sz a ha
  ·exact⟨(hB1 a ha).2,nz (hB1 a ha).1⟩
 ·rw [sy,sy];have:=h.wd;omega
 ·rw [mS,mS]
  have old:af a.2 < t->(a∈A\/a∈B)->wLt (af a.2) A+wLt (af a.2) A1+(wLt (af a.2) B+wLt (af a.2) B1) < af a.2:=λ hlt hm=>by
   rw [eX (A:=A1) λ b hb=>by have:=(hA1 b hb).1;omega,eX (A:=B1) λ b hb=>by have:=(hB1 b hb).1;omega];have:=h.fall a hm;omega
  have new:af a.2=t->wLt (af a.2) A+wLt (af a.2) A1+(wLt (af a.2) B+wLt (af a.2) B1) < af a.2:=λ e=>by
   rw [e,mT oA,mT oB,eX (A:=A1) λ b hb=>by have:=(hA1 b hb).1;omega,eX (A:=B1) λ b hb=>by have:=(hB1 b hb).1;omega];have:=h.wd;omega
  rcases ha with ha|ha
  ·rcases Ke.mp ha with ha|ha
   ·exact old (oA a ha) (.inl ha)
   ·exact new (hA1 a ha).1
  ·rcases Ke.mp ha with ha|ha
   ·exact old (oB a ha) (.inr ha)
   ·exact new (hB1 a ha).1
 ·obtain⟨ys,zs,m1,m2,m3⟩:=h.meet;obtain⟨p1,p2⟩:=InA.app m1 iA;obtain⟨p3,p4⟩:=InA.app m2 iB;exact⟨_,_,p1,p3,by rw [p2,p4];omega⟩
theorem Ai:∀ {A:List (Int × Int)}{ys:List Int},InA A ys->-wS A<=eB A ys/\eB A ys<=wS A
 | [],[],_=>by decide
 | [],_::_,h=>h.elim
 | _::_,[],h=>h.elim
 | a::A,y::ys,h=>by
  have ih:=Ai h.2;have hy:=h.1;have e:axW a=af a.2 * (a.1 - 1):=rfl;have m:=Int.mul_le_mul_of_nonneg_left (show y<=a.1 - 1 by omega) (gS a.2);have p1:=Int.mul_le_mul_of_nonneg_right (show a.2<=af a.2 by unfold af;omega) (show 0<=y by omega);have p2:=Int.mul_le_mul_of_nonneg_right (show -af a.2<=a.2 by unfold af;omega) (show 0<=y by omega);rw [Int.neg_mul] at p2
  show -(axW a+wS A)<=a.2 * y+eB A ys/\a.2 * y+eB A ys<=axW a+wS A
  omega
def pW(t:Int):List (Int × Int)->Int
 | []=>0
 | z::P=>(if af z.1 < t then af z.1 * (z.2 - 1) else 0)+pW t P
def pM(l:List Int):List (Int × Int)->Int
 | []=>0
 | z::P=>(if af z.1∈l then af z.1 * (z.2 - 1) else 0)+pM l P
def sT(l:List Int)(f:Int->Int):Int:=l.foldr (λ t r=>t * f t+r) 0
theorem tO{P:List (Int × Int)}{z:Int × Int}:∀ {l:List Int},l.Nodup->sT l (fm (z::P))=(if af z.1∈l then af z.1 * (z.2 - 1) else 0)+sT l (fm P)
 | [],_=>rfl
 | t::l,h=>by
  obtain⟨h1,h2⟩:=Kn.mp h;have ih:=tO (P:=P) (z:=z) h2
  show t * fm (z::P) t+sT l (fm (z::P))=_+(t * fm P t+sT l (fm P))
  rw [ih,eh,K9]
  by_cases e:af z.1=t
  ·subst e;rw [JR rfl,JQ h1,JR JP];omega
  ·rw [JQ e,KO]
   by_cases hm:af z.1∈l
   ·rw [JR hm,JR (JN _ hm)];omega
   ·rw [JQ hm,JQ (λ q=>by rcases J9.mp q with q|q;exact e q;exact hm q)];omega
theorem Ik{l:List Int}(h:l.Nodup):∀ P:List (Int × Int),sT l (fm P)=pM l P
 | []=>by
  have:∀ l:List Int,sT l (fm [])=0:=λ l=>by
   induction l with
   | nil=>rfl
   | cons t l ih=>show t * 0+sT l (fm [])=0;rw [ih,KO];rfl
  exact this l
 | z::P=>by rw [tO h,Ik h P];rfl
theorem oT(P:List (Int × Int)):∀ l:List Int,kY (ag l P)=sT l (fm P)
 | []=>rfl
 | t::l=>by
  show t * (bD P t - cI P t)+kY (ag l P)=t * fm P t+sT l (fm P)
  rw [gx,oT P l]
theorem Dd{t:Int}{l:List Int}(hl:∀ u∈l,u < t):∀ {P:List (Int × Int)},(∀ z∈P,1<=z.2)->pM l P<=pW t P
 | [],_=>Kb _
 | z::P,h=>by
  have ih:=Dd hl (P:=P) λ y hy=>h y (JN _ hy);have n:=L9 (gS z.1) (show 0<=z.2 - 1 by have:=h z JP;omega)
  show (if af z.1∈l then af z.1 * (z.2 - 1) else 0)+pM l P<=(if af z.1 < t then af z.1 * (z.2 - 1) else 0)+pW t P
  by_cases hm:af z.1∈l
  ·rw [JR hm,JR (hl _ hm)];omega
  ·rw [JQ hm];split<;>omega
theorem jn{P:List (Int × Int)}(hP:∀ z∈P,(1:Int)<=z.2)(hf:∀ z∈P,z.1 ≠ 0->pW (af z.1) P < af z.1):∀ {ks:List Int},ks.Nodup->ks.Pairwise (· >= ·)->(∀ t∈ks,t ≠ 0/\∃ z∈P,af z.1=t)->sv (ag ks P)
 | [],_,_,_=>trivial
 | t::l,hn,ho,hk=>by
  obtain⟨h1,h2⟩:=Kn.mp hn;obtain⟨o1,o2⟩:=Mi.mp ho;refine⟨?_,jn hP hf h2 o2 λ u hu=>hk u (JN _ hu)⟩;obtain⟨t0,z,hz,e⟩:=hk t JP
  show kY (ag l P) < t
  rw [oT,Ik h2]
  have a:=Dd (t:=t) (l:=l) (λ u hu=>by
   have:=o1 u hu;have:u ≠ t:=λ q=>h1 (by rw [←q];exact hu);omega) hP
  have b:=hf z hz (λ q=>t0 (by rw [←e,q];rfl));rw [e] at b;omega
theorem sY{sg:Int}(hs:sg=1\/sg=-1)(t:Int):∀ A:List (Int × Int),pW t (A.map λ a=>(sg * a.2,a.1))=wLt t A
 | []=>rfl
 | a::A=>by
  have e:af (sg * a.2)=af a.2:=by unfold af;rcases hs with rfl|rfl<;>omega
  show (if af (sg * a.2) < t then af (sg * a.2) * (a.1 - 1) else 0)+pW t (A.map λ a=>(sg * a.2,a.1))=(if af a.2 < t then axW a else 0)+wLt t A
  rw [e,sY hs t A];rfl
theorem zh(t:Int):∀ P Q:List (Int × Int),pW t (P++Q)=pW t P+pW t Q
 | [],Q=>(Kv _).symm
 | z::P,Q=>by show _+pW t (P++Q)=_+pW t P+pW t Q;rw [zh t P Q];omega
theorem DM(t:Int)(A B:List (Int × Int)):pW t (aj A B)=wLt t A+wLt t B:=by
 unfold aj;rw [zh];have e1:(A.map λ a=>(a.2,a.1))=A.map λ a=>(1 * a.2,a.1):=map_congr_left λ a _=>by rw [Int.one_mul]
 have e2:(B.map λ a=>(-a.2,a.1))=B.map λ a=>(-1 * a.2,a.1):=Le λ a _=>by rw [Int.neg_one_mul]
 rw [e1,e2,sY (.inl rfl),sY (.inr rfl)]
theorem gT:∀ l:List (Int × Int),(∀ a∈l,(1:Int)<=a.1)->bG (l.map aF)=bG l/\bH (l.map aF)=bH l
 | [],_=>⟨rfl,rfl⟩
 | a::r,h=>by
  obtain⟨i1,i2⟩:=gT r λ b hb=>h b (JN _ hb);have ha:=h a JP
  have e:((aF a).1 - 1) * (aF a).2=(a.1 - 1) * a.2:=by
   show (a.1 - 1) * (if a.1 > 1 then a.2 else 0)=_
   split
   ·rfl
   ·have:a.1=1:=by omega
    rw [this];simp
  rw [Km,eQ,eS,eQ,eS,e,i1,i2];exact⟨rfl,rfl⟩
theorem tJ:∀ {A:List (Int × Int)},(∀ a∈A,1<=a.1)->(-wS A<=bG A/\bG A<=0)/\(0<=bH A/\bH A<=wS A)
 | [],_=>by decide
 | a::A,h=>by
  have ih:=tJ (A:=A) λ b hb=>h b (mem_cons_of_mem _ hb);have s:=h a mem_cons_self;have e:axW a=af a.2 * (a.1 - 1):=rfl;have u1:=Int.mul_le_mul_of_nonneg_left (show a.2<=af a.2 by unfold af;omega) (show 0<=a.1 - 1 by omega);have u2:=Int.mul_le_mul_of_nonneg_left (show -af a.2<=a.2 by unfold af;omega) (show 0<=a.1 - 1 by omega);have n:=tK (a:=a) s;rw [Int.mul_neg] at u2;rw [eQ,eS];rw [Int.mul_comm (a.1 - 1) (af a.2),←e] at u1 u2
  show (-(axW a+wS A)<=_/\_)/\_/\_<=axW a+wS A
  generalize (a.1 - 1) * a.2=x at *;omega
def AxV(H:Hp)(Z:List (Int × Int))(x:V):Prop:=∃ l,x=.ref l/\cU H l Z/\AxN Z
theorem AxV.ext{H H':Hp}{Z:List (Int × Int)}{x:V}(h:AxV H Z x)(e:Ext H H'):AxV H' Z x:=by
 obtain⟨l,h1,h2,h3⟩:=h;exact⟨l,h1,aC h2 e,h3⟩
abbrev iG(C:Addr)(p:Addr)(q:Addr)(g:Int)(lo:Int)(mo:Int)(H:Hp)(Q:VK)(E:XK):Prop:=∃ A B:List (Int × Int),cU H p A/\cU H q B/\AxN A/\AxN B/\wS A+wS B<=100000000000000000/\(0<=lo/\lo < 4)/\(0<=mo/\mo < 4)/\(-100000000000001000<=g/\g<=100000000000001000)/\∀ (room f:Int) (x1 x2 r:Addr) (H':Hp),Ext H H'->H' r=some (.tup [.ref x1,.ref x2])->bf C H' x1 room f (A.map aF)->bf C H' x2 room (f+g) (B.map aF)->Q (.ref r) H'
def gW(C:Addr):Sp:=λ vs H Q E=>∃ (p:Addr) (q:Addr) (g:Int) (lo:Int) (mo:Int),vs=[.ref p,.ref q,.int g,.int lo,.int mo]/\(iG C p q g lo mo H Q E)
theorem nZ(C:Addr)(p:Addr)(q:Addr)(g:Int)(lo:Int)(mo:Int)(H:Hp)(Q:VK)(E:XK):gW C [.ref p,.ref q,.int g,.int lo,.int mo] H Q E=(iG C p q g lo mo H Q E):=Ii (f:=λ (p:Addr) (q:Addr) (g:Int) (lo:Int) (mo:Int)=>[.ref p,.ref q,.int g,.int lo,.int mo]) (λ _ _ _ _ _ _ _ _ _ _ h=>by cases h;exact⟨rfl,rfl,rfl,rfl,rfl⟩) p q g lo mo
theorem nR(C:Addr){vs:List V}{H:Hp}{Q:VK}{E:XK}(h:gW C vs H Q E):vs.length=5:=Ij h λ _ _ _ _ _=>rfl
theorem iY(T:Tx K mg t):bC P w K mg base CX0 8 t.a__law_placed t.d__law_placed ["_law_one", "_law_other", "_law_goal", "_law_low", "_law_more"] (gW t.a_View):=by
 have G_View___init__:=%[gf|46];refine T.F__law_placed.ok bT (λ vs H Q E h=>nR _ h) (λ cdv A' outer s H vs Q E hr h=>?_)
 ·obtain⟨p,q,g,lo,mo,rfl,A,B,pA,pB,kA,kB,hwb,hlo,hmo,hg,k⟩:=h;refine⟨_,%[%[(["_law_axes", "_law_one", "_law_other", "_law_goal", "_law_low", "_law_more", "_law_least", "_law_greatest", "_law_first", "_law_room"]),(1),(5),_,bT.nd,rfl,(Or.inl rfl),(aG (aa bS) ["_law_one", "_law_other", "_law_goal", "_law_low", "_law_more", "_law_least", "_law_greatest", "_law_first", "_law_room"] rfl rfl nofun),rfl,%[%[%[%[0|0],%[%[1|0]|1]|1]|23]|24],(λ C s₀ H₀ ex pn=>%[(0),_,(show List.Nodup (["_law_axes", "_law_one", "_law_other", "_law_goal", "_law_low", "_law_more", "_law_least", "_law_greatest", "_law_first", "_law_room"]:List Str) from by decide +kernel),rfl,(Or.inl rfl),%[0|7]|17]),(λ C s₀ H₀ ex pn=>(@aM _)),(λ C s₀ H₀ ex pn=>%[sum,(bP rfl),%[%[(["_law_size_here", "_law_pace", "_law_axes", "_law_one", "_law_other", "_law_goal", "_law_low", "_law_more", "_law_least", "_law_greatest", "_law_first", "_law_room"]),(2),(aG _ ["_law_axes", "_law_one", "_law_other", "_law_goal", "_law_low", "_law_more", "_law_least", "_law_greatest", "_law_first", "_law_room"] rfl rfl (by kernel_rfl)),rfl,(@tS _ _ _ _ (K) rfl %[0|0]),(λ C s₀ H₀ ex pn=>(%[(2),rfl,%[%[(0),_,(show List.Nodup (["_law_size_here", "_law_pace", "_law_axes", "_law_one", "_law_other", "_law_goal", "_law_low", "_law_more", "_law_least", "_law_greatest", "_law_first", "_law_room"]:List Str) from by decide +kernel),rfl,(Or.inl rfl),%[0|7]|17],%[%[(1),_,(show List.Nodup (["_law_size_here", "_law_pace", "_law_axes", "_law_one", "_law_other", "_law_goal", "_law_low", "_law_more", "_law_least", "_law_greatest", "_law_first", "_law_room"]:List Str) from by decide +kernel),rfl,(Or.inl rfl),%[0|7]|17],(@aA _),∅|15],∅|15],∅,∅|21].mono λ _ _ _ _ h=>aX h)),(λ C s₀ H₀ ex pn=>(@aM _)),(λ C s₀ H₀ ex pn=>%[min,(dQ rfl),%[%[0|2],%[%[aW,%[1|0],%[aE,%[0|0],%[0|2]|9]|9]|1]|1]|6]),(by intros;rfl)|25]|1]|6]),∅,(by intros;rfl),%[0|7]|44],%[%[(["_law_axes", "_law_one", "_law_other", "_law_goal", "_law_low", "_law_more", "_law_least", "_law_greatest", "_law_first", "_law_room"]),(1),(6),_,bT.nd,rfl,(Or.inl rfl),(aG (aa bS) ["_law_one", "_law_other", "_law_goal", "_law_low", "_law_more", "_law_least", "_law_greatest", "_law_first", "_law_room"] rfl rfl nofun),rfl,%[%[%[%[0|0],%[%[1|0]|1]|1]|23]|24],(λ C s₀ H₀ ex pn=>%[(0),_,(show List.Nodup (["_law_axes", "_law_one", "_law_other", "_law_goal", "_law_low", "_law_more", "_law_least", "_law_greatest", "_law_first", "_law_room"]:List Str) from by decide +kernel),rfl,(Or.inl rfl),%[0|7]|17]),(λ C s₀ H₀ ex pn=>(@aM _)),(λ C s₀ H₀ ex pn=>%[sum,(bP rfl),%[%[(["_law_size_here", "_law_pace", "_law_axes", "_law_one", "_law_other", "_law_goal", "_law_low", "_law_more", "_law_least", "_law_greatest", "_law_first", "_law_room"]),(2),(aG _ ["_law_axes", "_law_one", "_law_other", "_law_goal", "_law_low", "_law_more", "_law_least", "_law_greatest", "_law_first", "_law_room"] rfl rfl (by kernel_rfl)),rfl,(@tS _ _ _ _ (K) rfl %[0|0]),(λ C s₀ H₀ ex pn=>(%[(2),rfl,%[%[(0),_,(show List.Nodup (["_law_size_here", "_law_pace", "_law_axes", "_law_one", "_law_other", "_law_goal", "_law_low", "_law_more", "_law_least", "_law_greatest", "_law_first", "_law_room"]:List Str) from by decide +kernel),rfl,(Or.inl rfl),%[0|7]|17],%[%[(1),_,(show List.Nodup (["_law_size_here", "_law_pace", "_law_axes", "_law_one", "_law_other", "_law_goal", "_law_low", "_law_more", "_law_least", "_law_greatest", "_law_first", "_law_room"]:List Str) from by decide +kernel),rfl,(Or.inl rfl),%[0|7]|17],(@aA _),∅|15],∅|15],∅,∅|21].mono λ _ _ _ _ h=>aX h)),(λ C s₀ H₀ ex pn=>(@aM _)),(λ C s₀ H₀ ex pn=>%[max,(c8 rfl),%[%[0|2],%[%[aW,%[1|0],%[aE,%[0|0],%[0|2]|9]|9]|1]|1]|6]),(by intros;rfl)|25]|1]|6]),∅,(by intros;rfl),%[0|7]|44],%[%[7,bT,%[aD,%[max,(c8 rfl),%[%[aE,%[0|2],%[az,%[5|0],%[0|2],(λ _ _=>rfl)|10]|9],%[%[aE,%[aE,%[0|2],%[2|0]|9],%[az,%[5|0],%[0|2],(λ _ _=>rfl)|10]|9]|1]|1]|6],%[3|0]|9]|4],%[%[8,bT,%[aD,%[aD,%[max,(c8 rfl),%[%[aD,%[7|0],%[az,%[6|0],%[0|2],(λ _ _=>rfl)|10]|9],%[%[aD,%[aD,%[7|0],%[2|0]|9],%[az,%[6|0],%[0|2],(λ _ _=>rfl)|10]|9]|1]|1]|6],%[0|2]|9],%[4|0]|9]|4],%[%[%[%[(@pe _ _ _ _ _ _ _ _ _ _ _ _ _ _ _ _ _ T.mk_View G_View___init__ (hr.mono ⋯) ∅ T.m_View T.b_View___init__ .nil rV %[%[8|0],%[%[7|0],%[%[eA,∅,T.z_list,nofun,%[%[0|0]|1],⋯,⋯,∅,∅|41]|1]|1]|1] ⋯ ∅ ∅),%[(@pe _ _ _ _ _ _ _ _ _ _ _ _ _ _ _ _ _ T.mk_View G_View___init__ (hr.mono ⋯) ∅ T.m_View T.b_View___init__ .nil rV %[%[8|0],%[%[aD,%[7|0],%[2|0]|9],%[%[eA,∅,T.z_list,nofun,%[%[1|0]|1],⋯,⋯,∅,∅|41]|1]|1]|1] ⋯ ∅ ∅)|1]|1]|18]|13]|12]|11]|11]|11]|11],?_⟩;rw [show start ["_law_one", "_law_other", "_law_goal", "_law_low", "_law_more", "_law_least", "_law_greatest", "_law_first", "_law_room"] [.ref p,.ref q,.int g,.int lo,.int mo]=[some (.ref p),some (.ref q),some (.int g),some (.int lo),some (.int mo),none,none,none,none] from rfl];clear G_View___init__;obtain⟨ta,hpa,alA⟩:=pA;obtain⟨tb,hqb,alB⟩:=pB;exists k;exists alA;exists alB;ac_rfl;intro l1 H1 hl1 e1 h1;have cA:AxV H1 A (.ref p):=⟨p,rfl,⟨ta,e1.at hpa,(alA ()).imp λ _ _ t=>axP.ext t e1⟩,kA⟩;have cB:AxV H1 B (.ref q):=⟨q,rfl,⟨tb,e1.at hqb,(alB ()).imp λ _ _ t=>axP.ext t e1⟩,kB⟩;have al1:Al (λ Z y=>AxV H1 Z y) [A,B] [.ref p,.ref q]:=Al.cons' cA (Al.cons' cB Al.nil);have wk:=fq (K:=K) (R:=λ Z x H'=>AxV H' Z x) (λ _ _ _ _ h e=>h.ext e) h1 al1;exists cA;exists cB;clear hl1 al1;ac_rfl;refine bc [A,B] (λ _=>true) (λ Z=>.int (bG Z)) (λ Z x H'=>AxV H' Z x) wk.1 wk.2 (ay (by simp)) ?_ ?_
  ·intro D Z x H' N1 N0 hZ hD e hx k1 _;obtain⟨lz,rfl,⟨tz,hlz,alz⟩,kz⟩:=hx;have k1':=λ (_:Unit)=>k1 rfl;have hz3:=kz.len;have kzs:=λ (_:Unit)=>kz.sz;have wk2:=fq (K:=K) (R:=axP) (λ _ _ _ _ h e=>h.ext e) hlz alz;clear k1 wk k cA cB;simp! only [↓bE,↓aN];refine bc Z (λ _=>true) (λ a=>.int (min 0 ((a.1 - 1) * a.2))) axP wk2.1 wk2.2 (ay %[0|8]) ?_ ?_
   ·intro D2 a x H2 M1 M0 ha hD2 e2 ⟨aq,hx,haq⟩ k2 _;subst hx;have k2':M1 (.int (min 0 ((a.1 - 1) * a.2))) H2:=k2 rfl H2 (Ext.refl _);have hz:=kzs () a ha;have cm:iQ a.2 (a.1 - 1):=.inr ⟨by omega,by omega⟩;rw [Iv,L4] at k2';clear k2 ha wk2 k1';simp! only [↓bM,↓aN]
   ·intro D2 H2 hD2 e2 h2;have h2':H2 D2=some (.lst ((Z.map λ a=>min 0 ((a.1 - 1) * a.2)).map V.int)):=by rw [h2,iO,KG];rfl
    have hsum:(Z.map λ a=>min 0 ((a.1 - 1) * a.2)).sum=bG Z:=rfl;have k3:=k1' () H2 e2;clear h2 wk2 k1';ac_rfl
  intro D3 H3 hD3 e3 h3;rw [iO] at h3;have h3':H3 D3=some (.lst [.int (bG A),.int (bG B)]):=h3;clear h3 wk hD3;ac_rfl;intro l4 H4 _ e4 h4;have cA4:AxV H4 A (.ref p):=(cA ()).ext (e3.trans e4);have cB4:AxV H4 B (.ref q):=(cB ()).ext (e3.trans e4);have wk:=fq (K:=K) (R:=λ Z x H'=>AxV H' Z x) (λ _ _ _ _ h e=>h.ext e) h4 (Al.cons' cA4 (Al.cons' cB4 Al.nil));have h3_4:=e4.at h3';clear cA4 cB4 h3';ac_rfl;refine bc [A,B] (λ _=>true) (λ Z=>.int (bH Z)) (λ Z x H'=>AxV H' Z x) wk.1 wk.2 (ay (by simp)) ?_ ?_
  ·intro D Z x H' N1 N0 hZ hD e hx k1 _;obtain⟨lz,rfl,⟨tz,hlz,alz⟩,kz⟩:=hx;have k1':=λ (_:Unit)=>k1 rfl;have hz3:=kz.len;have kzs:=λ (_:Unit)=>kz.sz;have wk2:=fq (K:=K) (R:=axP) (λ _ _ _ _ h e=>h.ext e) hlz alz;clear k1 wk k cA cB;simp! only [↓bE,↓aN];refine bc Z (λ _=>true) (λ a=>.int (max 0 ((a.1 - 1) * a.2))) axP wk2.1 wk2.2 (ay %[0|8]) ?_ ?_
   ·intro D2 a x H2 M1 M0 ha hD2 e2 ⟨aq,hx,haq⟩ k2 _;subst hx;have k2':M1 (.int (max 0 ((a.1 - 1) * a.2))) H2:=k2 rfl H2 (Ext.refl _);have hz:=kzs () a ha;have cm:iQ a.2 (a.1 - 1):=.inr ⟨by omega,by omega⟩;rw [Iw,L4] at k2';clear k2 ha wk2 k1';simp! only [↓bM,↓aN]
   ·intro D2 H2 hD2 e2 h2;have h2':H2 D2=some (.lst ((Z.map λ a=>max 0 ((a.1 - 1) * a.2)).map V.int)):=by rw [h2,iO,KG];rfl
    have hsum:(Z.map λ a=>max 0 ((a.1 - 1) * a.2)).sum=bH Z:=rfl;have k3:=k1' () H2 e2;clear h2 wk2 k1';ac_rfl
  intro D5 H5 hD5 e5 h5;rw [iO] at h5;have h5':H5 D5=some (.lst [.int (bH A),.int (bH B)]):=h5;have h3_5:=e5.at h3_4;clear h5 wk hD5 h3_4;obtain⟨⟨la1,la2⟩,la3,la4⟩:=tJ (λ a ha=>by have:=(kA.sz a ha).1;omega);obtain⟨⟨lb1,lb2⟩,lb3,lb4⟩:=tJ (λ a ha=>by have:=(kB.sz a ha).1;omega);have nA:=kA.len;have nB:=kB.len;have wA0:=iU (A:=A) λ a ha=>by have:=(kA.sz a ha).1;omega
  have wB0:=iU (A:=B) λ a ha=>by have:=(kB.sz a ha).1;omega
  have axA:mK A:=⟨by omega,λ a ha=>by have:=(kA.sz a ha).1;omega⟩;have axB:mK B:=⟨by omega,λ a ha=>by have:=(kB.sz a ha).1;omega⟩;obtain⟨sA1,sA2⟩:=gT A λ a ha=>(axA.2 a ha).1;obtain⟨sB1,sB2⟩:=gT B λ a ha=>(axB.2 a ha).1;have e05:=e1.trans (e3.trans (e4.trans e5));have hpa5:=e05.at hpa;have hqb5:=e05.at hqb;obtain⟨fx,hfx⟩:∃ fx,(if 0 - bG A < 0 - g - bG B then 0 - g - bG B else 0 - bG A)=fx:=⟨_,rfl⟩
  have fx1:0 - bG A<=fx/\0 - g - bG B<=fx/\fx<=250000000000000000:=by rw [←hfx];split<;>omega
  obtain⟨f,hf⟩:∃ f,fx+lo=f:=⟨_,rfl⟩;obtain⟨lx,hlx⟩:∃ lx,(if f+bH A < f+g+bH B then f+g+bH B else f+bH A)=lx:=⟨_,rfl⟩
  have lx1:f+bH A<=lx/\f+g+bH B<=lx/\lx<=600000000000000000:=by rw [←hlx];split<;>omega
  obtain⟨room,hroom⟩:∃ room,lx+1+mo=room:=⟨_,rfl⟩;have vA:oS room f A:=⟨axA,by omega,by omega,by rw [sA1];omega,by rw [sA2];omega⟩;have vB:oS room (f+g) B:=⟨axB,by omega,by omega,by rw [sB1];omega,by rw [sB2];omega⟩;clear wA0 wB0 hwb la1 la2 la3 la4 lb1 lb2 lb3 lb4 sA1 sA2 sB1 sB2 axA axB fx1 lx1 nA nB cA cB;ac_rfl;intro q6 H6 _ e6 h6;have hqb6:=e6.at hqb5;have al6:Al (λ z y=>axP z y H6) A ta:=(alA ()).imp λ _ _ t=>axP.ext t (e05.trans e6);clear hpa5;ac_rfl;intro x1 dx1 G1 hx1 hdx1 hne1 g1 k1 k1';rw [lN];refine⟨dx1,A,k1,dB.ext ⟨ta,h6,Ak al6⟩ g1,vA,λ G2 D2 g2' hD2 hx2 tt2=>?_⟩;have eg:=g2' H6 g1 hx1;have vo1:bf t.a_View G2 x1 room f (A.map aF):=⟨dx1,D2,hx2,tt2⟩;have hqb7:=eg.at hqb6;have e07:=e05.trans (e6.trans eg);clear h6 al6 hqb6 k1 k1' hx1 hdx1 hne1 g1 g2' hD2 hx2 tt2;ac_rfl;intro q8 G3 _ e8 h8;have al8:Al (λ z y=>axP z y G3) B tb:=(alB ()).imp λ _ _ t=>axP.ext t (e07.trans e8);clear hqb7;ac_rfl;intro x2 dx2 G4 hx2 hdx2 hne2 g4 k4 k4';rw [lN];refine⟨dx2,B,k4,dB.ext ⟨tb,h8,Ak al8⟩ g4,vB,λ G5 D5' g5' hD5 hx5 tt5=>?_⟩;have eg2:=e8.trans (g5' G3 g4 hx2);have vo2:bf t.a_View G5 x2 room (f+g) (B.map aF):=⟨dx2,D5',hx5,tt5⟩;clear h8 al8 k4 k4' hx2 hdx2 hne2 g4 g5' hD5 hx5 tt5;ac_rfl;intro rr G6 _ e9 h9;exact k () room f x1 x2 rr G6 (e07.trans (eg2.trans e9)) h9 (vo1.ext (eg2.trans e9)) (vo2.ext e9)
theorem tL{zs:List Tm3}{cs:List (Int × Int)}(h:cs.length=zs.length):zs.zip cs=(List.range zs.length).map λ k=>(zs.getD k default,cs.getD k default):=by
 apply List.ext_getElem?;intro i;rw [J5]
 by_cases hi:i < zs.length
 ·rw [List.getElem?_range hi]
  show _=some (zs.getD i default,cs.getD i default)
  rw [Kt,JW,JW,JJ hi,JJ (show i < cs.length by omega)];exact⟨rfl,rfl⟩
 ·rw [KW (by rw [KI];omega),KW (by rw [LH];omega)];rfl
theorem xH{zs:List Tm3}{cs:List (Int × Int)}(h:cs.length=zs.length):((List.range zs.length).map λ k=>(zs.getD k default).1 * (cs.getD k default).1).sum=bp zs cs/\((List.range zs.length).map λ k=>(zs.getD k default).1 * (cs.getD k default).2).sum=b9 zs cs:=by
 unfold bp b9;rw [tL h,map_map,map_map];exact⟨rfl,rfl⟩
theorem o8{zs:List Tm3}{cs:List (Int × Int)}(h:cs.length=zs.length):(((List.range zs.length).filter λ k=>decide ((cs.getD k default).1 < (cs.getD k default).2)).map λ k=>(zs.getD k default).1)=b5 zs cs:=by
 unfold b5;rw [tL h,List.filter_map,map_map];rfl
theorem CM{zs:List Tm3}(h:cL zs){k:Nat}(hk:k < zs.length):1<=(zs.getD k default).1/\(zs.getD k default).1<=2000000000000000000:=by
 rw [JW,JJ hk];exact(h.all _ (KQ hk)).1
abbrev l3  (p:Addr) (q:Addr) (H:Hp) (Q:VK) (E:XK):Prop:=∃ (zs:List Tm3) (cs:List (Int × Int)),gg H p zs/\cU H q cs/\cL zs/\cs.length=zs.length/\∀ (r:Addr) (H':Hp),Ext H H'->H' r=some (.tup [.int (bp zs cs),.int (b9 zs cs)])->Q (.ref r) H'
def mY  : Sp:=λ vs H Q E=>∃ (p:Addr) (q:Addr),vs=[.ref p,.ref q]/\(l3  p q H Q E)
theorem c9  (p:Addr) (q:Addr) (H:Hp) (Q:VK) (E:XK):mY  [.ref p,.ref q] H Q E=(l3  p q H Q E):=rH (f:=λ (p:Addr) (q:Addr)=>[.ref p,.ref q]) (λ _ _ _ _ h=>by cases h;exact⟨rfl,rfl⟩) p q
theorem vt  {vs:List V}{H:Hp}{Q:VK}{E:XK}(h:mY  vs H Q E):vs.length=2:=rL h λ _ _=>rfl
theorem dY(T:Tx K mg t):bC P w K mg base CX0 1 t.a__law_sums t.d__law_sums ["_law_terms_here", "_law_case"] mY:=by
 refine T.F__law_sums.ok iD (λ vs H Q E h=>vt h) (λ c A o s H vs Q E hr h=>?_)
 ·obtain⟨p,q,rfl,zs,cs,⟨ts,hp,al⟩,⟨xs,hq,bl⟩,ht,hcl,k⟩:=h;refine⟨_,%[%[2,iD,%[sum,(bP rfl),%[%[(["_law_k", "_law_terms_here", "_law_case", "_law_least"]),(1),(aG (aa cn) ["_law_terms_here", "_law_case", "_law_least"] rfl rfl nofun),rfl,(@dO _ _ _ _ _ _ ∅ T.z_range %[%[len,ar,%[%[0|0]|1]|6]|1] ∅),(λ C s₀ H₀ ex pn=>%[(0),_,(show List.Nodup (["_law_k", "_law_terms_here", "_law_case", "_law_least"]:List Str) from by decide +kernel),rfl,(Or.inl rfl),%[0|7]|17]),(λ C s₀ H₀ ex pn=>(@aM _)),(λ C s₀ H₀ ex pn=>%[aW,%[az,%[az,%[1|0],%[0|0],(λ _ _=>rfl)|10],%[0|2],(λ _ _=>rfl)|10],%[az,%[az,%[2|0],%[0|0],(λ _ _=>rfl)|10],%[0|2],(λ _ _=>rfl)|10]|9]),(by intros;rfl)|25]|1]|6]|4],%[%[%[%[%[2|0],%[%[sum,(bP rfl),%[%[(["_law_k", "_law_terms_here", "_law_case", "_law_least"]),(1),(aG (aa cn) ["_law_terms_here", "_law_case", "_law_least"] rfl rfl nofun),rfl,(@dO _ _ _ _ _ _ ∅ T.z_range %[%[len,ar,%[%[0|0]|1]|6]|1] ∅),(λ C s₀ H₀ ex pn=>%[(0),_,(show List.Nodup (["_law_k", "_law_terms_here", "_law_case", "_law_least"]:List Str) from by decide +kernel),rfl,(Or.inl rfl),%[0|7]|17]),(λ C s₀ H₀ ex pn=>(@aM _)),(λ C s₀ H₀ ex pn=>%[aW,%[az,%[az,%[1|0],%[0|0],(λ _ _=>rfl)|10],%[0|2],(λ _ _=>rfl)|10],%[az,%[az,%[2|0],%[0|0],(λ _ _=>rfl)|10],%[0|2],(λ _ _=>rfl)|10]|9]),(by intros;rfl)|25]|1]|6]|1]|1]|18]|13]|12]|11],?_⟩;rw [show start ["_law_terms_here", "_law_case", "_law_least"] [.ref p,.ref q]=[some (.ref p),some (.ref q),none] from rfl];have h17:=ht.len;have htl:ts.length=zs.length:=al.1;obtain⟨sm1,sm2⟩:=xH hcl;exists k;exists al;exists bl;exists sm1;exists sm2;ac_rfl;refine⟨by omega,by omega,?_⟩;refine bc (List.range ((zs.length:Int)).toNat) (λ _=>true) (λ k=>.int ((zs.getD k default).1 * (cs.getD k default).1)) (λ j x H'=>x=.int (0+(j:Nat))) jb.1 jb.2 (ay (by rw [LH];omega)) ?_ ?_
  ·intro D k x H' N1 N0 hk hD e hx k1 _;subst hx;have hkr:=K4.mp hk;have hkz:k < zs.length:=by omega
   have hkc:k < cs.length:=by omega
   obtain⟨c1,c2,hu⟩:=eW (bl ()) hkc;obtain⟨z1,z2,hz⟩:=k6 (al ()) hkz;have hp':=e.at hp;have hq':=e.at hq;have hu':=e.at hu;have hz':=e.at hz;have tt:=CM ht hkz;have k1':N1 (.int ((zs.getD k default).1 * (cs.getD k default).1)) H':=k1 rfl H' (Ext.refl _);have cm:iQ (zs.getD k default).1 (cs.getD k default).1:=.inl ⟨by omega,by omega⟩;generalize zs.getD k default=zi at *;generalize cs.getD k default=ci at *;clear k1 hk hp hq hu hz sm1 sm2;simp! only [↓bE,↓aN]
  intro D H1 hD e1 h1;rw [iO,Ks,show ((List.range zs.length).map λ k=>V.int ((zs.getD k default).1 * (cs.getD k default).1))=((List.range zs.length).map λ k=>(zs.getD k default).1 * (cs.getD k default).1).map V.int by rw [KG];rfl] at h1;have hp1:=e1.at hp;have sm1':=sm1 ();generalize ((List.range zs.length).map λ k=>(zs.getD k default).1 * (cs.getD k default).1)=ls at h1 sm1';clear hD sm1;ac_rfl;refine⟨by omega,by omega,?_⟩;clear sm1' h1;refine bc (List.range ((zs.length:Int)).toNat) (λ _=>true) (λ k=>.int ((zs.getD k default).1 * (cs.getD k default).2)) (λ j x H'=>x=.int (0+(j:Nat))) jb.1 jb.2 (ay (by rw [LH];omega)) ?_ ?_
  ·intro D k x H' N1 N0 hk hD e hx k1 _;subst hx;have hkr:=K4.mp hk;have hkz:k < zs.length:=by omega
   have hkc:k < cs.length:=by omega
   obtain⟨c1,c2,hu⟩:=eW (bl ()) hkc;obtain⟨z1,z2,hz⟩:=k6 (al ()) hkz;have hp':=e.at hp1;have hq':=(e1.trans e).at hq;have hu':=(e1.trans e).at hu;have hz':=(e1.trans e).at hz;have tt:=CM ht hkz;have k1':N1 (.int ((zs.getD k default).1 * (cs.getD k default).2)) H':=k1 rfl H' (Ext.refl _);have cm:iQ (zs.getD k default).1 (cs.getD k default).2:=.inl ⟨by omega,by omega⟩;generalize zs.getD k default=zi at *;generalize cs.getD k default=ci at *;clear k1 hk hp hq hu hz hp1 sm2;simp! only [↓bE,↓aN]
  intro D2 H2 hD2 e2 h2;rw [iO,Ks,show ((List.range zs.length).map λ k=>V.int ((zs.getD k default).1 * (cs.getD k default).2))=((List.range zs.length).map λ k=>(zs.getD k default).1 * (cs.getD k default).2).map V.int by rw [KG];rfl] at h2;have sm2':=sm2 ();generalize ((List.range zs.length).map λ k=>(zs.getD k default).1 * (cs.getD k default).2)=gs at h2 sm2';clear hD2 sm2;ac_rfl;intro r3 H3 _ e3 h3;exact k () r3 H3 (e1.trans (e2.trans e3)) h3
abbrev pU  (p:Addr) (H:Hp) (Q:VK) (E:XK):Prop:=∃ ns:List Int,H p=some (.lst (ns.map V.int))/\(∀ n∈ns,0<=n)/\Q (.int (iS ns)) H
def sM  : Sp:=λ vs H Q E=>∃ (p:Addr),vs=[.ref p]/\(pU  p H Q E)
theorem yI  (p:Addr) (H:Hp) (Q:VK) (E:XK):sM  [.ref p] H Q E=(pU  p H Q E):=rJ (f:=λ (p:Addr)=>[.ref p]) (λ _ _ h=>by cases h;exact rfl) p
theorem xR  {vs:List V}{H:Hp}{Q:VK}{E:XK}(h:sM  vs H Q E):vs.length=1:=p9 h λ _=>rfl
theorem iJ(T:Tx K mg t):bC P w K mg base CX0 1 t.a__law_divisor t.d__law_divisor ["_law_numbers"] sM:=by
 refine T.F__law_divisor.ok aZ (λ vs H Q E h=>xR h) (λ c A o s H vs Q E hr h=>?_)
 ·obtain⟨p,rfl,ns,hp,hn,k⟩:=h;refine⟨_,%[%[1,aZ,%[0|2]|4],%[%[Ki,rfl,%[%[0|0]|24],%[2,aZ|5],%[%[3,aZ,%[1|0]|4],%[(@ke _ _ _ _ _ _ Ki %[cW,%[2|0],%[0|2],(ae _)|14] %[(@DP _ _ (3) (2) _ _ _ _ _ _ _ _ _ _ _ rfl aZ.nd rfl rfl ⋯ rfl rfl %[%[2|0],%[%[aS,%[3|0],%[2|0]|9]|1]|1] rfl ∅)|12]),%[%[1,aZ,%[3|0]|4]|12]|11]|11],(by intros;rfl)|33],%[%[%[1|0]|13]|12]|11]|11],?_⟩;rw [show start ["_law_numbers", "_law_found", "_law_other", "_law_one"] [.ref p]=[some (.ref p),none,none,none] from rfl];exists hn;ac_rfl;refine dM (xs:=ns.map V.int) (λ i σ H'=>∃ v w:Option V,σ=[some (.ref p),some (.int (iS (ns.take i))),v,w]/\H'=H) ⟨none,none,rfl,rfl⟩ (λ i σ H' _ ⟨_,_,_,e⟩=>by rw [e];exact hp) ?_ ?_
  ·rintro i y _ _ hi ⟨v,w',rfl,rfl⟩;rename_i H;rw [J5] at hi;obtain⟨z,hz,rfl⟩:=J6.mp hi;have e1:=lL ns i z hz;have hz0:=hn () z (K1 hz);have hg0:=nC (ns.take i);generalize iS (ns.take (i+1))=g1 at *;generalize iS (ns.take i)=g0 at *;exists e1;clear hz hi k;simp! only [↓aQ];refine mR (by repeat' first|exact zT|exact tF|exact mo_nI|apply ki|apply mo_unN|exact oI|exact Gn|exact oJ|exact mo_rI|exact mo_rIsN|exact mo_rNotN|exact tD|exact mo_qIx|exact tE|exact nt|apply jQ|apply mo_tB|apply mo_not|apply mo_and|apply mo_or|apply zU|apply mo_un|apply nu|apply mo_qLst|apply zV) (λ m σ H'=>∃ (f r:Int),σ=[some (.ref p),some (.int g0),some (.int r),some (.int f)]/\H'=H/\m=r.toNat/\0<=f/\0<=r/\Int.gcd f r=Int.gcd g0 z) _ ⟨g0,z,rfl,rfl,rfl,hg0,hz0,rfl⟩ ?_;rintro m _ _ ⟨f,r,rfl,rfl,rfl,hf,hr',hg⟩;rename_i H
   by_cases hz:r=0
   ·subst hz;have e:f=g1:=by rw [e1 (),←hg];exact(pz f hf).symm
    clear hg hn e1;ac_rfl;exact⟨_,_,rfl⟩
   ·have hp:0 < r:=by omega
    have e1:=pC f r hp hf;have e2:=Ky f hp;have e3:=Ko f hz;have e4:=λ (_:Unit)=>e1.trans hg;clear hg e1 hn;ac_rfl;exact⟨_,by omega,_,_,rfl,rfl,hr',e3,e4 ()⟩
  ·rintro _ _ ⟨v,w',rfl,rfl⟩;rename_i H;have e2:iS (ns.take (ns.map V.int).length)=iS ns:=by rw [JT,Lk]
   rw [e2];clear e2;ac_rfl
theorem yx{g l gr r:Int}(h:g < l):b8 g l gr r=true:=by unfold b8;rw [decide_eq_true h];rfl
theorem yw{g l gr r:Int}(h:gr < g):b8 g l gr r=true:=by unfold b8;rw [decide_eq_true h,Bool.or_true];rfl
theorem yv{g l gr r:Int}(h:1 < r)(h':(g - l) % r ≠ 0):b8 g l gr r=true:=by
 unfold b8;have:=Int.emod_nonneg (g - l) (show r ≠ 0 by omega);rw [decide_eq_true h,decide_eq_true (show 0 < (g - l) % r by omega),Bool.true_and,Bool.or_true]
theorem yu{g l gr r:Int}(h1:¬ g < l)(h2:¬ gr < g)(h3:¬ 1 < r):b8 g l gr r=false:=by unfold b8;rw [decide_eq_false h1,decide_eq_false h2,decide_eq_false h3];rfl
theorem yt{g l gr r:Int}(h1:¬ g < l)(h2:¬ gr < g)(h3:(g - l) % r=0):b8 g l gr r=false:=by unfold b8;rw [decide_eq_false h1,decide_eq_false h2,h3,decide_eq_false (Int.lt_irrefl 0),Bool.and_false];rfl
abbrev pV  (p:Addr) (g:Int) (q:Addr) (H:Hp) (Q:VK) (E:XK):Prop:=∃ (zs:List Tm3) (cs:List (Int × Int)),gg H p zs/\cU H q cs/\cL zs/\cJ zs cs/\∀ H',Ext H H'->Q (.bl (cK zs cs g)) H'
def sN  : Sp:=λ vs H Q E=>∃ (p:Addr) (g:Int) (q:Addr),vs=[.ref p,.int g,.ref q]/\(pV  p g q H Q E)
theorem yJ  (p:Addr) (g:Int) (q:Addr) (H:Hp) (Q:VK) (E:XK):sN  [.ref p,.int g,.ref q] H Q E=(pV  p g q H Q E):=rG (f:=λ (p:Addr) (g:Int) (q:Addr)=>[.ref p,.int g,.ref q]) (λ _ _ _ _ _ _ h=>by cases h;exact⟨rfl,rfl,rfl⟩) p g q
theorem xS  {vs:List V}{H:Hp}{Q:VK}{E:XK}(h:sN  vs H Q E):vs.length=3:=rK h λ _ _ _=>rfl
theorem kG(T:Tx K mg t):bC P w K mg base CX0 2 t.a__law_ended t.d__law_ended ["_law_terms_here", "_law_goal", "_law_case"] sN:=by
 have G__law_sums:=%[dY|46];have G__law_divisor:=%[iJ|46];refine T.F__law_ended.ok cH (λ vs H Q E h=>xS h) (λ c A o s H vs Q E hr h=>?_)
 ·obtain⟨p,g,q,rfl,zs,cs,hp,hq,ht,hc,k⟩:=h;refine⟨_,%[%[%[_law_sums,%[%[0|0],%[%[2|0]|1]|1]|3],(%[(2),rfl,%[%[3,cH|5],%[%[4,cH|5],(@aA _),∅|15],∅|15],∅,∅|21].mono λ _ _ _ _ h=>aX h),∅,∅,∅|37],%[%[5,cH,%[_law_divisor,%[%[(["_law_k", "_law_terms_here", "_law_goal", "_law_case", "_law_least", "_law_greatest", "_law_rest_here"]),(1),(aG (aa cC) ["_law_terms_here", "_law_goal", "_law_case", "_law_least", "_law_greatest", "_law_rest_here"] rfl rfl nofun),rfl,(@dO _ _ _ _ _ _ ∅ T.z_range %[%[len,ar,%[%[0|0]|1]|6]|1] ∅),(λ C s₀ H₀ ex pn=>%[(0),_,(show List.Nodup (["_law_k", "_law_terms_here", "_law_goal", "_law_case", "_law_least", "_law_greatest", "_law_rest_here"]:List Str) from by decide +kernel),rfl,(Or.inl rfl),%[0|7]|17]),(λ C s₀ H₀ ex pn=>(@nh _ _ _ %[cj,%[az,%[az,%[3|0],%[0|0],(λ _ _=>rfl)|10],%[0|2],(λ _ _=>rfl)|10],%[az,%[az,%[3|0],%[0|0],(λ _ _=>rfl)|10],%[0|2],(λ _ _=>rfl)|10],(ae _)|14])),(λ C s₀ H₀ ex pn=>%[az,%[az,%[1|0],%[0|0],(λ _ _=>rfl)|10],%[0|2],(λ _ _=>rfl)|10]),(by intros;rfl)|25]|1]|3]|4],%[%[(@zd _ _ _ _ _ _ _ %[cW,%[3|0],%[1|0],(ae _)|27] (@zd _ _ _ _ _ _ _ %[cj,%[4|0],%[1|0],(ae _)|27] %[%[%[cW,%[5|0],%[0|2],(ae _)|27],%[%[cW,%[aS,%[aE,%[1|0],%[3|0]|9],%[5|0]|9],%[0|2],(ae _)|27]|34]|31]|34]))|13]|12]|11]|11],?_⟩;rw [show start ["_law_terms_here", "_law_goal", "_law_case", "_law_least", "_law_greatest", "_law_rest_here"] [.ref p,.int g,.ref q]=[some (.ref p),some (.int g),some (.ref q),none,none,none] from rfl];clear G__law_sums G__law_divisor;have h17:=ht.len;have hcl:=hc.len;have rs:=o8 hcl;unfold cK at k;exists k;exists rs;exists hcl;ac_rfl;rw [c9];refine⟨zs,cs,hp,hq,ht,hcl (),λ r1 H1 e1 h1=>?_⟩;obtain⟨ts,hp1,al⟩:=bL hp e1;obtain⟨xs,hq1,bl⟩:=aC hq e1;have htl:ts.length=zs.length:=al.1;exists al;exists bl;clear hp hq;ac_rfl;refine⟨by omega,by omega,?_⟩;refine bc (List.range ((zs.length:Int)).toNat) (λ k=>decide ((cs.getD k default).1 < (cs.getD k default).2)) (λ k=>.int (zs.getD k default).1) (λ j x H'=>x=.int (0+(j:Nat))) jb.1 jb.2 (ay (by rw [List.length_range];omega)) ?_ ?_
  ·intro D k x H' N1 N0 hk hD e hx k1 k0;subst hx;have hkr:=K4.mp hk;have hkz:k < zs.length:=by omega
   have hkc:k < cs.length:=by have:=hcl ();omega
   obtain⟨c1,c2,hu⟩:=eW (bl ()) hkc;obtain⟨z1,z2,hz⟩:=k6 (al ()) hkz;have hp':=e.at hp1;have hq':=e.at hq1;have hu':=e.at hu;have hz':=e.at hz;generalize zs.getD k default=zi at *;generalize cs.getD k default=ci at *;clear hk hp1 hq1 hu hz rs
   by_cases hlt:ci.1 < ci.2
   ·have k1':N1 (.int zi.1) H':=k1 (J3 hlt) H' (Ext.refl _);clear k1 k0;simp! only [↓bE,↓aN]
   ·have k0':N0 H':=k0 (J1 hlt) H' (Ext.refl _);clear k1 k0;simp! only [↓bE,↓aN]
  intro D H2 hD e2 h2;rw [Ks,show (((List.range zs.length).filter λ k=>decide ((cs.getD k default).1 < (cs.getD k default).2)).map λ k=>V.int (zs.getD k default).1)=(b5 zs cs).map V.int by rw [←rs (),KG];rfl] at h2
  have hnn:∀ n∈b5 zs cs,(0:Int)<=n:=λ n hn=>by
   unfold b5 at hn;obtain⟨z,hz,rfl⟩:=List.mem_map.mp hn;have:=(ht.all z.1 (of_mem_zip (show (z.1,z.2)∈zs.zip cs from (List.mem_filter.mp hz).1)).1).1;omega
  have hgn:=nC (b5 zs cs);exists hnn;clear hD;ac_rfl;rw [yI];refine⟨_,h2,hnn (),?_⟩;have k':=λ (_:Unit)=>k () H2 (e1.trans e2);clear k hnn h2 rs;generalize iS (b5 zs cs)=r at *;generalize bp zs cs=l at *;generalize b9 zs cs=gr at *
  by_cases x1:g < l
  ·have k2:=k' ();rw [yx x1] at k2;clear k';ac_rfl
  by_cases x2:gr < g
  ·have k2:=k' ();rw [yw x2] at k2;clear k';ac_rfl
  by_cases x3:1 < r
  ·have hr0:0 < r:=by omega
   by_cases x4:0 < (g - l) % r
   ·have k2:=k' ();rw [yv x3 %[0|8]] at k2;clear k';ac_rfl
   ·have x5:(g - l) % r=0:=by have:=Ko (g - l) (show r ≠ 0 by omega);omega
    have k2:=k' ();rw [yt x1 x2 x5] at k2;clear k' x5;ac_rfl
  ·have k2:=k' ();rw [yu x1 x2 x3] at k2;clear k';ac_rfl
theorem AE{zs:List Tm3}{cs:List (Int × Int)}{d:Int}{k:Nat}(hl:cs.length=zs.length)(h:∀ n∈b5 zs cs,d ∣ n)(hk:k < zs.length)(hlt:(cs.getD k default).1 < (cs.getD k default).2):(zs.getD k default).1 % d=0:=by
 refine LM (h _ ?_);rw [←o8 hl];exact J8.mpr ⟨k,KP.mpr ⟨K4.mpr hk,J3 hlt⟩,rfl⟩
abbrev ma  (p:Addr) (g:Int) (q:Addr) (d:Int) (H:Hp) (Q:VK) (E:XK):Prop:=∃ (zs:List Tm3) (cs:List (Int × Int)),gg H p zs/\cU H q cs/\cL zs/\cJ zs cs/\2<=d/\(∀ n∈b5 zs cs,d ∣ n)/\0 < (g - bp zs cs) % d/\∀ H',Ext H H'->Q (.bl true) H'
def m4  : Sp:=λ vs H Q E=>∃ (p:Addr) (g:Int) (q:Addr) (d:Int),vs=[.ref p,.int g,.ref q,.int d]/\(ma  p g q d H Q E)
theorem vZ  (p:Addr) (g:Int) (q:Addr) (d:Int) (H:Hp) (Q:VK) (E:XK):m4  [.ref p,.int g,.ref q,.int d] H Q E=(ma  p g q d H Q E):=yO (f:=λ (p:Addr) (g:Int) (q:Addr) (d:Int)=>[.ref p,.int g,.ref q,.int d]) (λ _ _ _ _ _ _ _ _ h=>by cases h;exact⟨rfl,rfl,rfl,rfl⟩) p g q d
theorem vx  {vs:List V}{H:Hp}{Q:VK}{E:XK}(h:m4  vs H Q E):vs.length=4:=yP h λ _ _ _ _=>rfl
theorem mv(T:Tx K mg t):bC P w K mg base CX0 2 t.a__law_rest t.d__law_rest ["_law_terms_here", "_law_goal", "_law_case", "_law_by"] m4:=by
 have G__law_sums:=%[dY|46];have G__law_whole:=%[dw|46];refine T.F__law_rest.ok iE (λ vs H Q E h=>vx h) (λ c A o s H vs Q E hr h=>?_)
 ·obtain⟨p,g,q,d,rfl,zs,cs,hp,hq,ht,hc,hd,hdv,hrs,k⟩:=h;refine⟨_,%[%[(PW.pt %[%[%[%[_law_whole,%[%[3|0]|1]|3],(by intros;rfl)|19]|22],%[%[cj,%[3|0],%[0|2],(ae _)|14]|28]|20]),%[%[(@cV _ _ _ _)|13]|12],(@ao _)|16],%[%[Ki,rfl,(@dO _ _ _ _ _ _ ∅ T.z_range %[%[len,ar,%[%[0|0]|1]|6]|1] ∅),%[4,iE|5],%[%[(PW.pt %[%[cj,%[az,%[az,%[2|0],%[4|0],(λ _ _=>rfl)|10],%[0|2],(λ _ _=>rfl)|10],%[az,%[az,%[2|0],%[4|0],(λ _ _=>rfl)|10],%[0|2],(λ _ _=>rfl)|10],(ae _)|14],%[%[cW,%[aS,%[az,%[az,%[0|0],%[4|0],(λ _ _=>rfl)|10],%[0|2],(λ _ _=>rfl)|10],%[3|0]|9],%[0|2],(ae _)|14]|35]|32]),%[%[(@cV _ _ _ _)|13]|12],(@ao _)|16]|12],(by intros;rfl)|33],%[%[%[cW,%[aS,%[aE,%[1|0],%[az,%[_law_sums,%[%[0|0],%[%[2|0]|1]|1]|3],%[0|2],(λ _ _=>rfl)|10]|9],%[3|0]|9],%[0|2],(ae _)|27]|13]|12]|11]|11],?_⟩;rw [show start ["_law_terms_here", "_law_goal", "_law_case", "_law_by", "_law_k"] [.ref p,.int g,.ref q,.int d]=[some (.ref p),some (.int g),some (.ref q),some (.int d),none] from rfl];clear G__law_sums G__law_whole;have h17:=ht.len;have hcl:=hc.len;have ra:∀ k,k < zs.length->(cs.getD k default).1 < (cs.getD k default).2->(zs.getD k default).1 % d=0:=λ k hk hlt=>AE hcl hdv hk hlt;obtain⟨ts,hp1,al⟩:=hp;obtain⟨xs,hq1,bl⟩:=hq;have htl:ts.length=zs.length:=al.1;have hd1:¬ d < 2:=by omega
  have hd0:0 < d:=by omega
  exists k;exists ra;exists hcl;exists al;exists bl;clear hdv;simp! only [↓bR];refine⟨by omega,by omega,?_⟩;refine uf (λ j σ H'=>∃ v:Option V,σ=[some (.ref p),some (.int g),some (.ref q),some (.int d),v]/\H'=H) ⟨none,rfl,rfl⟩ ?_ ?_
  ·rintro j _ _ hj ⟨v,rfl,rfl⟩;rename_i H;have hkz:j < zs.length:=by have:j < ((zs.length:Int)).toNat:=hj;omega
   have hkc:j < cs.length:=by have:=hcl ();omega
   obtain⟨c1,c2,hu⟩:=eW (bl ()) hkc;obtain⟨z1,z2,hz⟩:=k6 (al ()) hkz;have ra':=ra () j hkz;generalize zs.getD j default=zi at *;generalize cs.getD j default=ci at *;clear hj k ra
   by_cases hlt:ci.1 < ci.2
   ·have ra2:=ra' hlt;clear ra';simp! only [↓aQ];exact⟨_,rfl⟩
   ·clear ra';simp! only [↓aQ];exact⟨_,rfl⟩
  ·rintro _ _ ⟨v,rfl,rfl⟩;rename_i H;ac_rfl;rw [c9];refine⟨zs,cs,⟨ts,hp1,al ()⟩,⟨xs,hq1,bl ()⟩,ht,hcl (),λ r1 H1 e1 h1=>?_⟩;have k':=k () H1 e1;clear k ra;ac_rfl
theorem o6{xs:List V}{k:Nat}{y:V}(hk:k < xs.length):xs.take k++[y]++xs.drop (k+1)=xs.set k y:=by
 rw [List.set_eq_take_append_cons_drop,JR hk,Lw];rfl
def zC(H0 H:Hp)(more:List Bx)(ys:List V):Prop:=Al (λ c y=>∃ a,y=.ref a/\H0 a=none/\cU H a c) more.reverse ys
abbrev pY  (p:Addr) (g:Int) (q:Addr) (x:Addr) (H:Hp) (Q:VK) (E:XK):Prop:=∃ (zs:List Tm3) (cs:Bx) (ss:List V) (more:List Bx),gg H p zs/\cU H q cs/\cL zs/\cJ zs cs/\H x=some (.tup ss)/\dI zs g cs ss more/\∀ (r:Addr) (ys:List V) (H':Hp),Ext H H'->H' r=some (.lst ys)->zC H H' more ys->Q (.ref r) H'
def sO  : Sp:=λ vs H Q E=>∃ (p:Addr) (g:Int) (q:Addr) (x:Addr),vs=[.ref p,.int g,.ref q,.ref x]/\(pY  p g q x H Q E)
theorem yK  (p:Addr) (g:Int) (q:Addr) (x:Addr) (H:Hp) (Q:VK) (E:XK):sO  [.ref p,.int g,.ref q,.ref x] H Q E=(pY  p g q x H Q E):=yO (f:=λ (p:Addr) (g:Int) (q:Addr) (x:Addr)=>[.ref p,.int g,.ref q,.ref x]) (λ _ _ _ _ _ _ _ _ h=>by cases h;exact⟨rfl,rfl,rfl,rfl⟩) p g q x
theorem xT  {vs:List V}{H:Hp}{Q:VK}{E:XK}(h:sO  vs H Q E):vs.length=4:=yP h λ _ _ _ _=>rfl
theorem i0(T:Tx K mg t):bC P w K mg base CX0 3 t.a__law_behind t.d__law_behind ["_law_terms_here", "_law_goal", "_law_case", "_law_step"] sO:=by
 have G__law_sums:=%[dY|46];have G__law_whole:=%[dw|46];have G__law_rest:=%[mv|46];refine T.F__law_behind.ok bj (λ vs H Q E h=>xT h) (λ c A o s H vs Q E hr h=>?_)
 ·obtain⟨p,g,q,x,rfl,zs,cs,ss,more,hp,hq,ht,hc,hx,hs,k⟩:=h;refine⟨_,%[%[(PW.pt %[%[%[%[isinstance,aI,%[%[3|0],%[%[(.ty "tuple"),(.type "tuple"),_,∅,T.z_tuple,nofun,rfl,⋯,⋯|30]|1]|1]|6],(by intros;rfl)|19]|22],%[%[cj,%[len,ar,%[%[3|0]|1]|6],%[0|2],(ae _)|14],%[%[cW,%[len,ar,%[%[3|0]|1]|6],%[0|2],(ae _)|14]|28]|20]|20]),%[%[(@dz _ _ _)|13]|12],(@ao _)|16],%[%[%[_law_sums,%[%[0|0],%[%[2|0]|1]|1]|3],(%[(2),rfl,%[%[4,bj|5],%[%[5,bj|5],(@aA _),∅|15],∅|15],∅,∅|21].mono λ _ _ _ _ h=>aX h),∅,∅,∅|37],%[%[(PW.pt %[(PW.pt %[%[(aV hr.units),%[3|0],%[%[(@br _ _ _ _)|1]|18],(ae _)|14],%[%[cW,%[4|0],%[1|0],(ae _)|14]|35]|32]),%[(PW.pt %[%[(aV hr.units),%[3|0],%[%[(@br _ _ _ _)|1]|18],(ae _)|14],%[%[cj,%[5|0],%[1|0],(ae _)|14]|35]|32])|28]|20]),%[%[%[(@cX _)|23]|13]|12],(@ao _)|16],%[%[(PW.pt %[%[(aV hr.units),%[len,ar,%[%[3|0]|1]|6],%[0|2],(ae _)|14],%[%[(aV hr.units),%[az,%[3|0],%[0|2],(λ _ _=>rfl)|10],(@br _ _ _ _),(ae _)|14],%[%[%[_law_rest,%[%[0|0],%[%[1|0],%[%[2|0],%[%[az,%[3|0],%[0|2],(λ _ _=>rfl)|10]|1]|1]|1]|1]|3],(by intros;rfl)|19]|35]|32]|32]),%[%[%[(@cX _)|23]|13]|12],(@ao _)|16],%[%[(PW.pt %[%[cj,%[len,ar,%[%[3|0]|1]|6],%[0|2],(ae _)|14],%[%[(ck hr.units),%[az,%[3|0],%[0|2],(λ _ _=>rfl)|10],(@br _ _ _ _),(ae _)|14],%[%[%[%[_law_whole,%[%[az,%[3|0],%[0|2],(λ _ _=>rfl)|10]|1]|3],(by intros;rfl)|19]|22],%[%[%[%[_law_whole,%[%[az,%[3|0],%[0|2],(λ _ _=>rfl)|10]|1]|3],(by intros;rfl)|19]|22]|28]|20]|20]|20]),%[%[(@dz _ _ _)|13]|12],(@ao _)|16],%[%[%[3|0],(%[(3),rfl,%[%[6,bj|5],%[%[7,bj|5],%[%[8,bj|5],(@aA _),∅|15],∅|15],∅|15],∅,∅|21].mono λ _ _ _ _ h=>aX h),∅,∅,∅|37],%[%[(PW.pt %[%[%[iV,cj,%[0|2],%[7|0],%[len,ar,%[%[0|0]|1]|6],∅|45]|22],%[%[%[iV,cj,%[az,%[az,%[2|0],%[7|0],(λ _ _=>rfl)|10],%[0|2],(λ _ _=>rfl)|10],%[8|0],%[az,%[az,%[2|0],%[7|0],(λ _ _=>rfl)|10],%[0|2],(λ _ _=>rfl)|10],∅|45]|22]|28]|20]),%[%[(@dz _ _ _)|13]|12],(@ao _)|16],%[%[%[%[%[ft,%[ft,%[Cz,%[2|0],(@eI _),(@eG _ _ _ %[7|0])|39],%[%[%[%[%[aD,%[8|0],%[0|2]|9],%[%[az,%[az,%[2|0],%[7|0],(λ _ _=>rfl)|10],%[0|2],(λ _ _=>rfl)|10]|1]|1]|18]|1]|23]|9],%[Cz,%[2|0],(@eG _ _ _ %[aD,%[7|0],%[0|2]|9]),(@eI _)|39]|9],%[%[ft,%[ft,%[Cz,%[2|0],(@eI _),(@eG _ _ _ %[7|0])|39],%[%[%[%[%[az,%[az,%[2|0],%[7|0],(λ _ _=>rfl)|10],%[0|2],(λ _ _=>rfl)|10],%[%[8|0]|1]|1]|18]|1]|23]|9],%[Cz,%[2|0],(@eG _ _ _ %[aD,%[7|0],%[0|2]|9]),(@eI _)|39]|9]|1]|1]|23]|13]|12]|11]|11]|11]|11]|11]|11]|11],?_⟩;rw [show start ["_law_terms_here", "_law_goal", "_law_case", "_law_step", "_law_least", "_law_greatest", "_law_word", "_law_k", "_law_at"] [.ref p,.int g,.ref q,.ref x]=[some (.ref p),some (.int g),some (.ref q),some (.ref x),none,none,none,none,none] from rfl];clear G__law_sums G__law_whole G__law_rest;have h17:=ht.len;have hcl:=hc.len;exists k;exists hcl;have so1:PyData.strOk (Str.ofString "low")=true:=by decide +kernel
  have so2:PyData.strOk (Str.ofString "high")=true:=by decide +kernel
  have so3:PyData.strOk (Str.ofString "rest")=true:=by decide +kernel
  have so4:PyData.strOk (Str.ofString "part")=true:=by decide +kernel
  have sq1:(Str.ofString "low" == Str.ofString "low")=true:=by decide +kernel
  have sq2:(Str.ofString "high" == Str.ofString "high")=true:=by decide +kernel
  have sq3:(Str.ofString "high" == Str.ofString "low")=false:=by decide +kernel
  have sq4:(Str.ofString "rest" == Str.ofString "low")=false:=by decide +kernel
  have sq5:(Str.ofString "rest" == Str.ofString "high")=false:=by decide +kernel
  have sq6:(Str.ofString "part" == Str.ofString "low")=false:=by decide +kernel
  have sq7:(Str.ofString "part" == Str.ofString "high")=false:=by decide +kernel
  have sq8:(Str.ofString "rest" == Str.ofString "rest")=true:=by decide +kernel
  have sq9:(Str.ofString "part" == Str.ofString "part")=true:=by decide +kernel
  rcases hs with ⟨rfl,hs,rfl⟩|⟨rfl,hs,rfl⟩|⟨d,rfl,hd,hdv,hs,rfl⟩|⟨m,a,rfl,hm,ha1,ha2,hs,rfl⟩
  ·ac_rfl;rw [c9];refine⟨zs,cs,hp,hq,ht,hcl (),λ r1 H1 e1 h1=>?_⟩;have hx1:=e1.at hx;ac_rfl;intro t2 H2 _ e2 h2;have hx2:=e2.at hx1;clear hx hx1 hp hq;ac_rfl;intro r3 H3 _ e3 h3;exact k () r3 [] H3 (e1.trans (e2.trans e3)) h3 Al.nil
  ·ac_rfl;rw [c9];refine⟨zs,cs,hp,hq,ht,hcl (),λ r1 H1 e1 h1=>?_⟩;have hx1:=e1.at hx;ac_rfl;intro t2 H2 _ e2 h2;have hx2:=e2.at hx1;clear hx hx1 hp hq;ac_rfl;intro t3 H3 _ e3 h3;have hx3:=e3.at hx2;clear hx2 h2;ac_rfl;intro r4 H4 _ e4 h4;exact k () r4 [] H4 (e1.trans (e2.trans (e3.trans e4))) h4 Al.nil
  ·ac_rfl;rw [c9];refine⟨zs,cs,hp,hq,ht,hcl (),λ r1 H1 e1 h1=>?_⟩;have hx1:=e1.at hx;exists hdv;ac_rfl;intro t2 H2 _ e2 h2;have hx2:=e2.at hx1;clear hx hx1;ac_rfl;intro t3 H3 _ e3 h3;have hx3:=e3.at hx2;have e03:=e1.trans (e2.trans e3);clear hx2 h2;ac_rfl;rw [vZ];refine⟨zs,cs,bL hp e03,aC hq e03,ht,hc,hd,hdv (),hs,λ H4 e4=>?_⟩;ac_rfl;intro r5 H5 _ e5 h5;exact k () r5 [] H5 (e03.trans (e4.trans e5)) h5 Al.nil
  ·ac_rfl;rw [c9];refine⟨zs,cs,hp,hq,ht,hcl (),λ r1 H1 e1 h1=>?_⟩;have hx1:=e1.at hx;ac_rfl;intro t2 H2 _ e2 h2;have hx2:=e2.at hx1;clear hx hx1;ac_rfl;intro t3 H3 _ e3 h3;have hx3:=e3.at hx2;have e03:=e1.trans (e2.trans e3);obtain⟨ts,hp3,al⟩:=bL hp e03;obtain⟨xs,hq3,bl⟩:=aC hq e03;have htl:ts.length=zs.length:=al.1;have hxl:xs.length=cs.length:=bl.1;have hmc:m < cs.length:=by have:=hcl ();omega
   obtain⟨y,hat,hy⟩:=eW bl hmc;rw [Kv] at hat;have hm0:(0:Int)<=(m:Int):=by omega
   have hm1:(m:Int) < (zs.length:Int):=by omega
   generalize hci:cs.getD m default=ci at *;exists bl;exists al;exists hci;clear hx2 h2 hp hq;have c1:ja xs none (some (m:Int))=xs.take m:=by rw [yz _ _ hm0,Ks]
   have c2:ja xs (some ((m:Int)+1)) none=xs.drop (m+1):=by rw [pH _ _ %[0|8],show ((m:Int)+1).toNat=m+1 by omega]
   have ln1:(xs.take m).length<=17:=by rw [KN];have:=hcl ();omega
   have ln2:(xs.drop (m+1)).length<=17:=by rw [Lv];have:=hcl ();omega
   simp! only [↓bR];intro p4 H4 _ e4 h4;have hq4:=e4.at hq3;have hy4:=e4.at hy;clear hq3 hy hp3 hx3;ac_rfl;intro t5 H5 _ e5 h5;have h4_5:=e5.at h4;have hq5:=e5.at hq4;have hy5:=e5.at hy4;clear h4 hq4 hy4;ac_rfl;intro l6 H6 _ e6 h6;have h4_6:=e6.at h4_5;have h5_6:=e6.at h5;have hq6:=e6.at hq5;have hy6:=e6.at hy5;clear h4_5 h5 hq5 hy5;refine gO h4_6 h6 (ay (by simp only [length_cons,length_nil];omega)) ?_;intro l7 H7 _ e7 h7;have h5_7:=e7.at h5_6;have hq7:=e7.at hq6;have hy7:=e7.at hy6;clear h4_6 h5_6 hq6 hy6 h6;ac_rfl;intro l8 H8 _ e8 h8;have h7_8:=e8.at h7;refine gO h7_8 h8 (ay (by simp only [length_append,length_cons,length_nil];omega)) ?_;rw [o6 %[0|8]];intro l9 H9 hl9 e9 h9;have e39:=e4.trans (e5.trans (e6.trans (e7.trans (e8.trans e9))));have hl9_0:H l9=none:=e03.free ((e4.trans (e5.trans (e6.trans (e7.trans e8)))).free hl9);have h5_9:=(e8.trans e9).at h5_7;have hq9:=(e8.trans e9).at hq7;have hy9:=(e8.trans e9).at hy7;clear h7 h8 h7_8 h5_7 hq7 hy7 e4 e5 e6 e7 e8 e9 hl9;ac_rfl;intro p4 H4 _ e4 h4;have hq4:=e4.at hq9;have hy4:=e4.at hy9;clear hq9 hy9;ac_rfl;intro t5' H5 _ e5 h5;have h4_5:=e5.at h4;have hq5:=e5.at hq4;clear h4 hq4 hy4;ac_rfl;intro l6 H6 _ e6 h6;have h4_6:=e6.at h4_5;have h5_6:=e6.at h5;have hq6:=e6.at hq5;clear h4_5 h5 hq5;refine gO h4_6 h6 (ay (by simp only [length_cons,length_nil];omega)) ?_;intro l7 H7 _ e7 h7;have h5_7:=e7.at h5_6;have hq7:=e7.at hq6;clear h4_6 h5_6 hq6 h6;ac_rfl;intro l8 H8 _ e8 h8;have h7_8:=e8.at h7;refine gO h7_8 h8 (ay (by simp only [length_append,length_cons,length_nil];omega)) ?_;rw [o6 %[0|8]];intro l10 H10 hl10 e9 h10;have e310:=e39.trans (e4.trans (e5.trans (e6.trans (e7.trans (e8.trans e9)))));have hl10_0:H l10=none:=(e03.trans e39).free ((e4.trans (e5.trans (e6.trans (e7.trans e8)))).free hl10);have h9_10:=(e4.trans (e5.trans (e6.trans (e7.trans (e8.trans e9))))).at h9;have h59_10:=(e4.trans (e5.trans (e6.trans (e7.trans (e8.trans e9))))).at h5_9;have h5_10:=(e8.trans e9).at h5_7;clear h7 h8 h7_8 h5_7 hq7 e4 e5 e6 e7 e8 e9 hl10 h9 h5_9;ac_rfl;intro r11 H11 _ e11 h11;have blN:=(bl ()).imp λ _ _ t=>axP.ext t (e310.trans e11);have u1:cU H11 l9 (upC cs m a):=⟨_,e11.at h9_10,by unfold upC;rw [hci ()];exact oR blN ⟨t5,rfl,e11.at h59_10⟩⟩;have u2:cU H11 l10 (loC cs m a):=⟨_,e11.at h10,by unfold loC;rw [hci ()];exact oR blN ⟨t5',rfl,e11.at h5_10⟩⟩;exact k () r11 _ H11 (e03.trans (e310.trans e11)) h11 (Al.cons' ⟨l9,rfl,hl9_0,u1⟩ (Al.cons' ⟨l10,rfl,hl10_0,u2⟩ Al.nil))
theorem Rep.len{zs:List Tm3}{g:Int}:∀ {p:List (List V)}{st:List Bx},Rep zs g st p []->st.length<=p.length
 | [],st,h=>by
  have e:st=[]:=by cases st<;>exact h
  rw [e];exact JO _
 | _::_,[],h=>h.elim
 | _::p,c::st,⟨m,h1,h2,h3⟩=>by
  have:=Rep.len h3;rw [JU] at this;rw [Kk,Kk];omega
def BxA(H:Hp)(c:Bx)(y:V):Prop:=∃ a,y=.ref a/\cU H a c
theorem dh.al{H:Hp}{cA pA:Addr}:∀ {st:List Bx}{cl:List V},dh H cA pA st cl->Al (BxA H) st.reverse cl
 | [],cl,h=>by have h':cl=[]:=h;rw [h'];exact Al.nil
 | c::st,cl,⟨cl0,y,h1,⟨a,h2,_,_,h5⟩,h3⟩=>by
  rw [h1,Mp];exact gR (dh.al h3) (Al.cons' ⟨a,h2,h5⟩ Al.nil)
theorem tR{H:Hp}{f:V->Option PyData}:∀ {cs:List Bx}{ys:List V},Al (BxA H) cs ys->aT (ys.map (eD H (eD H (eD H f))))=some (cs.map λ c=>PyData.list ((c.map λ z=>[z.1,z.2]).map λ z=>PyData.tuple (z.map PyData.int)))
 | [],ys,h=>by
  have:ys=[]:=LJ.mp h.1;rw [this];rfl
 | c::cs,[],h=>by have:=h.1;simp at this
 | c::cs,y::ys,h=>by
  obtain⟨a,rfl,ts,h1,h2⟩:=h.2 0 c y rfl rfl;have ih:=tR (H:=H) (f:=f) (cs:=cs) (ys:=ys) ⟨by have:=h.1;simpa using this,λ i z x hz hx=>h.2 (i+1) z x (by simpa using hz) (by simpa using hx)⟩
  have e1:eD H (eD H (eD H f)) (.ref a)=some (PyData.list ((c.map λ z=>[z.1,z.2]).map λ z=>PyData.tuple (z.map PyData.int))):=by
   rw [fK,h1]
   show yS (eD H (eD H f)) (.lst ts)=_
   rw [fJ,oX (Ak h2)];rfl
  rw [Km,e1,cR,ih];rfl
theorem zb{H:Hp}{f:V->Option PyData}{cs:List Bx}{ys:List V}(h:Al (BxA H) cs ys)(hn:0 < cs.length):∃ d ds,aT (ys.map (eD H (eD H (eD H f))))=some (d::ds):=by
 rw [tR h]
 cases cs with
 | nil=>simp at hn
 | cons c cs=>exact⟨_,_,rfl⟩
theorem dh.re{H:Hp}{cA pA cB:Addr}(hb:H cB=none):∀ {st:List Bx}{cl:List V},dh H cA pA st cl->dh H cB cB st cl
 | [],_,h=>h
 | _::_,_,⟨cl0,y,h1,⟨a,h2,_,_,h5⟩,h3⟩=>by
  have n:a ≠ cB:=λ e=>by obtain⟨_,h,_⟩:=h5;rw [e,hb] at h;cases h
  exact⟨cl0,y,h1,⟨a,h2,n,n,h5⟩,dh.re hb h3⟩
theorem dh.cat{H0 H:Hp}{cA cB:Addr}{more st:List Bx}{cl ys:List V}(hs:dh H cA cA st cl)(hm:zC H0 H more ys)(hmm:more=[]\/∃ a b,more=[a,b])(hb:H cB=none):dh H cB cB (more++st) (cl++ys):=by
 have hs':=hs.re hb
 rcases hmm with rfl|⟨a,b,rfl⟩
 ·have:ys=[]:=LJ.mp hm.1;rw [this,K5];exact hs'
 ·have hl:ys.length=2:=hm.1
  obtain⟨y1,y2,rfl⟩:∃ y1 y2,ys=[y1,y2]:=by
   match ys,hl with
   | [y1,y2],_=>exact⟨y1,y2,rfl⟩
  obtain⟨a1,h1,_,p1⟩:=hm.2 0 b y1 rfl rfl;obtain⟨a2,h2,_,p2⟩:=hm.2 1 a y2 rfl rfl;have n1:a1 ≠ cB:=λ e=>by obtain⟨_,h,_⟩:=p1;rw [e,hb] at h;cases h
  have n2:a2 ≠ cB:=λ e=>by obtain⟨_,h,_⟩:=p2;rw [e,hb] at h;cases h
  exact⟨cl++[y1],y2,by rw [Lw];rfl,⟨a2,h2,n2,n2,p2⟩,cl,y1,rfl,⟨a1,h1,n1,n1,p1⟩,hs'⟩
theorem zC.al{H0 H:Hp}{more:List Bx}{ys:List V}(h:zC H0 H more ys):Al (BxA H) more.reverse ys:=⟨h.1,λ i z y hz hy=>(let ⟨a,h1,_,h3⟩:=h.2 i z y hz hy;⟨a,h1,h3⟩)⟩
theorem dI.more{zs:List Tm3}{g:Int}{c:Bx}{s:List V}{more:List Bx}(h:dI zs g c s more):more=[]\/(cK zs c g=false/\∃ a b,more=[a,b]):=by
 rcases h with ⟨_,_,h⟩|⟨_,_,h⟩|⟨_,_,_,_,_,h⟩|⟨_,_,_,_,_,_,e,h⟩
 ·exact .inl h
 ·exact .inl h
 ·exact .inl h
 ·exact .inr ⟨e,_,_,h⟩
abbrev mf  (p:Addr) (g:Int) (x:Addr) (H:Hp) (Q:VK) (E:XK):Prop:=∃ (zs:List Tm3) (pp:List (List V)),gg H p zs/\cL zs/\jI H x pp/\pp.length<=60000/\Rep zs g [zs.map λ z=>z.2] pp []/\∀ (r:Addr) (H':Hp),Ext H H'->H' r=some (.lst [])->Q (.ref r) H'
def m6  : Sp:=λ vs H Q E=>∃ (p:Addr) (g:Int) (x:Addr),vs=[.ref p,.int g,.ref x,.bl true]/\(mf  p g x H Q E)
theorem wb  (p:Addr) (g:Int) (x:Addr) (H:Hp) (Q:VK) (E:XK):m6  [.ref p,.int g,.ref x,.bl true] H Q E=(mf  p g x H Q E):=rG (f:=λ (p:Addr) (g:Int) (x:Addr)=>[.ref p,.int g,.ref x,.bl true]) (λ _ _ _ _ _ _ h=>by cases h;exact⟨rfl,rfl,rfl⟩) p g x
theorem vz  {vs:List V}{H:Hp}{Q:VK}{E:XK}(h:m6  vs H Q E):vs.length=4:=rK h λ _ _ _=>rfl
theorem mw(T:Tx K mg t):bC P w K mg base CX0 4 t.a__law_left t.d__law_left ["_law_terms_here", "_law_goal", "_law_paper", "_law_bare"] m6:=by
 have G__law_behind:=%[i0|46];have G__law_ended:=%[kG|46];refine T.F__law_left.ok bY (λ vs H Q E h=>vz h) (λ c A o s H vs Q E hr h=>?_)
 ·obtain⟨p,g,x,rfl,zs,pp,⟨ts,hp,al⟩,ht,⟨ys,hx,pl⟩,hpl,rep,k⟩:=h;refine⟨_,%[%[4,bY,%[%[%[(["_law_times", "_law_low", "_law_high", "_law_terms_here", "_law_goal", "_law_paper", "_law_bare", "_law_cases", "_law_step", "_law_case", "_law_more"]),(3),(aG (aa dn) ["_law_terms_here", "_law_goal", "_law_paper", "_law_bare", "_law_cases", "_law_step", "_law_case", "_law_more"] rfl rfl nofun),rfl,%[%[0|0]|24],(λ C s₀ H₀ ex pn=>(%[(3),rfl,%[%[(0),_,(show List.Nodup (["_law_times", "_law_low", "_law_high", "_law_terms_here", "_law_goal", "_law_paper", "_law_bare", "_law_cases", "_law_step", "_law_case", "_law_more"]:List Str) from by decide +kernel),rfl,(Or.inl rfl),%[0|7]|17],%[%[(1),_,(show List.Nodup (["_law_times", "_law_low", "_law_high", "_law_terms_here", "_law_goal", "_law_paper", "_law_bare", "_law_cases", "_law_step", "_law_case", "_law_more"]:List Str) from by decide +kernel),rfl,(Or.inl rfl),%[0|7]|17],%[%[(2),_,(show List.Nodup (["_law_times", "_law_low", "_law_high", "_law_terms_here", "_law_goal", "_law_paper", "_law_bare", "_law_cases", "_law_step", "_law_case", "_law_more"]:List Str) from by decide +kernel),rfl,(Or.inl rfl),%[0|7]|17],(@aA _),∅|15],∅|15],∅|15],∅,∅|21].mono λ _ _ _ _ h=>aX h)),(λ C s₀ H₀ ex pn=>(@aM _)),(λ C s₀ H₀ ex pn=>%[%[%[1|0],%[%[2|0]|1]|1]|18]),(by intros;rfl)|25]|1]|23]|4],%[%[Ki,rfl,%[%[2|0]|24],%[5,bY|5],%[%[%[(aV hr.units),%[4|0],%[(@cX _)|23],(ae _)|14],%[%[(@dz _ _ _)|13]|12],(@ao _)|16],%[%[6,bY,(@oF _ _ _ _ _ _ _ _ _ Kc LV LU tw %[4|0] ∅ ∅)|4],%[%[7,bY,%[_law_behind,%[%[0|0],%[%[1|0],%[%[6|0],%[%[5|0]|1]|1]|1]|1]|3]|4],%[%[(PW.pt %[%[sZ,%[7|0],(@dz _ _ _),(ae _)|14],%[(PW.pt %[%[%[3|0],(by intros;rfl)|19],%[%[(ck hr.units),%[7|0],%[(@cX _)|23],(ae _)|14],%[%[%[_law_ended,%[%[0|0],%[%[1|0],%[%[6|0]|1]|1]|1]|3],(by intros;rfl)|19]|35]|32]|32])|28]|20]),%[%[(@dz _ _ _)|13]|12],(@ao _)|16],%[%[4,bY,%[ft,%[4|0],%[7|0]|9]|4]|12]|11]|11]|11]|11],(by intros;rfl)|33],%[%[%[4|0]|13]|12]|11]|11],?_⟩;rw [show start ["_law_terms_here", "_law_goal", "_law_paper", "_law_bare", "_law_cases", "_law_step", "_law_case", "_law_more"] [.ref p,.int g,.ref x,.bl true]=[some (.ref p),some (.int g),some (.ref x),some (.bl true),none,none,none,none] from rfl];clear G__law_behind G__law_ended;have h17:=ht.len;have hyl:ys.length=pp.length:=pl.1;have wk:=fq (K:=K) (R:=trP) (λ _ _ _ _ h e=>h.ext e) hp al;exists k;exists pl;exists rep;exists hyl;have htr:gg H p zs:=⟨ts,hp,al⟩;ac_rfl;refine cZ zs (λ _=>true) trP (λ D z y H'=>axP z.2 y H') wk.1 wk.2 (λ D z y H1 H2 h e=>axP.ext (a:=z.2) h e) (λ D z y H1 xs o h hD=>axP.upd (z:=z.2) h hD) (ay %[0|8]) ?_ ?_
  ·intro D z y H' N1 N0 hz hD e _ ⟨q,hy,hq⟩ k1 _;subst hy;have k1':=k1 rfl;clear k1 k wk rep pl hx hp htr;simp! only [↓tX,↓aN];intro t1 H6 ht1 e6 h6;exact k1' _ H6 e6 ⟨t1,rfl,h6⟩
  intro D zs2 H2 hD e2 h2 al2;rw [iO] at al2;have pr2:cU H2 D (zs.map λ z=>z.2):=⟨zs2,h2,jT al2⟩;clear al2 wk hD;ac_rfl;intro c3 H3 hc3 e3 h3;have hc30:H c3=none:=e2.free hc3
  have st3:dh H3 c3 c3 [zs.map λ z=>z.2] [.ref D]:=by
   have n:D ≠ c3:=λ e=>by rw [e,hc3] at h2;cases h2
   exact⟨[],.ref D,rfl,⟨D,rfl,n,n,aC pr2 e3⟩,rfl⟩
  have e03:=e2.trans e3;have hx3:=e03.at hx;clear hc3 pr2 h2 e2 e3;ac_rfl;refine dM (xs:=ys) (λ i σ H'=>∃ (st:List Bx) (ca:Addr) (cl:List V) (v5 v6 v7:Option V),σ=[some (.ref p),some (.int g),some (.ref x),some (.bl true),some (.ref ca),v5,v6,v7]/\Ext H H'/\H ca=none/\H' ca=some (.lst cl)/\dh H' ca ca st cl/\Rep zs g st (pp.drop i) []) ⟨_,c3,_,none,none,none,rfl,e03,hc30,h3,st3,rep ()⟩ (λ i σ H' _ ⟨_,_,_,_,_,_,_,e,_⟩=>e.at hx) ?_ ?_
  ·clear st3 h3 hx3 e03 hc30;rintro i y _ H5 hi ⟨st,ca,cl,v5,v6,v7,rfl,e5,hca,h5,stk,rp⟩;have hip:i < pp.length:=by have:=(JM.mp hi).1;have:=hyl ();omega
   obtain⟨sr,rfl,hsr⟩:=(pl ()).2 i pp[i] y (JJ hip) hi;have hln:=Rep.len rp;rw [Lv] at hln;rw [LF hip] at rp
   cases st with
   | nil=>exact rp.elim
   | cons c st=>
    obtain⟨more,hst,hc,rp'⟩:=rp;have hmm:=hst.more;obtain⟨cl0,y,rfl,hcy,stk'⟩:=stk;obtain⟨a,rfl,nac,_,pa⟩:=hcy;have hcl0:=stk'.len;have hsr5:=e5.at hsr;obtain⟨cl,hcl⟩:∃ cl,cl0++[V.ref a]=cl:=⟨_,rfl⟩;have stkc:dh H5 ca ca (c::st) cl:=⟨cl0,.ref a,hcl.symm,⟨a,rfl,nac,nac,pa⟩,stk'⟩;have hlen:0 < (cl.length:Int):=by rw [←hcl,JU,Kg];omega
    have hlast:cl[cl.length - 1]? = some (.ref a):=by rw [←hcl,JU,Kg,Mh,Ka (JO _),Nat.sub_self];rfl
    have hdrop:cl.dropLast=cl0:=by rw [←hcl,L7]
    rw [hcl] at h5;exists hst;exists rp';exists hmm;exists stk';exists hcl;exists hcl0;clear hi;simp! only [↓aQ];intro n6 H6 hn6 e6 h6;have stk6:=stkc.ext e6;obtain⟨dd,ds,hdd⟩:=zb (f:=eD H6 (eD H6 noD)) stk6.al (by rw [Lf,Kk];omega);have h5_6:=e6.at h5;have hsr6:=e6.at hsr5;have pa6:=aC pa e6;have stk'6:=(stk' ()).ext e6;have e06:=e5.trans e6;clear hn6 stkc stk6 h5 hsr5 stk' pa e6;have h7c:upd H6 ca (.lst cl0) ca=some (.lst cl0):=ai;have cs7:=CsV.upd (o:=.lst cl0) (c:=c) (y:=.ref a) ⟨a,rfl,nac,nac,pa6⟩ h5_6 (.inl rfl);have st7:=dh.upd (o:=.lst cl0) h5_6 (.inl rfl) stk'6;have e07:Ext H (upd H6 ca (.lst cl0)):=e06.put hca;have hsr7:upd H6 ca (.lst cl0) sr=some (.tup pp[i]):=by rw [ah (λ e=>by rw [e,h5_6] at hsr6;cases hsr6)];exact hsr6
    exists st7;exists stk'6;ac_rfl;generalize upd H6 ca (.lst cl0)=H7 at *;clear hdd h5_6 hsr6 pa6 stk'6 e06 h6 hlen hlast hdrop hcl;obtain⟨_,ha',_,_,pa7⟩:=cs7;cases ha';rw [yK];refine⟨zs,c,pp[i],more,bL htr e07,pa7,ht,hc,hsr7,hst (),λ r8 bs H8 e8 h8 beh=>?_⟩;have e08:=e07.trans e8;have h8c:=e8.at h7c;have st8:=λ (_:Unit)=>(st7 ()).ext e8;have pa8:=aC pa7 e8;have hcl1:cl0.length<=60000:=by have:=hcl0 ();rw [Kk] at hln;omega
    clear hst h7c st7 pa7 hsr7
    rcases hmm () with rfl|⟨hee,b1,b2,rfl⟩
    ·have hbs:bs=[]:=LJ.mp beh.1;subst hbs;exists beh;clear hmm;ac_rfl;intro n9 H9 _ e9 h9;have h8_9:=e9.at h8;have h8c9:=e9.at h8c;have st9:=λ (_:Unit)=>(st8 ()).ext e9;have e09:=e08.trans e9;clear h8 h8c st8;ac_rfl;refine⟨jR %[0|8],?_⟩;intro c12 H12 hc12 e12 h12;have hcn:H c12=none:=e09.free hc12;have stN:=(dh.cat (st9 ()) (show zC H7 H9 [] [] from Al.nil) (.inl rfl) hc12).ext e12;rw [K5] at stN;have eN:=e09.trans e12;exists stN;clear hc12 e12;ac_rfl;exact⟨_,c12,_,_,_,_,rfl,eN,hcn,h12,stN (),rp' ()⟩
    ·have hbl:bs.length=2:=beh.1;exists beh;clear hmm;ac_rfl;intro n9 H9 _ e9 h9;have h8_9:=e9.at h8;have h8c9:=e9.at h8c;have st9:=λ (_:Unit)=>(st8 ()).ext e9;have e09:=e08.trans e9;have beh9:zC H7 H9 [b1,b2] bs:=(beh ()).imp λ _ _ ⟨a,h1,h2,h3⟩=>⟨a,h1,h2,aC h3 e9⟩;obtain⟨dd,ds,hdd⟩:=zb (f:=eD H9 (eD H9 noD)) beh9.al (show 0 < [b2,b1].length by simp);exists beh9;clear h8 h8c st8 beh;ac_rfl;rw [yJ];refine⟨zs,c,bL htr e09,aC pa8 e9,ht,hc,λ H10 e10=>?_⟩;rw [hee];have h8_10:=e10.at h8_9;have h8c10:=e10.at h8c9;have st10:=λ (_:Unit)=>(st9 ()).ext e10;have e010:=e09.trans e10;have beh10:zC H7 H10 [b1,b2] bs:=(beh9 ()).imp λ _ _ ⟨a,h1,h2,h3⟩=>⟨a,h1,h2,aC h3 e10⟩;exists beh10;clear hdd beh9 st9 h8_9 h8c9 h9;ac_rfl;refine⟨jR %[0|8],?_⟩;intro c12 H12 hc12 e12 h12;have hcn:H c12=none:=e010.free hc12;have stN:=(dh.cat (st10 ()) (beh10 ()) (.inr ⟨_,_,rfl⟩) hc12).ext e12;have eN:=e010.trans e12;exists stN;clear hc12 e12;ac_rfl;exact⟨_,c12,_,_,_,_,rfl,eN,hcn,h12,stN (),rp' ()⟩
  ·rintro _ H5 ⟨st,ca,cl,v5,v6,v7,rfl,e5,hca,h5,stk,rp⟩;rw [hyl (),Mw] at rp
   have hs0:st=[]:=by cases st<;>exact rp
   subst hs0;have hcl:cl=[]:=stk;subst hcl;have k':=k () ca H5 e5 h5;clear k rp stk;ac_rfl
abbrev jA  (x:Addr) (p:Addr) (g:Int) (m:Int) (H:Hp) (Q:VK) (E:XK):Prop:=∃ (zs:List Tm3) (pp:List (List V)) (a1:Addr),H x=some (.tup [.str "apart",.ref a1])/\jI H a1 pp/\gg H p zs/\cL zs/\(pp.length:Int)<=m/\pp.length<=60000/\Rep zs g [zs.map λ z=>z.2] pp []/\∀ H',Ext H H'->Q (.bl true) H'
def j1  : Sp:=λ vs H Q E=>∃ (x:Addr) (p:Addr) (g:Int) (m:Int),vs=[.ref x,.ref p,.int g,.int m]/\(jA  x p g m H Q E)
theorem rh  (x:Addr) (p:Addr) (g:Int) (m:Int) (H:Hp) (Q:VK) (E:XK):j1  [.ref x,.ref p,.int g,.int m] H Q E=(jA  x p g m H Q E):=yO (f:=λ (x:Addr) (p:Addr) (g:Int) (m:Int)=>[.ref x,.ref p,.int g,.int m]) (λ _ _ _ _ _ _ _ _ h=>by cases h;exact⟨rfl,rfl,rfl,rfl⟩) x p g m
theorem qN  {vs:List V}{H:Hp}{Q:VK}{E:XK}(h:j1  vs H Q E):vs.length=4:=yP h λ _ _ _ _=>rfl
theorem kH(T:Tx K mg t):bC P w K mg base CX0 5 t.a__law_apart t.d__law_apart ["_law_found", "_law_terms_here", "_law_goal", "_law_most"] j1:=by
 have G__law_left:=%[mw|46];refine T.F__law_apart.ok mI (λ vs H Q E h=>qN h) (λ c A o s H vs Q E hr h=>?_)
 ·obtain⟨x,p,g,m,rfl,zs,pp,a1,hx,⟨ys,h1,pl⟩,htr,ht,hm,h4,rep,k⟩:=h;refine⟨_,%[%[(PW.pt %[%[%[%[isinstance,aI,%[%[0|0],%[%[(.ty "tuple"),(.type "tuple"),_,∅,T.z_tuple,nofun,rfl,⋯,⋯|30]|1]|1]|6],(by intros;rfl)|19]|22],%[%[(ck hr.units),%[len,ar,%[%[0|0]|1]|6],%[0|2],(ae _)|14],%[%[(ck hr.units),%[az,%[0|0],%[0|2],(λ _ _=>rfl)|10],(@br _ _ _ _),(ae _)|14],%[%[%[%[isinstance,aI,%[%[az,%[0|0],%[0|2],(λ _ _=>rfl)|10],%[%[(.ty "list"),(.type "list"),_,∅,T.z_list,nofun,rfl,⋯,⋯|30]|1]|1]|6],(by intros;rfl)|19]|22]|28]|20]|20]|20]),%[%[(@cV _ _ _ _)|13]|12],(@ao _)|16],%[%[%[%[iV,%[len,ar,%[%[az,%[0|0],%[0|2],(λ _ _=>rfl)|10]|1]|6],%[3|0],(ae _)|27],%[%[(aV hr.units),%[_law_left,%[%[1|0],%[%[2|0],%[%[az,%[0|0],%[0|2],(λ _ _=>rfl)|10],%[(@cV _ _ _ _)|1]|1]|1]|1]|3],%[(@cX _)|23],(ae _)|27]|34]|31]|13]|12]|11],?_⟩;rw [show start ["_law_found", "_law_terms_here", "_law_goal", "_law_most"] [.ref x,.ref p,.int g,.int m]=[some (.ref x),some (.ref p),some (.int g),some (.int m)] from rfl];clear G__law_left;have hyl:ys.length=pp.length:=pl.1;have hml:(ys.length:Int)<=m:=by omega
  have sq9:(Str.ofString "apart" == Str.ofString "apart")=true:=by decide +kernel
  have pap:jI H a1 pp:=⟨ys,h1,pl⟩;exists k;exists rep;exists pap;exists hyl;clear pl;ac_rfl;rw [wb];refine⟨zs,pp,htr,ht,pap (),h4,rep (),λ r2 H2 e2 h2=>?_⟩;clear hx h1;ac_rfl;intro r3 H3 _ e3 h3;have h2_3:=e3.at h2;have k':=k () H3 (e2.trans e3);clear k h2;ac_rfl
theorem x6{xs:List V}{n:Int}{H:Hp}{Q:VK}(h0:1<=n)(h1:n<=xs.length)(q:gB (.tup (xs.drop n.toNat)) H Q):Gs (some n) none H Q xs:=by
 obtain⟨k,rfl⟩:=Kq (show 0<=n by omega);refine⟨λ e=>?_,?_⟩
 ·have:=e.1;rw [HT.sIx_nat] at this;omega
 ·rw [pH xs _ (show (0:Int)<=(k:Int) by omega)];exact q
abbrev jB  (x:Addr) (wd:Str) (m:Int) (H:Hp) (Q:VK) (E:XK):Prop:=∃ (z:Str) (ns:List Int),H x=some (.tup (.str z::ns.map V.int))/\ns.length<=5/\∀ H',Ext H H'->Q (.bl (decide ((ns.length:Int)=m) && (z == wd))) H'
def j2  : Sp:=λ vs H Q E=>∃ (x:Addr) (wd:Str) (m:Int),vs=[.ref x,.str wd,.int m]/\(jB  x wd m H Q E)
theorem aY  (x:Addr) (wd:Str) (m:Int) (H:Hp) (Q:VK) (E:XK):j2  [.ref x,.str wd,.int m] H Q E=(jB  x wd m H Q E):=rG (f:=λ (x:Addr) (wd:Str) (m:Int)=>[.ref x,.str wd,.int m]) (λ _ _ _ _ _ _ h=>by cases h;exact⟨rfl,rfl,rfl⟩) x wd m
theorem qO  {vs:List V}{H:Hp}{Q:VK}{E:XK}(h:j2  vs H Q E):vs.length=3:=rK h λ _ _ _=>rfl
theorem jl(T:Tx K mg t):bC P w K mg base CX0 2 t.a_is_step t.d_is_step ["thing", "word", "many"] j2:=by
 have G_is_whole:=%[cp|46];refine T.F_is_step.ok wj (λ vs H Q E h=>qO h) (λ c A o s H vs Q E hr h=>?_)
 ·obtain⟨x,wd,m,rfl,z,ns,hx,hn,k⟩:=h;refine⟨_,%[%[(PW.pt %[%[%[%[isinstance,aI,%[%[0|0],%[%[(.ty "tuple"),(.type "tuple"),_,∅,T.z_tuple,nofun,rfl,⋯,⋯|30]|1]|1]|6],(by intros;rfl)|19]|22],%[%[(ck hr.units),%[len,ar,%[%[0|0]|1]|6],%[aD,%[2|0],%[0|2]|9],(ae _)|14],%[%[%[%[isinstance,aI,%[%[az,%[0|0],%[0|2],(λ _ _=>rfl)|10],%[%[(.ty "str"),(.type "str"),_,∅,T.z_str,nofun,rfl,⋯,⋯|30]|1]|1]|6],(by intros;rfl)|19]|22]|28]|20]|20]),%[%[(@cV _ _ _ _)|13]|12],(@ao _)|16],%[%[%[%[(aV hr.units),%[az,%[0|0],%[0|2],(λ _ _=>rfl)|10],%[1|0],(ae _)|27],%[%[all,(ia rfl),%[%[(["number", "thing", "word", "many"]),(1),(aG (aa fb) ["thing", "word", "many"] rfl rfl nofun),rfl,%[%[GV,%[0|0],(@eG _ _ _ %[0|2]),(@eI _)|39]|24],(λ C s₀ H₀ ex pn=>%[(0),_,(show List.Nodup (["number", "thing", "word", "many"]:List Str) from by decide +kernel),rfl,(Or.inl rfl),%[0|7]|17]),(λ C s₀ H₀ ex pn=>(@aM _)),(λ C s₀ H₀ ex pn=>%[is_whole,%[%[0|0]|1]|3]),(by intros;rfl)|25]|1]|6]|34]|31]|13]|12]|11],?_⟩;rw [show start ["thing", "word", "many"] [.ref x,.str wd,.int m]=[some (.ref x),some (.str wd),some (.int m)] from rfl];clear G_is_whole;exists k;have hcast:((ns.length+1:Nat):Int)=(ns.length:Int)+1:=by omega
  by_cases hm:(ns.length:Int)=m
  ·have hm2:(ns.length:Int)+1=m+1:=by omega
   by_cases hz:z=wd
   ·subst hz;ac_rfl;refine x6 ⋯ (by rw [Kk];omega) ?_;intro t1 H1 _ e1 h1;have h1':H1 t1=some (.tup (ns.map V.int)):=h1;have wk:=Dz (K:=K) h1';clear h1 hx;ac_rfl;refine bc (ns.map V.int) (λ _=>true) (λ _=>.bl true) (λ z y H'=>y=z/\H' t1=some (.tup (ns.map V.int))) wk.1 wk.2 (ay (by rw [JT];omega)) ?_ ?_
    ·intro D v y H' N1 N0 hv hD e ⟨hy,_⟩ k1 _;subst hy;obtain⟨n,_,rfl⟩:=J8.mp hv;have k1':N1 (.bl true) H':=k1 rfl H' (Ext.refl _);clear k1 hv wk;simp! only [↓bE,↓aN,↓bR]
    ·intro D H2 hD e2 h2;have k':=k () H2 (e1.trans e2);rw [J3 hm,Mt,Bool.and_true] at k';have hbl:(((ns.map V.int).filter λ _=>true).map λ _=>V.bl true)=(ns.map λ _=>true).map V.bl:=by rw [iO,KG,KG];rfl
     have hall:((ns.map λ _=>true).all id)=true:=by rw [List.all_map];exact Ls.mpr λ _ _=>rfl
     rw [hbl] at h2;clear k wk hbl;ac_rfl
   ·have k':=k () H (Ext.refl _);rw [beq_false_of_ne hz,Ma] at k';clear k;ac_rfl
  ·have k':=k () H (Ext.refl _);have hm2:¬ (ns.length:Int)+1=m+1:=by omega
   rw [J1 hm,Bool.false_and] at k';clear k;ac_rfl
abbrev jE  (p:Addr) (q:Addr) (d:Int) (H:Hp) (Q:VK) (E:XK):Prop:=∃ (zs:List Tm3) (cs:List (Int × Int)),gg H p zs/\cU H q cs/\cL zs/\cJ zs cs/\2<=d/\(∀ n∈b5 zs cs,d ∣ n)/\∀ H',Ext H H'->Q (.bl true) H'
def j8  : Sp:=λ vs H Q E=>∃ (p:Addr) (q:Addr) (d:Int),vs=[.ref p,.ref q,.int d]/\(jE  p q d H Q E)
theorem rj  (p:Addr) (q:Addr) (d:Int) (H:Hp) (Q:VK) (E:XK):j8  [.ref p,.ref q,.int d] H Q E=(jE  p q d H Q E):=rG (f:=λ (p:Addr) (q:Addr) (d:Int)=>[.ref p,.ref q,.int d]) (λ _ _ _ _ _ _ h=>by cases h;exact⟨rfl,rfl,rfl⟩) p q d
theorem qR  {vs:List V}{H:Hp}{Q:VK}{E:XK}(h:j8  vs H Q E):vs.length=3:=rK h λ _ _ _=>rfl
theorem iX(T:Tx K mg t):bC P w K mg base CX0 1 t.a_divides_all t.d_divides_all ["terms", "case", "number"] j8:=by
 refine T.F_divides_all.ok kR (λ vs H Q E h=>qR h) (λ c A o s H vs Q E hr h=>?_)
 ·obtain⟨p,q,d,rfl,zs,cs,⟨ys,hp,al⟩,⟨xs,hq,bl⟩,ht,hc,hd,hdv,k⟩:=h;refine⟨_,%[%[%[all,(ia rfl),%[%[(["term", "bounds", "terms", "case", "number"]),(2),(aG (aa cg) ["terms", "case", "number"] rfl rfl nofun),rfl,%[∅,T.z_zip,%[%[0|0],%[%[1|0]|1]|1],∅,∅|38],(λ C s₀ H₀ ex pn=>(%[(2),rfl,%[%[(0),_,(show List.Nodup (["term", "bounds", "terms", "case", "number"]:List Str) from by decide +kernel),rfl,(Or.inl rfl),%[0|7]|17],%[%[(1),_,(show List.Nodup (["term", "bounds", "terms", "case", "number"]:List Str) from by decide +kernel),rfl,(Or.inl rfl),%[0|7]|17],(@aA _),∅|15],∅|15],∅,∅|21].mono λ _ _ _ _ h=>aX h)),(λ C s₀ H₀ ex pn=>(@nh _ _ _ %[cj,%[az,%[1|0],%[0|2],(λ _ _=>rfl)|10],%[az,%[1|0],%[0|2],(λ _ _=>rfl)|10],(ae _)|14])),(λ C s₀ H₀ ex pn=>%[(aV hr.units),%[aS,%[az,%[0|0],%[0|2],(λ _ _=>rfl)|10],%[4|0]|9],%[0|2],(ae _)|27]),(by intros;rfl)|25]|1]|6]|13]|12],?_⟩;rw [show start ["terms", "case", "number"] [.ref p,.ref q,.int d]=[some (.ref p),some (.ref q),some (.int d)] from rfl];have hd0:0 < d:=by omega
  have hdm:∀ z∈zs.zip cs,z.2.1 < z.2.2->z.1.1 % d=0:=λ z hz hlt=>LM (hdv _ (by
   unfold b5;exact List.mem_map.mpr ⟨z,List.mem_filter.mpr ⟨hz,decide_eq_true hlt⟩,rfl⟩))
  exists k;exists hdm;clear hdv;ac_rfl;have wk:=jJ (R1:=trP) (R2:=axP) (λ _ _ _ _ h e=>h.ext e) (λ _ _ _ _ h e=>h.ext e) hp hq al bl;refine bc (zs.zip cs) (λ z=>decide (z.2.1 < z.2.2)) (λ _=>.bl true) (zy trP axP) wk.1 wk.2 (ay (by have:=ht.len;rw [KI];omega)) ?_ ?_
  ·intro D z y H' N1 N0 hz hD e ⟨u,q1,q2,hu,hu2,⟨r1,h1,h1'⟩,⟨r2,h2,h2'⟩⟩ k1 k0;subst hu h1 h2
   by_cases hlt:z.2.1 < z.2.2
   ·have k1':N1 (.bl true) H':=k1 (J3 hlt) H' (Ext.refl _);have hz0:=hdm () z hz hlt;clear k1 k0 k hdm;simp! only [↓bM,↓aN]
   ·have k0':N0 H':=k0 (J1 hlt) H' (Ext.refl _);clear k1 k0 k hdm;simp! only [↓bM,↓aN]
  ·intro D H' hD e hD';have hbl:∀ l:List (Tm3 × (Int × Int)),(l.map λ _=>V.bl true)=(l.map λ _=>true).map V.bl:=λ l=>by rw [KG];rfl
   rw [hbl] at hD';have hall:∀ l:List (Tm3 × (Int × Int)),((l.map λ _=>true).all id)=true:=λ l=>by rw [List.all_map];exact Ls.mpr λ _ _=>rfl
   have hall':=hall ((zs.zip cs).filter λ z=>decide (z.2.1 < z.2.2));generalize ((zs.zip cs).filter λ z=>decide (z.2.1 < z.2.2)).map (λ _=>true)=bs at *;have k':=k () H' e;clear k wk hbl hall hdm;ac_rfl
abbrev jD  (p:Addr) (g:Int) (q:Addr) (x:Addr) (H:Hp) (Q:VK) (E:XK):Prop:=∃ (zs:List Tm3) (cs:List (Int × Int)) (ss:List V),gg H p zs/\cU H q cs/\cL zs/\cJ zs cs/\H x=some (.tup ss)/\dI zs g cs ss []/\∀ H',Ext H H'->Q (.bl true) H'
def j7  : Sp:=λ vs H Q E=>∃ (p:Addr) (g:Int) (q:Addr) (x:Addr),vs=[.ref p,.int g,.ref q,.ref x]/\(jD  p g q x H Q E)
theorem fN  (p:Addr) (g:Int) (q:Addr) (x:Addr) (H:Hp) (Q:VK) (E:XK):j7  [.ref p,.int g,.ref q,.ref x] H Q E=(jD  p g q x H Q E):=yO (f:=λ (p:Addr) (g:Int) (q:Addr) (x:Addr)=>[.ref p,.int g,.ref q,.ref x]) (λ _ _ _ _ _ _ _ _ h=>by cases h;exact⟨rfl,rfl,rfl,rfl⟩) p g q x
theorem qQ  {vs:List V}{H:Hp}{Q:VK}{E:XK}(h:j7  vs H Q E):vs.length=4:=yP h λ _ _ _ _=>rfl
theorem qo(T:Tx K mg t):bC P w K mg base CX0 3 t.a_ends_by t.d_ends_by ["terms", "goal", "case", "step"] j7:=by
 have G_least_sum:=%[cE|46];have G_greatest_sum:=%[bW|46];have G_is_step:=%[jl|46];have G_divides_all:=%[iX|46];refine T.F_ends_by.ok lS (λ vs H Q E h=>qQ h) (λ c A o s H vs Q E hr h=>?_)
 ·obtain⟨p,g,q,x,rfl,zs,cs,ss,hp,hq,ht,hc,hx,hs,k⟩:=h;refine⟨_,%[%[4,lS,%[least_sum,%[%[0|0],%[%[2|0]|1]|1]|3]|4],%[%[%[%[is_step,%[%[3|0],%[(@br _ _ _ _),%[%[0|2]|1]|1]|1]|3],(by intros;rfl)|19],%[%[%[cW,%[4|0],%[1|0],(ae _)|27]|13]|12],(@ao _)|16],%[%[%[%[is_step,%[%[3|0],%[(@br _ _ _ _),%[%[0|2]|1]|1]|1]|3],(by intros;rfl)|19],%[%[%[cj,%[greatest_sum,%[%[0|0],%[%[2|0]|1]|1]|3],%[1|0],(ae _)|27]|13]|12],(@ao _)|16],%[%[(PW.pt %[%[%[is_step,%[%[3|0],%[(@br _ _ _ _),%[%[0|2]|1]|1]|1]|3],(by intros;rfl)|19],%[%[zN,%[az,%[3|0],%[0|2],(λ _ _=>rfl)|10],%[0|2],(ae _)|14]|35]|32]),%[%[%[%[divides_all,%[%[0|0],%[%[2|0],%[%[az,%[3|0],%[0|2],(λ _ _=>rfl)|10]|1]|1]|1]|3],%[%[(ck hr.units),%[aS,%[aE,%[1|0],%[4|0]|9],%[az,%[3|0],%[0|2],(λ _ _=>rfl)|10]|9],%[0|2],(ae _)|27]|34]|31]|13]|12],(@ao _)|16],%[%[(@cV _ _ _ _)|13]|12]|11]|11]|11]|11],?_⟩;rw [show start ["terms", "goal", "case", "step", "least"] [.ref p,.int g,.ref q,.ref x]=[some (.ref p),some (.int g),some (.ref q),some (.ref x),none] from rfl];clear G_least_sum G_greatest_sum G_is_step G_divides_all;exists k;have q1:((Str.ofString "low":Str) == Str.ofString "low")=true:=by decide +kernel
  have q2:((Str.ofString "high":Str) == Str.ofString "low")=false:=by decide +kernel
  have q3:((Str.ofString "high":Str) == Str.ofString "high")=true:=by decide +kernel
  have q4:((Str.ofString "rest":Str) == Str.ofString "rest")=true:=by decide +kernel
  rcases hs with ⟨rfl,hs,_⟩|⟨rfl,hs,_⟩|⟨d,rfl,hd,hdv,hs,_⟩|⟨m,a,rfl,hm,ha1,ha2,hs,hm⟩
  ·ac_rfl;rw [ei];refine⟨zs,cs,hp,hq,ht,hc,λ H1 e1=>?_⟩;have hx1:=e1.at hx;ac_rfl;rw [aY];refine⟨"low",[],hx1,by decide,λ H2 e2=>?_⟩;rw [show (decide ((([]:List Int).length:Int)=0) && (("low":Str) == Str.ofString "low"))=true by rw [q1];rfl];have k':=k () H2 (e1.trans e2);clear k hx hx1;ac_rfl
  ·ac_rfl;rw [ei];refine⟨zs,cs,hp,hq,ht,hc,λ H1 e1=>?_⟩;have hx1:=e1.at hx;ac_rfl;rw [aY];refine⟨"high",[],hx1,by decide,λ H2 e2=>?_⟩;rw [show (decide ((([]:List Int).length:Int)=0) && (("high":Str) == Str.ofString "low"))=false by rw [q2];rfl];have hx2:=e2.at hx1;clear hx hx1;ac_rfl;rw [aY];refine⟨"high",[],hx2,by decide,λ H3 e3=>?_⟩;rw [show (decide ((([]:List Int).length:Int)=0) && (("high":Str) == Str.ofString "high"))=true by rw [q3];rfl];have e03:=e1.trans (e2.trans e3);clear hx2;ac_rfl;rw [gA];refine⟨zs,cs,bL hp e03,aC hq e03,ht,hc,λ H4 e4=>?_⟩;have k':=k () H4 (e03.trans e4);clear k;ac_rfl
  ·exists hdv;ac_rfl;rw [ei];refine⟨zs,cs,hp,hq,ht,hc,λ H1 e1=>?_⟩;have hx1:=e1.at hx;ac_rfl;rw [aY];refine⟨"rest",[d],hx1,by simp,λ H2 e2=>?_⟩;rw [show (decide ((([d]:List Int).length:Int)=0) && (("rest":Str) == Str.ofString "low"))=false by rfl];have hx2:=e2.at hx1;clear hx hx1;ac_rfl;rw [aY];refine⟨"rest",[d],hx2,by simp,λ H3 e3=>?_⟩;rw [show (decide ((([d]:List Int).length:Int)=0) && (("rest":Str) == Str.ofString "high"))=false by rfl];have hx3:=e3.at hx2;clear hx2;ac_rfl;rw [aY];refine⟨"rest",[d],hx3,by simp,λ H4 e4=>?_⟩;rw [show (decide ((([d]:List Int).length:Int)=1) && (("rest":Str) == Str.ofString "rest"))=true by rw [q4];rfl];have hx4:=e4.at hx3;have e04:=e1.trans (e2.trans (e3.trans e4));clear hx3;ac_rfl;rw [rj];refine⟨zs,cs,bL hp e04,aC hq e04,ht,hc,hd,hdv (),λ H5 e5=>?_⟩;have hx5:=e5.at hx4;have k':=k () H5 (e04.trans e5);have hd0:0 < d:=by omega
   have hs2:¬ (g - bp zs cs) % d=0:=by omega
   clear k hx4 hdv;ac_rfl
  ·cases hm
abbrev iF  (q:Addr) (x:Addr) (H:Hp) (Q:VK) (E:XK):Prop:=∃ (zs:List Tm3) (g:Int) (cs:Bx) (ss:List V) (more:List Bx),cU H q cs/\cL zs/\cJ zs cs/\H x=some (.tup ss)/\dI zs g cs ss more/\∀ H',Ext H H'->Q (.bl (decide (0 < more.length))) H'
def gU  : Sp:=λ vs H Q E=>∃ (q:Addr) (x:Addr),vs=[.ref q,.ref x]/\(iF  q x H Q E)
theorem nY  (q:Addr) (x:Addr) (H:Hp) (Q:VK) (E:XK):gU  [.ref q,.ref x] H Q E=(iF  q x H Q E):=rH (f:=λ (q:Addr) (x:Addr)=>[.ref q,.ref x]) (λ _ _ _ _ h=>by cases h;exact⟨rfl,rfl⟩) q x
theorem nQ  {vs:List V}{H:Hp}{Q:VK}{E:XK}(h:gU  vs H Q E):vs.length=2:=rL h λ _ _=>rfl
theorem nE(T:Tx K mg t):bC P w K mg base CX0 3 t.a_parts_by t.d_parts_by ["case", "step"] gU:=by
 have G_is_step:=%[jl|46];refine T.F_parts_by.ok rk (λ vs H Q E h=>nQ h) (λ c A o s H vs Q E hr h=>?_)
 ·obtain⟨q,x,rfl,zs,g,cs,ss,more,hq,ht,hc,hx,hs,k⟩:=h;refine⟨_,%[%[(PW.pt %[%[%[%[is_step,%[%[1|0],%[(@br _ _ _ _),%[%[0|2]|1]|1]|1]|3],(by intros;rfl)|19]|22],%[%[%[iV,cj,%[0|2],%[az,%[1|0],%[0|2],(λ _ _=>rfl)|10],%[len,ar,%[%[0|0]|1]|6],∅|45]|22]|28]|20]),%[%[(@cV _ _ _ _)|13]|12],(@ao _)|16],%[%[(@lC _ _ _ _ _ _ _ _ _ _ _ _ iV cj %[az,%[az,%[0|0],%[az,%[1|0],%[0|2],(λ _ _=>rfl)|10],(λ _ _=>rfl)|10],%[0|2],(λ _ _=>rfl)|10] %[az,%[1|0],%[0|2],(λ _ _=>rfl)|10] %[az,%[az,%[0|0],%[az,%[1|0],%[0|2],(λ _ _=>rfl)|10],(λ _ _=>rfl)|10],%[0|2],(λ _ _=>rfl)|10] ∅)|13]|12]|11],?_⟩;rw [show start ["case", "step"] [.ref q,.ref x]=[some (.ref q),some (.ref x)] from rfl];clear G_is_step;exists k;have q4:((Str.ofString "part":Str) == Str.ofString "part")=true:=by decide +kernel
  rcases hs with ⟨rfl,hs,rfl⟩|⟨rfl,hs,rfl⟩|⟨d,rfl,hd,hdv,hs,rfl⟩|⟨m,a,rfl,hm,ha1,ha2,hs,rfl⟩
  ·ac_rfl;rw [aY];refine⟨"low",[],hx,by decide,λ H2 e2=>?_⟩;rw [show (decide ((([]:List Int).length:Int)=2) && (("low":Str) == Str.ofString "part"))=false by rfl];have k':Q (.bl false) H2:=k () H2 e2;clear k;ac_rfl
  ·ac_rfl;rw [aY];refine⟨"high",[],hx,by decide,λ H2 e2=>?_⟩;rw [show (decide ((([]:List Int).length:Int)=2) && (("high":Str) == Str.ofString "part"))=false by rfl];have k':Q (.bl false) H2:=k () H2 e2;clear k;ac_rfl
  ·ac_rfl;rw [aY];refine⟨"rest",[d],hx,by simp,λ H2 e2=>?_⟩;rw [show (decide ((([d]:List Int).length:Int)=2) && (("rest":Str) == Str.ofString "part"))=false by rfl];have k':Q (.bl false) H2:=k () H2 e2;clear k hdv;ac_rfl
  ·ac_rfl;rw [aY];refine⟨"part",[(m:Int),a],hx,by simp,λ H2 e2=>?_⟩;rw [show (decide ((([(m:Int),a]:List Int).length:Int)=2) && (("part":Str) == Str.ofString "part"))=true by rw [q4];rfl];have k':Q (.bl true) H2:=k () H2 e2;obtain⟨xs,hq2,bl⟩:=aC hq e2;have hx2:=e2.at hx;have hxl:xs.length=cs.length:=bl.1;have hmc:m < cs.length:=by have:=hc.len;omega
   obtain⟨y,hat,hy⟩:=eW bl hmc;rw [Kv] at hat;have hm0:(0:Int)<=(m:Int):=by omega
   have hm1:(m:Int) < (cs.length:Int):=by omega
   generalize cs.getD m default=ci at *;clear k bl hx;ac_rfl
theorem Rep.no{zs:List Tm3}{g:Int}(hz:∀ z∈zs,(0:Int)<=z.1):∀ {p:List (List V)}{st:List Bx},Rep zs g st p []->∀ c∈st,∀ xs,InB c xs->i9 zs xs ≠ g
 | [],st,h,c,hc,_,_=>by
  have e:st=[]:=by cases st<;>exact h
  rw [e] at hc;cases hc
 | _::_,[],h,_,_,_,_=>h.elim
 | s::p,d::st,⟨more,h1,hd,h3⟩,c,hc,xs,hx=>by
  have ih:=Rep.no hz h3
  rcases J9.mp hc with rfl|hc
  ·obtain⟨b1,b2⟩:=ic hz hd.len hx
   rcases h1 with ⟨_,hs,_⟩|⟨_,hs,_⟩|⟨d,_,h2,hdv,hs,_⟩|⟨k,a,_,hk,_,_,_,rfl⟩
   ·omega
   ·omega
   ·intro e;have:=o9 d hd.len hx hdv;rw [e] at this;rw [LM this] at hs;omega
   ·rcases tU (k:=k) (a:=a) (by rw [hd.len];exact hk) hx with h|h
    ·exact ih _ (KA _ (JN _ JP)) xs h
    ·exact ih _ (KA _ JP) xs h
  ·exact ih c (Kf _ hc) xs hx
abbrev iH(C:Addr)(u:Addr)(v:Addr)(x:Addr)(H:Hp)(Q:VK)(E:XK):Prop:=∃ (room f1 f2:Int) (A B:List (Int × Int)) (pp:List (List V)),bf C H u room f1 A/\bf C H v room f2 B/\mK A/\mK B/\jI H x pp/\pp.length<=60000/\(∀ ks,iP ks (aj A B)->cL (ag ks (aj A B))/\Rep (ag ks (aj A B)) (f2 - f1) [(ag ks (aj A B)).map λ z=>z.2] pp [])/\∀ H',Ext H H'->Q (.bl true) H'
def gX(C:Addr):Sp:=λ vs H Q E=>∃ (u:Addr) (v:Addr) (x:Addr),vs=[.ref u,.ref v,.ref x]/\(iH C u v x H Q E)
theorem oa(C:Addr)(u:Addr)(v:Addr)(x:Addr)(H:Hp)(Q:VK)(E:XK):gX C [.ref u,.ref v,.ref x] H Q E=(iH C u v x H Q E):=rG (f:=λ (u:Addr) (v:Addr) (x:Addr)=>[.ref u,.ref v,.ref x]) (λ _ _ _ _ _ _ h=>by cases h;exact⟨rfl,rfl,rfl⟩) u v x
theorem nS(C:Addr){vs:List V}{H:Hp}{Q:VK}{E:XK}(h:gX C vs H Q E):vs.length=3:=rK h λ _ _ _=>rfl
theorem nG(T:Tx K mg t):bC P w K mg base CX0 5 t.a_is_apart t.d_is_apart ["one", "other", "paper"] (gX t.a_View):=by
 have G_gathered:=%[iq|46];have G_first_case:=%[fg|46];have G_parts_by:=%[nE|46];have G_ends_by:=%[qo|46];have G_parted:=%[lE|46];refine T.F_is_apart.ok df (λ vs H Q E h=>nS _ h) (λ cdv A' outer s H vs Q E hr h=>?_)
 ·obtain⟨u,v,x,rfl,room,f1,f2,A,B,pp,vu,vv,hA,hB,⟨ys,hx,pl⟩,hpl,sh,k⟩:=h;refine⟨_,%[%[3,df,%[gathered,%[%[0|0],%[%[1|0]|1]|1]|3]|4],%[%[%[%[%[isinstance,aI,%[%[2|0],%[%[(.ty "list"),(.type "list"),_,∅,T.z_list,nofun,rfl,⋯,⋯|30]|1]|1]|6],(by intros;rfl)|19]|22],%[%[(@cV _ _ _ _)|13]|12],(@ao _)|16],%[%[4,df,%[%[%[first_case,%[%[az,%[3|0],%[0|2],(λ _ _=>rfl)|10]|1]|3]|1]|23]|4],%[%[Ki,rfl,%[%[2|0]|24],%[5,df|5],%[%[%[(aV hr.units),%[len,ar,%[%[4|0]|1]|6],%[0|2],(ae _)|14],%[%[(@cV _ _ _ _)|13]|12],(@ao _)|16],%[%[6,df,(@oF _ _ _ _ _ _ _ _ _ Kc LV LU tw %[4|0] ∅ ∅)|4],%[%[%[%[parts_by,%[%[6|0],%[%[5|0]|1]|1]|3],(by intros;rfl)|19],%[(@dJ _ _ _ _ %[Kc,PySem.F.slot_list_extend,PySem.F.type_list_extend,lG,%[4|0],%[%[parted,%[%[6|0],%[%[az,%[5|0],%[0|2],(λ _ _=>rfl)|10],%[%[az,%[5|0],%[0|2],(λ _ _=>rfl)|10]|1]|1]|1]|3]|1],∅,∅,∅,∅,∅|42] ∅)|12],%[%[%[%[%[ends_by,%[%[az,%[3|0],%[0|2],(λ _ _=>rfl)|10],%[%[az,%[3|0],%[0|2],(λ _ _=>rfl)|10],%[%[6|0],%[%[5|0]|1]|1]|1]|1]|3],(by intros;rfl)|19]|22],%[%[(@cV _ _ _ _)|13]|12],(@ao _)|16]|12]|16]|12]|11]|11],(by intros;rfl)|33],%[%[%[(aV hr.units),%[len,ar,%[%[4|0]|1]|6],%[0|2],(ae _)|27]|13]|12]|11]|11]|11]|11],?_⟩;rw [show start ["one", "other", "paper", "found", "cases", "step", "case"] [.ref u,.ref v,.ref x]=[some (.ref u),some (.ref v),some (.ref x),none,none,none,none] from rfl];clear G_gathered G_first_case G_parts_by G_ends_by G_parted;have hyl:ys.length=pp.length:=pl.1;exists k;exists sh;exists pl;exists hyl;ac_rfl;rw [pK];refine⟨room,f1,f2,A,B,vu,vv,hA,hB,λ ks l r0 H1 e1 hr1 t1 ko=>?_⟩;obtain⟨ht,rep⟩:=sh () ks ko;generalize ag ks (aj A B)=zs at *;generalize f2 - f1=g at *;have h17:=ht.len;have hx1:=e1.at hx;exists rep;clear sh ko;ac_rfl;rw [jt];refine⟨zs,t1,h17,λ c0 H2 e2 p2=>?_⟩;ac_rfl;intro cA H3 hcA e3 h3;have ncA:c0 ≠ cA:=λ z=>by obtain⟨_,hh,_⟩:=p2;rw [z,hcA] at hh;cases hh
  have hcA1:H1 cA=none:=e2.free hcA;have st3:dh H3 cA cA [zs.map λ z=>z.2] [.ref c0]:=⟨[],.ref c0,rfl,⟨c0,rfl,ncA,ncA,aC p2 e3⟩,rfl⟩;have e13:=e2.trans e3;have hx3:=e13.at hx1;exists st3;clear hcA p2 e2 e3;ac_rfl;refine dM (xs:=ys) (λ i σ H'=>∃ (st:List Bx) (cl:List V) (v5 v6:Option V),σ=[some (.ref u),some (.ref v),some (.ref x),some (.ref r0),some (.ref cA),v5,v6]/\Ext H1 H'/\H' cA=some (.lst cl)/\dh H' cA cA st cl/\Rep zs g st (pp.drop i) []) ⟨_,_,none,none,rfl,e13,h3,st3 (),rep ()⟩ (λ i σ H' _ ⟨_,_,_,_,_,e,_⟩=>e.at hx1) ?_ ?_
  ·clear st3 h3 hx3 e13 rep;rintro i y _ H5 hi ⟨st,cl,v5,v6,rfl,e5,h5,stk,rp⟩;have hip:i < pp.length:=by have:=(JM.mp hi).1;have:=hyl ();omega
   obtain⟨sr,rfl,hsr⟩:=(pl ()).2 i pp[i] y (JJ hip) hi;have hln:=Rep.len rp;rw [Lv] at hln;rw [LF hip] at rp
   cases st with
   | nil=>exact rp.elim
   | cons c st=>
    obtain⟨more,hst,hc,rp'⟩:=rp;have hmm:=hst.more;obtain⟨cl0,y,rfl,hcy,stk'⟩:=stk;obtain⟨a,rfl,nac,_,pa⟩:=hcy;have hcl0:=stk'.len;rw [Kk] at hln;have hcl1:cl0.length<=60000:=by omega
    have hsr5:=(e1.trans e5).at hsr;obtain⟨cl,hcl⟩:∃ cl,cl0++[V.ref a]=cl:=⟨_,rfl⟩;have hlen:¬ (cl.length:Int)=0:=by rw [←hcl,JU,Kg];omega
    have hlen2:0 < (cl.length:Int):=by omega
    have hlast:cl[cl.length - 1]? = some (.ref a):=by rw [←hcl,JU,Kg,Mh,Ka (JO _),Nat.sub_self];rfl
    have hdrop:cl.dropLast=cl0:=by rw [←hcl,L7]
    rw [hcl] at h5;have h7c:upd H5 cA (.lst cl0) cA=some (.lst cl0):=ai;have cs7:=CsV.upd (o:=.lst cl0) (c:=c) (y:=.ref a) ⟨a,rfl,nac,nac,pa⟩ h5 (.inl rfl);have st7:=dh.upd (o:=.lst cl0) h5 (.inl rfl) stk';have e17:Ext H1 (upd H5 cA (.lst cl0)):=e5.put hcA1;have hsr7:upd H5 cA (.lst cl0) sr=some (.tup pp[i]):=by rw [ah (λ e=>by rw [e,h5] at hsr5;cases hsr5)];exact hsr5
    have hr7:=e17.at hr1;exists hst;exists rp';exists hmm;exists hcl;exists hcl0;exists st7;clear hi pa stk' hsr hsr5;simp! only [↓aQ];generalize upd H5 cA (.lst cl0)=H7 at *;clear h5 hlen hlen2 hlast hdrop hcl e5;obtain⟨_,ha',_,_,pa7⟩:=cs7;cases ha';rw [nY];refine⟨zs,g,c,pp[i],more,pa7,ht,hc,hsr7,hst (),λ H8 e8=>?_⟩;have e18:=e17.trans e8;have h8c:=e8.at h7c;have st8:=λ (_:Unit)=>(st7 ()).ext e8;have pa8:=aC pa7 e8;have hsr8:=e8.at hsr7;have hr8:=e8.at hr7;have hst':=hst ();clear h7c st7 pa7 hsr7 hr7 hst
    rcases hst' with ⟨hs0,hs1,rfl⟩|⟨hs0,hs1,rfl⟩|⟨d,hs0,hd,hdv,hs1,rfl⟩|⟨m,b,hs0,hm,hb1,hb2,hs1,rfl⟩
    ·have so:dI zs g c pp[i] []:=.inl ⟨hs0,hs1,rfl⟩;rw [show decide (0 < ([]:List Bx).length)=false from rfl];exists so;clear hmm hs0;ac_rfl;rw [fN];refine⟨zs,c,pp[i],bL t1 e18,pa8,ht,hc,hsr8,so (),λ H9 e9=>?_⟩;have h9c:=e9.at h8c;have st9:=(st8 ()).ext e9;have e19:=e18.trans e9;exists st9;clear h8c st8 pa8 hsr8 hr8;ac_rfl;exact⟨_,_,_,_,rfl,e19,(by first|rfl|exact h9c),st9 (),rp' ()⟩
    ·have so:dI zs g c pp[i] []:=.inr (.inl ⟨hs0,hs1,rfl⟩);rw [show decide (0 < ([]:List Bx).length)=false from rfl];exists so;clear hmm hs0;ac_rfl;rw [fN];refine⟨zs,c,pp[i],bL t1 e18,pa8,ht,hc,hsr8,so (),λ H9 e9=>?_⟩;have h9c:=e9.at h8c;have st9:=(st8 ()).ext e9;have e19:=e18.trans e9;exists st9;clear h8c st8 pa8 hsr8 hr8;ac_rfl;exact⟨_,_,_,_,rfl,e19,(by first|rfl|exact h9c),st9 (),rp' ()⟩
    ·have so:dI zs g c pp[i] []:=.inr (.inr (.inl ⟨d,hs0,hd,hdv,hs1,rfl⟩));rw [show decide (0 < ([]:List Bx).length)=false from rfl];exists so;clear hmm hs0 hdv;ac_rfl;rw [fN];refine⟨zs,c,pp[i],bL t1 e18,pa8,ht,hc,hsr8,so (),λ H9 e9=>?_⟩;have h9c:=e9.at h8c;have st9:=(st8 ()).ext e9;have e19:=e18.trans e9;exists st9;clear h8c st8 pa8 hsr8 hr8;ac_rfl;exact⟨_,_,_,_,rfl,e19,(by first|rfl|exact h9c),st9 (),rp' ()⟩
    ·rw [show decide (0 < ([loC c m b,upC c m b]:List Bx).length)=true from rfl];rw [hs0] at hsr8;have hmc:m < c.length:=by have:=hc.len;omega
     have hc17:c.length<=17:=by have:=hc.len;omega
     clear hmm hs0;ac_rfl;rw [jr];refine⟨c,m,rfl,pa8,hmc,hc17,λ r10 a1 a2 H10 n1 n2 e10 h10 p1 p2=>?_⟩;have e110:=e18.trans e10;have h10c:=e10.at h8c;have st10:=(st8 ()).ext e10;have m1c:a1 ≠ cA:=λ z=>by rw [z,h8c] at n1;cases n1
     have m2c:a2 ≠ cA:=λ z=>by rw [z,h8c] at n2;cases n2
     have stN:dh H10 cA cA (loC c m b::upC c m b::st) (cl0++[.ref a1,.ref a2]):=⟨cl0++[.ref a1],.ref a2,by rw [Lw];rfl,⟨a2,rfl,m2c,m2c,p2⟩,cl0,.ref a1,rfl,⟨a1,rfl,m1c,m1c,p1⟩,st10⟩;have stM:=dh.upd (o:=.lst (cl0++[.ref a1,.ref a2])) h10c (.inl rfl) stN;have e111:Ext H1 (upd H10 cA (.lst (cl0++[.ref a1,.ref a2]))):=e110.put hcA1;have hext:cl0.length+2<=sizeLine:=jR %[0|8];exists stM;clear h8c st8 pa8 hsr8 hr8 n1 n2 st10 stN p1 p2;ac_rfl;exact⟨_,_,_,_,rfl,e111,by first|rfl|exact ai,stM (),rp' ()⟩
  ·rintro _ H5 ⟨st,cl,v5,v6,rfl,e5,h5,stk,rp⟩;rw [hyl (),Mw] at rp
   have hs0:st=[]:=by cases st<;>exact rp
   subst hs0;have hcl:cl=[]:=stk;subst hcl;have k':=k () H5 (e1.trans e5);clear k rp stk;ac_rfl
theorem uq:∀ {P:List (Int × Int)}{z:Int × Int},(∀ y∈P,(1:Int)<=y.2)->z∈P->z.2 - 1<=fm P (af z.1)
 | y::P,z,h,hz=>by
  have hP:∀ x∈P,(1:Int)<=x.2:=λ x hx=>h x (JN _ hx);have hn:=oQ hP (af z.1);have hy:=h y JP;rw [eh]
  rcases J9.mp hz with rfl|hz
  ·rw [JR rfl];omega
  ·have:=uq hP hz
   split<;>omega
theorem zr:∀ {P:List (Int × Int)},(∀ y∈P,1<=y.2/\y.2<=1000)->∀ t,fm P t<=999 * (P.length:Int)
 | [],_,t=>Kb 0
 | y::P,h,t=>by
  have ih:=zr (P:=P) (λ x hx=>h x (JN _ hx)) t;have hy:=h y JP;rw [eh,Kk]
  split<;>omega
theorem zo:∀ {P:List (Int × Int)},(∀ y∈P,(1:Int)<=y.2)->∀ t,cI P t<=0/\0<=bD P t
 | [],_,_=>⟨Kb _,Kb _⟩
 | y::P,h,t=>by
  have ih:=zo (P:=P) (λ x hx=>h x (JN _ hx)) t;have hy:=h y JP
  have l1:loP y<=0:=by unfold loP;split<;>omega
  have l2:0<=hiP y:=by unfold hiP;split<;>omega
  show (if af y.1=t then loP y else 0)+cI P t<=0/\0<=(if af y.1=t then hiP y else 0)+bD P t
  split<;>omega
theorem y8(a:Int × Int):af (sgP (-1) a).1=af (sgP 1 a).1:=by
 show af (-1 * (aF a).2)=af (1 * (aF a).2)
 unfold af;omega
theorem Ea{A B:List (Int × Int)}{t:Int}:(∃ z∈A.map (sgP 1)++B.map (sgP (-1)),af z.1=t) ↔ (∃ a∈A,af (sgP 1 a).1=t)\/∃ a∈B,af (sgP 1 a).1=t:=by
 constructor
 ·rintro ⟨z,hz,e⟩
  rcases Ke.mp hz with hz|hz
  ·obtain⟨a,ha,rfl⟩:=J8.mp hz;exact .inl ⟨a,ha,e⟩
  ·obtain⟨a,ha,rfl⟩:=J8.mp hz;exact .inr ⟨a,ha,by rw [←y8];exact e⟩
 ·rintro (⟨a,ha,e⟩|⟨a,ha,e⟩)
  ·exact⟨_,KA _ (List.mem_map_of_mem ha),e⟩
  ·exact⟨_,Kf _ (List.mem_map_of_mem ha),by rw [y8];exact e⟩
theorem iP.swap{ks:List Int}{A B:List (Int × Int)}(h:iP ks (aj (A.map aF) (B.map aF))):iP ks (aj (B.map aF) (A.map aF)):=by
 refine⟨h.nd,?_,λ t=>?_,h.ord⟩
 ·have:=h.len;rw [ng,JU,JT,JT] at this ⊢;omega
 ·have:=h.mem t;rw [ng,Ea] at this ⊢;rw [this];exact⟨λ x=>⟨x.1,x.2.symm⟩,λ x=>⟨x.1,x.2.symm⟩⟩
theorem xa{A B:List (Int × Int)}{z:Int × Int}(hz:z∈aj A B):∃ a,(a∈A\/a∈B)/\af z.1=af a.2/\z.2=a.1/\(z.1=0 ↔ a.2=0):=by
 unfold aj at hz
 rcases Ke.mp hz with hz|hz
 ·obtain⟨a,ha,rfl⟩:=J8.mp hz;exact⟨a,.inl ha,rfl,rfl,Iff.rfl⟩
 ·obtain⟨a,ha,rfl⟩:=List.mem_map.mp hz;exact⟨a,.inr ha,by show af (-a.2)=_;unfold af;omega,rfl,by show -a.2=0 ↔ _;omega⟩
structure eV(A B:List (Int × Int)):Prop where
 kA:AxN A
 kB:AxN B
 le:wS A+wS B<=100000000000000000
 fall:Dx A B
theorem eV.symm{A B:List (Int × Int)}(h:eV A B):eV B A:=⟨h.kB,h.kA,by have:=h.le;omega,λ a ha=>by have:=h.fall a ha.symm;omega⟩
theorem eV.swap{A B:List (Int × Int)}{ks:List Int}(h:eV A B)(hk:iP ks (aj A B)):iP ks (aj B A):=by
 have:=iP.swap (A:=A) (B:=B) (ks:=ks) (by rw [h.kA.kept,h.kB.kept];exact hk)
 rwa [h.kA.kept,h.kB.kept] at this
theorem eV.sz{A B:List (Int × Int)}(h:eV A B){z:Int × Int}(hz:z∈aj A B):(2<=z.2/\z.2<=1000)/\z.1 ≠ 0/\af z.1<=100000000000000000/\pW (af z.1) (aj A B) < af z.1:=by
 obtain⟨a,ha,e1,e2,e3⟩:=xa hz
 have hs:(2<=a.1/\a.1<=1000)/\a.2 ≠ 0:=by
  rcases ha with ha|ha
  ·exact h.kA.sz a ha
  ·exact h.kB.sz a ha
 have w1:=iU (A:=A) λ a ha=>by have:=(h.kA.sz a ha).1;omega
 have w2:=iU (A:=B) λ a ha=>by have:=(h.kB.sz a ha).1;omega
 have hw:af a.2<=wS A+wS B:=by
  rcases ha with ha|ha
  ·have:=gM (λ a ha=>(h.kA.sz a ha).1.1) a ha;omega
  ·have:=gM (λ a ha=>(h.kB.sz a ha).1.1) a ha;omega
 have:=h.le;refine⟨by rw [e2];exact hs.1,λ q=>hs.2 (e3.mp q),by omega,?_⟩;rw [DM,e1];exact h.fall a ha
theorem eV.tms{A B:List (Int × Int)}{ks:List Int}(h:eV A B)(hk:iP ks (aj A B)):cL (ag ks (aj A B))/\sv (ag ks (aj A B)):=by
 have one:∀ y∈aj A B,(1:Int)<=y.2:=λ y hy=>by have:=(h.sz hy).1;omega
 have hlen:(aj A B).length<=16:=by
  unfold aj;rw [length_append,length_map,length_map];have:=h.kA.len;have:=h.kB.len;omega
 refine⟨⟨by unfold ag;rw [length_map];have:=hk.len;omega,λ z hz=>?_⟩,jn one (λ z hz _=>(h.sz hz).2.2.2) hk.nd hk.ord λ t ht=>(hk.mem t).mp ht⟩;unfold ag at hz;obtain⟨t,ht,rfl⟩:=List.mem_map.mp hz;obtain⟨t0,y,hy,e⟩:=(hk.mem t).mp ht;have hs:=h.sz hy;have hc:=uq one hy;have hc2:=zr (λ x hx=>by have:=(h.sz hx).1;omega) t;have hl:=zo one t;have hhl:=gx (aj A B) t;rw [e] at hc hs;have ht':=gS y.1;rw [e] at ht'
 show (1<=t/\t<=2000000000000000000)/\(-2000000000<=cI (aj A B) t/\cI (aj A B) t<=2000000000)/\cI (aj A B) t < bD (aj A B) t/\bD (aj A B) t<=2000000000
 omega
theorem zj:∀ c:Bx,opn c<=c.length
 | []=>JO _
 | b::c=>by
  have:=zj c
  show (if b.1 < b.2 then 1 else 0)+opn c<=c.length+1
  split<;>omega
theorem zI{A B:List (Int × Int)}{g most:Int}(h:eV A B)(hm:∀ ks,iP ks (aj A B)->1+4 * (ks.length:Int)<=most):Ja A B g most:=by
 refine⟨λ ks hk=>?_⟩;obtain⟨t1,t2⟩:=h.tms hk;have hz:∀ z∈ag ks (aj A B),(1:Int)<=z.1:=λ z hz=>(t1.all z hz).1.1;have hl:=t1.len;have h1:=(wB (zs:=ag ks (aj A B)) (g:=g) (c:=(ag ks (aj A B)).map λ z=>z.2)).2;have h2:=zj ((ag ks (aj A B)).map λ z=>z.2);have e:(ag ks (aj A B)).length=ks.length:=by unfold ag;rw [length_map]
 rw [JT,e] at h2;have h3:=hm ks hk;exact⟨t1,pfF (ag ks (aj A B)) g,⟨λ c _=>wB.1,λ c q hc he _ hq=>AM hz t2 hc he hq⟩,by omega,by omega⟩
theorem DH{A B:List (Int × Int)}{g most:Int}{ks xs:List Int}{pp:List (List V)}(h:mP A B g most ks (some xs) pp):InA A ((plF ks (aj A B) xs).take A.length)/\InA B ((plF ks (aj A B) xs).drop A.length)/\eB A ((plF ks (aj A B) xs).take A.length)=g+eB B ((plF ks (aj A B) xs).drop A.length):=by
 obtain⟨x1,x2⟩:=h.sh xs rfl;obtain⟨i1,i2⟩:=jN x1;have e:=gy i1 i2;rw [List.take_append_drop,x2] at e;exact⟨i1,i2,by omega⟩
theorem GW{A B:List (Int × Int)}{g most:Int}{ks:List Int}{pp:List (List V)}(hv:eV A B)(sr:mP A B g most ks none pp):¬ mQ A B g:=by
 rintro ⟨ys,zs,iA,iB,e⟩;obtain⟨h1,_⟩:=sr.ap rfl;have h4:=(hv.tms sr.kok).1
 have hkz:∀ z∈aj A B,af z.1=0\/af z.1∈ks:=λ z hz=>by
  by_cases e:af z.1=0
  ·exact .inl e
  ·exact .inr ((sr.kok.mem _).mpr ⟨e,z,hz,rfl⟩)
 obtain⟨x0,hx1,hx2⟩:=vO sr.kok.nd hkz (km iA iB) (g:=g) (by rw [gy iA iB];omega);exact absurd hx2 (h1.no (λ z hz=>by have:=(h4.all z hz).1;omega) _ JP x0 hx1)
theorem jI.ext{H H':Hp}{a:Addr}{pp:List (List V)}(h:jI H a pp)(e:Ext H H'):jI H' a pp:=by
 obtain⟨ys,h1,h2⟩:=h;exact⟨ys,e.at h1,h2.ext e⟩
def CC(H:Hp)(x:Addr)(A B:List (Int × Int))(g:Int)(b:Bool):Prop:=(b=true/\∃ (ys zs:List Int) (a1 a2:Addr),H x=some (.tup [.str "shared",.ref a1,.ref a2])/\H a1=some (.tup (ys.map V.int))/\H a2=some (.tup (zs.map V.int))/\InA A ys/\InA B zs/\eB A ys=g+eB B zs)\/(b=false/\∃ (pp:List (List V)) (a1:Addr),H x=some (.tup [.str "apart",.ref a1])/\jI H a1 pp/\pp.length<=60000/\∀ ks,iP ks (aj A B)->(pp.length:Int)<=1+4 * (ks.length:Int)/\Rep (ag ks (aj A B)) g [(ag ks (aj A B)).map λ z=>z.2] pp [])
theorem CC.ext{H H':Hp}{x:Addr}{A B:List (Int × Int)}{g:Int}{b:Bool}(h:CC H x A B g b)(e:Ext H H'):CC H' x A B g b:=by
 rcases h with ⟨hb,ys,zs,a1,a2,h1,h2,h3,r⟩|⟨hb,pp,a1,h1,h2,r⟩
 ·exact .inl ⟨hb,ys,zs,a1,a2,e.at h1,e.at h2,e.at h3,r⟩
 ·exact .inr ⟨hb,pp,a1,e.at h1,h2.ext e,r⟩
theorem zv{A B:List (Int × Int)}{g mo:Int}{ks:List Int}{o:Option (List Int)}{pp:List (List V)}{H0 H:Hp}{r:Addr}(hv:eV A B)(sr:mP A B g mo ks o pp)(w:ShV H0 H r A.length ks (aj A B) pp o)(hm:∀ l,iP l (aj A B)->mo=1+4 * (l.length:Int)):∃ b,CC H r A B g b/\(b=true ↔ mQ A B g):=by
 cases o with
 | some xs=>
  obtain⟨a1,a2,w1,w2,w3⟩:=w;obtain⟨s1,s2,s3⟩:=DH sr;exact⟨true,.inl ⟨rfl,_,_,a1,a2,w1,w2,w3,s1,s2,s3⟩,λ _=>⟨_,_,s1,s2,s3⟩,λ _=>rfl⟩
 | none=>
  obtain⟨a1,_,w1,w2⟩:=w;obtain⟨h1,h2,h3⟩:=sr.ap rfl;exact⟨false,.inr ⟨rfl,pp,a1,w1,w2,h3,λ l hl=>by rw [hl.uniq sr.kok];exact⟨by have:=hm ks sr.kok;omega,h1⟩⟩,(λ h=>by cases h),λ h=>absurd h (GW hv sr)⟩
abbrev jy  (x:Addr) (p:Addr) (q:Addr) (g:Int) (sure:Bool) (H:Hp) (Q:VK) (E:XK):Prop:=∃ (A B:List (Int × Int)) (b:Bool),cU H p A/\cU H q B/\eV A B/\CC H x A B g b/\(sure=true->b=true)/\∀ H',Ext H H'->Q (.bl true) H'
def j0  : Sp:=λ vs H Q E=>∃ (x:Addr) (p:Addr) (q:Addr) (g:Int) (sure:Bool),vs=[.ref x,.ref p,.ref q,.int g,.bl sure]/\(jy  x p q g sure H Q E)
theorem fM  (x:Addr) (p:Addr) (q:Addr) (g:Int) (sure:Bool) (H:Hp) (Q:VK) (E:XK):j0  [.ref x,.ref p,.ref q,.int g,.bl sure] H Q E=(jy  x p q g sure H Q E):=Ii (f:=λ (x:Addr) (p:Addr) (q:Addr) (g:Int) (sure:Bool)=>[.ref x,.ref p,.ref q,.int g,.bl sure]) (λ _ _ _ _ _ _ _ _ _ _ h=>by cases h;exact⟨rfl,rfl,rfl,rfl,rfl⟩) x p q g sure
theorem qM  {vs:List V}{H:Hp}{Q:VK}{E:XK}(h:j0  vs H Q E):vs.length=5:=Ij h λ _ _ _ _ _=>rfl
theorem kF(T:Tx K mg t):bC P w K mg base CX0 6 t.a__law_right t.d__law_right ["_law_found", "_law_one", "_law_other", "_law_goal", "_law_sure"] j0:=by
 have G__law_met:=%[nJ|46];have G__law_terms:=%[fh|46];have G__law_apart:=%[kH|46];refine T.F__law_right.ok fW (λ vs H Q E h=>qM h) (λ cdv A' outer s H vs Q E hr h=>?_)
 ·obtain⟨x,p,q,g,sure,rfl,A,B,b,hp,hq,hv,an,hsu,k⟩:=h;refine⟨_,%[%[(PW.pt %[%[%[isinstance,aI,%[%[0|0],%[%[(.ty "tuple"),(.type "tuple"),_,∅,T.z_tuple,nofun,rfl,⋯,⋯|30]|1]|1]|6],(by intros;rfl)|19],%[%[(aV hr.units),%[len,ar,%[%[0|0]|1]|6],%[0|2],(ae _)|14]|35]|32]),%[%[%[_law_met,%[%[0|0],%[%[1|0],%[%[2|0],%[%[3|0]|1]|1]|1]|1]|3]|13]|12],(@ao _)|16],%[%[5,fW,%[_law_terms,%[%[1|0],%[%[2|0]|1]|1]|3]|4],%[%[%[(@nj _ _ _ _ %[4|0]),%[%[_law_apart,%[%[0|0],%[%[5|0],%[%[3|0],%[%[aD,%[0|2],%[aW,%[0|2],%[len,ar,%[%[5|0]|1]|6]|9]|9]|1]|1]|1]|1]|3]|34]|31]|13]|12]|11]|11],?_⟩;rw [show start ["_law_found", "_law_one", "_law_other", "_law_goal", "_law_sure", "_law_terms_here"] [.ref x,.ref p,.ref q,.int g,.bl sure]=[some (.ref x),some (.ref p),some (.ref q),some (.int g),some (.bl sure),none] from rfl];clear G__law_met G__law_terms G__law_apart;have a3:=hv.kA.len;have b3:=hv.kB.len;have w1:=iU (A:=A) λ a ha=>by have:=(hv.kA.sz a ha).1;omega
  have w2:=iU (A:=B) λ a ha=>by have:=(hv.kB.sz a ha).1;omega
  have wl:=hv.le
  have bA:∀ b∈A,-100000000000000000<=b.2/\b.2<=100000000000000000:=λ b hb=>by
   have h1:=gM (λ a ha=>(hv.kA.sz a ha).1.1) b hb;have h2:b.2<=af b.2/\-af b.2<=b.2:=by unfold af;omega
   omega
  have bB:∀ b∈B,-100000000000000000<=b.2/\b.2<=100000000000000000:=λ b hb=>by
   have h1:=gM (λ a ha=>(hv.kB.sz a ha).1.1) b hb;have h2:b.2<=af b.2/\-af b.2<=b.2:=by unfold af;omega
   omega
  have oA:∀ b∈A,(1:Int)<=b.1:=λ b hb=>by have:=(hv.kA.sz b hb).1;omega
  have oB:∀ b∈B,(1:Int)<=b.1:=λ b hb=>by have:=(hv.kB.sz b hb).1;omega
  exists bA;exists bB;exists oA;exists oB;exists k;clear w1 w2 wl
  rcases an with ⟨rfl,ys,zs,a1,a2,h1,h2,h3,iA,iB,hd⟩|⟨rfl,pp,a1,h1,pap,h4,rep⟩
  ·exists iA;exists iB;exists hd;clear hsu;ac_rfl;rw [yH];refine⟨A,B,ys,zs,a1,a2,h1,h2,h3,hp,hq,by omega,by omega,iA (),iB (),bA (),bB (),hd (),λ H1 e1=>?_⟩;exact k () H1 e1
  ·have hs0:sure=false:=by
    cases sure with
    | false=>rfl
    | true=>cases hsu rfl
   subst hs0;exists rep;exists pap;clear hsu;ac_rfl;rw [js];refine⟨A,B,hp,hq,by omega,by omega,oA (),oB (),λ ks r2 H2 e2 t2 ko=>?_⟩;rw [hv.kA.kept,hv.kB.kept] at t2 ko;obtain⟨rp1,rp2⟩:=rep () ks ko;have ht:=(hv.tms ko).1;obtain⟨ts,ht2,hal⟩:=t2;have hts:(ts.length:Int)=(ks.length:Int):=by rw [hal.1];unfold ag;rw [length_map]
   have t2:gg H2 r2 (ag ks (aj A B)):=⟨ts,ht2,hal⟩;exists t2;exists rp2;have cm:iQ 4 (ks.length:Int):=.inl ⟨by decide,by decide⟩;clear hal;ac_rfl;rw [rh];exact⟨_,pp,a1,e2.at h1,(pap ()).ext e2,t2 (),ht,rp1,h4,rp2 (),λ H3 e3=>k () H3 (e2.trans e3)⟩
theorem hG{xs:List V}{i:Int}{k:V->Prop}(P:V->Prop)(h0:0<=i)(h1:i < xs.length)(ha:∀ v∈xs,P v)(hk:∀ v,P v->k v):aP (atI xs i) k:=AZ h0 h1 λ v hv=>hk v (ha v hv)
abbrev l5  (c:Int) (H:Hp) (Q:VK) (E:XK):Prop:=0<=c/\∀ (z:Int) (H':Hp),Ext H H'->(2<=z/\z<=1000)->Q (.int z) H'
def mZ  : Sp:=λ vs H Q E=>∃ (c:Int),vs=[.int c]/\(l5  c H Q E)
theorem lP  (c:Int) (H:Hp) (Q:VK) (E:XK):mZ  [.int c] H Q E=(l5  c H Q E):=rJ (f:=λ (c:Int)=>[.int c]) (λ _ _ h=>by cases h;exact rfl) c
theorem vw  {vs:List V}{H:Hp}{Q:VK}{E:XK}(h:mZ  vs H Q E):vs.length=1:=p9 h λ _=>rfl
theorem mr(T:Tx K mg t):bC P w K mg base CX0 1 t.a__law_size t.d__law_size ["_law_cell_here"] mZ:=by
 refine T.F__law_size.ok om (λ vs H Q E h=>vw h) (λ c A o s H vs Q E hr h=>?_)
 ·obtain⟨c,rfl,hc,k⟩:=h;refine⟨_,%[%[%[aD,%[0|2],%[aS,%[cM,%[0|0],%[0|2]|9],%[az,%[%[%[0|2],%[%[0|2]|1]|1]|23],%[aS,%[0|0],%[0|2]|9],(λ _ _=>rfl)|10]|9]|9]|13]|12],?_⟩;rw [show start ["_law_cell_here"] [.int c]=[some (.int c)] from rfl];exists k;ac_rfl;intro l1 H1 _ e1 h1;have c2:0<=c % 2/\c % 2 < 2:=by omega
  ac_rfl;refine hG (λ v=>v=.int 3\/v=.int 999) c2.1 (by simpa using c2.2) (λ v hv=>?_) λ v hv=>?_
  ·simpa only [J9,Kp,KR] using hv
  rcases hv with rfl|rfl
  ·have k2:=k () (2+c / 2 % 3) H1 e1 %[0|8];clear k;ac_rfl
  ·have k2:=k () (2+c / 2 % 999) H1 e1 %[0|8];clear k;ac_rfl
def wN(t s:Int)(A A1:List (Int × Int))(ys:List Int):Prop:=(∀ a∈A1,af a.2=t/\2<=a.1/\a.1<=1000)/\A.length+A1.length<=8/\InA A1 ys/\wS A1=t * (s - 1)
theorem pO{t s:Int}{A:List (Int × Int)}(hs:s=1)(h:A.length<=8):wN t s A [] []:=⟨(λ a ha=>by cases ha),h,trivial,by rw [hs];show (0:Int)=t * 0;rw [KO]⟩
theorem uv{t s sg y:Int}{A:List (Int × Int)}(hs:2<=s/\s<=1000)(h:A.length < 8)(ht:0<=t)(hg:sg=1\/sg=-1)(hy:0<=y/\y < s):wN t s A [(s,t * sg)] [y]:=by
 have e:af (t * sg)=t:=by unfold af;rcases hg with rfl|rfl<;>omega
 refine⟨λ a ha=>by rw [Kd.mp ha];exact⟨e,hs⟩,by rw [Kg];omega,⟨hy,trivial⟩,?_⟩
 show af (t * sg) * (s - 1)+0=_
 rw [e,KD]
abbrev me(K:PySem.W.Frag)(a:Addr)(ns:List Int)(s:Addr)(H:Hp)(Q:VK)(E:XK):Prop:=s=a/\SqL K H a (ns.map V.int)/\ns.length<=63/\∀ (A B:List (Int × Int)) (g be:Int) (p q r:Addr) (H':Hp),Ext H H'->H' r=some (.tup [.ref p,.ref q,.int g,.int be])->cU H' p A->cU H' q B->gE A B g be->Q (.ref r) H'
def m5(K:W.Frag)(a:Addr)(ns:List Int):Sp:=λ vs H Q E=>∃ (s:Addr),vs=[.ref s]/\(me K a ns s H Q E)
theorem wa(K:W.Frag)(a:Addr)(ns:List Int)(s:Addr)(H:Hp)(Q:VK)(E:XK):m5 K a ns [.ref s] H Q E=(me K a ns s H Q E):=rJ (f:=λ (s:Addr)=>[.ref s]) (λ _ _ h=>by cases h;exact rfl) s
theorem vy(K:W.Frag)(a:Addr)(ns:List Int){vs:List V}{H:Hp}{Q:VK}{E:XK}(h:m5 K a ns vs H Q E):vs.length=1:=p9 h λ _=>rfl
theorem iZ(T:Tx K mg t)(a:Addr)(ns:List Int):bC P w K mg base CX0 2 t.a__law_nested t.d__law_nested ["_law_script"] (m5 K a ns):=by
 have G__law_draw:=%[fV|46] a ns;have G__law_size:=%[mr|46];refine T.F__law_nested.ok av (λ vs H Q E h=>vy _ _ _ h) (λ cdv A' outer s H vs Q E hr h=>?_)
 ·obtain⟨_,rfl,rfl,hS,hl,k⟩:=h;rename_i a;refine⟨_,%[%[1,av,%[(@cX _)|23]|4],%[%[2,av,%[(@cX _)|23]|4],%[%[3,av,%[0|2]|4],%[%[4,av,%[0|2]|4],%[%[Ki,rfl,(@dO _ _ _ _ _ _ ∅ T.z_range %[%[_law_draw,%[%[0|0],%[%[0|2],%[%[0|2]|1]|1]|1]|3]|1] ∅),%[5,av|5],%[%[6,av,%[_law_draw,%[%[0|0],%[%[aD,%[0|2],%[aW,%[0|2],%[5|0]|9]|9],%[%[gJ,%[0|2],%[0|2]|9]|1]|1]|1]|3]|4],%[%[7,av,%[aD,%[aD,%[3|0],%[0|2]|9],%[az,%[%[%[0|2],%[%[aS,%[cM,%[6|0],%[0|2]|9],%[0|2]|9],%[%[aS,%[cM,%[6|0],%[0|2]|9],%[gJ,%[0|2],%[0|2]|9]|9]|1]|1]|1]|23],%[aS,%[6|0],%[0|2]|9],(λ _ _=>rfl)|10]|9]|4],%[%[8,av,%[%[%[_law_size,%[%[_law_draw,%[%[0|0],%[%[aD,%[0|2],%[aW,%[0|2],%[5|0]|9]|9],%[%[gJ,%[0|2],%[0|2]|9]|1]|1]|1]|3]|1]|3],%[%[_law_size,%[%[_law_draw,%[%[0|0],%[%[aD,%[0|2],%[aW,%[0|2],%[5|0]|9]|9],%[%[gJ,%[0|2],%[0|2]|9]|1]|1]|1]|3]|1]|3]|1]|1]|23]|4],%[%[9,av,%[aS,%[cM,%[6|0],%[0|2]|9],%[0|2]|9]|4],%[%[(PW.pt %[%[(aV hr.units),%[len,ar,%[%[1|0]|1]|6],%[0|2],(ae _)|14],%[(PW.pt %[%[(aV hr.units),%[9|0],%[0|2],(ae _)|14],%[%[cj,%[len,ar,%[%[2|0]|1]|6],%[0|2],(ae _)|14]|35]|32])|28]|20]),%[%[%[0|2],(@oC _ _ _ _ _ _ _ %[8|0] %[0|2] gm (by intros;rfl)),∅,∅,∅|37]|12],%[%[(PW.pt %[%[(aV hr.units),%[len,ar,%[%[2|0]|1]|6],%[0|2],(ae _)|14],%[%[(ck hr.units),%[9|0],%[0|2],(ae _)|14]|28]|20]),%[%[%[0|2],(@oC _ _ _ _ _ _ _ %[8|0] %[0|2] gm (by intros;rfl)),∅,∅,∅|37]|12],(@ao _)|16]|12]|16],%[%[10,av,%[aW,%[7|0],%[aE,%[aD,%[az,%[8|0],%[0|2],(λ _ _=>rfl)|10],%[az,%[8|0],%[0|2],(λ _ _=>rfl)|10]|9],%[0|2]|9]|9]|4],%[%[(PW.pt %[%[iV,%[aD,%[3|0],%[10|0]|9],%[gJ,%[0|2],%[0|2]|9],(ae _)|14],%[%[cj,%[aD,%[len,ar,%[%[1|0]|1]|6],%[len,ar,%[%[2|0]|1]|6]|9],%[0|2],(ae _)|14]|35]|32]),%[%[11,av,%[%[%[aE,%[0|2],%[aW,%[0|2],%[aS,%[cM,%[6|0],%[0|2]|9],%[0|2]|9]|9]|9],%[%[aE,%[0|2],%[aW,%[0|2],%[aS,%[cM,%[6|0],%[0|2]|9],%[0|2]|9]|9]|9]|1]|1]|23]|4],%[%[%[cW,%[az,%[8|0],%[0|2],(λ _ _=>rfl)|10],%[0|2],(ae _)|14],%[(@dJ _ _ _ _ %[Kc,Lc,Lb,dP,%[1|0],%[%[%[%[az,%[8|0],%[0|2],(λ _ _=>rfl)|10],%[%[aW,%[7|0],%[az,%[11|0],%[0|2],(λ _ _=>rfl)|10]|9]|1]|1]|18]|1],∅,∅,∅,∅,∅|42] ∅),%[%[4,av,%[aD,%[4|0],%[aW,%[aW,%[7|0],%[az,%[11|0],%[0|2],(λ _ _=>rfl)|10]|9],%[aS,%[cM,%[6|0],%[0|2]|9],%[az,%[8|0],%[0|2],(λ _ _=>rfl)|10]|9]|9]|9]|4]|12]|11],(@ao _)|16],%[%[%[cW,%[az,%[8|0],%[0|2],(λ _ _=>rfl)|10],%[0|2],(ae _)|14],%[(@dJ _ _ _ _ %[Kc,Lc,Lb,dP,%[2|0],%[%[%[%[az,%[8|0],%[0|2],(λ _ _=>rfl)|10],%[%[aW,%[7|0],%[az,%[11|0],%[0|2],(λ _ _=>rfl)|10]|9]|1]|1]|18]|1],∅,∅,∅,∅,∅|42] ∅),%[%[4,av,%[aE,%[4|0],%[aW,%[aW,%[7|0],%[az,%[11|0],%[0|2],(λ _ _=>rfl)|10]|9],%[aS,%[kh,%[6|0],%[gJ,%[0|2],%[0|2]|9]|9],%[az,%[8|0],%[0|2],(λ _ _=>rfl)|10]|9]|9]|9]|4]|12]|11],(@ao _)|16],%[%[3,av,%[aD,%[3|0],%[10|0]|9]|4]|12]|11]|11]|11],(@ao _)|16]|12]|11]|11]|11]|11]|11]|11],(by intros;rfl)|33],%[%[%[%[%[1|0],%[%[2|0],%[%[4|0],%[%[3|0]|1]|1]|1]|1]|18]|13]|12]|11]|11]|11]|11]|11],?_⟩;rw [show start ["_law_script", "_law_one", "_law_other", "_law_below", "_law_goal", "_law_k", "_law_cell_here", "_law_times", "_law_sizes", "_law_way", "_law_most", "_law_signs"] [.ref a]=[some (.ref a),none,none,none,none,none,none,none,none,none,none,none] from rfl];clear G__law_draw G__law_size;exists k;ac_rfl;intro r1 H1 hr1 e1 h1;ac_rfl;intro r2 H2 hr2 e2 h2;have h1_2:=e2.at h1;have n12:r1 ≠ r2:=λ z=>by rw [z,hr2] at h1;cases h1
  have hr20:H r2=none:=e1.free hr2;have hr10:=hr1;have e02:=e1.trans e2;have hS2:=e02.2 K a _ hS;clear hr1 hr2 h1 e1 e2;ac_rfl;rw [ej];refine⟨hS2,hl,⟨by decide,by decide⟩,by decide,λ n n0 n1=>?_⟩;ac_rfl;refine⟨by omega,by omega,?_⟩;refine uf (λ j σ H'=>∃ (A B:List (Int × Int)) (ya yb:List V) (g be:Int) (v5 v6 v7 v8 v9 v10 v11:Option V),σ=[some (.ref a),some (.ref r1),some (.ref r2),some (.int be),some (.int g),v5,v6,v7,v8,v9,v10,v11]/\Ext H H'/\H' r1=some (.lst ya)/\Al (λ z y=>axP z y H') A ya/\H' r2=some (.lst yb)/\Al (λ z y=>axP z y H') B yb/\gE A B g be) ⟨[],[],[],[],0,0,none,none,none,none,none,none,none,rfl,e02,h1_2,Al.nil,h2,Al.nil,gE.start⟩ ?_ ?_
  ·clear h1_2 h2 hS2 e02;rintro j _ H3 hj ⟨A,B,ya,yb,g,be,v5,v6,v7,v8,v9,v10,v11,rfl,e3,ha,alA,hb,alB,hN⟩;have hj17:j < 17:=by have:j < n.toNat:=hj;omega
   have hS3:=e3.2 K a _ hS;have lya:(ya.length:Int)=(A.length:Int):=by rw [alA.1]
   have lyb:(yb.length:Int)=(B.length:Int):=by rw [alB.1]
   have lA8:=hN.kA.len;have lB8:=hN.kB.len;have be0:=hN.nn.2.2;have be1:=hN.le;exists alA;exists alB;exists hN;clear hj k;simp! only [↓aQ];rw [ej];refine⟨hS3,hl,⟨by omega,by omega⟩,by decide,λ c c0 c1=>?_⟩;ac_rfl;intro l4 H4 _ e4 h4;have c3:0<=c % 3/\c % 3 < 3:=by omega
   ac_rfl;refine hG (λ v=>∃ z:Int,v=.int z/\0<=z/\z<=1000000) c3.1 (by simpa using c3.2) (λ v hv=>?_) λ v hv=>?_
   ·simp only [J9,Kp,KR] at hv
    rcases hv with rfl|rfl|rfl
    ·exact⟨_,rfl,by decide,by decide⟩
    ·exact⟨_,rfl,by omega,by omega⟩
    ·exact⟨_,rfl,by omega,by omega⟩
   obtain⟨x,rfl,x0,x1⟩:=hv;have e34:=e4;have hS4:=e4.2 K a _ hS3;have ha4:=e4.at ha;have hb4:=e4.at hb;clear h4 hS3 e4 c3;ac_rfl;obtain⟨tm,htm⟩:∃ tm,be+1+x=tm:=⟨_,rfl⟩;have tb:be < tm/\tm<=100000000001000001:=by omega
   rw [htm];clear htm x0 x1;rw [ej];refine⟨hS4,hl,⟨by omega,by omega⟩,by decide,λ u1 u10 _=>?_⟩;ac_rfl;rw [lP];refine⟨u10,λ s0 H5 e5 b0=>?_⟩;have hS5:=e5.2 K a _ hS4;have e35:=e34.trans e5;clear hS4 u10 ha4 hb4;ac_rfl;rw [ej];refine⟨hS5,hl,⟨by omega,by omega⟩,by decide,λ u2 u20 _=>?_⟩;ac_rfl;rw [lP];refine⟨u20,λ s1 H6 e6 b1=>?_⟩;have e36:=e35.trans e6;have ha6:=e36.at ha;have hb6:=e36.at hb;have alA6:=λ (_:Unit)=>(alA ()).imp λ _ _ t=>axP.ext t e36;have alB6:=λ (_:Unit)=>(alB ()).imp λ _ _ t=>axP.ext t e36;have e06:=e3.trans e36;clear hS5 u20 e34 e35 e36 e5 e6 alA alB ha hb e3;ac_rfl;intro r8 H7 hr8 e7 h7;have ha7:=e7.at ha6;have hb7:=e7.at hb6;have hr80:H r8=none:=e06.free hr8;have n18:r1 ≠ r8:=λ z=>by rw [z,hr8] at ha6;cases ha6
   have n28:r2 ≠ r8:=λ z=>by rw [z,hr8] at hb6;cases hb6
   obtain⟨wy,hwy⟩:∃ wy,c / 3 % 4=wy:=⟨_,rfl⟩;have hr8':=hr8;clear hr8;simp! only [-oK];refine oO (λ σ' H'=>∃ (s0 s1:Int),σ'=[some (.ref a),some (.ref r1),some (.ref r2),some (.int be),some (.int g),some (.int (0+(j:Int))),some (.int c),some (.int tm),some (.ref r8),some (.int wy),v10,v11]/\Ext H6 H'/\H' r8=some (.lst [.int s0,.int s1])/\(1<=s0/\s0<=1000)/\(1<=s1/\s1<=1000)/\(1 < s0->A.length < 8)/\(1 < s1->B.length < 8\/A.length=8)) (λ nx' hn=>?_) ?_
   ·exists hn;clear hwy;have ix0:ixN 2 0=some 0:=rfl;have ix1:ixN 2 1=some 1:=rfl;have se0:[V.int s0,.int s1].set 0 (.int 1)=[.int 1,.int s1]:=rfl;have se1:[V.int s0,.int s1].set 1 (.int 1)=[.int s0,.int 1]:=rfl
    by_cases y1:(A.length:Int)=8
    ·have hn':=hn () _ (upd H7 r8 (.lst [.int 1,.int s1])) ⟨1,s1,rfl,e7.put hr8',ai,by omega,by omega,by omega,by omega⟩;clear hn alA6 alB6 ha6 hb6;ac_rfl
    by_cases y2:wy=1
    ·subst y2
     by_cases y3:(B.length:Int) < 8
     ·have hn':=hn () _ (upd H7 r8 (.lst [.int 1,.int s1])) ⟨1,s1,rfl,e7.put hr8',ai,by omega,by omega,by omega,by omega⟩;clear hn alA6 alB6 ha6 hb6;ac_rfl
     ·have y4:(B.length:Int)=8:=by omega
      have hn':=hn () _ (upd H7 r8 (.lst [.int s0,.int 1])) ⟨s0,1,rfl,e7.put hr8',ai,by omega,by omega,by omega,by omega⟩;clear hn alA6 alB6 ha6 hb6;ac_rfl
    ·by_cases y4:(B.length:Int)=8
     ·have hn':=hn () _ (upd H7 r8 (.lst [.int s0,.int 1])) ⟨s0,1,rfl,e7.put hr8',ai,by omega,by omega,by omega,by omega⟩;clear hn alA6 alB6 ha6 hb6;ac_rfl
     ·by_cases y5:wy=3
      ·subst y5;have hn':=hn () _ H7 ⟨s0,s1,rfl,e7,h7,by omega,by omega,by omega,by omega⟩;clear hn alA6 alB6 ha6 hb6;ac_rfl
      ·have hn':=hn () _ (upd H7 r8 (.lst [.int s0,.int 1])) ⟨s0,1,rfl,e7.put hr8',ai,by omega,by omega,by omega,by omega⟩;clear hn alA6 alB6 ha6 hb6;ac_rfl
   clear hwy h7 ha7 hb7 e7 b0 b1 hr8';rintro _ H8 ⟨s0,s1,rfl,e8,h8,b0,b1,l0,l1⟩;have ha8:=e8.at ha6;have hb8:=e8.at hb6;have alA8:=λ (_:Unit)=>(alA6 ()).imp λ _ _ t=>axP.ext t e8;have alB8:=λ (_:Unit)=>(alB6 ()).imp λ _ _ t=>axP.ext t e8;have e08:=e06.trans e8;have cm:iQ tm (s0+s1 - 2):=.inl ⟨by omega,by omega⟩;have mb0:=L9 (show 0<=tm by omega) (show 0<=s0+s1 - 2 by omega);clear alA6 alB6 ha6 hb6 e06 e8
   by_cases hroom:be+tm * (s0+s1 - 2)<=100000000000000000
   ·by_cases h15:(A.length:Int)+(B.length:Int) < 15
    ·have l1':1 < s1->B.length < 8:=λ h=>by rcases l1 h with h|h<;>omega
     clear l1;ac_rfl;intro r11 H9 hr11 e9 h9;have h8_9:=e9.at h8;have ha9:=e9.at ha8;have hb9:=e9.at hb8;have alA9:=λ (_:Unit)=>(alA8 ()).imp λ _ _ t=>axP.ext t e9;have alB9:=λ (_:Unit)=>(alB8 ()).imp λ _ _ t=>axP.ext t e9;have e09:=e08.trans e9;have n1b:r1 ≠ r11:=λ z=>by rw [z,hr11] at ha8;cases ha8
     have n2b:r2 ≠ r11:=λ z=>by rw [z,hr11] at hb8;cases hb8
     obtain⟨g0,hg0⟩:∃ g0,1 - 2 * (c / 60 % 2)=g0:=⟨_,rfl⟩;obtain⟨g1,hg1⟩:∃ g1,1 - 2 * (c / 120 % 2)=g1:=⟨_,rfl⟩;have sg0:g0=1\/g0=-1:=by omega
     have sg1:g1=1\/g1=-1:=by omega
     rw [hg0,hg1] at h9;clear hg0 hg1 hr11 ha8 hb8 alA8 alB8 h8 e08 e9;simp! only [-oK];refine oO (λ σ' H'=>∃ (A1:List (Int × Int)) (ys1:List Int) (ya1:List V) (g2:Int),σ'=[some (.ref a),some (.ref r1),some (.ref r2),some (.int be),some (.int g2),some (.int (0+(j:Int))),some (.int c),some (.int tm),some (.ref r8),some (.int wy),some (.int (tm * (s0+s1 - 2))),some (.ref r11)]/\Ext H H'/\H' r1=some (.lst ya1)/\Al (λ z y=>axP z y H') (A++A1) ya1/\H' r2=some (.lst yb)/\Al (λ z y=>axP z y H') B yb/\H' r8=some (.lst [.int s0,.int s1])/\H' r11=some (.lst [.int g0,.int g1])/\wN tm s0 A A1 ys1/\g+eB A1 ys1=g2) (λ nx' hn=>?_) ?_
     ·exists hn
      by_cases hs0:1 < s0
      ·have y0:0<=c / 240 % s0/\c / 240 % s0 < s0:=⟨Ko _ %[0|8],Ky _ %[0|8]⟩;have ad:=uv (A:=A) (t:=tm) (sg:=g0) (show 2<=s0/\s0<=1000 by omega) (l0 hs0) %[0|8] sg0 y0;have cm1:iQ tm g0:=.inl ⟨by omega,by omega⟩
       have tg:-100000000001000001<=tm * g0/\tm * g0<=100000000001000001:=by rcases sg0 with rfl|rfl<;>omega
       have cm2:iQ (tm * g0) (c / 240 % s0):=.inl ⟨by omega,by omega⟩;have s00:0 < s0:=by omega
       have hyl:ya.length < sizeLine:=fR %[0|8];clear l0 l1' y0;ac_rfl;intro t10 H10 ht10 e10 h10;have ha10:=e10.at ha9;have n10:t10 ≠ r1:=λ z=>by rw [z,ha9] at ht10;cases ht10
       have al10:Al (λ z y=>axP z y (upd H10 r1 (.lst (ya++[.ref t10])))) (A++[(s0,tm * g0)]) (ya++[.ref t10]):=gR ((alA9 ()).imp λ _ _ t=>axP.upd (axP.ext t e10) ha10) (Al.cons' ⟨t10,rfl,by rw [ah n10];exact h10⟩ Al.nil);have alB10:Al (λ z y=>axP z y (upd H10 r1 (.lst (ya++[.ref t10])))) B yb:=(alB9 ()).imp λ _ _ t=>axP.upd (axP.ext t e10) ha10;have hn':=hn () _ (upd H10 r1 (.lst (ya++[.ref t10]))) ⟨[(s0,tm * g0)],[c / 240 % s0],ya++[.ref t10],g+tm * g0 * (c / 240 % s0),rfl,(e09.trans e10).put hr10,ai,al10,by rw [ah (Kh n12)];exact e10.at hb9,alB10,by rw [ah (Kh n18)];exact e10.at h8_9,by rw [ah (Kh n1b)];exact e10.at h9,ad,by show g+(tm * g0 * (c / 240 % s0)+0)=_;omega⟩;have h8_10:upd H10 r1 (.lst (ya++[.ref t10])) r8=some (.lst [.int s0,.int s1]):=by rw [ah (Kh n18)];exact e10.at h8_9
       have h9_10:upd H10 r1 (.lst (ya++[.ref t10])) r11=some (.lst [.int g0,.int g1]):=by rw [ah (Kh n1b)];exact e10.at h9
       clear hn ad al10 alB10 ht10 alA9 alB9 ha9 hb9 h8_9 h9 h10;ac_rfl
      ·have ad:=pO (t:=tm) (s:=s0) (A:=A) %[0|8] lA8;have hn':=hn () _ H9 ⟨[],[],ya,g,rfl,e09,ha9,by rw [K5];exact alA9 (),hb9,alB9 (),h8_9,h9,ad,by show g+0=g;omega⟩;clear hn ad l0 l1' alA9 alB9;ac_rfl
     clear alA9 alB9 ha9 hb9 h8_9 h9 e09;rintro _ H12 ⟨A1,ys1,ya1,g2,rfl,e12,ha12,alA12,hb12,alB12,h8_12,h9_12,ad1,hg2⟩;exists alA12;exists alB12;exists ad1;exists hg2
     have done:∀ (B1:List (Int × Int)) (zs1:List Int) (g3:Int),wN tm s1 B B1 zs1->g2 - eB B1 zs1=g3->gE (A++A1) (B++B1) g3 (be+tm * (s0+s1 - 2)):=λ B1 zs1 g3 ad2 hg3=>by
      obtain⟨p1,p2,p3,p4⟩:=ad1 ();obtain⟨q1,q2,q3,q4⟩:=ad2;have:=hg2 ();refine(hN ()).add tb.1 p1 q1 p2 q2 p3 q3 ?_ hroom %[0|8];rw [p4,q4,←K9,show s0 - 1+(s1 - 1)=s0+s1 - 2 by omega]
     exists done
     by_cases hs1:1 < s1
     ·have y1:0<=c.fdiv 10000000 % s1/\c.fdiv 10000000 % s1 < s1:=⟨Ko _ %[0|8],Ky _ %[0|8]⟩;have ad:=uv (A:=B) (t:=tm) (sg:=g1) (show 2<=s1/\s1<=1000 by omega) (l1' hs1) %[0|8] sg1 y1;have cm1:iQ tm g1:=.inl ⟨by omega,by omega⟩
      have tg:-100000000001000001<=tm * g1/\tm * g1<=100000000001000001:=by rcases sg1 with rfl|rfl<;>omega
      have cm2:iQ (tm * g1) (c.fdiv 10000000 % s1):=.inl ⟨by omega,by omega⟩;have hdv:sx c 10000000:=⟨by decide,by decide⟩;have s10:0 < s1:=by omega
      have hyl:yb.length < sizeLine:=fR %[0|8];have fin:=done () [(s1,tm * g1)] [c.fdiv 10000000 % s1] (g2 - tm * g1 * (c.fdiv 10000000 % s1)) ad (by show g2 - (tm * g1 * (c.fdiv 10000000 % s1)+0)=_;omega);exists fin;clear l0 l1' y1 ad done ad1 hg2 hN;ac_rfl;intro t10 H13 ht10 e13 h13;have hb13:=e13.at hb12;have n10:t10 ≠ r2:=λ z=>by rw [z,hb12] at ht10;cases ht10
      have al13:Al (λ z y=>axP z y (upd H13 r2 (.lst (yb++[.ref t10])))) (B++[(s1,tm * g1)]) (yb++[.ref t10]):=gR ((alB12 ()).imp λ _ _ t=>axP.upd (axP.ext t e13) hb13) (Al.cons' ⟨t10,rfl,by rw [ah n10];exact h13⟩ Al.nil);have alA13:Al (λ z y=>axP z y (upd H13 r2 (.lst (yb++[.ref t10])))) (A++A1) ya1:=(alA12 ()).imp λ _ _ t=>axP.upd (axP.ext t e13) hb13;have ha13:upd H13 r2 (.lst (yb++[.ref t10])) r1=some (.lst ya1):=by rw [ah n12];exact e13.at ha12
      have h8_13:upd H13 r2 (.lst (yb++[.ref t10])) r8=some (.lst [.int s0,.int s1]):=by rw [ah (Kh n28)];exact e13.at h8_12
      have h9_13:upd H13 r2 (.lst (yb++[.ref t10])) r11=some (.lst [.int g0,.int g1]):=by rw [ah (Kh n2b)];exact e13.at h9_12
      have e013:Ext H (upd H13 r2 (.lst (yb++[.ref t10]))):=(e12.trans e13).put hr20;exists al13;exists alA13;clear ht10 alA12 alB12 hb12 ha12 h8_12 h9_12 h13;ac_rfl;exact⟨_,_,_,_,_,_,_,_,_,_,_,_,_,rfl,e013,(by first|rfl|exact ha13),alA13 (),(by first|rfl|exact ai),al13 (),fin ()⟩
     ·have ad:=pO (t:=tm) (s:=s1) (A:=B) %[0|8] lB8;have fin:=done () [] [] g2 ad (by show g2 - 0=g2;omega);rw [K5] at fin;exists fin;clear l0 l1' ad done ad1 hg2 hN;ac_rfl;exact⟨_,_,_,_,_,_,_,_,_,_,_,_,_,rfl,e12,(by first|rfl|exact ha12),alA12 (),(by first|rfl|exact hb12),alB12 (),fin ()⟩
    ·have fin:=hN ();exists fin;clear hN l0 l1;ac_rfl;exact⟨A,B,ya,yb,g,be,_,_,_,_,_,_,_,rfl,e08,(by first|rfl|exact ha8),alA8 (),(by first|rfl|exact hb8),alB8 (),fin ()⟩
   ·have fin:=hN ();exists fin;clear hN l0 l1;ac_rfl;exact⟨A,B,ya,yb,g,be,_,_,_,_,_,_,_,rfl,e08,(by first|rfl|exact ha8),alA8 (),(by first|rfl|exact hb8),alB8 (),fin ()⟩
  ·rintro _ H3 ⟨A,B,ya,yb,g,be,v5,v6,v7,v8,v9,v10,v11,rfl,e3,ha,alA,hb,alB,hN⟩;exists alA;exists alB;exists hN;clear h1_2 h2 hS2 e02;ac_rfl;intro r4 H4 _ e4 h4;exact k () A B g be r1 r2 r4 H4 (e3.trans e4) h4 ⟨ya,e4.at ha,(alA ()).imp λ _ _ t=>axP.ext t e4⟩ ⟨yb,e4.at hb,(alB ()).imp λ _ _ t=>axP.ext t e4⟩ (hN ())
abbrev Cy(K:PySem.W.Frag)(a:Addr)(H:Hp)(Q:VK)(E:XK):Prop:=∃ ns:List Int,SqL K H a (ns.map V.int)/\ns.length<=63/\∀ H',Q (.bl true) H'
def rT(K:W.Frag):Sp:=λ vs H Q E=>∃ (a:Addr),vs=[.ref a]/\(Cy K a H Q E)
theorem B3(K:W.Frag){vs:List V}{H:Hp}{Q:VK}{E:XK}(h:rT K vs H Q E):vs.length=1:=p9 h λ _=>rfl
theorem D8(T:Tx K mg t):bC P w K mg base CX0 9 t.a_law t.d_law ["_law_script"] (rT K):=by
 refine T.F_law.ok eU (λ vs H Q E h=>B3 _ h) (λ cdv A' outer s H vs Q E hr h=>?_)
 ·obtain⟨a,rfl,ns,hS,hl,kk⟩:=h;have G__law_draw:=%[fV|46] a ns;have G__law_nested:=%[iZ|46] a ns;have G__law_placed:=%[iY|46];have G__law_terms:=%[fh|46];have G_shares:=%[uL|46];have G_is_apart:=%[nG|46];have G__law_right:=%[kF|46];refine⟨_,%[%[%[_law_nested,%[%[0|0]|1]|3],(%[(4),rfl,%[%[1,eU|5],%[%[2,eU|5],%[%[3,eU|5],%[%[4,eU|5],(@aA _),∅|15],∅|15],∅|15],∅|15],∅,∅|21].mono λ _ _ _ _ h=>aX h),∅,∅,∅|37],%[%[5,eU,%[_law_draw,%[%[0|0],%[%[0|2],%[%[gJ,%[0|2],%[0|2]|9]|1]|1]|1]|3]|4],%[%[6,eU,%[_law_draw,%[%[0|0],%[%[0|2],%[%[0|2]|1]|1]|1]|3]|4],%[%[%[(aV hr.units),%[6|0],%[0|2],(ae _)|14],%[%[3,eU,%[aD,%[3|0],%[az,%[%[%[0|2],%[(@zL _ _ _ _ _ _ mU %[0|2]),%[%[aS,%[cM,%[5|0],%[0|2]|9],%[0|2]|9],%[%[aE,%[0|2],%[aS,%[cM,%[5|0],%[0|2]|9],%[0|2]|9]|9]|1]|1]|1]|1]|23],%[aS,%[5|0],%[0|2]|9],(λ _ _=>rfl)|10]|9]|4]|12],(@ao _)|16],%[%[%[(aV hr.units),%[6|0],%[0|2],(ae _)|14],%[%[3,eU,%[aE,%[aE,%[aS,%[5|0],%[aD,%[aW,%[0|2],%[4|0]|9],%[0|2]|9]|9],%[4|0]|9],%[0|2]|9]|4]|12],(@ao _)|16],%[%[%[_law_placed,%[%[1|0],%[%[2|0],%[%[3|0],%[%[aS,%[5|0],%[0|2]|9],%[%[aS,%[cM,%[5|0],%[0|2]|9],%[0|2]|9]|1]|1]|1]|1]|1]|3],(%[(2),rfl,%[%[7,eU|5],%[%[8,eU|5],(@aA _),∅|15],∅|15],∅,∅|21].mono λ _ _ _ _ h=>aX h),∅,∅,∅|37],%[%[9,eU,%[aD,%[0|2],%[aW,%[0|2],%[len,ar,%[%[_law_terms,%[%[1|0],%[%[2|0]|1]|1]|3]|1]|6]|9]|9]|4],%[%[10,eU,%[shares,%[%[7|0],%[%[8|0],%[%[9|0]|1]|1]|1]|3]|4],%[%[%[%[%[_law_right,%[%[10|0],%[%[1|0],%[%[2|0],%[%[3|0],%[%[(aV hr.units),%[aS,%[6|0],%[0|2]|9],%[0|2],(ae _)|27]|1]|1]|1]|1]|1]|3],(by intros;rfl)|19]|22],%[%[(@cV _ _ _ _)|13]|12],(@ao _)|16],%[%[(PW.pt %[%[(aV hr.units),%[az,%[10|0],%[0|2],(λ _ _=>rfl)|10],(@br _ _ _ _),(ae _)|14],%[%[uK,%[is_apart,%[%[7|0],%[%[8|0],%[%[az,%[10|0],%[0|2],(λ _ _=>rfl)|10]|1]|1]|1]|3],(@cV _ _ _ _),(ae _)|14]|35]|32]),%[%[(@cV _ _ _ _)|13]|12],(@ao _)|16],%[%[11,eU,%[shares,%[%[8|0],%[%[7|0],%[%[9|0]|1]|1]|1]|3]|4],%[%[%[%[(aV hr.units),%[az,%[11|0],%[0|2],(λ _ _=>rfl)|10],%[az,%[10|0],%[0|2],(λ _ _=>rfl)|10],(ae _)|27],%[%[_law_right,%[%[11|0],%[%[2|0],%[%[1|0],%[%[aE,%[0|2],%[3|0]|9],%[%[(aV hr.units),%[aS,%[6|0],%[0|2]|9],%[0|2],(ae _)|27]|1]|1]|1]|1]|1]|3]|34]|31]|13]|12]|11]|11]|11]|11]|11]|11]|11]|11]|11]|11]|11],?_⟩;rw [show start ["_law_script", "_law_one", "_law_other", "_law_goal", "_law_below", "_law_cell_here", "_law_way", "_law_here", "_law_there", "_law_most", "_law_found", "_law_back"] [.ref a]=[some (.ref a),none,none,none,none,none,none,none,none,none,none,none] from rfl];clear G__law_draw G__law_nested G__law_placed G__law_terms G_shares G_is_apart G__law_right;exists kk;ac_rfl;rw [wa];refine⟨rfl,hS,hl,λ A B g be p q r1 H1 e1 h1 pA pB hN=>?_⟩;have hS1:=e1.2 K a _ hS;have be0:=hN.nn.2.2;have be1:=hN.le
  have gb:-be<=g/\g<=be:=by
   obtain⟨ys,zs,i1,i2,e⟩:=hN.meet;have x1:=Ai i1;have x2:=Ai i2;have:=hN.wd;omega
  have hv:eV A B:=⟨hN.kA,hN.kB,by rw [hN.wd];exact hN.le,hN.fall⟩;have hme:=hN.meet;exists hme;clear hS e1 hN;ac_rfl;rw [ej];refine⟨hS1,hl,⟨by decide,by decide⟩,by decide,λ c c0 c1=>?_⟩;ac_rfl;rw [ej];refine⟨hS1,hl,⟨by decide,by decide⟩,by decide,λ wy y0 y1=>?_⟩;clear hS1 h1;simp! only [-oK];refine oO (λ σ' H'=>∃ g2:Int,σ'=[some (.ref a),some (.ref p),some (.ref q),some (.int g2),some (.int be),some (.int c),some (.int wy),none,none,none,none,none]/\Ext H1 H'/\(-100000000000000900<=g2/\g2<=100000000000000900)/\(wy ≠ 1->g2=g)) (λ nx' hn=>?_) ?_
  ·exists hn
   by_cases hw:wy=1
   ·subst hw;have c4:0<=c % 4/\c % 4 < 4:=by omega
    ac_rfl;intro l2 H2 _ e2 h2;ac_rfl;refine hG (λ v=>∃ z:Int,v=.int z/\-100<=z/\z<=100) c4.1 (by simpa using c4.2) (λ v hv=>?_) λ v hv=>?_
    ·simp only [J9,Kp,KR] at hv
     rcases hv with rfl|rfl|rfl|rfl
     ·exact⟨_,rfl,by decide,by decide⟩
     ·exact⟨_,rfl,by decide,by decide⟩
     ·exact⟨_,rfl,by omega,by omega⟩
     ·exact⟨_,rfl,by omega,by omega⟩
    obtain⟨z,rfl,z0,z1⟩:=hv;have hn':=hn () _ H2 ⟨g+z,rfl,e2,by omega,λ h=>absurd rfl h⟩;clear hn;ac_rfl
   ·have hn':=hn () _ H1 ⟨g,rfl,Ext.refl _,by omega,λ _=>rfl⟩;clear hn;ac_rfl
  rintro _ H2 ⟨g2,rfl,e2,gb2,ge2⟩;exists ge2;simp only [zk];refine oO (λ σ' H'=>∃ g3:Int,σ'=[some (.ref a),some (.ref p),some (.ref q),some (.int g3),some (.int be),some (.int c),some (.int wy),none,none,none,none,none]/\Ext H1 H'/\(-100000000000000900<=g3/\g3<=100000000000000900)/\(wy % 3=0->g3=g)) (λ nx' hn=>?_) ?_
  ·exists hn
   by_cases hw:wy=2
   ·subst hw;have md:0<=c % (2 * be+3)/\c % (2 * be+3) < 2 * be+3:=⟨Ko _ %[0|8],Ky _ %[0|8]⟩;have m0:0 < 2 * be+3:=by omega
    have cm:iQ 2 be:=.inl ⟨by decide,by decide⟩;have hn':=hn () _ H2 ⟨c % (2 * be+3) - be - 1,rfl,e2,by omega,λ h=>by omega⟩;clear hn ge2;ac_rfl
   ·have hn':=hn () _ H2 ⟨g2,rfl,e2,gb2,λ h=>ge2 () %[0|8]⟩;clear hn ge2;ac_rfl
  clear ge2 gb2 e2;rintro _ H3 ⟨g3,rfl,e3,gb3,ge3⟩;exists ge3;have pA3:=aC pA e3;have pB3:=aC pB e3;have c4:0<=c % 4/\c % 4 < 4:=by omega
  have c44:0<=c / 4 % 4/\c / 4 % 4 < 4:=by omega
  clear pA pB e3 gb be0 be1;ac_rfl;rw [nZ];refine⟨A,B,pA3,pB3,hv.kA,hv.kB,hv.le,c4,c44,by omega,λ room f x1 x2 r4 H4 e4 h4 v1 v2=>?_⟩;rw [hv.kA.kept] at v1;rw [hv.kB.kept] at v2;have pA4:=aC pA3 e4;have pB4:=aC pB3 e4;have a3:=hv.kA.len;have b3:=hv.kB.len;have oA:∀ b∈A,(1:Int)<=b.1:=λ b hb=>by have:=(hv.kA.sz b hb).1;omega
  have oB:∀ b∈B,(1:Int)<=b.1:=λ b hb=>by have:=(hv.kB.sz b hb).1;omega
  exists oA;exists oB;have hx:f+g3 - f=g3:=by omega
  have hx':f - (f+g3)=0 - g3:=by omega
  exists hx;exists hx';clear pA3 pB3 e4 c4 c44;ac_rfl;rw [js];refine⟨A,B,pA4,pB4,by omega,by omega,oA (),oB (),λ ks r5 H5 e5 t5 ko=>?_⟩;rw [hv.kA.kept,hv.kB.kept] at t5 ko;obtain⟨ts,h5,hal⟩:=t5;have hts:(ts.length:Int)=(ks.length:Int):=by rw [hal.1];unfold ag;rw [length_map]
  have hkl:ks.length<=17:=by have:=(hv.tms ko).1.len;unfold ag at this;rw [length_map] at this;exact this
  have cm:iQ 4 (ks.length:Int):=.inl ⟨by decide,by decide⟩;have pm1:∀ l,iP l (aj A B)->1+4 * (ks.length:Int)=1+4 * (l.length:Int):=λ l hl=>by rw [hl.uniq ko]
  have pm2:∀ l,iP l (aj B A)->1+4 * (ks.length:Int)=1+4 * (l.length:Int):=λ l hl=>by rw [(hv.symm.swap hl).uniq ko]
  exists pm1;exists pm2;clear hal ko h4;ac_rfl;clear cm hts h5;obtain⟨mo,hmo⟩:∃ mo,1+4 * (ks.length:Int)=mo:=⟨_,rfl⟩;have m1:1<=mo/\mo<=100000:=by omega
  rw [hmo] at pm1 pm2 ⊢;clear hmo;rw [fL];refine⟨room,f,f+g3,A,B,v1.ext e5,v2.ext e5,hv.kA.axes,hv.kB.axes,m1.1,m1.2,zI hv (λ l hl=>by rw [pm1 () l hl];exact Kb _),λ ks1 o1 pp1 r6 H6 e6 sr w1=>?_⟩;rw [hx ()] at sr;obtain⟨b1,an1,hb1⟩:=zv hv sr w1 (pm1 ());have e46:=e5.trans e6;have hsu:decide (wy % 3=0)=true->b1=true:=λ h=>hb1.mpr (by rw [ge3 () (of_decide_eq_true h)];exact hme ());exists an1;exists hb1;exists hsu;clear sr w1 e5 e6 ge3 hme;ac_rfl;rw [fM];refine⟨A,B,b1,aC pA4 e46,aC pB4 e46,hv,an1 (),hsu (),λ H7 e7=>?_⟩;have an7:=(an1 ()).ext e7;have e47:=e46.trans e7;clear an1 e46 e7
  have fin:∀ H8:Hp,Ext H4 H8->∀ (ks2:List Int) (o2:Option (List Int)) (pp2:List (List V)) (r9:Addr) (H9:Hp),mP B A (f - (f+g3)) mo ks2 o2 pp2->ShV H8 H9 r9 B.length ks2 (aj B A) pp2 o2->CC H9 r9 B A (0 - g3) b1:=λ H8 e8 ks2 o2 pp2 r9 H9 sr w=>by
   rw [hx' ()] at sr;obtain⟨b2,an2,hb2⟩:=zv hv.symm sr w (pm2 ());have e:b2=b1:=Li.mpr (hb2.trans (mQ.swap.trans (hb1 ()).symm));rw [←e];exact an2
  exists fin;have sq1:(Str.ofString "apart" == Str.ofString "apart")=true:=by decide +kernel
  have sq2:(Str.ofString "shared" == Str.ofString "apart")=false:=by decide +kernel
  have sq3:(Str.ofString "shared" == Str.ofString "shared")=true:=by decide +kernel
  rcases an7 with ⟨rfl,ys,zs,a1,a2,h1,h2,h3,_⟩|⟨rfl,pp,a1,h1,pap,hpl,rep⟩
  ·clear h2 h3;ac_rfl;rw [fL];refine⟨room,f+g3,f,B,A,v2.ext e47,v1.ext e47,hv.kB.axes,hv.kA.axes,m1.1,m1.2,zI hv.symm (λ l hl=>by rw [pm2 () l hl];exact Kb _),λ ks2 o2 pp2 r9 H9 e9 sr w=>?_⟩;have an2:=fin () H7 e47 ks2 o2 pp2 r9 H9 sr w;have h1_9:=e9.at h1;have e49:=e47.trans e9;clear sr w fin h1;have an2':=λ (_:Unit)=>an2
   rcases an2 with ⟨_,_,_,c1,c2,k1,_⟩|⟨hbb,_⟩
   ·ac_rfl;rw [fM];exact⟨B,A,true,aC pB4 e49,aC pA4 e49,hv.symm,an2' (),λ _=>rfl,λ H10 _=>kk () H10⟩
   ·cases hbb
  ·exists rep;exists pap;ac_rfl;rw [oa];refine⟨room,f,f+g3,A,B,pp,v1.ext e47,v2.ext e47,hv.kA.axes,hv.kB.axes,pap (),hpl,λ l hl=>⟨(hv.tms hl).1,by rw [hx ()];exact(rep () l hl).2⟩,λ H8 e8=>?_⟩;have e48:=e47.trans e8;have h1_8:=e8.at h1;clear h1 pap rep;ac_rfl;rw [fL];refine⟨room,f+g3,f,B,A,v2.ext e48,v1.ext e48,hv.kB.axes,hv.kA.axes,m1.1,m1.2,zI hv.symm (λ l hl=>by rw [pm2 () l hl];exact Kb _),λ ks2 o2 pp2 r9 H9 e9 sr w=>?_⟩;have an2:=fin () H8 e48 ks2 o2 pp2 r9 H9 sr w;have h1_9:=e9.at h1_8;have e49:=e48.trans e9;clear sr w fin h1_8;have an2':=λ (_:Unit)=>an2;have hsu':=hsu ()
   rcases an2 with ⟨hbb,_⟩|⟨_,_,c1,k1,_⟩
   ·cases hbb
   ·clear hsu;exists hsu';ac_rfl;rw [fM];exact⟨B,A,false,aC pB4 e49,aC pA4 e49,hv.symm,an2' (),hsu' (),λ H10 _=>kk () H10⟩
end
theorem Jh{l:W.OpenLaw}{w:World}{K:W.Frag}{h:Heap}{mg:Str->Option Value}{fa:Addr}(X:K.In h)(G:h.Ns mainGlobals mg)(hfa:mg "law"=some (.ref fa))
  {C0:Addr} (y0:W.nsIn K mainGlobals "PaceError"=some (some (.ref C0)))
  {C1:Addr} (y1:W.nsIn K mainGlobals "NoPlace"=some (some (.ref C1)))
  {C2:Addr} (y2:W.nsIn K mainGlobals "NoView"=some (some (.ref C2)))
  {C3:Addr} (y3:W.nsIn K mainGlobals "NoPair"=some (some (.ref C3)))
  {C4:Addr} (y4:W.nsIn K mainGlobals "NoMost"=some (some (.ref C4)))
  {C5:Addr} (y5:W.nsIn K mainGlobals "View"=some (some (.ref C5)))
  {f0:Addr} {d0:FuncData} (a0:W.nsIn K mainGlobals "is_whole"=some (some (.ref f0))) (F0:Fun K "is_whole" "is_whole" fC f0 d0)
  {f1:Addr} {d1:FuncData} (a1:W.nsIn K mainGlobals "divisor"=some (some (.ref f1))) (F1:Fun K "divisor" "divisor" g8 f1 d1)
  {f2:Addr} {d2:FuncData} (a2:W.nsIn K mainGlobals "divisor_of"=some (some (.ref f2))) (F2:Fun K "divisor_of" "divisor_of" dS f2 d2)
  {f3:Addr} {d3:FuncData} (a3:W.nsIn K mainGlobals "least_sum"=some (some (.ref f3))) (F3:Fun K "least_sum" "least_sum" dm f3 d3)
  {f4:Addr} {d4:FuncData} (a4:W.nsIn K mainGlobals "greatest_sum"=some (some (.ref f4))) (F4:Fun K "greatest_sum" "greatest_sum" bZ f4 d4)
  {f5:Addr} {d5:FuncData} (a5:W.nsIn K mainGlobals "rest_of"=some (some (.ref f5))) (F5:Fun K "rest_of" "rest_of" eZ f5 d5)
  {f6:Addr} {d6:FuncData} (a6:W.nsIn K mainGlobals "end_of"=some (some (.ref f6))) (F6:Fun K "end_of" "end_of" kd f6 d6)
  {f7:Addr} {d7:FuncData} (a7:W.nsIn K mainGlobals "is_number_below"=some (some (.ref f7))) (F7:Fun K "is_number_below" "is_number_below" dg f7 d7)
  {f8:Addr} {d8:FuncData} (a8:W.nsIn K mainGlobals "is_place"=some (some (.ref f8))) (F8:Fun K "is_place" "is_place" jk f8 d8)
  {f9:Addr} {d9:FuncData} (a9:W.nsIn K mainGlobals "is_within"=some (some (.ref f9))) (F9:Fun K "is_within" "is_within" eL f9 d9)
  {f10:Addr} {d10:FuncData} (a10:W.nsIn K mainGlobals "is_size"=some (some (.ref f10))) (F10:Fun K "is_size" "is_size" gZ f10 d10)
  {f11:Addr} {d11:FuncData} (a11:W.nsIn K mainGlobals "is_axis"=some (some (.ref f11))) (F11:Fun K "is_axis" "is_axis" g6 f11 d11)
  {f12:Addr} {d12:FuncData} (a12:W.nsIn K mainGlobals "are_axes"=some (some (.ref f12))) (F12:Fun K "are_axes" "are_axes" er f12 d12)
  {f13:Addr} {d13:FuncData} (a13:W.nsIn K mainGlobals "kept_axis"=some (some (.ref f13))) (F13:Fun K "kept_axis" "kept_axis" eK f13 d13)
  {f14:Addr} {d14:FuncData} (F14:Fun K "__init__" "View.__init__" bV f14 d14)
  {f15:Addr} {d15:FuncData} (F15:Fun K "sizes" "View.sizes" fS f15 d15)
  {f16:Addr} {d16:FuncData} (F16:Fun K "paces" "View.paces" fT f16 d16)
  {f17:Addr} {d17:FuncData} (F17:Fun K "cell" "View.cell" il f17 d17)
  {f18:Addr} {d18:FuncData} (F18:Fun K "least" "View.least" cD f18 d18)
  {f19:Addr} {d19:FuncData} (F19:Fun K "greatest" "View.greatest" bU f19 d19)
  {f20:Addr} {d20:FuncData} (a20:W.nsIn K mainGlobals "refuse_rooms"=some (some (.ref f20))) (F20:Fun K "refuse_rooms" "refuse_rooms" cP f20 d20)
  {f21:Addr} {d21:FuncData} (a21:W.nsIn K mainGlobals "pulls"=some (some (.ref f21))) (F21:Fun K "pulls" "pulls" gP f21 d21)
  {f22:Addr} {d22:FuncData} (a22:W.nsIn K mainGlobals "gathered"=some (some (.ref f22))) (F22:Fun K "gathered" "gathered" eo f22 d22)
  {f23:Addr} {d23:FuncData} (a23:W.nsIn K mainGlobals "first_case"=some (some (.ref f23))) (F23:Fun K "first_case" "first_case" cy f23 d23)
  {f24:Addr} {d24:FuncData} (a24:W.nsIn K mainGlobals "parted"=some (some (.ref f24))) (F24:Fun K "parted" "parted" j9 f24 d24)
  {f25:Addr} {d25:FuncData} (a25:W.nsIn K mainGlobals "numbers_at_once"=some (some (.ref f25))) (F25:Fun K "numbers_at_once" "numbers_at_once" aR f25 d25)
  {f26:Addr} {d26:FuncData} (a26:W.nsIn K mainGlobals "narrowed"=some (some (.ref f26))) (F26:Fun K "narrowed" "narrowed" fB f26 d26)
  {f27:Addr} {d27:FuncData} (a27:W.nsIn K mainGlobals "parting"=some (some (.ref f27))) (F27:Fun K "parting" "parting" gY f27 d27)
  {f28:Addr} {d28:FuncData} (a28:W.nsIn K mainGlobals "places_by_numbers"=some (some (.ref f28))) (F28:Fun K "places_by_numbers" "places_by_numbers" bF f28 d28)
  {D29:Addr} {qc29:Value} {qd29:Option Addr} {qn29:Nat} {qs29:Array (Option Value)} {dk29:Tok}
  {f29:Addr} {od29 an29:Option Addr} {sl29:Array (Option Value)} {oc29 kV29 dc29 pm29 cd29 ct29:Value}
  (a29:W.nsIn K mainGlobals "shares"=some (some (.ref f29))) (l29:K.lookup f29=some ⟨oc29,od29,.func (W.fnOf "shares" "shares" (cO ee) (b7 ee) (aa ee) (.ref D29) kV29 dc29 pm29 an29 cd29 ct29),sl29⟩)
  (q29:K.lookup D29=some ⟨qc29,qd29,.seq #[Value.int 1000 dk29] qn29,qs29⟩)
  (c29:W.codeIn K cd29 "shares"=true) (k29:W.keepIn K (.ref f29)=true)
  {f30:Addr} {d30:FuncData} (a30:W.nsIn K mainGlobals "is_step"=some (some (.ref f30))) (F30:Fun K "is_step" "is_step" fb f30 d30)
  {f31:Addr} {d31:FuncData} (a31:W.nsIn K mainGlobals "divides_all"=some (some (.ref f31))) (F31:Fun K "divides_all" "divides_all" cg f31 d31)
  {f32:Addr} {d32:FuncData} (a32:W.nsIn K mainGlobals "ends_by"=some (some (.ref f32))) (F32:Fun K "ends_by" "ends_by" g7 f32 d32)
  {f33:Addr} {d33:FuncData} (a33:W.nsIn K mainGlobals "parts_by"=some (some (.ref f33))) (F33:Fun K "parts_by" "parts_by" fA f33 d33)
  {f34:Addr} {d34:FuncData} (a34:W.nsIn K mainGlobals "is_apart"=some (some (.ref f34))) (F34:Fun K "is_apart" "is_apart" fD f34 d34)
  {f35:Addr} {d35:FuncData} (a35:W.nsIn K mainGlobals "_law_draw"=some (some (.ref f35))) (F35:Fun K "_law_draw" "_law_draw" eP f35 d35)
  {f36:Addr} {d36:FuncData} (a36:W.nsIn K mainGlobals "_law_whole"=some (some (.ref f36))) (F36:Fun K "_law_whole" "_law_whole" dU f36 d36)
  {f37:Addr} {d37:FuncData} (a37:W.nsIn K mainGlobals "_law_placed"=some (some (.ref f37))) (F37:Fun K "_law_placed" "_law_placed" bS f37 d37)
  {f38:Addr} {d38:FuncData} (a38:W.nsIn K mainGlobals "_law_terms"=some (some (.ref f38))) (F38:Fun K "_law_terms" "_law_terms" cz f38 d38)
  {f39:Addr} {d39:FuncData} (a39:W.nsIn K mainGlobals "_law_is_place"=some (some (.ref f39))) (F39:Fun K "_law_is_place" "_law_is_place" cq f39 d39)
  {f40:Addr} {d40:FuncData} (a40:W.nsIn K mainGlobals "_law_cell"=some (some (.ref f40))) (F40:Fun K "_law_cell" "_law_cell" dq f40 d40)
  {f41:Addr} {d41:FuncData} (a41:W.nsIn K mainGlobals "_law_met"=some (some (.ref f41))) (F41:Fun K "_law_met" "_law_met" fE f41 d41)
  {f42:Addr} {d42:FuncData} (a42:W.nsIn K mainGlobals "_law_sums"=some (some (.ref f42))) (F42:Fun K "_law_sums" "_law_sums" cn f42 d42)
  {f43:Addr} {d43:FuncData} (a43:W.nsIn K mainGlobals "_law_divisor"=some (some (.ref f43))) (F43:Fun K "_law_divisor" "_law_divisor" cQ f43 d43)
  {f44:Addr} {d44:FuncData} (a44:W.nsIn K mainGlobals "_law_ended"=some (some (.ref f44))) (F44:Fun K "_law_ended" "_law_ended" cC f44 d44)
  {f45:Addr} {d45:FuncData} (a45:W.nsIn K mainGlobals "_law_rest"=some (some (.ref f45))) (F45:Fun K "_law_rest" "_law_rest" eO f45 d45)
  {f46:Addr} {d46:FuncData} (a46:W.nsIn K mainGlobals "_law_behind"=some (some (.ref f46))) (F46:Fun K "_law_behind" "_law_behind" dv f46 d46)
  {f47:Addr} {d47:FuncData} (a47:W.nsIn K mainGlobals "_law_left"=some (some (.ref f47))) (F47:Fun K "_law_left" "_law_left" dn f47 d47)
  {f48:Addr} {d48:FuncData} (a48:W.nsIn K mainGlobals "_law_apart"=some (some (.ref f48))) (F48:Fun K "_law_apart" "_law_apart" dX f48 d48)
  {f49:Addr} {d49:FuncData} (a49:W.nsIn K mainGlobals "_law_size"=some (some (.ref f49))) (F49:Fun K "_law_size" "_law_size" eM f49 d49)
  {f50:Addr} {d50:FuncData} (a50:W.nsIn K mainGlobals "_law_nested"=some (some (.ref f50))) (F50:Fun K "_law_nested" "_law_nested" du f50 d50)
  {f51:Addr} {d51:FuncData} (a51:W.nsIn K mainGlobals "_law_right"=some (some (.ref f51))) (F51:Fun K "_law_right" "_law_right" dW f51 d51)
  {f52:Addr} {od52 an52:Option Addr} {sl52:Array (Option Value)} {oc52 kV52 dc52 pm52 cd52 ct52:Value}
  (a52:W.nsIn K mainGlobals "law"=some (some (.ref f52))) (l52:K.lookup f52=some ⟨oc52,od52,.func (W.fnOf "law" "law" (cO jH) (b7 jH) (aa jH) .none kV52 dc52 pm52 an52 cd52 ct52),sl52⟩)
  (c52:W.codeIn K cd52 "law"=true) (k52:W.keepIn K (.ref f52)=true)
  (pg_View:W.plainGet K C5 Str.empty=true)
  (hd_View:W.hasDictIn K C5=true)
  (po_View:W.plainOver K C5=true)
  (sa_View:W.findIn K (.ref C5) "__setattr__"=some (some (.builtin "object.__setattr__")))
  (nf_View_axes:W.findIn K (.ref C5) "axes"=some none)
  (nf_View_first:W.findIn K (.ref C5) "first"=some none)
  (nf_View_room:W.findIn K (.ref C5) "room"=some none)
  (fi_View___init__:W.findIn K (.ref C5) "__init__"=some (some (.ref f14)))
  (fn_View___init__:W.isFn K (.ref f14)=true)
  (mm_View:W.makesIn K C5=true)
  (ck_View:W.keepIn K (.ref C5)=true)
  (fi_View_sizes:W.findIn K (.ref C5) "sizes"=some (some (.ref f15)))
  (fn_View_sizes:W.isFn K (.ref f15)=true)
  (fi_View_paces:W.findIn K (.ref C5) "paces"=some (some (.ref f16)))
  (fn_View_paces:W.isFn K (.ref f16)=true)
  (fi_View_cell:W.findIn K (.ref C5) "cell"=some (some (.ref f17)))
  (fn_View_cell:W.isFn K (.ref f17)=true)
  (fi_View_least:W.findIn K (.ref C5) "least"=some (some (.ref f18)))
  (fn_View_least:W.isFn K (.ref f18)=true)
  (fi_View_greatest:W.findIn K (.ref C5) "greatest"=some (some (.ref f19)))
  (fn_View_greatest:W.isFn K (.ref f19)=true)
  {tk0:Tok} (w0:W.nsIn K mainGlobals "MOST_ROOM"=some (some (.int 1000000000000000000 tk0)))
  {tk1:Tok} (w1:W.nsIn K mainGlobals "MOST_SIZE"=some (some (.int 1000000000 tk1)))
  {tk2:Tok} (w2:W.nsIn K mainGlobals "MOST_AXES"=some (some (.int 8 tk2)))
  {tk3:Tok} (w3:W.nsIn K mainGlobals "MOST_CASES"=some (some (.int 100000 tk3)))
  (z0:W.nsIn K mainGlobals "ValueError"=some none)
  (z1:W.nsIn K mainGlobals "abs"=some none)
  (z2:W.nsIn K mainGlobals "all"=some none)
  (z3:W.nsIn K mainGlobals "bool"=some none)
  (z4:W.nsIn K mainGlobals "enumerate"=some none)
  (z5:W.nsIn K mainGlobals "int"=some none)
  (z6:W.nsIn K mainGlobals "isinstance"=some none)
  (z7:W.nsIn K mainGlobals "len"=some none)
  (z8:W.nsIn K mainGlobals "list"=some none)
  (z9:W.nsIn K mainGlobals "max"=some none)
  (z10:W.nsIn K mainGlobals "min"=some none)
  (z11:W.nsIn K mainGlobals "range"=some none)
  (z12:W.nsIn K mainGlobals "sorted"=some none)
  (z13:W.nsIn K mainGlobals "str"=some none)
  (z14:W.nsIn K mainGlobals "sum"=some none)
  (z15:W.nsIn K mainGlobals "tuple"=some none)
  (z16:W.nsIn K mainGlobals "zip"=some none)
  : ∃ fd:FuncData,(∀ (s:Shared) (v:Value),BindsTo s fd ⟨[v],[]⟩ [("_law_script",v)])/\∀ base:Heap,K.In base->base.Ns mainGlobals mg->bC l.prog w K mg base CX0 9 fa fd ["_law_script"] (rT K):=by
 have e:=hfa.symm.trans (J7 X G a52);cases e;have F29:=Cm (st:=ee) l29 c29 k29;have F52:=FE (st:=jH) l52 c52 k52;have T:Tx K mg ⟨C0,C1,C2,C3,C4,C5,f0,_,f1,_,f2,_,f3,_,f4,_,f5,_,f6,_,f7,_,f8,_,f9,_,f10,_,f11,_,f12,_,f13,_,f14,_,f15,_,f16,_,f17,_,f18,_,f19,_,f20,_,f21,_,f22,_,f23,_,f24,_,f25,_,f26,_,f27,_,f28,_,f29,_,f30,_,f31,_,f32,_,f33,_,f34,_,f35,_,f36,_,f37,_,f38,_,f39,_,f40,_,f41,_,f42,_,f43,_,f44,_,f45,_,f46,_,f47,_,f48,_,f49,_,f50,_,f51,_,fa,_⟩:=⟨J7 X G y0,J7 X G y1,J7 X G y2,J7 X G y3,J7 X G y4,J7 X G y5,⟨_,J7 X G w0⟩,⟨_,J7 X G w1⟩,⟨_,J7 X G w2⟩,⟨_,J7 X G w3⟩,⟨pg_View,hd_View,po_View,sa_View⟩,nf_View_axes,nf_View_first,nf_View_room,⟨mm_View,fi_View___init__,fn_View___init__,ck_View⟩,⟨fi_View_sizes,fn_View_sizes,F15.kp⟩,⟨fi_View_paces,fn_View_paces,F16.kp⟩,⟨fi_View_cell,fn_View_cell,F17.kp⟩,⟨fi_View_least,fn_View_least,F18.kp⟩,⟨fi_View_greatest,fn_View_greatest,F19.kp⟩,F0,J7 X G a0,F0.binds (ps:=["thing"]) (λ _ _ _ _ _ _=>kW (λ _=>rfl)),F1,J7 X G a1,F1.binds (ps:=["one", "other"]) (λ _ _ _ _ _ _=>mL (λ _ _=>rfl)),F2,J7 X G a2,F2.binds (ps:=["numbers"]) (λ _ _ _ _ _ _=>kW (λ _=>rfl)),F3,J7 X G a3,F3.binds (ps:=["terms", "case"]) (λ _ _ _ _ _ _=>mL (λ _ _=>rfl)),F4,J7 X G a4,F4.binds (ps:=["terms", "case"]) (λ _ _ _ _ _ _=>mL (λ _ _=>rfl)),F5,J7 X G a5,F5.binds (ps:=["terms", "case"]) (λ _ _ _ _ _ _=>mL (λ _ _=>rfl)),F6,J7 X G a6,F6.binds (ps:=["terms", "goal", "case"]) (λ _ _ _ _ _ _=>rN (λ _ _ _=>rfl)),F7,J7 X G a7,F7.binds (ps:=["thing", "bound"]) (λ _ _ _ _ _ _=>mL (λ _ _=>rfl)),F8,J7 X G a8,F8.binds (ps:=["sizes", "thing"]) (λ _ _ _ _ _ _=>mL (λ _ _=>rfl)),F9,J7 X G a9,F9.binds (ps:=["thing", "low", "high"]) (λ _ _ _ _ _ _=>rN (λ _ _ _=>rfl)),F10,J7 X G a10,F10.binds (ps:=["thing"]) (λ _ _ _ _ _ _=>kW (λ _=>rfl)),F11,J7 X G a11,F11.binds (ps:=["thing"]) (λ _ _ _ _ _ _=>kW (λ _=>rfl)),F12,J7 X G a12,F12.binds (ps:=["thing"]) (λ _ _ _ _ _ _=>kW (λ _=>rfl)),F13,J7 X G a13,F13.binds (ps:=["axis"]) (λ _ _ _ _ _ _=>kW (λ _=>rfl)),F14,F14.binds (ps:=["self", "room", "first", "axes"]) (λ _ _ _ _ _ _=>wu (λ _ _ _ _=>rfl)),F15,F15.binds (ps:=["self"]) (λ _ _ _ _ _ _=>kW (λ _=>rfl)),F16,F16.binds (ps:=["self"]) (λ _ _ _ _ _ _=>kW (λ _=>rfl)),F17,F17.binds (ps:=["self", "place"]) (λ _ _ _ _ _ _=>mL (λ _ _=>rfl)),F18,F18.binds (ps:=["self"]) (λ _ _ _ _ _ _=>kW (λ _=>rfl)),F19,F19.binds (ps:=["self"]) (λ _ _ _ _ _ _=>kW (λ _=>rfl)),F20,J7 X G a20,F20.binds (ps:=["one", "other"]) (λ _ _ _ _ _ _=>mL (λ _ _=>rfl)),F21,J7 X G a21,F21.binds (ps:=["one", "other"]) (λ _ _ _ _ _ _=>mL (λ _ _=>rfl)),F22,J7 X G a22,F22.binds (ps:=["one", "other"]) (λ _ _ _ _ _ _=>mL (λ _ _=>rfl)),F23,J7 X G a23,F23.binds (ps:=["terms"]) (λ _ _ _ _ _ _=>kW (λ _=>rfl)),F24,J7 X G a24,F24.binds (ps:=["case", "k", "at"]) (λ _ _ _ _ _ _=>rN (λ _ _ _=>rfl)),F25,J7 X G a25,F25.binds (ps:=["terms", "goal", "case"]) (λ _ _ _ _ _ _=>rN (λ _ _ _=>rfl)),F26,J7 X G a26,F26.binds (ps:=["times", "bounds", "above_least", "below_greatest"]) (λ _ _ _ _ _ _=>wu (λ _ _ _ _=>rfl)),F27,J7 X G a27,F27.binds (ps:=["terms", "goal", "case"]) (λ _ _ _ _ _ _=>rN (λ _ _ _=>rfl)),F28,J7 X G a28,F28.binds (ps:=["one", "other", "terms", "numbers"]) (λ _ _ _ _ _ _=>wu (λ _ _ _ _=>rfl)),F29,J7 X G a29,(λ s us hin hl=>match us,(show us.length=3 by simp only [JU,Kk,LD] at hl;omega) with|[_,_,_],_=>BindsTo.of_defaults rfl (hin _ _ q29) rfl rfl rfl),⟨_,(λ s us hin hl=>match us,(show us.length=2 by simp only [JU,Kk,LD] at hl;omega) with|[_,_],_=>BindsTo.of_defaults rfl (hin _ _ q29) rfl rfl rfl)⟩,F30,J7 X G a30,F30.binds (ps:=["thing", "word", "many"]) (λ _ _ _ _ _ _=>rN (λ _ _ _=>rfl)),F31,J7 X G a31,F31.binds (ps:=["terms", "case", "number"]) (λ _ _ _ _ _ _=>rN (λ _ _ _=>rfl)),F32,J7 X G a32,F32.binds (ps:=["terms", "goal", "case", "step"]) (λ _ _ _ _ _ _=>wu (λ _ _ _ _=>rfl)),F33,J7 X G a33,F33.binds (ps:=["case", "step"]) (λ _ _ _ _ _ _=>mL (λ _ _=>rfl)),F34,J7 X G a34,F34.binds (ps:=["one", "other", "paper"]) (λ _ _ _ _ _ _=>rN (λ _ _ _=>rfl)),F35,J7 X G a35,F35.binds (ps:=["_law_script", "_law_k", "_law_many"]) (λ _ _ _ _ _ _=>rN (λ _ _ _=>rfl)),F36,J7 X G a36,F36.binds (ps:=["_law_found"]) (λ _ _ _ _ _ _=>kW (λ _=>rfl)),F37,J7 X G a37,F37.binds (ps:=["_law_one", "_law_other", "_law_goal", "_law_low", "_law_more"]) (λ _ _ _ _ _ _=>Iy (λ _ _ _ _ _=>rfl)),F38,J7 X G a38,F38.binds (ps:=["_law_one", "_law_other"]) (λ _ _ _ _ _ _=>mL (λ _ _=>rfl)),F39,J7 X G a39,F39.binds (ps:=["_law_place", "_law_axes"]) (λ _ _ _ _ _ _=>mL (λ _ _=>rfl)),F40,J7 X G a40,F40.binds (ps:=["_law_first", "_law_axes", "_law_place"]) (λ _ _ _ _ _ _=>rN (λ _ _ _=>rfl)),F41,J7 X G a41,F41.binds (ps:=["_law_found", "_law_one", "_law_other", "_law_goal"]) (λ _ _ _ _ _ _=>wu (λ _ _ _ _=>rfl)),F42,J7 X G a42,F42.binds (ps:=["_law_terms_here", "_law_case"]) (λ _ _ _ _ _ _=>mL (λ _ _=>rfl)),F43,J7 X G a43,F43.binds (ps:=["_law_numbers"]) (λ _ _ _ _ _ _=>kW (λ _=>rfl)),F44,J7 X G a44,F44.binds (ps:=["_law_terms_here", "_law_goal", "_law_case"]) (λ _ _ _ _ _ _=>rN (λ _ _ _=>rfl)),F45,J7 X G a45,F45.binds (ps:=["_law_terms_here", "_law_goal", "_law_case", "_law_by"]) (λ _ _ _ _ _ _=>wu (λ _ _ _ _=>rfl)),F46,J7 X G a46,F46.binds (ps:=["_law_terms_here", "_law_goal", "_law_case", "_law_step"]) (λ _ _ _ _ _ _=>wu (λ _ _ _ _=>rfl)),F47,J7 X G a47,F47.binds (ps:=["_law_terms_here", "_law_goal", "_law_paper", "_law_bare"]) (λ _ _ _ _ _ _=>wu (λ _ _ _ _=>rfl)),F48,J7 X G a48,F48.binds (ps:=["_law_found", "_law_terms_here", "_law_goal", "_law_most"]) (λ _ _ _ _ _ _=>wu (λ _ _ _ _=>rfl)),F49,J7 X G a49,F49.binds (ps:=["_law_cell_here"]) (λ _ _ _ _ _ _=>kW (λ _=>rfl)),F50,J7 X G a50,F50.binds (ps:=["_law_script"]) (λ _ _ _ _ _ _=>kW (λ _=>rfl)),F51,J7 X G a51,F51.binds (ps:=["_law_found", "_law_one", "_law_other", "_law_goal", "_law_sure"]) (λ _ _ _ _ _ _=>Iy (λ _ _ _ _ _=>rfl)),F52,J7 X G a52,F52.binds (ps:=["_law_script"]) (λ _ _ _ _ _ _=>kW (λ _=>rfl)),Kl X G z0,Kl X G z1,Kl X G z2,Kl X G z3,Kl X G z4,Kl X G z5,Kl X G z6,Kl X G z7,Kl X G z8,Kl X G z9,Kl X G z10,Kl X G z11,Kl X G z12,Kl X G z13,Kl X G z14,Kl X G z15,Kl X G z16⟩;exact⟨W.fnOf "law" "law" (cO jH) (b7 jH) (aa jH) .none kV52 dc52 pm52 an52 cd52 ct52,λ s v=>.of_eq rfl,λ base _ _=>D8 T⟩
theorem JI{l:W.OpenLaw}{q:Program}{loose:List Str}{XP:(Str->Option Value)->Heap->Prop}{YP:World->Heap->Prop}{d:DefRec}{K:Params->W.Frag}(hn:l.most=some 63)(hdf:d.params.defaults=[])
  (hY:∀ (w:World) (h:Heap),YP w h->(K w.params).In h)
  (F:∀ (w:World) (mg:Str->Option Value) (fa:Addr) (h:Heap),(K w.params).In h->h.Ns mainGlobals mg->mg d.name=some (.ref fa) →
   ∃ fd:FuncData,(∀ (s:Shared) (u:Value),BindsTo s fd ⟨[u],[]⟩ [("_law_script",u)])/\∀ base:Heap,(K w.params).In base->base.Ns mainGlobals mg->bC l.prog w (K w.params) mg base CX0 9 fa fd ["_law_script"] (rT (K w.params))) :
  W.WalkO q loose XP YP l.row.toRowW d [] (λ f vs=>PySem.call f vs):=
 L2.HV (n:=63) (k:=9) (x := "_law_script") (CX:=λ _=>CX0) (sp:=λ w=>rT (K w.params)) hn ⋯ hdf ⟨rfl,by decide,by decide⟩ hY F (λ _ _ a ns hl _ hS=>⟨a,rfl,ns,hS,hl,λ _=>rfl⟩) λ _ _ _ _ _ z=>z
end PH
namespace PySem.W.Fast
def tw6987048761738638385:=0
def tw2981787444008569896:=0
def tw2228116406234884096:=0
def tw1804218354216785457:=0
def tw3131603393883949741:=0
def tw10483892182814696766:=0
def tw8517361615315901859:=0
def tw14546574148078134217:=0
def tw18246821517091841321:=0
def tw8163124411428373198:=0
def tw13132156707073121072:=0
def tw10826550731793988490:=0
def tw3747503100057870754:=0
def tw6792450963050152009:=0
def tw16542141583454058142:=0
def tw5635601204806099476:=0
def tw870395566886206759:=0
def tw1791431471354775434:=0
def tw5838686153353986833:=0
def tw16897871185263442705:=0
def tw6940448810892145895:=0
def tw9394053886222401867:=0
def tw298358932800994803:=0
def tw5141394910549376652:=0
def tw8470804067272088962:=0
def tw3509336717720267381:=0
def tw469000878700054409:=0
def tw6755961239351317658:=0
def tw2353309905236065485:=0
def tw13513255089298420783:=0
def tw1715997935535002042:=0
def tw6312867909851545910:=0
def tw7798014189770867850:=0
def tw2997942222084078031:=0
def tw1516964243080694966:=0
def tw5411466768759048288:=0
def tw8198664529324022468:=0
def tw2163337145323334053:=0
def tw16723357927728685393:=0
def tw5677781372978296817:=0
def tw3880068248052239263:=0
def tw14038264363731773814:=0
def tw16285804878620873883:=0
def tw17736799262843001254:=0
def tw11519517652180393136:=0
def tw6904564788906505207:=0
def tw8342915833580977613:=0
def tw16045733143093591010:=0
def tw4905794141542197382:=0
def tw240014861686420771:=0
def tw1302954905870525228:=0
def tw7062702801508313454:=0
def tw15434494954060625923:=0
def tw17779039845718745608:=0
def tw7950931481468049887:=0
def tw2550192520844571229:=0
def tw9270484785088071174:=0
def tw4847049559327209367:=0
def tw16995502750119131309:=0
def tw1655238654854130557:=0
def tw15769873987643537544:=0
def tw431945789811661578:=0
def tw2888138925174902374:=0
def tw13650721652540572354:=0
def tw10682659953714857360:=0
def tw13716973077757719441:=0
def tw3691342536807532938:=0
def tw8806691793004380991:=0
def tw716507045235628094:=0
def tw3682836182547482280:=0
def tw4166522280471165722:=0
def tw4938007935140663098:=0
def tw8118273266377728625:=0
def tw14566698969483163274:=0
def tw16147089945598749560:=0
def tw4076722629243963843:=0
def tw8434546246846870512:=0
def tw1328447166888677452:=0
def tw17659483702798975836:=0
def tw5266169856072657628:=0
def tw7037943725430793280:=0
def tw1782403984860983243:=0
def tw16028135297490245770:=0
def tw17767220779509963321:=0
def tw5206379786727293478:=0
def tw15923208298330068705:=0
def tw15165588665450754411:=0
def tw11990387876809404751:=0
def tw9345448181993350044:=0
def tw13094943560408014069:=0
def tw2297333795192872028:=0
def tw8930548205900958728:=0
def tw11603431565966917629:=0
def tw8447735659642343160:=0
def tw4981317208576119126:=0
def tw277024123472094557:=0
def tw15666701456503129346:=0
def tw642244305522640786:=0
def tw12971739167339374312:=0
def tw15660329830370196174:=0
def tw12418179401636647572:=0
def tw889675381641552348:=0
def tw2409713442855318332:=0
def tw17383269475457598959:=0
def tw5226188820991402745:=0
def tw3218669473706908306:=0
def tw12282824209573538714:=0
def tw6883154192604321990:=0
def tw7283858437272941757:=0
def tw2995981864215758009:=0
end PySem.W.Fast
open PySem PySem.W PyProof.Rows
theorem PySem.Challenge.cw_pacehall_k58_whole_nested_paces_holds : PySem.Challenge.rw_pacehall_k58_whole_nested_paces.Holds := by
 w_on;o_law;k_head;(case hw=>w_witness2)
 k_fill
 refine PH.JI (l:=PySem.Challenge.rw_pacehall_k58_whole_nested_paces) rfl rfl (λ w h Y=>PySem.W.kIn_of Y) ?F
 case F=>
  intro w mg fa h KX G hmg
  refine' PH.Jh KX G hmg ?y0 ?y1 ?y2 ?y3 ?y4 ?y5 ?a0 ?F0 ?a1 ?F1 ?a2 ?F2 ?a3 ?F3 ?a4 ?F4 ?a5 ?F5 ?a6 ?F6 ?a7 ?F7 ?a8 ?F8 ?a9 ?F9 ?a10 ?F10 ?a11 ?F11 ?a12 ?F12 ?a13 ?F13 ?F14 ?F15 ?F16 ?F17 ?F18 ?F19 ?a20 ?F20 ?a21 ?F21 ?a22 ?F22 ?a23 ?F23 ?a24 ?F24 ?a25 ?F25 ?a26 ?F26 ?a27 ?F27 ?a28 ?F28 ?a29 ?l29 ?q29 ?c29 ?k29 ?a30 ?F30 ?a31 ?F31 ?a32 ?F32 ?a33 ?F33 ?a34 ?F34 ?a35 ?F35 ?a36 ?F36 ?a37 ?F37 ?a38 ?F38 ?a39 ?F39 ?a40 ?F40 ?a41 ?F41 ?a42 ?F42 ?a43 ?F43 ?a44 ?F44 ?a45 ?F45 ?a46 ?F46 ?a47 ?F47 ?a48 ?F48 ?a49 ?F49 ?a50 ?F50 ?a51 ?F51 ?a52 ?l52 ?c52 ?k52 ?pg_View ?hd_View ?po_View ?sa_View ?nf_View_axes ?nf_View_first ?nf_View_room ?fi_View___init__ ?fn_View___init__ ?mm_View ?ck_View ?fi_View_sizes ?fn_View_sizes ?fi_View_paces ?fn_View_paces ?fi_View_cell ?fn_View_cell ?fi_View_least ?fn_View_least ?fi_View_greatest ?fn_View_greatest ?w0 ?w1 ?w2 ?w3 ?z0 ?z1 ?z2 ?z3 ?z4 ?z5 ?z6 ?z7 ?z8 ?z9 ?z10 ?z11 ?z12 ?z13 ?z14 ?z15 ?z16
  (case y0|y1|y2|y3|y4|y5|fi_View___init__|fi_View_sizes|fi_View_paces|fi_View_cell|fi_View_least|fi_View_greatest=>first|k_is|k_exc|kts_exm|decide|rfl|decide +kernel|kernel_rfl)
  (case a0|a1|a2|a3|a4|a5|a6|a7|a8|a9|a10|a11=>first|k_is|k_exc|kts_exm|decide|rfl|decide +kernel|kernel_rfl)
  (case a12|a13|a20|a21|a22|a23|a24|a25|a26|a27|a28|a29=>first|k_is|k_exc|kts_exm|decide|rfl|decide +kernel|kernel_rfl)
  (case a30|a31|a32|a33|a34|a35|a36|a37|a38|a39|a40|a41=>first|k_is|k_exc|kts_exm|decide|rfl|decide +kernel|kernel_rfl)
  (case a42|a43|a44|a45|a46|a47|a48|a49|a50|a51|a52=>first|k_is|k_exc|kts_exm|decide|rfl|decide +kernel|kernel_rfl)
  (case F0|F1|F2|F3|F4|F5|F6|F7|F8|F9|F10|F11=>(refine' L2.FE ?l ?c ?k;(case l|c|k=>first|k_is|k_exc|kts_exm|decide|rfl|decide +kernel|kernel_rfl)))
  (case F12|F13|F14|F15|F16|F17|F18|F19|F20|F21|F22|F23=>(refine' L2.FE ?l ?c ?k;(case l|c|k=>first|k_is|k_exc|kts_exm|decide|rfl|decide +kernel|kernel_rfl)))
  (case F24|F25|F26|F27|F28|F30|F31|F32|F33|F34|F35|F36=>(refine' L2.FE ?l ?c ?k;(case l|c|k=>first|k_is|k_exc|kts_exm|decide|rfl|decide +kernel|kernel_rfl)))
  (case F37|F38|F39|F40|F41|F42|F43|F44|F45|F46|F47|F48=>(refine' L2.FE ?l ?c ?k;(case l|c|k=>first|k_is|k_exc|kts_exm|decide|rfl|decide +kernel|kernel_rfl)))
  (case F49|F50|F51=>(refine' L2.FE ?l ?c ?k;(case l|c|k=>first|k_is|k_exc|kts_exm|decide|rfl|decide +kernel|kernel_rfl)))
  (case l29|q29|c29|k29|l52|c52|k52|pg_View|hd_View|po_View|sa_View|nf_View_axes=>first|k_is|k_exc|kts_exm|decide|rfl|decide +kernel|kernel_rfl)
  (case nf_View_first|nf_View_room|fn_View___init__|mm_View|ck_View|fn_View_sizes|fn_View_paces|fn_View_cell|fn_View_least|fn_View_greatest|w0|w1=>first|k_is|k_exc|kts_exm|decide|rfl|decide +kernel|kernel_rfl)
  (case w2|w3|z0|z1|z2|z3|z4|z5|z6|z7|z8|z9=>first|k_is|k_exc|kts_exm|decide|rfl|decide +kernel|kernel_rfl)
  (case z10|z11|z12|z13|z14|z15|z16=>first|k_is|k_exc|kts_exm|decide|rfl|decide +kernel|kernel_rfl)
#print axioms PySem.Challenge.cw_pacehall_k58_whole_nested_paces_holds