import PyProof.Rows.All
import Wide.All
import OpenK.AllK
import Wide.FinOn
import Lean
import PyProof.EqAt
import PyProof.EqKinds
import PyProof.TupleCall
import PySem.Challenge.RW_pacehall_k81_statements
set_option Elab.async false
set_option linter.all false
set_option maxRecDepth 100000
set_option maxHeartbeats 0
open List (mem_cons_self mem_cons_of_mem mem_append_right length_cons map_cons length_map append_nil length_take getElem?_map mem_of_getElem? length_append size_toArray map_nil getElem_mem getElem?_eq_getElem lookup_cons getElem?_eq_none mem_cons not_mem_nil take_length length_zip length_range take_add_one map_append foldl_cons map_map)
namespace QL
def IV:=@PySem.wpAny_bind
def IW:=@PySem.Heap.get?_push_of_some
def IX:=@List.getElem?_eq_getElem
def IZ:=@PySem.Heap.lt_size
def Ja:=@PySem.wpAny_pure
def Jb:=@List.getElem?_eq_some_iff
def Jc:=@Nat.lt_of_lt_of_le
def Jd:=@Option.map_eq_some_iff
def Je:=@Nat.le_refl
def Jf:=@PySem.Heap.get?_push_size
def Jg:=@List.length_map
def Jh:=@List.mem_singleton
def Ji:=@Bool.false_ne_true
def Jj:=@Nat.ne_of_lt
def Jk:=@List.mem_cons_of_mem
def Jl:=@List.getElem?_map
def Jm:=@List.mem_of_getElem?
def Jn:=@PySem.W.mg_of
def Jo:=@List.not_mem_nil
def Jp:=@PySem.PassesOwn.never
def Jq:=@List.mem_cons_self
def Jr:=@List.size_toArray
def Js:=@List.mem_cons
def Jt:=@if_neg
def Ju:=@Nat.le_trans
def Jv:=@Ne.symm
def Jw:=@if_pos
def Jx:=@PySem.Heap.size_push
def Jy:=@Option.some.inj
def Jz:=@PySem.F.plainAttrs_list
def JA:=@Array.getElem?_eq_some_iff
def JB:=@List.take_length
def JC:=@List.mem_append_right
def JD:=@PySem.wpAny_field
def JE:=@PySem.Heap.get?_update_self
def JF:=@List.getElem?_append_right
def JG:=@PySem.Heap.get?_none_of_le
def JH:=@Nat.zero_le
def JI:=@List.mem_map
def JJ:=@Int.mul_le_mul_of_nonneg_left
def JK:=@PySem.codeAny_mono
def JL:=@PySem.W.mg_none_of
def JM:=@Nat.lt_irrefl
def JN:=@PySem.wpAny_holding
def JO:=@PySem.F.excBase_ValueError
def JP:=@Int.emod_lt_of_pos
def JQ:=@PySem.Heap.get?_update_other
def JR:=@List.mem_range
def JS:=@List.getElem?_append_left
def JT:=@PySem.wpAny_Call_Name_kw
def JU:=@PySem.Obj.isFreed_of_fields
def JV:=@Int.mul_le_mul_of_nonneg_right
def JW:=@or_false
def JX:=@Int.toNat_of_nonneg
def JY:=@List.map_cons
def JZ:=@List.lookup_cons
def J0:=@List.length_append
def J1:=@List.getElem?_eq_none
def J4:=@decide_eq_false
def J5:=@Int.emod_nonneg
def J6:=@PySem.wpAny_seqItems
def J7:=@PySem.wpAny_call
def J8:=@PySem.wpAny_setField_rec
def J9:=@PySem.Obj.data_mapFields
def Ka:=@List.mem_of_mem_take
def Kb:=@List.take_add_one
def Kc:=@List.length_range
def Kd:=@PySem.W.kia_one
def Ke:=@Nat.lt_succ_self
def Kf:=@PySem.wpAny_truthy_bool
def Kg:=@PySem.wpAny_loadPart_at
def Kh:=@beq_eq_false_iff_ne
def Ki:=@PySem.mem_of_lookup
def Kj:=@Int.mul_one
def Kk:=@beq_iff_eq
def Kl:=@PySem.F.type_list_append
def Km:=@PySem.F.slot_list_append
def Kn:=@Nat.ne_of_gt
def Ko:=@PySem.F.slot_tuple_iterator_next
def Kp:=@PySem.codeAny_call_builtin
def Kq:=@congrArg
def Kr:=@List.nodup_cons
def Ks:=@List.length_take
def Kt:=@PySem.Heap.SameBut.update
def Ku:=@PySem.wpAny_mono
def Kv:=@List.take_of_length_le
def Kw:=@Nat.le_succ
def Kx:=@PySem.wpAny_callSpecial?_slot
def Ky:=@PySem.W.methodCall_KW
def Kz:=@List.length_cons
def KA:=@List.getElem_mem
def KC:=@Nat.mul_le_mul_right
def KD:=@PySem.wpAny_pyIter_list
def KG:=@PySem.wpAny_setField
def KH:=@PySem.W.callWith_K
def KI:=@PyProof.Rows.callWith_type1
def KJ:=@List.filterMap_cons
def KL:=@Bool.eq_iff_iff
def KN:=@Nat.le_of_lt
def KO:=@Nat.le_of_eq
def KP:=@List.filter_append
def KQ:=@PySem.wpAny_standAt
def KR:=@List.append_nil
def KS:=@PySem.wpAny_passesOwn
def KU:=@Int.toNat_natCast
def KW:=@List.getElem?_replicate
def KY:=@List.map_map
def KZ:=@Nat.le_of_not_lt
def K0:=@Nat.le_add_right
def K3:=@List.getElem?_set_self
def K4:=@List.map_append
def K5:=@List.length_zip
def K6:=@PySem.wpAny_newObj_type
def K7:=@Nat.succ.inj
def K8:=@Nat.lt_trans
def K9:=@List.of_mem_zip
def Lc:=@List.mem_append
def Ld:=@Int.mul_comm
def Le:=@PySem.F.attr_ValueError
def Lf:=@PySem.wpAny_attempt
def Lg:=@List.mem_append_left
def Lh:=@List.getElem?_set_ne
def Li:=@PySem.wpAny_call_entry
def Lj:=@List.take_succ
def Lk:=@List.length_reverse
def Ll:=@List.getElem_of_mem
def Lm:=@PySem.wpAny_execs_nil
def Ln:=@List.foldl_cons
def Lo:=@PySem.F.slot_zip_next
def Lp:=@PySem.wpAny_updateSeq_pair
def Lq:=@PySem.W.looks_findIn
def Lr:=@List.reverse_cons
def Lu:=@List.foldl_append
def Lv:=@PySem.Calls.evalArgs_plain
def Lx:=@Array.getElem?_setIfInBounds_ne
def Ly:=@PySem.wpAny_comprehension_free
def Lz:=@PyProof.Rows.callWith_builtin1
def LA:=@beq_self_eq_true
def LB:=@Option.bind_some
def LC:=@List.all_eq_true
def LD:=@Bool.and_eq_true
def LF:=@PySem.wpAny_onRaise
def LG:=@List.sum_append
def LH:=@List.length_set
def LJ:=@List.forIn_cons
def LK:=@Int.natCast_mul
end QL
open QL
namespace L2
open PySem PySem.Spec PyProof.Rows
abbrev Key:=Sum Int Str
def Dh:Key->Value->Bool
 | .inl k,v=>Value.isInt k v
 | .inr x,v=>Value.isStrOf x v
def IJ(w:World):Key->Int
 | .inl k=>hashInt k
 | .inr x=>hashStr w x
theorem aW:∀ {k:Key}{v:Value},Dh k v=true->(∃ i t,k=Sum.inl i/\v=Value.int i t)\/(∃ x t,k=Sum.inr x/\v=Value.str x t)
 | .inl i,v,h=>by
  obtain⟨t,e⟩:=Value.isInt_shape (k:=i) (v:=v) h;exact .inl ⟨i,t,rfl,e⟩
 | .inr x,v,h=>by
  obtain⟨t,e⟩:=Value.isStrOf_shape (x:=x) (v:=v) h;exact .inr ⟨x,t,rfl,e⟩
theorem E6(a b:Int):decide ((Sum.inl a:Key)=Sum.inl b)=(a == b):=by
 by_cases e:a=b
 ·subst e;simp
 ·have h:¬ (Sum.inl a:Key)=Sum.inl b:=λ q=>e (Sum.inl.inj q);rw [J4 h];exact(Kh.mpr e).symm
theorem E3(a b:Str):decide ((Sum.inr a:Key)=Sum.inr b)=decide (a=b):=by
 by_cases e:a=b
 ·subst e;simp
 ·have h:¬ (Sum.inr a:Key)=Sum.inr b:=λ q=>e (Sum.inr.inj q);rw [J4 h,J4 e]
theorem E5(a:Int)(b:Str):decide ((Sum.inl a:Key)=Sum.inr b)=false:=J4 (λ q=>nomatch q)
theorem E4(a:Str)(b:Int):decide ((Sum.inr a:Key)=Sum.inl b)=false:=J4 (λ q=>nomatch q)
def tW(prog:Program)(w:World):PySem.KeyKind prog w Key where
 is:=Dh
 hash:=IJ w
 inj:=λ v a b ha hb=>by
  rcases aW ha with ⟨i,t,rfl,rfl⟩|⟨x,t,rfl,rfl⟩
  ·rcases aW hb with ⟨j,u,rfl,e⟩|⟨y,u,rfl,e⟩
   ·injection e with e1 _;rw [e1]
   ·exact nomatch e
  ·rcases aW hb with ⟨j,u,rfl,e⟩|⟨y,u,rfl,e⟩
   ·exact nomatch e
   ·injection e with e1 _;rw [e1]
 byValue:=λ k v h=>by
  rcases aW h with ⟨i,t,rfl,rfl⟩|⟨x,t,rfl,rfl⟩<;>rfl
 pyHash:=λ hv h=>by
  rcases aW hv with ⟨i,t,rfl,rfl⟩|⟨x,t,rfl,rfl⟩
  ·exact wpAny_pyHash_int h
  ·exact wpAny_pyHash_str h
 eqBool:=λ hu hv h=>by
  rcases aW hu with ⟨i,t,rfl,rfl⟩|⟨x,t,rfl,rfl⟩
  ·rcases aW hv with ⟨j,u,rfl,rfl⟩|⟨y,u,rfl,rfl⟩
   ·rw [E6] at h;exact wpAny_eqBool_int h
   ·rw [E5] at h;exact SeqAt.EqAt.int_str i t y u _ _ _ _ h
  ·rcases aW hv with ⟨j,u,rfl,rfl⟩|⟨y,u,rfl,rfl⟩
   ·rw [E4] at h;exact SeqAt.EqAt.str_int x t j u _ _ _ _ h
   ·rw [E3] at h;exact wpAny_eqBool_str h
 «strs»:=λ k x t v h=>by
  rcases aW h with ⟨i,u,rfl,e⟩|⟨y,u,rfl,e⟩
  ·exact nomatch e
  ·injection e with e1 _
   subst e1
   cases v<;>rfl
inductive V where
 | non|bl (b:Bool)|int (i:Int)|str (x:Str)|byt (b:Array UInt8)|flt (b:UInt64)|ref (a:Addr)|ty (n:String)
 deriving DecidableEq
def bZ:V->Value->Prop
 | .non,u=>u=Value.none
 | .bl b,u=>u=Value.bool b
 | .int i,u=>∃ t,u=Value.int i t
 | .str x,u=>∃ t,u=Value.str x t
 | .byt b,u=>∃ t,u=Value.bytes b t
 | .flt b,u=>∃ t,u=Value.float b t
 | .ref a,u=>u=Value.ref a
 | .ty n,u=>u=Value.type n
abbrev bq:List V->List Value->Prop:=Paired bZ
theorem bq.length{xs:List V}{us:List Value}(r:bq xs us):xs.length=us.length:=Paired.length r
theorem bq.get:∀ {xs:List V}{us:List Value}{i:Nat}{x:V},bq xs us->xs[i]? = some x->∃ u,us[i]? = some u/\bZ x u
 | _,_,_,_,.nil,e=>by simp at e
 | _,_,0,_,.cons r _,e=>by simp at e;subst e;exact⟨_,rfl,r⟩
 | _,_,i+1,x,.cons _ t,e=>by
  obtain⟨u,h1,h2⟩:=bq.get (i:=i) (x:=x) t (by simpa using e);exact⟨u,by simpa using h1,h2⟩
theorem bq.set{x:V}{u:Value}(r:bZ x u):∀ {xs:List V}{us:List Value}(i:Nat),bq xs us->bq (xs.set i x) (us.set i u)
 | _,_,_,.nil=>.nil
 | _,_,0,.cons _ t=>.cons r t
 | _,_,i+1,.cons q t=>.cons q (bq.set r i t)
theorem bq.append:∀ {xs ys:List V}{us ws:List Value},bq xs us->bq ys ws->bq (xs++ys) (us++ws)
 | _,_,_,_,.nil,s=>s
 | _,_,_,_,.cons r t,s=>.cons r (bq.append t s)
def rZ:Option V->Option Value->Prop
 | some v,some u=>bZ v u
 | none,none=>True
 | _,_=>False
def KV{κ:Type}:List (κ × V)->List (κ × Value)->Prop:=Paired λ (p:κ × V) (q:κ × Value)=>p.1=q.1/\bZ p.2 q.2
def kV:Key->V
 | .inl i=>.int i
 | .inr x=>.str x
inductive HO where
 | lst (xs:List V)
 | tup (xs:List V)
 | dK (kvs:List (Key × V))|dT (kvs:List (List Key × V))
 | set (S:Int->Bool) (n:Nat)
 | ins (C dx:Addr) (fs:List (Str × V))
 | own (x:Addr)
 | xd (fs:List (Str × V))
 | met (f x:Addr)
 | rng (lo hi:Int)
 | frz (o:Obj) (u:HO)
 | tbl (ps:Array Value)
 | ext (φ:Heap->Prop)
abbrev Hp:=Addr->Option HO
def upd(H:Hp)(a:Addr)(o:HO):Hp:=λ b=>if b=a then some o else H b
theorem ag{H:Hp}{a:Addr}{o:HO}:upd H a o a=some o:=by unfold upd;rw [if_pos rfl]
theorem ai{H:Hp}{a b:Addr}{o:HO}(h:b ≠ a):upd H a o b=H b:=by unfold upd;rw [if_neg h]
theorem Ar{H:Hp}{a:Addr}{o u:HO}:upd (upd H a o) a u=upd H a u:=by
 funext b;unfold upd;split<;>rfl
theorem aT{H:Hp}{a b:Addr}{o:HO}(h:H a=some o)(h':H b=none):a ≠ b:=by
 intro e;subst e;rw [h] at h';cases h'
section
variable (P:Program)(w:World)
def bO(H:Hp)(h:Heap)(a:Addr):HO->Prop
 | .lst xs=>xs.length<=sizeLine/\∃ (its:List Value) (n:Nat),bq xs its/\h.get? a=some { cls:=.type "list",data:=.seq its.toArray n }
 | .tup xs=>xs.length<=sizeLine/\∃ its:List Value,bq xs its/\IsTup h a its.toArray
 | .dK kvs=>kvs.length<=sizeLine/\(a == sysModules)=false/\∃ vs,KV kvs vs/\h.DictOf (tW P w) a vs
 | .dT kvs=>kvs.length<=sizeLine/\(a == sysModules)=false/\∃ xs:List (List Key × Addr × Value),
   Paired (λ (p:List Key × V) (q:List Key × Addr × Value)=>p.1=q.1/\H q.2.1=some (.tup (p.1.map kV))/\bZ p.2 q.2.2) kvs xs /\
   ∃ o es ep,h.get? a=some o/\o.ExactDict/\o.data=.dict es ep/\es.toList=xs.map (entryOfKey (tupleKind (tW P w)))/\(xs.map (·.1)).Nodup
 | .set S n=>h.SetOf (intKind P w) a S n
 | .ins C dx fs=>H dx=some (.own a)/\fs.length<=1000/\dx ≠ a/\h.get? a=some (W.instObj C dx) /\
   ∃ mA,h.Ns1 dx mA/\(∀ f,rZ (fs.lookup f) (mA f))/\PySem.Within mA (fs.map (·.1))
 | .own _=>∃ o,h.get? a=some o
 | .xd fs=>∃ mA,h.Ns1 a mA/\∀ f,rZ (fs.lookup f) (mA f)
 | .rng lo hi=>∃ t u v,h.get? a=some { cls:=.type "range",data:=.fields #[.int lo t,.int hi u,.int 1 v] }
 | .frz o u=>h.get? a=some o/\bO H h a u
 | .tbl ps=>h.get? a=some { cls:=.none,data:=.fields ps }
 | .met f x=>h.get? a=some (W.methodObj (.ref f) (.ref x))
 | .ext φ=>φ h/\(∃ o,h.get? a=some o)/\∀ h1 h2:Heap,φ h1->(∀ o,h1.get? a=some o->h2.get? a=some o)->φ h2
def HOk(H:Hp)(h:Heap):Prop:=∀ a o,H a=some o->bO P w H h a o
end
section
variable {P:Program}{w:World}{H H':Hp}{h h':Heap}{a:Addr}{o:HO}
theorem bO.lt(x:bO P w H h a o):a < h.objs.size:=by
 cases o with
 | lst xs=>obtain⟨_,_,_,_,e⟩:=x;exact IZ e
 | tup xs=>obtain⟨_,_,_,p⟩:=x;exact p.lt
 | dK kvs=>obtain⟨_,_,_,_,o,_,_,e,_⟩:=x;exact IZ e
 | dT kvs=>obtain⟨_,_,_,_,o,_,_,e,_⟩:=x;exact IZ e
 | set S n=>obtain⟨o,_,_,_,e,_⟩:=x;exact IZ e
 | ins C dx fs=>obtain⟨_,_,_,e,_⟩:=x;exact IZ e
 | own y=>obtain⟨_,e⟩:=x;exact IZ e
 | xd fs=>obtain⟨_,⟨_,_,_,e,_⟩,_⟩:=x;exact IZ e
 | rng lo hi=>obtain⟨_,_,_,e⟩:=x;exact IZ e
 | frz ob u=>obtain⟨e,_⟩:=x;exact IZ e
 | tbl ps=>exact IZ (show h.get? a=some _ from x)
 | met f y=>exact IZ (show h.get? a=some _ from x)
 | ext φ=>obtain⟨_,⟨_,e⟩,_⟩:=x;exact IZ e
theorem Paired.mapP{α β:Type}{F G:α->β->Prop}:∀ {l₁:List α}{l₂:List β},Paired F l₁ l₂->(∀ a b,F a b->G a b)->Paired G l₁ l₂
 | _,_,.nil,_=>.nil
 | _,_,.cons r t,f=>.cons (f _ _ r) (Paired.mapP t f)
theorem bO.stay(x:bO P w H h a o)(k:∀ b u,(b=a\/H b=some (.own a))->h.get? b=some u->h'.get? b=some u)
  (ho:∀ b,H b=some (.own a)->H' b=some (.own a)) (ht:∀ b xs,H b=some (.tup xs)->H' b=some (.tup xs)):bO P w H' h' a o:=by
 induction o with
 | lst xs=>obtain⟨z,its,n,r,e⟩:=x;exact⟨z,its,n,r,k _ _ (.inl rfl) e⟩
 | tup xs=>obtain⟨z,its,r,ob,e,c⟩:=x;exact⟨z,its,r,ob,k _ _ (.inl rfl) e,c⟩
 | dK kvs=>obtain⟨z,y,vs,r,ob,es,ep,e,c⟩:=x;exact⟨z,y,vs,r,ob,es,ep,k _ _ (.inl rfl) e,c⟩
 | dT kvs=>
  obtain⟨z,y,xs,r,ob,es,ep,e,c⟩:=x;exact⟨z,y,xs,Paired.mapP r λ p q z=>⟨z.1,ht _ _ z.2.1,z.2.2⟩,ob,es,ep,k _ _ (.inl rfl) e,c⟩
 | set S n=>obtain⟨ob,es,ep,t,e,c⟩:=x;exact⟨ob,es,ep,t,k _ _ (.inl rfl) e,c⟩
 | ins C dx fs=>
  obtain⟨d,z,ne,e,mA,⟨od,es,ep,e2,c⟩,r⟩:=x;exact⟨ho _ d,z,ne,k _ _ (.inl rfl) e,mA,⟨od,es,ep,k _ _ (.inr d) e2,c⟩,r⟩
 | own y=>obtain⟨ob,e⟩:=x;exact⟨ob,k _ _ (.inl rfl) e⟩
 | xd fs=>obtain⟨mA,⟨od,es,ep,e,c⟩,r⟩:=x;exact⟨mA,⟨od,es,ep,k _ _ (.inl rfl) e,c⟩,r⟩
 | rng lo hi=>obtain⟨t,u,v,e⟩:=x;exact⟨t,u,v,k _ _ (.inl rfl) e⟩
 | frz ob u ih=>obtain⟨e,q⟩:=x;exact⟨k _ _ (.inl rfl) e,ih q⟩
 | tbl ps=>
  have e:h.get? a=some { cls:=.none,data:=.fields ps }:=x
  show h'.get? a=some { cls:=.none,data:=.fields ps }
  exact k a _ (.inl rfl) e
 | met f y=>
  have e:h.get? a=some (W.methodObj (.ref f) (.ref y)):=x
  show h'.get? a=some (W.methodObj (.ref f) (.ref y))
  exact k a _ (.inl rfl) e
 | ext φ=>obtain⟨p,⟨o,e⟩,st⟩:=x;exact⟨st _ _ p λ o q=>k _ _ (.inl rfl) q,⟨o,k _ _ (.inl rfl) e⟩,st⟩
theorem HOk.lt(x:HOk P w H h)(e:H a=some o):a < h.objs.size:=(x a o e).lt
theorem HOk.fresh(x:HOk P w H h)(e:h.objs.size<=a):H a=none:=by
 cases q:H a with
 | none=>rfl
 | some u=>exact absurd (Jc (x.lt q) e) (JM _)
theorem HOk.kept(x:HOk P w H h)(k:∀ b u,h.get? b=some u->h'.get? b=some u):HOk P w H h':=λ a o e=>
 (x a o e).stay (λ b u _ q=>k b u q) (λ _ q=>q) λ _ _ q=>q
theorem HOk.laid(x:HOk P w H h)(k:∀ b u,h.get? b=some u->h'.get? b=some u)(hp:h.objs.size<=a)(new:bO P w (upd H a o) h' a o):HOk P w (upd H a o) h':=λ b u e=>by
 have hn:=x.fresh hp
 by_cases hb:b=a
 ·subst hb;rw [ag] at e;cases e;exact new
 ·rw [ai hb] at e;exact(x b u e).stay (λ c v _ q=>k c v q) (λ c q=>by rw [ai (aT q hn)];exact q) λ c xs q=>by rw [ai (aT q hn)];exact q
end
def Rd(H:Hp)(a:Addr)(u:HO):Prop:=H a=some u\/∃ o,H a=some (.frz o u)
theorem Rd.ok{P:Program}{w:World}{H:Hp}{h:Heap}{a:Addr}{u:HO}(r:Rd H a u)(x:HOk P w H h):bO P w H h a u:=by
 rcases r with r|⟨o,r⟩
 ·exact x a u r
 ·obtain⟨_,q⟩:=x a _ r;exact q
def Mut:Option HO->Prop
 | some (.lst _)=>True
 | some (.dK _)=>True
 | some (.dT _)=>True
 | some (.set _ _)=>True
 | some (.ins _ _ _)=>True
 | some (.ext _)=>True
 | _=>False
section
variable {P:Program}{w:World}{H:Hp}{h h':Heap}{x e:Addr}{o':HO}
theorem HOk.write(ok:HOk P w H h)(mu:Mut (H x))(he:e=x\/H e=some (.own x))(k:∀ b u,b ≠ e->h.get? b=some u->h'.get? b=some u)(heo:∃ u,h'.get? e=some u)
  (new:bO P w (upd H x o') h' x o'):HOk P w (upd H x o') h':=λ b u q=>by
 have nown:∀ c y,H c=some (.own y)->c ≠ x:=λ c y r z=>by subst z;rw [r] at mu;exact mu
 have ntup:∀ c xs,H c=some (.tup xs)->c ≠ x:=λ c xs r z=>by subst z;rw [r] at mu;exact mu
 by_cases hb:b=x
 ·subst hb;rw [ag] at q;cases q;exact new
 ·rw [ai hb] at q
  by_cases hbe:b=e
  ·have q':H b=some (.own x):=by
    rcases he with z|z
    ·exact absurd (hbe.trans z) hb
    ·rw [hbe];exact z
   rw [q] at q';cases q';obtain⟨v,hv⟩:=heo;exact⟨v,by rw [hbe];exact hv⟩
  ·refine(ok b u q).stay (λ c v hc r=>k c v ?_ r) (λ c r=>by rw [ai (nown c b r)];exact r) λ c xs r=>by rw [ai (ntup c xs r)];exact r
   rcases hc with rfl|hc
   ·exact hbe
   ·rintro rfl
    rcases he with z|z
    ·exact nown c b hc z
    ·rw [hc] at z;cases z;exact hb rfl
end
structure Un(fs ex:List Addr)(H H':Hp)(h h':Heap):Prop where
 keep:∀ b o,h.get? b=some o->H b=none->b ∉ fs->b ∉ ex->h'.get? b=some o
 slot:∀ b o,h.get? b=some o->H b=none->b∈fs->b ∉ ex->∃ sl,h'.get? b=some { o with slots:=sl }
 free:∀ b o,h.get? b=some o->H b=none->b ∉ ex->H' b=none
 there:∀ b o,h.get? b=some o->b ∉ ex->∃ o',h'.get? b=some o'
 tups:∀ b xs,H b=some (.tup xs)->H' b=some (.tup xs)
 frzs:∀ b o u,H b=some (.frz o u)->H' b=some (.frz o u)
 tbls:∀ b ps,H b=some (.tbl ps)->∃ more,H' b=some (.tbl (ps++more))
section
variable {fs fs' ex ex':List Addr}{H H1 H2:Hp}{h h1 h2 h':Heap}{a x e:Addr}{o:HO}
theorem Un.any(u:Un fs ex H H1 h h1){b:Addr}{ob:Obj}(q:h.get? b=some ob)(n:H b=none)(hx:b ∉ ex):∃ sl,h1.get? b=some { ob with slots:=sl }:=by
 by_cases hb:b∈fs
 ·exact u.slot b ob q n hb hx
 ·exact⟨ob.slots,u.keep b ob q n hb hx⟩
theorem Un.trans(a:Un fs ex H H1 h h1)(b:Un fs ex H1 H2 h1 h2):Un fs ex H H2 h h2 where
 keep:=λ c ob q n hc hx=>b.keep c ob (a.keep c ob q n hc hx) (a.free c ob q n hx) hc hx
 slot:=λ c ob q n hc hx=>by
  obtain⟨sl,e1⟩:=a.slot c ob q n hc hx;obtain⟨sl',e2⟩:=b.slot c _ e1 (a.free c ob q n hx) hc hx;exact⟨sl',e2⟩
 free:=λ c ob q n hx=>by
  obtain⟨o',e1⟩:=a.there c ob q hx;exact b.free c o' e1 (a.free c ob q n hx) hx
 there:=λ c ob q hx=>by
  obtain⟨o',e1⟩:=a.there c ob q hx;exact b.there c o' e1 hx
 tups:=λ c xs q=>b.tups c xs (a.tups c xs q)
 frzs:=λ c ob xs q=>b.frzs c ob xs (a.frzs c ob xs q)
 tbls:=λ c ps q=>by
  obtain⟨m1,e1⟩:=a.tbls c ps q;obtain⟨m2,e2⟩:=b.tbls c _ e1;exact⟨m1++m2,by rw [e2,Array.append_assoc]⟩
theorem Un.kept(k:∀ b u,h.get? b=some u->h'.get? b=some u):Un fs ex H H h h':=
 ⟨λ b ob q _ _ _=>k b ob q,λ b ob q _ _ _=>⟨ob.slots,k b ob q⟩,λ _ _ _ n _=>n,λ b ob q _=>⟨ob,k b ob q⟩,λ _ _ q=>q,λ _ _ _ q=>q,λ _ ps q=>⟨#[],by rw [q];simp⟩⟩
theorem Un.refl:Un fs ex H H h h:=Un.kept λ _ _ q=>q
theorem Un.laid(k:∀ b u,h.get? b=some u->h'.get? b=some u)(hp:h.objs.size<=a)(hn:H a=none):Un fs ex H (upd H a o) h h' where
 keep:=λ b u q _ _ _=>k b u q
 slot:=λ b u q _ _ _=>⟨u.slots,k b u q⟩
 free:=λ b u q n _=>by rw [ai (Jj (Jc (IZ q) hp))];exact n
 there:=λ b u q _=>⟨u,k b u q⟩
 tups:=λ b xs q=>by rw [ai (aT q hn)];exact q
 frzs:=λ b u xs q=>by rw [ai (aT q hn)];exact q
 tbls:=λ b ps q=>⟨#[],by rw [ai (aT q hn),q];simp⟩
theorem Un.write(mu:Mut (H x))(he:e=x\/H e=some (.own x))(k:∀ b u,b ≠ e->h.get? b=some u->h'.get? b=some u)(heo:∃ u,h'.get? e=some u):Un fs ex H (upd H x o) h h':=by
 have hx:∀ b,H b=none->b ≠ x:=λ b n z=>by subst z;rw [n] at mu;exact mu
 have hb:∀ b,H b=none->b ≠ e:=λ b n z=>by
  subst z
  rcases he with r|r
  ·exact hx b n r
  ·rw [n] at r;cases r
 have hm:∀ b u,H b=some u->¬ Mut (some u)->b ≠ x:=λ b u q nm z=>by subst z;rw [q] at mu;exact nm mu
 refine⟨λ b u q n _ _=>k b u (hb b n) q,λ b u q n _ _=>⟨u.slots,k b u (hb b n) q⟩,λ b u q n _=>by rw [ai (hx b n)];exact n,λ b u q _=>?_,
  λ b xs q=>by rw [ai (hm b _ q λ z=>z)];exact q,λ b u xs q=>by rw [ai (hm b _ q λ z=>z)];exact q,λ b ps q=>⟨#[],by rw [ai (hm b _ q λ z=>z),q];simp⟩⟩
 by_cases hbe:b=e
 ·subst hbe;exact heo
 ·exact⟨u,k b u hbe q⟩
end
def trk(h:Heap)(H:Hp):List Addr:=(List.range h.objs.size).filter λ a=>(H a).isSome
def wC(h:Heap)(H:Hp):Heap:=W.hideAll h (trk h H)
theorem vN(h:Heap)(H:Hp):(wC h H).objs.size=h.objs.size:=W.hideAll_size _ _
theorem yw{h:Heap}{H:Hp}{b:Addr}{o:Obj}(e:h.get? b=some o)(n:H b=none):(wC h H).get? b=some o:=
 W.hideAll_get _ e λ hm=>by
  have q:(H b).isSome=true:=(List.mem_filter.mp hm).2;rw [n] at q;simp at q
theorem A8{h:Heap}{H:Hp}{b:Addr}{o:Obj}(e:(wC h H).get? b=some o):h.get? b=some o/\H b=none:=by
 have e':h.get? b=some o:=W.of_hideAll (trk h H) e;refine⟨e',?_⟩
 cases q:H b with
 | none=>rfl
 | some x=>
  have hm:b∈trk h H:=List.mem_filter.mpr ⟨JR.mpr (IZ e'),by simp [q]⟩;have z:(wC h H).get? b=none:=W.hideAll_none (trk h H) hm;rw [z] at e;cases e
def Cw(g h:Heap)(L:Addr):List (Addr × Obj):=(List.range h.objs.size).filterMap λ a=>if a=L\/(g.get? a).isSome=true then none else (h.get? a).map λ o=>(a,o)
def bU(g h:Heap)(L d:Addr):List (Addr × Obj):=(Cw g h L).filter λ p=>decide (p.1 ≠ d)
structure Mod(K:W.Frag)(mg:Str->Option Value)(base:Heap):Prop where
 kin:K.In base
 glob:base.Ns mainGlobals mg
 blt:∃ mb,base.Ns builtinsNs mb/\∀ x:Str,x ≠ "__name__" → mb x=bootBuiltins x
 nolimit:base.NoLimit
structure Cx where
 prog:Program
 w:World
 K:W.Frag
 mg:Str->Option Value
 base:Heap
 A:Around
 N:List Str
 s₀:Shared
 H₀:Hp
 env:Env
 outer:List Env
 stack:List Env
 ex:List Addr
 fn:Str->Bool
 calm:Bool
 pn:List (Addr × Obj)
 xe:Value->Shared->Prop
def frs(l:List Env):List Addr:=l.filterMap (·.frame)
abbrev Cx.fs(X:Cx):List Addr:=frs X.outer
def Vis(sc:Scope)(x:Str):Prop:=sc.names.lookup x=some .local\/sc.names.lookup x=some .cell\/sc.names.lookup x=some .free
def Loc(sc:Scope)(x:Str):Prop:=sc.names.lookup x=some .local\/sc.names.lookup x=some .cell
def IS(env:Env)(h:Heap)(m:Str->Option Value)(x:Str)(u:Value):Prop:=
 (env.kindOf x=some .local/\m x=some u)\/((env.kindOf x=some .cell\/env.kindOf x=some .free)/\∃ c,env.cells.lookup x=some c/\h.IsCell c (some u))
structure Cx.Ok(X:Cx):Prop where
 mod:Mod X.K X.mg X.base
 kind:X.env.scope.kind=.function
 glob:X.env.globals=mainGlobals
 blt:X.env.builtins=builtinsNs
 above:X.s₀.heap.objs.size<=X.env.locals
 inj:∀ x y c,X.env.cells.lookup x=some c->X.env.cells.lookup y=some c->x=y
 has:∀ x,(X.env.kindOf x=some .cell\/X.env.kindOf x=some .free)->∃ c,X.env.cells.lookup x=some c
 cab:∀ x c,X.fn x=true->X.env.cells.lookup x=some c->X.s₀.heap.objs.size<=c
 hd:X.calm=true->X.A.handled=none
 frames:X.A.frames=some X.stack
 stk:X.stack=X.outer\/(X.stack=X.env::X.outer/\X.env.frame=some X.env.locals)
 exf:∀ b∈X.ex,b ≠ X.env.locals/\∀ x c,X.env.cells.lookup x=some c->c ≠ b
 bs:∀ b o,X.base.get? b=some o->X.s₀.heap.get? b=some o/\X.H₀ b=none
 bsz:X.base.objs.size<=X.s₀.heap.objs.size
 noex:∀ b o,X.base.get? b=some o->b ∉ X.ex
 exfs:∀ b∈X.ex,b ∉ X.fs
 funs:X.s₀.heap.FunFrames X.base X.outer
 frf:∀ b∈X.fs,X.H₀ b=none
structure Inv(X:Cx)(pins:List (Addr × Obj))(σ:List (Option V))(H:Hp)(s:Shared):Prop where
 ok:X.Ok
 os:s.os=X.s₀.os
 bare:AllBare s.gens
 base:Un X.fs X.ex X.H₀ H X.s₀.heap s.heap
 loc:∃ m,s.heap.Ns X.env.locals m/\∀ (i:Nat) (x:Str) (v:V),X.N[i]? = some x->σ[i]? = some (some v)->Vis X.env.scope x->∃ u,bZ v u/\IS X.env s.heap m x u
 cell:∀ x c,X.env.cells.lookup x=some c->∃ v,s.heap.IsCell c v
 free:H X.env.locals=none
 freeC:∀ x c,X.env.cells.lookup x=some c->H c=none
 pin:∀ p∈X.pn++pins,s.heap.get? p.1=some p.2/\H p.1=none/\p.1 ≠ X.env.locals/\p.1 ∉ X.fs/\∀ v,p.2.data ≠ .cell v
 hok:HOk X.prog X.w H s.heap
 len:σ.length=X.N.length
section
variable {X:Cx}{pins:List (Addr × Obj)}{σ:List (Option V)}{H H':Hp}{s:Shared}{h':Heap}
theorem Cx.Ok.nofr(ok:X.Ok){b:Addr}{o:Obj}(e:X.base.get? b=some o):b ∉ X.fs:=λ hb=>by
 have:=(ok.funs.mem hb).1;rw [e] at this;cases this
theorem Inv.bs(I:Inv X pins σ H s):∀ b o,X.base.get? b=some o->s.heap.get? b=some o/\H b=none:=λ b o e=>
 ⟨I.base.keep b o (I.ok.bs b o e).1 (I.ok.bs b o e).2 (I.ok.nofr e) (I.ok.noex b o e),I.base.free b o (I.ok.bs b o e).1 (I.ok.bs b o e).2 (I.ok.noex b o e)⟩
theorem Inv.bk(I:Inv X pins σ H s):∀ b o,X.base.get? b=some o->s.heap.get? b=some o:=λ b o e=>(I.bs b o e).1
theorem Inv.mod(I:Inv X pins σ H s):Mod X.K X.mg X.base:=I.ok.mod
theorem Inv.kIn(I:Inv X pins σ H s):X.K.In s.heap:=I.ok.mod.kin.keeps I.bk
theorem Inv.lt(I:Inv X pins σ H s):X.env.locals < s.heap.objs.size:=let ⟨_,hn,_⟩:=I.loc;hn.lt
theorem Inv.sz(I:Inv X pins σ H s):X.s₀.heap.objs.size<=s.heap.objs.size:=Ju I.ok.above (KN I.lt)
theorem Inv.nofs(I:Inv X pins σ H s){a:Addr}(h:s.heap.objs.size<=a):a ∉ X.fs:=λ hb=>by
 obtain⟨_,o,ho,_⟩:=I.ok.funs.mem hb;exact absurd (Jc (IZ ho) (Ju I.sz h)) (JM _)
theorem Inv.cne(I:Inv X pins σ H s):∀ x c,X.env.cells.lookup x=some c->c ≠ X.env.locals:=λ x c e z=>by
 obtain⟨v,o,ho,hd⟩:=I.cell x c e;obtain⟨m,⟨o',es,ep,ho',hd',_⟩,_⟩:=I.loc;rw [z,ho'] at ho;cases ho;rw [hd'] at hd;cases hd
theorem Inv.funs(I:Inv X pins σ H s):s.heap.FunFrames X.base X.outer:=by
 have all:∀ (l:List Env),(∀ b∈frs l,b∈X.fs)->X.s₀.heap.FunFrames X.base l->s.heap.FunFrames X.base l:=by
  intro l
  induction l with
  | nil=>intro _ _;trivial
  | cons env r ih=>
   intro hs hl;obtain⟨hk,⟨L,o,hf,hn,ho,hd⟩,hr⟩:=hl;have hL:L∈X.fs:=hs L (by unfold frs;rw [List.filterMap_cons,hf];exact mem_cons_self);obtain⟨sl,e⟩:=I.base.slot L o ho (I.ok.frf L hL) hL λ z=>I.ok.exfs L z hL;exact⟨hk,⟨L,_,hf,hn,e,hd⟩,ih (λ b hb=>hs b (by unfold frs;rw [List.filterMap_cons,hf];exact mem_cons_of_mem _ hb)) hr⟩
 exact all X.outer (λ _ hb=>hb) I.ok.funs
theorem Inv.stack(I:Inv X pins σ H s):s.heap.FunFrames X.base X.stack:=by
 rcases I.ok.stk with e|⟨e,hf⟩
 ·rw [e];exact I.funs
 ·rw [e];obtain⟨m,hn,_⟩:=I.loc;refine .cons (by rw [I.ok.kind];decide) hf hn ?_ I.funs;exact JG (Ju I.ok.bsz I.ok.above)
theorem Inv.stkSub(I:Inv X pins σ H s):∀ b∈frs X.stack,b∈X.env.locals::X.fs:=λ b hb=>by
 rcases I.ok.stk with e|⟨e,hf⟩
 ·rw [e] at hb;exact Jk _ hb
 ·rw [e] at hb;unfold frs at hb;rw [List.filterMap_cons,hf] at hb;exact hb
theorem Inv.stkFree(I:Inv X pins σ H s):∀ b∈frs X.stack,H b=none:=λ b hb=>by
 rcases Js.mp (I.stkSub b hb) with e|hb
 ·rw [e];exact I.free
 ·obtain⟨_,o,ho,_⟩:=I.ok.funs.mem hb;exact I.base.free b o ho (I.ok.frf b hb) λ z=>I.ok.exfs b z hb
theorem Inv.step{g':Array GenState}{t':Nat}{d':Drawn}{ch:List Addr}(I:Inv X pins σ H s)
  (hch:∀ b∈ch,(b∈X.ex\/X.s₀.heap.objs.size<=b)/\b ≠ X.env.locals/\(∀ x c,X.env.cells.lookup x=some c->c ≠ b)/\∀ p∈X.pn++pins,p.1 ≠ b)
  (keep:∀ b o,b ≠ X.env.locals->b ∉ X.fs->b ∉ ch->s.heap.get? b=some o->H b=none->h'.get? b=some o)
  (slot:∀ b o,b ≠ X.env.locals->b∈X.fs->b ∉ ch->s.heap.get? b=some o->H b=none->∃ sl,h'.get? b=some { o with slots:=sl }) (free:∀ b o,b ∉ ch->s.heap.get? b=some o->H b=none->H' b=none)
  (there:∀ b o,b ∉ ch->s.heap.get? b=some o->∃ o',h'.get? b=some o')
  (tups:∀ b xs,H b=some (.tup xs)->H' b=some (.tup xs)) (frzs:∀ b o u,H b=some (.frz o u)->H' b=some (.frz o u)) (tbls:∀ b ps,H b=some (.tbl ps)->∃ more,H' b=some (.tbl (ps++more)))
  (ns:∀ m,s.heap.Ns X.env.locals m->h'.Ns X.env.locals m) (hok:HOk X.prog X.w H' h') (hg:AllBare g') :
  Inv X pins σ H' { s with heap:=h',gens:=g',drawn:=d',toks:=t' }:=by
 have neL:∀ b o,X.s₀.heap.get? b=some o->b ≠ X.env.locals:=λ b o e=>Jj (Jc (IZ e) I.ok.above)
 have neC:∀ b o,X.s₀.heap.get? b=some o->b ∉ X.ex->b ∉ ch:=λ b o e hx hb=>by
  rcases (hch b hb).1 with z|z
  ·exact hx z
  ·exact absurd (Jc (IZ e) z) (JM _)
 have cellK:∀ x c,X.env.cells.lookup x=some c->∀ v,s.heap.IsCell c v->h'.IsCell c v:=λ x c e v ⟨o,ho,hd⟩=>by
  have nch:c ∉ ch:=λ z=>(hch c z).2.2.1 x c e rfl
  by_cases hc:c∈X.fs
  ·obtain⟨sl,q⟩:=slot c o (I.cne x c e) hc nch ho (I.freeC x c e);exact⟨_,q,hd⟩
  ·exact⟨o,keep c o (I.cne x c e) hc nch ho (I.freeC x c e),hd⟩
 refine⟨I.ok,I.os,hg,⟨λ b o e n hb hx=>?_,λ b o e n hb hx=>?_,λ b o e n hx=>?_,λ b o e hx=>?_,λ b xs e=>tups b xs (I.base.tups b xs e),λ b o xs e=>frzs b o xs (I.base.frzs b o xs e),λ b ps e=>?_⟩,?_,λ x c e=>?_,?_,λ x c e=>?_,λ p hp=>?_,hok,I.len⟩
 ·exact keep b o (neL b o e) hb (neC b o e hx) (I.base.keep b o e n hb hx) (I.base.free b o e n hx)
 ·obtain⟨sl,e1⟩:=I.base.slot b o e n hb hx;obtain⟨sl',e2⟩:=slot b _ (neL b o e) hb (neC b o e hx) e1 (I.base.free b o e n hx);exact⟨sl',e2⟩
 ·obtain⟨o',e1⟩:=I.base.there b o e hx;exact free b o' (neC b o e hx) e1 (I.base.free b o e n hx)
 ·obtain⟨o',e1⟩:=I.base.there b o e hx;exact there b o' (neC b o e hx) e1
 ·obtain⟨m1,e1⟩:=I.base.tbls b ps e;obtain⟨m2,e2⟩:=tbls b _ e1;exact⟨m1++m2,by rw [e2,Array.append_assoc]⟩
 ·obtain⟨m,hn,hl⟩:=I.loc;refine⟨m,ns m hn,λ i x v e1 e2 e3=>?_⟩;obtain⟨u,r,l⟩:=hl i x v e1 e2 e3;refine⟨u,r,?_⟩
  rcases l with l|⟨k,c,e,z⟩
  ·exact .inl l
  ·exact .inr ⟨k,c,e,cellK x c e _ z⟩
 ·obtain⟨v,z⟩:=I.cell x c e;exact⟨v,cellK x c e v z⟩
 ·obtain⟨m,⟨o,_,_,ho,_⟩,_⟩:=I.loc;exact free _ o (λ z=>(hch _ z).2.1 rfl) ho I.free
 ·obtain⟨v,o,ho,hd⟩:=I.cell x c e;exact free c o (λ z=>(hch c z).2.2.1 x c e rfl) ho (I.freeC x c e)
 ·obtain⟨e,n,ne,nf,d⟩:=I.pin p hp;have nch:p.1 ∉ ch:=λ z=>(hch p.1 z).2.2.2 p hp rfl;exact⟨keep p.1 p.2 ne nf nch e n,free p.1 p.2 nch e n,ne,nf,d⟩
theorem Inv.un{t':Nat}(I:Inv X pins σ H s)(u:Un X.fs [] H H' s.heap h')(hok:HOk X.prog X.w H' h'):Inv X pins σ H' { s with heap:=h',toks:=t' }:=by
 obtain⟨m,⟨o,es,ep,ho,r⟩,_⟩:=id I.loc;obtain⟨sl,hL⟩:=u.any ho I.free (by simp)
 exact I.step (g':=s.gens) (d':=s.drawn) (ch:=[]) (λ _ z=>nomatch z) (λ b o _ hb _ e n=>u.keep b o e n hb (by simp)) (λ b o _ hb _ e n=>u.slot b o e n hb (by simp)) (λ b o _ e n=>u.free b o e n (by simp)) (λ b o _ e=>u.there b o e (by simp)) u.tups u.frzs u.tbls (λ m' hm=>by
  obtain⟨o',es',ep',ho',r'⟩:=hm;rw [ho] at ho';cases ho';exact⟨_,es',ep',hL,r'⟩) hok I.bare
theorem Inv.call{g':Array GenState}{t':Nat}{d':Drawn}{ch:List Addr}(I:Inv X pins σ H s)(u:Un (frs X.stack) ch H H' s.heap h')(hok:HOk X.prog X.w H' h')(hg:AllBare g')
  (hch:∀ b∈ch,(b∈X.ex\/X.s₀.heap.objs.size<=b)/\b ≠ X.env.locals/\(∀ x c,X.env.cells.lookup x=some c->c ≠ b)/\∀ p∈X.pn++pins,p.1 ≠ b) :
  Inv X pins σ H' { s with heap:=h',gens:=g',drawn:=d',toks:=t' }:=by
 obtain⟨m,⟨o,es,ep,ho,r⟩,_⟩:=id I.loc;obtain⟨sl,hL⟩:=u.any ho I.free λ z=>(hch _ z).2.1 rfl
 exact I.step (ch:=ch) hch (λ b o hL hb hc e n=>u.keep b o e n (λ z=>(Js.mp (I.stkSub b z)).elim hL hb) hc) (λ b o _ _ hc e n=>u.any e n hc) (λ b o hc e n=>u.free b o e n hc) (λ b o hc e=>u.there b o e hc) u.tups u.frzs u.tbls (λ m' hm=>by
  obtain⟨o',es',ep',ho',r'⟩:=hm;rw [ho] at ho';cases ho';exact⟨_,es',ep',hL,r'⟩) hok hg
theorem Inv.turned{t':Nat}{it:Addr}(I:Inv X pins σ H s)(k:∀ b o,b ≠ it->s.heap.get? b=some o->h'.get? b=some o)(hn:H it=none)(hL:it ≠ X.env.locals)
  (h1:it∈X.ex\/X.s₀.heap.objs.size<=it) (h2:∀ x c,X.env.cells.lookup x=some c->c ≠ it) (h3:∀ p∈X.pn++pins,p.1 ≠ it):Inv X pins σ H { s with heap:=h',toks:=t' }:=by
 have nit:∀ b u,H b=some u->b ≠ it:=λ b u e z=>by rw [z,hn] at e;cases e
 refine I.step (g':=s.gens) (d':=s.drawn) (ch:=[it]) (λ b hb=>?_) (λ b o _ _ hc e _=>k b o (λ z=>hc (by simp [z])) e) (λ b o _ _ hc e _=>⟨o.slots,k b o (λ z=>hc (by simp [z])) e⟩) (λ _ _ _ _ n=>n)
  (λ b o hc e=>⟨o,k b o (λ z=>hc (by simp [z])) e⟩) (λ _ _ e=>e) (λ _ _ _ e=>e) (λ b ps e=>⟨#[],by rw [e];simp⟩) (λ m hm=>?_) (λ b u e=>?_) I.bare
 ·have e:b=it:=by simpa using hb
  subst e;exact⟨h1,hL,h2,h3⟩
 ·obtain⟨o,es,ep,ho,r⟩:=hm;exact⟨o,es,ep,k _ o (Jv hL) ho,r⟩
 ·refine(I.hok b u e).stay (λ c v hc q=>k c v ?_ q) (λ _ q=>q) λ _ _ q=>q
  rcases hc with z|z
  ·rw [z];exact nit b u e
  ·exact nit c _ z
theorem Inv.tok(I:Inv X pins σ H s)(t:Nat):Inv X pins σ H { s with toks:=t }:=I.un (h':=s.heap) (t':=t) Un.refl I.hok
theorem Inv.kept{t':Nat}(I:Inv X pins σ H s)(k:∀ b u,s.heap.get? b=some u->h'.get? b=some u):Inv X pins σ H { s with heap:=h',toks:=t' }:=I.un (Un.kept k) (I.hok.kept k)
theorem Inv.laid{a:Addr}{o:HO}{t':Nat}(I:Inv X pins σ H s)(k:∀ b u,s.heap.get? b=some u->h'.get? b=some u)(hp:s.heap.objs.size<=a)(new:bO X.prog X.w (upd H a o) h' a o) :
  Inv X pins σ (upd H a o) { s with heap:=h',toks:=t' }:=I.un (Un.laid k hp (I.hok.fresh hp)) (I.hok.laid k hp new)
theorem Inv.write{x e:Addr}{o:HO}{t':Nat}(I:Inv X pins σ H s)(mu:Mut (H x))(he:e=x\/H e=some (.own x))(k:∀ b u,b ≠ e->s.heap.get? b=some u->h'.get? b=some u)(heo:∃ u,h'.get? e=some u)
  (new:bO X.prog X.w (upd H x o) h' x o):Inv X pins σ (upd H x o) { s with heap:=h',toks:=t' }:=I.un (Un.write mu he k heo) (I.hok.write mu he k heo new)
theorem Inv.weak{σ':List (Option V)}(I:Inv X pins σ H s)(hl:σ'.length=σ.length)(w:∀ (i:Nat) v,σ'[i]? = some (some v)->σ[i]? = some (some v)):Inv X pins σ' H s:=
 ⟨I.ok,I.os,I.bare,I.base,let ⟨m,hn,hl'⟩:=I.loc;⟨m,hn,λ i x v e1 e2 e3=>hl' i x v e1 (w i v e2) e3⟩,I.cell,I.free,I.freeC,I.pin,I.hok,hl.trans I.len⟩
theorem Inv.pins_of{pins':List (Addr × Obj)}(I:Inv X pins σ H s)(h:∀ p∈pins',s.heap.get? p.1=some p.2/\H p.1=none/\p.1 ≠ X.env.locals/\p.1 ∉ X.fs/\∀ v,p.2.data ≠ .cell v):Inv X pins' σ H s:=
 ⟨I.ok,I.os,I.bare,I.base,I.loc,I.cell,I.free,I.freeC,λ p hp=>(Lc.mp hp).elim (λ z=>I.pin p (Lg _ z)) (h p),I.hok,I.len⟩
theorem kW{N:List Str}(hN:N.Nodup){i j:Nat}{x:Str}(a:N[i]? = some x)(b:N[j]? = some x):i=j:=by
 obtain⟨h1,e1⟩:=Jb.mp a;obtain⟨h2,e2⟩:=Jb.mp b;exact(List.getElem_inj hN).mp (e1.trans e2.symm)
theorem mj{M:Model}{A:Around}{E:Value->Shared->Prop}{i:Nat}{x:Str}{v:V}{u:Value}{Q:Unit->Shared->Prop}(I:Inv X pins σ H s)(hN:X.N.Nodup)(hi:X.N[i]? = some x)(hx:Loc X.env.scope x)(r:bZ v u)
  (h:∀ s',Inv X pins (σ.set i (some v)) H s'->(∃ a,Heap.SameBut a s.heap s'.heap/\(a=X.env.locals\/X.env.cells.lookup x=some a))->Q () s') (hf:X.fn x=true\/X.env.scope.names.lookup x=some .local:=by first|exact .inl rfl|exact .inr rfl|assumption):wpAny M A (storeName X.env x u) Q E s:=by
 obtain⟨m,hn,hl⟩:=id I.loc;have hcls:(X.env.scope.kind == .class || (X.env.scope.kind == .module && X.env.locals != X.env.globals))=false:=by rw [I.ok.kind];rfl
 have hiσ:i < σ.length:=by rw [I.len];exact(Jb.mp hi).1
 have cne:=I.cne
 have tracked:∀ {a:Addr} {h':Heap},(∃ o,s.heap.get? a=some o/\H a=none)->Heap.SameBut a s.heap h'->HOk X.prog X.w H h':=λ {a h'} ha hs b ob e=>by
  obtain⟨_,_,hfree⟩:=ha;refine(I.hok b ob e).stay (λ c w' hc q=>(hs.2 c ?_).trans q) (λ _ q=>q) λ _ _ q=>q;rintro rfl
  rcases hc with rfl|hc
  ·rw [hfree] at e;cases e
  ·rw [hfree] at hc;cases hc
 rcases hx with hk|hk
 ·refine wpAny_storeName_local hk hn (λ h' hn' hs=>?_) hcls;obtain⟨oL,_,_,hoL,_⟩:=id hn;refine h _ ⟨I.ok,I.os,I.bare,⟨λ b o e n hb hx=>?_,λ b o e n hb hx=>?_,I.base.free,λ b o e hx=>?_,I.base.tups,I.base.frzs,I.base.tbls⟩,⟨_,hn',λ j y v' e1 e2 e3=>?_⟩,λ y c e=>?_,I.free,I.freeC,λ p hp=>?_,tracked ⟨oL,hoL,I.free⟩ hs,by simpa using I.len⟩ ⟨_,hs,.inl rfl⟩
  ·exact(hs.2 b (Jj (Jc (IZ e) I.ok.above))).trans (I.base.keep b o e n hb hx)
  ·obtain⟨sl,e1⟩:=I.base.slot b o e n hb hx;exact⟨sl,(hs.2 b (Jj (Jc (IZ e) I.ok.above))).trans e1⟩
  ·obtain⟨o',e1⟩:=I.base.there b o e hx;exact⟨o',(hs.2 b (Jj (Jc (IZ e) I.ok.above))).trans e1⟩
  ·by_cases hj:j=i
   ·subst hj;rw [hi] at e1;cases e1;rw [K3 hiσ] at e2;cases e2;exact⟨u,r,.inl ⟨hk,by simp⟩⟩
   ·rw [Lh (Jv hj)] at e2;obtain⟨u',r',q⟩:=hl j y v' e1 e2 e3;refine⟨u',r',?_⟩
    rcases q with ⟨k,e⟩|⟨k,c,e,z⟩
    ·refine .inl ⟨k,?_⟩;have:y ≠ x:=λ e=>hj (kW hN e1 (e ▸ hi));simp [this,e]
    ·exact .inr ⟨k,c,e,z.sameBut hs (cne y c e)⟩
  ·obtain⟨w',z⟩:=I.cell y c e;exact⟨w',z.sameBut hs (cne y c e)⟩
  ·obtain⟨e,n,ne,nf,d⟩:=I.pin p hp;exact⟨(hs.2 p.1 ne).trans e,n,ne,nf,d⟩
 ·have hfn:X.fn x=true:=by
   rcases hf with z|z
   ·exact z
   ·rw [z] at hk;cases hk
  obtain⟨c,hc⟩:=I.ok.has x (.inl hk);obtain⟨w',z⟩:=I.cell x c hc;refine wpAny_storeName_cell I.ok.kind hk hc z (λ h' hc' hs=>?_);obtain⟨oc,hoc,hocd⟩:=id z;refine h { s with heap:=h' } ⟨I.ok,I.os,I.bare,⟨λ b o e n hb hx=>?_,λ b o e n hb hx=>?_,I.base.free,λ b o e hx=>?_,I.base.tups,I.base.frzs,I.base.tbls⟩,⟨m,hn.sameBut hs (Jv (cne x c hc)),λ j y v' e1 e2 e3=>?_⟩,λ y c' e=>?_,I.free,I.freeC,λ p hp=>?_,tracked ⟨oc,hoc,I.freeC x c hc⟩ hs,by simpa using I.len⟩ ⟨c,hs,.inr hc⟩
  ·exact(hs.2 b (Jj (Jc (IZ e) (I.ok.cab x c hfn hc)))).trans (I.base.keep b o e n hb hx)
  ·obtain⟨sl,e1⟩:=I.base.slot b o e n hb hx;exact⟨sl,(hs.2 b (Jj (Jc (IZ e) (I.ok.cab x c hfn hc)))).trans e1⟩
  ·obtain⟨o',e1⟩:=I.base.there b o e hx;exact⟨o',(hs.2 b (Jj (Jc (IZ e) (I.ok.cab x c hfn hc)))).trans e1⟩
  ·by_cases hj:j=i
   ·subst hj;rw [hi] at e1;cases e1;rw [K3 hiσ] at e2;cases e2;exact⟨u,r,.inr ⟨.inl hk,c,hc,hc'⟩⟩
   ·rw [Lh (Jv hj)] at e2;obtain⟨u',r',q⟩:=hl j y v' e1 e2 e3;refine⟨u',r',?_⟩
    rcases q with q|⟨k,c',e,z'⟩
    ·exact .inl q
    ·refine .inr ⟨k,c',e,z'.sameBut hs ?_⟩;rintro rfl;exact hj (kW hN e1 (I.ok.inj _ _ _ e hc ▸ hi))
  ·by_cases hcc:c'=c
   ·subst hcc;exact⟨_,hc'⟩
   ·obtain⟨w2,z2⟩:=I.cell y c' e;exact⟨w2,z2.sameBut hs hcc⟩
  ·obtain⟨e,n,ne,nf,d⟩:=I.pin p hp;refine⟨(hs.2 p.1 ?_).trans e,n,ne,nf,d⟩;intro q;rw [q,hoc] at e;have q':oc=p.2:=Jy e;exact d w' (by rw [←q'];exact hocd)
theorem kF{M:Model}{A:Around}{E:Value->Shared->Prop}{i:Nat}{x:Str}{v:V}{u:Value}{Q:Unit->Shared->Prop}(I:Inv X pins σ H s)(hN:X.N.Nodup)(hi:X.N[i]? = some x)(hx:Loc X.env.scope x)(r:bZ v u)
  (h:∀ s',Inv X pins (σ.set i (some v)) H s'->Q () s') (hf:X.fn x=true\/X.env.scope.names.lookup x=some .local:=by first|exact .inl rfl|exact .inr rfl|assumption):wpAny M A (storeName X.env x u) Q E s:=
 mj I hN hi hx r (λ s' I' _=>h s' I') hf
theorem Inv.call'{s':Shared}{ch:List Addr}(I:Inv X pins σ H s)(ho:s'.os=s.os)(u:Un (frs X.stack) ch H H' s.heap s'.heap)(hok:HOk X.prog X.w H' s'.heap)(hg:AllBare s'.gens)
  (hch:∀ b∈ch,(b∈X.ex\/X.s₀.heap.objs.size<=b)/\b ≠ X.env.locals/\(∀ x c,X.env.cells.lookup x=some c->c ≠ b)/\∀ p∈X.pn++pins,p.1 ≠ b):Inv X pins σ H' s':=by
 obtain⟨h',g',d',t',o'⟩:=s';have e:o'=s.os:=ho;subst e;exact I.call (g':=g') (t':=t') (d':=d') u hok hg hch
end
abbrev XK:=Value->Option Addr->Hp->Prop
abbrev St:=List (Option V)
abbrev VK:=V->Hp->Prop
abbrev TE:=St->Hp->VK->Prop
abbrev TT:=St->Hp->(Bool->Hp->Prop)->Prop
abbrev TA:=St->Hp->(List V->Hp->Prop)->Prop
structure fO where
 nx:St->Hp->Prop
 rt:VK
 bk:St->Hp->Prop:=λ _ _=>False
 ct:St->Hp->Prop:=λ _ _=>False
abbrev TS:=fO->St->Hp->Prop
def EP(X:Cx)(pins:List (Addr × Obj))(σ:St)(Q:VK)(u:Value)(s':Shared):Prop:=∃ v H',Inv X pins σ H' s'/\bZ v u/\Q v H'
def TP(X:Cx)(pins:List (Addr × Obj))(σ:St)(Q:Bool->Hp->Prop)(b:Bool)(s':Shared):Prop:=∃ H',Inv X pins σ H' s'/\Q b H'
def AP(X:Cx)(pins:List (Addr × Obj))(σ:St)(Q:List V->Hp->Prop)(us:List Value)(s':Shared):Prop:=∃ vs H',Inv X pins σ H' s'/\bq vs us/\Q vs H'
def SP(X:Cx)(pins:List (Addr × Obj))(D:fO)(f:Flow)(s':Shared):Prop:=
 match f with
 | .next=>∃ σ' H',Inv X pins σ' H' s'/\D.nx σ' H'
 | .brk=>∃ σ' H',Inv X pins σ' H' s'/\D.bk σ' H'
 | .cont=>∃ σ' H',Inv X pins σ' H' s'/\D.ct σ' H'
 | .ret u=>∃ v σ' H',Inv X pins σ' H' s'/\bZ v u/\D.rt v H'
def PE(X:Cx)(e:Expr)(t:TE):Prop:=
 ∀ (pins:List (Addr × Obj)) (s:Shared) (σ:St) (H:Hp) (Q:VK),Inv X pins σ H s->t σ H Q->wpAny (model X.prog X.w) X.A (eval e X.env) (EP X pins σ Q) X.xe s
def PT(X:Cx)(e:Expr)(t:TT):Prop:=
 ∀ (pins:List (Addr × Obj)) (s:Shared) (σ:St) (H:Hp) (Q:Bool->Hp->Prop),Inv X pins σ H s->t σ H Q->wpAny (model X.prog X.w) X.A (isTrue e X.env (eval e X.env)) (TP X pins σ Q) X.xe s
def PW(X:Cx)(e:Expr)(t:TT):Prop:=
 ∀ (whole:Sem Value) (pins:List (Addr × Obj)) (s:Shared) (σ:St) (H:Hp) (Q:Bool->Hp->Prop),Inv X pins σ H s->t σ H Q->wpAny (model X.prog X.w) X.A (isTrue e X.env whole) (TP X pins σ Q) X.xe s
theorem PW.pt{X:Cx}{e:Expr}{t:TT}(h:PW X e t):PT X e t:=h _
def PA(X:Cx)(es:List Expr)(t:TA):Prop:=
 ∀ (pos:Pos) (pins:List (Addr × Obj)) (s:Shared) (σ:St) (H:Hp) (Q:List V->Hp->Prop),Inv X pins σ H s->t σ H Q->wpAny (model X.prog X.w) X.A (spliced (backTo pos (starEach es X.env))) (AP X pins σ Q) X.xe s
def PS(X:Cx)(st:Stmt)(t:TS):Prop:=
 ∀ (pins:List (Addr × Obj)) (s:Shared) (σ:St) (H:Hp) (D:fO),Inv X pins σ H s->t D σ H->wpAny (model X.prog X.w) X.A (exec st X.env) (SP X pins D) X.xe s
def PSs(X:Cx)(st:List Stmt)(t:TS):Prop:=
 ∀ (pins:List (Addr × Obj)) (s:Shared) (σ:St) (H:Hp) (D:fO),Inv X pins σ H s->t D σ H->wpAny (model X.prog X.w) X.A (execs st X.env) (SP X pins D) X.xe s
theorem thn{α:Type}{t:Sem α}{Q Q':α->Shared->Prop}{M:Model}{A:Around}{E:Value->Shared->Prop}{s:Shared}(h:wpAny M A t Q E s)(hQ:∀ a s,Q a s->Q' a s):wpAny M A t Q' E s:=Ku h hQ λ _ _ x=>x
section
variable {X:Cx}
def FC(i:Nat):TE:=λ σ H Q=>∃ v,σ[i]? = some (some v)/\Q v H
def tC(v:V):TE:=λ _ H Q=>Q v H
theorem DN{i:Nat}{x:Str}{pos:Pos}(hN:X.N[i]? = some x)(hv:Vis X.env.scope x)(hd:(x == ("__debug__":Str))=false:=by decide)(hcd:(x == ("__classdict__":Str))=false:=by decide):PE X (.Name x pos) (FC i):=by
 intro pins s σ H Q I h;obtain⟨v,e,h⟩:=h;obtain⟨m,hn,hl⟩:=I.loc;obtain⟨u,r,l⟩:=hl i x v hN e hv;have fin:EP X pins σ Q u s:=⟨v,H,I,r,h⟩
 rcases l with ⟨hk,hm⟩|⟨hk,c,hc,hcell⟩
 ·exact wpAny_Name (wpAny_loadName_local I.ok.kind hk hn hm fin) hd
 ·rcases hk with hk|hk
  ·exact wpAny_Name (wpAny_loadName_cell I.ok.kind hk hc hcell fin) hd
  ·exact wpAny_Name (wpAny_loadName_free I.ok.kind hk hc hcell fin hcd) hd
theorem ef{i j pos}:PE X (.Constant (.int i) j pos) (tC (.int i)):=λ _ _ _ H _ I h=>wpAny_Constant_int ⟨.int i,H,I.tok _,⟨_,rfl⟩,h⟩
theorem fh{b j pos}:PE X (.Constant (.bool b) j pos) (tC (.bl b)):=λ _ _ _ H _ I h=>Constant_bool ⟨.bl b,H,I,rfl,h⟩
theorem gS{j pos}:PE X (.Constant .none j pos) (tC .non):=λ _ _ _ H _ I h=>Constant_none ⟨.non,H,I,rfl,h⟩
theorem b5{x j pos}:PE X (.Constant (.str x) j pos) (tC (.str x)):=λ _ _ _ H _ I h=>Calls.Constant_str ⟨.str x,H,I.tok _,⟨_,rfl⟩,h⟩
def Gl(X:Cx)(x:Str):Prop:=X.env.kindOf x=some .globalImplicit
theorem cI{E:Value->Shared->Prop}{pins:List (Addr × Obj)}{s:Shared}{σ:St}{H:Hp}{x:Str}{u:Value}{pos:Pos}{Q:Value->Shared->Prop}(I:Inv X pins σ H s)(hg:Gl X x)(hm:X.mg x=some u)(h:Q u s)
  (hd:(x == ("__debug__":Str))=false:=by decide):wpAny (model X.prog X.w) X.A (eval (.Name x pos) X.env) Q E s:=
 Calls.Name_function_global I.ok.kind hg (Calls.loadGlobal_global (by rw [I.ok.glob];exact I.mod.glob.keeps I.bk) hm h) hd
theorem jN{E:Value->Shared->Prop}{pins:List (Addr × Obj)}{s:Shared}{σ:St}{H:Hp}{x:Str}{u:Value}{pos:Pos}{Q:Value->Shared->Prop}(I:Inv X pins σ H s)(hg:Gl X x)(hm:X.mg x=none)(hv:bootBuiltins x=some u)(h:Q u s)
  (hn:x ≠ "__name__":=by decide) (hd:(x == ("__debug__":Str))=false:=by decide):wpAny (model X.prog X.w) X.A (eval (.Name x pos) X.env) Q E s:=by
 obtain⟨mb,h1,h2⟩:=I.mod.blt;exact Calls.Name_function_global I.ok.kind hg (Calls.loadGlobal_builtin (by rw [I.ok.glob];exact I.mod.glob.keeps I.bk) hm (by rw [I.ok.blt];exact h1.keeps I.bk) ((h2 x hn).trans hv) h) hd
theorem bV{x:Str}{v:V}{u:Value}{pos:Pos}(hg:Gl X x)(hm:X.mg x=some u)(r:bZ v u)(hd:(x == ("__debug__":Str))=false:=by decide):PE X (.Name x pos) (tC v):=
 λ _ _ _ H _ I h=>cI I hg hm ⟨v,H,I,r,h⟩ hd
theorem dk{x:Str}{v:V}{u:Value}{pos:Pos}(hg:Gl X x)(hm:X.mg x=none)(hv:bootBuiltins x=some u)(r:bZ v u)(hn:x ≠ "__name__":=by decide)(hd:(x == ("__debug__":Str))=false:=by decide):PE X (.Name x pos) (tC v):=
 λ _ _ _ H _ I h=>jN I hg hm hv ⟨v,H,I,r,h⟩ hn hd
variable {a b:Expr}{ta tb:TE}{pos:Pos}
def tB(t:TE):TT:=λ σ H Q=>t σ H λ x H1=>∃ c,x=.bl c/\Q c H1
theorem DF{e:Expr}{t:TE}(h:PE X e t)(he:∀ whole,isTrue e X.env whole=(do let v ←whole;standAt e.pos;holding [v] (truthy v)):=by intro _;rfl):PT X e (tB t):=by
 intro pins s σ H Q I hw;refine isTrue_plain (thn (h pins s σ H _ I hw) λ v s1 ⟨x,H1,I1,r1,q1⟩=>?_) (he _);obtain⟨d,rfl,q⟩:=q1;cases r1;exact Kf ⟨H1,I1,q⟩
variable {tA tB':TT}{bU:List Expr}
def HE(t u:TT):TT:=λ σ H Q=>t σ H λ c H1=>if c=true then u σ H1 Q else Q false H1
def tOr(t u:TT):TT:=λ σ H Q=>t σ H λ c H1=>if c=true then Q true H1 else u σ H1 Q
def HC(t:TT):TT:=λ σ H Q=>t σ H λ c H1=>Q (!c) H1
theorem AG(ha:PT X a tA):PW X (.BoolOp .And [a] pos) tA:=by
 intro wh pins s σ H Q I h;refine isTrue_and (thn (ha pins s σ H Q I h) λ c s1 e=>?_)
 cases c with
 | true=>exact isTrue_and_nil e
 | false=>exact e
theorem fQ(ha:PT X a tA):PW X (.BoolOp .Or [a] pos) tA:=by
 intro wh pins s σ H Q I h;refine isTrue_or (thn (ha pins s σ H Q I h) λ c s1 e=>?_)
 cases c with
 | false=>exact isTrue_or_nil e
 | true=>exact e
theorem DE(ha:PT X a tA)(hb:PW X (.BoolOp .And (b::bU) pos) tB'):PW X (.BoolOp .And (a::b::bU) pos) (HE tA tB'):=by
 intro wh pins s σ H Q I h;refine isTrue_and (thn (ha pins s σ H _ I h) λ c s1 ⟨H1,I1,q1⟩=>?_)
 cases c with
 | true=>exact hb wh pins s1 σ H1 Q I1 q1
 | false=>exact⟨H1,I1,q1⟩
theorem Gu(ha:PT X a tA)(hb:PW X (.BoolOp .Or (b::bU) pos) tB'):PW X (.BoolOp .Or (a::b::bU) pos) (tOr tA tB'):=by
 intro wh pins s σ H Q I h;refine isTrue_or (thn (ha pins s σ H _ I h) λ c s1 ⟨H1,I1,q1⟩=>?_)
 cases c with
 | true=>exact⟨H1,I1,q1⟩
 | false=>exact hb wh pins s1 σ H1 Q I1 q1
theorem DG(ha:PT X a tA):PT X (.UnaryOp .Not a pos) (HC tA):=by
 intro pins s σ H Q I h;exact isTrue_not (ha pins s σ H (λ c H1=>Q (!c) H1) I h)
def CW(ta tb:TE):TE:=λ σ H Q=>ta σ H λ x H1=>∃ c,x=.bl c/\if c=true then tb σ H1 Q else Q (.bl false) H1
def CQ(ta:TE):TE:=λ σ H Q=>ta σ H λ x H1=>∃ c,x=.bl c/\Q (.bl (!c)) H1
theorem DP{op}{t:TE}(h:PE X a t):PE X (.BoolOp op [a] pos) t:=λ pins s σ H Q I hw=>BoolOp_one (h pins s σ H Q I hw)
theorem DS(ha:PE X a ta)(hb:PE X (.BoolOp .And (b::bU) pos) tb):PE X (.BoolOp .And (a::b::bU) pos) (CW ta tb):=by
 intro pins s σ H Q I h;refine BoolOp_and (thn (ha pins s σ H _ I h) λ v s1 ⟨x,H1,I1,r1,q1⟩=>?_);obtain⟨c,rfl,q1⟩:=q1;cases r1;refine Kf ?_
 cases c with
 | true=>exact hb pins s1 σ H1 Q I1 q1
 | false=>exact⟨.bl false,H1,I1,rfl,q1⟩
theorem DQ(ha:PE X a ta):PE X (.UnaryOp .Not a pos) (CQ ta):=by
 intro pins s σ H Q I h;refine UnaryOp_ (thn (ha pins s σ H _ I h) λ v s1 ⟨x,H1,I1,r1,q1⟩=>?_);obtain⟨c,rfl,q1⟩:=q1;cases r1;exact not_of (Kf ⟨.bl (!c),H1,I1,rfl,q1⟩)
def tIf(t:TT)(ta tb:TE):TE:=λ σ H Q=>t σ H λ c H1=>if c=true then ta σ H1 Q else tb σ H1 Q
theorem xt{c:Expr}(hc:PT X c tA)(ha:PE X a ta)(hb:PE X b tb):PE X (.IfExp c a b pos) (tIf tA ta tb):=by
 intro pins s σ H Q I h;refine wpAny_IfExp (thn (hc pins s σ H _ I h) λ d s1 ⟨H1,I1,q1⟩=>?_)
 cases d with
 | true=>exact ha pins s1 σ H1 Q I1 q1
 | false=>exact hb pins s1 σ H1 Q I1 q1
end
def SqL(K:W.Frag)(H:Hp)(a:Addr)(xs:List V):Prop:=
 Rd H a (.lst xs) \/
  ∃ (o:Obj) (its:Array Value) (n:Nat),K.lookup a=some o/\o.cls=.type "list" /\ o.dict=none/\o.data=.seq its n/\its.size<=sizeLine/\bq xs its.toList
def SqT(K:W.Frag)(H:Hp)(a:Addr)(xs:List V):Prop:=
 Rd H a (.tup xs) \/
  ∃ (o:Obj) (its:Array Value) (n:Nat),K.lookup a=some o/\o.cls=.type "tuple" /\ o.data=.seq its n/\its.size<=sizeLine/\bq xs its.toList
def IP:Value->Option V
 | .none=>some .non
 | .bool b=>some (.bl b)
 | .int i _=>some (.int i)
 | .str x _=>some (.str x)
 | .bytes b _=>some (.byt b)
 | .float b _=>some (.flt b)
 | .ref a=>some (.ref a)
 | .type n=>some (.ty n)
 | _=>none
theorem bZ.abs{x:V}{u:Value}(r:bZ x u):IP u=some x:=by
 cases x with
 | non=>cases r;rfl
 | bl _=>cases r;rfl
 | int _=>obtain⟨t,rfl⟩:=r;rfl
 | str _=>obtain⟨t,rfl⟩:=r;rfl
 | byt _=>obtain⟨t,rfl⟩:=r;rfl
 | flt _=>obtain⟨t,rfl⟩:=r;rfl
 | ref _=>cases r;rfl
 | ty _=>cases r;rfl
theorem bZ.inj{x y:V}{u:Value}(r:bZ x u)(q:bZ y u):x=y:=Jy (r.abs.symm.trans q.abs)
theorem bq.inj:∀ {xs ys:List V}{us:List Value},bq xs us->bq ys us->xs=ys
 | _,_,_,.nil,.nil=>rfl
 | _,_,_,.cons r t,.cons r' t'=>by rw [r.inj r',bq.inj t t']
section
variable {X:Cx}{pins:List (Addr × Obj)}{σ:St}{H:Hp}{s:Shared}{a:Addr}{xs ys:List V}
theorem SqL.of{K:W.Frag}(h:H a=some (.lst xs)):SqL K H a xs:=.inl (.inl h)
theorem SqT.of{K:W.Frag}(h:H a=some (.tup xs)):SqT K H a xs:=.inl (.inl h)
theorem Inv.list(I:Inv X pins σ H s)(h:SqL X.K H a xs):∃ its:List Value,bq xs its/\PlainL s.heap a its.toArray/\xs.length<=sizeLine:=by
 rcases h with h|⟨o,its,n,hk,hc,hd,hs,hz,r⟩
 ·obtain⟨z,its,n,r,e⟩:=h.ok I.hok;exact⟨its,r,⟨_,n,e,rfl,rfl,rfl⟩,z⟩
 ·refine⟨its.toList,r,⟨o,n,I.kIn a o hk,hc,hd,by simpa using hs⟩,?_⟩;have e:=r.length;simp only [Array.length_toList] at e;omega
theorem Inv.tuple(I:Inv X pins σ H s)(h:SqT X.K H a xs):∃ its:List Value,bq xs its/\IsTup s.heap a its.toArray/\xs.length<=sizeLine:=by
 rcases h with h|⟨o,its,n,hk,hc,hs,hz,r⟩
 ·obtain⟨z,its,r,p⟩:=h.ok I.hok;exact⟨its,r,p,z⟩
 ·refine⟨its.toList,r,⟨o,I.kIn a o hk,hc,n,by simpa using hs⟩,?_⟩;have e:=r.length;simp only [Array.length_toList] at e;omega
theorem Inv.list_inj(I:Inv X pins σ H s)(h:SqL X.K H a xs)(h':SqL X.K H a ys):xs=ys:=by
 obtain⟨its,r,⟨o,n,e,_,_,d⟩,_⟩:=I.list h;obtain⟨its',r',⟨o',n',e',_,_,d'⟩,_⟩:=I.list h';rw [e] at e';cases e';rw [d] at d'
 injection d' with d1 _
 have:its=its':=by simpa using Kq Array.toList d1
 subst this;exact r.inj r'
theorem Inv.tuple_inj(I:Inv X pins σ H s)(h:SqT X.K H a xs)(h':SqT X.K H a ys):xs=ys:=by
 obtain⟨its,r,⟨o,e,_,n,d⟩,_⟩:=I.tuple h;obtain⟨its',r',⟨o',e',_,n',d'⟩,_⟩:=I.tuple h';rw [e] at e';cases e';rw [d] at d'
 injection d' with d1 _
 have:its=its':=by simpa using Kq Array.toList d1
 subst this;exact r.inj r'
end
abbrev Cx.wish(X:Cx)(E:Value->Shared->Prop):Cx:={ X with xe:=E }
abbrev Cx.nox(X:Cx):Cx:=X.wish λ _ _=>False
theorem Cx.Ok.wish{X:Cx}(ok:X.Ok)(E:Value->Shared->Prop):(X.wish E).Ok:=
 ⟨ok.mod,ok.kind,ok.glob,ok.blt,ok.above,ok.inj,ok.has,ok.cab,ok.hd,ok.frames,ok.stk,ok.exf,ok.bs,ok.bsz,ok.noex,ok.exfs,ok.funs,ok.frf⟩
theorem Cx.Ok.unwish{X:Cx}{E:Value->Shared->Prop}(ok:(X.wish E).Ok):X.Ok:=
 ⟨ok.mod,ok.kind,ok.glob,ok.blt,ok.above,ok.inj,ok.has,ok.cab,ok.hd,ok.frames,ok.stk,ok.exf,ok.bs,ok.bsz,ok.noex,ok.exfs,ok.funs,ok.frf⟩
section
variable {X:Cx}{pins:List (Addr × Obj)}{σ:St}{H:Hp}{s:Shared}{E:Value->Shared->Prop}
theorem Inv.wish(I:Inv X pins σ H s)(E:Value->Shared->Prop):Inv (X.wish E) pins σ H s:=⟨I.ok.wish E,I.os,I.bare,I.base,I.loc,I.cell,I.free,I.freeC,I.pin,I.hok,I.len⟩
theorem Inv.unwish(I:Inv (X.wish E) pins σ H s):Inv X pins σ H s:=⟨I.ok.unwish,I.os,I.bare,I.base,I.loc,I.cell,I.free,I.freeC,I.pin,I.hok,I.len⟩
theorem SP.unwish{D:fO}{f:Flow}{s':Shared}(h:SP (X.wish E) pins D f s'):SP X pins D f s':=by
 cases f with
 | next=>obtain⟨σ',H',I,q⟩:=h;exact⟨σ',H',I.unwish,q⟩
 | brk=>obtain⟨σ',H',I,q⟩:=h;exact⟨σ',H',I.unwish,q⟩
 | cont=>obtain⟨σ',H',I,q⟩:=h;exact⟨σ',H',I.unwish,q⟩
 | ret u=>obtain⟨v,σ',H',I,r,q⟩:=h;exact⟨v,σ',H',I.unwish,r,q⟩
theorem PSs.nox{st:List Stmt}{t:TS}(h:PSs X.nox st t):PSs X st t:=λ pins s σ H D I hw=>
 Ku (h pins s σ H D (I.wish _) hw) (λ _ _ q=>q.unwish) λ _ _ z=>False.elim z
end
section
variable {X:Cx}{st:Stmt}{bU:List Stmt}{t u:TS}{e:Expr}{te:TE}{pos:Pos}
def zH:TS:=λ D σ H=>D.nx σ H
def Hz(t u:TS):TS:=λ D σ H=>t { D with nx:=u D } σ H
theorem au:PSs X [] zH:=λ _ _ σ H _ I h=>Lm ⟨σ,H,I,h⟩
theorem fR(h1:PS X st t)(h2:PSs X bU u):PSs X (st::bU) (Hz t u):=by
 intro pins s σ H D I h;refine wpAny_execs_cons (thn (h1 pins s σ H { D with nx:=u D } I h) λ f s1 q=>?_)
 cases f with
 | next=>
  obtain⟨σ',H',I',q⟩:=q;exact h2 pins s1 σ' H' D I' q
 | ret v=>exact q
 | brk=>exact q
 | cont=>exact q
theorem kx(h1:PS X st t):PSs X [st] t:=by
 intro pins s σ H D I h;refine wpAny_execs_cons (thn (h1 pins s σ H D I h) λ f s1 q=>?_)
 cases f with
 | next=>exact Lm q
 | ret v=>exact q
 | brk=>exact q
 | cont=>exact q
theorem AL:PS X (.Pass pos) zH:=λ _ _ σ H _ I h=>wpAny_Pass ⟨σ,H,I,h⟩
theorem Inv.quiet{pins:List (Addr × Obj)}{σ:St}{H:Hp}{s:Shared}(I:Inv X pins σ H s):interactive X.env=false:=by simp [interactive,I.ok.kind]
def CT(te:TE):TS:=λ D σ H=>te σ H λ _ H1=>D.nx σ H1
theorem AM(he:PE X e te)(hs:swapsWith e none pos.line X.env=pure false:=by rfl):PS X (.Expr e pos) (CT te):=by
 intro pins s σ H D I h;exact wpAny_Expr_any (thn (he pins s σ H _ I h) λ v s1 ⟨x,H1,I1,r1,q1⟩=>⟨σ,H1,I1,q1⟩) I.quiet hs
def HB(te:TE):TS:=λ D σ H=>te σ H D.rt
theorem sW(he:PE X e te):PS X (.Return (some e) pos) (HB te):=by
 intro pins s σ H D I h;exact wpAny_Return_some (thn (he pins s σ H _ I h) λ v s1 ⟨x,H1,I1,r1,q1⟩=>⟨x,σ,H1,I1,r1,q1⟩)
def Fi(c:TT)(t u:TS):TS:=λ D σ H=>c σ H λ b H1=>if b=true then t D σ H1 else u D σ H1
theorem zP{c:Expr}{a b:List Stmt}{tc:TT}(hc:PT X c tc)(ha:PSs X a t)(hb:PSs X b u):PS X (.If c a b pos) (Fi tc t u):=by
 intro pins s σ H D I h;refine wpAny_If (thn (hc pins s σ H _ I h) λ d s1 ⟨H1,I1,q1⟩=>?_)
 cases d with
 | true=>exact ha pins s1 σ H1 D I1 q1
 | false=>exact hb pins s1 σ H1 D I1 q1
def DC:TS:=λ _ _ _=>False
theorem dq:PS X st DC:=λ _ _ _ _ _ _ h=>h.elim
end
abbrev TG:=V->St->Hp->(St->Hp->Prop)->Prop
abbrev TGs:=List V->St->Hp->(St->Hp->Prop)->Prop
def PG(X:Cx)(target:Expr)(t:TG):Prop:=
 ∀ (pins:List (Addr × Obj)) (s:Shared) (σ:St) (H:Hp) (v:V) (u:Value) (Q:St->Hp->Prop),Inv X pins σ H s->bZ v u->t v σ H Q →
  wpAny (model X.prog X.w) X.A (assign target X.env u) (λ _ s'=>∃ σ' H',Inv X pins σ' H' s'/\Q σ' H') X.xe s
def PGs(X:Cx)(ts:List Expr)(t:TGs):Prop:=
 ∀ (pins:List (Addr × Obj)) (s:Shared) (σ:St) (H:Hp) (vs:List V) (us:List Value) (Q:St->Hp->Prop),Inv X pins σ H s->bq vs us->t vs σ H Q →
  wpAny (model X.prog X.w) X.A (assignInOrder ((assignEach ts X.env).map (·.2)) us) (λ _ s'=>∃ σ' H',Inv X pins σ' H' s'/\Q σ' H') X.xe s
abbrev yZ:=V->V->V->Hp->(Hp->Prop)->Prop
def Ir(X:Cx)(t:yZ):Prop:=
 ∀ (pins:List (Addr × Obj)) (s:Shared) (σ:St) (H:Hp) (o i v:V) (ov iv u:Value) (Q:Hp->Prop),Inv X pins σ H s->bZ o ov->bZ i iv->bZ v u->t o i v H Q →
  wpAny (model X.prog X.w) X.A (setItem ov iv u) (λ _ s'=>∃ H',Inv X pins σ H' s'/\Q H') X.xe s
section
variable {X:Cx}{pos:Pos}
def cH(i:Nat):TG:=λ v σ H Q=>Q (σ.set i (some v)) H
theorem tI{i:Nat}{x:Str}(hN:X.N.Nodup)(hi:X.N[i]? = some x)(hx:Loc X.env.scope x)(hf:X.fn x=true\/X.env.scope.names.lookup x=some .local:=by first|exact .inl rfl|exact .inr rfl|assumption):PG X (.Name x pos) (cH i):=by
 intro pins s σ H v u Q I r h;exact wpAny_assign_Name (kF I hN hi hx r (λ s' I'=>⟨_,H,I',h⟩) hf)
def Io:TGs:=λ vs σ H Q=>vs=[]/\Q σ H
def Dq(t:TG)(u:TGs):TGs:=λ vs σ H Q=>∃ v r,vs=v::r/\t v σ H λ σ' H'=>u r σ' H' Q
theorem AR:PGs X [] Io:=by
 intro pins s σ H vs us Q I r h;obtain⟨e,h⟩:=h;subst e;cases r;exact assignInOrder_nil ⟨σ,H,I,h⟩
theorem xm{e:Expr}{es:List Expr}{t:TG}{u:TGs}(h1:PG X e t)(h2:PGs X es u)
  (hs:(assignEach (e::es) X.env).map (·.2)=assign e X.env::(assignEach es X.env).map (·.2):=by rfl):PGs X (e::es) (Dq t u):=by
 intro pins s σ H vs us Q I r h;obtain⟨v,vr,e1,h⟩:=h;subst e1
 cases r with
 | cons r rr=>
  rw [hs];refine assignInOrder_cons (thn (h1 pins s σ H _ _ _ I r h) λ _ s1 ⟨σ1,H1,I1,q1⟩=>?_);exact h2 pins s1 σ1 H1 _ _ Q I1 rr q1
def Ik(K:W.Frag)(n:Nat)(t:TGs):TG:=λ v σ H Q=>∃ a xs,v=.ref a/\SqT K H a xs/\xs.length=n/\t xs σ H Q
theorem DM{es:List Expr}{k:Nat}{t:TGs}{n:Nat}(hc:X.calm=true)(h:PGs X es t)
  (hn:(assignEach es X.env).length=n:=by rfl) (hst:(assignEach es X.env).findIdx? (·.1)=none:=by rfl):PG X (.Tuple es k pos) (Ik X.K n t):=by
 intro pins s σ H v u Q I r hw;obtain⟨a,xs,e1,hq,hl,hw⟩:=hw;subst e1;cases r;obtain⟨its,rv,ht,hz⟩:=I.tuple hq;refine assign_Tuple_tuple (I.ok.hd hc) ht (by simp [hn,←hl,rv.length]) hst λ h' hx=>?_;have I1:Inv X pins σ H { s with heap:=h' }:=I.kept (t':=s.toks) λ b o e=>hx b o (Jj (IZ e)) e;exact h pins _ σ H xs _ Q I1 (by simpa using rv) hw
def Il(to ti:TE)(t:yZ):TG:=λ v σ H Q=>to σ H λ o H1=>ti σ H1 λ i H2=>t o i v H2 λ H3=>Q σ H3
theorem jK{o i:Expr}{to ti:TE}{t:yZ}(ho:PE X o to)(hi:PE X i ti)(hs:Ir X t)
  (ha:∀ v,assign (.Subscript o i pos) X.env v=(do
   let ov ←holding [v] (eval o X.env)
   let iv ←holding [v,ov] (eval i X.env)
   standAt pos
   holding [v,ov,iv] (setItem ov iv v)
   release [v,ov,iv] []):=by intro _;rfl):PG X (.Subscript o i pos) (Il to ti t):=by
 intro pins s σ H v u Q I r h;rw [ha];refine IV (JN (thn (ho pins s σ H _ I h) λ ov s1 ⟨x,H1,I1,r1,q1⟩=>?_));refine IV (JN (thn (hi pins s1 σ H1 _ I1 q1) λ iv s2 ⟨y,H2,I2,r2,q2⟩=>?_));refine IV (KQ (IV (JN (thn (hs pins s2 σ H2 x y v ov iv u _ I2 r1 r2 r q2) λ _ s3 ⟨H3,I3,q3⟩=>?_))));exact wpAny_release ⟨σ,H3,I3,q3⟩
def FE(te:TE)(g:TG):TS:=λ D σ H=>te σ H λ x H1=>g x σ H1 D.nx
theorem DJ{tg e:Expr}{te:TE}{g:TG}(he:PE X e te)(hg:PG X tg g)(hs:swapsWithSole [tg] e pos.line X.env=pure false:=by rfl)(hw:swappedStores [tg] e X.env=pure none:=by rfl)
  (h1:(assignEach [tg] X.env).map (·.2)=[assign tg X.env]:=by rfl):PS X (.Assign [tg] e pos) (FE te g):=by
 intro pins s σ H D I h;refine wpAny_Assign_stores (thn (he pins s σ H _ I h) λ v s1 ⟨x,H1,I1,r1,q1⟩=>?_) hs hw;rw [h1];exact thn (hg pins s1 σ H1 x v _ I1 r1 q1) λ _ s2 q=>q
theorem pM{i:Nat}{x:Str}{e:Expr}{te:TE}{pos':Pos}(hN:X.N.Nodup)(hi:X.N[i]? = some x)(hx:Loc X.env.scope x)(he:PE X e te)(hs:swapsWith e (some (.Name x pos')) pos.line X.env=pure false:=by rfl)(hf:X.fn x=true\/X.env.scope.names.lookup x=some .local:=by first|exact .inl rfl|exact .inr rfl|assumption) :
  PS X (.Assign [.Name x pos'] e pos) (FE te (cH i)):=by
 intro pins s σ H D I h;refine wpAny_Assign_Name (thn (he pins s σ H _ I h) λ v s1 ⟨y,H1,I1,r1,q1⟩=>?_) hs;exact kF I1 hN hi hx r1 (λ s2 I2=>⟨_,H1,I2,q1⟩) hf
end
section
variable {X:Cx}{pos:Pos}
end
structure It where
 go:Nat->Hp->Prop
 yld:Nat->Hp->V->Hp->Prop
 stop:Nat->Hp->Prop
def oi(X:Cx)(pins:List (Addr × Obj))(H:Hp)(b:Addr):Prop:=
 H b=none/\b ≠ X.env.locals/\b ∉ X.fs/\(b∈X.ex\/X.s₀.heap.objs.size<=b)/\(∀ x c,X.env.cells.lookup x=some c->c ≠ b)/\∀ p∈X.pn++pins,p.1 ≠ b
theorem Inv.fpOk{X:Cx}{pins:List (Addr × Obj)}{σ:St}{H H':Hp}{s:Shared}{b:Addr}(I:Inv X pins σ H s)(hb:s.heap.objs.size<=b)(hn:H' b=none):oi X pins H' b:=by
 refine⟨hn,Kn (Jc I.lt hb),I.nofs hb,.inr (Ju I.sz hb),λ x c e z=>?_,λ p hp z=>?_⟩
 ·obtain⟨v,q⟩:=I.cell x c e;exact absurd (Jc q.lt (by rw [z];exact hb)) (JM _)
 ·exact absurd (Jc (IZ (I.pin p hp).1) (by rw [z];exact hb)) (JM _)
structure zE(P:Program)(w:World)(K:W.Frag)(tg:Expr)(J:It)(fp:List Addr)(it:Addr)(tn:Nat->Heap->Prop):Prop where
 mem:it∈fp
 obj:∀ i h,tn i h->∀ b∈fp,∃ o,h.get? b=some o/\∀ v,o.data ≠ .cell v
 keep:∀ i h h',tn i h->(∀ b∈fp,∀ o,h.get? b=some o->h'.get? b=some o)->tn i h'
 item:∀ (X:Cx),X.prog=P->X.w=w->X.K=K->X.calm=true->∀ (i:Nat) (pins:List (Addr × Obj)) (s:Shared) (σ:St) (H:Hp) (E:Value->Shared->Prop),Inv X pins σ H s->(∀ b∈fp,oi X pins H b)->tn i s.heap->J.go i H →
  wpAny (model P w) X.A (pyNext (.ref it)) (λ r s1=>∃ u,r=some u /\
   wpAny (model P w) X.A (letOwnedTupleGo tg (.ref it) u) (λ _ s2=>∃ x H',Inv X pins σ H' s2/\bZ x u/\J.yld i H x H'/\tn (i+1) s2.heap/\∀ b∈fp,H' b=none) E s1) E s
 done:∀ (X:Cx),X.prog=P->X.w=w->X.K=K->X.calm=true->∀ (i:Nat) (pins:List (Addr × Obj)) (s:Shared) (σ:St) (H:Hp) (E:Value->Shared->Prop),Inv X pins σ H s->(∀ b∈fp,oi X pins H b)->tn i s.heap->J.stop i H →
  wpAny (model P w) X.A (pyNext (.ref it)) (λ r s1=>r=none/\Inv X pins σ H s1) E s
 self:∀ (A:Around) (i:Nat) (s:Shared) (Q:Value->Shared->Prop) (E:Value->Shared->Prop),tn i s.heap->Q (.ref it) s->wpAny (model P w) A (pyIter (.ref it)) Q E s
abbrev TI:=St->Hp->(It->Hp->Prop)->Prop
def PIE(X:Cx)(pins:List (Addr × Obj))(σ:St)(tg:Expr)(R:It->Hp->Prop)(itv:Value)(s2:Shared):Prop:=
 ∃ (it:Addr) (fp:List Addr) (tn:Nat->Heap->Prop) (J:It) (H':Hp),itv=.ref it/\Inv X pins σ H' s2/\zE X.prog X.w X.K tg J fp it tn/\tn 0 s2.heap/\(∀ b∈fp,oi X pins H' b)/\R J H'
def PI(X:Cx)(tg iter:Expr)(wi:TI):Prop:=
 ∀ (pins:List (Addr × Obj)) (s:Shared) (σ:St) (H:Hp) (R:It->Hp->Prop),Inv X pins σ H s->wi σ H R →
  wpAny (model X.prog X.w) X.A (eval iter X.env) (λ v s1=>wpAny (model X.prog X.w) X.A (pyIter v) (PIE X pins σ tg R) X.xe s1) X.xe s
theorem Ak{M:Model}{A:Around}{E:Value->Shared->Prop}{s:Shared}{tg:Expr}{it:Addr}{u:Value}{o:Obj}{n:String}{vs:Array Value}{Q:Unit->Shared->Prop}(ho:s.heap.get? it=some o)(hc:o.cls=.type n)(hd:o.data=.fields vs)
    (hn:["enumerate", "zip", "dict_itemiterator", "dict_reverseitemiterator", "odict_iterator", "itertools.zip_longest", "itertools.pairwise"].contains n=false) (hQ:Q () s):wpAny M A (letOwnedTupleGo tg (.ref it) u) Q E s:=by
  unfold letOwnedTupleGo
  cases tg<;>first
    | exact Ja hQ
    | (cases u<;>first
        | exact Ja hQ
        | (refine IV (wpAny_load ho ?_)
           rw [hc,hd]
           show wpAny M A (if (["enumerate", "zip", "dict_itemiterator", "dict_reverseitemiterator", "odict_iterator", "itertools.zip_longest", "itertools.pairwise"].contains n && vs[0]? == some (rawInt _))=true then _ else _) Q E s
           rw [Jt (by intro h;rw [hn,Bool.false_and] at h;cases h)];exact Ja hQ))
def Itl(K:W.Frag)(a:Addr):It:=
 ⟨λ i H=>∃ xs x,SqL K H a xs/\xs[i]? = some x,λ i H x H'=>H'=H/\∀ xs,SqL K H a xs->xs[i]? = some x,λ i H=>∃ xs,SqL K H a xs/\xs.length<=i⟩
def Itt(K:W.Frag)(a:Addr):It:=
 ⟨λ i H=>∃ xs x,SqT K H a xs/\xs[i]? = some x,λ i H x H'=>H'=H/\∀ xs,SqT K H a xs->xs[i]? = some x,λ i H=>∃ xs,SqT K H a xs/\xs.length<=i⟩
def Itr(lo:Int)(n:Nat):It:=⟨λ i _=>i < n,λ i H x H'=>H'=H/\x=.int (lo+i),λ i _=>n<=i⟩
theorem ux{P:Program}{w:World}{K:W.Frag}{tg:Expr}(a it:Addr):zE P w K tg (Itl K a) [it] it (λ i h=>h.IsListIter it a i) where
 mem:=by simp
 obj:=λ i h st b hb=>by
  have e:b=it:=by simpa using hb
  subst e;obtain⟨o,e,c,d⟩:=st;exact⟨o,e,λ v z=>by rw [d] at z;cases z⟩
 keep:=λ i h h' st k=>st.at λ o e=>k it (by simp) o e
 item:=by
  intro X hP hw hK hc i pins s σ H E I hf st hg;subst hP hw hK;obtain⟨xs,x,hq,hx⟩:=hg;obtain⟨its,rv,p,hz⟩:=I.list hq;obtain⟨u,hu,ru⟩:=rv.get hx;obtain⟨f0,f1,f2,f3,f4,f5⟩:=hf it (by simp);refine wpAny_pyNext_list_item st p.isList (x:=u) (by simpa using hu) λ h' st' sb=>?_;have I1:Inv X pins σ H { s with heap:=h' }:=I.turned (t':=s.toks) (λ b o hb e=>(sb.2 b hb).trans e) f0 f1 f3 f4 f5;obtain⟨o,e,c,d⟩:=id st';exact⟨u,rfl,Ak (s:={ s with heap:=h' }) e c d (by decide) ⟨x,H,I1,ru,⟨rfl,λ ys hy=>by rw [I.list_inj hy hq];exact hx⟩,st',λ b hb=>(hf b hb).1⟩⟩
 done:=by
  intro X hP hw hK hc i pins s σ H E I hf st hg;subst hP hw hK;obtain⟨xs,hq,hx⟩:=hg;obtain⟨its,rv,p,hz⟩:=I.list hq;obtain⟨f0,f1,f2,f3,f4,f5⟩:=hf it (by simp);have hl:=rv.length;exact wpAny_pyNext_list_end (I.ok.hd hc) st p.isList (by simp;omega) λ h' eb=>⟨rfl,I.turned (t':=s.toks) (λ b o hb e=>eb b o hb e) f0 f1 f3 f4 f5⟩
 self:=λ _ _ _ _ _ st h=>wpAny_pyIter_listiter st h
theorem qF{P:Program}{w:World}{K:W.Frag}{tg:Expr}(a it:Addr):zE P w K tg (Itt K a) [it] it (λ i h=>h.IsTupleIter it a i) where
 mem:=by simp
 obj:=λ i h st b hb=>by
  have e:b=it:=by simpa using hb
  subst e;obtain⟨o,e,c,d⟩:=st;exact⟨o,e,λ v z=>by rw [d] at z;cases z⟩
 keep:=λ i h h' st k=>st.at λ o e=>k it (by simp) o e
 item:=by
  intro X hP hw hK hc i pins s σ H E I hf st hg;subst hP hw hK;obtain⟨xs,x,hq,hx⟩:=hg;obtain⟨its,rv,p,hz⟩:=I.tuple hq;obtain⟨u,hu,ru⟩:=rv.get hx;obtain⟨f0,f1,f2,f3,f4,f5⟩:=hf it (by simp);refine wpAny_pyNext_tuple_item st (show s.heap.IsTuple a its.toArray from p) (x:=u) (by simpa using hu) λ h' st' sb=>?_;have I1:Inv X pins σ H { s with heap:=h' }:=I.turned (t':=s.toks) (λ b o hb e=>(sb.2 b hb).trans e) f0 f1 f3 f4 f5;obtain⟨o,e,c,d⟩:=id st';exact⟨u,rfl,Ak (s:={ s with heap:=h' }) e c d (by decide) ⟨x,H,I1,ru,⟨rfl,λ ys hy=>by rw [I.tuple_inj hy hq];exact hx⟩,st',λ b hb=>(hf b hb).1⟩⟩
 done:=by
  intro X hP hw hK hc i pins s σ H E I hf st hg;subst hP hw hK;obtain⟨xs,hq,hx⟩:=hg;obtain⟨its,rv,p,hz⟩:=I.tuple hq;obtain⟨f0,f1,f2,f3,f4,f5⟩:=hf it (by simp);have hl:=rv.length;exact wpAny_pyNext_tuple_end (I.ok.hd hc) st (show s.heap.IsTuple a its.toArray from p) (by simp;omega) λ h' eb=>⟨rfl,I.turned (t':=s.toks) (λ b o hb e=>eb b o hb e) f0 f1 f3 f4 f5⟩
 self:=λ _ _ _ _ _ st h=>wpAny_pyIter_tupleiter st h
theorem qG{P:Program}{w:World}{K:PySem.W.Frag}{tg:Expr}(it:Addr)(lo:Int)(n:Nat):zE P w K tg (Itr lo n) [it] it (λ i h=>IsRangeIter h it (lo+(i:Nat) * 1) ((n:Int) - (i:Nat)) 1) where
 mem:=by simp
 obj:=λ i h st b hb=>by
  have e:b=it:=by simpa using hb
  subst e
  exact⟨_,st,λ v z=>by
   have z':Data.fields _=Data.cell v:=z;cases z'⟩
 keep:=λ i h h' st k=>k it (by simp) _ st
 item:=by
  intro X hP hw hK hc i pins s σ H E I hf st hg;subst hP hw hK;obtain⟨f0,f1,f2,f3,f4,f5⟩:=hf it (by simp);have W:=Walks.range (prog:=X.prog) (w:=X.w) (I.ok.hd hc) it lo 1 n;refine W.item i s _ _ hg st λ v h' tk hv st' kk=>?_;obtain⟨t,rfl⟩:=hv;have I1:Inv X pins σ H { s with heap:=h',toks:=tk }:=I.turned (λ b o hb e=>kk b o (by simpa using hb) e) f0 f1 f3 f4 f5;refine⟨_,rfl,Ak (s:={ s with heap:=h',toks:=tk }) (n := "range_iterator") st' rfl rfl (by decide) ⟨.int (lo+i),H,I1,⟨t,?_⟩,⟨rfl,rfl⟩,st',λ b hb=>(hf b hb).1⟩⟩;rw [Kj]
 done:=by
  intro X hP hw hK hc i pins s σ H E I hf st hg;subst hP hw hK;obtain⟨f0,f1,f2,f3,f4,f5⟩:=hf it (by simp);exact wpAny_pyNext_range_end (I.ok.hd hc) st (by have:n<=i:=hg;omega) λ h' eb=>⟨rfl,I.turned (t':=s.toks) (λ b o hb e=>eb b o hb e) f0 f1 f3 f4 f5⟩
 self:=λ _ _ _ _ _ st h=>wpAny_pyIter_rangeiter st h
section
variable {X:Cx}{tg:Expr}
theorem xi{pins:List (Addr × Obj)}{σ:St}{H:Hp}{s:Shared}{R:It->Hp->Prop}{E:Value->Shared->Prop}{lo hi:Int}{t u v:Tok}{tk:Nat}(I:Inv X pins σ H s)(h1:-(2 ^ 62)<=lo)(h2:lo < 2 ^ 62)(h3:-(2 ^ 62)<=hi)(h4:hi < 2 ^ 62)
  (q:R (Itr lo (hi - lo).toNat) H):wpAny (model X.prog X.w) X.A (pyIter (.ref s.heap.objs.size)) (PIE X pins σ tg R) E { s with heap:=s.heap.push { cls:=.type "range",data:=.fields #[.int lo t,.int hi u,.int 1 v] },toks:=tk }:=by
 refine wpAny_pyIter_range (IsRange.new ..) (small_one h1 h2 h3 h4) ?_;have I1:Inv X pins σ H { s with heap:=s.heap.push { cls:=.type "range",data:=.fields #[.int lo t,.int hi u,.int 1 v] },toks:=tk }:=I.kept λ b o e=>IW _ e
 refine⟨(s.heap.push { cls:=.type "range",data:=.fields #[.int lo t,.int hi u,.int 1 v] }).objs.size,[(s.heap.push { cls:=.type "range",data:=.fields #[.int lo t,.int hi u,.int 1 v] }).objs.size],_,_,H,rfl,
  I1.kept (t':=tk) λ b o e=>IW _ e,qG _ lo (hi - lo).toNat,?_,λ b hb=>?_,q⟩
 ·have e1:lo+((0:Nat):Int) * 1=lo:=by simp
  have e2:(((hi - lo).toNat:Nat):Int) - ((0:Nat):Int)=Builtin.Range.rangeSize lo hi 1:=by rw [rangeSize_one];split<;>omega
  show IsRangeIter _ _ (lo+((0:Nat):Int) * 1) ((((hi - lo).toNat:Nat):Int) - ((0:Nat):Int)) 1
  rw [e1,e2];exact Jf _ rfl
 ·have e:b=(s.heap.push { cls:=.type "range",data:=.fields #[.int lo t,.int hi u,.int 1 v] }).objs.size:=by simpa using hb
  subst e;exact I1.fpOk (Je _) (I1.hok.fresh (Je _))
def Dp(ta:TA):TI:=λ σ H R=>ta σ H λ vs H1=>∃ j:Int,vs=[.int j]/\-(2 ^ 62)<=j/\j < 2 ^ 62/\R (Itr 0 j.toNat) H1
theorem uC{a:Expr}{ta:TA}{p pos:Pos}(hg:Gl X "range")(hm:X.mg "range"=none)(ha:PA X [a] ta)(hs:starEach [a] X.env=[(false,eval a X.env)]:=by rfl):PI X tg (.Call (.Name "range" p) [a] [] pos) (Dp ta):=by
 intro pins s σ H R I h;refine Call_ (jN I hg hm boot_range (KI (thn (ha pos pins s σ H _ I h) λ us s1 ⟨vs,H1,I1,r1,q1⟩=>?_) hs rfl));obtain⟨j,e,q1,q2,q⟩:=q1;subst e
 cases r1 with
 | cons r rr=>
  cases rr;obtain⟨t,rfl⟩:=r;exact call_range_1 (xi I1 (by omega) (by omega) q1 q2 (by simpa using q))
def HD(wi:TI)(g:TG)(tb:TS):TS:=λ D σ H=>wi σ H λ J H1=>∃ W:Nat->Nat->St->Hp->Prop,(∃ m,W 0 m σ H1)/\∀ i m σ H,W i m σ H →
 (J.stop i H/\D.nx σ H)\/(J.go i H/\∃ N:St->Hp->Prop,(∀ σ' H',N σ' H'->∃ m',m' < m/\W (i+1) m' σ' H')/\∀ x H',J.yld i H x H'->g x σ H' λ σ2 H2=>tb { D with nx:=N,ct:=N,bk:=D.nx } σ2 H2)
def l9(fp:List Addr)(h:Heap):List (Addr × Obj):=fp.filterMap λ b=>(h.get? b).map λ o=>(b,o)
theorem eQ{fp:List Addr}{h:Heap}{b:Addr}{o:Obj}(hb:b∈fp)(e:h.get? b=some o):(b,o)∈l9 fp h:=List.mem_filterMap.mpr ⟨b,hb,by rw [e];rfl⟩
theorem uI{fp:List Addr}{h:Heap}{p:Addr × Obj}(hp:p∈l9 fp h):p.1∈fp/\h.get? p.1=some p.2:=by
 obtain⟨b,hb,e⟩:=List.mem_filterMap.mp hp
 cases q:h.get? b with
 | none=>rw [q] at e;cases e
 | some o=>
  rw [q] at e;have e':(b,o)=p:=Jy e;subst e';exact⟨hb,q⟩
theorem Inv.pinned{pins:List (Addr × Obj)}{σ:St}{H:Hp}{s:Shared}{fp:List Addr}(I:Inv X pins σ H s)(hf:∀ b∈fp,oi X pins H b)(ho:∀ b∈fp,∃ o,s.heap.get? b=some o/\∀ v,o.data ≠ .cell v):Inv X (pins++l9 fp s.heap) σ H s:=
 I.pins_of λ p hp=>(Lc.mp hp).elim (λ z=>I.pin p (JC _ z)) λ z=>by
  obtain⟨hb,e⟩:=uI z;obtain⟨f0,f1,f2,_⟩:=hf p.1 hb;obtain⟨o,e',d⟩:=ho p.1 hb;rw [e] at e';cases e';exact⟨e,f0,f1,f2,d⟩
theorem Inv.unpinned{pins pl:List (Addr × Obj)}{σ:St}{H:Hp}{s:Shared}(I:Inv X (pins++pl) σ H s):Inv X pins σ H s:=I.pins_of λ p hp=>I.pin p (JC _ (Lg _ hp))
theorem DI{iter:Expr}{body:List Stmt}{wi:TI}{g:TG}{tb:TS}{pos:Pos}(hp:PassesOwn (model X.prog X.w) X.A X.env X.xe)(hc:X.calm=true)(hi:PI X tg iter wi)(hg:PG X tg g)(hb:PSs X body tb)
  (hs:∀ x,foldedSetIterable iter X.env x=pure x:=by intro _;rfl):PS X (.For tg iter body [] pos) (HD wi g tb):=by
 intro pins s σ H D I h;refine wpAny_For (thn (hi pins s σ H _ I h) λ v s1 h1=>thn h1 λ itv s2 h2=>?_) hs;obtain⟨it,fp,tn,J,H2,e,I2,T,st2,f2,W,⟨m0,w0⟩,turn⟩:=h2;subst e;have stat:∀ {H':Hp},(∀ b∈fp,H' b=none)->∀ b∈fp,oi X pins H' b:=λ hn b hb=>⟨hn b hb,(f2 b hb).2⟩;refine codeAny_forLoop_any (λ n s'=>∃ i σ' H',Inv X pins σ' H' s'/\tn i s'.heap/\(∀ b∈fp,H' b=none)/\W i n σ' H') ?_ m0 ⟨0,σ,H2,I2,st2,λ b hb=>(f2 b hb).1,w0⟩;rintro n s3 ⟨i,σ3,H3,I3,st3,fr3,w3⟩
 rcases turn i n σ3 H3 w3 with ⟨stop,qn⟩|⟨go,N,hN,step⟩
 ·refine KS hp (thn (T.done X rfl rfl rfl hc i pins s3 σ3 H3 X.xe I3 (stat fr3) st3 stop) λ r s4 ⟨hr,I4⟩=>?_);subst hr;exact Lm ⟨σ3,H3,I4,qn⟩
 ·refine KS hp (thn (T.item X rfl rfl rfl hc i pins s3 σ3 H3 X.xe I3 (stat fr3) st3 go) λ r s4 ⟨u,hr,h4⟩=>?_);subst hr;refine KS hp (thn h4 λ _ s5 ⟨x,H5,I5,r5,y5,st5,fr5⟩=>?_);have I5':=I5.pinned (stat fr5) (T.obj _ _ st5);refine KS hp (thn (hg _ s5 σ3 H5 x u _ I5' r5 (step x H5 y5)) λ _ s6 ⟨σ6,H6,I6,q6⟩=>?_);refine KS hp (thn (hb _ s6 σ6 H6 _ I6 q6) λ f s7 q7=>?_)
  have again:∀ {σ7:St} {H7:Hp},Inv X (pins++l9 fp s5.heap) σ7 H7 s7->N σ7 H7->∃ m,m < n/\∃ i σ' H',Inv X pins σ' H' s7/\tn i s7.heap/\(∀ b∈fp,H' b=none)/\W i m σ' H':=λ {σ7 H7} I7 n7=>by
   obtain⟨m',hm,w7⟩:=hN σ7 H7 n7;refine⟨m',hm,i+1,σ7,H7,I7.unpinned,T.keep _ _ _ st5 λ b hb o e=>(I7.pin (b,o) (JC _ (JC _ (eQ hb e)))).1,λ b hb=>?_,w7⟩;obtain⟨o,e,d⟩:=T.obj _ _ st5 b hb;exact(I7.pin (b,o) (JC _ (JC _ (eQ hb e)))).2.1
  cases f with
  | next=>obtain⟨σ7,H7,I7,n7⟩:=q7;exact again I7 n7
  | cont=>obtain⟨σ7,H7,I7,n7⟩:=q7;exact again I7 n7
  | brk=>obtain⟨σ7,H7,I7,q7⟩:=q7;exact⟨σ7,H7,I7.unpinned,q7⟩
  | ret v=>obtain⟨x7,σ7,H7,I7,r7,q7⟩:=q7;exact⟨x7,σ7,H7,I7.unpinned,r7,q7⟩
end
theorem yE{K:PySem.W.Frag}{a:Addr}{xs:List V}{g:TG}{tb:TS}{D:fO}{σ:St}{H:Hp}(Pv:Nat->St->Hp->Prop)(h0:Pv 0 σ H)(hl:∀ i σ H,i<=xs.length->Pv i σ H->SqL K H a xs)
  (hs:∀ i x σ H,xs[i]? = some x->Pv i σ H->g x σ H λ σ2 H2=>tb { D with nx:=Pv (i+1),ct:=Pv (i+1),bk:=D.nx } σ2 H2) (hd:∀ σ H,Pv xs.length σ H->D.nx σ H) :
  ∃ W:Nat->Nat->St->Hp->Prop,(∃ m,W 0 m σ H)/\∀ i m σ H,W i m σ H →
   ((Itl K a).stop i H/\D.nx σ H)\/((Itl K a).go i H/\∃ N:St->Hp->Prop,(∀ σ' H',N σ' H'->∃ m',m' < m/\W (i+1) m' σ' H')/\∀ x H',(Itl K a).yld i H x H'->g x σ H' λ σ2 H2=>tb { D with nx:=N,ct:=N,bk:=D.nx } σ2 H2):=by
 refine⟨λ i m σ H=>m=xs.length - i/\i<=xs.length/\Pv i σ H,⟨xs.length,by simp,JH _,h0⟩,?_⟩;rintro i m σ H ⟨rfl,hi,p⟩;have q:=hl i σ H hi p
 by_cases hlt:i < xs.length
 ·refine .inr ⟨⟨xs,xs[i],q,by simp [hlt]⟩,Pv (i+1),λ σ' H' p'=>⟨xs.length - (i+1),by omega,rfl,hlt,p'⟩,λ x H' y=>?_⟩;obtain⟨e,y⟩:=y;subst e;exact hs i x σ _ (y xs q) p
 ·have e:i=xs.length:=by omega
  subst e;exact .inl ⟨⟨xs,q,Je _⟩,hd σ H p⟩
theorem vO{lo:Int}{n:Nat}{g:TG}{tb:TS}{D:fO}{σ:St}{H:Hp}(Pv:Nat->St->Hp->Prop)(h0:Pv 0 σ H)
  (hs:∀ i σ H,i < n->Pv i σ H->g (.int (lo+i)) σ H λ σ2 H2=>tb { D with nx:=Pv (i+1),ct:=Pv (i+1),bk:=D.nx } σ2 H2) (hd:∀ σ H,Pv n σ H->D.nx σ H) :
  ∃ W:Nat->Nat->St->Hp->Prop,(∃ m,W 0 m σ H)/\∀ i m σ H,W i m σ H →
   ((Itr lo n).stop i H/\D.nx σ H)\/((Itr lo n).go i H/\∃ N:St->Hp->Prop,(∀ σ' H',N σ' H'->∃ m',m' < m/\W (i+1) m' σ' H')/\∀ x H',(Itr lo n).yld i H x H'->g x σ H' λ σ2 H2=>tb { D with nx:=N,ct:=N,bk:=D.nx } σ2 H2):=by
 refine⟨λ i m σ H=>m=n - i/\i<=n/\Pv i σ H,⟨n,by simp,JH _,h0⟩,?_⟩;rintro i m σ H ⟨rfl,hi,p⟩
 by_cases hlt:i < n
 ·refine .inr ⟨hlt,Pv (i+1),λ σ' H' p'=>⟨n - (i+1),by omega,rfl,hlt,p'⟩,λ x H' y=>?_⟩;obtain⟨e,y⟩:=y;subst e y;exact hs i σ _ hlt p
 ·have e:i=n:=by omega
  subst e;exact .inl ⟨Je _,hd σ H p⟩
abbrev R2:=V->V->Hp->VK->Prop
def OpR(X:Cx)(f:Value->Value->Sem Value)(r:R2):Prop:=
 ∀ (pins:List (Addr × Obj)) (s:Shared) (σ:St) (H:Hp) (x y:V) (v u:Value) (Q:VK),Inv X pins σ H s->bZ x v->bZ y u->r x y H Q →
  wpAny (model X.prog X.w) X.A (f v u) (EP X pins σ Q) X.xe s
def UnR(X:Cx)(f:Value->Sem Value)(r:V->Hp->VK->Prop):Prop:=
 ∀ (pins:List (Addr × Obj)) (s:Shared) (σ:St) (H:Hp) (x:V) (v:Value) (Q:VK),Inv X pins σ H s->bZ x v->r x H Q →
  wpAny (model X.prog X.w) X.A (f v) (EP X pins σ Q) X.xe s
def bt(X:Cx)(f:Value)(r:List V->Hp->VK->Prop):Prop:=
 ∀ (pins:List (Addr × Obj)) (s:Shared) (σ:St) (H:Hp) (xs:List V) (us:List Value) (Q:VK),Inv X pins σ H s->bq xs us->r xs H Q →
  wpAny (model X.prog X.w) X.A (call f us) (EP X pins σ Q) X.xe s
def tOp(r:R2)(ta tb:TE):TE:=λ σ H Q=>ta σ H λ x H1=>tb σ H1 λ y H2=>r x y H2 Q
def tUn(r:V->Hp->VK->Prop)(ta:TE):TE:=λ σ H Q=>ta σ H λ x H1=>r x H1 Q
def rI(C:Int->Int->Prop)(g:Int->Int->V):R2:=λ x y H Q=>∃ i j,x=.int i/\y=.int j/\C i j/\Q (g i j) H
def rI0(g:Int->Int->V):R2:=λ x y H Q=>∃ i j,x=.int i/\y=.int j/\Q (g i j) H
def rU(g:Int->V):V->Hp->VK->Prop:=λ x H Q=>∃ i,x=.int i/\Q (g i) H
section
variable {X:Cx}{a b c:Expr}{ta tb tc:TE}{pos:Pos}
theorem Gi(ha:PE X a ta)(hb:PE X b tb){pins:List (Addr × Obj)}{s:Shared}{σ:St}{H:Hp}{R:V->V->Hp->Prop}(I:Inv X pins σ H s)
  (h:ta σ H λ x H1=>tb σ H1 λ y H2=>R x y H2) {Q:Value->Shared->Prop} {f:Value->Value->Sem Value}
  (hf:∀ v u s2 x y H2,Inv X pins σ H2 s2->bZ x v->bZ y u->R x y H2->wpAny (model X.prog X.w) X.A (f v u) Q X.xe s2) :
  wpAny (model X.prog X.w) X.A (eval a X.env) (λ v s₁=>wpAny (model X.prog X.w) X.A (eval b X.env) (λ u s₂=>wpAny (model X.prog X.w) X.A (f v u) Q X.xe s₂) X.xe s₁) X.xe s:=by
 refine thn (ha pins s σ H _ I h) λ v s1 ⟨x,H1,I1,r1,q1⟩=>?_;refine thn (hb pins s1 σ H1 _ I1 q1) λ u s2 ⟨y,H2,I2,r2,q2⟩=>?_;exact hf v u s2 x y H2 I2 r1 r2 q2
theorem ed{op:Operator}{r:R2}(ho:OpR X (binaryOp op) r)(ha:PE X a ta)(hb:PE X b tb):PE X (.BinOp a op b pos) (tOp r ta tb):=by
 intro pins s σ H Q I h;exact wpAny_BinOp (Gi ha hb I h λ v u s2 x y H2 I2 rx ry q=>ho pins s2 σ H2 x y v u Q I2 rx ry q)
theorem Dc{op:UnaryOp}{r:V->Hp->VK->Prop}(ho:UnR X (unaryOp op) r)(ha:PE X a ta):PE X (.UnaryOp op a pos) (tUn r ta):=by
 intro pins s σ H Q I h;exact UnaryOp_ (thn (ha pins s σ H _ I h) λ v s1 ⟨x,H1,I1,r1,q1⟩=>ho pins s1 σ H1 x v Q I1 r1 q1)
theorem opI{f:Value->Value->Sem Value}{C:Int->Int->Prop}{g:Int->Int->Int}
  (rule:∀ (i j:Int) (t u:Tok) (s:Shared) (Q:Value->Shared->Prop) (E:Value->Shared->Prop),C i j->Q (.int (g i j) s.toks) { s with toks:=s.toks+1 }->wpAny (model X.prog X.w) X.A (f (.int i t) (.int j u)) Q E s) :
  OpR X f (rI C λ i j=>.int (g i j)):=by
 intro pins s σ H x y v u Q I rx ry h;obtain⟨i,j,rfl,rfl,hc,q⟩:=h;obtain⟨t,rfl⟩:=rx;obtain⟨t',rfl⟩:=ry;exact rule i j t t' s _ _ hc ⟨.int (g i j),H,I.tok _,⟨_,rfl⟩,q⟩
theorem HK{f:Value->Value->Sem Value}{g:Int->Int->Int}
  (rule:∀ (i j:Int) (t u:Tok) (s:Shared) (Q:Value->Shared->Prop) (E:Value->Shared->Prop),Q (.int (g i j) s.toks) { s with toks:=s.toks+1 }->wpAny (model X.prog X.w) X.A (f (.int i t) (.int j u)) Q E s) :
  OpR X f (rI0 λ i j=>.int (g i j)):=by
 intro pins s σ H x y v u Q I rx ry h;obtain⟨i,j,rfl,rfl,q⟩:=h;obtain⟨t,rfl⟩:=rx;obtain⟨t',rfl⟩:=ry;exact rule i j t t' s _ _ ⟨.int (g i j),H,I.tok _,⟨_,rfl⟩,q⟩
theorem Fo{f:Value->Value->Sem Value}{g:Int->Int->Bool}
  (rule:∀ (i j:Int) (t u:Tok) (s:Shared) (Q:Value->Shared->Prop) (E:Value->Shared->Prop),Q (.bool (g i j)) s->wpAny (model X.prog X.w) X.A (f (.int i t) (.int j u)) Q E s) :
  OpR X f (rI0 λ i j=>.bl (g i j)):=by
 intro pins s σ H x y v u Q I rx ry h;obtain⟨i,j,rfl,rfl,q⟩:=h;obtain⟨t,rfl⟩:=rx;obtain⟨t',rfl⟩:=ry;exact rule i j t t' s _ _ ⟨.bl (g i j),H,I,rfl,q⟩
def Gp(i j:Int):Prop:=0 < j/\j < 1073741824
def Gn(i j:Int):Prop:=0<=j/\j<=1000000/\i.natAbs < 2 ^ 64
def jH(i j:Int):Prop:=(-(2 ^ 64) < i/\i < 2 ^ 64)\/(-(2 ^ 64) < j/\j < 2 ^ 64)
theorem jH.ok{i j:Int}(h:jH i j):IntMulOk i j:=by
 rcases h with ⟨h1,h2⟩|⟨h1,h2⟩
 ·exact .of_left (intBits_le_64 h1 h2)
 ·exact .of_right (intBits_le_64 h1 h2)
theorem pN:OpR X (binaryOp .Add) (rI0 λ i j=>.int (i+j)):=HK λ _ _ _ _ _ _ _ q=>add_int q
theorem DT:OpR X (binaryOp .Sub) (rI0 λ i j=>.int (i - j)):=HK λ _ _ _ _ _ _ _ q=>sub_int q
theorem gT:OpR X (binaryOp .Mult) (rI jH λ i j=>.int (i * j)):=opI λ _ _ _ _ _ _ _ hc q=>mul_int q hc.ok
theorem A5:OpR X (binaryOp .FloorDiv) (rI Gp λ i j=>.int (i / j)):=opI λ i j _ _ _ _ _ hc q=>by
 have h1:(0:Int) < j:=hc.1;have h2:j < 1073741824:=hc.2;exact floordiv_int (by omega) (by rw [Int.fdiv_eq_ediv_of_nonneg i (by omega)];exact q) (.inl (PyProof.noPylong_small (by omega)))
theorem iD:OpR X (binaryOp .Mod) (rI (λ _ j=>0 < j) λ i j=>.int (i % j)):=opI λ i j _ _ _ _ _ hc q=>by
 have h1:(0:Int) < j:=hc;exact mod_int' (by omega) (by rw [Int.fmod_eq_emod_of_nonneg i (by omega)];exact q)
theorem DU:OpR X (binaryOp .Pow) (rI Gn λ i j=>.int (i ^ j.toNat)):=opI λ _ _ _ _ _ _ _ hc q=>pow_int_small hc.1 hc.2.1 hc.2.2 q
theorem unI{f:Value->Sem Value}{g:Int->Int}
  (rule:∀ (i:Int) (t:Tok) (s:Shared) (Q:Value->Shared->Prop) (E:Value->Shared->Prop),Q (.int (g i) s.toks) { s with toks:=s.toks+1 }->wpAny (model X.prog X.w) X.A (f (.int i t)) Q E s) :
  UnR X f (rU λ i=>.int (g i)):=by
 intro pins s σ H x v Q I rx h;obtain⟨i,rfl,q⟩:=h;obtain⟨t,rfl⟩:=rx;exact rule i t s _ _ ⟨.int (g i),H,I.tok _,⟨_,rfl⟩,q⟩
theorem Dx:UnR X (unaryOp .USub) (rU λ i=>.int (-i)):=unI λ _ _ _ _ _ q=>neg_int q
end
def Fl:V->V->Bool
 | .non,.non=>true | .non,.int _=>true | .int _,.non=>true | .non,.bl _=>true | .bl _,.non=>true | .non,.str _=>true | .str _,.non=>true
 | .int _,.int _=>true | .bl _,.bl _=>true | .str _,.str _=>true | .byt _,.byt _=>true
 | .int _,.str _=>true | .str _,.int _=>true | .bl _,.str _=>true | .str _,.bl _=>true
 | _,_=>false
def rEq:R2:=λ x y H Q=>Fl x y=true/\Q (.bl (decide (x=y))) H
def rNe:R2:=λ x y H Q=>Fl x y=true/\Q (.bl (!decide (x=y))) H
theorem ud{i j:Int}:decide (V.int i=V.int j)=(i == j):=by
 rw [KL];simp
theorem zz{i j:Bool}:decide (V.bl i=V.bl j)=(i == j):=by
 rw [KL];simp
theorem uc{i j:Str}:decide (V.str i=V.str j)=(i == j):=by
 rw [KL];simp
theorem uf{i j:Array UInt8}:decide (V.byt i=V.byt j)=(i.toList == j.toList):=by
 rw [KL];cases i;cases j;simp
section
variable {X:Cx}{a b c:Expr}{ta tb tc:TE}{pos:Pos}
theorem aH{pins:List (Addr × Obj)}{σ:St}{H:Hp}{s:Shared}{Q:VK}{k k':Bool}(I:Inv X pins σ H s)(q:Q (.bl k) H)(e:k=k'):EP X pins σ Q (.bool k') s:=by
 subst e;exact⟨.bl k,H,I,rfl,q⟩
theorem Gz:OpR X (compareOp .Eq) rEq:=by
 intro pins s σ H x y v u Q I rx ry h;obtain⟨hs,q⟩:=h
 cases x with
 | non=>
  cases rx
  cases y with
  | non=>cases ry;exact PySem.EqNone.eq_none_none (aH I q (by simp))
  | bl j=>cases ry;exact PySem.EqNone.eq_none_bool (aH I q (by simp))
  | int j=>obtain⟨t',rfl⟩:=ry;exact PySem.EqNone.eq_none_int (aH I q (by simp))
  | str j=>obtain⟨t',rfl⟩:=ry;exact PySem.EqNone.eq_none_str (aH I q (by simp))
  | _=>exact absurd (show false=true from hs) Ji
 | bl i=>
  cases rx
  cases y with
  | non=>cases ry;exact PySem.EqNone.eq_bool_none (aH I q (by simp))
  | bl j=>cases ry;exact eq_bool (aH I q zz)
  | str j=>obtain⟨t',rfl⟩:=ry;exact PySem.EqMixed.eq_bool_str (aH I q (by simp))
  | _=>exact absurd (show false=true from hs) Ji
 | int i=>
  obtain⟨t,rfl⟩:=rx
  cases y with
  | non=>cases ry;exact PySem.EqNone.eq_int_none (aH I q (by simp))
  | int j=>obtain⟨t',rfl⟩:=ry;exact eq_int (aH I q ud)
  | str j=>obtain⟨t',rfl⟩:=ry;exact PySem.EqMixed.eq_int_str (aH I q (by simp))
  | _=>exact absurd (show false=true from hs) Ji
 | str i=>
  obtain⟨t,rfl⟩:=rx
  cases y with
  | non=>cases ry;exact PySem.EqNone.eq_str_none (aH I q (by simp))
  | bl j=>cases ry;exact PySem.EqMixed.eq_str_bool (aH I q (by simp))
  | int j=>obtain⟨t',rfl⟩:=ry;exact PySem.EqMixed.eq_str_int (aH I q (by simp))
  | str j=>obtain⟨t',rfl⟩:=ry;exact eq_str (aH I q uc)
  | _=>exact absurd (show false=true from hs) Ji
 | byt i=>
  obtain⟨t,rfl⟩:=rx
  cases y with
  | byt j=>obtain⟨t',rfl⟩:=ry;exact W.eq_bytes (aH I q uf)
  | _=>exact absurd (show false=true from hs) Ji
 | _=>cases y<;>exact absurd (show false=true from hs) Ji
theorem Gw:OpR X (compareOp .NotEq) rNe:=by
 intro pins s σ H x y v u Q I rx ry h;obtain⟨hs,q⟩:=h
 cases x with
 | non=>
  cases rx
  cases y with
  | non=>cases ry;exact PySem.EqNone.ne_none_none (aH I q (by simp))
  | bl j=>cases ry;exact PySem.EqNone.ne_none_bool (aH I q (by simp))
  | int j=>obtain⟨t',rfl⟩:=ry;exact PySem.EqNone.ne_none_int (aH I q (by simp))
  | str j=>obtain⟨t',rfl⟩:=ry;exact PySem.EqNone.ne_none_str (aH I q (by simp))
  | _=>exact absurd (show false=true from hs) Ji
 | bl i=>
  cases rx
  cases y with
  | non=>cases ry;exact PySem.EqNone.ne_bool_none (aH I q (by simp))
  | bl j=>cases ry;exact ne_bool (aH I q (Kq not zz))
  | str j=>obtain⟨t',rfl⟩:=ry;exact PySem.EqMixed.ne_bool_str (aH I q (by simp))
  | _=>exact absurd (show false=true from hs) Ji
 | int i=>
  obtain⟨t,rfl⟩:=rx
  cases y with
  | non=>cases ry;exact PySem.EqNone.ne_int_none (aH I q (by simp))
  | int j=>obtain⟨t',rfl⟩:=ry;exact ne_int (aH I q (Kq not ud))
  | str j=>obtain⟨t',rfl⟩:=ry;exact PySem.EqMixed.ne_int_str (aH I q (by simp))
  | _=>exact absurd (show false=true from hs) Ji
 | str i=>
  obtain⟨t,rfl⟩:=rx
  cases y with
  | non=>cases ry;exact PySem.EqNone.ne_str_none (aH I q (by simp))
  | bl j=>cases ry;exact PySem.EqMixed.ne_str_bool (aH I q (by simp))
  | int j=>obtain⟨t',rfl⟩:=ry;exact PySem.EqMixed.ne_str_int (aH I q (by simp))
  | str j=>obtain⟨t',rfl⟩:=ry;exact ne_str (aH I q (Kq not uc))
  | _=>exact absurd (show false=true from hs) Ji
 | byt i=>
  obtain⟨t,rfl⟩:=rx
  cases y with
  | byt j=>obtain⟨t',rfl⟩:=ry;exact W.ne_bytes (aH I q (Kq not uf))
  | _=>exact absurd (show false=true from hs) Ji
 | _=>cases y<;>exact absurd (show false=true from hs) Ji
theorem Dd:OpR X (compareOp .Lt) (rI0 λ i j=>.bl (decide (i < j))):=Fo λ _ _ _ _ _ _ _ q=>lt_int q
theorem Gx:OpR X (compareOp .LtE) (rI0 λ i j=>.bl (decide (i<=j))):=Fo λ _ _ _ _ _ _ _ q=>le_int q
theorem De:OpR X (compareOp .Gt) (rI0 λ i j=>.bl (decide (j < i))):=Fo λ _ _ _ _ _ _ _ q=>gt_int q
theorem Gy:OpR X (compareOp .GtE) (rI0 λ i j=>.bl (decide (j<=i))):=Fo λ _ _ _ _ _ _ _ q=>ge_int q
theorem A3:OpR X (compareOp .IsNot) (λ x y H Q=>y=.non/\Q (.bl (!decide (x=.non))) H):=by
 intro pins s σ H x y v u Q I rx ry h;obtain⟨rfl,q⟩:=h;cases ry;refine isnot_none_gen (aH I q ?_)
 cases x<;>first
  | (cases rx;rfl)
  | (obtain⟨t,rfl⟩:=rx;rfl)
def Dn:HO->Bool
 | .lst _=>true
 | .ins _ _ _=>true
 | _=>false
theorem OpR.or{f:Value->Value->Sem Value}{r r':R2}(h:OpR X f r)(h':OpR X f r'):OpR X f (λ x y H Q=>r x y H Q\/r' x y H Q):=by
 intro pins s σ H x y v u Q I rx ry q
 rcases q with q|q
 ·exact h pins s σ H x y v u Q I rx ry q
 ·exact h' pins s σ H x y v u Q I rx ry q
theorem az(b:Expr){op:CmpOp}(h:op ≠ .In:=by decide)(h2:op ≠ .NotIn:=by decide):behindInMarks op b=false:=by
 have e1:(op == CmpOp.In)=false:=by cases op<;>first|rfl|exact absurd rfl h
 have e2:(op == CmpOp.NotIn)=false:=by cases op<;>first|rfl|exact absurd rfl h2
 cases b<;>simp [behindInMarks,e1,e2]
theorem AX{op:CmpOp}{r:R2}(ho:OpR X (compareOp op) r)(ha:PE X a ta)(hb:PE X b tb)(hm:behindInMarks op b=false):PE X (.Compare a [op] [b] pos) (tOp r ta tb):=by
 intro pins s σ H Q I h;exact wpAny_Compare1 (Gi ha hb I h λ v u s2 x y H2 I2 rx ry q=>ho pins s2 σ H2 x y v u Q I2 rx ry q) hm
def CO(t:TE):TT:=λ σ H Q=>t σ H λ x H'=>∃ k,x=.bl k/\Q k H'
theorem oU{op:CmpOp}{r:R2}(ho:OpR X (compareOp op) r)(ha:PE X a ta)(hb:PE X b tb)(hm:behindInMarks op b=false):PT X (.Compare a [op] [b] pos) (CO (tOp r ta tb)):=by
 intro pins s σ H Q I h
 refine wpAny_isTrue_Compare1 (thn (ha pins s σ H _ I h) λ v s1 ⟨x,H1,I1,r1,q1⟩=>thn (hb pins s1 σ H1 _ I1 q1) λ u s2 ⟨y,H2,I2,r2,q2⟩=>
  thn (ho pins s2 σ H2 x y v u _ I2 r1 r2 q2) λ c s3 ⟨z,H3,I3,r3,k,e,q3⟩=>?_) hm
 subst e;cases r3;exact Kf ⟨H3,I3,q3⟩
def zj(r r':R2)(ta tb tc:TE):TE:=λ σ H Q=>ta σ H λ x H1=>tb σ H1 λ y H2=>r x y H2 λ z H3=>∃ k,z=.bl k /\
 (if k=true then tc σ H3 λ w' H4=>r' y w' H4 Q else Q (.bl false) H3)
theorem xu{op op':CmpOp}{r r':R2}(ho:OpR X (compareOp op) r)(ho':OpR X (compareOp op') r')(ha:PE X a ta)(hb:PE X b tb)(hc:PE X c tc)
  (hm:lastMarks [op,op'] [b,c]=false:=by with_unfolding_all rfl):PE X (.Compare a [op,op'] [b,c] pos) (zj r r' ta tb tc):=by
 intro pins s σ H Q I h
 refine Compare_chain (thn (ha pins s σ H _ I h) λ v s1 ⟨x,H1,I1,r1,q1⟩=>chain_link (thn (hb pins s1 σ H1 _ I1 q1) λ u s2 ⟨y,H2,I2,r2,q2⟩=>
  thn (ho pins s2 σ H2 x y v u _ I2 r1 r2 q2) λ d s3 ⟨z,H3,I3,r3,k,e,q3⟩=>?_)) hm
 subst e;cases r3;refine Kf ?_
 cases k with
 | false=>exact ite_ff ⟨.bl false,H3,I3,rfl,q3⟩
 | true=>exact ite_tt (chain_last (thn (hc pins s3 σ H3 _ I3 q3) λ w' s4 ⟨z',H4,I4,r4,q4⟩=>ho' pins s4 σ H4 y z' u w' Q I4 r2 r4 q4))
theorem ma:(sizeLine:Nat) < 2 ^ 63:=by rw [sizeLine_eq];decide
theorem r8{x:V}{us:List Value}(r:bq [x] us):∃ u,us=[u]/\bZ x u:=by
 cases r with
 | cons r1 r2=>cases r2;exact⟨_,rfl,r1⟩
theorem ix{x y:V}{us:List Value}(r:bq [x,y] us):∃ u w',us=[u,w']/\bZ x u/\bZ y w':=by
 cases r with
 | cons r1 r2=>
  cases r2 with
  | cons r3 r4=>cases r4;exact⟨_,_,rfl,r1,r3⟩
theorem vX(hc:X.calm=true):bt X (.builtin "max") (λ xs H Q=>∃ i j,xs=[.int i,.int j]/\Q (.int (if j > i then j else i)) H):=by
 intro pins s σ H xs us Q I r h;obtain⟨i,j,rfl,q⟩:=h;obtain⟨u,w',rfl,⟨t,rfl⟩,⟨t',rfl⟩⟩:=ix r;refine max_two_ints (I.ok.hd hc) λ h' tk k=>⟨_,H,I.kept k,?_,q⟩
 by_cases hj:j > i
 ·rw [Jw hj,Jw hj];exact⟨_,rfl⟩
 ·rw [Jt hj,Jt hj];exact⟨_,rfl⟩
theorem vW(hc:X.calm=true):bt X (.builtin "min") (λ xs H Q=>∃ i j,xs=[.int i,.int j]/\Q (.int (if j < i then j else i)) H):=by
 intro pins s σ H xs us Q I r h;obtain⟨i,j,rfl,q⟩:=h;obtain⟨u,w',rfl,⟨t,rfl⟩,⟨t',rfl⟩⟩:=ix r;refine min_two_ints (I.ok.hd hc) λ h' tk k=>⟨_,H,I.kept k,?_,q⟩
 by_cases hj:j < i
 ·rw [Jw hj,Jw hj];exact⟨_,rfl⟩
 ·rw [Jt hj,Jt hj];exact⟨_,rfl⟩
theorem vZ:bt X (.type "int") (λ xs H Q=>(∃ i,xs=[.int i]/\Q (.int i) H)\/∃ k,xs=[.bl k]/\Q (.int (if k then 1 else 0)) H):=by
 intro pins s σ H xs us Q I r h
 rcases h with ⟨i,rfl,q⟩|⟨k,rfl,q⟩
 ·obtain⟨u,rfl,t,rfl⟩:=r8 r;exact call_int_int ⟨.int i,H,I,⟨_,rfl⟩,q⟩
 ·obtain⟨u,rfl,r1⟩:=r8 r;cases r1;exact call_int_bool ⟨.int (if k then 1 else 0),H,I.tok _,⟨_,rfl⟩,q⟩
end
structure zF(h:Heap)(x dx C:Addr)(mA:Str->Option Value):Prop where
 obj:h.get? x=some (W.instObj C dx)
 ns:h.Ns1 dx mA
 ne:dx ≠ x
theorem iQ{h:Heap}{dx:Addr}{mA:Str->Option Value}(n:h.Ns1 dx mA):∃ od,h.get? dx=some od/\∀ name,W.lookIn name od=some (mA name):=by
 obtain⟨o,es,ep,ho,hd,hk,_,hm⟩:=n;refine⟨o,ho,λ name=>?_⟩;have e:=hm name;unfold nsFind findBy at e;rw [←Array.find?_toList] at e;unfold W.lookIn;rw [hd];dsimp only;split
 ·rename_i y q;rw [q] at e;exact Kq some e
 ·rename_i q;rw [q] at e
  have a:es.toList.any (·.refKey)=false:=by
   rw [List.any_eq_false];intro y hy;obtain⟨z,t,hkey⟩:=hk y (Array.mem_toList_iff.mp hy);simp [DictEntry.refKey,hkey]
  have a':¬ es.toList.any (·.refKey)=true:=by rw [a];exact Ji
  rw [Jt a'];exact Kq some e
theorem zF.look{h:Heap}{x dx C:Addr}{mA:Str->Option Value}(I:zF h x dx C mA):∃ od,W.InstAt h x (W.instObj C dx) C (some od)/\∀ name,W.lookIn name od=some (mA name):=
 let ⟨od,ho,hl⟩:=iQ I.ns
 ⟨od,⟨I.obj,rfl,rfl,ho⟩,hl⟩
section
variable {prog:Program}{w:World}{A:Around}{E:Value->Shared->Prop}{s:Shared}{K:PySem.W.Frag}{x dx C f:Addr}{mA:Str->Option Value}{name:Str}{v:Value}
theorem B7{expr:Bool}{Q:Value->Shared->Prop}(X:K.In s.heap)(I:zF s.heap x dx C mA)(hg:W.plainGet K C name=true)(hh:W.hasDictIn K C=true)
  (ha:W.findIn K (.ref C) name=some none) (hv:mA name=some v) (hv':W.handedIn v=true) (h:Q v { s with toks:=s.toks+1 }) :
  wpAny (model prog w) A (getAttr (.ref x) name expr) Q E s:=by
 obtain⟨od,J,hl⟩:=I.look;exact W.get_value X J (W.plainGet_of hg).1 (W.findObj_own hh ha rfl (by rw [hl,hv])) hv' h
theorem yx{pl:Sem Bool}{Q:Value × List Value->Shared->Prop}(X:K.In s.heap)(I:zF s.heap x dx C mA)(hg:W.plainGet K C name=true)
  (hf:W.findIn K (.ref C) name=some (some (.ref f))) (ht:W.isFn K (.ref f)=true) (hv:mA name=none) (h:Q (.ref f,[.ref x]) s) :
  wpAny (model prog w) A (getMethod (.ref x) name pl) Q E s:=by
 obtain⟨od,J,hl⟩:=I.look;exact W.method_fn X J (W.plainGet_of hg).1 (W.plainGet_of hg).2 hf (Kk.mp ht) (by show (W.lookIn name od).map (·.isSome)=some false;rw [hl,hv];rfl) h
theorem AD{ns:List Str}{Q:Unit->Shared->Prop}(X:K.In s.heap)(I:zF s.heap x dx C mA)
  (hs:W.findIn K (.ref C) "__setattr__"=some (some (.builtin "object.__setattr__"))) (hp:W.plainOver K C=true) (ht:W.takerIn K C name=some none) (hh:W.hasDictIn K C=true)
  (hw:PySem.Within mA ns) (hsz:ns.length<=sizeLine)
  (h:∀ h',zF h' x dx C (λ y=>if y=name then some v else mA y)->Heap.SameBut dx s.heap h'->Q () { s with heap:=h',toks:=s.toks+2 }) :
  wpAny (model prog w) A (setAttr (.ref x) name v) Q E s:=by
 obtain⟨od,J,hl⟩:=I.look;refine W.set_plain X J hs (W.osa_open (s:={ s with toks:=s.toks+1 }) (r:=none) X J hp ht λ b=>?_);obtain⟨cd,hc,hd'⟩:=W.any_some hh;have hx:s.heap.get? x=some ⟨.ref C,some dx,.plain,#[]⟩:=I.obj;refine IV (Ja (IV (IV (wpAny_loadPart hx (IV (W.Looks.here (s:={ s with toks:=s.toks+1 }) (W.looks_clsIn X hc) ?_))))));rw [hd'];refine Ja (a:=some dx) (IV (Ja (IV ?_)));refine wpAny_nsSet1 (s:={ s with toks:=s.toks+1 }) I.ns λ h' hn2 hs2=>?_;obtain⟨oD,esD,epD,hoD,hdD,hcD⟩:=hn2.count (PySem.Within.cons name v hw);refine IV (wpAny_lookBehind hoD (by rw [hdD];exact pastItsLine_dict (Ju hcD (by rw [Kz];omega))) ?_);exact Ja (h _ ⟨(hs2.2 _ (Jv I.ne)).trans I.obj,hn2,I.ne⟩ hs2)
theorem xH{R:Result->Shared->Prop}{vs:List Value}{kw:List (Str × Value)}(X:K.In s.heap)(hm:W.makesIn K C=true)
  (hi:W.findIn K (.ref C) "__init__"=some (some (.ref f))) (hf:W.typeIn K (.ref f)=some (.type "function"))
  (h:codeAny (model prog w) (A.under (.builtin "type.__call__" ⟨.ref C::vs,kw⟩)) (.call (.ref f) ⟨.ref (s.heap.objs.size+1)::vs,kw⟩) (W.InitBack (s.heap.objs.size+1) R)
   { s with heap:=(s.heap.push W.emptyDict).push (W.instObj C s.heap.objs.size) }) :
  codeAny (model prog w) A (.call (.ref C) ⟨vs,kw⟩) R s:=by
 obtain⟨hh,g,d,t,os⟩:=s;exact W.make_core (W.makes_of X hm) (W.looks_findIn X hi) (λ self=>W.bind_fn X self hf) (.inl rfl) h
theorem uL{R:Result->Shared->Prop}(X:K.In s.heap)(hm:W.makesIn K C=true)
  (hi:W.findIn K (.ref C) "__init__"=some (some (.builtin "object.__init__")))
  (hb:∀ self,W.Looks (model prog w) s.heap (bindSpecial (.builtin "object.__init__") self) (.builtin "object.__init__",[self]))
  (h:codeAny (model prog w) (A.under (.builtin "type.__call__" ⟨[.ref C],[]⟩)) (.call (.builtin "object.__init__") ⟨[.ref (s.heap.objs.size+1)],[]⟩) (W.InitBack (s.heap.objs.size+1) R)
   { s with heap:=(s.heap.push W.emptyDict).push (W.instObj C s.heap.objs.size) }) :
  codeAny (model prog w) A (.call (.ref C) ⟨[],[]⟩) R s:=by
 obtain⟨hh,g,d,t,os⟩:=s;exact W.make_core (W.makes_of X hm) (W.looks_findIn X hi) hb (.inr ⟨rfl,rfl⟩) h
end
def dZ(f:Str)(v:V):List (Str × V)->List (Str × V)
 | []=>[(f,v)]
 | (g,x)::r=>if g=f then (g,v)::r else (g,x)::dZ f v r
theorem aA(f g:Str)(v:V):∀ fs:List (Str × V),(dZ f v fs).lookup g=if g=f then some v else fs.lookup g
 | []=>by
  show List.lookup g [(f,v)]=_
  by_cases h:g=f
  ·have hb:(g == f)=true:=Kk.mpr h;simp only [List.lookup,hb,Jw h]
  ·have hb:(g == f)=false:=Kh.mpr h;simp only [List.lookup,hb,Jt h]
 | (k,x)::r=>by
  have ih:=aA f g v r;rw [show dZ f v ((k,x)::r)=(if k=f then (k,v)::r else (k,x)::dZ f v r) from rfl]
  by_cases hk:k=f
  ·rw [Jw hk]
   by_cases h:g=k
   ·have hb:(g == k)=true:=Kk.mpr h;simp only [List.lookup,hb,Jw (h.trans hk)]
   ·have hb:(g == k)=false:=Kh.mpr h;simp only [List.lookup,hb,Jt (λ e:g=f=>h (e.trans hk.symm))]
  ·rw [Jt hk]
   by_cases h:g=k
   ·have hb:(g == k)=true:=Kk.mpr h;simp only [List.lookup,hb,Jt (λ e:g=f=>hk (h.symm.trans e))]
   ·have hb:(g == k)=false:=Kh.mpr h;simp only [List.lookup,hb];exact ih
theorem iR(f:Str)(v:V):∀ fs:List (Str × V),f∈(dZ f v fs).map (·.1)/\∀ g,g∈fs.map (·.1)->g∈(dZ f v fs).map (·.1)
 | []=>⟨by simp [dZ],λ g h=>by simp at h⟩
 | (k,x)::r=>by
  obtain⟨i1,i2⟩:=iR f v r;rw [show dZ f v ((k,x)::r)=(if k=f then (k,v)::r else (k,x)::dZ f v r) from rfl]
  by_cases hk:k=f
  ·rw [Jw hk];subst hk;exact⟨by simp,λ g h=>by simpa using h⟩
  ·rw [Jt hk];refine⟨?_,λ g h=>?_⟩
   ·rw [JY];exact Jk _ i1
   ·rw [JY] at h ⊢
    rcases Js.mp h with e|e
    ·exact Js.mpr (.inl e)
    ·exact Jk _ (i2 g e)
theorem i4(f:Str)(v:V):∀ fs:List (Str × V),(dZ f v fs).length<=fs.length+1
 | []=>by simp [dZ]
 | (k,x)::r=>by
  have ih:=i4 f v r;rw [show dZ f v ((k,x)::r)=(if k=f then (k,v)::r else (k,x)::dZ f v r) from rfl]
  by_cases hk:k=f
  ·rw [Jw hk,Kz,Kz];omega
  ·rw [Jt hk,Kz,Kz];omega
theorem rZ.some_of{v:V}{o:Option Value}(r:rZ (some v) o):∃ u,o=some u/\bZ v u:=by
 cases o with
 | none=>exact(show False from r).elim
 | some u=>exact⟨u,rfl,r⟩
theorem rZ.none_of{o:Option Value}(r:rZ none o):o=none:=by
 cases o with
 | none=>rfl
 | some u=>exact(show False from r).elim
theorem mz{v:V}{u:Value}(r:bZ v u):W.handedIn u=true:=by
 cases v with
 | non=>cases (show u=Value.none from r);rfl
 | bl b=>cases (show u=Value.bool b from r);rfl
 | int i=>obtain⟨t,e⟩:=(show ∃ t,u=Value.int i t from r);cases e;rfl
 | str x=>obtain⟨t,e⟩:=(show ∃ t,u=Value.str x t from r);cases e;rfl
 | byt b=>obtain⟨t,e⟩:=(show ∃ t,u=Value.bytes b t from r);cases e;rfl
 | flt b=>obtain⟨t,e⟩:=(show ∃ t,u=Value.float b t from r);cases e;rfl
 | ref a=>cases (show u=Value.ref a from r);rfl
 | ty n=>cases (show u=Value.type n from r);rfl
section
variable {P:Program}{w:World}{H H':Hp}{h h':Heap}{a C dx:Addr}{fs fs':List (Str × V)}
theorem kz(hok:HOk P w H h)(e:H a=some (.ins C dx fs)):∃ mA,zF h a dx C mA/\(∀ f,rZ (fs.lookup f) (mA f))/\PySem.Within mA (fs.map (·.1))/\fs.length<=1000/\H dx=some (.own a):=by
 obtain⟨d,z,ne,ob,mA,n,r,q⟩:=(show bO P w H h a (.ins C dx fs) from hok a _ e);exact⟨mA,⟨ob,n,ne⟩,r,q,z,d⟩
end
structure Cls(K:W.Frag)(C:Addr):Prop where
 pg:W.plainGet K C Str.empty=true
 hd:W.hasDictIn K C=true
 po:W.plainOver K C=true
 sa:W.findIn K (.ref C) "__setattr__"=some (some (.builtin "object.__setattr__"))
theorem Cls.get{K:W.Frag}{C:Addr}(c:Cls K C)(f:Str):W.plainGet K C f=true:=c.pg
def aZ(K:W.Frag)(C:Addr)(f:Str):Prop:=W.findIn K (.ref C) f=some none
theorem aZ.taker{K:W.Frag}{C:Addr}{f:Str}(n:aZ K C f):W.takerIn K C f=some none:=by
 unfold W.takerIn;rw [show W.findIn K (.ref C) f=some none from n];rfl
structure eW(K:W.Frag)(C:Addr)(m:Str)(f:Addr):Prop where
 at_:W.findIn K (.ref C) m=some (some (.ref f))
 fn:W.isFn K (.ref f)=true
 kp:W.keepIn K (.ref f)=true
section
variable {X:Cx}{pins:List (Addr × Obj)}{σ:St}{H:Hp}{s:Shared}{a C dx:Addr}{fs:List (Str × V)}{f:Str}{v:V}{A:Around}{E:Value->Shared->Prop}
theorem rD{b:Bool}{Q:Value->Shared->Prop}(I:Inv X pins σ H s)(e:H a=some (.ins C dx fs))(c:Cls X.K C)(n:aZ X.K C f)(l:fs.lookup f=some v)
  (h:∀ u s',Inv X pins σ H s'->bZ v u->Q u s'):wpAny (model X.prog X.w) A (getAttr (.ref a) f b) Q E s:=by
 obtain⟨mA,O,r,_,_,_⟩:=kz I.hok e;obtain⟨u,hu,ru⟩:=rZ.some_of (v:=v) (o:=mA f) (by rw [←l];exact r f);exact B7 I.kIn O (c.get f) c.hd n hu (mz ru) (h u _ (I.tok _) ru)
theorem cZ{m:Str}{g:Addr}{pl:Sem Bool}{Q:Value × List Value->Shared->Prop}(I:Inv X pins σ H s)(e:H a=some (.ins C dx fs))(c:Cls X.K C)(k:eW X.K C m g)(l:fs.lookup m=none)
  (h:Q (.ref g,[.ref a]) s):wpAny (model X.prog X.w) A (getMethod (.ref a) m pl) Q E s:=by
 obtain⟨mA,O,r,_,_,_⟩:=kz I.hok e;have hn:mA m=none:=rZ.none_of (by rw [←l];exact r m);exact yx I.kIn O (c.get m) k.at_ k.fn hn h
theorem qH{y:V}{u:Value}{Q:Unit->Shared->Prop}(I:Inv X pins σ H s)(e:H a=some (.ins C dx fs))(c:Cls X.K C)(n:aZ X.K C f)(hl:fs.length < 1000)(ry:bZ y u)
  (h:∀ s',Inv X pins σ (upd H a (.ins C dx (dZ f y fs))) s'->Q () s'):wpAny (model X.prog X.w) A (setAttr (.ref a) f u) Q E s:=by
 obtain⟨mA,O,r,wi,_,ho⟩:=kz I.hok e;have hz:(fs.map (·.1)).length<=sizeLine:=by rw [Jg,sizeLine_eq];omega
 refine AD I.kIn O c.sa c.po n.taker c.hd wi hz λ h' O' sb=>h _ ?_;have hd:∃ o,h'.get? dx=some o:=let ⟨o,_,_,e',_⟩:=O'.ns;⟨o,e'⟩;refine I.write (x:=a) (e:=dx) (by rw [e];exact True.intro) (.inr ho) (λ b q hb z=>(sb.2 b hb).trans z) hd ?_;refine⟨by rw [ai O.ne];exact ho,?_,O.ne,O'.obj,_,O'.ns,λ g=>?_,λ g hg=>?_⟩
 ·have:=i4 f y fs;omega
 ·show rZ ((dZ f y fs).lookup g) (if g=f then some u else mA g)
  rw [aA]
  by_cases q:g=f
  ·rw [Jw q,Jw q];exact ry
  ·rw [Jt q,Jt q];exact r g
 ·by_cases q:g=f
  ·rw [q];exact(iR f y fs).1
  ·refine(iR f y fs).2 g (wi g λ z=>hg ?_)
   show (if g=f then some u else mA g)=none
   rw [Jt q];exact z
theorem Inv.made(I:Inv X pins σ H s):Inv X pins σ (upd (upd H s.heap.objs.size (.own (s.heap.objs.size+1))) (s.heap.objs.size+1) (.ins C s.heap.objs.size []))
  { s with heap:=(s.heap.push W.emptyDict).push (W.instObj C s.heap.objs.size) }:=by
 have e1:(s.heap.push W.emptyDict).get? s.heap.objs.size=some W.emptyDict:=Jf s.heap rfl
 have e2:((s.heap.push W.emptyDict).push (W.instObj C s.heap.objs.size)).get? (s.heap.objs.size+1)=some (W.instObj C s.heap.objs.size):=by
  have:=Jf (s.heap.push W.emptyDict) (o:=W.instObj C s.heap.objs.size) rfl
  rwa [Jx] at this
 have e3:(s.heap.push W.emptyDict).Ns s.heap.objs.size (λ _=>none):=⟨W.emptyDict,#[],_,e1,rfl,(λ e he=>absurd he (by simp)),λ _=>rfl⟩;have I1:=I.laid (a:=s.heap.objs.size) (o:=.own (s.heap.objs.size+1)) (h':=s.heap.push W.emptyDict) (t':=s.toks) (λ b u q=>IW _ q) (Je _) ⟨_,e1⟩;refine I1.laid (a:=s.heap.objs.size+1) (o:=.ins C s.heap.objs.size []) (t':=s.toks) (λ b u q=>IW _ q) (KO (Jx _ _)) ?_;have ne:s.heap.objs.size ≠ s.heap.objs.size+1:=Jj (Ke _);refine⟨by rw [ai ne,ag],JH _,ne,e2,λ _=>none,(Heap.Ns1.of_empty e3).at λ o q=>IW _ q,λ _=>True.intro,λ y hy=>absurd rfl hy⟩
theorem ui{prog:Program}{w:World}{env:Env}{e:Expr}{f:Str}{pos:Pos}{s:Shared}{Q:Value->Shared->Prop}(hb:attributeBase e f env (eval e env)=eval e env)
  (h:wpAny (model prog w) A (eval e env) (λ o s₁=>wpAny (model prog w) A (getAttr o f true) Q E s₁) E s):wpAny (model prog w) A (eval (.Attribute e f pos) env) Q E s:=
 Attribute_any_ h (by rw [arm_eval_Attribute,hb])
end
section
variable {X:Cx}{o e value:Expr}{f:Str}{pos pos' tpos:Pos}{ta tv:TE}
end
section
variable {X:Cx}{pins:List (Addr × Obj)}{σ:St}{H:Hp}{s:Shared}{A:Around}{E:Value->Shared->Prop}{Q:Value->Shared->Prop}{c:Value}{b:Bool}
inductive og (K:PySem.W.Frag) (H:Hp):V->Value->Prop where
 | non:og K H .non (.type "NoneType")
 | bl (x:Bool):og K H (.bl x) (.type "bool")
 | int (i:Int):og K H (.int i) (.type "int")
 | str (x:Str):og K H (.str x) (.type "str")
 | flt (x:UInt64):og K H (.flt x) (.type "float")
 | lst {a:Addr} {xs:List V} (e:H a=some (.lst xs)):og K H (.ref a) (.type "list")
 | frz {a:Addr} {o:Obj} {xs:List V} (e:H a=some (.frz o (.lst xs))):og K H (.ref a) (.type "list")
 | tup {a:Addr} {xs:List V} (e:H a=some (.tup xs)):og K H (.ref a) (.type "tuple")
 | dK {a:Addr} {kvs:List (Key × V)} (e:H a=some (.dK kvs)):og K H (.ref a) (.type "dict")
 | dT {a:Addr} {kvs:List (List Key × V)} (e:H a=some (.dT kvs)):og K H (.ref a) (.type "dict")
 | ins {a C dx:Addr} {fs:List (Str × V)} (e:H a=some (.ins C dx fs)) (cl:Cls K C) (ha:PySem.W.findIn K (.ref C) "__class__"=some (some (.builtin "object.__class__")))
   (hn:PySem.W.specialIn K (.builtin "object.__class__") "__get__"=some (some (.builtin "getset_descriptor.__get__"))) (htk:PySem.W.takesIn K (.builtin "object.__class__")=some true)
   (hm:PySem.W.mroIn K C (.type "object")=some true):og K H (.ref a) (.ref C)
theorem iT{x:V}{u t:Value}(I:Inv X pins σ H s)(rx:bZ x u)(ty:og X.K H x t)(e:W.kitOne X.K t c=some b)(h:∀ tk,Q (.bool b) { s with toks:=tk }) :
  wpAny (model X.prog X.w) A (call (.builtin "isinstance") [u,c]) Q E s:=by
 cases ty with
 | non=>cases (show u=Value.none from rx);exact Kd W.kitx_none I.kIn True.intro e (λ z=>nomatch z) h
 | bl y=>cases (show u=Value.bool y from rx);exact Kd W.kitx_bool I.kIn True.intro e (λ z=>nomatch z) h
 | int i=>obtain⟨t,q⟩:=(show ∃ t,u=Value.int i t from rx);cases q;exact Kd W.kitx_int I.kIn True.intro e (λ z=>nomatch z) h
 | str y=>obtain⟨t,q⟩:=(show ∃ t,u=Value.str y t from rx);cases q;exact Kd W.kitx_str I.kIn True.intro e (λ z=>nomatch z) h
 | flt y=>obtain⟨t,q⟩:=(show ∃ t,u=Value.float y t from rx);cases q;exact Kd W.kitx_float I.kIn True.intro e (λ z=>nomatch z) h
 | @lst a xs ea=>
  cases (show u=Value.ref a from rx);obtain⟨_,_,n,_,h1⟩:=(show bO X.prog X.w H s.heap a (.lst xs) from I.hok a _ ea);exact Kd W.kitx_list I.kIn ⟨_,h1,rfl⟩ e (λ z=>nomatch z) h
 | @frz a ob xs ea=>
  cases (show u=Value.ref a from rx);obtain⟨_,_,_,n,_,h1⟩:=(show bO X.prog X.w H s.heap a (.frz ob (.lst xs)) from I.hok a _ ea);exact Kd W.kitx_list I.kIn ⟨_,h1,rfl⟩ e (λ z=>nomatch z) h
 | @tup a xs ea=>
  cases (show u=Value.ref a from rx);obtain⟨_,_,_,p⟩:=(show bO X.prog X.w H s.heap a (.tup xs) from I.hok a _ ea);obtain⟨o,h1,h2,_⟩:=p;exact Kd W.kitx_tuple I.kIn ⟨o,h1,h2⟩ e (λ z=>nomatch z) h
 | @dK a kvs ea=>
  cases (show u=Value.ref a from rx);obtain⟨_,_,vs,_,p⟩:=(show bO X.prog X.w H s.heap a (.dK kvs) from I.hok a _ ea);obtain⟨o,es,ep,h1,h2,_⟩:=p;exact Kd W.kitx_dict I.kIn ⟨o,h1,h2.1⟩ e (λ z=>nomatch z) h
 | @dT a kvs ea=>
  cases (show u=Value.ref a from rx);obtain⟨_,_,xs,_,o,es,ep,h1,h2,_⟩:=(show bO X.prog X.w H s.heap a (.dT kvs) from I.hok a _ ea);exact Kd W.kitx_dict I.kIn ⟨o,h1,h2.1⟩ e (λ z=>nomatch z) h
 | @ins a C dx fs ea cl ha hn htk hm=>
  cases (show u=Value.ref a from rx);obtain⟨mA,O,_⟩:=kz I.hok ea;obtain⟨od,J,_⟩:=O.look;exact Kd (W.kitx_own (cl.get _) cl.hd ha hn htk hm) I.kIn J e (λ z=>nomatch z) h
end
structure eM(k:Nat)(A:Around):Prop where
 hd:A.handled=none
 dp:A.depth+3 * k+5 < recursionLimit
 un:A.units+16 * k+200 < cLine
theorem eM.mono{j k:Nat}{A:Around}(r:eM k A)(h:j<=k):eM j A:=⟨r.hd,by have:=r.dp;omega,by have:=r.un;omega⟩
theorem eM.deeper{k:Nat}{A:Around}(r:eM (k+1) A)(env:Env):eM k (A.deeper env):=
 ⟨r.hd,by have:=r.dp;show A.depth+1+3 * k+5 < _;omega,by have:=r.un;show A.units+3+16 * k+200 < _;omega⟩
theorem qQ{A:Around}{C:Addr}{us:List Value}{kw:List (Str × Value)}:(A.under (.builtin "type.__call__" ⟨.ref C::us,kw⟩)).depth=A.depth+1:=by
 first|rfl|simp [Around.under,Code.weight,Code.isCreation,Code.isGuard,Code.isCaller,Code.frames,Code.isFrame,guardIds]
theorem qP{A:Around}{C:Addr}{us:List Value}{kw:List (Str × Value)}:(A.under (.builtin "type.__call__" ⟨.ref C::us,kw⟩)).units=A.units+1:=by
 first|rfl|simp [Around.under,Code.cUnits,Code.frames,Code.isFrame]
theorem eM.make{k:Nat}{A:Around}(r:eM (k+1) A)(C:Addr)(us:List Value)(kw:List (Str × Value)):eM k (A.under (.builtin "type.__call__" ⟨.ref C::us,kw⟩)):=
 ⟨r.hd,by have:=r.dp;rw [qQ];omega,by have:=r.un;rw [qP];omega⟩
theorem eM.depth{k:Nat}{A:Around}(r:eM k A):A.depth < recursionLimit:=by have:=r.dp;omega
theorem eM.units{k:Nat}{A:Around}(r:eM k A):A.units+64 < cLine:=by have:=r.un;omega
def FD:TA:=λ _ H Q=>Q [] H
def zI(ta:TE)(tr:TA):TA:=λ σ H Q=>ta σ H λ x H1=>tr σ H1 λ xs H2=>Q (x::xs) H2
section
variable {X:Cx}{e:Expr}{es:List Expr}{te:TE}{t:TA}{pos:Pos}
theorem b6:PA X [] FD:=λ _ _ _ _ H Q I h=>Calls.spliced_nil ⟨[],H,I,.nil,h⟩
theorem AZ(ha:PE X e te)(hr:PA X es t)(hs:starEach (e::es) X.env=(false,eval e X.env)::starEach es X.env:=by rfl):PA X (e::es) (zI te t):=by
 intro pos pins s σ H Q I h;rw [hs]
 show wpAny _ _ (spliced ((false,eval e X.env)::backTo pos (starEach es X.env))) _ _ s
 refine Calls.spliced_cons (thn (ha pins s σ H _ I h) λ u s1 ⟨x,H1,I1,r1,q1⟩=>?_);exact thn (hr pos pins s1 σ H1 _ I1 q1) λ us s2 ⟨xs,H2,I2,r2,q2⟩=>⟨x::xs,H2,I2,.cons r1 r2,q2⟩
end
abbrev Sp:=List V->Hp->VK->XK->Prop
abbrev CXT:=List Env->Hp->Shared->XK->Value->Shared->Prop
structure wG(P:Program)(w:World)(K:W.Frag)(mg:Str->Option Value)(base:Heap)(A:Around)(outer:List Env)(s:Shared)(H:Hp):Prop where
 frames:A.frames=some outer
 mod:Mod K mg base
 bs:∀ b o,base.get? b=some o->s.heap.get? b=some o/\H b=none
 bsz:base.objs.size<=s.heap.objs.size
 funs:s.heap.FunFrames base outer
 frf:∀ b∈frs outer,H b=none
 hok:HOk P w H s.heap
 bare:AllBare s.gens
def CE(outer:List Env)(P:Program)(w:World)(H:Hp)(s:Shared)(Q:VK)(u:Value)(s':Shared):Prop:=
 ∃ v H',s'.os=s.os/\AllBare s'.gens/\Un (frs outer) [] H H' s.heap s'.heap/\HOk P w H' s'.heap/\bZ v u/\Q v H'
def CR(CX:CXT)(outer:List Env)(P:Program)(w:World)(H:Hp)(s:Shared)(Q:VK)(E:XK)(r:Result)(s':Shared):Prop:=
 match r with
 | .ok (.ret u)=>CE outer P w H s Q u s'
 | .ok _=>False
 | .error e=>CX outer H s E e s'
structure aB(P:Program)(w:World)(K:W.Frag)(mg:Str->Option Value)(base:Heap)(CX:CXT)(k:Nat)(f:Addr)(fd:FuncData)(ps:List Str)(sp:Sp):Prop where
 len:∀ vs H Q E,sp vs H Q E->vs.length=ps.length
 run:∀ (A:Around) (outer:List Env) (s:Shared) (H:Hp) (args:Args) (us:List Value) (vs:List V) (Q:VK) (E:XK),eM k A->wG P w K mg base A outer s H->BindsTo s fd args (ps.zip us)->bq vs us->sp vs H Q E →
  codeAny (model P w) A (.call (.ref f) args) (CR CX outer P w H s Q E) s
theorem aB.imp{P:Program}{w:World}{K:W.Frag}{mg:Str->Option Value}{base:Heap}{CX:CXT}{k:Nat}{f:Addr}{fd:FuncData}{ps:List Str}{sp sp':Sp}(F:aB P w K mg base CX k f fd ps sp)
  (h:∀ vs H Q E,sp' vs H Q E->sp vs H Q E):aB P w K mg base CX k f fd ps sp':=
 ⟨λ vs H Q E q=>F.len vs H Q E (h _ _ _ _ q),λ A outer s H args us vs Q E hr he hb hv hs=>F.run A outer s H args us vs Q E hr he hb hv (h _ _ _ _ hs)⟩
theorem wG.make{P:Program}{w:World}{K:W.Frag}{mg:Str->Option Value}{base:Heap}{A:Around}{outer:List Env}{s:Shared}{H:Hp}(e:wG P w K mg base A outer s H)(C:Addr)(us:List Value)(kw:List (Str × Value)) :
  wG P w K mg base (A.under (.builtin "type.__call__" ⟨.ref C::us,kw⟩)) outer s H:=⟨by first|exact e.frames|(simpa [Around.under,Code.envs,Code.isFrame,pushEnvs] using e.frames),e.mod,e.bs,e.bsz,e.funs,e.frf,e.hok,e.bare⟩
section
variable {X:Cx}{pins:List (Addr × Obj)}{σ:St}{H:Hp}{s s':Shared}
theorem Inv.env0(I:Inv X pins σ H s):wG X.prog X.w X.K X.mg X.base X.A X.stack s H:=
 ⟨I.ok.frames,I.ok.mod,I.bs,Ju I.ok.bsz I.sz,I.stack,I.stkFree,I.hok,I.bare⟩
theorem Inv.after{Q:VK}{u:Value}(I:Inv X pins σ H s)(h:CE X.stack X.prog X.w H s Q u s'):EP X pins σ Q u s':=by
 obtain⟨v,H',os,bare,un,hok,r,q⟩:=h;obtain⟨hh,g,d,t,os'⟩:=s';obtain rfl:os'=s.os:=os;exact⟨v,H',I.call (h':=hh) (g':=g) (d':=d) (t':=t) (ch:=[]) un hok bare (λ b z=>absurd z (by simp)),r,q⟩
end
def CU(sp:Sp)(dvs:List V)(E:XK)(t:TA):TE:=λ σ H Q=>t σ H λ vs H1=>sp (vs++dvs) H1 Q E
def aq(K:W.Frag)(fd:FuncData)(ps:List Str)(ds:List Value):Prop:=
 ∀ (s:Shared) (us:List Value),K.In s.heap->(us++ds).length=ps.length->BindsTo s fd ⟨us,[]⟩ (ps.zip (us++ds))
theorem aq.all{K:W.Frag}{fd:FuncData}{ps:List Str}(h:∀ us:List Value,us.length=ps.length->bindArgs fd ⟨us,[]⟩=pure (ps.zip us)):aq K fd ps []:=λ s us _ hl=>by
 rw [KR] at hl ⊢;exact .of_eq (h us hl)
def ei(CX:CXT)(X:Cx)(E:XK):Prop:=∀ (pins:List (Addr × Obj)) (σ:St) (H:Hp) (s:Shared) (e:Value) (s':Shared),Inv X pins σ H s->CX X.stack H s E e s'->X.xe e s'
section
variable {X:Cx}{CX:CXT}{k:Nat}{f C:Addr}{fd:FuncData}{ps:List Str}{sp:Sp}{dvs:List V}{ds:List Value}{E:XK}{x m:Str}{p pos apos:Pos}{e o:Expr}{es:List Expr}{ta:TE}{t:TA}
theorem l7{pins:List (Addr × Obj)}{σ:St}{H:Hp}{s:Shared}{Q:VK}{us:List Value}{vs:List V}(F:aB X.prog X.w X.K X.mg X.base CX k f fd ps sp)(hr:eM k X.A)(hb:aq X.K fd ps ds)(hd:bq dvs ds)(hx:ei CX X E)
  (I:Inv X pins σ H s) (r:bq vs us) (h:sp (vs++dvs) H Q E):wpAny (model X.prog X.w) X.A (call (.ref f) us) (EP X pins σ Q) X.xe s:=by
 have r2:bq (vs++dvs) (us++ds):=r.append hd;have hl:(us++ds).length=ps.length:=by rw [←r2.length];exact F.len _ _ _ _ h
 refine J7 (JK (F.run X.A X.stack s H ⟨us,[]⟩ (us++ds) (vs++dvs) Q E hr I.env0 (hb s us I.kIn hl) r2 h) λ r s' hq=>?_)
 cases r with
 | error e=>exact hx pins σ H s e s' I hq
 | ok fl=>
  cases fl with
  | ret u=>exact I.after hq
  | next=>exact False.elim hq
  | brk=>exact False.elim hq
  | cont=>exact False.elim hq
theorem tM(F:aB X.prog X.w X.K X.mg X.base CX k f fd ps sp)(hr:eM k X.A)(hg:Gl X x)(hm:X.mg x=some (.ref f))(hk:W.keepIn X.K (.ref f)=true)(hb:aq X.K fd ps ds)(hd:bq dvs ds)(hx:ei CX X E)
  (ha:PA X (e::es) t) (hdb:(x == ("__debug__":Str))=false:=by decide) (he:starEach (e::es) X.env=(false,eval e X.env)::starEach es X.env:=by rfl) (hpl:(backTo pos (starEach es X.env)).any (·.1)=false:=by rfl) :
  PE X (.Call (.Name x p) (e::es) [] pos) (CU sp dvs E t):=by
 intro pins s σ H Q I h;refine JT (cI I hg hm ?_ hdb);refine KH (h₀:=X.base) I.ok.mod.kin hk (thn (ha pos pins s σ H _ I h) λ us s1 ⟨vs,H1,I1,r,q⟩=>⟨I1.kIn,?_⟩) he hpl;exact l7 F hr hb hd hx I1 r q
structure Mk(K:W.Frag)(C f:Addr):Prop where
 makes:W.makesIn K C=true
 init:W.findIn K (.ref C) "__init__"=some (some (.ref f))
 fn:W.isFn K (.ref f)=true
 kp:W.keepIn K (.ref C)=true
theorem xf{pins:List (Addr × Obj)}{σ:St}{H:Hp}{s:Shared}{Q:VK}{us:List Value}{vs:List V}(M:Mk X.K C f)(F:aB X.prog X.w X.K X.mg X.base CX k f fd ps sp)(hr:eM (k+1) X.A)(hb:aq X.K fd ps ds)(hd:bq dvs ds)
  (hx:ei CX X E) (I:Inv X pins σ H s) (r:bq vs us)
  (h:∀ x dx,H x=none->H dx=none->dx ≠ x->sp (.ref x::(vs++dvs)) (upd (upd H dx (.own x)) x (.ins C dx [])) (λ v H2=>v=.non/\Q (.ref x) H2) E) :
  wpAny (model X.prog X.w) X.A (call (.ref C) us) (EP X pins σ Q) X.xe s:=by
 have hq:=h (s.heap.objs.size+1) s.heap.objs.size (I.hok.fresh (Kw _)) (I.hok.fresh (Je _)) (Jj (Ke _));have I2:=Inv.made (C:=C) I;have r2:bq (V.ref (s.heap.objs.size+1)::(vs++dvs)) (Value.ref (s.heap.objs.size+1)::(us++ds)):=.cons rfl (r.append hd)
 have hl:(Value.ref (s.heap.objs.size+1)::us++ds).length=ps.length:=by
  have e:=r2.length;rw [F.len _ _ _ _ hq] at e;exact e.symm
 refine J7 (xH (f:=f) I.kIn M.makes M.init (Kk.mp M.fn) (JK (F.run _ X.stack _ _ ⟨Value.ref (s.heap.objs.size+1)::us,[]⟩ (Value.ref (s.heap.objs.size+1)::(us++ds)) _ _ E (hr.make C us [])
  (I2.env0.make C us []) (hb _ (Value.ref (s.heap.objs.size+1)::us) I2.kIn hl) r2 hq) λ r s' hq'=>?_))
 cases r with
 | error e=>exact hx pins σ _ _ e s' I2 hq'
 | ok fl=>
  cases fl with
  | ret u=>
   obtain⟨v,H',I3,rv,ev,q3⟩:=I2.after hq';subst ev;exact⟨rv,⟨V.ref (s.heap.objs.size+1),H',I3,rfl,q3⟩⟩
  | next=>exact False.elim hq'
  | brk=>exact False.elim hq'
  | cont=>exact False.elim hq'
end
section
variable {X:Cx}{CX:CXT}{k:Nat}{f C:Addr}{fd:FuncData}{ps ks:List Str}{sp:Sp}{E:XK}{x m:Str}{p pos apos kpos:Pos}{e o:Expr}{es:List Expr}{kws:List Keyword}{te ta:TE}{t tk:TA}{nm:Option Str}
variable {g:List Value->List Value->List Value}{gV:List V->List V->List V}
end
structure ae(N P:List Str)(sc:Scope):Prop where
 kind:sc.kind=.function
 co:sc.isCoroutine=false
 gen:sc.isGenerator=false
 nd:N.Nodup
 pre:N.take P.length=P
 par:∀ x∈P,sc.names.lookup x=some .local\/sc.names.lookup x=some .cell
 nofree:∀ y∈sc.names,y.2 ≠ .free
theorem mQ{kindOf:Str->Option NameKind}{x:Str}:∀ {binds:List (Str × Value)}{m:Str->Option Value},(∀ v,(x,v) ∉ binds)->bindL kindOf binds m x=m x
 | [],_,_=>rfl
 | (n,v)::r,m,h=>by
  unfold bindL;rw [mQ λ w hw=>h w (mem_cons_of_mem _ hw)];split
  ·have:x ≠ n:=by rintro rfl;exact h v Jq
   simp [this]
  ·rfl
theorem mS{kindOf:Str->Option NameKind}{x:Str}:∀ {binds:List (Str × Value)}{m:Str->Option Value},(∀ v,(x,v) ∉ binds)->bindC kindOf binds m x=m x
 | [],_,_=>rfl
 | (n,v)::r,m,h=>by
  unfold bindC;rw [mS λ w hw=>h w (mem_cons_of_mem _ hw)];split
  ·rfl
  ·have:x ≠ n:=by rintro rfl;exact h v Jq
   simp [this]
theorem mR{kindOf:Str->Option NameKind}{x:Str}{v:Value}:∀ {P:List Str}{vs:List Value}{i:Nat}{m:Str->Option Value},P.Nodup->P[i]? = some x->vs[i]? = some v->kindOf x=some .local →
  bindL kindOf (P.zip vs) m x=some v
 | [],_,_,_,_,h,_,_=>by simp at h
 | _::_,[],_,_,_,_,h,_=>by simp at h
 | p::P,w::vs,0,m,nd,h1,h2,hk=>by
  simp at h1 h2;subst h1;subst h2
  show bindL kindOf ((p,w)::P.zip vs) m p=_
  unfold bindL;rw [mQ λ v hv=>(List.nodup_cons.mp nd).1 (List.of_mem_zip hv).1,if_pos hk];simp
 | p::P,w::vs,i+1,m,nd,h1,h2,hk=>by
  show bindL kindOf ((p,w)::P.zip vs) m x=_
  unfold bindL;exact mR (i:=i) (List.nodup_cons.mp nd).2 (by simpa using h1) (by simpa using h2) hk
theorem mT{kindOf:Str->Option NameKind}{x:Str}{v:Value}:∀ {P:List Str}{vs:List Value}{i:Nat}{m:Str->Option Value},P.Nodup->P[i]? = some x->vs[i]? = some v->kindOf x ≠ some .local →
  bindC kindOf (P.zip vs) m x=some v
 | [],_,_,_,_,h,_,_=>by simp at h
 | _::_,[],_,_,_,_,h,_=>by simp at h
 | p::P,w::vs,0,m,nd,h1,h2,hk=>by
  simp at h1 h2;subst h1;subst h2
  show bindC kindOf ((p,w)::P.zip vs) m p=_
  unfold bindC;rw [mS λ v hv=>(List.nodup_cons.mp nd).1 (List.of_mem_zip hv).1,if_neg hk];simp
 | p::P,w::vs,i+1,m,nd,h1,h2,hk=>by
  show bindC kindOf ((p,w)::P.zip vs) m x=_
  unfold bindC;exact mT (i:=i) (List.nodup_cons.mp nd).2 (by simpa using h1) (by simpa using h2) hk
def ak(N:List Str)(vs:List V):St:=vs.map some++List.replicate (N.length - vs.length) none
def lT(CX:CXT)(P:Program)(w:World)(K:W.Frag)(mg:Str->Option Value)(base:Heap)(N:List Str)(qual:Str)(scope:Scope)(f:Addr)(cd:Value)(A:Around)(outer:List Env)(s:Shared)(H:Hp)(E:XK):Cx where
 prog:=P
 w:=w
 K:=K
 mg:=mg
 base:=base
 A:=A.deeper (envOfC qual scope s.heap.objs.size f cd)
 N:=N
 s₀:=s
 H₀:=H
 env:=envOfC qual scope s.heap.objs.size f cd
 outer:=outer
 stack:=envOfC qual scope s.heap.objs.size f cd::outer
 ex:=[]
 calm:=true
 fn:=λ _=>true
 pn:=[]
 xe:=λ e s'=>wpAny (model P w) (A.deeper (envOfC qual scope s.heap.objs.size f cd)) (leaving (envOfC qual scope s.heap.objs.size f cd) e) (λ _ s''=>CX outer H s E e s'') (λ e' s''=>CX outer H s E e' s'') s'
theorem qf{sc:Scope}{n:Nat}{x:Str}(h:sc.names.lookup x=some .cell):∃ c,(cellsFrom n sc.names []).lookup x=some c:=by
 have q:=W.cellsFrom_some sc.names n [] (.inl h);exact Option.isSome_iff_exists.mp q
theorem my{CX:CXT}{P:Program}{w:World}{K:W.Frag}{mg:Str->Option Value}{base:Heap}{N ps:List Str}{qual:Str}{scope:Scope}{f:Addr}{cd:Value}{A:Around}{outer:List Env}{s s1:Shared}{H:Hp}{E:XK}{us:List Value}{vs:List V}
  (S:ae N ps scope) (hd:A.handled=none) (e0:wG P w K mg base A outer s H) (hl:vs.length=ps.length) (r:bq vs us)
  (x:InCallC s s.heap.objs.size (bindL (envOfC qual scope s.heap.objs.size f cd).kindOf (ps.zip us) λ _=>none) (cellsFrom (s.heap.objs.size+1) scope.names []) (bindC (envOfC qual scope s.heap.objs.size f cd).kindOf (ps.zip us) λ _=>none) s1) :
  Inv (lT CX P w K mg base N qual scope f cd A outer s H E) [] (ak N vs) H s1:=by
 have hpl:ps.length<=N.length:=by have:=Kq List.length S.pre;rw [Ks] at this;omega
 obtain⟨h1,tk,rfl,hk⟩:=x.done;have noA:∀ b:Addr,b ∉ (lT CX P w K mg base N qual scope f cd A outer s H E).ex:=λ b z=>absurd (show b∈([]:List Addr) from z) (by simp)
 refine⟨⟨e0.mod,S.kind,rfl,rfl,Je _,λ y z c h1 h2=>?_,λ y hy=>?_,λ y c _ h=>?_,λ _=>hd,Around.frames_deeper e0.frames,.inr ⟨rfl,rfl⟩,λ b z=>absurd z (noA b),e0.bs,e0.bsz,λ b _ _=>noA b,λ b z=>absurd z (noA b),e0.funs,e0.frf⟩,
  rfl,e0.bare,Un.kept hk,⟨_,x.toInCall.ns,λ i y v h1 h2 h3=>?_⟩,λ y c h=>⟨_,x.cell y c h⟩,e0.hok.fresh (Je _),λ y c h=>?_,λ p hp=>absurd (show p∈([]:List (Addr × Obj)) from hp) (by simp),e0.hok.kept hk,?_⟩
 ·exact name_of_addr x.apart (Ki h1) (Ki h2)
 ·have hy:scope.names.lookup y=some .cell\/scope.names.lookup y=some .free:=hy
  rcases hy with hy|hy
  ·exact qf hy
  ·exact absurd rfl (S.nofree _ (Ki hy))
 ·exact KN (x.above y c (Ki h))
 ·have hi:i < vs.length:=by
   unfold ak at h2
   by_cases hi:i < vs.length
   ·exact hi
   ·rw [JF (by simpa using hi)] at h2;rw [KW] at h2
    split at h2<;>cases h2
  have ha:vs[i]? = some v:=by
   unfold ak at h2;rw [List.getElem?_append_left (by simpa using hi),getElem?_map] at h2
   cases e:vs[i]? with
   | none=>rw [e] at h2;cases h2
   | some a=>rw [e] at h2;cases h2;rfl
  obtain⟨u,hu,rv⟩:=r.get ha
  have hp:ps[i]? = some y:=by
   rw [←S.pre,List.getElem?_take_of_lt (by omega)];exact h1
  have ndP:ps.Nodup:=by rw [←S.pre];exact S.nd.sublist (List.take_sublist _ _)
  refine⟨u,rv,?_⟩
  rcases S.par y (Jm hp) with k|k
  ·exact .inl ⟨k,mR ndP hp hu k⟩
  ·obtain⟨c,e⟩:=qf (n:=s.heap.objs.size+1) k;refine .inr ⟨.inl k,c,e,?_⟩;have q:=x.cell y c e;rw [mT ndP hp hu (by show scope.names.lookup y ≠ _;rw [k];decide)] at q;exact q
 ·exact e0.hok.fresh (KN (x.above y c (Ki h)))
 ·unfold ak
  show _=N.length
  rw [J0,Jg,List.length_replicate];omega
theorem Dr{CX:CXT}{P:Program}{w:World}{K:W.Frag}{mg:Str->Option Value}{base:Heap}{k:Nat}{f:Addr}{name qual:Str}{params:Arguments}{body:List Stmt}{scope:Scope}{dV kV doc pm cdv ct oc:Value}{an od:Option Addr}
  {osl:Array (Option Value)} {N ps:List Str} {sp:Sp} (lk:K.lookup f=some ⟨oc,od,.func (W.fnOf name qual params body scope dV kV doc pm an cdv ct),osl⟩) (hcd:W.codeIn K cdv qual=true) (S:ae N ps scope)
  (len:∀ vs H Q E,sp vs H Q E->vs.length=ps.length)
  (hbody:∀ (A:Around) (outer:List Env) (s:Shared) (H:Hp) (vs:List V) (Q:VK) (E:XK),eM k (A.deeper (envOfC qual scope s.heap.objs.size f cdv))->sp vs H Q E →
   ∃ t,PSs (lT CX P w K mg base N qual scope f cdv A outer s H E) body t/\t { nx:=λ _ H'=>Q .non H',rt:=Q } (ak N vs) H) :
  aB P w K mg base CX (k+1) f (W.fnOf name qual params body scope dV kV doc pm an cdv ct) ps sp:=by
 refine⟨len,λ A outer s H args us vs Q E hr e0 hb r hsp=>?_⟩;have hl:=len _ _ _ _ hsp;have KX:K.In s.heap:=e0.mod.kin.keeps λ b o e=>(e0.bs b o e).1;have lim:s.heap.NoLimit:=e0.mod.nolimit.keeps λ b o e=>(e0.bs b o e).1
 have hkind:∀ y∈ps.zip us,scope.names.lookup y.1=some .local\/(scope.names.lookup y.1=some .cell/\((cellsFrom (s.heap.objs.size+1) scope.names []).lookup y.1).isSome=true):=λ ⟨n,v⟩ hy=>by
  rcases S.par n (K9 hy).1 with q|q
  ·exact .inl q
  ·exact .inr ⟨q,W.cellsFrom_some _ _ _ (.inl q)⟩
 refine codeAny_call_function hr.depth (KX _ _ lk) rfl S.co S.gen rfl (W.codeRec_of KX hcd) (hb _ _ _ _ ?_);refine wpAny_newFunctionEnv_cells S.kind hkind λ env he s1 x=>?_;subst he;refine⟨lim.keeps x.toInCall.keep,codeAny_func ?_⟩;obtain⟨t,ht,hq⟩:=hbody A outer s H vs Q E (hr.deeper _) hsp;have I:Inv (lT CX P w K mg base N qual scope f cdv A outer s H E) [] (ak N vs) H s1:=my S hr.hd e0 hl r x;refine Ku (ht [] s1 (ak N vs) H _ I hq) (λ fl s' hs=>?_) λ e s' hs=>hs
 have fin:∀ {σ':St} {H':Hp} {v:V} {u:Value},Inv (lT CX P w K mg base N qual scope f cdv A outer s H E) [] σ' H' s'->bZ v u->Q v H'->CE outer P w H s Q u s':=
  λ {σ' H' v u} J rv q=>⟨v,H',J.os,J.bare,J.base,J.hok,rv,q⟩
 cases fl with
 | ret u=>
  obtain⟨v,σ',H',J,rv,q⟩:=hs;exact fin J rv q
 | next=>
  obtain⟨σ',H',J,q⟩:=hs;exact fin (v:=V.non) (u:=Value.none) J rfl q
 | brk=>
  obtain⟨_,_,_,q⟩:=hs;exact False.elim q
 | cont=>
  obtain⟨_,_,_,q⟩:=hs;exact False.elim q
section
variable {X:Cx}{x:Str}{p pos:Pos}{e:Expr}{es:List Expr}{t:TA}{id T:String}{r:List V->Hp->VK->Prop}
def tCB(r:List V->Hp->VK->Prop)(t:TA):TE:=λ σ H Q=>t σ H λ vs H1=>r vs H1 Q
theorem iq(hc:bt X (.builtin id) r)(hg:Gl X x)(hm:X.mg x=none)(hv:bootBuiltins x=some (.builtin id))(ha:PA X (e::es) t)(hn:x ≠ "__name__":=by decide)(hdb:(x == ("__debug__":Str))=false:=by decide)
  (he:starEach (e::es) X.env=(false,eval e X.env)::starEach es X.env:=by rfl) (hpl:(backTo pos (starEach es X.env)).any (·.1)=false:=by rfl):PE X (.Call (.Name x p) (e::es) [] pos) (tCB r t):=by
 intro pins s σ H Q I h;refine JT (jN I hg hm hv ?_ hn hdb);exact Lz (thn (ha pos pins s σ H _ I h) λ us s1 ⟨vs,H1,I1,r1,q1⟩=>hc pins s1 σ H1 vs us Q I1 r1 q1) he hpl
theorem uH(hc:bt X (.type T) r)(hg:Gl X x)(hm:X.mg x=none)(hv:bootBuiltins x=some (.type T))(ha:PA X (e::es) t)(hn:x ≠ "__name__":=by decide)(hdb:(x == ("__debug__":Str))=false:=by decide)
  (he:starEach (e::es) X.env=(false,eval e X.env)::starEach es X.env:=by rfl) (hpl:(backTo pos (starEach es X.env)).any (·.1)=false:=by rfl):PE X (.Call (.Name x p) (e::es) [] pos) (tCB r t):=by
 intro pins s σ H Q I h;refine JT (jN I hg hm hv ?_ hn hdb);exact KI (thn (ha pos pins s σ H _ I h) λ us s1 ⟨vs,H1,I1,r1,q1⟩=>hc pins s1 σ H1 vs us Q I1 r1 q1) he hpl
end
end L2
namespace HT
open PySem PyProof.Rows
section
open PySem.SeqAt
open PySem.AutoSeq1 (wpAny_loadPart')
open PySem.MeetsSeq PySem.MeetsSeq2 PySem.MeetsSeq3
end
section
variable {prog:Program}{w:World}{A:Around}{E:Value->Shared->Prop}{s:Shared}
end
end HT
namespace L2
open PySem PySem.Spec PyProof.Rows
abbrev TO:=St->Hp->(Option Int->Hp->Prop)->Prop
section
variable {X:Cx}{e:Expr}{te:TE}{lo hi:Option Expr}{tl th:TO}{pos p2:Pos}
end
def ixN(n:Nat)(i:Int):Option Nat:=if 0<=i then (if i < n then some i.toNat else none) else if -(n:Int)<=i then some (i+n).toNat else none
def atI{α:Type}(xs:List α)(i:Int):Option α:=(ixN xs.length i).bind λ j=>xs[j]?
theorem tZ{n:Nat}{i:Int}{j:Nat}(h:ixN n i=some j):seqIndex? i n=some j/\j < n/\-(n:Int)<=i/\i < n:=by
 unfold ixN at h
 by_cases h0:0<=i
 ·rw [Jw h0] at h
  by_cases h1:i < n
  ·rw [Jw h1] at h;have e:i.toNat=j:=Jy h;exact⟨by rw [seqIndex_of h0 h1,e],by omega,by omega,h1⟩
  ·rw [Jt h1] at h;cases h
 ·rw [Jt h0] at h
  by_cases h1:-(n:Int)<=i
  ·rw [Jw h1] at h;have e:(i+n).toNat=j:=Jy h;exact⟨by rw [seqIndex_neg (by omega) h1,e],by omega,h1,by omega⟩
  ·rw [Jt h1] at h;cases h
theorem uj{α:Type}{xs:List α}{i:Int}{v:α}(h:atI xs i=some v):∃ j,seqIndex? i xs.length=some j/\xs[j]? = some v/\j < xs.length/\-(xs.length:Int)<=i/\i < xs.length:=by
 unfold atI at h
 cases e:ixN xs.length i with
 | none=>rw [e] at h;cases h
 | some j=>
  rw [e] at h;obtain⟨h1,h2,h3,h4⟩:=tZ e;exact⟨j,h1,h,h2,h3,h4⟩
theorem aV{α:Type}{xs:List α}{j:Nat}{v:α}(h:xs[j]? = some v):atI xs (j:Int)=some v:=by
 have hj:j < xs.length:=(Jb.mp h).1
 have e:ixN xs.length (j:Int)=some j:=by
  unfold ixN;rw [if_pos (by omega),if_pos (by omega)];simp
 unfold atI;rw [e];exact h
def Cy(b:Expr):Prop:=∀ o i,subscripted b false o i=operate [o,i] (getItem o i)
def IxR(X:Cx)(r:R2):Prop:=
 ∀ (value slice:Expr) (pins:List (Addr × Obj)) (s:Shared) (σ:St) (H:Hp) (x y:V) (v u:Value) (Q:VK),Inv X pins σ H s->bZ x v->bZ y u->r x y H Q →
  subscripted slice false v u=operate [v,u] (getItem v u)->wpAny (model X.prog X.w) X.A (subscriptTail value slice v u) (EP X pins σ Q) X.xe s
def MtR(X:Cx)(id:String)(r:V->List V->Hp->VK->Prop):Prop:=
 ∀ (pins:List (Addr × Obj)) (s:Shared) (σ:St) (H:Hp) (x:V) (xs:List V) (v:Value) (us:List Value) (Q:VK),Inv X pins σ H s->bZ x v->bq xs us->r x xs H Q →
  wpAny (model X.prog X.w) X.A (call (.builtin id) (v::us)) (EP X pins σ Q) X.xe s
section
variable {X:Cx}{a b:Expr}{ta tb:TE}{pos:Pos}
theorem IxR.or{r r':R2}(h:IxR X r)(h':IxR X r'):IxR X (λ x y H Q=>r x y H Q\/r' x y H Q):=by
 intro value slice pins s σ H x y v u Q I rx ry q hs
 rcases q with q|q
 ·exact h value slice pins s σ H x y v u Q I rx ry q hs
 ·exact h' value slice pins s σ H x y v u Q I rx ry q hs
theorem zQ{r:R2}(hr:IxR X r)(ha:PE X a ta)(hb:PE X b tb)(hs:Cy b):PE X (.Subscript a b pos) (tOp r ta tb):=by
 intro pins s σ H Q I h;exact Subscript_ (Gi ha hb I h λ v u s2 x y H2 I2 rx ry q=>hr a b pins s2 σ H2 x y v u Q I2 rx ry q (hs _ _))
def IC(K:W.Frag):R2:=λ x y H Q=>∃ p xs i v,x=.ref p/\y=.int i/\SqL K H p xs/\atI xs i=some v/\Q v H
def IB(K:W.Frag):R2:=λ x y H Q=>∃ p xs i v,x=.ref p/\y=.int i/\SqT K H p xs/\atI xs i=some v/\Q v H
theorem oV:IxR X (IC X.K):=by
 intro value slice pins s σ H x y v u Q I rx ry h hs;obtain⟨p,xs,i,z,rfl,rfl,hq,he,q⟩:=h;cases rx;obtain⟨t,rfl⟩:=ry;obtain⟨its,r,pl,hz⟩:=I.list hq;obtain⟨j,h1,h2,h3,h4,h5⟩:=uj he;obtain⟨w,ew,rw'⟩:=r.get h2;have hl:=r.length;have hn:=ma;have fin:EP X pins σ Q w s:=⟨z,H,I,rw',q⟩
 by_cases h0:0<=i
 ·have hj:i.toNat=j:=by
   rw [seqIndex_of h0 h5] at h1;exact Jy h1
  exact item_listR pl.isList h0 (by omega) (by rw [hj];simpa using ew) fin hs
 ·have hj:(i+(its.toArray.size:Int)).toNat=j:=by
   rw [seqIndex_neg (by omega) h4] at h1;rw [Jr,←hl];exact Jy h1
  exact subscriptTail_builtinR (x:=w) pl.isList.typeIs slot_list_getitem.lookup
   (wpAny_getItem_list_neg (Q:=λ r s'=>r=w/\EP X pins σ Q r s') pl.isList (by omega) (by rw [Jr]<;>omega) (by omega) (by rw [hj];simpa using ew) ⟨rfl,fin⟩) hs
theorem E9:IxR X (IB X.K):=by
 intro value slice pins s σ H x y v u Q I rx ry h hs;obtain⟨p,xs,i,z,rfl,rfl,hq,he,q⟩:=h;cases rx;obtain⟨t,rfl⟩:=ry;obtain⟨its,r,pl,hz⟩:=I.tuple hq;obtain⟨j,h1,h2,h3,h4,h5⟩:=uj he;obtain⟨w,ew,rw'⟩:=r.get h2;have hl:=r.length;have hn:=ma;have fin:EP X pins σ Q w s:=⟨z,H,I,rw',q⟩
 exact subscriptTail_builtinR (x:=w) pl.typeIs slot_tuple_getitem.lookup
  (getItem_tuple (j:=j) (Q:=λ r s'=>r=w/\EP X pins σ Q r s') pl (by omega) (by omega) (by rw [Jr,←hl];exact h1) (by simpa using ew) ⟨rfl,fin⟩) hs
theorem qO(its:List Value)(n j:Nat)(u:Value):Obj.mapSeq (·.setIfInBounds j u) { cls:=.type "list",data:=.seq its.toArray n }={ cls:=.type "list",data:=.seq (its.set j u).toArray n }:=by
 simp [Obj.mapSeq]
theorem Inv.lst{pins:List (Addr × Obj)}{σ:St}{H:Hp}{s:Shared}{p:Addr}{xs:List V}(I:Inv X pins σ H s)(h:H p=some (.lst xs)) :
  ∃ (its:List Value) (n:Nat),bq xs its/\s.heap.get? p=some { cls:=.type "list",data:=.seq its.toArray n }/\xs.length<=sizeLine:=by
 obtain⟨z,its,n,r,e⟩:=I.hok p _ h;exact⟨its,n,r,e,z⟩
theorem Inv.lstUpd{pins:List (Addr × Obj)}{σ:St}{H:Hp}{s:Shared}{p:Addr}{xs ys:List V}{its its':List Value}{n n':Nat}{f:Obj->Obj}(I:Inv X pins σ H s)(h:H p=some (.lst xs))
  (ho:s.heap.get? p=some { cls:=.type "list",data:=.seq its.toArray n }) (hf:f { cls:=.type "list",data:=.seq its.toArray n }={ cls:=.type "list",data:=.seq its'.toArray n' }) (r:bq ys its') (hz:ys.length<=sizeLine) (t:Nat) :
  Inv X pins σ (upd H p (.lst ys)) { s with heap:=s.heap.update p f,toks:=t }:=by
 have e:(s.heap.update p f).get? p=some { cls:=.type "list",data:=.seq its'.toArray n' }:=by
  rw [JE f ho (by rw [hf]<;>rfl),hf]
 refine I.write (x:=p) (e:=p) (by rw [h];trivial) (.inl rfl) (λ b u hb q=>(JQ _ _ (Jv hb)).trans q) ⟨_,e⟩ ?_;exact⟨hz,its',n',r,e⟩
def CY:V->V->V->Hp->(Hp->Prop)->Prop:=λ o i v H Q=>∃ p xs k j,o=.ref p/\i=.int k/\H p=some (.lst xs)/\ixN xs.length k=some j/\Q (upd H p (.lst (xs.set j v)))
theorem eN:Ir X CY:=by
 intro pins s σ H o i v ov iv u Q I ro ri rv h;obtain⟨p,xs,k,j,rfl,rfl,hp,hj,q⟩:=h;cases ro;obtain⟨t,rfl⟩:=ri;obtain⟨its,n,r,ho,hz⟩:=I.lst hp;obtain⟨h1,h2,h3,h4⟩:=tZ hj;have hl:=r.length;have hn:=ma
 have I':Inv X pins σ (upd H p (.lst (xs.set j v))) { s with heap:=s.heap.update p (Obj.mapSeq (·.setIfInBounds j u)) }:=
  I.lstUpd hp ho (qO its n j u) (r.set rv j) (by rw [LH];exact hz) s.toks
 by_cases h0:0<=k
 ·have hk:k.toNat=j:=by
   rw [seqIndex_of h0 h4] at h1;exact Jy h1
  exact W.ki_setAt ho h0 (by omega) (by rw [Jr,←hl];exact h4) (by rw [hk];exact⟨_,I',q⟩)
 ·have hk:(k+(its.toArray.size:Int)).toNat=j:=by
   rw [seqIndex_neg (by omega) h3] at h1;rw [Jr,←hl];exact Jy h1
  exact W.ki_setBack ho (by omega) (by rw [Jr,←hl];exact h3) (by omega) (by rw [hk];exact⟨_,I',q⟩)
theorem cE:bt X (.builtin "len") (λ xs H Q=>∃ p ys,xs=[.ref p]/\(SqL X.K H p ys\/SqT X.K H p ys)/\Q (.int ys.length) H):=by
 intro pins s σ H xs us Q I r h;obtain⟨p,ys,rfl,hq,q⟩:=h;obtain⟨u,rfl,rx⟩:=r8 r;cases rx;have hn:=ma
 rcases hq with hq|hq
 ·obtain⟨its,r',pl,hz⟩:=I.list hq;have hlen:=r'.length;exact Calls.call_len_list pl.isList (by simp only [Jr]<;>omega) ⟨.int ys.length,H,I.tok _,⟨s.toks+1,by rw [Jr,hlen]⟩,q⟩
 ·obtain⟨its,r',pl,hz⟩:=I.tuple hq;have hlen:=r'.length;exact len_tuple pl (by simp only [Jr]<;>omega) ⟨.int ys.length,H,I.tok _,⟨s.toks+1,by rw [Jr,hlen]⟩,q⟩
theorem nQ:bt X (.builtin "len") (λ xs H Q=>∃ z,xs=[.str z]/\z.length<=sizeLine/\Q (.int z.length) H):=by
 intro pins s σ H xs us Q I r h;obtain⟨z,rfl,hz,q⟩:=h;obtain⟨u,rfl,t,rfl⟩:=r8 r;have hn:=ma;exact len_str (by omega) ⟨.int z.length,H,I.tok _,⟨_,rfl⟩,q⟩
theorem bt.or{f:Value}{r r':List V->Hp->VK->Prop}(h:bt X f r)(h':bt X f r'):bt X f (λ xs H Q=>r xs H Q\/r' xs H Q):=by
 intro pins s σ H xs us Q I rs q
 rcases q with q|q
 ·exact h pins s σ H xs us Q I rs q
 ·exact h' pins s σ H xs us Q I rs q
theorem nP:bt X (.type "list") (λ xs H Q=>∃ p ys,xs=[.ref p]/\(SqL X.K H p ys\/SqT X.K H p ys)/\∀ l,H l=none->Q (.ref l) (upd H l (.lst ys))):=by
 intro pins s σ H xs us Q I r h;obtain⟨p,ys,rfl,hq,q⟩:=h;obtain⟨u,rfl,rx⟩:=r8 r;cases rx
 have fin:∀ (its:List Value),bq ys its->ys.length<=sizeLine->∀ (h':Heap) (c':Nat),(∀ b o',s.heap.get? b=some o'->h'.get? b=some o') →
   h'.get? s.heap.objs.size=some { cls:=.type "list",dict:=none,data:=.seq its.toArray c',slots:=#[] }->EP X pins σ Q (.ref s.heap.objs.size) { s with heap:=h' }:=λ its r' hz h' c' kp e=>
  ⟨.ref s.heap.objs.size,_,I.laid (t':=s.toks) kp (Je _) (show bO X.prog X.w _ h' _ (.lst ys) from ⟨hz,its,c',r',e⟩),rfl,q _ (I.hok.fresh (Je _))⟩
 rcases hq with hq|hq
 ·obtain⟨its,r',pl,hz⟩:=I.list hq;have hlen:=r'.length;obtain⟨o,ho,hc,n,hd⟩:=pl.isList;exact call_list_seq p (.inl rfl) ho hc hd (λ h' c' kp e=>fin its r' hz h' c' kp e) (by simp only [Jr]<;>omega)
 ·obtain⟨its,r',pl,hz⟩:=I.tuple hq;have hlen:=r'.length;obtain⟨o,ho,hc,n,hd⟩:=pl;exact call_list_seq p (.inr rfl) ho hc hd (λ h' c' kp e=>fin its r' hz h' c' kp e) (by simp only [Jr]<;>omega)
def tyV(K:W.Frag)(T:String)(x:V)(H:Hp):Prop:=match x with
 | .str _=>T = "str"
 | .int _=>T = "int"
 | .ref p=>(T = "list" /\ ∃ xs,SqL K H p xs)\/(T = "tuple" /\ ∃ o,K.lookup p=some o/\o.cls=.type "tuple" /\ o.dict=none) \/
   (T = "dict" /\ ((∃ kvs,H p=some (.dK kvs))\/∃ kvs,H p=some (.dT kvs)))\/(T = "set" /\ ∃ S n,H p=some (.set S n))
 | _=>False
theorem Dy{pins:List (Addr × Obj)}{σ:St}{H:Hp}{s:Shared}{T:String}{x:V}{v:Value}(I:Inv X pins σ H s)(r:bZ x v)(ty:tyV X.K T x H) :
  s.TypeIs v T/\∀ a,v=.ref a->∃ ob,s.heap.get? a=some ob/\ob.dict=none:=by
 cases x with
 | str z=>
  obtain⟨t,rfl⟩:=r;cases (show T = "str" from ty);exact⟨typeIs_str s z t,λ _ e=>nomatch e⟩
 | int i=>
  obtain⟨t,rfl⟩:=r;cases (show T = "int" from ty);exact⟨typeIs_int s i t,λ _ e=>nomatch e⟩
 | ref p=>
  cases r
  rcases ty with ⟨rfl,xs,hq⟩|⟨rfl,o,hk,hc,hd⟩|⟨rfl,hk⟩|⟨rfl,S,n,hk⟩
  ·obtain⟨its,_,pl,_⟩:=I.list hq;refine⟨pl.isList.typeIs,λ a e=>?_⟩;cases e;obtain⟨o,n,e,c,hd,_⟩:=pl;exact⟨o,e,hd⟩
  ·refine⟨⟨o,I.kIn p o hk,hc⟩,λ a e=>?_⟩;cases e;exact⟨o,I.kIn _ o hk,hd⟩
  ·have z:∃ o,s.heap.get? p=some o/\o.ExactDict:=by
    rcases hk with ⟨kvs,hk⟩|⟨kvs,hk⟩
    ·obtain⟨_,_,_,_,o,_,_,e,ex,_⟩:=I.hok p _ hk;exact⟨o,e,ex⟩
    ·obtain⟨_,_,_,_,o,_,_,e,ex,_⟩:=I.hok p _ hk;exact⟨o,e,ex⟩
   obtain⟨o,e,ex⟩:=z;refine⟨⟨o,e,ex.1⟩,λ a e2=>?_⟩;cases e2;exact⟨o,e,ex.2.1⟩
  ·obtain⟨o,_,_,_,e,ex,_⟩:=I.hok p _ hk;refine⟨⟨o,e,ex.1⟩,λ a e2=>?_⟩;cases e2;exact⟨o,e,ex.2.1⟩
 | _=>exact False.elim ty
def tBM(K:W.Frag)(T:String)(r:V->List V->Hp->VK->Prop)(to:TE)(t:TA):TE:=λ σ H Q=>to σ H λ x H1=>tyV K T x H1/\t σ H1 λ xs H2=>r x xs H2 Q
variable {o e:Expr}{es:List Expr}{to:TE}{t:TA}{name:Str}{apos cpos:Pos}{T id:String}{r:V->List V->Hp->VK->Prop}
theorem Gv(pa:PlainAttrs T)(slot:Slot T name id)(hty:typeOf (.builtin id)=pure (.type "method_descriptor"))(hm:MtR X id r)(ho:PE X o to)(ha:PA X (e::es) t)
  (hbase:attributeBase o name X.env (eval o X.env)=eval o X.env:=by rfl)
  (hfew:((backTo cpos (starEach (e::es) X.env)).all (λ x=>!x.1) && (backToKw cpos (keywordEach [] X.env)).all (λ x=>x.1.isSome)
   && decide ((e::es).length+([]:List Keyword).length+(if ([]:List Keyword).isEmpty then 0 else 1) < 30))=true:=by rfl)
  (hline:(apos.endLine == cpos.line)=true:=by rfl) (hs:starEach (e::es) X.env=(false,eval e X.env)::starEach es X.env:=by rfl) (hplain:(backTo cpos (starEach es X.env)).any (·.1)=false:=by rfl) :
  PE X (.Call (.Attribute o name apos) (e::es) [] cpos) (tBM X.K T r to t):=by
 intro pins s σ H Q I h;refine wpAny_Call_method_late hbase hfew hline rfl (thn (ho pins s σ H _ I h) λ v s1 ⟨x,H1,I1,r1,ty,q1⟩=>?_);obtain⟨h1,h2⟩:=Dy I1 r1 ty;refine⟨T,id,pa,slot,hty,h1,h2,?_⟩;have hA:=ha cpos pins s1 σ H1 _ I1 q1;rw [hs] at hA ⊢;refine Calls.callWith_builtin (by show (false || (backTo cpos (starEach es X.env)).any (·.1))=false;rw [hplain]<;>rfl) (Lv ?_);exact thn hA λ us s2 ⟨vs,H2,I2,r2,q2⟩=>hm pins s2 σ H2 x vs v us Q I2 r1 r2 q2
end
def MtM(X:Cx)(id:String)(r:V->List V->Hp->VK->Prop):Prop:=
 ∀ (pins:List (Addr × Obj)) (s:Shared) (σ:St) (H:Hp) (x:V) (xs:List V) (v:Value) (us:List Value) (Q:VK),Inv X pins σ H s->bZ x v->bq xs us->r x xs H Q →
  wpAny (model X.prog X.w) X.A (call (.builtin id) (v::us)) (EP X pins σ Q) X.xe s
theorem bq.one:∀ {x:V}{us:List Value},bq [x] us->∃ u,us=[u]/\bZ x u
 | _,_,.cons r .nil=>⟨_,rfl,r⟩
theorem bq.reverse{xs:List V}{us:List Value}(h:bq xs us):bq xs.reverse us.reverse:=by
 induction h with
 | nil=>exact .nil
 | cons r t ih=>rw [Lr,Lr];exact bq.append ih (.cons r .nil)
section
variable {X:Cx}{pins:List (Addr × Obj)}{σ:St}{H:Hp}{s:Shared}{l b:Addr}{xs ys zs:List V}
theorem Inv.lset{its its':List Value}{n:Nat}{f:Array Value->Array Value}{t':Nat}(I:Inv X pins σ H s)(hH:H l=some (.lst xs))
  (e:s.heap.get? l=some { cls:=.type "list",data:=.seq its.toArray n }) (hf:f its.toArray=its'.toArray) (hv:bq ys its') (hz:ys.length<=sizeLine) :
  Inv X pins σ (upd H l (.lst ys)) { s with heap:=s.heap.update l (Obj.mapSeq f),toks:=t' }:=by
 have q:=PySem.IsL.update e f;rw [hf] at q;refine I.write (x:=l) (e:=l) (by rw [hH];exact trivial) (.inl rfl) (λ b' u hb hu=>(JQ s.heap (Obj.mapSeq f) (Jv hb)).trans hu) ⟨_,q⟩ ?_;exact⟨hz,its',_,hv,q⟩
theorem Inv.lnew{its:List Value}{t':Nat}(I:Inv X pins σ H s)(hv:bq ys its)(hz:ys.length<=sizeLine) :
  Inv X pins σ (upd H s.heap.objs.size (.lst ys)) { s with heap:=s.heap.push { cls:=.type "list",data:=.seq its.toArray },toks:=t' }:=
 I.laid (λ _ _ q=>IW _ q) (Je _) ⟨hz,its,0,hv,Jf _ rfl⟩
theorem Inv.fresh(I:Inv X pins σ H s):H s.heap.objs.size=none:=I.hok.fresh (Je _)
theorem Inv.lstM(I:Inv X pins σ H s)(hH:H l=some (.lst xs)):xs.length<=sizeLine/\∃ (its:List Value) (n:Nat),bq xs its/\xs.length=its.length/\s.heap.get? l=some { cls:=.type "list",data:=.seq its.toArray n }:=by
 obtain⟨z,its,n,r,e⟩:=I.hok l _ hH;exact⟨z,its,n,r,r.length,e⟩
theorem xC{n:Nat}(h:n<=sizeLine):Builtin.List.listTooLong n=false:=by
 unfold Builtin.List.listTooLong;exact decide_eq_false (by omega)
end
section
variable {X:Cx}
def tH:V->List V->Hp->VK->Prop:=λ x vs H Q=>∃ l xs y,x=.ref l/\vs=[y]/\H l=some (.lst xs)/\xs.length < sizeLine/\Q .non (upd H l (.lst (xs++[y])))
theorem eo:MtM X "list.append" tH:=by
 intro pins s σ H x vs v us Q I rx rv h;obtain⟨l,xs,y,rfl,rfl,hH,hz,q⟩:=h;cases rx;obtain⟨u,rfl,ru⟩:=rv.one;obtain⟨z,its,n,r,hl,e⟩:=I.lstM hH;refine call_meets F.slot_list_append ⟨_,e,rfl⟩ F.entry_list_append (F.args_list_append_2 _ _) (PySem.list_append l its.toArray n u (by rw [Jr];omega)) ⟨e,?_⟩;refine⟨.non,_,I.lset (its':=its++[u]) hH e (by simp) (r.append (.cons ru .nil)) ?_,rfl,q⟩;rw [J0,List.length_singleton];omega
def tG:V->List V->Hp->VK->Prop:=λ x vs H Q=>∃ l b xs zs,x=.ref l/\vs=[.ref b]/\H l=some (.lst xs)/\H b=some (.lst zs)/\xs.length+zs.length<=sizeLine/\Q .non (upd H l (.lst (xs++zs)))
theorem mw:MtM X "list.extend" tG:=by
 intro pins s σ H x vs v us Q I rx rv h;obtain⟨l,b,xs,zs,rfl,rfl,hH,hB,hz,q⟩:=h;cases rx;obtain⟨u,rfl,ru⟩:=rv.one;cases ru;obtain⟨z,its,n,r,hl,e⟩:=I.lstM hH;obtain⟨z2,its2,n2,r2,hl2,e2⟩:=I.lstM hB;have hsz:its.toArray.size+its2.toArray.size<=sizeLine:=by rw [Jr,Jr];omega
 have hlong:¬ (!its.toArray.isEmpty && Builtin.List.listTooLong (its.toArray.size+its2.toArray.size))=true:=by
  rw [xC hsz,Bool.and_false];exact Ji
 refine call_meets F.slot_list_extend ⟨_,e,rfl⟩ F.entry_list_extend (F.args_list_extend_2 _ _)
  (AutoSeq1.list_extend_list_list_0 l its.toArray n b its2.toArray n2 hlong (by rw [Jr];omega) (by omega)) ⟨e,e2,?_⟩
 refine⟨.non,_,I.lset (its':=its++its2) hH e (by simp) (r.append r2) ?_,rfl,q⟩;rw [J0];omega
def HH:R2:=λ x y H Q=>∃ l b xs zs,x=.ref l/\y=.ref b/\H l=some (.lst xs)/\H b=some (.lst zs)/\xs.length+zs.length<=sizeLine/\∀ p,H p=none->Q (.ref p) (upd H p (.lst (xs++zs)))
theorem DX:OpR X (binaryOp .Add) HH:=by
 intro pins s σ H x y v u Q I rx ry h;obtain⟨l,b,xs,zs,rfl,rfl,hH,hB,hz,q⟩:=h;cases rx;cases ry;obtain⟨z,its,n,r,hl,e⟩:=I.lstM hH;obtain⟨z2,its2,n2,r2,hl2,e2⟩:=I.lstM hB;refine PySem.P.add_list e e2 ?_ (by rw [Jr,Jr];omega);have ea:its.toArray++its2.toArray=(its++its2).toArray:=by simp
 rw [ea];exact⟨.ref _,_,I.lnew (t':=s.toks) (r.append r2) (by rw [J0];omega),rfl,q _ I.fresh⟩
end
section
variable {prog:Program}{w:World}{A:Around}{E:Value->Shared->Prop}{s:Shared}
end
section
variable {X:Cx}
end
end L2
namespace Att
open PySem PySem.W PySem.Calls PyProof.Rows
theorem jk{P:Params}{h:Heap}:∀ (ns:List Int) (vs:List Value),WellAll P h vs (ns.map WData.int)->IntsAre vs ns:=by
 intro ns
 induction ns with
 | nil=>
  intro vs w;rw [map_nil] at w;cases w;exact .nil
 | cons n ns ih=>
  intro vs w;rw [JY] at w
  cases w with
  | cons a b=>
   cases a;exact .cons _ _ (ih _ b)
theorem uz{l:OpenLaw}{n:Nat}(hn:l.most=some n){P:Params}{h:Heap}{args:List WData}{vals:List Value}
  (hpre:l.row.toRowW.claim.pre args=true) (hwl:WellAll P h vals args) :
  ∃ a vs ns,vals=[Value.ref a]/\args=[WData.list (ns.map WData.int)]/\h.get? a=some { cls:=.type "list",data:=.seq vs.toArray }/\IntsAre vs ns/\ns.length<=n:=by
 have hsh:WShape.hasAll [] args [.list .int]=true:=(pre_splitW hpre).1;have hc:l.pre.holds [] { args:=args }=true:=(pre_splitW hpre).2;obtain⟨d,r,rfl,h1,h2⟩:=hasAllW_cons hsh;obtain rfl:=hasAllW_nil h2;obtain⟨xs,rfl,h3⟩:=hasW_list h1;obtain⟨ns,rfl⟩:=items_int h3
 have hlen:ns.length<=n:=by
  unfold OpenLaw.pre at hc
  have h4:(WTm.not (.lt (.lit (.int (n:Int))) (.len (.arg 0)))).holds [] { args:=[.list (ns.map .int)] }=true:=by
   have h4:=(holds_andW hc).1;rw [hn] at h4;exact h4
  have h5:=condW_of h4 (w_not (w_lt w_lit (w_len_list (w_arg rfl))));rw [Jg] at h5;refine KZ λ q=>?_;have q':(n:Int) < ((ns.length:Nat):Int):=by omega
  first
   | (rw [decide_eq_true q'] at h5;exact absurd h5 (by decide))
   | (simp at h5;omega)
 cases hwl with
 | cons w1 w2=>
  cases w2
  cases w1 with
  | list ho hall=>exact⟨_,_,ns,rfl,rfl,ho,jk ns _ hall,hlen⟩
theorem uB(l:OpenLaw)(args:List WData):l.row.toRowW.claim.post args (.bool true) args=true:=
 postW_of (r:=l.row.toRowW) (X:=(true == true))
  (show WShape.has [] (.bool true) .bool=true by first|rfl|decide|simp [WShape.has,WShape.arms,WShape.armsAll])
  (show (WTm.eq .res (.lit (.bool true))).value [] { args:=args,res:=some (.bool true),after:=args }=some (.bool (true == true)) from w_eq_bool (w_res rfl) w_lit) rfl
theorem attach_call{l:OpenLaw}{n:Nat}{q:Program}{loose:List Str}{XP:(Str->Option Value)->Heap->Prop}{YP:World->Heap->Prop}{d:DefRec}
  (hn:l.most=some n) (hdf:d.params.defaults=[])
  (call:∀ (w:World) (s₀ s₁:Shared) (mg mb:Str->Option Value) (fa:Addr) (o:Obj) (pm cd doc:Value) (a:Addr) (vs:List Value) (ns:List Int),
   Ground q loose [] XP w s₀ mg mb s₁.heap->YP w s₁.heap →
   s₁.heap.get? fa=some o->o.data=.func (docDef d.name d.params d.body d.scope pm cd doc)->s₁.heap.CodeRec cd d.name->mg d.name=some (.ref fa) →
   s₁.heap.get? a=some { cls:=.type "list",data:=.seq vs.toArray }->IntsAre vs ns->ns.length<=n->s₁.gens=#[] →
   codeAny (model l.prog w) callerA (.call (.ref fa) ⟨[.ref a],[]⟩) (λ r s'=>r=.ok (.ret (.bool true))/\OldK s₁.heap s'.heap/\s'.os=s₁.os/\AllBare s'.gens) s₁) :
  WalkO q loose XP YP l.row.toRowW d [] (λ f vs=>PySem.call f vs):=by
 intro w s₀ s₁ mg mb G Y fa o pm cd doc dV kV ho hd hcd hD hmg hg args vals as hpre hlay hrd hwl hlo;obtain rfl:dV=.none:=Dflts.none hD hdf;obtain rfl:kV=.none:=Dflts.noKw hD;obtain⟨a,vs,ns,rfl,rfl,hobj,hints,hlen⟩:=uz hn hpre hwl;refine enter_call (JK (call w s₀ s₁ mg mb fa o pm cd doc a vs ns G Y ho (fd_plain hd) hcd hmg hobj hints hlen hg) λ r s' hq=>?_);obtain⟨rfl,h2,h3,h4⟩:=hq;exact⟨.inl ⟨.bool true,.bool true,[],rfl,λ _=>rfl,.bool true,uB l _,λ _=>⟨List.Pairwise.nil,λ _ hm=>(nomatch hm)⟩⟩,h2,h3,h4⟩
section
variable {prog:Program}{w:World}{A:Around}{E:Value->Shared->Prop}{s:Shared}{K:Frag}
def Iv(h:Heap)(L d:Addr):List (Addr × Obj):=(List.range h.objs.size).filterMap λ a=>if a=L\/a=d then none else (h.get? a).map λ o=>(a,o)
end
end Att
namespace L2
open PySem PySem.Spec PyProof.Rows
theorem mi:∀ {vs:List Value}{ns:List Int},IntsAre vs ns->bq (ns.map V.int) vs
 | _,_,.nil=>.nil
 | _,_,.cons n t h=>.cons ⟨t,rfl⟩ (mi h)
def Gj(H:Hp):Prop:=∀ b,H b=none\/∃ o xs,H b=some (.frz o (.lst xs))
theorem x6{P:Program}{w:World}{K:W.Frag}{mg mb:Str->Option Value}{CX:CXT}{k:Nat}{fa a:Addr}{fd:FuncData}{x:Str}{sp:Sp}{s₁:Shared}{vs:List Value}{ns:List Int}
  (KX:K.In s₁.heap) (hns:s₁.heap.Ns mainGlobals mg) (hb:s₁.heap.Ns builtinsNs mb) (hbb:∀ x:Str,x ≠ "__name__" → mb x=bootBuiltins x) (hlim:s₁.heap.NoLimit) (hg:s₁.gens=#[])
  (ha:s₁.heap.get? a=some { cls:=.type "list",data:=.seq vs.toArray }) (hi:IntsAre vs ns) (hl:ns.length<=sizeLine) (hr:eM k callerA)
  (F:∀ base:Heap,K.In base->base.Ns mainGlobals mg->aB P w K mg base CX k fa fd [x] sp) (hbind:∀ (s:Shared) (u:Value),BindsTo s fd ⟨[u],[]⟩ [(x,u)])
  (hsp:∀ H:Hp,Gj H->SqL K H a (ns.map V.int)->sp [.ref a] H (λ v _=>v=.bl true) λ _ _ _=>False)
  (hCX:∀ H e s',CX [] H s₁ (λ _ _ _=>False) e s'->False) :
  codeAny (model P w) callerA (.call (.ref fa) ⟨[.ref a],[]⟩) (λ r s'=>r=.ok (.ret (.bool true))/\OldK s₁.heap s'.heap/\s'.os=s₁.os/\AllBare s'.gens) s₁:=by
 have rv:=mi hi;have lenV:=hi.length
 have core:∀ H:Hp,Gj H->SqL K H a (ns.map V.int)->HOk P w H s₁.heap->(∀ b,H b ≠ none->b=a)->(H a ≠ none->K.lookup a=none) →
   codeAny (model P w) callerA (.call (.ref fa) ⟨[.ref a],[]⟩) (λ r s'=>r=.ok (.ret (.bool true))/\OldK s₁.heap s'.heap/\s'.os=s₁.os/\AllBare s'.gens) s₁:=by
  intro H hO hS hok hA hK;have base_of:∀ {b:Addr} {o:Obj},s₁.heap.get? b=some o->H b=none->(wC s₁.heap H).get? b=some o:=λ e n=>yw e n
  have noA:∀ {b:Addr} {o:Obj} {es:Array DictEntry} {ep:Nat},s₁.heap.get? b=some o->o.data=.dict es ep->H b=none:=λ {b o es ep} e d=>by
   cases q:H b with
   | none=>rfl
   | some u=>
    have e':b=a:=hA b (by rw [q];simp);subst e';rw [ha] at e;cases e;have d':Data.seq vs.toArray _=Data.dict es ep:=d;cases d'
  have nsK:∀ {b:Addr} {m:Str->Option Value},s₁.heap.Ns b m->(wC s₁.heap H).Ns b m:=λ {b m} ⟨o,es,ep,e,d,r⟩=>⟨o,es,ep,base_of e (noA e d),d,r⟩
  have hKb:K.In (wC s₁.heap H):=λ b o e=>base_of (KX b o e) (by
   cases q:H b with
   | none=>rfl
   | some u=>
    have e':b=a:=hA b (by rw [q];simp);subst e';rw [hK (by rw [q];simp)] at e;cases e)
  have hM:Mod K mg (wC s₁.heap H):=⟨hKb,nsK hns,⟨mb,nsK hb,hbb⟩,let ⟨mc,h1,h2⟩:=hlim;⟨mc,nsK h1,h2⟩⟩;have e0:wG P w K mg (wC s₁.heap H) callerA [] s₁ H:=⟨rfl,hM,λ b o e=>A8 e,KO (vN _ _),trivial,λ b hb=>absurd (show b∈([]:List Addr) from hb) (by simp),hok,.of_eq hg⟩;refine JK ((F _ hKb (nsK hns)).run callerA [] s₁ H ⟨[.ref a],[]⟩ [.ref a] [.ref a] _ _ hr e0 (hbind s₁ (.ref a)) (.cons rfl .nil) (hsp H hO hS)) λ r s' h=>?_
  cases r with
  | error e=>exact(hCX H e s' h).elim
  | ok fl=>
   cases fl with
   | next=>exact False.elim h
   | brk=>exact False.elim h
   | cont=>exact False.elim h
   | ret u=>
    obtain⟨v,H',os,bare,un,hok',r',q⟩:=h;have q':v=.bl true:=q;subst q';obtain rfl:u=Value.bool true:=r';refine⟨rfl,OldK.of_keep λ b o e=>?_,os,bare⟩
    cases q:H b with
    | none=>exact un.keep b o e q (by intro z;exact absurd (show b∈([]:List Addr) from z) (by simp)) (by simp)
    | some u=>
     rcases hO b with z|⟨ob,xs,z⟩
     ·rw [q] at z;cases z
     ·have z2:=un.frzs b ob _ z;obtain⟨e1,_⟩:=hok b _ z;obtain⟨e2,_⟩:=hok' b _ z2;rw [e] at e1;cases e1;exact e2
 cases hk:K.lookup a with
 | some o=>
  have e:=KX a o hk;rw [ha] at e;cases e;refine core (λ _=>none) (λ _=>.inl rfl) (.inr ⟨_,vs.toArray,_,hk,rfl,rfl,rfl,by rw [Jr,lenV];exact hl,by simpa using rv⟩) (λ b u z=>by have z':(none:Option HO)=some u:=z;cases z') (λ b z=>absurd rfl z) λ z=>absurd rfl z
 | none=>
  refine core (λ b=>if b=a then some (.frz { cls:=.type "list",data:=.seq vs.toArray } (.lst (ns.map V.int))) else none) (λ b=>?_) (.inl (.inr ⟨{ cls:=.type "list",data:=.seq vs.toArray },Jw rfl⟩)) (λ b u z=>?_) (λ b z=>?_) λ _=>hk
  ·by_cases hb:b=a
   ·exact .inr ⟨_,_,Jw hb⟩
   ·exact .inl (Jt hb)
  ·by_cases hb:b=a
   ·have z':=(Jw hb).symm.trans z;cases z';subst hb;exact⟨ha,by rw [Jg];exact hl,vs,_,rv,ha⟩
   ·have z':=(Jt hb).symm.trans z;cases z'
  ·by_cases hb:b=a
   ·exact hb
   ·exact absurd (Jt hb) z
abbrev KOf{K:PySem.W.Frag}{h:Heap}(_:K.In h):PySem.W.Frag:=K
theorem Hu{l:W.OpenLaw}{n k:Nat}{q:Program}{loose:List Str}{XP:(Str->Option Value)->Heap->Prop}{YP:World->Heap->Prop}{d:DefRec}{K:Params->W.Frag}{CX:World->CXT}{sp:World->Sp}{x:Str}
  (hn:l.most=some n) (hn2:n<=sizeLine) (hdf:d.params.defaults=[]) (hr:eM k callerA)
  (hY:∀ (w:World) (h:Heap),YP w h->(K w.params).In h)
  (F:∀ (w:World) (mg:Str->Option Value) (fa:Addr) (h:Heap),(K w.params).In h->h.Ns mainGlobals mg->mg d.name=some (.ref fa) →
   ∃ fd:FuncData,(∀ (s:Shared) (u:Value),BindsTo s fd ⟨[u],[]⟩ [(x,u)]) /\
    ∀ base:Heap,(K w.params).In base->base.Ns mainGlobals mg->aB l.prog w (K w.params) mg base (CX w) k fa fd [x] (sp w))
  (hsp:∀ (w:World) (H:Hp) (a:Addr) (ns:List Int),ns.length<=n->Gj H->SqL (K w.params) H a (ns.map V.int)->sp w [.ref a] H (λ v _=>v=.bl true) λ _ _ _=>False)
  (hCX:∀ (w:World) (H:Hp) (s:Shared) (e:Value) (s':Shared),CX w [] H s (λ _ _ _=>False) e s'->False) :
  W.WalkO q loose XP YP l.row.toRowW d [] (λ f vs=>PySem.call f vs):=by
 refine Att.attach_call hn hdf λ w s₀ s₁ mg mb fa o pm cd doc a vs ns G Y ho hd hcd hmg hobj hints hlen hg=>?_;have KX:=hY w _ Y;obtain⟨fd,hb,hF⟩:=F w mg fa _ KX G.T.g hmg;exact x6 KX G.T.g G.T.b G.T.builtins G.T.nolimit hg hobj hints (Ju hlen hn2) hr hF hb (λ H hO hS=>hsp w H a ns hlen hO hS) λ H e s'=>hCX w H s₁ e s'
def av(s:Stmt)(j:Nat):Stmt:=match s with
 | .ClassDef _ _ _ body _ _ _ _ _ _ _=>body.getD j (.Pass ⟨0,0,0,0⟩)
 | _=>.Pass ⟨0,0,0,0⟩
def fi(s:Stmt):Arguments:=match s with
 | .FunctionDef _ a _ _ _ _ _ _ _ _=>a
 | _=>{ posonlyargs:=[],args:=[],vararg:=none,kwonlyargs:=[],kw_defaults:=[],kwarg:=none,defaults:=[] }
def cK(s:Stmt):List Stmt:=match s with
 | .FunctionDef _ _ b _ _ _ _ _ _ _=>b
 | _=>[]
def aa(s:Stmt):Scope:=match s with
 | .FunctionDef _ _ _ _ _ _ sc _ _ _=>sc
 | _=>{ kind:=.function,names:=[],isGenerator:=false,isCoroutine:=false }
abbrev CX0:CXT:=λ _ _ _ _ _ _=>False
abbrev E0:XK:=λ _ _ _=>False
theorem aC{X:Cx}:ei CX0 X E0:=λ _ _ _ _ _ _ _ h=>h.elim
structure Fun(K:W.Frag)(x qual:Str)(st:Stmt)(f:Addr)(fd:FuncData):Prop where
 ex:∃ (oc:Value) (od:Option Addr) (kV doc pm:Value) (an:Option Addr) (cdv ct:Value) (osl:Array (Option Value)),
  fd=W.fnOf x qual (fi st) (cK st) (aa st) .none kV doc pm an cdv ct/\K.lookup f=some ⟨oc,od,.func fd,osl⟩/\W.codeIn K cdv qual=true
 kp:W.keepIn K (.ref f)=true
section
variable {P:Program}{w:World}{K:PySem.W.Frag}{mg:Str->Option Value}{base:Heap}
theorem Fun.ok{x qual:Str}{st:Stmt}{f:Addr}{fd:FuncData}{N ps:List Str}{k:Nat}{sp:Sp}(F:Fun K x qual st f fd)(S:ae N ps (aa st))(len:∀ vs H Q E,sp vs H Q E->vs.length=ps.length)
  (hbody:∀ (cdv:Value) (A:Around) (outer:List Env) (s:Shared) (H:Hp) (vs:List V) (Q:VK) (E:XK),eM k (A.deeper (envOfC qual (aa st) s.heap.objs.size f cdv))->sp vs H Q E →
   ∃ t,PSs (lT CX0 P w K mg base N qual (aa st) f cdv A outer s H E).nox (cK st) t/\t { nx:=λ _ H'=>Q .non H',rt:=Q } (ak N vs) H):aB P w K mg base CX0 (k+1) f fd ps sp:=by
 obtain⟨oc,od,kV,doc,pm,an,cdv,ct,osl,rfl,lk,hcd⟩:=F.ex;refine Dr lk hcd S len λ A outer s H vs Q E hr hsp=>?_;obtain⟨t,h,q⟩:=hbody cdv A outer s H vs Q E hr hsp;exact⟨t,h.nox,q⟩
theorem Fun.binds{x qual:Str}{st:Stmt}{f:Addr}{fd:FuncData}{ps:List Str}(F:Fun K x qual st f fd)
  (h:∀ (kV doc pm:Value) (an:Option Addr) (cdv ct:Value) (us:List Value),us.length=ps.length->bindArgs (W.fnOf x qual (fi st) (cK st) (aa st) .none kV doc pm an cdv ct) ⟨us,[]⟩=pure (ps.zip us)):aq K fd ps []:=by
 obtain⟨oc,od,kV,doc,pm,an,cdv,ct,osl,rfl,lk,hcd⟩:=F.ex;exact .all (h kV doc pm an cdv ct)
theorem Fc{x qual:Str}{st:Stmt}{f:Addr}{oc:Value}{od an:Option Addr}{osl:Array (Option Value)}{kV doc pm cdv ct:Value}(l:K.lookup f=some ⟨oc,od,.func (W.fnOf x qual (fi st) (cK st) (aa st) .none kV doc pm an cdv ct),osl⟩)
  (c:W.codeIn K cdv qual=true) (k:W.keepIn K (.ref f)=true):Fun K x qual st f (W.fnOf x qual (fi st) (cK st) (aa st) .none kV doc pm an cdv ct):=⟨⟨oc,od,kV,doc,pm,an,cdv,ct,osl,rfl,l,c⟩,k⟩
end
theorem uy{n:Nat}(h:n<=1000):n < sizeLine:=Nat.lt_of_le_of_lt h (by decide)
section
variable {X:Cx}
theorem pv(i:Nat){x:Str}{pos:Pos}(hN:X.N[i]? = some x:=by rfl)(hv:Vis X.env.scope x:=by first|exact Or.inl rfl|exact Or.inr (Or.inl rfl)|exact Or.inr (Or.inr rfl))(hd:(x == ("__debug__":Str))=false:=by decide)
  (hcd:(x == ("__classdict__":Str))=false:=by decide):PE X (.Name x pos) (FC i):=DN hN hv hd hcd
end
theorem Ig{c A B:Prop}[Decidable c](h1:c->A)(h2:¬ c->B):if c then A else B:=by
 by_cases h:c
 ·rw [Jw h];exact h1 h
 ·rw [Jt h];exact h2 h
def lV(H H':Hp):Prop:=∀ b o,H b=some o->H' b=some o
theorem lV.refl(H:Hp):lV H H:=λ _ _ h=>h
theorem lV.trans{H H1 H2:Hp}(a:lV H H1)(b:lV H1 H2):lV H H2:=λ c o h=>b c o (a c o h)
theorem lV.free{H H':Hp}(e:lV H H'){l:Addr}(h:H' l=Option.none):H l=Option.none:=by
 cases q:H l with
 | none=>rfl
 | some o=>
  rw [e l o q] at h;cases h
theorem lV.seq{K:W.Frag}{H H':Hp}{a:Addr}{xs:List V}(e:lV H H')(h:SqL K H a xs):SqL K H' a xs:=by
 rcases h with (h|⟨o,h⟩)|h
 ·exact .inl (.inl (e _ _ h))
 ·exact .inl (.inr ⟨o,e _ _ h⟩)
 ·exact .inr h
section
variable {κ:Type}[DecidableEq κ]
end
section
variable {P:Program}{w:World}{H:Hp}{h:Heap}{a:Addr}
end
section
variable {X:Cx}{pins:List (Addr × Obj)}{σ:St}{H:Hp}{s:Shared}{a:Addr}{y v:V}{u r:Value}{o:Option V}{A:Around}{E:Value->Shared->Prop}
end
section
variable {X:Cx}{pins:List (Addr × Obj)}{σ:St}{H:Hp}{s:Shared}{a:Addr}{kvs:List (Key × V)}{k:Key}{u:Value}{A:Around}{E:Value->Shared->Prop}
end
section
variable {X:Cx}{o i e value:Expr}{pos pos' tpos:Pos}{td ty tv:TE}
end
section
variable {X:Cx}{pos:Pos}
end
structure M1(X:Cx)(o:Expr)(m:Str)(apos:Pos)(e:Expr)(cpos:Pos):Prop where
 base:attributeBase o m X.env (eval o X.env)=eval o X.env
 few:((backTo cpos (starEach [e] X.env)).all (λ x=>!x.1) && (backToKw cpos (keywordEach [] X.env)).all (λ x=>x.1.isSome)
  && decide (([e]:List Expr).length+([]:List Keyword).length+(if ([]:List Keyword).isEmpty then 0 else 1) < 30))=true
 line:(apos.endLine == cpos.line)=true
 trees:backTo cpos (starEach [e] X.env)=[(false,eval e X.env)]
structure M2(X:Cx)(o:Expr)(m:Str)(apos:Pos)(e f:Expr)(cpos:Pos):Prop where
 base:attributeBase o m X.env (eval o X.env)=eval o X.env
 few:((backTo cpos (starEach [e,f] X.env)).all (λ x=>!x.1) && (backToKw cpos (keywordEach [] X.env)).all (λ x=>x.1.isSome)
  && decide (([e,f]:List Expr).length+([]:List Keyword).length+(if ([]:List Keyword).isEmpty then 0 else 1) < 30))=true
 line:(apos.endLine == cpos.line)=true
 trees:backTo cpos (starEach [e,f] X.env)=[(false,eval e X.env),(false,eval f X.env)]
section
variable {X:Cx}{pins:List (Addr × Obj)}{σ:St}{H:Hp}{s:Shared}{a:Addr}{y d:V}{u r:Value}{o:Option V}{A:Around}{E:Value->Shared->Prop}
end
section
variable {X:Cx}{o e f:Expr}{apos cpos:Pos}{td ty tx:TE}
end
section
variable {X:Cx}{pins:List (Addr × Obj)}{σ:St}{H:Hp}{s:Shared}{a:Addr}{kvs:List (Key × V)}{A:Around}{E:Value->Shared->Prop}
end
section
variable {X:Cx}{pins:List (Addr × Obj)}{σ:St}{H:Hp}{s:Shared}{a:Addr}{y:V}{u:Value}{A:Around}{E:Value->Shared->Prop}
end
section
variable {κ:Type}[DecidableEq κ]
end
section
variable {X:Cx}
def An(i j:Int):Prop:=i.natAbs < 2 ^ 256/\j.natAbs < 2 ^ 256
theorem uh{i:Int}(h:i.natAbs < 2 ^ 256):Builtin.Int.intBits i<=2 ^ 20:=Ju (intBits_le h) (by decide)
theorem A4:OpR X (binaryOp .Mult) (rI An λ i j=>.int (i * j)):=opI λ _ _ _ _ _ _ _ hc q=>mul_int q (IntMulOk.of_bits (uh hc.1) (uh hc.2))
theorem yK:bt X (.builtin "isinstance") (λ xs H Q=>∃ x n ty b,xs=[x,.ty n]/\og X.K H x ty/\W.kitOne X.K ty (.type n)=some b/\Q (.bl b) H):=by
 intro pins s σ H xs us Q I r h;obtain⟨x,n,ty,b,rfl,hty,hk,q⟩:=h;obtain⟨u,w',rfl,rx,rc⟩:=ix r;cases (show w'=Value.type n from rc);exact iT I rx hty hk (λ tk=>⟨.bl b,H,I.tok _,rfl,q⟩)
theorem vL(K:W.Frag)(A B:String)(r:Bool)
  (h:(if (Value.type A == Value.type B)=true then some true else if W.kitMeta B=true then (fastBuiltinMro A).map (·.contains (.type B)) else none)=some r):W.kitOne K (.type A) (.type B)=some r:=h
mutual
inductive kn (K:PySem.W.Frag) (H:Hp):V->PyData->Prop
 | non:kn K H .non .none
 | bl (b:Bool):kn K H (.bl b) (.bool b)
 | int (i:Int):kn K H (.int i) (.int i)
 | str (x:Str):kn K H (.str x) (.str x)
 | lst {a:Addr} {xs:List V} {ds:List PyData} (h:SqL K H a xs) (r:iA K H xs ds):kn K H (.ref a) (.list ds)
 | tup {a:Addr} {xs:List V} {ds:List PyData} (h:SqT K H a xs) (r:iA K H xs ds):kn K H (.ref a) (.tuple ds)
inductive iA (K:PySem.W.Frag) (H:Hp):List V->List PyData->Prop
 | nil:iA K H [] []
 | cons {x:V} {d:PyData} {xs:List V} {ds:List PyData} (h:kn K H x d) (t:iA K H xs ds):iA K H (x::xs) (d::ds)
end
mutual
theorem kn.reads{pins:List (Addr × Obj)}{σ:St}{H:Hp}{s:Shared}(I:Inv X pins σ H s):∀ {x:V}{d:PyData}{u:Value},kn X.K H x d->bZ x u->∃ as,Reads s.heap u d as
 | _,_,_,.non,r=>by cases (show _=Value.none from r);exact⟨_,.none⟩
 | _,_,_,.bl b,r=>by cases (show _=Value.bool b from r);exact⟨_,.bool b⟩
 | _,_,_,.int i,r=>by obtain⟨t,rfl⟩:=r;exact⟨_,.int i t⟩
 | _,_,_,.str x,r=>by obtain⟨t,rfl⟩:=r;exact⟨_,.str x t⟩
 | _,_,_,@kn.lst _ _ a xs ds h q,r=>by
  cases (show _=Value.ref a from r);obtain⟨its,hv,hp,_⟩:=I.list h;obtain⟨o,n,e,c,_,d⟩:=hp;obtain⟨as,z⟩:=iA.reads I q hv;exact⟨_,.list e c d (by simpa using z)⟩
 | _,_,_,@kn.tup _ _ a xs ds h q,r=>by
  cases (show _=Value.ref a from r);obtain⟨its,hv,hp,_⟩:=I.tuple h;obtain⟨o,e,c,n,d⟩:=hp;obtain⟨as,z⟩:=iA.reads I q hv;exact⟨_,.tuple e c d (by simpa using z)⟩
theorem iA.reads{pins:List (Addr × Obj)}{σ:St}{H:Hp}{s:Shared}(I:Inv X pins σ H s):∀ {xs:List V}{ds:List PyData}{us:List Value},iA X.K H xs ds->bq xs us->∃ as,ReadsAll s.heap us ds as
 | _,_,_,.nil,.nil=>⟨_,.nil⟩
 | _,_,_,.cons h t,.cons r q=>by
  obtain⟨as,z⟩:=kn.reads I h r;obtain⟨bs,y⟩:=iA.reads I t q;exact⟨_,.cons z y⟩
end
def ID(K:W.Frag):R2:=λ x y H Q=>∃ d e,kn K H x d/\kn K H y e/\SeqAt.shaped d=true/\SeqAt.shaped e=true/\Q (.bl (PyData.eqv d e)) H
def IA(K:W.Frag):R2:=λ x y H Q=>∃ d e,kn K H x d/\kn K H y e/\SeqAt.shaped d=true/\SeqAt.shaped e=true/\Q (.bl (!PyData.eqv d e)) H
theorem DW(hu:X.A.units+64 < cLine):OpR X (compareOp .Eq) (ID X.K):=by
 intro pins s σ H x y v u Q I rx ry h;obtain⟨d,e,hd,he,sd,se,q⟩:=h;obtain⟨as,z⟩:=hd.reads I rx;obtain⟨bs,z'⟩:=he.reads I ry;exact SeqAt.compareEq_shaped z z' sd se hu ⟨.bl _,H,I,rfl,q⟩
theorem DV(hu:X.A.units+64 < cLine):OpR X (compareOp .NotEq) (IA X.K):=by
 intro pins s σ H x y v u Q I rx ry h;obtain⟨d,e,hd,he,sd,se,q⟩:=h;obtain⟨as,z⟩:=hd.reads I rx;obtain⟨bs,z'⟩:=he.reads I ry;exact SeqAt.compareNe_shaped z z' sd se hu ⟨.bl _,H,I,rfl,q⟩
end
theorem xc{H:Hp}{p:Addr}{o:HO}(h:H p=none):lV H (upd H p o):=λ b u e=>by
 rw [ai (aT e h)];exact e
theorem zB{α:Type}(xs:List α)(i:Int)(h0:0<=i)(h1:i < xs.length):∃ v,atI xs i=some v/\v∈xs:=by
 have hl:i.toNat < xs.length:=by omega
 refine⟨xs[i.toNat],?_,KA hl⟩;have e:((i.toNat:Nat):Int)=i:=by omega
 have:=aV (xs:=xs) (j:=i.toNat) (v:=xs[i.toNat]) (IX hl);rw [e] at this;exact this
theorem qh(ns:List Int)(i:Int)(h0:0<=i)(h1:i < ns.length):∃ z,atI (ns.map V.int) i=some (.int z)/\z∈ns:=by
 obtain⟨v,e,m⟩:=zB (ns.map V.int) i h0 (by simpa using h1);obtain⟨z,hz,rfl⟩:=JI.mp m;exact⟨z,e,hz⟩
def lU(cells:List (Str × Addr)):List (Str × NameKind)->List (Str × Addr)->List (Str × Addr)
 | [],acc=>acc
 | (n,k)::r,acc=>if (k == .free)=true then lU cells r ((n,(cells.lookup n).getD 0)::acc) else lU cells r acc
theorem fF{env:Env}:∀ (names:List (Str × NameKind)) (acc:List (Str × Addr)),(∀ y∈names,y.2=.free->∃ c,env.cells.lookup y.1=some c) →
  (forIn names acc (λ (x:Str × NameKind) (cs:List (Str × Addr))=>match x with
   | (name,kind)=>if (kind == .free)=true then (do let a ←cellOf env name;pure (ForInStep.yield ((name,a)::cs))) else (do pure PUnit.unit;pure (ForInStep.yield cs))):Sem (List (Str × Addr)))=pure (lU env.cells names acc)
 | [],acc,_=>rfl
 | (n,k)::r,acc,h=>by
  rw [LJ];have hr:∀ y∈r,y.2=.free->∃ c,env.cells.lookup y.1=some c:=λ y hy=>h y (Jk _ hy)
  by_cases hk:(k == .free)=true
  ·obtain⟨c,hc⟩:=h (n,k) mem_cons_self (by simpa using hk);have hc':env.cells.lookup n=some c:=hc;simp only [hk,if_true,lU,hc',Option.getD_some];have e:cellOf env n=pure c:=by unfold cellOf;rw [hc']
   rw [e];exact fF r _ hr
  ·simp only [hk,if_false,lU];exact fF r acc hr
theorem gh{scope:Scope}{env:Env}(h:∀ y∈scope.names,y.2=.free->∃ c,env.cells.lookup y.1=some c):closureFor scope env=pure (lU env.cells scope.names []):=by
 unfold closureFor;have:=fF (env:=env) scope.names [] h
 first
  | exact(Kq (λ m=>m >>= λ cs=>pure cs) this).trans (pure_bind _ _)
  | (simp only [] at this ⊢;rw [this];rfl)
theorem k7{cells:List (Str × Addr)}{x:Str}{c:Addr}:∀ {names:List (Str × NameKind)}{acc:List (Str × Addr)},(∀ y∈names,y.2=.free->∃ c,cells.lookup y.1=some c)->(lU cells names acc).lookup x=some c->acc.lookup x=some c\/cells.lookup x=some c
 | [],acc,_,h=>.inl h
 | (n,k)::r,acc,hf,h=>by
  have hr:∀ y∈r,y.2=.free->∃ c,cells.lookup y.1=some c:=λ y hy=>hf y (mem_cons_of_mem _ hy);unfold lU at h
  by_cases hk:(k == .free)=true
  ·rw [Jw hk] at h
   rcases k7 hr h with q|q
   ·rw [JZ] at q
    cases hx:x == n with
    | true=>
     rw [hx] at q;obtain⟨d,hd⟩:=hf (n,k) Jq (by simpa using hk);have e:x=n:=by simpa using hx
     subst e;have hd':cells.lookup x=some d:=hd;rw [hd'] at q ⊢;exact .inr (by simpa using q)
    | false=>rw [hx] at q;exact .inl q
   ·exact .inr q
  ·rw [Jt hk] at h;exact k7 hr h
theorem k8{cells:List (Str × Addr)}{x:Str}:∀ {names:List (Str × NameKind)}{acc:List (Str × Addr)},(∀ y∈names,y.2=.free->∃ c,cells.lookup y.1=some c)->(∃ c,acc.lookup x=some c)->∃ c,(lU cells names acc).lookup x=some c
 | [],acc,_,h=>h
 | (n,k)::r,acc,hf,h=>by
  have hr:∀ y∈r,y.2=.free->∃ c,cells.lookup y.1=some c:=λ y hy=>hf y (mem_cons_of_mem _ hy);unfold lU
  by_cases hk:(k == .free)=true
  ·rw [Jw hk];refine k8 hr ?_;rw [JZ]
   cases hx:x == n with
   | true=>exact⟨_,rfl⟩
   | false=>exact h
  ·rw [Jt hk];exact k8 hr h
theorem ir{cells:List (Str × Addr)}{x:Str}:∀ {names:List (Str × NameKind)}{acc:List (Str × Addr)},(∀ y∈names,y.2=.free->∃ c,cells.lookup y.1=some c)->names.lookup x=some .free->∃ c,(lU cells names acc).lookup x=some c
 | [],acc,_,h=>by simp at h
 | (n,k)::r,acc,hf,h=>by
  have hr:∀ y∈r,y.2=.free->∃ c,cells.lookup y.1=some c:=λ y hy=>hf y (mem_cons_of_mem _ hy);rw [lookup_cons] at h;unfold lU
  cases hx:x == n with
  | true=>
   rw [hx] at h;have hk:k=.free:=by simpa using h
   subst hk;rw [Jw (show (NameKind.free == NameKind.free)=true from rfl)];refine k8 hr ⟨(cells.lookup n).getD 0,?_⟩;rw [JZ,hx]
  | false=>
   rw [hx] at h
   by_cases hk:(k == .free)=true
   ·rw [Jw hk];exact ir hr h
   ·rw [Jt hk];exact ir hr h
theorem eR{x:Str}{k:NameKind}:∀ {names:List (Str × NameKind)},names.lookup x=some k->(x,k)∈names
 | [],h=>by simp at h
 | (n,j)::r,h=>by
  rw [JZ] at h
  cases hx:x == n with
  | true=>
   rw [hx] at h;have e:x=n:=by simpa using hx
   have e2:j=k:=by simpa using h
   subst e;subst e2;exact Jq
  | false=>rw [hx] at h;exact Jk _ (eR h)
theorem cU{env:Env}{x:Str}:∀ {names:List (Str × NameKind)},
  (names.map λ (n,k)=>if (k == NameKind.free && env.scope.kind == .function && env.kindOf n == some .cell) then (n,NameKind.cell) else (n,k)).lookup x
   = (names.lookup x).map λ k=>if (k == NameKind.free && env.scope.kind == .function && env.kindOf x == some .cell) then NameKind.cell else k
 | []=>rfl
 | (n,k)::r=>by
  have ih:=@cU env x r
  show List.lookup x ((if (k == NameKind.free && env.scope.kind == .function && env.kindOf n == some .cell)=true then (n,NameKind.cell) else (n,k))::_)=_
  cases hx:x == n with
  | true=>
   have e:x=n:=by simpa using hx
   subst e
   by_cases hc:(k == NameKind.free && env.scope.kind == .function && env.kindOf x == some .cell)=true
   ·rw [Jw hc];simp only [JZ,LA,Option.map_some];rw [Jw hc]
   ·rw [Jt hc];simp only [JZ,LA,Option.map_some];rw [Jt hc]
  | false=>
   by_cases hc:(k == NameKind.free && env.scope.kind == .function && env.kindOf n == some .cell)=true
   ·rw [Jw hc];simp only [JZ,hx];exact ih
   ·rw [Jt hc];simp only [JZ,hx];exact ih
abbrev cCx(X:Cx)(scope:Scope)(N':List Str)(C:Addr)(s₀:Shared)(H₀:Hp)(ex:List Addr)(pn:List (Addr × Obj)):Cx:=
 { X with N:=N',s₀:=s₀,H₀:=H₀,env:=compEnvC scope (lU X.env.cells scope.names []) C X.env,outer:=X.stack,stack:=X.stack,ex:=ex,fn:=λ _=>false,pn:=pn,xe:=λ _ _=>False }
def PTs(Y:Cx)(ifs:List Expr)(t:TT):Prop:=
 ∀ (pins:List (Addr × Obj)) (s:Shared) (σ:St) (H:Hp) (Q:Bool->Hp->Prop),Inv Y pins σ H s->t σ H Q →
  wpAny (model Y.prog Y.w) Y.A (forIn ifs true λ c r=>if r=true then do let ok ←isTrue c Y.env (eval c Y.env);pure (ForInStep.yield ok) else pure (ForInStep.yield r)) (TP Y pins σ Q) Y.xe s
def Hx:TT:=λ _ H Q=>Q true H
theorem bB{Y:Cx}:PTs Y [] Hx:=λ _ _ _ H _ I h=>Ja ⟨H,I,h⟩
theorem AH{Y:Cx}{c:Expr}{t:TT}(h:PT Y c t):PTs Y [c] t:=λ pins s σ H Q I hw=>PySem.wpAny_tests_one (h pins s σ H Q I hw)
theorem HOk.but{P:Program}{w:World}{H:Hp}{h h':Heap}{C:Addr}(ok:HOk P w H h)(hn:H C=none)(hs:Heap.SameBut C h h'):HOk P w H h':=λ b ob e=>by
 refine(ok b ob e).stay (λ c w' hc q=>(hs.2 c ?_).trans q) (λ _ q=>q) λ _ _ q=>q;rintro rfl
 rcases hc with rfl|hc
 ·rw [hn] at e;cases e
 ·rw [hn] at hc;cases hc
theorem Un.but{fs ex:List Addr}{H H':Hp}{h h1 h2:Heap}{C:Addr}(u:Un fs ex H H' h h1)(hs:Heap.SameBut C h1 h2)(hC:∀ b o,h.get? b=some o->b ≠ C):Un fs ex H H' h h2 where
 keep:=λ b o e n hb hx=>(hs.2 b (hC b o e)).trans (u.keep b o e n hb hx)
 slot:=λ b o e n hb hx=>by
  obtain⟨sl,q⟩:=u.slot b o e n hb hx;exact⟨sl,(hs.2 b (hC b o e)).trans q⟩
 free:=u.free
 there:=λ b o e hx=>by
  obtain⟨o',q⟩:=u.there b o e hx;exact⟨o',(hs.2 b (hC b o e)).trans q⟩
 tups:=u.tups
 frzs:=u.frzs
 tbls:=u.tbls
section
variable {X:Cx}
def zJ(k:Nat)(wi:TI)(g:TG)(tt:TT)(te:TE):TE:=λ σ H Q=>wi σ H λ J H1=>∀ D,H1 D=none->∃ W:Nat->Nat->List V->Hp->Prop,(∃ m,W 0 m [] (upd H1 D (.lst [])))/\∀ i m ys H,W i m ys H →
 (J.stop i H/\Q (.ref D) H)\/(J.go i H/\∃ N:List V->Hp->Prop,(∀ ys' H',N ys' H'->∃ m',m' < m/\W (i+1) m' ys' H') /\
  ∀ x H',J.yld i H x H'->g x (List.replicate k none++σ) H' λ σ2 H2=>(∃ vs:St,vs.length=k/\σ2=vs++σ)/\tt σ2 H2 λ b H3=>if b=true then te σ2 H3 λ y H4=>H4 D=some (.lst ys)/\ys.length < sizeLine/\N (ys++[y]) (upd H4 D (.lst (ys++[y]))) else N ys H3)
theorem vS{Y:Cx}{tg elt iter:Expr}{ifs:List Expr}{scope:Scope}{pos:Pos}{it D:Addr}{g:TG}{tt:TT}{te:TE}{J:It}{fp:List Addr}{tn:Nat->Heap->Prop}{k:Nat}{σ:St}{Q:VK}
  (hc:Y.calm=true) (hx:Y.xe=λ _ _=>False) (hg:PG Y tg g) (ht:PTs Y ifs tt) (he:PE Y elt te) (T:zE Y.prog Y.w Y.K tg J fp it tn) (hf:∀ H:Hp,(∀ b∈fp,H b=none)->∀ b∈fp,oi Y [] H b)
  (W:Nat->Nat->List V->Hp->Prop)
  (turn:∀ i m ys H,W i m ys H->(J.stop i H/\Q (.ref D) H)\/(J.go i H/\∃ N:List V->Hp->Prop,(∀ ys' H',N ys' H'->∃ m',m' < m/\W (i+1) m' ys' H') /\
   ∀ x H',J.yld i H x H'->g x (List.replicate k none++σ) H' λ σ2 H2=>(∃ vs:St,vs.length=k/\σ2=vs++σ)/\tt σ2 H2 λ b H3=>if b=true then te σ2 H3 λ y H4=>H4 D=some (.lst ys)/\ys.length < sizeLine/\N (ys++[y]) (upd H4 D (.lst (ys++[y]))) else N ys H3))
  (n:Nat) (s:Shared) (h:∃ i ys H,Inv Y [] (List.replicate k none++σ) H s/\tn i s.heap/\(∀ b∈fp,H b=none)/\W i n ys H) :
  codeAny (model Y.prog Y.w) Y.A (.compLoop (.ListComp elt [⟨tg,iter,ifs,0⟩] scope pos) 0 (.ref it) (.ref D) Y.env) (λ r s'=>r=.ok .next/\∃ H',Inv Y [] (List.replicate k none++σ) H' s'/\Q (.ref D) H') s:=by
 refine codeAny_loop rfl (λ n s=>∃ i ys H,Inv Y [] (List.replicate k none++σ) H s/\tn i s.heap/\(∀ b∈fp,H b=none)/\W i n ys H) ?_ n h;rintro n s3 ⟨i,ys,H3,I3,st3,fr3,w3⟩
 show wpAny _ Y.A ((compTurn (.ListComp elt [⟨tg,iter,ifs,0⟩] scope pos) 0 (.ref it) (.ref D) Y.env).onRaise (λ x=>do noteFrame x Y.env;theTreesLotGoes x)) _ _ s3
 refine PySem.wpAny_noted ?_;rw [PySem.compTurn_list]
 have no:∀ {α:Type} {m:Sem α} {P:α->Shared->Prop} {E:Value->Shared->Prop} {s:Shared},wpAny (model Y.prog Y.w) Y.A m P Y.xe s->wpAny (model Y.prog Y.w) Y.A m P E s:=λ {α m P E s} h=>
  Ku h (λ _ _ q=>q) λ _ _ q=>by rw [hx] at q;exact q.elim
 refine IV (KQ (IV ?_))
 rcases turn i n ys H3 w3 with ⟨stop,qn⟩|⟨go,N,hN,step⟩
 ·refine thn (T.done Y rfl rfl rfl hc i [] s3 (List.replicate k none++σ) H3 _ I3 (hf H3 fr3) st3 stop) λ r s4 ⟨hr,I4⟩=>?_;subst hr;exact Ja ⟨rfl,H3,I4,qn⟩
 ·refine thn (T.item Y rfl rfl rfl hc i [] s3 (List.replicate k none++σ) H3 _ I3 (hf H3 fr3) st3 go) λ r s4 ⟨u,hr,h4⟩=>?_;subst hr;refine IV (thn h4 λ _ s5 ⟨x,H5,I5,r5,y5,st5,fr5⟩=>?_);have I5':=I5.pinned (hf H5 fr5) (T.obj _ _ st5);refine IV (no (thn (hg _ s5 (List.replicate k none++σ) H5 x u _ I5' r5 (step x H5 y5)) λ _ s6 ⟨σ6,H6,I6,⟨vs,hvs,e6⟩,q6⟩=>?_));subst e6
  have forget:∀ {pins:List (Addr × Obj)} {H:Hp} {s:Shared},Inv Y pins (vs++σ) H s->Inv Y pins (List.replicate k none++σ) H s:=λ {pins H s} I=>I.weak (by simp [hvs]) λ i v e=>by
   by_cases hi:i < k
   ·rw [JS (by simpa using hi)] at e;simp [KW,hi] at e
   ·rw [JF (by simpa using KZ hi)] at e;rw [JF (by omega)]
    simpa [hvs] using e
  refine IV (no (thn (ht _ s6 (vs++σ) H6 _ I6 q6) λ b s7 ⟨H7,I7,q7⟩=>?_))
  have again:∀ {H8:Hp} {s8:Shared} {ys':List V},Inv Y ([]++l9 fp s5.heap) (vs++σ) H8 s8->N ys' H8->∃ m,m < n/\∃ i ys H,Inv Y [] (List.replicate k none++σ) H s8/\tn i s8.heap/\(∀ b∈fp,H b=none)/\W i m ys H:=λ {H8 s8 ys'} I8 n8=>by
   obtain⟨m',hm,w8⟩:=hN ys' H8 n8;refine⟨m',hm,i+1,ys',H8,forget I8.unpinned,T.keep _ _ _ st5 λ b hb o e=>(I8.pin (b,o) (JC _ (JC _ (eQ hb e)))).1,λ b hb=>?_,w8⟩;obtain⟨o,e,d⟩:=T.obj _ _ st5 b hb;exact(I8.pin (b,o) (JC _ (JC _ (eQ hb e)))).2.1
  cases b with
  | false=>
   rw [Jt Ji] at q7;exact Ja ⟨rfl,again I7 q7⟩
  | true=>
   rw [Jw rfl] at q7;refine IV (IV (no (thn (he _ s7 (vs++σ) H7 _ I7 q7) λ y s8 ⟨y',H8,I8,ry,q8,l8,n8⟩=>?_)));exact IV (no (thn (eo _ s8 (vs++σ) H8 (.ref D) [y'] (.ref D) [y] (λ _ H'=>N (ys++[y']) H') I8 rfl (.cons ry .nil) ⟨D,ys,y',rfl,rfl,q8,l8,n8⟩) λ _ s9 ⟨_,H9,I9,_,q9⟩=>Ja (Ja ⟨rfl,again I9 q9⟩)))
structure iE(X:Cx)(scope:Scope)(N':List Str)(k:Nat):Prop where
 cell:∀ y∈scope.names,y.2 ≠ .cell
 kind:scope.kind=.function
 names:∀ y∈scope.names,y.2=.local->scope.names.lookup y.1=some .local
 free:∀ y∈scope.names,y.2=.free->X.env.scope.names.lookup y.1=some .cell
 len:N'.length=k+X.N.length
 sub:∀ i x,N'[k+i]? = some x->scope.names.lookup x=some .free->X.N[i]? = some x
 loc:∀ i x,N'[k+i]? = some x->scope.names.lookup x ≠ some .local
theorem iE.cells{scope:Scope}{N':List Str}{k:Nat}{pins:List (Addr × Obj)}{σ:St}{H:Hp}{s:Shared}(c:iE X scope N' k)(I:Inv X pins σ H s):∀ y∈scope.names,y.2=.free->∃ a,X.env.cells.lookup y.1=some a:=λ y hy e=>
 I.ok.has y.1 (.inl (c.free y hy e))
theorem yv{scope:Scope}{N':List Str}{k:Nat}{pins:List (Addr × Obj)}{σ:St}{H:Hp}{s s₄:Shared}{fp:List Addr}{m:Str->Option Value}(c:iE X scope N' k)(hc:X.calm=true)(I:Inv X pins σ H s)
  (hf:∀ b∈fp,oi X pins H b) (hfl:∀ b∈fp,b < s.heap.objs.size) (hb:∀ b∈fp,X.base.get? b=none) (hns:s₄.heap.Ns s.heap.objs.size m) (hk:∀ b o,s.heap.get? b=some o->s₄.heap.get? b=some o) (ho:s₄.os=s.os) (hg:s₄.gens=s.gens) :
  Inv (cCx X scope N' s.heap.objs.size s H fp (X.pn++pins)) [] (List.replicate k none++σ) H s₄:=by
 have hcl:=c.cells I
 have sub:∀ x a,(lU X.env.cells scope.names []).lookup x=some a->X.env.cells.lookup x=some a:=λ x a e=>by
  rcases k7 hcl e with q|q
  ·simp at q
  ·exact q
 have kinds:∀ x,(compEnvC scope (lU X.env.cells scope.names []) s.heap.objs.size X.env).kindOf x=some .cell\/(compEnvC scope (lU X.env.cells scope.names []) s.heap.objs.size X.env).kindOf x=some .free->scope.names.lookup x=some .free:=λ x hx=>by
  have e:(compEnvC scope (lU X.env.cells scope.names []) s.heap.objs.size X.env).kindOf x=(scope.names.lookup x).map λ k=>if (k == NameKind.free && X.env.scope.kind == .function && X.env.kindOf x == some .cell) then NameKind.cell else k:=cU
  rw [e] at hx
  cases q:scope.names.lookup x with
  | none=>rw [q] at hx;simp at hx
  | some j=>
   rw [q] at hx;have hj:j ≠ .cell:=c.cell (x,j) (eR q)
   cases j<;>simp_all
 have fresh:∀ b,s.heap.objs.size<=b->s.heap.get? b=none:=λ b hb=>JG hb;have ne:∀ b o,s.heap.get? b=some o->b ≠ s.heap.objs.size:=λ b o e=>Jj (IZ e)
 have cl_lt:∀ x a,X.env.cells.lookup x=some a->a < s.heap.objs.size:=λ x a e=>by
  obtain⟨v,o,h1,_⟩:=I.cell x a e;exact IZ h1
 refine⟨⟨I.ok.mod,c.kind,I.ok.glob,I.ok.blt,Je _,λ x y a e1 e2=>I.ok.inj x y a (sub x a e1) (sub y a e2),λ x hx=>ir hcl (kinds x hx),(λ _ _ z=>nomatch z),I.ok.hd,I.ok.frames,.inl rfl,λ b hb'=>⟨Jj (hfl b hb'),λ x a e=>(hf b hb').2.2.2.2.1 x a (sub x a e)⟩,
   I.bs,Ju I.ok.bsz I.sz,(λ b o e hb'=>by rw [hb b hb'] at e;cases e),λ b hb' hz=>?_,I.stack,I.stkFree⟩,ho,by rw [hg];exact I.bare,Un.kept hk,⟨m,hns,λ i x v e1 e2 e3=>?_⟩,λ x a e=>?_,I.hok.fresh (Je _),λ x a e=>I.freeC x a (sub x a e),λ p hp=>?_,I.hok.kept hk,?_⟩
 ·rcases Js.mp (I.stkSub b hz) with z|z
  ·exact(hf b hb').2.1 z
  ·exact(hf b hb').2.2.1 z
 ·have hi:k<=i:=by
   refine KZ λ hi=>?_;rw [JS (by simpa using hi)] at e2;simp [KW,hi] at e2
  obtain⟨j,rfl⟩:∃ j,i=k+j:=⟨i - k,by omega⟩;rw [JF (by simp)] at e2;have e2':σ[j]? = some (some v):=by simpa using e2
  have e:(relabel scope X.env).names.lookup x=(scope.names.lookup x).map λ k=>if (k == NameKind.free && X.env.scope.kind == .function && X.env.kindOf x == some .cell) then NameKind.cell else k:=cU
  have hfree:scope.names.lookup x=some .free:=by
   cases q:scope.names.lookup x with
   | none=>
    rcases e3 with z|z|z
    all_goals (have z':(relabel scope X.env).names.lookup x=some _:=z;rw [e,q] at z';simp at z')
   | some j'=>
    have h1:j' ≠ .cell:=c.cell (x,j') (eR q);have h2:j' ≠ .local:=λ z=>c.loc j x e1 (by rw [q,z])
    rcases e3 with z|z|z
    all_goals (have z':(relabel scope X.env).names.lookup x=some _:=z;rw [e,q] at z';cases j'<;>simp_all)
  have hX:=c.sub j x e1 hfree;have hcellX:=c.free (x,.free) (eR hfree) rfl;obtain⟨m0,hn0,hl0⟩:=I.loc;obtain⟨u,r,l⟩:=hl0 j x v hX e2' (.inr (.inl hcellX));refine⟨u,r,?_⟩
  rcases l with ⟨z,_⟩|⟨_,a,ea,hz⟩
  ·have z':X.env.scope.names.lookup x=some .local:=z;rw [hcellX] at z';cases z'
  ·obtain⟨a',ea'⟩:=ir (acc:=[]) hcl hfree;have e4:=sub x a' ea';rw [ea] at e4;cases e4;refine .inr ⟨.inl ?_,a,ea',?_⟩
   ·show (relabel scope X.env).names.lookup x=some .cell
    rw [e,hfree];have k1:(X.env.scope.kind == .function)=true:=by rw [I.ok.kind];rfl
    have k2:(X.env.kindOf x == some .cell)=true:=by
     have:X.env.kindOf x=some .cell:=hcellX;rw [this];rfl
    simp [k1,k2]
   ·obtain⟨o,h1,h2⟩:=hz;exact⟨o,hk _ _ h1,h2⟩
 ·obtain⟨v,o,h1,h2⟩:=I.cell x a (sub x a e);exact⟨v,o,hk _ _ h1,h2⟩
 ·have hp':p∈X.pn++pins:=by simpa using hp
  obtain⟨e,n,nl,nf,d⟩:=I.pin p hp';refine⟨hk _ _ e,n,ne _ _ e,λ z=>?_,d⟩
  rcases Js.mp (I.stkSub _ z) with z|z
  ·exact nl z
  ·exact nf z
 ·show (List.replicate k none++σ).length=N'.length
  rw [c.len,J0,List.length_replicate,I.len]
theorem jX{elt iter tg:Expr}{ifs:List Expr}{scope:Scope}{pos:Pos}{g:TG}{tt:TT}{te:TE}{N':List Str}{k:Nat}{it:Addr}{J:It}{fp:List Addr}{tn:Nat->Heap->Prop}{pins:List (Addr × Obj)}{σ:St}{H:Hp}{s:Shared}{Q:VK}{RR:Value->Addr->Result->Shared->Prop}{E:Value->Shared->Prop}
  (c:iE X scope N' k) (hc:X.calm=true) (I:Inv X pins σ H s) (T:zE X.prog X.w X.K tg J fp it tn) (st:tn 0 s.heap) (hf:∀ b∈fp,oi X pins H b)
  (hg:∀ C s₀ H₀ ex pn,PG (cCx X scope N' C s₀ H₀ ex pn) tg g) (ht:∀ C s₀ H₀ ex pn,PTs (cCx X scope N' C s₀ H₀ ex pn) ifs tt) (he:∀ C s₀ H₀ ex pn,PE (cCx X scope N' C s₀ H₀ ex pn) elt te)
  (h:∀ D,H D=none->∃ W:Nat->Nat->List V->Hp->Prop,(∃ m,W 0 m [] (upd H D (.lst [])))/\∀ i m ys H,W i m ys H →
   (J.stop i H/\Q (.ref D) H)\/(J.go i H/\∃ N:List V->Hp->Prop,(∀ ys' H',N ys' H'->∃ m',m' < m/\W (i+1) m' ys' H') /\
    ∀ x H',J.yld i H x H'->g x (List.replicate k none++σ) H' λ σ2 H2=>(∃ vs:St,vs.length=k/\σ2=vs++σ)/\tt σ2 H2 λ b H3=>if b=true then te σ2 H3 λ y H4=>H4 D=some (.lst ys)/\ys.length < sizeLine/\N (ys++[y]) (upd H4 D (.lst (ys++[y]))) else N ys H3))
  (fin:∀ D C s' H' m,s'.heap.Ns C m->C ≠ X.env.locals->(∀ x a,X.env.cells.lookup x=some a->a ≠ C)->(H' C=none/\X.s₀.heap.objs.size<=C/\∀ p∈X.pn++pins,p.1 ≠ C)->(∀ h',Heap.SameBut C s'.heap h'->Inv X pins σ H' { s' with heap:=h' })->Q (.ref D) H'->RR (.ref D) C (.ok .next) s') :
  wpAny (model X.prog X.w) X.A (newList []) (λ acc s₃=>wpAny (model X.prog X.w) X.A (newFunctionEnv scope X.env.globals (lU X.env.cells scope.names []) [] X.env.qual none .none (some X.env)) (λ cenv s₄=>
   codeAny (model X.prog X.w) X.A (.compStart (.ListComp elt [⟨tg,iter,ifs,0⟩] scope pos) 0 (.ref it) acc { cenv with scope:=relabel scope X.env }) (RR acc cenv.locals) s₄) E s₃) E s:=by
 refine wpAny_newObj_type (wpAny_newFunctionEnv c.cell (by intro y hy;simp at hy) (λ h₁ hns₁ hsb₁=>?_) c.kind);dsimp only at hns₁ hsb₁ ⊢;have I3:Inv X pins σ (upd H s.heap.objs.size (.lst [])) { s with heap:=s.heap.push { cls:=.type "list",data:=.seq ([]:List Value).toArray },toks:=s.toks }:=I.lnew (ys:=[]) (its:=[]) .nil (Nat.zero_le _);generalize hH2:s.heap.push { cls:=.type "list",dict:=none,data:=.seq ([]:List Value).toArray }=hp at hns₁ hsb₁ I3 ⊢;have hlt:∀ b o,s.heap.get? b=some o->hp.get? b=some o:=λ b o e=>by rw [←hH2];exact Heap.get?_push_of_some _ e
 have hnD:H s.heap.objs.size=none:=I.hok.fresh (Je _);have kp:∀ b o,hp.get? b=some o->h₁.get? b=some o:=λ b o e=>hsb₁.extBut b o (Jj (IZ e)) (IW _ e)
 have stk:∀ b∈fp,s.heap.get? b ≠ none:=λ b hb z=>by
  obtain⟨o,e,_⟩:=T.obj _ _ st b hb;rw [z] at e;cases e
 have flt:∀ b∈fp,b < s.heap.objs.size:=λ b hb=>by
  obtain⟨o,e,_⟩:=T.obj _ _ st b hb;exact IZ e
 have fpD:∀ b∈fp,b ≠ s.heap.objs.size:=λ b hb=>Jj (flt b hb)
 have hf3:∀ b∈fp,oi X pins (upd H s.heap.objs.size (.lst [])) b:=λ b hb=>by
  obtain⟨a1,a2⟩:=hf b hb;exact⟨by rw [ai (fpD b hb)];exact a1,a2⟩
 have hnb:∀ b∈fp,X.base.get? b=none:=λ b hb=>by
  cases e:X.base.get? b with
  | none=>rfl
  | some o=>
   rcases (hf b hb).2.2.2.1 with z|z
   ·exact absurd z (I.ok.noex b o e)
   ·have:=IZ (I.ok.bs b o e).1;exact absurd (Jc this z) (JM _)
 have hsz:s.heap.objs.size < hp.objs.size:=by rw [←hH2,Jx];exact Ke _
 have IY:=yv (s₄:={ s with heap:=h₁,toks:=s.toks+([]:List (Str × Value)).length }) (fp:=fp) c hc I3 hf3 (λ b hb=>K8 (flt b hb) hsz) hnb hns₁ kp rfl rfl;obtain⟨W,⟨m0,w0⟩,turn⟩:=h s.heap.objs.size hnD
 have run:=vS (Y:=cCx X scope N' hp.objs.size { s with heap:=hp,toks:=s.toks } (upd H s.heap.objs.size (.lst [])) fp (X.pn++pins)) (tg:=tg) (elt:=elt) (iter:=iter) (ifs:=ifs) (scope:=scope) (pos:=pos) (it:=it) (D:=s.heap.objs.size) (k:=k) (σ:=σ) (Q:=Q)
  hc rfl (hg _ _ _ _ _) (ht _ _ _ _ _) (he _ _ _ _ _) T (λ H' hn b hb=>⟨hn b hb,Jj (K8 (flt b hb) hsz),λ z=>(IY.ok.exfs b hb) z,.inl hb,λ x a e=>(IY.ok.exf b hb).2 x a e,λ p hp=>by
   have hp':p∈X.pn++pins:=by simpa using hp
   exact(hf b hb).2.2.2.2.2 p hp'⟩) W turn m0
 have st₁:tn 0 h₁:=T.keep _ _ _ st λ b hb o e=>kp b o (hlt b o e);have go:=run { s with heap:=h₁,toks:=s.toks+([]:List (Str × Value)).length } ⟨0,[],_,IY,st₁,λ b hb=>(hf3 b hb).1,w0⟩
 have out:∀ r s',(r=Except.ok Flow.next/\∃ H',Inv (cCx X scope N' hp.objs.size { s with heap:=hp,toks:=s.toks } (upd H s.heap.objs.size (.lst [])) fp (X.pn++pins)) [] (List.replicate k none++σ) H' s'/\Q (.ref s.heap.objs.size) H')->RR (.ref s.heap.objs.size) hp.objs.size r s':=by
  rintro r s' ⟨rfl,H',J',q⟩;obtain⟨m,hn,_⟩:=J'.loc;have hC:hp.objs.size ≠ X.env.locals:=Kn (Jc I.lt (KN hsz));refine fin _ _ s' H' m hn hC (λ x a e=>?_) ⟨J'.free,Ju I.sz (KN hsz),λ p hp'=>Jj (K8 (IZ (I.pin p hp').1) hsz)⟩ (λ h' hs'=>?_) q
  ·obtain⟨v,o,h1,_⟩:=I.cell x a e;exact Jj (K8 (IZ h1) hsz)
  ·refine I.call' (ch:=fp) ?_ ?_ ?_ J'.bare λ b hb=>⟨(hf b hb).2.2.2.1,(hf b hb).2.1,(hf b hb).2.2.2.2.1,(hf b hb).2.2.2.2.2⟩
   ·exact J'.os
   ·have u1:Un (frs X.stack) fp H (upd H s.heap.objs.size (.lst [])) s.heap hp:=Un.laid hlt (Je _) hnD;exact(u1.trans J'.base).but hs' λ b o e=>Jj (K8 (IZ e) hsz)
   ·exact J'.hok.but J'.free hs'
 exact codeAny_compStart_list (JK go out) (T.self _ 0 _ _ _ st₁ (JK go out))
theorem AW{elt iter tg:Expr}{ifs:List Expr}{scope:Scope}{pos:Pos}{wi:TI}{g:TG}{tt:TT}{te:TE}{N':List Str}{k:Nat}
  (c:iE X scope N' k) (hc:X.calm=true) (hi:PI X tg iter wi)
  (hg:∀ C s₀ H₀ ex pn,PG (cCx X scope N' C s₀ H₀ ex pn) tg g) (ht:∀ C s₀ H₀ ex pn,PTs (cCx X scope N' C s₀ H₀ ex pn) ifs tt) (he:∀ C s₀ H₀ ex pn,PE (cCx X scope N' C s₀ H₀ ex pn) elt te)
  (hs:∀ x,foldedSetIterable iter X.env x=pure x:=by intro _;rfl):PE X (.ListComp elt [⟨tg,iter,ifs,0⟩] scope pos) (zJ k wi g tt te):=by
 intro pins s σ H Q I h;rw [PySem.eval_ListComp];refine Ly (use:=none) rfl hs (gh (c.cells I)) c.kind c.names (thn (hi pins s σ H _ I h) λ v s1 h1=>thn h1 λ itv s2 h2=>?_);obtain⟨it,fp,tn,J,H2,rfl,I2,T,st2,f2,hW⟩:=h2;refine jX (RR:=λ acc C=>PySem.compPost (model X.prog X.w) X.A X.xe none (EP X pins σ Q) acc C) c hc I2 T st2 f2 hg ht he hW ?_;intro D C s' H' m hn _ _ _ hI q;exact⟨m,hn,λ h' hs'=>⟨.ref D,H',hI h' hs',rfl,q⟩⟩
def CP(i:Nat)(te:TE):TS:=λ D σ H=>te σ H λ x H1=>D.nx (σ.set i (some x)) H1
theorem AK{elt iter tg:Expr}{ifs:List Expr}{scope:Scope}{pos spos py:Pos}{wi:TI}{g:TG}{tt:TT}{te:TE}{N':List Str}{k i:Nat}{y:Str}
  (hN:X.N.Nodup) (hi':X.N[i]? = some y) (hy:Loc X.env.scope y)
  (c:iE X scope N' k) (hc:X.calm=true) (hi:PI X tg iter wi)
  (hg:∀ C s₀ H₀ ex pn,PG (cCx X scope N' C s₀ H₀ ex pn) tg g) (ht:∀ C s₀ H₀ ex pn,PTs (cCx X scope N' C s₀ H₀ ex pn) ifs tt) (he:∀ C s₀ H₀ ex pn,PE (cCx X scope N' C s₀ H₀ ex pn) elt te)
  (hsw:swapsWith (.ListComp elt [⟨tg,iter,ifs,0⟩] scope pos) (some (.Name y py)) spos.line X.env=pure true:=by rfl)
  (hs:∀ x,foldedSetIterable iter X.env x=pure x:=by intro _;rfl) (hf:X.fn y=true\/X.env.scope.names.lookup y=some .local:=by first|exact .inl rfl|exact .inr rfl|assumption) :
  PS X (.Assign [.Name y py] (.ListComp elt [⟨tg,iter,ifs,0⟩] scope pos) spos) (CP i (zJ k wi g tt te)):=by
 intro pins s σ H D I h;rw [PySem.exec_Assign_Name_used _ _ _ _ hsw];refine IV (KQ (IV ?_))
 show wpAny _ X.A (do let _ ←comprehension (.ListComp elt [⟨tg,iter,ifs,0⟩] scope pos) scope X.env _ (newList []) false (eval iter X.env) (some (assign (.Name y py) X.env))) _ _ s
 refine IV (thn (Ly (use:=some (assign (.Name y py) X.env)) (Q:=λ _ s'=>SP X pins D .next s') rfl hs (gh (c.cells I)) c.kind c.names (thn (hi pins s σ H _ I h) λ v s1 h1=>thn h1 λ itv s2 h2=>?_)) λ _ s' hq=>Ja (Ja hq));obtain⟨it,fp,tn,J,H2,rfl,I2,T,st2,f2,hW⟩:=h2;refine jX (Q:=λ x H1=>D.nx (σ.set i (some x)) H1) (RR:=λ acc C=>PySem.compPost (model X.prog X.w) X.A X.xe (some (assign (.Name y py) X.env)) (λ _ s'=>SP X pins D .next s') acc C) c hc I2 T st2 f2 hg ht he hW ?_;intro D' C s' H' m hn hCl hCc hCo hI q
 show wpAny _ X.A (assign (.Name y py) X.env (.ref D')) _ _ s'
 have I':Inv X pins σ H' s':=hI s'.heap (Heap.SameBut.refl _ _);refine wpAny_assign_Name (mj I' hN hi' hy (show bZ (.ref D') (.ref D') from rfl) (λ s'' I'' ⟨a,sb,ha⟩=>?_) hf)
 have hCa:C ≠ a:=by
  rcases ha with rfl|ha
  ·exact hCl
  ·exact λ z=>hCc _ _ ha z.symm
 refine⟨m,hn.sameBut sb hCa,λ h' hs'=>⟨_,H',?_,q⟩⟩;exact I''.turned (t':=s''.toks) (λ b o hb e=>(hs'.2 b hb).trans e) hCo.1 hCl (.inr hCo.2.1) hCc hCo.2.2
end
def l6(h:Heap)(e:Addr)(cls:Value)(d:Option Addr)(T:Addr):Prop:=
 ∃ oe vs oT ts,h.get? e=some oe/\oe.cls=cls/\oe.dict=d/\oe.data=.fields vs/\vs[1]? = some (.ref T)/\T ≠ e/\h.get? T=some oT/\oT.data=.fields ts/\ts[3]? = some .none/\vs[2]? = some .none
def CX1(P:Program)(w:World):CXT:=λ outer H s E ev s'=>∃ e T cls d H',ev=.ref e/\s'.os=s.os/\AllBare s'.gens/\Un (frs outer) [] H H' s.heap s'.heap/\HOk P w H' s'.heap /\
 s.heap.get? e=none/\s.heap.get? T=none/\H' e=none/\H' T=none/\l6 s'.heap e cls d T/\(∀ dx,d=some dx->∃ fs,H' dx=some (.xd fs))/\E cls d H'
theorem vQ(f:Array Value->Array Value)(o:Obj):(Obj.mapFields f o).dict=o.dict:=by
 unfold Obj.mapFields;split<;>rfl
structure sA(fs:List Addr)(e:Addr)(no:Addr->Prop)(h h':Heap):Prop where
 keep:∀ b o,b ≠ e->¬ no b->b ∉ fs->h.get? b=some o->h'.get? b=some o
 slot:∀ b o,b ≠ e->¬ no b->b∈fs->h.get? b=some o->∃ sl,h'.get? b=some { o with slots:=sl }
 size:h.objs.size<=h'.objs.size
section
variable {M:Model}{A:Around}{E:Value->Shared->Prop}{s:Shared}
theorem zy{base:Heap}{env:Env}{outer:List Env}{L e:Addr}{oe:Obj}{vs:Array Value}{head:Value}{hadNext:Bool}{Q:Unit->Shared->Prop}
  (hfr:A.frames=some (env::outer)) (hl:s.heap.FunFrames base (env::outer)) (hf:env.frame=some L) (he:s.heap.get? e=some oe) (hd:oe.data=.fields vs) (hsz:1 < vs.size) (h2c:vs[2]? = some .none)
  (hQ:∀ h',sA (frs (env::outer)) e (λ _=>False) s.heap h'->(∃ T oe' vs' oT ts,s.heap.get? T=none/\h'.get? e=some oe'/\oe'.cls=oe.cls/\oe'.dict=oe.dict/\oe'.data=.fields vs'/\vs'[1]? = some (.ref T)/\T ≠ e/\h'.get? T=some oT/\oT.data=.fields ts/\ts[3]? = some (rawInt L)/\vs'[2]? = some .none)->Q () { s with heap:=h' }) :
  wpAny M A (do let a ←frameOf env;let pl ←entryPlaceOf L hadNext;let b ←EntryCells.newEntry head a .none (rawInt L) .none pl;setField (.ref e) 1 b) Q E s:=by
 have efr:e ∉ frs (env::outer):=λ z=>by
  obtain⟨_,o,q1,q2⟩:=hl.mem z;rw [he] at q1;cases q1;exact q2 vs hd
 refine wpAny_bind (wpAny_frameOf_fun hfr hl hf λ g1 sg=>?_);refine wpAny_bind (wpAny_entryPlaceOf λ pl ipl=>?_);unfold EntryCells.newEntry newFields;refine wpAny_bind (wpAny_newObj_type ?_ (ipl.sizeOk5 _ _ _ _ _));have e1:g1.get? e=some oe:=(sg.2.1 e efr).trans he;generalize hnew:({ cls:=.type "traceback",dict:=none,data:=.fields ([head,.ref L,.none,rawInt L,.none]++(if pl.isEmpty then List.replicate 6 Value.none else pl)).toArray }:Obj)=oN;have dN:oN.data=.fields ([head,.ref L,.none,rawInt L,.none]++(if pl.isEmpty then List.replicate 6 Value.none else pl)).toArray:=by rw [←hnew]
 have e2:(g1.push oN).get? e=some oe:=IW _ e1;refine KG e2 hd hsz (hQ _ ?_ ?_)
 ·have other:∀ b o,b ≠ e->g1.get? b=some o->((g1.push oN).update e (Obj.mapFields (·.setIfInBounds 1 (Value.ref g1.objs.size)))).get? b=some o:=λ b o hb q=>by
   rw [JQ _ _ (Jv hb)];exact IW _ q
  refine⟨λ b o hb _ hfs q=>other b o hb ((sg.2.1 b hfs).trans q),λ b o hb _ _ q=>?_,?_⟩
  ·obtain⟨sl,q'⟩:=sg.2.2 b o q;exact⟨sl,other b _ hb q'⟩
  ·have z1:g1.objs.size=s.heap.objs.size:=sg.1;have z2:=((Kt (g1.push oN) e (Obj.mapFields (·.setIfInBounds 1 (Value.ref g1.objs.size))))).1;rw [z2,Jx];omega
 ·have ne:g1.objs.size ≠ e:=Kn (IZ e1);have d3:=J9 hd (·.setIfInBounds 1 (Value.ref g1.objs.size));refine⟨g1.objs.size,_,_,oN,_,?_,JE _ e2 (JU d3),Obj.cls_mapFields _ _,vQ _ _,d3,by simp [hsz],ne,?_,dN,by simp,by rw [Lx (by decide)];exact h2c⟩
  ·have z1:g1.objs.size=s.heap.objs.size:=sg.1;rw [z1];exact JG (Je _)
  ·rw [JQ _ _ (Jv ne)];exact Jf _ (JU dN)
theorem t9{e T:Addr}{oe oT:Obj}{vs ts:Array Value}{Q:Unit->Shared->Prop}(he:s.heap.get? e=some oe)(hd:oe.data=.fields vs)(h1:vs[1]? = some (.ref T))(hT:s.heap.get? T=some oT)(hdT:oT.data=.fields ts)(h3:3 < ts.size)(ne:T ≠ e)(h2c:vs[2]? = some .none)
  (hQ:∀ h',(∀ b,b ≠ T->h'.get? b=s.heap.get? b)->h'.objs.size=s.heap.objs.size->l6 h' e oe.cls oe.dict T->Q () { s with heap:=h' }):wpAny M A (setFlight (.ref e) none) Q E s:=by
 unfold setFlight;refine wpAny_bind (wpAny_field he hd h1 ?_);rw [if_pos (show (Value.ref T != Value.none)=true from by simp)];have sb:=Heap.SameBut.update s.heap T (Obj.mapFields (·.setIfInBounds 3 ((none:Option Addr).elim Value.none λ f=>rawInt f)));refine wpAny_setField hT hdT h3 (hQ _ sb.2 sb.1 ?_);have d3:=Obj.data_mapFields hdT (·.setIfInBounds 3 ((none:Option Addr).elim Value.none λ f=>rawInt f));exact⟨oe,vs,_,_,(sb.2 e (Ne.symm ne)).trans he,rfl,rfl,hd,h1,ne,Heap.get?_update_self _ hT (Obj.isFreed_of_fields d3),d3,by simp [h3],h2c⟩
theorem p5{base:Heap}{env:Env}{outer:List Env}{L e:Addr}{oe:Obj}{vs:Array Value}{Q:Unit->Shared->Prop}
  (hfr:A.frames=some (env::outer)) (hl:s.heap.FunFrames base (env::outer)) (hf:env.frame=some L) (he:s.heap.get? e=some oe) (hd:oe.data=.fields vs) (h1:vs[1]? = some .none) (h2c:vs[2]? = some .none)
  (hQ:∀ h' T,sA (frs (env::outer)) e (λ _=>False) s.heap h'->s.heap.get? T=none->l6 h' e oe.cls oe.dict T->Q () { s with heap:=h' }) :
  wpAny M A (noteFrame (.ref e) env) (λ _ s2=>wpAny M A (setFlight (.ref e) none) Q E s2) E s:=by
 unfold noteFrame;simp only [hf];refine wpAny_bind (wpAny_field he hd h1 ?_);rw [if_neg (by decide)];refine zy hfr hl hf he hd (Array.getElem?_eq_some_iff.mp h1).1 h2c λ g ng hx=>?_;obtain⟨T,oe',vs',oT,ts,nT,q1,q2,q2d,q3,q4,ne,q5,q6,q7,q8⟩:=hx;refine t9 (s:={ s with heap:=g }) q1 q3 q4 q5 q6 (Array.getElem?_eq_some_iff.mp q7).1 ne q8 λ g' sb sz ex=>?_;rw [q2,q2d] at ex;have lt:∀ b o,s.heap.get? b=some o->b ≠ T:=λ b o q z=>by rw [z,nT] at q;cases q
 exact hQ g' T ⟨λ b o hb hn hfs q=>(sb b (lt b o q)).trans (ng.keep b o hb hn hfs q),λ b o hb hn hfs q=>by
  obtain⟨sl,q'⟩:=ng.slot b o hb hn hfs q;exact⟨sl,(sb b (lt b o q)).trans q'⟩,Ju ng.size (KO sz.symm)⟩ nT ex
theorem mr{base:Heap}{env:Env}{outer:List Env}{L e T:Addr}{cls:Value}{dd:Option Addr}{Q:Unit->Shared->Prop}
  (hfr:A.frames=some (env::outer)) (hl:s.heap.FunFrames base (env::outer)) (hf:env.frame=some L) (hx:l6 s.heap e cls dd T) (hfe:e ∉ frs (env::outer)) (hfT:T ∉ frs (env::outer)) (hb:base.get? T=none)
  (hQ:∀ h' T',sA (frs (env::outer)) e (λ b=>b=T) s.heap h'->s.heap.get? T'=none->l6 h' e cls dd T'->Q () { s with heap:=h' }) :
  wpAny M A (noteFrame (.ref e) env) (λ _ s2=>wpAny M A (setFlight (.ref e) none) Q E s2) E s:=by
 obtain⟨oe,vs,oT,ts,he,rfl,rfl,hd,h1,ne,hT,hdT,h3,h2c⟩:=hx;unfold noteFrame;simp only [hf];refine wpAny_bind (wpAny_field he hd h1 ?_);rw [if_pos (show (Value.ref T != Value.none)=true from by simp)];refine wpAny_bind (wpAny_field hT hdT h3 ?_);rw [if_neg (show ¬ ((Value.none == rawInt L)=true) from by simp [rawInt])];have sb0:=Heap.SameBut.update s.heap T (Obj.mapFields (·.setIfInBounds 3 Value.none));refine wpAny_bind (wpAny_setField hT hdT (Array.getElem?_eq_some_iff.mp h3).1 ?_);generalize hg0:s.heap.update T (Obj.mapFields (·.setIfInBounds 3 Value.none))=g0 at sb0;have fl:g0.FunFrames base (env::outer):=hl.of_keeps λ b o q hnf=>⟨o,(sb0.2 b (λ z=>by rw [z,hT] at q;cases q;exact hnf ts hdT)).trans q,rfl⟩;have he0:g0.get? e=some oe:=(sb0.2 e (Ne.symm ne)).trans he;refine zy (s:={ s with heap:=g0 }) hfr fl hf he0 hd (Array.getElem?_eq_some_iff.mp h1).1 h2c λ g ng hx=>?_;obtain⟨T',oe',vs',oT',ts',nT,q1,q2,q2d,q3,q4,ne',q5,q6,q7,q8⟩:=hx;refine t9 (s:={ s with heap:=g }) q1 q3 q4 q5 q6 (Array.getElem?_eq_some_iff.mp q7).1 ne' q8 λ g' sb sz ex=>?_;rw [q2,q2d] at ex
 have tT:T ≠ T':=λ z=>by
  subst z;have:=JE (Obj.mapFields (·.setIfInBounds 3 Value.none)) hT (JU (J9 hdT _));rw [hg0] at this;have nT':g0.get? T=none:=nT;rw [this] at nT';cases nT'
 have nT0:s.heap.get? T'=none:=(sb0.2 T' (Jv tT)).symm.trans nT;have lt:∀ b o,s.heap.get? b=some o->b ≠ T':=λ b o q z=>by rw [z,nT0] at q;cases q
 exact hQ g' T' ⟨λ b o hb hn hfs q=>(sb b (lt b o q)).trans (ng.keep b o hb (λ z=>z) hfs ((sb0.2 b hn).trans q)),λ b o hb hn hfs q=>by
  obtain⟨sl,q'⟩:=ng.slot b o hb (λ z=>z) hfs ((sb0.2 b hn).trans q);exact⟨sl,(sb b (lt b o q)).trans q'⟩,Ju (KO sb0.1.symm) (Ju ng.size (KO sz.symm))⟩ nT0 ex
end
theorem HOk.noted{P:Program}{w:World}{H:Hp}{h h':Heap}{fs:List Addr}{e:Addr}{no:Addr->Prop}(ok:HOk P w H h)(n:sA fs e no h h')(he:H e=none)(hn:∀ b,no b->H b=none)(hf:∀ b∈fs,H b=none):HOk P w H h':=λ b ob q=>by
 refine(ok b ob q).stay (λ c v hc r=>n.keep c v ?_ ?_ ?_ r) (λ _ z=>z) λ _ _ z=>z
 all_goals
  rcases hc with z|z
  all_goals intro k
 ·rw [←z,k,he] at q;cases q
 ·rw [k,he] at z;cases z
 ·rw [←z,hn _ k] at q;cases q
 ·rw [hn _ k] at z;cases z
 ·rw [←z,hf _ k] at q;cases q
 ·rw [hf _ k] at z;cases z
theorem Un.noted{fs fs':List Addr}{H H':Hp}{h h1 h2:Heap}{e:Addr}{no:Addr->Prop}(u:Un fs [] H H' h h1)(n:sA fs' e no h1 h2)(he:h.get? e=none)(hn:∀ b,no b->h.get? b=none)(hs:∀ b∈fs',b∈fs\/h.get? b=none):Un fs [] H H' h h2:=by
 have ne:∀ b o,h.get? b=some o->b ≠ e/\¬ no b:=λ b o q=>⟨λ z=>(by rw [z,he] at q;cases q),λ z=>(by rw [hn b z] at q;cases q)⟩
 have nf:∀ b o,h.get? b=some o->b ∉ fs->b ∉ fs':=λ b o q hb z=>by
  rcases hs b z with k|k
  ·exact hb k
  ·rw [k] at q;cases q
 refine⟨λ b o q a hb hx=>n.keep b o (ne b o q).1 (ne b o q).2 (nf b o q hb) (u.keep b o q a hb hx),λ b o q a hb hx=>?_,u.free,λ b o q hx=>?_,u.tups,u.frzs,u.tbls⟩
 ·obtain⟨sl,r⟩:=u.slot b o q a hb hx
  by_cases hb':b∈fs'
  ·obtain⟨sl',r'⟩:=n.slot b _ (ne b o q).1 (ne b o q).2 hb' r;exact⟨sl',r'⟩
  ·exact⟨sl,n.keep b _ (ne b o q).1 (ne b o q).2 hb' r⟩
 ·obtain⟨o',r⟩:=u.there b o q hx
  by_cases hb':b∈fs'
  ·obtain⟨sl',r'⟩:=n.slot b _ (ne b o q).1 (ne b o q).2 hb' r;exact⟨_,r'⟩
  ·exact⟨_,n.keep b _ (ne b o q).1 (ne b o q).2 hb' r⟩
def pV(CX:CXT)(X:Cx)(E:XK)(σ:St):Prop:=∀ (pins:List (Addr × Obj)) (H:Hp) (s:Shared) (e:Value) (s':Shared),Inv X pins σ H s->CX X.stack H s E e s'->X.xe e s'
def qi(X:Cx)(E:XK)(σ:St):Prop:=∀ (pins:List (Addr × Obj)) (H:Hp) (s:Shared) (h':Heap) (e:Addr) (C:Addr) (us:List Value),Inv X pins σ H s->Heap.MadeExcOf s.heap h' e (.ref C) us->E (.ref C) none H->X.xe (.ref e) { s with heap:=h' }
theorem bO.there{P:Program}{w:World}{H:Hp}{h:Heap}{a:Addr}{o:HO}(x:bO P w H h a o):∃ ob,h.get? a=some ob:=by
 cases o with
 | lst xs=>obtain⟨_,_,_,_,e⟩:=x;exact⟨_,e⟩
 | tup xs=>obtain⟨_,_,_,ob,e,_⟩:=x;exact⟨ob,e⟩
 | dK kvs=>obtain⟨_,_,_,_,ob,_,_,e,_⟩:=x;exact⟨ob,e⟩
 | dT kvs=>obtain⟨_,_,_,_,ob,_,_,e,_⟩:=x;exact⟨ob,e⟩
 | set S n=>obtain⟨ob,_,_,_,e,_⟩:=x;exact⟨ob,e⟩
 | ins C dx fs=>obtain⟨_,_,_,e,_⟩:=x;exact⟨_,e⟩
 | own y=>exact x
 | xd fs=>obtain⟨_,⟨ob,_,_,e,_⟩,_⟩:=x;exact⟨ob,e⟩
 | rng lo hi=>obtain⟨_,_,_,e⟩:=x;exact⟨_,e⟩
 | frz ob u=>exact⟨_,x.1⟩
 | tbl ps=>exact⟨_,x⟩
 | met f y=>exact⟨_,x⟩
 | ext φ=>exact x.2.1
theorem HOk.gone{P:Program}{w:World}{H:Hp}{h:Heap}{a:Addr}(ok:HOk P w H h)(e:h.get? a=none):H a=none:=by
 cases q:H a with
 | none=>rfl
 | some o=>
  obtain⟨ob,z⟩:=(ok a o q).there;rw [e] at z;cases z
theorem Un.gone{fs:List Addr}{H H':Hp}{h h1:Heap}{a:Addr}(u:Un fs [] H H' h h1)(e:h1.get? a=none):h.get? a=none:=by
 cases q:h.get? a with
 | none=>rfl
 | some o=>
  obtain⟨o',z⟩:=u.there a o q (by simp);rw [e] at z;cases z
theorem gI{P:Program}{w:World}{K:W.Frag}{mg:Str->Option Value}{base:Heap}{N:List Str}{qual:Str}{scope:Scope}{f:Addr}{cd:Value}{A:Around}{outer:List Env}{s₀:Shared}{H₀:Hp}{E:XK}{σ:St} :
  qi (lT (CX1 P w) P w K mg base N qual scope f cd A outer s₀ H₀ E) E σ:=by
 intro pins H s h' e C us I hm hE;obtain⟨t,he,_,_⟩:=hm.there
 show wpAny (model P w) (A.deeper (envOfC qual scope s₀.heap.objs.size f cd)) (leaving (envOfC qual scope s₀.heap.objs.size f cd) (.ref e)) _ _ _
 unfold leaving;have un:Un (frs outer) [] H₀ H s₀.heap s.heap:=I.base;have fl:h'.FunFrames base (envOfC qual scope s₀.heap.objs.size f cd::outer):=I.stack.of_keeps λ b o q _=>⟨o,hm.keeps b o q,rfl⟩;refine wpAny_bind (p5 (s:={ s with heap:=h' }) (base:=base) (outer:=outer) I.ok.frames fl rfl he rfl rfl rfl λ g T ng nT ex=>?_)
 have nT':s.heap.get? T=none:=by
  cases q:s.heap.get? T with
  | none=>rfl
  | some o=>
   have z:=hm.keeps T o q;have nT2:h'.get? T=none:=nT;rw [nT2] at z;cases z
 have u2:Un (frs outer) [] H₀ H s₀.heap h':=un.trans (Un.kept hm.keeps);refine⟨e,T,.ref C,none,H,rfl,I.os,I.bare,u2.noted ng (un.gone hm.new) (λ _ z=>z.elim) (λ b hb=>?_),(I.hok.kept hm.keeps).noted ng (I.hok.gone hm.new) (λ _ z=>z.elim) I.stkFree,un.gone hm.new,un.gone nT',I.hok.gone hm.new,I.hok.gone nT',ex,(λ _ z=>nomatch z),hE⟩
 rcases Js.mp (I.stkSub b hb) with z|z
 ·exact .inr (by rw [z];exact JG (Je _))
 ·exact .inl z
theorem ay{P:Program}{w:World}{K:W.Frag}{mg:Str->Option Value}{base:Heap}{N:List Str}{qual:Str}{scope:Scope}{f:Addr}{cd:Value}{A:Around}{outer:List Env}{s₀:Shared}{H₀:Hp}{E:XK} :
  ei (CX1 P w) (lT (CX1 P w) P w K mg base N qual scope f cd A outer s₀ H₀ E) E:=by
 intro pins σ H s ev s' I hc;obtain⟨e,T,cls,dd,H',rfl,os,bare,un1,hok,ne,nT,He,HT,ex,hxd,hE⟩:=hc
 show wpAny (model P w) (A.deeper (envOfC qual scope s₀.heap.objs.size f cd)) (leaving (envOfC qual scope s₀.heap.objs.size f cd) (.ref e)) _ _ _
 unfold leaving;have I2:Inv _ pins σ H' s':=I.call' (ch:=[]) os un1 hok bare (λ b z=>absurd z (by simp))
 have nf:∀ b,s.heap.get? b=none->b ∉ frs (envOfC qual scope s₀.heap.objs.size f cd::outer):=λ b hb z=>by
  obtain⟨_,o,q,_⟩:=I.stack.mem z;rw [hb] at q;cases q
 have nb:base.get? T=none:=by
  cases q:base.get? T with
  | none=>rfl
  | some o=>
   have:=I.bk T o q;rw [nT] at this;cases this
 have fl:s'.heap.FunFrames base (envOfC qual scope s₀.heap.objs.size f cd::outer):=I2.stack;refine IV (mr (base:=base) (outer:=outer) I.ok.frames fl rfl ex (nf e ne) (nf T nT) nb λ g T' ng nT' ex'=>?_);have un0:Un (frs outer) [] H₀ H s₀.heap s.heap:=I.base;have un2:Un (frs outer) [] H₀ H' s₀.heap s'.heap:=I2.base;refine⟨e,T',cls,dd,H',rfl,I2.os,bare,un2.noted ng (un0.gone ne) (λ b z=>by rw [z];exact un0.gone nT) (λ b hb=>?_),hok.noted ng He (λ b z=>by rw [z];exact HT) I2.stkFree,un0.gone ne,un2.gone nT',He,hok.gone nT',ex',hxd,hE⟩
 rcases Js.mp (I.stkSub b hb) with z|z
 ·exact .inr (by rw [z];exact JG (Je _))
 ·exact .inl z
section
variable {X:Cx}
def zk(sp:Sp)(dvs:List V)(E:St->XK)(t:TA):TE:=λ σ H Q=>t σ H λ vs H1=>sp (vs++dvs) H1 Q (E σ)
theorem xv{CX:CXT}{k:Nat}{f:Addr}{fd:FuncData}{ps:List Str}{sp:Sp}{ds:List Value}{dvs:List V}{E:St->XK}{x:Str}{e:Expr}{es:List Expr}{t:TA}{p pos:Pos}
  (F:aB X.prog X.w X.K X.mg X.base CX k f fd ps sp) (hr:eM k X.A) (hg:Gl X x) (hm:X.mg x=some (.ref f)) (hk:W.keepIn X.K (.ref f)=true) (hb:aq X.K fd ps ds) (hd:bq dvs ds) (hx:∀ σ,pV CX X (E σ) σ)
  (ha:PA X (e::es) t) (hdb:(x == ("__debug__":Str))=false:=by decide) (he:starEach (e::es) X.env=(false,eval e X.env)::starEach es X.env:=by rfl) (hpl:(backTo pos (starEach es X.env)).any (·.1)=false:=by rfl) :
  PE X (.Call (.Name x p) (e::es) [] pos) (zk sp dvs E t):=by
 intro pins s σ H Q I h;refine JT (cI I hg hm ?_ hdb);refine KH (h₀:=X.base) I.ok.mod.kin hk (thn (ha pos pins s σ H _ I h) λ us s1 ⟨vs,H1,I1,r,q⟩=>⟨I1.kIn,?_⟩) he hpl;have r2:bq (vs++dvs) (us++ds):=r.append hd;have hl:(us++ds).length=ps.length:=by rw [←r2.length];exact F.len _ _ _ _ q
 refine J7 (JK (F.run X.A X.stack s1 H1 ⟨us,[]⟩ (us++ds) (vs++dvs) Q (E σ) hr I1.env0 (hb s1 us I1.kIn hl) r2 q) λ rr s' hq=>?_)
 cases rr with
 | error ev=>exact hx σ pins H1 s1 ev s' I1 hq
 | ok fl=>
  cases fl with
  | ret u=>exact I1.after hq
  | next=>exact False.elim hq
  | brk=>exact False.elim hq
  | cont=>exact False.elim hq
set_option genInjectivity false in
structure Gm where
 nm:Str
 q:Str
 N:Addr
 bs:List Value
 bm:List Value
 hdct:Bool
 sn:List Str
 sub:List Value
 ab:Bool
 col:Option Bool
 dd:Option Addr
 k0:Option Value
 k1:Option Value
 k2:Option Value
 k3:Option Value
 k5:Option Value
def sX(K:W.Frag)(C:Addr)(z:Option Value)(bmB:List Value)(newId:String):Bool:=match K.lookup C with
 | some ⟨.type "type",_,.cls dat,slt⟩=>(match dat.mro,slt.toList with
  | .ref C'::up,[_,_,_,_,some (.builtin n),_]=>C' == C && n == newId && !dat.hasDel && W.tailIn K bmB up && W.nsOkIn K dat.ns && W.nsIn K dat.ns "__init__" == some z
  | _,_=>false)
 | _=>false
theorem zA{K:W.Frag}{C:Addr}{z:Option Value}(q0:sX K C z [.type "ValueError",.type "Exception",.type "BaseException",.type "object"] "ValueError.__new__"=true) :
  ∃ c:Gm,K.lookup C=some (excClassObj c.nm c.q C c.N c.bs c.bm c.hdct c.sn c.sub c.ab c.col c.dd c.k0 c.k1 c.k2 c.k3 c.k5 "ValueError.__new__")/\W.tailIn K [.type "ValueError",.type "Exception",.type "BaseException",.type "object"] c.bm=true/\W.nsOkIn K c.N=true/\W.nsIn K c.N "__init__"=some z:=by
 unfold sX at q0;split at q0
 ·rename_i dd0 cdat slots0 look0;split at q0
  ·rename_i Cx0 tl0 g0 g1 g2 g3 nw g5 em es0
   simp only [LD,Kk,Bool.not_eq_true'] at q0<;>skip
   obtain⟨⟨⟨⟨⟨rfl,rfl⟩,ndel⟩,tok⟩,nok⟩,noi⟩:=q0;obtain⟨c1,c2,c3,c4,c5,c6,c7,c8,c9,c10,c11⟩:=cdat;dsimp only at em ndel nok noi;subst em ndel;obtain⟨lst0⟩:=slots0;have es1:lst0=[g0,g1,g2,g3,some (.builtin "ValueError.__new__"),g5]:=es0;subst es1;exact⟨⟨c1,c5,c4,c2,tl0,c6,c7,c8,c9,c10,dd0,g0,g1,g2,g3,g5⟩,look0,tok,nok,noi⟩
  ·cases q0
 ·cases q0
structure IQ(K:W.Frag)(C:Addr):Prop where
 ex:W.excIn K C [.type "ValueError",.type "Exception",.type "BaseException",.type "object"] "ValueError.__new__"=true
def zh(C:Addr)(E:St->XK)(t:TA):TS:=λ _ σ H=>t σ H λ vs H1=>vs.length<=sizeLine/\E σ (.ref C) none H1
theorem kU{C:Addr}{x:Str}{e₀:Expr}{bU:List Expr}{np cpos pos:Pos}{t:TA}{E:St->XK}(hc:X.calm=true)(hg:Gl X x)(hmg:X.mg x=some (.ref C))(O:IQ X.K C)(hx:∀ σ,qi X (E σ) σ)(ha:PA X (e₀::bU) t)
  (he:starEach (e₀::bU) X.env=(false,eval e₀ X.env)::starEach bU X.env:=by rfl) (hplain:(backTo cpos (starEach bU X.env)).any (·.1)=false:=by rfl) (hdb:(x == ("__debug__":Str))=false:=by decide) :
  PS X (.Raise (some (.Call (.Name x np) (e₀::bU) [] cpos)) none pos) (zh C E t):=by
 intro pins s σ H D I h;obtain⟨c,look0,tok,nok,noi⟩:=zA (z:=none) O.ex;have nsb:X.base.Ns c.N (X.base.nsMap c.N):=.of_isNs (W.isNs_of_in I.mod.kin nok)
 refine PySem.wpAny_Raise_call_subU (C:=C) (nm:=c.nm) (q:=c.q) (N:=c.N) (bs:=c.bs) (bm:=c.bm) (hdct:=c.hdct) (sn:=c.sn) (sub:=c.sub) (ab:=c.ab) (col:=c.col) (dd:=c.dd) (k0:=c.k0) (k1:=c.k1) (k2:=c.k2) (k3:=c.k3) (k5:=c.k5)
  JO (by decide +kernel) JO (mN:=X.base.nsMap c.N) ((W.tail_of_in I.kIn tok).hasType (by decide +kernel)) (I.ok.hd hc) (by rw [he];exact(Bool.false_or _).trans hplain) (W.nsMap_none_of_in I.mod.kin nok noi) (cI I hg hmg ⟨rfl,?_⟩ hdb)
 have hh:=ha cpos pins s σ H _ I h;rw [he] at hh ⊢;exact Lv (thn hh λ us s2 ⟨vs,H2,I2,r,hl,hE⟩=>⟨rfl,by rw [←r.length];exact hl,I2.kIn _ _ look0,nsb.keeps I2.bk,W.tail_of_in I2.kIn tok,λ h' e hm=>hx σ pins H2 s2 h' e C us I2 hm hE⟩)
abbrev Cx.mark(X:Cx)(e:Addr):Cx:={ X with A:=X.A.mark (some (.ref e)),calm:=false,xe:=λ _ _=>False }
theorem Inv.mark{pins:List (Addr × Obj)}{σ:St}{H:Hp}{s:Shared}(I:Inv X pins σ H s)(e:Addr):Inv (X.mark e) pins σ H s:=
 ⟨⟨I.ok.mod,I.ok.kind,I.ok.glob,I.ok.blt,I.ok.above,I.ok.inj,I.ok.has,I.ok.cab,(λ z=>by cases z),I.ok.frames,I.ok.stk,I.ok.exf,I.ok.bs,I.ok.bsz,I.ok.noex,I.ok.exfs,I.ok.funs,I.ok.frf⟩,I.os,I.bare,I.base,I.loc,I.cell,I.free,I.freeC,I.pin,I.hok,I.len⟩
theorem Inv.unmark{pins:List (Addr × Obj)}{σ:St}{H:Hp}{s:Shared}{e:Addr}(ok:X.Ok)(I:Inv (X.mark e) pins σ H s):Inv X pins σ H s:=
 ⟨ok,I.os,I.bare,I.base,I.loc,I.cell,I.free,I.freeC,I.pin,I.hok,I.len⟩
end
structure Gk(K:W.Frag)(x qual:Str)(st:Stmt)(f:Addr)(fd:FuncData):Prop where
 ex:∃ (oc:Value) (od:Option Addr) (dV kV doc pm:Value) (an:Option Addr) (cdv ct:Value) (osl:Array (Option Value)),
  fd=W.fnOf x qual (fi st) (cK st) (aa st) dV kV doc pm an cdv ct/\K.lookup f=some ⟨oc,od,.func fd,osl⟩/\W.codeIn K cdv qual=true
 kp:W.keepIn K (.ref f)=true
section
variable {P:Program}{w:World}{K:PySem.W.Frag}{mg:Str->Option Value}{base:Heap}
theorem Gk.ok{CX:CXT}{x qual:Str}{st:Stmt}{f:Addr}{fd:FuncData}{N ps:List Str}{k:Nat}{sp:Sp}(F:Gk K x qual st f fd)(S:ae N ps (aa st))(len:∀ vs H Q E,sp vs H Q E->vs.length=ps.length)
  (hbody:∀ (cdv:Value) (A:Around) (outer:List Env) (s:Shared) (H:Hp) (vs:List V) (Q:VK) (E:XK),eM k (A.deeper (envOfC qual (aa st) s.heap.objs.size f cdv))->sp vs H Q E →
   ∃ t,PSs (lT CX P w K mg base N qual (aa st) f cdv A outer s H E) (cK st) t/\t { nx:=λ _ H'=>Q .non H',rt:=Q } (ak N vs) H):aB P w K mg base CX (k+1) f fd ps sp:=by
 obtain⟨oc,od,dV,kV,doc,pm,an,cdv,ct,osl,rfl,lk,hcd⟩:=F.ex;exact Dr lk hcd S len λ A outer s H vs Q E hr hsp=>hbody cdv A outer s H vs Q E hr hsp
end
open PySem.W
structure om(K:W.Frag)(C:Addr):Prop where
 ga:W.findIn K (.ref C) "__getattribute__"=some (some (.builtin "BaseException.__getattribute__"))
 no:W.findIn K (.ref C) "__getattr__"=some none
 mb:W.mroIn K C (.type "BaseException")=some true
 mo:W.mroIn K C (.type "object")=some true
 cl:W.findIn K (.ref C) "__class__"=some (some (.builtin "object.__class__"))
 sp:W.specialIn K (.builtin "object.__class__") "__get__"=some (some (.builtin "getset_descriptor.__get__"))
 tk:W.takesIn K (.builtin "object.__class__")=some true
 hd:W.hasDictIn K C=true
section
variable {prog:Program}{w:World}{A:Around}{E:Value->Shared->Prop}{s:Shared}{K:PySem.W.Frag}{x C:Addr}{ox:Obj}{od:Option Obj}{name:Str}
theorem mE{M:Model}{nameV:Value}{Q:Unit->Shared->Prop}(c:om K C)(X:K.In s.heap)(I:InstAt s.heap x ox C od)(hq:Q () s):wpAny M A (checkBuiltinCall "BaseException.__getattribute__" ⟨[.ref x,nameV],[]⟩) Q E s:=by
 have hk:builtinKind "BaseException.__getattribute__"=some .slot:=by decide +kernel
 have hsplit:splitId "BaseException.__getattribute__"=some ("BaseException", "__getattribute__"):=by decide +kernel
 have ha:=F.args_bexc_ga (.ref x) nameV;have L0:=I.type (M:=M);have L1:=looks_mroIn (M:=M) X c.mb;obtain⟨hh,g,d,t,os⟩:=s;simp only [checkBuiltinCall,hk,hsplit];have LI:Looks M hh (isInstance (.ref x) (.type "BaseException")) true:=L0.andThen L1;refine IV (LI.at ?_)
 first|exact hq|exact Ja hq|(simp only [Bool.not_true,Bool.false_eq_true,if_false];exact hq)
def Iu(M:Model)(A:Around)(P:Value->Shared->Prop)(fin:PySem.Fin)(s:Shared):Prop:=match fin with
 | .done (.ret v)=>P v s
 | .again c=>c.quiet=true/\codeAny M A c (λ r s'=>match r with | .ok (.ret v)=>P v s'|_=>False) s
 | _=>False
theorem yF{Q:Option Value->Shared->Prop}(c:om K C)(X:K.In s.heap)(I:InstAt s.heap x ox C od)
  (h:∀ A':Around,wpAny (model prog w) A' (Builtin.«object.__getattribute__» ⟨[.ref x,.str name s.toks],[]⟩) (Iu (model prog w) A λ v s'=>wpAny (model prog w) A (handedOut v) (λ v s''=>Q (some v) s'') (λ _ _=>False) s') (λ _ _=>False) { s with toks:=s.toks+1 }) :
  wpAny (model prog w) A (getAttr? (.ref x) name) Q E s:=by
 obtain⟨hh,g,d,t,os⟩:=s;have L0:=I.type (M:=model prog w);have L1:=looks_findIn (M:=model prog w) X c.ga;have L2:=looks_findIn (M:=model prog w) X c.no;unfold getAttr? getAttrBy? getAttrBy;refine wpAny_bind (wpAny_mkText (wpAny_bind (wpAny_attempt (wpAny_holding (wpAny_bind (L0.at (wpAny_bind (L1.at ?_))))))))
 show wpAny _ _ (getAttrByItsOwn _ _ _ _ _ _) _ _ _
 unfold getAttrByItsOwn
 show wpAny _ _ (do let before ←typeLookup (.ref C) "__getattr__";_) _ _ _
 refine wpAny_bind (L2.at (wpAny_bind (wpAny_attempt (wpAny_holding ?_))));unfold callGetattribute;rw [if_neg (by simp)];unfold boundAndCalled;rw [F.attr_ValueError.ga.bind (.ref x)];refine wpAny_bind (wpAny_pure (wpAny_call (codeAny_call_builtin F.attr_ValueError.ga.plain F.entry_bexc_ga (mE c X I ?_))));have fin1:∀ v s',wpAny (model prog w) A (handedOut v) (λ v s''=>Q (some v) s'') (λ _ _=>False) s'->wpAny (model prog w) A (handedOut v) (λ a s'=>wpAny (model prog w) A (pure (some a)) Q E s') (λ e s'=>wpAny (model prog w) A (do if ←isInstance e (.type "AttributeError") then pure none else throw e) Q E s') s':=λ v s' z=>wpAny_mono z (λ _ _ q=>wpAny_pure q) λ _ _ q=>q.elim;refine wpAny_mono (h _) (λ fin s' z=>?_) λ _ _ z=>z.elim
 cases fin with
 | done f=>cases f with
  | ret v=>exact fin1 v s' z
  | _=>exact z.elim
 | again c'=>
  obtain⟨z1,z2⟩:=z;refine⟨z1,JK z2 λ r s'' q=>?_⟩
  cases r with
  | error e=>exact q.elim
  | ok f=>cases f with
   | ret v=>exact fin1 v s'' q
   | _=>exact q.elim
theorem lL{a g:Value}(hc:(clsIn K C).isSome=true)(ha:findIn K (.ref C) name=some (some a))(hg:specialIn K a "__get__"=some (some g))(ht:takesIn K a=some true):findObj K C od name=some (.bind g a):=by
 obtain⟨cd,hc⟩:=Option.isSome_iff_exists.mp hc;unfold findObj;rw [hc,Option.bind_some,ha,Option.bind_some];simp [hg,ht]
theorem om.some(c:om K C):(clsIn K C).isSome=true:=by
 obtain⟨cd,hc,_⟩:=any_some c.hd;rw [hc];rfl
theorem vP{Q:Option Value->Shared->Prop}(c:om K C)(X:K.In s.heap)(I:InstAt s.heap x ox C od)(hq:Q (some (.ref C)) { s with toks:=s.toks+1 }):wpAny (model prog w) A (getAttr? (.ref x) "__class__") Q E s:=by
 have hf:findObj K C od "__class__"=some (.bind (.builtin "getset_descriptor.__get__") (.builtin "object.__class__")):=lL c.some c.cl c.sp c.tk;refine yF c X I λ A'=>?_;have L0:=I.type (M:=model prog w);have L1:=looks_find (M:=model prog w) X I hf;have cg:∀ {A:Around} {R:Result->Shared->Prop},R (.ok (.ret (.ref C))) { s with toks:=s.toks+1 }->codeAny (model prog w) A (.call (.builtin "getset_descriptor.__get__") ⟨[.builtin "object.__class__",.ref x,.ref C],[]⟩) R { s with toks:=s.toks+1 }:=λ h=>class_get (s:={ s with toks:=s.toks+1 }) (ox:=ox) (od:=od) X I c.mo h;obtain⟨hh,gg,d,t,os⟩:=s;refine IV (Ja (IV (Ja (IV (L0.at (IV (L1.at ?_)))))))
 show wpAny _ _ (do ret (←holding [.builtin "object.__class__"] (call (.builtin "getset_descriptor.__get__") [.builtin "object.__class__",.ref x,.ref C]))) _ _ _
 exact IV (JN (J7 (cg (Ja (show Iu _ _ _ (.done (.ret (.ref C))) _ from handed_on rfl hq)))))
theorem p8(c:om K C):KitX K (.ref x) (.ref C) (λ h=>InstAt h x ox C od) where
 ty:=λ _ _ _ I=>I.type
 it:=λ _ _ X _=>by
  obtain⟨cdD,hcD,_⟩:=any_some c.hd;unfold clsIn at hcD;split at hcD
  ·rename_i c' d' cd' sl' ho;intro A' Q' E' s' k q;unfold isType loadHead;exact wpAny_bind (wpAny_loadPart (k _ _ (X _ _ ho)) (wpAny_pure q))
  ·cases hcD
 ne:=λ h tp dd its n sl X htp=>by
  obtain⟨cdD,hcD,_⟩:=any_some c.hd;refine Bool.eq_false_iff.mpr λ q=>?_;have e:C=tp:=Value.ref.inj (beq_iff_eq.mp q);subst e;unfold clsIn at hcD;split at hcD
  ·rename_i c' d' cd' sl' ho;have z:=(X _ _ ho).symm.trans htp;cases z
  ·cases hcD
 ca:=λ X I k=>vP c X I k
end
def gQ(oe:Obj):HO:=.frz oe (.ext λ _=>True)
structure lZ(X:Cx)(pins:List (Addr × Obj))(e:Addr):Prop where
 s0:X.s₀.heap.get? e=none
 loc:e ≠ X.env.locals
 cel:∀ x c,X.env.cells.lookup x=some c->c ≠ e
 fs:e ∉ X.fs
 pin:∀ p∈X.pn++pins,p.1 ≠ e
section
variable {X:Cx}
theorem lZ.of{pins:List (Addr × Obj)}{σ:St}{H:Hp}{s:Shared}{e:Addr}(I:Inv X pins σ H s)(hx:X.ex=[])(h:s.heap.get? e=none):lZ X pins e where
 s0:=by
  cases q:X.s₀.heap.get? e with
  | none=>rfl
  | some o=>
   obtain⟨o',z⟩:=I.base.there e o q (by rw [hx];simp);rw [h] at z;cases z
 loc:=λ z=>by
  obtain⟨m,⟨o,_,_,q,_⟩,_⟩:=I.loc;rw [←z,h] at q;cases q
 cel:=λ x c q z=>by
  obtain⟨v,o,r,_⟩:=I.cell x c q;rw [z,h] at r;cases r
 fs:=λ z=>by
  obtain⟨_,o,q,_⟩:=I.funs.mem z;rw [h] at q;cases q
 pin:=λ p hp z=>by
  have q:=(I.pin p hp).1;rw [z,h] at q;cases q
theorem Inv.track{pins:List (Addr × Obj)}{σ:St}{H:Hp}{s:Shared}{e:Addr}{oe:Obj}(I:Inv X pins σ H s)(N:lZ X pins e)(he:s.heap.get? e=some oe)(hn:H e=none):Inv X pins σ (upd H e (gQ oe)) s:=by
 have ne:∀ {b:Addr} {o:HO},H b=some o->b ≠ e:=λ q z=>by rw [z,hn] at q;cases q
 refine⟨I.ok,I.os,I.bare,⟨I.base.keep,I.base.slot,λ b o q n hx=>?_,I.base.there,λ b xs q=>?_,λ b o u q=>?_,λ b ps q=>?_⟩,I.loc,I.cell,?_,λ x c q=>?_,λ p hp=>?_,λ b o q=>?_,I.len⟩
 ·rw [ai (λ z=>by rw [z,N.s0] at q;cases q)];exact I.base.free b o q n hx
 ·have z:=I.base.tups b xs q;rw [ai (ne z)];exact z
 ·have z:=I.base.frzs b o u q;rw [ai (ne z)];exact z
 ·obtain⟨m,z⟩:=I.base.tbls b ps q;exact⟨m,by rw [ai (ne z)];exact z⟩
 ·rw [ai (Jv N.loc)];exact I.free
 ·rw [ai (N.cel x c q)];exact I.freeC x c q
 ·obtain⟨a,b,c,d,f⟩:=I.pin p hp;exact⟨a,by rw [ai (N.pin p hp)];exact b,c,d,f⟩
 ·by_cases hb:b=e
  ·subst hb;rw [ag] at q;cases q;exact⟨he,trivial,⟨oe,he⟩,λ _ _ _ _=>trivial⟩
  ·rw [ai hb] at q;exact(I.hok b o q).stay (λ _ _ _ r=>r) (λ c r=>by rw [ai (ne r)];exact r) λ c xs r=>by rw [ai (ne r)];exact r
def PHs(X:Cx)(hs:List ExceptHandler)(th:Value->Option Addr->TS):Prop:=
 ∀ (pins:List (Addr × Obj)) (s:Shared) (σ:St) (H:Hp) (D:fO) (e T:Addr) (cls:Value) (d:Option Addr),Inv X pins σ H s->lZ X pins e->H e=none->l6 s.heap e cls d T->th cls d D σ H->wpAny (model X.prog X.w) X.A (handleBy (.ref e) X.env hs) (SP X pins D) X.xe s
theorem Ck{M:Model}{A:Around}{E:Value->Shared->Prop}{s:Shared}{e T:Addr}{cls:Value}{d:Option Addr}{Q:Unit->Shared->Prop}(x:l6 s.heap e cls d T)(hQ:∀ h',(∀ b o,s.heap.get? b=some o->h'.get? b=some o)->Q () { s with heap:=h' }) :
  wpAny M A (setFlight (.ref e) none) Q E s:=by
 obtain⟨oe,vs,oT,ts,he,rfl,rfl,hd,h1,ne,hT,hdT,h3,h2c⟩:=x;unfold setFlight;refine wpAny_bind (wpAny_field he hd h1 ?_);rw [if_pos (show (Value.ref T != Value.none)=true from by simp)];refine wpAny_setField hT hdT (Array.getElem?_eq_some_iff.mp h3).1 (hQ _ λ b o q=>?_)
 by_cases hb:b=T
 ·subst hb;rw [hT] at q;cases q
  have same:Obj.mapFields (·.setIfInBounds 3 ((none:Option Addr).elim Value.none λ f=>rawInt f)) oT=oT:=by
   obtain⟨c,d,dat,sl⟩:=oT;cases hdT
   have e3:ts.setIfInBounds 3 ((none:Option Addr).elim Value.none λ f=>rawInt f)=ts:=by
    apply Array.ext_getElem?;intro i
    by_cases hi:i=3
    ·subst hi;obtain⟨hlt,hv⟩:=JA.mp h3;simp [Array.getElem?_setIfInBounds,hlt,hv]
    ·rw [Lx (Jv hi)]
   show (⟨c,d,.fields (ts.setIfInBounds 3 ((none:Option Addr).elim Value.none λ f=>rawInt f)),sl⟩:Obj)=_
   rw [e3]
  have:=JE (Obj.mapFields (·.setIfInBounds 3 ((none:Option Addr).elim Value.none λ f=>rawInt f))) hT (JU (J9 hdT _));rw [same] at this;exact this
 ·rw [JQ _ _ (Jv hb)];exact q
def Gr:Value->Option Addr->TS:=λ _ _ _ _ _=>False
theorem AO:PHs X [] Gr:=λ _ _ _ _ _ _ _ _ _ _ _ _ _ h=>h.elim
theorem SP.unmark{pins:List (Addr × Obj)}{D:fO}{f:Flow}{s2:Shared}{e:Addr}(ok:X.Ok)(q:SP (X.mark e) pins D f s2):SP X pins D f s2:=by
 cases f with
 | next=>obtain⟨σ',H',J,q⟩:=q;exact⟨σ',H',J.unmark ok,q⟩
 | brk=>obtain⟨σ',H',J,q⟩:=q;exact⟨σ',H',J.unmark ok,q⟩
 | cont=>obtain⟨σ',H',J,q⟩:=q;exact⟨σ',H',J.unmark ok,q⟩
 | ret u=>obtain⟨v,σ',H',J,r,q⟩:=q;exact⟨v,σ',H',J.unmark ok,r,q⟩
theorem Fe{M:Model}{h:Heap}{e T:Addr}{cls:Value}{d:Option Addr}(ex:l6 h e cls d T):W.Looks M h (typeOf (.ref e)) cls:=by
 obtain⟨oe,vs,oT,ts,he,rfl,_⟩:=ex;exact(W.Looks.ld he).andThen .now
def IL(i:Nat):St->Hp->(St->Hp->Prop)->Prop:=λ σ H Q=>Q (σ.set i none) H
def CD(i:Nat)(nx:St->Hp->Prop):St->Hp->Prop:=λ σ H=>IL i σ H nx
def fO.del(i:Nat)(D:fO):fO:=⟨CD i D.nx,D.rt,CD i D.bk,CD i D.ct⟩
theorem kA{M:Model}{A:Around}{E:Value->Shared->Prop}{pins:List (Addr × Obj)}{σ:St}{H:Hp}{s:Shared}{i:Nat}{x:Str}{pos:Pos}{Q:Unit->Shared->Prop}(I:Inv X pins σ H s)(hi:X.N[i]? = some x)(hk:X.env.scope.names.lookup x=some .local)(hN:X.N.Nodup)
  (h:∀ s',Inv X pins (σ.set i none) H s'->Q () s'):wpAny M A (do bindName X.env x .none;unbindBehindTheSuite X.env x pos) Q E s:=by
 obtain⟨m,hn,hl⟩:=id I.loc;have hcls:(X.env.scope.kind == .class || (X.env.scope.kind == .module && X.env.locals != X.env.globals))=false:=by rw [I.ok.kind];rfl
 have cne:=I.cne;refine PySem.wpAny_nameGoes_keeps hk hn hcls λ h' v hn' hs=>?_;obtain⟨oL,_,_,hoL,_⟩:=id hn;refine h _ ⟨I.ok,I.os,I.bare,⟨λ b o e n hb hx=>?_,λ b o e n hb hx=>?_,I.base.free,λ b o e hx=>?_,I.base.tups,I.base.frzs,I.base.tbls⟩,⟨_,hn',λ j y v' e1 e2 e3=>?_⟩,λ y c e=>?_,I.free,I.freeC,λ p hp=>?_,λ b ob e=>?_,by simpa using I.len⟩
 ·exact(hs.2 b (Jj (Jc (IZ e) I.ok.above))).trans (I.base.keep b o e n hb hx)
 ·obtain⟨sl,e1⟩:=I.base.slot b o e n hb hx;exact⟨sl,(hs.2 b (Jj (Jc (IZ e) I.ok.above))).trans e1⟩
 ·obtain⟨o',e1⟩:=I.base.there b o e hx;exact⟨o',(hs.2 b (Jj (Jc (IZ e) I.ok.above))).trans e1⟩
 ·have hj:j ≠ i:=by
   rintro rfl
   by_cases hlt:j < σ.length
   ·rw [K3 hlt] at e2;cases e2
   ·rw [J1 (by simpa using KZ hlt)] at e2;cases e2
  rw [Lh (Jv hj)] at e2;obtain⟨u',r',q⟩:=hl j y v' e1 e2 e3;refine⟨u',r',?_⟩
  rcases q with ⟨k,e⟩|⟨k,c,e,z⟩
  ·refine .inl ⟨k,?_⟩;have:y ≠ x:=λ e=>hj (kW hN e1 (e ▸ hi));simp [this,e]
  ·exact .inr ⟨k,c,e,z.sameBut hs (cne y c e)⟩
 ·obtain⟨w',z⟩:=I.cell y c e;exact⟨w',z.sameBut hs (cne y c e)⟩
 ·obtain⟨e,n,ne,nf,d⟩:=I.pin p hp;exact⟨(hs.2 p.1 ne).trans e,n,ne,nf,d⟩
 ·refine(I.hok b ob e).stay (λ c w' hc q=>(hs.2 c ?_).trans q) (λ _ q=>q) λ _ _ q=>q;rintro rfl
  rcases hc with rfl|hc
  ·rw [I.free] at e;cases e
  ·rw [I.free] at hc;cases hc
def Hy(tb:(St->XK)->TS)(th:Value->Option Addr->TS):TS:=λ D σ H=>tb (λ σ' cls d H'=>th cls d D σ' H') D σ H
abbrev Cx.tried(X:Cx)(E:Value->Shared->Prop)(pn:List (Addr × Obj)):Cx:={ X with xe:=E,pn:=pn }
theorem DH{body:List Stmt}{h₀:ExceptHandler}{hs:List ExceptHandler}{pos:Pos}{tb:(St->XK)->TS}{th:Value->Option Addr->TS}(hstk:X.stack=X.env::X.outer/\X.env.frame=some X.env.locals/\X.ex=[])
  (hb:∀ (EX:St->XK) (E:Value->Shared->Prop) (pn:List (Addr × Obj)),(∀ σ,pV (CX1 X.prog X.w) (X.tried E pn) (EX σ) σ)->PSs (X.tried E pn) body (tb EX)) (hh:PHs X (h₀::hs) th) :
  PS X (.Try body (h₀::hs) [] [] pos) (Hy tb th):=by
 intro pins s σ H D I h;refine PySem.wpAny_Try_except ?_;have okT:∀ E pn,(X.tried E pn).Ok:=λ E pn=>⟨I.ok.mod,I.ok.kind,I.ok.glob,I.ok.blt,I.ok.above,I.ok.inj,I.ok.has,I.ok.cab,I.ok.hd,I.ok.frames,I.ok.stk,I.ok.exf,I.ok.bs,I.ok.bsz,I.ok.noex,I.ok.exfs,I.ok.funs,I.ok.frf⟩
 have back:∀ {E:Value->Shared->Prop} {pins':List (Addr × Obj)} {σ':St} {H':Hp} {s':Shared},Inv (X.tried E (X.pn++pins)) pins' σ' H' s'->Inv X pins σ' H' s':=λ {E pins' σ' H' s'} J=>
  ⟨I.ok,J.os,J.bare,J.base,J.loc,J.cell,J.free,J.freeC,λ p hp=>J.pin p (Lg _ hp),J.hok,J.len⟩
 have I0:∀ E,Inv (X.tried E (X.pn++pins)) [] σ H s:=λ E=>⟨okT E _,I.os,I.bare,I.base,I.loc,I.cell,I.free,I.freeC,λ p hp=>I.pin p (by simpa using hp),I.hok,I.len⟩;refine thn (hb (λ σ' cls d H'=>th cls d D σ' H') _ (X.pn++pins) ?_ [] s σ H D (I0 _) h) λ f s1 q=>?_
 ·intro σ1 pins1 H1 s1 ev s2 I1 hc;obtain⟨e,T,cls,dd,H',rfl,os,bare,un1,hok,ne,nT,He,HT,ex,hxd,hE⟩:=hc;have I2:=I1.call' (ch:=[]) os un1 hok bare (λ b z=>absurd z (by simp))
  have nf:∀ b,s1.heap.get? b=none->b ∉ frs (X.env::X.outer):=λ b hb z=>by
   have st:=I1.stack;have st':s1.heap.FunFrames X.base (X.env::X.outer):=by rw [←hstk.1];exact st
   obtain⟨_,o,q,_⟩:=st'.mem z;rw [hb] at q;cases q
  have nb:X.base.get? T=none:=by
   cases q:X.base.get? T with
   | none=>rfl
   | some o=>
    have:=I1.bk T o q;rw [nT] at this;cases this
  have fl:s2.heap.FunFrames X.base (X.env::X.outer):=by rw [←hstk.1];exact I2.stack
  have fr:X.A.frames=some (X.env::X.outer):=by rw [←hstk.1];exact I.ok.frames
  refine mr (base:=X.base) (outer:=X.outer) fr fl hstk.2.1 ex (nf e ne) (nf T nT) nb λ g T' ng nT' ex'=>?_;have fs:∀ b∈frs (X.env::X.outer),b∈frs X.stack:=λ b hb=>by rw [hstk.1];exact hb
  have I3:=I1.call' (s':={ s2 with heap:=g }) (ch:=[]) os (un1.noted ng ne (λ b z=>by rw [z];exact nT) λ b hb=>.inl (fs b hb)) (hok.noted ng He (λ b z=>by rw [z];exact HT) λ b hb=>I2.stkFree b (fs b hb)) bare (λ b z=>absurd z (by simp));exact hh pins _ σ1 H' D e T' cls dd (back I3) (lZ.of (back I1) hstk.2.2 ne) He ex' hE
 ·cases f with
  | next=>obtain⟨σ',H',J,q⟩:=q;exact Lm ⟨σ',H',back J,q⟩
  | brk=>obtain⟨σ',H',J,q⟩:=q;exact⟨σ',H',back J,q⟩
  | cont=>obtain⟨σ',H',J,q⟩:=q;exact⟨σ',H',back J,q⟩
  | ret u=>obtain⟨v,σ',H',J,r,q⟩:=q;exact⟨v,σ',H',back J,r,q⟩
def kXd:HO->Prop:=λ o=>match o with
 | .xd _=>True
 | _=>False
def sy(H:Hp):Option Addr->Prop
 | none=>True
 | some dx=>∃ o,H dx=some o/\kXd o
theorem vY:bt X (.builtin "isinstance") (λ xs H Q=>∃ e oe C D b,xs=[.ref e,D]/\(∃ u,H e=some (.frz oe u))/\oe.cls=.ref C/\sy H oe.dict/\(∃ vs,oe.data=.fields vs)/\om X.K C/\(∃ u,bZ D u/\W.kitOne X.K (.ref C) u=some b)/\Q (.bl b) H):=by
 intro pins s σ H xs us Q I r h;obtain⟨e,oe,C,D,b,rfl,⟨uu,hH⟩,hc,hd,⟨vs,hv⟩,ec,⟨u,ru,hk⟩,q⟩:=h;obtain⟨u1,u2,rfl,r1,r2⟩:=ix r;cases (show u1=Value.ref e from r1)
 have hu:u2=u:=by
  cases D with
  | ref a=>exact(show u2=Value.ref a from r2).trans (show u=Value.ref a from ru).symm
  | ty n=>exact(show u2=Value.type n from r2).trans (show u=Value.type n from ru).symm
  | non=>exact(show u2=Value.none from r2).trans (show u=Value.none from ru).symm
  | bl b'=>exact(show u2=Value.bool b' from r2).trans (show u=Value.bool b' from ru).symm
  | int i=>obtain⟨t,rfl⟩:=ru;simp [W.kitOne,W.kitCls] at hk
  | str i=>obtain⟨t,rfl⟩:=ru;simp [W.kitOne,W.kitCls] at hk
  | byt i=>obtain⟨t,rfl⟩:=ru;simp [W.kitOne,W.kitCls] at hk
  | flt i=>obtain⟨t,rfl⟩:=ru;simp [W.kitOne,W.kitCls] at hk
 subst hu;obtain⟨he,_⟩:=(show bO X.prog X.w H s.heap e (.frz oe uu) from I.hok e _ hH);have hno:W.notCls oe=true:=by unfold W.notCls;rw [hv]
 cases q0:oe.dict with
 | none=>
  have J:W.InstAt s.heap e oe C none:=⟨he,hc,hno,by rw [q0];trivial⟩;exact Kd (p8 ec) I.kIn J hk (λ z=>nomatch z) λ tk=>⟨.bl b,H,I.tok _,rfl,q⟩
 | some dx=>
  rw [q0] at hd;obtain⟨o,ho,hx⟩:=hd
  cases o with
  | xd fs=>
   obtain⟨mA,hn,_⟩:=I.hok dx _ ho;obtain⟨oD,hoD,_⟩:=iQ hn;have J:W.InstAt s.heap e oe C (some oD):=⟨he,hc,hno,by rw [q0];exact hoD⟩;exact Kd (p8 ec) I.kIn J hk (λ z=>nomatch z) λ tk=>⟨.bl b,H,I.tok _,rfl,q⟩
  | _=>exact hx.elim
end
def zx(K:Frag)(C fI:Addr)(bmB:List Value)(newId:String):Bool:=sX K C (some (.ref fI)) bmB newId
section
variable {prog:Program}{w:World}{A:Around}{R:Result->Shared->Prop}{h:Heap}{g:Array GenState}{d:Drawn}{t:Nat}{os:OsState}{K:Frag}
variable {nm q:Str}{C N fI:Addr}{bs bm bmB:List Value}{hdct:Bool}{sn:List Str}{sub:List Value}{ab:Bool}{col:Option Bool}{dd:Option Addr}{k0 k1 k2 k3 k5:Option Value}{B Bn newId nid initId inN:String}{bmN:List Value}
abbrev jv(C:Addr)(bU:List Value)(h:Heap):Heap:=(h.push { cls:=.type "tuple",data:=.seq bU.toArray }).push { cls:=.ref C,data:=.fields #[.ref h.objs.size,.none,.none,.none,.bool false,.none] }
theorem Cm(Fn:ExcBaseFacts Bn newId inN bmN)(hBn:bmB.contains (.type Bn)=true)(F:ExcBaseFacts B nid initId bmB)(T:OwnTail h bmB bm){mN:Str->Option Value}{bU:List Value}
  (hC:h.get? C=some (excClassObj nm q C N bs bm hdct sn sub ab col dd k0 k1 k2 k3 k5 newId)) (hn:h.Ns N mN) (hni:mN "__init__"=some (.ref fI)) (X:K.In h) (hf:typeIn K (.ref fI)=some (.type "function")) (hrest:bU.length<=sizeLine)
  (hq:codeAny (model prog w) (A.under (.builtin "type.__call__" ⟨.ref C::bU,[]⟩)) (.call (.ref fI) ⟨.ref (h.objs.size+1)::bU,[]⟩) (InitBack (h.objs.size+1) R) ⟨jv C bU h,g,d,t,os⟩) :
  codeAny (model prog w) A (.call (.ref C) ⟨bU,[]⟩) R ⟨h,g,d,t,os⟩:=by
 have f1:=tc_lookup;have f2:=tc_bind (.ref C);have hT:(⟨h,g,d,t,os⟩:Shared).TypeIs (.ref C) "type":=⟨_,hC,rfl⟩;refine codeAny_of_tree ?_
 show wpAny _ _ (callAny (.ref C) _) _ _ _
 repeat (any_goals (first|assumption|with_reducible refine Kg hC ?_|wp_step))
 refine⟨rfl,?_⟩;refine codeAny_call_builtin_at (Code.quiet_builtin _ (by decide +kernel)) entry_typeCall (wpAny_check_type_call_sub hC ?_)
 repeat (first|with_reducible refine Kg hC ?_|with_reducible refine wpAny_madeBy_exc hC ?_|wp_step)
 refine codeAny_call_builtin_code (Code.quiet_builtin _ Fn.quiet) (wpAny_check_new_subU Fn hBn T hC (codeAny_exc_new_subU Fn hBn F T hC ?_ hrest))
 show wpAny _ _ _ _ _ _
 have kp:∀ b o,h.get? b=some o->(jv C bU h).get? b=some o:=λ b o e=>Heap.get?_push_of_some _ (Heap.get?_push_of_some _ e);have hC1:=kp _ _ hC;have hn1:(jv C bU h).Ns N mN:=let ⟨o,es,ep,e,r⟩:=hn;⟨o,es,ep,kp _ _ e,r⟩;have hg:(jv C bU h).get? (h.objs.size+1)=some { cls:=.ref C,data:=.fields #[.ref h.objs.size,.none,.none,.none,.bool false,.none] }:=by unfold jv;heap_get
 have hcC:(Value.ref C::bm).contains (.ref C)=true:=by simp
 have T1:=T.keeps (h':=jv C bU h) kp;have X1:K.In (jv C bU h):=λ b o e=>kp b o (X b o e);unfold isInstance
 repeat (first|with_reducible refine Kg hg ?_|wp_step)
 show wpAny _ _ (isSubtype (.ref C) (.ref C)) _ _ ⟨jv C bU h,g,d,t,os⟩
 refine wpAny_isSubtype_exc hC1 ?_;rw [hcC]
 repeat (first|with_reducible refine Kg hg ?_|wp_step)
 show wpAny _ _ (typeLookup (.ref C) _) _ _ _
 refine wpAny_typeLookup_tail hC1 hn1 T1 F.mroIs F.init.lookup ?_;rw [hni];refine JN (IV ((bind_fn X1 _ hf).at ?_));refine IV (J7 (JK hq λ r s' z=>?_))
 cases r with
 | error e=>exact z
 | ok f=>
  cases f with
  | ret v=>obtain⟨rfl,y⟩:=z;exact Ja (Ja y)
  | next=>exact z.elim
  | brk=>exact z.elim
  | cont=>exact z.elim
end
def kY:List Value->List Value
 | .ref _::r=>kY r
 | l=>l
theorem iZ(self:Value):∀ l:List Value,refuseLoop self "__setattr__" l=refuseLoop self "__setattr__" (kY l)
 | []=>rfl
 | v::r=>by
  cases v with
  | ref c=>rw [refuseLoop_ref];exact iZ self r
  | _=>rfl
def tP(l:List Value):Bool:=kY l == [.type "ValueError",.type "Exception",.type "BaseException",.type "object"]
theorem qI(self:Value){l:List Value}(e:tP l=true):refuseLoop self "__setattr__" l=pure ():=by
 rw [iZ,Kk.mp e];exact PySem.F.store_ValueError.passes self
def oW(K:Frag)(C:Addr):Bool:=(clsIn K C).any λ cd=>tP cd.mro && cd.mro.contains (.type "object")
structure tw(K:Frag)(C:Addr):Prop where
 ov:oW K C=true
 sa:findIn K (.ref C) "__setattr__"=some (some (.builtin "object.__setattr__"))
 hd:hasDictIn K C=true
section
variable {prog:Program}{w:World}{A:Around}{E:Value->Shared->Prop}{K:Frag}{x C:Addr}{s:Shared}{name:Str}{v:Value}
theorem xy{ox:Obj}{od:Option Obj}{tk:Tok}{R:Result->Shared->Prop}(X:K.In s.heap)(I:InstAt s.heap x ox C od)(hp:oW K C=true)(ht:takerIn K C name=some none)
  (h:∀ b,wpAny (model prog w) A.in1 (Builtin.ObjectAttr.storeInOwnDict (.ref x) (.ref C) (.str name tk) name v b) (λ fin s'=>match fin with | .done f=>R (.ok f) s' | .again c'=>c'.quiet=true/\codeAny (model prog w) A c' R s') (λ e s'=>R (.error e) s') s) :
  codeAny (model prog w) A (.call (.builtin "object.__setattr__") ⟨[.ref x,.str name tk,v],[]⟩) R s:=by
 have sf:=PySem.F.store_object;obtain⟨dat,hcl,hov⟩:=any_some hp;rw [LD] at hov
 have emp:dat.mro.isEmpty=false:=by cases q:dat.mro with|nil=>rw [q] at hov;cases hov.2|cons _ _=>rfl
 have Dn:Looks (model prog w) s.heap (isInstance (.ref x) (.type "object")) true:=I.type.andThen (looks_mroIn X (by unfold mroIn;rw [hcl,Option.bind_some,if_neg (by rw [emp];decide),hov.2]));refine codeAny_call_builtin sf.slot.plain sf.entry (@check_slot (model prog w) _ _ s "object.__setattr__" "object" "__setattr__" (.ref x) [.str name tk,v] [] _ sf.kind sf.split Dn (sf.args (.ref x) (.str name tk) v) ?_);obtain⟨on,hon,hr⟩:=Option.bind_eq_some_iff.mp ht;have lm:Looks (model prog w) s.heap (mroOf (.ref C)) dat.mro:=(looks_clsIn X hcl).andThen .now
 have lt:Looks (model prog w) s.heap (Builtin.ObjectAttr.storeTaker? on) none:=by
  cases on with
  | none=>exact .now
  | some a=>
   obtain⟨b,hb,hz⟩:=Jd.mp hr;refine(looks_takesIn X hb).andThen ?_;cases b
   ·exact .now
   ·cases hz
 rw [osa_eq,refuse_eq];refine IV (IV (I.type.here (IV (lm.here (by rw [qI _ hov.1];refine Ja (IV (I.type.here (IV ((Lq X hon).here (IV (lt.here (h _))))))))))))
theorem AE{vs:Array Value}{sl:Array (Option Value)}{Q:Unit->Shared->Prop}(c:tw K C)(X:K.In s.heap)(hx:s.heap.get? x=some ⟨.ref C,none,.fields vs,sl⟩)(ht:takerIn K C name=some none)
  (h:∀ h' tk,h'.get? x=some ⟨.ref C,some s.heap.objs.size,.fields vs,sl⟩->h'.Ns1 s.heap.objs.size (λ y=>if y=name then some v else none)->(∀ b o,b ≠ x->s.heap.get? b=some o->h'.get? b=some o)->Q () { s with heap:=h',toks:=tk }) :
  wpAny (model prog w) A (setAttr (.ref x) name v) Q E s:=by
 have I:InstAt s.heap x ⟨.ref C,none,.fields vs,sl⟩ C none:=⟨hx,rfl,rfl,trivial⟩;refine set_plain X I c.sa (xy (s:={ s with toks:=s.toks+1 }) X I c.ov ht λ b=>?_);obtain⟨cd,hc,hd'⟩:=any_some c.hd;have hxs:x ≠ s.heap.objs.size:=Jj (IZ hx);have hx1:(s.heap.push { cls:=.type "dict",data:=.dict #[] }).get? x=some ⟨.ref C,none,.fields vs,sl⟩:=IW _ hx;refine IV (Ja (IV (IV (wpAny_loadPart hx ?_))))
 show wpAny _ _ (do if !(←classData C).hasDict then pure none else _) _ _ _
 refine IV (Looks.here (s:={ s with toks:=s.toks+1 }) (looks_clsIn X hc) ?_);rw [hd',Jt (by decide)]
 show wpAny _ _ (do let d ←alloc { cls:=.type "dict",data:=.dict #[] };update x λ o=>{ o with dict:=some d };dictMade (.ref C) x d) _ _ _
 refine IV (wpAny_alloc (IV (wpAny_update hx1 (Ja (a:=some s.heap.objs.size) ?_))));generalize hg:(s.heap.push { cls:=.type "dict",data:=.dict #[] }).update x (λ o=>{ o with dict:=some s.heap.objs.size })=g0;have gx:g0.get? x=some ⟨.ref C,some s.heap.objs.size,.fields vs,sl⟩:=by rw [←hg];exact JE _ hx1 rfl
 have gd:g0.get? s.heap.objs.size=some { cls:=.type "dict",data:=.dict #[] }:=by rw [←hg];exact(Heap.get?_update_ne _ _ _ _ hxs.symm).trans (Heap.get?_push_at rfl rfl)
 have gk:∀ b o,b ≠ x->s.heap.get? b=some o->g0.get? b=some o:=λ b o hb e=>by rw [←hg];exact(Heap.get?_update_ne _ _ _ _ hb).trans (IW _ e)
 have gn:g0.Ns s.heap.objs.size (λ _=>none):=⟨_,#[],_,gd,rfl,λ e he=>absurd he (by simp),λ _=>rfl⟩
 show wpAny _ _ (Builtin.ObjectAttr.storeInDict s.heap.objs.size (.str name s.toks) name v) _ _ _
 unfold Builtin.ObjectAttr.storeInDict Builtin.ObjectAttr.newKeyGuard;refine wpAny_bind (wpAny_pure (wpAny_bind (wpAny_nsSet1 (Heap.Ns1.of_empty gn) λ h2 n2 s2=>?_)));obtain⟨oD,eD,pD,q1,q2,q3⟩:=n2.count (Within.cons name v Within.nil);refine wpAny_bind (wpAny_lookBehind q1 (by rw [q2];exact pastItsLine_dict (Nat.le_trans q3 (by rw [length_cons,List.length_nil,sizeLine_eq];omega))) ?_);exact wpAny_pure (h h2 _ ((s2.2 x hxs).trans gx) n2 λ b o hb e=>(s2.2 b (Nat.ne_of_lt (Heap.lt_size e))).trans (gk b o hb e))
end
section
variable {prog:Program}{w:World}{A:Around}{E:Value->Shared->Prop}{s:Shared}{K:PySem.W.Frag}{x C dx:Addr}{ox:Obj}{od:Option Obj}{name:Str}{mA:Str->Option Value}{u:Value}
theorem Cn{expr:Bool}{Q:Value->Shared->Prop}(c:om K C)(X:K.In s.heap)(hx:s.heap.get? x=some ox)(hcl:ox.cls=.ref C)(hno:notCls ox=true)(hd:ox.dict=some dx)(hn:s.heap.Ns1 dx mA)(ha:aZ K C name)(hv:mA name=some u)(hh:handedIn u=true)
  (h:Q u { s with toks:=s.toks+1 }):wpAny (model prog w) A (getAttr (.ref x) name expr) Q E s:=by
 obtain⟨oD,ho,hl⟩:=iQ hn;have I:InstAt s.heap x ox C (some oD):=⟨hx,hcl,hno,by rw [hd];exact ho⟩;have hf:findObj K C (some oD) name=some (.value u):=findObj_own c.hd ha rfl (by rw [hl,hv]);have L0:=I.type (M:=model prog w);have L1:=looks_findIn (M:=model prog w) X c.ga;have L2:=looks_findIn (M:=model prog w) X c.no;have L3:=looks_find (M:=model prog w) X I hf;have ck:=λ {M:Model} {A:Around} {E:Value->Shared->Prop} {Q:Unit->Shared->Prop} (q:Q () { s with toks:=s.toks+1 })=>mE (M:=M) (A:=A) (E:=E) (nameV:=.str name s.toks) (s:={ s with toks:=s.toks+1 }) c X I q;obtain⟨hp,g,d,t,os⟩:=s;unfold getAttr getAttrBy;refine wpAny_bind (wpAny_mkText (wpAny_holding (wpAny_bind (L0.at (wpAny_bind (L1.at ?_))))))
 show wpAny _ _ (getAttrByItsOwn _ _ _ _ _ _) _ _ _
 unfold getAttrByItsOwn
 show wpAny _ _ (do let before ←typeLookup (.ref C) "__getattr__";_) _ _ _
 refine wpAny_bind (L2.at (wpAny_bind (wpAny_attempt (wpAny_holding ?_))));unfold callGetattribute;rw [show (expr && onTheHeap (Value.builtin "BaseException.__getattribute__"))=false from Bool.and_false _,if_neg (by decide)];unfold boundAndCalled;rw [F.attr_ValueError.ga.bind (.ref x)];refine wpAny_bind (wpAny_pure (wpAny_call (codeAny_call_builtin F.attr_ValueError.ga.plain F.entry_bexc_ga (ck ?_))));refine wpAny_bind (wpAny_pure (wpAny_bind (wpAny_pure (wpAny_bind (L0.at (wpAny_bind (L3.at (wpAny_pure ?_))))))))
 show wpAny _ _ (handedOut u) _ _ _
 rw [handedOut_of hh];exact Ja h
end
section
variable {prog:Program}{w:World}{A:Around}{E:Value->Shared->Prop}{h:Heap}{g:Array GenState}{d:Drawn}{t:Nat}{os:OsState}{e a0:Addr}{dct:Option Addr}
variable {nm q:Str}{C N:Addr}{bs bm bmB:List Value}{hdct:Bool}{sn:List Str}{sub:List Value}{ab:Bool}{col:Option Bool}{dd:Option Addr}{k0 k1 k2 k3 k5:Option Value}{B newId nid initId:String}
theorem vM(F:ExcBaseFacts B nid initId bmB)(T:OwnTail h bmB bm){bU:List Value}{Q:Value->Shared->Prop}(hC:h.get? C=some (excClassObj nm q C N bs bm hdct sn sub ab col dd k0 k1 k2 k3 k5 newId))
  (he:h.get? e=some ⟨.ref C,dct,.fields #[.ref a0,.none,.none,.none,.bool false,.none],#[]⟩) (hrest:bU.length<=sizeLine)
  (hq:∀ h' a1,h'.get? e=some ⟨.ref C,dct,.fields #[.ref a1,.none,.none,.none,.bool false,.none],#[]⟩->(∀ b o,b ≠ e->h.get? b=some o->h'.get? b=some o)->Q .none ⟨h',g,d,t,os⟩) :
  wpAny (model prog w) A (call (.builtin initId) (.ref e::bU)) Q E ⟨h,g,d,t,os⟩:=by
 refine J7 (Kp F.init.plain F.initEntry (wpAny_check_init_subU F T hC he rfl ?_))
 wp_walk
 refine hq _ h.objs.size ?_ λ b o hb z=>?_
 ·rw [JE _ (IW _ he) rfl];rfl
 ·rw [JQ _ _ (Jv hb)];exact IW _ z
end
theorem GC{K:Frag}{h:Heap}{N:Addr}{mg:Str->Option Value}{n:Str}{v:Value}(X:K.In h)(G:h.Ns N mg)(e:nsIn K N n=some (some v)):mg n=some v:=by
 obtain⟨ob,ents,prev,hob,hdat,_,hfind⟩:=G;unfold nsIn at e;split at e
 ·rename_i c0 d0 es0 n0 sl0 look;have z:=X _ _ look;rw [hob] at z;cases z;cases hdat;split at e
  ·rename_i ent hent;cases e;rw [←hfind];unfold nsFind findBy;rw [←Array.find?_toList,hent];rfl
  ·split at e<;>cases e
 ·cases e
structure CL(K:W.Frag)(C fI:Addr):Prop where
 ex:zx K C fI [.type "ValueError",.type "Exception",.type "BaseException",.type "object"] "ValueError.__new__"=true
 fn:typeIn K (.ref fI)=some (.type "function")
 st:tw K C
theorem CL.op{K:W.Frag}{C fI:Addr}{h:Heap}(O:CL K C fI)(X:K.In h):∃ c:Gm,h.get? C=some (excClassObj c.nm c.q C c.N c.bs c.bm c.hdct c.sn c.sub c.ab c.col c.dd c.k0 c.k1 c.k2 c.k3 c.k5 "ValueError.__new__") /\
  OwnTail h [.type "ValueError",.type "Exception",.type "BaseException",.type "object"] c.bm/\h.Ns c.N (h.nsMap c.N)/\h.nsMap c.N "__init__"=some (.ref fI):=by
 obtain⟨c,look0,tok,nok,noi⟩:=zA O.ex;have nsb:h.Ns c.N (h.nsMap c.N):=.of_isNs (W.isNs_of_in X nok);exact⟨c,X _ _ look0,W.tail_of_in X tok,nsb,GC X nsb noi⟩
def exO(e C:Addr)(d:Option Addr):Heap->Prop:=λ h=>∃ t,h.get? e=some ⟨.ref C,d,.fields #[.ref t,.none,.none,.none,.bool false,.none],#[]⟩
def exH(e C:Addr)(d:Option Addr):HO:=.ext (exO e C d)
theorem tu{P:Program}{w:World}{H:Hp}{h:Heap}{e C:Addr}{d:Option Addr}(q:exO e C d h):bO P w H h e (exH e C d):=by
 obtain⟨t,he⟩:=id q;exact⟨q,⟨_,he⟩,λ h1 h2 ⟨t,a⟩ b=>⟨t,b _ a⟩⟩
theorem kB{P:Program}{w:World}{H:Hp}{h:Heap}{e C:Addr}{d:Option Addr}(q:bO P w H h e (exH e C d)):exO e C d h:=q.1
section
variable {X:Cx}{pins:List (Addr × Obj)}{σ:St}{H:Hp}{s:Shared}
theorem Inv.adopt{a:Addr}{o:HO}(I:Inv X pins σ H s)(N:lZ X pins a)(hn:H a=none)(new:bO X.prog X.w (upd H a o) s.heap a o):Inv X pins σ (upd H a o) s:=by
 have ne:∀ {b:Addr} {u:HO},H b=some u->b ≠ a:=λ q z=>by rw [z,hn] at q;cases q
 refine⟨I.ok,I.os,I.bare,⟨I.base.keep,I.base.slot,λ b u q n hx=>?_,I.base.there,λ b xs q=>?_,λ b u v q=>?_,λ b ps q=>?_⟩,I.loc,I.cell,?_,λ x c q=>?_,λ p hp=>?_,λ b u q=>?_,I.len⟩
 ·rw [ai (λ z=>by rw [z,N.s0] at q;cases q)];exact I.base.free b u q n hx
 ·have z:=I.base.tups b xs q;rw [ai (ne z)];exact z
 ·have z:=I.base.frzs b u v q;rw [ai (ne z)];exact z
 ·obtain⟨m,z⟩:=I.base.tbls b ps q;exact⟨m,by rw [ai (ne z)];exact z⟩
 ·rw [ai (Jv N.loc)];exact I.free
 ·rw [ai (N.cel x c q)];exact I.freeC x c q
 ·obtain⟨a1,b1,c1,d1,f1⟩:=I.pin p hp;exact⟨a1,by rw [ai (N.pin p hp)];exact b1,c1,d1,f1⟩
 ·by_cases hb:b=a
  ·subst hb;rw [ag] at q;cases q;exact new
  ·rw [ai hb] at q;exact(I.hok b u q).stay (λ _ _ _ r=>r) (λ c r=>by rw [ai (ne r)];exact r) λ c xs r=>by rw [ai (ne r)];exact r
theorem Inv.newAt{a:Addr}(I:Inv X pins σ H s)(ha:s.heap.objs.size<=a):lZ X pins a where
 s0:=JG (Ju I.sz ha)
 loc:=Kn (Jc I.lt ha)
 cel:=λ x c e z=>by
  obtain⟨v,o,q,_⟩:=I.cell x c e;exact absurd (Jc (IZ q) (by rw [z];exact ha)) (JM _)
 fs:=I.nofs ha
 pin:=λ p hp z=>absurd (Jc (IZ (I.pin p hp).1) (by rw [z];exact ha)) (JM _)
structure Dt(K:W.Frag)(B:Addr):Prop where
 sp:specialIn K (.ref B) "__getattribute__"=some (some (.builtin "type.__getattribute__"))
 rd:readsIn K B (.type "type")=true
 fc:findCls K (.ref B) (.type "type") "__init__"=some (.val (.builtin "ValueError.__init__"))
def kXI(K:W.Frag)(Q:VK):List V->Hp->Prop:=λ vs H=>∃ e C d fI bU,vs=.ref e::bU/\H e=some (exH e C d)/\CL K C fI/\bU.length<=sizeLine/\Q .non H
def tXI(K:W.Frag)(t:TA):TE:=λ σ H Q=>t σ H (kXI K Q)
theorem xn{x:Str}{B:Addr}{p apos pos:Pos}{e:Expr}{es:List Expr}{t:TA}{pl:Sem Bool}(hg:Gl X x)(hm:X.mg x=some (.ref B))(b:Dt X.K B)(ha:PA X (e::es) t)(hdb:(x == ("__debug__":Str))=false:=by decide)
  (hst:starEach (e::es) X.env=(false,eval e X.env)::starEach es X.env:=by rfl) (hpl:(backTo pos (starEach es X.env)).any (·.1)=false:=by rfl)
  (ht:eval (.Call (.Attribute (.Name x p) "__init__" apos) (e::es) [] pos) X.env=(do
   let ov ←eval (.Name x p) X.env
   standAt apos.atName
   let (f,first) ←holding [ov] (getMethod ov "__init__" pl)
   callWith pos f first (backTo pos (starEach (e::es) X.env)) (backToKw pos (keywordEach [] X.env))):=by rfl) :
  PE X (.Call (.Attribute (.Name x p) "__init__" apos) (e::es) [] pos) (tXI X.K t):=by
 intro pins s σ H Q I h;refine Ky (pl:=pl) (cI I hg hm ?_ hdb) ht;refine method_cls I.kIn b.sp (cls_value I.kIn b.rd b.fc (by decide +kernel) ?_);have I1:=I.tok (s.toks+1);refine Lz (thn (ha pos pins _ σ H _ I1 h) λ us s1 ⟨vs,H1,J,r1,q1⟩=>?_) hst hpl;obtain⟨ex,C,d,fI,bU,rfl,he,O,hl,q⟩:=q1
 cases r1 with
 | cons r rr=>
  cases r;obtain⟨t0,h0⟩:=kB (J.hok ex _ he);obtain⟨c,hC,T,_,_⟩:=O.op J.kIn;refine vM (h:=s1.heap) (g:=s1.gens) (d:=s1.drawn) (t:=s1.toks) (os:=s1.os) JO T hC h0 (by rw [←rr.length];exact hl) λ h' a1 q1 q2=>?_
  have same:upd H1 ex (exH ex C d)=H1:=funext λ b=>by
   by_cases hb:b=ex
   ·rw [hb,ag,he]
   ·rw [ai hb]
  have J2:=J.write (t':=s1.toks) (x:=ex) (e:=ex) (o:=exH ex C d) (by rw [he];trivial) (.inl rfl) (λ b u hb z=>q2 b u hb z) ⟨_,q1⟩ (tu ⟨a1,q1⟩);rw [same] at J2;exact⟨.non,H1,J2,rfl,q⟩
end
def HS(K:W.Frag)(f:Str)(y:V)(σ:St)(nx:St->Hp->Prop):VK:=λ x H=>∃ e C,x=.ref e/\H e=some (exH e C none)/\tw K C/\takerIn K C f=some none /\
 ∀ dx H',H dx=none->dx ≠ e->(∀ b o,b ≠ e->H b=some o->H' b=some o)->H' e=some (exH e C (some dx))->H' dx=some (.xd [(f,y)])->nx σ H'
def FR(K:W.Frag)(f:Str)(ta:TE)(σ:St)(nx:St->Hp->Prop):VK:=λ y H=>ta σ H (HS K f y σ nx)
def CN(K:W.Frag)(ta tv:TE)(f:Str):TS:=λ D σ H=>tv σ H (FR K f ta σ D.nx)
section
variable {X:Cx}{e o value:Expr}{ta tv:TE}{f:Str}{pos pos':Pos}
theorem AJ(ha:PE X o ta)(hv:PE X value tv)(hs:swapsWith value (some (.Attribute o f pos')) pos.line X.env=pure false):PS X (.Assign [.Attribute o f pos'] value pos) (CN X.K ta tv f):=by
 intro pins s σ H D I h;refine plainObj_wpAny_Assign_Attribute (thn (hv pins s σ H _ I h) λ u s1 ⟨y,H1,I1,ry,q⟩=>thn (ha pins s1 σ H1 _ I1 q) λ ov s2 ⟨x,H2,I2,rx,q1⟩=>?_) hs;obtain⟨ex,C,rfl,he,st,ht,k⟩:=q1;obtain rfl:ov=Value.ref ex:=rx;obtain⟨t0,h0⟩:=kB (I2.hok ex _ he);refine AE st I2.kIn h0 ht λ h' tk q1 q2 q3=>?_;have fr:H2 s2.heap.objs.size=none:=I2.hok.fresh (Je _);have ne:s2.heap.objs.size ≠ ex:=Kn (IZ h0);have J:=I2.write (t':=tk) (x:=ex) (e:=ex) (o:=exH ex C (some s2.heap.objs.size)) (by rw [he];trivial) (.inl rfl) (λ b u hb z=>q3 b u hb z) ⟨_,q1⟩ (tu ⟨t0,q1⟩);have J2:=J.adopt (a:=s2.heap.objs.size) (o:=.xd [(f,y)]) (I2.newAt (Je _)) (by rw [ai ne];exact fr) ⟨_,q2,λ g=>?_⟩
 ·refine⟨σ,_,J2,k s2.heap.objs.size _ fr ne (λ b u hb z=>?_) ?_ ag⟩
  ·rw [ai (aT z fr),ai hb];exact z
  ·rw [ai (Jv ne),ag]
 ·show rZ (List.lookup g [(f,y)]) (if g=f then some u else none)
  by_cases hg:g=f
  ·subst hg;rw [Jw rfl,List.lookup_cons_self];exact ry
  ·have hb:(g == f)=false:=Kh.mpr hg;rw [Jt hg,JZ,hb];exact True.intro
end
def del(H:Hp)(e:Addr):Hp:=λ b=>if b=e then none else H b
theorem kZ{H:Hp}{e:Addr}:del H e e=none:=Jw rfl
theorem eX{H:Hp}{e b:Addr}(h:b ≠ e):del H e b=H b:=Jt h
theorem Inv.untrack{X:Cx}{pins:List (Addr × Obj)}{σ:St}{H:Hp}{s:Shared}{e C:Addr}{d:Option Addr}(I:Inv X pins σ H s)(he:H e=some (exH e C d)):Inv X pins σ (del H e) s:=by
 have ne:∀ {b:Addr} {u:HO},H b=some u->u ≠ exH e C d->b ≠ e:=λ q z k=>by rw [k,he] at q;exact z (Jy q).symm
 have no:∀ {b:Addr},H b=none->del H e b=none:=λ {b} q=>by
  by_cases hb:b=e
  ·rw [hb];exact kZ
  ·rw [eX hb];exact q
 refine⟨I.ok,I.os,I.bare,⟨I.base.keep,I.base.slot,λ b u q n hx=>no (I.base.free b u q n hx),I.base.there,λ b xs q=>?_,λ b u v q=>?_,λ b ps q=>?_⟩,I.loc,I.cell,no I.free,λ x c q=>no (I.freeC x c q),λ p hp=>?_,λ b u q=>?_,I.len⟩
 ·have z:=I.base.tups b xs q;rw [eX (ne z (by intro k;cases k))];exact z
 ·have z:=I.base.frzs b u v q;rw [eX (ne z (by intro k;cases k))];exact z
 ·obtain⟨m,z⟩:=I.base.tbls b ps q;exact⟨m,by rw [eX (ne z (by intro k;cases k))];exact z⟩
 ·obtain⟨a1,b1,c1,d1,f1⟩:=I.pin p hp;exact⟨a1,no b1,c1,d1,f1⟩
 ·have hb:b ≠ e:=λ z=>by rw [z,kZ] at q;cases q
  rw [eX hb] at q;exact(I.hok b u q).stay (λ _ _ _ r=>r) (λ c r=>by rw [eX (ne r (by intro k;cases k))];exact r) λ c xs r=>by rw [eX (ne r (by intro k;cases k))];exact r
def uk(X:Cx)(E:XK)(σ:St):Prop:=∀ (pins:List (Addr × Obj)) (H:Hp) (s:Shared) (e C:Addr) (d:Option Addr),Inv X pins σ H s->H e=none->X.s₀.heap.get? e=none->exO e C d s.heap->(∀ dx,d=some dx->∃ fs,H dx=some (.xd fs))->E (.ref C) d H->X.xe (.ref e) s
theorem o1{P:Program}{w:World}{K:W.Frag}{mg:Str->Option Value}{base:Heap}{N:List Str}{qual:Str}{scope:Scope}{f:Addr}{cd:Value}{A:Around}{outer:List Env}{s₀:Shared}{H₀:Hp}{E:XK}{σ:St} :
  uk (lT (CX1 P w) P w K mg base N qual scope f cd A outer s₀ H₀ E) E σ:=by
 intro pins H s e C d I hn hn0 hx hd hE;obtain⟨t,he⟩:=hx
 show wpAny (model P w) (A.deeper (envOfC qual scope s₀.heap.objs.size f cd)) (leaving (envOfC qual scope s₀.heap.objs.size f cd) (.ref e)) _ _ _
 unfold leaving;have un:Un (frs outer) [] H₀ H s₀.heap s.heap:=I.base;refine wpAny_bind (p5 (s:=s) (base:=base) (outer:=outer) I.ok.frames I.stack rfl he rfl rfl rfl λ g T ng nT ex=>?_);refine⟨e,T,.ref C,d,H,rfl,I.os,I.bare,un.noted ng hn0 (λ _ z=>z.elim) (λ b hb=>?_),I.hok.noted ng hn (λ _ z=>z.elim) I.stkFree,hn0,un.gone nT,hn,I.hok.gone nT,ex,hd,hE⟩
 rcases Js.mp (I.stkSub b hb) with z|z
 ·exact .inr (by rw [z];exact JG (Je _))
 ·exact .inl z
theorem qJ{M:Model}{A:Around}{E:Value->Shared->Prop}{env:Env}{s:Shared}{x:Sem Value}{Q:Flow->Shared->Prop}{C:Addr}(hh:A.handled=none)
  (h:wpAny M A x (λ v s1=>∃ (e:Addr) (d:Option Addr) (c:Gm) (newId:String),v=.ref e/\s1.heap.get? C=some (excClassObj c.nm c.q C c.N c.bs c.bm c.hdct c.sn c.sub c.ab c.col c.dd c.k0 c.k1 c.k2 c.k3 c.k5 newId)/\c.bm.contains (.type "BaseException")=true/\exO e C d s1.heap/\E (.ref e) s1) E s) :
  wpAny M A (raiseStmt env (some x) none) Q E s:=by
 unfold raiseStmt;refine wpAny_bind (wpAny_mono h (λ v s1 h1=>?_) λ _ _ z=>z);obtain⟨e,d,c,newId,rfl,hC,hb,⟨t,he⟩,hE⟩:=h1;have hcB:(Value.ref C::c.bm).contains (.type "BaseException")=true:=by rw [List.contains_cons,hb,Bool.or_true]
 obtain⟨hp,g,dr,tk,os⟩:=s1
 repeat (first|with_reducible refine Kg he ?_|with_reducible refine Kg hC ?_|(with_reducible refine wpAny_isSubtype_exc hC ?_;rw [hcB])|wp_step)
 exact wpAny_raiseNew_none hh hE
section
variable {X:Cx}
def kRz(e C:Addr)(E:XK):VK:=λ v H=>v=.non/\∃ d,H e=some (exH e C d)/\(∀ dx,d=some dx->∃ fs,del H e dx=some (.xd fs))/\E (.ref C) d (del H e)
def kRI(C:Addr)(sp:Sp)(E:XK):List V->Hp->Prop:=λ vs H=>vs.length<=sizeLine/\∀ e,H e=none->sp (.ref e::vs) (upd H e (exH e C none)) (kRz e C E) E0
def tF(C:Addr)(sp:Sp)(E:St->XK)(t:TA):TS:=λ _ σ H=>t σ H (kRI C sp (E σ))
theorem uA{C fI:Addr}{fd:FuncData}{ps:List Str}{sp:Sp}{k:Nat}{x:Str}{e₀:Expr}{bU:List Expr}{np cpos pos:Pos}{t:TA}{E:St->XK}(hc:X.calm=true)(hg:Gl X x)(hmg:X.mg x=some (.ref C))(O:CL X.K C fI)
  (F:aB X.prog X.w X.K X.mg X.base CX0 k fI fd ps sp) (hr:eM (k+1) X.A) (hb:aq X.K fd ps []) (hx:∀ σ,uk X (E σ) σ) (ha:PA X (e₀::bU) t)
  (he:starEach (e₀::bU) X.env=(false,eval e₀ X.env)::starEach bU X.env:=by rfl) (hplain:(backTo cpos (starEach bU X.env)).any (·.1)=false:=by rfl) (hdb:(x == ("__debug__":Str))=false:=by decide) :
  PS X (.Raise (some (.Call (.Name x np) (e₀::bU) [] cpos)) none pos) (tF C sp E t):=by
 intro pins s σ H D I h;rw [arm_exec_Raise];refine wpAny_bind (wpAny_standAt (qJ (C:=C) (I.ok.hd hc) (wpAny_bind (wpAny_mono (wpAny_Call_ofName (cI I hg hmg ?_ hdb)) (λ v s3 h3=>wpAny_bind (wpAny_standAt (wpAny_pure h3))) λ _ _ z=>z))));unfold callWith;have hh:=ha cpos pins s σ H _ I h;rw [he] at hh ⊢;refine wpAny_bind (wpAny_holding (Calls.evalArgs_plain (thn hh λ us s2 ⟨vs,H2,I2,r,hl,hsp⟩=>wpAny_bind (wpAny_standAt ?_))));obtain⟨c,hC,T,hN,hi⟩:=O.op I2.kIn;have hpl2:(backTo cpos ((false,eval e₀ X.env)::starEach bU X.env)).any (·.1)=false:=(Bool.false_or _).trans hplain
 have I3:Inv X pins σ (upd H2 (s2.heap.objs.size+1) (exH (s2.heap.objs.size+1) C none)) { s2 with heap:=jv C us s2.heap }:=by
  have J:=I2.kept (t':=s2.toks) (h':=s2.heap.push { cls:=.type "tuple",data:=.seq us.toArray }) λ b u q=>IW _ q;refine J.laid (t':=s2.toks) (a:=s2.heap.objs.size+1) (o:=exH (s2.heap.objs.size+1) C none) (λ b u q=>IW _ q) (KO (Jx _ _)) (tu ⟨s2.heap.objs.size,?_⟩);have:=Jf (s2.heap.push { cls:=.type "tuple",data:=.seq us.toArray }) (o:=⟨.ref C,none,.fields #[.ref s2.heap.objs.size,.none,.none,.none,.bool false,.none],#[]⟩) rfl
  rwa [Jx] at this
 have hq:=hsp (s2.heap.objs.size+1) (I2.hok.fresh (Kw _));have r2:bq (V.ref (s2.heap.objs.size+1)::vs) (Value.ref (s2.heap.objs.size+1)::us):=.cons rfl r
 have hl2:(Value.ref (s2.heap.objs.size+1)::us++[]).length=ps.length:=by
  rw [KR,←r2.length];exact F.len _ _ _ _ hq
 simp only [hpl2];refine IV (wpAny_keeperOf_exc (h:=s2.heap) (g:=s2.gens) (d:=s2.drawn) (t:=s2.toks) (os:=s2.os) hC ?_);refine IV (J7 (Cm (h:=s2.heap) (g:=s2.gens) (d:=s2.drawn) (t:=s2.toks) (os:=s2.os) JO (by decide +kernel) JO T hC hN hi I2.kIn O.fn (by show us.length<=sizeLine;rw [←r.length];exact hl) ?_));have hbind:=hb { s2 with heap:=jv C us s2.heap } (Value.ref (s2.heap.objs.size+1)::us) I3.kIn hl2;rw [KR] at hbind;refine JK (F.run _ X.stack _ _ ⟨Value.ref (s2.heap.objs.size+1)::us,[]⟩ (Value.ref (s2.heap.objs.size+1)::us) _ _ E0 (hr.make C us []) (I3.env0.make C us []) hbind r2 hq) λ rr s' hq'=>?_
 cases rr with
 | error e=>exact hq'.elim
 | ok fl=>
  cases fl with
  | ret u=>
   obtain⟨v,H',I4,rv,rfl,d,hd1,hd2,hE⟩:=I3.after hq';cases rv;refine⟨rfl,IV (JN (wpAny_point (Ja ?_)))⟩;obtain⟨c',hC',T',_,_⟩:=O.op I4.kIn
   exact⟨s2.heap.objs.size+1,d,c',_,rfl,hC',T'.hasType (by decide +kernel),kB (I4.hok _ _ hd1),
    hx σ pins (del H' (s2.heap.objs.size+1)) s' _ C d (I4.untrack hd1) kZ (JG (Ju I2.sz (Kw _))) (kB (I4.hok _ _ hd1)) hd2 hE⟩
  | next=>exact False.elim hq'
  | brk=>exact False.elim hq'
  | cont=>exact False.elim hq'
def kXF(K:W.Frag)(f:Str)(Q:VK):VK:=λ x H=>∃ e oe C dx fs v,x=.ref e/\H e=some (gQ oe)/\oe.cls=.ref C/\oe.dict=some dx/\(∃ vs,oe.data=.fields vs)/\H dx=some (.xd fs)/\om K C/\aZ K C f/\fs.lookup f=some v/\Q v H
def tXF(K:W.Frag)(ta:TE)(f:Str):TE:=λ σ H Q=>ta σ H (kXF K f Q)
theorem AS{e:Expr}{f:Str}{pos:Pos}{ta:TE}(he:PE X e ta)(hb:attributeBase e f X.env (eval e X.env)=eval e X.env):PE X (.Attribute e f pos) (tXF X.K ta f):=by
 intro pins s σ H Q I h;refine ui hb (thn (he pins s σ H _ I h) λ u s1 ⟨x,H1,I1,rx,q1⟩=>?_);obtain⟨ex,oe,C,dx,fs,v,rfl,hx,hcl,hd,⟨vs,hdat⟩,hxd,c,n,l,q⟩:=q1;obtain rfl:u=Value.ref ex:=rx;have h1:s1.heap.get? ex=some oe:=(I1.hok ex _ hx).1;obtain⟨mA,hn,hr⟩:=I1.hok dx _ hxd;obtain⟨u,hu,ru⟩:=rZ.some_of (v:=v) (o:=mA f) (by rw [←l];exact hr f);exact Cn c I1.kIn h1 hcl (by unfold notCls;rw [hdat]) hd hn n hu (mz ru) ⟨v,H1,I1.tok _,ru,q⟩
theorem xo{K:W.Frag}(hK:X.K=K){e:Expr}{f:Str}{pos:Pos}{ta:TE}(he:PE X e ta)(hb:attributeBase e f X.env (eval e X.env)=eval e X.env):PE X (.Attribute e f pos) (tXF K ta f):=hK ▸ AS he hb
end
theorem Cj{a:Option V}{v:V}{σ:St}{H:Hp}{Q:St->Hp->Prop}:cH 0 v (a::σ) H Q=Q (some v::σ) H:=rfl
theorem Ci{a0:Option V}{a:Option V}{v:V}{σ:St}{H:Hp}{Q:St->Hp->Prop}:cH 1 v (a0::a::σ) H Q=Q (a0::some v::σ) H:=rfl
theorem Cg{a0 a1:Option V}{a:Option V}{v:V}{σ:St}{H:Hp}{Q:St->Hp->Prop}:cH 2 v (a0::a1::a::σ) H Q=Q (a0::a1::some v::σ) H:=rfl
theorem Cf{a0 a1 a2:Option V}{a:Option V}{v:V}{σ:St}{H:Hp}{Q:St->Hp->Prop}:cH 3 v (a0::a1::a2::a::σ) H Q=Q (a0::a1::a2::some v::σ) H:=rfl
theorem Ce{a0 a1 a2 a3:Option V}{a:Option V}{v:V}{σ:St}{H:Hp}{Q:St->Hp->Prop}:cH 4 v (a0::a1::a2::a3::a::σ) H Q=Q (a0::a1::a2::a3::some v::σ) H:=rfl
theorem Cd{a0 a1 a2 a3 a4:Option V}{a:Option V}{v:V}{σ:St}{H:Hp}{Q:St->Hp->Prop}:cH 5 v (a0::a1::a2::a3::a4::a::σ) H Q=Q (a0::a1::a2::a3::a4::some v::σ) H:=rfl
theorem Cc{a0 a1 a2 a3 a4 a5:Option V}{a:Option V}{v:V}{σ:St}{H:Hp}{Q:St->Hp->Prop}:cH 6 v (a0::a1::a2::a3::a4::a5::a::σ) H Q=Q (a0::a1::a2::a3::a4::a5::some v::σ) H:=rfl
theorem Cb{a0 a1 a2 a3 a4 a5 a6:Option V}{a:Option V}{v:V}{σ:St}{H:Hp}{Q:St->Hp->Prop}:cH 7 v (a0::a1::a2::a3::a4::a5::a6::a::σ) H Q=Q (a0::a1::a2::a3::a4::a5::a6::some v::σ) H:=rfl
theorem Ca{a0 a1 a2 a3 a4 a5 a6 a7:Option V}{a:Option V}{v:V}{σ:St}{H:Hp}{Q:St->Hp->Prop}:cH 8 v (a0::a1::a2::a3::a4::a5::a6::a7::a::σ) H Q=Q (a0::a1::a2::a3::a4::a5::a6::a7::some v::σ) H:=rfl
theorem B9{a0 a1 a2 a3 a4 a5 a6 a7 a8:Option V}{a:Option V}{v:V}{σ:St}{H:Hp}{Q:St->Hp->Prop}:cH 9 v (a0::a1::a2::a3::a4::a5::a6::a7::a8::a::σ) H Q=Q (a0::a1::a2::a3::a4::a5::a6::a7::a8::some v::σ) H:=rfl
theorem yC{a0 a1 a2 a3 a4 a5 a6 a7 a8 a9:Option V}{a:Option V}{v:V}{σ:St}{H:Hp}{Q:St->Hp->Prop}:cH 10 v (a0::a1::a2::a3::a4::a5::a6::a7::a8::a9::a::σ) H Q=Q (a0::a1::a2::a3::a4::a5::a6::a7::a8::a9::some v::σ) H:=rfl
theorem yB{a0 a1 a2 a3 a4 a5 a6 a7 a8 a9 a10:Option V}{a:Option V}{v:V}{σ:St}{H:Hp}{Q:St->Hp->Prop}:cH 11 v (a0::a1::a2::a3::a4::a5::a6::a7::a8::a9::a10::a::σ) H Q=Q (a0::a1::a2::a3::a4::a5::a6::a7::a8::a9::a10::some v::σ) H:=rfl
theorem yA{a0 a1 a2 a3 a4 a5 a6 a7 a8 a9 a10 a11:Option V}{a:Option V}{v:V}{σ:St}{H:Hp}{Q:St->Hp->Prop}:cH 12 v (a0::a1::a2::a3::a4::a5::a6::a7::a8::a9::a10::a11::a::σ) H Q=Q (a0::a1::a2::a3::a4::a5::a6::a7::a8::a9::a10::a11::some v::σ) H:=rfl
theorem yz{a0 a1 a2 a3 a4 a5 a6 a7 a8 a9 a10 a11 a12:Option V}{a:Option V}{v:V}{σ:St}{H:Hp}{Q:St->Hp->Prop}:cH 13 v (a0::a1::a2::a3::a4::a5::a6::a7::a8::a9::a10::a11::a12::a::σ) H Q=Q (a0::a1::a2::a3::a4::a5::a6::a7::a8::a9::a10::a11::a12::some v::σ) H:=rfl
theorem yy{a0 a1 a2 a3 a4 a5 a6 a7 a8 a9 a10 a11 a12 a13:Option V}{a:Option V}{v:V}{σ:St}{H:Hp}{Q:St->Hp->Prop}:cH 14 v (a0::a1::a2::a3::a4::a5::a6::a7::a8::a9::a10::a11::a12::a13::a::σ) H Q=Q (a0::a1::a2::a3::a4::a5::a6::a7::a8::a9::a10::a11::a12::a13::some v::σ) H:=rfl
def aP{α:Type}:Option α->(α->Prop)->Prop
 | some x,k=>k x
 | none,_=>False
theorem mn{α:Type}(x:α)(k:α->Prop):aP (some x) k=k x:=rfl
theorem ao{α:Type}{o:Option α}{k:α->Prop}(h:aP o k):∃ x,o=some x/\k x:=by
 cases o with
 | none=>exact h.elim
 | some x=>exact⟨x,rfl,h⟩
def Fj:HO->Option (List V)
 | .lst xs=>some xs
 | .tup xs=>some xs
 | .frz _ (.lst xs)=>some xs
 | _=>none
def FQ:HO->Option (List V)
 | .lst xs=>some xs
 | _=>none
def FA:HO->Option (List V)
 | .tup xs=>some xs
 | _=>none
def cJ(H:Hp)(p:Addr):Option (List V):=(H p).bind Fj
def aQ(H:Hp)(p:Addr):Option (List V):=(H p).bind FQ
def r9(H:Hp)(p:Addr):Option (List V):=(H p).bind FA
theorem w9(xs:List V):Fj (.lst xs)=some xs:=rfl
theorem w6(xs:List V):Fj (.tup xs)=some xs:=rfl
theorem x5(xs:List V):FQ (.lst xs)=some xs:=rfl
theorem w4(xs:List V):FA (.tup xs)=some xs:=rfl
theorem rP{α β:Type}(x:α)(f:α->Option β):(some x).bind f=f x:=rfl
abbrev Ext(H H':Hp):Prop:=(∀ a,(H a).isSome=true->H' a=H a)/\∀ (K:PySem.W.Frag) a xs,SqL K H a xs->SqL K H' a xs
def FT(r:R2)(x:V)(Q:VK):VK:=λ y H=>r x y H Q
theorem ED(r:R2)(x y:V)(H:Hp)(Q:VK):(FT r x Q y H)=(r x y H Q):=rfl
def kOp(r:R2)(tb:TE)(σ:St)(Q:VK):VK:=λ x H=>tb σ H (FT r x Q)
theorem G5(r:R2)(tb:TE)(σ:St)(Q:VK)(x:V)(H:Hp):(kOp r tb σ Q x H)=(tb σ H (FT r x Q)):=rfl
theorem GN(r:R2)(ta tb:TE)(σ:St)(H:Hp)(Q:VK):(tOp r ta tb σ H Q)=(ta σ H (kOp r tb σ Q)):=rfl
theorem IE(v:V)(σ:St)(H:Hp)(Q:VK):(tC v σ H Q)=(Q v H):=rfl
def kUn(r:V->Hp->VK->Prop)(Q:VK):VK:=λ x H=>r x H Q
theorem GX(r:V->Hp->VK->Prop)(Q:VK)(x:V)(H:Hp):(kUn r Q x H)=(r x H Q):=rfl
theorem GK(r:V->Hp->VK->Prop)(ta:TE)(σ:St)(H:Hp)(Q:VK):(tUn r ta σ H Q)=(ta σ H (kUn r Q)):=rfl
def zN:R2:=λ x y H Q=>y=.non/\Q (.bl (!decide (x=.non))) H
theorem ph(H:Hp)(Q:VK):zN (.non) .non H Q=Q (.bl false) H:=propext ⟨λ h=>h.2,λ h=>⟨rfl,h⟩⟩
theorem pf(i:Addr)(H:Hp)(Q:VK):zN (.ref i) .non H Q=Q (.bl true) H:=propext ⟨λ h=>h.2,λ h=>⟨rfl,h⟩⟩
def Di(Q:Bool->Hp->Prop):VK:=λ x H=>∃ k,x=.bl k/\Q k H
def HX(Q:Bool->Hp->Prop):Bool->Hp->Prop:=λ c H=>Q (!c) H
theorem EE(Q:Bool->Hp->Prop)(c:Bool)(H:Hp):(HX Q c H)=(Q (!c) H):=rfl
theorem Eg(t:TT)(σ:St)(H:Hp)(Q:Bool->Hp->Prop):(HC t σ H Q)=(t σ H (HX Q)):=rfl
def Ie(u:TT)(σ:St)(Q:Bool->Hp->Prop):Bool->Hp->Prop:=λ c H=>if c=true then u σ H Q else Q false H
theorem EV(u:TT)(σ:St)(Q:Bool->Hp->Prop)(c:Bool)(H:Hp):(Ie u σ Q c H)=(if c=true then u σ H Q else Q false H):=rfl
theorem Ek(t u:TT)(σ:St)(H:Hp)(Q:Bool->Hp->Prop):(HE t u σ H Q)=(t σ H (Ie u σ Q)):=rfl
def kOr(u:TT)(σ:St)(Q:Bool->Hp->Prop):Bool->Hp->Prop:=λ c H=>if c=true then Q true H else u σ H Q
theorem G4(u:TT)(σ:St)(Q:Bool->Hp->Prop)(c:Bool)(H:Hp):(kOr u σ Q c H)=(if c=true then Q true H else u σ H Q):=rfl
theorem GL(t u:TT)(σ:St)(H:Hp)(Q:Bool->Hp->Prop):(tOr t u σ H Q)=(t σ H (kOr u σ Q)):=rfl
def Ho(tb:TE)(σ:St)(Q:VK):VK:=λ x H=>∃ c,x=.bl c/\if c=true then tb σ H Q else Q (.bl false) H
def Hk(Q:VK):VK:=λ x H=>∃ c,x=.bl c/\Q (.bl (!c)) H
def HZ(ta tb:TE)(σ:St)(Q:VK):Bool->Hp->Prop:=λ c H=>if c=true then ta σ H Q else tb σ H Q
theorem EK(ta tb:TE)(σ:St)(Q:VK)(c:Bool)(H:Hp):(HZ ta tb σ Q c H)=(if c=true then ta σ H Q else tb σ H Q):=rfl
theorem GO(t:TT)(ta tb:TE)(σ:St)(H:Hp)(Q:VK):(tIf t ta tb σ H Q)=(t σ H (HZ ta tb σ Q)):=rfl
def Fv(r':R2)(y:V)(Q:VK):VK:=λ w H=>r' y w H Q
theorem EO(r':R2)(y w:V)(Q:VK)(H:Hp):(Fv r' y Q w H)=(r' y w H Q):=rfl
def Gg(r':R2)(tc:TE)(σ:St)(y:V)(Q:VK):VK:=λ z H=>∃ k,z=.bl k/\(if k=true then tc σ H (Fv r' y Q) else Q (.bl false) H)
def Ia(r r':R2)(tc:TE)(σ:St)(x:V)(Q:VK):VK:=λ y H=>r x y H (Gg r' tc σ y Q)
def IK(r r':R2)(tb tc:TE)(σ:St)(Q:VK):VK:=λ x H=>tb σ H (Ia r r' tc σ x Q)
theorem Eh(σ:St)(H:Hp)(Q:List V->Hp->Prop):(FD σ H Q)=(Q [] H):=rfl
def tm(x:V)(Q:List V->Hp->Prop):List V->Hp->Prop:=λ xs H=>Q (x::xs) H
theorem xY(x:V)(Q:List V->Hp->Prop)(xs:List V)(H:Hp):(tm x Q xs H)=(Q (x::xs) H):=rfl
def Dm(tr:TA)(σ:St)(Q:List V->Hp->Prop):VK:=λ x H=>tr σ H (tm x Q)
theorem BR(tr:TA)(σ:St)(Q:List V->Hp->Prop)(x:V)(H:Hp):(Dm tr σ Q x H)=(tr σ H (tm x Q)):=rfl
theorem Bh(ta:TE)(tr:TA)(σ:St)(H:Hp)(Q:List V->Hp->Prop):(zI ta tr σ H Q)=(ta σ H (Dm tr σ Q)):=rfl
def ou(sp:Sp)(dvs:List V)(E:XK)(Q:VK):List V->Hp->Prop:=λ vs H=>sp (vs++dvs) H Q E
theorem vf(v0:V)(sp:Sp)(dvs:List V)(E:XK)(Q:VK)(H:Hp):ou sp dvs E Q [v0] H=sp (v0::dvs) H Q E:=rfl
theorem ve(v0 v1:V)(sp:Sp)(dvs:List V)(E:XK)(Q:VK)(H:Hp):ou sp dvs E Q [v0,v1] H=sp (v0::v1::dvs) H Q E:=rfl
theorem vd(v0 v1 v2:V)(sp:Sp)(dvs:List V)(E:XK)(Q:VK)(H:Hp):ou sp dvs E Q [v0,v1,v2] H=sp (v0::v1::v2::dvs) H Q E:=rfl
theorem vc(v0 v1 v2 v3:V)(sp:Sp)(dvs:List V)(E:XK)(Q:VK)(H:Hp):ou sp dvs E Q [v0,v1,v2,v3] H=sp (v0::v1::v2::v3::dvs) H Q E:=rfl
theorem vb(v0 v1 v2 v3 v4:V)(sp:Sp)(dvs:List V)(E:XK)(Q:VK)(H:Hp):ou sp dvs E Q [v0,v1,v2,v3,v4] H=sp (v0::v1::v2::v3::v4::dvs) H Q E:=rfl
theorem Bj(sp:Sp)(dvs:List V)(E:XK)(t:TA)(σ:St)(H:Hp)(Q:VK):(CU sp dvs E t σ H Q)=(t σ H (ou sp dvs E Q)):=rfl
def kCB(r:List V->Hp->VK->Prop)(Q:VK):List V->Hp->Prop:=λ vs H=>r vs H Q
theorem Hg(r:List V->Hp->VK->Prop)(Q:VK)(vs:List V)(H:Hp):(kCB r Q vs H)=(r vs H Q):=rfl
theorem GP(r:List V->Hp->VK->Prop)(t:TA)(σ:St)(H:Hp)(Q:VK):(tCB r t σ H Q)=(t σ H (kCB r Q)):=rfl
theorem Bf(nx:St->Hp->Prop)(rt:VK)(bk ct:St->Hp->Prop)(σ:St)(H:Hp):(zH ⟨nx,rt,bk,ct⟩ σ H)=(nx σ H):=rfl
theorem Ed(t u:TS)(nx:St->Hp->Prop)(rt:VK)(bk ct:St->Hp->Prop)(σ:St)(H:Hp):(Hz t u ⟨nx,rt,bk,ct⟩ σ H)=(t ⟨u ⟨nx,rt,bk,ct⟩,rt,bk,ct⟩ σ H):=rfl
theorem Ef(te:TE)(nx:St->Hp->Prop)(rt:VK)(bk ct:St->Hp->Prop)(σ:St)(H:Hp):(HB te ⟨nx,rt,bk,ct⟩ σ H)=(te σ H rt):=rfl
def Dl(nx:St->Hp->Prop)(σ:St):VK:=λ x H=>nx σ H
theorem BQ(nx:St->Hp->Prop)(σ:St)(x:V)(H:Hp):(Dl nx σ x H)=(nx σ H):=rfl
theorem Bg(te:TE)(nx:St->Hp->Prop)(rt:VK)(bk ct:St->Hp->Prop)(σ:St)(H:Hp):(CT te ⟨nx,rt,bk,ct⟩ σ H)=(te σ H (Dl nx σ)):=rfl
def HY(t u:TS)(D:fO)(σ:St):Bool->Hp->Prop:=λ b H=>if b=true then t D σ H else u D σ H
theorem EJ(t u:TS)(D:fO)(σ:St)(b:Bool)(H:Hp):(HY t u D σ b H)=(if b=true then t D σ H else u D σ H):=rfl
theorem zq(c:TT)(t u:TS)(D:fO)(σ:St)(H:Hp):(Fi c t u D σ H)=(c σ H (HY t u D σ)):=rfl
def Ib(g:TG)(σ:St)(nx:St->Hp->Prop):VK:=λ x H=>g x σ H nx
theorem ET(g:TG)(σ:St)(nx:St->Hp->Prop)(x:V)(H:Hp):(Ib g σ nx x H)=(g x σ H nx):=rfl
theorem Ej(te:TE)(g:TG)(nx:St->Hp->Prop)(rt:VK)(bk ct:St->Hp->Prop)(σ:St)(H:Hp):(FE te g ⟨nx,rt,bk,ct⟩ σ H)=(te σ H (Ib g σ nx)):=rfl
def kGs(u:TGs)(r:List V)(Q:St->Hp->Prop):St->Hp->Prop:=λ σ' H'=>u r σ' H' Q
theorem G9(u:TGs)(r:List V)(Q:St->Hp->Prop)(σ:St)(H:Hp):(kGs u r Q σ H)=(u r σ H Q):=rfl
section
variable {X:Cx}
theorem OpR.mono{f:Value->Value->Sem Value}{r r':R2}(h:OpR X f r)(m:∀ x y H Q,r' x y H Q->r x y H Q):OpR X f r':=λ pins s σ H x y v u Q I rx ry hq=>h pins s σ H x y v u Q I rx ry (m _ _ _ _ hq)
theorem bt.mono{f:Value}{r r':List V->Hp->VK->Prop}(h:bt X f r)(m:∀ xs H Q,r' xs H Q->r xs H Q):bt X f r':=λ pins s σ H xs us Q I rx hq=>h pins s σ H xs us Q I rx (m _ _ _ hq)
theorem IxR.mono{r r':R2}(h:IxR X r)(m:∀ x y H Q,r' x y H Q->r x y H Q):IxR X r':=λ a b pins s σ H x y v u Q I rx ry hq=>h a b pins s σ H x y v u Q I rx ry (m _ _ _ _ hq)
theorem PG.mono{tg:Expr}{g g':TG}(h:PG X tg g)(m:∀ v σ H Q,g' v σ H Q->g v σ H Q):PG X tg g':=λ pins s σ H v u Q I r hq=>h pins s σ H v u Q I r (m _ _ _ _ hq)
theorem iS{K:W.Frag}{H:Hp}{p:Addr}{ys:List V}(h:cJ H p=some ys):SqL K H p ys\/SqT K H p ys:=by
 unfold cJ at h
 cases e:H p with
 | none=>rw [e] at h;cases h
 | some o=>
  rw [e] at h;have h':Fj o=some ys:=h
  cases o with
  | lst xs=>cases h';exact .inl (SqL.of e)
  | tup xs=>cases h';exact .inr (SqT.of e)
  | frz ob u=>
   cases u with
   | lst xs=>cases h';exact .inl (.inl (.inr ⟨ob,e⟩))
   | _=>cases h'
  | _=>cases h'
theorem cy{H:Hp}{p:Addr}{ys:List V}(h:aQ H p=some ys):H p=some (.lst ys):=by
 unfold aQ at h
 cases e:H p with
 | none=>rw [e] at h;cases h
 | some o=>
  rw [e] at h;have h':FQ o=some ys:=h
  cases o with
  | lst xs=>cases h';rfl
  | _=>cases h'
theorem DB{H:Hp}{p:Addr}{ys:List V}(h:r9 H p=some ys):H p=some (.tup ys):=by
 unfold r9 at h
 cases e:H p with
 | none=>rw [e] at h;cases h
 | some o=>
  rw [e] at h;have h':FA o=some ys:=h
  cases o with
  | tup xs=>cases h';rfl
  | _=>cases h'
def FW(H:Hp)(Q:VK):List V->Prop:=λ ys=>Q (.int ys.length) H
theorem EH(H:Hp)(Q:VK)(ys:List V):FW H Q ys=Q (.int ys.length) H:=rfl
def FK(xs:List V)(H:Hp)(Q:VK):Prop:=match xs with
 | [.ref p]=>aP (cJ H p) (FW H Q)
 | [.str z]=>z.length<=sizeLine/\Q (.int z.length) H
 | _=>False
theorem Es(p:Addr)(H:Hp)(Q:VK):FK [.ref p] H Q=aP (cJ H p) (FW H Q):=rfl
theorem bg:bt X (.builtin "len") FK:=by
 refine(cE.or nQ).mono λ xs H Q h=>?_;unfold FK at h;split at h
 ·rename_i p;obtain⟨ys,e,q⟩:=ao h;exact .inl ⟨p,ys,rfl,iS e,q⟩
 ·rename_i z;exact .inr ⟨z,rfl,h.1,h.2⟩
 ·exact h.elim
def FX(H:Hp)(Q:VK):V->Prop:=λ v=>Q v H
theorem EI(H:Hp)(Q:VK)(v:V):FX H Q v=Q v H:=rfl
def kIx(i:Int)(H:Hp)(Q:VK):List V->Prop:=λ ys=>aP (atI ys i) (FX H Q)
theorem G8(i:Int)(H:Hp)(Q:VK)(ys:List V):kIx i H Q ys=aP (atI ys i) (FX H Q):=rfl
def qIx:R2:=λ x y H Q=>match x,y with
 | .ref p,.int i=>aP (cJ H p) (kIx i H Q)
 | _,_=>False
theorem GR(p:Addr)(i:Int)(H:Hp)(Q:VK):qIx (.ref p) (.int i) H Q=aP (cJ H p) (kIx i H Q):=rfl
theorem eV:IxR X qIx:=by
 refine(oV.or E9).mono λ x y H Q h=>?_;unfold qIx at h;split at h
 ·rename_i p i;obtain⟨ys,e,q⟩:=ao h;obtain⟨v,e2,q2⟩:=ao q
  rcases iS (K:=X.K) e with z|z
  ·exact .inl ⟨p,ys,i,v,rfl,rfl,z,e2,q2⟩
  ·exact .inr ⟨p,ys,i,v,rfl,rfl,z,e2,q2⟩
 ·exact h.elim
theorem Hs{α:Type}(a:α)(xs:List α):atI (a::xs) 0=some a:=aV (j:=0) rfl
theorem Hr{α:Type}(a b:α)(xs:List α):atI (a::b::xs) 1=some b:=aV (j:=1) rfl
theorem Hq{α:Type}(a b c:α)(xs:List α):atI (a::b::c::xs) 2=some c:=aV (j:=2) rfl
def Hl(H:Hp)(Q:VK):List V->Prop:=λ ys=>∀ l,H l=none->Q (.ref l) (upd H l (.lst ys))
def CZ(xs:List V)(H:Hp)(Q:VK):Prop:=match xs with
 | [.ref p]=>aP (cJ H p) (Hl H Q)
 | _=>False
theorem rG:bt X (.type "list") CZ:=by
 refine nP.mono λ xs H Q h=>?_;unfold CZ at h;split at h
 ·rename_i p;obtain⟨ys,e,q⟩:=ao h;exact⟨p,ys,rfl,iS e,q⟩
 ·exact h.elim
def FJ(xs:List V)(H:Hp)(Q:VK):Prop:=match xs with
 | [.int i,.int j]=>Q (.int (if i < j then j else i)) H
 | _=>False
theorem Ep(i j:Int)(H:Hp)(Q:VK):FJ [.int i,.int j] H Q=Q (.int (if i < j then j else i)) H:=rfl
theorem mK(hc:X.calm=true):bt X (.builtin "max") FJ:=by
 refine(vX hc).mono λ xs H Q h=>?_;unfold FJ at h;split at h
 ·rename_i i j;exact⟨i,j,rfl,h⟩
 ·exact h.elim
def FI(xs:List V)(H:Hp)(Q:VK):Prop:=match xs with
 | [.int i,.int j]=>Q (.int (if j < i then j else i)) H
 | _=>False
theorem Eo(i j:Int)(H:Hp)(Q:VK):FI [.int i,.int j] H Q=Q (.int (if j < i then j else i)) H:=rfl
theorem mJ(hc:X.calm=true):bt X (.builtin "min") FI:=by
 refine(vW hc).mono λ xs H Q h=>?_;unfold FI at h;split at h
 ·rename_i i j;exact⟨i,j,rfl,h⟩
 ·exact h.elim
def tyO:HO->Option String
 | .lst _=>some "list"
 | .tup _=>some "tuple"
 | .frz _ (.lst _)=>some "list"
 | .dK _=>some "dict"
 | .dT _=>some "dict"
 | _=>none
theorem Au(xs:List V):tyO (.lst xs)=some "list":=rfl
theorem As(xs:List V):tyO (.tup xs)=some "tuple":=rfl
def tyN(H:Hp):V->Option String
 | .non=>some "NoneType"
 | .bl _=>some "bool"
 | .int _=>some "int"
 | .str _=>some "str"
 | .ref p=>(H p).bind tyO
 | _=>none
theorem Ax(H:Hp):tyN H .non=some "NoneType":=rfl
theorem DA(H:Hp)(b:Bool):tyN H (.bl b)=some "bool":=rfl
theorem Ay(H:Hp)(i:Int):tyN H (.int i)=some "int":=rfl
theorem Av(H:Hp)(x:Str):tyN H (.str x)=some "str":=rfl
theorem Aw(H:Hp)(p:Addr):tyN H (.ref p)=(H p).bind tyO:=rfl
theorem Dz{K:W.Frag}{H:Hp}{x:V}{t:String}(h:tyN H x=some t):og K H x (.type t):=by
 cases x with
 | non=>cases h;exact .non
 | bl b=>cases h;exact .bl b
 | int i=>cases h;exact .int i
 | str x=>cases h;exact .str x
 | ref p=>
  have h':(H p).bind tyO=some t:=h
  cases e:H p with
  | none=>rw [e] at h';cases h'
  | some o=>
   rw [e] at h';have h2:tyO o=some t:=h'
   cases o with
   | lst xs=>cases h2;exact .lst e
   | tup xs=>cases h2;exact .tup e
   | dK xs=>cases h2;exact .dK e
   | dT xs=>cases h2;exact .dT e
   | frz ob u=>
    cases u with
    | lst xs=>cases h2;exact .frz e
    | _=>cases h2
   | _=>cases h2
 | _=>cases h
def mf:List String:=["NoneType", "bool", "int", "str", "list", "tuple", "dict"]
def Ih(t n:String):Bool:=t == n || (t == "bool" && n == "int")
theorem yq(K:W.Frag):∀ t∈mf,∀ n∈mf,W.kitOne K (.type t) (.type n)=some (Ih t n):=by
 intro t ht n hn;unfold mf at ht hn;simp only [mem_cons,not_mem_nil,or_false] at ht hn
 rcases ht with rfl|rfl|rfl|rfl|rfl|rfl|rfl<;>rcases hn with rfl|rfl|rfl|rfl|rfl|rfl|rfl<;>exact vL K _ _ _ (by decide +kernel)
def oa(n:String)(H:Hp)(Q:VK):String->Prop:=λ t=>t∈mf/\Q (.bl (Ih t n)) H
def wB(xs:List V)(H:Hp)(Q:VK):Prop:=match xs with
 | [x,.ty n]=>n∈mf/\aP (tyN H x) (oa n H Q)
 | _=>False
theorem bQ:bt X (.builtin "isinstance") wB:=by
 refine yK.mono λ xs H Q h=>?_;unfold wB at h;split at h
 ·rename_i x n;obtain⟨hn,h⟩:=h;obtain⟨t,e,ht,q⟩:=ao h;exact⟨x,n,_,_,rfl,Dz e,yq _ t ht n hn,q⟩
 ·exact h.elim
theorem qR(x:V)(H:Hp)(Q:VK):wB [x,.ty "int"] H Q=aP (tyN H x) (oa "int" H Q):=by
 unfold wB;exact propext ⟨λ h=>h.2,λ h=>⟨by decide,h⟩⟩
theorem pk(x:V)(H:Hp)(Q:VK):wB [x,.ty "bool"] H Q=aP (tyN H x) (oa "bool" H Q):=by
 unfold wB;exact propext ⟨λ h=>h.2,λ h=>⟨by decide,h⟩⟩
theorem nJ(x:V)(H:Hp)(Q:VK):wB [x,.ty "tuple"] H Q=aP (tyN H x) (oa "tuple" H Q):=by
 unfold wB;exact propext ⟨λ h=>h.2,λ h=>⟨by decide,h⟩⟩
theorem pj(x:V)(H:Hp)(Q:VK):wB [x,.ty "list"] H Q=aP (tyN H x) (oa "list" H Q):=by
 unfold wB;exact propext ⟨λ h=>h.2,λ h=>⟨by decide,h⟩⟩
theorem u7(H:Hp)(Q:VK):oa "int" H Q "NoneType"=Q (.bl false) H:=propext ⟨λ h=>h.2,λ h=>⟨by decide,h⟩⟩
theorem u6(H:Hp)(Q:VK):oa "bool" H Q "bool"=Q (.bl true) H:=propext ⟨λ h=>h.2,λ h=>⟨by decide,h⟩⟩
theorem u5(H:Hp)(Q:VK):oa "int" H Q "bool"=Q (.bl true) H:=propext ⟨λ h=>h.2,λ h=>⟨by decide,h⟩⟩
theorem u3(H:Hp)(Q:VK):oa "bool" H Q "int"=Q (.bl false) H:=propext ⟨λ h=>h.2,λ h=>⟨by decide,h⟩⟩
theorem uZ(H:Hp)(Q:VK):oa "int" H Q "int"=Q (.bl true) H:=propext ⟨λ h=>h.2,λ h=>⟨by decide,h⟩⟩
theorem uW(H:Hp)(Q:VK):oa "int" H Q "str"=Q (.bl false) H:=propext ⟨λ h=>h.2,λ h=>⟨by decide,h⟩⟩
theorem uY(H:Hp)(Q:VK):oa "int" H Q "list"=Q (.bl false) H:=propext ⟨λ h=>h.2,λ h=>⟨by decide,h⟩⟩
theorem uX(H:Hp)(Q:VK):oa "list" H Q "list"=Q (.bl true) H:=propext ⟨λ h=>h.2,λ h=>⟨by decide,h⟩⟩
theorem uV(H:Hp)(Q:VK):oa "int" H Q "tuple"=Q (.bl false) H:=propext ⟨λ h=>h.2,λ h=>⟨by decide,h⟩⟩
theorem uU(H:Hp)(Q:VK):oa "tuple" H Q "tuple"=Q (.bl true) H:=propext ⟨λ h=>h.2,λ h=>⟨by decide,h⟩⟩
theorem u4(H:Hp)(Q:VK):oa "int" H Q "dict"=Q (.bl false) H:=propext ⟨λ h=>h.2,λ h=>⟨by decide,h⟩⟩
def Gh(r:V->List V->Hp->VK->Prop)(x:V)(Q:VK):List V->Hp->Prop:=λ xs H=>r x xs H Q
theorem ES(r:V->List V->Hp->VK->Prop)(x:V)(Q:VK)(xs:List V)(H:Hp):Gh r x Q xs H=r x xs H Q:=rfl
def kBM(K:W.Frag)(T:String)(r:V->List V->Hp->VK->Prop)(t:TA)(σ:St)(Q:VK):VK:=λ x H=>tyV K T x H/\t σ H (Gh r x Q)
theorem Hh(K:W.Frag)(T:String)(r:V->List V->Hp->VK->Prop)(t:TA)(σ:St)(Q:VK)(x:V)(H:Hp):kBM K T r t σ Q x H=(tyV K T x H/\t σ H (Gh r x Q)):=rfl
theorem GQ(K:W.Frag)(T:String)(r:V->List V->Hp->VK->Prop)(to:TE)(t:TA)(σ:St)(H:Hp)(Q:VK):tBM K T r to t σ H Q=to σ H (kBM K T r t σ Q):=rfl
theorem wY(K:W.Frag)(p:Addr)(H:Hp)(h:(aQ H p).isSome=true):tyV K "list" (.ref p) H=True:=by
 cases e:aQ H p with
 | none=>rw [e] at h;cases h
 | some ys=>exact eq_true (.inl ⟨rfl,ys,SqL.of (cy e)⟩)
def Ic(l:Addr)(y:V)(H:Hp)(Q:VK):List V->Prop:=λ xs=>xs.length < sizeLine/\Q .non (upd H l (.lst (xs++[y])))
theorem EU(l:Addr)(y:V)(H:Hp)(Q:VK)(xs:List V):Ic l y H Q xs=(xs.length < sizeLine/\Q .non (upd H l (.lst (xs++[y])))):=rfl
theorem uO(l:Addr)(y:V)(H:Hp)(Q:VK):tH (.ref l) [y] H Q=aP (aQ H l) (Ic l y H Q):=by
 refine propext ⟨λ h=>?_,λ h=>?_⟩
 ·obtain⟨_,xs,_,e1,e2,e3,a,b⟩:=h;cases e1;cases e2;have e:aQ H l=some xs:=by unfold aQ;rw [e3];rfl
  rw [e];exact⟨a,b⟩
 ·obtain⟨xs,e,a,b⟩:=ao h;exact⟨l,xs,y,rfl,rfl,cy e,a,b⟩
def Hm(xs:List V)(H:Hp)(Q:VK):List V->Prop:=λ ys=>xs.length+ys.length<=sizeLine/\∀ p,H p=none->Q (.ref p) (upd H p (.lst (xs++ys)))
def Hn(b:Addr)(H:Hp)(Q:VK):List V->Prop:=λ xs=>aP (aQ H b) (Hm xs H Q)
theorem El(l b:Addr)(H:Hp)(Q:VK):HH (.ref l) (.ref b) H Q=aP (aQ H l) (Hn b H Q):=by
 refine propext ⟨λ h=>?_,λ h=>?_⟩
 ·obtain⟨l',b',xs,zs,e1,e2,e3,e4,hz,hq⟩:=h;cases e1;cases e2;have e:aQ H l=some xs:=by unfold aQ;rw [e3];rfl
  have e':aQ H b=some zs:=by unfold aQ;rw [e4];rfl
  rw [e]
  show aP (aQ H b) _
  rw [e'];exact⟨hz,hq⟩
 ·obtain⟨xs,e,q⟩:=ao h;obtain⟨zs,e',a,q⟩:=ao q;exact⟨l,b,xs,zs,rfl,rfl,cy e,cy e',a,q⟩
def Ac(p:Addr)(xs:List V)(v:V)(H:Hp)(Q:Hp->Prop):Nat->Prop:=λ j=>Q (upd H p (.lst (xs.set j v)))
theorem BG(p:Addr)(xs:List V)(v:V)(H:Hp)(Q:Hp->Prop)(j:Nat):Ac p xs v H Q j=Q (upd H p (.lst (xs.set j v))):=rfl
def HW(p:Addr)(i:Int)(v:V)(H:Hp)(Q:Hp->Prop):List V->Prop:=λ xs=>aP (ixN xs.length i) (Ac p xs v H Q)
theorem EB(p:Addr)(i:Int)(v:V)(H:Hp)(Q:Hp->Prop)(xs:List V):HW p i v H Q xs=aP (ixN xs.length i) (Ac p xs v H Q):=rfl
theorem Bm(p:Addr)(i:Int)(v:V)(H:Hp)(Q:Hp->Prop):CY (.ref p) (.int i) v H Q=aP (aQ H p) (HW p i v H Q):=by
 refine propext ⟨λ h=>?_,λ h=>?_⟩
 ·obtain⟨_,xs,_,j,e1,e2,e3,e4,b⟩:=h;cases e1;cases e2;have e:aQ H p=some xs:=by unfold aQ;rw [e3];rfl
  rw [e]
  show aP (ixN xs.length i) _
  rw [e4];exact b
 ·obtain⟨xs,e,q⟩:=ao h;obtain⟨j,e4,q⟩:=ao q;exact⟨p,xs,i,j,rfl,rfl,cy e,e4,q⟩
def sZ(t:yZ)(o v:V)(σ:St)(Q:St->Hp->Prop):VK:=λ i H=>t o i v H λ H3=>Q σ H3
theorem xT(t:yZ)(o v:V)(σ:St)(Q:St->Hp->Prop)(i:V)(H:Hp):sZ t o v σ Q i H=t o i v H (Q σ):=rfl
def zv(ti:TE)(t:yZ)(v:V)(σ:St)(Q:St->Hp->Prop):VK:=λ o H=>ti σ H (sZ t o v σ Q)
theorem xU(ti:TE)(t:yZ)(v:V)(σ:St)(Q:St->Hp->Prop)(o:V)(H:Hp):zv ti t v σ Q o H=ti σ H (sZ t o v σ Q):=rfl
theorem EZ(to ti:TE)(t:yZ)(v:V)(σ:St)(H:Hp)(Q:St->Hp->Prop):Il to ti t v σ H Q=to σ H (zv ti t v σ Q):=rfl
def kGT(n:Nat)(t:TGs)(σ:St)(H:Hp)(Q:St->Hp->Prop):List V->Prop:=λ xs=>xs.length=n/\t xs σ H Q
theorem Ha(n:Nat)(t:TGs)(σ:St)(H:Hp)(Q:St->Hp->Prop)(xs:List V):kGT n t σ H Q xs=(xs.length=n/\t xs σ H Q):=rfl
def qGT(n:Nat)(t:TGs):TG:=λ v σ H Q=>match v with
 | .ref a=>aP (r9 H a) (kGT n t σ H Q)
 | _=>False
theorem GS(n:Nat)(t:TGs)(a:Addr)(σ:St)(H:Hp)(Q:St->Hp->Prop):qGT n t (.ref a) σ H Q=aP (r9 H a) (kGT n t σ H Q):=rfl
theorem bP{K:W.Frag}{n:Nat}{t:TGs}{v:V}{σ:St}{H:Hp}{Q:St->Hp->Prop}(h:qGT n t v σ H Q):Ik K n t v σ H Q:=by
 unfold qGT at h;split at h
 ·rename_i a;obtain⟨xs,e,hl,q⟩:=ao h;exact⟨a,xs,rfl,SqT.of (DB e),hl,q⟩
 ·exact h.elim
theorem p4:OpR X (compareOp .IsNot) zN:=A3
def wQ(tb:TS)(D:fO):St->Hp->Prop:=λ σ H=>tb D σ H
theorem aS(tb:TS)(D:fO)(σ:St)(H:Hp):wQ tb D σ H=tb D σ H:=rfl
def Fs(g:TG)(tb:TS)(D:fO)(σ:St)(J:It)(H1:Hp):Prop:=∃ W:Nat->Nat->St->Hp->Prop,(∃ m,W 0 m σ H1)/\∀ i m σ H,W i m σ H →
 (J.stop i H/\D.nx σ H)\/(J.go i H/\∃ N:St->Hp->Prop,(∀ σ' H',N σ' H'->∃ m',m' < m/\W (i+1) m' σ' H')/\∀ x H',J.yld i H x H'->g x σ H' λ σ2 H2=>tb { D with nx:=N,ct:=N,bk:=D.nx } σ2 H2)
theorem Ei(wi:TI)(g:TG)(tb:TS)(D:fO)(σ:St)(H:Hp):HD wi g tb D σ H=wi σ H (Fs g tb D σ):=rfl
def kR1(R:It->Hp->Prop):List V->Hp->Prop:=λ vs H=>∃ j:Int,vs=[.int j]/\-(2 ^ 62)<=j/\j < 2 ^ 62/\R (Itr 0 j.toNat) H
theorem GZ(R:It->Hp->Prop)(j:Int)(H:Hp):kR1 R [.int j] H=(-(2 ^ 62)<=j/\j < 2 ^ 62/\R (Itr 0 j.toNat) H):=propext ⟨λ ⟨_,e,q⟩=>by cases e;exact q,λ q=>⟨j,rfl,q⟩⟩
theorem BZ(ta:TA)(σ:St)(H:Hp)(R:It->Hp->Prop):Dp ta σ H R=ta σ H (kR1 R):=rfl
def wK(K:W.Frag)(a:Addr)(H:Hp)(R:It->Hp->Prop):HO->Prop:=λ o=>match o with
 | .lst _=>R (Itl K a) H
 | .frz _ (.lst _)=>R (Itl K a) H
 | .tup _=>R (Itt K a) H
 | _=>False
theorem va(K:W.Frag)(a:Addr)(H:Hp)(R:It->Hp->Prop)(xs:List V):wK K a H R (.lst xs)=R (Itl K a) H:=rfl
def Fq(K:W.Frag)(R:It->Hp->Prop):VK:=λ x H=>match x with
 | .ref a=>aP (H a) (wK K a H R)
 | _=>False
theorem EL(K:W.Frag)(R:It->Hp->Prop)(a:Addr)(H:Hp):Fq K R (.ref a) H=aP (H a) (wK K a H R):=rfl
def Ij(K:W.Frag)(tl:TE):TI:=λ σ H R=>tl σ H (Fq K R)
theorem EY(K:W.Frag)(tl:TE)(σ:St)(H:Hp)(R:It->Hp->Prop):Ij K tl σ H R=tl σ H (Fq K R):=rfl
theorem DL{tg l:Expr}{tl:TE}(hl:PE X l tl):PI X tg l (Ij X.K tl):=by
 intro pins s σ H R I h;refine thn (hl pins s σ H _ I h) λ v s1 ⟨x,H1,I1,r1,q1⟩=>?_;unfold Fq at q1;split at q1
 ·rename_i a;cases r1;obtain⟨o,e,q⟩:=ao q1
  have fp:∀ b∈[s1.heap.objs.size],oi X pins H1 b:=λ b hb=>by
   have e:b=s1.heap.objs.size:=by simpa using hb
   subst e;exact I1.fpOk (Je _) (I1.hok.fresh (Je _))
  have lst:∀ xs,SqL X.K H1 a xs->R (Itl X.K a) H1->wpAny (model X.prog X.w) X.A (pyIter (.ref a)) (PIE X pins σ tg R) X.xe s1:=λ xs hq q=>by
   obtain⟨its,rv,p,hz⟩:=I1.list hq;refine KD p.isList ?_;exact⟨s1.heap.objs.size,[s1.heap.objs.size],_,_,H1,rfl,I1.kept (t':=s1.toks) λ b o e=>IW _ e,ux a _,⟨_,Jf _ rfl,rfl,rfl⟩,fp,q⟩
  unfold wK at q;split at q
  ·exact lst _ (SqL.of e) q
  ·exact lst _ (.inl (.inr ⟨_,e⟩)) q
  ·obtain⟨its,rv,p,hz⟩:=I1.tuple (SqT.of e);refine wpAny_pyIter_tuple (show s1.heap.IsTuple a its.toArray from p) ?_;exact⟨s1.heap.objs.size,[s1.heap.objs.size],_,_,H1,rfl,I1.kept (t':=s1.toks) λ b o e=>IW _ e,qF a _,⟨_,Jf _ rfl,rfl,rfl⟩,fp,q⟩
  ·exact q.elim
 ·exact q1.elim
theorem iG{lo:Int}{n:Nat}{g:TG}{tb:TS}{nx:St->Hp->Prop}{rt:VK}{bk ct:St->Hp->Prop}{σ:St}{H:Hp}(Pv:Nat->St->Hp->Prop)(h0:Pv 0 σ H)
  (hs:∀ i σ H,i < n->Pv i σ H->g (.int (lo+i)) σ H (wQ tb ⟨Pv (i+1),rt,nx,Pv (i+1)⟩)) (hd:∀ σ H,Pv n σ H->nx σ H):Fs g tb ⟨nx,rt,bk,ct⟩ σ (Itr lo n) H:=vO Pv h0 hs hd
theorem ej{K:W.Frag}{a:Addr}{xs:List V}{g:TG}{tb:TS}{nx:St->Hp->Prop}{rt:VK}{bk ct:St->Hp->Prop}{σ:St}{H:Hp}(Pv:Nat->St->Hp->Prop)(h0:Pv 0 σ H)(hl:∀ i σ H,i<=xs.length->Pv i σ H->H a=some (.lst xs))
  (hs:∀ i x σ H,xs[i]? = some x->Pv i σ H->g x σ H (wQ tb ⟨Pv (i+1),rt,nx,Pv (i+1)⟩)) (hd:∀ σ H,Pv xs.length σ H->nx σ H):Fs g tb ⟨nx,rt,bk,ct⟩ σ (Itl K a) H:=yE (xs:=xs) Pv h0 (λ i σ H hi p=>SqL.of (hl i σ H hi p)) hs hd
end
theorem xK(sp:Sp)(dvs:List V)(E:St->XK)(t:TA)(σ:St)(H:Hp)(Q:VK):zk sp dvs E t σ H Q=t σ H (ou sp dvs (E σ) Q):=rfl
def HU(th:Value->Option Addr->TS)(D:fO):St->XK:=λ σ cls d H=>th cls d D σ H
theorem EA(th:Value->Option Addr->TS)(D:fO)(σ:St)(cls:Value)(d:Option Addr)(H:Hp):HU th D σ cls d H=th cls d D σ H:=rfl
theorem Ec(tb:(St->XK)->TS)(th:Value->Option Addr->TS)(D:fO)(σ:St)(H:Hp):Hy tb th D σ H=tb (HU th D) D σ H:=rfl
def zu(C:Addr)(E:XK):List V->Hp->Prop:=λ vs H=>vs.length<=sizeLine/\E (.ref C) none H
theorem xR(C:Addr)(E:XK)(vs:List V)(H:Hp):zu C E vs H=(vs.length<=sizeLine/\E (.ref C) none H):=rfl
theorem xI(C:Addr)(E:St->XK)(t:TA)(D:fO)(σ:St)(H:Hp):zh C E t D σ H=t σ H (zu C (E σ)):=rfl
def Aa(i:Nat)(tb:TS)(D:fO):St->Hp->Prop:=λ σ H=>tb D σ H
theorem BC(i:Nat)(tb:TS)(D:fO)(σ:St)(H:Hp):Aa i tb D σ H=tb D σ H:=rfl
theorem Hi(i:Nat)(nx:St->Hp->Prop)(rt:VK)(bk ct:St->Hp->Prop):fO.del i ⟨nx,rt,bk,ct⟩=⟨CD i nx,rt,CD i bk,CD i ct⟩:=rfl
theorem nL(H:Hp):sy H none=True:=rfl
theorem nK(H:Hp)(dx:Addr):sy H (some dx)=aP (H dx) kXd:=by
 refine propext ⟨λ ⟨o,h,k⟩=>by rw [h];exact k,λ h=>?_⟩;obtain⟨o,e,k⟩:=ao h;exact⟨o,e,k⟩
theorem GW(fs:List (Str × V)):kXd (.xd fs)=True:=rfl
def FG:Value->Option Addr
 | .ref C=>some C
 | _=>none
theorem xh(C:Addr):FG (.ref C)=some C:=rfl
def Fw:V->Option Value
 | .ref C=>some (.ref C)
 | .ty n=>some (.type n)
 | _=>none
theorem yJ(C:Addr):Fw (.ref C)=some (.ref C):=rfl
theorem Cs(n:String):Fw (.ty n)=some (.type n):=rfl
def kE4(H:Hp)(Q:VK):Bool->Prop:=λ b=>Q (.bl b) H
theorem zY(H:Hp)(Q:VK)(b:Bool):kE4 H Q b=Q (.bl b) H:=rfl
def kE3(K:W.Frag)(C:Addr)(H:Hp)(Q:VK):Value->Prop:=λ u=>aP (W.kitOne K (.ref C) u) (kE4 H Q)
theorem Hc(K:W.Frag)(C:Addr)(H:Hp)(Q:VK)(u:Value):kE3 K C H Q u=aP (W.kitOne K (.ref C) u) (kE4 H Q):=rfl
def kE2(K:W.Frag)(oe:Obj)(D:V)(H:Hp)(Q:VK):Addr->Prop:=λ C=>sy H oe.dict/\(∃ vs,oe.data=.fields vs)/\om K C/\aP (Fw D) (kE3 K C H Q)
theorem Hd(K:W.Frag)(oe:Obj)(D:V)(H:Hp)(Q:VK)(C:Addr):kE2 K oe D H Q C=(sy H oe.dict/\(∃ vs,oe.data=.fields vs)/\om K C/\aP (Fw D) (kE3 K C H Q)):=rfl
def kE1(K:W.Frag)(D:V)(H:Hp)(Q:VK):HO->Prop:=λ o=>match o with
 | .frz oe (.ext _)=>aP (FG oe.cls) (kE2 K oe D H Q)
 | _=>False
theorem Hf(K:W.Frag)(D:V)(H:Hp)(Q:VK)(oe:Obj):kE1 K D H Q (gQ oe)=aP (FG oe.cls) (kE2 K oe D H Q):=rfl
def Fm(K:W.Frag)(xs:List V)(H:Hp)(Q:VK):Prop:=match xs with
 | [.ref e,D]=>aP (H e) (kE1 K D H Q)
 | _=>False
theorem Et(K:W.Frag)(e:Addr)(D:V)(H:Hp)(Q:VK):Fm K [.ref e,D] H Q=aP (H e) (kE1 K D H Q):=rfl
theorem vT{X:Cx}:bt X (.builtin "isinstance") (Fm X.K):=by
 refine vY.mono λ xs H Q h=>?_;unfold Fm at h;split at h
 ·rename_i e D;obtain⟨o,h1,h⟩:=ao h;unfold kE1 at h;split at h
  ·rename_i oe φ;obtain⟨C,h2,h⟩:=ao h;obtain⟨h3,h4,h5,h⟩:=h;obtain⟨u,h6,h⟩:=ao h;obtain⟨b,h7,h⟩:=ao h
   have hc:oe.cls=.ref C:=by
    cases q:oe.cls with
    | ref C'=>rw [q] at h2;cases h2;rfl
    | _=>rw [q] at h2;cases h2
   refine⟨e,oe,C,D,b,rfl,⟨_,h1⟩,hc,h3,h4,h5,⟨u,?_,h7⟩,h⟩
   cases D with
   | ref a=>cases h6;rfl
   | ty n=>cases h6;rfl
   | _=>cases h6
  ·exact h.elim
 ·exact h.elim
def kC3(D:Addr)(ys:List V)(N:List V->Hp->Prop):VK:=λ y H=>H D=some (.lst ys)/\ys.length < sizeLine/\N (ys++[y]) (upd H D (.lst (ys++[y])))
def kC2(te:TE)(σ2:St)(D:Addr)(ys:List V)(N:List V->Hp->Prop):Bool->Hp->Prop:=λ b H=>if b=true then te σ2 H (kC3 D ys N) else N ys H
def kC1(k:Nat)(tt:TT)(te:TE)(σ:St)(D:Addr)(ys:List V)(N:List V->Hp->Prop):St->Hp->Prop:=λ σ2 H=>(∃ vs:St,vs.length=k/\σ2=vs++σ)/\tt σ2 H (kC2 te σ2 D ys N)
theorem DZ(σ:St)(H:Hp)(Q:Bool->Hp->Prop):Hx σ H Q=Q true H:=rfl
def wM(k:Nat)(g:TG)(tt:TT)(te:TE)(σ:St)(Q:VK):It->Hp->Prop:=λ J H1=>∀ D,H1 D=none->∃ W:Nat->Nat->List V->Hp->Prop,(∃ m,W 0 m [] (upd H1 D (.lst [])))/\∀ i m ys H,W i m ys H →
 (J.stop i H/\Q (.ref D) H)\/(J.go i H/\∃ N:List V->Hp->Prop,(∀ ys' H',N ys' H'->∃ m',m' < m/\W (i+1) m' ys' H') /\
  ∀ x H',J.yld i H x H'->g x (List.replicate k none++σ) H' (kC1 k tt te σ D ys N))
theorem Bi(k:Nat)(wi:TI)(g:TG)(tt:TT)(te:TE)(σ:St)(H:Hp)(Q:VK):zJ k wi g tt te σ H Q=wi σ H (wM k g tt te σ Q):=rfl
def Dj(i:Nat)(σ:St)(nx:St->Hp->Prop):VK:=λ x H=>cH i x σ H nx
theorem BD(i:Nat)(σ:St)(nx:St->Hp->Prop)(x:V)(H:Hp):Dj i σ nx x H=cH i x σ H nx:=rfl
theorem Be(i:Nat)(te:TE)(nx:St->Hp->Prop)(rt:VK)(bk ct:St->Hp->Prop)(σ:St)(H:Hp):CP i te ⟨nx,rt,bk,ct⟩ σ H=te σ H (Dj i σ nx):=rfl
section
variable {k:Nat}{g:TG}{tt:TT}{te:TE}{σ:St}{Q:VK}{H:Hp}{K:PySem.W.Frag}
end
def bf{α:Type}:List (Option α)->Option (List α)
 | []=>some []
 | o::r=>o.bind λ x=>(bf r).map λ xs=>x::xs
def zD(f:V->Option PyData):HO->Option PyData
 | .lst xs=>(bf (xs.map f)).map .list
 | .tup xs=>(bf (xs.map f)).map .tuple
 | _=>none
def jG(H:Hp)(f:V->Option PyData):V->Option PyData
 | .non=>some .none
 | .bl b=>some (.bool b)
 | .int i=>some (.int i)
 | .str z=>if PyData.strOk z=true then some (.str z) else none
 | .ref p=>(H p).bind (zD f)
 | _=>none
def ju(H:Hp):Nat->V->Option PyData
 | 0,_=>none
 | n+1,x=>jG H (ju H n) x
def noD:V->Option PyData:=λ _=>none
theorem E1(H:Hp)(x:V):ju H 6 x=jG H (jG H (jG H (jG H (jG H (jG H noD))))) x:=rfl
theorem qW(H:Hp)(n:Nat)(z:Str):ju H (n+1) (.str z)=if PyData.strOk z=true then some (.str z) else none:=rfl
theorem qX(H:Hp)(n:Nat)(p:Addr):ju H (n+1) (.ref p)=(H p).bind (zD (ju H n)):=rfl
theorem qZ(H:Hp)(f:V->Option PyData)(i:Int):jG H f (.int i)=some (.int i):=rfl
theorem qY(H:Hp)(f:V->Option PyData)(z:Str):jG H f (.str z)=if PyData.strOk z=true then some (.str z) else none:=rfl
theorem jV(H:Hp)(f:V->Option PyData)(p:Addr):jG H f (.ref p)=(H p).bind (zD f):=rfl
theorem jU(f:V->Option PyData)(xs:List V):zD f (.lst xs)=(bf (xs.map f)).map .list:=rfl
theorem gK(f:V->Option PyData)(xs:List V):zD f (.tup xs)=(bf (xs.map f)).map .tuple:=rfl
theorem lJ{α:Type}:bf ([]:List (Option α))=some []:=rfl
theorem fb{α:Type}(x:α)(r:List (Option α)):bf (some x::r)=(bf r).map λ xs=>x::xs:=rfl
theorem eJ(H:Hp)(f:V->Option PyData):∀ ns:List Int,bf ((ns.map V.int).map (jG H f))=some (ns.map PyData.int)
 | []=>rfl
 | i::r=>by
  show (bf ((r.map V.int).map (jG H f))).map _=_
  rw [eJ H f r];rfl
theorem k4{K:W.Frag}{H:Hp}{n:Nat}(ih:∀ x d,ju H n x=some d->kn K H x d/\d.canLay0=true/\d.depth<=n):∀ (xs:List V) (ds:List PyData),bf (xs.map (ju H n))=some ds->iA K H xs ds/\PyData.canLayAll0 ds=true/\PyData.depthAll ds<=n
 | [],ds,h=>by cases h;exact⟨.nil,rfl,JH _⟩
 | x::xs,ds,h=>by
  have h':(ju H n x).bind (λ d=>(bf (xs.map (ju H n))).map λ ds=>d::ds)=some ds:=h
  cases e:ju H n x with
  | none=>rw [e] at h';cases h'
  | some d=>
   rw [e] at h';have h2:(bf (xs.map (ju H n))).map (λ ds=>d::ds)=some ds:=h'
   cases e2:bf (xs.map (ju H n)) with
   | none=>rw [e2] at h2;cases h2
   | some es=>
    rw [e2] at h2;cases h2;obtain⟨a,b,c⟩:=ih x d e;obtain⟨a',b',c'⟩:=k4 ih xs es e2;exact⟨.cons a a',by simp [PyData.canLayAll0,b,b'],by simp only [PyData.depthAll];omega⟩
theorem oX{K:W.Frag}{H:Hp}:∀ (n:Nat) (x:V) (d:PyData),ju H n x=some d->kn K H x d/\d.canLay0=true/\d.depth<=n
 | 0,x,d,h=>by cases h
 | n+1,x,d,h=>by
  cases x with
  | non=>cases h;exact⟨.non,rfl,JH _⟩
  | bl b=>cases h;exact⟨.bl b,rfl,JH _⟩
  | int i=>cases h;exact⟨.int i,rfl,JH _⟩
  | str z=>
   rw [qW] at h;split at h
   ·rename_i hz;cases h;exact⟨.str z,by simpa [PyData.canLay0] using hz,JH _⟩
   ·cases h
  | ref p=>
   rw [qX] at h
   cases e:H p with
   | none=>rw [e] at h;cases h
   | some o=>
    rw [e] at h;have h':zD (ju H n) o=some d:=h
    cases o with
    | lst xs=>
     rw [jU] at h'
     cases e2:bf (xs.map (ju H n)) with
     | none=>rw [e2] at h';cases h'
     | some ds=>
      rw [e2] at h';cases h';obtain⟨a,b,c⟩:=k4 (K:=K) (oX n) xs ds e2;exact⟨.lst (SqL.of e) a,by simpa [PyData.canLay0] using b,by simp only [PyData.depth];omega⟩
    | tup xs=>
     rw [gK] at h'
     cases e2:bf (xs.map (ju H n)) with
     | none=>rw [e2] at h';cases h'
     | some ds=>
      rw [e2] at h';cases h';obtain⟨a,b,c⟩:=k4 (K:=K) (oX n) xs ds e2;exact⟨.tup (SqT.of e) a,by simpa [PyData.canLay0] using b,by simp only [PyData.depth];omega⟩
    | _=>cases h'
  | _=>cases h
theorem dB{K:W.Frag}{H:Hp}{n:Nat}{x:V}{d:PyData}(hn:n<=64)(h:ju H n x=some d):kn K H x d/\SeqAt.shaped d=true:=by
 obtain⟨a,b,c⟩:=oX (K:=K) n x d h;refine⟨a,?_⟩;unfold SeqAt.shaped;rw [b,decide_eq_true (show d.depth<=64 by omega)];rfl
def Ft(neg:Bool)(H:Hp)(Q:VK)(d:PyData):PyData->Prop:=λ e=>Q (.bl (if neg=true then !PyData.eqv d e else PyData.eqv d e)) H
theorem xW(H:Hp)(Q:VK)(d e:PyData):Ft true H Q d e=Q (.bl (!PyData.eqv d e)) H:=rfl
theorem xX(H:Hp)(Q:VK)(d e:PyData):Ft false H Q d e=Q (.bl (PyData.eqv d e)) H:=rfl
def FY(neg:Bool)(y:V)(H:Hp)(Q:VK):PyData->Prop:=λ d=>aP (ju H 6 y) (Ft neg H Q d)
theorem EN(neg:Bool)(y:V)(H:Hp)(Q:VK)(d:PyData):FY neg y H Q d=aP (ju H 6 y) (Ft neg H Q d):=rfl
def qEq(neg:Bool):R2:=λ x y H Q=>if Fl x y=true then Q (.bl (if neg=true then !decide (x=y) else decide (x=y))) H else aP (ju H 6 x) (FY neg y H Q)
theorem qS(neg:Bool)(p:Addr)(x:V)(H:Hp)(Q:VK):qEq neg x (.ref p) H Q=aP (ju H 6 x) (FY neg (.ref p) H Q):=by
 show (if Fl x (.ref p)=true then _ else _)=_
 rw [Jt (by cases x<;>exact Ji)]
theorem lI(i:Int)(j:Int)(H:Hp)(Q:VK):qEq false (V.int i) (V.int j) H Q=Q (.bl (decide (i=j))) H:=by
 have e:decide (((V.int i):V)=(V.int j))=decide (i=j):=by simp
 show Q (.bl (if false=true then !decide ((V.int i)=(V.int j)) else decide ((V.int i)=(V.int j)))) H=_
 rw [e];rfl
theorem lH(i:Int)(j:Int)(H:Hp)(Q:VK):qEq true (V.int i) (V.int j) H Q=Q (.bl (!decide (i=j))) H:=by
 have e:decide (((V.int i):V)=(V.int j))=decide (i=j):=by simp
 show Q (.bl (if true=true then !decide ((V.int i)=(V.int j)) else decide ((V.int i)=(V.int j)))) H=_
 rw [e];rfl
section
variable {X:Cx}
theorem cw(hu:X.A.units+64 < cLine):OpR X (compareOp .Eq) (qEq false):=by
 refine(Gz.or (DW hu)).mono λ x y H Q h=>?_;unfold qEq at h;split at h
 ·rename_i hs;exact .inl ⟨hs,h⟩
 obtain⟨d,e1,h⟩:=ao h;obtain⟨e,e2,h⟩:=ao h;obtain⟨a,b⟩:=dB (K:=X.K) (by decide) e1;obtain⟨a',b'⟩:=dB (K:=X.K) (by decide) e2;exact .inr ⟨d,e,a,a',b,b',h⟩
theorem b9(hu:X.A.units+64 < cLine):OpR X (compareOp .NotEq) (qEq true):=by
 refine(Gw.or (DV hu)).mono λ x y H Q h=>?_;unfold qEq at h;split at h
 ·rename_i hs;exact .inl ⟨hs,h⟩
 obtain⟨d,e1,h⟩:=ao h;obtain⟨e,e2,h⟩:=ao h;obtain⟨a,b⟩:=dB (K:=X.K) (by decide) e1;obtain⟨a',b'⟩:=dB (K:=X.K) (by decide) e2;exact .inr ⟨d,e,a,a',b,b',h⟩
end
theorem ub(i j:Int):PyData.eqv (.int i) (.int j)=decide (i=j):=Bool.beq_eq_decide_eq i j
theorem Co(i j:Str):PyData.eqv (.str i) (.str j)=(i == j):=rfl
theorem mF(xs ys:List PyData):PyData.eqv (.tuple xs) (.tuple ys)=PyData.eqvAll xs ys:=by simp only [PyData.eqv]
theorem yG(xs ys:List PyData):PyData.eqv (.list xs) (.list ys)=PyData.eqvAll xs ys:=by simp only [PyData.eqv]
theorem gM:PyData.eqvAll [] []=true:=by simp only [PyData.eqvAll]
theorem fE(x y:PyData)(xs ys:List PyData):PyData.eqvAll (x::xs) (y::ys)=(PyData.eqv x y && PyData.eqvAll xs ys):=by simp only [PyData.eqvAll]
theorem yI(x:PyData)(xs:List PyData):PyData.eqvAll (x::xs) []=false:=by simp only [PyData.eqvAll]
theorem yH(x:PyData)(xs:List PyData):PyData.eqvAll [] (x::xs)=false:=by simp only [PyData.eqvAll]
theorem fD:∀ ns ms:List Int,PyData.eqvAll (ns.map PyData.int) (ms.map PyData.int)=decide (ns=ms)
 | [],[]=>by rw [map_nil,gM];rfl
 | [],_::_=>by rw [map_nil,JY,yH];rfl
 | _::_,[]=>by rw [map_nil,JY,yI];rfl
 | i::r,j::t=>by
  rw [JY,JY,fE,ub,fD r t]
  by_cases h:i=j<;>by_cases h2:r=t<;>simp [h,h2]
theorem CA(i j:Int):Gp i j=(0 < j/\j < 1073741824):=rfl
theorem Ff(i j:Int)(h:-18446744073709551616 < i)(h':i < 18446744073709551616):jH i j=True:=eq_true (.inl ⟨by omega,by omega⟩)
theorem Cz(j:Int):Gn 10 j=(0<=j/\j<=1000000):=propext ⟨λ h=>⟨h.1,h.2.1⟩,λ h=>⟨h.1,h.2,by decide⟩⟩
theorem Hj(n:Nat)(h:n<=1000):(n<=sizeLine)=True:=eq_true (KN (uy h))
theorem Ext.of{H H':Hp}(h:∀ a,(H a).isSome=true->H' a=H a):Ext H H':=⟨h,λ K a xs q=>by
 have s:lV H H':=λ b o e=>(h b (by rw [e];rfl)).trans e;exact s.seq q⟩
theorem Ext.same{H H':Hp}(h:Ext H H'):lV H H':=λ b o e=>(h.1 b (by rw [e];rfl)).trans e
theorem lV.ext{H H':Hp}(h:lV H H'):Ext H H':=Ext.of λ a q=>by
 cases e:H a with
 | none=>rw [e] at q;cases q
 | some o=>exact h a o e
theorem Ext.refl(H:Hp):Ext H H:=(lV.refl H).ext
theorem Ext.trans{H H1 H2:Hp}(a:Ext H H1)(b:Ext H1 H2):Ext H H2:=(a.same.trans b.same).ext
theorem Ext.new{H:Hp}{p:Addr}{o:HO}(h:H p=none):Ext H (upd H p o):=(xc h).ext
theorem Ext.put{H H1:Hp}{p:Addr}{o:HO}(a:Ext H H1)(h:H p=none):Ext H (upd H1 p o):=lV.ext λ b u e=>by
 rw [ai (aT e h)];exact a.same b u e
theorem Ext.free{H H1:Hp}{p:Addr}(a:Ext H H1)(h:H1 p=none):H p=none:=a.same.free h
theorem Ext.at{H H1:Hp}{p:Addr}{o:HO}(a:Ext H H1)(h:H p=some o):H1 p=some o:=a.same _ _ h
theorem tN{xs:List V}{i:Int}{k:V->Prop}(h0:0<=i)(h1:i < xs.length)(h:∀ v∈xs,k v):aP (atI xs i) k:=by
 obtain⟨v,e,m⟩:=zB xs i h0 h1;rw [e];exact h v m
theorem IM(CX:CXT)(P:Program)(w:World)(K:W.Frag)(mg:Str->Option Value)(base:Heap)(N:List Str)(qual:Str)(scope:Scope)(f:Addr)(cd:Value)(A:Around)(outer:List Env)(s:Shared)(H:Hp)(E:XK):(lT CX P w K mg base N qual scope f cd A outer s H E).K=K:=rfl
theorem df{X:Cx}{K:W.Frag}(h:X.K=K):bt X (.builtin "isinstance") (Fm K):=h ▸ vT
theorem qe{K:W.Frag}{C:Addr}(h:W.hasDictIn K C=true):(W.clsIn K C).isSome=true:=by
 obtain⟨cd,hc,_⟩:=W.any_some h;rw [hc];rfl
theorem gv{K:W.Frag}{A C:Addr}(h1:W.hasDictIn K C=true)(h2:W.typeIn K (.ref C)=some (.type "type"))(h3:W.subIn K (.ref A) (.ref C)=some true):W.kitOne K (.ref A) (.ref C)=some true:=by
 unfold W.kitOne;split
 ·rfl
 ·show (if _ then _ else _)=_
  rw [qe h1,h2,Jw (by decide),h3]
theorem dS{K:W.Frag}{A C:Addr}(h0:(A == C)=false)(h1:W.hasDictIn K C=true)(h2:W.typeIn K (.ref C)=some (.type "type"))(h3:W.subIn K (.ref A) (.ref C)=some false):W.kitOne K (.ref A) (.ref C)=some false:=by
 unfold W.kitOne;rw [if_neg (by intro z;have e:A=C:=Value.ref.inj (beq_iff_eq.mp z);rw [e] at h0;simp at h0)]
 show (if _ then _ else _)=_
 rw [qe h1,h2,Jw (by decide),h3]
theorem pP{K:W.Frag}{A:Addr}{n:String}{b:Bool}(h1:W.kitMeta n=true)(h3:W.subIn K (.ref A) (.type n)=some b):W.kitOne K (.ref A) (.type n)=some b:=by
 unfold W.kitOne;rw [if_neg (by intro z;have e:=beq_iff_eq.mp z;cases e)]
 show (if _ then _ else _)=_
 rw [Jw h1,h3]
def isW(H:Hp):V->Option Bool
 | .int _=>some true
 | .bl _=>some false
 | .non=>some false
 | .str _=>some false
 | .ref p=>((H p).bind tyO).map λ _=>false
 | _=>none
theorem yu(H:Hp)(i:Int):isW H (.int i)=some true:=rfl
theorem yt(H:Hp)(p:Addr):isW H (.ref p)=((H p).bind tyO).map λ _=>false:=rfl
theorem t6{H:Hp}{p:Addr}{b:Bool}(h:isW H (.ref p)=some b):b=false/\∃ o,H p=some o/\(tyO o=some "list" \/ tyO o=some "tuple" \/ tyO o=some "dict"):=by
 rw [yt] at h
 cases e:H p with
 | none=>rw [e] at h;cases h
 | some o=>
  rw [e] at h;have h':(tyO o).map (λ _=>false)=some b:=h
  cases e2:tyO o with
  | none=>rw [e2] at h';cases h'
  | some t=>
   rw [e2] at h';cases h';refine⟨rfl,o,rfl,?_⟩
   cases o with
   | lst xs=>exact .inl rfl
   | tup xs=>exact .inr (.inl rfl)
   | dK xs=>exact .inr (.inr rfl)
   | dT xs=>exact .inr (.inr rfl)
   | frz ob u=>cases u with
    | lst xs=>exact .inl rfl
    | _=>cases e2
   | _=>cases e2
theorem iP{α:Type}{o:Option α}{k k':α->Prop}(m:∀ x,k x->k' x)(h:aP o k):aP o k':=by
 obtain⟨x,e,q⟩:=ao h;rw [e];exact m x q
theorem qc:∀ {ns ms:List Int},ns.map V.int=ms.map V.int->ns=ms
 | [],[],_=>rfl
 | [],_::_,h=>by cases h
 | _::_,[],h=>by cases h
 | i::r,j::t,h=>by
  simp only [JY,List.cons.injEq,V.int.injEq] at h;rw [h.1,qc h.2]
def lX(F:List Int->Prop):List V->Prop:=λ xs=>∃ ns,xs=ns.map V.int/\F ns
theorem tX(F:List Int->Prop)(ns:List Int):lX F (ns.map V.int)=F ns:=propext ⟨λ ⟨ms,e,h⟩=>by rw [qc e];exact h,λ h=>⟨ns,rfl,h⟩⟩
theorem u9(F:List Int->Prop)(a b:Int):lX F [.int a,.int b]=F [a,b]:=tX F [a,b]
theorem mq{xs:List V}{i:Int}{k:V->Prop}(P:Int->Prop)(h0:0<=i)(h1:i < xs.length)(hx:∀ v∈xs,∃ j,v=.int j/\P j)(h:∀ j,P j->k (.int j)):aP (atI xs i) k:=tN h0 h1 λ v hv=>by
 obtain⟨j,rfl,hj⟩:=hx v hv;exact h j hj
theorem yW(i j:Int)(h:i.natAbs < 2 ^ 256)(h':j.natAbs < 2 ^ 256):An i j=True:=eq_true ⟨h,h'⟩
def rT(o:HO)(H:Hp)(Q:VK):Prop:=∀ (p:Addr) (H':Hp),H p=none->Ext H H'->H' p=some o->Q (.ref p) H'
theorem rT.to{o:HO}{H:Hp}{Q:VK}(h:rT o H Q):∀ p,H p=none->Q (.ref p) (upd H p o):=λ p hp=>h p _ hp (Ext.new hp) ag
def kQT(Q:VK):List V->Hp->Prop:=λ xs H=>xs.length<=sizeLine/\rT (.tup xs) H Q
theorem G0(Q:VK)(xs:List V)(H:Hp):kQT Q xs H=(xs.length<=sizeLine/\rT (.tup xs) H Q):=rfl
def kQL(Q:VK):List V->Hp->Prop:=λ xs H=>xs.length<=sizeLine/\rT (.lst xs) H Q
theorem G3(Q:VK)(xs:List V)(H:Hp):kQL Q xs H=(xs.length<=sizeLine/\rT (.lst xs) H Q):=rfl
def HI(t:TA):TE:=λ σ H Q=>t σ H (kQT Q)
theorem Em(t:TA)(σ:St)(H:Hp)(Q:VK):HI t σ H Q=t σ H (kQT Q):=rfl
def HJ(t:TA):TE:=λ σ H Q=>t σ H (kQL Q)
theorem Er(t:TA)(σ:St)(H:Hp)(Q:VK):HJ t σ H Q=t σ H (kQL Q):=rfl
section
variable {X:Cx}{es:List Expr}{t:TA}{pos:Pos}
theorem AU{x1}(h:PA X es t):PE X (.Tuple es x1 pos) (HI t):=by
 intro pins s σ H Q I hq;refine wpAny_Tuple_spliced (thn (h pos pins s σ H _ I hq) λ us s1 ⟨xs,H1,I1,r,z,q⟩=>⟨by rw [←r.length];exact z,?_⟩);have hf:H1 s1.heap.objs.size=none:=I1.hok.fresh (Je _);refine⟨.ref s1.heap.objs.size,upd H1 s1.heap.objs.size (.tup xs),I1.laid (t':=s1.toks) (λ b u e=>IW _ e) (Je _) ?_,rfl,q.to _ hf⟩;exact⟨z,us,r,⟨_,Jf _ rfl,rfl,_,rfl⟩⟩
theorem AV(h:PA X es t):PE X (.List es pos) (HJ t):=by
 intro pins s σ H Q I hq;refine wpAny_List_spliced (thn (h pos pins s σ H _ I hq) λ us s1 ⟨xs,H1,I1,r,z,q⟩=>⟨by rw [←r.length];exact z,?_⟩);have hf:H1 s1.heap.objs.size=none:=I1.hok.fresh (Je _);refine⟨.ref s1.heap.objs.size,upd H1 s1.heap.objs.size (.lst xs),I1.laid (t':=s1.toks) (λ b u e=>IW _ e) (Je _) ?_,rfl,q.to _ hf⟩;exact⟨z,us,0,r,Jf _ rfl⟩
end
def kN(f:List V->HO)(H:Hp)(Q:VK):List V->Prop:=λ ys=>rT (f ys) H Q
theorem IH(f:List V->HO)(H:Hp)(Q:VK)(ys:List V):kN f H Q ys=rT (f ys) H Q:=rfl
def zU(xs:List V)(H:Hp)(Q:VK):Prop:=match xs with
 | [.ref p]=>aP (cJ H p) (kN .lst H Q)
 | _=>False
theorem Bu(p:Addr)(H:Hp)(Q:VK):zU [.ref p] H Q=aP (cJ H p) (kN .lst H Q):=rfl
theorem dg{X:Cx}:bt X (.type "list") zU:=rG.mono λ xs H Q h=>by
 unfold zU at h;split at h
 ·exact iP (λ _ q=>q.to) h
 ·exact h.elim
def FU(xs:List V)(H:Hp)(Q:VK):List V->Prop:=λ ys=>xs.length+ys.length<=sizeLine/\rT (.lst (xs++ys)) H Q
theorem EF(xs:List V)(H:Hp)(Q:VK)(ys:List V):FU xs H Q ys=(xs.length+ys.length<=sizeLine/\rT (.lst (xs++ys)) H Q):=rfl
def FV(b:Addr)(H:Hp)(Q:VK):List V->Prop:=λ xs=>aP (aQ H b) (FU xs H Q)
theorem EG(b:Addr)(H:Hp)(Q:VK)(xs:List V):FV b H Q xs=aP (aQ H b) (FU xs H Q):=rfl
def FP:R2:=λ x y H Q=>match x,y with
 | .ref l,.ref b=>aP (aQ H l) (FV b H Q)
 | _,_=>False
theorem Ey(l b:Addr)(H:Hp)(Q:VK):FP (.ref l) (.ref b) H Q=aP (aQ H l) (FV b H Q):=rfl
theorem tO{X:Cx}:OpR X (binaryOp .Add) FP:=DX.mono λ x y H Q h=>by
 unfold FP at h;split at h
 ·rw [El];exact iP (λ _ q=>iP (λ _ q=>⟨q.1,q.2.to⟩) q) h
 ·exact h.elim
section
variable {prog:Program}{w:World}{A:Around}{E:Value->Shared->Prop}{s:Shared}
end
section
variable {X:Cx}{pos:Pos}
end
section
variable {X:Cx}{tg:Expr}
end
theorem i3:∀ (n:Nat) (ns:List Int) (val:Nat->Int),(∀ i,val i=ns.getD i 0)->n<=ns.length->preSum val n=(ns.take n).sum
 | 0,ns,val,h,hl=>by simp [preSum]
 | n+1,ns,val,h,hl=>by
  have ih:=i3 n ns val h (by omega)
  have e:ns.take (n+1)=ns.take n++[ns.getD n 0]:=by
   rw [Lj,IX (by omega)];simp [List.getD,IX (show n < ns.length by omega)]
  rw [preSum,ih,e,LG,h];simp
def zZ(H:Hp)(Q:VK):List Int->Prop:=λ ns=>Q (.int ns.sum) H
theorem BA(H:Hp)(Q:VK)(ns:List Int):zZ H Q ns=Q (.int ns.sum) H:=rfl
def FH:List V->Hp->VK->Prop:=λ vs H Q=>match vs with
 | [.ref p]=>aP (aQ H p) (lX (zZ H Q))
 | _=>False
theorem En(p:Addr)(H:Hp)(Q:VK):FH [.ref p] H Q=aP (aQ H p) (lX (zZ H Q)):=rfl
def zC(F:List Bool->Prop):List V->Prop:=λ xs=>∃ bs,xs=bs.map V.bl/\F bs
theorem ug:∀ {ns ms:List Bool},ns.map V.bl=ms.map V.bl->ns=ms
 | [],[],_=>rfl
 | [],_::_,h=>by cases h
 | _::_,[],h=>by cases h
 | i::r,j::t,h=>by
  simp only [JY,List.cons.injEq,V.bl.injEq] at h;rw [h.1,ug h.2]
theorem ER(F:List Bool->Prop)(bs:List Bool):zC F (bs.map V.bl)=F bs:=propext ⟨λ ⟨ms,e,h⟩=>by rw [ug e];exact h,λ h=>⟨bs,rfl,h⟩⟩
def Aj(H:Hp)(Q:VK):List Bool->Prop:=λ bs=>Q (.bl (bs.all id)) H
theorem BY(H:Hp)(Q:VK)(bs:List Bool):Aj H Q bs=Q (.bl (bs.all id)) H:=rfl
def FN:List V->Hp->VK->Prop:=λ vs H Q=>match vs with
 | [.ref p]=>aP (aQ H p) (zC (Aj H Q))
 | _=>False
theorem Eu(p:Addr)(H:Hp)(Q:VK):FN [.ref p] H Q=aP (aQ H p) (zC (Aj H Q)):=rfl
section
variable {X:Cx}
theorem mI(hc:X.calm=true):bt X (.builtin "sum") FH:=by
 intro pins s σ H vs us Q I r h;unfold FH at h;split at h
 ·rename_i p;obtain⟨xs,e,ns,rfl,q⟩:=ao h
  cases r with
  | cons r rr=>
   cases rr;cases r;obtain⟨its,rv,pl,hz⟩:=I.list (SqL.of (cy e));have hlt:p < s.heap.objs.size:=by obtain⟨_,e,_⟩:=pl.isList;exact IZ e
   have hlen:its.length=ns.length:=by have:=rv.length;simpa using this.symm
   refine call_sum_walkAnyS (KD pl.isList ⟨s.heap.objs.size,_,_,_,_,_,_,λ i=>ns.getD i 0,rfl,(Walks.list (show X.A.in1.handled=none from I.ok.hd hc) _ p (Jj hlt) its.toArray).toS,⟨⟨_,Jf _ rfl,rfl,rfl⟩,pl.isList.push _⟩,λ b hb=>?_,λ i v hP=>?_,λ s' t' hm=>?_⟩)
   ·rw [Jx]
    rcases Js.mp hb with rfl|hb
    ·exact Ke _
    ·rw [Jh.mp hb];exact Nat.lt_succ_of_lt hlt
   ·have hv:its[i]? = some v:=by simpa using hP
    have hi:i < ns.length:=by rw [←hlen];exact(Jb.mp hv).1
    obtain⟨u,hu,ru⟩:=rv.get (i:=i) (x:=.int (ns.getD i 0)) (by rw [Jl,IX hi];simp [List.getD,IX hi]);rw [hv] at hu;cases hu;exact ru
   ·obtain⟨hp,g,d,tk,os⟩:=s'
    have kp:∀ b o,s.heap.get? b=some o->hp.get? b=some o:=λ b o e=>hm.heap b o (λ hmem=>by
     have:b=s.heap.objs.size:=by simpa using hmem
     subst this;exact absurd (IZ e) (JM _)) (IW _ e)
    have e1:g=s.gens:=hm.gens;have e2:d=s.drawn:=hm.drawn;have e3:os=s.os:=hm.os;subst e1 e2 e3;refine⟨.int ns.sum,H,I.kept (t':=tk) kp,?_,q⟩;have es:=i3 its.toArray.size ns (λ i=>ns.getD i 0) (λ _=>rfl) (by simp [hlen]);rw [show its.toArray.size=ns.length by simp [hlen],JB] at es;rw [show its.toArray.size=ns.length by simp [hlen],es];exact⟨t',rfl⟩
 ·exact h.elim
theorem wA(bs:List Bool):(List.range bs.length).all (λ i=>bs.getD i false)=bs.all id:=by
 rw [KL,LC,LC];refine⟨λ h x hx=>?_,λ h i hi=>?_⟩
 ·obtain⟨i,hi,e⟩:=Ll hx;have:=h i (JR.mpr hi)
  simpa [List.getD,IX hi,e] using this
 ·have hi':=JR.mp hi;have:=h (bs[i]) (KA hi')
  simpa [List.getD,IX hi'] using this
theorem vU(hc:X.calm=true):bt X (.builtin "all") FN:=by
 intro pins s σ H vs us Q I r h;unfold FN at h;split at h
 ·rename_i p;obtain⟨xs,e,bs,rfl,q⟩:=ao h
  cases r with
  | cons r rr=>
   cases rr;cases r;obtain⟨its,rv,pl,hz⟩:=I.list (SqL.of (cy e));have hlt:p < s.heap.objs.size:=by obtain⟨_,e,_⟩:=pl.isList;exact IZ e
   have hlen:its.length=bs.length:=by have:=rv.length;simpa using this.symm
   refine call_all_walk (KD pl.isList ⟨s.heap.objs.size,_,_,_,_,_,λ i=>bs.getD i false,rfl,Walks.list (show X.A.in1.handled=none from I.ok.hd hc) _ p (Jj hlt) its.toArray,⟨⟨_,Jf _ rfl,rfl,rfl⟩,pl.isList.push _⟩,λ i v s' Q' E' hP hQ=>?_,λ h' tk hk=>?_⟩)
   ·have hv:its[i]? = some v:=by simpa using hP
    have hi:i < bs.length:=by rw [←hlen];exact(Jb.mp hv).1
    obtain⟨u,hu,ru⟩:=rv.get (i:=i) (x:=.bl (bs.getD i false)) (by rw [Jl,IX hi];simp [List.getD,IX hi]);rw [hv] at hu;cases hu;have e2:v=.bool (bs.getD i false):=ru;subst e2;exact Kf hQ
   ·have kp:∀ b o,s.heap.get? b=some o->h'.get? b=some o:=λ b o e=>hk b o (λ hmem=>by
     have:b=s.heap.objs.size:=by simpa using hmem
     subst this;exact absurd (IZ e) (JM _)) (IW _ e)
    refine⟨.bl (bs.all id),H,I.kept (t':=tk) kp,?_,q⟩;rw [show its.toArray.size=bs.length by simp [hlen],wA];exact rfl
 ·exact h.elim
end
structure Src(prog:Program)(w:World)(it:Addr)(fr:List Addr)(st:Nat->Heap->Prop)(val:Nat->Option Value):Prop where
 mem:it∈fr
 there:∀ k h,st k h->∀ b∈fr,∃ o,h.get? b=some o
 keep:∀ k h h',st k h->(∀ b∈fr,∀ o,h.get? b=some o->h'.get? b=some o)->st k h'
 item:∀ (A:Around) k s v (Q:Value->Shared->Prop) (E:Value->Shared->Prop),st k s.heap->val k=some v->(∀ h',st (k+1) h'->Heap.SameBut it s.heap h'->Q v { s with heap:=h' })->wpAny (model prog w) A (Builtin.SmallTypes.nextOf (.ref it)) Q E s
 fin:∀ (A:Around) k s (Q:Value->Shared->Prop) (E:Value->Shared->Prop),A.handled=none->st k s.heap->val k=none->(∀ h' e,Heap.ExtBut it s.heap h'->(∃ o,h'.get? e=some o/\o.cls=.type "StopIteration")->E (.ref e) { s with heap:=h' })->wpAny (model prog w) A (Builtin.SmallTypes.nextOf (.ref it)) Q E s
theorem w5{prog:Program}{w:World}(it l:Addr)(hne:l ≠ it)(xs:Array Value):Src prog w it [it,l] (λ k h=>h.IsListIter it l k/\h.IsList l xs) (λ k=>xs[k]?) where
 mem:=Jq
 there:=λ k h st b hb=>by
  rcases Js.mp hb with e|hb
  ·obtain⟨o,q,_⟩:=st.1;exact⟨o,by rw [e];exact q⟩
  ·obtain⟨o,q,_⟩:=st.2;exact⟨o,by rw [Jh.mp hb];exact q⟩
 keep:=λ k h h' st q=>⟨st.1.at λ o e=>q it (by simp) o e,st.2.at λ o e=>q l (by simp) o e⟩
 item:=λ A k s v Q E st hv hQ=>wpAny_nextOf_list_item st.1 st.2 hv λ h' a b=>hQ h' ⟨a,st.2.extBut b.extBut hne⟩ b
 fin:=λ A k s Q E hh st hv hE=>wpAny_nextOf_list_end hh st.1 st.2 hv hE
section
variable {prog:Program}{w:World}{A:Around}{E:Value->Shared->Prop}{s:Shared}
theorem lG{j t:Addr}{k:Nat}{xs:Array Value}{v:Value}{Q:Value->Shared->Prop}(hj:s.heap.IsTupleIter j t k)(ht:s.heap.IsTuple t xs)(hv:xs[k]? = some v)
  (hQ:∀ g,g.IsTupleIter j t (k+1)->Heap.SameBut j s.heap g->Q v { s with heap:=g }):wpAny (model prog w) A (Builtin.SmallTypes.nextOf (.ref j)) Q E s:=by
 obtain⟨oj,h0,h1,h2⟩:=id hj;obtain⟨ot,g0,_,n,g1⟩:=ht;unfold Builtin.SmallTypes.nextOf;refine wpAny_bind (wpAny_callSpecial?_slot (name:=Str.ofString "__next__") hj.typeIs F.slot_tuple_iterator_next (wpAny_call_entry F.slot_tuple_iterator_next hj.typeIs F.entry_tuple_iterator_next ?_ (F.args_tuple_iterator_next_1 _)));refine wpAny_bind (m:=field (.ref j) 0) (wpAny_field h0 h2 (x:=.ref t) rfl ?_)
 show wpAny _ _ (if (Value.ref t == Value.none)=true then _ else _) _ _ _
 rw [Jt (show ¬ ((.ref t:Value) == .none)=true from Ji)];refine IV (m:=field (.ref j) 1) (JD h0 h2 (x:=.int k 0) rfl ?_);refine IV (m:=seqItems? (.ref t)) (J6 g0 g1 ?_);simp only [KU,hv];refine IV (KG h0 h2 (by simp) (Ja ⟨v,rfl,Ja (hQ _ ⟨_,JE _ h0 (JU (J9 h2 _)),(Obj.cls_mapFields ..).trans h1,?_⟩ (Kt ..))⟩));rw [J9 h2];simp [rawInt]
theorem nH{j t:Addr}{k:Nat}{xs:Array Value}{Q:Value->Shared->Prop}(hh:A.handled=none)(hj:s.heap.IsTupleIter j t k)(ht:s.heap.IsTuple t xs)(hv:xs[k]? = none)
  (hE:∀ g e,Heap.ExtBut j s.heap g->(∃ o,g.get? e=some o/\o.cls=.type "StopIteration")->E (.ref e) { s with heap:=g }):wpAny (model prog w) A (Builtin.SmallTypes.nextOf (.ref j)) Q E s:=by
 obtain⟨oj,h0,h1,h2⟩:=id hj;obtain⟨ot,g0,_,n,g1⟩:=ht;unfold Builtin.SmallTypes.nextOf;refine wpAny_bind (wpAny_callSpecial?_slot (name:=Str.ofString "__next__") hj.typeIs F.slot_tuple_iterator_next (wpAny_call_entry F.slot_tuple_iterator_next hj.typeIs F.entry_tuple_iterator_next ?_ (F.args_tuple_iterator_next_1 _)));refine wpAny_bind (m:=field (.ref j) 0) (wpAny_field h0 h2 (x:=.ref t) rfl ?_)
 show wpAny _ _ (if (Value.ref t == Value.none)=true then _ else _) _ _ _
 rw [Jt (show ¬ ((.ref t:Value) == .none)=true from Ji)];refine IV (m:=field (.ref j) 1) (JD h0 h2 (x:=.int k 0) rfl ?_);refine IV (m:=seqItems? (.ref t)) (J6 g0 g1 ?_);simp only [KU,hv];refine IV (wpAny_rule (IV (KG h0 h2 (by simp) (IV (m:=newExc (.type "StopIteration") []) ?_))));simp only [newExc,newTuple];refine IV (K6 (IV (m:=firstArgMember _ _) (wpAny_of_eq (a:=Value.none) (by first|rfl|(simp only [firstArgMember];rfl)) (K6 ?_ (by size_fits)))) (by size_fits));simp only [raiseNew]
 refine IV (wpAny_handled ?_);first|rw [show A.in1.handled=none from hh]|rw [hh]
 exact IV (Ja (wpAny_throw (hE _ _ (((Kt ..).extBut.push _).push _) ⟨_,Jf _ rfl,rfl⟩)))
theorem AA(it l:Addr)(hne:l ≠ it)(xs:Array Value):Src prog w it [it,l] (λ k h=>h.IsTupleIter it l k/\h.IsTuple l xs) (λ k=>xs[k]?) where
 mem:=Jq
 there:=λ k h st b hb=>by
  rcases Js.mp hb with e|hb
  ·obtain⟨o,q,_⟩:=st.1;exact⟨o,by rw [e];exact q⟩
  ·obtain⟨o,q,_⟩:=st.2;exact⟨o,by rw [Jh.mp hb];exact q⟩
 keep:=λ k h h' st q=>⟨st.1.at λ o e=>q it (by simp) o e,st.2.at λ o e=>q l (by simp) o e⟩
 item:=λ A k s v Q E st hv hQ=>lG st.1 st.2 hv λ h' a b=>hQ h' ⟨a,st.2.extBut b.extBut hne⟩ b
 fin:=λ A k s Q E hh st hv hE=>nH hh st.1 st.2 hv hE
structure jQ(z TI TO i j:Addr)(f g:List Addr):Prop where
 ti:TI ≠ z/\TI ≠ TO/\TI ≠ i/\TI ≠ j
 zt:z ≠ TO
 zf:z ∉ f
 zg:z ∉ g
 tf:TO ∉ f
 tg:TO ∉ g
 ig:i ∉ g
 jf:j ∉ f
variable {z TI TO i j:Addr}{f g:List Addr}{ti tj:Nat->Heap->Prop}{vi vj:Nat->Option Value}{k m:Nat}{x y a b:Value}
theorem dR{p q:Addr}{l:List Addr}(hp:p∈l)(hq:q ∉ l):p ≠ q:=λ e=>hq (e ▸ hp)
theorem Src.but{prog:Program}{w:World}{it:Addr}{fr:List Addr}{st:Nat->Heap->Prop}{val:Nat->Option Value}(S:Src prog w it fr st val){k:Nat}{c:Addr}{h h':Heap}(q:st k h)(e:Heap.ExtBut c h h')(hc:c ∉ fr):st k h':=
 S.keep k h h' q λ b hb o ho=>e b o (dR hb hc) ho
theorem uv(S:Src prog w i f ti vi)(T:Src prog w j g tj vj)(D:jQ z TI TO i j f g){Q:Value->Shared->Prop}
  (hz:IsZip s.heap z TI TO .none) (hTI:IsPair s.heap TI (.ref i) (.ref j)) (hTO:IsPair s.heap TO a b) (hi:ti k s.heap) (hj:tj m s.heap) (hx:vi k=some x) (hy:vj m=some y)
  (hQ:∀ h',IsZip h' z TI TO (rawInt s.heap.objs.size)->IsPair h' TO x y->ti (k+1) h'->tj (m+1) h'->IsPair h' s.heap.objs.size x y->h'.objs.size=s.heap.objs.size+1->(∀ c o,c ∉ [z,TO,i,j]->s.heap.get? c=some o->h'.get? c=some o)->Q (.ref s.heap.objs.size) { s with heap:=h' }) :
  wpAny (model prog w) A (Builtin.«zip.__next__» ⟨[.ref z],[]⟩) (λ fin s'=>∃ v,fin=.done (.ret v)/\Q v s') E s:=by
 have iz:i ≠ z:=dR S.mem D.zf;have jz:j ≠ z:=dR T.mem D.zg;have iTO:i ≠ TO:=dR S.mem D.tf;have jTO:j ≠ TO:=dR T.mem D.tg;have ij:i ≠ j:=dR S.mem D.jf;refine wpAny_bind (m:=field (.ref z) 2) (wpAny_field hz rfl (x:=.bool false) rfl ?_);refine wpAny_bind (m:=field (.ref z) 3) (wpAny_field hz rfl (x:=.ref TI) rfl (wpAny_bind (wpAny_seqItems hTI rfl ?_)));refine wpAny_bind (m:=Builtin.SmallTypes.ownedTupleIsFree (.ref z)) ?_;unfold Builtin.SmallTypes.ownedTupleIsFree;refine wpAny_bind (wpAny_field hz rfl (x:=.none) rfl (wpAny_pure ?_));simp only [if_true];refine wpAny_bind (wpAny_rule (wpAny_bind (wpAny_field hz rfl (x:=.ref TO) rfl (wpAny_bind (wpAny_setField_rec hz (by simp) λ q1 z1 s1=>?_)))));replace z1:IsZip q1 z TI TO .ellipsis:=z1;refine wpAny_bind ?_;simp only [List.zipIdx_cons,List.zipIdx_nil,List.forIn_cons,List.forIn_nil];refine wpAny_bind (wpAny_bind (wpAny_onRaise (wpAny_bind (m:=Builtin.SmallTypes.nextOf (.ref i)) (S.item _ k _ x _ _ (S.but hi s1.extBut D.zf) hx λ q2 i2 s2=>wpAny_pure ?_))));have o2:IsPair q2 TO a b:=s2.extBut _ _ iTO.symm (s1.extBut _ _ D.zt.symm hTO);refine wpAny_bind (wpAny_seqItems o2 rfl (wpAny_bind (wpAny_updateSeq_pair o2 λ q3 o3 s3=>wpAny_bind (wpAny_letGo (wpAny_pure ?_)))));replace o3:IsPair q3 TO x b:=o3;have j3:tj m q3:=T.but (T.but (T.but hj s1.extBut D.zg) s2.extBut D.ig) s3.extBut D.tg;refine wpAny_bind (wpAny_bind (wpAny_onRaise (wpAny_bind (m:=Builtin.SmallTypes.nextOf (.ref j)) (T.item _ m _ y _ _ j3 hy λ q4 j4 s4=>wpAny_pure ?_))));have o4:IsPair q4 TO x b:=s4.extBut _ _ jTO.symm o3;refine wpAny_bind (wpAny_seqItems o4 rfl (wpAny_bind (wpAny_updateSeq_pair o4 λ q5 o5 s5=>wpAny_bind (wpAny_letGo (wpAny_pure (wpAny_pure ?_))))));replace o5:IsPair q5 TO x y:=o5;refine wpAny_bind (wpAny_seqItems o5 rfl (wpAny_bind (wpAny_newTuple ?_)));have sz:q5.objs.size=s.heap.objs.size:=by rw [s5.1,s4.1,s3.1,s2.1,s1.1]
 have z5:IsZip q5 z TI TO .ellipsis:=s5.extBut _ _ D.zt (s4.extBut _ _ jz.symm (s3.extBut _ _ D.zt (s2.extBut _ _ iz.symm z1)))
 have k5:∀ c o,c ∉ [z,TO,i,j]->s.heap.get? c=some o->q5.get? c=some o:=λ c o hc e=>by
  simp only [Js,Jo,JW,not_or] at hc;exact s5.extBut _ _ hc.2.1 (s4.extBut _ _ hc.2.2.2 (s3.extBut _ _ hc.2.1 (s2.extBut _ _ hc.2.2.1 (s1.extBut _ _ hc.1 e))))
 have i5:ti (k+1) q5:=S.but (S.but (S.but i2 s3.extBut D.tf) s4.extBut D.jf) s5.extBut D.tf;have j5:tj (m+1) q5:=T.but j4 s5.extBut D.tg;have zlt:z < q5.objs.size:=Heap.lt_size z5;refine wpAny_bind (m:=Builtin.SmallTypes.ownedTupleHandOut (.ref z) (.ref q5.objs.size)) ?_;unfold Builtin.SmallTypes.ownedTupleHandOut;have z6:IsZip (q5.push { cls:=.type "tuple",data:=.seq #[x,y] }) z TI TO .ellipsis:=Heap.get?_push_of_some _ z5;refine wpAny_bind (wpAny_setField_rec z6 (by simp) λ q7 z7 s7=>?_);replace z7:IsZip q7 z TI TO (rawInt q5.objs.size):=z7;refine wpAny_setField_rec z7 (by simp) λ q8 z8 s8=>?_;replace z8:IsZip q8 z TI TO (rawInt q5.objs.size):=z8;have up:∀ c o,c ≠ z->q5.get? c=some o->q8.get? c=some o:=λ c o hc e=>s8.extBut _ _ hc (s7.extBut _ _ hc (Heap.get?_push_of_some _ e));have t8:IsPair q8 q5.objs.size x y:=s8.extBut _ _ (Nat.ne_of_gt zlt) (s7.extBut _ _ (Nat.ne_of_gt zlt) (Heap.get?_push_size _ rfl));have n8:q8.objs.size=q5.objs.size+1:=by rw [s8.1,s7.1,Heap.size_push]
 rw [sz] at z8 t8 n8;refine Ja ⟨_,rfl,?_⟩
 show Q (.ref q5.objs.size) _
 rw [sz];exact hQ q8 z8 (up _ _ D.zt.symm o5) (S.keep _ _ _ i5 λ c hc o e=>up c o (dR hc D.zf) e) (T.keep _ _ _ j5 λ c hc o e=>up c o (dR hc D.zg) e) t8 n8 λ c o hc e=>up c o (λ q=>hc (by simp [q])) (k5 c o hc e)
theorem wW(hh:A.handled=none)(S:Src prog w i f ti vi)(T:Src prog w j g tj vj)(D:jQ z TI TO i j f g){Q:Fin->Shared->Prop}
  (hz:IsZip s.heap z TI TO .none) (hTI:IsPair s.heap TI (.ref i) (.ref j)) (hTO:IsPair s.heap TO a b) (hi:ti k s.heap) (hj:tj m s.heap) (hxy:vi k=none\/vj m=none)
  (hE:∀ h' e,(∀ c o,c ∉ [z,TO,i,j]->s.heap.get? c=some o->h'.get? c=some o)->(∃ o,h'.get? e=some o/\o.cls=.type "StopIteration")->E (.ref e) { s with heap:=h' }) :
  wpAny (model prog w) A (Builtin.«zip.__next__» ⟨[.ref z],[]⟩) Q E s:=by
 have iz:i ≠ z:=dR S.mem D.zf;have jz:j ≠ z:=dR T.mem D.zg;have iTO:i ≠ TO:=dR S.mem D.tf;have jTO:j ≠ TO:=dR T.mem D.tg;refine wpAny_bind (m:=field (.ref z) 2) (wpAny_field hz rfl (x:=.bool false) rfl ?_);refine wpAny_bind (m:=field (.ref z) 3) (wpAny_field hz rfl (x:=.ref TI) rfl (wpAny_bind (wpAny_seqItems hTI rfl ?_)));refine wpAny_bind (m:=Builtin.SmallTypes.ownedTupleIsFree (.ref z)) ?_;unfold Builtin.SmallTypes.ownedTupleIsFree;refine wpAny_bind (wpAny_field hz rfl (x:=.none) rfl (wpAny_pure ?_));simp only [if_true];refine wpAny_bind (wpAny_rule (wpAny_bind (wpAny_field hz rfl (x:=.ref TO) rfl (wpAny_bind (wpAny_setField_rec hz (by simp) λ q1 z1 s1=>?_)))));replace z1:IsZip q1 z TI TO .ellipsis:=z1;refine wpAny_bind ?_;simp only [List.zipIdx_cons,List.zipIdx_nil,List.forIn_cons,List.forIn_nil];refine wpAny_bind (wpAny_bind (wpAny_onRaise (wpAny_bind (m:=Builtin.SmallTypes.nextOf (.ref i)) ?_)))
 cases hx:vi k with
 | none=>
  refine S.fin _ k _ _ _ hh (S.but hi s1.extBut D.zf) hx λ q2 e s2 ⟨oe,he,hce⟩=>?_;have z2:IsZip q2 z TI TO .ellipsis:=s2 _ _ iz.symm z1;have ez:e ≠ z:=λ q=>by subst q;rw [z2] at he;cases he;simp at hce
  refine J8 z2 (by simp) λ q3 _ s3=>hE q3 e (λ c o hc q=>?_) ⟨oe,s3.extBut _ _ ez he,hce⟩;simp only [Js,Jo,JW,not_or] at hc;exact s3.extBut _ _ hc.1 (s2 _ _ hc.2.2.1 (s1.extBut _ _ hc.1 q))
 | some x=>
  have hy:vj m=none:=hxy.resolve_left (by rw [hx];exact Option.some_ne_none x);refine S.item _ k _ x _ _ (S.but hi s1.extBut D.zf) hx λ q2 i2 s2=>Ja ?_;have o2:IsPair q2 TO a b:=s2.extBut _ _ iTO.symm (s1.extBut _ _ D.zt.symm hTO);refine IV (J6 o2 rfl (IV (Lp o2 λ q3 o3 s3=>IV (wpAny_letGo (Ja ?_)))));have j3:tj m q3:=T.but (T.but (T.but hj s1.extBut D.zg) s2.extBut D.ig) s3.extBut D.tg;refine IV (IV (LF (IV (m:=Builtin.SmallTypes.nextOf (.ref j)) (T.fin _ m _ _ _ hh j3 hy λ q4 e s4 ⟨oe,he,hce⟩=>?_))));have z4:IsZip q4 z TI TO .ellipsis:=s4 _ _ jz.symm (s3.extBut _ _ D.zt (s2.extBut _ _ iz.symm z1));have ez:e ≠ z:=λ q=>by subst q;rw [z4] at he;cases he;simp at hce
  refine J8 z4 (by simp) λ q5 _ s5=>hE q5 e (λ c o hc q=>?_) ⟨oe,s5.extBut _ _ ez he,hce⟩;simp only [Js,Jo,JW,not_or] at hc;exact s5.extBut _ _ hc.1 (s4 _ _ hc.2.2.2 (s3.extBut _ _ hc.2.1 (s2.extBut _ _ hc.2.2.1 (s1.extBut _ _ hc.1 q))))
theorem jw(S:Src prog w i f ti vi)(T:Src prog w j g tj vj)(D:jQ z TI TO i j f g){Q:Option Value->Shared->Prop}
  (hz:IsZip s.heap z TI TO .none) (hTI:IsPair s.heap TI (.ref i) (.ref j)) (hTO:IsPair s.heap TO a b) (hi:ti k s.heap) (hj:tj m s.heap) (hx:vi k=some x) (hy:vj m=some y)
  (hQ:∀ h',IsZip h' z TI TO (rawInt s.heap.objs.size)->IsPair h' TO x y->ti (k+1) h'->tj (m+1) h'->IsPair h' s.heap.objs.size x y->h'.objs.size=s.heap.objs.size+1->(∀ c o,c ∉ [z,TO,i,j]->s.heap.get? c=some o->h'.get? c=some o)->Q (some (.ref s.heap.objs.size)) { s with heap:=h' }) :
  wpAny (model prog w) A (pyNext (.ref z)) Q E s:=by
 have ty:s.TypeIs (.ref z) "zip":=⟨_,hz,rfl⟩;unfold pyNext;exact wpAny_bind (wpAny_attempt (wpAny_callSpecial?_slot (name:=Str.ofString "__next__") ty F.slot_zip_next (wpAny_call_entry F.slot_zip_next ty F.entry_zip_next (uv S T D hz hTI hTO hi hj hx hy λ h' c1 c2 c3 c4 c5 c6 c7=>wpAny_pure (hQ h' c1 c2 c3 c4 c5 c6 c7)) (F.args_zip_next_1 _))))
theorem lh(hh:A.handled=none)(S:Src prog w i f ti vi)(T:Src prog w j g tj vj)(D:jQ z TI TO i j f g){Q:Option Value->Shared->Prop}
  (hz:IsZip s.heap z TI TO .none) (hTI:IsPair s.heap TI (.ref i) (.ref j)) (hTO:IsPair s.heap TO a b) (hi:ti k s.heap) (hj:tj m s.heap) (hxy:vi k=none\/vj m=none)
  (hQ:∀ h',(∀ c o,c ∉ [z,TO,i,j]->s.heap.get? c=some o->h'.get? c=some o)->Q none { s with heap:=h' }):wpAny (model prog w) A (pyNext (.ref z)) Q E s:=by
 have ty:s.TypeIs (.ref z) "zip":=⟨_,hz,rfl⟩;unfold pyNext;refine wpAny_bind (wpAny_attempt (wpAny_callSpecial?_slot (name:=Str.ofString "__next__") ty F.slot_zip_next (wpAny_call_entry F.slot_zip_next ty F.entry_zip_next (wW (show A.in1.handled=none from hh) S T D hz hTI hTO hi hj hxy λ h' e kp he=>?_) (F.args_zip_next_1 _))));obtain⟨o,ho,hc⟩:=he;exact wpAny_bind (wpAny_isInstance (T := "StopIteration") (b:=true) ⟨o,ho,hc⟩ isSubtype_stop (wpAny_pure (hQ _ kp)))
end
def SeqAt(h:Heap)(k:Bool)(l:Addr)(xs:Array Value):Prop:=match k with
 | true=>h.IsTuple l xs
 | false=>h.IsList l xs
def cz(h:Heap)(k:Bool)(it l:Addr)(n:Nat):Prop:=match k with
 | true=>h.IsTupleIter it l n
 | false=>h.IsListIter it l n
def wR(k:Bool)(l:Addr):Obj:=match k with
 | true=>{ cls:=.type "tuple_iterator",data:=.fields #[.ref l,.int 0 0] }
 | false=>{ cls:=.type "list_iterator",data:=.fields #[.ref l,.int 0 0] }
theorem SeqAt.at{h h':Heap}{k:Bool}{l:Addr}{xs:Array Value}(q:SeqAt h k l xs)(e:∀ o,h.get? l=some o->h'.get? l=some o):SeqAt h' k l xs:=by
 cases k
 ·exact Heap.IsList.at q e
 ·exact Heap.IsTuple.at q e
theorem cz.at{h h':Heap}{k:Bool}{it l:Addr}{n:Nat}(q:cz h k it l n)(e:∀ o,h.get? it=some o->h'.get? it=some o):cz h' k it l n:=by
 cases k
 ·exact Heap.IsListIter.at q e
 ·exact Heap.IsTupleIter.at q e
theorem cz.obj{h:Heap}{k:Bool}{it l:Addr}{n:Nat}(q:cz h k it l n):∃ o fs,h.get? it=some o/\o.data=.fields fs:=by
 cases k
 ·obtain⟨o,e,_,d⟩:=(show h.IsListIter it l n from q);exact⟨o,_,e,d⟩
 ·obtain⟨o,e,_,d⟩:=(show h.IsTupleIter it l n from q);exact⟨o,_,e,d⟩
theorem pL{prog:Program}{w:World}(k:Bool)(it l:Addr)(hne:l ≠ it)(xs:Array Value):Src prog w it [it,l] (λ n h=>cz h k it l n/\SeqAt h k l xs) (λ n=>xs[n]?):=by
 cases k
 ·exact w5 it l hne xs
 ·exact AA it l hne xs
section
variable {prog:Program}{w:World}{A:Around}{E:Value->Shared->Prop}{s:Shared}
theorem t5{k:Bool}{l:Addr}{xs:Array Value}{Q:Value->Shared->Prop}(h:SeqAt s.heap k l xs)(hQ:Q (.ref s.heap.objs.size) { s with heap:=s.heap.push (wR k l) }):wpAny (model prog w) A (pyIter (.ref l)) Q E s:=by
 cases k
 ·exact KD h hQ
 ·exact wpAny_pyIter_tuple h hQ
abbrev zq1(ka:Bool)(a:Addr)(h:Heap):Heap:=h.push (wR ka a)
abbrev zq2(ka kb:Bool)(a b:Addr)(h:Heap):Heap:=(zq1 ka a h).push (wR kb b)
abbrev zq3(ka kb:Bool)(a b:Addr)(h:Heap):Heap:=(zq2 ka kb a b h).push { cls:=.type "tuple",data:=.seq #[.ref h.objs.size,.ref (zq1 ka a h).objs.size] }
abbrev zq4(ka kb:Bool)(a b:Addr)(h:Heap):Heap:=(zq3 ka kb a b h).push { cls:=.type "tuple",data:=.seq #[.none,.none] }
abbrev zq5(ka kb:Bool)(a b:Addr)(h:Heap):Heap:=(zq4 ka kb a b h).push { cls:=.type "zip",data:=.fields #[.none,.bool false,.bool false,.ref (zq2 ka kb a b h).objs.size,.ref (zq3 ka kb a b h).objs.size] }
theorem ur(ka kb:Bool)(a b:Addr)(xs ys:Array Value):Meets (Builtin.«zip.__new__» ⟨[.type "zip",.ref a,.ref b],[]⟩) (λ _ R s=>SeqAt s.heap ka a xs/\SeqAt s.heap kb b ys/\R (.ok (.ret (.ref (zq4 ka kb a b s.heap).objs.size))) { s with heap:=zq5 ka kb a b s.heap }):=
 .of_wp λ prog w A R s h=>by
  obtain⟨hp,g,d,tk,os⟩:=s;obtain⟨h1,h2,h⟩:=h;have hsub:=sub_zip;have q1:SeqAt (Shared.heap ⟨hp,g,d,tk,os⟩) ka a xs:=h1;have q2:SeqAt (Shared.heap ⟨hp.push (wR ka a),g,d,tk,os⟩) kb b ys:=h2.at λ o e=>IW _ e
  wp_walk using t5 q1,t5 q2
  exact⟨_,rfl,h⟩
theorem Ct{ka kb:Bool}{a b:Addr}{xs ys:Array Value}{Q:Value->Shared->Prop}(h1:SeqAt s.heap ka a xs)(h2:SeqAt s.heap kb b ys)
  (h:∀ h' n,n=s.heap.objs.size->IsZip h' (n+4) (n+2) (n+3) .none->IsPair h' (n+2) (.ref n) (.ref (n+1))->IsPair h' (n+3) .none .none->cz h' ka n a 0->cz h' kb (n+1) b 0->h'.objs.size=n+5->(∀ c o,s.heap.get? c=some o->h'.get? c=some o)->Q (.ref (n+4)) { s with heap:=h' }) :
  wpAny (model prog w) A (call (.type "zip") [.ref a,.ref b]) Q E s:=by
 refine callType_new F.called_zip (by decide) (F.typeCall_zip_2 _ _) (F.newCall_zip_2 _ _) (λ ob=>F.args_object_init_3 ob _ _) F.entry_zip_new (ur ka kb a b xs ys) ⟨h1,h2,?_⟩;have n1:(zq1 ka a s.heap).objs.size=s.heap.objs.size+1:=Jx ..;have n2:(zq2 ka kb a b s.heap).objs.size=s.heap.objs.size+2:=by rw [Jx,n1]
 have n3:(zq3 ka kb a b s.heap).objs.size=s.heap.objs.size+3:=by rw [Jx,n2]
 have n4:(zq4 ka kb a b s.heap).objs.size=s.heap.objs.size+4:=by rw [Jx,n3]
 have n5:(zq5 ka kb a b s.heap).objs.size=s.heap.objs.size+5:=by rw [Jx,n4]
 have f1:cz (zq1 ka a s.heap) ka s.heap.objs.size a 0:=by
  cases ka<;>exact⟨_,Jf _ rfl,rfl,rfl⟩
 have f2:cz (zq2 ka kb a b s.heap) kb (zq1 ka a s.heap).objs.size b 0:=by
  cases kb<;>exact⟨_,Jf _ rfl,rfl,rfl⟩
 have u2:∀ c o,(zq2 ka kb a b s.heap).get? c=some o->(zq5 ka kb a b s.heap).get? c=some o:=λ c o e=>IW _ (IW _ (IW _ e));have g5:(zq5 ka kb a b s.heap).get? (zq4 ka kb a b s.heap).objs.size=some _:=Jf _ rfl;have g4:(zq5 ka kb a b s.heap).get? (zq3 ka kb a b s.heap).objs.size=some _:=IW _ (Jf _ rfl);have g3:(zq5 ka kb a b s.heap).get? (zq2 ka kb a b s.heap).objs.size=some _:=IW _ (IW _ (Jf _ rfl));have e1:cz (zq5 ka kb a b s.heap) ka s.heap.objs.size a 0:=f1.at λ o e=>u2 _ o (IW _ e);have e2:cz (zq5 ka kb a b s.heap) kb (zq1 ka a s.heap).objs.size b 0:=f2.at λ o e=>u2 _ o e
 show _/\_
 rw [n2,n3,n4] at g5;rw [n1,n2] at g3;rw [n3] at g4;rw [n1] at e2;rw [n4];exact⟨⟨_,g5,rfl⟩,h _ _ rfl g5 g3 g4 e1 e2 n5 λ c o e=>u2 c o (IW _ (IW _ e))⟩
end
section
variable {X:Cx}{pins:List (Addr × Obj)}{σ:List (Option V)}{H:Hp}{s:Shared}{h':Heap}
theorem Inv.turnNew{t':Nat}{ch:List Addr}{n:Addr}{o:HO}(I:Inv X pins σ H s)(hch:∀ b∈ch,oi X pins H b)(k:∀ b ob,b ∉ ch->s.heap.get? b=some ob->h'.get? b=some ob)(hn:s.heap.objs.size<=n)(new:bO X.prog X.w (upd H n o) h' n o) :
  Inv X pins σ (upd H n o) { s with heap:=h',toks:=t' }:=by
 have fn:=I.hok.fresh hn;have up:∀ {b u},H b=some u->upd H n o b=some u:=λ {b u} e=>by rw [ai (aT e fn)];exact e
 have nch:∀ {b u},H b=some u->b ∉ ch:=λ {b u} e z=>by rw [(hch b z).1] at e;cases e
 refine I.step (g':=s.gens) (d':=s.drawn) (ch:=ch) (λ b hb=>⟨(hch b hb).2.2.2.1,(hch b hb).2.1,(hch b hb).2.2.2.2.1,(hch b hb).2.2.2.2.2⟩) (λ b ob _ _ hc e _=>k b ob hc e) (λ b ob _ _ hc e _=>⟨ob.slots,k b ob hc e⟩)
  (λ b ob _ e q=>?_) (λ b ob hc e=>⟨ob,k b ob hc e⟩) (λ _ _ e=>up e) (λ _ _ _ e=>up e) (λ b ps e=>⟨#[],by rw [up e];simp⟩) (λ m hm=>?_) (λ b u e=>?_) I.bare
 ·rw [ai (Jj (Jc (IZ e) hn))];exact q
 ·obtain⟨ol,es,ep,ho,r⟩:=hm;exact⟨ol,es,ep,k _ ol (λ z=>(hch _ z).2.1 rfl) ho,r⟩
 ·by_cases hb:b=n
  ·subst hb;rw [ag] at e;cases e;exact new
  ·rw [ai hb] at e;refine(I.hok b u e).stay (λ c v hc q=>k c v ?_ q) (λ c q=>up q) λ c xs q=>up q
   rcases hc with rfl|hc
   ·exact nch e
   ·exact nch hc
theorem Inv.turnL{t':Nat}{ch:List Addr}(I:Inv X pins σ H s)(hch:∀ b∈ch,oi X pins H b)(k:∀ b ob,b ∉ ch->s.heap.get? b=some ob->h'.get? b=some ob):Inv X pins σ H { s with heap:=h',toks:=t' }:=by
 have nch:∀ {b u},H b=some u->b ∉ ch:=λ {b u} e z=>by rw [(hch b z).1] at e;cases e
 refine I.step (g':=s.gens) (d':=s.drawn) (ch:=ch) (λ b hb=>⟨(hch b hb).2.2.2.1,(hch b hb).2.1,(hch b hb).2.2.2.2.1,(hch b hb).2.2.2.2.2⟩) (λ b ob _ _ hc e _=>k b ob hc e) (λ b ob _ _ hc e _=>⟨ob.slots,k b ob hc e⟩)
  (λ _ _ _ _ q=>q) (λ b ob hc e=>⟨ob,k b ob hc e⟩) (λ _ _ e=>e) (λ _ _ _ e=>e) (λ b ps e=>⟨#[],by rw [e];simp⟩) (λ m hm=>?_) (λ b u e=>?_) I.bare
 ·obtain⟨ol,es,ep,ho,r⟩:=hm;exact⟨ol,es,ep,k _ ol (λ z=>(hch _ z).2.1 rfl) ho,r⟩
 ·refine(I.hok b u e).stay (λ c v hc q=>k c v ?_ q) (λ _ q=>q) λ _ _ q=>q
  rcases hc with rfl|hc
  ·exact nch e
  ·exact nch hc
end
def SqK(k:Bool)(H:Hp)(a:Addr)(xs:List V):Prop:=match k with
 | true=>H a=some (.tup xs)
 | false=>H a=some (.lst xs)
theorem SqK.ne{k:Bool}{H:Hp}{a b:Addr}{xs:List V}(h:SqK k H a xs)(e:H b=none):a ≠ b:=λ z=>by
 subst z;cases k
 ·rw [show H a=some (.lst xs) from h] at e;cases e
 ·rw [show H a=some (.tup xs) from h] at e;cases e
theorem Inv.sq{X:Cx}{pins:List (Addr × Obj)}{σ:St}{H:Hp}{s:Shared}{k:Bool}{a:Addr}{xs:List V}(I:Inv X pins σ H s)(h:SqK k H a xs):∃ its:List Value,bq xs its/\SeqAt s.heap k a its.toArray:=by
 cases k
 ·obtain⟨its,r,p,_⟩:=I.list (SqL.of h);exact⟨its,r,p.isList⟩
 ·obtain⟨its,r,p,_⟩:=I.tuple (SqT.of h);exact⟨its,r,p⟩
def Itz(ka kb:Bool)(a b:Addr)(xs ys:List V):It:=
 ⟨λ i H=>SqK ka H a xs/\SqK kb H b ys/\i < xs.length/\i < ys.length,λ i H x H'=>∃ p u v,H p=none/\x=.ref p/\xs[i]? = some u/\ys[i]? = some v/\H'=upd H p (.tup [u,v]),λ i H=>SqK ka H a xs/\SqK kb H b ys/\(xs.length<=i\/ys.length<=i)⟩
def Tnz(ka kb:Bool)(a b z TI TO p q:Addr)(i:Nat)(h:Heap):Prop:=IsZip h z TI TO .none/\IsPair h TI (.ref p) (.ref q)/\(∃ u v,IsPair h TO u v)/\cz h ka p a i/\cz h kb q b i
theorem wZ{P:Program}{w:World}{K:W.Frag}{elts:List Expr}{x1}{tp:Pos}(ka kb:Bool)(a b z TI TO p q:Addr)(xs ys:List V)(nd:[z,TI,TO,p,q].Nodup):zE P w K (.Tuple elts x1 tp) (Itz ka kb a b xs ys) [z,TI,TO,p,q] z (Tnz ka kb a b z TI TO p q) where
 mem:=Jq
 obj:=λ i h st c hc=>by
  obtain⟨e1,e2,⟨u,v,e3⟩,e4,e5⟩:=st;simp only [Js,Jo,JW] at hc
  rcases hc with rfl|rfl|rfl|rfl|rfl
  ·exact⟨_,e1,λ v z=>by cases z⟩
  ·exact⟨_,e2,λ v z=>by cases z⟩
  ·exact⟨_,e3,λ v z=>by cases z⟩
  ·obtain⟨o,fs,e,d⟩:=e4.obj;exact⟨o,e,λ v z=>by rw [d] at z;cases z⟩
  ·obtain⟨o,fs,e,d⟩:=e5.obj;exact⟨o,e,λ v z=>by rw [d] at z;cases z⟩
 keep:=λ i h h' st k=>by
  obtain⟨e1,e2,⟨u,v,e3⟩,e4,e5⟩:=st;exact⟨k z (by simp) _ e1,k TI (by simp) _ e2,⟨u,v,k TO (by simp) _ e3⟩,e4.at λ o e=>k p (by simp) o e,e5.at λ o e=>k q (by simp) o e⟩
 item:=by
  intro X hP hw hK hc i pins s σ H E I hf st hg;subst hP hw hK;obtain⟨e1,e2,⟨u0,v0,e3⟩,e4,e5⟩:=st;obtain⟨ha,hb,l1,l2⟩:=hg;obtain⟨as,ra,sa⟩:=I.sq ha;obtain⟨bs,rb,sb⟩:=I.sq hb;have hx:xs[i]? = some xs[i]:=IX l1;have hy:ys[i]? = some ys[i]:=IX l2;obtain⟨u,hu,ru⟩:=ra.get hx;obtain⟨v,hv,rv⟩:=rb.get hy;have free:∀ c∈[z,TI,TO,p,q],H c=none:=λ c h=>(hf c h).1;have naz:∀ c∈[z,TI,TO,p,q],a ≠ c:=λ c h=>ha.ne (free c h);have nbz:∀ c∈[z,TI,TO,p,q],b ≠ c:=λ c h=>hb.ne (free c h);simp only [Kr,Js,Jo,JW,not_or,not_false_eq_true,and_true,List.nodup_nil] at nd;obtain⟨⟨z1,z2,z3,z4⟩,⟨t1,t2,t3⟩,⟨w1,w2⟩,y1⟩:=nd;have S:=pL (prog:=X.prog) (w:=X.w) ka p a (naz p (by simp)) as.toArray;have T:=pL (prog:=X.prog) (w:=X.w) kb q b (nbz q (by simp)) bs.toArray;have D:jQ z TI TO p q [p,a] [q,b]:=⟨⟨Jv z1,t1,t2,t3⟩,z2,by simp [z3,Jv (naz z (by simp))],by simp [z4,Jv (nbz z (by simp))],by simp [w1,Jv (naz TO (by simp))],by simp [w2,Jv (nbz TO (by simp))],by simp [y1,Jv (nbz p (by simp))],by simp [Jv y1,Jv (naz q (by simp))]⟩;refine jw S T D e1 e2 e3 ⟨e4,sa⟩ ⟨e5,sb⟩ (x:=u) (y:=v) (by simpa using hu) (by simpa using hv) λ h1 c1 c2 c3 c4 c5 c6 c7=>?_;refine⟨_,rfl,wpAny_letOwnedTupleGo_zip (s:={ s with heap:=h1 }) c1 λ h2 d1 d2=>?_⟩;have lt:z < s.heap.objs.size:=IZ e1;have kp:∀ c o,c ∉ [z,TO,p,q]->s.heap.get? c=some o->h2.get? c=some o:=λ c o hc e=>d2.extBut _ _ (λ q=>hc (by simp [q])) (c7 c o hc e);have hn:h2.get? s.heap.objs.size=some { cls:=.type "tuple",data:=.seq #[u,v] }:=d2.extBut _ _ (Kn lt) c5;have I2:Inv X pins σ (upd H s.heap.objs.size (.tup [xs[i],ys[i]])) { s with heap:=h2 }:=I.turnNew (t':=s.toks) (ch:=[z,TO,p,q]) (λ c hc=>hf c (by simp only [Js,Jo,JW] at hc ⊢;rcases hc with h|h|h|h<;>simp [h])) kp (Je _) ⟨(show 2<=sizeLine by decide),[u,v],.cons ru (.cons rv .nil),⟨_,hn,rfl,_,rfl⟩⟩;have fr:H s.heap.objs.size=none:=I.hok.fresh (Je _);refine⟨.ref s.heap.objs.size,_,I2,rfl,⟨_,_,_,fr,rfl,hx,hy,rfl⟩,⟨d1,d2.extBut _ _ (Jv z1) (c7 TI _ (by simp [Jv z1,t1,t2,t3]) e2),⟨u,v,d2.extBut _ _ (Jv z2) c2⟩,c3.1.at λ o e=>d2.extBut _ _ (Jv z3) e,c4.1.at λ o e=>d2.extBut _ _ (Jv z4) e⟩,λ c hc=>?_⟩
  obtain⟨o,ho,_⟩:∃ o,s.heap.get? c=some o/\True:=by
   simp only [Js,Jo,JW] at hc
   rcases hc with rfl|rfl|rfl|rfl|rfl
   ·exact⟨_,e1,trivial⟩
   ·exact⟨_,e2,trivial⟩
   ·exact⟨_,e3,trivial⟩
   ·obtain⟨o,_,e,_⟩:=e4.obj;exact⟨o,e,trivial⟩
   ·obtain⟨o,_,e,_⟩:=e5.obj;exact⟨o,e,trivial⟩
  rw [ai (Jj (IZ ho))];exact free c hc
 done:=by
  intro X hP hw hK hc i pins s σ H E I hf st hg;subst hP hw hK;obtain⟨e1,e2,⟨u0,v0,e3⟩,e4,e5⟩:=st;obtain⟨ha,hb,l⟩:=hg;obtain⟨as,ra,sa⟩:=I.sq ha;obtain⟨bs,rb,sb⟩:=I.sq hb;have free:∀ c∈[z,TI,TO,p,q],H c=none:=λ c h=>(hf c h).1;have naz:∀ c∈[z,TI,TO,p,q],a ≠ c:=λ c h=>ha.ne (free c h);have nbz:∀ c∈[z,TI,TO,p,q],b ≠ c:=λ c h=>hb.ne (free c h);simp only [Kr,Js,Jo,JW,not_or,not_false_eq_true,and_true,List.nodup_nil] at nd;obtain⟨⟨z1,z2,z3,z4⟩,⟨t1,t2,t3⟩,⟨w1,w2⟩,y1⟩:=nd;have S:=pL (prog:=X.prog) (w:=X.w) ka p a (naz p (by simp)) as.toArray;have T:=pL (prog:=X.prog) (w:=X.w) kb q b (nbz q (by simp)) bs.toArray;have D:jQ z TI TO p q [p,a] [q,b]:=⟨⟨Jv z1,t1,t2,t3⟩,z2,by simp [z3,Jv (naz z (by simp))],by simp [z4,Jv (nbz z (by simp))],by simp [w1,Jv (naz TO (by simp))],by simp [w2,Jv (nbz TO (by simp))],by simp [y1,Jv (nbz p (by simp))],by simp [Jv y1,Jv (naz q (by simp))]⟩;have la:=ra.length;have lb:=rb.length;refine lh (I.ok.hd hc) S T D e1 e2 e3 ⟨e4,sa⟩ ⟨e5,sb⟩ (l.imp (λ h=>by simp;omega) λ h=>by simp;omega) λ h1 kp=>⟨rfl,I.turnL (t':=s.toks) (ch:=[z,TO,p,q]) (λ c hc=>hf c (by simp only [Js,Jo,JW] at hc ⊢;rcases hc with h|h|h|h<;>simp [h])) kp⟩
 self:=λ _ _ _ _ _ st h=>wpAny_pyIter_zip st.1 h
def kZ2(ka:Bool)(a b:Addr)(xs:List V)(H:Hp)(R:It->Hp->Prop):HO->Prop:=λ o=>match o with
 | .lst ys=>R (Itz ka false a b xs ys) H
 | .tup ys=>R (Itz ka true a b xs ys) H
 | _=>False
theorem By(ka:Bool)(a b:Addr)(xs ys:List V)(H:Hp)(R:It->Hp->Prop):kZ2 ka a b xs H R (.lst ys)=R (Itz ka false a b xs ys) H:=rfl
def kZ1(a b:Addr)(H:Hp)(R:It->Hp->Prop):HO->Prop:=λ o=>match o with
 | .lst xs=>aP (H b) (kZ2 false a b xs H R)
 | .tup xs=>aP (H b) (kZ2 true a b xs H R)
 | _=>False
theorem Bz(a b:Addr)(xs:List V)(H:Hp)(R:It->Hp->Prop):kZ1 a b H R (.lst xs)=aP (H b) (kZ2 false a b xs H R):=rfl
def kZ0(R:It->Hp->Prop):List V->Hp->Prop:=λ vs H=>match vs with
 | [.ref a,.ref b]=>aP (H a) (kZ1 a b H R)
 | _=>False
theorem GV(R:It->Hp->Prop)(a b:Addr)(H:Hp):kZ0 R [.ref a,.ref b] H=aP (H a) (kZ1 a b H R):=rfl
def Ii(ta:TA):TI:=λ σ H R=>ta σ H (kZ0 R)
theorem EW(ta:TA)(σ:St)(H:Hp)(R:It->Hp->Prop):Ii ta σ H R=ta σ H (kZ0 R):=rfl
theorem E7{R:It->Hp->Prop}{vs:List V}{H:Hp}(h:kZ0 R vs H):∃ a b ka kb xs ys,vs=[.ref a,.ref b]/\SqK ka H a xs/\SqK kb H b ys/\R (Itz ka kb a b xs ys) H:=by
 unfold kZ0 at h;split at h
 ·rename_i a b;obtain⟨o,e,h⟩:=ao h;unfold kZ1 at h;split at h
  ·rename_i xs;obtain⟨o',e',h⟩:=ao h;unfold kZ2 at h;split at h
   ·exact⟨a,b,false,false,xs,_,rfl,e,e',h⟩
   ·exact⟨a,b,false,true,xs,_,rfl,e,e',h⟩
   ·exact h.elim
  ·rename_i xs;obtain⟨o',e',h⟩:=ao h;unfold kZ2 at h;split at h
   ·exact⟨a,b,true,false,xs,_,rfl,e,e',h⟩
   ·exact⟨a,b,true,true,xs,_,rfl,e,e',h⟩
   ·exact h.elim
  ·exact h.elim
 ·exact h.elim
section
variable {X:Cx}
theorem DK{a b:Expr}{elts:List Expr}{x1}{tp:Pos}{ta:TA}{p pos:Pos}(hg:Gl X "zip")(hm:X.mg "zip"=none)(ha:PA X [a,b] ta)(hs:starEach [a,b] X.env=[(false,eval a X.env),(false,eval b X.env)]:=by rfl)(hs2:starEach [b] X.env=[(false,eval b X.env)]:=by rfl) :
  PI X (.Tuple elts x1 tp) (.Call (.Name "zip" p) [a,b] [] pos) (Ii ta):=by
 intro pins s σ H R I h;refine Call_ (jN I hg hm (show bootBuiltins "zip"=some (.type "zip") by decide +kernel) (KI (thn (ha pos pins s σ H _ I h) λ us s1 ⟨vs,H1,I1,r1,q1⟩=>?_) (by rw [hs,hs2]) (by rw [hs2];rfl)));obtain⟨a,b,ka,kb,xs,ys,rfl,sa,sb,q⟩:=E7 q1
 cases r1 with
 | cons r rr=>
  cases rr with
  | cons r' rr=>
   cases rr;cases r;cases r';obtain⟨as,ra,s1a⟩:=I1.sq sa;obtain⟨bs,rb,s1b⟩:=I1.sq sb;refine Ct s1a s1b λ h' n hn e1 e2 e3 e4 e5 e6 e7=>?_;have I2:Inv X pins σ H1 { s1 with heap:=h' }:=I1.kept (t':=s1.toks) e7;refine wpAny_pyIter_zip (s:={ s1 with heap:=h' }) e1 ⟨n+4,[n+4,n+2,n+3,n,n+1],_,_,H1,rfl,I2,wZ ka kb a b (n+4) (n+2) (n+3) n (n+1) xs ys (by simp),⟨e1,e2,⟨_,_,e3⟩,e4,e5⟩,λ c hc=>?_,q⟩
   have hle:s1.heap.objs.size<=c:=by
    rw [←hn];simp only [Js,Jo,JW] at hc
    rcases hc with rfl|rfl|rfl|rfl|rfl
    ·exact K0 ..
    ·exact K0 ..
    ·exact K0 ..
    ·exact Je _
    ·exact K0 ..
   exact I1.fpOk hle (I1.hok.fresh hle)
end
def Fu(te:TE)(σ2:St)(N1:VK)(N0:Hp->Prop):Bool->Hp->Prop:=λ b H=>if b=true then te σ2 H N1 else N0 H
theorem cx(te:TE)(σ2:St)(N1:VK)(N0:Hp->Prop)(b:Bool)(H:Hp):Fu te σ2 N1 N0 b H=(if b=true then te σ2 H N1 else N0 H):=rfl
def kCm(k:Nat)(tt:TT)(te:TE)(σ:St)(N1:VK)(N0:Hp->Prop):St->Hp->Prop:=λ σ2 H=>(∃ vs:St,vs.length=k/\σ2=vs++σ)/\tt σ2 H (Fu te σ2 N1 N0)
theorem dm(tt:TT)(te:TE)(σ:St)(N1:VK)(N0:Hp->Prop)(a:Option V)(H:Hp):kCm 1 tt te σ N1 N0 (a::σ) H=tt (a::σ) H (Fu te (a::σ) N1 N0):=propext ⟨λ h=>h.2,λ h=>⟨⟨[a],rfl,rfl⟩,h⟩⟩
theorem gu(tt:TT)(te:TE)(σ:St)(N1:VK)(N0:Hp->Prop)(a b:Option V)(H:Hp):kCm 2 tt te σ N1 N0 (a::b::σ) H=tt (a::b::σ) H (Fu te (a::b::σ) N1 N0):=propext ⟨λ h=>h.2,λ h=>⟨⟨[a,b],rfl,rfl⟩,h⟩⟩
theorem Bl(σ:St):List.replicate 1 (none:Option V)++σ=none::σ:=rfl
theorem Bk(σ:St):List.replicate 2 (none:Option V)++σ=none::none::σ:=rfl
def Al{α:Type}(R:α->V->Prop)(zs:List α)(ys:List V):Prop:=ys.length=zs.length/\∀ (i:Nat) z y,zs[i]? = some z->ys[i]? = some y->R z y
theorem Al.nil{α:Type}{R:α->V->Prop}:Al R [] []:=⟨rfl,λ i z y h=>by simp at h⟩
theorem Al.snoc{α:Type}{R:α->V->Prop}{zs:List α}{ys:List V}{z:α}{y:V}(h:Al R zs ys)(r:R z y):Al R (zs++[z]) (ys++[y]):=by
 refine⟨by simp [h.1],λ i z' y' h1 h2=>?_⟩
 by_cases hi:i < zs.length
 ·rw [JS hi] at h1;rw [JS (by rw [h.1];exact hi)] at h2;exact h.2 i z' y' h1 h2
 ·rw [JF (by omega)] at h1;rw [JF (by rw [h.1];omega),h.1] at h2
  by_cases h0:i - zs.length=0
  ·rw [h0] at h1 h2;simp at h1 h2;subst h1;subst h2;exact r
  ·rw [J1 (by simp;omega)] at h1;cases h1
theorem Al.imp{α:Type}{R S:α->V->Prop}{zs:List α}{ys:List V}(h:Al R zs ys)(f:∀ z y,R z y->S z y):Al S zs ys:=⟨h.1,λ i z y a b=>f z y (h.2 i z y a b)⟩
theorem Al.map{α:Type}{f:α->V}{zs:List α}{ys:List V}(h:Al (λ z y=>y=f z) zs ys):ys=zs.map f:=by
 apply List.ext_getElem?;intro i;rw [Jl]
 by_cases hi:i < zs.length
 ·have e1:zs[i]? = some zs[i]:=IX hi;have e2:ys[i]? = some (ys[i]'(by rw [h.1];exact hi)):=IX _;rw [e1,e2,h.2 i _ _ e1 e2];rfl
 ·have:=h.1;rw [J1 (show ys.length<=i by omega),J1 (show zs.length<=i by omega)];rfl
section
variable {k:Nat}{g:TG}{tt:TT}{te:TE}{σ:St}{Q:VK}{H:Hp}{K:PySem.W.Frag}
theorem qd{α:Type}{J:It}(zs:List α)(c:α->Bool)(P:α->V->Hp->Prop)(R:Addr->α->V->Hp->Prop)
  (hgo:∀ i z H',zs[i]? = some z->Ext H H'->J.go i H'/\∀ x H'',J.yld i H' x H''->Ext H' H''/\P z x H'')
  (hst:∀ H',Ext H H'->J.stop zs.length H')
  (hR1:∀ D z y H1 H2,R D z y H1->Ext H1 H2->R D z y H2) (hR2:∀ D z y H1 o,R D z y H1->R D z y (upd H1 D o))
  (hl:zs.length<=sizeLine)
  (hs:∀ D z x H' N1 N0,z∈zs->H D=none->Ext H H'->(∃ ys,H' D=some (.lst ys))->P z x H'->(c z=true->∀ y H'',Ext H' H''->R D z y H''->N1 y H'')->(c z=false->∀ H'',Ext H' H''->N0 H'')->g x (List.replicate k none++σ) H' (kCm k tt te σ N1 N0))
  (hd:∀ D ys H',H D=none->Ext H H'->H' D=some (.lst ys)->Al (λ z y=>R D z y H') (zs.filter c) ys->Q (.ref D) H'):wM k g tt te σ Q J H:=by
 intro D hD;refine⟨λ i m ys H'=>m=zs.length - i/\i<=zs.length/\Ext H H'/\H' D=some (.lst ys)/\Al (λ z y=>R D z y H') ((zs.take i).filter c) ys,⟨zs.length,by simp,JH _,Ext.new hD,ag,by simpa using Al.nil⟩,?_⟩;rintro i m ys H' ⟨rfl,hi,e,hD',al⟩
 by_cases hlt:i < zs.length
 ·have hz:zs[i]? = some zs[i]:=IX hlt;obtain⟨go,y⟩:=hgo i zs[i] H' hz e;have tk:zs.take (i+1)=zs.take i++[zs[i]]:=by rw [Lj,hz];rfl
  have ln:ys.length < sizeLine:=by
   have h1:=al.1;have h2:=List.length_filter_le c (zs.take i);simp only [Ks] at h2;omega
  refine .inr ⟨go,λ ys' H2=>Ext H H2/\H2 D=some (.lst ys')/\Al (λ z y=>R D z y H2) ((zs.take (i+1)).filter c) ys',λ ys' H2 p=>⟨zs.length - (i+1),by omega,rfl,hlt,p⟩,λ x H2 z=>?_⟩;obtain⟨e2,p2⟩:=y x H2 z;refine hs D zs[i] x H2 (kC3 D ys _) _ (KA hlt) hD (e.trans e2) ⟨ys,e2.at hD'⟩ p2 (λ hc y H3 e3 r3=>?_) λ hc H3 e3=>?_
  ·refine⟨e3.at (e2.at hD'),ln,(e.trans (e2.trans e3)).put hD,ag,?_⟩;rw [tk,KP,show [zs[i]].filter c=[zs[i]] by simp [hc]];exact Al.snoc (al.imp λ z y r=>hR2 _ _ _ _ _ (hR1 _ _ _ _ _ r (e2.trans e3))) (hR2 _ _ _ _ _ r3)
  ·refine⟨e.trans (e2.trans e3),(e2.trans e3).at hD',?_⟩;rw [tk,KP,show [zs[i]].filter c=[] by simp [hc],KR];exact al.imp λ z y r=>hR1 _ _ _ _ _ r (e2.trans e3)
 ·have e':i=zs.length:=by omega
  subst e';rw [JB] at al;exact .inl ⟨hst H' e,hd D ys H' hD e hD' al⟩
theorem cc{α:Type}{J:It}(zs:List α)(c:α->Bool)(f:α->V)(P:α->V->Hp->Prop)
  (hgo:∀ i z H',zs[i]? = some z->Ext H H'->J.go i H'/\∀ x H'',J.yld i H' x H''->Ext H' H''/\P z x H'')
  (hst:∀ H',Ext H H'->J.stop zs.length H') (hl:zs.length<=sizeLine)
  (hs:∀ D z x H' N1 N0,z∈zs->H D=none->Ext H H'->P z x H'->(c z=true->∀ H'',Ext H' H''->N1 (f z) H'')->(c z=false->∀ H'',Ext H' H''->N0 H'')->g x (List.replicate k none++σ) H' (kCm k tt te σ N1 N0))
  (hd:∀ D H',H D=none->Ext H H'->H' D=some (.lst ((zs.filter c).map f))->Q (.ref D) H'):wM k g tt te σ Q J H:=
 qd zs c P (λ _ z y _=>y=f z) hgo hst (λ _ _ _ _ _ r _=>r) (λ _ _ _ _ _ r=>r) hl (λ D z x H' N1 N0 hz hD e _ p k1 k0=>hs D z x H' N1 N0 hz hD e p (λ hc H'' e'=>k1 hc _ H'' e' rfl) k0) λ D ys H' hD e hD' al=>hd D H' hD e (by rw [←al.map];exact hD')
theorem jI{lo:Int}{n:Nat}:(∀ i z H',(List.range n)[i]? = some z->Ext H H'->(Itr lo n).go i H'/\∀ x H'',(Itr lo n).yld i H' x H''->Ext H' H''/\x=.int (lo+(z:Nat)))/\∀ H',Ext H H'->(Itr lo n).stop (List.range n).length H':=by
 refine⟨λ i z H' hz _=>?_,λ H' _=>by simp [Itr]⟩;obtain⟨h1,h2⟩:=Jb.mp hz;have e:i=z:=by simpa using h2
 subst e;exact⟨(show i < n by simpa using h1),λ x H'' y=>⟨by rw [y.1];exact Ext.refl _,y.2⟩⟩
theorem sC{a:Addr}{xs:List V}(h:H a=some (.lst xs)):(∀ i z H',xs[i]? = some z->Ext H H'->(Itl K a).go i H'/\∀ x H'',(Itl K a).yld i H' x H''->Ext H' H''/\(x=z/\H'' a=some (.lst xs)))/\∀ H',Ext H H'->(Itl K a).stop xs.length H':=
 ⟨λ i z H' hz e=>⟨⟨xs,z,SqL.of (e.at h),hz⟩,λ x H'' y=>⟨by rw [y.1];exact Ext.refl _,Jy ((y.2 xs (SqL.of (e.at h))).symm.trans hz),by rw [y.1];exact e.at h⟩⟩,λ H' e=>⟨xs,SqL.of (e.at h),Je _⟩⟩
theorem SqK.ext{kk:Bool}{H H':Hp}{a:Addr}{xs:List V}(h:SqK kk H a xs)(e:Ext H H'):SqK kk H' a xs:=by
 cases kk
 ·exact e.at (show H a=some (.lst xs) from h)
 ·exact e.at (show H a=some (.tup xs) from h)
def Iz(z:V × V)(x:V)(H:Hp):Prop:=∃ p,x=.ref p/\H p=some (.tup [z.1,z.2])
theorem Dw{ka kb:Bool}{a b:Addr}{xs ys:List V}(ha:SqK ka H a xs)(hb:SqK kb H b ys):(∀ i z H',(xs.zip ys)[i]? = some z->Ext H H'->(Itz ka kb a b xs ys).go i H'/\∀ x H'',(Itz ka kb a b xs ys).yld i H' x H''->Ext H' H''/\Iz z x H'')/\∀ H',Ext H H'->(Itz ka kb a b xs ys).stop (xs.zip ys).length H':=by
 refine⟨λ i z H' hz e=>?_,λ H' e=>⟨ha.ext e,hb.ext e,?_⟩⟩
 ·obtain⟨h1,h2⟩:=Jb.mp hz;rw [K5] at h1;refine⟨⟨ha.ext e,hb.ext e,by omega,by omega⟩,λ x H'' y=>?_⟩;obtain⟨p,u,v,hp,rfl,hu,hv,rfl⟩:=y;refine⟨Ext.new hp,p,rfl,?_⟩;rw [ag];rw [IX (by omega)] at hu hv;cases hu;cases hv;rw [←h2,List.getElem_zip]
 ·rw [K5];omega
theorem gw{tb:TS}{nx:St->Hp->Prop}{rt:VK}{bk ct:St->Hp->Prop}{ka kb:Bool}{a b:Addr}{xs ys:List V}(Pv:Nat->St->Hp->Prop)(h0:Pv 0 σ H)(hl:∀ i σ H,Pv i σ H->SqK ka H a xs/\SqK kb H b ys)
  (hs:∀ i u v p σ H H',xs[i]? = some u->ys[i]? = some v->Pv i σ H->H p=none->Ext H H'->H' p=some (.tup [u,v])->g (.ref p) σ H' (wQ tb ⟨Pv (i+1),rt,nx,Pv (i+1)⟩)) (hd:∀ σ H,Pv (min xs.length ys.length) σ H->nx σ H):Fs g tb ⟨nx,rt,bk,ct⟩ σ (Itz ka kb a b xs ys) H:=by
 refine⟨λ i m σ H=>m=min xs.length ys.length - i/\i<=min xs.length ys.length/\Pv i σ H,⟨min xs.length ys.length,by simp,JH _,h0⟩,?_⟩;rintro i m σ H ⟨rfl,hi,p⟩;obtain⟨qa,qb⟩:=hl i σ H p
 by_cases hlt:i < min xs.length ys.length
 ·refine .inr ⟨⟨qa,qb,by omega,by omega⟩,Pv (i+1),λ σ' H' p'=>⟨min xs.length ys.length - (i+1),by omega,rfl,hlt,p'⟩,λ x H' y=>?_⟩;obtain⟨r,u,v,hr,rfl,hu,hv,rfl⟩:=y;exact hs i u v r σ H _ hu hv p hr (Ext.new hr) ag
 ·have e:i=min xs.length ys.length:=by omega
  subst e;exact .inl ⟨⟨qa,qb,by omega⟩,hd σ H p⟩
end
def Ds(sc:Scope)(N:List Str)(scope:Scope)(N':List Str)(k:Nat):Bool:=
 scope.names.all (λ y=>!(y.2 == .cell)) && (scope.kind == .function) && scope.names.all (λ y=>!(y.2 == .local) || scope.names.lookup y.1 == some .local) && scope.names.all (λ y=>!(y.2 == .free) || sc.names.lookup y.1 == some .cell) && decide (N'.length=k+N.length) &&
  ((N'.drop k).zip N).all (λ p=>(!(scope.names.lookup p.1 == some .free) || decide (p.1=p.2)) && !(scope.names.lookup p.1 == some .local))
theorem bu{X:Cx}{scope:Scope}{N':List Str}{k:Nat}(sc:Scope)(N:List Str)(h1:X.env.scope=sc)(h2:X.N=N)(h:Ds sc N scope N' k=true):iE X scope N' k:=by
 unfold Ds at h;simp only [Bool.and_eq_true,decide_eq_true_eq] at h;obtain⟨⟨⟨⟨⟨a1,a2⟩,a3⟩,a4⟩,a5⟩,a6⟩:=h;rw [List.all_eq_true] at a1 a3 a4 a6
 have pr:∀ i x,N'[k+i]? = some x->∃ y,N[i]? = some y/\(x,y)∈(N'.drop k).zip N:=λ i x hx=>by
  have h0:=(Jb.mp hx).1;have hi:i < N.length:=by omega
  have e1:(N'.drop k)[i]? = some x:=by rw [List.getElem?_drop];exact hx
  have e2:N[i]? = some N[i]:=IX hi;refine⟨_,e2,Jm (i:=i) ?_⟩;rw [List.getElem?_zip_eq_some];exact⟨e1,e2⟩
 refine⟨λ y hy e=>?_,by simpa using a2,λ y hy e=>?_,λ y hy e=>?_,by rw [h2];exact a5,λ i x hx hf=>?_,λ i x hx hf=>?_⟩
 ·have:=a1 y hy;rw [e] at this;simp at this
 ·have:=a3 y hy;rw [e] at this;simpa using this
 ·have:=a4 y hy;rw [e] at this;rw [h1];simpa using this
 ·obtain⟨y,hy,hm⟩:=pr i x hx;have:=a6 _ hm;simp only [hf] at this;rw [h2,hy];simp at this;rw [this]
 ·obtain⟨y,hy,hm⟩:=pr i x hx;have:=a6 _ hm;simp [hf] at this
def Ag(H:Hp)(Q:VK):V->Prop:=λ v=>Q v H
theorem BM(H:Hp)(Q:VK)(v:V):Ag H Q v=Q v H:=rfl
def wL(K:W.Frag)(f:Str)(H:Hp)(Q:VK):HO->Prop:=λ o=>match o with
 | .ins C dx fs=>Cls K C/\aZ K C f/\aP (fs.lookup f) (Ag H Q)
 | _=>False
theorem BN(K:W.Frag)(f:Str)(H:Hp)(Q:VK)(C dx:Addr)(fs:List (Str × V)):wL K f H Q (.ins C dx fs)=(Cls K C/\aZ K C f/\aP (fs.lookup f) (Ag H Q)):=rfl
def CK(K:W.Frag)(f:Str)(Q:VK):VK:=λ x H=>match x with
 | .ref a=>aP (H a) (wL K f H Q)
 | _=>False
theorem EM(K:W.Frag)(f:Str)(Q:VK)(a:Addr)(H:Hp):CK K f Q (.ref a) H=aP (H a) (wL K f H Q):=rfl
def FO(K:W.Frag)(ta:TE)(f:Str):TE:=λ σ H Q=>ta σ H (CK K f Q)
theorem Ex(K:W.Frag)(ta:TE)(f:Str)(σ:St)(H:Hp)(Q:VK):FO K ta f σ H Q=ta σ H (CK K f Q):=rfl
theorem B5{K:W.Frag}{f:Str}{Q:VK}{x:V}{H:Hp}(h:CK K f Q x H):∃ a C dx fs v,x=.ref a/\H a=some (.ins C dx fs)/\Cls K C/\aZ K C f/\fs.lookup f=some v/\Q v H:=by
 unfold CK at h;split at h
 ·obtain⟨o,e,h⟩:=ao h;unfold wL at h;split at h
  ·obtain⟨c,n,h⟩:=h;obtain⟨v,l,q⟩:=ao h;exact⟨_,_,_,_,v,rfl,e,c,n,l,q⟩
  ·exact h.elim
 ·exact h.elim
section
variable {X:Cx}{e o value:Expr}{ta tv:TE}{f:Str}{pos pos':Pos}
theorem tL(he:PE X e ta)(hb:attributeBase e f X.env (eval e X.env)=eval e X.env):PE X (.Attribute e f pos) (FO X.K ta f):=by
 intro pins s σ H Q I h;refine ui hb (thn (he pins s σ H _ I h) λ u s1 ⟨x,H1,I1,rx,q1⟩=>?_);obtain⟨a,C,dx,fs,v,ex,ea,c,n,l,q⟩:=B5 q1;subst ex;obtain rfl:u=Value.ref a:=rx;exact rD I1 ea c n l λ u' s2 I2 ru=>⟨v,H1,I2,ru,q⟩
def wI(K:W.Frag)(f:Str)(y:V)(a:Addr)(σ:St)(nx:St->Hp->Prop)(H:Hp):HO->Prop:=λ o=>match o with
 | .ins C dx fs=>Cls K C/\aZ K C f/\fs.length < 1000/\nx σ (upd H a (.ins C dx (dZ f y fs)))
 | _=>False
theorem BB(K:W.Frag)(f:Str)(y:V)(a:Addr)(σ:St)(nx:St->Hp->Prop)(H:Hp)(C dx:Addr)(fs:List (Str × V)):wI K f y a σ nx H (.ins C dx fs)=(Cls K C/\aZ K C f/\fs.length < 1000/\nx σ (upd H a (.ins C dx (dZ f y fs)))):=rfl
def wJ(K:W.Frag)(f:Str)(y:V)(σ:St)(nx:St->Hp->Prop):VK:=λ x H=>match x with
 | .ref a=>aP (H a) (wI K f y a σ nx H)
 | _=>False
theorem BE(K:W.Frag)(f:Str)(y:V)(σ:St)(nx:St->Hp->Prop)(a:Addr)(H:Hp):wJ K f y σ nx (.ref a) H=aP (H a) (wI K f y a σ nx H):=rfl
def Ab(K:W.Frag)(f:Str)(ta:TE)(σ:St)(nx:St->Hp->Prop):VK:=λ y H=>ta σ H (wJ K f y σ nx)
theorem BF(K:W.Frag)(f:Str)(ta:TE)(σ:St)(nx:St->Hp->Prop)(y:V)(H:Hp):Ab K f ta σ nx y H=ta σ H (wJ K f y σ nx):=rfl
def Df(K:W.Frag)(ta tv:TE)(f:Str):TS:=λ D σ H=>tv σ H (Ab K f ta σ D.nx)
theorem Bq(K:W.Frag)(ta tv:TE)(f:Str)(nx:St->Hp->Prop)(rt:VK)(bk ct:St->Hp->Prop)(σ:St)(H:Hp):Df K ta tv f ⟨nx,rt,bk,ct⟩ σ H=tv σ H (Ab K f ta σ nx):=rfl
theorem xl(ha:PE X o ta)(hv:PE X value tv)(hs:swapsWith value (some (.Attribute o f pos')) pos.line X.env=pure false):PS X (.Assign [.Attribute o f pos'] value pos) (Df X.K ta tv f):=by
 intro pins s σ H D I h;refine plainObj_wpAny_Assign_Attribute (thn (hv pins s σ H _ I h) λ u s1 ⟨y,H1,I1,ry,q⟩=>thn (ha pins s1 σ H1 _ I1 q) λ ov s2 ⟨x,H2,I2,rx,q1⟩=>?_) hs;unfold wJ at q1;split at q1
 ·rename_i a;obtain rfl:ov=Value.ref a:=rx;obtain⟨ob,ea,q1⟩:=ao q1;unfold wI at q1;split at q1
  ·obtain⟨c,n,l,q2⟩:=q1;exact qH I2 ea c n l ry λ s3 I3=>⟨σ,_,I3,q2⟩
  ·exact q1.elim
 ·exact q1.elim
end
def mh(sp:Sp)(dvs:List V)(E:XK)(a:Addr)(Q:VK):List V->Hp->Prop:=λ vs H=>sp (.ref a::(vs++dvs)) H Q E
theorem qV(sp:Sp)(dvs:List V)(E:XK)(a:Addr)(Q:VK)(H:Hp):mh sp dvs E a Q [] H=sp (.ref a::dvs) H Q E:=rfl
theorem qU(sp:Sp)(dvs:List V)(E:XK)(a:Addr)(Q:VK)(x:V)(H:Hp):mh sp dvs E a Q [x] H=sp (.ref a::x::dvs) H Q E:=rfl
theorem qT(sp:Sp)(dvs:List V)(E:XK)(a:Addr)(Q:VK)(x y:V)(H:Hp):mh sp dvs E a Q [x,y] H=sp (.ref a::x::y::dvs) H Q E:=rfl
def pQ(C:Addr)(m:Str)(sp:Sp)(dvs:List V)(E:XK)(t:TA)(σ:St)(Q:VK)(a:Addr)(H:Hp):HO->Prop:=λ o=>match o with
 | .ins C' dx fs=>C'=C/\fs.lookup m=none/\t σ H (mh sp dvs E a Q)
 | _=>False
theorem xS(C:Addr)(m:Str)(sp:Sp)(dvs:List V)(E:XK)(t:TA)(σ:St)(Q:VK)(a:Addr)(H:Hp)(dx:Addr)(fs:List (Str × V)):pQ C m sp dvs E t σ Q a H (.ins C dx fs)=(fs.lookup m=none/\t σ H (mh sp dvs E a Q)):=propext ⟨λ h=>h.2,λ h=>⟨rfl,h⟩⟩
def sr(C:Addr)(m:Str)(sp:Sp)(dvs:List V)(E:XK)(t:TA)(σ:St)(Q:VK):VK:=λ x H=>match x with
 | .ref a=>aP (H a) (pQ C m sp dvs E t σ Q a H)
 | _=>False
theorem BJ(C:Addr)(m:Str)(sp:Sp)(dvs:List V)(E:XK)(t:TA)(σ:St)(Q:VK)(a:Addr)(H:Hp):sr C m sp dvs E t σ Q (.ref a) H=aP (H a) (pQ C m sp dvs E t σ Q a H):=rfl
def zT(C:Addr)(m:Str)(sp:Sp)(dvs:List V)(E:XK)(ta:TE)(t:TA):TE:=λ σ H Q=>ta σ H (sr C m sp dvs E t σ Q)
theorem Bs(C:Addr)(m:Str)(sp:Sp)(dvs:List V)(E:XK)(ta:TE)(t:TA)(σ:St)(H:Hp)(Q:VK):zT C m sp dvs E ta t σ H Q=ta σ H (sr C m sp dvs E t σ Q):=rfl
theorem p9{C:Addr}{m:Str}{sp:Sp}{dvs:List V}{E:XK}{t:TA}{σ:St}{Q:VK}{x:V}{H:Hp}(h:sr C m sp dvs E t σ Q x H):∃ a dx fs,x=.ref a/\H a=some (.ins C dx fs)/\fs.lookup m=none/\t σ H λ vs H2=>sp (x::(vs++dvs)) H2 Q E:=by
 unfold sr at h;split at h
 ·obtain⟨o,e,h⟩:=ao h;unfold pQ at h;split at h
  ·obtain⟨rfl,l,h⟩:=h;exact⟨_,_,_,rfl,e,l,h⟩
  ·exact h.elim
 ·exact h.elim
section
variable {X:Cx}{CX:CXT}{k:Nat}{f C:Addr}{fd:FuncData}{ps:List Str}{sp:Sp}{dvs:List V}{ds:List Value}{E:XK}{x m:Str}{p pos apos:Pos}{e o:Expr}{es:List Expr}{ta:TE}{t:TA}
theorem xp{pl:Sem Bool}(he:PE X o ta)(c:Cls X.K C)(hm:eW X.K C m f)(F:aB X.prog X.w X.K X.mg X.base CX k f fd ps sp)(hr:eM k X.A)(hb:aq X.K fd ps ds)(hd:bq dvs ds)(hx:ei CX X E)(ha:PA X (e::es) t)
  (hst:starEach (e::es) X.env=(false,eval e X.env)::starEach es X.env:=by rfl) (hpl:(backTo pos (starEach es X.env)).any (·.1)=false:=by rfl)
  (ht:eval (.Call (.Attribute o m apos) (e::es) [] pos) X.env=(do
   let ov ←eval o X.env
   standAt apos.atName
   let (f,first) ←holding [ov] (getMethod ov m pl)
   callWith pos f first (backTo pos (starEach (e::es) X.env)) (backToKw pos (keywordEach [] X.env))):=by rfl) :
  PE X (.Call (.Attribute o m apos) (e::es) [] pos) (zT C m sp dvs E ta t):=by
 intro pins s σ H Q I h;refine Ky (pl:=pl) (thn (he pins s σ H _ I h) λ u s1 ⟨x,H1,I1,rx,q0⟩=>?_) ht;obtain⟨a,dx,fs,ex,ea,l,q⟩:=p9 q0;subst ex;obtain rfl:u=Value.ref a:=rx;refine cZ I1 ea c hm l ?_;refine KH (first:=[.ref a]) (h₀:=X.base) I.ok.mod.kin hm.kp (thn (ha pos pins s1 σ H1 _ I1 q) λ us s2 ⟨vs,H2,I2,r,q2⟩=>⟨I2.kIn,?_⟩) hst hpl;exact l7 (us:=.ref a::us) (vs:=.ref a::vs) F hr hb hd hx I2 (.cons rfl r) q2
theorem uF{pl:Sem Bool}(he:PE X o ta)(c:Cls X.K C)(hm:eW X.K C m f)(F:aB X.prog X.w X.K X.mg X.base CX k f fd ps sp)(hr:eM k X.A)(hb:aq X.K fd ps ds)(hd:bq dvs ds)(hx:ei CX X E)
  (ht:eval (.Call (.Attribute o m apos) [] [] pos) X.env=(do
   let ov ←eval o X.env
   standAt apos.atName
   let (f,first) ←holding [ov] (getMethod ov m pl)
   callWith pos f first (backTo pos (starEach [] X.env)) (backToKw pos (keywordEach [] X.env))):=by rfl) :
  PE X (.Call (.Attribute o m apos) [] [] pos) (zT C m sp dvs E ta FD):=by
 intro pins s σ H Q I h;refine Ky (pl:=pl) (thn (he pins s σ H _ I h) λ u s1 ⟨x,H1,I1,rx,q0⟩=>?_) ht;obtain⟨a,dx,fs,ex,ea,l,q⟩:=p9 q0;subst ex;obtain rfl:u=Value.ref a:=rx;refine cZ I1 ea c hm l ?_;exact W.callWith_K0 (first:=[.ref a]) I1.kIn hm.kp (l7 (us:=[.ref a]) (vs:=[.ref a]) F hr hb hd hx I1 (.cons rfl .nil) q)
end
def su(x:Addr)(Q:VK):VK:=λ v H=>v=.non/\Q (.ref x) H
theorem BK(x:Addr)(Q:VK)(H:Hp):su x Q .non H=Q (.ref x) H:=propext ⟨λ h=>h.2,λ h=>⟨rfl,h⟩⟩
def oq(C:Addr)(sp:Sp)(dvs:List V)(E:XK)(Q:VK):List V->Hp->Prop:=λ vs H=>∀ (x dx:Addr) (H':Hp),H x=none->H dx=none->dx ≠ x->Ext H H'->H' x=some (.ins C dx [])->H' dx=some (.own x)->sp (.ref x::(vs++dvs)) H' (su x Q) E
theorem uT(C:Addr)(sp:Sp)(dvs:List V)(E:XK)(Q:VK)(a:V)(H:Hp):oq C sp dvs E Q [a] H=∀ (x dx:Addr) (H':Hp),H x=none->H dx=none->dx ≠ x->Ext H H'->H' x=some (.ins C dx [])->H' dx=some (.own x)->sp (.ref x::a::dvs) H' (su x Q) E:=rfl
theorem uS(C:Addr)(sp:Sp)(dvs:List V)(E:XK)(Q:VK)(a b:V)(H:Hp):oq C sp dvs E Q [a,b] H=∀ (x dx:Addr) (H':Hp),H x=none->H dx=none->dx ≠ x->Ext H H'->H' x=some (.ins C dx [])->H' dx=some (.own x)->sp (.ref x::a::b::dvs) H' (su x Q) E:=rfl
theorem uR(C:Addr)(sp:Sp)(dvs:List V)(E:XK)(Q:VK)(a b c:V)(H:Hp):oq C sp dvs E Q [a,b,c] H=∀ (x dx:Addr) (H':Hp),H x=none->H dx=none->dx ≠ x->Ext H H'->H' x=some (.ins C dx [])->H' dx=some (.own x)->sp (.ref x::a::b::c::dvs) H' (su x Q) E:=rfl
def Dg(C:Addr)(sp:Sp)(dvs:List V)(E:XK)(t:TA):TE:=λ σ H Q=>t σ H (oq C sp dvs E Q)
theorem Bt(C:Addr)(sp:Sp)(dvs:List V)(E:XK)(t:TA)(σ:St)(H:Hp)(Q:VK):Dg C sp dvs E t σ H Q=t σ H (oq C sp dvs E Q):=rfl
section
variable {X:Cx}{CX:CXT}{k:Nat}{f C:Addr}{fd:FuncData}{ps:List Str}{sp:Sp}{dvs:List V}{ds:List Value}{E:XK}{x m:Str}{p pos apos:Pos}{e o:Expr}{es:List Expr}{ta:TE}{t:TA}
theorem oq.to{Q:VK}{vs:List V}{H:Hp}(h:oq C sp dvs E Q vs H):∀ x dx,H x=none->H dx=none->dx ≠ x->sp (.ref x::(vs++dvs)) (upd (upd H dx (.own x)) x (.ins C dx [])) (λ v H2=>v=.non/\Q (.ref x) H2) E:=λ x dx hx hd ne=>
 h x dx _ hx hd ne ((Ext.new hd).put hx) ag (by rw [ai ne,ag])
theorem xq(M:Mk X.K C f)(F:aB X.prog X.w X.K X.mg X.base CX k f fd ps sp)(hr:eM (k+1) X.A)(hg:Gl X x)(hm:X.mg x=some (.ref C))(hb:aq X.K fd ps ds)(hd:bq dvs ds)(hx:ei CX X E)
  (ha:PA X (e::es) t) (hdb:(x == ("__debug__":Str))=false:=by decide) (he:starEach (e::es) X.env=(false,eval e X.env)::starEach es X.env:=by rfl) (hpl:(backTo pos (starEach es X.env)).any (·.1)=false:=by rfl) :
  PE X (.Call (.Name x p) (e::es) [] pos) (Dg C sp dvs E t):=by
 intro pins s σ H Q I h;refine JT (cI I hg hm ?_ hdb);refine KH (h₀:=X.base) I.ok.mod.kin M.kp (thn (ha pos pins s σ H _ I h) λ us s1 ⟨vs,H1,I1,r,q⟩=>⟨I1.kIn,?_⟩) he hpl;exact xf M F hr hb hd hx I1 r q.to
end
def tR:Expr->Bool
 | .Starred ..=>false
 | _=>true
theorem Az{e:Expr}{es:List Expr}{env:Env}(h:tR e=true):starEach (e::es) env=(false,eval e env)::starEach es env:=by
 cases e<;>first|rfl|cases h
theorem CI{X:Cx}{e:Expr}{es:List Expr}{te:TE}{t:TA}(ha:PE X e te)(hr:PA X es t)(hn:tR e=true:=by rfl):PA X (e::es) (zI te t):=AZ ha hr (Az hn)
theorem GI(K:W.Frag)(t:TA)(σ:St)(H:Hp)(Q:VK):tXI K t σ H Q=t σ H (kXI K Q):=rfl
theorem A9(K:W.Frag)(ta tv:TE)(f:Str)(nx:St->Hp->Prop)(rt:VK)(bk ct:St->Hp->Prop)(σ:St)(H:Hp):CN K ta tv f ⟨nx,rt,bk,ct⟩ σ H=tv σ H (FR K f ta σ nx):=rfl
theorem Ez(K:W.Frag)(f:Str)(ta:TE)(σ:St)(nx:St->Hp->Prop)(y:V)(H:Hp):FR K f ta σ nx y H=ta σ H (HS K f y σ nx):=rfl
theorem uM(C:Addr)(sp:Sp)(E:St->XK)(t:TA)(D:fO)(σ:St)(H:Hp):tF C sp E t D σ H=t σ H (kRI C sp (E σ)):=rfl
theorem GJ(K:W.Frag)(ta:TE)(f:Str)(σ:St)(H:Hp)(Q:VK):tXF K ta f σ H Q=ta σ H (kXF K f Q):=rfl
def FF(C:Addr)(f:Str):Sp:=λ vs H Q E=>∃ e x,vs=[.ref e,x]/\H e=some (exH e C none)/\∀ dx H',H dx=none->dx ≠ e->(∀ b o,b ≠ e->H b=some o->H' b=some o)->H' e=some (exH e C (some dx))->H' dx=some (.xd [(f,x)])->Q .non H'
theorem E2(C:Addr)(f:Str){vs:List V}{H:Hp}{Q:VK}{E:XK}(h:FF C f vs H Q E):vs.length=2:=by
 obtain⟨_,_,rfl,_⟩:=h;rfl
theorem E8{C:Addr}{f:Str}{E:XK}{x:V}{H:Hp}(h:∀ dx H',Ext H H'->H' dx=some (.xd [(f,x)])->E (.ref C) (some dx) H'):kRI C (FF C f) E [x] H:=by
 refine⟨(show 1<=sizeLine by decide),λ e he=>⟨e,x,rfl,ag,λ dx H' h1 h2 h3 h4 h5=>⟨rfl,some dx,h4,λ _ z=>by cases z;exact⟨_,by rw [eX h2];exact h5⟩,h dx _ (lV.ext λ b o q=>?_) (by rw [eX h2];exact h5)⟩⟩⟩;have hb:b ≠ e:=aT q he;rw [eX hb];exact h3 b o hb (by rw [ai hb];exact q)
def wF(H:Hp)(z:List Int)(y:V):Prop:=∃ q,y=.ref q/\H q=some (.tup (z.map V.int))
theorem wF.ext{H H':Hp}{z:List Int}{y:V}(h:wF H z y)(e:Ext H H'):wF H' z y:=by
 obtain⟨q,rfl,hq⟩:=h;exact⟨q,rfl,e.at hq⟩
def aO(H:Hp)(p:Addr)(zs:List (List Int)):Prop:=∃ ys,H p=some (.lst ys)/\Al (wF H) zs ys
theorem aO.ext{H H':Hp}{p:Addr}{zs:List (List Int)}(h:aO H p zs)(e:Ext H H'):aO H' p zs:=by
 obtain⟨ys,hp,al⟩:=h;exact⟨ys,e.at hp,al.imp λ _ _ r=>r.ext e⟩
theorem pX{H:Hp}{f:V->Option PyData}:∀ {zs:List (List Int)}{ys:List V},Al (wF H) zs ys->bf (ys.map (jG H (jG H f)))=some (zs.map λ z=>PyData.tuple (z.map PyData.int))
 | [],ys,h=>by rw [List.eq_nil_of_length_eq_zero h.1];rfl
 | z::zs,[],h=>by have:=h.1;simp at this
 | z::zs,y::ys,h=>by
  obtain⟨q,rfl,hq⟩:=h.2 0 z y rfl rfl;have ih:=pX (H:=H) (f:=f) (zs:=zs) (ys:=ys) ⟨by have:=h.1;simpa using this,λ i z y a b=>h.2 (i+1) z y (by simpa using a) (by simpa using b)⟩
  have e1:jG H (jG H f) (.ref q)=some (.tuple (z.map PyData.int)):=by
   rw [jV,hq]
   show zD (jG H f) (.tup (z.map V.int))=_
   rw [gK,eJ];rfl
  rw [JY,e1,fb,ih];rfl
theorem pW:∀ zs:List (List Int),PyData.eqvAll (zs.map λ z=>PyData.tuple (z.map PyData.int)) (zs.map λ z=>PyData.tuple (z.map PyData.int))=true
 | []=>by rw [map_nil,gM]
 | z::zs=>by rw [JY,fE,mF,fD,pW zs];simp
theorem bc{n:Nat}(h:n<=5000):n<=sizeLine:=Ju h (by decide)
theorem zr{n:Nat}(h:n < 5000):n < sizeLine:=Jc h (by decide)
theorem oo{K:W.Frag}{H:Hp}{α:Type}{R:α->V->Hp->Prop}(hR:∀ z y H H',R z y H->Ext H H'->R z y H'){l:Addr}{ys:List V}{zs:List α}(h:H l=some (.lst ys))(al:Al (λ z y=>R z y H) zs ys) :
  (∀ i z H',zs[i]? = some z->Ext H H'->(Itl K l).go i H'/\∀ x H'',(Itl K l).yld i H' x H''->Ext H' H''/\R z x H'')/\∀ H',Ext H H'->(Itl K l).stop zs.length H':=by
 refine⟨λ i z H' hz e=>?_,λ H' e=>⟨ys,SqL.of (e.at h),by rw [al.1];exact Je _⟩⟩;have hi:i < ys.length:=by rw [al.1];exact(Jb.mp hz).1
 have hy:ys[i]? = some ys[i]:=IX hi;refine⟨⟨ys,ys[i],SqL.of (e.at h),hy⟩,λ x H'' y=>?_⟩;have hx:x=ys[i]:=Jy ((y.2 ys (SqL.of (e.at h))).symm.trans hy);refine⟨by rw [y.1];exact Ext.refl _,?_⟩;rw [hx,y.1];exact hR _ _ _ _ (al.2 i z _ hz hy) e
def axP(a:Int × Int)(x:V)(H:Hp):Prop:=∃ q,x=.ref q/\H q=some (.tup [.int a.1,.int a.2])
theorem axP.ext{a:Int × Int}{x:V}{H H':Hp}(h:axP a x H)(e:Ext H H'):axP a x H':=by
 obtain⟨q,rfl,hq⟩:=h;exact⟨q,rfl,e.at hq⟩
theorem pU{H:Hp}{axs:List (Int × Int)}{ys:List V}(al:Al (wF H) (axs.map λ a=>[a.1,a.2]) ys):Al (λ a y=>axP a y H) axs ys:=by
 refine⟨by rw [al.1,Jg],λ i a y ha hy=>?_⟩;obtain⟨q,hq,h⟩:=al.2 i [a.1,a.2] y (by rw [Jl,ha];rfl) hy;exact⟨q,hq,h⟩
section
variable {prog:Program}{w:World}{A:Around}{E:Value->Shared->Prop}{s:Shared}
variable {z TI TO i j:Addr}{f g:List Addr}{ti tj:Nat->Heap->Prop}{vi vj:Nat->Option Value}{k m:Nat}{x y:Value}{t:Addr}{fl:Bool}{ot:Obj}
variable {ka kb:Bool}{a b p q:Addr}{as bs:Array Value}{n:Nat}
end
section
variable {X:Cx}{pins:List (Addr × Obj)}{σ:St}{s:Shared}
end
section
variable {X:Cx}
end
def FL(xs:List V)(H:Hp)(Q:VK):Prop:=match xs with
 | [.int i]=>Q (.int i) H
 | [.bl k]=>Q (.int (if k=true then 1 else 0)) H
 | _=>False
theorem xN(k:Bool)(H:Hp)(Q:VK):FL [.bl k] H Q=Q (.int (if k=true then 1 else 0)) H:=rfl
theorem mL{X:Cx}:bt X (.type "int") FL:=vZ.mono λ xs H Q h=>by
 unfold FL at h;split at h
 ·exact .inl ⟨_,rfl,h⟩
 ·exact .inr ⟨_,rfl,h⟩
 ·exact h.elim
def Ae(H:Hp)(Q:VK):List Int->Prop:=λ ns=>0 < ns.length/\∀ M,M∈ns->(∀ a∈ns,a<=M)->Q (.int M) H
theorem Ao(H:Hp)(Q:VK)(ns:List Int):Ae H Q ns=(0 < ns.length/\∀ M,M∈ns->(∀ a∈ns,a<=M)->Q (.int M) H):=rfl
def zO:List V->Hp->VK->Prop:=λ vs H Q=>match vs with
 | [.ref p]=>aP (aQ H p) (lX (Ae H Q))
 | _=>False
theorem Bo(p:Addr)(H:Hp)(Q:VK):zO [.ref p] H Q=aP (aQ H p) (lX (Ae H Q)):=rfl
section
variable {X:Cx}
theorem rF(hc:X.calm=true):bt X (.builtin "max") zO:=by
 intro pins s σ H vs us Q I r h;unfold zO at h;split at h
 ·rename_i p;obtain⟨xs,e,ns,rfl,hn,q⟩:=ao h
  cases r with
  | cons r rr=>
   cases rr;cases r;obtain⟨its,rv,pl,hz⟩:=I.list (SqL.of (cy e));have hlt:p < s.heap.objs.size:=by obtain⟨_,e,_⟩:=pl.isList;exact IZ e
   have hlen:its.length=ns.length:=by have:=rv.length;simpa using this.symm
   have hsz:its.toArray.size=ns.length:=by simp [hlen]
   have hP:∀ (i:Nat) (v:Value),its.toArray[i]? = some v->∃ t,v=.int (ns.getD i 0) t:=λ i v hP=>by
    have hv:its[i]? = some v:=by simpa using hP
    have hi:i < ns.length:=by rw [←hlen];exact(Jb.mp hv).1
    obtain⟨u,hu,ru⟩:=rv.get (i:=i) (x:=.int (ns.getD i 0)) (by rw [Jl,IX hi];simp [List.getD,IX hi]);rw [hv] at hu;cases hu;exact ru
   refine call_max_walkS (KD pl.isList ⟨s.heap.objs.size,_,_,_,_,_,_,λ i j=>decide (ns.getD i 0 > ns.getD j 0),rfl,(Walks.list (show X.A.in1.handled=none from I.ok.hd hc) _ p (Jj hlt) its.toArray).toS,⟨⟨_,Jf _ rfl,rfl,rfl⟩,pl.isList.push _⟩,λ b hb=>?_,by rw [hsz];exact hn,CmpOf.ints_gt (λ i=>ns.getD i 0) λ i v h=>hP i v h,λ v s' hv hm=>?_⟩)
   ·rw [Jx]
    rcases Js.mp hb with rfl|hb
    ·exact Ke _
    ·rw [Jh.mp hb];exact Nat.lt_succ_of_lt hlt
   ·obtain⟨hp,g,d,tk,os⟩:=s'
    have kp:∀ b o,s.heap.get? b=some o->hp.get? b=some o:=λ b o e=>hm.heap b o (λ hmem=>by
     have:b=s.heap.objs.size:=by simpa using hmem
     subst this;exact absurd (IZ e) (JM _)) (IW _ e)
    have e1:g=s.gens:=hm.gens;have e2:d=s.drawn:=hm.drawn;have e3:os=s.os:=hm.os;subst e1 e2 e3;obtain⟨b1,b2⟩:=argBest_gt (λ i=>ns.getD i 0) (its.toArray.size - 1);have rv2:=hP _ v hv;generalize argBest (λ i j=>decide (ns.getD i 0 > ns.getD j 0)) (its.toArray.size - 1)=k at b1 b2 rv2;rw [hsz] at b1 b2;have hk:k < ns.length:=by omega
    refine⟨.int (ns.getD k 0),H,I.kept (t':=tk) kp,rv2,q _ ?_ λ a ha=>?_⟩
    ·rw [List.getD,IX hk];exact KA hk
    ·obtain⟨j,hj,rfl⟩:=Ll ha;have:=b2 j (by omega);rw [show ns.getD j 0=ns[j] by rw [List.getD,IX hj];rfl] at this;exact this
 ·exact h.elim
end
def Ah(l:Addr)(xs:List V)(H:Hp)(Q:VK):List V->Prop:=λ zs=>xs.length+zs.length<=sizeLine/\Q .non (upd H l (.lst (xs++zs)))
theorem BO(l:Addr)(xs:List V)(H:Hp)(Q:VK)(zs:List V):Ah l xs H Q zs=(xs.length+zs.length<=sizeLine/\Q .non (upd H l (.lst (xs++zs)))):=rfl
def Dk(l b:Addr)(H:Hp)(Q:VK):List V->Prop:=λ xs=>aP (aQ H b) (Ah l xs H Q)
theorem BP(l b:Addr)(H:Hp)(Q:VK)(xs:List V):Dk l b H Q xs=aP (aQ H b) (Ah l xs H Q):=rfl
theorem uN(l b:Addr)(H:Hp)(Q:VK):tG (.ref l) [.ref b] H Q=aP (aQ H l) (Dk l b H Q):=by
 refine propext ⟨λ h=>?_,λ h=>?_⟩
 ·obtain⟨l',b',xs,zs,e1,e2,h1,h2,h3,q⟩:=h;cases e1;cases e2;unfold aQ;rw [h1]
  show aP (aQ H b) _
  unfold aQ;rw [h2];exact⟨h3,q⟩
 ·obtain⟨xs,e,h⟩:=ao h;obtain⟨zs,e2,h3,q⟩:=ao h;exact⟨l,b,xs,zs,rfl,rfl,cy e,cy e2,h3,q⟩
section
variable {X:Cx}{a b c d:Expr}{ta tb tc td:TE}{pos:Pos}
end
section
variable {k:Nat}{g:TG}{tt:TT}{te:TE}{σ:St}{Q:VK}{H:Hp}{K:PySem.W.Frag}
theorem vR{α:Type}{J:It}(zs:List α)(c:α->Bool)(P:α->V->Hp->Prop)(R:Addr->α->V->Hp->Prop)
  (hgo:∀ i z H',zs[i]? = some z->Ext H H'->J.go i H'/\∀ x H'',J.yld i H' x H''->Ext H' H''/\P z x H'')
  (hst:∀ H',Ext H H'->J.stop zs.length H')
  (hR1:∀ D z y H1 H2,R D z y H1->Ext H1 H2->R D z y H2) (hR2:∀ D z y H1 xs o,R D z y H1->H1 D=some (.lst xs)->R D z y (upd H1 D o))
  (hl:zs.length<=sizeLine)
  (hs:∀ D z x H' N1 N0,z∈zs->H D=none->Ext H H'->(∃ ys,H' D=some (.lst ys))->P z x H'->(c z=true->∀ y H'',Ext H' H''->R D z y H''->N1 y H'')->(c z=false->∀ H'',Ext H' H''->N0 H'')->g x (List.replicate k none++σ) H' (kCm k tt te σ N1 N0))
  (hd:∀ D ys H',H D=none->Ext H H'->H' D=some (.lst ys)->Al (λ z y=>R D z y H') (zs.filter c) ys->Q (.ref D) H'):wM k g tt te σ Q J H:=by
 intro D hD;refine⟨λ i m ys H'=>m=zs.length - i/\i<=zs.length/\Ext H H'/\H' D=some (.lst ys)/\Al (λ z y=>R D z y H') ((zs.take i).filter c) ys,⟨zs.length,by simp,JH _,Ext.new hD,ag,by simpa using Al.nil⟩,?_⟩;rintro i m ys H' ⟨rfl,hi,e,hD',al⟩
 by_cases hlt:i < zs.length
 ·have hz:zs[i]? = some zs[i]:=IX hlt;obtain⟨go,y⟩:=hgo i zs[i] H' hz e;have tk:zs.take (i+1)=zs.take i++[zs[i]]:=by rw [Lj,hz];rfl
  have ln:ys.length < sizeLine:=by
   have h1:=al.1;have h2:=List.length_filter_le c (zs.take i);simp only [Ks] at h2;omega
  refine .inr ⟨go,λ ys' H2=>Ext H H2/\H2 D=some (.lst ys')/\Al (λ z y=>R D z y H2) ((zs.take (i+1)).filter c) ys',λ ys' H2 p=>⟨zs.length - (i+1),by omega,rfl,hlt,p⟩,λ x H2 z=>?_⟩;obtain⟨e2,p2⟩:=y x H2 z;refine hs D zs[i] x H2 (kC3 D ys _) _ (KA hlt) hD (e.trans e2) ⟨ys,e2.at hD'⟩ p2 (λ hc y H3 e3 r3=>?_) λ hc H3 e3=>?_
  ·refine⟨e3.at (e2.at hD'),ln,(e.trans (e2.trans e3)).put hD,ag,?_⟩;rw [tk,KP,show [zs[i]].filter c=[zs[i]] by simp [hc]];exact Al.snoc (al.imp λ z y r=>hR2 _ _ _ _ _ _ (hR1 _ _ _ _ _ r (e2.trans e3)) (e3.at (e2.at hD'))) (hR2 _ _ _ _ _ _ r3 (e3.at (e2.at hD')))
  ·refine⟨e.trans (e2.trans e3),(e2.trans e3).at hD',?_⟩;rw [tk,KP,show [zs[i]].filter c=[] by simp [hc],KR];exact al.imp λ z y r=>hR1 _ _ _ _ _ r (e2.trans e3)
 ·have e':i=zs.length:=by omega
  subst e';rw [JB] at al;exact .inl ⟨hst H' e,hd D ys H' hD e hD' al⟩
end
section
variable {X:Cx}
end
section
variable {g:TG}{σ:St}{Q:VK}{H:Hp}{K:PySem.W.Frag}
end
section
variable {X:Cx}{CX:CXT}{k:Nat}{f C:Addr}{fd:FuncData}{ps:List Str}{sp:Sp}{dvs:List V}{ds:List Value}{E:St->XK}{x m:Str}{p pos apos:Pos}{e o:Expr}{es:List Expr}{ta:TE}{t:TA}
theorem AF{pins:List (Addr × Obj)}{σ:St}{H:Hp}{s:Shared}{us:List Value}{vs:List V}{Q:VK}(F:aB X.prog X.w X.K X.mg X.base CX k f fd ps sp)(hr:eM k X.A)(hb:aq X.K fd ps ds)(hd:bq dvs ds)(hx:∀ σ,pV CX X (E σ) σ)(I:Inv X pins σ H s)(r:bq vs us)(q:sp (vs++dvs) H Q (E σ)) :
  wpAny (model X.prog X.w) X.A (call (.ref f) us) (EP X pins σ Q) X.xe s:=by
 have r2:bq (vs++dvs) (us++ds):=r.append hd;have hl:(us++ds).length=ps.length:=by rw [←r2.length];exact F.len _ _ _ _ q
 refine J7 (JK (F.run X.A X.stack s H ⟨us,[]⟩ (us++ds) (vs++dvs) Q (E σ) hr I.env0 (hb s us I.kIn hl) r2 q) λ rr s' hq=>?_)
 cases rr with
 | error ev=>exact hx σ pins H s ev s' I hq
 | ok fl=>
  cases fl with
  | ret u=>exact I.after hq
  | next=>exact False.elim hq
  | brk=>exact False.elim hq
  | cont=>exact False.elim hq
end
theorem cG{α β:Type}(f:α->Option β)(g:α->β):∀ xs:List α,(∀ x∈xs,f x=some (g x))->xs.filterMap f=xs.map g
 | [],_=>rfl
 | x::r,h=>by
  rw [KJ,h x Jq]
  show g x::_=_
  rw [cG f g r λ y hy=>h y (Jk _ hy)];rfl
theorem lj(its:List Value):slicePick its.toArray none none (some (-1))=its.reverse.toArray:=by
 unfold slicePick sliceBounds sliceRange;simp only [Option.getD_some,size_toArray,show ¬ ((-1:Int) > 0) by decide,if_false]
 have e:(List.range (if (its.length:Int) - 1 > -1 then ((its.length:Int) - 1 - -1 - -1 - 1) / - -1 else 0).toNat)=List.range its.length:=by
  congr 1
  by_cases h:(its.length:Int) - 1 > -1
  ·rw [Jw h,show (- -1:Int)=1 from rfl,Int.ediv_one];omega
  ·rw [Jt h];omega
 rw [e];congr 1;rw [List.filterMap_map];apply List.ext_getElem?;intro i
 by_cases hi:i < its.length
 ·rw [cG _ (λ k=>(its.reverse[k]?).getD .none) (List.range its.length) (λ k hk=>?_)]
  ·rw [Jl,List.getElem?_range hi]
   show some ((its.reverse[i]?).getD .none)=_
   rw [IX (by simpa using hi)];rfl
  ·have hk':=JR.mp hk
   show its.toArray[((its.length:Int) - 1 + -1 * (k:Int)).toNat]? = _
   have hn:((its.length:Int) - 1 + -1 * (k:Int)).toNat=its.length - 1 - k:=by omega
   rw [hn,List.getElem?_toArray,List.getElem?_reverse hk',IX (by omega)];rfl
 ·rw [J1 (show its.reverse.length<=i by rw [Lk];omega)];refine J1 (Ju (List.length_filterMap_le _ _) ?_);rw [Kc];omega
def Ad(H:Hp)(Q:VK):List V->Prop:=λ xs=>rT (.lst xs.reverse) H Q
theorem BH(H:Hp)(Q:VK)(xs:List V):Ad H Q xs=rT (.lst xs.reverse) H Q:=rfl
def Fp(Q:VK):VK:=λ x H=>match x with
 | .ref p=>aP (aQ H p) (Ad H Q)
 | _=>False
theorem EC(Q:VK)(p:Addr)(H:Hp):Fp Q (.ref p) H=aP (aQ H p) (Ad H Q):=rfl
def HA(te:TE):TE:=λ σ H Q=>te σ H (Fp Q)
theorem Ee(te:TE)(σ:St)(H:Hp)(Q:VK):HA te σ H Q=te σ H (Fp Q):=rfl
section
variable {X:Cx}{e st:Expr}{te tst:TE}{pos p2:Pos}
theorem DO(he:PE X e te)(hs:PE X st tst)(h1:∀ (σ:St) (H:Hp) (Q:VK),Q (.int (-1)) H->tst σ H Q):PE X (.Subscript e (.Slice none none (some st) p2) pos) (HA te):=by
 intro pins s σ H Q I h;refine Subscript_ (thn (he pins s σ H _ I h) λ v s1 ⟨x,H1,I1,r1,q1⟩=>?_);unfold Fp at q1;split at q1
 ·rename_i p;obtain⟨xs,ex,q⟩:=ao q1;replace ex:=cy ex;cases r1;refine wpAny_Slice ?_;rw [evalPart_none];refine Ja ?_;refine Ja ?_;rw [evalPart_some];refine thn (hs pins s1 σ H1 (λ y H'=>y=.int (-1)/\H'=H1) I1 (h1 σ H1 _ ⟨rfl,rfl⟩)) λ u s2 ⟨y,H2,I2,r2,e2,e3⟩=>?_;subst e2 e3;obtain⟨tk,rfl⟩:=r2;have I4:Inv X pins σ H2 { s2 with heap:=s2.heap.push { cls:=.type "slice",data:=.fields #[.none,.none,.int (-1) tk] } }:=I2.kept (t':=s2.toks) λ b ob q=>IW _ q
  show wpAny (model X.prog X.w) X.A (subscriptTail e (.Slice none none (some st) p2) (.ref p) (.ref s2.heap.objs.size)) (EP X pins σ Q) X.xe { s2 with heap:=s2.heap.push { cls:=.type "slice",data:=.fields #[.none,.none,.int (-1) tk] } }
  obtain⟨its,r,ht,hz⟩:=I4.list (SqL.of ex);refine tail_any (ops:=[.ref p,.ref s2.heap.objs.size]) ht.isList.typeIs slot_list_getitem.lookup ?_ (by with_unfolding_all rfl);have hlen:=r.length;refine wpAny_getItem_list_slice (st:=some (-1)) ht.isList (Heap.IsSliceOf.new ..) .none .none (.int (-1) tk) (by simp) ?_ (by rw [Jr]<;>omega);rw [lj];have fr:=I4.hok.fresh (Je (Heap.objs (s2.heap.push { cls:=.type "slice",data:=.fields #[.none,.none,.int (-1) tk] })).size);refine⟨.ref (s2.heap.push { cls:=.type "slice",data:=.fields #[.none,.none,.int (-1) tk] }).objs.size,_,I4.laid (t':=s2.toks) (o:=.lst xs.reverse) (λ b ob q=>IW _ q) (Je _) ?_,rfl,q _ _ fr (Ext.new fr) ag⟩;exact⟨by rw [Lk];exact hz,its.reverse,0,r.reverse,Jf _ rfl⟩
 ·exact q1.elim
end
section
variable {X:Cx}
end
section
variable {X:Cx}
end
section
variable {X:Cx}
end
def Hv{α β:Type}(R1:α->V->Hp->Prop)(R2:β->V->Hp->Prop)(z:α × β)(x:V)(H:Hp):Prop:=∃ p q1 q2,x=.ref p/\H p=some (.tup [q1,q2])/\R1 z.1 q1 H/\R2 z.2 q2 H
theorem Ap{H:Hp}{α β:Type}{R1:α->V->Hp->Prop}{R2:β->V->Hp->Prop}(h1:∀ z y H H',R1 z y H->Ext H H'->R1 z y H')(h2:∀ z y H H',R2 z y H->Ext H H'->R2 z y H'){a b:Addr}{xs ys:List V}{zs:List α}{ws:List β}(ha:H a=some (.lst xs))(hb:H b=some (.lst ys))(al:Al (λ z y=>R1 z y H) zs xs)(bl:Al (λ z y=>R2 z y H) ws ys) :
  (∀ i z H',(zs.zip ws)[i]? = some z->Ext H H'->(Itz false false a b xs ys).go i H'/\∀ x H'',(Itz false false a b xs ys).yld i H' x H''->Ext H' H''/\Hv R1 R2 z x H'')/\∀ H',Ext H H'->(Itz false false a b xs ys).stop (zs.zip ws).length H':=by
 have wk:=Dw (ka:=false) (kb:=false) ha hb;refine⟨λ i z H' hz e=>?_,λ H' e=>?_⟩
 ·obtain⟨i1,i2⟩:=Jb.mp hz;rw [K5] at i1;have hx:xs[i]? = some (xs[i]'(by rw [al.1];omega)):=IX _;have hy:ys[i]? = some (ys[i]'(by rw [bl.1];omega)):=IX _;have g1:=al.2 i zs[i] _ (IX _) hx;have g2:=bl.2 i ws[i] _ (IX _) hy;generalize (xs[i]'(by rw [al.1];omega))=x0 at hx g1;generalize (ys[i]'(by rw [bl.1];omega))=y0 at hy g2
  have hzz:(xs.zip ys)[i]? = some (x0,y0):=by
   rw [List.getElem?_zip_eq_some];exact⟨hx,hy⟩
  obtain⟨go,yd⟩:=wk.1 i _ H' hzz e;refine⟨go,λ x H'' y=>?_⟩;obtain⟨e2,p,hp,hp2⟩:=yd x H'' y;have ez:z=(zs[i],ws[i]):=by rw [←i2,List.getElem_zip]
  subst ez;exact⟨e2,p,x0,y0,hp,hp2,h1 _ _ _ _ g1 (e.trans e2),h2 _ _ _ _ g2 (e.trans e2)⟩
 ·have:=wk.2 H' e
  rwa [show (zs.zip ws).length=(xs.zip ys).length by rw [K5,K5,al.1,bl.1]]
def tV(i:Nat):TE:=λ σ H Q=>match σ[i]? with
 | some (some v)=>Q v H
 | _=>False
theorem Gq(i:Nat):FC i=tV i:=by
 funext σ H Q;refine propext ⟨λ ⟨v,e,q⟩=>?_,λ h=>?_⟩
 ·unfold tV;rw [e];exact q
 ·unfold tV at h;split at h
  ·rename_i v e;exact⟨v,e,h⟩
  ·exact h.elim
theorem Eb{v:V}{σ:St}{H:Hp}{Q:VK}:tV 0 (some v::σ) H Q=Q v H:=rfl
theorem Ea{a0:Option V}{v:V}{σ:St}{H:Hp}{Q:VK}:tV 1 (a0::some v::σ) H Q=Q v H:=rfl
theorem D9{a0 a1:Option V}{v:V}{σ:St}{H:Hp}{Q:VK}:tV 2 (a0::a1::some v::σ) H Q=Q v H:=rfl
theorem D8{a0 a1 a2:Option V}{v:V}{σ:St}{H:Hp}{Q:VK}:tV 3 (a0::a1::a2::some v::σ) H Q=Q v H:=rfl
theorem D7{a0 a1 a2 a3:Option V}{v:V}{σ:St}{H:Hp}{Q:VK}:tV 4 (a0::a1::a2::a3::some v::σ) H Q=Q v H:=rfl
theorem D6{a0 a1 a2 a3 a4:Option V}{v:V}{σ:St}{H:Hp}{Q:VK}:tV 5 (a0::a1::a2::a3::a4::some v::σ) H Q=Q v H:=rfl
theorem D5{a0 a1 a2 a3 a4 a5:Option V}{v:V}{σ:St}{H:Hp}{Q:VK}:tV 6 (a0::a1::a2::a3::a4::a5::some v::σ) H Q=Q v H:=rfl
theorem D4{a0 a1 a2 a3 a4 a5 a6:Option V}{v:V}{σ:St}{H:Hp}{Q:VK}:tV 7 (a0::a1::a2::a3::a4::a5::a6::some v::σ) H Q=Q v H:=rfl
theorem D3{a0 a1 a2 a3 a4 a5 a6 a7:Option V}{v:V}{σ:St}{H:Hp}{Q:VK}:tV 8 (a0::a1::a2::a3::a4::a5::a6::a7::some v::σ) H Q=Q v H:=rfl
theorem D0{a0 a1 a2 a3 a4 a5 a6 a7 a8:Option V}{v:V}{σ:St}{H:Hp}{Q:VK}:tV 9 (a0::a1::a2::a3::a4::a5::a6::a7::a8::some v::σ) H Q=Q v H:=rfl
theorem Bd{a0 a1 a2 a3 a4 a5 a6 a7 a8 a9:Option V}{v:V}{σ:St}{H:Hp}{Q:VK}:tV 10 (a0::a1::a2::a3::a4::a5::a6::a7::a8::a9::some v::σ) H Q=Q v H:=rfl
theorem Bc{a0 a1 a2 a3 a4 a5 a6 a7 a8 a9 a10:Option V}{v:V}{σ:St}{H:Hp}{Q:VK}:tV 11 (a0::a1::a2::a3::a4::a5::a6::a7::a8::a9::a10::some v::σ) H Q=Q v H:=rfl
theorem Bb{a0 a1 a2 a3 a4 a5 a6 a7 a8 a9 a10 a11:Option V}{v:V}{σ:St}{H:Hp}{Q:VK}:tV 12 (a0::a1::a2::a3::a4::a5::a6::a7::a8::a9::a10::a11::some v::σ) H Q=Q v H:=rfl
theorem Ba{a0 a1 a2 a3 a4 a5 a6 a7 a8 a9 a10 a11 a12:Option V}{v:V}{σ:St}{H:Hp}{Q:VK}:tV 13 (a0::a1::a2::a3::a4::a5::a6::a7::a8::a9::a10::a11::a12::some v::σ) H Q=Q v H:=rfl
def nI0(g:Int->Int->V):R2:=λ x y H Q=>match x,y with
 | .int i,.int j=>Q (g i j) H
 | _,_=>False
theorem GU(g:Int->Int->V)(i j:Int)(H:Hp)(Q:VK):nI0 g (.int i) (.int j) H Q=Q (g i j) H:=rfl
theorem jM(g:Int->Int->V):rI0 g=nI0 g:=by
 funext x y H Q;refine propext ⟨λ ⟨i,j,e,e',q⟩=>by subst e e';exact q,λ h=>?_⟩;unfold nI0 at h;split at h
 ·exact⟨_,_,rfl,rfl,h⟩
 ·exact h.elim
def nI(C:Int->Int->Prop)(g:Int->Int->V):R2:=λ x y H Q=>match x,y with
 | .int i,.int j=>C i j/\Q (g i j) H
 | _,_=>False
theorem IG(C:Int->Int->Prop)(g:Int->Int->V)(i j:Int)(H:Hp)(Q:VK):nI C g (.int i) (.int j) H Q=(C i j/\Q (g i j) H):=rfl
theorem sk(C:Int->Int->Prop)(g:Int->Int->V):rI C g=nI C g:=by
 funext x y H Q;refine propext ⟨λ ⟨i,j,e,e',q⟩=>by subst e e';exact q,λ h=>?_⟩;unfold nI at h;split at h
 ·exact⟨_,_,rfl,rfl,h⟩
 ·exact h.elim
def nU(g:Int->V):V->Hp->VK->Prop:=λ x H Q=>match x with
 | .int i=>Q (g i) H
 | _=>False
theorem IF(g:Int->V)(i:Int)(H:Hp)(Q:VK):nU g (.int i) H Q=Q (g i) H:=rfl
theorem GH(g:Int->V):rU g=nU g:=by
 funext x H Q;refine propext ⟨λ ⟨i,e,q⟩=>by subst e;exact q,λ h=>?_⟩;unfold nU at h;split at h
 ·exact⟨_,rfl,h⟩
 ·exact h.elim
def jO(Q:Bool->Hp->Prop):VK:=λ x H=>match x with
 | .bl k=>Q k H
 | _=>False
theorem xQ(Q:Bool->Hp->Prop)(k:Bool)(H:Hp):jO Q (.bl k) H=Q k H:=rfl
theorem yr(Q:Bool->Hp->Prop):Di Q=jO Q:=by
 funext x H;refine propext ⟨λ ⟨k,e,q⟩=>by subst e;exact q,λ h=>?_⟩;unfold jO at h;split at h
 ·exact⟨_,rfl,h⟩
 ·exact h.elim
def sj(t:TE):TT:=λ σ H Q=>t σ H (jO Q)
theorem Bp(t:TE)(σ:St)(H:Hp)(Q:Bool->Hp->Prop):sj t σ H Q=t σ H (jO Q):=rfl
theorem p6(t:TE):CO t=sj t:=by
 funext σ H Q
 show t σ H (Di Q)=t σ H (jO Q)
 rw [yr]
theorem uJ(t:TE):tB t=sj t:=p6 t
def sv(tb:TE)(σ:St)(Q:VK):VK:=λ x H=>match x with
 | .bl c=>if c=true then tb σ H Q else Q (.bl false) H
 | _=>False
theorem BX(tb:TE)(σ:St)(Q:VK)(c:Bool)(H:Hp):sv tb σ Q (.bl c) H=(if c=true then tb σ H Q else Q (.bl false) H):=rfl
def zX(ta tb:TE):TE:=λ σ H Q=>ta σ H (sv tb σ Q)
theorem Bx(ta tb:TE)(σ:St)(H:Hp)(Q:VK):zX ta tb σ H Q=ta σ H (sv tb σ Q):=rfl
theorem xE(ta tb:TE):CW ta tb=zX ta tb:=by
 funext σ H Q
 show ta σ H (Ho tb σ Q)=ta σ H (sv tb σ Q)
 congr 1;funext x H;refine propext ⟨λ ⟨k,e,q⟩=>by subst e;exact q,λ h=>?_⟩;unfold sv at h;split at h
 ·exact⟨_,rfl,h⟩
 ·exact h.elim
def sm(Q:VK):VK:=λ x H=>match x with
 | .bl c=>Q (.bl (!c)) H
 | _=>False
theorem BI(Q:VK)(c:Bool)(H:Hp):sm Q (.bl c) H=Q (.bl (!c)) H:=rfl
def zS(ta:TE):TE:=λ σ H Q=>ta σ H (sm Q)
theorem Br(ta:TE)(σ:St)(H:Hp)(Q:VK):zS ta σ H Q=ta σ H (sm Q):=rfl
theorem xD(ta:TE):CQ ta=zS ta:=by
 funext σ H Q
 show ta σ H (Hk Q)=ta σ H (sm Q)
 congr 1;funext x H;refine propext ⟨λ ⟨k,e,q⟩=>by subst e;exact q,λ h=>?_⟩;unfold sm at h;split at h
 ·exact⟨_,rfl,h⟩
 ·exact h.elim
def qD(r':R2)(tc:TE)(σ:St)(y:V)(Q:VK):VK:=λ z H=>match z with
 | .bl k=>if k=true then tc σ H (Fv r' y Q) else Q (.bl false) H
 | _=>False
theorem BU(r':R2)(tc:TE)(σ:St)(y:V)(Q:VK)(k:Bool)(H:Hp):qD r' tc σ y Q (.bl k) H=(if k=true then tc σ H (Fv r' y Q) else Q (.bl false) H):=rfl
theorem B6(r':R2)(tc:TE)(σ:St)(y:V)(Q:VK):Gg r' tc σ y Q=qD r' tc σ y Q:=by
 funext z H;refine propext ⟨λ ⟨k,e,q⟩=>by subst e;exact q,λ h=>?_⟩;unfold qD at h;split at h
 ·exact⟨_,rfl,h⟩
 ·exact h.elim
def wN(r r':R2)(tc:TE)(σ:St)(x:V)(Q:VK):VK:=λ y H=>r x y H (qD r' tc σ y Q)
theorem BV(r r':R2)(tc:TE)(σ:St)(x y:V)(Q:VK)(H:Hp):wN r r' tc σ x Q y H=r x y H (qD r' tc σ y Q):=rfl
def wO(r r':R2)(tb tc:TE)(σ:St)(Q:VK):VK:=λ x H=>tb σ H (wN r r' tc σ x Q)
theorem BW(r r':R2)(tb tc:TE)(σ:St)(Q:VK)(x:V)(H:Hp):wO r r' tb tc σ Q x H=tb σ H (wN r r' tc σ x Q):=rfl
def sY(r r':R2)(ta tb tc:TE):TE:=λ σ H Q=>ta σ H (wO r r' tb tc σ Q)
theorem xP(r r':R2)(ta tb tc:TE)(σ:St)(H:Hp)(Q:VK):sY r r' ta tb tc σ H Q=ta σ H (wO r r' tb tc σ Q):=rfl
theorem uK(r r':R2)(ta tb tc:TE):zj r r' ta tb tc=sY r r' ta tb tc:=by
 funext σ H Q
 show ta σ H (IK r r' tb tc σ Q)=ta σ H (wO r r' tb tc σ Q)
 congr 1;funext x H1
 show tb σ H1 (Ia r r' tc σ x Q)=tb σ H1 (wN r r' tc σ x Q)
 congr 1;funext y H2
 show r x y H2 (Gg r' tc σ y Q)=r x y H2 (qD r' tc σ y Q)
 rw [B6]
def wU:TGs:=λ vs σ H Q=>match vs with
 | []=>Q σ H
 | _=>False
theorem B0(σ:St)(H:Hp)(Q:St->Hp->Prop):wU [] σ H Q=Q σ H:=rfl
theorem B8:Io=wU:=by
 funext vs σ H Q;refine propext ⟨λ ⟨e,q⟩=>by subst e;exact q,λ h=>?_⟩;unfold wU at h;split at h
 ·exact⟨rfl,h⟩
 ·exact h.elim
def pT(t:TG)(u:TGs):TGs:=λ vs σ H Q=>match vs with
 | v::r=>t v σ H (kGs u r Q)
 | _=>False
theorem xZ(t:TG)(u:TGs)(v:V)(r:List V)(σ:St)(H:Hp)(Q:St->Hp->Prop):pT t u (v::r) σ H Q=t v σ H (kGs u r Q):=rfl
theorem yD(t:TG)(u:TGs):Dq t u=pT t u:=by
 funext vs σ H Q;refine propext ⟨λ ⟨v,r,e,q⟩=>by subst e;exact q,λ h=>?_⟩;unfold pT at h;split at h
 ·exact⟨_,_,rfl,h⟩
 ·exact h.elim
theorem lS{α0:Type}{f:α0->List V}{B:α0->Prop}(inj:∀ a a',f a=f a'->a=a')(a:α0):(∃ a',f a=f a'/\B a')=B a:=propext ⟨λ ⟨a',e,q⟩=>by obtain rfl:=inj _ _ e;exact q,λ q=>⟨a,rfl,q⟩⟩
theorem jt{α0:Type}{f:α0->List V}{B:α0->Prop}{vs:List V}{n:Nat}(h:∃ a,vs=f a/\B a)(l:∀ a,(f a).length=n):vs.length=n:=by
 obtain⟨_,rfl,_⟩:=h;exact l _
theorem jq{α0 α1:Type}{f:α0->α1->List V}{B:α0->α1->Prop}(inj:∀ a b a' b',f a b=f a' b'->a=a'/\b=b')(a:α0)(b:α1):(∃ a' b',f a b=f a' b'/\B a' b')=B a b:=propext ⟨λ ⟨a',b',e,q⟩=>by obtain⟨rfl,rfl⟩:=inj _ _ _ _ e;exact q,λ q=>⟨a,b,rfl,q⟩⟩
theorem js{α0 α1:Type}{f:α0->α1->List V}{B:α0->α1->Prop}{vs:List V}{n:Nat}(h:∃ a b,vs=f a b/\B a b)(l:∀ a b,(f a b).length=n):vs.length=n:=by
 obtain⟨_,_,rfl,_⟩:=h;exact l _ _
theorem rR{α0 α1 α2:Type}{f:α0->α1->α2->List V}{B:α0->α1->α2->Prop}(inj:∀ a b c a' b' c',f a b c=f a' b' c'->a=a'/\b=b'/\c=c')(a:α0)(b:α1)(c:α2):(∃ a' b' c',f a b c=f a' b' c'/\B a' b' c')=B a b c:=propext ⟨λ ⟨a',b',c',e,q⟩=>by obtain⟨rfl,rfl,rfl⟩:=inj _ _ _ _ _ _ e;exact q,λ q=>⟨a,b,c,rfl,q⟩⟩
theorem rS{α0 α1 α2:Type}{f:α0->α1->α2->List V}{B:α0->α1->α2->Prop}{vs:List V}{n:Nat}(h:∃ a b c,vs=f a b c/\B a b c)(l:∀ a b c,(f a b c).length=n):vs.length=n:=by
 obtain⟨_,_,_,rfl,_⟩:=h;exact l _ _ _
theorem CG{α0 α1 α2 α3:Type}{f:α0->α1->α2->α3->List V}{B:α0->α1->α2->α3->Prop}(inj:∀ a b c d a' b' c' d',f a b c d=f a' b' c' d'->a=a'/\b=b'/\c=c'/\d=d')(a:α0)(b:α1)(c:α2)(d:α3):(∃ a' b' c' d',f a b c d=f a' b' c' d'/\B a' b' c' d')=B a b c d:=propext ⟨λ ⟨a',b',c',d',e,q⟩=>by obtain⟨rfl,rfl,rfl,rfl⟩:=inj _ _ _ _ _ _ _ _ e;exact q,λ q=>⟨a,b,c,d,rfl,q⟩⟩
theorem CH{α0 α1 α2 α3:Type}{f:α0->α1->α2->α3->List V}{B:α0->α1->α2->α3->Prop}{vs:List V}{n:Nat}(h:∃ a b c d,vs=f a b c d/\B a b c d)(l:∀ a b c d,(f a b c d).length=n):vs.length=n:=by
 obtain⟨_,_,_,_,rfl,_⟩:=h;exact l _ _ _ _
theorem HF{α0 α1 α2 α3 α4:Type}{f:α0->α1->α2->α3->α4->List V}{B:α0->α1->α2->α3->α4->Prop}(inj:∀ a b c d i a' b' c' d' i',f a b c d i=f a' b' c' d' i'->a=a'/\b=b'/\c=c'/\d=d'/\i=i')(a:α0)(b:α1)(c:α2)(d:α3)(i:α4):(∃ a' b' c' d' i',f a b c d i=f a' b' c' d' i'/\B a' b' c' d' i')=B a b c d i:=propext ⟨λ ⟨a',b',c',d',i',e,q⟩=>by obtain⟨rfl,rfl,rfl,rfl,rfl⟩:=inj _ _ _ _ _ _ _ _ _ _ e;exact q,λ q=>⟨a,b,c,d,i,rfl,q⟩⟩
theorem HG{α0 α1 α2 α3 α4:Type}{f:α0->α1->α2->α3->α4->List V}{B:α0->α1->α2->α3->α4->Prop}{vs:List V}{n:Nat}(h:∃ a b c d i,vs=f a b c d i/\B a b c d i)(l:∀ a b c d i,(f a b c d i).length=n):vs.length=n:=by
 obtain⟨_,_,_,_,_,rfl,_⟩:=h;exact l _ _ _ _ _
theorem II{P:List Value->Prop}(h:P []):∀ us:List Value,us.length=0->P us:=λ us e=>by
 cases us with
 | nil=>exact h
 | cons a r=>cases e
theorem fP{P:List Value->Prop}(h:∀ a,P [a]):∀ us:List Value,us.length=1->P us:=λ us e=>by
 cases us with
 | nil=>cases e
 | cons x r=>exact II (P:=λ r=>P (x::r)) (h x) r (K7 e)
theorem jr{P:List Value->Prop}(h:∀ a b,P [a,b]):∀ us:List Value,us.length=2->P us:=λ us e=>by
 cases us with
 | nil=>cases e
 | cons x r=>exact fP (P:=λ r=>P (x::r)) (h x) r (K7 e)
theorem rV{P:List Value->Prop}(h:∀ a b c,P [a,b,c]):∀ us:List Value,us.length=3->P us:=λ us e=>by
 cases us with
 | nil=>cases e
 | cons x r=>exact jr (P:=λ r=>P (x::r)) (h x) r (K7 e)
theorem CJ{P:List Value->Prop}(h:∀ a b c d,P [a,b,c,d]):∀ us:List Value,us.length=4->P us:=λ us e=>by
 cases us with
 | nil=>cases e
 | cons x r=>exact rV (P:=λ r=>P (x::r)) (h x) r (K7 e)
theorem HR{P:List Value->Prop}(h:∀ a b c d i,P [a,b,c,d,i]):∀ us:List Value,us.length=5->P us:=λ us e=>by
 cases us with
 | nil=>cases e
 | cons x r=>exact CJ (P:=λ r=>P (x::r)) (h x) r (K7 e)
section
variable {X:Cx}
theorem pvN(i:Nat){x:Str}{pos:Pos}(hN:X.N[i]? = some x:=by rfl)(hv:Vis X.env.scope x:=by first|exact Or.inl rfl|exact Or.inr (Or.inl rfl)|exact Or.inr (Or.inr rfl))(hd:(x == ("__debug__":Str))=false:=by decide)
  (hcd:(x == ("__classdict__":Str))=false:=by decide):PE X (.Name x pos) (tV i):=by rw [←Gq];exact pv i hN hv hd hcd
theorem bb:OpR X (binaryOp .Add) (nI0 λ i j=>.int (i+j)):=by rw [←jM];exact pN
theorem cb:OpR X (binaryOp .Sub) (nI0 λ i j=>.int (i - j)):=by rw [←jM];exact DT
theorem GA:OpR X (compareOp .Lt) (nI0 λ i j=>.bl (decide (i < j))):=by rw [←jM];exact Dd
theorem wH:OpR X (compareOp .LtE) (nI0 λ i j=>.bl (decide (i<=j))):=by rw [←jM];exact Gx
theorem qC:OpR X (compareOp .Gt) (nI0 λ i j=>.bl (decide (j < i))):=by rw [←jM];exact De
theorem GB:OpR X (compareOp .GtE) (nI0 λ i j=>.bl (decide (j<=i))):=by rw [←jM];exact Gy
theorem eh:OpR X (binaryOp .Mult) (nI jH λ i j=>.int (i * j)):=by rw [←sk];exact gT
theorem A6:OpR X (binaryOp .Mult) (nI An λ i j=>.int (i * j)):=by rw [←sk];exact A4
theorem A7:OpR X (binaryOp .FloorDiv) (nI Gp λ i j=>.int (i / j)):=by rw [←sk];exact A5
theorem pO:OpR X (binaryOp .Mod) (nI (λ _ j=>0 < j) λ i j=>.int (i % j)):=by rw [←sk];exact iD
theorem jL:OpR X (binaryOp .Pow) (nI Gn λ i j=>.int (i ^ j.toNat)):=by rw [←sk];exact DU
theorem tE:UnR X (unaryOp .USub) (nU λ i=>.int (-i)):=by rw [←GH];exact Dx
variable {a b c d e:Expr}{ta tb tc td t:TE}{pos:Pos}
theorem xk{op:CmpOp}{r:R2}(ho:OpR X (compareOp op) r)(ha:PE X a ta)(hb:PE X b tb)(hm:behindInMarks op b=false):PT X (.Compare a [op] [b] pos) (sj (tOp r ta tb)):=by rw [←p6];exact oU ho ha hb hm
theorem AI(h:PE X e t)(he:∀ whole,isTrue e X.env whole=(do let v ←whole;standAt e.pos;holding [v] (truthy v)):=by intro _;rfl):PT X e (sj t):=by rw [←uJ];exact DF h he
theorem uG{op op':CmpOp}{r r':R2}(ho:OpR X (compareOp op) r)(ho':OpR X (compareOp op') r')(ha:PE X a ta)(hb:PE X b tb)(hc:PE X c tc)
  (hm:lastMarks [op,op'] [b,c]=false:=by with_unfolding_all rfl):PE X (.Compare a [op,op'] [b,c] pos) (sY r r' ta tb tc):=by rw [←uK];exact xu ho ho' ha hb hc hm
variable {bU:List Expr}
theorem AY(ha:PE X a ta)(hb:PE X (.BoolOp .And (b::bU) pos) tb):PE X (.BoolOp .And (a::b::bU) pos) (zX ta tb):=by rw [←xE];exact DS ha hb
theorem tJ(ha:PE X a ta):PE X (.UnaryOp .Not a pos) (zS ta):=by rw [←xD];exact DQ ha
theorem aJ:PGs X [] wU:=by rw [←B8];exact AR
theorem uD{e:Expr}{es:List Expr}{t:TG}{u:TGs}(h1:PG X e t)(h2:PGs X es u)
  (hs:(assignEach (e::es) X.env).map (·.2)=assign e X.env::(assignEach es X.env).map (·.2):=by rfl):PGs X (e::es) (pT t u):=by rw [←yD];exact xm h1 h2 hs
end
theorem Fb{c:TT}{t u:TS}{nx:St->Hp->Prop}{rt:VK}{bk ct:St->Hp->Prop}{σ:St}{H:Hp}(R:St->Hp->Prop)(h:∀ nx':St->Hp->Prop,(∀ σ' H',R σ' H'->nx' σ' H')->Fi c t u ⟨nx',rt,bk,ct⟩ σ H)(k:∀ σ' H',R σ' H'->nx σ' H'):Fi c t u ⟨nx,rt,bk,ct⟩ σ H:=h nx k
theorem pZ{X:Cx}{e:Expr}{f:Str}{pos:Pos}{ta:TE}{K:W.Frag}(hK:X.K=K)(he:PE X e ta)(hb:attributeBase e f X.env (eval e X.env)=eval e X.env):PE X (.Attribute e f pos) (FO K ta f):=by subst hK;exact tL he hb
section
variable {X:Cx}
end
section
variable {prog:Program}{w:World}{A:Around}{E:Value->Shared->Prop}{s:Shared}
end
section
variable {X:Cx}
end
section
variable {k:Nat}{g:TG}{tt:TT}{te:TE}{σ:St}{Q:VK}{H:Hp}
end
structure IsC(K:W.Frag)(C:Addr):Prop where
 cl:Cls K C
 fc:W.findIn K (.ref C) "__class__"=some (some (.builtin "object.__class__"))
 ocs:W.specialIn K (.builtin "object.__class__") "__get__"=some (some (.builtin "getset_descriptor.__get__"))
 oct:W.takesIn K (.builtin "object.__class__")=some true
 mo:W.mroIn K C (.type "object")=some true
theorem yp{K:W.Frag}{C:Addr}:W.kitOne K (.ref C) (.ref C)=some true:=by
 unfold W.kitOne;rw [if_pos (by simp)]
def HN(K:W.Frag):List V->Hp->VK->Prop:=λ xs H Q=>∃ p C dx fs,xs=[.ref p,.ref C]/\H p=some (.ins C dx fs)/\IsC K C/\Q (.bl true) H
theorem Aq{K:W.Frag}{p C dx:Addr}{fs:List (Str × V)}{H:Hp}{Q:VK}(h:H p=some (.ins C dx fs))(ic:IsC K C)(q:Q (.bl true) H):HN K [.ref p,.ref C] H Q:=⟨p,C,dx,fs,rfl,h,ic,q⟩
theorem vV{X:Cx}{K:W.Frag}(hK:X.K=K):bt X (.builtin "isinstance") (HN K):=by
 subst hK;intro pins s σ H xs us Q I r h;obtain⟨p,C,dx,fs,rfl,hp,ic,q⟩:=h;obtain⟨u,w',rfl,rx,rc⟩:=ix r;cases (show w'=Value.ref C from rc);exact iT I rx (og.ins hp ic.cl ic.fc ic.ocs ic.oct ic.mo) yp (λ tk=>⟨.bl true,H,I.tok _,rfl,q⟩)
section
variable {X:Cx}
end
section
variable {prog:Program}{w:World}{A:Around}{E:Value->Shared->Prop}{K:Frag}{x C dx:Addr}{s:Shared}{name:Str}{v:Value}
end
section
variable {X:Cx}{e o value:Expr}{ta tv:TE}{f:Str}{pos pos':Pos}
end
open Sem (wp)
open AutoSeq1 (wpAny_loadPart')
section
variable {X:Cx}
end
def qE(o:Obj):Prop:=∃ vs,o.data=.fields vs/\vs[2]? = some .none
section
variable {prog:Program}{w:World}{A:Around}{E:Value->Shared->Prop}{s:Shared}
end
def Fy(X:Cx):Prop:=∃ (e:Addr) (oe:Obj) (u:HO),X.A.handled=some (.ref e)/\X.H₀ e=some (.frz oe u)/\qE oe
structure IT(P:Program)(w:World)(K:W.Frag)(tg:Expr)(J:It)(fp:List Addr)(it:Addr)(tn:Nat->Heap->Prop):Prop where
 mem:it∈fp
 obj:∀ i h,tn i h->∀ b∈fp,∃ o,h.get? b=some o/\∀ v,o.data ≠ .cell v
 keep:∀ i h h',tn i h->(∀ b∈fp,∀ o,h.get? b=some o->h'.get? b=some o)->tn i h'
 item:∀ (X:Cx),X.prog=P->X.w=w->X.K=K->Fy X->∀ (i:Nat) (pins:List (Addr × Obj)) (s:Shared) (σ:St) (H:Hp) (E:Value->Shared->Prop),Inv X pins σ H s->(∀ b∈fp,oi X pins H b)->tn i s.heap->J.go i H →
  wpAny (model P w) X.A (pyNext (.ref it)) (λ r s1=>∃ u,r=some u /\
   wpAny (model P w) X.A (letOwnedTupleGo tg (.ref it) u) (λ _ s2=>∃ x H',Inv X pins σ H' s2/\bZ x u/\J.yld i H x H'/\tn (i+1) s2.heap/\∀ b∈fp,H' b=none) E s1) E s
 done:∀ (X:Cx),X.prog=P->X.w=w->X.K=K->Fy X->∀ (i:Nat) (pins:List (Addr × Obj)) (s:Shared) (σ:St) (H:Hp) (E:Value->Shared->Prop),Inv X pins σ H s->(∀ b∈fp,oi X pins H b)->tn i s.heap->J.stop i H →
  wpAny (model P w) X.A (pyNext (.ref it)) (λ r s1=>r=none/\Inv X pins σ H s1) E s
section
variable {X:Cx}{tg:Expr}
end
structure iy(k:Nat)(e:Addr)(A:Around):Prop where
 hd:A.handled=some (.ref e)
 dp:A.depth+3 * k+5 < recursionLimit
 un:A.units+16 * k+200 < cLine
theorem iy.deeper{k:Nat}{e:Addr}{A:Around}(r:iy (k+1) e A)(env:Env):iy k e (A.deeper env):=
 ⟨r.hd,by have:=r.dp;show A.depth+1+3 * k+5 < _;omega,by have:=r.un;show A.units+3+16 * k+200 < _;omega⟩
theorem iy.depth{k:Nat}{e:Addr}{A:Around}(r:iy k e A):A.depth < recursionLimit:=by have:=r.dp;omega
theorem iy.units{k:Nat}{e:Addr}{A:Around}(r:iy k e A):A.units+64 < cLine:=by have:=r.un;omega
theorem eM.hand{k:Nat}{A:Around}(r:eM k A)(e:Addr):iy k e (A.mark (some (.ref e))):=⟨rfl,r.dp,r.un⟩
structure wV(P:Program)(w:World)(K:W.Frag)(mg:Str->Option Value)(base:Heap)(CX:CXT)(k:Nat)(f:Addr)(fd:FuncData)(ps:List Str)(sp:Sp):Prop where
 len:∀ vs H Q E,sp vs H Q E->vs.length=ps.length
 run:∀ (A:Around) (outer:List Env) (s:Shared) (H:Hp) (args:Args) (us:List Value) (vs:List V) (Q:VK) (E:XK) (e:Addr) (oe:Obj) (u:HO),iy k e A->H e=some (.frz oe u)->qE oe->wG P w K mg base A outer s H->BindsTo s fd args (ps.zip us)->bq vs us->sp vs H Q E →
  codeAny (model P w) A (.call (.ref f) args) (CR CX outer P w H s Q E) s
abbrev Cx.uncalm(X:Cx):Cx:={ X with calm:=false }
theorem Fd{CX:CXT}{P:Program}{w:World}{K:W.Frag}{mg:Str->Option Value}{base:Heap}{k:Nat}{f:Addr}{name qual:Str}{params:Arguments}{body:List Stmt}{scope:Scope}{dV kV doc pm cdv ct oc:Value}{an od:Option Addr}
  {osl:Array (Option Value)} {N ps:List Str} {sp:Sp} (lk:K.lookup f=some ⟨oc,od,.func (W.fnOf name qual params body scope dV kV doc pm an cdv ct),osl⟩) (hcd:W.codeIn K cdv qual=true) (S:ae N ps scope)
  (len:∀ vs H Q E,sp vs H Q E->vs.length=ps.length)
  (hbody:∀ (A:Around) (outer:List Env) (s:Shared) (H:Hp) (vs:List V) (Q:VK) (E:XK) (e:Addr),iy k e (A.deeper (envOfC qual scope s.heap.objs.size f cdv))->Fy (lT CX P w K mg base N qual scope f cdv A outer s H E).uncalm->sp vs H Q E →
   ∃ t,PSs (lT CX P w K mg base N qual scope f cdv A outer s H E).uncalm body t/\t { nx:=λ _ H'=>Q .non H',rt:=Q } (ak N vs) H) :
  wV P w K mg base CX (k+1) f (W.fnOf name qual params body scope dV kV doc pm an cdv ct) ps sp:=by
 refine⟨len,λ A outer s H args us vs Q E e oe ue hr hHe hnc e0 hb r hsp=>?_⟩;have hl:=len _ _ _ _ hsp;have KX:K.In s.heap:=e0.mod.kin.keeps λ b o e=>(e0.bs b o e).1;have lim:s.heap.NoLimit:=e0.mod.nolimit.keeps λ b o e=>(e0.bs b o e).1
 have hkind:∀ y∈ps.zip us,scope.names.lookup y.1=some .local\/(scope.names.lookup y.1=some .cell/\((cellsFrom (s.heap.objs.size+1) scope.names []).lookup y.1).isSome=true):=λ ⟨n,v⟩ hy=>by
  rcases S.par n (K9 hy).1 with q|q
  ·exact .inl q
  ·exact .inr ⟨q,W.cellsFrom_some _ _ _ (.inl q)⟩
 refine codeAny_call_function hr.depth (KX _ _ lk) rfl S.co S.gen rfl (W.codeRec_of KX hcd) (hb _ _ _ _ ?_);refine wpAny_newFunctionEnv_cells S.kind hkind λ env he s1 x=>?_;subst he;refine⟨lim.keeps x.toInCall.keep,codeAny_func ?_⟩;obtain⟨t,ht,hq⟩:=hbody A outer s H vs Q E e (hr.deeper _) ⟨e,oe,ue,hr.hd,hHe,hnc⟩ hsp;have e0':wG P w K mg base { A with handled:=none } outer s H:=⟨e0.frames,e0.mod,e0.bs,e0.bsz,e0.funs,e0.frf,e0.hok,e0.bare⟩;have I0:Inv (lT CX P w K mg base N qual scope f cdv { A with handled:=none } outer s H E) [] (ak N vs) H s1:=my S rfl e0' hl r x
 have I:Inv (lT CX P w K mg base N qual scope f cdv A outer s H E).uncalm [] (ak N vs) H s1:=
  ⟨⟨I0.ok.mod,I0.ok.kind,I0.ok.glob,I0.ok.blt,I0.ok.above,I0.ok.inj,I0.ok.has,I0.ok.cab,(λ z=>by cases z),I0.ok.frames,I0.ok.stk,I0.ok.exf,I0.ok.bs,I0.ok.bsz,I0.ok.noex,I0.ok.exfs,I0.ok.funs,I0.ok.frf⟩,I0.os,I0.bare,I0.base,I0.loc,I0.cell,I0.free,I0.freeC,I0.pin,I0.hok,I0.len⟩
 refine Ku (ht [] s1 (ak N vs) H _ I hq) (λ fl s' hs=>?_) λ e s' hs=>hs
 have fin:∀ {σ':St} {H':Hp} {v:V} {u:Value},Inv (lT CX P w K mg base N qual scope f cdv A outer s H E).uncalm [] σ' H' s'->bZ v u->Q v H'->CE outer P w H s Q u s':=
  λ {σ' H' v u} J rv q=>⟨v,H',J.os,J.bare,J.base,J.hok,rv,q⟩
 cases fl with
 | ret u=>
  obtain⟨v,σ',H',J,rv,q⟩:=hs;exact fin J rv q
 | next=>
  obtain⟨σ',H',J,q⟩:=hs;exact fin (v:=V.non) (u:=Value.none) J rfl q
 | brk=>
  obtain⟨_,_,_,q⟩:=hs;exact False.elim q
 | cont=>
  obtain⟨_,_,_,q⟩:=hs;exact False.elim q
theorem Fun.okH{P:Program}{w:World}{K:W.Frag}{mg:Str->Option Value}{base:Heap}{x qual:Str}{st:Stmt}{f:Addr}{fd:FuncData}{N ps:List Str}{k:Nat}{sp:Sp}(F:Fun K x qual st f fd)(S:ae N ps (aa st))(len:∀ vs H Q E,sp vs H Q E->vs.length=ps.length)
  (hbody:∀ (cdv:Value) (A:Around) (outer:List Env) (s:Shared) (H:Hp) (vs:List V) (Q:VK) (E:XK) (e:Addr),iy k e (A.deeper (envOfC qual (aa st) s.heap.objs.size f cdv))->Fy (lT CX0 P w K mg base N qual (aa st) f cdv A outer s H E).uncalm.nox->sp vs H Q E →
   ∃ t,PSs (lT CX0 P w K mg base N qual (aa st) f cdv A outer s H E).uncalm.nox (cK st) t/\t { nx:=λ _ H'=>Q .non H',rt:=Q } (ak N vs) H):wV P w K mg base CX0 (k+1) f fd ps sp:=by
 obtain⟨oc,od,kV,doc,pm,an,cdv,ct,osl,rfl,lk,hcd⟩:=F.ex;refine Fd lk hcd S len λ A outer s H vs Q E e hr hh hsp=>?_;obtain⟨t,h,q⟩:=hbody cdv A outer s H vs Q E e hr hh hsp;exact⟨t,h.nox,q⟩
section
variable {X:Cx}
def tq(e:Addr)(sp:Sp)(dvs:List V)(E:XK)(Q:VK):List V->Hp->Prop:=λ vs H=>(∃ (oe:Obj) (u:HO),H e=some (.frz oe u)/\qE oe)/\sp (vs++dvs) H Q E
def zl(e:Addr)(sp:Sp)(dvs:List V)(E:XK)(t:TA):TE:=λ σ H Q=>t σ H (tq e sp dvs E Q)
theorem xM(e:Addr)(sp:Sp)(dvs:List V)(E:XK)(t:TA)(σ:St)(H:Hp)(Q:VK):zl e sp dvs E t σ H Q=t σ H (tq e sp dvs E Q):=rfl
theorem fV{e:Addr}{sp:Sp}{dvs:List V}{E:XK}{Q:VK}{vs:List V}{H:Hp}{oe:Obj}(h:H e=some (gQ oe))(n:qE oe)(q:sp (vs++dvs) H Q E):tq e sp dvs E Q vs H:=⟨⟨oe,_,h,n⟩,q⟩
theorem xx{ee:Addr}{CX:CXT}{k:Nat}{f:Addr}{fd:FuncData}{ps:List Str}{sp:Sp}{ds:List Value}{dvs:List V}{E:XK}{x:Str}{e:Expr}{es:List Expr}{t:TA}{p pos:Pos}
  (F:wV X.prog X.w X.K X.mg X.base CX k f fd ps sp) (hr:eM k X.A) (hg:Gl (X.mark ee) x) (hm:X.mg x=some (.ref f)) (hk:W.keepIn X.K (.ref f)=true) (hb:aq X.K fd ps ds) (hd:bq dvs ds) (hx:ei CX (X.mark ee) E)
  (ha:PA (X.mark ee) (e::es) t) (hdb:(x == ("__debug__":Str))=false:=by decide) (he:starEach (e::es) (X.mark ee).env=(false,eval e (X.mark ee).env)::starEach es (X.mark ee).env:=by rfl) (hpl:(backTo pos (starEach es (X.mark ee).env)).any (·.1)=false:=by rfl) :
  PE (X.mark ee) (.Call (.Name x p) (e::es) [] pos) (zl ee sp dvs E t):=by
 intro pins s σ H Q I h;refine JT (cI (X:=X.mark ee) I hg hm ?_ hdb);refine KH (h₀:=X.base) I.ok.mod.kin hk (thn (ha pos pins s σ H _ I h) λ us s1 ⟨vs,H1,I1,r,q0⟩=>⟨I1.kIn,?_⟩) he hpl;obtain⟨⟨oe,u,hHe,hnc⟩,q⟩:=q0;have r2:bq (vs++dvs) (us++ds):=r.append hd;have hl:(us++ds).length=ps.length:=by rw [←r2.length];exact F.len _ _ _ _ q
 refine J7 (JK (F.run (X.mark ee).A X.stack s1 H1 ⟨us,[]⟩ (us++ds) (vs++dvs) Q E ee oe u (hr.hand ee) hHe hnc I1.env0 (hb s1 us I1.kIn hl) r2 q) λ rr s' hq=>?_)
 cases rr with
 | error ev=>exact hx pins σ H1 s1 ev s' I1 hq
 | ok fl=>
  cases fl with
  | ret u=>exact I1.after hq
  | next=>exact False.elim hq
  | brk=>exact False.elim hq
  | cont=>exact False.elim hq
end
section
variable {prog:Program}{w:World}{A:Around}{E:Value->Shared->Prop}{s:Shared}
structure Iy(z TI TO i j l:Addr)(f g e:List Addr):Prop where
 ti:TI ≠ z/\TI ≠ TO/\TI ≠ i/\TI ≠ j/\TI ≠ l
 zt:z ≠ TO
 zf:z ∉ f
 zg:z ∉ g
 ze:z ∉ e
 tf:TO ∉ f
 tg:TO ∉ g
 te:TO ∉ e
 ig:i ∉ g
 ie:i ∉ e
 jf:j ∉ f
 je:j ∉ e
 lf:l ∉ f
 lg:l ∉ g
variable {z TI TO i j l:Addr}{f g e:List Addr}{ti tj tl:Nat->Heap->Prop}{vi vj vl:Nat->Option Value}{k m n:Nat}{x y u a b c:Value}
end
section
variable {prog:Program}{w:World}{A:Around}{E:Value->Shared->Prop}{s:Shared}
end
section
variable {X:Cx}
end
section
variable {X:Cx}
end
section
variable {prog:Program}{w:World}{A:Around}{R:Result->Shared->Prop}{J:Addr}{fp wr:List Addr}{G:Array GenState->Array GenState->Prop}{n:Nat}{P:Nat->Value->Prop}{St:Nat->Shared->Prop}
end
section
variable {prog:Program}{w:World}{A:Around}{R:Result->Shared->Prop}{J:Addr}{fp wr:List Addr}{G:Array GenState->Array GenState->Prop}{n:Nat}{P:Nat->Value->Prop}{St:Nat->Shared->Prop}
end
abbrev PKy:=List Int × List Int
section
variable {prog:Program}{w:World}
end
section
variable {P:Program}{w:World}{H:Hp}{h:Heap}{a:Addr}
end
section
variable {X:Cx}{pins:List (Addr × Obj)}{σ:St}{H:Hp}{s:Shared}{d b:Addr}{k:PKy}{Z:List PKy}{A:Around}{E:Value->Shared->Prop}
end
section
variable {X:Cx}
end
section
variable {X:Cx}{e st:Expr}{te tst:TE}{pos p2:Pos}
end
section
variable {X:Cx}
end
section
variable {X:Cx}{a b:Expr}{ta tb:TE}{pos:Pos}{bU:List Expr}
end
open PySem.SeqAt
section
variable {X:Cx}
theorem kX(k:Bool):∀ {bs:List Bool}{vs:List Value},bq (bs.map V.bl) vs->∀ y,y∈vs->∀ (A:Around) (s:Shared),EqAt A s y (.bool k) (isBoolOf k y)
 | [],_,.nil,y,hy,_,_=>absurd hy Jo
 | b::bs,_,.cons (b:=u) r rr,y,hy,A,s=>by
  rcases Js.mp hy with e|hy
  ·have e2:u=.bool b:=r;rw [e,e2];exact EqAt.bool_bool b k
  ·exact kX k rr y hy A s
theorem mG(k:Bool):∀ {bs:List Bool}{vs:List Value},bq (bs.map V.bl) vs->vs.countP (isBoolOf k)=bs.count k
 | [],_,.nil=>rfl
 | b::bs,_,.cons (b:=u) r rr=>by
  have e2:u=.bool b:=r;rw [List.countP_cons,List.count_cons,mG k rr,e2];rfl
theorem k9(k:Bool):∀ {bs:List Bool}{vs:List Value},bq (bs.map V.bl) vs->∀ (j:Nat) (h:j < vs.length) (h':j < bs.length),isBoolOf k vs[j]=(bs[j] == k)
 | b::bs,_,.cons (b:=u) r rr,0,_,_=>by
  have e2:u=.bool b:=r;subst e2;rfl
 | b::bs,_,.cons (b:=u) r rr,j+1,h,h'=>k9 k rr j (by simpa using h) (by simpa using h')
def Ai(k:Bool)(H:Hp)(Q:VK):List Bool->Prop:=λ bs=>Q (.int (bs.count k:Nat)) H
theorem BS(k:Bool)(H:Hp)(Q:VK)(bs:List Bool):Ai k H Q bs=Q (.int (bs.count k:Nat)) H:=rfl
def zW:V->List V->Hp->VK->Prop:=λ x vs H Q=>match x,vs with
 | .ref l,[.bl k]=>aP (aQ H l) (zC (Ai k H Q))
 | _,_=>False
theorem Bw(l:Addr)(k:Bool)(H:Hp)(Q:VK):zW (.ref l) [.bl k] H Q=aP (aQ H l) (zC (Ai k H Q)):=rfl
theorem xG:MtM X "list.count" zW:=by
 intro pins s σ H x vs v us Q I rx rv h;unfold zW at h;split at h
 ·rename_i l k;obtain⟨xs,hx,bs,rfl,q⟩:=ao h;replace hx:=cy hx;cases rx
  cases rv with
  | cons rk rr=>
   cases rr;cases rk;obtain⟨z,its,n,r,hl,e⟩:=I.lstM hx;refine call_meets F.slot_list_count ⟨_,e,rfl⟩ F.entry_list_count (F.args_list_count_2 _ _) (list_countAt l its.toArray n _ _ (.bool k) (isBoolOf k)) ⟨e,λ y hy=>kX k r y (by simpa using hy) _ _,?_⟩;rw [show its.toArray.toList.countP (isBoolOf k)=bs.count k from mG k r];exact⟨.int (bs.count k:Nat),H,I.tok _,⟨_,rfl⟩,q⟩
 ·exact h.elim
def Af(k:Bool)(H:Hp)(Q:VK):List Bool->Prop:=λ bs=>k∈bs/\Q (.int (bs.idxOf k:Nat)) H
theorem BL(k:Bool)(H:Hp)(Q:VK)(bs:List Bool):Af k H Q bs=(k∈bs/\Q (.int (bs.idxOf k:Nat)) H):=rfl
def zV:V->List V->Hp->VK->Prop:=λ x vs H Q=>match x,vs with
 | .ref l,[.bl k]=>aP (aQ H l) (zC (Af k H Q))
 | _,_=>False
theorem Bv(l:Addr)(k:Bool)(H:Hp)(Q:VK):zV (.ref l) [.bl k] H Q=aP (aQ H l) (zC (Af k H Q)):=rfl
theorem xF:MtM X "list.index" zV:=by
 intro pins s σ H x vs v us Q I rx rv h;unfold zV at h;split at h
 ·rename_i l k;obtain⟨xs,hx,bs,rfl,hk,q⟩:=ao h;replace hx:=cy hx;cases rx
  cases rv with
  | cons rk rr=>
   cases rr;cases rk;obtain⟨z,its,n,r,hl,e⟩:=I.lstM hx;have hs:sizeLine=16777216:=sizeLine_eq;rw [Jg] at hl z;have hj:bs.idxOf k < bs.length:=List.idxOf_lt_length_iff.mpr hk;refine call_meets F.slot_list_index ⟨_,e,rfl⟩ F.entry_list_index (F.args_list_index_2 _ _) (list_indexAt l its.toArray n _ _ (.bool k) (isBoolOf k) (bs.idxOf k) (by simpa [←hl] using hj) (by omega) ?_ ?_) ⟨e,λ y hy=>kX k r y (by simpa using hy) _ _,?_⟩
   ·show isBoolOf k its[bs.idxOf k]=true
    rw [k9 k r _ (by omega) hj,List.getElem_idxOf hj];exact LA k
   ·intro j hjs hlt
    show isBoolOf k its[j]=false
    rw [k9 k r j (by simpa using hjs) (by omega)];exact eq_false_of_ne_true (by simpa using List.not_of_lt_findIdx hlt)
   ·exact⟨.int (bs.idxOf k:Nat),H,I.tok _,⟨_,rfl⟩,q⟩
 ·exact h.elim
end
structure Mk0(K:W.Frag)(C:Addr):Prop where
 makes:W.makesIn K C=true
 init:W.findIn K (.ref C) "__init__"=some (some (.builtin "object.__init__"))
 kp:W.keepIn K (.ref C)=true
def HL(C:Addr):TE:=λ _ H Q=>∀ x dx H',H x=none->H dx=none->dx ≠ x->Ext H H'->H' x=some (.ins C dx [])->H' dx=some (.own x)->Q (.ref x) H'
theorem Ew(C:Addr)(σ:St)(H:Hp)(Q:VK):HL C σ H Q=∀ x dx H',H x=none->H dx=none->dx ≠ x->Ext H H'->H' x=some (.ins C dx [])->H' dx=some (.own x)->Q (.ref x) H':=rfl
theorem tK{X:Cx}{C:Addr}{x:Str}{p pos:Pos}(M:Mk0 X.K C)(hg:Gl X x)(hm:X.mg x=some (.ref C))(hdb:(x == ("__debug__":Str))=false:=by decide):PE X (.Call (.Name x p) [] [] pos) (HL C):=by
 intro pins s σ H Q I h;refine JT (cI I hg hm ?_ hdb);refine W.callWith_K0 I.kIn M.kp ?_;have hx:H (s.heap.objs.size+1)=none:=I.hok.fresh (Kw _);have hd:H s.heap.objs.size=none:=I.hok.fresh (Je _);have ne:s.heap.objs.size ≠ s.heap.objs.size+1:=Jj (Ke _);have hq:=h (s.heap.objs.size+1) s.heap.objs.size (upd (upd H s.heap.objs.size (.own (s.heap.objs.size+1))) (s.heap.objs.size+1) (.ins C s.heap.objs.size [])) hx hd ne ((Ext.new hd).put hx) ag (by rw [ai ne,ag]);have I2:=Inv.made (C:=C) I;refine J7 (uL I.kIn M.makes M.init (λ self=>W.Looks.of_pure (W.oi_bind self)) ?_);have Y:=W.makes_of (M:=model X.prog X.w) I.kIn M.makes
 have e2:((s.heap.push W.emptyDict).push (W.instObj C s.heap.objs.size)).get? (s.heap.objs.size+1)=some (W.instObj C s.heap.objs.size):=by
  have:=Jf (s.heap.push W.emptyDict) (o:=W.instObj C s.heap.objs.size) rfl
  rwa [Jx] at this
 have t1:W.Looks (model X.prog X.w) ((s.heap.push W.emptyDict).push (W.instObj C s.heap.objs.size)) (typeOf (.ref (s.heap.objs.size+1))) (.ref C):=(W.Looks.ld e2).andThen .now;have t2:W.Looks (model X.prog X.w) ((s.heap.push W.emptyDict).push (W.instObj C s.heap.objs.size)) (isInstance (.ref (s.heap.objs.size+1)) (.type "object")) true:=t1.andThen (Y.top.keeps λ b o e=>IW _ (IW _ e));refine Kp W.oi_plain W.entry_oi (@W.check_slot (model X.prog X.w) _ _ _ "object.__init__" "object" "__init__" (.ref (s.heap.objs.size+1)) [] [] _ W.oi_kind W.oi_split t2 (W.oi_args (.ref (s.heap.objs.size+1))) ?_);rw [W.oi_run];exact Ja (And.intro rfl ⟨V.ref (s.heap.objs.size+1),_,I2,rfl,hq⟩)
structure MD(P:Program)(w:World)(K:W.Frag)(mg:Str->Option Value)(base:Heap)(CX:CXT)(k:Nat)(m:Str)(C:Addr)(sp:Sp):Prop where
 c:Cls K C
 ex:∃ f fd ps,eW K C m f/\aB P w K mg base CX k f fd ps sp/\aq K fd ps []
def pR(n:Nat)(cl:Nat->Addr)(m:Str)(sp:Nat->Sp)(E:XK)(Q:VK):VK:=λ x H=>∃ a i dx fs,x=.ref a/\i < n/\H a=some (.ins (cl i) dx fs)/\fs.lookup m=none/\sp i [.ref a] H Q E
def zp(n:Nat)(cl:Nat->Addr)(m:Str)(sp:Nat->Sp)(E:XK)(ta:TE):TE:=λ σ H Q=>ta σ H (pR n cl m sp E Q)
theorem xO(n:Nat)(cl:Nat->Addr)(m:Str)(sp:Nat->Sp)(E:XK)(ta:TE)(σ:St)(H:Hp)(Q:VK):zp n cl m sp E ta σ H Q=ta σ H (pR n cl m sp E Q):=rfl
theorem uE{X:Cx}{CX:CXT}{n k:Nat}{cl:Nat->Addr}{m:Str}{sp:Nat->Sp}{E:XK}{pos apos:Pos}{o:Expr}{ta:TE}{pl:Sem Bool}(he:PE X o ta)(hT:∀ i,i < n->MD X.prog X.w X.K X.mg X.base CX k m (cl i) (sp i))(hr:eM k X.A)(hx:ei CX X E)
  (ht:eval (.Call (.Attribute o m apos) [] [] pos) X.env=(do
   let ov ←eval o X.env
   standAt apos.atName
   let (f,first) ←holding [ov] (getMethod ov m pl)
   callWith pos f first (backTo pos (starEach [] X.env)) (backToKw pos (keywordEach [] X.env))):=by rfl) :
  PE X (.Call (.Attribute o m apos) [] [] pos) (zp n cl m sp E ta):=by
 intro pins s σ H Q I h;refine Ky (pl:=pl) (thn (he pins s σ H _ I h) λ u s1 ⟨x,H1,I1,rx,q0⟩=>?_) ht;obtain⟨a,i,dx,fs,ex,hi,ea,l,q⟩:=q0;obtain⟨c,f,fd,ps,hm,F,hb⟩:=hT i hi;subst ex;obtain rfl:u=Value.ref a:=rx;refine cZ I1 ea c hm l ?_;refine W.callWith_K0 (first:=[.ref a]) I1.kIn hm.kp ?_;exact l7 (us:=[.ref a]) (vs:=[.ref a]) F hr hb .nil hx I1 (.cons rfl .nil) q
section
variable {k:Nat}{g:TG}{tt:TT}{te:TE}{σ:St}{Q:VK}{H:Hp}
end
section
variable {X:Cx}
def pS(i:Nat)(tb:Addr->TS)(tr:Value->Option Addr->TS)(cls:Value)(d:Option Addr)(D:fO)(σ:St)(H:Hp):Bool->Prop:=λ b=>if b=true then ∀ (e:Addr) (oe:Obj),H e=none->oe.cls=cls->oe.dict=d->qE oe->cH i (.ref e) σ (upd H e (gQ oe)) (Aa i (tb e) (D.del i)) else tr cls d D σ H
theorem xV(i:Nat)(tb:Addr->TS)(tr:Value->Option Addr->TS)(cls:Value)(d:Option Addr)(D:fO)(σ:St)(H:Hp)(b:Bool):pS i tb tr cls d D σ H b=(if b=true then ∀ (e:Addr) (oe:Obj),H e=none->oe.cls=cls->oe.dict=d->qE oe->cH i (.ref e) σ (upd H e (gQ oe)) (Aa i (tb e) (D.del i)) else tr cls d D σ H):=rfl
def zi(K:W.Frag)(C:Value)(i:Nat)(tb:Addr->TS)(tr:Value->Option Addr->TS):Value->Option Addr->TS:=λ cls d D σ H=>aP (W.exmOne K cls C) (pS i tb tr cls d D σ H)
theorem xJ(K:W.Frag)(C:Value)(i:Nat)(tb:Addr->TS)(tr:Value->Option Addr->TS)(cls:Value)(d:Option Addr)(D:fO)(σ:St)(H:Hp):zi K C i tb tr cls d D σ H=aP (W.exmOne K cls C) (pS i tb tr cls d D σ H):=rfl
theorem AQ{x n:Str}{i:Nat}{np pos:Pos}{b₀:Stmt}{body:List Stmt}{bU:List ExceptHandler}{C:Value}{tb:Addr->TS}{tr:Value->Option Addr->TS}(hN:X.N.Nodup)(hi:X.N[i]? = some n)(hk:X.env.scope.names.lookup n=some .local)(hg:Gl X x)(hm:X.mg x=some C\/(X.mg x=none/\bootBuiltins x=some C/\x ≠ "__name__"))(hb:∀ e,PSs (X.mark e) (b₀::body) (tb e))(hr:PHs X bU tr)
  (hdb:(x == ("__debug__":Str))=false:=by decide):PHs X (.ExceptHandler (some (.Name x np)) (some n) (b₀::body) pos::bU) (zi X.K C i tb tr):=by
 intro pins s σ H D e T cls d I N hn ex h;obtain⟨b,hx,h⟩:=ao h;have Im:=I.mark e
 have ld:∀ {Q:Value->Shared->Prop} {E:Value->Shared->Prop},Q C s->wpAny (model X.prog X.w) (X.A.mark (some (.ref e))) (eval (.Name x np) X.env) Q E s:=λ {Q E} q=>by
  rcases hm with z|⟨z1,z2,z3⟩
  ·exact cI (X:=X.mark e) Im hg z q hdb
  ·exact jN (X:=X.mark e) Im hg z1 z2 q z3 hdb
 refine PySem.wpAny_handleBy_cons (PySem.codeAny_handlers_test (ld ((W.exm_one I.kIn (Fe ex) hx).here ?_))) (by intro q;cases q);unfold pS at h
 cases b with
 | false=>
  rw [Jt Ji] at h;exact hr pins s σ H D e T cls d I N hn ex h
 | true=>
  rw [Jw rfl] at h;refine PySem.codeAny_handlers_suite_as (Ck ex λ h' kp=>?_);obtain⟨oe,vs,oT,ts,he,hc,hd,hdat,_,_,_,_,_,h2c⟩:=ex;have N':lZ (X.mark e) pins e:=⟨N.s0,N.loc,N.cel,N.fs,N.pin⟩;have I':Inv (X.mark e) pins σ (upd H e (gQ oe)) { s with heap:=h' }:=(Im.kept (t':=s.toks) kp).track N' (kp _ _ he) hn;refine kF (X:=X.mark e) I' hN hi (.inl hk) (show bZ (.ref e) (.ref e) from rfl) (λ s1 I1=>?_) (.inr hk);have hh:tb e (D.del i) (σ.set i (some (.ref e))) (upd H e (gQ oe)):=h e oe hn hc hd ⟨vs,hdat,h2c⟩;refine Ku (hb e pins s1 _ _ (D.del i) I1 hh) (λ f s2 q=>?_) λ _ _ z=>z.elim
  show wpAny _ X.A _ _ _ s2
  have q':=SP.unmark I.ok q
  cases f with
  | next=>obtain⟨σ',H',J,q⟩:=q';exact kA J hi hk hN λ s3 J3=>⟨_,H',J3,q⟩
  | brk=>obtain⟨σ',H',J,q⟩:=q';exact kA J hi hk hN λ s3 J3=>⟨_,H',J3,q⟩
  | cont=>obtain⟨σ',H',J,q⟩:=q';exact kA J hi hk hN λ s3 J3=>⟨_,H',J3,q⟩
  | ret u=>obtain⟨v,σ',H',J,r,q⟩:=q';exact kA J hi hk hN λ s3 J3=>⟨v,_,H',J3,r,q⟩
end
def ky(n:Nat)(cl:Nat->Addr)(m:Str)(sp:Nat->Sp)(E:XK)(t:TA)(σ:St)(Q:VK):VK:=λ x H=>∃ a i dx fs,x=.ref a/\i < n/\H a=some (.ins (cl i) dx fs)/\fs.lookup m=none/\t σ H (λ vs H2=>sp i (.ref a::vs) H2 Q E)
def tU(n:Nat)(cl:Nat->Addr)(m:Str)(sp:Nat->Sp)(E:XK)(ta:TE)(t:TA):TE:=λ σ H Q=>ta σ H (ky n cl m sp E t σ Q)
theorem uQ(n:Nat)(cl:Nat->Addr)(m:Str)(sp:Nat->Sp)(E:XK)(ta:TE)(t:TA)(σ:St)(H:Hp)(Q:VK):tU n cl m sp E ta t σ H Q=ta σ H (ky n cl m sp E t σ Q):=rfl
def tS(n:Nat)(cl:Nat->Addr)(m:Str)(sp:Nat->Sp)(E:St->XK)(ta:TE)(t:TA):TE:=λ σ H Q=>ta σ H (ky n cl m sp (E σ) t σ Q)
theorem uP(n:Nat)(cl:Nat->Addr)(m:Str)(sp:Nat->Sp)(E:St->XK)(ta:TE)(t:TA)(σ:St)(H:Hp)(Q:VK):tS n cl m sp E ta t σ H Q=ta σ H (ky n cl m sp (E σ) t σ Q):=rfl
section
variable {X:Cx}{CX:CXT}{n k:Nat}{cl:Nat->Addr}{m:Str}{sp:Nat->Sp}{pos apos:Pos}{o e:Expr}{es:List Expr}{ta:TE}{t:TA}
theorem qL{E:XK}{pl:Sem Bool}(he:PE X o ta)(hT:∀ i,i < n->MD X.prog X.w X.K X.mg X.base CX k m (cl i) (sp i))(hr:eM k X.A)(hx:ei CX X E)(ha:PA X (e::es) t)
  (hst:starEach (e::es) X.env=(false,eval e X.env)::starEach es X.env:=by rfl) (hpl:(backTo pos (starEach es X.env)).any (·.1)=false:=by rfl)
  (ht:eval (.Call (.Attribute o m apos) (e::es) [] pos) X.env=(do
   let ov ←eval o X.env
   standAt apos.atName
   let (f,first) ←holding [ov] (getMethod ov m pl)
   callWith pos f first (backTo pos (starEach (e::es) X.env)) (backToKw pos (keywordEach [] X.env))):=by rfl) :
  PE X (.Call (.Attribute o m apos) (e::es) [] pos) (tU n cl m sp E ta t):=by
 intro pins s σ H Q I h;refine Ky (pl:=pl) (thn (he pins s σ H _ I h) λ u s1 ⟨x,H1,I1,rx,q0⟩=>?_) ht;obtain⟨a,i,dx,fs,ex,hi,ea,l,q⟩:=q0;obtain⟨c,f,fd,ps,hm,F,hb⟩:=hT i hi;subst ex;obtain rfl:u=Value.ref a:=rx;refine cZ I1 ea c hm l ?_;refine KH (first:=[.ref a]) (h₀:=X.base) I.ok.mod.kin hm.kp (thn (ha pos pins s1 σ H1 _ I1 q) λ us s2 ⟨vs,H2,I2,r,q2⟩=>⟨I2.kIn,?_⟩) hst hpl;exact l7 (us:=.ref a::us) (vs:=.ref a::vs) (ds:=[]) (dvs:=[]) F hr hb .nil hx I2 (.cons rfl r) (by rw [KR];exact q2)
theorem qK{E:St->XK}{pl:Sem Bool}(he:PE X o ta)(hT:∀ i,i < n->MD X.prog X.w X.K X.mg X.base CX k m (cl i) (sp i))(hr:eM k X.A)(hx:∀ σ,pV CX X (E σ) σ)(ha:PA X (e::es) t)
  (hst:starEach (e::es) X.env=(false,eval e X.env)::starEach es X.env:=by rfl) (hpl:(backTo pos (starEach es X.env)).any (·.1)=false:=by rfl)
  (ht:eval (.Call (.Attribute o m apos) (e::es) [] pos) X.env=(do
   let ov ←eval o X.env
   standAt apos.atName
   let (f,first) ←holding [ov] (getMethod ov m pl)
   callWith pos f first (backTo pos (starEach (e::es) X.env)) (backToKw pos (keywordEach [] X.env))):=by rfl) :
  PE X (.Call (.Attribute o m apos) (e::es) [] pos) (tS n cl m sp E ta t):=by
 intro pins s σ H Q I h;refine Ky (pl:=pl) (thn (he pins s σ H _ I h) λ u s1 ⟨x,H1,I1,rx,q0⟩=>?_) ht;obtain⟨a,i,dx,fs,ex,hi,ea,l,q⟩:=q0;obtain⟨c,f,fd,ps,hm,F,hb⟩:=hT i hi;subst ex;obtain rfl:u=Value.ref a:=rx;refine cZ I1 ea c hm l ?_;refine KH (first:=[.ref a]) (h₀:=X.base) I.ok.mod.kin hm.kp (thn (ha pos pins s1 σ H1 _ I1 q) λ us s2 ⟨vs,H2,I2,r,q2⟩=>⟨I2.kIn,?_⟩) hst hpl;exact AF (us:=.ref a::us) (vs:=.ref a::vs) (ds:=[]) (dvs:=[]) F hr hb .nil hx I2 (.cons rfl r) (by rw [KR];exact q2)
end
def HM(K:W.Frag):List V->Hp->VK->Prop:=λ xs H Q=>∃ p C S dx fs b,xs=[.ref p,.ref S]/\H p=some (.ins C dx fs)/\IsC K C/\W.kitOne K (.ref C) (.ref S)=some b/\Q (.bl b) H
theorem tD{K:W.Frag}{p C S dx:Addr}{fs:List (Str × V)}{b:Bool}{H:Hp}{Q:VK}(h:H p=some (.ins C dx fs))(ic:IsC K C)(kb:W.kitOne K (.ref C) (.ref S)=some b)(q:Q (.bl b) H):HM K [.ref p,.ref S] H Q:=⟨p,C,S,dx,fs,b,rfl,h,ic,kb,q⟩
theorem mM{X:Cx}{K:W.Frag}(hK:X.K=K):bt X (.builtin "isinstance") (HM K):=by
 subst hK;intro pins s σ H xs us Q I r h;obtain⟨p,C,S,dx,fs,b,rfl,hp,ic,kb,q⟩:=h;obtain⟨u,w',rfl,rx,rc⟩:=ix r;cases (show w'=Value.ref S from rc);exact iT I rx (og.ins hp ic.cl ic.fc ic.ocs ic.oct ic.mo) kb (λ tk=>⟨.bl b,H,I.tok _,rfl,q⟩)
end L2
namespace PH
def lY(ns:List Int):Prop:=ns.length<=8/\∀ n∈ns,1<=n/\n<=1000000000
def af:List Int->Int
 | []=>1
 | n::r=>n * af r
theorem bh:∀ ns ms:List Int,af (ns++ms)=af ns * af ms
 | [],ms=>by simp [af]
 | n::r,ms=>by simp only [List.cons_append,af,bh r ms,Int.mul_assoc]
theorem gJ(ns:List Int)(i:Nat)(z:Int)(h:ns[i]? = some z):af (ns.take (i+1))=af (ns.take i) * z:=by
 rw [Kb,h,bh];simp [af]
theorem mm:∀ ns:List Int,(∀ n∈ns,1<=n/\n<=1000000000)->1<=af ns/\af ns<=1000000000 ^ ns.length
 | [],_=>by simp [af]
 | n::r,h=>by
  obtain⟨h1,h2⟩:=mm r λ m hm=>h m (Jk _ hm);obtain⟨g1,g2⟩:=h n Jq;refine⟨?_,?_⟩
  ·show 1<=n * af r
   exact Int.le_trans (by omega) (Int.mul_le_mul g1 h1 (by decide) (by omega):1 * 1<=n * af r)
  ·show n * af r<=1000000000 ^ (r.length+1)
   rw [Int.pow_succ,Ld];exact Int.mul_le_mul h2 g2 (by omega) (Int.le_trans (by omega) h2)
theorem AN:∀ {k:Nat},k<=8->(1000000000:Int) ^ k<=1000000000 ^ 8
 | 0,_=>by decide
 | 1,_=>by decide
 | 2,_=>by decide
 | 3,_=>by decide
 | 4,_=>by decide
 | 5,_=>by decide
 | 6,_=>by decide
 | 7,_=>by decide
 | 8,_=>by decide
 | k+9,h=>by omega
theorem lY.prod{ns:List Int}(h:lY ns):1<=af ns/\af ns<=1000000000 ^ 8:=by
 obtain⟨a,b⟩:=mm ns h.2;exact⟨a,Int.le_trans b (AN h.1)⟩
theorem lY.take{ns:List Int}(h:lY ns)(i:Nat):lY (ns.take i):=⟨by have:=h.1;simp;omega,λ n hn=>h.2 n (Ka hn)⟩
def InR:List Int->List Int->Prop
 | [],[]=>True
 | n::r,x::xs=>(0<=x/\x < n)/\InR r xs
 | _,_=>False
open PySem L2
def vi:V->Int
 | .int i=>i
 | _=>0
theorem rX{α:Type}(l:List α):(l.filter λ _=>true)=l:=List.filter_eq_self.mpr λ _ _=>rfl
def aY(a:Int × Int):Int × Int:=(a.1,if a.1 > 1 then a.2 else 0)
def axL(axs:List (Int × Int)):List (List Int):=axs.map λ a=>[a.1,a.2]
def aE(axs:List (Int × Int)):Int:=(axs.map λ a=>min 0 ((a.1 - 1) * a.2)).sum
def aF(axs:List (Int × Int)):Int:=(axs.map λ a=>max 0 ((a.1 - 1) * a.2)).sum
def dQ(axs:List (Int × Int)):Prop:=axs.length<=8/\∀ a∈axs,1<=a.1/\a.1<=1000000000
structure jP(room first:Int)(axs:List (Int × Int)):Prop where
 ax:dQ axs
 r1:1<=room
 r2:room<=1000000000000000000
 lo:0<=first+aE (axs.map aY)
 hi:first+aF (axs.map aY) < room
theorem dQ.kept{axs:List (Int × Int)}(h:dQ axs):dQ (axs.map aY):=⟨by rw [Jg];exact h.1,λ a ha=>by
 obtain⟨b,hb,rfl⟩:=JI.mp ha;exact h.2 b hb⟩
theorem dQ.sizes{axs:List (Int × Int)}(h:dQ axs):lY (axs.map λ a=>a.1):=⟨by rw [Jg];exact h.1,λ n hn=>by
 obtain⟨b,hb,rfl⟩:=JI.mp hn;exact h.2 b hb⟩
def cX(room first:Int)(l:Addr):List (Str × V):=dZ "axes" (.ref l) (dZ "first" (.int first) (dZ "room" (.int room) []))
theorem GF:¬ (("room":Str) = "axes"):=by decide +kernel
theorem GD:¬ (("room":Str) = "first"):=by decide +kernel
theorem GG:¬ (("first":Str) = "axes"):=by decide +kernel
theorem bK(room first:Int)(l:Addr):(cX room first l).lookup ("room":Str)=some (.int room):=by
 unfold cX;rw [aA,if_neg GF,aA,if_neg GD,aA,if_pos rfl]
theorem du(room first:Int)(l:Addr):(cX room first l).lookup ("first":Str)=some (.int first):=by
 unfold cX;rw [aA,if_neg GG,aA,if_pos rfl]
theorem cY(room first:Int)(l:Addr):(cX room first l).lookup ("axes":Str)=some (.ref l):=by
 unfold cX;rw [aA,if_pos rfl]
theorem wX(room first:Int)(l:Addr){m:Str}(h1:¬ m = "axes")(h2:¬ m = "first")(h3:¬ m = "room"):(cX room first l).lookup m=none:=by
 unfold cX;rw [aA,if_neg h1,aA,if_neg h2,aA,if_neg h3];rfl
theorem bC:∀ ns:List Int,(∀ n∈ns,(1:Int)<=n)->1<=af ns
 | [],_=>by simp [af]
 | n::ns,h=>by
  have h1:=h n Jq;have h2:=bC ns λ m hm=>h m (Jk _ hm)
  show 1<=n * af ns
  have:=Int.mul_le_mul h1 h2 (by decide) (by omega);omega
theorem pq(l:List (Int × Int))(a:Int × Int):aE (l++[a])=aE l+min 0 (a.2 * (a.1 - 1)):=by
 unfold aE;rw [map_append,List.sum_append,Int.mul_comm a.2];simp
theorem pA(l:List (Int × Int))(a:Int × Int):aF (l++[a])=aF l+max 0 (a.2 * (a.1 - 1)):=by
 unfold aF;rw [map_append,List.sum_append,Int.mul_comm a.2];simp
theorem dw(a:Int × Int)(l:List (Int × Int)):aE (a::l)=min 0 ((a.1 - 1) * a.2)+aE l:=by unfold aE;simp
theorem dA(a:Int × Int)(l:List (Int × Int)):aF (a::l)=max 0 ((a.1 - 1) * a.2)+aF l:=by unfold aF;simp
def rY(xs ps:List Int):Int:=(List.zipWith (λ x p=>x * p) xs ps).sum
theorem pe{x p s:Int}(h0:0<=x)(h1:x<=s - 1):min 0 ((s - 1) * p)<=x * p/\x * p<=max 0 ((s - 1) * p):=by
 rcases Int.le_total 0 p with hp|hp
 ·have a:=Int.mul_nonneg h0 hp;have b:=JV h1 hp;omega
 ·have a:=Int.mul_nonneg h0 (show 0<=-p by omega);have b:=JV h1 (show 0<=-p by omega);rw [Int.mul_neg] at a b;rw [Int.mul_neg] at b;omega
theorem i6:∀ (axs:List (Int × Int)) (xs:List Int),InR (axs.map λ a=>a.1) xs->aE axs<=rY xs (axs.map λ a=>a.2)/\rY xs (axs.map λ a=>a.2)<=aF axs
 | [],[],_=>by decide
 | [],_::_,h=>h.elim
 | _::_,[],h=>h.elim
 | a::r,x::xs,⟨⟨h0,h1⟩,h⟩=>by
  obtain⟨b1,b2⟩:=i6 r xs h
  have e:rY (x::xs) ((a::r).map λ a=>a.2)=x * a.2+rY xs (r.map λ a=>a.2):=by
   unfold rY;rw [map_cons,List.zipWith_cons_cons,List.sum_cons]
  rw [dw,dA,e];have h1':x < a.1:=h1;obtain⟨c1,c2⟩:=pe (p:=a.2) h0 (show x<=a.1 - 1 by omega);omega
theorem gb(ns:List Int)(h:∀ n∈ns,(1:Int)<=n)(i:Nat):af (ns.take i)<=af ns:=by
 have e:af ns=af (ns.take i) * af (ns.drop i):=by rw [←bh,List.take_append_drop]
 have a:=bC (ns.take i) λ n hn=>h n (Ka hn);have b:=bC (ns.drop i) λ n hn=>h n (List.mem_of_mem_drop hn);rw [e];have:=JJ b (show 0<=af (ns.take i) by omega);omega
def bN(cs:List Int)(a:Int × Int):List Int:=cs.flatMap λ c=>(List.range a.1.toNat).map λ (n:Nat)=>c+(n:Int) * a.2
def aj(first:Int)(axs:List (Int × Int)):List Int:=axs.foldl bN [first]
theorem iH(cs:List Int)(a:Int × Int):(bN cs a).length=cs.length * a.1.toNat:=by
 unfold bN
 induction cs with
 | nil=>simp
 | cons c r ih=>rw [List.flatMap_cons,J0,ih,Jg,Kc,Kz,Nat.add_mul];omega
theorem i7(first:Int)(axs:List (Int × Int))(a:Int × Int):aj first (axs++[a])=bN (aj first axs) a:=by
 unfold aj;rw [List.foldl_append];rfl
theorem mD:∀ (axs:List (Int × Int)) (cs:List Int),(∀ a∈axs,(1:Int)<=a.1)->((axs.foldl bN cs).length:Int)=cs.length * af (axs.map λ a=>a.1)
 | [],cs,_=>by simp [af]
 | a::r,cs,h=>by
  have ha:=h a Jq;rw [Ln,mD r (bN cs a) λ b hb=>h b (Jk _ hb),iH,LK,JX (by omega),Int.mul_assoc];rfl
theorem aU(first:Int)(axs:List (Int × Int))(h:∀ a∈axs,(1:Int)<=a.1):((aj first axs).length:Int)=af (axs.map λ a=>a.1):=by
 unfold aj;rw [mD axs [first] h];simp
theorem mC:∀ (axs:List (Int × Int)) (cs:List Int) (M:Int),M∈axs.foldl bN cs ↔ ∃ c∈cs,∃ xs,InR (axs.map λ a=>a.1) xs/\M=c+rY xs (axs.map λ a=>a.2)
 | [],cs,M=>by
  refine⟨λ h=>⟨M,h,[],trivial,by simp [rY]⟩,λ ⟨c,hc,xs,hx,e⟩=>?_⟩
  match xs,hx with
  | [],_=>rw [e];simpa [rY] using hc
 | a::r,cs,M=>by
  rw [Ln,mC r (bN cs a) M]
  have de:∀ (x:Int) (xs:List Int),rY (x::xs) ((a::r).map λ a=>a.2)=x * a.2+rY xs (r.map λ a=>a.2):=λ x xs=>by
   unfold rY;rw [map_cons,List.zipWith_cons_cons,List.sum_cons]
  constructor
  ·rintro ⟨c,hc,xs,hx,e⟩;unfold bN at hc;obtain⟨c0,hc0,hc1⟩:=List.mem_flatMap.mp hc;obtain⟨n,hn,rfl⟩:=List.mem_map.mp hc1;have hn':=List.mem_range.mp hn;refine⟨c0,hc0,(n:Int)::xs,⟨⟨by omega,?_⟩,hx⟩,by rw [de,e];omega⟩
   show (n:Int) < a.1
   omega
  ·rintro ⟨c,hc,xs,hx,e⟩
   match xs,hx with
   | x::xs,⟨⟨h0,h1⟩,hx⟩=>
    have h1':x < a.1:=h1;refine⟨c+x * a.2,?_,xs,hx,by rw [e,de];omega⟩;unfold bN;refine List.mem_flatMap.mpr ⟨c,hc,List.mem_map.mpr ⟨x.toNat,List.mem_range.mpr (by omega),?_⟩⟩;rw [Int.toNat_of_nonneg h0]
theorem rE(first:Int)(axs:List (Int × Int))(M:Int):M∈aj first axs ↔ ∃ xs,InR (axs.map λ a=>a.1) xs/\M=first+rY xs (axs.map λ a=>a.2):=by
 unfold aj;rw [mC];refine⟨λ ⟨c,hc,xs,hx,e⟩=>⟨xs,hx,by rw [e,List.mem_singleton.mp hc]⟩,λ ⟨xs,hx,e⟩=>⟨first,List.mem_singleton.mpr rfl,xs,hx,e⟩⟩
def top(i:Nat):Stmt:=PySem.Challenge.pw_pacehall_k81_statements.main.body.getD i (.Pass ⟨0,0,0,0⟩)
abbrev bH:Stmt:=av (top 8) 0
theorem gp:ae ["self", "number"] ["self", "number"] (aa bH):=⟨rfl,rfl,rfl,by decide +kernel,rfl,by decide +kernel,by decide +kernel⟩
abbrev gC:Stmt:=top 10
theorem rN:ae ["thing"] ["thing"] (aa gC):=⟨rfl,rfl,rfl,by decide +kernel,rfl,by decide +kernel,by decide +kernel⟩
abbrev gD:Stmt:=top 13
theorem eT:ae ["sizes", "count", "size"] ["sizes"] (aa gD):=⟨rfl,rfl,rfl,by decide +kernel,rfl,by decide +kernel,by decide +kernel⟩
abbrev dh:Stmt:=top 14
abbrev jS:Stmt:=top 15
abbrev dF:Stmt:=top 16
theorem gi:ae ["count"] ["count"] (aa dF):=⟨rfl,rfl,rfl,by decide +kernel,rfl,by decide +kernel,by decide +kernel⟩
abbrev fm:Stmt:=top 21
theorem pI:ae ["thing", "low", "high"] ["thing", "low", "high"] (aa fm):=⟨rfl,rfl,rfl,by decide +kernel,rfl,by decide +kernel,by decide +kernel⟩
abbrev iM:Stmt:=top 22
theorem wy:ae ["thing"] ["thing"] (aa iM):=⟨rfl,rfl,rfl,by decide +kernel,rfl,by decide +kernel,by decide +kernel⟩
abbrev iN:Stmt:=top 23
theorem wz:ae ["thing"] ["thing"] (aa iN):=⟨rfl,rfl,rfl,by decide +kernel,rfl,by decide +kernel,by decide +kernel⟩
abbrev eP:Stmt:=top 24
theorem rO:ae ["thing"] ["thing"] (aa eP):=⟨rfl,rfl,rfl,by decide +kernel,rfl,by decide +kernel,by decide +kernel⟩
abbrev fk:Stmt:=top 25
theorem pH:ae ["axis"] ["axis"] (aa fk):=⟨rfl,rfl,rfl,by decide +kernel,rfl,by decide +kernel,by decide +kernel⟩
abbrev bE:Stmt:=av (top 26) 0
theorem jm:ae ["self", "room", "first", "axes"] ["self", "room", "first", "axes"] (aa bE):=⟨rfl,rfl,rfl,by decide +kernel,rfl,by decide +kernel,by decide +kernel⟩
abbrev cB:Stmt:=av (top 26) 1
theorem nX:ae ["self"] ["self"] (aa cB):=⟨rfl,rfl,rfl,by decide +kernel,rfl,by decide +kernel,by decide +kernel⟩
abbrev gU:Stmt:=av (top 26) 2
abbrev eE:Stmt:=av (top 26) 3
theorem nZ:ae ["self"] ["self"] (aa eE):=⟨rfl,rfl,rfl,by decide +kernel,rfl,by decide +kernel,by decide +kernel⟩
abbrev iY:Stmt:=av (top 26) 4
abbrev eF:Stmt:=av (top 26) 6
theorem aG:ae ["self", "found", "size", "pace"] ["self"] (aa eF):=⟨rfl,rfl,rfl,by decide +kernel,rfl,by decide +kernel,by decide +kernel⟩
abbrev cD:Stmt:=av (top 26) 7
theorem nY:ae ["self"] ["self"] (aa cD):=⟨rfl,rfl,rfl,by decide +kernel,rfl,by decide +kernel,by decide +kernel⟩
abbrev bD:Stmt:=av (top 26) 8
theorem jl:ae ["self"] ["self"] (aa bD):=⟨rfl,rfl,rfl,by decide +kernel,rfl,by decide +kernel,by decide +kernel⟩
abbrev fW:Stmt:=top 27
theorem iU:ae ["cells", "size", "pace", "found", "cell"] ["cells", "size", "pace"] (aa fW):=⟨rfl,rfl,rfl,by decide +kernel,rfl,by decide +kernel,by decide +kernel⟩
abbrev cL:Stmt:=top 29
theorem fe:ae ["one", "other"] ["one", "other"] (aa cL):=⟨rfl,rfl,rfl,by decide +kernel,rfl,by decide +kernel,by decide +kernel⟩
abbrev cM:Stmt:=top 31
theorem ff:ae ["view", "many"] ["view", "many"] (aa cM):=⟨rfl,rfl,rfl,by decide +kernel,rfl,by decide +kernel,by decide +kernel⟩
abbrev bX:Stmt:=av (top 32) 0
theorem ik:ae ["self", "values"] ["self", "values"] (aa bX):=⟨rfl,rfl,rfl,by decide +kernel,rfl,by decide +kernel,by decide +kernel⟩
abbrev bI:Stmt:=av (top 32) 1
theorem gq:ae ["self"] ["self"] (aa bI):=⟨rfl,rfl,rfl,by decide +kernel,rfl,by decide +kernel,by decide +kernel⟩
abbrev bw:Stmt:=av (top 32) 2
theorem cv:ae ["self", "view"] ["self", "view"] (aa bw):=⟨rfl,rfl,rfl,by decide +kernel,rfl,by decide +kernel,by decide +kernel⟩
abbrev bS:Stmt:=av (top 32) 3
theorem gZ:ae ["self", "view"] ["self", "view"] (aa bS):=⟨rfl,rfl,rfl,by decide +kernel,rfl,by decide +kernel,by decide +kernel⟩
abbrev fB:Stmt:=av (top 32) 4
theorem fH:ae ["self", "view", "values", "cell", "value"] ["self", "view", "values"] (aa fB):=⟨rfl,rfl,rfl,by decide +kernel,rfl,by decide +kernel,by decide +kernel⟩
abbrev eH:Stmt:=av (top 32) 5
theorem cF:ae ["self", "view", "value", "cell"] ["self", "view", "value"] (aa eH):=⟨rfl,rfl,rfl,by decide +kernel,rfl,by decide +kernel,by decide +kernel⟩
abbrev cQ:Stmt:=av (top 32) 6
theorem fg:ae ["self", "to", "source"] ["self", "to", "source"] (aa cQ):=⟨rfl,rfl,rfl,by decide +kernel,rfl,by decide +kernel,by decide +kernel⟩
abbrev eu:Stmt:=top 34
theorem gY:ae ["one", "other"] ["one", "other"] (aa eu):=⟨rfl,rfl,rfl,by decide +kernel,rfl,by decide +kernel,by decide +kernel⟩
abbrev bJ:Stmt:=av (top 35) 0
theorem gr:ae ["self"] ["self"] (aa bJ):=⟨rfl,rfl,rfl,by decide +kernel,rfl,by decide +kernel,by decide +kernel⟩
abbrev bM:Stmt:=av (top 35) 1
theorem dj:ae ["self"] ["self"] (aa bM):=⟨rfl,rfl,rfl,by decide +kernel,rfl,by decide +kernel,by decide +kernel⟩
abbrev cn:Stmt:=av (top 35) 2
theorem eK:ae ["self", "store"] ["self", "store"] (aa cn):=⟨rfl,rfl,rfl,by decide +kernel,rfl,by decide +kernel,by decide +kernel⟩
abbrev cq:Stmt:=av (top 36) 0
theorem jo:ae ["self", "to", "value"] ["self", "to", "value"] (aa cq):=⟨rfl,rfl,rfl,by decide +kernel,rfl,by decide +kernel,by decide +kernel⟩
abbrev dI:Stmt:=av (top 36) 1
theorem lQ:ae ["self"] ["self"] (aa dI):=⟨rfl,rfl,rfl,by decide +kernel,rfl,by decide +kernel,by decide +kernel⟩
abbrev gG:Stmt:=av (top 36) 2
theorem j7:ae ["self", "store"] ["self", "store"] (aa gG):=⟨rfl,rfl,rfl,by decide +kernel,rfl,by decide +kernel,by decide +kernel⟩
abbrev cu:Stmt:=av (top 37) 0
theorem eL:ae ["self", "to", "source"] ["self", "to", "source"] (aa cu):=⟨rfl,rfl,rfl,by decide +kernel,rfl,by decide +kernel,by decide +kernel⟩
abbrev dJ:Stmt:=av (top 37) 1
theorem lR:ae ["self"] ["self"] (aa dJ):=⟨rfl,rfl,rfl,by decide +kernel,rfl,by decide +kernel,by decide +kernel⟩
abbrev eI:Stmt:=av (top 37) 2
theorem n9:ae ["self"] ["self"] (aa eI):=⟨rfl,rfl,rfl,by decide +kernel,rfl,by decide +kernel,by decide +kernel⟩
abbrev gH:Stmt:=av (top 37) 3
theorem j8:ae ["self", "store"] ["self", "store"] (aa gH):=⟨rfl,rfl,rfl,by decide +kernel,rfl,by decide +kernel,by decide +kernel⟩
abbrev cj:Stmt:=av (top 38) 0
theorem jn:ae ["self", "one", "other"] ["self", "one", "other"] (aa cj):=⟨rfl,rfl,rfl,by decide +kernel,rfl,by decide +kernel,by decide +kernel⟩
abbrev dG:Stmt:=av (top 38) 1
theorem lO:ae ["self"] ["self"] (aa dG):=⟨rfl,rfl,rfl,by decide +kernel,rfl,by decide +kernel,by decide +kernel⟩
abbrev eG:Stmt:=av (top 38) 2
theorem n6:ae ["self"] ["self"] (aa eG):=⟨rfl,rfl,rfl,by decide +kernel,rfl,by decide +kernel,by decide +kernel⟩
abbrev gF:Stmt:=av (top 38) 3
theorem b8:ae ["self", "store", "ours", "theirs"] ["self", "store"] (aa gF):=⟨rfl,rfl,rfl,by decide +kernel,rfl,by decide +kernel,by decide +kernel⟩
abbrev bY:Stmt:=av (top 39) 0
theorem il:ae ["self", "to", "source"] ["self", "to", "source"] (aa bY):=⟨rfl,rfl,rfl,by decide +kernel,rfl,by decide +kernel,by decide +kernel⟩
abbrev cR:Stmt:=av (top 39) 1
theorem jF:ae ["self"] ["self"] (aa cR):=⟨rfl,rfl,rfl,by decide +kernel,rfl,by decide +kernel,by decide +kernel⟩
abbrev dH:Stmt:=av (top 39) 2
theorem lP:ae ["self"] ["self"] (aa dH):=⟨rfl,rfl,rfl,by decide +kernel,rfl,by decide +kernel,by decide +kernel⟩
abbrev cf:Stmt:=av (top 39) 3
theorem dE:ae ["self", "store", "more"] ["self", "store"] (aa cf):=⟨rfl,rfl,rfl,by decide +kernel,rfl,by decide +kernel,by decide +kernel⟩
abbrev fz:Stmt:=top 41
theorem dD:ae ["_law_script", "_law_k", "_law_many", "_law_number", "_law_cell"] ["_law_script", "_law_k", "_law_many"] (aa fz):=⟨rfl,rfl,rfl,by decide +kernel,rfl,by decide +kernel,by decide +kernel⟩
abbrev ey:Stmt:=top 42
theorem nW:ae ["_law_found"] ["_law_found"] (aa ey):=⟨rfl,rfl,rfl,by decide +kernel,rfl,by decide +kernel,by decide +kernel⟩
abbrev dv:Stmt:=top 43
theorem pK:ae ["_law_found", "_law_due_here"] ["_law_found", "_law_due_here"] (aa dv):=⟨rfl,rfl,rfl,by decide +kernel,rfl,by decide +kernel,by decide +kernel⟩
abbrev eB:Stmt:=top 44
theorem bA:ae ["_law_script", "_law_at", "_law_sizes_here", "_law_count", "_law_k", "_law_size"] ["_law_script", "_law_at"] (aa eB):=⟨rfl,rfl,rfl,by decide +kernel,rfl,by decide +kernel,by decide +kernel⟩
abbrev fA:Stmt:=top 45
theorem aX:ae ["_law_script", "_law_at", "_law_sizes_here", "_law_axes_here", "_law_inner", "_law_k", "_law_size", "_law_cell", "_law_pace"] ["_law_script", "_law_at", "_law_sizes_here"] (aa fA):=⟨rfl,rfl,rfl,by decide +kernel,rfl,by decide +kernel,by decide +kernel⟩
abbrev eC:Stmt:=top 46
theorem bj:ae ["_law_axes_here", "_law_low", "_law_high", "_law_size", "_law_pace"] ["_law_axes_here"] (aa eC):=⟨rfl,rfl,rfl,by decide +kernel,rfl,by decide +kernel,by decide +kernel⟩
abbrev bR:Stmt:=top 47
theorem aD:ae ["_law_script", "_law_sizes_here", "_law_count", "_law_others", "_law_both", "_law_reach_here", "_law_room", "_law_found", "_law_k", "_law_low", "_law_high"] ["_law_script"] (aa bR):=⟨rfl,rfl,rfl,by decide +kernel,rfl,by decide +kernel,by decide +kernel⟩
abbrev cA:Stmt:=top 48
theorem bo:ae ["_law_first", "_law_axes_here", "_law_cells_here", "_law_size", "_law_pace", "_law_more", "_law_cell"] ["_law_first", "_law_axes_here"] (aa cA):=⟨rfl,rfl,rfl,by decide +kernel,rfl,by decide +kernel,by decide +kernel⟩
abbrev b7:Stmt:=top 49
theorem lN:ae ["_law_script", "_law_room"] ["_law_script", "_law_room"] (aa b7):=⟨rfl,rfl,rfl,by decide +kernel,rfl,by decide +kernel,by decide +kernel⟩
abbrev ft:Stmt:=top 50
theorem pJ:ae ["_law_room", "_law_one"] ["_law_room", "_law_one"] (aa ft):=⟨rfl,rfl,rfl,by decide +kernel,rfl,by decide +kernel,by decide +kernel⟩
abbrev fx:Stmt:=top 51
theorem fG:ae ["_law_found", "_law_views_here", "_law_one", "_law_other"] ["_law_found", "_law_views_here"] (aa fx):=⟨rfl,rfl,rfl,by decide +kernel,rfl,by decide +kernel,by decide +kernel⟩
abbrev fy:Stmt:=top 52
theorem i9:ae ["_law_way", "_law_one", "_law_other", "_law_value"] ["_law_way", "_law_one", "_law_other", "_law_value"] (aa fy):=⟨rfl,rfl,rfl,by decide +kernel,rfl,by decide +kernel,by decide +kernel⟩
abbrev fw:Stmt:=top 53
theorem dC:ae ["_law_statement", "_law_way", "_law_one", "_law_other", "_law_writes", "_law_reads", "_law_found"] ["_law_statement", "_law_way", "_law_one", "_law_other"] (aa fw):=⟨rfl,rfl,rfl,by decide +kernel,rfl,by decide +kernel,by decide +kernel⟩
abbrev gE:Stmt:=top 54
theorem bL:ae ["_law_due_here", "_law_way", "_law_here", "_law_there", "_law_value", "_law_found", "_law_cell", "_law_ahead"] ["_law_due_here", "_law_way", "_law_here", "_law_there", "_law_value"] (aa gE):=⟨rfl,rfl,rfl,by decide +kernel,rfl,by decide +kernel,by decide +kernel⟩
abbrev fq:Stmt:=top 55
theorem i8:ae ["_law_e", "_law_some"] ["_law_e"] (aa fq):=⟨rfl,rfl,rfl,by decide +kernel,rfl,by decide +kernel,by decide +kernel⟩
abbrev cO:Stmt:=top 56
theorem cW:ae ["_law_way", "_law_one", "_law_other", "_law_store", "_law_statement", "_law_e"] ["_law_way", "_law_one", "_law_other", "_law_store"] (aa cO):=⟨rfl,rfl,rfl,by decide +kernel,rfl,by decide +kernel,by decide +kernel⟩
abbrev bG:Stmt:=top 57
theorem ba:ae ["_law_script", "_law_room", "_law_store", "_law_one", "_law_way", "_law_size", "_law_many", "_law_beyond"] ["_law_script", "_law_room", "_law_store", "_law_one", "_law_way"] (aa bG):=⟨rfl,rfl,rfl,by decide +kernel,rfl,by decide +kernel,by decide +kernel⟩
abbrev ko:Stmt:=top 58
theorem eU:ae ["_law_script", "_law_room", "_law_to", "_law_source", "_law_one", "_law_other", "_law_here", "_law_there", "_law_due_here", "_law_store", "_law_value", "_law_k", "_law_way", "_law_statement", "_law_turn"] ["_law_script"] (aa ko):=⟨rfl,rfl,rfl,by decide +kernel,rfl,by decide +kernel,by decide +kernel⟩
set_option genInjectivity false in
structure Adr where
 a_PaceError:Addr
 a_NoPlace:Addr
 a_NoCells:Addr
 a_NoView:Addr
 a_NoCount:Addr
 a_NoPair:Addr
 a_TooMany:Addr
 a_View:Addr
 a_Store:Addr
 a_Statement:Addr
 a_Fill:Addr
 a_Copy:Addr
 a_Swap:Addr
 a_Raise:Addr
 a_TooMany___init__:Addr
 d_TooMany___init__:FuncData
 a_is_whole:Addr
 d_is_whole:FuncData
 a_count_of:Addr
 d_count_of:FuncData
 a_is_number_below:Addr
 d_is_number_below:FuncData
 a_is_place:Addr
 d_is_place:FuncData
 a_refuse_long:Addr
 d_refuse_long:FuncData
 a_is_within:Addr
 d_is_within:FuncData
 a_is_size:Addr
 d_is_size:FuncData
 a_is_axis:Addr
 d_is_axis:FuncData
 a_are_axes:Addr
 d_are_axes:FuncData
 a_kept_axis:Addr
 d_kept_axis:FuncData
 a_View___init__:Addr
 d_View___init__:FuncData
 a_View_sizes:Addr
 d_View_sizes:FuncData
 a_View_paces:Addr
 d_View_paces:FuncData
 a_View_count:Addr
 d_View_count:FuncData
 a_View_cell:Addr
 d_View_cell:FuncData
 a_View_cells:Addr
 d_View_cells:FuncData
 a_View_least:Addr
 d_View_least:FuncData
 a_View_greatest:Addr
 d_View_greatest:FuncData
 a_widened:Addr
 d_widened:FuncData
 a_refuse_rooms:Addr
 d_refuse_rooms:FuncData
 a_refuse_count:Addr
 d_refuse_count:FuncData
 a_Store___init__:Addr
 d_Store___init__:FuncData
 a_Store_all_values:Addr
 d_Store_all_values:FuncData
 a_Store_refuse_room:Addr
 d_Store_refuse_room:FuncData
 a_Store_read:Addr
 d_Store_read:FuncData
 a_Store_put:Addr
 d_Store_put:FuncData
 a_Store_fill:Addr
 d_Store_fill:FuncData
 a_Store_copied:Addr
 d_Store_copied:FuncData
 a_refuse_two:Addr
 d_refuse_two:FuncData
 a_Statement_writes:Addr
 d_Statement_writes:FuncData
 a_Statement_reads:Addr
 d_Statement_reads:FuncData
 a_Statement_run:Addr
 d_Statement_run:FuncData
 a_Fill___init__:Addr
 d_Fill___init__:FuncData
 a_Fill_writes:Addr
 d_Fill_writes:FuncData
 a_Fill_run:Addr
 d_Fill_run:FuncData
 a_Copy___init__:Addr
 d_Copy___init__:FuncData
 a_Copy_writes:Addr
 d_Copy_writes:FuncData
 a_Copy_reads:Addr
 d_Copy_reads:FuncData
 a_Copy_run:Addr
 d_Copy_run:FuncData
 a_Swap___init__:Addr
 d_Swap___init__:FuncData
 a_Swap_writes:Addr
 d_Swap_writes:FuncData
 a_Swap_reads:Addr
 d_Swap_reads:FuncData
 a_Swap_run:Addr
 d_Swap_run:FuncData
 a_Raise___init__:Addr
 d_Raise___init__:FuncData
 a_Raise_writes:Addr
 d_Raise_writes:FuncData
 a_Raise_reads:Addr
 d_Raise_reads:FuncData
 a_Raise_run:Addr
 d_Raise_run:FuncData
 a__law_draw:Addr
 d__law_draw:FuncData
 a__law_whole:Addr
 d__law_whole:FuncData
 a__law_list:Addr
 d__law_list:FuncData
 a__law_sizes:Addr
 d__law_sizes:FuncData
 a__law_axes:Addr
 d__law_axes:FuncData
 a__law_reach:Addr
 d__law_reach:FuncData
 a__law_views:Addr
 d__law_views:FuncData
 a__law_cells:Addr
 d__law_cells:FuncData
 a__law_values:Addr
 d__law_values:FuncData
 a__law_view:Addr
 d__law_view:FuncData
 a__law_same:Addr
 d__law_same:FuncData
 a__law_made:Addr
 d__law_made:FuncData
 a__law_told:Addr
 d__law_told:FuncData
 a__law_due:Addr
 d__law_due:FuncData
 a__law_word:Addr
 d__law_word:FuncData
 a__law_refused:Addr
 d__law_refused:FuncData
 a__law_all_refused:Addr
 d__law_all_refused:FuncData
 a_law:Addr
 d_law:FuncData
structure Tx(K:W.Frag)(mg:Str->Option Value)(t:Adr):Prop where
 m_PaceError:mg "PaceError"=some (.ref t.a_PaceError)
 m_NoPlace:mg "NoPlace"=some (.ref t.a_NoPlace)
 m_NoCells:mg "NoCells"=some (.ref t.a_NoCells)
 m_NoView:mg "NoView"=some (.ref t.a_NoView)
 m_NoCount:mg "NoCount"=some (.ref t.a_NoCount)
 m_NoPair:mg "NoPair"=some (.ref t.a_NoPair)
 m_TooMany:mg "TooMany"=some (.ref t.a_TooMany)
 m_View:mg "View"=some (.ref t.a_View)
 m_Store:mg "Store"=some (.ref t.a_Store)
 m_Statement:mg "Statement"=some (.ref t.a_Statement)
 m_Fill:mg "Fill"=some (.ref t.a_Fill)
 m_Copy:mg "Copy"=some (.ref t.a_Copy)
 m_Swap:mg "Swap"=some (.ref t.a_Swap)
 m_Raise:mg "Raise"=some (.ref t.a_Raise)
 o_NoPair:W.excIn K t.a_NoPair [.type "ValueError",.type "Exception",.type "BaseException",.type "object"] "ValueError.__new__"=true
 o_NoCount:W.excIn K t.a_NoCount [.type "ValueError",.type "Exception",.type "BaseException",.type "object"] "ValueError.__new__"=true
 o_NoView:W.excIn K t.a_NoView [.type "ValueError",.type "Exception",.type "BaseException",.type "object"] "ValueError.__new__"=true
 x_NoPair_PaceError:W.exmOne K (.ref t.a_NoPair) (.ref t.a_PaceError)=some true
 x_NoCount_PaceError:W.exmOne K (.ref t.a_NoCount) (.ref t.a_PaceError)=some true
 x_NoView_PaceError:W.exmOne K (.ref t.a_NoView) (.ref t.a_PaceError)=some true
 x_TooMany_PaceError:W.exmOne K (.ref t.a_TooMany) (.ref t.a_PaceError)=some true
 ocs:W.specialIn K (.builtin "object.__class__") "__get__"=some (some (.builtin "getset_descriptor.__get__"))
 oct:W.takesIn K (.builtin "object.__class__")=some true
 ga_NoPair:W.findIn K (.ref t.a_NoPair) "__getattribute__"=some (some (.builtin "BaseException.__getattribute__"))
 gn_NoPair:W.findIn K (.ref t.a_NoPair) "__getattr__"=some none
 mb_NoPair:W.mroIn K t.a_NoPair (.type "BaseException")=some true
 mo_NoPair:W.mroIn K t.a_NoPair (.type "object")=some true
 fc_NoPair:W.findIn K (.ref t.a_NoPair) "__class__"=some (some (.builtin "object.__class__"))
 hd_NoPair:W.hasDictIn K t.a_NoPair=true
 ga_NoCount:W.findIn K (.ref t.a_NoCount) "__getattribute__"=some (some (.builtin "BaseException.__getattribute__"))
 gn_NoCount:W.findIn K (.ref t.a_NoCount) "__getattr__"=some none
 mb_NoCount:W.mroIn K t.a_NoCount (.type "BaseException")=some true
 mo_NoCount:W.mroIn K t.a_NoCount (.type "object")=some true
 fc_NoCount:W.findIn K (.ref t.a_NoCount) "__class__"=some (some (.builtin "object.__class__"))
 hd_NoCount:W.hasDictIn K t.a_NoCount=true
 ga_NoView:W.findIn K (.ref t.a_NoView) "__getattribute__"=some (some (.builtin "BaseException.__getattribute__"))
 gn_NoView:W.findIn K (.ref t.a_NoView) "__getattr__"=some none
 mb_NoView:W.mroIn K t.a_NoView (.type "BaseException")=some true
 mo_NoView:W.mroIn K t.a_NoView (.type "object")=some true
 fc_NoView:W.findIn K (.ref t.a_NoView) "__class__"=some (some (.builtin "object.__class__"))
 hd_NoView:W.hasDictIn K t.a_NoView=true
 ga_TooMany:W.findIn K (.ref t.a_TooMany) "__getattribute__"=some (some (.builtin "BaseException.__getattribute__"))
 gn_TooMany:W.findIn K (.ref t.a_TooMany) "__getattr__"=some none
 mb_TooMany:W.mroIn K t.a_TooMany (.type "BaseException")=some true
 mo_TooMany:W.mroIn K t.a_TooMany (.type "object")=some true
 fc_TooMany:W.findIn K (.ref t.a_TooMany) "__class__"=some (some (.builtin "object.__class__"))
 hd_TooMany:W.hasDictIn K t.a_TooMany=true
 kc_NoPair_NoPair:W.hasDictIn K t.a_NoPair=true
 kt_NoPair_NoPair:W.typeIn K (.ref t.a_NoPair)=some (.type "type")
 ks_NoPair_NoPair:W.subIn K (.ref t.a_NoPair) (.ref t.a_NoPair)=some true
 kc_NoPair_NoCount:W.hasDictIn K t.a_NoCount=true
 kt_NoPair_NoCount:W.typeIn K (.ref t.a_NoCount)=some (.type "type")
 ks_NoPair_NoCount:W.subIn K (.ref t.a_NoPair) (.ref t.a_NoCount)=some false
 kn_NoPair_NoCount:(t.a_NoPair == t.a_NoCount)=false
 kc_NoPair_NoView:W.hasDictIn K t.a_NoView=true
 kt_NoPair_NoView:W.typeIn K (.ref t.a_NoView)=some (.type "type")
 ks_NoPair_NoView:W.subIn K (.ref t.a_NoPair) (.ref t.a_NoView)=some false
 kn_NoPair_NoView:(t.a_NoPair == t.a_NoView)=false
 kc_NoPair_TooMany:W.hasDictIn K t.a_TooMany=true
 kt_NoPair_TooMany:W.typeIn K (.ref t.a_TooMany)=some (.type "type")
 ks_NoPair_TooMany:W.subIn K (.ref t.a_NoPair) (.ref t.a_TooMany)=some false
 kn_NoPair_TooMany:(t.a_NoPair == t.a_TooMany)=false
 kc_NoCount_NoPair:W.hasDictIn K t.a_NoPair=true
 kt_NoCount_NoPair:W.typeIn K (.ref t.a_NoPair)=some (.type "type")
 ks_NoCount_NoPair:W.subIn K (.ref t.a_NoCount) (.ref t.a_NoPair)=some false
 kn_NoCount_NoPair:(t.a_NoCount == t.a_NoPair)=false
 kc_NoCount_NoCount:W.hasDictIn K t.a_NoCount=true
 kt_NoCount_NoCount:W.typeIn K (.ref t.a_NoCount)=some (.type "type")
 ks_NoCount_NoCount:W.subIn K (.ref t.a_NoCount) (.ref t.a_NoCount)=some true
 kc_NoCount_NoView:W.hasDictIn K t.a_NoView=true
 kt_NoCount_NoView:W.typeIn K (.ref t.a_NoView)=some (.type "type")
 ks_NoCount_NoView:W.subIn K (.ref t.a_NoCount) (.ref t.a_NoView)=some false
 kn_NoCount_NoView:(t.a_NoCount == t.a_NoView)=false
 kc_NoCount_TooMany:W.hasDictIn K t.a_TooMany=true
 kt_NoCount_TooMany:W.typeIn K (.ref t.a_TooMany)=some (.type "type")
 ks_NoCount_TooMany:W.subIn K (.ref t.a_NoCount) (.ref t.a_TooMany)=some false
 kn_NoCount_TooMany:(t.a_NoCount == t.a_TooMany)=false
 kc_NoView_NoPair:W.hasDictIn K t.a_NoPair=true
 kt_NoView_NoPair:W.typeIn K (.ref t.a_NoPair)=some (.type "type")
 ks_NoView_NoPair:W.subIn K (.ref t.a_NoView) (.ref t.a_NoPair)=some false
 kn_NoView_NoPair:(t.a_NoView == t.a_NoPair)=false
 kc_NoView_NoCount:W.hasDictIn K t.a_NoCount=true
 kt_NoView_NoCount:W.typeIn K (.ref t.a_NoCount)=some (.type "type")
 ks_NoView_NoCount:W.subIn K (.ref t.a_NoView) (.ref t.a_NoCount)=some false
 kn_NoView_NoCount:(t.a_NoView == t.a_NoCount)=false
 kc_NoView_NoView:W.hasDictIn K t.a_NoView=true
 kt_NoView_NoView:W.typeIn K (.ref t.a_NoView)=some (.type "type")
 ks_NoView_NoView:W.subIn K (.ref t.a_NoView) (.ref t.a_NoView)=some true
 kc_NoView_TooMany:W.hasDictIn K t.a_TooMany=true
 kt_NoView_TooMany:W.typeIn K (.ref t.a_TooMany)=some (.type "type")
 ks_NoView_TooMany:W.subIn K (.ref t.a_NoView) (.ref t.a_TooMany)=some false
 kn_NoView_TooMany:(t.a_NoView == t.a_TooMany)=false
 kc_TooMany_NoPair:W.hasDictIn K t.a_NoPair=true
 kt_TooMany_NoPair:W.typeIn K (.ref t.a_NoPair)=some (.type "type")
 ks_TooMany_NoPair:W.subIn K (.ref t.a_TooMany) (.ref t.a_NoPair)=some false
 kn_TooMany_NoPair:(t.a_TooMany == t.a_NoPair)=false
 kc_TooMany_NoCount:W.hasDictIn K t.a_NoCount=true
 kt_TooMany_NoCount:W.typeIn K (.ref t.a_NoCount)=some (.type "type")
 ks_TooMany_NoCount:W.subIn K (.ref t.a_TooMany) (.ref t.a_NoCount)=some false
 kn_TooMany_NoCount:(t.a_TooMany == t.a_NoCount)=false
 kc_TooMany_NoView:W.hasDictIn K t.a_NoView=true
 kt_TooMany_NoView:W.typeIn K (.ref t.a_NoView)=some (.type "type")
 ks_TooMany_NoView:W.subIn K (.ref t.a_TooMany) (.ref t.a_NoView)=some false
 kn_TooMany_NoView:(t.a_TooMany == t.a_NoView)=false
 kc_TooMany_TooMany:W.hasDictIn K t.a_TooMany=true
 kt_TooMany_TooMany:W.typeIn K (.ref t.a_TooMany)=some (.type "type")
 ks_TooMany_TooMany:W.subIn K (.ref t.a_TooMany) (.ref t.a_TooMany)=some true
 ks_NoPair_ValueError:W.subIn K (.ref t.a_NoPair) (.type "ValueError")=some true
 ks_NoCount_ValueError:W.subIn K (.ref t.a_NoCount) (.type "ValueError")=some true
 ks_NoView_ValueError:W.subIn K (.ref t.a_NoView) (.type "ValueError")=some true
 ks_TooMany_ValueError:W.subIn K (.ref t.a_TooMany) (.type "ValueError")=some true
 fc_View:W.findIn K (.ref t.a_View) "__class__"=some (some (.builtin "object.__class__"))
 mo_View:W.mroIn K t.a_View (.type "object")=some true
 fc_Raise:W.findIn K (.ref t.a_Raise) "__class__"=some (some (.builtin "object.__class__"))
 mo_Raise:W.mroIn K t.a_Raise (.type "object")=some true
 fc_Fill:W.findIn K (.ref t.a_Fill) "__class__"=some (some (.builtin "object.__class__"))
 mo_Fill:W.mroIn K t.a_Fill (.type "object")=some true
 kc_Raise_Statement:W.hasDictIn K t.a_Statement=true
 kt_Raise_Statement:W.typeIn K (.ref t.a_Statement)=some (.type "type")
 ks_Raise_Statement:W.subIn K (.ref t.a_Raise) (.ref t.a_Statement)=some true
 kc_Fill_Statement:W.hasDictIn K t.a_Statement=true
 kt_Fill_Statement:W.typeIn K (.ref t.a_Statement)=some (.type "type")
 ks_Fill_Statement:W.subIn K (.ref t.a_Fill) (.ref t.a_Statement)=some true
 m_MOST_TOLD:∃ tk,mg "MOST_TOLD"=some (.int 4096 tk)
 m_MOST_ROOM:∃ tk,mg "MOST_ROOM"=some (.int 1000000000000000000 tk)
 m_MOST_SIZE:∃ tk,mg "MOST_SIZE"=some (.int 1000000000 tk)
 m_MOST_AXES:∃ tk,mg "MOST_AXES"=some (.int 8 tk)
 oi_TooMany:CL K t.a_TooMany t.a_TooMany___init__
 tk_TooMany_number:W.takerIn K t.a_TooMany "number"=some none
 na_TooMany_number:aZ K t.a_TooMany "number"
 bi_PaceError:Dt K t.a_PaceError
 cl_View:Cls K t.a_View
 na_View_axes:aZ K t.a_View "axes"
 na_View_first:aZ K t.a_View "first"
 na_View_room:aZ K t.a_View "room"
 mk_View:Mk K t.a_View t.a_View___init__
 mt_View_sizes:eW K t.a_View "sizes" t.a_View_sizes
 mt_View_paces:eW K t.a_View "paces" t.a_View_paces
 mt_View_count:eW K t.a_View "count" t.a_View_count
 mt_View_cell:eW K t.a_View "cell" t.a_View_cell
 mt_View_cells:eW K t.a_View "cells" t.a_View_cells
 mt_View_least:eW K t.a_View "least" t.a_View_least
 mt_View_greatest:eW K t.a_View "greatest" t.a_View_greatest
 cl_Store:Cls K t.a_Store
 na_Store_floor:aZ K t.a_Store "floor"
 mk_Store:Mk K t.a_Store t.a_Store___init__
 mt_Store_all_values:eW K t.a_Store "all_values" t.a_Store_all_values
 mt_Store_refuse_room:eW K t.a_Store "refuse_room" t.a_Store_refuse_room
 mt_Store_read:eW K t.a_Store "read" t.a_Store_read
 mt_Store_put:eW K t.a_Store "put" t.a_Store_put
 mt_Store_fill:eW K t.a_Store "fill" t.a_Store_fill
 mt_Store_copied:eW K t.a_Store "copied" t.a_Store_copied
 cl_Statement:Cls K t.a_Statement
 mk0_Statement:Mk0 K t.a_Statement
 mt_Statement_writes:eW K t.a_Statement "writes" t.a_Statement_writes
 mt_Statement_reads:eW K t.a_Statement "reads" t.a_Statement_reads
 mt_Statement_run:eW K t.a_Statement "run" t.a_Statement_run
 cl_Fill:Cls K t.a_Fill
 na_Fill_to:aZ K t.a_Fill "to"
 na_Fill_value:aZ K t.a_Fill "value"
 mt_Fill_writes:eW K t.a_Fill "writes" t.a_Fill_writes
 mt_Fill_reads:eW K t.a_Fill "reads" t.a_Statement_reads
 mt_Fill_run:eW K t.a_Fill "run" t.a_Fill_run
 mk_Fill:Mk K t.a_Fill t.a_Fill___init__
 cl_Copy:Cls K t.a_Copy
 na_Copy_source:aZ K t.a_Copy "source"
 na_Copy_to:aZ K t.a_Copy "to"
 mt_Copy_writes:eW K t.a_Copy "writes" t.a_Copy_writes
 mt_Copy_reads:eW K t.a_Copy "reads" t.a_Copy_reads
 mt_Copy_run:eW K t.a_Copy "run" t.a_Copy_run
 mk_Copy:Mk K t.a_Copy t.a_Copy___init__
 cl_Swap:Cls K t.a_Swap
 na_Swap_one:aZ K t.a_Swap "one"
 na_Swap_other:aZ K t.a_Swap "other"
 mt_Swap_writes:eW K t.a_Swap "writes" t.a_Swap_writes
 mt_Swap_reads:eW K t.a_Swap "reads" t.a_Swap_reads
 mt_Swap_run:eW K t.a_Swap "run" t.a_Swap_run
 mk_Swap:Mk K t.a_Swap t.a_Swap___init__
 cl_Raise:Cls K t.a_Raise
 na_Raise_source:aZ K t.a_Raise "source"
 na_Raise_to:aZ K t.a_Raise "to"
 mt_Raise_writes:eW K t.a_Raise "writes" t.a_Raise_writes
 mt_Raise_reads:eW K t.a_Raise "reads" t.a_Raise_reads
 mt_Raise_run:eW K t.a_Raise "run" t.a_Raise_run
 mk_Raise:Mk K t.a_Raise t.a_Raise___init__
 F_TooMany___init__:Fun K "__init__" "TooMany.__init__" bH t.a_TooMany___init__ t.d_TooMany___init__
 b_TooMany___init__:aq K t.d_TooMany___init__ ["self", "number"] []
 F_is_whole:Fun K "is_whole" "is_whole" gC t.a_is_whole t.d_is_whole
 m_is_whole:mg "is_whole"=some (.ref t.a_is_whole)
 b_is_whole:aq K t.d_is_whole ["thing"] []
 F_count_of:Fun K "count_of" "count_of" gD t.a_count_of t.d_count_of
 m_count_of:mg "count_of"=some (.ref t.a_count_of)
 b_count_of:aq K t.d_count_of ["sizes"] []
 F_is_number_below:Fun K "is_number_below" "is_number_below" dh t.a_is_number_below t.d_is_number_below
 m_is_number_below:mg "is_number_below"=some (.ref t.a_is_number_below)
 b_is_number_below:aq K t.d_is_number_below ["thing", "bound"] []
 F_is_place:Fun K "is_place" "is_place" jS t.a_is_place t.d_is_place
 m_is_place:mg "is_place"=some (.ref t.a_is_place)
 b_is_place:aq K t.d_is_place ["sizes", "thing"] []
 F_refuse_long:Fun K "refuse_long" "refuse_long" dF t.a_refuse_long t.d_refuse_long
 m_refuse_long:mg "refuse_long"=some (.ref t.a_refuse_long)
 b_refuse_long:aq K t.d_refuse_long ["count"] []
 F_is_within:Fun K "is_within" "is_within" fm t.a_is_within t.d_is_within
 m_is_within:mg "is_within"=some (.ref t.a_is_within)
 b_is_within:aq K t.d_is_within ["thing", "low", "high"] []
 F_is_size:Fun K "is_size" "is_size" iM t.a_is_size t.d_is_size
 m_is_size:mg "is_size"=some (.ref t.a_is_size)
 b_is_size:aq K t.d_is_size ["thing"] []
 F_is_axis:Fun K "is_axis" "is_axis" iN t.a_is_axis t.d_is_axis
 m_is_axis:mg "is_axis"=some (.ref t.a_is_axis)
 b_is_axis:aq K t.d_is_axis ["thing"] []
 F_are_axes:Fun K "are_axes" "are_axes" eP t.a_are_axes t.d_are_axes
 m_are_axes:mg "are_axes"=some (.ref t.a_are_axes)
 b_are_axes:aq K t.d_are_axes ["thing"] []
 F_kept_axis:Fun K "kept_axis" "kept_axis" fk t.a_kept_axis t.d_kept_axis
 m_kept_axis:mg "kept_axis"=some (.ref t.a_kept_axis)
 b_kept_axis:aq K t.d_kept_axis ["axis"] []
 F_View___init__:Fun K "__init__" "View.__init__" bE t.a_View___init__ t.d_View___init__
 b_View___init__:aq K t.d_View___init__ ["self", "room", "first", "axes"] []
 F_View_sizes:Fun K "sizes" "View.sizes" cB t.a_View_sizes t.d_View_sizes
 b_View_sizes:aq K t.d_View_sizes ["self"] []
 F_View_paces:Fun K "paces" "View.paces" gU t.a_View_paces t.d_View_paces
 b_View_paces:aq K t.d_View_paces ["self"] []
 F_View_count:Fun K "count" "View.count" eE t.a_View_count t.d_View_count
 b_View_count:aq K t.d_View_count ["self"] []
 F_View_cell:Fun K "cell" "View.cell" iY t.a_View_cell t.d_View_cell
 b_View_cell:aq K t.d_View_cell ["self", "place"] []
 F_View_cells:Fun K "cells" "View.cells" eF t.a_View_cells t.d_View_cells
 b_View_cells:aq K t.d_View_cells ["self"] []
 F_View_least:Fun K "least" "View.least" cD t.a_View_least t.d_View_least
 b_View_least:aq K t.d_View_least ["self"] []
 F_View_greatest:Fun K "greatest" "View.greatest" bD t.a_View_greatest t.d_View_greatest
 b_View_greatest:aq K t.d_View_greatest ["self"] []
 F_widened:Fun K "widened" "widened" fW t.a_widened t.d_widened
 m_widened:mg "widened"=some (.ref t.a_widened)
 b_widened:aq K t.d_widened ["cells", "size", "pace"] []
 F_refuse_rooms:Fun K "refuse_rooms" "refuse_rooms" cL t.a_refuse_rooms t.d_refuse_rooms
 m_refuse_rooms:mg "refuse_rooms"=some (.ref t.a_refuse_rooms)
 b_refuse_rooms:aq K t.d_refuse_rooms ["one", "other"] []
 F_refuse_count:Fun K "refuse_count" "refuse_count" cM t.a_refuse_count t.d_refuse_count
 m_refuse_count:mg "refuse_count"=some (.ref t.a_refuse_count)
 b_refuse_count:aq K t.d_refuse_count ["view", "many"] []
 F_Store___init__:Fun K "__init__" "Store.__init__" bX t.a_Store___init__ t.d_Store___init__
 b_Store___init__:aq K t.d_Store___init__ ["self", "values"] []
 F_Store_all_values:Fun K "all_values" "Store.all_values" bI t.a_Store_all_values t.d_Store_all_values
 b_Store_all_values:aq K t.d_Store_all_values ["self"] []
 F_Store_refuse_room:Fun K "refuse_room" "Store.refuse_room" bw t.a_Store_refuse_room t.d_Store_refuse_room
 b_Store_refuse_room:aq K t.d_Store_refuse_room ["self", "view"] []
 F_Store_read:Fun K "read" "Store.read" bS t.a_Store_read t.d_Store_read
 b_Store_read:aq K t.d_Store_read ["self", "view"] []
 F_Store_put:Fun K "put" "Store.put" fB t.a_Store_put t.d_Store_put
 b_Store_put:aq K t.d_Store_put ["self", "view", "values"] []
 F_Store_fill:Fun K "fill" "Store.fill" eH t.a_Store_fill t.d_Store_fill
 b_Store_fill:aq K t.d_Store_fill ["self", "view", "value"] []
 F_Store_copied:Fun K "copied" "Store.copied" cQ t.a_Store_copied t.d_Store_copied
 b_Store_copied:aq K t.d_Store_copied ["self", "to", "source"] []
 F_refuse_two:Fun K "refuse_two" "refuse_two" eu t.a_refuse_two t.d_refuse_two
 m_refuse_two:mg "refuse_two"=some (.ref t.a_refuse_two)
 b_refuse_two:aq K t.d_refuse_two ["one", "other"] []
 F_Statement_writes:Fun K "writes" "Statement.writes" bJ t.a_Statement_writes t.d_Statement_writes
 b_Statement_writes:aq K t.d_Statement_writes ["self"] []
 F_Statement_reads:Fun K "reads" "Statement.reads" bM t.a_Statement_reads t.d_Statement_reads
 b_Statement_reads:aq K t.d_Statement_reads ["self"] []
 F_Statement_run:Fun K "run" "Statement.run" cn t.a_Statement_run t.d_Statement_run
 b_Statement_run:aq K t.d_Statement_run ["self", "store"] []
 F_Fill___init__:Fun K "__init__" "Fill.__init__" cq t.a_Fill___init__ t.d_Fill___init__
 b_Fill___init__:aq K t.d_Fill___init__ ["self", "to", "value"] []
 F_Fill_writes:Fun K "writes" "Fill.writes" dI t.a_Fill_writes t.d_Fill_writes
 b_Fill_writes:aq K t.d_Fill_writes ["self"] []
 F_Fill_run:Fun K "run" "Fill.run" gG t.a_Fill_run t.d_Fill_run
 b_Fill_run:aq K t.d_Fill_run ["self", "store"] []
 F_Copy___init__:Fun K "__init__" "Copy.__init__" cu t.a_Copy___init__ t.d_Copy___init__
 b_Copy___init__:aq K t.d_Copy___init__ ["self", "to", "source"] []
 F_Copy_writes:Fun K "writes" "Copy.writes" dJ t.a_Copy_writes t.d_Copy_writes
 b_Copy_writes:aq K t.d_Copy_writes ["self"] []
 F_Copy_reads:Fun K "reads" "Copy.reads" eI t.a_Copy_reads t.d_Copy_reads
 b_Copy_reads:aq K t.d_Copy_reads ["self"] []
 F_Copy_run:Fun K "run" "Copy.run" gH t.a_Copy_run t.d_Copy_run
 b_Copy_run:aq K t.d_Copy_run ["self", "store"] []
 F_Swap___init__:Fun K "__init__" "Swap.__init__" cj t.a_Swap___init__ t.d_Swap___init__
 b_Swap___init__:aq K t.d_Swap___init__ ["self", "one", "other"] []
 F_Swap_writes:Fun K "writes" "Swap.writes" dG t.a_Swap_writes t.d_Swap_writes
 b_Swap_writes:aq K t.d_Swap_writes ["self"] []
 F_Swap_reads:Fun K "reads" "Swap.reads" eG t.a_Swap_reads t.d_Swap_reads
 b_Swap_reads:aq K t.d_Swap_reads ["self"] []
 F_Swap_run:Fun K "run" "Swap.run" gF t.a_Swap_run t.d_Swap_run
 b_Swap_run:aq K t.d_Swap_run ["self", "store"] []
 F_Raise___init__:Fun K "__init__" "Raise.__init__" bY t.a_Raise___init__ t.d_Raise___init__
 b_Raise___init__:aq K t.d_Raise___init__ ["self", "to", "source"] []
 F_Raise_writes:Fun K "writes" "Raise.writes" cR t.a_Raise_writes t.d_Raise_writes
 b_Raise_writes:aq K t.d_Raise_writes ["self"] []
 F_Raise_reads:Fun K "reads" "Raise.reads" dH t.a_Raise_reads t.d_Raise_reads
 b_Raise_reads:aq K t.d_Raise_reads ["self"] []
 F_Raise_run:Fun K "run" "Raise.run" cf t.a_Raise_run t.d_Raise_run
 b_Raise_run:aq K t.d_Raise_run ["self", "store"] []
 F__law_draw:Fun K "_law_draw" "_law_draw" fz t.a__law_draw t.d__law_draw
 m__law_draw:mg "_law_draw"=some (.ref t.a__law_draw)
 b__law_draw:aq K t.d__law_draw ["_law_script", "_law_k", "_law_many"] []
 F__law_whole:Fun K "_law_whole" "_law_whole" ey t.a__law_whole t.d__law_whole
 m__law_whole:mg "_law_whole"=some (.ref t.a__law_whole)
 b__law_whole:aq K t.d__law_whole ["_law_found"] []
 F__law_list:Fun K "_law_list" "_law_list" dv t.a__law_list t.d__law_list
 m__law_list:mg "_law_list"=some (.ref t.a__law_list)
 b__law_list:aq K t.d__law_list ["_law_found", "_law_due_here"] []
 F__law_sizes:Fun K "_law_sizes" "_law_sizes" eB t.a__law_sizes t.d__law_sizes
 m__law_sizes:mg "_law_sizes"=some (.ref t.a__law_sizes)
 b__law_sizes:aq K t.d__law_sizes ["_law_script", "_law_at"] []
 F__law_axes:Fun K "_law_axes" "_law_axes" fA t.a__law_axes t.d__law_axes
 m__law_axes:mg "_law_axes"=some (.ref t.a__law_axes)
 b__law_axes:aq K t.d__law_axes ["_law_script", "_law_at", "_law_sizes_here"] []
 F__law_reach:Fun K "_law_reach" "_law_reach" eC t.a__law_reach t.d__law_reach
 m__law_reach:mg "_law_reach"=some (.ref t.a__law_reach)
 b__law_reach:aq K t.d__law_reach ["_law_axes_here"] []
 F__law_views:Fun K "_law_views" "_law_views" bR t.a__law_views t.d__law_views
 m__law_views:mg "_law_views"=some (.ref t.a__law_views)
 b__law_views:aq K t.d__law_views ["_law_script"] []
 F__law_cells:Fun K "_law_cells" "_law_cells" cA t.a__law_cells t.d__law_cells
 m__law_cells:mg "_law_cells"=some (.ref t.a__law_cells)
 b__law_cells:aq K t.d__law_cells ["_law_first", "_law_axes_here"] []
 F__law_values:Fun K "_law_values" "_law_values" b7 t.a__law_values t.d__law_values
 m__law_values:mg "_law_values"=some (.ref t.a__law_values)
 b__law_values:aq K t.d__law_values ["_law_script", "_law_room"] []
 F__law_view:Fun K "_law_view" "_law_view" ft t.a__law_view t.d__law_view
 m__law_view:mg "_law_view"=some (.ref t.a__law_view)
 b__law_view:aq K t.d__law_view ["_law_room", "_law_one"] []
 F__law_same:Fun K "_law_same" "_law_same" fx t.a__law_same t.d__law_same
 m__law_same:mg "_law_same"=some (.ref t.a__law_same)
 b__law_same:aq K t.d__law_same ["_law_found", "_law_views_here"] []
 F__law_made:Fun K "_law_made" "_law_made" fy t.a__law_made t.d__law_made
 m__law_made:mg "_law_made"=some (.ref t.a__law_made)
 b__law_made:aq K t.d__law_made ["_law_way", "_law_one", "_law_other", "_law_value"] []
 F__law_told:Fun K "_law_told" "_law_told" fw t.a__law_told t.d__law_told
 m__law_told:mg "_law_told"=some (.ref t.a__law_told)
 b__law_told:aq K t.d__law_told ["_law_statement", "_law_way", "_law_one", "_law_other"] []
 F__law_due:Fun K "_law_due" "_law_due" gE t.a__law_due t.d__law_due
 m__law_due:mg "_law_due"=some (.ref t.a__law_due)
 b__law_due:aq K t.d__law_due ["_law_due_here", "_law_way", "_law_here", "_law_there", "_law_value"] []
 F__law_word:Fun K "_law_word" "_law_word" fq t.a__law_word t.d__law_word
 m__law_word:mg "_law_word"=some (.ref t.a__law_word)
 b__law_word:aq K t.d__law_word ["_law_e"] []
 F__law_refused:Fun K "_law_refused" "_law_refused" cO t.a__law_refused t.d__law_refused
 m__law_refused:mg "_law_refused"=some (.ref t.a__law_refused)
 b__law_refused:aq K t.d__law_refused ["_law_way", "_law_one", "_law_other", "_law_store"] []
 F__law_all_refused:Fun K "_law_all_refused" "_law_all_refused" bG t.a__law_all_refused t.d__law_all_refused
 m__law_all_refused:mg "_law_all_refused"=some (.ref t.a__law_all_refused)
 b__law_all_refused:aq K t.d__law_all_refused ["_law_script", "_law_room", "_law_store", "_law_one", "_law_way"] []
 F_law:Fun K "law" "law" ko t.a_law t.d_law
 m_law:mg "law"=some (.ref t.a_law)
 b_law:aq K t.d_law ["_law_script"] []
 z_ValueError:mg "ValueError"=none
 z_all:mg "all"=none
 z_bool:mg "bool"=none
 z_int:mg "int"=none
 z_isinstance:mg "isinstance"=none
 z_len:mg "len"=none
 z_list:mg "list"=none
 z_max:mg "max"=none
 z_min:mg "min"=none
 z_range:mg "range"=none
 z_sum:mg "sum"=none
 z_tuple:mg "tuple"=none
 z_zip:mg "zip"=none
theorem Tx.e_NoPair{K:W.Frag}{mg:Str->Option Value}{t:Adr}(T:Tx K mg t):om K t.a_NoPair:=⟨T.ga_NoPair,T.gn_NoPair,T.mb_NoPair,T.mo_NoPair,T.fc_NoPair,T.ocs,T.oct,T.hd_NoPair⟩
theorem Tx.e_NoCount{K:W.Frag}{mg:Str->Option Value}{t:Adr}(T:Tx K mg t):om K t.a_NoCount:=⟨T.ga_NoCount,T.gn_NoCount,T.mb_NoCount,T.mo_NoCount,T.fc_NoCount,T.ocs,T.oct,T.hd_NoCount⟩
theorem Tx.e_NoView{K:W.Frag}{mg:Str->Option Value}{t:Adr}(T:Tx K mg t):om K t.a_NoView:=⟨T.ga_NoView,T.gn_NoView,T.mb_NoView,T.mo_NoView,T.fc_NoView,T.ocs,T.oct,T.hd_NoView⟩
theorem Tx.e_TooMany{K:W.Frag}{mg:Str->Option Value}{t:Adr}(T:Tx K mg t):om K t.a_TooMany:=⟨T.ga_TooMany,T.gn_TooMany,T.mb_TooMany,T.mo_TooMany,T.fc_TooMany,T.ocs,T.oct,T.hd_TooMany⟩
theorem Tx.is_View{K:W.Frag}{mg:Str->Option Value}{t:Adr}(T:Tx K mg t):IsC K t.a_View:=⟨T.cl_View,T.fc_View,T.ocs,T.oct,T.mo_View⟩
theorem Tx.is_Raise{K:W.Frag}{mg:Str->Option Value}{t:Adr}(T:Tx K mg t):IsC K t.a_Raise:=⟨T.cl_Raise,T.fc_Raise,T.ocs,T.oct,T.mo_Raise⟩
theorem Tx.is_Fill{K:W.Frag}{mg:Str->Option Value}{t:Adr}(T:Tx K mg t):IsC K t.a_Fill:=⟨T.cl_Fill,T.fc_Fill,T.ocs,T.oct,T.mo_Fill⟩
theorem Tx.k_NoPair_NoPair{K:W.Frag}{mg:Str->Option Value}{t:Adr}(T:Tx K mg t):W.kitOne K (.ref t.a_NoPair) (.ref t.a_NoPair)=some true:=gv T.kc_NoPair_NoPair T.kt_NoPair_NoPair T.ks_NoPair_NoPair
theorem Tx.k_NoPair_NoCount{K:W.Frag}{mg:Str->Option Value}{t:Adr}(T:Tx K mg t):W.kitOne K (.ref t.a_NoPair) (.ref t.a_NoCount)=some false:=dS T.kn_NoPair_NoCount T.kc_NoPair_NoCount T.kt_NoPair_NoCount T.ks_NoPair_NoCount
theorem Tx.k_NoPair_NoView{K:W.Frag}{mg:Str->Option Value}{t:Adr}(T:Tx K mg t):W.kitOne K (.ref t.a_NoPair) (.ref t.a_NoView)=some false:=dS T.kn_NoPair_NoView T.kc_NoPair_NoView T.kt_NoPair_NoView T.ks_NoPair_NoView
theorem Tx.k_NoPair_TooMany{K:W.Frag}{mg:Str->Option Value}{t:Adr}(T:Tx K mg t):W.kitOne K (.ref t.a_NoPair) (.ref t.a_TooMany)=some false:=dS T.kn_NoPair_TooMany T.kc_NoPair_TooMany T.kt_NoPair_TooMany T.ks_NoPair_TooMany
theorem Tx.k_NoCount_NoPair{K:W.Frag}{mg:Str->Option Value}{t:Adr}(T:Tx K mg t):W.kitOne K (.ref t.a_NoCount) (.ref t.a_NoPair)=some false:=dS T.kn_NoCount_NoPair T.kc_NoCount_NoPair T.kt_NoCount_NoPair T.ks_NoCount_NoPair
theorem Tx.k_NoCount_NoCount{K:W.Frag}{mg:Str->Option Value}{t:Adr}(T:Tx K mg t):W.kitOne K (.ref t.a_NoCount) (.ref t.a_NoCount)=some true:=gv T.kc_NoCount_NoCount T.kt_NoCount_NoCount T.ks_NoCount_NoCount
theorem Tx.k_NoCount_NoView{K:W.Frag}{mg:Str->Option Value}{t:Adr}(T:Tx K mg t):W.kitOne K (.ref t.a_NoCount) (.ref t.a_NoView)=some false:=dS T.kn_NoCount_NoView T.kc_NoCount_NoView T.kt_NoCount_NoView T.ks_NoCount_NoView
theorem Tx.k_NoCount_TooMany{K:W.Frag}{mg:Str->Option Value}{t:Adr}(T:Tx K mg t):W.kitOne K (.ref t.a_NoCount) (.ref t.a_TooMany)=some false:=dS T.kn_NoCount_TooMany T.kc_NoCount_TooMany T.kt_NoCount_TooMany T.ks_NoCount_TooMany
theorem Tx.k_NoView_NoPair{K:W.Frag}{mg:Str->Option Value}{t:Adr}(T:Tx K mg t):W.kitOne K (.ref t.a_NoView) (.ref t.a_NoPair)=some false:=dS T.kn_NoView_NoPair T.kc_NoView_NoPair T.kt_NoView_NoPair T.ks_NoView_NoPair
theorem Tx.k_NoView_NoCount{K:W.Frag}{mg:Str->Option Value}{t:Adr}(T:Tx K mg t):W.kitOne K (.ref t.a_NoView) (.ref t.a_NoCount)=some false:=dS T.kn_NoView_NoCount T.kc_NoView_NoCount T.kt_NoView_NoCount T.ks_NoView_NoCount
theorem Tx.k_NoView_NoView{K:W.Frag}{mg:Str->Option Value}{t:Adr}(T:Tx K mg t):W.kitOne K (.ref t.a_NoView) (.ref t.a_NoView)=some true:=gv T.kc_NoView_NoView T.kt_NoView_NoView T.ks_NoView_NoView
theorem Tx.k_NoView_TooMany{K:W.Frag}{mg:Str->Option Value}{t:Adr}(T:Tx K mg t):W.kitOne K (.ref t.a_NoView) (.ref t.a_TooMany)=some false:=dS T.kn_NoView_TooMany T.kc_NoView_TooMany T.kt_NoView_TooMany T.ks_NoView_TooMany
theorem Tx.k_TooMany_NoPair{K:W.Frag}{mg:Str->Option Value}{t:Adr}(T:Tx K mg t):W.kitOne K (.ref t.a_TooMany) (.ref t.a_NoPair)=some false:=dS T.kn_TooMany_NoPair T.kc_TooMany_NoPair T.kt_TooMany_NoPair T.ks_TooMany_NoPair
theorem Tx.k_TooMany_NoCount{K:W.Frag}{mg:Str->Option Value}{t:Adr}(T:Tx K mg t):W.kitOne K (.ref t.a_TooMany) (.ref t.a_NoCount)=some false:=dS T.kn_TooMany_NoCount T.kc_TooMany_NoCount T.kt_TooMany_NoCount T.ks_TooMany_NoCount
theorem Tx.k_TooMany_NoView{K:W.Frag}{mg:Str->Option Value}{t:Adr}(T:Tx K mg t):W.kitOne K (.ref t.a_TooMany) (.ref t.a_NoView)=some false:=dS T.kn_TooMany_NoView T.kc_TooMany_NoView T.kt_TooMany_NoView T.ks_TooMany_NoView
theorem Tx.k_TooMany_TooMany{K:W.Frag}{mg:Str->Option Value}{t:Adr}(T:Tx K mg t):W.kitOne K (.ref t.a_TooMany) (.ref t.a_TooMany)=some true:=gv T.kc_TooMany_TooMany T.kt_TooMany_TooMany T.ks_TooMany_TooMany
theorem Tx.k_NoPair_ValueError{K:W.Frag}{mg:Str->Option Value}{t:Adr}(T:Tx K mg t):W.kitOne K (.ref t.a_NoPair) (.type "ValueError")=some true:=pP (by decide +kernel) T.ks_NoPair_ValueError
theorem Tx.k_NoCount_ValueError{K:W.Frag}{mg:Str->Option Value}{t:Adr}(T:Tx K mg t):W.kitOne K (.ref t.a_NoCount) (.type "ValueError")=some true:=pP (by decide +kernel) T.ks_NoCount_ValueError
theorem Tx.k_NoView_ValueError{K:W.Frag}{mg:Str->Option Value}{t:Adr}(T:Tx K mg t):W.kitOne K (.ref t.a_NoView) (.type "ValueError")=some true:=pP (by decide +kernel) T.ks_NoView_ValueError
theorem Tx.k_TooMany_ValueError{K:W.Frag}{mg:Str->Option Value}{t:Adr}(T:Tx K mg t):W.kitOne K (.ref t.a_TooMany) (.type "ValueError")=some true:=pP (by decide +kernel) T.ks_TooMany_ValueError
theorem Tx.k_Raise_Statement{K:W.Frag}{mg:Str->Option Value}{t:Adr}(T:Tx K mg t):W.kitOne K (.ref t.a_Raise) (.ref t.a_Statement)=some true:=gv T.kc_Raise_Statement T.kt_Raise_Statement T.ks_Raise_Statement
theorem Tx.k_Fill_Statement{K:W.Frag}{mg:Str->Option Value}{t:Adr}(T:Tx K mg t):W.kitOne K (.ref t.a_Fill) (.ref t.a_Statement)=some true:=gv T.kc_Fill_Statement T.kt_Fill_Statement T.ks_Fill_Statement
local macro_rules | `(tactic| trivial) => `(tactic| first | exact Or.inl rfl | exact Or.inr rfl | exact Or.inr (Or.inl rfl) | exact Or.inr (Or.inr rfl) | assumption)
local macro_rules | `(tactic| simp! only [$xs,*]) => do
  let ys := xs.getElems.map λ x => (⟨x.raw⟩ : Lean.TSyntax `Lean.Parser.Tactic.simpLemma)
  let zs ← ("↓reduceIte ↓mn ↓Cj ↓Ci ↓Cg ↓Cf ↓Ce ↓Cd ↓Cc ↓Cb ↓Ca ↓B9 ↓yC ↓yB ↓yA ↓yz ↓yy ↓ED ↓G5 ↓GN ↓IE ↓GX ↓GK ↓ph ↓pf ↓EE ↓Eg ↓EV ↓Ek ↓G4 ↓GL ↓EK ↓GO ↓EO ↓Eh ↓xY ↓BR ↓Bh ↓vf ↓ve ↓vd ↓vc ↓vb ↓Bj ↓Hg ↓GP ↓Bf ↓Ed ↓Ef ↓BQ ↓Bg ↓EJ ↓zq ↓ET ↓Ej ↓G9 ↓EH ↓Es ↓EI ↓G8 ↓GR ↓Ep ↓Eo ↓qR ↓pk ↓nJ ↓pj ↓u7 ↓u6 ↓u5 ↓u3 ↓uZ ↓uW ↓uY ↓uX ↓uV ↓uU ↓u4 ↓ES ↓Hh ↓GQ ↓EU ↓uO ↓BG ↓EB ↓Bm ↓xT ↓xU ↓EZ ↓Ha ↓GS ↓aS ↓Ei ↓GZ ↓BZ ↓va ↓EL ↓EY ↓xK ↓EA ↓Ec ↓xR ↓xI ↓BC ↓Hi ↓nL ↓nK ↓GW ↓zY ↓Hc ↓Hd ↓Hf ↓Et ↓DZ ↓Bi ↓BD ↓Be ↓E1 ↓qZ ↓qY ↓jV ↓jU ↓gK ↓lJ ↓fb ↓xW ↓xX ↓EN ↓qS ↓lI ↓lH ↓tX ↓u9 ↓G0 ↓G3 ↓Em ↓Er ↓IH ↓Bu ↓EF ↓EG ↓Ey ↓BA ↓En ↓ER ↓BY ↓Eu ↓By ↓Bz ↓GV ↓EW ↓cx ↓dm ↓gu ↓Bl ↓Bk ↓BM ↓BN ↓EM ↓Ex ↓BB ↓BE ↓BF ↓Bq ↓qV ↓qU ↓qT ↓xS ↓BJ ↓Bs ↓BK ↓uT ↓uS ↓uR ↓Bt ↓GI ↓A9 ↓Ez ↓uM ↓GJ ↓xN ↓Bo ↓BO ↓BP ↓uN ↓BH ↓EC ↓Ee ↓Eb ↓Ea ↓D9 ↓D8 ↓D7 ↓D6 ↓D5 ↓D4 ↓D3 ↓D0 ↓Bd ↓Bc ↓Bb ↓Ba ↓GU ↓IG ↓IF ↓xQ ↓Bp ↓BX ↓Bx ↓BI ↓Br ↓BU ↓BV ↓BW ↓xP ↓B0 ↓xZ ↓xM ↓BS ↓Bw ↓BL ↓Bv ↓Ew ↓xO ↓xV ↓xJ ↓uQ ↓uP mn cJ aQ r9 w9 w6 x5 w4 rP ag Ar Au As Ax DA Ay Av Aw wY yu IM xh yJ Cs Hs Hr Hq ub Co mF yG gM fE fD eJ CA Ff Cz Option.isSome_some Option.isSome_none Option.map_some List.length_cons List.length_nil List.length_map List.map_cons List.map_nil and_true true_and and_self implies_true reduceCtorEq decide_true decide_false Bool.not_true Bool.not_false if_true if_false decide_eq_true_eq Bool.false_eq_true Bool.not_eq_true' decide_eq_false_iff_not Bool.and_true Bool.true_and Bool.and_self Bool.and_eq_true Int.reduceToNat Int.reducePow Int.reduceMul Int.reduceAdd Int.reduceSub Int.reduceNeg Int.reduceLT Int.reduceLE Int.reduceEq Int.reduceNe Int.reduceDiv Int.reduceMod Nat.reduceAdd Nat.reduceLeDiff Nat.reduceLT Nat.reduceMul Nat.reducePow gt_iff_lt ge_iff_le ne_eq false_implies true_implies eq_self String.reduceEq Int.cast_ofNat_Int not_true_eq_false not_false_eq_true false_and and_false List.cons_append List.nil_append List.append_nil Hj".splitOn " ").toArray.mapM λ s => if s.startsWith "↓" then `(Lean.Parser.Tactic.simpLemma| ↓ $(Lean.mkIdent (s.replace "↓" "").toName):ident) else `(Lean.Parser.Tactic.simpLemma| $(Lean.mkIdent s.toName):ident)
  `(tactic| simp (config := { failIfUnchanged := false, maxDischargeDepth := 30, maxSteps := 10000000 }) only [$zs,*, $ys,*, *])
local macro_rules | `(%[$xs,*|$k:num]) => do
  let a := xs.getElems
  let s (i : Nat) : String := a[i]!.raw.getId.toString
  let I (n : String) : Lean.TSyntax `term := ⟨(Lean.mkIdent n.toName).raw⟩
  match k.getNat with
  | 45 => `($(a[0]!) (P := $(I "P")) (w := $(I "w")) (base := $(I "base")) $(I "T"))
  | 0 => `(@pvN _ $(a[0]!) _ _ (by rfl) (by trivial) (by decide) (by decide))
  | 1 => if a.size = 1 then `(@CI _ _ _ _ _ $(a[0]!) (@b6 _) (by rfl)) else `(@CI _ _ _ _ _ $(a[0]!) $(a[1]!) (by rfl))
  | 2 => `(@ef _ _ _ _)
  | 7 => `(by trivial)
  | 8 => `(by omega)
  | 3 => `(@tM _ _ _ _ _ _ _ _ _ _ _ _ _ _ _ _ $(I ("G_" ++ s 0)) ($(I "hr.mono") (by decide)) (by rfl) $(I ("T.m_" ++ s 0)) $(I ("T.F_" ++ s 0 ++ ".kp")) $(I ("T.b_" ++ s 0)) .nil aC $(a[1]!) (by decide) (by rfl) (by rfl))
  | 4 => `(@pM _ _ $(a[0]!) _ _ _ _ ($(a[1]!)).nd rfl (Or.inl rfl) $(a[2]!) (by rfl) (by trivial))
  | 5 => `(@tI _ _ $(a[0]!) _ ($(a[1]!)).nd rfl (Or.inl rfl) (by trivial))
  | 6 => `(@iq _ _ _ _ _ _ _ $(Lean.Syntax.mkStrLit (s 0)) _ $(a[1]!) (by rfl) $(I ("T.z_" ++ s 0)) (by decide +kernel) $(a[2]!) (by decide) (by decide) (by rfl) (by rfl))
  | 9 => `(@kx _ _ _ $(a)*)
  | 10 => `(@fR _ _ _ _ _ $(a)*)
  | 11 => `(@sW _ _ _ _ $(a)*)
  | 12 => `(@ed _ _ _ _ _ _ _ _ $(a)*)
  | 13 => `(@tL _ _ _ _ _ $(a)*)
  | 14 => `(@AV _ _ _ _ $(a)*)
  | 15 => `(@AM _ _ _ _ $(a)*)
  | 16 => `(@uD _ _ _ _ _ $(a)*)
  | 17 => `(@xk _ _ _ _ _ _ _ _ $(a)*)
  | 18 => `(@zP _ _ _ _ _ _ _ _ $(a)*)
  | 19 => `(@zQ _ _ _ _ _ _ _ $(a)*)
  | 20 => `(@xp _ _ _ _ _ _ _ _ _ _ _ _ _ _ _ _ _ _ _ _ $(a)*)
  | 21 => `(@tI _ _ $(a)*)
  | 22 => `(@DL _ _ _ _ $(a)*)
  | 23 => `(@DI _ _ _ _ _ _ _ _ $(a)*)
  | 24 => `(@AU _ _ _ _ _ $(a)*)
  | 25 => `(@DM _ _ _ _ _ $(a)*)
  | 26 => `(@uF _ _ _ _ _ _ _ _ _ _ _ _ _ _ _ _ _ $(a)*)
  | 27 => `(@b5 _ _ _ $(a)*)
  | 28 => `(@AW _ _ _ _ _ _ _ _ _ _ _ $(a)*)
  | 29 => `(@xl _ _ _ _ _ _ _ _ $(a)*)
  | 30 => `(@fh _ _ _ $(a)*)
  | 31 => `(@AY _ _ _ _ _ _ _ $(a)*)
  | 32 => `(@AI _ _ _ $(a)*)
  | 33 => `(@DG _ _ _ _ $(a)*)
  | 34 => `(@xq _ _ _ _ _ _ _ _ _ _ _ _ _ _ _ _ _ $(a)*)
  | 35 => `(@Gu _ _ _ _ _ _ _ $(a)*)
  | 36 => `(@DP _ _ _ _ _ $(a)*)
  | 37 => `(@DJ _ _ _ _ _ _ $(a)*)
  | 38 => `(@AX _ _ _ _ _ _ _ _ $(a)*)
  | 39 => `(@Gv _ _ _ _ _ _ _ _ _ _ _ _ $(a)*)
  | 40 => `(@uC _ _ _ _ _ _ $(a)*)
  | 41 => `(@uH _ _ _ _ _ _ _ _ _ $(a)*)
  | 42 => `(@DK _ _ _ _ _ _ _ _ _ $(a)*)
  | 43 => `(@uE _ _ _ _ _ _ _ _ _ _ _ _ _ $(a)*)
  | 44 => `(@tM _ _ _ _ _ _ _ _ _ _ _ _ _ _ _ _ $(a)*)
  | _ => Lean.Macro.throwUnsupported
local macro_rules | `(∅) => `(by rfl)
local macro_rules | `(⋯) => `(by decide)
local macro_rules | `(nofun) => `(by decide +kernel)
local macro_rules | `(tactic| ac_rfl) => `(tactic| simp! only [and_true])
local macro_rules | `(tactic| exists $x:ident) => `(tactic| replace $x := λ (_ : Unit) => $x)
section
variable {P:Program}{w:World}{K:PySem.W.Frag}{mg:Str->Option Value}{base:Heap}{t:Adr}
def kq(ns:List Int)(k m:Int):Int:=(if k < (ns.length:Int) then ns.getD k.toNat 0 else (if 0 < (ns.length:Int) then ns.getD (k % (ns.length:Int)).toNat 0 % 999999937 * (48271+2 * k * k)+k * 69621 else k * k * 7919+104729) % 2147483647 * 16807 % 2147483629) % m
theorem t7{ns:List Int}{k z:Int}(h0:0<=k)(h1:k < (ns.length:Int))(hz:atI (ns.map V.int) k=some (.int z)):ns.getD k.toNat 0=z:=by
 obtain⟨n,rfl⟩:=Int.eq_ofNat_of_zero_le h0;have hn:n < ns.length:=by omega
 have e:atI (ns.map V.int) (n:Int)=some (.int ns[n]):=aV (by rw [Jl,IX hn];rfl);rw [hz] at e;have e2:=Jy e;simp only [V.int.injEq] at e2;rw [KU,List.getD_eq_getElem?_getD,IX hn,e2];rfl
theorem Cr{ns:List Int}{k m z:Int}(h0:0<=k)(h1:k < (ns.length:Int))(hz:atI (ns.map V.int) k=some (.int z)):kq ns k m=z % m:=by
 unfold kq;rw [if_pos h1,t7 h0 h1 hz]
theorem Cq{ns:List Int}{k m z:Int}(h1:¬ k < (ns.length:Int))(h2:0 < (ns.length:Int))(hz:atI (ns.map V.int) (k % (ns.length:Int))=some (.int z)):kq ns k m=(z % 999999937 * (48271+2 * k * k)+k * 69621) % 2147483647 * 16807 % 2147483629 % m:=by
 unfold kq;rw [if_neg h1,if_pos h2,t7 (Int.emod_nonneg _ %[0|8]) (Int.emod_lt_of_pos _ h2) hz]
theorem Cp{ns:List Int}{k m:Int}(h1:¬ k < (ns.length:Int))(h2:¬ 0 < (ns.length:Int)):kq ns k m=(k * k * 7919+104729) % 2147483647 * 16807 % 2147483629 % m:=by
 unfold kq;rw [if_neg h1,if_neg h2]
abbrev nj(K:PySem.W.Frag)(a:Addr)(ns:List Int)(k:Int)(m:Int)(H:Hp)(Q:VK)(E:XK):Prop:=SqL K H a (ns.map V.int)/\ns.length<=63/\(0<=k/\k < 1000)/\0 < m/\Q (.int (kq ns k m)) H
def oP(K:W.Frag)(a:Addr)(ns:List Int):Sp:=λ vs H Q E=>∃ (k:Int) (m:Int),vs=[.ref a,.int k,.int m]/\(nj K a ns k m H Q E)
theorem wt(K:W.Frag)(a:Addr)(ns:List Int)(k:Int)(m:Int)(H:Hp)(Q:VK)(E:XK):oP K a ns [.ref a,.int k,.int m] H Q E=(nj K a ns k m H Q E):=jq (f:=λ (k:Int) (m:Int)=>[.ref a,.int k,.int m]) (λ _ _ _ _ h=>by cases h;exact⟨rfl,rfl⟩) k m
theorem vH(K:W.Frag)(a:Addr)(ns:List Int){vs:List V}{H:Hp}{Q:VK}{E:XK}(h:oP K a ns vs H Q E):vs.length=3:=js h λ _ _=>rfl
theorem gf(T:Tx K mg t)(a:Addr)(ns:List Int):aB P w K mg base CX0 1 t.a__law_draw t.d__law_draw ["_law_script", "_law_k", "_law_many"] (oP K a ns):=by
 refine T.F__law_draw.ok dD (λ vs H Q E h=>vH _ _ _ h) (λ c A o s H vs Q E hr h=>?_)
 ·obtain⟨k,m,rfl,hS,hl,⟨hk0,hk1⟩,hm,kk⟩:=h
  refine⟨_,(fR (zP (oU Dd (pv 1) (iq (id := "len") cE ∅ T.z_len nofun (CI (pv 0) b6)) (az _))
   (kx (sW (ed iD (zQ oV (pv 0) (pv 1) (λ _ _=>rfl)) (pv 2))))
   au)
  (fR (pM (i:=3) dD.nd rfl (Or.inl rfl) (ed pN (ed gT (ed gT (pv 1) (pv 1)) ef) ef))
  (fR (zP (oU De (iq (id := "len") cE ∅ T.z_len nofun (CI (pv 0) b6)) ef (az _))
   (fR (pM (i:=4) dD.nd rfl (Or.inl rfl) (ed iD (zQ oV (pv 0) (ed iD (pv 1) (iq (id := "len") cE ∅ T.z_len nofun (CI (pv 0) b6))) (λ _ _=>rfl)) ef))
   (kx (pM (i:=3) dD.nd rfl (Or.inl rfl) (ed pN (ed gT (pv 4) (ed pN ef (ed gT (ed gT ef (pv 1)) (pv 1)))) (ed gT (pv 1) ef)))))
   au)
  (kx (sW (ed iD (ed iD (ed gT (ed iD (pv 3) ef) ef) ef) (pv 2))))))),?_⟩
  refine⟨_,rfl,_,rfl,a,_,rfl,.inl hS,_,_,rfl,rfl,_,rfl,?_⟩;refine Ig (λ h=>?_) (λ h=>?_)
  ·have h1:k < (ns.length:Int):=by simpa using h
   obtain⟨z,hz,_⟩:=qh ns k hk0 h1;exact⟨_,rfl,_,rfl,a,_,k,_,rfl,rfl,hS,hz,_,rfl,_,_,rfl,rfl,hm,by rw [Cr hk0 h1 hz] at kk;exact kk⟩
  ·have h1:¬ k < (ns.length:Int):=by simpa using h
   refine⟨_,rfl,_,rfl,_,_,rfl,rfl,.inl ⟨by omega,by omega⟩,_,_,rfl,rfl,.inr ⟨by decide,by decide⟩,_,_,rfl,rfl,?_⟩;refine⟨_,rfl,a,_,rfl,.inl hS,_,_,rfl,rfl,_,rfl,?_⟩;refine Ig (λ h2=>?_) (λ h2=>?_)
   ·have h3:0 < (ns.length:Int):=by simpa using h2
    have h4:(0:Int) < ((ns.map V.int).length:Int):=by simpa using h3
    obtain⟨z,hz,_⟩:=qh ns (k % ((ns.map V.int).length:Int)) (J5 _ %[0|8]) (by have:=JP k h4;simpa using this);refine⟨_,rfl,_,rfl,_,rfl,a,_,rfl,.inl hS,_,_,rfl,rfl,h4,a,_,_,_,rfl,rfl,hS,hz,_,_,rfl,rfl,(by first|decide|(show (0:Int) < _;decide)),?_⟩;refine⟨_,rfl,_,rfl,_,_,rfl,rfl,.inl ⟨by decide,by decide⟩,_,rfl,_,_,rfl,rfl,.inr ⟨by omega,by omega⟩,_,_,rfl,rfl,_,_,rfl,rfl,?_,?_⟩
    ·refine .inl ⟨?_,?_⟩
     ·have:=J5 z (show (999999937:Int) ≠ 0 by decide);omega
     ·have:=JP z (show (0:Int) < 999999937 by decide);omega
    refine⟨_,rfl,_,_,rfl,rfl,.inr ⟨by decide,by decide⟩,_,_,rfl,rfl,?_⟩;exact⟨_,rfl,_,_,rfl,rfl,(by first|decide|(show (0:Int) < _;decide)),_,_,rfl,rfl,.inr ⟨by decide,by decide⟩,_,_,rfl,rfl,(by first|decide|(show (0:Int) < _;decide)),_,rfl,_,_,rfl,rfl,hm,by rw [Cq h1 h3 (show atI (ns.map V.int) (k % (ns.length:Int))=some (.int z) by rw [←hz,Jg])] at kk;exact kk⟩
   ·exact⟨_,rfl,_,_,rfl,rfl,(by first|decide|(show (0:Int) < _;decide)),_,_,rfl,rfl,.inr ⟨by decide,by decide⟩,_,_,rfl,rfl,(by first|decide|(show (0:Int) < _;decide)),_,rfl,_,_,rfl,rfl,hm,by rw [Cp h1 (show ¬ (0:Int) < (ns.length:Int) by simpa using h2)] at kk;exact kk⟩
def zm(K:W.Frag)(a:Addr)(ns:List Int):Sp:=λ vs H Q E=>∃ (k:Int) (m:Int),vs=[.ref a,.int k,.int m]/\(SqL K H a (ns.map V.int)/\ns.length<=63/\(0<=k/\k < 1000)/\0 < m/\∀ z:Int,0<=z->z < m->Q (.int z) H)
theorem br(K:W.Frag)(a:Addr)(ns:List Int)(k:Int)(m:Int)(H:Hp)(Q:VK)(E:XK):zm K a ns [.ref a,.int k,.int m] H Q E=(SqL K H a (ns.map V.int)/\ns.length<=63/\(0<=k/\k < 1000)/\0 < m/\∀ z:Int,0<=z->z < m->Q (.int z) H):=jq (f:=λ (k:Int) (m:Int)=>[.ref a,.int k,.int m]) (λ _ _ _ _ h=>by cases h;exact⟨rfl,rfl⟩) k m
theorem bT(T:Tx K mg t)(a:Addr)(ns:List Int):aB P w K mg base CX0 1 t.a__law_draw t.d__law_draw ["_law_script", "_law_k", "_law_many"] (zm K a ns):=by
 refine(gf T a ns).imp λ vs H Q E h=>?_;obtain⟨k,m,rfl,hS,hl,hk,hm,kk⟩:=h;exact⟨k,m,rfl,hS,hl,hk,hm,kk _ (J5 _ %[0|8]) (JP _ hm)⟩
def kr  : Sp:=λ vs H Q E=>∃ (x:V),vs=[x]/\(aP (isW H x) (kE4 H Q))
theorem et  (x:V) (H:Hp) (Q:VK) (E:XK):kr  [x] H Q E=(aP (isW H x) (kE4 H Q)):=lS (f:=λ (x:V)=>[x]) (λ _ _ h=>by cases h;exact rfl) x
theorem mx  {vs:List V}{H:Hp}{Q:VK}{E:XK}(h:kr  vs H Q E):vs.length=1:=jt h λ _=>rfl
theorem ll(T:Tx K mg t):aB P w K mg base CX0 1 t.a__law_whole t.d__law_whole ["_law_found"] kr:=by
 refine T.F__law_whole.ok nW (λ vs H Q E h=>mx h) (λ c A o s H vs Q E hr h=>?_)
 ·obtain⟨x,rfl,h⟩:=h;obtain⟨b,hb,k⟩:=ao h;clear h;rw [zY] at k;refine⟨_,%[%[%[%[isinstance,bQ,%[%[0|0],%[(@dk _ _ (.ty "int") (.type "int") _ ∅ T.z_int nofun rfl ⋯ ⋯)|1]|1]|6],%[(@tJ _ _ _ _ %[isinstance,bQ,%[%[0|0],%[(@dk _ _ (.ty "bool") (.type "bool") _ ∅ T.z_bool nofun rfl ⋯ ⋯)|1]|1]|6])|36]|31]|11]|9],?_⟩;rw [show ak ["_law_found"] [x]=[some (x)] from rfl]
  cases x with
  | int i=>cases hb;ac_rfl
  | bl i=>cases hb;ac_rfl
  | non=>cases hb;ac_rfl
  | str i=>cases hb;ac_rfl
  | ref p=>
   obtain⟨rfl,o,ho,ht⟩:=t6 hb
   rcases ht with ht|ht|ht<;>ac_rfl
  | _=>cases hb
theorem fC(T:Tx K mg t):aB P w K mg base CX0 1 t.a_is_whole t.d_is_whole ["thing"] kr:=by
 refine T.F_is_whole.ok rN (λ vs H Q E h=>mx h) (λ c A o s H vs Q E hr h=>?_)
 ·obtain⟨x,rfl,h⟩:=h;obtain⟨b,hb,k⟩:=ao h;clear h;rw [zY] at k;refine⟨_,%[%[%[%[isinstance,bQ,%[%[0|0],%[(@dk _ _ (.ty "int") (.type "int") _ ∅ T.z_int nofun rfl ⋯ ⋯)|1]|1]|6],%[(@tJ _ _ _ _ %[isinstance,bQ,%[%[0|0],%[(@dk _ _ (.ty "bool") (.type "bool") _ ∅ T.z_bool nofun rfl ⋯ ⋯)|1]|1]|6])|36]|31]|11]|9],?_⟩;rw [show ak ["thing"] [x]=[some (x)] from rfl]
  cases x with
  | int i=>cases hb;ac_rfl
  | bl i=>cases hb;ac_rfl
  | non=>cases hb;ac_rfl
  | str i=>cases hb;ac_rfl
  | ref p=>
   obtain⟨rfl,o,ho,ht⟩:=t6 hb
   rcases ht with ht|ht|ht<;>ac_rfl
  | _=>cases hb
def kSz(F:List Int->Prop):List Int->Prop:=λ ns=>lY ns/\F ns
theorem GY(F:List Int->Prop)(ns:List Int):kSz F ns=(lY ns/\F ns):=rfl
def FZ(H:Hp)(Q:VK):List Int->Prop:=λ ns=>Q (.int (af ns)) H
theorem zb(H:Hp)(Q:VK)(ns:List Int):FZ H Q ns=Q (.int (af ns)) H:=rfl
def oQ  : Sp:=λ vs H Q E=>∃ (p:Addr),vs=[.ref p]/\(aP (aQ H p) (lX (kSz (FZ H Q))))
theorem wu  (p:Addr) (H:Hp) (Q:VK) (E:XK):oQ  [.ref p] H Q E=(aP (aQ H p) (lX (kSz (FZ H Q)))):=lS (f:=λ (p:Addr)=>[.ref p]) (λ _ _ h=>by cases h;exact rfl) p
theorem vI  {vs:List V}{H:Hp}{Q:VK}{E:XK}(h:oQ  vs H Q E):vs.length=1:=jt h λ _=>rfl
theorem o6(T:Tx K mg t):aB P w K mg base CX0 1 t.a_count_of t.d_count_of ["sizes"] oQ:=by
 refine T.F_count_of.ok eT (λ vs H Q E h=>vI h) (λ c A o s H vs Q E hr h=>?_)
 ·obtain⟨p,rfl,h⟩:=h;obtain⟨xs,hp,ns,rfl,hs,k⟩:=ao h;replace hp:=cy hp;rw [zb] at k;refine⟨_,%[%[1,eT,%[0|2]|4],%[%[Jp,rfl,%[%[0|0]|22],%[2,eT|5],%[%[1,eT,%[A6,%[1|0],%[2|0]|12]|4]|9],(by intros;rfl)|23],%[%[%[1|0]|11]|9]|10]|10],?_⟩;rw [show ak ["sizes", "count", "size"] [.ref p]=[some (.ref p),none,none] from rfl];ac_rfl;refine ej (xs:=ns.map V.int) (λ i σ H'=>∃ v:Option V,σ=[some (.ref p),some (.int (af (ns.take i))),v]/\H'=H) ⟨_,rfl,rfl⟩ (λ i σ H' _ ⟨_,_,e⟩=>by subst e;exact hp) ?_ ?_
  ·rintro i x _ _ hi ⟨v,rfl,rfl⟩;rw [Jl] at hi;obtain⟨z,hz,rfl⟩:=Jd.mp hi;have e:=gJ ns i z hz;have b1:=(hs.take i).prod;have b2:=hs.2 z (Jm hz)
   have c1:(af (ns.take i)).natAbs < 2 ^ 256:=by
    generalize af (ns.take i)=y at b1;have:(1000000000:Int) ^ 8 < 2 ^ 256:=by decide
    omega
   have c2:z.natAbs < 2 ^ 256:=by omega
   clear b1 b2;simp! only [↓aS,yW];exact⟨_,rfl⟩
  ·rintro _ _ ⟨v,rfl,rfl⟩;rw [Jg,JB];ac_rfl
def kG  : Sp:=λ vs H Q E=>∃ (i:Int) (lo:Int) (hi:Int),vs=[.int i,.int lo,.int hi]/\(Q (.bl (decide (lo<=i) && decide (i<=hi))) H)
theorem jZ  (i:Int) (lo:Int) (hi:Int) (H:Hp) (Q:VK) (E:XK):kG  [.int i,.int lo,.int hi] H Q E=(Q (.bl (decide (lo<=i) && decide (i<=hi))) H):=rR (f:=λ (i:Int) (lo:Int) (hi:Int)=>[.int i,.int lo,.int hi]) (λ _ _ _ _ _ _ h=>by cases h;exact⟨rfl,rfl,rfl⟩) i lo hi
theorem rg  {vs:List V}{H:Hp}{Q:VK}{E:XK}(h:kG  vs H Q E):vs.length=3:=rS h λ _ _ _=>rfl
theorem gW(T:Tx K mg t):aB P w K mg base CX0 2 t.a_is_within t.d_is_within ["thing", "low", "high"] kG:=by
 have G_is_whole:=%[fC|45];refine T.F_is_within.ok pI (λ vs H Q E h=>rg h) (λ c A o s H vs Q E hr h=>?_)
 ·obtain⟨i,lo,hi,rfl,k⟩:=h;refine⟨_,%[%[%[%[is_whole,%[%[0|0]|1]|3],%[(@uG _ _ _ _ _ _ _ _ _ _ _ _ wH wH %[1|0] %[0|0] %[2|0] ∅)|36]|31]|11]|9],?_⟩;rw [show ak ["thing", "low", "high"] [.int i,.int lo,.int hi]=[some (.int i),some (.int lo),some (.int hi)] from rfl]
  by_cases h0:lo<=i
  ·rw [decide_eq_true h0,Bool.true_and] at k;simp! only [↓et]
  ·rw [J4 h0,Bool.false_and] at k;simp! only [↓et]
def sH  : Sp:=λ vs H Q E=>∃ (i:Int),vs=[.int i]/\(Q (.bl (decide (1<=i) && decide (i<=1000000000))) H)
theorem yM  (i:Int) (H:Hp) (Q:VK) (E:XK):sH  [.int i] H Q E=(Q (.bl (decide (1<=i) && decide (i<=1000000000))) H):=lS (f:=λ (i:Int)=>[.int i]) (λ _ _ h=>by cases h;exact rfl) i
theorem ya  {vs:List V}{H:Hp}{Q:VK}{E:XK}(h:sH  vs H Q E):vs.length=1:=jt h λ _=>rfl
theorem qM(T:Tx K mg t):aB P w K mg base CX0 3 t.a_is_size t.d_is_size ["thing"] sH:=by
 have G_is_within:=%[gW|45];refine T.F_is_size.ok wy (λ vs H Q E h=>ya h) (λ c A o s H vs Q E hr h=>?_)
 ·obtain⟨i,rfl,k⟩:=h;refine⟨_,%[%[%[is_within,%[%[0|0],%[%[0|2],%[(@bV _ _ (.int 1000000000) _ _ ∅ T.m_MOST_SIZE.choose_spec ⟨_,rfl⟩ ⋯)|1]|1]|1]|3]|11]|9],?_⟩;rw [show ak ["thing"] [.int i]=[some (.int i)] from rfl];simp! only [↓jZ]
abbrev qz  (p:Addr) (H:Hp) (Q:VK) (E:XK):Prop:=∃ a:Int × Int,H p=some (.tup [.int a.1,.int a.2])/\1<=a.1/\a.1<=1000000000/\Q (.bl true) H
def sT  : Sp:=λ vs H Q E=>∃ (p:Addr),vs=[.ref p]/\(qz  p H Q E)
theorem yT  (p:Addr) (H:Hp) (Q:VK) (E:XK):sT  [.ref p] H Q E=(qz  p H Q E):=lS (f:=λ (p:Addr)=>[.ref p]) (λ _ _ h=>by cases h;exact rfl) p
theorem ym  {vs:List V}{H:Hp}{Q:VK}{E:XK}(h:sT  vs H Q E):vs.length=1:=jt h λ _=>rfl
theorem qN(T:Tx K mg t):aB P w K mg base CX0 4 t.a_is_axis t.d_is_axis ["thing"] sT:=by
 have G_is_size:=%[qM|45];have G_is_whole:=%[fC|45];refine T.F_is_axis.ok wz (λ vs H Q E h=>ym h) (λ c A o s H vs Q E hr h=>?_)
 ·obtain⟨p,rfl,a,hp,h1,h2,k⟩:=h;refine⟨_,%[%[%[%[isinstance,bQ,%[%[0|0],%[(@dk _ _ (.ty "tuple") (.type "tuple") _ ∅ T.z_tuple nofun rfl ⋯ ⋯)|1]|1]|6],%[%[(cw hr.units),%[len,bg,%[%[0|0]|1]|6],%[0|2],(az _)|38],%[%[is_size,%[%[eV,%[0|0],%[0|2],(λ _ _=>rfl)|19]|1]|3],%[%[is_whole,%[%[eV,%[0|0],%[0|2],(λ _ _=>rfl)|19]|1]|3]|36]|31]|31]|31]|11]|9],?_⟩;rw [show ak ["thing"] [.ref p]=[some (.ref p)] from rfl];simp! only [↓yM,↓et]
abbrev qu  (p:Addr) (H:Hp) (Q:VK) (E:XK):Prop:=∃ a:Int × Int,H p=some (.tup [.int a.1,.int a.2])/\∀ (r:Addr) (H':Hp),H r=none->Ext H H'->H' r=some (.tup [.int (aY a).1,.int (aY a).2])->Q (.ref r) H'
def sO  : Sp:=λ vs H Q E=>∃ (p:Addr),vs=[.ref p]/\(qu  p H Q E)
theorem yP  (p:Addr) (H:Hp) (Q:VK) (E:XK):sO  [.ref p] H Q E=(qu  p H Q E):=lS (f:=λ (p:Addr)=>[.ref p]) (λ _ _ h=>by cases h;exact rfl) p
theorem yh  {vs:List V}{H:Hp}{Q:VK}{E:XK}(h:sO  vs H Q E):vs.length=1:=jt h λ _=>rfl
theorem nu(T:Tx K mg t):aB P w K mg base CX0 1 t.a_kept_axis t.d_kept_axis ["axis"] sO:=by
 refine T.F_kept_axis.ok pH (λ vs H Q E h=>yh h) (λ c A o s H vs Q E hr h=>?_)
 ·obtain⟨p,rfl,a,hp,k⟩:=h;refine⟨_,%[%[%[%[%[eV,%[0|0],%[0|2],(λ _ _=>rfl)|19],%[(@xt _ _ _ _ _ _ _ _ %[qC,%[eV,%[0|0],%[0|2],(λ _ _=>rfl)|19],%[0|2],(az _)|17] %[eV,%[0|0],%[0|2],(λ _ _=>rfl)|19] %[0|2])|1]|1]|24]|11]|9],?_⟩;rw [show ak ["axis"] [.ref p]=[some (.ref p)] from rfl];have e1:(aY a).1=a.1:=rfl
  by_cases h1:1 < a.1
  ·have e2:(aY a).2=a.2:=Jw h1;rw [e1,e2] at k;ac_rfl;exact λ r H' h e h'=>k r H' h e h'
  ·have e2:(aY a).2=0:=Jt h1;rw [e1,e2] at k;ac_rfl;exact λ r H' h e h'=>k r H' h e h'
abbrev qA  (p:Addr) (H:Hp) (Q:VK) (E:XK):Prop:=∃ axs:List (Int × Int),aO H p (axL axs)/\dQ axs/\∀ H',Ext H H'->Q (.bl true) H'
def sU  : Sp:=λ vs H Q E=>∃ (p:Addr),vs=[.ref p]/\(qA  p H Q E)
theorem yU  (p:Addr) (H:Hp) (Q:VK) (E:XK):sU  [.ref p] H Q E=(qA  p H Q E):=lS (f:=λ (p:Addr)=>[.ref p]) (λ _ _ h=>by cases h;exact rfl) p
theorem yn  {vs:List V}{H:Hp}{Q:VK}{E:XK}(h:sU  vs H Q E):vs.length=1:=jt h λ _=>rfl
theorem o7(T:Tx K mg t):aB P w K mg base CX0 5 t.a_are_axes t.d_are_axes ["thing"] sU:=by
 have G_is_axis:=%[qN|45];refine T.F_are_axes.ok rO (λ vs H Q E h=>yn h) (λ c A o s H vs Q E hr h=>?_)
 ·obtain⟨p,rfl,axs,⟨ys,hp,al⟩,ha,k⟩:=h;refine⟨_,%[%[%[%[isinstance,bQ,%[%[0|0],%[(@dk _ _ (.ty "list") (.type "list") _ ∅ T.z_list nofun rfl ⋯ ⋯)|1]|1]|6],%[%[wH,%[len,bg,%[%[0|0]|1]|6],(@bV _ _ (.int 8) _ _ ∅ T.m_MOST_AXES.choose_spec ⟨_,rfl⟩ ⋯),(az _)|38],%[%[all,(vU rfl),%[%[(["axis", "thing"]),(1),(bu (aa eP) ["thing"] rfl rfl nofun),rfl,%[%[0|0]|22],(λ C s₀ H₀ ex pn=>%[(0),_,(show List.Nodup (["axis", "thing"]:List Str) from by decide +kernel),rfl,(Or.inl rfl),%[0|7]|21]),(λ C s₀ H₀ ex pn=>(@bB _)),(λ C s₀ H₀ ex pn=>%[is_axis,%[%[0|0]|1]|3]),(by intros;rfl)|28]|1]|6]|36]|31]|31]|11]|9],?_⟩;rw [show ak ["thing"] [.ref p]=[some (.ref p)] from rfl];have hl:ys.length=axs.length:=by rw [al.1];unfold axL;rw [length_map]
  have hl8:(axs.length:Int)<=8:=by have:=ha.1;omega
  ac_rfl;refine cc ys (λ _=>true) (λ _=>.bl true) (λ z x H'=>x=z/\H' p=some (.lst ys)) (sC hp).1 (sC hp).2 (bc %[0|8]) ?_ ?_
  ·intro D z x H' N1 N0 hz hD e ⟨hx,_⟩ k1 _;subst hx;obtain⟨i,hi,rfl⟩:=Ll hz;have hi':i < axs.length:=by rw [←hl];exact hi
   obtain⟨q,hq1,hq2⟩:=al.2 i [axs[i].1,axs[i].2] ys[i] (by unfold axL;rw [getElem?_map,getElem?_eq_getElem hi'];rfl) (getElem?_eq_getElem hi);have hb:=ha.2 _ (getElem_mem hi');have k1':=k1 rfl H' (Ext.refl _);have hq3:=e.at hq2;rw [hq1];clear k1 k hp al;simp! only [↓dm,↓cx];rw [yT];exact⟨axs[i],hq3,hb.1,hb.2,k1'⟩
  ·intro D H' hD e hD';have hD2:H' D=some (.lst ((ys.map λ _=>true).map V.bl)):=by rw [hD',rX,KY];rfl
   have e2:((ys.map λ _=>true).all id)=true:=by rw [List.all_map];simp
   have k2:=k H' e;clear k hD';ac_rfl
theorem pB{zs:List (List Int)}{ys:List V}{H:Hp}(al:Al (wF H) zs ys){i:Nat}{y:V}(h:ys[i]? = some y):∃ z,zs[i]? = some z/\wF H z y:=by
 have hi:i < ys.length:=(Jb.mp h).1;have hz:zs[i]? = some (zs[i]'(by rw [←al.1];exact hi)):=IX _;exact⟨_,hz,al.2 i _ y hz h⟩
abbrev qr(cT:Addr)(n:Int)(H:Hp)(Q:VK)(E:XK):Prop:=(n<=4096->Q .non H)/\¬ 4096 < n
def sM(cT:Addr):Sp:=λ vs H Q E=>∃ (n:Int),vs=[.int n]/\(qr cT n H Q E)
theorem qg(cT:Addr)(n:Int)(H:Hp)(Q:VK)(E:XK):sM cT [.int n] H Q E=(qr cT n H Q E):=lS (f:=λ (n:Int)=>[.int n]) (λ _ _ h=>by cases h;exact rfl) n
theorem yf(cT:Addr){vs:List V}{H:Hp}{Q:VK}{E:XK}(h:sM cT vs H Q E):vs.length=1:=jt h λ _=>rfl
theorem eY(T:Tx K mg t):aB P w K mg base CX0 3 t.a_refuse_long t.d_refuse_long ["count"] (sM t.a_TooMany):=by
 refine T.F_refuse_long.ok gi (λ vs H Q E h=>yf _ h) (λ c A o s H vs Q E hr h=>?_)
 ·obtain⟨n,rfl,k1,hn⟩:=h;refine⟨_,%[%[%[qC,%[0|0],(@bV _ _ (.int 4096) _ _ ∅ T.m_MOST_TOLD.choose_spec ⟨_,rfl⟩ ⋯),(az _)|17],%[(@dq _ _)|9],(@au _)|18]|9],?_⟩;rw [show ak ["count"] [.int n]=[some (.int n)] from rfl];have k1':=k1 %[0|8];clear k1;ac_rfl
theorem HP(x:Int):min 0 x=if x < 0 then x else 0:=by split<;>omega
theorem HQ(x:Int):max 0 x=if 0 < x then x else 0:=by split<;>omega
structure aw(C:Addr)(H:Hp)(v:Addr)(room first:Int)(axs:List (Int × Int)):Prop where
 ob:∃ dx l,H v=some (.ins C dx (cX room first l))/\aO H l (axL axs)
theorem aw.ext{C:Addr}{H H':Hp}{v:Addr}{room first:Int}{axs:List (Int × Int)}(h:aw C H v room first axs)(e:Ext H H'):aw C H' v room first axs:=by
 obtain⟨dx,l,h1,h2⟩:=h.ob;exact⟨⟨dx,l,e.at h1,h2.ext e⟩⟩
theorem zR{m:Str}(h:m∈([("sizes":Str), "paces", "count", "cell", "cell_at", "cells", "least", "greatest"]:List Str)):¬ m = "axes" /\ ¬ m = "first" /\ ¬ m = "room":=by
 revert m
 decide +kernel
theorem vn(room first:Int)(l:Addr){m:Str}(h:m∈([("sizes":Str), "paces", "count", "cell", "cell_at", "cells", "least", "greatest"]:List Str)):(cX room first l).lookup m=none:=wX room first l (zR h).1 (zR h).2.1 (zR h).2.2
theorem Am{H:Hp}{axs:List (Int × Int)}{ys:List V}(al:Al (wF H) (axL axs) ys){i:Nat}{y:V}(h:ys[i]? = some y):∃ a q,axs[i]? = some a/\y=.ref q/\H q=some (.tup [.int a.1,.int a.2]):=by
 obtain⟨z,hz,q,hq,hq2⟩:=pB al h;unfold axL at hz;rw [getElem?_map] at hz;obtain⟨a,ha,rfl⟩:=Option.map_eq_some_iff.mp hz;exact⟨a,q,ha,hq,hq2⟩
abbrev m8(C:Addr)(v:Addr)(H:Hp)(Q:VK)(E:XK):Prop:=∃ (room first:Int) (axs:List (Int × Int)),aw C H v room first axs/\dQ axs/\∀ H',Ext H H'->Q (.int (first+aE axs)) H'
def ku(C:Addr):Sp:=λ vs H Q E=>∃ (v:Addr),vs=[.ref v]/\(m8 C v H Q E)
theorem wg(C:Addr)(v:Addr)(H:Hp)(Q:VK)(E:XK):ku C [.ref v] H Q E=(m8 C v H Q E):=lS (f:=λ (v:Addr)=>[.ref v]) (λ _ _ h=>by cases h;exact rfl) v
theorem vz(C:Addr){vs:List V}{H:Hp}{Q:VK}{E:XK}(h:ku C vs H Q E):vs.length=1:=jt h λ _=>rfl
theorem ly(T:Tx K mg t):aB P w K mg base CX0 1 t.a_View_least t.d_View_least ["self"] (ku t.a_View):=by
 refine T.F_View_least.ok nY (λ vs H Q E h=>vz _ h) (λ c A o s H vs Q E hr h=>?_)
 ·obtain⟨v,rfl,room,first,axs,vo,hax,k⟩:=h;obtain⟨dx,l,hv,ys,hl,al⟩:=vo.ob;have c1:=T.cl_View;have c2:=T.na_View_first;have c3:=T.na_View_axes
  have f1:=du room first l
  have f2:=cY room first l
  refine⟨_,%[%[%[bb,%[%[0|0],rfl|13],%[sum,(mI rfl),%[%[(["size", "pace", "self"]),(2),(bu (aa cD) ["self"] rfl rfl nofun),rfl,%[%[%[0|0],rfl|13]|22],(λ C s₀ H₀ ex pn=>(%[(2),rfl,%[%[(0),_,(show List.Nodup (["size", "pace", "self"]:List Str) from by decide +kernel),rfl,(Or.inl rfl),%[0|7]|21],%[%[(1),_,(show List.Nodup (["size", "pace", "self"]:List Str) from by decide +kernel),rfl,(Or.inl rfl),%[0|7]|21],(@aJ _),∅|16],∅|16],∅,∅|25].mono λ _ _ _ _ h=>bP h)),(λ C s₀ H₀ ex pn=>(@bB _)),(λ C s₀ H₀ ex pn=>%[min,(mJ rfl),%[%[0|2],%[%[eh,%[cb,%[0|0],%[0|2]|12],%[1|0]|12]|1]|1]|6]),(by intros;rfl)|28]|1]|6]|12]|11]|9],?_⟩;rw [show ak ["self"] [.ref v]=[some (.ref v)] from rfl];ac_rfl;have wk:=oo (K:=K) (R:=axP) (λ _ _ _ _ h e=>h.ext e) hl (pU al);refine cc axs (λ _=>true) (λ a=>.int (min 0 ((a.1 - 1) * a.2))) axP wk.1 wk.2 (bc (by have:=hax.1;omega)) ?_ ?_
  ·intro D a x H' N1 N0 ha hD e ⟨q,hx,hq⟩ k1 _;subst hx;have hb:=hax.2 a ha;have k1':=k1 rfl H' (Ext.refl _);have hcm:jH (a.1 - 1) a.2:=.inl ⟨by omega,by omega⟩;rw [HP] at k1';clear k1 k;simp! only [↓gu,↓cx]
  ·intro D H' hD e hD';have hD2:H' D=some (.lst ((axs.map λ a=>min 0 ((a.1 - 1) * a.2)).map V.int)):=by rw [hD',rX,KY];rfl
   have k2:Q (.int (first+(axs.map λ a=>min 0 ((a.1 - 1) * a.2)).sum)) H':=k H' e;clear k hD';ac_rfl
abbrev g8(C:Addr)(v:Addr)(H:Hp)(Q:VK)(E:XK):Prop:=∃ (room first:Int) (axs:List (Int × Int)),aw C H v room first axs/\dQ axs/\∀ H',Ext H H'->Q (.int (first+aF axs)) H'
def gz(C:Addr):Sp:=λ vs H Q E=>∃ (v:Addr),vs=[.ref v]/\(g8 C v H Q E)
theorem nS(C:Addr)(v:Addr)(H:Hp)(Q:VK)(E:XK):gz C [.ref v] H Q E=(g8 C v H Q E):=lS (f:=λ (v:Addr)=>[.ref v]) (λ _ _ h=>by cases h;exact rfl) v
theorem nN(C:Addr){vs:List V}{H:Hp}{Q:VK}{E:XK}(h:gz C vs H Q E):vs.length=1:=jt h λ _=>rfl
theorem hJ(T:Tx K mg t):aB P w K mg base CX0 1 t.a_View_greatest t.d_View_greatest ["self"] (gz t.a_View):=by
 refine T.F_View_greatest.ok jl (λ vs H Q E h=>nN _ h) (λ c A o s H vs Q E hr h=>?_)
 ·obtain⟨v,rfl,room,first,axs,vo,hax,k⟩:=h;obtain⟨dx,l,hv,ys,hl,al⟩:=vo.ob;have c1:=T.cl_View;have c2:=T.na_View_first;have c3:=T.na_View_axes
  have f1:=du room first l
  have f2:=cY room first l
  refine⟨_,%[%[%[bb,%[%[0|0],rfl|13],%[sum,(mI rfl),%[%[(["size", "pace", "self"]),(2),(bu (aa bD) ["self"] rfl rfl nofun),rfl,%[%[%[0|0],rfl|13]|22],(λ C s₀ H₀ ex pn=>(%[(2),rfl,%[%[(0),_,(show List.Nodup (["size", "pace", "self"]:List Str) from by decide +kernel),rfl,(Or.inl rfl),%[0|7]|21],%[%[(1),_,(show List.Nodup (["size", "pace", "self"]:List Str) from by decide +kernel),rfl,(Or.inl rfl),%[0|7]|21],(@aJ _),∅|16],∅|16],∅,∅|25].mono λ _ _ _ _ h=>bP h)),(λ C s₀ H₀ ex pn=>(@bB _)),(λ C s₀ H₀ ex pn=>%[max,(mK rfl),%[%[0|2],%[%[eh,%[cb,%[0|0],%[0|2]|12],%[1|0]|12]|1]|1]|6]),(by intros;rfl)|28]|1]|6]|12]|11]|9],?_⟩;rw [show ak ["self"] [.ref v]=[some (.ref v)] from rfl];ac_rfl;have wk:=oo (K:=K) (R:=axP) (λ _ _ _ _ h e=>h.ext e) hl (pU al);refine cc axs (λ _=>true) (λ a=>.int (max 0 ((a.1 - 1) * a.2))) axP wk.1 wk.2 (bc (by have:=hax.1;omega)) ?_ ?_
  ·intro D a x H' N1 N0 ha hD e ⟨q,hx,hq⟩ k1 _;subst hx;have hb:=hax.2 a ha;have k1':=k1 rfl H' (Ext.refl _);have hcm:jH (a.1 - 1) a.2:=.inl ⟨by omega,by omega⟩;rw [HQ] at k1';clear k1 k;simp! only [↓gu,↓cx]
  ·intro D H' hD e hD';have hD2:H' D=some (.lst ((axs.map λ a=>max 0 ((a.1 - 1) * a.2)).map V.int)):=by rw [hD',rX,KY];rfl
   have k2:Q (.int (first+(axs.map λ a=>max 0 ((a.1 - 1) * a.2)).sum)) H':=k H' e;clear k hD';ac_rfl
def HV(H:Hp)(Q:VK)(f:Int × Int->Int)(axs:List (Int × Int)):Prop:=∀ (r:Addr) (H':Hp),H r=none->Ext H H'->H' r=some (.lst ((axs.map f).map V.int))->Q (.ref r) H'
abbrev kd(C:Addr)(v:Addr)(H:Hp)(Q:VK)(E:XK):Prop:=∃ (room first:Int) (axs:List (Int × Int)),aw C H v room first axs/\axs.length<=8/\HV H Q (λ a=>a.1) axs
def kI(C:Addr):Sp:=λ vs H Q E=>∃ (v:Addr),vs=[.ref v]/\(kd C v H Q E)
theorem rJ(C:Addr)(v:Addr)(H:Hp)(Q:VK)(E:XK):kI C [.ref v] H Q E=(kd C v H Q E):=lS (f:=λ (v:Addr)=>[.ref v]) (λ _ _ h=>by cases h;exact rfl) v
theorem rj(C:Addr){vs:List V}{H:Hp}{Q:VK}{E:XK}(h:kI C vs H Q E):vs.length=1:=jt h λ _=>rfl
theorem lx(T:Tx K mg t):aB P w K mg base CX0 1 t.a_View_sizes t.d_View_sizes ["self"] (kI t.a_View):=by
 refine T.F_View_sizes.ok nX (λ vs H Q E h=>rj _ h) (λ c A o s H vs Q E hr h=>?_)
 ·obtain⟨v,rfl,room,first,axs,vo,hax,k⟩:=h;obtain⟨dx,l,hv,ys,hl,al⟩:=vo.ob;have c1:=T.cl_View;have c3:=T.na_View_axes
  have f2:=cY room first l
  refine⟨_,%[%[%[(["size", "pace", "self"]),(2),(bu (aa cB) ["self"] rfl rfl nofun),rfl,%[%[%[0|0],rfl|13]|22],(λ C s₀ H₀ ex pn=>(%[(2),rfl,%[%[(0),_,(show List.Nodup (["size", "pace", "self"]:List Str) from by decide +kernel),rfl,(Or.inl rfl),%[0|7]|21],%[%[(1),_,(show List.Nodup (["size", "pace", "self"]:List Str) from by decide +kernel),rfl,(Or.inl rfl),%[0|7]|21],(@aJ _),∅|16],∅|16],∅,∅|25].mono λ _ _ _ _ h=>bP h)),(λ C s₀ H₀ ex pn=>(@bB _)),(λ C s₀ H₀ ex pn=>%[0|0]),(by intros;rfl)|28]|11]|9],?_⟩;rw [show ak ["self"] [.ref v]=[some (.ref v)] from rfl];ac_rfl;have wk:=oo (K:=K) (R:=axP) (λ _ _ _ _ h e=>h.ext e) hl (pU al);refine cc axs (λ _=>true) (λ a=>.int a.1) axP wk.1 wk.2 (bc %[0|8]) ?_ ?_
  ·intro D a x H' N1 N0 ha hD e ⟨q,hx,hq⟩ k1 _;subst hx;have k1':=k1 rfl H' (Ext.refl _);clear k1 k;simp! only [↓gu,↓cx]
  ·intro D H' hD e hD';exact k D H' hD e (by rw [hD',rX,KY];rfl)
abbrev rQ(C:Addr)(v:Addr)(H:Hp)(Q:VK)(E:XK):Prop:=∃ (room first:Int) (axs:List (Int × Int)),aw C H v room first axs/\axs.length<=8/\HV H Q (λ a=>a.2) axs
def Fz(C:Addr):Sp:=λ vs H Q E=>∃ (v:Addr),vs=[.ref v]/\(rQ C v H Q E)
abbrev kg(C:Addr)(v:Addr)(H:Hp)(Q:VK)(E:XK):Prop:=∃ (room first:Int) (axs:List (Int × Int)),aw C H v room first axs/\dQ axs/\∀ H',Ext H H'->Q (.int (af (axs.map λ a=>a.1))) H'
def kJ(C:Addr):Sp:=λ vs H Q E=>∃ (v:Addr),vs=[.ref v]/\(kg C v H Q E)
theorem bx(C:Addr)(v:Addr)(H:Hp)(Q:VK)(E:XK):kJ C [.ref v] H Q E=(kg C v H Q E):=lS (f:=λ (v:Addr)=>[.ref v]) (λ _ _ h=>by cases h;exact rfl) v
theorem rm(C:Addr){vs:List V}{H:Hp}{Q:VK}{E:XK}(h:kJ C vs H Q E):vs.length=1:=jt h λ _=>rfl
theorem aL(T:Tx K mg t):aB P w K mg base CX0 2 t.a_View_count t.d_View_count ["self"] (kJ t.a_View):=by
 have G_View_sizes:=%[lx|45];have G_count_of:=%[o6|45];refine T.F_View_count.ok nZ (λ vs H Q E h=>rm _ h) (λ c A o s H vs Q E hr h=>?_)
 ·obtain⟨v,rfl,room,first,axs,vo,hax,k⟩:=h;obtain⟨dx,l,hv,_⟩:=vo.ob
  have f3:=vn room first l (m := "sizes") nofun
  refine⟨_,%[%[%[count_of,%[%[%[0|0],T.cl_View,T.mt_View_sizes,G_View_sizes,(hr.mono ⋯),T.b_View_sizes,.nil,aC,∅|26]|1]|3]|11]|9],?_⟩;rw [show ak ["self"] [.ref v]=[some (.ref v)] from rfl];ac_rfl;rw [rJ];refine⟨room,first,axs,vo,hax.1,λ r H' hr' e h'=>?_⟩;have k':=k H' e;have hsz:=hax.sizes;clear k;simp! only [↓wu,↓GY,↓zb]
def oA(C:Addr):Sp:=λ vs H Q E=>∃ (x:Addr) (room:Int) (first:Int) (l:Addr),vs=[.ref x,.int room,.int first,.ref l]/\(∃ (dx:Addr) (axs:List (Int × Int)),H x=some (.ins C dx [])/\aO H l (axL axs)/\jP room first axs/\∀ (H':Hp) (D:Addr),(∀ H0,Ext H0 H->H0 x=none->Ext H0 H')->H D=none->H' x=some (.ins C dx (cX room first D))->aO H' D (axL (axs.map aY))->Q .non H')
theorem iV(C:Addr)(x:Addr)(room:Int)(first:Int)(l:Addr)(H:Hp)(Q:VK)(E:XK):oA C [.ref x,.int room,.int first,.ref l] H Q E=(∃ (dx:Addr) (axs:List (Int × Int)),H x=some (.ins C dx [])/\aO H l (axL axs)/\jP room first axs/\∀ (H':Hp) (D:Addr),(∀ H0,Ext H0 H->H0 x=none->Ext H0 H')->H D=none->H' x=some (.ins C dx (cX room first D))->aO H' D (axL (axs.map aY))->Q .non H'):=CG (f:=λ (x:Addr) (room:Int) (first:Int) (l:Addr)=>[.ref x,.int room,.int first,.ref l]) (λ _ _ _ _ _ _ _ _ h=>by cases h;exact⟨rfl,rfl,rfl,rfl⟩) x room first l
theorem vh(C:Addr){vs:List V}{H:Hp}{Q:VK}{E:XK}(h:oA C vs H Q E):vs.length=4:=CH h λ _ _ _ _=>rfl
theorem dU(T:Tx K mg t):aB P w K mg base CX0 6 t.a_View___init__ t.d_View___init__ ["self", "room", "first", "axes"] (oA t.a_View):=by
 have G_is_within:=%[gW|45];have G_is_whole:=%[fC|45];have G_are_axes:=%[o7|45];have G_kept_axis:=%[nu|45];have G_View_least:=%[ly|45];have G_View_greatest:=%[hJ|45];refine T.F_View___init__.ok jm (λ vs H Q E h=>vh _ h) (λ c A o s H vs Q E hr h=>?_)
 ·obtain⟨x,room,first,l,rfl,dx,axs,hx,tl,vok,k⟩:=h;have c1:=T.cl_View;have c2:=T.na_View_first;have c3:=T.na_View_axes;have c4:=T.na_View_room;refine⟨_,%[%[(PW.pt %[%[%[%[is_within,%[%[1|0],%[%[0|2],%[(@bV _ _ (.int 1000000000000000000) _ _ ∅ T.m_MOST_ROOM.choose_spec ⟨_,rfl⟩ ⋯)|1]|1]|1]|3],(by intros;rfl)|32]|33],%[%[%[%[is_whole,%[%[2|0]|1]|3],(by intros;rfl)|32]|33],(@fQ _ _ _ _ %[%[%[are_axes,%[%[3|0]|1]|3],(by intros;rfl)|32]|33])|35]|35]),%[(@dq _ _)|9],(@au _)|18],%[%[%[0|0],%[1|0],rfl|29],%[%[%[0|0],%[2|0],rfl|29],%[%[%[0|0],%[(["axis", "self", "room", "first", "axes"]),(1),(bu (aa bE) ["self", "room", "first", "axes"] rfl rfl nofun),rfl,%[%[3|0]|22],(λ C s₀ H₀ ex pn=>%[(0),_,(show List.Nodup (["axis", "self", "room", "first", "axes"]:List Str) from by decide +kernel),rfl,(Or.inl rfl),%[0|7]|21]),(λ C s₀ H₀ ex pn=>(@bB _)),(λ C s₀ H₀ ex pn=>%[kept_axis,%[%[0|0]|1]|3]),(by intros;rfl)|28],rfl|29],%[%[(PW.pt %[%[GA,%[%[0|0],T.cl_View,T.mt_View_least,G_View_least,(hr.mono ⋯),T.b_View_least,.nil,aC,∅|26],%[0|2],(az _)|17],(@fQ _ _ _ _ %[GB,%[%[0|0],T.cl_View,T.mt_View_greatest,G_View_greatest,(hr.mono ⋯),T.b_View_greatest,.nil,aC,∅|26],%[1|0],(az _)|17])|35]),%[(@dq _ _)|9],(@au _)|18]|9]|10]|10]|10]|10],?_⟩;rw [show ak ["self", "room", "first", "axes"] [.ref x,.int room,.int first,.ref l]=[some (.ref x),some (.int room),some (.int first),some (.ref l)] from rfl];have r1:=vok.r1;have r2:=vok.r2;simp! only [↓jZ,↓et];rw [yU];refine⟨axs,tl,vok.ax,λ H1 e1=>?_⟩;have hx1:=e1.at hx;have tl1:=tl.ext e1;clear hx tl;ac_rfl;refine⟨(show (1:Nat) < 1000 by decide),?_⟩;obtain⟨ys,hl1,al1⟩:=tl1;have hlx:l ≠ x:=λ z=>by rw [z,hx1] at hl1;cases hl1
  have hx2:(upd H1 x (HO.ins t.a_View dx (dZ "first" (V.int first) (dZ "room" (V.int room) [])))) x=some (HO.ins t.a_View dx (dZ "first" (V.int first) (dZ "room" (V.int room) []))):=ag
  have hl2:(upd H1 x (HO.ins t.a_View dx (dZ "first" (V.int first) (dZ "room" (V.int room) [])))) l=some (.lst ys):=by rw [ai hlx];exact hl1
  have al2:Al (λ a y=>axP a y (upd H1 x (HO.ins t.a_View dx (dZ "first" (V.int first) (dZ "room" (V.int room) []))))) axs ys:=(pU al1).imp λ a y ⟨q,hy,hq⟩=>⟨q,hy,by rw [ai (λ z=>by rw [z,hx1] at hq;cases hq)];exact hq⟩;have b2:∀ H0,Ext H0 H->H0 x=none->Ext H0 (upd H1 x (HO.ins t.a_View dx (dZ "first" (V.int first) (dZ "room" (V.int room) [])))):=λ H0 q0 q1=>(q0.trans e1).put q1
  have b3:∀ b,b ≠ x->(upd H1 x (HO.ins t.a_View dx (dZ "first" (V.int first) (dZ "room" (V.int room) [])))) b=none->H b=none:=λ b hb q=>by rw [ai hb] at q;exact e1.free q
  generalize upd H1 x (HO.ins t.a_View dx (dZ "first" (V.int first) (dZ "room" (V.int room) [])))=H2 at hx2 hl2 al2 b2 b3;clear hl1 al1 hx1;ac_rfl;have wk:=oo (K:=K) (R:=axP) (λ _ _ _ _ h e=>h.ext e) hl2 al2;refine qd axs (λ _=>true) axP (λ D a y H'=>∃ q,y=.ref q/\q ≠ D/\H' q=some (.tup [.int (aY a).1,.int (aY a).2])) wk.1 wk.2 (λ D _ y H1 H2 ⟨q,h1,h2,h3⟩ e=>⟨q,h1,h2,e.at h3⟩) (λ D _ y H1 o ⟨q,h1,h2,h3⟩=>⟨q,h1,h2,by rw [ai h2];exact h3⟩) (bc (by have:=vok.ax.1;omega)) ?_ ?_
  ·intro D a y H' N1 N0 ha hD e ⟨ys0,hys0⟩ ⟨q,hy,hq⟩ k1 _;subst hy;have k1':=k1 rfl;clear k1 k;simp! only [↓dm,↓cx];rw [yP];exact⟨a,hq,λ r H'' hr' e' h'=>k1' _ H'' e' ⟨r,rfl,(λ z=>by rw [z,hys0] at hr';cases hr'),h'⟩⟩
  ·intro D zs H3 hD e3 hD3 al3;rw [rX] at al3;have hx3:=e3.at hx2;have hDx:D ≠ x:=λ z=>by rw [z,hx2] at hD;cases hD
   clear wk;ac_rfl;refine⟨(show (2:Nat) < 1000 by decide),?_⟩
   have tt:aO (upd H3 x (HO.ins t.a_View dx (cX room first D))) D (axL (axs.map aY)):=by
    refine⟨zs,by rw [ai hDx];exact hD3,?_,λ i z y hz hy=>?_⟩
    ·rw [al3.1];unfold axL;rw [length_map,length_map]
    ·unfold axL at hz;rw [map_map,getElem?_map] at hz;obtain⟨a,ha,rfl⟩:=Option.map_eq_some_iff.mp hz;obtain⟨q,hq1,_,hq3⟩:=al3.2 i a y ha hy;exact⟨q,hq1,by rw [ai (λ z=>by rw [z,hx3] at hq3;cases hq3)];exact hq3⟩
   have b4:∀ H0,Ext H0 H->H0 x=none->Ext H0 (upd H3 x (HO.ins t.a_View dx (cX room first D))):=λ H0 q0 q1=>((b2 H0 q0 q1).trans e3).put q1;have hx4:(upd H3 x (HO.ins t.a_View dx (cX room first D))) x=some (HO.ins t.a_View dx (cX room first D)):=ag
   have f1:=vn room first D (m := "least") nofun
   have f2:=vn room first D (m := "greatest") nofun
   refine⟨f1,?_⟩
   show ku t.a_View [V.ref x] (upd H3 x (HO.ins t.a_View dx (cX room first D))) _ _
   generalize upd H3 x (HO.ins t.a_View dx (cX room first D))=H4 at tt b4 hx4
   have vo:aw t.a_View H4 x room first (axs.map aY):=⟨dx,D,hx4,tt⟩
   rw [wg];refine⟨room,first,axs.map aY,vo,vok.ax.kept,λ H5 e5=>?_⟩
   have hlo:¬ first+aE (axs.map aY) < 0:=by have:=vok.lo;omega
   have hx5:=e5.at hx4;ac_rfl;rw [nS];refine⟨room,first,axs.map aY,vo.ext e5,vok.ax.kept,λ H6 e6=>?_⟩
   have hhi:¬ room<=first+aF (axs.map aY):=by have:=vok.hi;omega
   have k':=k H6 D (λ H0 q0 q1=>((b4 H0 q0 q1).trans e5).trans e6) (b3 D hDx hD) (e6.at hx5) ((tt.ext e5).ext e6);clear k;ac_rfl
theorem jR(cs:List Int)(a:Int × Int)(i:Nat)(c:Int)(h:cs[i]? = some c):bN (cs.take (i+1)) a=bN (cs.take i) a++(List.range a.1.toNat).map λ (n:Nat)=>c+(n:Int) * a.2:=by
 unfold bN;rw [take_add_one,h,List.flatMap_append];simp
abbrev ja  (p:Addr) (z:Int) (pc:Int) (H:Hp) (Q:VK) (E:XK):Prop:=∃ cs:List Int,H p=some (.lst (cs.map V.int))/\1<=z/\cs.length * z.toNat<=4096/\z<=1000000000/\∀ (r:Addr) (H':Hp),H r=none->Ext H H'->H' r=some (.lst ((bN cs (z,pc)).map V.int))->Q (.ref r) H'
def iJ  : Sp:=λ vs H Q E=>∃ (p:Addr) (z:Int) (pc:Int),vs=[.ref p,.int z,.int pc]/\(ja  p z pc H Q E)
theorem pE  (p:Addr) (z:Int) (pc:Int) (H:Hp) (Q:VK) (E:XK):iJ  [.ref p,.int z,.int pc] H Q E=(ja  p z pc H Q E):=rR (f:=λ (p:Addr) (z:Int) (pc:Int)=>[.ref p,.int z,.int pc]) (λ _ _ _ _ _ _ h=>by cases h;exact⟨rfl,rfl,rfl⟩) p z pc
theorem pw  {vs:List V}{H:Hp}{Q:VK}{E:XK}(h:iJ  vs H Q E):vs.length=3:=rS h λ _ _ _=>rfl
theorem jT(T:Tx K mg t):aB P w K mg base CX0 1 t.a_widened t.d_widened ["cells", "size", "pace"] iJ:=by
 refine T.F_widened.ok iU (λ vs H Q E h=>pw h) (λ c A o s H vs Q E hr h=>?_)
 ·obtain⟨p,z,pc,rfl,cs,hp,hz,hln,hz2,k⟩:=h;refine⟨_,%[%[3,iU,%[(@b6 _)|14]|4],%[%[Jp,rfl,%[%[0|0]|22],%[(4),_,iU.nd,rfl,(Or.inr rfl),%[0|7]|21],%[%[%[Jz,PySem.F.slot_list_extend,PySem.F.type_list_extend,mw,%[3|0],%[%[(["number", "cells", "size", "pace", "found", "cell"]),(1),(bu (aa fW) ["cells", "size", "pace", "found", "cell"] rfl rfl nofun),rfl,%[∅,T.z_range,%[%[1|0]|1],∅|40],(λ C s₀ H₀ ex pn=>%[(0),_,(show List.Nodup (["number", "cells", "size", "pace", "found", "cell"]:List Str) from by decide +kernel),rfl,(Or.inl rfl),%[0|7]|21]),(λ C s₀ H₀ ex pn=>(@bB _)),(λ C s₀ H₀ ex pn=>%[bb,%[5|0],%[eh,%[0|0],%[3|0]|12]|12]),(by intros;rfl)|28]|1],∅,∅,∅,∅,∅|39],∅|15]|9],(by intros;rfl)|23],%[%[%[3|0]|11]|9]|10]|10],?_⟩;rw [show ak ["cells", "size", "pace", "found", "cell"] [.ref p,.int z,.int pc]=[some (.ref p),some (.int z),some (.int pc),none,none] from rfl];ac_rfl;intro r H1 hr1 e1 h1;have hp1:=e1.at hp;ac_rfl;refine ej (xs:=cs.map V.int) (λ i σ H'=>∃ v4:Option V,σ=[some (.ref p),some (.int z),some (.int pc),some (.ref r),v4]/\Ext H H'/\H' r=some (.lst ((bN (cs.take i) (z,pc)).map V.int))) ⟨none,rfl,e1,h1⟩ (λ i σ H' _ ⟨_,_,e,_⟩=>e.at hp) ?_ ?_
  ·rintro i x _ H2 hi ⟨v4,rfl,e2,h2⟩;rw [Jl] at hi;obtain⟨c,hc,rfl⟩:=Jd.mp hi;have hil:i < cs.length:=(Jb.mp hc).1
   have hzn:z.toNat<=4096:=by
    have:=KC z.toNat (show 1<=cs.length by omega);omega
   have hwl:(bN (cs.take i) (z,pc)).length+z.toNat<=4096:=by
    rw [iH,Ks,show ((z,pc):Int × Int).1=z from rfl];have:(min i cs.length+1) * z.toNat<=cs.length * z.toNat:=KC _ %[0|8];rw [Nat.add_mul,Nat.one_mul] at this;omega
   simp! only [↓aS];refine⟨by omega,by omega,?_⟩;refine cc (List.range z.toNat) (λ _=>true) (λ j=>.int (c+(j:Int) * pc)) (λ j x H'=>x=.int (0+(j:Nat))) jI.1 jI.2 (bc (by rw [Kc];omega)) ?_ ?_
   ·intro D j x H' N1 N0 hj hD e hx k1 _;subst hx;have hj':=JR.mp hj;have k1':=k1 rfl H' (Ext.refl _);have hcm:jH (j:Int) pc:=.inl %[0|8];have e0:(0:Int)+(j:Int)=(j:Int):=Int.zero_add _;clear k1 k hj;simp! only [↓dm,↓cx]
   ·intro D H3 hD e3 hD3;have hD3':H3 D=some (.lst (((List.range z.toNat).map λ (j:Nat)=>c+(j:Int) * pc).map V.int)):=by rw [hD3,rX,KY];rfl
    have h2_3:=e3.at h2;have hle:(bN (cs.take i) (z,pc)).length+(List.range z.toNat).length<=sizeLine:=bc (by rw [Kc];omega);clear hD3 hi;ac_rfl;refine⟨_,rfl,(e2.trans e3).put hr1,?_⟩;rw [jR cs (z,pc) i c hc,K4]
  ·rintro _ H2 ⟨v4,rfl,e2,h2⟩;ac_rfl;rw [Jg,JB] at h2;exact k r H2 hr1 e2 h2
abbrev nt(C cT:Addr)(v:Addr)(H:Hp)(Q:VK)(E:XK):Prop:=∃ (room first:Int) (axs:List (Int × Int)),aw C H v room first axs/\dQ axs/\(af (axs.map λ a=>a.1)<=4096->∀ (r:Addr) (H':Hp),H r=none->Ext H H'->H' r=some (.lst ((aj first axs).map V.int))->Q (.ref r) H')/\¬ 4096 < af (axs.map λ a=>a.1)
def oS(C cT:Addr):Sp:=λ vs H Q E=>∃ (v:Addr),vs=[.ref v]/\(nt C cT v H Q E)
theorem iX(C cT:Addr)(v:Addr)(H:Hp)(Q:VK)(E:XK):oS C cT [.ref v] H Q E=(nt C cT v H Q E):=lS (f:=λ (v:Addr)=>[.ref v]) (λ _ _ h=>by cases h;exact rfl) v
theorem vK(C cT:Addr){vs:List V}{H:Hp}{Q:VK}{E:XK}(h:oS C cT vs H Q E):vs.length=1:=jt h λ _=>rfl
theorem dO(T:Tx K mg t):aB P w K mg base CX0 4 t.a_View_cells t.d_View_cells ["self"] (oS t.a_View t.a_TooMany):=by
 have G_View_count:=%[aL|45];have G_refuse_long:=%[eY|45];have G_widened:=%[jT|45];refine T.F_View_cells.ok aG (λ vs H Q E h=>vK _ _ h) (λ c A o s H vs Q E hr h=>?_)
 ·obtain⟨v,rfl,room,first,axs,vo,hax,kQ,kE⟩:=h;obtain⟨dx,l,hv,ys,hl,al⟩:=vo.ob;have c1:=T.cl_View;have c2:=T.na_View_first;have c3:=T.na_View_axes
  have f1:=du room first l
  have f2:=cY room first l
  have f3:=vn room first l (m := "count") nofun
  refine⟨_,%[%[%[refuse_long,%[%[%[0|0],T.cl_View,T.mt_View_count,G_View_count,(hr.mono ⋯),T.b_View_count,.nil,aC,∅|26]|1]|3],∅|15],%[%[1,aG,%[%[%[%[0|0],rfl|13]|1]|14]|4],%[%[Jp,rfl,%[%[%[0|0],rfl|13]|22],(%[(2),rfl,%[%[2,aG|5],%[%[3,aG|5],(@aJ _),∅|16],∅|16],∅,∅|25].mono λ _ _ _ _ h=>bP h),%[%[1,aG,%[widened,%[%[1|0],%[%[2|0],%[%[3|0]|1]|1]|1]|3]|4]|9],(by intros;rfl)|23],%[%[%[1|0]|11]|9]|10]|10]|10],?_⟩;rw [show ak ["self", "found", "size", "pace"] [.ref v]=[some (.ref v),none,none,none] from rfl];clear G_View_count G_refuse_long G_widened;ac_rfl;rw [bx];refine⟨room,first,axs,vo,hax,λ H1 e1=>?_⟩;have hv1:=e1.at hv;have hl1:=e1.at hl;ac_rfl;rw [qg];refine⟨λ hc=>?_,kE⟩;have kQ':=kQ hc;clear kQ kE;ac_rfl;intro r H2 hr2 e2 h2;have hv2:=e2.at hv1;have hl2:=e2.at hl1;ac_rfl;have hpos:∀ a∈axs,(1:Int)<=a.1:=λ a ha=>(hax.2 a ha).1;refine ej (xs:=ys) (λ i σ H'=>∃ (r:Addr) (v2 v3:Option V),σ=[some (.ref v),some (.ref r),v2,v3]/\Ext H H'/\H r=none/\H' r=some (.lst ((aj first (axs.take i)).map V.int))) ⟨r,none,none,rfl,e1.trans e2,e1.free hr2,h2⟩ (λ i σ H' _ ⟨_,_,_,_,e,_,_⟩=>e.at hl) ?_ ?_
  ·rintro i y _ H3 hi ⟨r3,v2,v3,rfl,e3,hr3,h3⟩;obtain⟨a,q,ha,rfl,hq⟩:=Am al hi;have hq3:=e3.at hq;have hm:=hax.2 a (Jm ha);simp! only [↓aS];rw [pE];refine⟨_,h3,hm.1,?_,hm.2,λ r4 H4 hr4 e4 h4=>?_⟩
   ·have hl4:=aU first (axs.take i) λ b hb=>hpos b (Ka hb)
    have hp:=gb (axs.map λ a=>a.1) (λ n hn=>by obtain⟨b,hb,rfl⟩:=JI.mp hn;exact hpos b hb) (i+1);rw [gJ _ i a.1 (by rw [Jl,ha];rfl),←List.map_take,←hl4] at hp;have hza:((a.1.toNat:Nat):Int)=a.1:=JX %[0|8]
    have:(((aj first (axs.take i)).length * a.1.toNat:Nat):Int)<=4096:=by rw [LK,hza];omega
    omega
   ·ac_rfl;refine⟨r4,_,_,rfl,e3.trans e4,e3.free hr4,?_⟩;rw [h4,Kb,ha]
    show _=some (HO.lst (List.map V.int (aj first (axs.take i++[a]))))
    rw [i7]
  ·rintro _ H3 ⟨r3,v2,v3,rfl,e3,hr3,h3⟩;have hyl:ys.length=axs.length:=by rw [al.1];unfold axL;rw [length_map]
   rw [hyl,JB] at h3;ac_rfl;exact kQ' r3 H3 hr3 e3 h3
def iB(l:Addr):List (Str × V):=dZ "floor" (V.ref l) []
theorem aK(l:Addr):(iB l).lookup ("floor":Str)=some (.ref l):=by
 unfold iB;rw [aA,if_pos rfl]
theorem ar(l:Addr){m:Str}(h:m∈([("all_values":Str), "refuse_room", "read", "put", "copied", "fill"]:List Str)):(iB l).lookup m=none:=by
 have:¬ m = "floor":=by
  revert m
  decide +kernel
 unfold iB;rw [aA,if_neg this];rfl
structure aN(C:Addr)(H:Hp)(s l:Addr)(vals:List Int):Prop where
 ob:∃ dx,H s=some (.ins C dx (iB l))
 fl:H l=some (.lst (vals.map V.int))
theorem aN.ext{C:Addr}{H H':Hp}{s l:Addr}{vals:List Int}(h:aN C H s l vals)(e:Ext H H'):aN C H' s l vals:=by
 obtain⟨dx,h1⟩:=h.ob;exact⟨⟨dx,e.at h1⟩,e.at h.fl⟩
abbrev mW(C:Addr)(x:Addr)(p:Addr)(H:Hp)(Q:VK)(E:XK):Prop:=∃ (dx:Addr) (vals:List Int),H x=some (.ins C dx [])/\H p=some (.lst (vals.map V.int))/\1<=vals.length/\vals.length<=4096/\∀ (H':Hp) (l:Addr),(∀ H0,Ext H0 H->H0 x=none->Ext H0 H')->H l=none->H' x=some (.ins C dx (iB l))->H' l=some (.lst (vals.map V.int))->Q .non H'
def oC(C:Addr):Sp:=λ vs H Q E=>∃ (x:Addr) (p:Addr),vs=[.ref x,.ref p]/\(mW C x p H Q E)
theorem wb(C:Addr)(x:Addr)(p:Addr)(H:Hp)(Q:VK)(E:XK):oC C [.ref x,.ref p] H Q E=(mW C x p H Q E):=jq (f:=λ (x:Addr) (p:Addr)=>[.ref x,.ref p]) (λ _ _ _ _ h=>by cases h;exact⟨rfl,rfl⟩) x p
theorem vm(C:Addr){vs:List V}{H:Hp}{Q:VK}{E:XK}(h:oC C vs H Q E):vs.length=2:=js h λ _ _=>rfl
theorem gN(T:Tx K mg t):aB P w K mg base CX0 4 t.a_Store___init__ t.d_Store___init__ ["self", "values"] (oC t.a_Store):=by
 have G_refuse_long:=%[eY|45];refine T.F_Store___init__.ok ik (λ vs H Q E h=>vm _ h) (λ c A o s H vs Q E hr h=>?_)
 ·obtain⟨x,p,rfl,dx,vals,hx,hp,hv1,hv2,k⟩:=h;have c1:=T.cl_Store;have c2:=T.na_Store_floor;refine⟨_,%[%[%[(cw hr.units),%[len,bg,%[%[1|0]|1]|6],%[0|2],(az _)|17],%[(@dq _ _)|9],(@au _)|18],%[%[%[refuse_long,%[%[len,bg,%[%[1|0]|1]|6]|1]|3],∅|15],%[%[%[0|0],%[dg,∅,T.z_list,nofun,%[%[1|0]|1],⋯,⋯,∅,∅|41],rfl|29]|9]|10]|10],?_⟩;rw [show ak ["self", "values"] [.ref x,.ref p]=[some (.ref x),some (.ref p)] from rfl];clear G_refuse_long;have hv0:¬ ((vals.length:Int)=0):=by omega
  ac_rfl;rw [qg];refine⟨λ _=>?_,λ h=>absurd h %[0|8]⟩;ac_rfl;intro l H1 hl e1 h1;have hx1:=e1.at hx;have hlx:l ≠ x:=λ z=>by rw [z,hx] at hl;cases hl
  ac_rfl;exact k _ l (λ H0 q0 q1=>(q0.trans e1).put q1) hl ag (by rw [ai hlx];exact h1)
abbrev qB(C:Addr)(s:Addr)(H:Hp)(Q:VK)(E:XK):Prop:=∃ (l:Addr) (vals:List Int),aN C H s l vals/\vals.length<=4096/\∀ (r:Addr) (H':Hp),H r=none->Ext H H'->H' r=some (.lst (vals.map V.int))->Q (.ref r) H'
def sV(C:Addr):Sp:=λ vs H Q E=>∃ (s:Addr),vs=[.ref s]/\(qB C s H Q E)
theorem yV(C:Addr)(s:Addr)(H:Hp)(Q:VK)(E:XK):sV C [.ref s] H Q E=(qB C s H Q E):=lS (f:=λ (s:Addr)=>[.ref s]) (λ _ _ h=>by cases h;exact rfl) s
theorem yo(C:Addr){vs:List V}{H:Hp}{Q:VK}{E:XK}(h:sV C vs H Q E):vs.length=1:=jt h λ _=>rfl
theorem fL(T:Tx K mg t):aB P w K mg base CX0 1 t.a_Store_all_values t.d_Store_all_values ["self"] (sV t.a_Store):=by
 refine T.F_Store_all_values.ok gq (λ vs H Q E h=>yo _ h) (λ c A o s' H vs Q E hr h=>?_)
 ·obtain⟨s,rfl,l,vals,so,hv2,k⟩:=h;obtain⟨dx,hs⟩:=so.ob;have hfl:=so.fl;have c1:=T.cl_Store;have c2:=T.na_Store_floor;have f1:=aK l;refine⟨_,%[%[%[dg,∅,T.z_list,nofun,%[%[%[0|0],rfl|13]|1],⋯,⋯,∅,∅|41]|11]|9],?_⟩;rw [show ak ["self"] [.ref s]=[some (.ref s)] from rfl];ac_rfl;intro r H1 hr1 e1 h1;exact k r H1 hr1 e1 h1
abbrev qp(CS CV:Addr)(s:Addr)(v:Addr)(H:Hp)(Q:VK)(E:XK):Prop:=∃ (l:Addr) (vals:List Int) (room first:Int) (axs:List (Int × Int)),aN CS H s l vals/\aw CV H v room first axs/\room=vals.length/\Q .non H
def sJ(CS CV:Addr):Sp:=λ vs H Q E=>∃ (s:Addr) (v:Addr),vs=[.ref s,.ref v]/\(qp CS CV s v H Q E)
theorem fT(CS CV:Addr)(s:Addr)(v:Addr)(H:Hp)(Q:VK)(E:XK):sJ CS CV [.ref s,.ref v] H Q E=(qp CS CV s v H Q E):=jq (f:=λ (s:Addr) (v:Addr)=>[.ref s,.ref v]) (λ _ _ _ _ h=>by cases h;exact⟨rfl,rfl⟩) s v
theorem yc(CS CV:Addr){vs:List V}{H:Hp}{Q:VK}{E:XK}(h:sJ CS CV vs H Q E):vs.length=2:=js h λ _ _=>rfl
theorem aR(T:Tx K mg t):aB P w K mg base CX0 1 t.a_Store_refuse_room t.d_Store_refuse_room ["self", "view"] (sJ t.a_Store t.a_View):=by
 refine T.F_Store_refuse_room.ok cv (λ vs H Q E h=>yc _ _ h) (λ c A o s' H vs Q E hr h=>?_)
 ·obtain⟨s,v,rfl,l,vals,room,first,axs,so,vo,hroom,k⟩:=h;obtain⟨dx,hs⟩:=so.ob;obtain⟨dy,D,hv,_⟩:=vo.ob;have hfl:=so.fl;have c1:=T.cl_Store;have c2:=T.na_Store_floor;have c3:=T.cl_View;have c4:=T.na_View_room;have f1:=aK l
  have f2:=bK room first D
  refine⟨_,%[%[%[(b9 hr.units),%[%[1|0],rfl|13],%[len,bg,%[%[%[0|0],rfl|13]|1]|6],(az _)|17],%[(@dq _ _)|9],(@au _)|18]|9],?_⟩;rw [show ak ["self", "view"] [.ref s,.ref v]=[some (.ref s),some (.ref v)] from rfl];subst hroom;ac_rfl
def kL(CV:Addr):Sp:=λ vs H Q E=>∃ (v:Addr) (n:Int),vs=[.ref v,.int n]/\(∃ (room first:Int) (axs:List (Int × Int)),aw CV H v room first axs/\dQ axs/\n=af (axs.map λ a=>a.1)/\∀ H',Ext H H'->Q .non H')
theorem eS(CV:Addr)(v:Addr)(n:Int)(H:Hp)(Q:VK)(E:XK):kL CV [.ref v,.int n] H Q E=(∃ (room first:Int) (axs:List (Int × Int)),aw CV H v room first axs/\dQ axs/\n=af (axs.map λ a=>a.1)/\∀ H',Ext H H'->Q .non H'):=jq (f:=λ (v:Addr) (n:Int)=>[.ref v,.int n]) (λ _ _ _ _ h=>by cases h;exact⟨rfl,rfl⟩) v n
theorem rp(CV:Addr){vs:List V}{H:Hp}{Q:VK}{E:XK}(h:kL CV vs H Q E):vs.length=2:=js h λ _ _=>rfl
theorem bF(T:Tx K mg t):aB P w K mg base CX0 3 t.a_refuse_count t.d_refuse_count ["view", "many"] (kL t.a_View):=by
 have G_View_count:=%[aL|45];refine T.F_refuse_count.ok ff (λ vs H Q E h=>rp _ h) (λ c A o s' H vs Q E hr h=>?_)
 ·obtain⟨v,n,rfl,room,first,axs,vo,hax,hn,k⟩:=h;obtain⟨dy,D,hv,_⟩:=vo.ob
  have f3:=vn room first D (m := "count") nofun
  have c3:=T.cl_View;refine⟨_,%[%[%[(b9 hr.units),%[%[0|0],T.cl_View,T.mt_View_count,G_View_count,(hr.mono ⋯),T.b_View_count,.nil,aC,∅|26],%[1|0],(az _)|17],%[(@dq _ _)|9],(@au _)|18]|9],?_⟩;rw [show ak ["view", "many"] [.ref v,.int n]=[some (.ref v),some (.int n)] from rfl];clear G_View_count;subst hn;ac_rfl;rw [bx];refine⟨room,first,axs,vo,hax,λ H1 e1=>?_⟩;have k1:=k H1 e1;clear k;ac_rfl
theorem dn{vals:List Int}{c:Int}(h0:0<=c)(h1:c < vals.length):atI (vals.map V.int) c=some (.int (vals.getD c.toNat 0)):=by
 obtain⟨n,rfl⟩:=Int.eq_ofNat_of_zero_le h0;have hn:n < vals.length:=by omega
 refine aV ?_;rw [Jl,IX hn];simp [List.getD,IX hn]
theorem ow{n:Nat}{c:Int}(h0:0<=c)(h1:c < n):ixN n c=some c.toNat:=by
 unfold ixN;rw [if_pos h0,if_pos %[0|8]]
theorem oZ(cs:List Int):Al (λ (z:Int) (y:V)=>y=.int z) cs (cs.map V.int):=by
 refine⟨by rw [Jg],λ i z y hz hy=>?_⟩;rw [Jl,hz] at hy;cases hy;rfl
def bW(cs:List Int)(n:Nat):Prop:=∀ c∈cs,0<=c/\c < (n:Int)
def aM(vals cs:List Int):List Int:=cs.map λ c=>vals.getD c.toNat 0
def dY(vals cs ws:List Int):List Int:=(cs.zip ws).foldl (λ vs p=>vs.set p.1.toNat p.2) vals
abbrev qq(CS CV:Addr)(s:Addr)(v:Addr)(H:Hp)(Q:VK)(E:XK):Prop:=∃ (l:Addr) (vals:List Int) (room first:Int) (axs:List (Int × Int)),aN CS H s l vals/\aw CV H v room first axs/\dQ axs/\room=vals.length/\af (axs.map λ a=>a.1)<=4096/\bW (aj first axs) vals.length/\∀ (r:Addr) (H':Hp),H r=none->Ext H H'->H' r=some (.lst ((aM vals (aj first axs)).map V.int))->Q (.ref r) H'
def sL(CS CV:Addr):Sp:=λ vs H Q E=>∃ (s:Addr) (v:Addr),vs=[.ref s,.ref v]/\(qq CS CV s v H Q E)
theorem fU(CS CV:Addr)(s:Addr)(v:Addr)(H:Hp)(Q:VK)(E:XK):sL CS CV [.ref s,.ref v] H Q E=(qq CS CV s v H Q E):=jq (f:=λ (s:Addr) (v:Addr)=>[.ref s,.ref v]) (λ _ _ _ _ h=>by cases h;exact⟨rfl,rfl⟩) s v
theorem ye(CS CV:Addr){vs:List V}{H:Hp}{Q:VK}{E:XK}(h:sL CS CV vs H Q E):vs.length=2:=js h λ _ _=>rfl
theorem dP(T:Tx K mg t):aB P w K mg base CX0 5 t.a_Store_read t.d_Store_read ["self", "view"] (sL t.a_Store t.a_View):=by
 have G_Store_refuse_room:=%[aR|45];have G_View_cells:=%[dO|45];refine T.F_Store_read.ok gZ (λ vs H Q E h=>ye _ _ h) (λ c A o s' H vs Q E hr h=>?_)
 ·obtain⟨s,v,rfl,l,vals,room,first,axs,so,vo,hax,hroom,hpr,hon,k⟩:=h;subst hroom;obtain⟨dx,hs⟩:=so.ob;obtain⟨dy,D,hv,_⟩:=vo.ob;have hfl:=so.fl;have c1:=T.cl_Store;have c2:=T.na_Store_floor;have c3:=T.cl_View;have f1:=aK l;have f2:=ar l (m := "refuse_room") nofun
  have f3:=vn (vals.length:Int) first D (m := "cells") nofun
  refine⟨_,%[%[%[%[0|0],T.cl_Store,T.mt_Store_refuse_room,G_Store_refuse_room,(hr.mono ⋯),T.b_Store_refuse_room,.nil,aC,%[%[1|0]|1],∅,∅,∅|20],∅|15],%[%[%[(["cell", "self", "view"]),(1),(bu (aa bS) ["self", "view"] rfl rfl nofun),rfl,%[%[%[1|0],T.cl_View,T.mt_View_cells,G_View_cells,(hr.mono ⋯),T.b_View_cells,.nil,aC,∅|26]|22],(λ C s₀ H₀ ex pn=>%[(0),_,(show List.Nodup (["cell", "self", "view"]:List Str) from by decide +kernel),rfl,(Or.inl rfl),%[0|7]|21]),(λ C s₀ H₀ ex pn=>(@bB _)),(λ C s₀ H₀ ex pn=>%[eV,(@pZ _ _ _ _ _ (K) rfl %[1|0] rfl),%[0|0],(λ _ _=>rfl)|19]),(by intros;rfl)|28]|11]|9]|10],?_⟩;rw [show ak ["self", "view"] [.ref s,.ref v]=[some (.ref s),some (.ref v)] from rfl];clear G_Store_refuse_room G_View_cells;ac_rfl;rw [fT];refine⟨l,vals,_,first,axs,so,vo,rfl,?_⟩;ac_rfl;rw [iX];refine⟨_,first,axs,vo,hax,λ _ r1 H1 hr1 e1 h1=>?_,λ h=>absurd h %[0|8]⟩
  have hcl:=aU first axs λ a ha=>(hax.2 a ha).1
  have hs1:=e1.at hs;have hfl1:=e1.at hfl;unfold aM at k
  generalize aj first axs=cs at h1 hon k hcl
  have hcl2:cs.length<=4096:=by omega
  ac_rfl;have wk:=oo (K:=K) (R:=λ (z:Int) y _=>y=.int z) (λ _ _ _ _ h _=>h) h1 (oZ cs);refine cc cs (λ _=>true) (λ c=>.int (vals.getD c.toNat 0)) (λ z y _=>y=.int z) wk.1 wk.2 (bc %[0|8]) ?_ ?_
  ·intro D2 c y H' N1 N0 hc hD e hy k1 _;subst hy;have hat:=dn (hon c hc).1 (hon c hc).2;have k1':=k1 rfl H' (Ext.refl _);have hs':=e.at hs1;have hfl':=e.at hfl1;clear k1 k hon hc;simp! only [↓dm,↓cx]
  ·intro D2 H2 hD2 e2 h2;rw [rX] at h2;have k2:=k D2 H2 (e1.free hD2) (e1.trans e2) (by rw [h2,KY];rfl);clear k hon;ac_rfl
theorem ek{vals cs ws:List Int}{i:Nat}{c z:Int}(hc:cs[i]? = some c)(hw:ws[i]? = some z):dY vals (cs.take (i+1)) (ws.take (i+1))=(dY vals (cs.take i) (ws.take i)).set c.toNat z:=by
 unfold dY
 have e1:(cs.take (i+1)).zip (ws.take (i+1))=(cs.take i).zip (ws.take i)++[(c,z)]:=by
  rw [Kb,Kb,hc,hw,List.zip_append (by
   have h1:=(Jb.mp hc).1;have h2:=(Jb.mp hw).1;rw [Ks,Ks];omega)]
  rfl
 rw [e1,Lu];rfl
theorem xj(vals:List Int):∀ (ps:List (Int × Int)),(ps.foldl (λ vs p=>vs.set p.1.toNat p.2) vals).length=vals.length:=by
 intro ps
 induction ps generalizing vals with
 | nil=>rfl
 | cons p ps ih=>rw [Ln,ih,LH]
theorem aI(vals cs ws:List Int):(dY vals cs ws).length=vals.length:=xj vals _
theorem dt(xs:List Int)(j:Nat)(z:Int):(xs.map V.int).set j (.int z)=(xs.set j z).map V.int:=by
 rw [List.map_set]
def zL(CS CV:Addr):Sp:=λ vs H Q E=>∃ (s:Addr) (v:Addr) (p:Addr),vs=[.ref s,.ref v,.ref p]/\(∃ (l:Addr) (vals:List Int) (room first:Int) (axs:List (Int × Int)) (ws:List Int),aN CS H s l vals/\aw CV H v room first axs/\dQ axs/\room=vals.length/\vals.length<=4096/\af (axs.map λ a=>a.1)<=4096/\bW (aj first axs) vals.length/\H p=some (.lst (ws.map V.int))/\p ≠ l/\(ws.length:Int)=af (axs.map λ a=>a.1)/\∀ H',(∀ H0,Ext H0 H->H0 l=none->Ext H0 H')->(∀ b o,b ≠ l->H b=some o->H' b=some o)->H' l=some (.lst ((dY vals (aj first axs) ws).map V.int))->Q .non H')
theorem kD(CS CV:Addr)(s:Addr)(v:Addr)(p:Addr)(H:Hp)(Q:VK)(E:XK):zL CS CV [.ref s,.ref v,.ref p] H Q E=(∃ (l:Addr) (vals:List Int) (room first:Int) (axs:List (Int × Int)) (ws:List Int),aN CS H s l vals/\aw CV H v room first axs/\dQ axs/\room=vals.length/\vals.length<=4096/\af (axs.map λ a=>a.1)<=4096/\bW (aj first axs) vals.length/\H p=some (.lst (ws.map V.int))/\p ≠ l/\(ws.length:Int)=af (axs.map λ a=>a.1)/\∀ H',(∀ H0,Ext H0 H->H0 l=none->Ext H0 H')->(∀ b o,b ≠ l->H b=some o->H' b=some o)->H' l=some (.lst ((dY vals (aj first axs) ws).map V.int))->Q .non H'):=rR (f:=λ (s:Addr) (v:Addr) (p:Addr)=>[.ref s,.ref v,.ref p]) (λ _ _ _ _ _ _ h=>by cases h;exact⟨rfl,rfl,rfl⟩) s v p
theorem B2(CS CV:Addr){vs:List V}{H:Hp}{Q:VK}{E:XK}(h:zL CS CV vs H Q E):vs.length=3:=rS h λ _ _ _=>rfl
theorem bz(T:Tx K mg t):aB P w K mg base CX0 5 t.a_Store_put t.d_Store_put ["self", "view", "values"] (zL t.a_Store t.a_View):=by
 have G_Store_refuse_room:=%[aR|45];have G_refuse_count:=%[bF|45];have G_View_cells:=%[dO|45];refine T.F_Store_put.ok fH (λ vs H Q E h=>B2 _ _ h) (λ c A o s' H vs Q E hr h=>?_)
 ·obtain⟨s,v,p,rfl,l,vals,room,first,axs,ws,so,vo,hax,hroom,hv2,hpr,hon,hp,hpl,hwl,k⟩:=h;subst hroom;obtain⟨dx,hs⟩:=so.ob;obtain⟨dy,D,hv,_⟩:=vo.ob;have hfl:=so.fl;have c1:=T.cl_Store;have c2:=T.na_Store_floor;have c3:=T.cl_View;have f1:=aK l;have f2:=ar l (m := "refuse_room") nofun
  have f3:=vn (vals.length:Int) first D (m := "cells") nofun
  refine⟨_,%[%[%[%[0|0],T.cl_Store,T.mt_Store_refuse_room,G_Store_refuse_room,(hr.mono ⋯),T.b_Store_refuse_room,.nil,aC,%[%[1|0]|1],∅,∅,∅|20],∅|15],%[%[%[refuse_count,%[%[1|0],%[%[len,bg,%[%[2|0]|1]|6]|1]|1]|3],∅|15],%[%[Jp,rfl,%[∅,T.z_zip,%[%[%[1|0],T.cl_View,T.mt_View_cells,G_View_cells,(hr.mono ⋯),T.b_View_cells,.nil,aC,∅|26],%[%[2|0]|1]|1],∅,∅|42],(%[(2),rfl,%[%[3,fH|5],%[%[4,fH|5],(@aJ _),∅|16],∅|16],∅,∅|25].mono λ _ _ _ _ h=>bP h),%[%[%[4|0],(@jK _ _ _ _ _ _ _ %[%[0|0],rfl|13] %[3|0] eN (by intros;rfl)),∅,∅,∅|37]|9],(by intros;rfl)|23]|9]|10]|10],?_⟩;rw [show ak ["self", "view", "values", "cell", "value"] [.ref s,.ref v,.ref p]=[some (.ref s),some (.ref v),some (.ref p),none,none] from rfl];clear G_Store_refuse_room G_refuse_count G_View_cells;ac_rfl;rw [fT];refine⟨l,vals,_,first,axs,so,vo,rfl,?_⟩;ac_rfl;rw [eS];refine⟨_,first,axs,vo,hax,(by first|rfl|exact hwl),λ H1 e1=>?_⟩;have hv1:=e1.at hv;have hp1:=e1.at hp;ac_rfl;rw [iX];refine⟨_,first,axs,vo.ext e1,hax,λ _ r2 H2 hr2 e2 h2=>?_,λ h=>absurd h %[0|8]⟩
  have hcl:=aU first axs λ a ha=>(hax.2 a ha).1
  generalize aj first axs=cs at h2 hon k hcl
  have hcl2:cs.length=ws.length:=by omega
  have hp2:=e2.at hp1;have hs2:=(e1.trans e2).at hs;have hfl2:=(e1.trans e2).at hfl;have hr2l:r2 ≠ l:=λ z=>by rw [z,e1.at hfl] at hr2;cases hr2
  ac_rfl;refine gw (ka:=false) (kb:=false) (xs:=cs.map V.int) (ys:=ws.map V.int) (λ i σ H'=>∃ v3 v4:Option V,σ=[some (.ref s),some (.ref v),some (.ref p),v3,v4]/\(∀ H0,Ext H0 H2->H0 l=none->Ext H0 H')/\(∀ b o,b ≠ l->H2 b=some o->H' b=some o)/\H' l=some (.lst ((dY vals (cs.take i) (ws.take i)).map V.int))) ⟨none,none,rfl,λ _ q _=>q,λ _ _ _ q=>q,hfl2⟩ (λ i σ H' ⟨_,_,_,_,hk,_⟩=>⟨hk _ _ hr2l h2,hk _ _ hpl hp2⟩) ?_ ?_
  ·rintro i u x q _ H3 H4 hu hx ⟨v3,v4,rfl,ha3,hk3,h3⟩ hq e4 h4;rw [Jl] at hu hx;obtain⟨c,hc,rfl⟩:=Jd.mp hu;obtain⟨z,hz,rfl⟩:=Jd.mp hx;have hcb:=hon c (Jm hc);have hs4:=e4.at (hk3 _ _ (λ z=>by rw [z,hfl2] at hs2;cases hs2) hs2);have h3_4:=e4.at h3;have hlen:=aI vals (cs.take i) (ws.take i);have hput:=λ (_:Unit)=>ek (vals:=vals) hc hz;generalize dY vals (cs.take i) (ws.take i)=vv at h3 h3_4 hlen hput;have hix:ixN vv.length c=some c.toNat:=ow hcb.1 (by rw [hlen];exact hcb.2);clear hu hx hc hz k hon hlen h3;simp! only [↓aS];refine⟨_,_,rfl,λ H0 q0 q1=>((ha3 H0 q0 q1).trans e4).put q1,λ b o hb hbo=>by rw [ai hb];exact e4.at (hk3 b o hb hbo),?_⟩;rw [hput (),←dt]
  ·rintro _ H3 ⟨v3,v4,rfl,ha3,hk3,h3⟩;have hm:min (cs.map V.int).length (ws.map V.int).length=cs.length:=by rw [Jg,Jg];omega
   rw [hm,JB,hcl2,JB] at h3;exact k H3 (λ H0 q0 q1=>ha3 H0 (q0.trans (e1.trans e2)) q1) (λ b o hb hbo=>hk3 b o hb ((e1.trans e2).at hbo)) h3
def sD(x:V):Bool:=match x with
 | .int _=>false
 | _=>true
theorem pC(xs:List Int):(xs.map V.int).filter sD=[]:=by
 rw [List.filter_eq_nil_iff];intro a ha;obtain⟨i,_,rfl⟩:=JI.mp ha;simp [sD]
abbrev qt  (p:Addr) (q:Addr) (H:Hp) (Q:VK) (E:XK):Prop:=∃ ns:List Int,H p=some (.lst (ns.map V.int))/\H q=some (.lst (ns.map V.int))/\ns.length<=4096/\∀ H',Ext H H'->Q (.bl true) H'
def sN  : Sp:=λ vs H Q E=>∃ (p:Addr) (q:Addr),vs=[.ref p,.ref q]/\(qt  p q H Q E)
theorem yO  (p:Addr) (q:Addr) (H:Hp) (Q:VK) (E:XK):sN  [.ref p,.ref q] H Q E=(qt  p q H Q E):=jq (f:=λ (p:Addr) (q:Addr)=>[.ref p,.ref q]) (λ _ _ _ _ h=>by cases h;exact⟨rfl,rfl⟩) p q
theorem yg  {vs:List V}{H:Hp}{Q:VK}{E:XK}(h:sN  vs H Q E):vs.length=2:=js h λ _ _=>rfl
theorem nA(T:Tx K mg t):aB P w K mg base CX0 2 t.a__law_list t.d__law_list ["_law_found", "_law_due_here"] sN:=by
 have G__law_whole:=%[ll|45];refine T.F__law_list.ok pK (λ vs H Q E h=>yg h) (λ c A o s H vs Q E hr h=>?_)
 ·obtain⟨p,q,rfl,ns,hp,hq,hl,k⟩:=h;refine⟨_,%[%[%[%[isinstance,bQ,%[%[0|0],%[(@dk _ _ (.ty "list") (.type "list") _ ∅ T.z_list nofun rfl ⋯ ⋯)|1]|1]|6],%[%[(cw hr.units),%[0|0],%[1|0],(az _)|38],%[%[(cw hr.units),%[(["_law_one", "_law_found", "_law_due_here"]),(1),(bu (aa dv) ["_law_found", "_law_due_here"] rfl rfl nofun),rfl,%[%[0|0]|22],(λ C s₀ H₀ ex pn=>%[(0),_,(show List.Nodup (["_law_one", "_law_found", "_law_due_here"]:List Str) from by decide +kernel),rfl,(Or.inl rfl),%[0|7]|21]),(λ C s₀ H₀ ex pn=>(@AH _ _ _ %[%[%[_law_whole,%[%[0|0]|1]|3],(by intros;rfl)|32]|33])),(λ C s₀ H₀ ex pn=>%[0|0]),(by intros;rfl)|28],%[(@b6 _)|14],(az _)|38]|36]|31]|31]|11]|9],?_⟩;rw [show ak ["_law_found", "_law_due_here"] [.ref p,.ref q]=[some (.ref p),some (.ref q)] from rfl];clear G__law_whole;ac_rfl;have wk:=sC (K:=K) hp;refine cc (ns.map V.int) sD id (λ z x H'=>x=z/\H' p=some (.lst (ns.map V.int))) wk.1 wk.2 (bc (by rw [Jg];omega)) ?_ ?_
  ·intro D z x H' N1 N0 hz hD e ⟨hx,_⟩ k1 k0;subst hx;obtain⟨i,_,rfl⟩:=JI.mp hz;have k0':=k0 rfl H' (Ext.refl _);clear k1 k0 k;simp! only [↓dm,↓cx,↓et]
  ·intro D H1 hD e1 h1;rw [pC] at h1;have h1':H1 D=some (.lst []):=h1;clear h1 wk;ac_rfl;intro q2 H2 hq2 e2 h2;have h1_2:=e2.at h1';have k1:=k H2 (e1.trans e2);clear k h1';ac_rfl
def hG(vals cs:List Int)(z:Int):List Int:=cs.foldl (λ vs c=>vs.set c.toNat z) vals
theorem fX(z:Int):∀ (cs vals:List Int),(hG vals cs z).length=vals.length
 | [],vals=>rfl
 | c::cs,vals=>by
  show (hG (vals.set c.toNat z) cs z).length=_
  rw [fX z cs,LH]
theorem jW{vals cs:List Int}{z:Int}{i:Nat}{c:Int}(hc:cs[i]? = some c):hG vals (cs.take (i+1)) z=(hG vals (cs.take i) z).set c.toNat z:=by
 unfold hG;rw [take_add_one,hc,List.foldl_append];rfl
abbrev qy(CS CV:Addr)(s:Addr)(v:Addr)(z:Int)(H:Hp)(Q:VK)(E:XK):Prop:=∃ (l:Addr) (vals:List Int) (room first:Int) (axs:List (Int × Int)),aN CS H s l vals/\aw CV H v room first axs/\dQ axs/\room=vals.length/\vals.length<=4096/\af (axs.map λ a=>a.1)<=4096/\bW (aj first axs) vals.length/\∀ H',(∀ H0,Ext H0 H->H0 l=none->Ext H0 H')->(∀ b o,b ≠ l->H b=some o->H' b=some o)->H' l=some (.lst ((hG vals (aj first axs) z).map V.int))->Q .non H'
def sS(CS CV:Addr):Sp:=λ vs H Q E=>∃ (s:Addr) (v:Addr) (z:Int),vs=[.ref s,.ref v,.int z]/\(qy CS CV s v z H Q E)
theorem yS(CS CV:Addr)(s:Addr)(v:Addr)(z:Int)(H:Hp)(Q:VK)(E:XK):sS CS CV [.ref s,.ref v,.int z] H Q E=(qy CS CV s v z H Q E):=rR (f:=λ (s:Addr) (v:Addr) (z:Int)=>[.ref s,.ref v,.int z]) (λ _ _ _ _ _ _ h=>by cases h;exact⟨rfl,rfl,rfl⟩) s v z
theorem yl(CS CV:Addr){vs:List V}{H:Hp}{Q:VK}{E:XK}(h:sS CS CV vs H Q E):vs.length=3:=rS h λ _ _ _=>rfl
theorem lA(T:Tx K mg t):aB P w K mg base CX0 5 t.a_Store_fill t.d_Store_fill ["self", "view", "value"] (sS t.a_Store t.a_View):=by
 have G_Store_refuse_room:=%[aR|45];have G_View_cells:=%[dO|45];refine T.F_Store_fill.ok cF (λ vs H Q E h=>yl _ _ h) (λ c A o s' H vs Q E hr h=>?_)
 ·obtain⟨s,v,z,rfl,l,vals,room,first,axs,so,vo,hax,hroom,hv2,hpr,hon,k⟩:=h;subst hroom;obtain⟨dx,hs⟩:=so.ob;obtain⟨dy,D,hv,_⟩:=vo.ob;have hfl:=so.fl;have c1:=T.cl_Store;have c2:=T.na_Store_floor;have c3:=T.cl_View;have f1:=aK l;have f2:=ar l (m := "refuse_room") nofun
  have f3:=vn (vals.length:Int) first D (m := "cells") nofun
  refine⟨_,%[%[%[%[0|0],T.cl_Store,T.mt_Store_refuse_room,G_Store_refuse_room,(hr.mono ⋯),T.b_Store_refuse_room,.nil,aC,%[%[1|0]|1],∅,∅,∅|20],∅|15],%[%[Jp,rfl,%[%[%[1|0],T.cl_View,T.mt_View_cells,G_View_cells,(hr.mono ⋯),T.b_View_cells,.nil,aC,∅|26]|22],%[3,cF|5],%[%[%[2|0],(@jK _ _ _ _ _ _ _ %[%[0|0],rfl|13] %[3|0] eN (by intros;rfl)),∅,∅,∅|37]|9],(by intros;rfl)|23]|9]|10],?_⟩;rw [show ak ["self", "view", "value", "cell"] [.ref s,.ref v,.int z]=[some (.ref s),some (.ref v),some (.int z),none] from rfl];clear G_Store_refuse_room G_View_cells;ac_rfl;rw [fT];refine⟨l,vals,_,first,axs,so,vo,rfl,?_⟩;ac_rfl;rw [iX];refine⟨_,first,axs,vo,hax,λ _ r2 H2 hr2 e2 h2=>?_,λ h=>absurd h %[0|8]⟩
  generalize aj first axs=cs at h2 hon k
  have hs2:=e2.at hs;have hfl2:=e2.at hfl;have hr2l:r2 ≠ l:=λ z=>by rw [z,hfl] at hr2;cases hr2
  ac_rfl;refine ej (xs:=cs.map V.int) (λ i σ H'=>∃ v3:Option V,σ=[some (.ref s),some (.ref v),some (.int z),v3]/\(∀ H0,Ext H0 H2->H0 l=none->Ext H0 H')/\(∀ b o,b ≠ l->H2 b=some o->H' b=some o)/\H' l=some (.lst ((hG vals (cs.take i) z).map V.int))) ⟨none,rfl,λ _ q _=>q,λ _ _ _ q=>q,hfl2⟩ (λ i σ H' _ ⟨_,_,_,hk,_⟩=>hk _ _ hr2l h2) ?_ ?_
  ·rintro i x _ H3 hx ⟨v3,rfl,ha3,hk3,h3⟩;rw [Jl] at hx;obtain⟨c,hc,rfl⟩:=Jd.mp hx;have hcb:=hon c (Jm hc);have hs3:=hk3 _ _ (λ z=>by rw [z,hfl2] at hs2;cases hs2) hs2;have hlen:=fX z (cs.take i) vals;have hput:=λ (_:Unit)=>jW (vals:=vals) (z:=z) hc;generalize hG vals (cs.take i) z=vv at h3 hlen hput;have hix:ixN vv.length c=some c.toNat:=ow hcb.1 (by rw [hlen];exact hcb.2);clear hx hc k hon hlen;simp! only [↓aS];refine⟨_,rfl,λ H0 q0 q1=>(ha3 H0 q0 q1).put q1,λ b o hb hbo=>by rw [ai hb];exact hk3 b o hb hbo,?_⟩;rw [hput (),←dt]
  ·rintro _ H3 ⟨v3,rfl,ha3,hk3,h3⟩;rw [Jg,JB] at h3;have k':=k H3 (λ H0 q0 q1=>ha3 H0 (q0.trans e2) q1) (λ b o hb hbo=>hk3 b o hb (e2.at hbo)) h3;clear k;ac_rfl
abbrev kl(CS CV:Addr)(s:Addr)(v:Addr)(u:Addr)(H:Hp)(Q:VK)(E:XK):Prop:=∃ (l:Addr) (vals:List Int) (f1 f2:Int) (a1 a2:List (Int × Int)),aN CS H s l vals/\aw CV H v vals.length f1 a1/\aw CV H u vals.length f2 a2/\dQ a1/\dQ a2/\vals.length<=4096/\af (a1.map λ a=>a.1)<=4096/\af (a2.map λ a=>a.1)=af (a1.map λ a=>a.1)/\bW (aj f1 a1) vals.length/\bW (aj f2 a2) vals.length/\∀ H',(∀ H0,Ext H0 H->H0 l=none->Ext H0 H')->(∀ b o,b ≠ l->H b=some o->H' b=some o)->H' l=some (.lst ((dY vals (aj f1 a1) (aM vals (aj f2 a2))).map V.int))->Q .non H'
def kR(CS CV:Addr):Sp:=λ vs H Q E=>∃ (s:Addr) (v:Addr) (u:Addr),vs=[.ref s,.ref v,.ref u]/\(kl CS CV s v u H Q E)
theorem rM(CS CV:Addr)(s:Addr)(v:Addr)(u:Addr)(H:Hp)(Q:VK)(E:XK):kR CS CV [.ref s,.ref v,.ref u] H Q E=(kl CS CV s v u H Q E):=rR (f:=λ (s:Addr) (v:Addr) (u:Addr)=>[.ref s,.ref v,.ref u]) (λ _ _ _ _ _ _ h=>by cases h;exact⟨rfl,rfl,rfl⟩) s v u
theorem rB(CS CV:Addr){vs:List V}{H:Hp}{Q:VK}{E:XK}(h:kR CS CV vs H Q E):vs.length=3:=rS h λ _ _ _=>rfl
theorem jh(T:Tx K mg t):aB P w K mg base CX0 6 t.a_Store_copied t.d_Store_copied ["self", "to", "source"] (kR t.a_Store t.a_View):=by
 have G_Store_refuse_room:=%[aR|45];have G_refuse_count:=%[bF|45];have G_View_count:=%[aL|45];have G_Store_read:=%[dP|45];have G_Store_put:=%[bz|45];refine T.F_Store_copied.ok fg (λ vs H Q E h=>rB _ _ h) (λ c A o s' H vs Q E hr h=>?_)
 ·obtain⟨s,v,u,rfl,l,vals,f1,f2,a1,a2,so,vo,wo,hx1,hx2,hv2,hp1,hp2,ho1,ho2,k⟩:=h;obtain⟨dx,hs⟩:=so.ob;obtain⟨dy,D,hv,_⟩:=vo.ob;obtain⟨dz,D2,hu,_⟩:=wo.ob;have hfl:=so.fl;have c1:=T.cl_Store;have c3:=T.cl_View;have g1:=ar l (m := "refuse_room") nofun;have g2:=ar l (m := "read") nofun;have g3:=ar l (m := "put") nofun;have g4:=vn (vals.length:Int) f2 D2 (m := "count") nofun;refine⟨_,%[%[%[%[0|0],T.cl_Store,T.mt_Store_refuse_room,G_Store_refuse_room,(hr.mono ⋯),T.b_Store_refuse_room,.nil,aC,%[%[1|0]|1],∅,∅,∅|20],∅|15],%[%[%[%[0|0],T.cl_Store,T.mt_Store_refuse_room,G_Store_refuse_room,(hr.mono ⋯),T.b_Store_refuse_room,.nil,aC,%[%[2|0]|1],∅,∅,∅|20],∅|15],%[%[%[refuse_count,%[%[1|0],%[%[%[2|0],T.cl_View,T.mt_View_count,G_View_count,(hr.mono ⋯),T.b_View_count,.nil,aC,∅|26]|1]|1]|3],∅|15],%[%[%[%[0|0],T.cl_Store,T.mt_Store_put,G_Store_put,(hr.mono ⋯),T.b_Store_put,.nil,aC,%[%[1|0],%[%[%[0|0],T.cl_Store,T.mt_Store_read,G_Store_read,(hr.mono ⋯),T.b_Store_read,.nil,aC,%[%[2|0]|1],∅,∅,∅|20]|1]|1],∅,∅,∅|20],∅|15]|9]|10]|10]|10],?_⟩;rw [show ak ["self", "to", "source"] [.ref s,.ref v,.ref u]=[some (.ref s),some (.ref v),some (.ref u)] from rfl];clear G_Store_refuse_room G_refuse_count G_View_count G_Store_read G_Store_put;ac_rfl;rw [fT];refine⟨l,vals,_,f1,a1,so,vo,rfl,?_⟩;ac_rfl;rw [fT];refine⟨l,vals,_,f2,a2,so,wo,rfl,?_⟩;ac_rfl;rw [bx];refine⟨_,f2,a2,wo,hx2,λ H1 e1=>?_⟩;exists hp2;ac_rfl;rw [eS];refine⟨_,f1,a1,vo.ext e1,hx1,hp2 (),λ H2 e2=>?_⟩;have e12:=e1.trans e2;have hs2:=e12.at hs;ac_rfl;rw [fU];refine⟨l,vals,_,f2,a2,so.ext e12,wo.ext e12,hx2,rfl,by rw [hp2 ()];exact hp1,ho2,λ r H3 hr3 e3 h3=>?_⟩;have hrl:r ≠ l:=λ z=>by rw [z,e12.at hfl] at hr3;cases hr3
  have e13:=e12.trans e3;ac_rfl;rw [kD];refine⟨l,vals,_,f1,a1,_,so.ext e13,vo.ext e13,hx1,rfl,hv2,hp1,ho1,h3,hrl,?_,λ H4 q1 q2 q3=>?_⟩
  ·unfold aM;rw [length_map,←hp2 ()];exact aU f2 a2 λ a ha=>(hx2.2 a ha).1
  ·have k1:=k H4 (λ H0 x0 x1=>q1 H0 (x0.trans e13) x1) (λ b o hb hbo=>q2 b o hb (e13.at hbo)) q3;clear k;ac_rfl
theorem Al.cons'{α:Type}{R:α->V->Prop}{z:α}{y:V}{zs:List α}{ys:List V}(r:R z y)(h:Al R zs ys):Al R (z::zs) (y::ys):=⟨by simp [h.1],λ i z' y' a b=>by
 cases i with
 | zero=>cases a;cases b;exact r
 | succ n=>exact h.2 n z' y' (by simpa using a) (by simpa using b)⟩
abbrev uq(K:PySem.W.Frag)(a:Addr)(ns:List Int)(p:Addr)(at':Int)(H:Hp)(Q:VK)(E:XK):Prop:=p=a/\SqL K H a (ns.map V.int)/\ns.length<=63/\0<=at'/\at' < 100/\∀ (ms:List Int) (r l:Addr) (H':Hp),Ext H H'->H' r=some (.tup [.ref l,.int (af ms)])->H' l=some (.lst (ms.map V.int))->ms.length<=3->(∀ m∈ms,(1:Int)<=m)->af ms<=60->Q (.ref r) H'
def zM(K:W.Frag)(a:Addr)(ns:List Int):Sp:=λ vs H Q E=>∃ (p:Addr) (at':Int),vs=[.ref p,.int at']/\(uq K a ns p at' H Q E)
theorem Cv(K:W.Frag)(a:Addr)(ns:List Int)(p:Addr)(at':Int)(H:Hp)(Q:VK)(E:XK):zM K a ns [.ref p,.int at'] H Q E=(uq K a ns p at' H Q E):=jq (f:=λ (p:Addr) (at':Int)=>[.ref p,.int at']) (λ _ _ _ _ h=>by cases h;exact⟨rfl,rfl⟩) p at'
theorem B4(K:W.Frag)(a:Addr)(ns:List Int){vs:List V}{H:Hp}{Q:VK}{E:XK}(h:zM K a ns vs H Q E):vs.length=2:=js h λ _ _=>rfl
theorem lq(T:Tx K mg t)(a:Addr)(ns:List Int):aB P w K mg base CX0 2 t.a__law_sizes t.d__law_sizes ["_law_script", "_law_at"] (zM K a ns):=by
 have G__law_draw:=%[bT|45] a ns;refine T.F__law_sizes.ok bA (λ vs H Q E h=>B4 _ _ _ h) (λ c A o s H vs Q E hr h=>?_)
 ·obtain⟨_,at',rfl,rfl,hS,hl,ha0,ha1,kk⟩:=h;rename_i a;refine⟨_,%[%[2,bA,%[(@b6 _)|14]|4],%[%[3,bA,%[0|2]|4],%[%[Jp,rfl,%[∅,T.z_range,%[%[_law_draw,%[%[0|0],%[%[1|0],%[%[0|2]|1]|1]|1]|3]|1],∅|40],%[4,bA|5],%[%[5,bA,%[eV,%[%[%[0|2],%[%[0|2],%[%[0|2],%[%[0|2],%[%[0|2],%[%[0|2],%[%[0|2],%[%[0|2]|1]|1]|1]|1]|1]|1]|1]|1]|14],%[_law_draw,%[%[0|0],%[%[bb,%[bb,%[1|0],%[0|2]|12],%[4|0]|12],%[%[0|2]|1]|1]|1]|3],(λ _ _=>rfl)|19]|4],%[%[%[wH,%[eh,%[3|0],%[5|0]|12],%[0|2],(az _)|17],%[%[3,bA,%[eh,%[3|0],%[5|0]|12]|4],%[%[%[Jz,Km,Kl,eo,%[2|0],%[%[5|0]|1],∅,∅,∅,∅,∅|39],∅|15]|9]|10],(@au _)|18]|9]|10],(by intros;rfl)|23],%[%[%[%[%[2|0],%[%[3|0]|1]|1]|24]|11]|9]|10]|10]|10],?_⟩;rw [show ak ["_law_script", "_law_at", "_law_sizes_here", "_law_count", "_law_k", "_law_size"] [.ref a,.int at']=[some (.ref a),some (.int at'),none,none,none,none] from rfl];clear G__law_draw;exists kk;ac_rfl;intro r H1 hr1 e1 h1;have hS1:=e1.2 K a _ hS;ac_rfl;rw [br];refine⟨hS1,hl,⟨by omega,by omega⟩,by decide,λ n n0 n1=>?_⟩;ac_rfl;refine⟨by omega,by omega,?_⟩;refine iG (λ i σ H'=>∃ (ms:List Int) (v4 v5:Option V),σ=[some (.ref a),some (.int at'),some (.ref r),some (.int (af ms)),v4,v5]/\Ext H H'/\H' r=some (.lst (ms.map V.int))/\ms.length<=i/\(∀ m∈ms,(1:Int)<=m)/\af ms<=60) ⟨[],none,none,rfl,e1,h1,Je _,λ _ h=>absurd h Jo,by decide⟩ ?_ ?_
  ·rintro i _ H2 hi ⟨ms,v4,v5,rfl,e2,h2,hml,hm1,hmp⟩;have hi':i < n.toNat:=hi;have hS2:=e2.2 K a _ hS;have hp1:=bC ms hm1;exists hm1;clear hi;simp! only [↓aS];intro q3 H3 hq3 e3 h3;have hS3:=e3.2 K a _ hS2;ac_rfl;rw [br];refine⟨hS3,hl,⟨by omega,by omega⟩,by decide,λ d d0 d1=>?_⟩;ac_rfl;refine mq (λ j=>1<=j/\j<=12) d0 d1 (λ v hv=>?_) λ j hj=>?_
   ·simp only [Js,Jo,JW] at hv
    rcases hv with rfl|rfl|rfl|rfl|rfl|rfl|rfl|rfl<;>exact⟨_,rfl,by decide⟩
   obtain⟨j0,j1⟩:=hj;have cm:jH (af ms) j:=.inr ⟨by omega,by omega⟩;have h2_3:=e3.at h2;have hml':ms.length < sizeLine:=zr %[0|8];have hps:af (ms++[j])=af ms * j:=by rw [bh];show _ * (j * 1)=_;rw [Kj]
   clear h3 h2 hq3
   by_cases hj:af ms * j<=60
   ·ac_rfl;refine⟨ms++[j],_,_,by rw [hps],(e2.trans e3).put hr1,by rw [K4];rfl,by rw [J0];simp;omega,λ m hm=>?_,by rw [hps];exact hj⟩
    rcases Lc.mp hm with h|h
    ·exact hm1 () m h
    ·rw [Jh.mp h];exact j0
   ·ac_rfl;exact⟨ms,_,_,rfl,e2.trans e3,rfl,by omega,hm1 (),hmp⟩
  ·rintro _ H2 ⟨ms,v4,v5,rfl,e2,h2,hml,hm1,hmp⟩;exists hm1;ac_rfl;intro r3 H3 hr3 e3 h3;exact kk () ms r3 r H3 (e2.trans e3) h3 (e3.at h2) %[0|8] (hm1 ()) hmp
def VAx(axs:List (Int × Int)):Prop:=axs.length<=4/\(∀ a∈axs,(1:Int)<=a.1/\-60<=a.2/\a.2<=60)/\af (axs.map λ a=>a.1)<=60
abbrev mV(K:PySem.W.Frag)(a:Addr)(ns:List Int)(p:Addr)(at':Int)(l:Addr)(H:Hp)(Q:VK)(E:XK):Prop:=p=a/\SqL K H a (ns.map V.int)/\ns.length<=63/\0<=at'/\at' < 100/\∃ ms:List Int,H l=some (.lst (ms.map V.int))/\ms.length<=4/\(∀ m∈ms,(1:Int)<=m)/\af ms<=60/\∀ (axs:List (Int × Int)) (r:Addr) (H':Hp),Ext H H'->aO H' r (axL axs)->(axs.map λ a=>a.1)=ms->VAx axs->Q (.ref r) H'
def oB(K:W.Frag)(a:Addr)(ns:List Int):Sp:=λ vs H Q E=>∃ (p:Addr) (at':Int) (l:Addr),vs=[.ref p,.int at',.ref l]/\(mV K a ns p at' l H Q E)
theorem mO(K:W.Frag)(a:Addr)(ns:List Int)(p:Addr)(at':Int)(l:Addr)(H:Hp)(Q:VK)(E:XK):oB K a ns [.ref p,.int at',.ref l] H Q E=(mV K a ns p at' l H Q E):=rR (f:=λ (p:Addr) (at':Int) (l:Addr)=>[.ref p,.int at',.ref l]) (λ _ _ _ _ _ _ h=>by cases h;exact⟨rfl,rfl,rfl⟩) p at' l
theorem vk(K:W.Frag)(a:Addr)(ns:List Int){vs:List V}{H:Hp}{Q:VK}{E:XK}(h:oB K a ns vs H Q E):vs.length=3:=rS h λ _ _ _=>rfl
theorem nB(T:Tx K mg t)(a:Addr)(ns:List Int):aB P w K mg base CX0 2 t.a__law_axes t.d__law_axes ["_law_script", "_law_at", "_law_sizes_here"] (oB K a ns):=by
 have G__law_draw:=%[bT|45] a ns;refine T.F__law_axes.ok aX (λ vs H Q E h=>vk _ _ _ h) (λ c A o s H vs Q E hr h=>?_)
 ·obtain⟨_,at',l,rfl,rfl,hS,hl,ha0,ha1,ms,hm,hm4,hm1,hmp,kk⟩:=h;rename_i a;refine⟨_,%[%[3,aX,%[(@b6 _)|14]|4],%[%[4,aX,%[0|2]|4],%[%[Jp,rfl,%[∅,T.z_range,%[%[len,bg,%[%[2|0]|1]|6]|1],∅|40],%[5,aX|5],%[%[6,aX,%[eV,%[2|0],%[cb,%[cb,%[len,bg,%[%[2|0]|1]|6],%[0|2]|12],%[5|0]|12],(λ _ _=>rfl)|19]|4],%[%[7,aX,%[_law_draw,%[%[0|0],%[%[bb,%[1|0],%[5|0]|12],%[%[jL,%[0|2],%[0|2]|12]|1]|1]|1]|3]|4],%[%[8,aX,%[eV,%[%[%[4|0],%[%[cb,%[0|2],%[4|0]|12],%[%[0|2],%[%[0|2],%[(@Dc _ _ _ _ _ _ tE %[0|2]),%[%[0|2],%[%[4|0],%[%[cb,%[pO,%[A7,%[7|0],%[0|2]|12],%[0|2]|12],%[0|2]|12]|1]|1]|1]|1]|1]|1]|1]|1]|14],%[pO,%[7|0],%[0|2]|12],(λ _ _=>rfl)|19]|4],%[%[3,aX,%[tO,%[%[%[%[%[6|0],%[%[8|0]|1]|1]|24]|1]|14],%[3|0]|12]|4],%[%[4,aX,%[eh,%[4|0],%[6|0]|12]|4]|9]|10]|10]|10]|10],(by intros;rfl)|23],%[%[%[3|0]|11]|9]|10]|10]|10],?_⟩;rw [show ak ["_law_script", "_law_at", "_law_sizes_here", "_law_axes_here", "_law_inner", "_law_k", "_law_size", "_law_cell", "_law_pace"] [.ref a,.int at',.ref l]=[some (.ref a),some (.int at'),some (.ref l),none,none,none,none,none,none] from rfl];clear G__law_draw;exists kk;ac_rfl;intro r H1 hr1 e1 h1;have hm_1:=e1.at hm;ac_rfl;refine⟨by omega,by omega,?_⟩;refine iG (λ i σ H'=>∃ (r:Addr) (bs:List (Int × Int)) (v5 v6 v7 v8:Option V),σ=[some (.ref a),some (.int at'),some (.ref l),some (.ref r),some (.int (af (ms.drop (ms.length - i)))),v5,v6,v7,v8]/\Ext H H'/\aO H' r (axL bs)/\(bs.map λ b=>b.1)=ms.drop (ms.length - i)/\∀ b∈bs,-60<=b.2/\b.2<=60) ⟨r,[],none,none,none,none,by simp [af],e1,⟨[],h1,Al.nil⟩,by simp,λ _ h=>absurd h Jo⟩ ?_ ?_
  ·rintro i _ H2 hi ⟨r,bs,v5,v6,v7,v8,rfl,e2,⟨ys,hr2,al2⟩,hbm,hbp⟩;have hi':i < ms.length:=by have:i < (ms.length:Int).toNat:=hi;omega
   have hS2:=e2.2 K a _ hS;have hm2:=e2.at hm;have hlt:ms.length - 1 - i < ms.length:=by omega
   have hat:atI (ms.map V.int) ((ms.length:Int) - 1 - (0+(i:Int)))=some (.int ms[ms.length - 1 - i]):=by
    rw [show (ms.length:Int) - 1 - (0+(i:Int))=((ms.length - 1 - i:Nat):Int) by omega];exact aV (by rw [Jl,IX hlt];rfl)
   have hdr:ms.drop (ms.length - (i+1))=ms[ms.length - 1 - i]::ms.drop (ms.length - i):=by
    have e1:ms.length - (i+1)=ms.length - 1 - i:=by omega
    have e2:ms.length - i=ms.length - 1 - i+1:=by omega
    rw [e1,e2,List.drop_eq_getElem_cons hlt]
   have hz1:=hm1 _ (KA hlt);have hu1:1<=af (ms.drop (ms.length - i)):=bC _ λ n hn=>hm1 n (List.mem_of_mem_drop hn)
   have hu2:af (ms.drop (ms.length - i))<=af ms:=by
    have e:af ms=af (ms.take (ms.length - i)) * af (ms.drop (ms.length - i)):=by rw [←bh,List.take_append_drop]
    have h1:1<=af (ms.take (ms.length - i)):=bC _ λ n hn=>hm1 n (Ka hn);have:=JV h1 (show 0<=af (ms.drop (ms.length - i)) by omega);omega
   generalize ms[ms.length - 1 - i]=z at hat hdr hz1;have hyl:ys.length<=4:=by rw [al2.1];unfold axL;rw [length_map];have:=congrArg List.length hbm;rw [length_map,List.length_drop] at this;omega
   have hu256:(af (ms.drop (ms.length - i))).natAbs < 2 ^ 64:=by omega
   have cm:jH (af (ms.drop (ms.length - i))) z:=.inl ⟨by omega,by omega⟩;have hps:af (z::ms.drop (ms.length - i))=af (ms.drop (ms.length - i)) * z:=Ld _ _;exists hbm;exists hbp;exists hdr;exists hps;generalize hU:af (ms.drop (ms.length - i))=U at *;clear hi hm_1 hm1;simp! only [↓aS];rw [br];refine⟨hS2,hl,⟨by omega,by omega⟩,by decide,λ c c0 c1=>?_⟩;ac_rfl;intro q3 H3 hq3 e3 h3;have i0:=J5 c (show (8:Int) ≠ 0 by decide);have i1:=JP c (show (0:Int) < 8 by decide);have k0:=J5 (c / 8) (show (9:Int) ≠ 0 by decide);have k1:=JP (c / 8) (show (0:Int) < 9 by decide);ac_rfl;refine mq (λ j=>-60<=j/\j<=60) i0 i1 (λ v hv=>?_) λ j hj=>?_
   ·simp only [Js,Jo,JW] at hv
    rcases hv with rfl|rfl|rfl|rfl|rfl|rfl|rfl|rfl<;>exact⟨_,rfl,by omega⟩
   clear h3 hq3 i0 i1 k0 k1;ac_rfl;intro t4 H4 ht4 e4 h4;ac_rfl;intro l5 H5 hl5 e5 h5;have hr5:=(e3.trans (e4.trans e5)).at hr2;have hll:1+ys.length<=sizeLine:=bc %[0|8];clear hr2;ac_rfl;intro r6 H6 hr6 e6 h6;have eA:=e3.trans (e4.trans (e5.trans e6));ac_rfl;refine⟨r6,(z,j)::bs,_,_,_,_,by rw [hdr (),hps ()],e2.trans eA,⟨_,h6,Al.cons' ⟨t4,rfl,(e5.trans e6).at h4⟩ (al2.imp λ _ _ t=>t.ext eA)⟩,by rw [hdr (),JY,hbm ()],λ b hb=>?_⟩
   rcases Js.mp hb with rfl|hb
   ·exact hj
   ·exact hbp () b hb
  ·rintro _ H2 ⟨r,bs,v5,v6,v7,v8,rfl,e2,tt,hbm,hbp⟩;rw [KU,Nat.sub_self,List.drop_zero] at hbm;ac_rfl;refine kk () bs r H2 e2 tt hbm ⟨by have:=Kq List.length hbm;rw [Jg] at this;omega,λ b hb=>⟨hm1 _ (by rw [←hbm];exact JI.mpr ⟨b,hb,rfl⟩),hbp b hb⟩,by rw [hbm];exact hmp⟩
abbrev m6  (l:Addr) (H:Hp) (Q:VK) (E:XK):Prop:=∃ axs:List (Int × Int),aO H l (axL axs)/\dQ axs/\∀ (r:Addr) (H':Hp),H r=none->Ext H H'->H' r=some (.tup [.int (aE axs),.int (aF axs)])->Q (.ref r) H'
def oH  : Sp:=λ vs H Q E=>∃ (l:Addr),vs=[.ref l]/\(m6  l H Q E)
theorem wd  (l:Addr) (H:Hp) (Q:VK) (E:XK):oH  [.ref l] H Q E=(m6  l H Q E):=lS (f:=λ (l:Addr)=>[.ref l]) (λ _ _ h=>by cases h;exact rfl) l
theorem vx  {vs:List V}{H:Hp}{Q:VK}{E:XK}(h:oH  vs H Q E):vs.length=1:=jt h λ _=>rfl
theorem p7:∀ {ms:List Int},(∀ m∈ms,(1:Int)<=m)->∀ m∈ms,m<=af ms
 | [],_,m,h=>absurd h Jo
 | x::r,h1,m,h=>by
  have hx:=h1 x Jq;have hp:=bC r λ n hn=>h1 n (Jk _ hn)
  show m<=x * af r
  rcases Js.mp h with rfl|h
  ·have:=JJ hp (show 0<=m by omega);omega
  ·have h2:=p7 (λ n hn=>h1 n (Jk _ hn)) m h;have:=JV hx (show 0<=af r by omega);omega
theorem VAx.le{axs:List (Int × Int)}(h:VAx axs){a:Int × Int}(ha:a∈axs):1<=a.1/\a.1<=60:=by
 refine⟨(h.2.1 a ha).1,?_⟩;have h1:∀ m∈axs.map (λ a=>a.1),(1:Int)<=m:=λ m hm=>by obtain⟨b,hb,rfl⟩:=JI.mp hm;exact(h.2.1 b hb).1
 have:=p7 h1 a.1 (JI.mpr ⟨a,ha,rfl⟩);have:=h.2.2;omega
theorem VAx.ax{axs:List (Int × Int)}(h:VAx axs):dQ axs:=⟨by have:=h.1;omega,λ a ha=>by have:=h.le ha;omega⟩
theorem lr(T:Tx K mg t):aB P w K mg base CX0 1 t.a__law_reach t.d__law_reach ["_law_axes_here"] oH:=by
 refine T.F__law_reach.ok bj (λ vs H Q E h=>vx h) (λ c A o s H vs Q E hr h=>?_)
 ·obtain⟨l,rfl,axs,⟨ys,hL,al⟩,hax,kk⟩:=h;refine⟨_,%[%[1,bj,%[0|2]|4],%[%[2,bj,%[0|2]|4],%[%[Jp,rfl,%[%[0|0]|22],(%[(2),rfl,%[%[3,bj|5],%[%[4,bj|5],(@aJ _),∅|16],∅|16],∅,∅|25].mono λ _ _ _ _ h=>bP h),%[%[1,bj,%[bb,%[1|0],%[min,(mJ rfl),%[%[0|2],%[%[eh,%[4|0],%[cb,%[3|0],%[0|2]|12]|12]|1]|1]|6]|12]|4],%[%[2,bj,%[bb,%[2|0],%[max,(mK rfl),%[%[0|2],%[%[eh,%[4|0],%[cb,%[3|0],%[0|2]|12]|12]|1]|1]|6]|12]|4]|9]|10],(by intros;rfl)|23],%[%[%[%[%[1|0],%[%[2|0]|1]|1]|24]|11]|9]|10]|10]|10],?_⟩;rw [show ak ["_law_axes_here", "_law_low", "_law_high", "_law_size", "_law_pace"] [.ref l]=[some (.ref l),none,none,none,none] from rfl];ac_rfl;refine ej (xs:=ys) (λ i σ H'=>∃ v3 v4:Option V,σ=[some (.ref l),some (.int (aE (axs.take i))),some (.int (aF (axs.take i))),v3,v4]/\H'=H) ⟨none,none,rfl,rfl⟩ (λ i σ H' _ ⟨_,_,_,e⟩=>by rw [e];exact hL) ?_ ?_
  ·rintro i y _ _ hi ⟨v3,v4,rfl,rfl⟩;rename_i H;obtain⟨x,q,hx,rfl,hq⟩:=Am al hi;have hb:=hax.2 x (Jm hx);have tk:axs.take (i+1)=axs.take i++[x]:=by rw [Lj,hx];rfl
   have e1:=pq (axs.take i) x;have e2:=pA (axs.take i) x;rw [←tk] at e1 e2;rw [HP] at e1;rw [HQ] at e2;have hcm:jH x.2 (x.1 - 1):=.inr %[0|8];clear hL al hi hx tk kk;simp! only [↓aS];exact⟨_,_,rfl⟩
  ·rintro _ _ ⟨v3,v4,rfl,rfl⟩;rename_i H;have hln:ys.length=axs.length:=by rw [al.1];unfold axL;rw [length_map]
   rw [hln,JB];ac_rfl;intro r H2 hr2 x2 h2;exact kk r H2 hr2 x2 h2
theorem iO{xs:List V}{i:Int}{k:V->Prop}(P:V->Prop)(h0:0<=i)(h1:i < xs.length)(ha:∀ v∈xs,P v)(hk:∀ v,P v->k v):aP (atI xs i) k:=tN h0 h1 λ v hv=>hk v (ha v hv)
theorem pY:∀ (axs:List (Int × Int)),(∀ a∈axs,(1:Int)<=a.1/\-60<=a.2/\a.2<=60)->aF axs - aE axs<=60 * (af (axs.map λ a=>a.1) - 1)/\0<=aF axs/\aE axs<=0
 | [],_=>by decide
 | a::r,h=>by
  have ih:=pY r λ b hb=>h b (Jk _ hb);have ha:=h a Jq;have hp:1<=af (r.map λ a=>a.1):=bC _ λ n hn=>by obtain⟨b,hb,rfl⟩:=JI.mp hn;exact(h b (Jk _ hb)).1
  have m1:=JJ ha.2.2 (show 0<=a.1 - 1 by omega);have m2:=JJ ha.2.1 (show 0<=a.1 - 1 by omega);have m3:=JJ hp (show 0<=a.1 - 1 by omega);rw [dw,dA]
  show _<=60 * (a.1 * af (r.map λ a=>a.1) - 1)/\_
  have e:a.1 * af (r.map λ a=>a.1)=(a.1 - 1) * af (r.map λ a=>a.1)+af (r.map λ a=>a.1):=by rw [Int.sub_mul,Int.one_mul];omega
  rw [e];generalize (a.1 - 1) * a.2=x at m1 m2 ⊢;generalize (a.1 - 1) * af (r.map λ a=>a.1)=y at m3 ⊢;omega
theorem VAx.sum{axs:List (Int × Int)}(h:VAx axs):aF axs - aE axs<=3540/\0<=aF axs/\aE axs<=0:=by
 have h1:=pY axs h.2.1;have h2:=h.2.2;omega
theorem ml:∀ ms:List Int,af ms.reverse=af ms
 | []=>rfl
 | m::r=>by rw [Lr,bh,ml r];show af r * (m * 1)=m * af r;rw [Kj,Ld]
theorem Iq{α:Type}{R:α->V->Prop}{a b:α}{ys:List V}(h:Al R [a,b] ys):∃ y0 y1,ys=[y0,y1]/\R a y0/\R b y1:=by
 match ys,h with
 | [y0,y1],h=>exact⟨y0,y1,rfl,h.2 0 a y0 rfl rfl,h.2 1 b y1 rfl rfl⟩
 | [],h=>exact absurd h.1 (by simp)
 | [_],h=>exact absurd h.1 (by simp)
 | _::_::_::_,h=>exact absurd h.1 (by simp)
def Ht(ms qs:List Int):Prop:=qs.length<=4/\(∀ m∈qs,(1:Int)<=m)/\af qs=af ms
def AxR(z:List (Int × Int))(x:V)(H:Hp):Prop:=∃ q,x=.ref q/\aO H q (axL z)
theorem AxR.ext{z:List (Int × Int)}{x:V}{H H':Hp}(h:AxR z x H)(e:Ext H H'):AxR z x H':=by
 obtain⟨q,h1,h2⟩:=h;exact⟨q,h1,h2.ext e⟩
def ReR(z:List (Int × Int))(x:V)(H:Hp):Prop:=∃ q,x=.ref q/\H q=some (.tup [.int (aE z),.int (aF z)])
theorem ReR.ext{z:List (Int × Int)}{x:V}{H H':Hp}(h:ReR z x H)(e:Ext H H'):ReR z x H':=by
 obtain⟨q,h1,h2⟩:=h;exact⟨q,h1,e.at h2⟩
def FiR(room:Int)(z:List (Int × Int))(x:V)(H:Hp):Prop:=∃ (p q:Addr) (f:Int),x=.ref p/\H p=some (.tup [.int f,.ref q])/\aO H q (axL z)/\0<=f+aE z/\f+aF z < room
abbrev mU(K:PySem.W.Frag)(a:Addr)(ns:List Int)(p:Addr)(H:Hp)(Q:VK)(E:XK):Prop:=p=a/\SqL K H a (ns.map V.int)/\ns.length<=63/\∀ (room:Int) (axs bxs:List (Int × Int)) (r:Addr) (u v:V) (H':Hp),Ext H H'->H' r=some (.tup [.int room,u,v])->FiR room axs u H'->FiR room bxs v H'->VAx axs->VAx bxs->af (axs.map λ a=>a.1)=af (bxs.map λ a=>a.1)->1<=room->room<=3600->Q (.ref r) H'
def oz(K:W.Frag)(a:Addr)(ns:List Int):Sp:=λ vs H Q E=>∃ (p:Addr),vs=[.ref p]/\(mU K a ns p H Q E)
theorem wa(K:W.Frag)(a:Addr)(ns:List Int)(p:Addr)(H:Hp)(Q:VK)(E:XK):oz K a ns [.ref p] H Q E=(mU K a ns p H Q E):=lS (f:=λ (p:Addr)=>[.ref p]) (λ _ _ h=>by cases h;exact rfl) p
theorem vg(K:W.Frag)(a:Addr)(ns:List Int){vs:List V}{H:Hp}{Q:VK}{E:XK}(h:oz K a ns vs H Q E):vs.length=1:=jt h λ _=>rfl
theorem lp(T:Tx K mg t)(a:Addr)(ns:List Int):aB P w K mg base CX0 3 t.a__law_views t.d__law_views ["_law_script"] (oz K a ns):=by
 have G__law_draw:=%[bT|45] a ns;have G__law_sizes:=%[lq|45] a ns;have G__law_axes:=%[nB|45] a ns;have G__law_reach:=%[lr|45];refine T.F__law_views.ok aD (λ vs H Q E h=>vg _ _ _ h) (λ c A o s H vs Q E hr h=>?_)
 ·obtain⟨_,rfl,rfl,hS,hl,kk⟩:=h;rename_i a;refine⟨_,%[%[%[_law_sizes,%[%[0|0],%[%[0|2]|1]|1]|3],(%[(2),rfl,%[%[1,aD|5],%[%[2,aD|5],(@aJ _),∅|16],∅|16],∅,∅|25].mono λ _ _ _ _ h=>bP h),∅,∅,∅|37],%[%[3,aD,%[eV,%[%[%[1|0],%[(@DO _ _ _ _ _ _ _ %[1|0] (@Dc _ _ _ _ _ _ tE %[0|2]) (λ _ _ _ h=>h)),%[%[%[%[2|0]|1]|14],%[%[%[%[0|2],%[%[2|0]|1]|1]|14],%[%[%[%[2|0],%[%[0|2]|1]|1]|14],%[%[tO,%[1|0],%[%[%[0|2]|1]|14]|12]|1]|1]|1]|1]|1]|1]|14],%[_law_draw,%[%[0|0],%[%[0|2],%[%[0|2]|1]|1]|1]|3],(λ _ _=>rfl)|19]|4],%[%[4,aD,%[%[%[_law_axes,%[%[0|0],%[%[0|2],%[%[1|0]|1]|1]|1]|3],%[%[_law_axes,%[%[0|0],%[%[0|2],%[%[3|0]|1]|1]|1]|3]|1]|1]|14]|4],%[(@AK _ _ _ _ _ _ _ _ _ _ _ _ _ (["_law_axes_here", "_law_script", "_law_sizes_here", "_law_count", "_law_others", "_law_both", "_law_reach_here", "_law_room", "_law_found", "_law_k", "_law_low", "_law_high"]) (1) (5) _ aD.nd rfl (Or.inl rfl) (bu (aa bR) ["_law_script", "_law_sizes_here", "_law_count", "_law_others", "_law_both", "_law_reach_here", "_law_room", "_law_found", "_law_k", "_law_low", "_law_high"] rfl rfl nofun) rfl %[%[4|0]|22] (λ C s₀ H₀ ex pn=>%[(0),_,(show List.Nodup (["_law_axes_here", "_law_script", "_law_sizes_here", "_law_count", "_law_others", "_law_both", "_law_reach_here", "_law_room", "_law_found", "_law_k", "_law_low", "_law_high"]:List Str) from by decide +kernel),rfl,(Or.inl rfl),%[0|7]|21]) (λ C s₀ H₀ ex pn=>(@bB _)) (λ C s₀ H₀ ex pn=>%[_law_reach,%[%[0|0]|1]|3]) ∅ (by intros;rfl) %[0|7]),%[%[6,aD,%[bb,%[bb,%[0|2],%[max,(rF rfl),%[%[(["_law_low", "_law_high", "_law_script", "_law_sizes_here", "_law_count", "_law_others", "_law_both", "_law_reach_here", "_law_room", "_law_found", "_law_k", "!_law_low", "!_law_high"]),(2),(bu (aa bR) ["_law_script", "_law_sizes_here", "_law_count", "_law_others", "_law_both", "_law_reach_here", "_law_room", "_law_found", "_law_k", "_law_low", "_law_high"] rfl rfl nofun),rfl,%[%[5|0]|22],(λ C s₀ H₀ ex pn=>(%[(2),rfl,%[%[(0),_,(show List.Nodup (["_law_low", "_law_high", "_law_script", "_law_sizes_here", "_law_count", "_law_others", "_law_both", "_law_reach_here", "_law_room", "_law_found", "_law_k", "!_law_low", "!_law_high"]:List Str) from by decide +kernel),rfl,(Or.inl rfl),%[0|7]|21],%[%[(1),_,(show List.Nodup (["_law_low", "_law_high", "_law_script", "_law_sizes_here", "_law_count", "_law_others", "_law_both", "_law_reach_here", "_law_room", "_law_found", "_law_k", "!_law_low", "!_law_high"]:List Str) from by decide +kernel),rfl,(Or.inl rfl),%[0|7]|21],(@aJ _),∅|16],∅|16],∅,∅|25].mono λ _ _ _ _ h=>bP h)),(λ C s₀ H₀ ex pn=>(@bB _)),(λ C s₀ H₀ ex pn=>%[cb,%[1|0],%[0|0]|12]),(by intros;rfl)|28]|1]|6]|12],%[_law_draw,%[%[0|0],%[%[0|2],%[%[0|2]|1]|1]|1]|3]|12]|4],%[%[7,aD,%[(@b6 _)|14]|4],%[%[Jp,rfl,%[∅,T.z_range,%[%[0|2]|1],∅|40],%[8,aD|5],%[%[%[eV,%[5|0],%[8|0],(λ _ _=>rfl)|19],(%[(2),rfl,%[%[9,aD|5],%[%[10,aD|5],(@aJ _),∅|16],∅|16],∅,∅|25].mono λ _ _ _ _ h=>bP h),∅,∅,∅|37],%[%[%[Jz,Km,Kl,eo,%[7|0],%[%[%[%[cb,%[_law_draw,%[%[0|0],%[%[bb,%[0|2],%[8|0]|12],%[%[cb,%[6|0],%[cb,%[10|0],%[9|0]|12]|12]|1]|1]|1]|3],%[9|0]|12],%[%[eV,%[4|0],%[8|0],(λ _ _=>rfl)|19]|1]|1]|24]|1],∅,∅,∅,∅,∅|39],∅|15]|9]|10],(by intros;rfl)|23],%[%[%[%[%[6|0],%[%[eV,%[7|0],%[0|2],(λ _ _=>rfl)|19],%[%[eV,%[7|0],%[0|2],(λ _ _=>rfl)|19]|1]|1]|1]|24]|11]|9]|10]|10]|10]|10]|10]|10]|10],?_⟩;rw [show ak ["_law_script", "_law_sizes_here", "_law_count", "_law_others", "_law_both", "_law_reach_here", "_law_room", "_law_found", "_law_k", "_law_low", "_law_high"] [.ref a]=[some (.ref a),none,none,none,none,none,none,none,none,none,none] from rfl];clear G__law_draw G__law_sizes G__law_axes G__law_reach;exists kk;ac_rfl;rw [Cv];refine⟨rfl,hS,hl,by decide,by decide,λ ms r1 l1 H1 e1 h1 hl1 hm3 hm1 hmp=>?_⟩;have hS1:=e1.2 K a _ hS;exists hm1;ac_rfl;intro q2 H2 hq2 e2 h2;replace hl1:=e2.at hl1;clear hq2 h1;ac_rfl;intro q3 H3 hq3 e3 h3;replace hl1:=e3.at hl1;replace h2:=e3.at h2;clear hq3;ac_rfl;intro q4 H4 hq4 e4 h4;replace hl1:=e4.at hl1;replace h2:=e4.at h2;replace h3:=e4.at h3;clear hq4;ac_rfl;intro q5 H5 hq5 e5 h5;replace hl1:=e5.at hl1;replace h2:=e5.at h2;replace h3:=e5.at h3;replace h4:=e5.at h4;clear hq5;ac_rfl;intro q6 H6 hq6 e6 h6;replace hl1:=e6.at hl1;replace h2:=e6.at h2;replace h3:=e6.at h3;replace h4:=e6.at h4;replace h5:=e6.at h5;have hll:ms.length+1<=sizeLine:=bc %[0|8];clear hq6;ac_rfl;intro q7 H7 hq7 e7 h7;replace hl1:=e7.at hl1;replace h2:=e7.at h2;replace h3:=e7.at h3;replace h4:=e7.at h4;replace h5:=e7.at h5;clear hq7 h6;ac_rfl;intro q8 H8 hq8 e8 h8;replace hl1:=e8.at hl1;replace h2:=e8.at h2;replace h3:=e8.at h3;replace h4:=e8.at h4;replace h5:=e8.at h5;replace h7:=e8.at h7;have e18:=e2.trans (e3.trans (e4.trans (e5.trans (e6.trans (e7.trans e8)))));have hS8:=e18.2 K a _ hS1;clear hq8 e2 e3 e4 e5 e6 e7 e8 hS1;ac_rfl;rw [br];refine⟨hS8,hl,⟨by decide,by decide⟩,by decide,λ d d0 d1=>?_⟩;ac_rfl;have hp1:=bC ms (hm1 ());refine iO (λ v=>∃ q qs,v=.ref q/\H8 q=some (.lst (qs.map V.int))/\Ht ms qs) d0 d1 (λ v hv=>?_) ?_
  ·simp only [Js,Jo,JW] at hv
   rcases hv with rfl|rfl|rfl|rfl|rfl|rfl
   ·exact⟨l1,ms,rfl,hl1,by omega,hm1 (),rfl⟩
   ·exact⟨q2,ms.reverse,rfl,by rw [h2,List.map_reverse],by rw [Lk];omega,λ m hm=>hm1 () m (List.mem_reverse.mp hm),ml ms⟩
   ·exact⟨q3,[af ms],rfl,h3,by simp,λ m hm=>by rw [Jh.mp hm];exact hp1,by show af ms * 1=_;rw [Kj]⟩
   ·exact⟨q4,[1,af ms],rfl,h4,by simp,λ m hm=>by
     rcases Js.mp hm with rfl|hm
     ·decide
     ·rw [Jh.mp hm];exact hp1,by show 1 * (af ms * 1)=_;rw [Kj,Int.one_mul]⟩
   ·exact⟨q5,[af ms,1],rfl,h5,by simp,λ m hm=>by
     rcases Js.mp hm with rfl|hm
     ·exact hp1
     ·rw [Jh.mp hm];decide,by show af ms * (1 * 1)=_;rw [Kj,Kj]⟩
   ·exact⟨q7,ms++[1],rfl,by rw [h7,K4];rfl,by rw [J0];simp;omega,λ m hm=>by
     rcases Lc.mp hm with h|h
     ·exact hm1 () m h
     ·rw [Jh.mp h];decide,by rw [bh];show _ * (1 * 1)=_;rw [Kj,Kj]⟩
  rintro _ ⟨qo,qs,rfl,hqo,hoth⟩;clear h2 h3 h4 h5 h7 h8;ac_rfl;rw [mO];refine⟨rfl,hS8,hl,by decide,by decide,ms,hl1,by omega,hm1 (),hmp,λ axs ra H9 e9 ta ham hva=>?_⟩;have hqo9:=e9.at hqo;have hS9:=e9.2 K a _ hS8;clear hqo hS8 hl1;ac_rfl;rw [mO];refine⟨rfl,hS9,hl,by decide,by decide,qs,hqo9,hoth.1,hoth.2.1,by rw [hoth.2.2];exact hmp,λ bxs rb H10 e10 tb hbm hvb=>?_⟩;have hS10:=e10.2 K a _ hS9;have ta10:=ta.ext e10;have hpe:af (axs.map λ a=>a.1)=af (bxs.map λ a=>a.1):=by rw [ham,hbm,hoth.2.2]
  have sa:=hva.sum;have sb:=hvb.sum;clear ta hqo9 hS9 hoth ham hbm hm1;ac_rfl;intro rboth H11 hrb e11 h11;have hS11:=e11.2 K a _ hS10;have alb:Al (λ z x=>AxR z x H11) [axs,bxs] [.ref ra,.ref rb]:=Al.snoc (zs:=[axs]) (ys:=[.ref ra]) (Al.snoc (zs:=[]) (ys:=[]) Al.nil ⟨ra,rfl,ta10.ext e11⟩) ⟨rb,rfl,tb.ext e11⟩;have e011:=e1.trans (e18.trans (e9.trans (e10.trans e11)));clear hrb ta10 tb hS10 e1 e18 e9 e10 e11;ac_rfl;have wk:=oo (K:=K) (R:=AxR) (λ _ _ _ _ h e=>h.ext e) h11 alb;refine vR [axs,bxs] (λ _=>true) AxR (λ D z y H'=>ReR z y H') wk.1 wk.2 (λ D _ y H1 H2 h e=>h.ext e) (λ D _ y H1 xs o ⟨q,h1,h3⟩ hD=>⟨q,h1,by rw [ai (λ z=>by rw [z,hD] at h3;cases h3)];exact h3⟩) (bc (by simp)) ?_ ?_
  ·intro D z y H' N1 N0 hz hD e _ ⟨q,hy,hq⟩ k1 _;subst hy;have k1':=k1 rfl
   have hvz:VAx z:=by
    rcases Js.mp hz with rfl|hz
    ·exact hva
    ·rw [Jh.mp hz];exact hvb
   clear k1 hz wk;simp! only [↓dm,↓cx];rw [wd];exact⟨z,hq,hvz.ax,λ r2 G2 hr2 g2 hh=>k1' _ G2 g2 ⟨r2,rfl,hh⟩⟩
  intro DR ys H12 hDR e12 h12 al12;rw [rX] at al12;have alb12:=alb.imp λ _ _ h=>h.ext e12;have h11_12:=e12.at h11;have hS12:=e12.2 K a _ hS11;have e012:=e011.trans e12;clear hDR e12 e011 alb h11 hS11 wk;ac_rfl;have wk2:=oo (K:=K) (R:=ReR) (λ _ _ _ _ h e=>h.ext e) h12 al12;refine cc [axs,bxs] (λ _=>true) (λ z=>.int (aF z - aE z)) ReR wk2.1 wk2.2 (bc (by simp)) ?_ ?_
  ·intro D z y H' N1 N0 hz hD e ⟨q,hy,hq⟩ k1 _;subst hy;have k1':=k1 rfl H' (Ext.refl _);clear k1 hz wk2;simp! only [↓gu,↓cx]
  intro D2 H13 hD2 e13 h13;rw [rX] at h13;replace h13:H13 D2=some (.lst [.int (aF axs - aE axs),.int (aF bxs - aE bxs)]):=h13;have hS13:=e13.2 K a _ hS12;clear hD2 wk2;ac_rfl;rw [Ao];refine⟨by simp,λ M hM hMx=>?_⟩;have M1:=hMx (aF axs - aE axs) (by simp);have M2:=hMx (aF bxs - aE bxs) (by simp)
  have M3:M<=3540:=by
   rcases Js.mp hM with h|h
   ·omega
   ·have:=Jh.mp h;omega
  clear hM hMx h13;ac_rfl;rw [br];refine⟨hS13,hl,⟨by decide,by decide⟩,by decide,λ d14 dd0 dd1=>?_⟩;obtain⟨room,hroom⟩:∃ room,1+M+d14=room:=⟨_,rfl⟩;have r1':aF axs - aE axs+1<=room:=by omega
  have r2':aF bxs - aE bxs+1<=room:=by omega
  have r3':room<=3600:=by omega
  ac_rfl;intro rf H14 hrf e14 h14;have h12_13:=e13.at h12;have h11_13:=e13.at h11_12;have al13:=al12.imp λ _ _ h=>h.ext e13;have alb13:=alb12.imp λ _ _ h=>h.ext e13;have e013:=e012.trans e13;obtain⟨y0,y1,rfl,⟨w0,rfl,hw0⟩,⟨w1,rfl,hw1⟩⟩:=Iq al13;obtain⟨xa,hxa,ta⟩:=alb13.2 0 axs (.ref ra) rfl rfl;cases hxa;obtain⟨xb,hxb,tb⟩:=alb13.2 1 bxs (.ref rb) rfl rfl;cases hxb;clear hroom hS12 e13 h12 h11_12 al12 alb12 al13 alb13 M1 M2 M3 dd0 dd1 e012;ac_rfl;refine iG (λ i σ H'=>∃ (us:List V) (v8 v9 v10:Option V),σ=[some (.ref a),some (.ref l1),some (.int (af ms)),some (.ref qo),some (.ref rboth),some (.ref DR),some (.int room),some (.ref rf),v8,v9,v10]/\Ext H13 H'/\H' rf=some (.lst us)/\Al (λ z y=>∃ (p q:Addr) (f:Int),y=.ref p/\H' p=some (.tup [.int f,.ref q])/\aO H13 q (axL z)/\0<=f+aE z/\f+aF z < room) ([axs,bxs].take i) us) ⟨[],none,none,none,rfl,e14,h14,Al.nil⟩ ?_ ?_
  ·rintro i _ H15 hi ⟨us,v8,v9,v10,rfl,e15,h15,al15⟩;have hi2:i < 2:=hi
   obtain⟨z,w,rz,hz,hat1,hat2,hw,tz,hzr⟩:∃ (z:List (Int × Int)) (w rz:Addr),[axs,bxs][i]? = some z/\atI [V.ref w0,V.ref w1] (0+(i:Int))=some (.ref w)/\atI [V.ref ra,V.ref rb] (0+(i:Int))=some (.ref rz)/\H13 w=some (.tup [.int (aE z),.int (aF z)])/\aO H13 rz (axL z)/\aF z - aE z+1<=room:=by
    rcases (show i=0\/i=1 by omega) with rfl|rfl
    ·exact⟨axs,w0,ra,rfl,rfl,rfl,hw0,ta,r1'⟩
    ·exact⟨bxs,w1,rb,rfl,rfl,rfl,hw1,tb,r2'⟩
   have hS15:=e15.2 K a _ hS13;have hDR:=e15.at h12_13;have hRB:=e15.at h11_13;have hw15:=e15.at hw;have hul:us.length=i:=by rw [al15.1,Ks];simp;omega
   have hll:us.length < sizeLine:=zr %[0|8];have htk:[axs,bxs].take (i+1)=[axs,bxs].take i++[z]:=by rw [Kb,hz];rfl
   exists hul;rw [htk];clear hi htk h14 hw0 hw1 h12_13 h11_13 hz;simp! only [↓aS];rw [br];refine⟨hS15,hl,⟨by omega,by omega⟩,by omega,λ f f0 f1=>?_⟩;ac_rfl;intro t16 H16 ht16 e16 h16;have h15_16:=e16.at h15;have htr:t16 ≠ rf:=λ e=>by rw [e,h15] at ht16;cases ht16
   clear h15 hDR hRB hw15;ac_rfl;refine⟨us++[.ref t16],_,_,_,rfl,(e15.trans e16).put hrf,rfl,Al.snoc (al15.imp λ z y h=>?_) ⟨t16,rz,f - aE z,rfl,by rw [ai htr];exact h16,?_,by omega,by omega⟩⟩
   ·obtain⟨p,q,g,h1,h2,h3,h4⟩:=h;have h2':=e16.at h2;exact⟨p,q,g,h1,by rw [ai (λ e=>by rw [e,h15_16] at h2';cases h2')];exact h2',h3,h4⟩
   ·exact tz
  ·rintro _ H15 ⟨us,v8,v9,v10,rfl,e15,h15,al15⟩;obtain⟨u0,u1,rfl,⟨p0,q0,f0,h1,h2,h3,h4,h5⟩,⟨p1,q1,f1,g1,g2,g3,g4,g5⟩⟩:=Iq (show Al (λ z y=>∃ (p q:Addr) (f:Int),y=.ref p/\H15 p=some (.tup [.int f,.ref q])/\aO H13 q (axL z)/\0<=f+aE z/\f+aF z < room) [axs,bxs] us from al15);clear al15;ac_rfl;intro r16 H16 hr16 e16 h16;have e1316:=e15.trans e16;exact kk () room axs bxs r16 (.ref p0) (.ref p1) H16 (e013.trans e1316) h16 ⟨p0,q0,f0,rfl,e16.at h2,h3.ext e1316,h4,h5⟩ ⟨p1,q1,f1,rfl,e16.at g2,g3.ext e1316,g4,g5⟩ hva hvb hpe %[0|8] r3'
abbrev ki  (first:Int) (l:Addr) (H:Hp) (Q:VK) (E:XK):Prop:=∃ axs:List (Int × Int),aO H l (axL axs)/\dQ axs/\af (axs.map λ a=>a.1)<=4096/\∀ (r:Addr) (H':Hp),H r=none->Ext H H'->H' r=some (.lst ((aj first axs).map V.int))->Q (.ref r) H'
def kO  : Sp:=λ vs H Q E=>∃ (first:Int) (l:Addr),vs=[.int first,.ref l]/\(ki  first l H Q E)
theorem j2  (first:Int) (l:Addr) (H:Hp) (Q:VK) (E:XK):kO  [.int first,.ref l] H Q E=(ki  first l H Q E):=jq (f:=λ (first:Int) (l:Addr)=>[.int first,.ref l]) (λ _ _ _ _ h=>by cases h;exact⟨rfl,rfl⟩) first l
theorem rq  {vs:List V}{H:Hp}{Q:VK}{E:XK}(h:kO  vs H Q E):vs.length=2:=js h λ _ _=>rfl
theorem lu(T:Tx K mg t):aB P w K mg base CX0 1 t.a__law_cells t.d__law_cells ["_law_first", "_law_axes_here"] kO:=by
 refine T.F__law_cells.ok bo (λ vs H Q E h=>rq h) (λ c A o s H vs Q E hr h=>?_)
 ·obtain⟨first,l,rfl,axs,⟨ys,hl,al⟩,hax,hpr,k⟩:=h;refine⟨_,%[%[2,bo,%[%[%[0|0]|1]|14]|4],%[%[Jp,rfl,%[%[1|0]|22],(%[(2),rfl,%[%[3,bo|5],%[%[(4),_,bo.nd,rfl,(Or.inr rfl),%[0|7]|21],(@aJ _),∅|16],∅|16],∅,∅|25].mono λ _ _ _ _ h=>bP h),%[%[5,bo,%[(@b6 _)|14]|4],%[%[Jp,rfl,%[%[2|0]|22],%[(6),_,bo.nd,rfl,(Or.inr rfl),%[0|7]|21],%[%[%[Jz,PySem.F.slot_list_extend,PySem.F.type_list_extend,mw,%[5|0],%[%[(["_law_k", "_law_first", "_law_axes_here", "_law_cells_here", "_law_size", "_law_pace", "_law_more", "_law_cell"]),(1),(bu (aa cA) ["_law_first", "_law_axes_here", "_law_cells_here", "_law_size", "_law_pace", "_law_more", "_law_cell"] rfl rfl nofun),rfl,%[∅,T.z_range,%[%[3|0]|1],∅|40],(λ C s₀ H₀ ex pn=>%[(0),_,(show List.Nodup (["_law_k", "_law_first", "_law_axes_here", "_law_cells_here", "_law_size", "_law_pace", "_law_more", "_law_cell"]:List Str) from by decide +kernel),rfl,(Or.inl rfl),%[0|7]|21]),(λ C s₀ H₀ ex pn=>(@bB _)),(λ C s₀ H₀ ex pn=>%[bb,%[7|0],%[eh,%[0|0],%[5|0]|12]|12]),(by intros;rfl)|28]|1],∅,∅,∅,∅,∅|39],∅|15]|9],(by intros;rfl)|23],%[%[2,bo,%[5|0]|4]|9]|10]|10],(by intros;rfl)|23],%[%[%[2|0]|11]|9]|10]|10],?_⟩;rw [show ak ["_law_first", "_law_axes_here", "_law_cells_here", "_law_size", "_law_pace", "_law_more", "_law_cell"] [.int first,.ref l]=[some (.int first),some (.ref l),none,none,none,none,none] from rfl];ac_rfl;intro r H1 hr1 e1 h1;have hl1:=e1.at hl;have hpos:∀ a∈axs,(1:Int)<=a.1:=λ a ha=>(hax.2 a ha).1;ac_rfl;refine ej (xs:=ys) (λ i σ H'=>∃ (r:Addr) (v3 v4 v5 v6:Option V),σ=[some (.int first),some (.ref l),some (.ref r),v3,v4,v5,v6]/\Ext H H'/\H r=none/\H' r=some (.lst ((aj first (axs.take i)).map V.int))) ⟨r,none,none,none,none,rfl,e1,hr1,h1⟩ (λ i σ H' _ ⟨_,_,_,_,_,_,e,_,_⟩=>e.at hl) ?_ ?_
  ·rintro i y _ H3 hi ⟨r3,v3,v4,v5,v6,rfl,e3,hr3,h3⟩;obtain⟨a,q,ha,rfl,hq⟩:=Am al hi;have hq3:=e3.at hq;have hm:=hax.2 a (Jm ha)
   have hlen:(aj first (axs.take i)).length * a.1.toNat<=4096:=by
    have hl4:=aU first (axs.take i) λ b hb=>hpos b (Ka hb)
    have hp:=gb (axs.map λ a=>a.1) (λ n hn=>by obtain⟨b,hb,rfl⟩:=JI.mp hn;exact hpos b hb) (i+1);rw [gJ _ i a.1 (by rw [Jl,ha];rfl),←List.map_take,←hl4] at hp;have hza:((a.1.toNat:Nat):Int)=a.1:=JX %[0|8]
    have:(((aj first (axs.take i)).length * a.1.toNat:Nat):Int)<=4096:=by rw [LK,hza];omega
    omega
   have hsn:aj first (axs.take (i+1))=bN (aj first (axs.take i)) a:=by
    rw [Kb,ha]
    show aj first (axs.take i++[a])=_
    rw [i7]
   rw [hsn]
   generalize aj first (axs.take i)=cs at hlen h3
   clear hsn hi k;simp! only [↓aS];intro g H4 hg4 e4 h4;have h3_4:=e4.at h3;have hg0:H g=none:=e3.free hg4;ac_rfl;refine ej (xs:=cs.map V.int) (λ j σ H'=>∃ v6:Option V,σ=[some (.int first),some (.ref l),some (.ref r3),some (.int a.1),some (.int a.2),some (.ref g),v6]/\Ext H H'/\Ext H3 H'/\H' g=some (.lst ((bN (cs.take j) a).map V.int))) ⟨_,rfl,e3.trans e4,e4,h4⟩ (λ j σ H' _ ⟨_,_,_,e,_⟩=>e.at h3) ?_ ?_
   ·rintro j x _ H5 hj ⟨v6',rfl,e5,e35,h5⟩;rw [Jl] at hj;obtain⟨c,hc,rfl⟩:=Jd.mp hj;have hjl:j < cs.length:=(Jb.mp hc).1
    have hzn:a.1.toNat<=4096:=by
     have:=KC a.1.toNat (show 1<=cs.length by omega);omega
    have hwl:(bN (cs.take j) a).length+a.1.toNat<=4096:=by
     rw [iH,Ks];have:(min j cs.length+1) * a.1.toNat<=cs.length * a.1.toNat:=KC _ %[0|8];rw [Nat.add_mul,Nat.one_mul] at this;omega
    rw [jR cs a j c hc];generalize bN (cs.take j) a=ws at h5 hwl;clear hj;simp! only [↓aS];refine⟨by omega,by omega,?_⟩;refine cc (List.range a.1.toNat) (λ _=>true) (λ m=>.int (c+(m:Int) * a.2)) (λ j x H'=>x=.int (0+(j:Nat))) jI.1 jI.2 (bc (by rw [Kc];omega)) ?_ ?_
    ·intro D m x H' N1 N0 hm' hD e hx k1 _;subst hx;have hmr:=JR.mp hm';have k1':=k1 rfl H' (Ext.refl _);rw [show c+(m:Int) * a.2=c+(0+(m:Int)) * a.2 by rw [Int.zero_add]] at k1';have hcm:jH (0+(m:Int)) a.2:=.inl ⟨by omega,by omega⟩;clear k1 hm';simp! only [↓dm,↓cx]
    ·intro D H6 hD e6 h6;rw [rX] at h6;have h5_6:=e6.at h5;have hll:ws.length+(List.range a.1.toNat).length<=sizeLine:=bc (by rw [Kc];omega);clear h5;ac_rfl;refine⟨_,rfl,(e5.trans e6).put hg0,(e35.trans e6).put hg4,?_⟩;rw [K4,KY];rfl
   ·rintro _ H5 ⟨v6',rfl,e5,e35,h5⟩;rw [Jg,JB] at h5;ac_rfl;exact⟨g,_,_,_,_,rfl,e5,hg0,h5⟩
  ·rintro _ H3 ⟨r3,v3,v4,v5,v6,rfl,e3,hr3,h3⟩;have hyl:ys.length=axs.length:=by rw [al.1];unfold axL;rw [length_map]
   rw [hyl,JB] at h3;ac_rfl;exact k r3 H3 hr3 e3 h3
def Hw(ns:List Int)(k:Int):Int:=kq ns (17+k % 46) 1000000000000000000000000000000000000000000000000000000000000 - 500000000000000000000000000000000000000000000000000000000000+k
def r0(ns:List Int)(room:Int):List Int:=(List.range room.toNat).map λ (k:Nat)=>Hw ns (k:Int)
abbrev j9(K:PySem.W.Frag)(a:Addr)(ns:List Int)(p:Addr)(n:Int)(H:Hp)(Q:VK)(E:XK):Prop:=p=a/\SqL K H a (ns.map V.int)/\ns.length<=63/\0<=n/\n<=4096/\∀ (r:Addr) (H':Hp),H r=none->Ext H H'->H' r=some (.lst ((r0 ns n).map V.int))->Q (.ref r) H'
def kH(K:W.Frag)(a:Addr)(ns:List Int):Sp:=λ vs H Q E=>∃ (p:Addr) (n:Int),vs=[.ref p,.int n]/\(j9 K a ns p n H Q E)
theorem rH(K:W.Frag)(a:Addr)(ns:List Int)(p:Addr)(n:Int)(H:Hp)(Q:VK)(E:XK):kH K a ns [.ref p,.int n] H Q E=(j9 K a ns p n H Q E):=jq (f:=λ (p:Addr) (n:Int)=>[.ref p,.int n]) (λ _ _ _ _ h=>by cases h;exact⟨rfl,rfl⟩) p n
theorem rh(K:W.Frag)(a:Addr)(ns:List Int){vs:List V}{H:Hp}{Q:VK}{E:XK}(h:kH K a ns vs H Q E):vs.length=2:=js h λ _ _=>rfl
theorem jx(T:Tx K mg t)(a:Addr)(ns:List Int):aB P w K mg base CX0 2 t.a__law_values t.d__law_values ["_law_script", "_law_room"] (kH K a ns):=by
 have G__law_draw:=%[gf|45] a ns;refine T.F__law_values.ok lN (λ vs H Q E h=>rh _ _ _ h) (λ c A o s H vs Q E hr h=>?_)
 ·obtain⟨_,n,rfl,rfl,hS,hl,hn0,hn1,kk⟩:=h;rename_i a;refine⟨_,%[%[%[(["_law_k", "_law_script", "_law_room"]),(1),(bu (aa b7) ["_law_script", "_law_room"] rfl rfl nofun),rfl,%[∅,T.z_range,%[%[1|0]|1],∅|40],(λ C s₀ H₀ ex pn=>%[(0),_,(show List.Nodup (["_law_k", "_law_script", "_law_room"]:List Str) from by decide +kernel),rfl,(Or.inl rfl),%[0|7]|21]),(λ C s₀ H₀ ex pn=>(@bB _)),(λ C s₀ H₀ ex pn=>%[bb,%[cb,%[_law_draw,%[%[1|0],%[%[bb,%[0|2],%[pO,%[0|0],%[0|2]|12]|12],%[%[jL,%[0|2],%[0|2]|12]|1]|1]|1]|3],%[eh,%[0|2],%[jL,%[0|2],%[0|2]|12]|12]|12],%[0|0]|12]),(by intros;rfl)|28]|11]|9],?_⟩;rw [show ak ["_law_script", "_law_room"] [.ref a,.int n]=[some (.ref a),some (.int n)] from rfl];ac_rfl;refine⟨by omega,by omega,?_⟩;refine cc (List.range n.toNat) (λ _=>true) (λ j=>.int (Hw ns (j:Int))) (λ j x H'=>x=.int (0+(j:Nat))) jI.1 jI.2 (bc (by rw [Kc];omega)) ?_ ?_
  ·intro D j x H' N1 N0 hj hD e hx k1 _;subst hx;have hj':=JR.mp hj
   have k1':N1 (.int (kq ns (17+(0+(j:Int)) % 46) 1000000000000000000000000000000000000000000000000000000000000 - 500000000000000000000000000000000000000000000000000000000000+(0+(j:Int)))) H':=by
    rw [Int.zero_add];exact k1 rfl H' (Ext.refl _)
   have hS':=e.2 K a _ hS;have m0:=J5 (0+(j:Int)) (show (46:Int) ≠ 0 by decide);have m1:=JP (0+(j:Int)) (show (0:Int) < 46 by decide);clear k1 kk hj;simp! only [↓dm,↓cx];rw [wt];refine⟨hS',hl,⟨by omega,by omega⟩,by decide,?_⟩;ac_rfl
  ·intro D H' hD e hD';rw [rX] at hD';exact kk D H' hD e (by rw [hD'];unfold r0;rw [map_map];rfl)
def oh(t:Adr):Nat->Addr
 | 0=>t.a_Statement
 | 1=>t.a_Fill
 | 2=>t.a_Copy
 | 3=>t.a_Swap
 | _=>t.a_Raise
def rW:Nat->Addr->Addr->V->List (Str × V)
 | 0,_,_,_=>[]
 | 1,u,_,x=>[("to",.ref u),("value",x)]
 | 2,u,v,_=>[("to",.ref u),("source",.ref v)]
 | 3,u,v,_=>[("one",.ref u),("other",.ref v)]
 | _,u,v,_=>[("to",.ref u),("source",.ref v)]
def wrs:Nat->Addr->Addr->List Addr
 | 0,_,_=>[]
 | 3,u,v=>[u,v]
 | _,u,_=>[u]
def rds:Nat->Addr->Addr->List Addr
 | 0,_,_=>[]
 | 1,_,_=>[]
 | 2,_,v=>[v]
 | _,u,v=>[u,v]
def CF(t:Adr)(H:Hp)(s:Addr)(w:Nat)(u v:Addr):Prop:=w < 5/\∃ dx x,H s=some (.ins (oh t w) dx (rW w u v x))
theorem CF.ext{t:Adr}{H H':Hp}{s:Addr}{w:Nat}{u v:Addr}(h:CF t H s w u v)(e:Ext H H'):CF t H' s w u v:=by
 obtain⟨h1,dx,x,h2⟩:=h;exact⟨h1,dx,x,e.at h2⟩
abbrev Fg(t:Adr)(i:Nat)(s:Addr)(H:Hp)(Q:VK)(E:XK):Prop:=∃ (u v dx:Addr) (x:V),H s=some (.ins (oh t i) dx (rW i u v x))/\∀ (r:Addr) (H':Hp),H r=none->Ext H H'->H' r=some (.lst ((wrs i u v).map V.ref))->Q (.ref r) H'
def yX(t:Adr)(i:Nat):Sp:=λ vs H Q E=>∃ (s:Addr),vs=[.ref s]/\(Fg t i s H Q E)
theorem md(t:Adr)(i:Nat){vs:List V}{H:Hp}{Q:VK}{E:XK}(h:yX t i vs H Q E):vs.length=1:=jt h λ _=>rfl
abbrev Fh(t:Adr)(i:Nat)(s:Addr)(H:Hp)(Q:VK)(E:XK):Prop:=∃ (u v dx:Addr) (x:V),H s=some (.ins (oh t i) dx (rW i u v x))/\∀ (r:Addr) (H':Hp),H r=none->Ext H H'->H' r=some (.lst ((rds i u v).map V.ref))->Q (.ref r) H'
def yY(t:Adr)(i:Nat):Sp:=λ vs H Q E=>∃ (s:Addr),vs=[.ref s]/\(Fh t i s H Q E)
theorem me(t:Adr)(i:Nat){vs:List V}{H:Hp}{Q:VK}{E:XK}(h:yY t i vs H Q E):vs.length=1:=jt h λ _=>rfl
theorem fM(T:Tx K mg t):aB P w K mg base CX0 1 t.a_Statement_writes t.d_Statement_writes ["self"] (yX t 0):=by
 refine T.F_Statement_writes.ok gr (λ vs H Q E h=>md _ _ h) (λ cdv A outer s0 H vs Q E hr h=>?_)
 ·obtain⟨s,rfl,u,v,dx,x,hs,k⟩:=h;have hs':H s=some (.ins t.a_Statement dx []):=hs;clear hs;have c9:=T.cl_Statement;refine⟨_,%[%[%[(@b6 _)|14]|11]|9],?_⟩;rw [show ak ["self"] [.ref s]=[some (.ref s)] from rfl];exists k;ac_rfl;intro r H1 hr1 e1 h1;exact k () r H1 hr1 e1 h1
theorem gm(T:Tx K mg t):aB P w K mg base CX0 1 t.a_Statement_reads t.d_Statement_reads ["self"] (yY t 0):=by
 refine T.F_Statement_reads.ok dj (λ vs H Q E h=>me _ _ h) (λ cdv A outer s0 H vs Q E hr h=>?_)
 ·obtain⟨s,rfl,u,v,dx,x,hs,k⟩:=h;have hs':H s=some (.ins t.a_Statement dx []):=hs;clear hs;have c9:=T.cl_Statement;refine⟨_,%[%[%[(@b6 _)|14]|11]|9],?_⟩;rw [show ak ["self"] [.ref s]=[some (.ref s)] from rfl];exists k;ac_rfl;intro r H1 hr1 e1 h1;exact k () r H1 hr1 e1 h1
theorem jB(T:Tx K mg t):aB P w K mg base CX0 1 t.a_Fill_writes t.d_Fill_writes ["self"] (yX t 1):=by
 refine T.F_Fill_writes.ok lQ (λ vs H Q E h=>md _ _ h) (λ cdv A outer s0 H vs Q E hr h=>?_)
 ·obtain⟨s,rfl,u,v,dx,x,hs,k⟩:=h;have hs':H s=some (.ins t.a_Fill dx [("to",V.ref u),("value",x)]):=hs;clear hs;have c0:=T.na_Fill_to;have l0:([("to",V.ref u),("value",x)]:List (Str × V)).lookup (Str.ofString "to")=some (V.ref u):=by rfl
  have c9:=T.cl_Fill;refine⟨_,%[%[%[%[%[%[0|0],rfl|13]|1]|14]|11]|9],?_⟩;rw [show ak ["self"] [.ref s]=[some (.ref s)] from rfl];exists k;ac_rfl;intro r H1 hr1 e1 h1;exact k () r H1 hr1 e1 h1
theorem jC(T:Tx K mg t):aB P w K mg base CX0 1 t.a_Copy_writes t.d_Copy_writes ["self"] (yX t 2):=by
 refine T.F_Copy_writes.ok lR (λ vs H Q E h=>md _ _ h) (λ cdv A outer s0 H vs Q E hr h=>?_)
 ·obtain⟨s,rfl,u,v,dx,x,hs,k⟩:=h;have hs':H s=some (.ins t.a_Copy dx [("to",V.ref u),("source",V.ref v)]):=hs;clear hs;have c0:=T.na_Copy_to;have l0:([("to",V.ref u),("source",V.ref v)]:List (Str × V)).lookup (Str.ofString "to")=some (V.ref u):=by rfl
  have c9:=T.cl_Copy;refine⟨_,%[%[%[%[%[%[0|0],rfl|13]|1]|14]|11]|9],?_⟩;rw [show ak ["self"] [.ref s]=[some (.ref s)] from rfl];exists k;ac_rfl;intro r H1 hr1 e1 h1;exact k () r H1 hr1 e1 h1
theorem lB(T:Tx K mg t):aB P w K mg base CX0 1 t.a_Copy_reads t.d_Copy_reads ["self"] (yY t 2):=by
 refine T.F_Copy_reads.ok n9 (λ vs H Q E h=>me _ _ h) (λ cdv A outer s0 H vs Q E hr h=>?_)
 ·obtain⟨s,rfl,u,v,dx,x,hs,k⟩:=h;have hs':H s=some (.ins t.a_Copy dx [("to",V.ref u),("source",V.ref v)]):=hs;clear hs;have c0:=T.na_Copy_source;have l0:([("to",V.ref u),("source",V.ref v)]:List (Str × V)).lookup (Str.ofString "source")=some (V.ref v):=by rfl
  have c9:=T.cl_Copy;refine⟨_,%[%[%[%[%[%[0|0],rfl|13]|1]|14]|11]|9],?_⟩;rw [show ak ["self"] [.ref s]=[some (.ref s)] from rfl];exists k;ac_rfl;intro r H1 hr1 e1 h1;exact k () r H1 hr1 e1 h1
theorem jy(T:Tx K mg t):aB P w K mg base CX0 1 t.a_Swap_writes t.d_Swap_writes ["self"] (yX t 3):=by
 refine T.F_Swap_writes.ok lO (λ vs H Q E h=>md _ _ h) (λ cdv A outer s0 H vs Q E hr h=>?_)
 ·obtain⟨s,rfl,u,v,dx,x,hs,k⟩:=h;have hs':H s=some (.ins t.a_Swap dx [("one",V.ref u),("other",V.ref v)]):=hs;clear hs;have c0:=T.na_Swap_one;have l0:([("one",V.ref u),("other",V.ref v)]:List (Str × V)).lookup (Str.ofString "one")=some (V.ref u):=by rfl
  have c1:=T.na_Swap_other;have l1:([("one",V.ref u),("other",V.ref v)]:List (Str × V)).lookup (Str.ofString "other")=some (V.ref v):=by rfl
  have c9:=T.cl_Swap;refine⟨_,%[%[%[%[%[%[0|0],rfl|13],%[%[%[0|0],rfl|13]|1]|1]|14]|11]|9],?_⟩;rw [show ak ["self"] [.ref s]=[some (.ref s)] from rfl];exists k;ac_rfl;intro r H1 hr1 e1 h1;exact k () r H1 hr1 e1 h1
theorem lz(T:Tx K mg t):aB P w K mg base CX0 1 t.a_Swap_reads t.d_Swap_reads ["self"] (yY t 3):=by
 refine T.F_Swap_reads.ok n6 (λ vs H Q E h=>me _ _ h) (λ cdv A outer s0 H vs Q E hr h=>?_)
 ·obtain⟨s,rfl,u,v,dx,x,hs,k⟩:=h;have hs':H s=some (.ins t.a_Swap dx [("one",V.ref u),("other",V.ref v)]):=hs;clear hs;have c0:=T.na_Swap_one;have l0:([("one",V.ref u),("other",V.ref v)]:List (Str × V)).lookup (Str.ofString "one")=some (V.ref u):=by rfl
  have c1:=T.na_Swap_other;have l1:([("one",V.ref u),("other",V.ref v)]:List (Str × V)).lookup (Str.ofString "other")=some (V.ref v):=by rfl
  have c9:=T.cl_Swap;refine⟨_,%[%[%[%[%[%[0|0],rfl|13],%[%[%[0|0],rfl|13]|1]|1]|14]|11]|9],?_⟩;rw [show ak ["self"] [.ref s]=[some (.ref s)] from rfl];exists k;ac_rfl;intro r H1 hr1 e1 h1;exact k () r H1 hr1 e1 h1
theorem ji(T:Tx K mg t):aB P w K mg base CX0 1 t.a_Raise_writes t.d_Raise_writes ["self"] (yX t 4):=by
 refine T.F_Raise_writes.ok jF (λ vs H Q E h=>md _ _ h) (λ cdv A outer s0 H vs Q E hr h=>?_)
 ·obtain⟨s,rfl,u,v,dx,x,hs,k⟩:=h;have hs':H s=some (.ins t.a_Raise dx [("to",V.ref u),("source",V.ref v)]):=hs;clear hs;have c0:=T.na_Raise_to;have l0:([("to",V.ref u),("source",V.ref v)]:List (Str × V)).lookup (Str.ofString "to")=some (V.ref u):=by rfl
  have c9:=T.cl_Raise;refine⟨_,%[%[%[%[%[%[0|0],rfl|13]|1]|14]|11]|9],?_⟩;rw [show ak ["self"] [.ref s]=[some (.ref s)] from rfl];exists k;ac_rfl;intro r H1 hr1 e1 h1;exact k () r H1 hr1 e1 h1
theorem jA(T:Tx K mg t):aB P w K mg base CX0 1 t.a_Raise_reads t.d_Raise_reads ["self"] (yY t 4):=by
 refine T.F_Raise_reads.ok lP (λ vs H Q E h=>me _ _ h) (λ cdv A outer s0 H vs Q E hr h=>?_)
 ·obtain⟨s,rfl,u,v,dx,x,hs,k⟩:=h;have hs':H s=some (.ins t.a_Raise dx [("to",V.ref u),("source",V.ref v)]):=hs;clear hs;have c0:=T.na_Raise_source;have l0:([("to",V.ref u),("source",V.ref v)]:List (Str × V)).lookup (Str.ofString "source")=some (V.ref v):=by rfl
  have c1:=T.na_Raise_to;have l1:([("to",V.ref u),("source",V.ref v)]:List (Str × V)).lookup (Str.ofString "to")=some (V.ref u):=by rfl
  have c9:=T.cl_Raise;refine⟨_,%[%[%[%[%[%[0|0],rfl|13],%[%[%[0|0],rfl|13]|1]|1]|14]|11]|9],?_⟩;rw [show ak ["self"] [.ref s]=[some (.ref s)] from rfl];exists k;ac_rfl;intro r H1 hr1 e1 h1;exact k () r H1 hr1 e1 h1
theorem fN(T:Tx K mg t):aB P w K mg base CX0 1 t.a_Statement_reads t.d_Statement_reads ["self"] (yY t 1):=by
 refine T.F_Statement_reads.ok dj (λ vs H Q E h=>me _ _ h) (λ cdv A outer s0 H vs Q E hr h=>?_)
 ·obtain⟨s,rfl,u,v,dx,x,hs,k⟩:=h;have hs':H s=some (.ins t.a_Fill dx [("to",V.ref u),("value",x)]):=hs;clear hs;have c9:=T.cl_Fill;refine⟨_,%[%[%[(@b6 _)|14]|11]|9],?_⟩;rw [show ak ["self"] [.ref s]=[some (.ref s)] from rfl];exists k;ac_rfl;intro r H1 hr1 e1 h1;exact k () r H1 hr1 e1 h1
theorem MDw{P:Program}{w:World}{K:W.Frag}{mg:Str->Option Value}{base:Heap}{t:Adr}(T:Tx K mg t):∀ i,i < 5->MD P w K mg base CX0 1 "writes" (oh t i) (yX t i)
 | 0,_=>⟨T.cl_Statement,_,_,_,T.mt_Statement_writes,fM T,T.b_Statement_writes⟩
 | 1,_=>⟨T.cl_Fill,_,_,_,T.mt_Fill_writes,jB T,T.b_Fill_writes⟩
 | 2,_=>⟨T.cl_Copy,_,_,_,T.mt_Copy_writes,jC T,T.b_Copy_writes⟩
 | 3,_=>⟨T.cl_Swap,_,_,_,T.mt_Swap_writes,jy T,T.b_Swap_writes⟩
 | 4,_=>⟨T.cl_Raise,_,_,_,T.mt_Raise_writes,ji T,T.b_Raise_writes⟩
 | n+5,h=>absurd h %[0|8]
theorem MDr{P:Program}{w:World}{K:W.Frag}{mg:Str->Option Value}{base:Heap}{t:Adr}(T:Tx K mg t):∀ i,i < 5->MD P w K mg base CX0 1 "reads" (oh t i) (yY t i)
 | 0,_=>⟨T.cl_Statement,_,_,_,T.mt_Statement_reads,gm T,T.b_Statement_reads⟩
 | 1,_=>⟨T.cl_Fill,_,_,_,T.mt_Fill_reads,fN T,T.b_Statement_reads⟩
 | 2,_=>⟨T.cl_Copy,_,_,_,T.mt_Copy_reads,lB T,T.b_Copy_reads⟩
 | 3,_=>⟨T.cl_Swap,_,_,_,T.mt_Swap_reads,lz T,T.b_Swap_reads⟩
 | 4,_=>⟨T.cl_Raise,_,_,_,T.mt_Raise_reads,jA T,T.b_Raise_reads⟩
 | n+5,h=>absurd h %[0|8]
theorem zw{w:Nat}{u v:Addr}{x:V}(hw:w < 5):(rW w u v x).lookup (Str.ofString "writes")=none/\(rW w u v x).lookup (Str.ofString "reads")=none:=by
 match w,hw with
 | 0,_=>exact⟨rfl,rfl⟩
 | 1,_=>exact⟨rfl,rfl⟩
 | 2,_=>exact⟨rfl,rfl⟩
 | 3,_=>exact⟨rfl,rfl⟩
 | 4,_=>exact⟨rfl,rfl⟩
theorem zd{t:Adr}{H:Hp}{s:Addr}{w:Nat}{u v:Addr}{E:XK}{Q:VK}(h:CF t H s w u v)(q:∀ (r:Addr) (H':Hp),H r=none->Ext H H'->H' r=some (.lst ((wrs w u v).map V.ref))->Q (.ref r) H'):pR 5 (oh t) "writes" (yX t) E Q (.ref s) H:=by
 obtain⟨h1,dx,x,h2⟩:=h;exact⟨s,w,dx,_,rfl,h1,h2,(zw h1).1,s,rfl,u,v,dx,x,h2,q⟩
theorem sF{t:Adr}{H:Hp}{s:Addr}{w:Nat}{u v:Addr}{E:XK}{Q:VK}(h:CF t H s w u v)(q:∀ (r:Addr) (H':Hp),H r=none->Ext H H'->H' r=some (.lst ((rds w u v).map V.ref))->Q (.ref r) H'):pR 5 (oh t) "reads" (yY t) E Q (.ref s) H:=by
 obtain⟨h1,dx,x,h2⟩:=h;exact⟨s,w,dx,_,rfl,h1,h2,(zw h1).2,s,rfl,u,v,dx,x,h2,q⟩
theorem Dv(w:Nat)(u v:Addr):(wrs w u v).length<=2/\(rds w u v).length<=2:=by
 match w with
 | 0=>exact⟨JH _,JH _⟩
 | 1=>exact⟨Kw _,JH _⟩
 | 2=>exact⟨Kw _,Kw _⟩
 | 3=>exact⟨Je _,Je _⟩
 | n+4=>exact⟨Kw _,Je _⟩
abbrev mX(C:Addr)(u:Addr)(v:Addr)(H:Hp)(Q:VK)(E:XK):Prop:=∃ (r f1 f2:Int) (A B:List (Int × Int)),aw C H u r f1 A/\aw C H v r f2 B/\Q .non H
def oE(C:Addr):Sp:=λ vs H Q E=>∃ (u:Addr) (v:Addr),vs=[.ref u,.ref v]/\(mX C u v H Q E)
theorem wc(C:Addr)(u:Addr)(v:Addr)(H:Hp)(Q:VK)(E:XK):oE C [.ref u,.ref v] H Q E=(mX C u v H Q E):=jq (f:=λ (u:Addr) (v:Addr)=>[.ref u,.ref v]) (λ _ _ _ _ h=>by cases h;exact⟨rfl,rfl⟩) u v
theorem vp(C:Addr){vs:List V}{H:Hp}{Q:VK}{E:XK}(h:oE C vs H Q E):vs.length=2:=js h λ _ _=>rfl
theorem jd(T:Tx K mg t):aB P w K mg base CX0 1 t.a_refuse_rooms t.d_refuse_rooms ["one", "other"] (oE t.a_View):=by
 refine T.F_refuse_rooms.ok fe (λ vs H Q E h=>vp _ h) (λ c A o s H vs Q E hr h=>?_)
 ·obtain⟨u,v,rfl,ra,f1,f2,A,B,vu,vv,k⟩:=h;obtain⟨dx,D,hu,_⟩:=vu.ob;obtain⟨dy,D2,hv,_⟩:=vv.ob;have c1:=T.cl_View;have c4:=T.na_View_room;have g1:=bK ra f1 D;have g2:=bK ra f2 D2;refine⟨_,%[%[%[(b9 hr.units),%[%[0|0],rfl|13],%[%[1|0],rfl|13],(az _)|17],%[(@dq _ _)|9],(@au _)|18]|9],?_⟩;rw [show ak ["one", "other"] [.ref u,.ref v]=[some (.ref u),some (.ref v)] from rfl];ac_rfl
abbrev um(C:Addr)(u:Addr)(v:Addr)(H:Hp)(Q:VK)(E:XK):Prop:=∃ (r f1 f2:Int) (A B:List (Int × Int)),aw C H u r f1 A/\aw C H v r f2 B/\dQ A/\dQ B/\af (A.map λ a=>a.1)=af (B.map λ a=>a.1)/\∀ H',Ext H H'->Q .non H'
def zK(C:Addr):Sp:=λ vs H Q E=>∃ (u:Addr) (v:Addr),vs=[.ref u,.ref v]/\(um C u v H Q E)
theorem oY(C:Addr)(u:Addr)(v:Addr)(H:Hp)(Q:VK)(E:XK):zK C [.ref u,.ref v] H Q E=(um C u v H Q E):=jq (f:=λ (u:Addr) (v:Addr)=>[.ref u,.ref v]) (λ _ _ _ _ h=>by cases h;exact⟨rfl,rfl⟩) u v
theorem B1(C:Addr){vs:List V}{H:Hp}{Q:VK}{E:XK}(h:zK C vs H Q E):vs.length=2:=js h λ _ _=>rfl
theorem dM(T:Tx K mg t):aB P w K mg base CX0 4 t.a_refuse_two t.d_refuse_two ["one", "other"] (zK t.a_View):=by
 have G_refuse_rooms:=%[jd|45];have G_View_count:=%[aL|45];have G_refuse_count:=%[bF|45];refine T.F_refuse_two.ok gY (λ vs H Q E h=>B1 _ h) (λ c A o s H vs Q E hr h=>?_)
 ·obtain⟨u,v,rfl,ra,f1,f2,A,B,vu,vv,hA,hB,hc,k⟩:=h;obtain⟨dy,D2,hv,_⟩:=vv.ob;have f3:=vn ra f2 D2 (m := "count") nofun;have c1:=T.cl_View;refine⟨_,%[%[%[refuse_rooms,%[%[0|0],%[%[1|0]|1]|1]|3],∅|15],%[%[%[refuse_count,%[%[0|0],%[%[%[1|0],T.cl_View,T.mt_View_count,G_View_count,(hr.mono ⋯),T.b_View_count,.nil,aC,∅|26]|1]|1]|3],∅|15]|9]|10],?_⟩;rw [show ak ["one", "other"] [.ref u,.ref v]=[some (.ref u),some (.ref v)] from rfl];clear G_refuse_rooms G_View_count G_refuse_count;exists k;ac_rfl;rw [wc];refine⟨ra,f1,f2,A,B,vu,vv,?_⟩;ac_rfl;rw [bx];refine⟨ra,f2,B,vv,hB,λ H1 e1=>?_⟩;ac_rfl;rw [eS];refine⟨ra,f1,A,vu.ext e1,hA,hc.symm,λ H2 e2=>?_⟩;have k2:=k () H2 (e1.trans e2);clear k;ac_rfl
abbrev ni(C:Addr)(x:Addr)(u:Addr)(y:V)(H:Hp)(Q:VK)(E:XK):Prop:=∃ dx:Addr,H x=some (.ins C dx [])/\∀ H':Hp,(∀ H0,Ext H0 H->H0 x=none->Ext H0 H')->H' x=some (.ins C dx [("to",.ref u),("value",y)])->Q .non H'
def oO(C:Addr):Sp:=λ vs H Q E=>∃ (x:Addr) (u:Addr) (y:V),vs=[.ref x,.ref u,y]/\(ni C x u y H Q E)
theorem wq(C:Addr)(x:Addr)(u:Addr)(y:V)(H:Hp)(Q:VK)(E:XK):oO C [.ref x,.ref u,y] H Q E=(ni C x u y H Q E):=rR (f:=λ (x:Addr) (u:Addr) (y:V)=>[.ref x,.ref u,y]) (λ _ _ _ _ _ _ h=>by cases h;exact⟨rfl,rfl,rfl⟩) x u y
theorem vG(C:Addr){vs:List V}{H:Hp}{Q:VK}{E:XK}(h:oO C vs H Q E):vs.length=3:=rS h λ _ _ _=>rfl
theorem dX(T:Tx K mg t):aB P w K mg base CX0 1 t.a_Fill___init__ t.d_Fill___init__ ["self", "to", "value"] (oO t.a_Fill):=by
 refine T.F_Fill___init__.ok jo (λ vs H Q E h=>vG _ h) (λ c A o s H vs Q E hr h=>?_)
 ·obtain⟨x,u,y,rfl,dx,hx,k⟩:=h;have c1:=T.cl_Fill;have c2:=T.na_Fill_to;have c3:=T.na_Fill_value;refine⟨_,%[%[%[0|0],%[1|0],rfl|29],%[%[%[0|0],%[2|0],rfl|29]|9]|10],?_⟩;rw [show ak ["self", "to", "value"] [.ref x,.ref u,y]=[some (.ref x),some (.ref u),some (y)] from rfl];have k2:=λ (_:Unit)=>k (upd H x (.ins t.a_Fill dx [("to",.ref u),("value",y)])) (λ H0 q0 q1=>q0.put q1) ag;clear k;ac_rfl;refine⟨(show (1:Nat) < 1000 by decide),?_⟩;ac_rfl;exact k2 ()
abbrev g9(C CV:Addr)(x:Addr)(u:Addr)(v:Addr)(H:Hp)(Q:VK)(E:XK):Prop:=∃ (dx:Addr) (r f1 f2:Int) (A B:List (Int × Int)),H x=some (.ins C dx [])/\aw CV H u r f1 A/\aw CV H v r f2 B/\dQ A/\dQ B/\af (A.map λ a=>a.1)=af (B.map λ a=>a.1)/\∀ H':Hp,(∀ H0,Ext H0 H->H0 x=none->Ext H0 H')->H' x=some (.ins C dx [("to",.ref u),("source",.ref v)])->Q .non H'
def gB(C CV:Addr):Sp:=λ vs H Q E=>∃ (x:Addr) (u:Addr) (v:Addr),vs=[.ref x,.ref u,.ref v]/\(g9 C CV x u v H Q E)
theorem nV(C CV:Addr)(x:Addr)(u:Addr)(v:Addr)(H:Hp)(Q:VK)(E:XK):gB C CV [.ref x,.ref u,.ref v] H Q E=(g9 C CV x u v H Q E):=rR (f:=λ (x:Addr) (u:Addr) (v:Addr)=>[.ref x,.ref u,.ref v]) (λ _ _ _ _ _ _ h=>by cases h;exact⟨rfl,rfl,rfl⟩) x u v
theorem nO(C CV:Addr){vs:List V}{H:Hp}{Q:VK}{E:XK}(h:gB C CV vs H Q E):vs.length=3:=rS h λ _ _ _=>rfl
theorem hZ(T:Tx K mg t):aB P w K mg base CX0 5 t.a_Copy___init__ t.d_Copy___init__ ["self", "to", "source"] (gB t.a_Copy t.a_View):=by
 have G_refuse_two:=%[dM|45];refine T.F_Copy___init__.ok eL (λ vs H Q E h=>nO _ _ h) (λ cdv A' outer s H vs Q E hr h=>?_)
 ·obtain⟨x,u,v,rfl,dx,r,f1,f2,A,B,hx,vu,vv,hA,hB,hc,k⟩:=h;have c1:=T.cl_Copy;have c2:=T.na_Copy_to;have c3:=T.na_Copy_source;refine⟨_,%[%[%[refuse_two,%[%[1|0],%[%[2|0]|1]|1]|3],∅|15],%[%[%[0|0],%[1|0],rfl|29],%[%[%[0|0],%[2|0],rfl|29]|9]|10]|10],?_⟩;rw [show ak ["self", "to", "source"] [.ref x,.ref u,.ref v]=[some (.ref x),some (.ref u),some (.ref v)] from rfl];clear G_refuse_two;exists k;ac_rfl;rw [oY];refine⟨r,f1,f2,A,B,vu,vv,hA,hB,hc,λ H1 e1=>?_⟩;have hx1:=e1.at hx;have k2:=λ (_:Unit)=>k () (upd H1 x (.ins t.a_Copy dx [("to",.ref u),("source",.ref v)])) (λ H0 q0 q1=>(q0.trans e1).put q1) ag;clear k hx;ac_rfl;refine⟨(show (1:Nat) < 1000 by decide),?_⟩;ac_rfl;exact k2 ()
abbrev g7(C CV:Addr)(x:Addr)(u:Addr)(v:Addr)(H:Hp)(Q:VK)(E:XK):Prop:=∃ (dx:Addr) (r f1 f2:Int) (A B:List (Int × Int)),H x=some (.ins C dx [])/\aw CV H u r f1 A/\aw CV H v r f2 B/\dQ A/\dQ B/\af (A.map λ a=>a.1)=af (B.map λ a=>a.1)/\∀ H':Hp,(∀ H0,Ext H0 H->H0 x=none->Ext H0 H')->H' x=some (.ins C dx [("one",.ref u),("other",.ref v)])->Q .non H'
def gy(C CV:Addr):Sp:=λ vs H Q E=>∃ (x:Addr) (u:Addr) (v:Addr),vs=[.ref x,.ref u,.ref v]/\(g7 C CV x u v H Q E)
theorem nR(C CV:Addr)(x:Addr)(u:Addr)(v:Addr)(H:Hp)(Q:VK)(E:XK):gy C CV [.ref x,.ref u,.ref v] H Q E=(g7 C CV x u v H Q E):=rR (f:=λ (x:Addr) (u:Addr) (v:Addr)=>[.ref x,.ref u,.ref v]) (λ _ _ _ _ _ _ h=>by cases h;exact⟨rfl,rfl,rfl⟩) x u v
theorem nM(C CV:Addr){vs:List V}{H:Hp}{Q:VK}{E:XK}(h:gy C CV vs H Q E):vs.length=3:=rS h λ _ _ _=>rfl
theorem dW(T:Tx K mg t):aB P w K mg base CX0 5 t.a_Swap___init__ t.d_Swap___init__ ["self", "one", "other"] (gy t.a_Swap t.a_View):=by
 have G_refuse_two:=%[dM|45];refine T.F_Swap___init__.ok jn (λ vs H Q E h=>nM _ _ h) (λ cdv A' outer s H vs Q E hr h=>?_)
 ·obtain⟨x,u,v,rfl,dx,r,f1,f2,A,B,hx,vu,vv,hA,hB,hc,k⟩:=h;have c1:=T.cl_Swap;have c2:=T.na_Swap_one;have c3:=T.na_Swap_other;refine⟨_,%[%[%[refuse_two,%[%[1|0],%[%[2|0]|1]|1]|3],∅|15],%[%[%[0|0],%[1|0],rfl|29],%[%[%[0|0],%[2|0],rfl|29]|9]|10]|10],?_⟩;rw [show ak ["self", "one", "other"] [.ref x,.ref u,.ref v]=[some (.ref x),some (.ref u),some (.ref v)] from rfl];clear G_refuse_two;exists k;ac_rfl;rw [oY];refine⟨r,f1,f2,A,B,vu,vv,hA,hB,hc,λ H1 e1=>?_⟩;have hx1:=e1.at hx;have k2:=λ (_:Unit)=>k () (upd H1 x (.ins t.a_Swap dx [("one",.ref u),("other",.ref v)])) (λ H0 q0 q1=>(q0.trans e1).put q1) ag;clear k hx;ac_rfl;refine⟨(show (1:Nat) < 1000 by decide),?_⟩;ac_rfl;exact k2 ()
abbrev gj(C CV:Addr)(x:Addr)(u:Addr)(v:Addr)(H:Hp)(Q:VK)(E:XK):Prop:=∃ (dx:Addr) (r f1 f2:Int) (A B:List (Int × Int)),H x=some (.ins C dx [])/\aw CV H u r f1 A/\aw CV H v r f2 B/\dQ A/\dQ B/\af (A.map λ a=>a.1)=af (B.map λ a=>a.1)/\∀ H':Hp,(∀ H0,Ext H0 H->H0 x=none->Ext H0 H')->H' x=some (.ins C dx [("to",.ref u),("source",.ref v)])->Q .non H'
def fj(C CV:Addr):Sp:=λ vs H Q E=>∃ (x:Addr) (u:Addr) (v:Addr),vs=[.ref x,.ref u,.ref v]/\(gj C CV x u v H Q E)
theorem lM(C CV:Addr)(x:Addr)(u:Addr)(v:Addr)(H:Hp)(Q:VK)(E:XK):fj C CV [.ref x,.ref u,.ref v] H Q E=(gj C CV x u v H Q E):=rR (f:=λ (x:Addr) (u:Addr) (v:Addr)=>[.ref x,.ref u,.ref v]) (λ _ _ _ _ _ _ h=>by cases h;exact⟨rfl,rfl,rfl⟩) x u v
theorem lK(C CV:Addr){vs:List V}{H:Hp}{Q:VK}{E:XK}(h:fj C CV vs H Q E):vs.length=3:=rS h λ _ _ _=>rfl
theorem di(T:Tx K mg t):aB P w K mg base CX0 5 t.a_Raise___init__ t.d_Raise___init__ ["self", "to", "source"] (fj t.a_Raise t.a_View):=by
 have G_refuse_two:=%[dM|45];refine T.F_Raise___init__.ok il (λ vs H Q E h=>lK _ _ h) (λ cdv A' outer s H vs Q E hr h=>?_)
 ·obtain⟨x,u,v,rfl,dx,r,f1,f2,A,B,hx,vu,vv,hA,hB,hc,k⟩:=h;have c1:=T.cl_Raise;have c2:=T.na_Raise_to;have c3:=T.na_Raise_source;refine⟨_,%[%[%[refuse_two,%[%[1|0],%[%[2|0]|1]|1]|3],∅|15],%[%[%[0|0],%[1|0],rfl|29],%[%[%[0|0],%[2|0],rfl|29]|9]|10]|10],?_⟩;rw [show ak ["self", "to", "source"] [.ref x,.ref u,.ref v]=[some (.ref x),some (.ref u),some (.ref v)] from rfl];clear G_refuse_two;exists k;ac_rfl;rw [oY];refine⟨r,f1,f2,A,B,vu,vv,hA,hB,hc,λ H1 e1=>?_⟩;have hx1:=e1.at hx;have k2:=λ (_:Unit)=>k () (upd H1 x (.ins t.a_Raise dx [("to",.ref u),("source",.ref v)])) (λ H0 q0 q1=>(q0.trans e1).put q1) ag;clear k hx;ac_rfl;refine⟨(show (1:Nat) < 1000 by decide),?_⟩;ac_rfl;exact k2 ()
theorem Fun.x{K:W.Frag}{x qual:Str}{st:Stmt}{f:Addr}{fd:FuncData}(F:Fun K x qual st f fd):Gk K x qual st f fd:=by
 obtain⟨oc,od,kV,doc,pm,an,cdv,ct,osl,e,lk,hcd⟩:=F.ex;exact⟨⟨oc,od,.none,kV,doc,pm,an,cdv,ct,osl,e,lk,hcd⟩,F.kp⟩
abbrev kh(C cN:Addr)(u:Addr)(v:Addr)(H:Hp)(Q:VK)(E:XK):Prop:=∃ (r1 r2 f1 f2:Int) (A B:List (Int × Int)),aw C H u r1 f1 A/\aw C H v r2 f2 B/\(r1=r2->Q .non H)/\(r1 ≠ r2->∀ H',Ext H H'->E (.ref cN) none H')
def kK(C cN:Addr):Sp:=λ vs H Q E=>∃ (u:Addr) (v:Addr),vs=[.ref u,.ref v]/\(kh C cN u v H Q E)
theorem rK(C cN:Addr)(u:Addr)(v:Addr)(H:Hp)(Q:VK)(E:XK):kK C cN [.ref u,.ref v] H Q E=(kh C cN u v H Q E):=jq (f:=λ (u:Addr) (v:Addr)=>[.ref u,.ref v]) (λ _ _ _ _ h=>by cases h;exact⟨rfl,rfl⟩) u v
theorem rn(C cN:Addr){vs:List V}{H:Hp}{Q:VK}{E:XK}(h:kK C cN vs H Q E):vs.length=2:=js h λ _ _=>rfl
theorem h9(T:Tx K mg t):aB P w K mg base (CX1 P  w) 1 t.a_refuse_rooms t.d_refuse_rooms ["one", "other"] (kK t.a_View t.a_NoPair):=by
 refine(Fun.x T.F_refuse_rooms).ok fe (λ vs H Q E h=>rn _ _ h) (λ c A o s H vs Q E hr h=>?_)
 ·obtain⟨u,v,rfl,ra,rb,f1,f2,A,B,vu,vv,kQ,kE⟩:=h;obtain⟨dx,D,hu,_⟩:=vu.ob;obtain⟨dy,D2,hv,_⟩:=vv.ob;have c1:=T.cl_View;have c4:=T.na_View_room;have g1:=bK ra f1 D;have g2:=bK rb f2 D2;refine⟨_,%[%[%[(b9 hr.units),%[%[0|0],rfl|13],%[%[1|0],rfl|13],(az _)|17],%[(@kU _ _ _ _ _ _ _ _ _ _ rfl ∅ T.m_NoPair ⟨T.o_NoPair⟩ (λ σ=>gI) %[(@b5 _ _ _ _)|1] ∅ ∅ ⋯)|9],(@au _)|18]|9],?_⟩;rw [show ak ["one", "other"] [.ref u,.ref v]=[some (.ref u),some (.ref v)] from rfl]
  by_cases he:ra=rb
  ·subst he;have k':=kQ rfl;clear kQ kE;ac_rfl
  ·have k':=kE he H (Ext.refl _);clear kQ kE;ac_rfl
theorem fK(T:Tx K mg t):aB P w K mg base CX0 1 t.a_TooMany___init__ t.d_TooMany___init__ ["self", "number"] (FF t.a_TooMany "number"):=by
 refine T.F_TooMany___init__.ok gp (λ vs H Q E h=>E2 _ _ h) (λ c A o s H vs Q E hr h=>?_)
 ·obtain⟨e,x,rfl,he,k⟩:=h;refine⟨_,%[%[(@xn _ _ _ _ _ _ _ _ _ _ ∅ T.m_PaceError T.bi_PaceError %[%[0|0],%[%[1|0]|1]|1] ⋯ ∅ ∅ ∅),∅|15],%[(@AJ _ _ _ _ _ _ _ _ %[0|0] %[1|0] rfl)|9]|10],?_⟩;rw [show ak ["self", "number"] [.ref e,x]=[some (.ref e),some (x)] from rfl];ac_rfl;refine⟨e,_,_,_,[x],rfl,he,T.oi_TooMany,(show 1<=sizeLine by decide),?_⟩;ac_rfl;exact⟨e,_,rfl,he,T.oi_TooMany.st,T.tk_TooMany_number,λ dx H' h1 h2 h3 h4 h5=>k dx H' h1 h2 h3 h4 h5⟩
abbrev m7(cT:Addr)(n:Int)(H:Hp)(Q:VK)(E:XK):Prop:=(n<=4096->Q .non H)/\(4096 < n->∀ dx H',Ext H H'->H' dx=some (.xd [("number",.int n)])->E (.ref cT) (some dx) H')
def oI(cT:Addr):Sp:=λ vs H Q E=>∃ (n:Int),vs=[.int n]/\(m7 cT n H Q E)
theorem we(cT:Addr)(n:Int)(H:Hp)(Q:VK)(E:XK):oI cT [.int n] H Q E=(m7 cT n H Q E):=lS (f:=λ (n:Int)=>[.int n]) (λ _ _ h=>by cases h;exact rfl) n
theorem vy(cT:Addr){vs:List V}{H:Hp}{Q:VK}{E:XK}(h:oI cT vs H Q E):vs.length=1:=jt h λ _=>rfl
theorem jj(T:Tx K mg t):aB P w K mg base (CX1 P  w) 3 t.a_refuse_long t.d_refuse_long ["count"] (oI t.a_TooMany):=by
 have G_TooMany___init__:=%[fK|45];refine(Fun.x T.F_refuse_long).ok gi (λ vs H Q E h=>vy _ h) (λ c A o s H vs Q E hr h=>?_)
 ·obtain⟨n,rfl,k1,k2⟩:=h;refine⟨_,%[%[%[qC,%[0|0],(@bV _ _ (.int 4096) _ _ ∅ T.m_MOST_TOLD.choose_spec ⟨_,rfl⟩ ⋯),(az _)|17],%[(@uA _ _ _ _ _ _ _ _ _ _ _ _ _ _ _ rfl ∅ T.m_TooMany T.oi_TooMany G_TooMany___init__ (hr.mono ⋯) T.b_TooMany___init__ (λ σ=>o1) %[%[0|0]|1] ∅ ∅ ⋯)|9],(@au _)|18]|9],?_⟩;rw [show ak ["count"] [.int n]=[some (.int n)] from rfl]
  by_cases hn:4096 < n
  ·have k2':=k2 hn;clear k1 k2;ac_rfl;exact E8 k2'
  ·have k1':=k1 %[0|8];clear k1 k2;ac_rfl
theorem aB.up{P:Program}{w:World}{K:W.Frag}{mg:Str->Option Value}{base:Heap}{CX:CXT}{k:Nat}{f:Addr}{fd:FuncData}{ps:List Str}{sp:Sp}(F:aB P w K mg base CX0 k f fd ps sp):aB P w K mg base CX k f fd ps sp:=
 ⟨F.len,λ A outer s H args us vs Q E hr he hb hv hs=>JK (F.run A outer s H args us vs Q E hr he hb hv hs) λ r s' h=>by
  cases r with
  | error e=>exact h.elim
  | ok c=>cases c<;>exact h⟩
theorem aB.both{P:Program}{w:World}{K:W.Frag}{mg:Str->Option Value}{base:Heap}{CX:CXT}{k:Nat}{f:Addr}{fd:FuncData}{ps:List Str}{sp sp' sp2:Sp}(F:aB P w K mg base CX k f fd ps sp)(F':aB P w K mg base CX k f fd ps sp')(h:∀ vs H Q E,sp2 vs H Q E->sp vs H Q E\/sp' vs H Q E):aB P w K mg base CX k f fd ps sp2:=
 ⟨λ vs H Q E q=>(h _ _ _ _ q).elim (F.len vs H Q E) (F'.len vs H Q E),λ A outer s H args us vs Q E hr he hb hv hs=>(h _ _ _ _ hs).elim (F.run A outer s H args us vs Q E hr he hb hv) (F'.run A outer s H args us vs Q E hr he hb hv)⟩
def VwN(C:Addr)(H:Hp)(x:Addr)(room n:Int):Prop:=∃ f A,aw C H x room f A/\dQ A/\af (A.map λ a=>a.1)=n
theorem VwN.ext{C:Addr}{H H':Hp}{x:Addr}{room n:Int}(h:VwN C H x room n)(e:Ext H H'):VwN C H' x room n:=by
 obtain⟨f,A,h1,h2⟩:=h;exact⟨f,A,h1.ext e,h2⟩
abbrev jb(CV cN:Addr)(v:Addr)(m:Int)(H:Hp)(Q:VK)(E:XK):Prop:=∃ (room n:Int),VwN CV H v room n/\n ≠ m/\∀ H',Ext H H'->E (.ref cN) none H'
def iK(CV cN:Addr):Sp:=λ vs H Q E=>∃ (v:Addr) (m:Int),vs=[.ref v,.int m]/\(jb CV cN v m H Q E)
theorem pF(CV cN:Addr)(v:Addr)(m:Int)(H:Hp)(Q:VK)(E:XK):iK CV cN [.ref v,.int m] H Q E=(jb CV cN v m H Q E):=jq (f:=λ (v:Addr) (m:Int)=>[.ref v,.int m]) (λ _ _ _ _ h=>by cases h;exact⟨rfl,rfl⟩) v m
theorem px(CV cN:Addr){vs:List V}{H:Hp}{Q:VK}{E:XK}(h:iK CV cN vs H Q E):vs.length=2:=js h λ _ _=>rfl
theorem ia(T:Tx K mg t):aB P w K mg base (CX1 P  w) 3 t.a_refuse_count t.d_refuse_count ["view", "many"] (iK t.a_View t.a_NoCount):=by
 have G_View_count:=%[aL|45];refine(Fun.x T.F_refuse_count).ok ff (λ vs H Q E h=>px _ _ h) (λ c A o s' H vs Q E hr h=>?_)
 ·obtain⟨v,m,rfl,room,n,⟨first,axs,vo,hax,hn⟩,hne,k⟩:=h;obtain⟨dy,D,hv,_⟩:=vo.ob
  have f3:=vn room first D (m := "count") nofun
  have c3:=T.cl_View;refine⟨_,%[%[%[(b9 hr.units),%[%[0|0],T.cl_View,T.mt_View_count,G_View_count,(hr.mono ⋯),T.b_View_count,.nil,aC,∅|26],%[1|0],(az _)|17],%[(@kU _ _ _ _ _ _ _ _ _ _ rfl ∅ T.m_NoCount ⟨T.o_NoCount⟩ (λ σ=>gI) %[(@b5 _ _ _ _)|1] ∅ ∅ ⋯)|9],(@au _)|18]|9],?_⟩;rw [show ak ["view", "many"] [.ref v,.int m]=[some (.ref v),some (.int m)] from rfl];clear G_View_count;ac_rfl;rw [bx];refine⟨room,first,axs,vo,hax,λ H1 e1=>?_⟩;rw [hn];have k1:=k H1 e1;clear k;ac_rfl
abbrev qk(CV cP cC:Addr)(u:Addr)(v:Addr)(H:Hp)(Q:VK)(E:XK):Prop:=∃ (r1 n1 r2 n2:Int),VwN CV H u r1 n1/\VwN CV H v r2 n2/\(r1 ≠ r2\/n1 ≠ n2)/\(r1 ≠ r2->∀ H',Ext H H'->E (.ref cP) none H')/\(r1=r2->∀ H',Ext H H'->E (.ref cC) none H')
def sG(CV cP cC:Addr):Sp:=λ vs H Q E=>∃ (u:Addr) (v:Addr),vs=[.ref u,.ref v]/\(qk CV cP cC u v H Q E)
theorem yL(CV cP cC:Addr)(u:Addr)(v:Addr)(H:Hp)(Q:VK)(E:XK):sG CV cP cC [.ref u,.ref v] H Q E=(qk CV cP cC u v H Q E):=jq (f:=λ (u:Addr) (v:Addr)=>[.ref u,.ref v]) (λ _ _ _ _ h=>by cases h;exact⟨rfl,rfl⟩) u v
theorem x9(CV cP cC:Addr){vs:List V}{H:Hp}{Q:VK}{E:XK}(h:sG CV cP cC vs H Q E):vs.length=2:=js h λ _ _=>rfl
theorem jD(T:Tx K mg t):aB P w K mg base (CX1 P  w) 4 t.a_refuse_two t.d_refuse_two ["one", "other"] (sG t.a_View t.a_NoPair t.a_NoCount):=by
 have G_refuse_rooms:=%[h9|45];have G_View_count:=%[aL|45];have G_refuse_count:=%[ia|45];refine(Fun.x T.F_refuse_two).ok gY (λ vs H Q E h=>x9 _ _ _ h) (λ c A o s H vs Q E hr h=>?_)
 ·obtain⟨u,v,rfl,r1,n1,r2,n2,vu,vv,hbad,kP,kC⟩:=h;obtain⟨f1,A1,vu',hA1,hn1⟩:=id vu;obtain⟨f2,A2,vv',hA2,hn2⟩:=id vv;obtain⟨dy,D2,hv,_⟩:=vv'.ob;have f3:=vn r2 f2 D2 (m := "count") nofun;have c1:=T.cl_View;refine⟨_,%[%[%[G_refuse_rooms,(hr.mono ⋯),∅,T.m_refuse_rooms,T.F_refuse_rooms.kp,T.b_refuse_rooms,.nil,ay,%[%[0|0],%[%[1|0]|1]|1],⋯,∅,∅|44],∅|15],%[%[%[G_refuse_count,(hr.mono ⋯),∅,T.m_refuse_count,T.F_refuse_count.kp,T.b_refuse_count,.nil,ay,%[%[0|0],%[%[%[1|0],T.cl_View,T.mt_View_count,G_View_count,(hr.mono ⋯),T.b_View_count,.nil,aC,∅|26]|1]|1],⋯,∅,∅|44],∅|15]|9]|10],?_⟩;rw [show ak ["one", "other"] [.ref u,.ref v]=[some (.ref u),some (.ref v)] from rfl];clear G_refuse_rooms G_View_count G_refuse_count;exists kP;exists kC;ac_rfl;rw [rK];refine⟨r1,r2,f1,f2,A1,A2,vu',vv',λ he=>?_,λ hne=>kP () hne⟩;have kc:=λ (_:Unit)=>kC () he;have hne:n1 ≠ n2:=hbad.elim (λ h=>absurd he h) id;clear kP kC hbad;ac_rfl;rw [bx];refine⟨r2,f2,A2,vv',hA2,λ H1 e1=>?_⟩;rw [hn2];ac_rfl;rw [pF];exact⟨r1,n1,vu.ext e1,hne,λ H' e'=>kc () H' (e1.trans e')⟩
abbrev nk(CV cP cC:Addr)(x:Addr)(u:Addr)(v:Addr)(H:Hp)(Q:VK)(E:XK):Prop:=∃ (r1 n1 r2 n2:Int),VwN CV H u r1 n1/\VwN CV H v r2 n2/\(r1 ≠ r2\/n1 ≠ n2)/\(r1 ≠ r2->∀ H',Ext H H'->E (.ref cP) none H')/\(r1=r2->∀ H',Ext H H'->E (.ref cC) none H')
def oR(CV cP cC:Addr):Sp:=λ vs H Q E=>∃ (x:Addr) (u:Addr) (v:Addr),vs=[.ref x,.ref u,.ref v]/\(nk CV cP cC x u v H Q E)
theorem wx(CV cP cC:Addr)(x:Addr)(u:Addr)(v:Addr)(H:Hp)(Q:VK)(E:XK):oR CV cP cC [.ref x,.ref u,.ref v] H Q E=(nk CV cP cC x u v H Q E):=rR (f:=λ (x:Addr) (u:Addr) (v:Addr)=>[.ref x,.ref u,.ref v]) (λ _ _ _ _ _ _ h=>by cases h;exact⟨rfl,rfl,rfl⟩) x u v
theorem vJ(CV cP cC:Addr){vs:List V}{H:Hp}{Q:VK}{E:XK}(h:oR CV cP cC vs H Q E):vs.length=3:=rS h λ _ _ _=>rfl
theorem gP(T:Tx K mg t):aB P w K mg base (CX1 P  w) 5 t.a_Copy___init__ t.d_Copy___init__ ["self", "to", "source"] (oR t.a_View t.a_NoPair t.a_NoCount):=by
 have G_refuse_two:=%[jD|45];refine(Fun.x T.F_Copy___init__).ok eL (λ vs H Q E h=>vJ _ _ _ h) (λ cdv A' outer s H vs Q E hr h=>?_)
 ·obtain⟨x,u,v,rfl,r1,n1,r2,n2,vu,vv,hbad,kP,kC⟩:=h;refine⟨_,%[%[%[G_refuse_two,(hr.mono ⋯),∅,T.m_refuse_two,T.F_refuse_two.kp,T.b_refuse_two,.nil,ay,%[%[1|0],%[%[2|0]|1]|1],⋯,∅,∅|44],∅|15],%[%[%[0|0],%[1|0],rfl|29],%[%[%[0|0],%[2|0],rfl|29]|9]|10]|10],?_⟩;rw [show ak ["self", "to", "source"] [.ref x,.ref u,.ref v]=[some (.ref x),some (.ref u),some (.ref v)] from rfl];clear G_refuse_two;ac_rfl;rw [yL];exact⟨r1,n1,r2,n2,vu,vv,hbad,kP,kC⟩
abbrev mY(CS CV cV:Addr)(s:Addr)(v:Addr)(H:Hp)(Q:VK)(E:XK):Prop:=∃ (l:Addr) (vals:List Int) (room n:Int),aN CS H s l vals/\VwN CV H v room n/\(room=vals.length->Q .non H)/\(room ≠ vals.length->∀ H',Ext H H'->E (.ref cV) none H')
def oF(CS CV cV:Addr):Sp:=λ vs H Q E=>∃ (s:Addr) (v:Addr),vs=[.ref s,.ref v]/\(mY CS CV cV s v H Q E)
theorem fY(CS CV cV:Addr)(s:Addr)(v:Addr)(H:Hp)(Q:VK)(E:XK):oF CS CV cV [.ref s,.ref v] H Q E=(mY CS CV cV s v H Q E):=jq (f:=λ (s:Addr) (v:Addr)=>[.ref s,.ref v]) (λ _ _ _ _ h=>by cases h;exact⟨rfl,rfl⟩) s v
theorem vq(CS CV cV:Addr){vs:List V}{H:Hp}{Q:VK}{E:XK}(h:oF CS CV cV vs H Q E):vs.length=2:=js h λ _ _=>rfl
theorem bp(T:Tx K mg t):aB P w K mg base (CX1 P  w) 1 t.a_Store_refuse_room t.d_Store_refuse_room ["self", "view"] (oF t.a_Store t.a_View t.a_NoView):=by
 refine(Fun.x T.F_Store_refuse_room).ok cv (λ vs H Q E h=>vq _ _ _ h) (λ c A o s' H vs Q E hr h=>?_)
 ·obtain⟨s,v,rfl,l,vals,room,n,so,⟨first,axs,vo,_⟩,kQ,kE⟩:=h;obtain⟨dx,hs⟩:=so.ob;obtain⟨dy,D,hv,_⟩:=vo.ob;have hfl:=so.fl;have c1:=T.cl_Store;have c2:=T.na_Store_floor;have c3:=T.cl_View;have c4:=T.na_View_room;have f1:=aK l
  have f2:=bK room first D
  refine⟨_,%[%[%[(b9 hr.units),%[%[1|0],rfl|13],%[len,bg,%[%[%[0|0],rfl|13]|1]|6],(az _)|17],%[(@kU _ _ _ _ _ _ _ _ _ _ rfl ∅ T.m_NoView ⟨T.o_NoView⟩ (λ σ=>gI) %[(@b5 _ _ _ _)|1] ∅ ∅ ⋯)|9],(@au _)|18]|9],?_⟩;rw [show ak ["self", "view"] [.ref s,.ref v]=[some (.ref s),some (.ref v)] from rfl]
  by_cases he:room=(vals.length:Int)
  ·have k':=kQ he;subst he;clear kQ kE;ac_rfl
  ·have k':=kE he H (Ext.refl _);clear kQ kE;ac_rfl
abbrev km(C cT:Addr)(v:Addr)(H:Hp)(Q:VK)(E:XK):Prop:=∃ (room n:Int),VwN C H v room n/\4096 < n/\∀ dx H',Ext H H'->H' dx=some (.xd [("number",.int n)])->E (.ref cT) (some dx) H'
def kS(C cT:Addr):Sp:=λ vs H Q E=>∃ (v:Addr),vs=[.ref v]/\(km C cT v H Q E)
theorem j6(C cT:Addr)(v:Addr)(H:Hp)(Q:VK)(E:XK):kS C cT [.ref v] H Q E=(km C cT v H Q E):=lS (f:=λ (v:Addr)=>[.ref v]) (λ _ _ h=>by cases h;exact rfl) v
theorem rC(C cT:Addr){vs:List V}{H:Hp}{Q:VK}{E:XK}(h:kS C cT vs H Q E):vs.length=1:=jt h λ _=>rfl
theorem eZ(T:Tx K mg t):aB P w K mg base (CX1 P  w) 4 t.a_View_cells t.d_View_cells ["self"] (kS t.a_View t.a_TooMany):=by
 have G_View_count:=%[aL|45];have G_refuse_long:=%[jj|45];have G_widened:=%[jT|45];refine(Fun.x T.F_View_cells).ok aG (λ vs H Q E h=>rC _ _ h) (λ c A o s H vs Q E hr h=>?_)
 ·obtain⟨v,rfl,room,n,⟨first,axs,vo,hax,hn⟩,hbig,k⟩:=h;obtain⟨dx,l,hv,_⟩:=vo.ob;have c1:=T.cl_View;have c2:=T.na_View_first;have c3:=T.na_View_axes
  have f3:=vn room first l (m := "count") nofun
  refine⟨_,%[%[%[G_refuse_long,(hr.mono ⋯),∅,T.m_refuse_long,T.F_refuse_long.kp,T.b_refuse_long,.nil,ay,%[%[%[0|0],T.cl_View,T.mt_View_count,G_View_count,(hr.mono ⋯),T.b_View_count,.nil,aC,∅|26]|1],⋯,∅,∅|44],∅|15],%[%[1,aG,%[%[%[%[0|0],rfl|13]|1]|14]|4],%[%[PassesOwn.leaving,rfl,%[%[%[0|0],rfl|13]|22],(%[(2),rfl,%[%[2,aG|5],%[%[3,aG|5],(@aJ _),∅|16],∅|16],∅,∅|25].mono λ _ _ _ _ h=>bP h),%[%[1,aG,%[widened,%[%[1|0],%[%[2|0],%[%[3|0]|1]|1]|1]|3]|4]|9],(by intros;rfl)|23],%[%[%[1|0]|11]|9]|10]|10]|10],?_⟩;rw [show ak ["self", "found", "size", "pace"] [.ref v]=[some (.ref v),none,none,none] from rfl];clear G_View_count G_refuse_long G_widened;exists k;ac_rfl;rw [bx];refine⟨room,first,axs,vo,hax,λ H1 e1=>?_⟩;rw [hn];ac_rfl;rw [we];exact⟨λ h=>absurd h %[0|8],λ _ dx H' e' h'=>k () dx H' (e1.trans e') h'⟩
abbrev mZ(CS CV cV cT:Addr)(s:Addr)(v:Addr)(H:Hp)(Q:VK)(E:XK):Prop:=∃ (l:Addr) (vals:List Int) (room n:Int),aN CS H s l vals/\VwN CV H v room n/\(room ≠ vals.length\/4096 < n)/\(room ≠ vals.length->∀ H',Ext H H'->E (.ref cV) none H')/\(room=vals.length->∀ dx H',Ext H H'->H' dx=some (.xd [("number",.int n)])->E (.ref cT) (some dx) H')
def oG(CS CV cV cT:Addr):Sp:=λ vs H Q E=>∃ (s:Addr) (v:Addr),vs=[.ref s,.ref v]/\(mZ CS CV cV cT s v H Q E)
theorem iW(CS CV cV cT:Addr)(s:Addr)(v:Addr)(H:Hp)(Q:VK)(E:XK):oG CS CV cV cT [.ref s,.ref v] H Q E=(mZ CS CV cV cT s v H Q E):=jq (f:=λ (s:Addr) (v:Addr)=>[.ref s,.ref v]) (λ _ _ _ _ h=>by cases h;exact⟨rfl,rfl⟩) s v
theorem vt(CS CV cV cT:Addr){vs:List V}{H:Hp}{Q:VK}{E:XK}(h:oG CS CV cV cT vs H Q E):vs.length=2:=js h λ _ _=>rfl
theorem cS(T:Tx K mg t):aB P w K mg base (CX1 P  w) 5 t.a_Store_read t.d_Store_read ["self", "view"] (oG t.a_Store t.a_View t.a_NoView t.a_TooMany):=by
 have G_Store_refuse_room:=%[bp|45];have G_View_cells:=%[eZ|45];refine(Fun.x T.F_Store_read).ok gZ (λ vs H Q E h=>vt _ _ _ _ h) (λ c A o s' H vs Q E hr h=>?_)
 ·obtain⟨s,v,rfl,l,vals,room,n,so,vv,hbad,kV,kT⟩:=h;obtain⟨dx,hs⟩:=so.ob;have hfl:=so.fl;have c1:=T.cl_Store;have c2:=T.na_Store_floor;have f1:=aK l;have m1:=ar l (m := "refuse_room") nofun;have m2:=ar l (m := "read") nofun;have m3:=ar l (m := "put") nofun;obtain⟨f0,A0,vo,hA0,hn0⟩:=id vv;obtain⟨dy,D,hv,_⟩:=vo.ob;have c3:=T.cl_View;have f2:=vn room f0 D (m := "cells") nofun;have f3:=vn room f0 D (m := "count") nofun;refine⟨_,%[%[%[%[0|0],T.cl_Store,T.mt_Store_refuse_room,G_Store_refuse_room,(hr.mono ⋯),T.b_Store_refuse_room,.nil,ay,%[%[1|0]|1],∅,∅,∅|20],∅|15],%[%[%[(["cell", "self", "view"]),(1),(bu (aa bS) ["self", "view"] rfl rfl nofun),rfl,%[%[%[1|0],T.cl_View,T.mt_View_cells,G_View_cells,(hr.mono ⋯),T.b_View_cells,.nil,ay,∅|26]|22],(λ C s₀ H₀ ex pn=>%[(0),_,(show List.Nodup (["cell", "self", "view"]:List Str) from by decide +kernel),rfl,(Or.inl rfl),%[0|7]|21]),(λ C s₀ H₀ ex pn=>(@bB _)),(λ C s₀ H₀ ex pn=>%[eV,(@pZ _ _ _ _ _ (K) rfl %[1|0] rfl),%[0|0],(λ _ _=>rfl)|19]),(by intros;rfl)|28]|11]|9]|10],?_⟩;rw [show ak ["self", "view"] [.ref s,.ref v]=[some (.ref s),some (.ref v)] from rfl];clear G_Store_refuse_room G_View_cells;exists kV;exists kT;ac_rfl;rw [fY];refine⟨l,vals,room,n,so,vv,λ he=>?_,λ hne=>kV () hne⟩;have kt:=λ (_:Unit)=>kT () he;have hbig:4096 < n:=hbad.elim (λ h=>absurd he h) id;exists he;clear kV kT hbad;ac_rfl;rw [j6];exact⟨room,n,vv,hbig,kt ()⟩
abbrev nh(CS CV cV cT:Addr)(s:Addr)(v:Addr)(z:V)(H:Hp)(Q:VK)(E:XK):Prop:=∃ (l:Addr) (vals:List Int) (room n:Int),aN CS H s l vals/\VwN CV H v room n/\(room ≠ vals.length\/4096 < n)/\(room ≠ vals.length->∀ H',Ext H H'->E (.ref cV) none H')/\(room=vals.length->∀ dx H',Ext H H'->H' dx=some (.xd [("number",.int n)])->E (.ref cT) (some dx) H')
def oM(CS CV cV cT:Addr):Sp:=λ vs H Q E=>∃ (s:Addr) (v:Addr) (z:V),vs=[.ref s,.ref v,z]/\(nh CS CV cV cT s v z H Q E)
theorem wm(CS CV cV cT:Addr)(s:Addr)(v:Addr)(z:V)(H:Hp)(Q:VK)(E:XK):oM CS CV cV cT [.ref s,.ref v,z] H Q E=(nh CS CV cV cT s v z H Q E):=rR (f:=λ (s:Addr) (v:Addr) (z:V)=>[.ref s,.ref v,z]) (λ _ _ _ _ _ _ h=>by cases h;exact⟨rfl,rfl,rfl⟩) s v z
theorem vF(CS CV cV cT:Addr){vs:List V}{H:Hp}{Q:VK}{E:XK}(h:oM CS CV cV cT vs H Q E):vs.length=3:=rS h λ _ _ _=>rfl
theorem jE(T:Tx K mg t):aB P w K mg base (CX1 P  w) 5 t.a_Store_fill t.d_Store_fill ["self", "view", "value"] (oM t.a_Store t.a_View t.a_NoView t.a_TooMany):=by
 have G_Store_refuse_room:=%[bp|45];have G_View_cells:=%[eZ|45];refine(Fun.x T.F_Store_fill).ok cF (λ vs H Q E h=>vF _ _ _ _ h) (λ c A o s' H vs Q E hr h=>?_)
 ·obtain⟨s,v,z,rfl,l,vals,room,n,so,vv,hbad,kV,kT⟩:=h;obtain⟨dx,hs⟩:=so.ob;have hfl:=so.fl;have c1:=T.cl_Store;have c2:=T.na_Store_floor;have f1:=aK l;have m1:=ar l (m := "refuse_room") nofun;have m2:=ar l (m := "read") nofun;have m3:=ar l (m := "put") nofun;obtain⟨f0,A0,vo,hA0,hn0⟩:=id vv;obtain⟨dy,D,hv,_⟩:=vo.ob;have c3:=T.cl_View;have f2:=vn room f0 D (m := "cells") nofun;have f3:=vn room f0 D (m := "count") nofun;refine⟨_,%[%[%[%[0|0],T.cl_Store,T.mt_Store_refuse_room,G_Store_refuse_room,(hr.mono ⋯),T.b_Store_refuse_room,.nil,ay,%[%[1|0]|1],∅,∅,∅|20],∅|15],%[%[PassesOwn.leaving,rfl,%[%[%[1|0],T.cl_View,T.mt_View_cells,G_View_cells,(hr.mono ⋯),T.b_View_cells,.nil,ay,∅|26]|22],%[3,cF|5],%[%[%[2|0],(@jK _ _ _ _ _ _ _ %[%[0|0],rfl|13] %[3|0] eN (by intros;rfl)),∅,∅,∅|37]|9],(by intros;rfl)|23]|9]|10],?_⟩;rw [show ak ["self", "view", "value", "cell"] [.ref s,.ref v,z]=[some (.ref s),some (.ref v),some (z),none] from rfl];clear G_Store_refuse_room G_View_cells;exists kV;exists kT;ac_rfl;rw [fY];refine⟨l,vals,room,n,so,vv,λ he=>?_,λ hne=>kV () hne⟩;have kt:=λ (_:Unit)=>kT () he;have hbig:4096 < n:=hbad.elim (λ h=>absurd he h) id;exists he;clear kV kT hbad;ac_rfl;rw [j6];exact⟨room,n,vv,hbig,kt ()⟩
abbrev jc(CS CV cV cT:Addr)(s:Addr)(v:Addr)(H:Hp)(Q:VK)(E:XK):Prop:=∃ (l:Addr) (vals:List Int) (room n:Int),aN CS H s l vals/\VwN CV H v room n/\(room ≠ vals.length\/4096 < n)/\(room ≠ vals.length->∀ H',Ext H H'->E (.ref cV) none H')/\(room=vals.length->∀ dx H',Ext H H'->H' dx=some (.xd [("number",.int n)])->E (.ref cT) (some dx) H')
def iL(CS CV cV cT:Addr):Sp:=λ vs H Q E=>∃ (s:Addr) (v:Addr),vs=[.ref s,.ref v,.ref v]/\(jc CS CV cV cT s v H Q E)
theorem pG(CS CV cV cT:Addr)(s:Addr)(v:Addr)(H:Hp)(Q:VK)(E:XK):iL CS CV cV cT [.ref s,.ref v,.ref v] H Q E=(jc CS CV cV cT s v H Q E):=jq (f:=λ (s:Addr) (v:Addr)=>[.ref s,.ref v,.ref v]) (λ _ _ _ _ h=>by cases h;exact⟨rfl,rfl⟩) s v
theorem pz(CS CV cV cT:Addr){vs:List V}{H:Hp}{Q:VK}{E:XK}(h:iL CS CV cV cT vs H Q E):vs.length=3:=js h λ _ _=>rfl
theorem ib(T:Tx K mg t):aB P w K mg base (CX1 P  w) 6 t.a_Store_copied t.d_Store_copied ["self", "to", "source"] (iL t.a_Store t.a_View t.a_NoView t.a_TooMany):=by
 have G_Store_refuse_room:=%[bp|45];have G_View_count:=%[aL|45];have G_refuse_count:=%[bF|45];have G_Store_read:=%[cS|45];have G_Store_put:=%[bz|45];refine(Fun.x T.F_Store_copied).ok fg (λ vs H Q E h=>pz _ _ _ _ h) (λ c A o s' H vs Q E hr h=>?_)
 ·obtain⟨s,v,rfl,l,vals,room,n,so,vv,hbad,kV,kT⟩:=h;obtain⟨dx,hs⟩:=so.ob;have hfl:=so.fl;have c1:=T.cl_Store;have c2:=T.na_Store_floor;have f1:=aK l;have m1:=ar l (m := "refuse_room") nofun;have m2:=ar l (m := "read") nofun;have m3:=ar l (m := "put") nofun;obtain⟨f0,A0,vo,hA0,hn0⟩:=id vv;obtain⟨dy,D,hv,_⟩:=vo.ob;have c3:=T.cl_View;have f2:=vn room f0 D (m := "cells") nofun;have f3:=vn room f0 D (m := "count") nofun;refine⟨_,%[%[%[%[0|0],T.cl_Store,T.mt_Store_refuse_room,G_Store_refuse_room,(hr.mono ⋯),T.b_Store_refuse_room,.nil,ay,%[%[1|0]|1],∅,∅,∅|20],∅|15],%[%[%[%[0|0],T.cl_Store,T.mt_Store_refuse_room,G_Store_refuse_room,(hr.mono ⋯),T.b_Store_refuse_room,.nil,ay,%[%[2|0]|1],∅,∅,∅|20],∅|15],%[%[%[refuse_count,%[%[1|0],%[%[%[2|0],T.cl_View,T.mt_View_count,G_View_count,(hr.mono ⋯),T.b_View_count,.nil,aC,∅|26]|1]|1]|3],∅|15],%[%[%[%[0|0],T.cl_Store,T.mt_Store_put,G_Store_put,(hr.mono ⋯),T.b_Store_put,.nil,aC,%[%[1|0],%[%[%[0|0],T.cl_Store,T.mt_Store_read,G_Store_read,(hr.mono ⋯),T.b_Store_read,.nil,ay,%[%[2|0]|1],∅,∅,∅|20]|1]|1],∅,∅,∅|20],∅|15]|9]|10]|10]|10],?_⟩;rw [show ak ["self", "to", "source"] [.ref s,.ref v,.ref v]=[some (.ref s),some (.ref v),some (.ref v)] from rfl];clear G_Store_refuse_room G_View_count G_refuse_count G_Store_read G_Store_put;exists kV;exists kT;ac_rfl;rw [fY];refine⟨l,vals,room,n,so,vv,λ he=>?_,λ hne=>kV () hne⟩;have kt:=λ (_:Unit)=>kT () he;have hbig:4096 < n:=hbad.elim (λ h=>absurd he h) id;exists he;clear kV kT hbad;ac_rfl;rw [fY];refine⟨l,vals,room,n,so,vv,λ hq=>?_,λ hne=>absurd (he ()) hne⟩;clear hq;ac_rfl;rw [bx];refine⟨room,f0,A0,vo,hA0,λ H1 e1=>?_⟩;ac_rfl;rw [eS];refine⟨room,f0,A0,vo.ext e1,hA0,hn0.symm,λ H2 e2=>?_⟩;have e02:=e1.trans e2;obtain⟨dx2,hs2⟩:=(so.ext e02).ob;clear hs;ac_rfl;rw [iW];exact⟨l,vals,room,n,so.ext e02,vv.ext e02,.inr hbig,λ hne=>absurd (he ()) hne,λ _ dx H' e' h'=>kt () dx H' (e02.trans e') h'⟩
abbrev qm(t:Adr)(i:Nat)(s:Addr)(st:Addr)(H:Hp)(Q:VK)(E:XK):Prop:=∃ (u dx l:Addr) (x:V) (vals:List Int) (room n:Int),1<=i/\H s=some (.ins (oh t i) dx (rW i u u x))/\aN t.a_Store H st l vals/\VwN t.a_View H u room n/\(room ≠ vals.length\/4096 < n)/\(room ≠ vals.length->∀ H',Ext H H'->E (.ref t.a_NoView) none H')/\(room=vals.length->∀ dx H',Ext H H'->H' dx=some (.xd [("number",.int n)])->E (.ref t.a_TooMany) (some dx) H')
def gR(t:Adr)(i:Nat):Sp:=λ vs H Q E=>∃ (s:Addr) (st:Addr),vs=[.ref s,.ref st]/\(qm t i s st H Q E)
theorem yN(t:Adr)(i:Nat)(s:Addr)(st:Addr)(H:Hp)(Q:VK)(E:XK):gR t i [.ref s,.ref st] H Q E=(qm t i s st H Q E):=jq (f:=λ (s:Addr) (st:Addr)=>[.ref s,.ref st]) (λ _ _ _ _ h=>by cases h;exact⟨rfl,rfl⟩) s st
theorem fS(t:Adr)(i:Nat){vs:List V}{H:Hp}{Q:VK}{E:XK}(h:gR t i vs H Q E):vs.length=2:=js h λ _ _=>rfl
theorem gO(T:Tx K mg t):aB P w K mg base (CX1 P  w) 7 t.a_Statement_run t.d_Statement_run ["self", "store"] (gR t 0):=by
 refine(Fun.x T.F_Statement_run).ok eK (λ vs H Q E h=>fS _ _ h) (λ cdv A outer s0 H vs Q E hr h=>?_)
 ·obtain⟨s,st,rfl,u,dx,l,x,vals,room,n,h1,_⟩:=h;exact absurd h1 ⋯
theorem nF(T:Tx K mg t):aB P w K mg base (CX1 P  w) 7 t.a_Fill_run t.d_Fill_run ["self", "store"] (gR t 1):=by
 have G_Store_fill:=%[jE|45];refine(Fun.x T.F_Fill_run).ok j7 (λ vs H Q E h=>fS _ _ h) (λ cdv A outer s0 H vs Q E hr h=>?_)
 ·obtain⟨s,st,rfl,u,dx,l,x,vals,room,n,_,hs,so,vv,hbad,kV,kT⟩:=h;have hs':H s=some (.ins t.a_Fill dx [("to",V.ref u),("value",x)]):=hs;obtain⟨ds,hst⟩:=so.ob;have m1:=ar l (m := "fill") nofun;have c8:=T.cl_Fill;have c9:=T.cl_Store;have c0:=T.na_Fill_to;have l0:([("to",V.ref u),("value",x)]:List (Str × V)).lookup (Str.ofString "to")=some (V.ref u):=by rfl
  have c1:=T.na_Fill_value;have l1:([("to",V.ref u),("value",x)]:List (Str × V)).lookup (Str.ofString "value")=some (x):=by rfl
  refine⟨_,%[%[%[%[1|0],T.cl_Store,T.mt_Store_fill,G_Store_fill,(hr.mono ⋯),T.b_Store_fill,.nil,ay,%[%[%[0|0],rfl|13],%[%[%[0|0],rfl|13]|1]|1],∅,∅,∅|20],∅|15]|9],?_⟩;rw [show ak ["self", "store"] [.ref s,.ref st]=[some (.ref s),some (.ref st)] from rfl];clear G_Store_fill hs;ac_rfl;rw [wm];exact⟨l,vals,room,n,so,vv,hbad,kV,kT⟩
theorem nG(T:Tx K mg t):aB P w K mg base (CX1 P  w) 7 t.a_Copy_run t.d_Copy_run ["self", "store"] (gR t 2):=by
 have G_Store_copied:=%[ib|45];refine(Fun.x T.F_Copy_run).ok j8 (λ vs H Q E h=>fS _ _ h) (λ cdv A outer s0 H vs Q E hr h=>?_)
 ·obtain⟨s,st,rfl,u,dx,l,x,vals,room,n,_,hs,so,vv,hbad,kV,kT⟩:=h;have hs':H s=some (.ins t.a_Copy dx [("to",V.ref u),("source",V.ref u)]):=hs;obtain⟨ds,hst⟩:=so.ob;have m1:=ar l (m := "copied") nofun;have c8:=T.cl_Copy;have c9:=T.cl_Store;have c0:=T.na_Copy_to;have l0:([("to",V.ref u),("source",V.ref u)]:List (Str × V)).lookup (Str.ofString "to")=some (V.ref u):=by rfl
  have c1:=T.na_Copy_source;have l1:([("to",V.ref u),("source",V.ref u)]:List (Str × V)).lookup (Str.ofString "source")=some (V.ref u):=by rfl
  refine⟨_,%[%[%[%[1|0],T.cl_Store,T.mt_Store_copied,G_Store_copied,(hr.mono ⋯),T.b_Store_copied,.nil,ay,%[%[%[0|0],rfl|13],%[%[%[0|0],rfl|13]|1]|1],∅,∅,∅|20],∅|15]|9],?_⟩;rw [show ak ["self", "store"] [.ref s,.ref st]=[some (.ref s),some (.ref st)] from rfl];clear G_Store_copied hs;ac_rfl;rw [pG];exact⟨l,vals,room,n,so,vv,hbad,kV,kT⟩
theorem nE(T:Tx K mg t):aB P w K mg base (CX1 P  w) 7 t.a_Swap_run t.d_Swap_run ["self", "store"] (gR t 3):=by
 have G_Store_read:=%[cS|45];have G_Store_put:=%[bz|45];refine(Fun.x T.F_Swap_run).ok b8 (λ vs H Q E h=>fS _ _ h) (λ cdv A outer s0 H vs Q E hr h=>?_)
 ·obtain⟨s,st,rfl,u,dx,l,x,vals,room,n,_,hs,so,vv,hbad,kV,kT⟩:=h;have hs':H s=some (.ins t.a_Swap dx [("one",V.ref u),("other",V.ref u)]):=hs;obtain⟨ds,hst⟩:=so.ob;have m1:=ar l (m := "read") nofun;have c8:=T.cl_Swap;have c9:=T.cl_Store;have c0:=T.na_Swap_one;have l0:([("one",V.ref u),("other",V.ref u)]:List (Str × V)).lookup (Str.ofString "one")=some (V.ref u):=by rfl
  refine⟨_,%[%[2,b8,%[%[1|0],T.cl_Store,T.mt_Store_read,G_Store_read,(hr.mono ⋯),T.b_Store_read,.nil,ay,%[%[%[0|0],rfl|13]|1],∅,∅,∅|20]|4],%[%[3,b8,%[%[1|0],T.cl_Store,T.mt_Store_read,G_Store_read,(hr.mono ⋯),T.b_Store_read,.nil,ay,%[%[%[0|0],rfl|13]|1],∅,∅,∅|20]|4],%[%[%[%[1|0],T.cl_Store,T.mt_Store_put,G_Store_put,(hr.mono ⋯),T.b_Store_put,.nil,aC,%[%[%[0|0],rfl|13],%[%[3|0]|1]|1],∅,∅,∅|20],∅|15],%[%[%[%[1|0],T.cl_Store,T.mt_Store_put,G_Store_put,(hr.mono ⋯),T.b_Store_put,.nil,aC,%[%[%[0|0],rfl|13],%[%[2|0]|1]|1],∅,∅,∅|20],∅|15]|9]|10]|10]|10],?_⟩;rw [show ak ["self", "store", "ours", "theirs"] [.ref s,.ref st]=[some (.ref s),some (.ref st),none,none] from rfl];clear G_Store_read G_Store_put hs;ac_rfl;rw [iW];exact⟨l,vals,room,n,so,vv,hbad,kV,kT⟩
theorem lF(T:Tx K mg t):aB P w K mg base (CX1 P  w) 7 t.a_Raise_run t.d_Raise_run ["self", "store"] (gR t 4):=by
 have G_Store_read:=%[cS|45];have G_Store_put:=%[bz|45];refine(Fun.x T.F_Raise_run).ok dE (λ vs H Q E h=>fS _ _ h) (λ cdv A outer s0 H vs Q E hr h=>?_)
 ·obtain⟨s,st,rfl,u,dx,l,x,vals,room,n,_,hs,so,vv,hbad,kV,kT⟩:=h;have hs':H s=some (.ins t.a_Raise dx [("to",V.ref u),("source",V.ref u)]):=hs;obtain⟨ds,hst⟩:=so.ob;have m1:=ar l (m := "read") nofun;have c8:=T.cl_Raise;have c9:=T.cl_Store;have c0:=T.na_Raise_source;have l0:([("to",V.ref u),("source",V.ref u)]:List (Str × V)).lookup (Str.ofString "source")=some (V.ref u):=by rfl
  refine⟨_,%[%[2,dE,%[%[1|0],T.cl_Store,T.mt_Store_read,G_Store_read,(hr.mono ⋯),T.b_Store_read,.nil,ay,%[%[%[0|0],rfl|13]|1],∅,∅,∅|20]|4],%[%[%[%[1|0],T.cl_Store,T.mt_Store_put,G_Store_put,(hr.mono ⋯),T.b_Store_put,.nil,aC,%[%[%[0|0],rfl|13],%[%[(["value", "other", "self", "store", "more"]),(2),(bu (aa cf) ["self", "store", "more"] rfl rfl nofun),rfl,%[∅,T.z_zip,%[%[%[1|0],T.cl_Store,T.mt_Store_read,G_Store_read,(hr.mono ⋯),T.b_Store_read,.nil,ay,%[%[%[0|0],rfl|13]|1],∅,∅,∅|20],%[%[2|0]|1]|1],∅,∅|42],(λ C s₀ H₀ ex pn=>(%[(2),rfl,%[%[(0),_,(show List.Nodup (["value", "other", "self", "store", "more"]:List Str) from by decide +kernel),rfl,(Or.inl rfl),%[0|7]|21],%[%[(1),_,(show List.Nodup (["value", "other", "self", "store", "more"]:List Str) from by decide +kernel),rfl,(Or.inl rfl),%[0|7]|21],(@aJ _),∅|16],∅|16],∅,∅|25].mono λ _ _ _ _ h=>bP h)),(λ C s₀ H₀ ex pn=>(@bB _)),(λ C s₀ H₀ ex pn=>%[bb,%[0|0],%[1|0]|12]),(by intros;rfl)|28]|1]|1],∅,∅,∅|20],∅|15]|9]|10],?_⟩;rw [show ak ["self", "store", "more"] [.ref s,.ref st]=[some (.ref s),some (.ref st),none] from rfl];clear G_Store_read G_Store_put hs;ac_rfl;rw [iW];exact⟨l,vals,room,n,so,vv,hbad,kV,kT⟩
theorem MDB{P:Program}{w:World}{K:W.Frag}{mg:Str->Option Value}{base:Heap}{t:Adr}(T:Tx K mg t):∀ i,i < 5->MD P w K mg base (CX1 P  w) 7 "run" (oh t i) (gR t i)
 | 0,_=>⟨T.cl_Statement,_,_,_,T.mt_Statement_run,gO T,T.b_Statement_run⟩
 | 1,_=>⟨T.cl_Fill,_,_,_,T.mt_Fill_run,nF T,T.b_Fill_run⟩
 | 2,_=>⟨T.cl_Copy,_,_,_,T.mt_Copy_run,nG T,T.b_Copy_run⟩
 | 3,_=>⟨T.cl_Swap,_,_,_,T.mt_Swap_run,nE T,T.b_Swap_run⟩
 | 4,_=>⟨T.cl_Raise,_,_,_,T.mt_Raise_run,lF T,T.b_Raise_run⟩
 | n+5,h=>absurd h %[0|8]
def ViZ(C:Addr)(l:Addr)(H:Hp)(u:Addr)(room f:Int)(A:List (Int × Int)):Prop:=∃ dx D,H u=some (.ins C dx (cX room f D))/\D ≠ l/\aO H D (axL A)
theorem ViZ.at{C l:Addr}{H:Hp}{u:Addr}{room f:Int}{A:List (Int × Int)}(h:ViZ C l H u room f A):aw C H u room f A:=by
 obtain⟨dx,D,h1,_,h3⟩:=h;exact⟨dx,D,h1,h3⟩
theorem ViZ.ext{C l:Addr}{H H':Hp}{u:Addr}{room f:Int}{A:List (Int × Int)}(h:ViZ C l H u room f A)(e:Ext H H'):ViZ C l H' u room f A:=by
 obtain⟨dx,D,h1,h2,h3⟩:=h;exact⟨dx,D,e.at h1,h2,h3.ext e⟩
def KpL(l:Addr)(H H':Hp):Prop:=∀ b o,b ≠ l->H b=some o->H' b=some o
theorem KpL.trans{l:Addr}{H H' H'':Hp}(h:KpL l H H')(h':KpL l H' H''):KpL l H H'':=λ b o hb q=>h' b o hb (h b o hb q)
theorem Ext.kp{l:Addr}{H H':Hp}(h:Ext H H'):KpL l H H':=λ _ _ _ q=>h.at q
theorem ViZ.kp{C l:Addr}{H H':Hp}{u:Addr}{room f:Int}{A:List (Int × Int)}{xs:List V}(h:ViZ C l H u room f A)(hl:H l=some (.lst xs))(k:KpL l H H'):ViZ C l H' u room f A:=by
 obtain⟨dx,D,h1,h2,ys,h3,h4⟩:=h;exact⟨dx,D,k _ _ (λ e=>by rw [e,hl] at h1;cases h1) h1,h2,ys,k _ _ h2 h3,h4.imp λ _ _ ⟨q,a1,a2⟩=>⟨q,a1,k _ _ (λ e=>by rw [e,hl] at a2;cases a2) a2⟩⟩
def CC(i:Nat)(vals c1 c2:List Int)(z:Int):List Int:=match i with
 | 0=>vals
 | 1=>hG vals c1 z
 | 2=>dY vals c1 (aM vals c2)
 | 3=>dY (dY vals c1 (aM vals c2)) c2 (aM vals c1)
 | _=>dY vals c1 (List.zipWith (· + ·) (aM vals c1) (aM vals c2))
structure Fx(CV l:Addr)(H:Hp)(u:Addr)(vals:List Int)(f:Int)(A:List (Int × Int)):Prop where
 v:ViZ CV l H u vals.length f A
 ax:dQ A
 pr:af (A.map λ a=>a.1)<=4096
 on:bW (aj f A) vals.length
abbrev uo(t:Adr)(i:Nat)(s:Addr)(st:Addr)(H:Hp)(Q:VK)(E:XK):Prop:=∃ (u v dx l:Addr) (z:Int) (vals:List Int) (f1:Int) (A1:List (Int × Int)) (f2:Int) (A2:List (Int × Int)),H s=some (.ins (oh t i) dx (rW i u v (.int z)))/\aN t.a_Store H st l vals/\vals.length<=4096/\Fx t.a_View l H u vals f1 A1/\Fx t.a_View l H v vals f2 A2/\af (A2.map λ a=>a.1)=af (A1.map λ a=>a.1)/\∀ H',(∀ H0,Ext H0 H->H0 l=none->Ext H0 H')->KpL l H H'->H' l=some (.lst ((CC i vals (aj f1 A1) (aj f2 A2) z).map V.int))->Q .non H'
def lW(t:Adr)(i:Nat):Sp:=λ vs H Q E=>∃ (s:Addr) (st:Addr),vs=[.ref s,.ref st]/\(uo t i s st H Q E)
theorem Cu(t:Adr)(i:Nat)(s:Addr)(st:Addr)(H:Hp)(Q:VK)(E:XK):lW t i [.ref s,.ref st] H Q E=(uo t i s st H Q E):=jq (f:=λ (s:Addr) (st:Addr)=>[.ref s,.ref st]) (λ _ _ _ _ h=>by cases h;exact⟨rfl,rfl⟩) s st
theorem iF(t:Adr)(i:Nat){vs:List V}{H:Hp}{Q:VK}{E:XK}(h:lW t i vs H Q E):vs.length=2:=js h λ _ _=>rfl
theorem hV(T:Tx K mg t):aB P w K mg base CX0 7 t.a_Statement_run t.d_Statement_run ["self", "store"] (lW t 0):=by
 refine T.F_Statement_run.ok eK (λ vs H Q E h=>iF _ _ h) (λ cdv A outer s0 H vs Q E hr h=>?_)
 ·obtain⟨s,st,rfl,u,v,dx,l,z,vals,f1,A1,f2,A2,hs,so,hv,w1,w2,hpe,k⟩:=h;refine⟨_,%[(@AL _ _)|9],?_⟩;rw [show ak ["self", "store"] [.ref s,.ref st]=[some (.ref s),some (.ref st)] from rfl];have k2:=k H (λ _ e _=>e) (λ _ _ _ q=>q) so.fl;clear k hs;ac_rfl
theorem za:∀ a b:List Int,List.zipWith (· + ·) a b=(a.zip b).map λ z=>z.1+z.2
 | [],_=>rfl
 | _::_,[]=>rfl
 | x::a,y::b=>by
  show (x+y)::List.zipWith (· + ·) a b=(x+y)::(a.zip b).map λ z=>z.1+z.2
  rw [za a b]
theorem jJ(vals cs:List Int):(aM vals cs).length=cs.length:=by unfold aM;rw [length_map]
theorem pb(T:Tx K mg t):aB P w K mg base CX0 7 t.a_Fill_run t.d_Fill_run ["self", "store"] (lW t 1):=by
 have G_Store_fill:=%[lA|45];refine T.F_Fill_run.ok j7 (λ vs H Q E h=>iF _ _ h) (λ cdv A outer s0 H vs Q E hr h=>?_)
 ·obtain⟨s,st,rfl,u,v,dx,l,z,vals,f1,A1,f2,A2,hs,so,hv,w1,w2,hpe,k⟩:=h;have hs':H s=some (.ins t.a_Fill dx [("to",V.ref u),("value",V.int z)]):=hs;obtain⟨ds,hst⟩:=so.ob;have hfl:=so.fl;have c8:=T.cl_Fill;have c9:=T.cl_Store;have m0:=ar l (m := "fill") nofun;have c0:=T.na_Fill_to;have l0:([("to",V.ref u),("value",V.int z)]:List (Str × V)).lookup (Str.ofString "to")=some (V.ref u):=by rfl
  have c1:=T.na_Fill_value;have l1:([("to",V.ref u),("value",V.int z)]:List (Str × V)).lookup (Str.ofString "value")=some (V.int z):=by rfl
  refine⟨_,%[%[%[%[1|0],T.cl_Store,T.mt_Store_fill,G_Store_fill,(hr.mono ⋯),T.b_Store_fill,.nil,aC,%[%[%[0|0],rfl|13],%[%[%[0|0],rfl|13]|1]|1],∅,∅,∅|20],∅|15]|9],?_⟩;rw [show ak ["self", "store"] [.ref s,.ref st]=[some (.ref s),some (.ref st)] from rfl];clear G_Store_fill hs;exists k;ac_rfl;rw [yS];refine⟨l,vals,vals.length,f1,A1,so,w1.v.at,w1.ax,rfl,hv,w1.pr,w1.on,λ H' q1 q2 q3=>?_⟩;have k2:=k () H' q1 q2 q3;clear k;ac_rfl
theorem pd(T:Tx K mg t):aB P w K mg base CX0 7 t.a_Copy_run t.d_Copy_run ["self", "store"] (lW t 2):=by
 have G_Store_copied:=%[jh|45];refine T.F_Copy_run.ok j8 (λ vs H Q E h=>iF _ _ h) (λ cdv A outer s0 H vs Q E hr h=>?_)
 ·obtain⟨s,st,rfl,u,v,dx,l,z,vals,f1,A1,f2,A2,hs,so,hv,w1,w2,hpe,k⟩:=h;have hs':H s=some (.ins t.a_Copy dx [("to",V.ref u),("source",V.ref v)]):=hs;obtain⟨ds,hst⟩:=so.ob;have hfl:=so.fl;have c8:=T.cl_Copy;have c9:=T.cl_Store;have m0:=ar l (m := "copied") nofun;have c0:=T.na_Copy_to;have l0:([("to",V.ref u),("source",V.ref v)]:List (Str × V)).lookup (Str.ofString "to")=some (V.ref u):=by rfl
  have c1:=T.na_Copy_source;have l1:([("to",V.ref u),("source",V.ref v)]:List (Str × V)).lookup (Str.ofString "source")=some (V.ref v):=by rfl
  refine⟨_,%[%[%[%[1|0],T.cl_Store,T.mt_Store_copied,G_Store_copied,(hr.mono ⋯),T.b_Store_copied,.nil,aC,%[%[%[0|0],rfl|13],%[%[%[0|0],rfl|13]|1]|1],∅,∅,∅|20],∅|15]|9],?_⟩;rw [show ak ["self", "store"] [.ref s,.ref st]=[some (.ref s),some (.ref st)] from rfl];clear G_Store_copied hs;exists k;ac_rfl;rw [rM];refine⟨l,vals,f1,f2,A1,A2,so,w1.v.at,w2.v.at,w1.ax,w2.ax,hv,w1.pr,hpe,w1.on,w2.on,λ H' q1 q2 q3=>?_⟩;have k2:=k () H' q1 q2 q3;clear k;ac_rfl
theorem o9(T:Tx K mg t):aB P w K mg base CX0 7 t.a_Swap_run t.d_Swap_run ["self", "store"] (lW t 3):=by
 have G_Store_read:=%[dP|45];have G_Store_put:=%[bz|45];refine T.F_Swap_run.ok b8 (λ vs H Q E h=>iF _ _ h) (λ cdv A outer s0 H vs Q E hr h=>?_)
 ·obtain⟨s,st,rfl,u,v,dx,l,z,vals,f1,A1,f2,A2,hs,so,hv,w1,w2,hpe,k⟩:=h;have hs':H s=some (.ins t.a_Swap dx [("one",V.ref u),("other",V.ref v)]):=hs;obtain⟨ds,hst⟩:=so.ob;have hfl:=so.fl;have c8:=T.cl_Swap;have c9:=T.cl_Store;have m0:=ar l (m := "read") nofun;have m1:=ar l (m := "put") nofun;have c0:=T.na_Swap_one;have l0:([("one",V.ref u),("other",V.ref v)]:List (Str × V)).lookup (Str.ofString "one")=some (V.ref u):=by rfl
  have c1:=T.na_Swap_other;have l1:([("one",V.ref u),("other",V.ref v)]:List (Str × V)).lookup (Str.ofString "other")=some (V.ref v):=by rfl
  refine⟨_,%[%[2,b8,%[%[1|0],T.cl_Store,T.mt_Store_read,G_Store_read,(hr.mono ⋯),T.b_Store_read,.nil,aC,%[%[%[0|0],rfl|13]|1],∅,∅,∅|20]|4],%[%[3,b8,%[%[1|0],T.cl_Store,T.mt_Store_read,G_Store_read,(hr.mono ⋯),T.b_Store_read,.nil,aC,%[%[%[0|0],rfl|13]|1],∅,∅,∅|20]|4],%[%[%[%[1|0],T.cl_Store,T.mt_Store_put,G_Store_put,(hr.mono ⋯),T.b_Store_put,.nil,aC,%[%[%[0|0],rfl|13],%[%[3|0]|1]|1],∅,∅,∅|20],∅|15],%[%[%[%[1|0],T.cl_Store,T.mt_Store_put,G_Store_put,(hr.mono ⋯),T.b_Store_put,.nil,aC,%[%[%[0|0],rfl|13],%[%[2|0]|1]|1],∅,∅,∅|20],∅|15]|9]|10]|10]|10],?_⟩;rw [show ak ["self", "store", "ours", "theirs"] [.ref s,.ref st]=[some (.ref s),some (.ref st),none,none] from rfl];clear G_Store_read G_Store_put hs;exists k;have hp1:=w1.pr;have hp2:=w2.pr;have hc1:=aU f1 A1 λ a ha=>(w1.ax.2 a ha).1;have hc2:=aU f2 A2 λ a ha=>(w2.ax.2 a ha).1;ac_rfl;rw [fU];refine⟨l,vals,vals.length,f1,A1,so,w1.v.at,w1.ax,rfl,w1.pr,w1.on,λ r1 H1 hr1 e1 h1=>?_⟩;have nr1:r1 ≠ l:=λ e=>by rw [e,hfl] at hr1;cases hr1
  have hs1:=e1.at hs';have hst1:=e1.at hst;clear hs' hst hr1;ac_rfl;rw [fU];refine⟨l,vals,vals.length,f2,A2,so.ext e1,w2.v.at.ext e1,w2.ax,rfl,w2.pr,w2.on,λ r2 H2 hr2 e2 h2=>?_⟩;have e02:=e1.trans e2;have nr2:r2 ≠ l:=λ e=>by rw [e,e1.at hfl] at hr2;cases hr2
  have hs2:=e2.at hs1;have hst2:=e2.at hst1;have h1_2:=e2.at h1;have hfl2:=e02.at hfl;clear hs1 hst1 hr2 h1;ac_rfl;rw [kD];refine⟨l,vals,vals.length,f1,A1,_,so.ext e02,w1.v.at.ext e02,w1.ax,rfl,hv,w1.pr,w1.on,h2,nr2,by rw [jJ];omega,λ H3 q1 q2 q3=>?_⟩;have kp:KpL l H2 H3:=q2;have hs3:=kp _ _ (λ e=>by rw [e,hfl2] at hs2;cases hs2) hs2;have hst3:=kp _ _ (λ e=>by rw [e,hfl2] at hst2;cases hst2) hst2;have h1_3:=kp _ _ nr1 h1_2;have w2':=(w2.v.ext e02).kp hfl2 kp;have hpl:=aI vals (aj f1 A1) (aM vals (aj f2 A2));have so3:aN t.a_Store H3 st l (dY vals (aj f1 A1) (aM vals (aj f2 A2))):=⟨⟨ds,hst3⟩,q3⟩;have hlr:((aM vals (aj f1 A1)).length:Int)=af (A2.map λ a=>a.1):=by rw [jJ];omega
  have on2:bW (aj f2 A2) (dY vals (aj f1 A1) (aM vals (aj f2 A2))).length:=by rw [hpl];exact w2.on
  have hv3:(dY vals (aj f1 A1) (aM vals (aj f2 A2))).length<=4096:=by rw [hpl];exact hv
  have vw3:aw t.a_View H3 v (dY vals (aj f1 A1) (aM vals (aj f2 A2))).length f2 A2:=by rw [hpl];exact w2'.at
  clear hs2 hst2 h1_2 h2 q2 hpl;exists q1;ac_rfl;rw [kD];refine⟨l,_,_,f2,A2,_,so3,vw3,w2.ax,rfl,hv3,w2.pr,on2,h1_3,nr1,hlr,λ H4 p1 p2 p3=>?_⟩;have k2:=k () H4 (λ H0 e0 h0=>p1 H0 (q1 () H0 (e0.trans e02) h0) h0) ((Ext.kp e02).trans (kp.trans p2)) p3;clear k q1;ac_rfl
theorem nC(T:Tx K mg t):aB P w K mg base CX0 7 t.a_Raise_run t.d_Raise_run ["self", "store"] (lW t 4):=by
 have G_Store_read:=%[dP|45];have G_Store_put:=%[bz|45];refine T.F_Raise_run.ok dE (λ vs H Q E h=>iF _ _ h) (λ cdv A outer s0 H vs Q E hr h=>?_)
 ·obtain⟨s,st,rfl,u,v,dx,l,z,vals,f1,A1,f2,A2,hs,so,hv,w1,w2,hpe,k⟩:=h;have hs':H s=some (.ins t.a_Raise dx [("to",V.ref u),("source",V.ref v)]):=hs;obtain⟨ds,hst⟩:=so.ob;have hfl:=so.fl;have c8:=T.cl_Raise;have c9:=T.cl_Store;have m0:=ar l (m := "read") nofun;have m1:=ar l (m := "put") nofun;have c0:=T.na_Raise_to;have l0:([("to",V.ref u),("source",V.ref v)]:List (Str × V)).lookup (Str.ofString "to")=some (V.ref u):=by rfl
  have c1:=T.na_Raise_source;have l1:([("to",V.ref u),("source",V.ref v)]:List (Str × V)).lookup (Str.ofString "source")=some (V.ref v):=by rfl
  refine⟨_,%[%[2,dE,%[%[1|0],T.cl_Store,T.mt_Store_read,G_Store_read,(hr.mono ⋯),T.b_Store_read,.nil,aC,%[%[%[0|0],rfl|13]|1],∅,∅,∅|20]|4],%[%[%[%[1|0],T.cl_Store,T.mt_Store_put,G_Store_put,(hr.mono ⋯),T.b_Store_put,.nil,aC,%[%[%[0|0],rfl|13],%[%[(["value", "other", "self", "store", "more"]),(2),(bu (aa cf) ["self", "store", "more"] rfl rfl nofun),rfl,%[∅,T.z_zip,%[%[%[1|0],T.cl_Store,T.mt_Store_read,G_Store_read,(hr.mono ⋯),T.b_Store_read,.nil,aC,%[%[%[0|0],rfl|13]|1],∅,∅,∅|20],%[%[2|0]|1]|1],∅,∅|42],(λ C s₀ H₀ ex pn=>(%[(2),rfl,%[%[(0),_,(show List.Nodup (["value", "other", "self", "store", "more"]:List Str) from by decide +kernel),rfl,(Or.inl rfl),%[0|7]|21],%[%[(1),_,(show List.Nodup (["value", "other", "self", "store", "more"]:List Str) from by decide +kernel),rfl,(Or.inl rfl),%[0|7]|21],(@aJ _),∅|16],∅|16],∅,∅|25].mono λ _ _ _ _ h=>bP h)),(λ C s₀ H₀ ex pn=>(@bB _)),(λ C s₀ H₀ ex pn=>%[bb,%[0|0],%[1|0]|12]),(by intros;rfl)|28]|1]|1],∅,∅,∅|20],∅|15]|9]|10],?_⟩;rw [show ak ["self", "store", "more"] [.ref s,.ref st]=[some (.ref s),some (.ref st),none] from rfl];clear G_Store_read G_Store_put hs;exists k;have hp1:=w1.pr;have hp2:=w2.pr;have hc1:=aU f1 A1 λ a ha=>(w1.ax.2 a ha).1;have hc2:=aU f2 A2 λ a ha=>(w2.ax.2 a ha).1;ac_rfl;rw [fU];refine⟨l,vals,vals.length,f2,A2,so,w2.v.at,w2.ax,rfl,w2.pr,w2.on,λ r1 H1 hr1 e1 h1=>?_⟩;have hs1:=e1.at hs';have hst1:=e1.at hst;clear hs' hst hr1;ac_rfl;rw [fU];refine⟨l,vals,vals.length,f1,A1,so.ext e1,w1.v.at.ext e1,w1.ax,rfl,w1.pr,w1.on,λ r2 H2 hr2 e2 h2=>?_⟩;have e02:=e1.trans e2;have hs2:=e2.at hs1;have hst2:=e2.at hst1;have h1_2:=e2.at h1;have hfl2:=e02.at hfl;clear hs1 hst1 hr2 h1;ac_rfl;have wk:=Ap (R1:=λ (z:Int) y _=>y=V.int z) (R2:=λ (z:Int) y _=>y=V.int z) (λ _ _ _ _ h _=>h) (λ _ _ _ _ h _=>h) h2 h1_2 (oZ _) (oZ _);refine cc ((aM vals (aj f1 A1)).zip (aM vals (aj f2 A2))) (λ _=>true) (λ z=>.int (z.1+z.2)) (Hv (λ (z:Int) y _=>y=V.int z) (λ (z:Int) y _=>y=V.int z)) wk.1 wk.2 (bc (by rw [K5,jJ,jJ];omega)) ?_ ?_
  ·intro D z y H' N1 N0 hz hD e ⟨p,q1,q2,hu,hu2,ha,hb⟩ k1 _;subst hu ha hb;have k1':=k1 rfl H' (Ext.refl _);clear k1 k wk hz;simp! only [↓gu,↓cx]
  intro D H3 hD e3 h3
  have h3':H3 D=some (.lst ((List.zipWith (· + ·) (aM vals (aj f1 A1)) (aM vals (aj f2 A2))).map V.int)):=by
   rw [h3,rX,za,KY];rfl
  have nD:D ≠ l:=λ e=>by rw [e,hfl2] at hD;cases hD
  have e03:=e02.trans e3;clear h3 wk hD h1_2 h2;ac_rfl;rw [kD];refine⟨l,vals,vals.length,f1,A1,_,so.ext e03,w1.v.at.ext e03,w1.ax,rfl,hv,w1.pr,w1.on,h3',nD,by rw [List.length_zipWith,jJ,jJ];omega,λ H4 p1 p2 p3=>?_⟩;have k2:=k () H4 (λ H0 e0 h0=>p1 H0 (e0.trans e03) h0) ((Ext.kp e03).trans p2) p3;clear k;ac_rfl
theorem MDR{P:Program}{w:World}{K:W.Frag}{mg:Str->Option Value}{base:Heap}{t:Adr}(T:Tx K mg t):∀ i,i < 5->MD P w K mg base CX0 7 "run" (oh t i) (lW t i)
 | 0,_=>⟨T.cl_Statement,_,_,_,T.mt_Statement_run,hV T,T.b_Statement_run⟩
 | 1,_=>⟨T.cl_Fill,_,_,_,T.mt_Fill_run,pb T,T.b_Fill_run⟩
 | 2,_=>⟨T.cl_Copy,_,_,_,T.mt_Copy_run,pd T,T.b_Copy_run⟩
 | 3,_=>⟨T.cl_Swap,_,_,_,T.mt_Swap_run,o9 T,T.b_Swap_run⟩
 | 4,_=>⟨T.cl_Raise,_,_,_,T.mt_Raise_run,nC T,T.b_Raise_run⟩
 | n+5,h=>absurd h %[0|8]
theorem uw(cs:List Int)(a:Int × Int)(h:1<=a.1):bN cs (aY a)=bN cs a:=by
 unfold bN
 show (cs.flatMap λ c=>(List.range a.1.toNat).map λ (n:Nat)=>c+(n:Int) * (if a.1 > 1 then a.2 else 0))=_
 by_cases h1:a.1 > 1
 ·rw [Jw h1]
 ·rw [Jt h1];have e:a.1.toNat=1:=by omega
  rw [e];refine Kq (λ f=>cs.flatMap f) (funext λ c=>?_);simp
theorem mB:∀ (axs:List (Int × Int)) (cs:List Int),(∀ a∈axs,(1:Int)<=a.1)->(axs.map aY).foldl bN cs=axs.foldl bN cs
 | [],cs,_=>rfl
 | a::r,cs,h=>by
  rw [JY,Ln,Ln,uw cs a (h a Jq),mB r _ λ b hb=>h b (Jk _ hb)]
theorem jY(f:Int)(axs:List (Int × Int))(h:∀ a∈axs,(1:Int)<=a.1):aj f (axs.map aY)=aj f axs:=mB axs [f] h
theorem gL(axs:List (Int × Int)):(axs.map aY).map (λ a=>a.1)=axs.map λ a=>a.1:=by rw [KY];rfl
theorem iI:∀ l:List (Int × Int),(∀ a∈l,(1:Int)<=a.1)->aE (l.map aY)=aE l/\aF (l.map aY)=aF l
 | [],_=>⟨rfl,rfl⟩
 | a::r,h=>by
  obtain⟨i1,i2⟩:=iI r λ b hb=>h b (Jk _ hb);have ha:=h a Jq
  have e:((aY a).1 - 1) * (aY a).2=(a.1 - 1) * a.2:=by
   show (a.1 - 1) * (if a.1 > 1 then a.2 else 0)=_
   split
   ·rfl
   ·have:a.1=1:=by omega
    rw [this];simp
  rw [JY,dw,dA,dw,dA,e,i1,i2];exact⟨rfl,rfl⟩
theorem tY{n:Nat}(h:n<=100000):n<=sizeLine:=Ju h ⋯
abbrev m9(C:Addr)(room:Int)(p:Addr)(H:Hp)(Q:VK)(E:XK):Prop:=∃ (q:Addr) (f:Int) (A:List (Int × Int)),H p=some (.tup [.int f,.ref q])/\aO H q (axL A)/\jP room f A/\∀ (x dx D:Addr) (H':Hp),Ext H H'->H D=none->H' x=some (.ins C dx (cX room f D))->aO H' D (axL (A.map aY))->Q (.ref x) H'
def oJ(C:Addr):Sp:=λ vs H Q E=>∃ (room:Int) (p:Addr),vs=[.int room,.ref p]/\(m9 C room p H Q E)
theorem mP(C:Addr)(room:Int)(p:Addr)(H:Hp)(Q:VK)(E:XK):oJ C [.int room,.ref p] H Q E=(m9 C room p H Q E):=jq (f:=λ (room:Int) (p:Addr)=>[.int room,.ref p]) (λ _ _ _ _ h=>by cases h;exact⟨rfl,rfl⟩) room p
theorem vC(C:Addr){vs:List V}{H:Hp}{Q:VK}{E:XK}(h:oJ C vs H Q E):vs.length=2:=js h λ _ _=>rfl
theorem nv(T:Tx K mg t):aB P w K mg base CX0 8 t.a__law_view t.d__law_view ["_law_room", "_law_one"] (oJ t.a_View):=by
 have G_View___init__:=%[dU|45];refine T.F__law_view.ok pJ (λ vs H Q E h=>vC _ h) (λ cdv A' outer s H vs Q E hr h=>?_)
 ·obtain⟨room,p,rfl,q,f,A,hp,⟨ys,hq,al⟩,vok,k⟩:=h;refine⟨_,%[%[%[T.mk_View,G_View___init__,(hr.mono ⋯),∅,T.m_View,T.b_View___init__,.nil,aC,%[%[0|0],%[%[eV,%[1|0],%[0|2],(λ _ _=>rfl)|19],%[%[dg,∅,T.z_list,nofun,%[%[eV,%[1|0],%[0|2],(λ _ _=>rfl)|19]|1],⋯,⋯,∅,∅|41]|1]|1]|1],⋯,∅,∅|34]|11]|9],?_⟩;rw [show ak ["_law_room", "_law_one"] [.int room,.ref p]=[some (.int room),some (.ref p)] from rfl];clear G_View___init__;exists k;exists al;ac_rfl;intro q6 H6 _ e6 h6;have tt6:aO H6 q6 (axL A):=⟨ys,h6,(al ()).imp λ _ _ t=>t.ext e6⟩;clear hp hq;ac_rfl;intro u dx1 G1 hx1 hdx1 hne1 g1 k1 k1';rw [iV];refine⟨dx1,A,k1,aO.ext tt6 g1,vok,λ G2 D2 g2' hD2 hx2 tt2=>?_⟩;have eg:=e6.trans (g2' H6 g1 hx1);have kf:=k () u dx1 D2 G2 eg ((e6.trans g1).free hD2) hx2 tt2;clear k h6 tt6 k1 k1' hx1 hdx1 hne1 g1 g2' hD2 hx2 tt2;ac_rfl
theorem at3{x0 x1 x2:Addr}{w:Nat}(h2:2<=w)(hw:w < 5):∃ x,atI [V.ref x0,V.ref x1,V.ref x2] ((w:Int) - 2)=some (.ref x)/\((w=2/\x=x0)\/(w=3/\x=x1)\/(w=4/\x=x2)):=by
 match w,h2,hw with
 | 2,_,_=>exact⟨x0,aV (j:=0) rfl,.inl ⟨rfl,rfl⟩⟩
 | 3,_,_=>exact⟨x1,aV (j:=1) rfl,.inr (.inl ⟨rfl,rfl⟩)⟩
 | 4,_,_=>exact⟨x2,aV (j:=2) rfl,.inr (.inr ⟨rfl,rfl⟩)⟩
def kv(t:Adr):Sp:=λ vs H Q E=>∃ (w:Int) (u:Addr) (v:Addr) (z:Int),vs=[.int w,.ref u,.ref v,.int z]/\(∃ (i:Nat) (r f1 f2:Int) (A B:List (Int × Int)),w=(i:Int)/\i < 5/\(2<=i->aw t.a_View H u r f1 A/\aw t.a_View H v r f2 B/\dQ A/\dQ B/\af (A.map λ a=>a.1)=af (B.map λ a=>a.1))/\∀ (s dx:Addr) (H':Hp),Ext H H'->H' s=some (.ins (oh t i) dx (rW i u v (.int z)))->Q (.ref s) H')
theorem fZ(t:Adr)(w:Int)(u:Addr)(v:Addr)(z:Int)(H:Hp)(Q:VK)(E:XK):kv t [.int w,.ref u,.ref v,.int z] H Q E=(∃ (i:Nat) (r f1 f2:Int) (A B:List (Int × Int)),w=(i:Int)/\i < 5/\(2<=i->aw t.a_View H u r f1 A/\aw t.a_View H v r f2 B/\dQ A/\dQ B/\af (A.map λ a=>a.1)=af (B.map λ a=>a.1))/\∀ (s dx:Addr) (H':Hp),Ext H H'->H' s=some (.ins (oh t i) dx (rW i u v (.int z)))->Q (.ref s) H'):=CG (f:=λ (w:Int) (u:Addr) (v:Addr) (z:Int)=>[.int w,.ref u,.ref v,.int z]) (λ _ _ _ _ _ _ _ _ h=>by cases h;exact⟨rfl,rfl,rfl,rfl⟩) w u v z
theorem vE(t:Adr){vs:List V}{H:Hp}{Q:VK}{E:XK}(h:kv t vs H Q E):vs.length=4:=CH h λ _ _ _ _=>rfl
theorem gX(T:Tx K mg t):aB P w K mg base CX0 8 t.a__law_made t.d__law_made ["_law_way", "_law_one", "_law_other", "_law_value"] (kv t):=by
 have G_Fill___init__:=%[dX|45];have G_Copy___init__:=%[hZ|45];have G_Swap___init__:=%[dW|45];have G_Raise___init__:=%[di|45];refine T.F__law_made.ok i9 (λ vs H Q E h=>vE _ h) (λ cdv A' outer s H vs Q E hr h=>?_)
 ·obtain⟨_,u,v,z,rfl,i,room,f1,f2,A,B,rfl,hi,hv,k⟩:=h;refine⟨_,%[%[%[(cw hr.units),%[0|0],%[0|2],(az _)|17],%[%[(@tK _ _ _ _ _ T.mk0_Statement ∅ T.m_Statement ⋯)|11]|9],(@au _)|18],%[%[%[(cw hr.units),%[0|0],%[0|2],(az _)|17],%[%[%[T.mk_Fill,G_Fill___init__,(hr.mono ⋯),∅,T.m_Fill,T.b_Fill___init__,.nil,aC,%[%[1|0],%[%[3|0]|1]|1],⋯,∅,∅|34]|11]|9],(@au _)|18],%[%[%[eV,%[%[%[T.mk_Copy,G_Copy___init__,(hr.mono ⋯),∅,T.m_Copy,T.b_Copy___init__,.nil,aC,%[%[1|0],%[%[2|0]|1]|1],⋯,∅,∅|34],%[%[T.mk_Swap,G_Swap___init__,(hr.mono ⋯),∅,T.m_Swap,T.b_Swap___init__,.nil,aC,%[%[1|0],%[%[2|0]|1]|1],⋯,∅,∅|34],%[%[T.mk_Raise,G_Raise___init__,(hr.mono ⋯),∅,T.m_Raise,T.b_Raise___init__,.nil,aC,%[%[1|0],%[%[2|0]|1]|1],⋯,∅,∅|34]|1]|1]|1]|14],%[cb,%[0|0],%[0|2]|12],(λ _ _=>rfl)|19]|11]|9]|10]|10],?_⟩;rw [show ak ["_law_way", "_law_one", "_law_other", "_law_value"] [.int (i:Int),.ref u,.ref v,.int z]=[some (.int (i:Int)),some (.ref u),some (.ref v),some (.int z)] from rfl];clear G_Fill___init__ G_Copy___init__ G_Swap___init__ G_Raise___init__;exists k
  by_cases hw0:i=0
  ·subst hw0;ac_rfl;intro sx dx G6 _ _ _ e6 h6 _;have kf:=k () sx dx G6 e6 h6;clear k;ac_rfl
  by_cases hw1:i=1
  ·subst hw1;ac_rfl;intro sx dx G6 hx6 _ _ g6 k6 _;rw [wq];refine⟨dx,k6,λ G7 g7' h7=>?_⟩;have kf:=k () sx dx G7 (g7' H g6 hx6) h7;clear k;ac_rfl
  obtain⟨vo1,vo2,xA,xB,hpe⟩:=hv %[0|8];have hwi0:¬ (i:Int)=0:=by omega
  have hwi1:¬ (i:Int)=1:=by omega
  exists hpe;clear hv;ac_rfl;intro sa da Ga hxa _ _ ga ka _;rw [nV];refine⟨da,room,f1,f2,_,_,ka,vo1.ext ga,vo2.ext ga,xA,xB,hpe (),λ Gb gb' hb=>?_⟩;have e1:=gb' H ga hxa;clear ka hxa ga gb';ac_rfl;intro sb db Gc hxb _ _ gc kc _;rw [nR];refine⟨db,room,f1,f2,_,_,kc,vo1.ext (e1.trans gc),vo2.ext (e1.trans gc),xA,xB,hpe (),λ Gd gd' hd=>?_⟩;have e2:=gd' Gb gc hxb;have ha2:=e2.at hb;clear kc hxb gc gd' hb;ac_rfl;intro sc dc Ge hxc _ _ ge ke _;rw [lM];refine⟨dc,room,f1,f2,_,_,ke,vo1.ext (e1.trans (e2.trans ge)),vo2.ext (e1.trans (e2.trans ge)),xA,xB,hpe (),λ Gf gf' hf=>?_⟩;have e3:=gf' Gd ge hxc;have ha3:=e3.at ha2;have hb3:=e3.at hd;have e13:=e1.trans (e2.trans e3);clear ke hxc ge gf' ha2 hd;ac_rfl;intro L H8 _ e8 h8;obtain⟨sx,hat,hsx⟩:=at3 (x0:=sa) (x1:=sb) (x2:=sc) (by omega:2<=i) hi;have e58:=e13.trans e8
  obtain⟨dx,st⟩:∃ dx,H8 sx=some (.ins (oh t i) dx (rW i u v (.int z))):=by
   rcases hsx with ⟨rfl,rfl⟩|⟨rfl,rfl⟩|⟨rfl,rfl⟩
   ·exact⟨da,e8.at ha3⟩
   ·exact⟨db,e8.at hb3⟩
   ·exact⟨dc,e8.at hf⟩
  have kf:=k () sx dx H8 e58 st;clear k st hsx ha3 hb3 hf;ac_rfl
abbrev kj(t:Adr)(w:Int)(u:Addr)(v:Addr)(z:Int)(H:Hp)(Q:VK)(E:XK):Prop:=∃ (i:Nat) (r1 n1 r2 n2:Int),w=(i:Int)/\i < 5/\2<=i/\VwN t.a_View H u r1 n1/\VwN t.a_View H v r2 n2/\(r1 ≠ r2\/n1 ≠ n2)/\(r1 ≠ r2->∀ H',Ext H H'->E (.ref t.a_NoPair) none H')/\(r1=r2->∀ H',Ext H H'->E (.ref t.a_NoCount) none H')
def ip(t:Adr):Sp:=λ vs H Q E=>∃ (w:Int) (u:Addr) (v:Addr) (z:Int),vs=[.int w,.ref u,.ref v,.int z]/\(kj t w u v z H Q E)
theorem rL(t:Adr)(w:Int)(u:Addr)(v:Addr)(z:Int)(H:Hp)(Q:VK)(E:XK):ip t [.int w,.ref u,.ref v,.int z] H Q E=(kj t w u v z H Q E):=CG (f:=λ (w:Int) (u:Addr) (v:Addr) (z:Int)=>[.int w,.ref u,.ref v,.int z]) (λ _ _ _ _ _ _ _ _ h=>by cases h;exact⟨rfl,rfl,rfl,rfl⟩) w u v z
theorem rA(t:Adr){vs:List V}{H:Hp}{Q:VK}{E:XK}(h:ip t vs H Q E):vs.length=4:=CH h λ _ _ _ _=>rfl
theorem lE(T:Tx K mg t):aB P w K mg base (CX1 P  w) 8 t.a__law_made t.d__law_made ["_law_way", "_law_one", "_law_other", "_law_value"] (ip t):=by
 have G_Fill___init__:=%[dX|45];have G_Copy___init__:=%[gP|45];have G_Swap___init__:=%[dW|45];have G_Raise___init__:=%[di|45];refine(Fun.x T.F__law_made).ok i9 (λ vs H Q E h=>rA _ h) (λ cdv A' outer s H vs Q E hr h=>?_)
 ·obtain⟨_,u,v,z,rfl,i,r1,n1,r2,n2,rfl,hi,h2,vu,vv,hbad,kP,kC⟩:=h;refine⟨_,%[%[%[(cw hr.units),%[0|0],%[0|2],(az _)|17],%[%[(@tK _ _ _ _ _ T.mk0_Statement ∅ T.m_Statement ⋯)|11]|9],(@au _)|18],%[%[%[(cw hr.units),%[0|0],%[0|2],(az _)|17],%[%[%[T.mk_Fill,G_Fill___init__,(hr.mono ⋯),∅,T.m_Fill,T.b_Fill___init__,.nil,aC,%[%[1|0],%[%[3|0]|1]|1],⋯,∅,∅|34]|11]|9],(@au _)|18],%[%[%[eV,%[%[%[T.mk_Copy,G_Copy___init__,(hr.mono ⋯),∅,T.m_Copy,T.b_Copy___init__,.nil,ay,%[%[1|0],%[%[2|0]|1]|1],⋯,∅,∅|34],%[%[T.mk_Swap,G_Swap___init__,(hr.mono ⋯),∅,T.m_Swap,T.b_Swap___init__,.nil,aC,%[%[1|0],%[%[2|0]|1]|1],⋯,∅,∅|34],%[%[T.mk_Raise,G_Raise___init__,(hr.mono ⋯),∅,T.m_Raise,T.b_Raise___init__,.nil,aC,%[%[1|0],%[%[2|0]|1]|1],⋯,∅,∅|34]|1]|1]|1]|14],%[cb,%[0|0],%[0|2]|12],(λ _ _=>rfl)|19]|11]|9]|10]|10],?_⟩;rw [show ak ["_law_way", "_law_one", "_law_other", "_law_value"] [.int (i:Int),.ref u,.ref v,.int z]=[some (.int (i:Int)),some (.ref u),some (.ref v),some (.int z)] from rfl];clear G_Fill___init__ G_Copy___init__ G_Swap___init__ G_Raise___init__;exists kP;exists kC;have hwi0:¬ (i:Int)=0:=by omega
  have hwi1:¬ (i:Int)=1:=by omega
  ac_rfl;intro sa da Ga hxa _ _ ga ka _;rw [wx];exact⟨r1,n1,r2,n2,vu.ext ga,vv.ext ga,hbad,λ h H' e=>kP () h H' (ga.trans e),λ h H' e=>kC () h H' (ga.trans e)⟩
def AB(t:Adr):Sp:=λ vs H Q E=>kv t vs H Q E\/ip t vs H Q E
theorem lC(T:Tx K mg t):aB P w K mg base (CX1 P  w) 8 t.a__law_made t.d__law_made ["_law_way", "_law_one", "_law_other", "_law_value"] (AB t):=aB.both (aB.up (gX T)) (lE T) λ _ _ _ _ h=>h
def wD(C:Addr)(H:Hp)(xs:List Addr):Prop:=∀ x∈xs,∃ r f A,aw C H x r f A
theorem wD.ext{C:Addr}{H H':Hp}{xs:List Addr}(h:wD C H xs)(e:Ext H H'):wD C H' xs:=λ x hx=>by
 obtain⟨r,f,A,v⟩:=h x hx;exact⟨r,f,A,v.ext e⟩
abbrev ql(C:Addr)(p:Addr)(q:Addr)(H:Hp)(Q:VK)(E:XK):Prop:=∃ xs:List Addr,H p=some (.lst (xs.map V.ref))/\H q=some (.lst (xs.map V.ref))/\xs.length<=4/\wD C H xs/\∀ H',Ext H H'->Q (.bl true) H'
def sI(C:Addr):Sp:=λ vs H Q E=>∃ (p:Addr) (q:Addr),vs=[.ref p,.ref q]/\(ql C p q H Q E)
theorem iw(C:Addr)(p:Addr)(q:Addr)(H:Hp)(Q:VK)(E:XK):sI C [.ref p,.ref q] H Q E=(ql C p q H Q E):=jq (f:=λ (p:Addr) (q:Addr)=>[.ref p,.ref q]) (λ _ _ _ _ h=>by cases h;exact⟨rfl,rfl⟩) p q
theorem yb(C:Addr){vs:List V}{H:Hp}{Q:VK}{E:XK}(h:sI C vs H Q E):vs.length=2:=js h λ _ _=>rfl
theorem nz(T:Tx K mg t):aB P w K mg base CX0 2 t.a__law_same t.d__law_same ["_law_found", "_law_views_here"] (sI t.a_View):=by
 refine T.F__law_same.ok fG (λ vs H Q E h=>yb _ h) (λ cdv A' outer s H vs Q E hr h=>?_)
 ·obtain⟨p,q,rfl,xs,hp,hq,hxl,vw,k⟩:=h;have c1:=T.cl_View;have c2:=T.na_View_room;have c3:=T.na_View_first;have c4:=T.na_View_axes;have c5:=T.is_View;refine⟨_,%[%[(PW.pt %[%[%[%[isinstance,bQ,%[%[0|0],%[(@dk _ _ (.ty "list") (.type "list") _ ∅ T.z_list nofun rfl ⋯ ⋯)|1]|1]|6],(by intros;rfl)|32]|33],(@fQ _ _ _ _ %[(b9 hr.units),%[len,bg,%[%[0|0]|1]|6],%[len,bg,%[%[1|0]|1]|6],(az _)|17])|35]),%[%[(@fh _ _ _ _)|11]|9],(@au _)|18],%[%[Jp,rfl,%[∅,T.z_zip,%[%[0|0],%[%[1|0]|1]|1],∅,∅|42],(%[(2),rfl,%[%[2,fG|5],%[%[3,fG|5],(@aJ _),∅|16],∅|16],∅,∅|25].mono λ _ _ _ _ h=>bP h),%[%[(PW.pt %[%[%[%[isinstance,(vV (K:=K) rfl),%[%[2|0],%[(@bV _ _ (.ref t.a_View) _ _ ∅ T.m_View rfl ⋯)|1]|1]|6],(by intros;rfl)|32]|33],(@fQ _ _ _ _ %[(b9 hr.units),%[%[2|0],rfl|13],%[%[3|0],rfl|13],(az _)|17])|35]),%[%[(@fh _ _ _ _)|11]|9],(@au _)|18],%[%[(PW.pt %[%[(b9 hr.units),%[%[2|0],rfl|13],%[%[3|0],rfl|13],(az _)|17],(@fQ _ _ _ _ %[(b9 hr.units),%[%[2|0],rfl|13],%[%[3|0],rfl|13],(az _)|17])|35]),%[%[(@fh _ _ _ _)|11]|9],(@au _)|18]|9]|10],(by intros;rfl)|23],%[%[(@fh _ _ _ _)|11]|9]|10]|10],?_⟩;rw [show ak ["_law_found", "_law_views_here", "_law_one", "_law_other"] [.ref p,.ref q]=[some (.ref p),some (.ref q),none,none] from rfl];exists k;exists vw;ac_rfl;refine gw (ka:=false) (kb:=false) (xs:=xs.map V.ref) (ys:=xs.map V.ref) (λ i σ H'=>∃ v2 v3:Option V,σ=[some (.ref p),some (.ref q),v2,v3]/\Ext H H') ⟨none,none,rfl,Ext.refl _⟩ (λ i σ H' ⟨_,_,_,e⟩=>⟨e.at hp,e.at hq⟩) ?_ ?_
  ·clear k;rintro i u x z _ H3 H4 hu hx ⟨v2,v3,rfl,e3⟩ hz e4 h4;rw [hu] at hx;cases hx;rw [Jl] at hu;obtain⟨y,hy,rfl⟩:=Jd.mp hu;obtain⟨r,f,A,v⟩:=vw () y (Jm hy);have e04:=e3.trans e4;obtain⟨dx,D,hyo,ys,hD,al⟩:=(v.ext e04).ob;have f1:=bK r f D;have f2:=du r f D;have f3:=cY r f D;have hdd:=pX (f:=jG H4 (jG H4 (jG H4 noD))) al;have hqv:=pW (axL A);clear hu hz hy v e3 e4 al;generalize (axL A).map (λ z=>PyData.tuple (z.map PyData.int))=DD at *;simp! only [↓aS];refine Aq hyo c5 ?_;ac_rfl;exact⟨_,_,rfl,e04⟩
  ·rintro _ H3 ⟨v2,v3,rfl,e3⟩;have k2:=k () H3 e3;clear k;ac_rfl
theorem Ip{x0 x1 x2 x3 x4:Addr}{w:Nat}(hw:w < 5):∃ x,atI [V.ref x0,V.ref x1,V.ref x2,V.ref x3,V.ref x4] (w:Int)=some (.ref x)/\((w=0/\x=x0)\/(w=1/\x=x1)\/(w=2/\x=x2)\/(w=3/\x=x3)\/(w=4/\x=x4)):=by
 match w,hw with
 | 0,_=>exact⟨x0,aV (j:=0) rfl,.inl ⟨rfl,rfl⟩⟩
 | 1,_=>exact⟨x1,aV (j:=1) rfl,.inr (.inl ⟨rfl,rfl⟩)⟩
 | 2,_=>exact⟨x2,aV (j:=2) rfl,.inr (.inr (.inl ⟨rfl,rfl⟩))⟩
 | 3,_=>exact⟨x3,aV (j:=3) rfl,.inr (.inr (.inr (.inl ⟨rfl,rfl⟩)))⟩
 | 4,_=>exact⟨x4,aV (j:=4) rfl,.inr (.inr (.inr (.inr ⟨rfl,rfl⟩)))⟩
abbrev nc(t:Adr)(s:Addr)(w:Int)(u:Addr)(v:Addr)(H:Hp)(Q:VK)(E:XK):Prop:=∃ (i:Nat),w=(i:Int)/\CF t H s i u v/\wD t.a_View H [u,v]/\∀ H',Ext H H'->Q (.bl true) H'
def oK(t:Adr):Sp:=λ vs H Q E=>∃ (s:Addr) (w:Int) (u:Addr) (v:Addr),vs=[.ref s,.int w,.ref u,.ref v]/\(nc t s w u v H Q E)
theorem wj(t:Adr)(s:Addr)(w:Int)(u:Addr)(v:Addr)(H:Hp)(Q:VK)(E:XK):oK t [.ref s,.int w,.ref u,.ref v] H Q E=(nc t s w u v H Q E):=CG (f:=λ (s:Addr) (w:Int) (u:Addr) (v:Addr)=>[.ref s,.int w,.ref u,.ref v]) (λ _ _ _ _ _ _ _ _ h=>by cases h;exact⟨rfl,rfl,rfl,rfl⟩) s w u v
theorem vD(t:Adr){vs:List V}{H:Hp}{Q:VK}{E:XK}(h:oK t vs H Q E):vs.length=4:=CH h λ _ _ _ _=>rfl
theorem Du{C:Addr}{H:Hp}{u v:Addr}(h:wD C H [u,v])(i:Nat):wD C H (wrs i u v)/\wD C H (rds i u v):=by
 have hu:=h u Jq;have hv:=h v (Jk _ Jq);have one:∀ x∈[u,v],∃ r f A,aw C H x r f A:=h
 match i with
 | 0=>exact⟨λ x hx=>absurd hx Jo,λ x hx=>absurd hx Jo⟩
 | 1=>exact⟨λ x hx=>by rw [Jh.mp hx];exact hu,λ x hx=>absurd hx Jo⟩
 | 2=>exact⟨λ x hx=>by rw [Jh.mp hx];exact hu,λ x hx=>by rw [Jh.mp hx];exact hv⟩
 | 3=>exact⟨h,h⟩
 | n+4=>exact⟨λ x hx=>by rw [Jh.mp hx];exact hu,h⟩
theorem ny(T:Tx K mg t):aB P w K mg base CX0 3 t.a__law_told t.d__law_told ["_law_statement", "_law_way", "_law_one", "_law_other"] (oK t):=by
 have G__law_same:=%[nz|45];have MD_writes:=MDw (P:=P) (w:=w) (base:=base) T;have MD_reads:=MDr (P:=P) (w:=w) (base:=base) T;refine T.F__law_told.ok dC (λ vs H Q E h=>vD _ h) (λ cdv A' outer s0 H vs Q E hr h=>?_)
 ·obtain⟨s,_,u,v,rfl,i,rfl,hs,vw,k⟩:=h;refine⟨_,%[%[4,dC,%[eV,%[%[%[(@b6 _)|14],%[%[%[%[2|0]|1]|14],%[%[%[%[2|0]|1]|14],%[%[%[%[2|0],%[%[3|0]|1]|1]|14],%[%[%[%[2|0]|1]|14]|1]|1]|1]|1]|1]|14],%[1|0],(λ _ _=>rfl)|19]|4],%[%[5,dC,%[eV,%[%[%[(@b6 _)|14],%[%[(@b6 _)|14],%[%[%[%[3|0]|1]|14],%[%[%[%[2|0],%[%[3|0]|1]|1]|14],%[%[%[%[2|0],%[%[3|0]|1]|1]|14]|1]|1]|1]|1]|1]|14],%[1|0],(λ _ _=>rfl)|19]|4],%[%[6,dC,%[%[0|0],MD_writes,(hr.mono ⋯),aC,∅|43]|4],%[%[(PW.pt %[%[%[%[_law_same,%[%[6|0],%[%[4|0]|1]|1]|3],(by intros;rfl)|32]|33],(@fQ _ _ _ _ %[%[%[_law_same,%[%[%[0|0],MD_reads,(hr.mono ⋯),aC,∅|43],%[%[5|0]|1]|1]|3],(by intros;rfl)|32]|33])|35]),%[%[(@fh _ _ _ _)|11]|9],(@au _)|18],%[%[%[Jz,Km,Kl,eo,%[6|0],%[(@gS _ _ _)|1],∅,∅,∅,∅,∅|39],∅|15],%[%[%[Jz,Km,Kl,eo,%[%[0|0],MD_reads,(hr.mono ⋯),aC,∅|43],%[(@gS _ _ _)|1],∅,∅,∅,∅,∅|39],∅|15],%[%[%[%[_law_same,%[%[%[0|0],MD_writes,(hr.mono ⋯),aC,∅|43],%[%[4|0]|1]|1]|3],%[%[_law_same,%[%[%[0|0],MD_reads,(hr.mono ⋯),aC,∅|43],%[%[5|0]|1]|1]|3]|36]|31]|11]|9]|10]|10]|10]|10]|10]|10],?_⟩;rw [show ak ["_law_statement", "_law_way", "_law_one", "_law_other", "_law_writes", "_law_reads", "_law_found"] [.ref s,.int (i:Int),.ref u,.ref v]=[some (.ref s),some (.int (i:Int)),some (.ref u),some (.ref v),none,none,none] from rfl];clear G__law_same MD_writes MD_reads;have hi:=hs.1;have wl:=Dv i u v;obtain⟨vw1,vw2⟩:=Du vw i;exists k;exists vw1;exists vw2;exists hs;have eb:=Ext.refl H;ac_rfl;intro a0 J101 ua0 j101 ha0;clear ua0;replace vw1:=λ (_:Unit)=>(vw1 ()).ext j101;replace vw2:=λ (_:Unit)=>(vw2 ()).ext j101;replace hs:=λ (_:Unit)=>(hs ()).ext j101;replace eb:=eb.trans j101;clear j101;ac_rfl;intro a1 J102 ua1 j102 ha1;clear ua1;replace vw1:=λ (_:Unit)=>(vw1 ()).ext j102;replace vw2:=λ (_:Unit)=>(vw2 ()).ext j102;replace hs:=λ (_:Unit)=>(hs ()).ext j102;replace ha0:=j102.at ha0;replace eb:=eb.trans j102;clear j102;ac_rfl;intro a2 J103 ua2 j103 ha2;clear ua2;replace vw1:=λ (_:Unit)=>(vw1 ()).ext j103;replace vw2:=λ (_:Unit)=>(vw2 ()).ext j103;replace hs:=λ (_:Unit)=>(hs ()).ext j103;replace ha0:=j103.at ha0;replace ha1:=j103.at ha1;replace eb:=eb.trans j103;clear j103;ac_rfl;intro a3 J104 ua3 j104 ha3;clear ua3;replace vw1:=λ (_:Unit)=>(vw1 ()).ext j104;replace vw2:=λ (_:Unit)=>(vw2 ()).ext j104;replace hs:=λ (_:Unit)=>(hs ()).ext j104;replace ha0:=j104.at ha0;replace ha1:=j104.at ha1;replace ha2:=j104.at ha2;replace eb:=eb.trans j104;clear j104;ac_rfl;intro a4 J105 ua4 j105 ha4;clear ua4;replace vw1:=λ (_:Unit)=>(vw1 ()).ext j105;replace vw2:=λ (_:Unit)=>(vw2 ()).ext j105;replace hs:=λ (_:Unit)=>(hs ()).ext j105;replace ha0:=j105.at ha0;replace ha1:=j105.at ha1;replace ha2:=j105.at ha2;replace ha3:=j105.at ha3;replace eb:=eb.trans j105;clear j105;ac_rfl;intro La J106 uLa j106 hLa;clear uLa;replace vw1:=λ (_:Unit)=>(vw1 ()).ext j106;replace vw2:=λ (_:Unit)=>(vw2 ()).ext j106;replace hs:=λ (_:Unit)=>(hs ()).ext j106;replace ha0:=j106.at ha0;replace ha1:=j106.at ha1;replace ha2:=j106.at ha2;replace ha3:=j106.at ha3;replace ha4:=j106.at ha4;replace eb:=eb.trans j106;clear j106;obtain⟨xw,hatw,hxw⟩:=Ip (x0:=a0) (x1:=a1) (x2:=a2) (x3:=a3) (x4:=a4) hi
  have hW:J106 xw=some (.lst ((wrs i u v).map V.ref)):=by
   rcases hxw with ⟨rfl,rfl⟩|⟨rfl,rfl⟩|⟨rfl,rfl⟩|⟨rfl,rfl⟩|⟨rfl,rfl⟩
   ·exact ha0
   ·exact ha1
   ·exact ha2
   ·exact ha3
   ·exact ha4
  clear hxw ha0 ha1 ha2 ha3 ha4;ac_rfl;clear hatw hLa;intro b0 J107 ub0 j107 hb0;clear ub0;replace vw1:=λ (_:Unit)=>(vw1 ()).ext j107;replace vw2:=λ (_:Unit)=>(vw2 ()).ext j107;replace hs:=λ (_:Unit)=>(hs ()).ext j107;replace hW:=j107.at hW;replace eb:=eb.trans j107;clear j107;ac_rfl;intro b1 J108 ub1 j108 hb1;clear ub1;replace vw1:=λ (_:Unit)=>(vw1 ()).ext j108;replace vw2:=λ (_:Unit)=>(vw2 ()).ext j108;replace hs:=λ (_:Unit)=>(hs ()).ext j108;replace hW:=j108.at hW;replace hb0:=j108.at hb0;replace eb:=eb.trans j108;clear j108;ac_rfl;intro b2 J109 ub2 j109 hb2;clear ub2;replace vw1:=λ (_:Unit)=>(vw1 ()).ext j109;replace vw2:=λ (_:Unit)=>(vw2 ()).ext j109;replace hs:=λ (_:Unit)=>(hs ()).ext j109;replace hW:=j109.at hW;replace hb0:=j109.at hb0;replace hb1:=j109.at hb1;replace eb:=eb.trans j109;clear j109;ac_rfl;intro b3 J110 ub3 j110 hb3;clear ub3;replace vw1:=λ (_:Unit)=>(vw1 ()).ext j110;replace vw2:=λ (_:Unit)=>(vw2 ()).ext j110;replace hs:=λ (_:Unit)=>(hs ()).ext j110;replace hW:=j110.at hW;replace hb0:=j110.at hb0;replace hb1:=j110.at hb1;replace hb2:=j110.at hb2;replace eb:=eb.trans j110;clear j110;ac_rfl;intro b4 J111 ub4 j111 hb4;clear ub4;replace vw1:=λ (_:Unit)=>(vw1 ()).ext j111;replace vw2:=λ (_:Unit)=>(vw2 ()).ext j111;replace hs:=λ (_:Unit)=>(hs ()).ext j111;replace hW:=j111.at hW;replace hb0:=j111.at hb0;replace hb1:=j111.at hb1;replace hb2:=j111.at hb2;replace hb3:=j111.at hb3;replace eb:=eb.trans j111;clear j111;ac_rfl;intro Lb J112 uLb j112 hLb;clear uLb;replace vw1:=λ (_:Unit)=>(vw1 ()).ext j112;replace vw2:=λ (_:Unit)=>(vw2 ()).ext j112;replace hs:=λ (_:Unit)=>(hs ()).ext j112;replace hW:=j112.at hW;replace hb0:=j112.at hb0;replace hb1:=j112.at hb1;replace hb2:=j112.at hb2;replace hb3:=j112.at hb3;replace hb4:=j112.at hb4;replace eb:=eb.trans j112;clear j112;obtain⟨xr,hatr,hxr⟩:=Ip (x0:=b0) (x1:=b1) (x2:=b2) (x3:=b3) (x4:=b4) hi
  have hR:J112 xr=some (.lst ((rds i u v).map V.ref)):=by
   rcases hxr with ⟨rfl,rfl⟩|⟨rfl,rfl⟩|⟨rfl,rfl⟩|⟨rfl,rfl⟩|⟨rfl,rfl⟩
   ·exact hb0
   ·exact hb1
   ·exact hb2
   ·exact hb3
   ·exact hb4
  clear hxr hb0 hb1 hb2 hb3 hb4;ac_rfl;clear hatr hLb;have hlw:(wrs i u v).length < sizeLine:=tY %[0|8];have hlr:(rds i u v).length < sizeLine:=tY %[0|8];have hs0:=hs;have vw10:=vw1;have vw20:=vw2;have hW0:=hW;have hR0:=hR;have eb0:=eb;have em0:=Ext.refl J112;have er:=Ext.refl J112;refine zd (hs ()) λ m1 J113 fm1 j113 hm1=>?_;replace vw1:=λ (_:Unit)=>(vw1 ()).ext j113;replace vw2:=λ (_:Unit)=>(vw2 ()).ext j113;replace hs:=λ (_:Unit)=>(hs ()).ext j113;replace hW:=j113.at hW;replace hR:=j113.at hR;replace er:=er.trans j113;clear j113;ac_rfl;rw [iw];refine⟨_,hm1,hW,by omega,vw1 (),λ J114 j114=>?_⟩;replace vw1:=λ (_:Unit)=>(vw1 ()).ext j114;replace vw2:=λ (_:Unit)=>(vw2 ()).ext j114;replace hs:=λ (_:Unit)=>(hs ()).ext j114;replace hW:=j114.at hW;replace hR:=j114.at hR;replace hm1:=j114.at hm1;replace er:=er.trans j114;clear j114;ac_rfl;refine sF (hs ()) λ m2 J115 fm2 j115 hm2=>?_;replace vw1:=λ (_:Unit)=>(vw1 ()).ext j115;replace vw2:=λ (_:Unit)=>(vw2 ()).ext j115;replace hs:=λ (_:Unit)=>(hs ()).ext j115;replace hW:=j115.at hW;replace hR:=j115.at hR;replace hm1:=j115.at hm1;replace er:=er.trans j115;clear j115;ac_rfl;rw [iw];refine⟨_,hm2,hR,by omega,vw2 (),λ J116 j116=>?_⟩;replace vw1:=λ (_:Unit)=>(vw1 ()).ext j116;replace vw2:=λ (_:Unit)=>(vw2 ()).ext j116;replace hs:=λ (_:Unit)=>(hs ()).ext j116;replace hW:=j116.at hW;replace hR:=j116.at hR;replace hm1:=j116.at hm1;replace hm2:=j116.at hm2;replace er:=er.trans j116;clear j116;ac_rfl;have ek1:Ext J112 (upd J116 m1 (.lst ((wrs i u v).map V.ref++[V.non]))):=er.put fm1;generalize upd J116 m1 (.lst ((wrs i u v).map V.ref++[V.non]))=K1 at *;clear hs vw1 vw2 hW hR hm1 hm2 er fm1 fm2;have hs:=λ (_:Unit)=>(hs0 ()).ext ek1;have vw1:=λ (_:Unit)=>(vw10 ()).ext ek1;have vw2:=λ (_:Unit)=>(vw20 ()).ext ek1;have hW:=ek1.at hW0;have hR:=ek1.at hR0;have eb1:=eb0.trans ek1;have hs1:=hs;have vw11:=vw1;have vw21:=vw2;have hW1:=hW;have hR1:=hR;have er:=Ext.refl K1;refine sF (hs ()) λ m3 J117 fm3 j117 hm3=>?_;replace vw1:=λ (_:Unit)=>(vw1 ()).ext j117;replace vw2:=λ (_:Unit)=>(vw2 ()).ext j117;replace hs:=λ (_:Unit)=>(hs ()).ext j117;replace hW:=j117.at hW;replace hR:=j117.at hR;replace er:=er.trans j117;clear j117;ac_rfl;have ek2:Ext K1 (upd J117 m3 (.lst ((rds i u v).map V.ref++[V.non]))):=er.put fm3;generalize upd J117 m3 (.lst ((rds i u v).map V.ref++[V.non]))=K2 at *;clear hs vw1 vw2 hW hR hm3 er fm3;have hs:=λ (_:Unit)=>(hs1 ()).ext ek2;have vw1:=λ (_:Unit)=>(vw11 ()).ext ek2;have vw2:=λ (_:Unit)=>(vw21 ()).ext ek2;have hW:=ek2.at hW1;have hR:=ek2.at hR1;have eb:=eb1.trans ek2;clear hs0 hs1 vw10 vw11 vw20 vw21 hW0 hW1 hR0 hR1;refine zd (hs ()) λ m4 J118 fm4 j118 hm4=>?_;replace vw1:=λ (_:Unit)=>(vw1 ()).ext j118;replace vw2:=λ (_:Unit)=>(vw2 ()).ext j118;replace hs:=λ (_:Unit)=>(hs ()).ext j118;replace hW:=j118.at hW;replace hR:=j118.at hR;replace eb:=eb.trans j118;clear j118;ac_rfl;rw [iw];refine⟨_,hm4,hW,by omega,vw1 (),λ J119 j119=>?_⟩;replace vw1:=λ (_:Unit)=>(vw1 ()).ext j119;replace vw2:=λ (_:Unit)=>(vw2 ()).ext j119;replace hs:=λ (_:Unit)=>(hs ()).ext j119;replace hW:=j119.at hW;replace hR:=j119.at hR;replace hm4:=j119.at hm4;replace eb:=eb.trans j119;clear j119;ac_rfl;refine sF (hs ()) λ m5 J120 fm5 j120 hm5=>?_;replace vw1:=λ (_:Unit)=>(vw1 ()).ext j120;replace vw2:=λ (_:Unit)=>(vw2 ()).ext j120;replace hs:=λ (_:Unit)=>(hs ()).ext j120;replace hW:=j120.at hW;replace hR:=j120.at hR;replace hm4:=j120.at hm4;replace eb:=eb.trans j120;clear j120;ac_rfl;rw [iw];refine⟨_,hm5,hR,by omega,vw2 (),λ J121 j121=>?_⟩;replace vw1:=λ (_:Unit)=>(vw1 ()).ext j121;replace vw2:=λ (_:Unit)=>(vw2 ()).ext j121;replace hs:=λ (_:Unit)=>(hs ()).ext j121;replace hW:=j121.at hW;replace hR:=j121.at hR;replace hm4:=j121.at hm4;replace hm5:=j121.at hm5;replace eb:=eb.trans j121;clear j121;have k2:=k () J121 eb;clear k;ac_rfl
theorem CM{α β γ:Type}(f:α->β->γ):∀ {a:List α}{b:List β}{i:Nat}{x:α}{y:β},a[i]? = some x->b[i]? = some y->(List.zipWith f a b)[i]? = some (f x y)
 | [],_,_,_,_,h,_=>by cases h
 | _::_,[],_,_,_,_,h=>by cases h
 | x::a,y::b,0,_,_,h,h'=>by cases h;cases h';rfl
 | _::a,_::b,i+1,_,_,h,h'=>CM f (a:=a) (b:=b) (i:=i) (by simpa using h) (by simpa using h')
def wE(vals:List Int)(e:Int)(c1 c2:List Int):List Int:=List.zipWith (λ c a=>vals.getD a.toNat 0+e * vals.getD c.toNat 0) c1 c2
theorem sE(vals:List Int)(e:Int){c1 c2:List Int}(h:c1.length=c2.length):(wE vals e c1 c2).length=c1.length:=by unfold wE;rw [List.length_zipWith];omega
theorem oy(vals:List Int):∀ {c1 c2:List Int},c1.length=c2.length->wE vals 0 c1 c2=aM vals c2
 | [],[],_=>rfl
 | [],_::_,h=>by cases h
 | _::_,[],h=>by cases h
 | c::c1,a::c2,h=>by
  have ih:=oy vals (c1:=c1) (c2:=c2) (by simpa using h)
  show (vals.getD a.toNat 0+0 * vals.getD c.toNat 0)::wE vals 0 c1 c2=vals.getD a.toNat 0::aM vals c2
  rw [ih,Int.zero_mul,Int.add_zero]
theorem zc(vals:List Int):∀ {c1 c2:List Int},wE vals 1 c1 c2=List.zipWith (· + ·) (aM vals c1) (aM vals c2)
 | [],_=>rfl
 | _::_,[]=>rfl
 | c::c1,a::c2=>by
  show (vals.getD a.toNat 0+1 * vals.getD c.toNat 0)::wE vals 1 c1 c2=(vals.getD c.toNat 0+vals.getD a.toNat 0)::List.zipWith (· + ·) (aM vals c1) (aM vals c2)
  rw [zc vals (c1:=c1) (c2:=c2),Int.one_mul,Int.add_comm]
theorem zG{vals:List Int}{e:Int}{c1 c2:List Int}{j:Nat}{c a:Int}(h1:c1[j]? = some c)(h2:c2[j]? = some a):(wE vals e c1 c2)[j]? = some (vals.getD a.toNat 0+e * vals.getD c.toNat 0):=CM _ h1 h2
theorem Gs{vals cs:List Int}{j:Nat}{a:Int}(h:cs[j]? = some a):(aM vals cs)[j]? = some (vals.getD a.toNat 0):=by unfold aM;rw [getElem?_map,h];rfl
def DuI(H H':Hp)(r:Addr)(xs:List Int):Prop:=Ext H H'/\H' r=some (.lst (xs.map V.int))
abbrev qw  (d:Addr) (w:Int) (hh:Addr) (tt:Addr) (z:Int) (H:Hp) (Q:VK) (E:XK):Prop:=∃ (i:Nat) (vals c1 c2:List Int),w=(i:Int)/\i < 5/\H d=some (.lst (vals.map V.int))/\H hh=some (.lst (c1.map V.int))/\H tt=some (.lst (c2.map V.int))/\vals.length<=4096/\c1.length=c2.length/\c1.length<=4096/\bW c1 vals.length/\bW c2 vals.length/\∀ (r:Addr) (H':Hp),H r=none->Ext H H'->H' r=some (.lst ((CC i vals c1 c2 z).map V.int))->Q (.ref r) H'
def sQ  : Sp:=λ vs H Q E=>∃ (d:Addr) (w:Int) (hh:Addr) (tt:Addr) (z:Int),vs=[.ref d,.int w,.ref hh,.ref tt,.int z]/\(qw  d w hh tt z H Q E)
theorem yQ  (d:Addr) (w:Int) (hh:Addr) (tt:Addr) (z:Int) (H:Hp) (Q:VK) (E:XK):sQ  [.ref d,.int w,.ref hh,.ref tt,.int z] H Q E=(qw  d w hh tt z H Q E):=HF (f:=λ (d:Addr) (w:Int) (hh:Addr) (tt:Addr) (z:Int)=>[.ref d,.int w,.ref hh,.ref tt,.int z]) (λ _ _ _ _ _ _ _ _ _ _ h=>by cases h;exact⟨rfl,rfl,rfl,rfl,rfl⟩) d w hh tt z
theorem yj  {vs:List V}{H:Hp}{Q:VK}{E:XK}(h:sQ  vs H Q E):vs.length=5:=HG h λ _ _ _ _ _=>rfl
theorem o8(T:Tx K mg t):aB P w K mg base CX0 1 t.a__law_due t.d__law_due ["_law_due_here", "_law_way", "_law_here", "_law_there", "_law_value"] sQ:=by
 refine T.F__law_due.ok bL (λ vs H Q E h=>yj h) (λ cdv A' outer s0 H vs Q E hr h=>?_)
 ·obtain⟨d,_,hh,tt,z,rfl,i,vals,c1,c2,rfl,hi,hd,hhh,htt,hv,hcc,hcl,on1,on2,k⟩:=h;refine⟨_,%[%[5,bL,%[dg,∅,T.z_list,nofun,%[%[0|0]|1],⋯,⋯,∅,∅|41]|4],%[%[%[(cw hr.units),%[1|0],%[0|2],(az _)|17],%[%[Jp,rfl,%[%[2|0]|22],%[6,bL|5],%[%[%[4|0],(@jK _ _ _ _ _ _ _ %[5|0] %[6|0] eN (by intros;rfl)),∅,∅,∅|37]|9],(by intros;rfl)|23]|9],(@au _)|18],%[%[%[qC,%[1|0],%[0|2],(az _)|17],%[%[Jp,rfl,%[∅,T.z_zip,%[%[2|0],%[%[3|0]|1]|1],∅,∅|42],(%[(2),rfl,%[%[6,bL|5],%[%[7,bL|5],(@aJ _),∅|16],∅|16],∅,∅|25].mono λ _ _ _ _ h=>bP h),%[%[%[bb,%[eV,%[0|0],%[7|0],(λ _ _=>rfl)|19],%[eh,%[mL,∅,T.z_int,nofun,%[%[(cw hr.units),%[1|0],%[0|2],(az _)|38]|1],⋯,⋯,∅,∅|41],%[eV,%[0|0],%[6|0],(λ _ _=>rfl)|19]|12]|12],(@jK _ _ _ _ _ _ _ %[5|0] %[6|0] eN (by intros;rfl)),∅,∅,∅|37]|9],(by intros;rfl)|23]|9],(@au _)|18],%[%[%[(cw hr.units),%[1|0],%[0|2],(az _)|17],%[%[Jp,rfl,%[∅,T.z_zip,%[%[3|0],%[%[2|0]|1]|1],∅,∅|42],(%[(2),rfl,%[%[6,bL|5],%[%[7,bL|5],(@aJ _),∅|16],∅|16],∅,∅|25].mono λ _ _ _ _ h=>bP h),%[%[%[eV,%[0|0],%[7|0],(λ _ _=>rfl)|19],(@jK _ _ _ _ _ _ _ %[5|0] %[6|0] eN (by intros;rfl)),∅,∅,∅|37]|9],(by intros;rfl)|23]|9],(@au _)|18],%[%[%[5|0]|11]|9]|10]|10]|10]|10],?_⟩;rw [show ak ["_law_due_here", "_law_way", "_law_here", "_law_there", "_law_value", "_law_found", "_law_cell", "_law_ahead"] [.ref d,.int (i:Int),.ref hh,.ref tt,.int z]=[some (.ref d),some (.int (i:Int)),some (.ref hh),some (.ref tt),some (.int z),none,none,none] from rfl];exists k;exists on1;exists on2;exists hcc;ac_rfl;intro r H1 hr1 e1 h1;have ini:DuI H H1 r vals:=⟨e1,h1⟩;have hd1:=e1.at hd;have hh1:=e1.at hhh;have ht1:=e1.at htt;have kf:∀ H',DuI H H' r (CC i vals c1 c2 z)->Q (.ref r) H':=λ H' q=>k () r H' hr1 q.1 q.2;exists kf;clear k e1;have hic:i=0\/i=1\/i=2\/i=3\/i=4:=by omega
  rcases hic with rfl|rfl|rfl|rfl|rfl
  ·have k2:=kf () H1 ini;clear kf ini;ac_rfl
  ·clear h1;ac_rfl;refine ej (xs:=c1.map V.int) (λ j σ H'=>∃ v6 v7:Option V,σ=[some (.ref d),some (.int 1),some (.ref hh),some (.ref tt),some (.int z),some (.ref r),v6,v7]/\DuI H H' r (hG vals (c1.take j) z)) ⟨none,none,rfl,ini⟩ (λ j σ H' _ ⟨_,_,_,e,_⟩=>e.at hhh) ?_ ?_
   ·clear ini kf hd1 hh1 ht1;rintro j y _ H2 hj ⟨v6,v7,rfl,e2,h2⟩;rw [Jl] at hj;obtain⟨c,hjc,rfl⟩:=Jd.mp hj;have hcb:=on1 () c (Jm hjc);have hlen:=fX z (c1.take j) vals;have hput:=λ (_:Unit)=>jW (vals:=vals) (z:=z) hjc;generalize hG vals (c1.take j) z=vv at *;have hix:ixN vv.length c=some c.toNat:=ow hcb.1 (by rw [hlen];exact hcb.2);have fin:DuI H (upd H2 r (.lst ((vv.set c.toNat z).map V.int))) r (hG vals (c1.take (j+1)) z):=⟨e2.put hr1,by rw [hput ()];exact ag⟩;rw [←dt] at fin;clear hj hjc hlen hput;simp! only [↓aS]
    first|exact⟨_,_,rfl,fin⟩|exact⟨_,_,rfl⟩
   ·rintro _ H2 ⟨v6,v7,rfl,q⟩;rw [Jg,JB] at q;have k2:=kf () H2 q;clear kf q;ac_rfl
  ·clear h1;ac_rfl;refine gw (ka:=false) (kb:=false) (xs:=c1.map V.int) (ys:=c2.map V.int) (λ j σ H'=>∃ v6 v7:Option V,σ=[some (.ref d),some (.int 2),some (.ref hh),some (.ref tt),some (.int z),some (.ref r),v6,v7]/\DuI H H' r (dY vals (c1.take j) ((wE vals 0 c1 c2).take j))) ⟨_,_,rfl,ini⟩ (λ j σ H' ⟨_,_,_,e,_⟩=>⟨e.at hhh,e.at htt⟩) ?_ ?_
   ·clear kf ini;rintro j u x q _ H2 H3 hu hx ⟨v6,v7,rfl,e2,h2⟩ hq e3 h3;rw [Jl] at hu hx;obtain⟨c,hc,rfl⟩:=Jd.mp hu;obtain⟨ah,ha,rfl⟩:=Jd.mp hx;have hcb:=on1 () c (Jm hc);have hab:=on2 () ah (Jm ha);have hlen:=aI vals (c1.take j) ((wE vals 0 c1 c2).take j);have hput:=λ (_:Unit)=>ek (vals:=vals) hc (zG (vals:=vals) (e:=0) hc ha);have h2_3:=e3.at h2;have hd3:=(e2.trans e3).at hd;generalize dY vals (c1.take j) ((wE vals 0 c1 c2).take j)=vv at *;have hvl:vv.length=vals.length:=by rw [hlen]
    have hix:ixN vv.length c=some c.toNat:=ow hcb.1 (by rw [hvl];exact hcb.2);have at1:=dn hab.1 hab.2;have at2:=dn hcb.1 hcb.2;have cm0:jH 0 (vals.getD c.toNat 0):=.inl ⟨by decide,by decide⟩;have cm1:jH 1 (vals.getD c.toNat 0):=.inl ⟨by decide,by decide⟩;have fin:DuI H (upd H3 r (.lst ((vv.set c.toNat (vals.getD ah.toNat 0+0 * vals.getD c.toNat 0)).map V.int))) r (dY vals (c1.take (j+1)) ((wE vals 0 c1 c2).take (j+1))):=⟨(e2.trans e3).put hr1,by rw [hput ()];exact ag⟩;rw [←dt] at fin;clear hu hx hc ha hlen hput h2 hvl hq;generalize vals.getD ah.toNat 0=g1 at *;generalize vals.getD c.toNat 0=g2 at *;simp! only [↓aS]
    first|exact⟨_,_,rfl,fin⟩|exact⟨_,_,rfl⟩
   rintro _ H2 ⟨v6,v7,rfl,q⟩;have hm:min (c1.map V.int).length (c2.map V.int).length=c1.length:=by rw [Jg,Jg];have:=hcc ();omega
   rw [hm,JB,Kv (by rw [sE _ _ (hcc ())];exact Je _)] at q;rw [oy vals (hcc ())] at q;have k2:=kf () H2 q;clear kf q hm ini;ac_rfl
  ·clear h1;ac_rfl;refine gw (ka:=false) (kb:=false) (xs:=c1.map V.int) (ys:=c2.map V.int) (λ j σ H'=>∃ v6 v7:Option V,σ=[some (.ref d),some (.int 3),some (.ref hh),some (.ref tt),some (.int z),some (.ref r),v6,v7]/\DuI H H' r (dY vals (c1.take j) ((wE vals 0 c1 c2).take j))) ⟨_,_,rfl,ini⟩ (λ j σ H' ⟨_,_,_,e,_⟩=>⟨e.at hhh,e.at htt⟩) ?_ ?_
   ·clear kf ini;rintro j u x q _ H2 H3 hu hx ⟨v6,v7,rfl,e2,h2⟩ hq e3 h3;rw [Jl] at hu hx;obtain⟨c,hc,rfl⟩:=Jd.mp hu;obtain⟨ah,ha,rfl⟩:=Jd.mp hx;have hcb:=on1 () c (Jm hc);have hab:=on2 () ah (Jm ha);have hlen:=aI vals (c1.take j) ((wE vals 0 c1 c2).take j);have hput:=λ (_:Unit)=>ek (vals:=vals) hc (zG (vals:=vals) (e:=0) hc ha);have h2_3:=e3.at h2;have hd3:=(e2.trans e3).at hd;generalize dY vals (c1.take j) ((wE vals 0 c1 c2).take j)=vv at *;have hvl:vv.length=vals.length:=by rw [hlen]
    have hix:ixN vv.length c=some c.toNat:=ow hcb.1 (by rw [hvl];exact hcb.2);have at1:=dn hab.1 hab.2;have at2:=dn hcb.1 hcb.2;have cm0:jH 0 (vals.getD c.toNat 0):=.inl ⟨by decide,by decide⟩;have cm1:jH 1 (vals.getD c.toNat 0):=.inl ⟨by decide,by decide⟩;have fin:DuI H (upd H3 r (.lst ((vv.set c.toNat (vals.getD ah.toNat 0+0 * vals.getD c.toNat 0)).map V.int))) r (dY vals (c1.take (j+1)) ((wE vals 0 c1 c2).take (j+1))):=⟨(e2.trans e3).put hr1,by rw [hput ()];exact ag⟩;rw [←dt] at fin;clear hu hx hc ha hlen hput h2 hvl hq;generalize vals.getD ah.toNat 0=g1 at *;generalize vals.getD c.toNat 0=g2 at *;simp! only [↓aS]
    first|exact⟨_,_,rfl,fin⟩|exact⟨_,_,rfl⟩
   rintro _ H2 ⟨v6,v7,rfl,q⟩;have hm:min (c1.map V.int).length (c2.map V.int).length=c1.length:=by rw [Jg,Jg];have:=hcc ();omega
   rw [hm,JB,Kv (by rw [sE _ _ (hcc ())];exact Je _)] at q;rw [oy vals (hcc ())] at q;have ini2:DuI H H2 r (dY (dY vals c1 (aM vals c2)) (c2.take 0) ((aM vals c1).take 0)):=q;have hh2:=q.1.at hhh;have ht2:=q.1.at htt;have hpl:=aI vals c1 (aM vals c2);obtain⟨V1,hV1⟩:∃ V1,dY vals c1 (aM vals c2)=V1:=⟨_,rfl⟩;rw [hV1] at ini2 hpl;have kf2:∀ H',DuI H H' r (dY V1 c2 (aM vals c1))->Q (.ref r) H':=λ H' q=>kf () H' (by show DuI H H' r (dY (dY vals c1 (aM vals c2)) c2 (aM vals c1));rw [hV1];exact q);exists kf2;exists hpl;clear kf q hm hV1 ini;ac_rfl;refine gw (ka:=false) (kb:=false) (xs:=c2.map V.int) (ys:=c1.map V.int) (λ j σ H'=>∃ v6 v7:Option V,σ=[some (.ref d),some (.int 3),some (.ref hh),some (.ref tt),some (.int z),some (.ref r),v6,v7]/\DuI H H' r (dY V1 (c2.take j) ((aM vals c1).take j))) ⟨_,_,rfl,ini2⟩ (λ j σ H' ⟨_,_,_,e,_⟩=>⟨e.at htt,e.at hhh⟩) ?_ ?_
   ·clear kf2 ini2;rintro j u x q _ H2 H3 hu hx ⟨v6,v7,rfl,e2,h2⟩ hq e3 h3;rw [Jl] at hu hx;obtain⟨c,hc,rfl⟩:=Jd.mp hu;obtain⟨ah,ha,rfl⟩:=Jd.mp hx;have hcb:=on2 () c (Jm hc);have hab:=on1 () ah (Jm ha);have hlen:=aI V1 (c2.take j) ((aM vals c1).take j);have hput:=λ (_:Unit)=>ek (vals:=V1) hc (Gs (vals:=vals) ha);have h2_3:=e3.at h2;have hd3:=(e2.trans e3).at hd;generalize dY V1 (c2.take j) ((aM vals c1).take j)=vv at *;have hvl:vv.length=vals.length:=by rw [hlen];exact hpl ()
    have hix:ixN vv.length c=some c.toNat:=ow hcb.1 (by rw [hvl];exact hcb.2);have at1:=dn hab.1 hab.2;have at2:=dn hcb.1 hcb.2;have cm0:jH 0 (vals.getD c.toNat 0):=.inl ⟨by decide,by decide⟩;have cm1:jH 1 (vals.getD c.toNat 0):=.inl ⟨by decide,by decide⟩;have fin:DuI H (upd H3 r (.lst ((vv.set c.toNat (vals.getD ah.toNat 0)).map V.int))) r (dY V1 (c2.take (j+1)) ((aM vals c1).take (j+1))):=⟨(e2.trans e3).put hr1,by rw [hput ()];exact ag⟩;rw [←dt] at fin;clear hu hx hc ha hlen hput h2 hvl hq;generalize vals.getD ah.toNat 0=g1 at *;generalize vals.getD c.toNat 0=g2 at *;simp! only [↓aS]
    first|exact⟨_,_,rfl,fin⟩|exact⟨_,_,rfl⟩
   rintro _ H3 ⟨v6,v7,rfl,q⟩;have hm:min (c2.map V.int).length (c1.map V.int).length=c2.length:=by rw [Jg,Jg];have:=hcc ();omega
   rw [hm,take_length,List.take_of_length_le (by unfold aM;rw [length_map];have:=hcc ();omega)] at q;have k2:=kf2 () H3 q;clear kf2 q hm ini2;ac_rfl
  ·clear h1;ac_rfl;refine gw (ka:=false) (kb:=false) (xs:=c1.map V.int) (ys:=c2.map V.int) (λ j σ H'=>∃ v6 v7:Option V,σ=[some (.ref d),some (.int 4),some (.ref hh),some (.ref tt),some (.int z),some (.ref r),v6,v7]/\DuI H H' r (dY vals (c1.take j) ((wE vals 1 c1 c2).take j))) ⟨_,_,rfl,ini⟩ (λ j σ H' ⟨_,_,_,e,_⟩=>⟨e.at hhh,e.at htt⟩) ?_ ?_
   ·clear kf ini;rintro j u x q _ H2 H3 hu hx ⟨v6,v7,rfl,e2,h2⟩ hq e3 h3;rw [Jl] at hu hx;obtain⟨c,hc,rfl⟩:=Jd.mp hu;obtain⟨ah,ha,rfl⟩:=Jd.mp hx;have hcb:=on1 () c (Jm hc);have hab:=on2 () ah (Jm ha);have hlen:=aI vals (c1.take j) ((wE vals 1 c1 c2).take j);have hput:=λ (_:Unit)=>ek (vals:=vals) hc (zG (vals:=vals) (e:=1) hc ha);have h2_3:=e3.at h2;have hd3:=(e2.trans e3).at hd;generalize dY vals (c1.take j) ((wE vals 1 c1 c2).take j)=vv at *;have hvl:vv.length=vals.length:=by rw [hlen]
    have hix:ixN vv.length c=some c.toNat:=ow hcb.1 (by rw [hvl];exact hcb.2);have at1:=dn hab.1 hab.2;have at2:=dn hcb.1 hcb.2;have cm0:jH 0 (vals.getD c.toNat 0):=.inl ⟨by decide,by decide⟩;have cm1:jH 1 (vals.getD c.toNat 0):=.inl ⟨by decide,by decide⟩;have fin:DuI H (upd H3 r (.lst ((vv.set c.toNat (vals.getD ah.toNat 0+1 * vals.getD c.toNat 0)).map V.int))) r (dY vals (c1.take (j+1)) ((wE vals 1 c1 c2).take (j+1))):=⟨(e2.trans e3).put hr1,by rw [hput ()];exact ag⟩;rw [←dt] at fin;clear hu hx hc ha hlen hput h2 hvl hq;generalize vals.getD ah.toNat 0=g1 at *;generalize vals.getD c.toNat 0=g2 at *;simp! only [↓aS]
    first|exact⟨_,_,rfl,fin⟩|exact⟨_,_,rfl⟩
   rintro _ H2 ⟨v6,v7,rfl,q⟩;have hm:min (c1.map V.int).length (c2.map V.int).length=c1.length:=by rw [Jg,Jg];have:=hcc ();omega
   rw [hm,JB,Kv (by rw [sE _ _ (hcc ())];exact Je _)] at q;rw [zc vals] at q;have k2:=kf () H2 q;clear kf q hm ini;ac_rfl
theorem zo{room f n p:Int}(hr:1<=room/\room<=1000000)(hf:0<=f/\f < room)(hn:1<=n/\n<=1000000000):jP room f [(n,0)]:=by
 have ax:dQ [(n,(0:Int))]:=⟨by simp,λ a ha=>by rw [Jh.mp ha];exact⟨by show 1<=n;omega,by show n<=_;omega⟩⟩;have e:[(n,(0:Int))].map aY=[(n,0)]:=by show [(n,if n > 1 then (0:Int) else 0)]=_;rw [ite_self]
 have l:aE [(n,(0:Int))]=0:=by show min 0 ((n - 1) * 0)+0=_;rw [Int.mul_zero];decide
 have g:aF [(n,(0:Int))]=0:=by show max 0 ((n - 1) * 0)+0=_;rw [Int.mul_zero];decide
 exact⟨ax,hr.1,by omega,by rw [e,l];omega,by rw [e,g];omega⟩
theorem tQ{C:Addr}{H:Hp}{x:Addr}{room f n:Int}(hn:1<=n/\n<=1000000000)(v:aw C H x room f ([(n,(0:Int))].map aY)):VwN C H x room n:=by
 have ax:dQ [(n,(0:Int))]:=⟨by simp,λ a ha=>by rw [Jh.mp ha];exact⟨by show 1<=n;omega,by show n<=_;omega⟩⟩;exact⟨f,_,v,ax.kept,by rw [gL];show af [n]=n;simp [af]⟩
abbrev qj(t:Adr)(e:Addr)(H:Hp)(Q:VK)(E:XK):Prop:=∃ oe:Obj,H e=some (gQ oe)/\(∃ vs,oe.data=.fields vs)/\((oe.cls=.ref t.a_NoPair/\oe.dict=none/\∀ (r:Addr) (H':Hp),Ext H H'->H' r=some (.tup [.str "pair",.int 0])->Q (.ref r) H')\/(oe.cls=.ref t.a_NoCount/\oe.dict=none/\∀ (r:Addr) (H':Hp),Ext H H'->H' r=some (.tup [.str "count",.int 0])->Q (.ref r) H')\/(oe.cls=.ref t.a_NoView/\oe.dict=none/\∀ (r:Addr) (H':Hp),Ext H H'->H' r=some (.tup [.str "view",.int 0])->Q (.ref r) H')\/∃ (dx:Addr) (n:Int),oe.cls=.ref t.a_TooMany/\oe.dict=some dx/\H dx=some (.xd [("number",.int n)])/\∀ (r:Addr) (H':Hp),Ext H H'->H' r=some (.tup [.str "many",.int n])->Q (.ref r) H')
def iC(t:Adr):Sp:=λ vs H Q E=>∃ (e:Addr),vs=[.ref e]/\(qj t e H Q E)
theorem iu(t:Adr)(e:Addr)(H:Hp)(Q:VK)(E:XK):iC t [.ref e] H Q E=(qj t e H Q E):=lS (f:=λ (e:Addr)=>[.ref e]) (λ _ _ h=>by cases h;exact rfl) e
theorem x8(t:Adr){vs:List V}{H:Hp}{Q:VK}{E:XK}(h:iC t vs H Q E):vs.length=1:=jt h λ _=>rfl
theorem lD(T:Tx K mg t):wV P w K mg base CX0 1 t.a__law_word t.d__law_word ["_law_e"] (iC t):=by
 refine T.F__law_word.okH i8 (λ vs H Q E h=>x8 _ h) (λ cdv A outer s H vs Q E ee hr hH h=>?_)
 ·obtain⟨e,rfl,oe,he,hdat,hc⟩:=h;refine⟨_,%[%[1,i8,%[%[%[isinstance,(df (K:=K) rfl),%[%[0|0],%[(@bV _ _ (.ref t.a_NoPair) _ _ ∅ T.m_NoPair rfl ⋯)|1]|1]|6],%[%[isinstance,(df (K:=K) rfl),%[%[0|0],%[(@bV _ _ (.ref t.a_NoCount) _ _ ∅ T.m_NoCount rfl ⋯)|1]|1]|6],%[%[isinstance,(df (K:=K) rfl),%[%[0|0],%[(@bV _ _ (.ref t.a_NoView) _ _ ∅ T.m_NoView rfl ⋯)|1]|1]|6],%[%[isinstance,(df (K:=K) rfl),%[%[0|0],%[(@bV _ _ (.ref t.a_TooMany) _ _ ∅ T.m_TooMany rfl ⋯)|1]|1]|6]|1]|1]|1]|1]|14]|4],%[%[(PW.pt %[%[(b9 hr.units),%[Jz,PySem.F.slot_list_count,PySem.F.type_list_count,xG,%[1|0],%[(@fh _ _ _ _)|1],∅,∅,∅,∅,∅|39],%[0|2],(az _)|17],(@fQ _ _ _ _ %[%[%[isinstance,(df (K:=K) rfl),%[%[0|0],%[(@dk _ _ (.ty "ValueError") (.type "ValueError") _ ∅ T.z_ValueError nofun rfl ⋯ ⋯)|1]|1]|6],(by intros;rfl)|32]|33])|35]),%[%[%[%[(@b5 _ _ _ _),%[%[0|2]|1]|1]|24]|11]|9],(@au _)|18],%[%[%[%[eV,%[1|0],%[0|2],(λ _ _=>rfl)|19],(by intros;rfl)|32],%[%[%[%[(@b5 _ _ _ _),%[(@xo _ (K) rfl _ _ _ _ %[0|0] rfl)|1]|1]|24]|11]|9],(@au _)|18],%[%[%[%[%[eV,%[%[(@b5 _ _ _ _),%[(@b5 _ _ _ _),%[(@b5 _ _ _ _)|1]|1]|1]|14],%[Jz,PySem.F.slot_list_index,PySem.F.type_list_index,xF,%[1|0],%[(@fh _ _ _ _)|1],∅,∅,∅,∅,∅|39],(λ _ _=>rfl)|19],%[%[0|2]|1]|1]|24]|11]|9]|10]|10]|10],?_⟩;rw [show ak ["_law_e", "_law_some"] [.ref e]=[some (.ref e),none] from rfl]
  rcases hc with ⟨hcl,hdc,k⟩|⟨hcl,hdc,k⟩|⟨hcl,hdc,k⟩|⟨dx,n,hcl,hdc,hdx,k⟩
  ·exists k;simp! only [T.e_NoPair,T.k_NoPair_NoPair,T.k_NoPair_NoCount,T.k_NoPair_NoView,T.k_NoPair_TooMany,T.k_NoPair_ValueError];intro l3 H3 _ e3 h3;obtain⟨bs,b1,b2,b3,b4,h3'⟩:∃ bs:List Bool,bs.count true=1/\true∈bs/\bs.idxOf true=0/\atI (bs.map V.bl) 3=some (.bl false)/\H3 l3=some (.lst (bs.map V.bl)):=⟨[true,false,false,false],by decide,by decide,by decide,aV (j:=3) rfl,h3⟩;have g5:=e3.at he;clear h3 he;simp! only [T.e_NoPair,T.k_NoPair_NoPair,T.k_NoPair_NoCount,T.k_NoPair_NoView,T.k_NoPair_TooMany,T.k_NoPair_ValueError];intro l4 H4 _ e4 h4;have h3_4:=e4.at h3';clear h3';simp! only [T.e_NoPair,T.k_NoPair_NoPair,T.k_NoPair_NoCount,T.k_NoPair_NoView,T.k_NoPair_TooMany,T.k_NoPair_ValueError];intro r5 H5 _ e5 h5;exact k () r5 H5 (e3.trans (e4.trans e5)) h5
  ·exists k;simp! only [T.e_NoCount,T.k_NoCount_NoPair,T.k_NoCount_NoCount,T.k_NoCount_NoView,T.k_NoCount_TooMany,T.k_NoCount_ValueError];intro l3 H3 _ e3 h3;obtain⟨bs,b1,b2,b3,b4,h3'⟩:∃ bs:List Bool,bs.count true=1/\true∈bs/\bs.idxOf true=1/\atI (bs.map V.bl) 3=some (.bl false)/\H3 l3=some (.lst (bs.map V.bl)):=⟨[false,true,false,false],by decide,by decide,by decide,aV (j:=3) rfl,h3⟩;have g5:=e3.at he;clear h3 he;simp! only [T.e_NoCount,T.k_NoCount_NoPair,T.k_NoCount_NoCount,T.k_NoCount_NoView,T.k_NoCount_TooMany,T.k_NoCount_ValueError];intro l4 H4 _ e4 h4;have h3_4:=e4.at h3';clear h3';simp! only [T.e_NoCount,T.k_NoCount_NoPair,T.k_NoCount_NoCount,T.k_NoCount_NoView,T.k_NoCount_TooMany,T.k_NoCount_ValueError];intro r5 H5 _ e5 h5;exact k () r5 H5 (e3.trans (e4.trans e5)) h5
  ·exists k;simp! only [T.e_NoView,T.k_NoView_NoPair,T.k_NoView_NoCount,T.k_NoView_NoView,T.k_NoView_TooMany,T.k_NoView_ValueError];intro l3 H3 _ e3 h3;obtain⟨bs,b1,b2,b3,b4,h3'⟩:∃ bs:List Bool,bs.count true=1/\true∈bs/\bs.idxOf true=2/\atI (bs.map V.bl) 3=some (.bl false)/\H3 l3=some (.lst (bs.map V.bl)):=⟨[false,false,true,false],by decide,by decide,by decide,aV (j:=3) rfl,h3⟩;have g5:=e3.at he;clear h3 he;simp! only [T.e_NoView,T.k_NoView_NoPair,T.k_NoView_NoCount,T.k_NoView_NoView,T.k_NoView_TooMany,T.k_NoView_ValueError];intro l4 H4 _ e4 h4;have h3_4:=e4.at h3';clear h3';simp! only [T.e_NoView,T.k_NoView_NoPair,T.k_NoView_NoCount,T.k_NoView_NoView,T.k_NoView_TooMany,T.k_NoView_ValueError];intro r5 H5 _ e5 h5;exact k () r5 H5 (e3.trans (e4.trans e5)) h5
  ·exists k;simp! only [T.e_TooMany,T.k_TooMany_NoPair,T.k_TooMany_NoCount,T.k_TooMany_NoView,T.k_TooMany_TooMany,T.k_TooMany_ValueError];intro l3 H3 _ e3 h3;obtain⟨bs,b1,b4,h3'⟩:∃ bs:List Bool,bs.count true=1/\atI (bs.map V.bl) 3=some (.bl true)/\H3 l3=some (.lst (bs.map V.bl)):=⟨[false,false,false,true],by decide,aV (j:=3) rfl,h3⟩;have g5:=e3.at he;have g6:=e3.at hdx;clear h3 he hdx;simp! only [T.e_TooMany,T.k_TooMany_NoPair,T.k_TooMany_NoCount,T.k_TooMany_NoView,T.k_TooMany_TooMany,T.k_TooMany_ValueError];refine⟨e,oe,t.a_TooMany,dx,[("number",.int n)],.int n,rfl,g5,hcl,hdc,hdat,g6,T.e_TooMany,T.na_TooMany_number,rfl,?_⟩;ac_rfl;intro r5 H5 _ e5 h5;exact k () r5 H5 (e3.trans e5) h5
theorem ua{w:Nat}{u v:Addr}{x:V}(hw:w < 5):(rW w u v x).lookup (Str.ofString "run")=none:=by
 match w,hw with
 | 0,_=>rfl
 | 1,_=>rfl
 | 2,_=>rfl
 | 3,_=>rfl
 | 4,_=>rfl
abbrev qv(t:Adr)(w:Int)(u:Addr)(v:Addr)(st:V)(H:Hp)(Q:VK)(E:XK):Prop:=∃ i:Nat,w=(i:Int)/\i < 5/\1<=i/\((∃ (sa l:Addr) (vals:List Int) (r n:Int),st=.ref sa/\u=v/\aN t.a_Store H sa l vals/\VwN t.a_View H u r n/\(r ≠ vals.length\/4096 < n)/\(r ≠ vals.length->∀ (x:Addr) (H':Hp),Ext H H'->H' x=some (.tup [.str "view",.int 0])->Q (.ref x) H')/\(r=vals.length->∀ (x:Addr) (H':Hp),Ext H H'->H' x=some (.tup [.str "many",.int n])->Q (.ref x) H'))\/∃ r1 n1 r2 n2:Int,st=.non/\2<=i/\VwN t.a_View H u r1 n1/\VwN t.a_View H v r2 n2/\(r1 ≠ r2\/n1 ≠ n2)/\(r1 ≠ r2->∀ (x:Addr) (H':Hp),Ext H H'->H' x=some (.tup [.str "pair",.int 0])->Q (.ref x) H')/\(r1=r2->∀ (x:Addr) (H':Hp),Ext H H'->H' x=some (.tup [.str "count",.int 0])->Q (.ref x) H'))
def sP(t:Adr):Sp:=λ vs H Q E=>∃ (w:Int) (u:Addr) (v:Addr) (st:V),vs=[.int w,.ref u,.ref v,st]/\(qv t w u v st H Q E)
theorem eO(t:Adr)(w:Int)(u:Addr)(v:Addr)(st:V)(H:Hp)(Q:VK)(E:XK):sP t [.int w,.ref u,.ref v,st] H Q E=(qv t w u v st H Q E):=CG (f:=λ (w:Int) (u:Addr) (v:Addr) (st:V)=>[.int w,.ref u,.ref v,st]) (λ _ _ _ _ _ _ _ _ h=>by cases h;exact⟨rfl,rfl,rfl,rfl⟩) w u v st
theorem yi(t:Adr){vs:List V}{H:Hp}{Q:VK}{E:XK}(h:sP t vs H Q E):vs.length=4:=CH h λ _ _ _ _=>rfl
theorem jg(T:Tx K mg t):aB P w K mg base CX0 9 t.a__law_refused t.d__law_refused ["_law_way", "_law_one", "_law_other", "_law_store"] (sP t):=by
 have G__law_made:=%[lC|45];have GH__law_word:=%[lD|45];have MD_run:=MDB (P:=P) (w:=w) (base:=base) T;refine T.F__law_refused.ok cW (λ vs H Q E h=>yi _ h) (λ cdv A' outer s H vs Q E hr h=>?_)
 ·obtain⟨_,u,v,st,rfl,i,rfl,hi,hi1,hc⟩:=h;have hx1:=T.x_NoPair_PaceError;have hx2:=T.x_NoCount_PaceError;have hx3:=T.x_NoView_PaceError;have hx4:=T.x_TooMany_PaceError;refine⟨_,%[(@DH _ _ _ _ _ _ _ ⟨rfl,rfl,rfl⟩ (λ EX E pn hx=>%[%[4,cW,(@xv _ _ _ _ _ _ _ _ _ _ _ _ _ _ _ _ G__law_made (hr.mono ⋯) ∅ T.m__law_made T.F__law_made.kp T.b__law_made .nil hx %[%[0|0],%[%[1|0],%[%[2|0],%[%[0|2]|1]|1]|1]|1] ⋯ ∅ ∅)|4],%[%[%[p4,%[3|0],(@gS _ _ _),(az _)|17],%[%[(@qK _ _ _ _ _ _ _ _ _ _ _ _ _ _ _ _ %[4|0] MD_run (hr.mono ⋯) hx %[%[3|0]|1] ∅ ∅ ∅),∅|15]|9],(@au _)|18]|9]|10]) (@AQ _ _ _ (5) _ _ _ _ _ _ _ _ cW.nd rfl rfl ∅ (.inl T.m_PaceError) (λ ee=>%[%[(@xx _ _ _ _ _ _ _ _ _ _ _ _ _ _ _ _ _ GH__law_word (hr.mono ⋯) ∅ T.m__law_word T.F__law_word.kp T.b__law_word .nil aC %[%[5|0]|1] ⋯ ∅ ∅)|11]|9]) (@AO _) ⋯)),%[%[%[%[(@b5 _ _ _ _),%[%[0|2]|1]|1]|24]|11]|9]|10],?_⟩;rw [show ak ["_law_way", "_law_one", "_law_other", "_law_store", "_law_statement", "_law_e"] [.int (i:Int),.ref u,.ref v,st]=[some (.int (i:Int)),some (.ref u),some (.ref v),some (st),none,none] from rfl];clear G__law_made GH__law_word MD_run
  rcases hc with ⟨sa,l,vals,r,n,rfl,rfl,so,vv,hbad,kV,kM⟩|⟨r1,n1,r2,n2,rfl,hi2,vu,vv,hbad,kP,kC⟩
  ·exists kV;exists kM;ac_rfl;refine Or.inl ?_;rw [fZ];obtain⟨f,A,vo,ax,hn⟩:=id vv;refine⟨i,r,f,f,A,A,rfl,hi,λ _=>⟨vo,vo,ax,ax,rfl⟩,λ s1 dx H1 e1 h1=>?_⟩;ac_rfl;refine⟨s1,i,dx,_,rfl,hi,h1,ua hi,?_⟩;ac_rfl;rw [yN];refine⟨u,dx,l,.int 5,vals,r,n,hi1,h1,so.ext e1,vv.ext e1,hbad,λ hne H2 e2=>?_,λ he dxe H2 e2 hdx=>?_⟩
   ·have kf:=λ (_:Unit)=>kV () hne;clear kV kM hbad h1;ac_rfl;intro e oe he' hcl hdc hnc;have g4:(upd H2 e (gQ oe)) e=some (gQ oe):=ag;have e3:Ext H (upd H2 e (gQ oe)):=e1.trans (e2.trans (Ext.new he'));generalize upd H2 e (gQ oe)=H3 at e3 g4;clear he';ac_rfl;refine fV g4 hnc ?_
    show iC t [.ref e] H3 _ _
    rw [iu];refine⟨oe,g4,(let ⟨vs,a,_⟩:=hnc;⟨vs,a⟩),.inr (.inr (.inl ⟨hcl,hdc,λ x H4 e4 h4=>?_⟩))⟩;have k2:=kf () x H4 (e3.trans e4) h4;clear kf;ac_rfl
   ·have kf:=λ (_:Unit)=>kM () he;clear kV kM hbad h1 he;ac_rfl;intro e oe he' hcl hdc hnc;have hne:dxe ≠ e:=aT hdx he';have g3:(upd H2 e (gQ oe)) dxe=some (.xd [("number",.int n)]):=by rw [ai hne];exact hdx
    have g4:(upd H2 e (gQ oe)) e=some (gQ oe):=ag;have e3:Ext H (upd H2 e (gQ oe)):=e1.trans (e2.trans (Ext.new he'));generalize upd H2 e (gQ oe)=H3 at e3 g4 g3;clear he' hdx hne;ac_rfl;refine fV g4 hnc ?_
    show iC t [.ref e] H3 _ _
    rw [iu];refine⟨oe,g4,(let ⟨vs,a,_⟩:=hnc;⟨vs,a⟩),.inr (.inr (.inr ⟨dxe,n,hcl,hdc,g3,λ x H4 e4 h4=>?_⟩))⟩;have k2:=kf () x H4 (e3.trans e4) h4;clear kf;ac_rfl
  ·exists kP;exists kC;ac_rfl;refine Or.inr ?_;rw [rL];refine⟨i,r1,n1,r2,n2,rfl,hi,hi2,vu,vv,hbad,λ hne H2 e2=>?_,λ he H2 e2=>?_⟩
   ·have kf:=λ (_:Unit)=>kP () hne;clear kP kC hbad;ac_rfl;intro e oe he' hcl hdc hnc;have g4:(upd H2 e (gQ oe)) e=some (gQ oe):=ag;have e3:Ext H (upd H2 e (gQ oe)):=e2.trans (Ext.new he');generalize upd H2 e (gQ oe)=H3 at e3 g4;clear he';ac_rfl;refine fV g4 hnc ?_
    show iC t [.ref e] H3 _ _
    rw [iu];refine⟨oe,g4,(let ⟨vs,a,_⟩:=hnc;⟨vs,a⟩),.inl ⟨hcl,hdc,λ x H4 e4 h4=>?_⟩⟩;have k2:=kf () x H4 (e3.trans e4) h4;clear kf;ac_rfl
   ·have kf:=λ (_:Unit)=>kC () he;clear kP kC hbad he;ac_rfl;intro e oe he' hcl hdc hnc;have g4:(upd H2 e (gQ oe)) e=some (gQ oe):=ag;have e3:Ext H (upd H2 e (gQ oe)):=e2.trans (Ext.new he');generalize upd H2 e (gQ oe)=H3 at e3 g4;clear he';ac_rfl;refine fV g4 hnc ?_
    show iC t [.ref e] H3 _ _
    rw [iu];refine⟨oe,g4,(let ⟨vs,a,_⟩:=hnc;⟨vs,a⟩),.inr (.inl ⟨hcl,hdc,λ x H4 e4 h4=>?_⟩)⟩;have k2:=kf () x H4 (e3.trans e4) h4;clear kf;ac_rfl
abbrev qx(t:Adr)(K:PySem.W.Frag)(a:Addr)(ns:List Int)(s:Addr)(room:Int)(sa:Addr)(u:Addr)(w:Int)(H:Hp)(Q:VK)(E:XK):Prop:=s=a/\SqL K H a (ns.map V.int)/\ns.length<=63/\∃ (i:Nat) (l:Addr) (vals:List Int) (n0:Int),w=(i:Int)/\i < 5/\1<=i/\aN t.a_Store H sa l vals/\room=vals.length/\room<=3600/\1<=room/\VwN t.a_View H u room n0/\n0<=60/\∀ H',Ext H H'->Q (.bl true) H'
def sR(t:Adr)(K:W.Frag)(a:Addr)(ns:List Int):Sp:=λ vs H Q E=>∃ (s:Addr) (room:Int) (sa:Addr) (u:Addr) (w:Int),vs=[.ref s,.int room,.ref sa,.ref u,.int w]/\(qx t K a ns s room sa u w H Q E)
theorem yR(t:Adr)(K:W.Frag)(a:Addr)(ns:List Int)(s:Addr)(room:Int)(sa:Addr)(u:Addr)(w:Int)(H:Hp)(Q:VK)(E:XK):sR t K a ns [.ref s,.int room,.ref sa,.ref u,.int w] H Q E=(qx t K a ns s room sa u w H Q E):=HF (f:=λ (s:Addr) (room:Int) (sa:Addr) (u:Addr) (w:Int)=>[.ref s,.int room,.ref sa,.ref u,.int w]) (λ _ _ _ _ _ _ _ _ _ _ h=>by cases h;exact⟨rfl,rfl,rfl,rfl,rfl⟩) s room sa u w
theorem yk(t:Adr)(K:W.Frag)(a:Addr)(ns:List Int){vs:List V}{H:Hp}{Q:VK}{E:XK}(h:sR t K a ns vs H Q E):vs.length=5:=HG h λ _ _ _ _ _=>rfl
theorem fJ(T:Tx K mg t)(a:Addr)(ns:List Int):aB P w K mg base CX0 10 t.a__law_all_refused t.d__law_all_refused ["_law_script", "_law_room", "_law_store", "_law_one", "_law_way"] (sR t K a ns):=by
 have G__law_draw:=%[bT|45] a ns;have G_View___init__:=%[dU|45];have G__law_refused:=%[jg|45];refine T.F__law_all_refused.ok ba (λ vs H Q E h=>yk _ _ _ _ h) (λ cdv A' outer s H vs Q E hr h=>?_)
 ·obtain⟨_,room,sa,u,_,rfl,rfl,hS,hl,i,l,vals,n0,rfl,hi,hi1,so,hro,hr3,hr1,vu,hn0,kk⟩:=h;rename_i a;refine⟨_,%[%[5,ba,%[eV,%[%[%[0|2],%[%[jL,%[0|2],%[0|2]|12],%[%[bb,%[0|2],%[_law_draw,%[%[0|0],%[%[0|2],%[%[jL,%[0|2],%[0|2]|12]|1]|1]|1]|3]|12]|1]|1]|1]|14],%[_law_draw,%[%[0|0],%[%[0|2],%[%[0|2]|1]|1]|1]|3],(λ _ _=>rfl)|19]|4],%[%[6,ba,%[T.mk_View,G_View___init__,(hr.mono ⋯),∅,T.m_View,T.b_View___init__,.nil,aC,%[%[1|0],%[%[_law_draw,%[%[0|0],%[%[0|2],%[%[1|0]|1]|1]|1]|3],%[%[%[%[%[%[5|0],%[%[0|2]|1]|1]|24]|1]|14]|1]|1]|1],⋯,∅,∅|34]|4],%[%[7,ba,%[T.mk_View,G_View___init__,(hr.mono ⋯),∅,T.m_View,T.b_View___init__,.nil,aC,%[%[bb,%[bb,%[1|0],%[0|2]|12],%[_law_draw,%[%[0|0],%[%[0|2],%[%[0|2]|1]|1]|1]|3]|12],%[%[0|2],%[%[%[%[%[%[5|0],%[%[0|2]|1]|1]|24]|1]|14]|1]|1]|1],⋯,∅,∅|34]|4],%[%[%[(b9 hr.units),%[_law_refused,%[%[4|0],%[%[6|0],%[%[6|0],%[%[2|0]|1]|1]|1]|1]|3],%[%[(@b5 _ _ _ _),%[%[5|0]|1]|1]|24],(az _)|17],%[%[(@fh _ _ _ _)|11]|9],(@au _)|18],%[%[%[(b9 hr.units),%[_law_refused,%[%[4|0],%[%[7|0],%[%[7|0],%[%[2|0]|1]|1]|1]|1]|3],%[%[(@b5 _ _ _ _),%[%[0|2]|1]|1]|24],(az _)|17],%[%[(@fh _ _ _ _)|11]|9],(@au _)|18],%[%[%[(cw hr.units),%[4|0],%[0|2],(az _)|17],%[%[(@fh _ _ _ _)|11]|9],(@au _)|18],%[%[(PW.pt %[%[(b9 hr.units),%[_law_refused,%[%[4|0],%[%[3|0],%[%[7|0],%[(@gS _ _ _)|1]|1]|1]|1]|3],%[%[(@b5 _ _ _ _),%[%[0|2]|1]|1]|24],(az _)|17],(@fQ _ _ _ _ %[(b9 hr.units),%[_law_refused,%[%[4|0],%[%[7|0],%[%[3|0],%[(@gS _ _ _)|1]|1]|1]|1]|3],%[%[(@b5 _ _ _ _),%[%[0|2]|1]|1]|24],(az _)|17])|35]),%[%[(@fh _ _ _ _)|11]|9],(@au _)|18],%[%[%[%[(cw hr.units),%[_law_refused,%[%[4|0],%[%[3|0],%[%[6|0],%[(@gS _ _ _)|1]|1]|1]|1]|3],%[%[(@b5 _ _ _ _),%[%[0|2]|1]|1]|24],(az _)|38],%[%[(cw hr.units),%[_law_refused,%[%[4|0],%[%[6|0],%[%[3|0],%[(@gS _ _ _)|1]|1]|1]|1]|3],%[%[(@b5 _ _ _ _),%[%[0|2]|1]|1]|24],(az _)|38]|36]|31]|11]|9]|10]|10]|10]|10]|10]|10]|10],?_⟩;rw [show ak ["_law_script", "_law_room", "_law_store", "_law_one", "_law_way", "_law_size", "_law_many", "_law_beyond"] [.ref a,.int room,.ref sa,.ref u,.int (i:Int)]=[some (.ref a),some (.int room),some (.ref sa),some (.ref u),some (.int (i:Int)),none,none,none] from rfl];clear G__law_draw G_View___init__ G__law_refused;exists kk;exists so;exists vu;exists hro;have so1:PyData.strOk (Str.ofString "many")=true:=by decide +kernel
  have so2:PyData.strOk (Str.ofString "view")=true:=by decide +kernel
  have so3:PyData.strOk (Str.ofString "pair")=true:=by decide +kernel
  have so4:PyData.strOk (Str.ofString "count")=true:=by decide +kernel
  have sq1:(Str.ofString "many" == Str.ofString "many")=true:=by decide +kernel
  have sq2:(Str.ofString "view" == Str.ofString "view")=true:=by decide +kernel
  have sq3:(Str.ofString "pair" == Str.ofString "pair")=true:=by decide +kernel
  have sq4:(Str.ofString "count" == Str.ofString "count")=true:=by decide +kernel
  ac_rfl;rw [br];refine⟨hS,hl,⟨by decide,by decide⟩,by decide,λ d1 d10 d11=>?_⟩;have eb:=Ext.refl H;ac_rfl;intro Ls J101 uLs j101 hLs;clear uLs;replace so:=λ (_:Unit)=>(so ()).ext j101;replace vu:=λ (_:Unit)=>(vu ()).ext j101;replace hS:=j101.2 K a _ hS;replace eb:=eb.trans j101;clear j101;ac_rfl;rw [br];refine⟨hS,hl,⟨by decide,by decide⟩,by decide,λ d2 d20 d21=>?_⟩;ac_rfl;refine iO (λ v=>∃ n:Int,v=.int n/\4097<=n/\n<=1000000000) d20 (by show d2 < (3:Int);exact d21) (λ v hv=>?_) λ v hv=>?_
  ·simp only [Js,Jo,JW] at hv
   rcases hv with rfl|rfl|rfl
   ·exact⟨_,rfl,by decide,by decide⟩
   ·exact⟨_,rfl,by decide,by decide⟩
   ·exact⟨_,rfl,by omega,by omega⟩
  obtain⟨n,rfl,hn1,hn2⟩:=hv;clear hLs d20 d21 d10 d11;ac_rfl;rw [br];refine⟨hS,hl,⟨by decide,by decide⟩,by omega,λ d3 d30 d31=>?_⟩;ac_rfl;intro mvt J102 umvt j102 hmvt;clear umvt;replace so:=λ (_:Unit)=>(so ()).ext j102;replace vu:=λ (_:Unit)=>(vu ()).ext j102;replace hS:=j102.2 K a _ hS;replace eb:=eb.trans j102;clear j102;ac_rfl;intro mvl J103 umvl j103 hmvl;clear umvl;replace so:=λ (_:Unit)=>(so ()).ext j103;replace vu:=λ (_:Unit)=>(vu ()).ext j103;replace hmvt:=j103.at hmvt;replace hS:=j103.2 K a _ hS;replace eb:=eb.trans j103;clear j103;have tA:aO J103 mvl (axL [(n,0)]):=⟨_,hmvl,Al.cons' ⟨mvt,rfl,hmvt⟩ Al.nil⟩;clear hmvl hmvt;ac_rfl;intro mv dx104 G104 hx104 hd104 hq104 g104 k104 kk104;rw [iV];refine⟨dx104,[(n,0)],k104,aO.ext tA g104,zo (p:=0) ⟨by omega,by omega⟩ ⟨d30,d31⟩ ⟨by omega,by omega⟩,λ J104 D104 gg104 hD104 hx104' tt104=>?_⟩;have j104:=gg104 J103 g104 hx104;have vmv:aw t.a_View J104 mv room d3 ([(n,0)].map aY):=⟨dx104,D104,hx104',tt104⟩;exists vmv;clear k104 kk104 hx104 hd104 hq104 g104 gg104 hD104 hx104' tt104;replace so:=λ (_:Unit)=>(so ()).ext j104;replace vu:=λ (_:Unit)=>(vu ()).ext j104;replace hS:=j104.2 K a _ hS;replace eb:=eb.trans j104;clear j104;clear tA;have nmv:VwN t.a_View J104 mv room n:=tQ ⟨by omega,by omega⟩ (vmv ());exists nmv;clear vmv;clear d30 d31;ac_rfl;rw [br];refine⟨hS,hl,⟨by decide,by decide⟩,by decide,λ d4 d40 d41=>?_⟩;obtain⟨rb,hrb⟩:∃ rb,room+1+d4=rb:=⟨_,rfl⟩;have hrb1:room < rb:=by omega
  have hrb2:rb<=4000:=by omega
  ac_rfl;clear hrb d40 d41;intro bvt J105 ubvt j105 hbvt;clear ubvt;replace so:=λ (_:Unit)=>(so ()).ext j105;replace vu:=λ (_:Unit)=>(vu ()).ext j105;replace nmv:=λ (_:Unit)=>(nmv ()).ext j105;replace hS:=j105.2 K a _ hS;replace eb:=eb.trans j105;clear j105;ac_rfl;intro bvl J106 ubvl j106 hbvl;clear ubvl;replace so:=λ (_:Unit)=>(so ()).ext j106;replace vu:=λ (_:Unit)=>(vu ()).ext j106;replace nmv:=λ (_:Unit)=>(nmv ()).ext j106;replace hbvt:=j106.at hbvt;replace hS:=j106.2 K a _ hS;replace eb:=eb.trans j106;clear j106;have tA:aO J106 bvl (axL [(n,0)]):=⟨_,hbvl,Al.cons' ⟨bvt,rfl,hbvt⟩ Al.nil⟩;clear hbvl hbvt;ac_rfl;intro bv dx107 G107 hx107 hd107 hq107 g107 k107 kk107;rw [iV];refine⟨dx107,[(n,0)],k107,aO.ext tA g107,zo (p:=0) ⟨by omega,by omega⟩ ⟨by decide,by omega⟩ ⟨by omega,by omega⟩,λ J107 D107 gg107 hD107 hx107' tt107=>?_⟩;have j107:=gg107 J106 g107 hx107;have vbv:aw t.a_View J107 bv rb 0 ([(n,0)].map aY):=⟨dx107,D107,hx107',tt107⟩;exists vbv;clear k107 kk107 hx107 hd107 hq107 g107 gg107 hD107 hx107' tt107;replace so:=λ (_:Unit)=>(so ()).ext j107;replace vu:=λ (_:Unit)=>(vu ()).ext j107;replace nmv:=λ (_:Unit)=>(nmv ()).ext j107;replace hS:=j107.2 K a _ hS;replace eb:=eb.trans j107;clear j107;clear tA;have nbv:VwN t.a_View J107 bv rb n:=tQ ⟨by omega,by omega⟩ (vbv ());exists nbv;clear vbv;ac_rfl;rw [eO];refine⟨i,rfl,hi,hi1,.inl ⟨sa,l,vals,room,n,rfl,rfl,so (),nmv (),.inr %[0|8],(λ h=>absurd (hro ()) h),λ _ x108 J108 j108 h108=>?_⟩⟩;replace so:=λ (_:Unit)=>(so ()).ext j108;replace vu:=λ (_:Unit)=>(vu ()).ext j108;replace nmv:=λ (_:Unit)=>(nmv ()).ext j108;replace nbv:=λ (_:Unit)=>(nbv ()).ext j108;replace hS:=j108.2 K a _ hS;replace eb:=eb.trans j108;clear j108;ac_rfl;intro c108 J109 uc108 j109 hc108;clear uc108;replace so:=λ (_:Unit)=>(so ()).ext j109;replace vu:=λ (_:Unit)=>(vu ()).ext j109;replace nmv:=λ (_:Unit)=>(nmv ()).ext j109;replace nbv:=λ (_:Unit)=>(nbv ()).ext j109;replace h108:=j109.at h108;replace hS:=j109.2 K a _ hS;replace eb:=eb.trans j109;clear j109;ac_rfl;rw [eO];refine⟨i,rfl,hi,hi1,.inl ⟨sa,l,vals,rb,n,rfl,rfl,so (),nbv (),.inl (by have:=hro ();omega),(λ _ x110 J110 j110 h110=>?_),λ h=>absurd h (by have:=hro ();omega)⟩⟩;replace so:=λ (_:Unit)=>(so ()).ext j110;replace vu:=λ (_:Unit)=>(vu ()).ext j110;replace nmv:=λ (_:Unit)=>(nmv ()).ext j110;replace nbv:=λ (_:Unit)=>(nbv ()).ext j110;replace hS:=j110.2 K a _ hS;replace eb:=eb.trans j110;clear j110;ac_rfl;intro c110 J111 uc110 j111 hc110;clear uc110;replace so:=λ (_:Unit)=>(so ()).ext j111;replace vu:=λ (_:Unit)=>(vu ()).ext j111;replace nmv:=λ (_:Unit)=>(nmv ()).ext j111;replace nbv:=λ (_:Unit)=>(nbv ()).ext j111;replace h110:=j111.at h110;replace hS:=j111.2 K a _ hS;replace eb:=eb.trans j111;clear j111;clear h108 hc108
  by_cases hi2:¬ (2<=i)
  ·have hq:i=1:=by omega
   subst hq;have kf:=kk () J111 eb;clear kk;ac_rfl
  replace hi2:2<=i:=Decidable.not_not.mp hi2;have hne1:¬ (i:Int)=1:=by omega
  ac_rfl;rw [eO];refine⟨i,rfl,hi,hi1,.inr ⟨_,_,_,_,rfl,hi2,vu (),nbv (),.inl %[0|8],(λ _ x112 J112 j112 h112=>?_),λ h=>absurd h %[0|8]⟩⟩;replace so:=λ (_:Unit)=>(so ()).ext j112;replace vu:=λ (_:Unit)=>(vu ()).ext j112;replace nmv:=λ (_:Unit)=>(nmv ()).ext j112;replace nbv:=λ (_:Unit)=>(nbv ()).ext j112;replace hS:=j112.2 K a _ hS;replace eb:=eb.trans j112;clear j112;ac_rfl;intro c112 J113 uc112 j113 hc112;clear uc112;replace so:=λ (_:Unit)=>(so ()).ext j113;replace vu:=λ (_:Unit)=>(vu ()).ext j113;replace nmv:=λ (_:Unit)=>(nmv ()).ext j113;replace nbv:=λ (_:Unit)=>(nbv ()).ext j113;replace h112:=j113.at h112;replace hS:=j113.2 K a _ hS;replace eb:=eb.trans j113;clear j113;clear h110 hc110;ac_rfl;rw [eO];refine⟨i,rfl,hi,hi1,.inr ⟨_,_,_,_,rfl,hi2,nbv (),vu (),.inl %[0|8],(λ _ x114 J114 j114 h114=>?_),λ h=>absurd h %[0|8]⟩⟩;replace so:=λ (_:Unit)=>(so ()).ext j114;replace vu:=λ (_:Unit)=>(vu ()).ext j114;replace nmv:=λ (_:Unit)=>(nmv ()).ext j114;replace nbv:=λ (_:Unit)=>(nbv ()).ext j114;replace hS:=j114.2 K a _ hS;replace eb:=eb.trans j114;clear j114;ac_rfl;intro c114 J115 uc114 j115 hc114;clear uc114;replace so:=λ (_:Unit)=>(so ()).ext j115;replace vu:=λ (_:Unit)=>(vu ()).ext j115;replace nmv:=λ (_:Unit)=>(nmv ()).ext j115;replace nbv:=λ (_:Unit)=>(nbv ()).ext j115;replace h114:=j115.at h114;replace hS:=j115.2 K a _ hS;replace eb:=eb.trans j115;clear j115;clear h112 hc112;ac_rfl;rw [eO];refine⟨i,rfl,hi,hi1,.inr ⟨_,_,_,_,rfl,hi2,vu (),nmv (),.inr %[0|8],(λ h=>absurd rfl h),λ _ x116 J116 j116 h116=>?_⟩⟩;replace so:=λ (_:Unit)=>(so ()).ext j116;replace vu:=λ (_:Unit)=>(vu ()).ext j116;replace nmv:=λ (_:Unit)=>(nmv ()).ext j116;replace nbv:=λ (_:Unit)=>(nbv ()).ext j116;replace hS:=j116.2 K a _ hS;replace eb:=eb.trans j116;clear j116;ac_rfl;intro c116 J117 uc116 j117 hc116;clear uc116;replace so:=λ (_:Unit)=>(so ()).ext j117;replace vu:=λ (_:Unit)=>(vu ()).ext j117;replace nmv:=λ (_:Unit)=>(nmv ()).ext j117;replace nbv:=λ (_:Unit)=>(nbv ()).ext j117;replace h116:=j117.at h116;replace hS:=j117.2 K a _ hS;replace eb:=eb.trans j117;clear j117;clear h114 hc114;ac_rfl;rw [eO];refine⟨i,rfl,hi,hi1,.inr ⟨_,_,_,_,rfl,hi2,nmv (),vu (),.inr %[0|8],(λ h=>absurd rfl h),λ _ x118 J118 j118 h118=>?_⟩⟩;replace so:=λ (_:Unit)=>(so ()).ext j118;replace vu:=λ (_:Unit)=>(vu ()).ext j118;replace nmv:=λ (_:Unit)=>(nmv ()).ext j118;replace nbv:=λ (_:Unit)=>(nbv ()).ext j118;replace hS:=j118.2 K a _ hS;replace eb:=eb.trans j118;clear j118;ac_rfl;intro c118 J119 uc118 j119 hc118;clear uc118;replace so:=λ (_:Unit)=>(so ()).ext j119;replace vu:=λ (_:Unit)=>(vu ()).ext j119;replace nmv:=λ (_:Unit)=>(nmv ()).ext j119;replace nbv:=λ (_:Unit)=>(nbv ()).ext j119;replace h118:=j119.at h118;replace hS:=j119.2 K a _ hS;replace eb:=eb.trans j119;clear j119;clear h116 hc116;have kf:=kk () J119 eb;clear kk;ac_rfl
theorem mH{first:Int}{axs:List (Int × Int)}{M:Int}(h:∀ a∈axs,1<=a.1/\a.1<=1000000000)(hM:M∈aj first axs):first+aE axs<=M/\M<=first+aF axs:=by
 obtain⟨xs,hx,e⟩:=(rE _ _ _).mp hM;have b:=i6 axs xs hx;omega
theorem xg(i:Nat)(vals c1 c2:List Int)(z:Int):(CC i vals c1 c2 z).length=vals.length:=by
 match i with
 | 0=>rfl
 | 1=>exact fX z c1 vals
 | 2=>exact aI vals c1 _
 | 3=>show (dY (dY vals c1 (aM vals c2)) c2 (aM vals c1)).length=_;rw [aI,aI]
 | n+4=>exact aI vals c1 _
def LoI(CS:Addr)(Hb H':Hp)(q st l:Addr)(vals:List Int)(n:Nat):Prop:=Ext Hb H'/\q ≠ l/\H' q=some (.lst (vals.map V.int))/\aN CS H' st l vals/\vals.length=n
def LoJ(t:Adr)(Hb H':Hp)(q st l:Addr)(n:Nat)(i:Nat)(s dx u v:Addr)(z:Int):Prop:=∃ vals,LoI t.a_Store Hb H' q st l vals n/\H' s=some (.ins (oh t i) dx (rW i u v (.int z)))
abbrev CB(K:PySem.W.Frag)(a:Addr)(H:Hp)(Q:VK)(E:XK):Prop:=∃ ns:List Int,SqL K H a (ns.map V.int)/\ns.length<=63/\∀ H',Q (.bl true) H'
def si(K:W.Frag):Sp:=λ vs H Q E=>∃ (a:Addr),vs=[.ref a]/\(CB K a H Q E)
theorem B3(K:W.Frag){vs:List V}{H:Hp}{Q:VK}{E:XK}(h:si K vs H Q E):vs.length=1:=jt h λ _=>rfl
theorem DY(T:Tx K mg t):aB P w K mg base CX0 11 t.a_law t.d_law ["_law_script"] (si K):=by
 refine T.F_law.ok eU (λ vs H Q E h=>B3 _ h) (λ cdv A' outer s H vs Q E hr h=>?_)
 ·obtain⟨a,rfl,ns,hS,hl,kk⟩:=h;have G__law_draw:=%[bT|45] a ns;have G__law_views:=%[lp|45] a ns;have G__law_view:=%[nv|45];have G__law_cells:=%[lu|45];have G__law_values:=%[jx|45] a ns;have G_Store___init__:=%[gN|45];have G_Store_all_values:=%[fL|45];have G__law_made:=%[gX|45];have G__law_told:=%[ny|45];have G__law_all_refused:=%[fJ|45] a ns;have G__law_due:=%[o8|45];have G__law_list:=%[nA|45];have MD_run:=MDR (P:=P) (w:=w) (base:=base) T;have i1:=T.is_Raise;have i2:=T.is_Fill;have kt1:=T.k_Raise_Statement;have kt2:=T.k_Fill_Statement;have cs1:=T.cl_Store;refine⟨_,%[%[%[_law_views,%[%[0|0]|1]|3],(%[(3),rfl,%[%[1,eU|5],%[%[2,eU|5],%[%[3,eU|5],(@aJ _),∅|16],∅|16],∅|16],∅,∅|25].mono λ _ _ _ _ h=>bP h),∅,∅,∅|37],%[%[4,eU,%[_law_view,%[%[1|0],%[%[2|0]|1]|1]|3]|4],%[%[5,eU,%[_law_view,%[%[1|0],%[%[3|0]|1]|1]|3]|4],%[%[6,eU,%[_law_cells,%[%[eV,%[2|0],%[0|2],(λ _ _=>rfl)|19],%[%[eV,%[2|0],%[0|2],(λ _ _=>rfl)|19]|1]|1]|3]|4],%[%[7,eU,%[_law_cells,%[%[eV,%[3|0],%[0|2],(λ _ _=>rfl)|19],%[%[eV,%[3|0],%[0|2],(λ _ _=>rfl)|19]|1]|1]|3]|4],%[%[8,eU,%[_law_values,%[%[0|0],%[%[1|0]|1]|1]|3]|4],%[%[9,eU,%[T.mk_Store,G_Store___init__,(hr.mono ⋯),∅,T.m_Store,T.b_Store___init__,.nil,aC,%[%[dg,∅,T.z_list,nofun,%[%[8|0]|1],⋯,⋯,∅,∅|41]|1],⋯,∅,∅|34]|4],%[%[10,eU,%[_law_draw,%[%[0|0],%[%[0|2],%[%[jL,%[0|2],%[0|2]|12]|1]|1]|1]|3]|4],%[%[Jp,rfl,%[∅,T.z_range,%[%[0|2]|1],∅|40],%[11,eU|5],%[%[12,eU,%[eV,%[%[%[_law_draw,%[%[0|0],%[%[bb,%[0|2],%[11|0]|12],%[%[0|2]|1]|1]|1]|3],%[%[pO,%[11|0],%[0|2]|12]|1]|1]|14],%[mL,∅,T.z_int,nofun,%[%[qC,%[11|0],%[0|2],(az _)|38]|1],⋯,⋯,∅,∅|41],(λ _ _=>rfl)|19]|4],%[%[13,eU,%[_law_made,%[%[12|0],%[%[4|0],%[%[5|0],%[%[bb,%[10|0],%[11|0]|12]|1]|1]|1]|1]|3]|4],%[%[%[%[%[_law_told,%[%[13|0],%[%[12|0],%[%[4|0],%[%[5|0]|1]|1]|1]|1]|3],(by intros;rfl)|32]|33],%[%[(@fh _ _ _ _)|11]|9],(@au _)|18],%[%[(PW.pt (@DE _ _ _ _ _ _ _ %[qC,%[12|0],%[0|2],(az _)|17] (@AG _ _ _ _ %[%[%[_law_all_refused,%[%[0|0],%[%[1|0],%[%[9|0],%[%[4|0],%[%[12|0]|1]|1]|1]|1]|1]|3],(by intros;rfl)|32]|33]))),%[%[(@fh _ _ _ _)|11]|9],(@au _)|18],%[%[Jp,rfl,%[∅,T.z_range,%[%[0|2]|1],∅|40],%[14,eU|5],%[%[8,eU,%[_law_due,%[%[8|0],%[%[12|0],%[%[6|0],%[%[7|0],%[%[bb,%[10|0],%[11|0]|12]|1]|1]|1]|1]|1]|3]|4],%[%[(PW.pt %[%[p4,(@qL _ _ _ _ _ _ _ _ _ _ _ _ _ _ _ _ %[13|0] MD_run (hr.mono ⋯) aC %[%[9|0]|1] ∅ ∅ ∅),(@gS _ _ _),(az _)|17],(@fQ _ _ _ _ %[%[%[_law_list,%[%[%[9|0],T.cl_Store,T.mt_Store_all_values,G_Store_all_values,(hr.mono ⋯),T.b_Store_all_values,.nil,aC,∅|26],%[%[8|0]|1]|1]|3],(by intros;rfl)|32]|33])|35]),%[%[(@fh _ _ _ _)|11]|9],(@au _)|18]|9]|10],(by intros;rfl)|23]|9]|10]|10]|10]|10],(by intros;rfl)|23],%[%[%[%[isinstance,(mM (K:=K) rfl),%[%[_law_made,%[%[0|2],%[%[4|0],%[%[5|0],%[%[0|2]|1]|1]|1]|1]|3],%[(@bV _ _ (.ref t.a_Statement) _ _ ∅ T.m_Statement rfl ⋯)|1]|1]|6],%[%[isinstance,(mM (K:=K) rfl),%[%[_law_made,%[%[0|2],%[%[4|0],%[%[5|0],%[%[0|2]|1]|1]|1]|1]|3],%[(@bV _ _ (.ref t.a_Statement) _ _ ∅ T.m_Statement rfl ⋯)|1]|1]|6]|36]|31]|11]|9]|10]|10]|10]|10]|10]|10]|10]|10]|10],?_⟩;rw [show ak ["_law_script", "_law_room", "_law_to", "_law_source", "_law_one", "_law_other", "_law_here", "_law_there", "_law_due_here", "_law_store", "_law_value", "_law_k", "_law_way", "_law_statement", "_law_turn"] [.ref a]=[some (.ref a),none,none,none,none,none,none,none,none,none,none,none,none,none,none] from rfl];clear G__law_draw G__law_views G__law_view G__law_cells G__law_values G_Store___init__ G_Store_all_values G__law_made G__law_told G__law_all_refused G__law_due G__law_list MD_run;exists kk;ac_rfl;rw [wa];refine⟨rfl,hS,hl,λ room axs bxs r u v H1 e1 h1 fu fv vA vB hpe hr1 hr2=>?_⟩;obtain⟨p1,q1,f1,rfl,hp1,tq1,lo1,hi1⟩:=fu;obtain⟨p2,q2,f2,rfl,hp2,tq2,lo2,hi2⟩:=fv;have hS1:=e1.2 K a _ hS;obtain⟨sA1,sA2⟩:=iI axs λ a ha=>(vA.ax.2 a ha).1;obtain⟨sB1,sB2⟩:=iI bxs λ a ha=>(vB.ax.2 a ha).1;have okA:jP room f1 axs:=⟨vA.ax,hr1,by omega,by rw [sA1];exact lo1,by rw [sA2];exact hi1⟩;have okB:jP room f2 bxs:=⟨vB.ax,hr1,by omega,by rw [sB1];exact lo2,by rw [sB2];exact hi2⟩;have onA:bW (aj f1 axs) room.toNat:=λ c hc=>by have:=mH vA.ax.2 hc;omega
  have onB:bW (aj f2 bxs) room.toNat:=λ c hc=>by have:=mH vB.ax.2 hc;omega
  have clA:=aU f1 axs λ a ha=>(vA.ax.2 a ha).1;have clB:=aU f2 bxs λ a ha=>(vB.ax.2 a ha).1;have prA:af (axs.map λ a=>a.1)<=60:=vA.2.2;have prB:af (bxs.map λ a=>a.1)<=60:=vB.2.2;have axA:=vA.ax;have axB:=vB.ax;exists tq1;exists tq2;exists hpe;exists onA;exists onB;clear hS e1 sA1 sA2 sB1 sB2 vA vB lo1 lo2 hi1 hi2;ac_rfl;rw [mP];refine⟨q1,f1,axs,hp1,tq1 (),okA,λ x1 dx1 D1 H2 e2 hD1 hx1 tt1=>?_⟩;have hp2_2:=e2.at hp2;have hp1_2:=e2.at hp1;have hS2:=e2.2 K a _ hS1;exists tt1;clear h1 hp1 hp2 hS1;ac_rfl;rw [mP];refine⟨q2,f2,bxs,hp2_2,(tq2 ()).ext e2,okB,λ x2 dx2 D2 H3 e3 hD2 hx2 tt2=>?_⟩;have e13:=e2.trans e3;have hp1_3:=e3.at hp1_2;have hp2_3:=e3.at hp2_2;have hx1_3:=e3.at hx1;have tt1_3:=λ (_:Unit)=>(tt1 ()).ext e3;have hS3:=e3.2 K a _ hS2;exists tt2;clear hp1_2 hp2_2 hx1 tt1 hS2 hD1 hD2;ac_rfl;rw [j2];refine⟨axs,(tq1 ()).ext e13,axA,by omega,λ r4 H4 _ e4 h4=>?_⟩;have hp2_4:=e4.at hp2_3;clear hp1_3 hp2_3;ac_rfl;rw [j2];refine⟨bxs,(tq2 ()).ext (e13.trans e4),axB,by omega,λ r5 H5 _ e5 h5=>?_⟩;have e35:=e4.trans e5;have h4_5:=e5.at h4;have hS5:=e35.2 K a _ hS3;have hx1_5:=e35.at hx1_3;have hx2_5:=e35.at hx2;have tt1_5:=λ (_:Unit)=>(tt1_3 ()).ext e35;have tt2_5:=λ (_:Unit)=>(tt2 ()).ext e35;clear hp2_4 h4 hS3 hx1_3 hx2 tt1_3 tt2 e4 e5 e35 e13 e2 e3 tq1 tq2;ac_rfl;rw [rH];refine⟨rfl,hS5,hl,by omega,by omega,λ q H6 hq6 e6 h6=>?_⟩;have hvl:(r0 ns room).length=room.toNat:=by unfold r0;rw [length_map,length_range]
  obtain⟨vals,hvals⟩:∃ vals,r0 ns room=vals:=⟨_,rfl⟩;rw [hvals] at h6 hvl;exists hvl;clear hvals hq6;ac_rfl;intro cp H7 hcp e7 hcp7;have h6_7:=e7.at h6;clear h6;ac_rfl;intro st dxs G1 hxs hds hqs gs ks ks';rw [wb];refine⟨dxs,vals,ks,gs.at hcp7,by have:=hvl ();omega,by have:=hvl ();omega,λ H8 fl hE hfl hst hflv=>?_⟩;have e78:=hE H7 gs hxs;have e68:=e7.trans e78;have e58:=e6.trans e68;have hfl5:H5 fl=none:=(e6.trans (e7.trans gs)).free hfl;have hfl6:H6 fl=none:=(e7.trans gs).free hfl;have nq:q ≠ fl:=λ e=>by rw [e] at h6_7;rw [e7.free (gs.free hfl) |> λ z=>z] at *;cases (show (none:Option HO)=some _ by rw [←gs.free hfl];exact h6_7)
  have ini:LoI t.a_Store H5 H8 q st fl vals room.toNat:=⟨e58,nq,e78.at h6_7,⟨⟨dxs,hst⟩,hflv⟩,hvl ()⟩;have hS8:=e58.2 K a _ hS5;clear h6_7 hcp7 hcp e7 e78 e68 ks ks' hxs hds hqs gs hE hfl hst hflv e6 e58;ac_rfl;rw [br];refine⟨hS8,hl,⟨by decide,by decide⟩,by decide,λ val val0 val1=>?_⟩;clear hS8 val0 val1;have hd1:D1 ≠ fl:=λ e=>by obtain⟨ys,hy,_⟩:=tt1_5 ();rw [e,hfl5] at hy;cases hy
  have hd2:D2 ≠ fl:=λ e=>by obtain⟨ys,hy,_⟩:=tt2_5 ();rw [e,hfl5] at hy;cases hy
  have c1l:(aj f1 axs).length=(aj f2 bxs).length:=by have:=hpe ();omega
  have c1m:(aj f1 axs).length<=4096:=by omega
  have kpA:=jY f1 axs λ a ha=>(axA.2 a ha).1;have kpB:=jY f2 bxs λ a ha=>(axB.2 a ha).1;have xkA:=axA.kept;have xkB:=axB.kept;have ppA:af ((axs.map aY).map λ a=>a.1)=af (axs.map λ a=>a.1):=by rw [gL]
  have ppB:af ((bxs.map aY).map λ a=>a.1)=af (bxs.map λ a=>a.1):=by rw [gL]
  obtain⟨C1,hC1⟩:∃ C1,aj f1 axs=C1:=⟨_,rfl⟩;obtain⟨C2,hC2⟩:∃ C2,aj f2 bxs=C2:=⟨_,rfl⟩;rw [hC1] at c1l c1m kpA onA h4_5 clA;rw [hC2] at c1l kpB onB h5 clB;exists kpA;exists kpB;exists ppA;exists ppB;exists c1l;have V1:∀ H',Ext H5 H'->aw t.a_View H' x1 room f1 (axs.map aY)/\aw t.a_View H' x2 room f2 (bxs.map aY):=λ H' e=>⟨⟨dx1,D1,e.at hx1_5,(tt1_5 ()).ext e⟩,⟨dx2,D2,e.at hx2_5,(tt2_5 ()).ext e⟩⟩
  have Z1:∀ (H':Hp) (vals:List Int),Ext H5 H'->vals.length=room.toNat->Fx t.a_View fl H' x1 vals f1 (axs.map aY)/\Fx t.a_View fl H' x2 vals f2 (bxs.map aY):=λ H' vals e hvl=>by
   have hrv:(vals.length:Int)=room:=by omega
   refine⟨⟨⟨dx1,D1,by rw [hrv];exact e.at hx1_5,hd1,(tt1_5 ()).ext e⟩,xkA,by rw [ppA ()];omega,by rw [kpA (),hvl];exact onA ()⟩,⟨⟨dx2,D2,by rw [hrv];exact e.at hx2_5,hd2,(tt2_5 ()).ext e⟩,xkB,by rw [ppB ()];omega,by rw [kpB (),hvl];exact onB ()⟩⟩
  exists V1;exists Z1;have gA:∀ m:Str,m = "all_values" → (iB fl).lookup m=none:=λ m hm=>by rw [hm];exact ar fl nofun
  have gAll:=gA "all_values" rfl;clear gA hC1 hC2 tt1_5 tt2_5 hx1_5 hx2_5 hfl6 nq hvl;ac_rfl;refine iG (λ k σ H'=>∃ (q:Addr) (vals:List Int) (v11 v12 v13 v14:Option V),σ=[some (.ref a),some (.int room),some (.ref p1),some (.ref p2),some (.ref x1),some (.ref x2),some (.ref r4),some (.ref r5),some (.ref q),some (.ref st),some (.int val),v11,v12,v13,v14]/\LoI t.a_Store H5 H' q st fl vals room.toNat) ⟨q,vals,none,none,none,none,rfl,ini⟩ ?_ ?_
  ·clear kk ini q vals;rintro k _ H9 hk ⟨q,vals,v11,v12,v13,v14,rfl,e9,nq,hq,so,hvl⟩;have hk8:k < 8:=hk;have hS9:=e9.2 K a _ hS5;exists so;exists hvl;clear hk;simp! only [↓aS];rw [br];refine⟨hS9,hl,⟨by omega,by omega⟩,by decide,λ d d0 d1=>?_⟩;ac_rfl;intro Lw H10 _ e10 h10
   have hpk:∀ v∈[V.int d,V.int ((0+(k:Int)) % 5)],∃ i:Nat,v=.int (i:Int)/\i < 5:=λ v hv=>by
    simp only [Js,Jo,JW] at hv
    rcases hv with rfl|rfl
    ·exact⟨d.toNat,by rw [JX d0],by omega⟩
    ·exact⟨((0+(k:Int)) % 5).toNat,by rw [JX %[0|8]],by omega⟩
   exists hpk;ac_rfl;refine iO (λ v=>∃ i:Nat,v=.int (i:Int)/\i < 5) (by first|omega|(split<;>omega)) (by first|(show _ < (2:Int);omega)|(show _ < (2:Int);split<;>omega)) (hpk ()) λ v hv=>?_;obtain⟨i,rfl,hi⟩:=hv;have e910:=e9.trans e10;obtain⟨w1,w2⟩:=V1 () H10 e910;clear hpk h10 d0 d1;ac_rfl;rw [fZ];refine⟨i,room,f1,f2,_,_,rfl,hi,λ _=>⟨w1,w2,xkA,xkB,by rw [ppA (),ppB ()];exact hpe ()⟩,λ s dx H11 e11 h11=>?_⟩;have e911:=e910.trans e11;obtain⟨w1',w2'⟩:=V1 () H11 e911
   have vws:wD t.a_View H11 [x1,x2]:=λ x hx=>by
    simp only [Js,Jo,JW] at hx
    rcases hx with rfl|rfl
    ·exact⟨_,_,_,w1'⟩
    ·exact⟨_,_,_,w2'⟩
   exists vws;clear w1 w2 w1' w2';ac_rfl;rw [wj];refine⟨i,rfl,⟨hi,dx,_,h11⟩,vws (),λ H12 e12=>?_⟩;have e912:=e911.trans e12;have e9_12:=e10.trans (e11.trans e12);have so12:=λ (_:Unit)=>(so ()).ext e9_12;have hq12:=e9_12.at hq;have h11_12:=e12.at h11;have hS12:=e912.2 K a _ hS5;clear vws so hq h11 hS9 e9 e10 e11 e12 e910 e911 e9_12;simp! only [-zq];refine Fb (λ σ' H'=>σ'=[some (.ref a),some (.int room),some (.ref p1),some (.ref p2),some (.ref x1),some (.ref x2),some (.ref r4),some (.ref r5),some (.ref q),some (.ref st),some (.int val),some (.int (0+(k:Int))),some (.int (i:Int)),some (.ref s),v14]/\Ext H12 H') (λ nx' hn=>?_) ?_
   ·exists hn
    by_cases hi0:0 < (i:Int)
    ·obtain⟨w1,_⟩:=V1 () H12 e912;ac_rfl;rw [yR];refine⟨rfl,hS12,hl,i,fl,vals,_,rfl,hi,by omega,so12 (),by have:=hvl ();omega,hr2,hr1,⟨_,_,w1,xkA,rfl⟩,by rw [ppA ()];exact prA,λ H13 e13=>?_⟩;clear w1;ac_rfl;exact hn () _ _ ⟨rfl,e13⟩
    ·ac_rfl;exact hn () _ _ ⟨rfl,Ext.refl _⟩
   rintro _ H13 ⟨rfl,e13⟩;have ini2:LoJ t H5 H13 q st fl room.toNat i s dx x1 x2 (val+(0+(k:Int))):=⟨vals,⟨e912.trans e13,nq,e13.at hq12,(so12 ()).ext e13,hvl ()⟩,e13.at h11_12⟩;clear so12 hq12 h11_12 hS12 hvl nq e13 e912;ac_rfl;refine iG (λ j σ H'=>∃ (q:Addr) (v14:Option V),σ=[some (.ref a),some (.int room),some (.ref p1),some (.ref p2),some (.ref x1),some (.ref x2),some (.ref r4),some (.ref r5),some (.ref q),some (.ref st),some (.int val),some (.int (0+(k:Int))),some (.int (i:Int)),some (.ref s),v14]/\LoJ t H5 H' q st fl room.toNat i s dx x1 x2 (val+(0+(k:Int)))) ⟨q,_,rfl,ini2⟩ ?_ ?_
   ·clear ini2 q vals;rintro j _ H14 hj ⟨q,v14',rfl,vals,⟨e14,nq,hq,so,hvl⟩,hs⟩;have hv4:vals.length<=4096:=by omega
    exists so;exists hvl;clear hj;simp! only [↓aS];rw [yQ];refine⟨i,vals,C1,C2,rfl,hi,hq,e14.at h4_5,e14.at h5,hv4,c1l (),c1m,by rw [hvl ()];exact onA (),by rw [hvl ()];exact onB (),λ r H15 hr15 e15 h15=>?_⟩;have e515:=e14.trans e15;have hs15:=e15.at hs;have nr:r ≠ fl:=λ e=>by rw [e,(so ()).fl] at hr15;cases hr15
    have so15:=(so ()).ext e15;obtain⟨z1,z2⟩:=Z1 () H15 vals e515 (hvl ());exists so15;exists z1;exists z2;clear so hq hs hr15 e15;ac_rfl;refine⟨s,i,dx,_,rfl,hi,hs15,ua hi,?_⟩;ac_rfl;rw [Cu];refine⟨x1,x2,dx,fl,_,vals,f1,_,f2,_,hs15,so15 (),hv4,z1 (),z2 (),by rw [ppA (),ppB ()];exact(hpe ()).symm,λ H16 g1 g2 g3=>?_⟩;rw [kpA (),kpB ()] at g3;have kp:KpL fl H15 H16:=g2;have e516:=g1 H5 e515 hfl5;have h15_16:=kp _ _ nr h15;have hs16:=kp _ _ (λ e=>by rw [e,(so15 ()).fl] at hs15;cases hs15) hs15;obtain⟨dst,hst15⟩:=(so15 ()).ob;have hst16:=kp _ _ (λ e=>by rw [e,(so15 ()).fl] at hst15;cases hst15) hst15;have so16:aN t.a_Store H16 st fl (CC i vals C1 C2 (val+(0+(k:Int)))):=⟨⟨dst,hst16⟩,g3⟩;have rl:=xg i vals C1 C2 (val+(0+(k:Int)));obtain⟨ix,hv2⟩:∃ v2,CC i vals C1 C2 (val+(0+(k:Int)))=v2:=⟨_,rfl⟩;rw [hv2] at so16 rl h15_16;have hv42:ix.length<=4096:=by omega
    exists so16;exists rl;clear so15 z1 z2 g1 g2 g3 kp hs15 h15 hst15 hv2 e515;ac_rfl;rw [yV];refine⟨fl,ix,so16 (),hv42,λ y H17 _ e17 h17=>?_⟩;have h15_17:=e17.at h15_16;ac_rfl;rw [yO];refine⟨ix,h17,h15_17,hv42,λ H18 e18=>?_⟩;have e618:=e17.trans e18;have fin:LoJ t H5 H18 r st fl room.toNat i s dx x1 x2 (val+(0+(k:Int))):=⟨ix,⟨e516.trans e618,nr,e18.at h15_17,(so16 ()).ext e618,by rw [rl (),hvl ()]⟩,e618.at hs16⟩;clear so16 h15_16 h15_17 h17 hs16 hst16 e17 e18 e618 e516 rl hvl;ac_rfl
    first|exact⟨_,_,rfl,fin⟩|exact⟨_,_,rfl⟩
   ·rintro _ H14 ⟨q,v14',rfl,vals,lo,hs⟩;clear ini2;ac_rfl
    first|exact⟨_,_,_,_,_,_,rfl,lo⟩|exact⟨_,vals,_,_,_,_,rfl,lo⟩
  ·rintro _ H9 ⟨q,vals,v11,v12,v13,v14,rfl,e9,_⟩;obtain⟨w1,w2⟩:=V1 () H9 e9;clear ini;ac_rfl;rw [fZ];refine⟨4,room,f1,f2,_,_,rfl,by decide,λ _=>⟨w1,w2,xkA,xkB,by rw [ppA (),ppB ()];exact hpe ()⟩,λ s dx H11 e11 h11=>?_⟩;ac_rfl;refine tD h11 i1 kt1 ?_;ac_rfl;rw [fZ];refine⟨1,room,f1,f2,axs,bxs,rfl,by decide,(λ h=>absurd h ⋯),λ s2 dx2' H12 e12 h12=>?_⟩;ac_rfl;refine tD h12 i2 kt2 ?_;have k2:=kk () H12;clear kk;ac_rfl
end
theorem Iw{l:W.OpenLaw}{w:World}{K:W.Frag}{h:Heap}{mg:Str->Option Value}{fa:Addr}(X:K.In h)(G:h.Ns mainGlobals mg)(hfa:mg "law"=some (.ref fa))
  {C0:Addr} (y0:W.nsIn K mainGlobals "PaceError"=some (some (.ref C0)))
  {C1:Addr} (y1:W.nsIn K mainGlobals "NoPlace"=some (some (.ref C1)))
  {C2:Addr} (y2:W.nsIn K mainGlobals "NoCells"=some (some (.ref C2)))
  {C3:Addr} (y3:W.nsIn K mainGlobals "NoView"=some (some (.ref C3)))
  {C4:Addr} (y4:W.nsIn K mainGlobals "NoCount"=some (some (.ref C4)))
  {C5:Addr} (y5:W.nsIn K mainGlobals "NoPair"=some (some (.ref C5)))
  {C6:Addr} (y6:W.nsIn K mainGlobals "TooMany"=some (some (.ref C6)))
  {C7:Addr} (y7:W.nsIn K mainGlobals "View"=some (some (.ref C7)))
  {C8:Addr} (y8:W.nsIn K mainGlobals "Store"=some (some (.ref C8)))
  {C9:Addr} (y9:W.nsIn K mainGlobals "Statement"=some (some (.ref C9)))
  {C10:Addr} (y10:W.nsIn K mainGlobals "Fill"=some (some (.ref C10)))
  {C11:Addr} (y11:W.nsIn K mainGlobals "Copy"=some (some (.ref C11)))
  {C12:Addr} (y12:W.nsIn K mainGlobals "Swap"=some (some (.ref C12)))
  {C13:Addr} (y13:W.nsIn K mainGlobals "Raise"=some (some (.ref C13)))
  (o_NoPair:W.excIn K C5 [.type "ValueError",.type "Exception",.type "BaseException",.type "object"] "ValueError.__new__"=true)
  (o_NoCount:W.excIn K C4 [.type "ValueError",.type "Exception",.type "BaseException",.type "object"] "ValueError.__new__"=true)
  (o_NoView:W.excIn K C3 [.type "ValueError",.type "Exception",.type "BaseException",.type "object"] "ValueError.__new__"=true)
  (x_NoPair_PaceError:W.exmOne K (.ref C5) (.ref C0)=some true)
  (x_NoCount_PaceError:W.exmOne K (.ref C4) (.ref C0)=some true)
  (x_NoView_PaceError:W.exmOne K (.ref C3) (.ref C0)=some true)
  (x_TooMany_PaceError:W.exmOne K (.ref C6) (.ref C0)=some true)
  (ocs:W.specialIn K (.builtin "object.__class__") "__get__"=some (some (.builtin "getset_descriptor.__get__")))
  (oct:W.takesIn K (.builtin "object.__class__")=some true)
  (ga_NoPair:W.findIn K (.ref C5) "__getattribute__"=some (some (.builtin "BaseException.__getattribute__")))
  (gn_NoPair:W.findIn K (.ref C5) "__getattr__"=some none)
  (mb_NoPair:W.mroIn K C5 (.type "BaseException")=some true)
  (mo_NoPair:W.mroIn K C5 (.type "object")=some true)
  (fc_NoPair:W.findIn K (.ref C5) "__class__"=some (some (.builtin "object.__class__")))
  (hd_NoPair:W.hasDictIn K C5=true)
  (ga_NoCount:W.findIn K (.ref C4) "__getattribute__"=some (some (.builtin "BaseException.__getattribute__")))
  (gn_NoCount:W.findIn K (.ref C4) "__getattr__"=some none)
  (mb_NoCount:W.mroIn K C4 (.type "BaseException")=some true)
  (mo_NoCount:W.mroIn K C4 (.type "object")=some true)
  (fc_NoCount:W.findIn K (.ref C4) "__class__"=some (some (.builtin "object.__class__")))
  (hd_NoCount:W.hasDictIn K C4=true)
  (ga_NoView:W.findIn K (.ref C3) "__getattribute__"=some (some (.builtin "BaseException.__getattribute__")))
  (gn_NoView:W.findIn K (.ref C3) "__getattr__"=some none)
  (mb_NoView:W.mroIn K C3 (.type "BaseException")=some true)
  (mo_NoView:W.mroIn K C3 (.type "object")=some true)
  (fc_NoView:W.findIn K (.ref C3) "__class__"=some (some (.builtin "object.__class__")))
  (hd_NoView:W.hasDictIn K C3=true)
  (ga_TooMany:W.findIn K (.ref C6) "__getattribute__"=some (some (.builtin "BaseException.__getattribute__")))
  (gn_TooMany:W.findIn K (.ref C6) "__getattr__"=some none)
  (mb_TooMany:W.mroIn K C6 (.type "BaseException")=some true)
  (mo_TooMany:W.mroIn K C6 (.type "object")=some true)
  (fc_TooMany:W.findIn K (.ref C6) "__class__"=some (some (.builtin "object.__class__")))
  (hd_TooMany:W.hasDictIn K C6=true)
  (kc_NoPair_NoPair:W.hasDictIn K C5=true)
  (kt_NoPair_NoPair:W.typeIn K (.ref C5)=some (.type "type"))
  (ks_NoPair_NoPair:W.subIn K (.ref C5) (.ref C5)=some true)
  (kc_NoPair_NoCount:W.hasDictIn K C4=true)
  (kt_NoPair_NoCount:W.typeIn K (.ref C4)=some (.type "type"))
  (ks_NoPair_NoCount:W.subIn K (.ref C5) (.ref C4)=some false)
  (kn_NoPair_NoCount:(C5 == C4)=false)
  (kc_NoPair_NoView:W.hasDictIn K C3=true)
  (kt_NoPair_NoView:W.typeIn K (.ref C3)=some (.type "type"))
  (ks_NoPair_NoView:W.subIn K (.ref C5) (.ref C3)=some false)
  (kn_NoPair_NoView:(C5 == C3)=false)
  (kc_NoPair_TooMany:W.hasDictIn K C6=true)
  (kt_NoPair_TooMany:W.typeIn K (.ref C6)=some (.type "type"))
  (ks_NoPair_TooMany:W.subIn K (.ref C5) (.ref C6)=some false)
  (kn_NoPair_TooMany:(C5 == C6)=false)
  (kc_NoCount_NoPair:W.hasDictIn K C5=true)
  (kt_NoCount_NoPair:W.typeIn K (.ref C5)=some (.type "type"))
  (ks_NoCount_NoPair:W.subIn K (.ref C4) (.ref C5)=some false)
  (kn_NoCount_NoPair:(C4 == C5)=false)
  (kc_NoCount_NoCount:W.hasDictIn K C4=true)
  (kt_NoCount_NoCount:W.typeIn K (.ref C4)=some (.type "type"))
  (ks_NoCount_NoCount:W.subIn K (.ref C4) (.ref C4)=some true)
  (kc_NoCount_NoView:W.hasDictIn K C3=true)
  (kt_NoCount_NoView:W.typeIn K (.ref C3)=some (.type "type"))
  (ks_NoCount_NoView:W.subIn K (.ref C4) (.ref C3)=some false)
  (kn_NoCount_NoView:(C4 == C3)=false)
  (kc_NoCount_TooMany:W.hasDictIn K C6=true)
  (kt_NoCount_TooMany:W.typeIn K (.ref C6)=some (.type "type"))
  (ks_NoCount_TooMany:W.subIn K (.ref C4) (.ref C6)=some false)
  (kn_NoCount_TooMany:(C4 == C6)=false)
  (kc_NoView_NoPair:W.hasDictIn K C5=true)
  (kt_NoView_NoPair:W.typeIn K (.ref C5)=some (.type "type"))
  (ks_NoView_NoPair:W.subIn K (.ref C3) (.ref C5)=some false)
  (kn_NoView_NoPair:(C3 == C5)=false)
  (kc_NoView_NoCount:W.hasDictIn K C4=true)
  (kt_NoView_NoCount:W.typeIn K (.ref C4)=some (.type "type"))
  (ks_NoView_NoCount:W.subIn K (.ref C3) (.ref C4)=some false)
  (kn_NoView_NoCount:(C3 == C4)=false)
  (kc_NoView_NoView:W.hasDictIn K C3=true)
  (kt_NoView_NoView:W.typeIn K (.ref C3)=some (.type "type"))
  (ks_NoView_NoView:W.subIn K (.ref C3) (.ref C3)=some true)
  (kc_NoView_TooMany:W.hasDictIn K C6=true)
  (kt_NoView_TooMany:W.typeIn K (.ref C6)=some (.type "type"))
  (ks_NoView_TooMany:W.subIn K (.ref C3) (.ref C6)=some false)
  (kn_NoView_TooMany:(C3 == C6)=false)
  (kc_TooMany_NoPair:W.hasDictIn K C5=true)
  (kt_TooMany_NoPair:W.typeIn K (.ref C5)=some (.type "type"))
  (ks_TooMany_NoPair:W.subIn K (.ref C6) (.ref C5)=some false)
  (kn_TooMany_NoPair:(C6 == C5)=false)
  (kc_TooMany_NoCount:W.hasDictIn K C4=true)
  (kt_TooMany_NoCount:W.typeIn K (.ref C4)=some (.type "type"))
  (ks_TooMany_NoCount:W.subIn K (.ref C6) (.ref C4)=some false)
  (kn_TooMany_NoCount:(C6 == C4)=false)
  (kc_TooMany_NoView:W.hasDictIn K C3=true)
  (kt_TooMany_NoView:W.typeIn K (.ref C3)=some (.type "type"))
  (ks_TooMany_NoView:W.subIn K (.ref C6) (.ref C3)=some false)
  (kn_TooMany_NoView:(C6 == C3)=false)
  (kc_TooMany_TooMany:W.hasDictIn K C6=true)
  (kt_TooMany_TooMany:W.typeIn K (.ref C6)=some (.type "type"))
  (ks_TooMany_TooMany:W.subIn K (.ref C6) (.ref C6)=some true)
  (ks_NoPair_ValueError:W.subIn K (.ref C5) (.type "ValueError")=some true)
  (ks_NoCount_ValueError:W.subIn K (.ref C4) (.type "ValueError")=some true)
  (ks_NoView_ValueError:W.subIn K (.ref C3) (.type "ValueError")=some true)
  (ks_TooMany_ValueError:W.subIn K (.ref C6) (.type "ValueError")=some true)
  (fc_View:W.findIn K (.ref C7) "__class__"=some (some (.builtin "object.__class__")))
  (mo_View:W.mroIn K C7 (.type "object")=some true)
  (fc_Raise:W.findIn K (.ref C13) "__class__"=some (some (.builtin "object.__class__")))
  (mo_Raise:W.mroIn K C13 (.type "object")=some true)
  (fc_Fill:W.findIn K (.ref C10) "__class__"=some (some (.builtin "object.__class__")))
  (mo_Fill:W.mroIn K C10 (.type "object")=some true)
  (kc_Raise_Statement:W.hasDictIn K C9=true)
  (kt_Raise_Statement:W.typeIn K (.ref C9)=some (.type "type"))
  (ks_Raise_Statement:W.subIn K (.ref C13) (.ref C9)=some true)
  (kc_Fill_Statement:W.hasDictIn K C9=true)
  (kt_Fill_Statement:W.typeIn K (.ref C9)=some (.type "type"))
  (ks_Fill_Statement:W.subIn K (.ref C10) (.ref C9)=some true)
  {f0:Addr} {d0:FuncData} (F0:Fun K "__init__" "TooMany.__init__" bH f0 d0)
  {f1:Addr} {d1:FuncData} (a1:W.nsIn K mainGlobals "is_whole"=some (some (.ref f1))) (F1:Fun K "is_whole" "is_whole" gC f1 d1)
  {f2:Addr} {d2:FuncData} (a2:W.nsIn K mainGlobals "count_of"=some (some (.ref f2))) (F2:Fun K "count_of" "count_of" gD f2 d2)
  {f3:Addr} {d3:FuncData} (a3:W.nsIn K mainGlobals "is_number_below"=some (some (.ref f3))) (F3:Fun K "is_number_below" "is_number_below" dh f3 d3)
  {f4:Addr} {d4:FuncData} (a4:W.nsIn K mainGlobals "is_place"=some (some (.ref f4))) (F4:Fun K "is_place" "is_place" jS f4 d4)
  {f5:Addr} {d5:FuncData} (a5:W.nsIn K mainGlobals "refuse_long"=some (some (.ref f5))) (F5:Fun K "refuse_long" "refuse_long" dF f5 d5)
  {f6:Addr} {d6:FuncData} (a6:W.nsIn K mainGlobals "is_within"=some (some (.ref f6))) (F6:Fun K "is_within" "is_within" fm f6 d6)
  {f7:Addr} {d7:FuncData} (a7:W.nsIn K mainGlobals "is_size"=some (some (.ref f7))) (F7:Fun K "is_size" "is_size" iM f7 d7)
  {f8:Addr} {d8:FuncData} (a8:W.nsIn K mainGlobals "is_axis"=some (some (.ref f8))) (F8:Fun K "is_axis" "is_axis" iN f8 d8)
  {f9:Addr} {d9:FuncData} (a9:W.nsIn K mainGlobals "are_axes"=some (some (.ref f9))) (F9:Fun K "are_axes" "are_axes" eP f9 d9)
  {f10:Addr} {d10:FuncData} (a10:W.nsIn K mainGlobals "kept_axis"=some (some (.ref f10))) (F10:Fun K "kept_axis" "kept_axis" fk f10 d10)
  {f11:Addr} {d11:FuncData} (F11:Fun K "__init__" "View.__init__" bE f11 d11)
  {f12:Addr} {d12:FuncData} (F12:Fun K "sizes" "View.sizes" cB f12 d12)
  {f13:Addr} {d13:FuncData} (F13:Fun K "paces" "View.paces" gU f13 d13)
  {f14:Addr} {d14:FuncData} (F14:Fun K "count" "View.count" eE f14 d14)
  {f15:Addr} {d15:FuncData} (F15:Fun K "cell" "View.cell" iY f15 d15)
  {f16:Addr} {d16:FuncData} (F16:Fun K "cells" "View.cells" eF f16 d16)
  {f17:Addr} {d17:FuncData} (F17:Fun K "least" "View.least" cD f17 d17)
  {f18:Addr} {d18:FuncData} (F18:Fun K "greatest" "View.greatest" bD f18 d18)
  {f19:Addr} {d19:FuncData} (a19:W.nsIn K mainGlobals "widened"=some (some (.ref f19))) (F19:Fun K "widened" "widened" fW f19 d19)
  {f20:Addr} {d20:FuncData} (a20:W.nsIn K mainGlobals "refuse_rooms"=some (some (.ref f20))) (F20:Fun K "refuse_rooms" "refuse_rooms" cL f20 d20)
  {f21:Addr} {d21:FuncData} (a21:W.nsIn K mainGlobals "refuse_count"=some (some (.ref f21))) (F21:Fun K "refuse_count" "refuse_count" cM f21 d21)
  {f22:Addr} {d22:FuncData} (F22:Fun K "__init__" "Store.__init__" bX f22 d22)
  {f23:Addr} {d23:FuncData} (F23:Fun K "all_values" "Store.all_values" bI f23 d23)
  {f24:Addr} {d24:FuncData} (F24:Fun K "refuse_room" "Store.refuse_room" bw f24 d24)
  {f25:Addr} {d25:FuncData} (F25:Fun K "read" "Store.read" bS f25 d25)
  {f26:Addr} {d26:FuncData} (F26:Fun K "put" "Store.put" fB f26 d26)
  {f27:Addr} {d27:FuncData} (F27:Fun K "fill" "Store.fill" eH f27 d27)
  {f28:Addr} {d28:FuncData} (F28:Fun K "copied" "Store.copied" cQ f28 d28)
  {f29:Addr} {d29:FuncData} (a29:W.nsIn K mainGlobals "refuse_two"=some (some (.ref f29))) (F29:Fun K "refuse_two" "refuse_two" eu f29 d29)
  {f30:Addr} {d30:FuncData} (F30:Fun K "writes" "Statement.writes" bJ f30 d30)
  {f31:Addr} {d31:FuncData} (F31:Fun K "reads" "Statement.reads" bM f31 d31)
  {f32:Addr} {d32:FuncData} (F32:Fun K "run" "Statement.run" cn f32 d32)
  {f33:Addr} {d33:FuncData} (F33:Fun K "__init__" "Fill.__init__" cq f33 d33)
  {f34:Addr} {d34:FuncData} (F34:Fun K "writes" "Fill.writes" dI f34 d34)
  {f35:Addr} {d35:FuncData} (F35:Fun K "run" "Fill.run" gG f35 d35)
  {f36:Addr} {d36:FuncData} (F36:Fun K "__init__" "Copy.__init__" cu f36 d36)
  {f37:Addr} {d37:FuncData} (F37:Fun K "writes" "Copy.writes" dJ f37 d37)
  {f38:Addr} {d38:FuncData} (F38:Fun K "reads" "Copy.reads" eI f38 d38)
  {f39:Addr} {d39:FuncData} (F39:Fun K "run" "Copy.run" gH f39 d39)
  {f40:Addr} {d40:FuncData} (F40:Fun K "__init__" "Swap.__init__" cj f40 d40)
  {f41:Addr} {d41:FuncData} (F41:Fun K "writes" "Swap.writes" dG f41 d41)
  {f42:Addr} {d42:FuncData} (F42:Fun K "reads" "Swap.reads" eG f42 d42)
  {f43:Addr} {d43:FuncData} (F43:Fun K "run" "Swap.run" gF f43 d43)
  {f44:Addr} {d44:FuncData} (F44:Fun K "__init__" "Raise.__init__" bY f44 d44)
  {f45:Addr} {d45:FuncData} (F45:Fun K "writes" "Raise.writes" cR f45 d45)
  {f46:Addr} {d46:FuncData} (F46:Fun K "reads" "Raise.reads" dH f46 d46)
  {f47:Addr} {d47:FuncData} (F47:Fun K "run" "Raise.run" cf f47 d47)
  {f48:Addr} {d48:FuncData} (a48:W.nsIn K mainGlobals "_law_draw"=some (some (.ref f48))) (F48:Fun K "_law_draw" "_law_draw" fz f48 d48)
  {f49:Addr} {d49:FuncData} (a49:W.nsIn K mainGlobals "_law_whole"=some (some (.ref f49))) (F49:Fun K "_law_whole" "_law_whole" ey f49 d49)
  {f50:Addr} {d50:FuncData} (a50:W.nsIn K mainGlobals "_law_list"=some (some (.ref f50))) (F50:Fun K "_law_list" "_law_list" dv f50 d50)
  {f51:Addr} {d51:FuncData} (a51:W.nsIn K mainGlobals "_law_sizes"=some (some (.ref f51))) (F51:Fun K "_law_sizes" "_law_sizes" eB f51 d51)
  {f52:Addr} {d52:FuncData} (a52:W.nsIn K mainGlobals "_law_axes"=some (some (.ref f52))) (F52:Fun K "_law_axes" "_law_axes" fA f52 d52)
  {f53:Addr} {d53:FuncData} (a53:W.nsIn K mainGlobals "_law_reach"=some (some (.ref f53))) (F53:Fun K "_law_reach" "_law_reach" eC f53 d53)
  {f54:Addr} {d54:FuncData} (a54:W.nsIn K mainGlobals "_law_views"=some (some (.ref f54))) (F54:Fun K "_law_views" "_law_views" bR f54 d54)
  {f55:Addr} {d55:FuncData} (a55:W.nsIn K mainGlobals "_law_cells"=some (some (.ref f55))) (F55:Fun K "_law_cells" "_law_cells" cA f55 d55)
  {f56:Addr} {d56:FuncData} (a56:W.nsIn K mainGlobals "_law_values"=some (some (.ref f56))) (F56:Fun K "_law_values" "_law_values" b7 f56 d56)
  {f57:Addr} {d57:FuncData} (a57:W.nsIn K mainGlobals "_law_view"=some (some (.ref f57))) (F57:Fun K "_law_view" "_law_view" ft f57 d57)
  {f58:Addr} {d58:FuncData} (a58:W.nsIn K mainGlobals "_law_same"=some (some (.ref f58))) (F58:Fun K "_law_same" "_law_same" fx f58 d58)
  {f59:Addr} {d59:FuncData} (a59:W.nsIn K mainGlobals "_law_made"=some (some (.ref f59))) (F59:Fun K "_law_made" "_law_made" fy f59 d59)
  {f60:Addr} {d60:FuncData} (a60:W.nsIn K mainGlobals "_law_told"=some (some (.ref f60))) (F60:Fun K "_law_told" "_law_told" fw f60 d60)
  {f61:Addr} {d61:FuncData} (a61:W.nsIn K mainGlobals "_law_due"=some (some (.ref f61))) (F61:Fun K "_law_due" "_law_due" gE f61 d61)
  {f62:Addr} {d62:FuncData} (a62:W.nsIn K mainGlobals "_law_word"=some (some (.ref f62))) (F62:Fun K "_law_word" "_law_word" fq f62 d62)
  {f63:Addr} {d63:FuncData} (a63:W.nsIn K mainGlobals "_law_refused"=some (some (.ref f63))) (F63:Fun K "_law_refused" "_law_refused" cO f63 d63)
  {f64:Addr} {d64:FuncData} (a64:W.nsIn K mainGlobals "_law_all_refused"=some (some (.ref f64))) (F64:Fun K "_law_all_refused" "_law_all_refused" bG f64 d64)
  {f65:Addr} {od65 an65:Option Addr} {sl65:Array (Option Value)} {oc65 kV65 dc65 pm65 cd65 ct65:Value}
  (a65:W.nsIn K mainGlobals "law"=some (some (.ref f65))) (l65:K.lookup f65=some ⟨oc65,od65,.func (W.fnOf "law" "law" (fi ko) (cK ko) (aa ko) .none kV65 dc65 pm65 an65 cd65 ct65),sl65⟩)
  (c65:W.codeIn K cd65 "law"=true) (k65:W.keepIn K (.ref f65)=true)
  (fi_TooMany:W.findIn K (.ref C6) "__init__"=some (some (.ref f0)))
  (xe_TooMany:zx K C6 f0 [.type "ValueError",.type "Exception",.type "BaseException",.type "object"] "ValueError.__new__"=true)
  (xf_TooMany:W.typeIn K (.ref f0)=some (.type "function"))
  (xo_TooMany:oW K C6=true)
  (xs_TooMany:W.findIn K (.ref C6) "__setattr__"=some (some (.builtin "object.__setattr__")))
  (xh_TooMany:W.hasDictIn K C6=true)
  (nt_TooMany_number:W.takerIn K C6 "number"=some none)
  (nf_TooMany_number:W.findIn K (.ref C6) "number"=some none)
  (bs_PaceError:W.specialIn K (.ref C0) "__getattribute__"=some (some (.builtin "type.__getattribute__")))
  (br_PaceError:W.readsIn K C0 (.type "type")=true)
  (bf_PaceError:W.findCls K (.ref C0) (.type "type") "__init__"=some (.val (.builtin "ValueError.__init__")))
  (pg_View:W.plainGet K C7 Str.empty=true)
  (hd_View:W.hasDictIn K C7=true)
  (po_View:W.plainOver K C7=true)
  (sa_View:W.findIn K (.ref C7) "__setattr__"=some (some (.builtin "object.__setattr__")))
  (nf_View_axes:W.findIn K (.ref C7) "axes"=some none)
  (nf_View_first:W.findIn K (.ref C7) "first"=some none)
  (nf_View_room:W.findIn K (.ref C7) "room"=some none)
  (fi_View___init__:W.findIn K (.ref C7) "__init__"=some (some (.ref f11)))
  (fn_View___init__:W.isFn K (.ref f11)=true)
  (mm_View:W.makesIn K C7=true)
  (ck_View:W.keepIn K (.ref C7)=true)
  (fi_View_sizes:W.findIn K (.ref C7) "sizes"=some (some (.ref f12)))
  (fn_View_sizes:W.isFn K (.ref f12)=true)
  (fi_View_paces:W.findIn K (.ref C7) "paces"=some (some (.ref f13)))
  (fn_View_paces:W.isFn K (.ref f13)=true)
  (fi_View_count:W.findIn K (.ref C7) "count"=some (some (.ref f14)))
  (fn_View_count:W.isFn K (.ref f14)=true)
  (fi_View_cell:W.findIn K (.ref C7) "cell"=some (some (.ref f15)))
  (fn_View_cell:W.isFn K (.ref f15)=true)
  (fi_View_cells:W.findIn K (.ref C7) "cells"=some (some (.ref f16)))
  (fn_View_cells:W.isFn K (.ref f16)=true)
  (fi_View_least:W.findIn K (.ref C7) "least"=some (some (.ref f17)))
  (fn_View_least:W.isFn K (.ref f17)=true)
  (fi_View_greatest:W.findIn K (.ref C7) "greatest"=some (some (.ref f18)))
  (fn_View_greatest:W.isFn K (.ref f18)=true)
  (pg_Store:W.plainGet K C8 Str.empty=true)
  (hd_Store:W.hasDictIn K C8=true)
  (po_Store:W.plainOver K C8=true)
  (sa_Store:W.findIn K (.ref C8) "__setattr__"=some (some (.builtin "object.__setattr__")))
  (nf_Store_floor:W.findIn K (.ref C8) "floor"=some none)
  (fi_Store___init__:W.findIn K (.ref C8) "__init__"=some (some (.ref f22)))
  (fn_Store___init__:W.isFn K (.ref f22)=true)
  (mm_Store:W.makesIn K C8=true)
  (ck_Store:W.keepIn K (.ref C8)=true)
  (fi_Store_all_values:W.findIn K (.ref C8) "all_values"=some (some (.ref f23)))
  (fn_Store_all_values:W.isFn K (.ref f23)=true)
  (fi_Store_refuse_room:W.findIn K (.ref C8) "refuse_room"=some (some (.ref f24)))
  (fn_Store_refuse_room:W.isFn K (.ref f24)=true)
  (fi_Store_read:W.findIn K (.ref C8) "read"=some (some (.ref f25)))
  (fn_Store_read:W.isFn K (.ref f25)=true)
  (fi_Store_put:W.findIn K (.ref C8) "put"=some (some (.ref f26)))
  (fn_Store_put:W.isFn K (.ref f26)=true)
  (fi_Store_fill:W.findIn K (.ref C8) "fill"=some (some (.ref f27)))
  (fn_Store_fill:W.isFn K (.ref f27)=true)
  (fi_Store_copied:W.findIn K (.ref C8) "copied"=some (some (.ref f28)))
  (fn_Store_copied:W.isFn K (.ref f28)=true)
  (pg_Statement:W.plainGet K C9 Str.empty=true)
  (hd_Statement:W.hasDictIn K C9=true)
  (po_Statement:W.plainOver K C9=true)
  (sa_Statement:W.findIn K (.ref C9) "__setattr__"=some (some (.builtin "object.__setattr__")))
  (mm_Statement:W.makesIn K C9=true)
  (ck_Statement:W.keepIn K (.ref C9)=true)
  (fi0_Statement:W.findIn K (.ref C9) "__init__"=some (some (.builtin "object.__init__")))
  (fi_Statement_writes:W.findIn K (.ref C9) "writes"=some (some (.ref f30)))
  (fn_Statement_writes:W.isFn K (.ref f30)=true)
  (fi_Statement_reads:W.findIn K (.ref C9) "reads"=some (some (.ref f31)))
  (fn_Statement_reads:W.isFn K (.ref f31)=true)
  (fi_Statement_run:W.findIn K (.ref C9) "run"=some (some (.ref f32)))
  (fn_Statement_run:W.isFn K (.ref f32)=true)
  (pg_Fill:W.plainGet K C10 Str.empty=true)
  (hd_Fill:W.hasDictIn K C10=true)
  (po_Fill:W.plainOver K C10=true)
  (sa_Fill:W.findIn K (.ref C10) "__setattr__"=some (some (.builtin "object.__setattr__")))
  (nf_Fill_to:W.findIn K (.ref C10) "to"=some none)
  (nf_Fill_value:W.findIn K (.ref C10) "value"=some none)
  (fi_Fill_writes:W.findIn K (.ref C10) "writes"=some (some (.ref f34)))
  (fn_Fill_writes:W.isFn K (.ref f34)=true)
  (fi_Fill_reads:W.findIn K (.ref C10) "reads"=some (some (.ref f31)))
  (fn_Fill_reads:W.isFn K (.ref f31)=true)
  (fi_Fill_run:W.findIn K (.ref C10) "run"=some (some (.ref f35)))
  (fn_Fill_run:W.isFn K (.ref f35)=true)
  (fi_Fill___init__:W.findIn K (.ref C10) "__init__"=some (some (.ref f33)))
  (fn_Fill___init__:W.isFn K (.ref f33)=true)
  (mm_Fill:W.makesIn K C10=true)
  (ck_Fill:W.keepIn K (.ref C10)=true)
  (pg_Copy:W.plainGet K C11 Str.empty=true)
  (hd_Copy:W.hasDictIn K C11=true)
  (po_Copy:W.plainOver K C11=true)
  (sa_Copy:W.findIn K (.ref C11) "__setattr__"=some (some (.builtin "object.__setattr__")))
  (nf_Copy_source:W.findIn K (.ref C11) "source"=some none)
  (nf_Copy_to:W.findIn K (.ref C11) "to"=some none)
  (fi_Copy_writes:W.findIn K (.ref C11) "writes"=some (some (.ref f37)))
  (fn_Copy_writes:W.isFn K (.ref f37)=true)
  (fi_Copy_reads:W.findIn K (.ref C11) "reads"=some (some (.ref f38)))
  (fn_Copy_reads:W.isFn K (.ref f38)=true)
  (fi_Copy_run:W.findIn K (.ref C11) "run"=some (some (.ref f39)))
  (fn_Copy_run:W.isFn K (.ref f39)=true)
  (fi_Copy___init__:W.findIn K (.ref C11) "__init__"=some (some (.ref f36)))
  (fn_Copy___init__:W.isFn K (.ref f36)=true)
  (mm_Copy:W.makesIn K C11=true)
  (ck_Copy:W.keepIn K (.ref C11)=true)
  (pg_Swap:W.plainGet K C12 Str.empty=true)
  (hd_Swap:W.hasDictIn K C12=true)
  (po_Swap:W.plainOver K C12=true)
  (sa_Swap:W.findIn K (.ref C12) "__setattr__"=some (some (.builtin "object.__setattr__")))
  (nf_Swap_one:W.findIn K (.ref C12) "one"=some none)
  (nf_Swap_other:W.findIn K (.ref C12) "other"=some none)
  (fi_Swap_writes:W.findIn K (.ref C12) "writes"=some (some (.ref f41)))
  (fn_Swap_writes:W.isFn K (.ref f41)=true)
  (fi_Swap_reads:W.findIn K (.ref C12) "reads"=some (some (.ref f42)))
  (fn_Swap_reads:W.isFn K (.ref f42)=true)
  (fi_Swap_run:W.findIn K (.ref C12) "run"=some (some (.ref f43)))
  (fn_Swap_run:W.isFn K (.ref f43)=true)
  (fi_Swap___init__:W.findIn K (.ref C12) "__init__"=some (some (.ref f40)))
  (fn_Swap___init__:W.isFn K (.ref f40)=true)
  (mm_Swap:W.makesIn K C12=true)
  (ck_Swap:W.keepIn K (.ref C12)=true)
  (pg_Raise:W.plainGet K C13 Str.empty=true)
  (hd_Raise:W.hasDictIn K C13=true)
  (po_Raise:W.plainOver K C13=true)
  (sa_Raise:W.findIn K (.ref C13) "__setattr__"=some (some (.builtin "object.__setattr__")))
  (nf_Raise_source:W.findIn K (.ref C13) "source"=some none)
  (nf_Raise_to:W.findIn K (.ref C13) "to"=some none)
  (fi_Raise_writes:W.findIn K (.ref C13) "writes"=some (some (.ref f45)))
  (fn_Raise_writes:W.isFn K (.ref f45)=true)
  (fi_Raise_reads:W.findIn K (.ref C13) "reads"=some (some (.ref f46)))
  (fn_Raise_reads:W.isFn K (.ref f46)=true)
  (fi_Raise_run:W.findIn K (.ref C13) "run"=some (some (.ref f47)))
  (fn_Raise_run:W.isFn K (.ref f47)=true)
  (fi_Raise___init__:W.findIn K (.ref C13) "__init__"=some (some (.ref f44)))
  (fn_Raise___init__:W.isFn K (.ref f44)=true)
  (mm_Raise:W.makesIn K C13=true)
  (ck_Raise:W.keepIn K (.ref C13)=true)
  {tk0:Tok} (w0:W.nsIn K mainGlobals "MOST_TOLD"=some (some (.int 4096 tk0)))
  {tk1:Tok} (w1:W.nsIn K mainGlobals "MOST_ROOM"=some (some (.int 1000000000000000000 tk1)))
  {tk2:Tok} (w2:W.nsIn K mainGlobals "MOST_SIZE"=some (some (.int 1000000000 tk2)))
  {tk3:Tok} (w3:W.nsIn K mainGlobals "MOST_AXES"=some (some (.int 8 tk3)))
  (z0:W.nsIn K mainGlobals "ValueError"=some none)
  (z1:W.nsIn K mainGlobals "all"=some none)
  (z2:W.nsIn K mainGlobals "bool"=some none)
  (z3:W.nsIn K mainGlobals "int"=some none)
  (z4:W.nsIn K mainGlobals "isinstance"=some none)
  (z5:W.nsIn K mainGlobals "len"=some none)
  (z6:W.nsIn K mainGlobals "list"=some none)
  (z7:W.nsIn K mainGlobals "max"=some none)
  (z8:W.nsIn K mainGlobals "min"=some none)
  (z9:W.nsIn K mainGlobals "range"=some none)
  (z10:W.nsIn K mainGlobals "sum"=some none)
  (z11:W.nsIn K mainGlobals "tuple"=some none)
  (z12:W.nsIn K mainGlobals "zip"=some none)
  : ∃ fd:FuncData,(∀ (s:Shared) (v:Value),BindsTo s fd ⟨[v],[]⟩ [("_law_script",v)])/\∀ base:Heap,K.In base->base.Ns mainGlobals mg->aB l.prog w K mg base CX0 11 fa fd ["_law_script"] (si K):=by
 have e:=hfa.symm.trans (Jn X G a65);cases e;have F65:=Fc (st:=ko) l65 c65 k65;have T:Tx K mg ⟨C0,C1,C2,C3,C4,C5,C6,C7,C8,C9,C10,C11,C12,C13,f0,_,f1,_,f2,_,f3,_,f4,_,f5,_,f6,_,f7,_,f8,_,f9,_,f10,_,f11,_,f12,_,f13,_,f14,_,f15,_,f16,_,f17,_,f18,_,f19,_,f20,_,f21,_,f22,_,f23,_,f24,_,f25,_,f26,_,f27,_,f28,_,f29,_,f30,_,f31,_,f32,_,f33,_,f34,_,f35,_,f36,_,f37,_,f38,_,f39,_,f40,_,f41,_,f42,_,f43,_,f44,_,f45,_,f46,_,f47,_,f48,_,f49,_,f50,_,f51,_,f52,_,f53,_,f54,_,f55,_,f56,_,f57,_,f58,_,f59,_,f60,_,f61,_,f62,_,f63,_,f64,_,fa,_⟩:=⟨Jn X G y0,Jn X G y1,Jn X G y2,Jn X G y3,Jn X G y4,Jn X G y5,Jn X G y6,Jn X G y7,Jn X G y8,Jn X G y9,Jn X G y10,Jn X G y11,Jn X G y12,Jn X G y13,o_NoPair,o_NoCount,o_NoView,x_NoPair_PaceError,x_NoCount_PaceError,x_NoView_PaceError,x_TooMany_PaceError,ocs,oct,ga_NoPair,gn_NoPair,mb_NoPair,mo_NoPair,fc_NoPair,hd_NoPair,ga_NoCount,gn_NoCount,mb_NoCount,mo_NoCount,fc_NoCount,hd_NoCount,ga_NoView,gn_NoView,mb_NoView,mo_NoView,fc_NoView,hd_NoView,ga_TooMany,gn_TooMany,mb_TooMany,mo_TooMany,fc_TooMany,hd_TooMany,kc_NoPair_NoPair,kt_NoPair_NoPair,ks_NoPair_NoPair,kc_NoPair_NoCount,kt_NoPair_NoCount,ks_NoPair_NoCount,kn_NoPair_NoCount,kc_NoPair_NoView,kt_NoPair_NoView,ks_NoPair_NoView,kn_NoPair_NoView,kc_NoPair_TooMany,kt_NoPair_TooMany,ks_NoPair_TooMany,kn_NoPair_TooMany,kc_NoCount_NoPair,kt_NoCount_NoPair,ks_NoCount_NoPair,kn_NoCount_NoPair,kc_NoCount_NoCount,kt_NoCount_NoCount,ks_NoCount_NoCount,kc_NoCount_NoView,kt_NoCount_NoView,ks_NoCount_NoView,kn_NoCount_NoView,kc_NoCount_TooMany,kt_NoCount_TooMany,ks_NoCount_TooMany,kn_NoCount_TooMany,kc_NoView_NoPair,kt_NoView_NoPair,ks_NoView_NoPair,kn_NoView_NoPair,kc_NoView_NoCount,kt_NoView_NoCount,ks_NoView_NoCount,kn_NoView_NoCount,kc_NoView_NoView,kt_NoView_NoView,ks_NoView_NoView,kc_NoView_TooMany,kt_NoView_TooMany,ks_NoView_TooMany,kn_NoView_TooMany,kc_TooMany_NoPair,kt_TooMany_NoPair,ks_TooMany_NoPair,kn_TooMany_NoPair,kc_TooMany_NoCount,kt_TooMany_NoCount,ks_TooMany_NoCount,kn_TooMany_NoCount,kc_TooMany_NoView,kt_TooMany_NoView,ks_TooMany_NoView,kn_TooMany_NoView,kc_TooMany_TooMany,kt_TooMany_TooMany,ks_TooMany_TooMany,ks_NoPair_ValueError,ks_NoCount_ValueError,ks_NoView_ValueError,ks_TooMany_ValueError,fc_View,mo_View,fc_Raise,mo_Raise,fc_Fill,mo_Fill,kc_Raise_Statement,kt_Raise_Statement,ks_Raise_Statement,kc_Fill_Statement,kt_Fill_Statement,ks_Fill_Statement,⟨_,Jn X G w0⟩,⟨_,Jn X G w1⟩,⟨_,Jn X G w2⟩,⟨_,Jn X G w3⟩,⟨xe_TooMany,xf_TooMany,⟨xo_TooMany,xs_TooMany,xh_TooMany⟩⟩,nt_TooMany_number,nf_TooMany_number,⟨bs_PaceError,br_PaceError,bf_PaceError⟩,⟨pg_View,hd_View,po_View,sa_View⟩,nf_View_axes,nf_View_first,nf_View_room,⟨mm_View,fi_View___init__,fn_View___init__,ck_View⟩,⟨fi_View_sizes,fn_View_sizes,F12.kp⟩,⟨fi_View_paces,fn_View_paces,F13.kp⟩,⟨fi_View_count,fn_View_count,F14.kp⟩,⟨fi_View_cell,fn_View_cell,F15.kp⟩,⟨fi_View_cells,fn_View_cells,F16.kp⟩,⟨fi_View_least,fn_View_least,F17.kp⟩,⟨fi_View_greatest,fn_View_greatest,F18.kp⟩,⟨pg_Store,hd_Store,po_Store,sa_Store⟩,nf_Store_floor,⟨mm_Store,fi_Store___init__,fn_Store___init__,ck_Store⟩,⟨fi_Store_all_values,fn_Store_all_values,F23.kp⟩,⟨fi_Store_refuse_room,fn_Store_refuse_room,F24.kp⟩,⟨fi_Store_read,fn_Store_read,F25.kp⟩,⟨fi_Store_put,fn_Store_put,F26.kp⟩,⟨fi_Store_fill,fn_Store_fill,F27.kp⟩,⟨fi_Store_copied,fn_Store_copied,F28.kp⟩,⟨pg_Statement,hd_Statement,po_Statement,sa_Statement⟩,⟨mm_Statement,fi0_Statement,ck_Statement⟩,⟨fi_Statement_writes,fn_Statement_writes,F30.kp⟩,⟨fi_Statement_reads,fn_Statement_reads,F31.kp⟩,⟨fi_Statement_run,fn_Statement_run,F32.kp⟩,⟨pg_Fill,hd_Fill,po_Fill,sa_Fill⟩,nf_Fill_to,nf_Fill_value,⟨fi_Fill_writes,fn_Fill_writes,F34.kp⟩,⟨fi_Fill_reads,fn_Fill_reads,F31.kp⟩,⟨fi_Fill_run,fn_Fill_run,F35.kp⟩,⟨mm_Fill,fi_Fill___init__,fn_Fill___init__,ck_Fill⟩,⟨pg_Copy,hd_Copy,po_Copy,sa_Copy⟩,nf_Copy_source,nf_Copy_to,⟨fi_Copy_writes,fn_Copy_writes,F37.kp⟩,⟨fi_Copy_reads,fn_Copy_reads,F38.kp⟩,⟨fi_Copy_run,fn_Copy_run,F39.kp⟩,⟨mm_Copy,fi_Copy___init__,fn_Copy___init__,ck_Copy⟩,⟨pg_Swap,hd_Swap,po_Swap,sa_Swap⟩,nf_Swap_one,nf_Swap_other,⟨fi_Swap_writes,fn_Swap_writes,F41.kp⟩,⟨fi_Swap_reads,fn_Swap_reads,F42.kp⟩,⟨fi_Swap_run,fn_Swap_run,F43.kp⟩,⟨mm_Swap,fi_Swap___init__,fn_Swap___init__,ck_Swap⟩,⟨pg_Raise,hd_Raise,po_Raise,sa_Raise⟩,nf_Raise_source,nf_Raise_to,⟨fi_Raise_writes,fn_Raise_writes,F45.kp⟩,⟨fi_Raise_reads,fn_Raise_reads,F46.kp⟩,⟨fi_Raise_run,fn_Raise_run,F47.kp⟩,⟨mm_Raise,fi_Raise___init__,fn_Raise___init__,ck_Raise⟩,F0,F0.binds (ps:=["self", "number"]) (λ _ _ _ _ _ _=>jr (λ _ _=>rfl)),F1,Jn X G a1,F1.binds (ps:=["thing"]) (λ _ _ _ _ _ _=>fP (λ _=>rfl)),F2,Jn X G a2,F2.binds (ps:=["sizes"]) (λ _ _ _ _ _ _=>fP (λ _=>rfl)),F3,Jn X G a3,F3.binds (ps:=["thing", "bound"]) (λ _ _ _ _ _ _=>jr (λ _ _=>rfl)),F4,Jn X G a4,F4.binds (ps:=["sizes", "thing"]) (λ _ _ _ _ _ _=>jr (λ _ _=>rfl)),F5,Jn X G a5,F5.binds (ps:=["count"]) (λ _ _ _ _ _ _=>fP (λ _=>rfl)),F6,Jn X G a6,F6.binds (ps:=["thing", "low", "high"]) (λ _ _ _ _ _ _=>rV (λ _ _ _=>rfl)),F7,Jn X G a7,F7.binds (ps:=["thing"]) (λ _ _ _ _ _ _=>fP (λ _=>rfl)),F8,Jn X G a8,F8.binds (ps:=["thing"]) (λ _ _ _ _ _ _=>fP (λ _=>rfl)),F9,Jn X G a9,F9.binds (ps:=["thing"]) (λ _ _ _ _ _ _=>fP (λ _=>rfl)),F10,Jn X G a10,F10.binds (ps:=["axis"]) (λ _ _ _ _ _ _=>fP (λ _=>rfl)),F11,F11.binds (ps:=["self", "room", "first", "axes"]) (λ _ _ _ _ _ _=>CJ (λ _ _ _ _=>rfl)),F12,F12.binds (ps:=["self"]) (λ _ _ _ _ _ _=>fP (λ _=>rfl)),F13,F13.binds (ps:=["self"]) (λ _ _ _ _ _ _=>fP (λ _=>rfl)),F14,F14.binds (ps:=["self"]) (λ _ _ _ _ _ _=>fP (λ _=>rfl)),F15,F15.binds (ps:=["self", "place"]) (λ _ _ _ _ _ _=>jr (λ _ _=>rfl)),F16,F16.binds (ps:=["self"]) (λ _ _ _ _ _ _=>fP (λ _=>rfl)),F17,F17.binds (ps:=["self"]) (λ _ _ _ _ _ _=>fP (λ _=>rfl)),F18,F18.binds (ps:=["self"]) (λ _ _ _ _ _ _=>fP (λ _=>rfl)),F19,Jn X G a19,F19.binds (ps:=["cells", "size", "pace"]) (λ _ _ _ _ _ _=>rV (λ _ _ _=>rfl)),F20,Jn X G a20,F20.binds (ps:=["one", "other"]) (λ _ _ _ _ _ _=>jr (λ _ _=>rfl)),F21,Jn X G a21,F21.binds (ps:=["view", "many"]) (λ _ _ _ _ _ _=>jr (λ _ _=>rfl)),F22,F22.binds (ps:=["self", "values"]) (λ _ _ _ _ _ _=>jr (λ _ _=>rfl)),F23,F23.binds (ps:=["self"]) (λ _ _ _ _ _ _=>fP (λ _=>rfl)),F24,F24.binds (ps:=["self", "view"]) (λ _ _ _ _ _ _=>jr (λ _ _=>rfl)),F25,F25.binds (ps:=["self", "view"]) (λ _ _ _ _ _ _=>jr (λ _ _=>rfl)),F26,F26.binds (ps:=["self", "view", "values"]) (λ _ _ _ _ _ _=>rV (λ _ _ _=>rfl)),F27,F27.binds (ps:=["self", "view", "value"]) (λ _ _ _ _ _ _=>rV (λ _ _ _=>rfl)),F28,F28.binds (ps:=["self", "to", "source"]) (λ _ _ _ _ _ _=>rV (λ _ _ _=>rfl)),F29,Jn X G a29,F29.binds (ps:=["one", "other"]) (λ _ _ _ _ _ _=>jr (λ _ _=>rfl)),F30,F30.binds (ps:=["self"]) (λ _ _ _ _ _ _=>fP (λ _=>rfl)),F31,F31.binds (ps:=["self"]) (λ _ _ _ _ _ _=>fP (λ _=>rfl)),F32,F32.binds (ps:=["self", "store"]) (λ _ _ _ _ _ _=>jr (λ _ _=>rfl)),F33,F33.binds (ps:=["self", "to", "value"]) (λ _ _ _ _ _ _=>rV (λ _ _ _=>rfl)),F34,F34.binds (ps:=["self"]) (λ _ _ _ _ _ _=>fP (λ _=>rfl)),F35,F35.binds (ps:=["self", "store"]) (λ _ _ _ _ _ _=>jr (λ _ _=>rfl)),F36,F36.binds (ps:=["self", "to", "source"]) (λ _ _ _ _ _ _=>rV (λ _ _ _=>rfl)),F37,F37.binds (ps:=["self"]) (λ _ _ _ _ _ _=>fP (λ _=>rfl)),F38,F38.binds (ps:=["self"]) (λ _ _ _ _ _ _=>fP (λ _=>rfl)),F39,F39.binds (ps:=["self", "store"]) (λ _ _ _ _ _ _=>jr (λ _ _=>rfl)),F40,F40.binds (ps:=["self", "one", "other"]) (λ _ _ _ _ _ _=>rV (λ _ _ _=>rfl)),F41,F41.binds (ps:=["self"]) (λ _ _ _ _ _ _=>fP (λ _=>rfl)),F42,F42.binds (ps:=["self"]) (λ _ _ _ _ _ _=>fP (λ _=>rfl)),F43,F43.binds (ps:=["self", "store"]) (λ _ _ _ _ _ _=>jr (λ _ _=>rfl)),F44,F44.binds (ps:=["self", "to", "source"]) (λ _ _ _ _ _ _=>rV (λ _ _ _=>rfl)),F45,F45.binds (ps:=["self"]) (λ _ _ _ _ _ _=>fP (λ _=>rfl)),F46,F46.binds (ps:=["self"]) (λ _ _ _ _ _ _=>fP (λ _=>rfl)),F47,F47.binds (ps:=["self", "store"]) (λ _ _ _ _ _ _=>jr (λ _ _=>rfl)),F48,Jn X G a48,F48.binds (ps:=["_law_script", "_law_k", "_law_many"]) (λ _ _ _ _ _ _=>rV (λ _ _ _=>rfl)),F49,Jn X G a49,F49.binds (ps:=["_law_found"]) (λ _ _ _ _ _ _=>fP (λ _=>rfl)),F50,Jn X G a50,F50.binds (ps:=["_law_found", "_law_due_here"]) (λ _ _ _ _ _ _=>jr (λ _ _=>rfl)),F51,Jn X G a51,F51.binds (ps:=["_law_script", "_law_at"]) (λ _ _ _ _ _ _=>jr (λ _ _=>rfl)),F52,Jn X G a52,F52.binds (ps:=["_law_script", "_law_at", "_law_sizes_here"]) (λ _ _ _ _ _ _=>rV (λ _ _ _=>rfl)),F53,Jn X G a53,F53.binds (ps:=["_law_axes_here"]) (λ _ _ _ _ _ _=>fP (λ _=>rfl)),F54,Jn X G a54,F54.binds (ps:=["_law_script"]) (λ _ _ _ _ _ _=>fP (λ _=>rfl)),F55,Jn X G a55,F55.binds (ps:=["_law_first", "_law_axes_here"]) (λ _ _ _ _ _ _=>jr (λ _ _=>rfl)),F56,Jn X G a56,F56.binds (ps:=["_law_script", "_law_room"]) (λ _ _ _ _ _ _=>jr (λ _ _=>rfl)),F57,Jn X G a57,F57.binds (ps:=["_law_room", "_law_one"]) (λ _ _ _ _ _ _=>jr (λ _ _=>rfl)),F58,Jn X G a58,F58.binds (ps:=["_law_found", "_law_views_here"]) (λ _ _ _ _ _ _=>jr (λ _ _=>rfl)),F59,Jn X G a59,F59.binds (ps:=["_law_way", "_law_one", "_law_other", "_law_value"]) (λ _ _ _ _ _ _=>CJ (λ _ _ _ _=>rfl)),F60,Jn X G a60,F60.binds (ps:=["_law_statement", "_law_way", "_law_one", "_law_other"]) (λ _ _ _ _ _ _=>CJ (λ _ _ _ _=>rfl)),F61,Jn X G a61,F61.binds (ps:=["_law_due_here", "_law_way", "_law_here", "_law_there", "_law_value"]) (λ _ _ _ _ _ _=>HR (λ _ _ _ _ _=>rfl)),F62,Jn X G a62,F62.binds (ps:=["_law_e"]) (λ _ _ _ _ _ _=>fP (λ _=>rfl)),F63,Jn X G a63,F63.binds (ps:=["_law_way", "_law_one", "_law_other", "_law_store"]) (λ _ _ _ _ _ _=>CJ (λ _ _ _ _=>rfl)),F64,Jn X G a64,F64.binds (ps:=["_law_script", "_law_room", "_law_store", "_law_one", "_law_way"]) (λ _ _ _ _ _ _=>HR (λ _ _ _ _ _=>rfl)),F65,Jn X G a65,F65.binds (ps:=["_law_script"]) (λ _ _ _ _ _ _=>fP (λ _=>rfl)),JL X G z0,JL X G z1,JL X G z2,JL X G z3,JL X G z4,JL X G z5,JL X G z6,JL X G z7,JL X G z8,JL X G z9,JL X G z10,JL X G z11,JL X G z12⟩;exact⟨W.fnOf "law" "law" (fi ko) (cK ko) (aa ko) .none kV65 dc65 pm65 an65 cd65 ct65,λ s v=>.of_eq rfl,λ base _ _=>DY T⟩
theorem IU{l:W.OpenLaw}{q:Program}{loose:List Str}{XP:(Str->Option Value)->Heap->Prop}{YP:World->Heap->Prop}{d:DefRec}{K:Params->W.Frag}(hn:l.most=some 63)(hdf:d.params.defaults=[])
  (hY:∀ (w:World) (h:Heap),YP w h->(K w.params).In h)
  (F:∀ (w:World) (mg:Str->Option Value) (fa:Addr) (h:Heap),(K w.params).In h->h.Ns mainGlobals mg->mg d.name=some (.ref fa) →
   ∃ fd:FuncData,(∀ (s:Shared) (u:Value),BindsTo s fd ⟨[u],[]⟩ [("_law_script",u)])/\∀ base:Heap,(K w.params).In base->base.Ns mainGlobals mg->aB l.prog w (K w.params) mg base CX0 11 fa fd ["_law_script"] (si (K w.params))) :
  W.WalkO q loose XP YP l.row.toRowW d [] (λ f vs=>PySem.call f vs):=
 L2.Hu (n:=63) (k:=11) (x := "_law_script") (CX:=λ _=>CX0) (sp:=λ w=>si (K w.params)) hn ⋯ hdf ⟨rfl,by decide,by decide⟩ hY F (λ _ _ a ns hl _ hS=>⟨a,rfl,ns,hS,hl,λ _=>rfl⟩) λ _ _ _ _ _ z=>z
end PH
namespace PySem.W.Fast
def tw1856738658206154121:=0
def tw12427315320633773461:=0
def tw5736465345796826882:=0
def tw6439280207589636296:=0
def tw4101158476711008613:=0
def tw17972813626884666185:=0
def tw10630405517997836300:=0
def tw11368828943650963430:=0
def tw15664253444498520999:=0
def tw7111837196666364175:=0
def tw3561949374391042798:=0
def tw14227188714315832739:=0
def tw1003494082309372426:=0
def tw11003047798309484867:=0
def tw1373595754285484347:=0
def tw8359645305058243921:=0
def tw12687774426849769766:=0
def tw8091489146237308:=0
def tw17302931976291052691:=0
def tw12368035721180896280:=0
def tw15968315568726740553:=0
def tw9717066899376486816:=0
def tw5047926552287651226:=0
def tw12264307504122980695:=0
def tw654963827440770083:=0
def tw7936531880098627636:=0
def tw9646686022583268210:=0
def tw4269433358184204276:=0
def tw8861998362453884153:=0
def tw16649114069853229642:=0
def tw2050352985298432948:=0
def tw10873282760328465079:=0
def tw14846478472987419603:=0
def tw12582902903347761707:=0
def tw7593103089196616433:=0
def tw12709516125436342699:=0
def tw188028847517273918:=0
def tw17136261064668281928:=0
def tw1937316232768928819:=0
def tw2880453436052285133:=0
def tw8527421523548309548:=0
def tw5367071767816879655:=0
def tw15306425783711561570:=0
def tw18445691297862871370:=0
def tw8928963848615075112:=0
def tw14111569064031905920:=0
def tw12750238123459000136:=0
def tw14925906206061507547:=0
def tw11320537738950817671:=0
def tw8439451918560074988:=0
def tw7129152841740575370:=0
def tw5656628468002640521:=0
def tw3458522955031005150:=0
def tw7986082805840532352:=0
def tw8523579461846943442:=0
def tw866805387376468488:=0
def tw1776270221096307642:=0
def tw11816313016049826517:=0
def tw1535198862823995106:=0
def tw9870640197120639049:=0
def tw6889260909297607070:=0
def tw4816563079682133232:=0
def tw446884492602436273:=0
def tw6579335686277780441:=0
def tw4537239805273851765:=0
def tw18439987277601194917:=0
def tw18325019324259024364:=0
def tw17409622871612467726:=0
def tw16814540964917865573:=0
def tw363476927132802702:=0
def tw4150741012600574420:=0
def tw5968507533539541520:=0
def tw5438263375610802347:=0
def tw5017305360005504468:=0
def tw15971517284760109399:=0
def tw15808204980146251671:=0
def tw16793689082711391427:=0
def tw8539050705533752566:=0
def tw1009885132663090149:=0
def tw1337707439901469526:=0
def tw510007927877696830:=0
def tw13218320776430682933:=0
def tw17613209897464488886:=0
def tw9538571959274887128:=0
def tw2323234403641524214:=0
def tw12948192913800993045:=0
def tw8378022992379675885:=0
def tw10939847402730997692:=0
def tw7001985540257380497:=0
def tw12552970287849567686:=0
def tw6895971450011738297:=0
def tw13404246846409269419:=0
def tw10099678660928281986:=0
def tw14087771815110435227:=0
def tw6765479820626841156:=0
def tw6883721612406502366:=0
def tw18031863575218059033:=0
def tw11795001746976878208:=0
def tw14968334671340173998:=0
def tw14642575863681591638:=0
def tw13763594712957539228:=0
def tw10427102601185194615:=0
def tw7399344455043353750:=0
def tw4747777070491714929:=0
def tw15708096640524960406:=0
def tw11616261218745918291:=0
def tw4101752101547566869:=0
def tw17677966464919857224:=0
def tw12282664782900336704:=0
end PySem.W.Fast
open PySem PySem.W PyProof.Rows
theorem PySem.Challenge.cw_pacehall_k81_statements_holds : PySem.Challenge.rw_pacehall_k81_statements.Holds := by
 w_on;o_law;k_head;(case hw=>w_witness2)
 k_fill
 refine PH.IU (l:=PySem.Challenge.rw_pacehall_k81_statements) rfl rfl (λ w h Y=>PySem.W.kIn_of Y) ?F
 case F=>
  intro w mg fa h KX G hmg
  refine' PH.Iw KX G hmg ?y0 ?y1 ?y2 ?y3 ?y4 ?y5 ?y6 ?y7 ?y8 ?y9 ?y10 ?y11 ?y12 ?y13 ?o_NoPair ?o_NoCount ?o_NoView ?x_NoPair_PaceError ?x_NoCount_PaceError ?x_NoView_PaceError ?x_TooMany_PaceError ?ocs ?oct ?ga_NoPair ?gn_NoPair ?mb_NoPair ?mo_NoPair ?fc_NoPair ?hd_NoPair ?ga_NoCount ?gn_NoCount ?mb_NoCount ?mo_NoCount ?fc_NoCount ?hd_NoCount ?ga_NoView ?gn_NoView ?mb_NoView ?mo_NoView ?fc_NoView ?hd_NoView ?ga_TooMany ?gn_TooMany ?mb_TooMany ?mo_TooMany ?fc_TooMany ?hd_TooMany ?kc_NoPair_NoPair ?kt_NoPair_NoPair ?ks_NoPair_NoPair ?kc_NoPair_NoCount ?kt_NoPair_NoCount ?ks_NoPair_NoCount ?kn_NoPair_NoCount ?kc_NoPair_NoView ?kt_NoPair_NoView ?ks_NoPair_NoView ?kn_NoPair_NoView ?kc_NoPair_TooMany ?kt_NoPair_TooMany ?ks_NoPair_TooMany ?kn_NoPair_TooMany ?kc_NoCount_NoPair ?kt_NoCount_NoPair ?ks_NoCount_NoPair ?kn_NoCount_NoPair ?kc_NoCount_NoCount ?kt_NoCount_NoCount ?ks_NoCount_NoCount ?kc_NoCount_NoView ?kt_NoCount_NoView ?ks_NoCount_NoView ?kn_NoCount_NoView ?kc_NoCount_TooMany ?kt_NoCount_TooMany ?ks_NoCount_TooMany ?kn_NoCount_TooMany ?kc_NoView_NoPair ?kt_NoView_NoPair ?ks_NoView_NoPair ?kn_NoView_NoPair ?kc_NoView_NoCount ?kt_NoView_NoCount ?ks_NoView_NoCount ?kn_NoView_NoCount ?kc_NoView_NoView ?kt_NoView_NoView ?ks_NoView_NoView ?kc_NoView_TooMany ?kt_NoView_TooMany ?ks_NoView_TooMany ?kn_NoView_TooMany ?kc_TooMany_NoPair ?kt_TooMany_NoPair ?ks_TooMany_NoPair ?kn_TooMany_NoPair ?kc_TooMany_NoCount ?kt_TooMany_NoCount ?ks_TooMany_NoCount ?kn_TooMany_NoCount ?kc_TooMany_NoView ?kt_TooMany_NoView ?ks_TooMany_NoView ?kn_TooMany_NoView ?kc_TooMany_TooMany ?kt_TooMany_TooMany ?ks_TooMany_TooMany ?ks_NoPair_ValueError ?ks_NoCount_ValueError ?ks_NoView_ValueError ?ks_TooMany_ValueError ?fc_View ?mo_View ?fc_Raise ?mo_Raise ?fc_Fill ?mo_Fill ?kc_Raise_Statement ?kt_Raise_Statement ?ks_Raise_Statement ?kc_Fill_Statement ?kt_Fill_Statement ?ks_Fill_Statement ?F0 ?a1 ?F1 ?a2 ?F2 ?a3 ?F3 ?a4 ?F4 ?a5 ?F5 ?a6 ?F6 ?a7 ?F7 ?a8 ?F8 ?a9 ?F9 ?a10 ?F10 ?F11 ?F12 ?F13 ?F14 ?F15 ?F16 ?F17 ?F18 ?a19 ?F19 ?a20 ?F20 ?a21 ?F21 ?F22 ?F23 ?F24 ?F25 ?F26 ?F27 ?F28 ?a29 ?F29 ?F30 ?F31 ?F32 ?F33 ?F34 ?F35 ?F36 ?F37 ?F38 ?F39 ?F40 ?F41 ?F42 ?F43 ?F44 ?F45 ?F46 ?F47 ?a48 ?F48 ?a49 ?F49 ?a50 ?F50 ?a51 ?F51 ?a52 ?F52 ?a53 ?F53 ?a54 ?F54 ?a55 ?F55 ?a56 ?F56 ?a57 ?F57 ?a58 ?F58 ?a59 ?F59 ?a60 ?F60 ?a61 ?F61 ?a62 ?F62 ?a63 ?F63 ?a64 ?F64 ?a65 ?l65 ?c65 ?k65 ?fi_TooMany ?xe_TooMany ?xf_TooMany ?xo_TooMany ?xs_TooMany ?xh_TooMany ?nt_TooMany_number ?nf_TooMany_number ?bs_PaceError ?br_PaceError ?bf_PaceError ?pg_View ?hd_View ?po_View ?sa_View ?nf_View_axes ?nf_View_first ?nf_View_room ?fi_View___init__ ?fn_View___init__ ?mm_View ?ck_View ?fi_View_sizes ?fn_View_sizes ?fi_View_paces ?fn_View_paces ?fi_View_count ?fn_View_count ?fi_View_cell ?fn_View_cell ?fi_View_cells ?fn_View_cells ?fi_View_least ?fn_View_least ?fi_View_greatest ?fn_View_greatest ?pg_Store ?hd_Store ?po_Store ?sa_Store ?nf_Store_floor ?fi_Store___init__ ?fn_Store___init__ ?mm_Store ?ck_Store ?fi_Store_all_values ?fn_Store_all_values ?fi_Store_refuse_room ?fn_Store_refuse_room ?fi_Store_read ?fn_Store_read ?fi_Store_put ?fn_Store_put ?fi_Store_fill ?fn_Store_fill ?fi_Store_copied ?fn_Store_copied ?pg_Statement ?hd_Statement ?po_Statement ?sa_Statement ?mm_Statement ?ck_Statement ?fi0_Statement ?fi_Statement_writes ?fn_Statement_writes ?fi_Statement_reads ?fn_Statement_reads ?fi_Statement_run ?fn_Statement_run ?pg_Fill ?hd_Fill ?po_Fill ?sa_Fill ?nf_Fill_to ?nf_Fill_value ?fi_Fill_writes ?fn_Fill_writes ?fi_Fill_reads ?fn_Fill_reads ?fi_Fill_run ?fn_Fill_run ?fi_Fill___init__ ?fn_Fill___init__ ?mm_Fill ?ck_Fill ?pg_Copy ?hd_Copy ?po_Copy ?sa_Copy ?nf_Copy_source ?nf_Copy_to ?fi_Copy_writes ?fn_Copy_writes ?fi_Copy_reads ?fn_Copy_reads ?fi_Copy_run ?fn_Copy_run ?fi_Copy___init__ ?fn_Copy___init__ ?mm_Copy ?ck_Copy ?pg_Swap ?hd_Swap ?po_Swap ?sa_Swap ?nf_Swap_one ?nf_Swap_other ?fi_Swap_writes ?fn_Swap_writes ?fi_Swap_reads ?fn_Swap_reads ?fi_Swap_run ?fn_Swap_run ?fi_Swap___init__ ?fn_Swap___init__ ?mm_Swap ?ck_Swap ?pg_Raise ?hd_Raise ?po_Raise ?sa_Raise ?nf_Raise_source ?nf_Raise_to ?fi_Raise_writes ?fn_Raise_writes ?fi_Raise_reads ?fn_Raise_reads ?fi_Raise_run ?fn_Raise_run ?fi_Raise___init__ ?fn_Raise___init__ ?mm_Raise ?ck_Raise ?w0 ?w1 ?w2 ?w3 ?z0 ?z1 ?z2 ?z3 ?z4 ?z5 ?z6 ?z7 ?z8 ?z9 ?z10 ?z11 ?z12
  (case y0|y1|y2|y3|y4|y5|y6|y7|y8|y9|y10|y11=>first|k_is|k_exc|kts_exm|decide|rfl|decide +kernel|kernel_rfl)
  (case y12|y13|fi_TooMany|fi_View___init__|fi_View_sizes|fi_View_paces|fi_View_count|fi_View_cell|fi_View_cells|fi_View_least|fi_View_greatest|fi_Store___init__=>first|k_is|k_exc|kts_exm|decide|rfl|decide +kernel|kernel_rfl)
  (case fi_Store_all_values|fi_Store_refuse_room|fi_Store_read|fi_Store_put|fi_Store_fill|fi_Store_copied|fi_Statement_writes|fi_Statement_reads|fi_Statement_run|fi_Fill_writes|fi_Fill_reads|fi_Fill_run=>first|k_is|k_exc|kts_exm|decide|rfl|decide +kernel|kernel_rfl)
  (case fi_Fill___init__|fi_Copy_writes|fi_Copy_reads|fi_Copy_run|fi_Copy___init__|fi_Swap_writes|fi_Swap_reads|fi_Swap_run|fi_Swap___init__|fi_Raise_writes|fi_Raise_reads|fi_Raise_run=>first|k_is|k_exc|kts_exm|decide|rfl|decide +kernel|kernel_rfl)
  (case fi_Raise___init__|a1|a2|a3|a4|a5|a6|a7|a8|a9|a10|a19=>first|k_is|k_exc|kts_exm|decide|rfl|decide +kernel|kernel_rfl)
  (case a20|a21|a29|a48|a49|a50|a51|a52|a53|a54|a55|a56=>first|k_is|k_exc|kts_exm|decide|rfl|decide +kernel|kernel_rfl)
  (case a57|a58|a59|a60|a61|a62|a63|a64|a65=>first|k_is|k_exc|kts_exm|decide|rfl|decide +kernel|kernel_rfl)
  (case F0|F1|F2|F3|F4|F5|F6|F7|F8|F9|F10|F11=>(refine' L2.Fc ?l ?c ?k;(case l|c|k=>first|k_is|k_exc|kts_exm|decide|rfl|decide +kernel|kernel_rfl)))
  (case F12|F13|F14|F15|F16|F17|F18|F19|F20|F21|F22|F23=>(refine' L2.Fc ?l ?c ?k;(case l|c|k=>first|k_is|k_exc|kts_exm|decide|rfl|decide +kernel|kernel_rfl)))
  (case F24|F25|F26|F27|F28|F29|F30|F31|F32|F33|F34|F35=>(refine' L2.Fc ?l ?c ?k;(case l|c|k=>first|k_is|k_exc|kts_exm|decide|rfl|decide +kernel|kernel_rfl)))
  (case F36|F37|F38|F39|F40|F41|F42|F43|F44|F45|F46|F47=>(refine' L2.Fc ?l ?c ?k;(case l|c|k=>first|k_is|k_exc|kts_exm|decide|rfl|decide +kernel|kernel_rfl)))
  (case F48|F49|F50|F51|F52|F53|F54|F55|F56|F57|F58|F59=>(refine' L2.Fc ?l ?c ?k;(case l|c|k=>first|k_is|k_exc|kts_exm|decide|rfl|decide +kernel|kernel_rfl)))
  (case F60|F61|F62|F63|F64=>(refine' L2.Fc ?l ?c ?k;(case l|c|k=>first|k_is|k_exc|kts_exm|decide|rfl|decide +kernel|kernel_rfl)))
  (case o_NoPair|o_NoCount|o_NoView|x_NoPair_PaceError|x_NoCount_PaceError|x_NoView_PaceError|x_TooMany_PaceError|ocs|oct|ga_NoPair|gn_NoPair|mb_NoPair=>first|k_is|k_exc|kts_exm|decide|rfl|decide +kernel|kernel_rfl)
  (case mo_NoPair|fc_NoPair|hd_NoPair|ga_NoCount|gn_NoCount|mb_NoCount|mo_NoCount|fc_NoCount|hd_NoCount|ga_NoView|gn_NoView|mb_NoView=>first|k_is|k_exc|kts_exm|decide|rfl|decide +kernel|kernel_rfl)
  (case mo_NoView|fc_NoView|hd_NoView|ga_TooMany|gn_TooMany|mb_TooMany|mo_TooMany|fc_TooMany|hd_TooMany|kc_NoPair_NoPair|kt_NoPair_NoPair|ks_NoPair_NoPair=>first|k_is|k_exc|kts_exm|decide|rfl|decide +kernel|kernel_rfl)
  (case kc_NoPair_NoCount|kt_NoPair_NoCount|ks_NoPair_NoCount|kn_NoPair_NoCount|kc_NoPair_NoView|kt_NoPair_NoView|ks_NoPair_NoView|kn_NoPair_NoView|kc_NoPair_TooMany|kt_NoPair_TooMany|ks_NoPair_TooMany|kn_NoPair_TooMany=>first|k_is|k_exc|kts_exm|decide|rfl|decide +kernel|kernel_rfl)
  (case kc_NoCount_NoPair|kt_NoCount_NoPair|ks_NoCount_NoPair|kn_NoCount_NoPair|kc_NoCount_NoCount|kt_NoCount_NoCount|ks_NoCount_NoCount|kc_NoCount_NoView|kt_NoCount_NoView|ks_NoCount_NoView|kn_NoCount_NoView|kc_NoCount_TooMany=>first|k_is|k_exc|kts_exm|decide|rfl|decide +kernel|kernel_rfl)
  (case kt_NoCount_TooMany|ks_NoCount_TooMany|kn_NoCount_TooMany|kc_NoView_NoPair|kt_NoView_NoPair|ks_NoView_NoPair|kn_NoView_NoPair|kc_NoView_NoCount|kt_NoView_NoCount|ks_NoView_NoCount|kn_NoView_NoCount|kc_NoView_NoView=>first|k_is|k_exc|kts_exm|decide|rfl|decide +kernel|kernel_rfl)
  (case kt_NoView_NoView|ks_NoView_NoView|kc_NoView_TooMany|kt_NoView_TooMany|ks_NoView_TooMany|kn_NoView_TooMany|kc_TooMany_NoPair|kt_TooMany_NoPair|ks_TooMany_NoPair|kn_TooMany_NoPair|kc_TooMany_NoCount|kt_TooMany_NoCount=>first|k_is|k_exc|kts_exm|decide|rfl|decide +kernel|kernel_rfl)
  (case ks_TooMany_NoCount|kn_TooMany_NoCount|kc_TooMany_NoView|kt_TooMany_NoView|ks_TooMany_NoView|kn_TooMany_NoView|kc_TooMany_TooMany|kt_TooMany_TooMany|ks_TooMany_TooMany|ks_NoPair_ValueError|ks_NoCount_ValueError|ks_NoView_ValueError=>first|k_is|k_exc|kts_exm|decide|rfl|decide +kernel|kernel_rfl)
  (case ks_TooMany_ValueError|fc_View|mo_View|fc_Raise|mo_Raise|fc_Fill|mo_Fill|kc_Raise_Statement|kt_Raise_Statement|ks_Raise_Statement|kc_Fill_Statement|kt_Fill_Statement=>first|k_is|k_exc|kts_exm|decide|rfl|decide +kernel|kernel_rfl)
  (case ks_Fill_Statement|l65|c65|k65|xe_TooMany|xf_TooMany|xo_TooMany|xs_TooMany|xh_TooMany|nt_TooMany_number|nf_TooMany_number|bs_PaceError=>first|k_is|k_exc|kts_exm|decide|rfl|decide +kernel|kernel_rfl)
  (case br_PaceError|bf_PaceError|pg_View|hd_View|po_View|sa_View|nf_View_axes|nf_View_first|nf_View_room|fn_View___init__|mm_View|ck_View=>first|k_is|k_exc|kts_exm|decide|rfl|decide +kernel|kernel_rfl)
  (case fn_View_sizes|fn_View_paces|fn_View_count|fn_View_cell|fn_View_cells|fn_View_least|fn_View_greatest|pg_Store|hd_Store|po_Store|sa_Store|nf_Store_floor=>first|k_is|k_exc|kts_exm|decide|rfl|decide +kernel|kernel_rfl)
  (case fn_Store___init__|mm_Store|ck_Store|fn_Store_all_values|fn_Store_refuse_room|fn_Store_read|fn_Store_put|fn_Store_fill|fn_Store_copied|pg_Statement|hd_Statement|po_Statement=>first|k_is|k_exc|kts_exm|decide|rfl|decide +kernel|kernel_rfl)
  (case sa_Statement|mm_Statement|ck_Statement|fi0_Statement|fn_Statement_writes|fn_Statement_reads|fn_Statement_run|pg_Fill|hd_Fill|po_Fill|sa_Fill|nf_Fill_to=>first|k_is|k_exc|kts_exm|decide|rfl|decide +kernel|kernel_rfl)
  (case nf_Fill_value|fn_Fill_writes|fn_Fill_reads|fn_Fill_run|fn_Fill___init__|mm_Fill|ck_Fill|pg_Copy|hd_Copy|po_Copy|sa_Copy|nf_Copy_source=>first|k_is|k_exc|kts_exm|decide|rfl|decide +kernel|kernel_rfl)
  (case nf_Copy_to|fn_Copy_writes|fn_Copy_reads|fn_Copy_run|fn_Copy___init__|mm_Copy|ck_Copy|pg_Swap|hd_Swap|po_Swap|sa_Swap|nf_Swap_one=>first|k_is|k_exc|kts_exm|decide|rfl|decide +kernel|kernel_rfl)
  (case nf_Swap_other|fn_Swap_writes|fn_Swap_reads|fn_Swap_run|fn_Swap___init__|mm_Swap|ck_Swap|pg_Raise|hd_Raise|po_Raise|sa_Raise|nf_Raise_source=>first|k_is|k_exc|kts_exm|decide|rfl|decide +kernel|kernel_rfl)
  (case nf_Raise_to|fn_Raise_writes|fn_Raise_reads|fn_Raise_run|fn_Raise___init__|mm_Raise|ck_Raise|w0|w1|w2|w3|z0=>first|k_is|k_exc|kts_exm|decide|rfl|decide +kernel|kernel_rfl)
  (case z1|z2|z3|z4|z5|z6|z7|z8|z9|z10|z11|z12=>first|k_is|k_exc|kts_exm|decide|rfl|decide +kernel|kernel_rfl)
#print axioms PySem.Challenge.cw_pacehall_k81_statements_holds