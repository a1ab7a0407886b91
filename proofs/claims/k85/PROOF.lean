import PyProof.Rows.All
import Wide.All
import OpenK.AllK
import Wide.FinOn
import Lean
import PyProof.EqAt
import PyProof.EqKinds
import PyProof.TupleCall
import PySem.Challenge.RW_pacehall_k85_hall_names
set_option Elab.async false
set_option linter.all false
set_option maxRecDepth 100000
set_option compiler.extract_closed false
set_option compiler.reuse false
set_option compiler.small 0
set_option maxHeartbeats 0
open List (mem_cons_self mem_cons_of_mem mem_append_left mem_append_right length_cons map_cons length_map append_nil of_mem_zip length_take getElem?_append_right getElem?_map mem_of_getElem? length_append length_replicate size_toArray length_drop map_nil length_set any_cons reverse_cons replicate_succ find?_cons length_nil filter_cons getElem_mem getElem?_eq_getElem lookup_cons getElem?_eq_none mem_cons not_mem_nil take_length all_eq_true length_reverse length_range cons_append take_add_one mem_of_mem_take map_append map_map map_take map_set map_reverse)
open PySem renaming wpAny_bind->My,wpAny_pure->U3,wpAny_field->Vm,wpAny_holding->Vy,wpAny_callSpecial?_slot->VG,wpAny_setField->VJ,wpAny_loadPart_at->VY,wpAny_seqItems->V8,wpAny_call_entry->V9,codeAny_mono->We,wpAny_standAt->Wg,wpAny_truthy_bool->Wh,wpAny_newObj_type->Wi,wpAny_mono->Wj,wpAny_Call_Name_kw->Wn,wpAny_setField_rec->WD,wpAny_loadPart'->WH,wpAny_attempt->WL,mem_of_lookup->WM,wpAny_call->WX,wpAny_getItem_str_slice->W3,wpAny_rule->Xb,wpAny_isInstance->Xh,codeAny_call_builtin->Xi,call_meets->Xq,wpAny_passesOwn->Xr,wpAny_isSubtype_exc->Xs,codeAny_builtin->Xt,tupleKind_room_in1->XD,slot_listiter_next->XE,wpAny_pyIter_list->XM,wpAny_updateSeq->X5,wpAny_typeOf->X6,wpAny_execs_nil->X7,post_val_or_str->X8,wpAny_Name->Yf,wpAny_updateSeq_pair->Yg,codeAny_handlers_suite_as->Yj,isSubtype_stop->Yp,wpAny_comprehension_free->Yq,wpAny_onRaise->Yy,codeAny_handlers_test->Yz,Addr->Z,Value->O,Shared->À,FuncData->Á,Str->Ã,mainGlobals->Ä,sizeLine->Æ,wpAny->Ç,model->Ê,Program->Ì,Around->Î,World->Ï,Heap->Ð,Expr->Ñ
open PySem.Heap renaming get?_push_of_some->U0,lt_size->U5,get?_push_size->Vc,get?_update_self->Vk,get?_update_other->VP,size_push->VX,get?_none_of_le->V0
open List renaming getElem?_eq_some_iff->U1,length_map->U2,getElem?_eq_getElem->U4,mem_map->U8,length_append->Va,mem_cons_of_mem->Vb,getElem?_map->Vd,mem_singleton->Vh,size_toArray->Vj,length_cons->Vo,mem_cons->Vp,mem_cons_self->Vq,map_cons->Vs,length_take->Vu,map_append->Vw,mem_of_getElem?->Vx,not_mem_nil->VD,mem_append_right->VF,mem_append->VI,length_reverse->VT,getElem?_eq_none->VU,length_range->VZ,map_map->V1,getElem?_append_right->V3,all_eq_true->Wc,nodup_cons->Wf,getElem?_append_left->Wm,mem_append_left->Wu,mem_range->Wv,take_of_length_le->Ww,getElem?_set_self->Wx,take_length->Wy,lookup_cons->Wz,length_drop->WA,length_replicate->WB,getElem?_reverse->WC,getD_eq_getElem?_getD->WE,mem_of_mem_take->WG,length_set->WJ,length_nil->WK,getElem_of_mem->WN,replicate_succ->WS,getElem?_replicate->WV,zipWith_cons_cons->WY,ext_getElem?->W0,take_append_drop->W4,length_singleton->W5,cons_append->W8,append_nil->W9,getElem?_set_ne->Xa,take_add_one->Xc,reverse_cons->Xd,filter_eq_self->Xf,filterMap_cons->Xg,filter_append->Xl,flatten_cons->Xw,append_assoc->Xx,find?_cons->XJ,length_zip->XQ,map_reverse->XU,map_nil->XW,getElem_mem->XX,filter_cons->XY,nodup_nil->X2,getElem?_range->X4,of_mem_zip->X9,set_eq_take_append_cons_drop->Yb,contains_cons->Yc,nodup_append->Yl,eraseIdx_eq_take_drop_succ->Ym,mem_reverse->Yv,any_cons->Yx,sum_append->YB,nil_append->YC,forIn_cons->YD,foldl_cons->YE,replicate->Í,range->Ó
open Nat renaming le_refl->U6,lt_of_lt_of_le->Vg,ne_of_lt->Vl,le_trans->Vv,zero_le->VM,lt_irrefl->V5,le_of_eq->Wq,ne_of_gt->WR,le_add_right->W7,le_succ->Xe,lt_trans->Xj,le_of_lt->Xk,lt_succ_self->XG,le_of_not_lt->XH,mul_le_mul_right->XZ,sub_self->Ys
open Bool renaming false_ne_true->U9,and_eq_true->V6,eq_iff_iff->WW,false_eq_true->Xn,false_and->Xp,eq_false_iff->Xz,false_or->Ye,true->L,false->Â
open Option renaming map_eq_some_iff->Vf,isSome_iff_exists->WQ,isSome_map->Yk,bind_some->Yu,some->U,none->Y
open PySem.F renaming plainAttrs_list->Vn,type_list_append->VN,slot_list_append->VO,excBase_ValueError->VW,slot_tuple_iterator_next->Wb,type_list_index->WT,slot_list_index->WU,args_tuple_iterator_next_1->Xo,args_tuple_add_2->Xv,entry_tuple_iterator_next->Xy,entry_tuple_add->XB,slot_tuple_add->XI,slot_dict_pop->XN,attr_ValueError->XT,slot_zip_next->Yd
open Array renaming getElem?_eq_some_iff->Vt,all_eq_true_iff_forall_mem->V7,length_toList->WO,getElem?_setIfInBounds_ne->Yn
open Ne renaming symm->Vz
open PySem.W renaming mg_of->VA,mg_none_of->VV,kia_one->WI,methodCall_KW->Xu,callWith_K->XF,tail_of_in->Ya,looks_findIn->Yh,Frag->Å,findIn->È,nsIn->Ò,hasDictIn->Õ,kitOne->Ö,exmOne->Ù,typeIn->Ú,mroIn->Û
open PySem.Heap.SameBut renaming update->VB
open Int renaming toNat_natCast->VC,emod_lt_of_pos->Wl,emod_nonneg->Wo,toNat_of_nonneg->Ws,eq_ofNat_of_zero_le->Wt,mul_le_mul->W2,mul_le_mul_of_nonneg_right->W6,le_refl->XC,mul_zero->XR,mul_comm->XS,zero_add->Yt,mul_le_mul_of_nonneg_left->Yw,natCast_mul->YG,mul_neg->YH
open PySem.Obj renaming isFreed_of_fields->VH,data_mapFields->VR
open Option.some renaming inj->VL
open PyProof.Rows renaming slot_tuple_getitem->VS,callWith_type1->V4,callWith_builtin1->Yr
open PySem.PassesOwn renaming never->V2
open PySem.BindsTo renaming of_defaults->Wd
open PySem.Calls renaming evalArgs_plain->Xm
open Nat.succ renaming inj->XO
open Sum.inr renaming inj->X3
open PySem.MeetsSeq renaming plain_remove_loop->Yo
open PySem.Paired renaming length->YA
open List.cons renaming injEq->YF
open PySem.Code renaming quiet_builtin->YI
open PySem.Value renaming none->É,ref->Ë,type->Ø
open PySem.Str renaming ofString->Ô
open _root_ renaming List->G,Int->B,rfl->J,Option->Ü,Bool->Ý,absurd->Þ,Nat->à
local macro_rules | `(%[$x:ident|99]) => `(($x).heap.objs.size)
local macro_rules | `({$xs:term,*}) => `(⟨$xs,*⟩)
local macro_rules | `(tactic| let $d:letDecl) => do
  let rec go : Nat → Lean.Syntax → Lean.MacroM (Lean.TSyntax `rcasesPat)
    | 0, _ => Lean.Macro.throwUnsupported
    | n+1, s => do
      match s with
      | `(($x, $xs,*)) =>
        let ys ← (#[x] ++ xs.getElems).mapM λ y => do
          let p ← go n y
          `(Lean.Parser.Tactic.rcasesPatLo| $p:rcasesPat)
        `(rcasesPat| ⟨$ys,*⟩)
      | `(⟨$xs,*⟩) =>
        let ys ← xs.getElems.mapM λ y => do
          let p ← go n y
          `(Lean.Parser.Tactic.rcasesPatLo| $p:rcasesPat)
        `(rcasesPat| ⟨$ys,*⟩)
      | `($i:ident) => `(rcasesPat| $i:ident)
      | _ => `(rcasesPat| _)
  match d with
  | `(letDecl| $x:ident := $e) => `(tactic| have $x:ident := $e)
  | `(letDecl| $x:ident : $t := $e) => `(tactic| have $x:ident : $t := $e)
  | `(letDecl| $p:term := $e) => do
    let q ← go 20 p
    `(tactic| obtain $q:rcasesPat := $e)
  | _ => Lean.Macro.throwUnsupported
namespace QL
def U7:=@if_neg
def Ve:=@if_pos
def Vi:=@decide_eq_true
def Vr:=@beq_self_eq_true
def VE:=@decide_eq_false
def VQ:=@congrArg
def Wa:=@or_false
def Wk:=@beq_iff_eq
def Wr:=@beq_eq_false_iff_ne
def WZ:=@of_decide_eq_true
def XA:=@if_false
def X0:=@not_or
def Yi:=@if_true
end QL
open QL
namespace L2
open PySem PySem.Spec PyProof.Rows
variable {us:G O}{x:Ã}{u:O}{a b it C:Z}{o:Obj}{α:Type}{P:Ì}{h h':Ð}{l ch fp:G Z}{t' i j k:à}{e tg:Ñ}{M:Model}{E:O->À->Prop}{Q:Unit->À->Prop}{s:À}{pos:Pos}{pins:G (Z × Obj)}{f:O->O->Sem O}{op:CmpOp}{kw:G (Ã × O)}{fd:Á}{ps:G Ã}
abbrev Key:=Sum B Ã
def uo:Key->O->Ý
 | .inl k,v=>Value.isInt k v
 | .inr x,v=>Value.isStrOf x v
def UE(w:Ï):Key->B
 | .inl k=>hashInt k
 | .inr x=>hashStr w x
theorem bf:∀ {k:Key}{v:O},uo k v=L->(∃ i t,k=Sum.inl i/\v=Value.int i t)\/(∃ x t,k=Sum.inr x/\v=Value.str x t)
 | .inl i,v,h=>by
  let(t,e):=Value.isInt_shape (k:=i) (v:=v) h;exact .inl {(i),t,J,e}
 | .inr x,v,h=>by
  let(t,e):=Value.isStrOf_shape (x:=x) (v:=v) h;exact .inr {(x),t,J,e}
theorem DW(i:B)(t:Tok):uo (.inl i) (.int i t)=L:=by simp[uo,Value.isInt]
theorem DV(x:Ã)(t:Tok):uo (.inr x) (.str x t)=L:=by simp[uo,Value.isStrOf]
theorem Qs(a b:B):decide ((Sum.inl a:Key)=Sum.inl b)=(a == b):=by
 by_cases e:a=b
 ·subst e;simp
 ·let h:¬ (Sum.inl a:Key)=Sum.inl b:=λ q=>e (Sum.inl.inj q);rw[VE h];exact(Wr.mpr e).symm
theorem Qp(a b:Ã):decide ((Sum.inr a:Key)=Sum.inr b)=decide (a=b):=by
 by_cases e:a=b
 ·subst e;simp
 ·let h:¬ (Sum.inr a:Key)=Sum.inr b:=λ q=>e (X3 q);rw[VE h,VE e]
theorem Qr(a:B)(b:Ã):decide ((Sum.inl a:Key)=Sum.inr b)=Â:=VE (λ q=>nomatch q)
theorem Qq(a:Ã)(b:B):decide ((Sum.inr a:Key)=Sum.inl b)=Â:=VE (λ q=>nomatch q)
def bj(prog:Ì)(w:Ï):PySem.KeyKind prog w Key where
 is:=uo
 hash:=UE w
 inj:=λ v a b ha hb=>by
  rcases bf ha with ⟨i,t,rfl,rfl⟩|⟨x,t,rfl,rfl⟩
  ·rcases bf hb with ⟨j,u,rfl,e⟩|⟨y,u,rfl,e⟩
   ·injection e with e1 _;rw[e1]
   ·exact nomatch e
  ·rcases bf hb with ⟨j,u,rfl,e⟩|⟨y,u,rfl,e⟩
   ·exact nomatch e
   ·injection e with e1 _;rw[e1]
 byValue:=λ k v h=>by
  rcases bf h with ⟨i,t,rfl,rfl⟩|⟨x,t,rfl,rfl⟩<;>rfl
 pyHash:=λ hv h=>by
  rcases bf hv with ⟨i,t,rfl,rfl⟩|⟨x,t,rfl,rfl⟩
  ·exact wpAny_pyHash_int h
  ·exact wpAny_pyHash_str h
 eqBool:=λ hu hv h=>by
  rcases bf hu with ⟨i,t,rfl,rfl⟩|⟨x,t,rfl,rfl⟩
  ·rcases bf hv with ⟨j,u,rfl,rfl⟩|⟨y,u,rfl,rfl⟩
   ·rw[Qs] at h;exact wpAny_eqBool_int h
   ·rw[Qr] at h;exact SeqAt.EqAt.int_str i t y u _ _ _ _ h
  ·rcases bf hv with ⟨j,u,rfl,rfl⟩|⟨y,u,rfl,rfl⟩
   ·rw[Qq] at h;exact SeqAt.EqAt.str_int x t j u _ _ _ _ h
   ·rw[Qp] at h;exact wpAny_eqBool_str h
 «strs»:=λ k x t v h=>by
  rcases bf h with ⟨i,u,rfl,e⟩|⟨y,u,rfl,e⟩
  ·exact nomatch e
  ·injection e with e1 _
   subst e1
   cases v<;>rfl
def vB(prog:Ì)(w:Ï)(i:B)(t:Tok):(bj prog w).is (.inl i) (.int i t)=L:=DW i t
def vA(prog:Ì)(w:Ï)(x:Ã)(t:Tok):(bj prog w).is (.inr x) (.str x t)=L:=DV x t
inductive V where
 | non|bl (b:Ý)|int (i:B)|str (x:Ã)|byt (b:Array UInt8)|flt (b:UInt64)|ref (a:Z)|ty (n:String)
 deriving DecidableEq
variable {v:V}{vs:G V}
def bI:V->O->Prop
 | .non,u=>u=É
 | .bl b,u=>u=Value.bool b
 | .int i,u=>∃ t,u=Value.int i t
 | .str x,u=>∃ t,u=Value.str x t
 | .byt b,u=>∃ t,u=Value.bytes b t
 | .flt b,u=>∃ t,u=Value.float b t
 | .ref a,u=>u=Ë a
 | .ty n,u=>u=Ø n
abbrev aX:G V->G O->Prop:=Paired bI
def aX.length{xs:G V}(r:aX xs us):xs.length=us.length:=YA r
theorem aX.get:∀ {xs:G V}{us:G O}{i:à}{x:V},aX xs us->xs[i]? = U x->∃ u,us[i]? = U u/\bI x u
 | _,_,_,_,.nil,e=>by simp at e
 | _,_,0,_,.cons r _,e=>by simp at e;subst e;exact{_,J,r}
 | _,_,i+1,x,.cons _ t,e=>by
  let(u,h1,h2):=aX.get (i:=i) (x:=x) t (by simpa using e);exact{u,by simpa using h1,h2}
def aX.set{x:V}(r:bI x u):∀ {xs:G V}{us:G O}(i:à),aX xs us->aX (xs.set i x) (us.set i u)
 | _,_,_,.nil=>.nil
 | _,_,0,.cons _ t=>.cons r t
 | _,_,i+1,.cons q t=>.cons q (aX.set r i t)
def aX.append:∀ {xs ys:G V}{us ws:G O},aX xs us->aX ys ws->aX (xs++ys) (us++ws)
 | _,_,_,_,.nil,s=>s
 | _,_,_,_,.cons r t,s=>.cons r (aX.append t s)
def aX.take:∀ {xs:G V}{us:G O}(n:à),aX xs us->aX (xs.take n) (us.take n)
 | _,_,0,_=>.nil
 | _,_,_+1,.nil=>.nil
 | _,_,n+1,.cons r t=>.cons r (aX.take n t)
def aX.drop:∀ {xs:G V}{us:G O}(n:à),aX xs us->aX (xs.drop n) (us.drop n)
 | _,_,0,r=>r
 | _,_,_+1,.nil=>.nil
 | _,_,n+1,.cons _ t=>aX.drop n t
def oZ:Ü V->Ü O->Prop
 | some v,U u=>bI v u
 | none,Y=>True
 | _,_=>False
def KV{κ:Type}:G (κ × V)->G (κ × O)->Prop:=Paired λ (p:κ × V) (q:κ × O)=>p.1=q.1/\bI p.2 q.2
def kV:Key->V
 | .inl i=>.int i
 | .inr x=>.str x
inductive HO where
 | lst (xs:G V)
 | tup (xs:G V)
 | dK (kvs:G (Key × V))|dT (kvs:G (G Key × V))
 | set (S:B->Ý) (n:à)
 | ins (C dx:Z) (fs:G (Ã × V))
 | own (x:Z)
 | xd (fs:G (Ã × V))
 | met (f x:Z)
 | rng (lo hi:B)
 | frz (o:Obj) (u:HO)
 | tbl (ps:Array O)
 | cod (q:Ã)
 | ext (φ:Ð->Prop)
abbrev Hp:=Z->Ü HO
variable {H:Hp}
def upd(H:Hp)(a:Z)(o:HO):Hp:=λ b=>if b=a then U o else H b
def ag{o:HO}:upd H a o a=U o:=by unfold upd;rw[if_pos J]
theorem ah{o:HO}(h:b≠a):upd H a o b=H b:=by unfold upd;rw[if_neg h]
theorem Kg{o u:HO}:upd (upd H a o) a u=upd H a u:=by
 funext b;unfold upd;split<;>rfl
theorem Sd{o u:HO}(h:H a=U o)(h':H b=U u)(d:o≠u):a≠b:=by
 intro e;subst e;rw[h] at h';exact d (VL h')
theorem bz{o:HO}(h:H a=U o)(h':H b=Y):a≠b:=by
 intro e;subst e;rw[h] at h';cases h'
section
variable (P:Ì)(w:Ï)
def bL(H:Hp)(h:Ð)(a:Z):HO->Prop
 | .lst xs=>xs.length<=Æ/\∃ (its:G O) (n:à),aX xs its/\h.get? a=U { cls:=.type "list",data:=.seq its.toArray n }
 | .tup xs=>xs.length<=Æ/\∃ its:G O,aX xs its/\IsTup h a its.toArray
 | .dK kvs=>kvs.length<=Æ/\(a == sysModules)=Â/\∃ vs,KV kvs vs/\h.DictOf (bj P w) a vs
 | .dT kvs=>kvs.length<=Æ/\(a == sysModules)=Â/\∃ xs:G (G Key × Z × O),
   Paired (λ (p:G Key × V) (q:G Key × Z × O)=>p.1=q.1/\H q.2.1=U (.tup (p.1.map kV))/\bI p.2 q.2.2) kvs xs /\
   ∃ o es ep,h.get? a=U o/\o.ExactDict/\o.data=.dict es ep/\es.toList=xs.map (entryOfKey (tupleKind (bj P w)))/\(xs.map (·.1)).Nodup
 | .set S n=>h.SetOf (intKind P w) a S n
 | .ins C dx fs=>H dx=U (.own a)/\fs.length<=1000/\dx≠a/\h.get? a=U (W.instObj C dx) /\
   ∃ mA,h.Ns1 dx mA/\(∀ f,oZ (fs.lookup f) (mA f))/\PySem.Within mA (fs.map (·.1))
 | .own _=>∃ o,h.get? a=U o
 | .xd fs=>∃ mA,h.Ns1 a mA/\∀ f,oZ (fs.lookup f) (mA f)
 | .rng lo hi=>∃ t u v,h.get? a=U { cls:=.type "range",data:=.fields #[.int lo t,.int hi u,.int 1 v] }
 | .frz o u=>h.get? a=U o/\bL H h a u
 | .tbl ps=>∃ (q:Ã) (t:Tok) (qs:Array O),ps=#[.str q t]/\h.get? a=U { cls:=.none,data:=.fields qs }/\TriplesOk qs.toList/\∀ (pos:Pos) (cv:O),codeAmong pos qs.toList=U cv->∃ c:Z,cv=.ref c/\H c=U (.cod q)
 | .cod q=>∃ (o:Obj) (vs:Array O) (t:Tok),h.get? a=U o/\o.data=.fields vs/\vs[1]? = U (.str q t)
 | .met f x=>h.get? a=U (W.methodObj (.ref f) (.ref x))
 | .ext φ=>φ h/\(∃ o,h.get? a=U o)/\∀ h1 h2:Ð,φ h1->(∀ o,h1.get? a=U o->h2.get? a=U o)->φ h2
def HOk(H:Hp)(h:Ð):Prop:=∀ a o,H a=U o->bL P w H h a o
end
section
variable {w:Ï}{H':Hp}{o:HO}
theorem bL.lt(x:bL P w H h a o):a<h.objs.size:=by
 cases o with
 | lst xs=>let(_,_,_,_,e):=x;exact U5 e
 | tup xs=>let(_,_,_,p):=x;exact p.lt
 | dK kvs=>let(_,_,_,_,o,_,_,e,_):=x;exact U5 e
 | dT kvs=>let(_,_,_,_,o,_,_,e,_):=x;exact U5 e
 | set S n=>let(o,_,_,_,e,_):=x;exact U5 e
 | ins C dx fs=>let(_,_,_,e,_):=x;exact U5 e
 | own y=>let(_,e):=x;exact U5 e
 | xd fs=>let(_,(_,_,_,e,_),_):=x;exact U5 e
 | rng lo hi=>let(_,_,_,e):=x;exact U5 e
 | frz ob u=>let(e,_):=x;exact U5 e
 | tbl ps=>let(_,_,_,_,e,_):=x;exact U5 e
 | cod q=>let(_,_,_,e,_):=x;exact U5 e
 | met f y=>exact U5 (show h.get? a=U _ from x)
 | ext φ=>let(_,(_,e),_):=x;exact U5 e
def Paired.mapP{β:Type}{F zo:α->β->Prop}:∀ {l₁:G α}{l₂:G β},Paired F l₁ l₂->(∀ a b,F a b->zo a b)->Paired zo l₁ l₂
 | _,_,.nil,_=>.nil
 | _,_,.cons r t,f=>.cons (f _ _ r) (Paired.mapP t f)
theorem bL.stay(x:bL P w H h a o)(k:∀ b u,(b=a\/H b=U (.own a))->h.get? b=U u->h'.get? b=U u)
  (ho:∀ b,H b=U (.own a)->H' b=U (.own a)) (hq:∀ b q,H b=U (.cod q)->H' b=U (.cod q)) (ht:∀ b xs,H b=U (.tup xs)->H' b=U (.tup xs)):bL P w H' h' a o:=by
 induction o with
 | lst xs=>let(z,its,n,r,e):=x;exact{z,its,n,r,k _ _ (.inl J) e}
 | tup xs=>let(z,its,r,ob,e,c):=x;exact{z,its,r,ob,k _ _ (.inl J) e,c}
 | dK kvs=>let(z,y,vs,r,ob,es,ep,e,c):=x;exact{z,y,vs,r,ob,es,ep,k _ _ (.inl J) e,c}
 | dT kvs=>
  let(z,y,xs,r,ob,es,ep,e,c):=x;exact{z,y,xs,Paired.mapP r λ p q z=>{z.1,ht _ _ z.2.1,z.2.2},ob,es,ep,k _ _ (.inl J) e,c}
 | set S n=>let(ob,es,ep,t,e,c):=x;exact{ob,es,ep,t,k _ _ (.inl J) e,c}
 | ins C dx fs=>
  let(d,z,ne,e,mA,(od,es,ep,e2,c),r):=x;exact{ho _ d,z,ne,k _ _ (.inl J) e,mA,{od,es,ep,k _ _ (.inr d) e2,c},r}
 | own y=>let(ob,e):=x;exact{ob,k _ _ (.inl J) e}
 | xd fs=>let(mA,(od,es,ep,e,c),r):=x;exact{mA,{od,es,ep,k _ _ (.inl J) e,c},r}
 | rng lo hi=>let(t,u,v,e):=x;exact{t,u,v,k _ _ (.inl J) e}
 | frz ob u ih=>let(e,q):=x;exact{k _ _ (.inl J) e,ih q}
 | tbl ps=>
  let(q,t,qs,e0,e,tr,hc):=x;refine{q,t,qs,e0,k _ _ (.inl J) e,tr,λ pos cv a3=>?_};let(c,r1,r2):=hc pos cv a3;exact{c,r1,hq _ _ r2}
 | cod q=>let(ob,vs,t,e,c):=x;exact{ob,vs,t,k _ _ (.inl J) e,c}
 | met f y=>
  let e:h.get? a=U (W.methodObj (.ref f) (.ref y)):=x
  show h'.get? a=U (W.methodObj (.ref f) (.ref y))
  exact k a _ (.inl J) e
 | ext φ=>let(p,(o,e),st):=x;exact{st _ _ p λ o q=>k _ _ (.inl J) q,{o,k _ _ (.inl J) e},st}
def HOk.lt(x:HOk P w H h)(e:H a=U o):a<h.objs.size:=(x a o e).lt
theorem HOk.fresh(x:HOk P w H h)(e:h.objs.size<=a):H a=Y:=by
 cases q:H a with
 | none=>rfl
 | some u=>exact Þ (Vg (x.lt q) e) (V5 _)
theorem HOk.kept(x:HOk P w H h)(k:∀ b u,h.get? b=U u->h'.get? b=U u):HOk P w H h':=λ a o e=>
 (x a o e).stay (λ b u _ q=>k b u q) (λ _ q=>q) (λ _ _ q=>q) λ _ _ q=>q
theorem HOk.laid(x:HOk P w H h)(k:∀ b u,h.get? b=U u->h'.get? b=U u)(hp:h.objs.size<=a)(new:bL P w (upd H a o) h' a o):HOk P w (upd H a o) h':=λ b u e=>by
 let hn:=x.fresh hp
 by_cases hb:b=a
 ·subst hb;rw[ag] at e;cases e;exact new
 ·rw[ah hb] at e;exact(x b u e).stay (λ c v _ q=>k c v q) (λ c q=>by rw[ah (bz q hn)];exact q) (λ c y q=>by rw[ah (bz q hn)];exact q) λ c xs q=>by rw[ah (bz q hn)];exact q
end
def Rd(H:Hp)(a:Z)(u:HO):Prop:=H a=U u\/∃ o,H a=U (.frz o u)
theorem Rd.ok{w:Ï}{u:HO}(r:Rd H a u)(x:HOk P w H h):bL P w H h a u:=by
 rcases r with r|⟨o,r⟩
 ·exact x a u r
 ·let(_,q):=x a _ r;exact q
def Mut:Ü HO->Prop
 | some (.lst _)=>True
 | some (.dK _)=>True
 | some (.dT _)=>True
 | some (.set _ _)=>True
 | some (.ins _ _ _)=>True
 | some (.ext _)=>True
 | _=>False
section
variable {w:Ï}{x e:Z}{o':HO}
theorem HOk.write(ok:HOk P w H h)(mu:Mut (H x))(he:e=x\/H e=U (.own x))(k:∀ b u,b≠e->h.get? b=U u->h'.get? b=U u)(a6:∃ u,h'.get? e=U u)
  (new:bL P w (upd H x o') h' x o'):HOk P w (upd H x o') h':=λ b u q=>by
 let a3:∀ c y,H c=U (.own y)->c≠x:=λ c y r z=>by subst z;rw[r] at mu;exact mu
 let a4:∀ c xs,H c=U (.tup xs)->c≠x:=λ c xs r z=>by subst z;rw[r] at mu;exact mu
 let a5:∀ c y,H c=U (.cod y)->c≠x:=λ c y r z=>by subst z;rw[r] at mu;exact mu
 by_cases hb:b=x
 ·subst hb;rw[ag] at q;cases q;exact new
 ·rw[ah hb] at q
  by_cases hbe:b=e
  ·let q':H b=U (.own x):=by
    rcases he with z|z
    ·exact Þ (hbe.trans z) hb
    ·rw[hbe];exact z
   rw[q] at q';cases q';let(v,hv):=a6;exact{v,by rw[hbe];exact hv}
  ·refine(ok b u q).stay (λ c v hc r=>k c v ?_ r) (λ c r=>by rw[ah (a3 c b r)];exact r) (λ c y r=>by rw[ah (a5 c y r)];exact r) λ c xs r=>by rw[ah (a4 c xs r)];exact r
   rcases hc with rfl|hc
   ·exact hbe
   ·rintro rfl
    rcases he with z|z
    ·exact a3 c b hc z
    ·rw[hc] at z;cases z;exact hb J
end
structure Un(fs ex:G Z)(H H':Hp)(h h':Ð):Prop where
 keep:∀ b o,h.get? b=U o->H b=Y->b ∉ fs->b ∉ ex->h'.get? b=U o
 slot:∀ b o,h.get? b=U o->H b=Y->b∈fs->b ∉ ex->∃ sl,h'.get? b=U { o with slots:=sl }
 free:∀ b o,h.get? b=U o->H b=Y->b ∉ ex->H' b=Y
 there:∀ b o,h.get? b=U o->b ∉ ex->∃ o',h'.get? b=U o'
 tups:∀ b xs,H b=U (.tup xs)->H' b=U (.tup xs)
 frzs:∀ b o u,H b=U (.frz o u)->H' b=U (.frz o u)
 tbls:∀ b ps,H b=U (.tbl ps)->∃ more,H' b=U (.tbl (ps++more))
section
variable {fs fs' ex ex':G Z}{H1 H2:Hp}{h1 h2:Ð}{x e:Z}{o:HO}
theorem Un.any(u:Un fs ex H H1 h h1){ob:Obj}(q:h.get? b=U ob)(n:H b=Y)(hx:b ∉ ex):∃ sl,h1.get? b=U { ob with slots:=sl }:=by
 by_cases hb:b∈fs
 ·exact u.slot b ob q n hb hx
 ·exact{ob.slots,u.keep b ob q n hb hx}
theorem Un.trans(a:Un fs ex H H1 h h1)(b:Un fs ex H1 H2 h1 h2):Un fs ex H H2 h h2 where
 keep:=λ c ob q n hc hx=>b.keep c ob (a.keep c ob q n hc hx) (a.free c ob q n hx) hc hx
 slot:=λ c ob q n hc hx=>by
  let(sl,e1):=a.slot c ob q n hc hx;let(a3,e2):=b.slot c _ e1 (a.free c ob q n hx) hc hx;exact{(a3),e2}
 free:=λ c ob q n hx=>by
  let(o',e1):=a.there c ob q hx;exact b.free c o' e1 (a.free c ob q n hx) hx
 there:=λ c ob q hx=>by
  let(o',e1):=a.there c ob q hx;exact b.there c o' e1 hx
 tups:=λ c xs q=>b.tups c xs (a.tups c xs q)
 frzs:=λ c ob xs q=>b.frzs c ob xs (a.frzs c ob xs q)
 tbls:=λ c ps q=>by
  let(m1,e1):=a.tbls c ps q;let(m2,e2):=b.tbls c _ e1;exact{m1++m2,by rw[e2,Array.append_assoc]}
theorem Un.kept(k:∀ b u,h.get? b=U u->h'.get? b=U u):Un fs ex H H h h':=
 ⟨λ b ob q _ _ _=>k b ob q,λ b ob q _ _ _=>{ob.slots,k b ob q},λ _ _ _ n _=>n,λ b ob q _=>{ob,k b ob q},λ _ _ q=>q,λ _ _ _ q=>q,λ _ ps q=>{#[],by rw[q];simp}⟩
def Un.refl:Un fs ex H H h h:=Un.kept λ _ _ q=>q
theorem Un.laid(k:∀ b u,h.get? b=U u->h'.get? b=U u)(hp:h.objs.size<=a)(hn:H a=Y):Un fs ex H (upd H a o) h h' where
 keep:=λ b u q _ _ _=>k b u q
 slot:=λ b u q _ _ _=>{u.slots,k b u q}
 free:=λ b u q n _=>by rw[ah (Vl (Vg (U5 q) hp))];exact n
 there:=λ b u q _=>{u,k b u q}
 tups:=λ b xs q=>by rw[ah (bz q hn)];exact q
 frzs:=λ b u xs q=>by rw[ah (bz q hn)];exact q
 tbls:=λ b ps q=>{#[],by rw[ah (bz q hn),q];simp}
theorem Un.write(mu:Mut (H x))(he:e=x\/H e=U (.own x))(k:∀ b u,b≠e->h.get? b=U u->h'.get? b=U u)(a3:∃ u,h'.get? e=U u):Un fs ex H (upd H x o) h h':=by
 let hx:∀ b,H b=Y->b≠x:=λ b n z=>by subst z;rw[n] at mu;exact mu
 let hb:∀ b,H b=Y->b≠e:=λ b n z=>by
  subst z
  rcases he with r|r
  ·exact hx b n r
  ·rw[n] at r;cases r
 let hm:∀ b u,H b=U u->¬ Mut (U u)->b≠x:=λ b u q nm z=>by subst z;rw[q] at mu;exact nm mu
 refine{λ b u q n _ _=>k b u (hb b n) q,λ b u q n _ _=>{u.slots,k b u (hb b n) q},λ b u q n _=>by rw[ah (hx b n)];exact n,λ b u q _=>?_,
  λ b xs q=>by rw[ah (hm b _ q λ z=>z)];exact q,λ b u xs q=>by rw[ah (hm b _ q λ z=>z)];exact q,λ b ps q=>{#[],by rw[ah (hm b _ q λ z=>z),q];simp}}
 by_cases hbe:b=e
 ·subst hbe;exact a3
 ·exact{u,k b u hbe q}
end
def trk(h:Ð)(H:Hp):G Z:=(Ó h.objs.size).filter λ a=>(H a).isSome
def EO(h:Ð)(H:Hp):Ð:=W.hideAll h (trk h H)
def D5(h:Ð)(H:Hp):(EO h H).objs.size=h.objs.size:=W.hideAll_size _ _
theorem Hr(e:h.get? b=U o)(n:H b=Y):(EO h H).get? b=U o:=
 W.hideAll_get _ e λ hm=>by
  let q:(H b).isSome=L:=(List.mem_filter.mp hm).2;rw[n] at q;simp at q
theorem K2(e:(EO h H).get? b=U o):h.get? b=U o/\H b=Y:=by
 let e':h.get? b=U o:=W.of_hideAll (trk h H) e;refine{e',?_}
 cases q:H b with
 | none=>rfl
 | some x=>
  let hm:b∈trk h H:=List.mem_filter.mpr {Wv.mpr (U5 e'),by simp[q]};let z:(EO h H).get? b=Y:=W.hideAll_none (trk h H) hm;rw[z] at e;cases e
def MJ(g h:Ð)(xL:Z):G (Z × Obj):=(Ó h.objs.size).filterMap λ a=>if a=xL\/(g.get? a).isSome=L then Y else (h.get? a).map λ o=>(a,o)
def bW(g h:Ð)(xL d:Z):G (Z × Obj):=(MJ g h xL).filter λ p=>decide (p.1≠d)
structure Mod(K:Å)(mg:Ã->Ü O)(base:Ð):Prop where
 kin:K.In base
 glob:base.Ns Ä mg
 blt:∃ mb,base.Ns builtinsNs mb/\∀ x:Ã,x ≠ "__name__" → mb x=bootBuiltins x
 nolimit:base.NoLimit
def E8(o:Obj):Prop:=∃ vs,o.data=.fields vs/\vs[2]? = U .none
def Nd(H:Hp)(o:Obj):Prop:=∃ vs cx,o.data=.fields vs/\vs[2]? = U cx/\(cx=.none\/∃ (c:Z) (oc:Obj) (u:HO),cx=.ref c/\H c=U (.frz oc u)/\E8 oc)
def Q1(h:Ð)(l:G Z)(o:Obj):Prop:=∃ vs cx,o.data=.fields vs/\vs[2]? = U cx/\(cx=.none\/∃ (c:Z) (oc:Obj),cx=.ref c/\h.get? c=U oc/\E8 oc/\c ∉ l)
theorem Nd.up{H':Hp}(x:Nd H o)(k:∀ b ob u,H b=U (.frz ob u)->H' b=U (.frz ob u)):Nd H' o:=by
 obtain⟨vs,cx,a,b,c|⟨c,oc,u,d,e,f⟩⟩:=x
 ·exact{vs,cx,a,b,.inl c}
 ·exact{vs,cx,a,b,.inr {c,oc,u,d,k c oc u e,f}}
theorem Q1.ext{l':G Z}(x:Q1 h l o)(k:∀ b o,b ∉ l->h.get? b=U o->h'.get? b=U o)(s:∀ b o,h.get? b=U o->b ∉ l->b ∉ l'):Q1 h' l' o:=by
 obtain⟨vs,cx,a,b,c|⟨c,oc,d,e,f,g⟩⟩:=x
 ·exact{vs,cx,a,b,.inl c}
 ·exact{vs,cx,a,b,.inr {c,oc,d,k c oc g e,f,s c oc e g}}
def Jv(A:Î)(H:Hp):Prop:=∀ a,A.handled=U a->∃ (e:Z) (oe:Obj) (u:HO),a=.ref e/\H e=U (.frz oe u)/\Nd H oe
def SfN(A:Î)(h:Ð)(l:G Z):Prop:=∀ a,A.handled=U a->∃ (e:Z) (oe:Obj),a=.ref e/\h.get? e=U oe/\Q1 h l oe/\e ∉ l
theorem Jv.none{A:Î}(h:A.handled=Option.none):Jv A H:=λ a z=>by rw[h] at z;cases z
theorem SfN.ext{A:Î}{l':G Z}(x:SfN A h l)(k:∀ b o,b ∉ l->h.get? b=U o->h'.get? b=U o)(s:∀ b∈l',b∈l):SfN A h' l':=λ a z=>let {(e),oe,p,q,n,m}:=x a z;⟨e,oe,p,k e oe m q,n.ext k (λ b _ _ y z=>y (s b z)),λ y=>m (s e y)⟩
theorem SfN.fresh{A:Î}(x:SfN A h [])(k:∀ b o,h.get? b=U o->h'.get? b=U o)(ne:∀ b o,h.get? b=U o->b ∉ l):SfN A h' l:=λ a z=>let {e,oe,p,q,n,_}:=x a z;⟨e,oe,p,k e oe q,n.ext (λ b o _ q=>k b o q) (λ b o q _=>ne b o q),ne e oe q⟩
structure Cx where
 prog:Ì
 w:Ï
 K:Å
 mg:Ã->Ü O
 base:Ð
 A:Î
 N:G Ã
 s₀:À
 H₀:Hp
 env:Env
 outer:G Env
 stack:G Env
 ex:G Z
 fn:Ã->Ý
 calm:Ý
 pn:G (Z × Obj)
 xe:O->À->Prop
variable {w:Ï}{A:Î}{N:G Ã}{X:Cx}{K:Å}{mg:Ã->Ü O}
def frs(l:G Env):G Z:=l.filterMap (·.frame)
abbrev Cx.fs(X:Cx):G Z:=frs X.outer
def Vis(sc:Scope)(x:Ã):Prop:=sc.names.lookup x=U .local\/sc.names.lookup x=U .cell\/sc.names.lookup x=U .free
def Loc(sc:Scope)(x:Ã):Prop:=sc.names.lookup x=U .local\/sc.names.lookup x=U .cell
def UQ(env:Env)(h:Ð)(m:Ã->Ü O)(x:Ã)(u:O):Prop:=
 (env.kindOf x=U .local/\m x=U u)\/((env.kindOf x=U .cell\/env.kindOf x=U .free)/\∃ c,env.cells.lookup x=U c/\h.IsCell c (U u))
structure Cx.Ok(X:Cx):Prop where
 mod:Mod X.K X.mg X.base
 kind:X.env.scope.kind=.function
 glob:X.env.globals=Ä
 blt:X.env.builtins=builtinsNs
 above:X.s₀.heap.objs.size<=X.env.locals
 inj:∀ x y c,X.env.cells.lookup x=U c->X.env.cells.lookup y=U c->x=y
 has:∀ x,(X.env.kindOf x=U .cell\/X.env.kindOf x=U .free)->∃ c,X.env.cells.lookup x=U c
 cab:∀ x c,X.fn x=L->X.env.cells.lookup x=U c->X.s₀.heap.objs.size<=c
 hd:X.calm=L->X.A.handled=Y
 sf:Jv X.A X.H₀
 frames:X.A.frames=U X.stack
 stk:X.stack=X.outer\/(X.stack=X.env::X.outer/\X.env.frame=U X.env.locals)
 exf:∀ b∈X.ex,b≠X.env.locals/\∀ x c,X.env.cells.lookup x=U c->c≠b
 bs:∀ b o,X.base.get? b=U o->X.s₀.heap.get? b=U o/\X.H₀ b=Y
 bsz:X.base.objs.size<=X.s₀.heap.objs.size
 noex:∀ b o,X.base.get? b=U o->b ∉ X.ex
 exfs:∀ b∈X.ex,b ∉ X.fs
 funs:X.s₀.heap.FunFrames X.base X.outer
 frf:∀ b∈X.fs,X.H₀ b=Y
structure Inv(X:Cx)(pins:G (Z × Obj))(σ:G (Ü V))(H:Hp)(s:À):Prop where
 ok:X.Ok
 os:s.os=X.s₀.os
 bare:AllBare s.gens
 base:Un X.fs X.ex X.H₀ H X.s₀.heap s.heap
 loc:∃ m,s.heap.Ns X.env.locals m/\∀ (i:à) (x:Ã) (v:V),X.N[i]? = U x->σ[i]? = U (U v)->Vis X.env.scope x->∃ u,bI v u/\UQ X.env s.heap m x u
 cell:∀ x c,X.env.cells.lookup x=U c->∃ v,s.heap.IsCell c v
 free:H X.env.locals=Y
 freeC:∀ x c,X.env.cells.lookup x=U c->H c=Y
 pin:∀ p∈X.pn++pins,s.heap.get? p.1=U p.2/\H p.1=Y/\p.1≠X.env.locals/\p.1 ∉ X.fs/\∀ v,p.2.data ≠ .cell v
 hok:HOk X.prog X.w H s.heap
 len:σ.length=X.N.length
variable {base:Ð}
section
variable {σ:G (Ü V)}{H':Hp}
theorem Cx.Ok.nofr(ok:X.Ok)(e:X.base.get? b=U o):b ∉ X.fs:=λ hb=>by
 have:=(ok.funs.mem hb).1;rw[e] at this;cases this
theorem Inv.bs(I:Inv X pins σ H s):∀ b o,X.base.get? b=U o->s.heap.get? b=U o/\H b=Y:=λ b o e=>
 ⟨I.base.keep b o (I.ok.bs b o e).1 (I.ok.bs b o e).2 (I.ok.nofr e) (I.ok.noex b o e),I.base.free b o (I.ok.bs b o e).1 (I.ok.bs b o e).2 (I.ok.noex b o e)⟩
theorem Inv.bk(I:Inv X pins σ H s):∀ b o,X.base.get? b=U o->s.heap.get? b=U o:=λ b o e=>(I.bs b o e).1
def Inv.mod(I:Inv X pins σ H s):Mod X.K X.mg X.base:=I.ok.mod
def Inv.kIn(I:Inv X pins σ H s):X.K.In s.heap:=I.ok.mod.kin.keeps I.bk
theorem Inv.soft(I:Inv X pins σ H s):Jv X.A H:=λ a h=>let {(e),oe,u,h1,h2,h3}:=I.ok.sf a h;⟨e,oe,u,h1,I.base.frzs e oe u h2,h3.up I.base.frzs⟩
theorem Inv.sfn(I:Inv X pins σ H s)(l:G Z)(hl:∀ b∈l,H b=Y):SfN X.A s.heap l:=λ a h=>by
 let(e,oe,u,h1,h2,h3):=I.soft a h;refine{e,oe,h1,(I.hok e _ h2).1,?_,λ z=>by rw[hl e z] at h2;cases h2};obtain⟨vs,cx,a,b,c|⟨c,oc,u,d,e,f⟩⟩:=h3
 ·exact{vs,cx,a,b,.inl c}
 ·exact{vs,cx,a,b,.inr {c,oc,d,(I.hok c _ e).1,f,λ z=>by rw[hl c z] at e;cases e}}
def Inv.lt(I:Inv X pins σ H s):X.env.locals<%[s|99]:=let {_,hn,_}:=I.loc;hn.lt
def Inv.sz(I:Inv X pins σ H s):X.s₀.heap.objs.size<=%[s|99]:=Vv I.ok.above (Xk I.lt)
theorem Inv.nofs(I:Inv X pins σ H s)(h:%[s|99]<=a):a ∉ X.fs:=λ hb=>by
 let(_,o,ho,_):=I.ok.funs.mem hb;exact Þ (Vg (U5 ho) (Vv I.sz h)) (V5 _)
theorem Inv.cne(I:Inv X pins σ H s):∀ x c,X.env.cells.lookup x=U c->c≠X.env.locals:=λ x c e z=>by
 let(v,o,ho,hd):=I.cell x c e;let(m,(o',es,ep,a3,a4,_),_):=I.loc;rw[z,a3] at ho;cases ho;rw[a4] at hd;cases hd
theorem Inv.funs(I:Inv X pins σ H s):s.heap.FunFrames X.base X.outer:=by
 let all:∀ (l:G Env),(∀ b∈frs l,b∈X.fs)->X.s₀.heap.FunFrames X.base l->s.heap.FunFrames X.base l:=by
  intro l
  induction l with
  | nil=>intro _ _;trivial
  | cons env r ih=>
   intro hs hl;let(hk,(xL,o,hf,hn,ho,hd),hr):=hl;let hL:xL∈X.fs:=hs xL (by unfold frs;rw[List.filterMap_cons,hf];exact mem_cons_self);let(sl,e):=I.base.slot xL o ho (I.ok.frf xL hL) hL λ z=>I.ok.exfs xL z hL;exact{hk,{xL,_,hf,hn,e,hd},ih (λ b hb=>hs b (by unfold frs;rw[List.filterMap_cons,hf];exact mem_cons_of_mem _ hb)) hr}
 exact all X.outer (λ _ hb=>hb) I.ok.funs
theorem Inv.stack(I:Inv X pins σ H s):s.heap.FunFrames X.base X.stack:=by
 rcases I.ok.stk with e|⟨e,hf⟩
 ·rw[e];exact I.funs
 ·rw[e];let(m,hn,_):=I.loc;refine .cons (by rw[I.ok.kind];decide) hf hn ?_ I.funs;exact V0 (Vv I.ok.bsz I.ok.above)
theorem Inv.stkSub(I:Inv X pins σ H s):∀ b∈frs X.stack,b∈X.env.locals::X.fs:=λ b hb=>by
 rcases I.ok.stk with e|⟨e,hf⟩
 ·rw[e] at hb;exact Vb _ hb
 ·rw[e] at hb;unfold frs at hb;rw[List.filterMap_cons,hf] at hb;exact hb
theorem Inv.stkFree(I:Inv X pins σ H s):∀ b∈frs X.stack,H b=Y:=λ b hb=>by
 rcases Vp.mp (I.stkSub b hb) with e|hb
 ·rw[e];exact I.free
 ·let(_,o,ho,_):=I.ok.funs.mem hb;exact I.base.free b o ho (I.ok.frf b hb) λ z=>I.ok.exfs b z hb
theorem Inv.step{g':Array GenState}{d':Drawn}(I:Inv X pins σ H s)
  (a3:∀ b∈ch,(b∈X.ex\/X.s₀.heap.objs.size<=b)/\b≠X.env.locals/\(∀ x c,X.env.cells.lookup x=U c->c≠b)/\∀ p∈X.pn++pins,p.1≠b)
  (keep:∀ b o,b≠X.env.locals->b ∉ X.fs->b ∉ ch->s.heap.get? b=U o->H b=Y->h'.get? b=U o)
  (slot:∀ b o,b≠X.env.locals->b∈X.fs->b ∉ ch->s.heap.get? b=U o->H b=Y->∃ sl,h'.get? b=U { o with slots:=sl }) (free:∀ b o,b ∉ ch->s.heap.get? b=U o->H b=Y->H' b=Y)
  (there:∀ b o,b ∉ ch->s.heap.get? b=U o->∃ o',h'.get? b=U o')
  (tups:∀ b xs,H b=U (.tup xs)->H' b=U (.tup xs)) (frzs:∀ b o u,H b=U (.frz o u)->H' b=U (.frz o u)) (tbls:∀ b ps,H b=U (.tbl ps)->∃ more,H' b=U (.tbl (ps++more)))
  (ns:∀ m,s.heap.Ns X.env.locals m->h'.Ns X.env.locals m) (hok:HOk X.prog X.w H' h') (hg:AllBare g') :
  Inv X pins σ H' { s with heap:=h',gens:=g',drawn:=d',toks:=t' }:=by
 let a6:∀ b o,X.s₀.heap.get? b=U o->b≠X.env.locals:=λ b o e=>Vl (Vg (U5 e) I.ok.above)
 let a5:∀ b o,X.s₀.heap.get? b=U o->b ∉ X.ex->b ∉ ch:=λ b o e hx hb=>by
  rcases (a3 b hb).1 with z|z
  ·exact hx z
  ·exact Þ (Vg (U5 e) z) (V5 _)
 let cellK:∀ x c,X.env.cells.lookup x=U c->∀ v,s.heap.IsCell c v->h'.IsCell c v:=λ x c e v ⟨o,ho,hd⟩=>by
  let a4:c ∉ ch:=λ z=>(a3 c z).2.2.1 x c e J
  by_cases hc:c∈X.fs
  ·let(sl,q):=slot c o (I.cne x c e) hc a4 ho (I.freeC x c e);exact{_,q,hd}
  ·exact{o,keep c o (I.cne x c e) hc a4 ho (I.freeC x c e),hd}
 refine{I.ok,I.os,hg,{λ b o e n hb hx=>?_,λ b o e n hb hx=>?_,λ b o e n hx=>?_,λ b o e hx=>?_,λ b xs e=>tups b xs (I.base.tups b xs e),λ b o xs e=>frzs b o xs (I.base.frzs b o xs e),λ b ps e=>?_},?_,λ x c e=>?_,?_,λ x c e=>?_,λ p hp=>?_,hok,I.len}
 ·exact keep b o (a6 b o e) hb (a5 b o e hx) (I.base.keep b o e n hb hx) (I.base.free b o e n hx)
 ·let(sl,e1):=I.base.slot b o e n hb hx;let(a7,e2):=slot b _ (a6 b o e) hb (a5 b o e hx) e1 (I.base.free b o e n hx);exact{(a7),e2}
 ·let(o',e1):=I.base.there b o e hx;exact free b o' (a5 b o e hx) e1 (I.base.free b o e n hx)
 ·let(o',e1):=I.base.there b o e hx;exact there b o' (a5 b o e hx) e1
 ·let(m1,e1):=I.base.tbls b ps e;let(m2,e2):=tbls b _ e1;exact{m1++m2,by rw[e2,Array.append_assoc]}
 ·let(m,hn,hl):=I.loc;refine{m,ns m hn,λ i x v e1 e2 e3=>?_};let(u,r,l):=hl i x v e1 e2 e3;refine{u,r,?_}
  rcases l with l|⟨k,c,e,z⟩
  ·exact .inl l
  ·exact .inr {k,c,e,cellK x c e _ z}
 ·let(v,z):=I.cell x c e;exact{v,cellK x c e v z}
 ·let(m,(o,_,_,ho,_),_):=I.loc;exact free _ o (λ z=>(a3 _ z).2.1 J) ho I.free
 ·let(v,o,ho,hd):=I.cell x c e;exact free c o (λ z=>(a3 c z).2.2.1 x c e J) ho (I.freeC x c e)
 ·let(e,n,ne,nf,d):=I.pin p hp;let a4:p.1 ∉ ch:=λ z=>(a3 p.1 z).2.2.2 p hp J;exact{keep p.1 p.2 ne nf a4 e n,free p.1 p.2 a4 e n,ne,nf,d}
theorem Inv.un(I:Inv X pins σ H s)(u:Un X.fs [] H H' s.heap h')(hok:HOk X.prog X.w H' h'):Inv X pins σ H' { s with heap:=h',toks:=t' }:=by
 let(m,(o,es,ep,ho,r),_):=id I.loc;let(sl,hL):=u.any ho I.free (by simp)
 exact I.step (g':=s.gens) (d':=s.drawn) (ch:=[]) (λ _ z=>nomatch z) (λ b o _ hb _ e n=>u.keep b o e n hb (by simp)) (λ b o _ hb _ e n=>u.slot b o e n hb (by simp)) (λ b o _ e n=>u.free b o e n (by simp)) (λ b o _ e=>u.there b o e (by simp)) u.tups u.frzs u.tbls (λ m' hm=>by
  let(o',a4,a5,a3,r'):=hm;rw[ho] at a3;cases a3;exact{_,a4,a5,hL,r'}) hok I.bare
theorem Inv.call{g':Array GenState}{d':Drawn}(I:Inv X pins σ H s)(u:Un (frs X.stack) ch H H' s.heap h')(hok:HOk X.prog X.w H' h')(hg:AllBare g')
  (a3:∀ b∈ch,(b∈X.ex\/X.s₀.heap.objs.size<=b)/\b≠X.env.locals/\(∀ x c,X.env.cells.lookup x=U c->c≠b)/\∀ p∈X.pn++pins,p.1≠b) :
  Inv X pins σ H' { s with heap:=h',gens:=g',drawn:=d',toks:=t' }:=by
 let(m,(o,es,ep,ho,r),_):=id I.loc;let(sl,hL):=u.any ho I.free λ z=>(a3 _ z).2.1 J
 exact I.step (ch:=ch) a3 (λ b o hL hb hc e n=>u.keep b o e n (λ z=>(Vp.mp (I.stkSub b z)).elim hL hb) hc) (λ b o _ _ hc e n=>u.any e n hc) (λ b o hc e n=>u.free b o e n hc) (λ b o hc e=>u.there b o e hc) u.tups u.frzs u.tbls (λ m' hm=>by
  let(o',a5,a6,a4,r'):=hm;rw[ho] at a4;cases a4;exact{_,a5,a6,hL,r'}) hok hg
theorem Inv.turned(I:Inv X pins σ H s)(k:∀ b o,b≠it->s.heap.get? b=U o->h'.get? b=U o)(hn:H it=Y)(hL:it≠X.env.locals)
  (h1:it∈X.ex\/X.s₀.heap.objs.size<=it) (h2:∀ x c,X.env.cells.lookup x=U c->c≠it) (h3:∀ p∈X.pn++pins,p.1≠it):Inv X pins σ H { s with heap:=h',toks:=t' }:=by
 let a3:∀ b u,H b=U u->b≠it:=λ b u e z=>by rw[z,hn] at e;cases e
 refine I.step (g':=s.gens) (d':=s.drawn) (ch:=[it]) (λ b hb=>?_) (λ b o _ _ hc e _=>k b o (λ z=>hc (by simp[z])) e) (λ b o _ _ hc e _=>{o.slots,k b o (λ z=>hc (by simp[z])) e}) (λ _ _ _ _ n=>n)
  (λ b o hc e=>{o,k b o (λ z=>hc (by simp[z])) e}) (λ _ _ e=>e) (λ _ _ _ e=>e) (λ b ps e=>{#[],by rw[e];simp}) (λ m hm=>?_) (λ b u e=>?_) I.bare
 ·let e:b=it:=by simpa using hb
  subst e;exact{(h1),hL,h2,h3}
 ·let(o,es,ep,ho,r):=hm;exact{o,es,ep,k _ o (Vz hL) ho,r}
 ·refine(I.hok b u e).stay (λ c v hc q=>k c v ?_ q) (λ _ q=>q) (λ _ _ q=>q) λ _ _ q=>q
  rcases hc with z|z
  ·rw[z];exact a3 b u e
  ·exact a3 c _ z
def Inv.tok(I:Inv X pins σ H s)(t:à):Inv X pins σ H { s with toks:=t }:=I.un (h':=s.heap) (t':=t) Un.refl I.hok
def Inv.kept(I:Inv X pins σ H s)(k:∀ b u,s.heap.get? b=U u->h'.get? b=U u):Inv X pins σ H { s with heap:=h',toks:=t' }:=I.un (Un.kept k) (I.hok.kept k)
def Inv.laid{o:HO}(I:Inv X pins σ H s)(k:∀ b u,s.heap.get? b=U u->h'.get? b=U u)(hp:%[s|99]<=a)(new:bL X.prog X.w (upd H a o) h' a o) :
  Inv X pins σ (upd H a o) { s with heap:=h',toks:=t' }:=I.un (Un.laid k hp (I.hok.fresh hp)) (I.hok.laid k hp new)
def Inv.write{x e:Z}{o:HO}(I:Inv X pins σ H s)(mu:Mut (H x))(he:e=x\/H e=U (.own x))(k:∀ b u,b≠e->s.heap.get? b=U u->h'.get? b=U u)(a3:∃ u,h'.get? e=U u)
  (new:bL X.prog X.w (upd H x o) h' x o):Inv X pins σ (upd H x o) { s with heap:=h',toks:=t' }:=I.un (Un.write mu he k a3) (I.hok.write mu he k a3 new)
theorem Inv.weak{σ':G (Ü V)}(I:Inv X pins σ H s)(hl:σ'.length=σ.length)(w:∀ (i:à) v,σ'[i]? = U (U v)->σ[i]? = U (U v)):Inv X pins σ' H s:=
 ⟨I.ok,I.os,I.bare,I.base,let {(m),hn,hl'}:=I.loc;⟨m,hn,λ i x v e1 e2 e3=>hl' i x v e1 (w i v e2) e3⟩,I.cell,I.free,I.freeC,I.pin,I.hok,hl.trans I.len⟩
theorem Inv.pins_of{a3:G (Z × Obj)}(I:Inv X pins σ H s)(h:∀ p∈a3,s.heap.get? p.1=U p.2/\H p.1=Y/\p.1≠X.env.locals/\p.1 ∉ X.fs/\∀ v,p.2.data ≠ .cell v):Inv X a3 σ H s:=
 ⟨I.ok,I.os,I.bare,I.base,I.loc,I.cell,I.free,I.freeC,λ p hp=>(VI.mp hp).elim (λ z=>I.pin p (Wu _ z)) (h p),I.hok,I.len⟩
theorem p6(hN:N.Nodup)(a:N[i]? = U x)(b:N[j]? = U x):i=j:=by
 let(h1,e1):=U1.mp a;let(h2,e2):=U1.mp b;exact(List.getElem_inj hN).mp (e1.trans e2.symm)
theorem rP(I:Inv X pins σ H s)(hN:X.N.Nodup)(hi:X.N[i]? = U x)(hx:Loc X.env.scope x)(r:bI v u)
  (h:∀ s',Inv X pins (σ.set i (U v)) H s'->(∃ a,Heap.SameBut a s.heap s'.heap/\(a=X.env.locals\/X.env.cells.lookup x=U a))->Q () s') (hf:X.fn x=L\/X.env.scope.names.lookup x=U .local:=by first|exact .inl rfl|exact .inr rfl|assumption):Ç M A (storeName X.env x u) Q E s:=by
 let(m,hn,hl):=id I.loc;let a5:(X.env.scope.kind == .class || (X.env.scope.kind == .module && X.env.locals != X.env.globals))=Â:=by rw[I.ok.kind];rfl
 let a6:i<σ.length:=by rw[I.len];exact(U1.mp hi).1
 let cne:=I.cne
 let tracked:∀ {a:Z} {h':Ð},(∃ o,s.heap.get? a=U o/\H a=Y)->Heap.SameBut a s.heap h'->HOk X.prog X.w H h':=λ {a h'} ha hs b ob e=>by
  let(_,_,a3):=ha;refine(I.hok b ob e).stay (λ c w' hc q=>(hs.2 c ?_).trans q) (λ _ q=>q) (λ _ _ q=>q) λ _ _ q=>q;rintro rfl
  rcases hc with rfl|hc
  ·rw[a3] at e;cases e
  ·rw[a3] at hc;cases hc
 rcases hx with hk|hk
 ·refine wpAny_storeName_local hk hn (λ h' b1 hs=>?_) a5;let(oL,_,_,b2,_):=id hn;refine h _ {I.ok,I.os,I.bare,{λ b o e n hb hx=>?_,λ b o e n hb hx=>?_,I.base.free,λ b o e hx=>?_,I.base.tups,I.base.frzs,I.base.tbls},{_,b1,λ j y v' e1 e2 e3=>?_},λ y c e=>?_,I.free,I.freeC,λ p hp=>?_,tracked {(oL),b2,I.free} hs,by simpa using I.len} ⟨_,hs,.inl rfl⟩
  ·exact(hs.2 b (Vl (Vg (U5 e) I.ok.above))).trans (I.base.keep b o e n hb hx)
  ·let(sl,e1):=I.base.slot b o e n hb hx;exact{sl,(hs.2 b (Vl (Vg (U5 e) I.ok.above))).trans e1}
  ·let(o',e1):=I.base.there b o e hx;exact{o',(hs.2 b (Vl (Vg (U5 e) I.ok.above))).trans e1}
  ·by_cases hj:j=i
   ·subst hj;rw[hi] at e1;cases e1;rw[Wx a6] at e2;cases e2;exact{u,r,.inl {hk,by simp}}
   ·rw[Xa (Vz hj)] at e2;let(u',r',q):=hl j y v' e1 e2 e3;refine{u',r',?_}
    rcases q with ⟨k,e⟩|⟨k,c,e,z⟩
    ·refine .inl {k,?_};have:y≠x:=λ e=>hj (p6 hN e1 (e ▸ hi));simp[this,e]
    ·exact .inr {k,c,e,z.sameBut hs (cne y c e)}
  ·let(w',z):=I.cell y c e;exact{w',z.sameBut hs (cne y c e)}
  ·let(e,n,ne,nf,d):=I.pin p hp;exact{(hs.2 p.1 ne).trans e,n,ne,nf,d}
 ·let a4:X.fn x=L:=by
   rcases hf with z|z
   ·exact z
   ·rw[z] at hk;cases hk
  let(c,hc):=I.ok.has x (.inl hk);let(w',z):=I.cell x c hc;refine wpAny_storeName_cell I.ok.kind hk hc z (λ h' a7 hs=>?_);let(oc,a8,a9):=id z;refine h { s with heap:=h' } ⟨I.ok,I.os,I.bare,{λ b o e n hb hx=>?_,λ b o e n hb hx=>?_,I.base.free,λ b o e hx=>?_,I.base.tups,I.base.frzs,I.base.tbls},{m,hn.sameBut hs (Vz (cne x c hc)),λ j y v' e1 e2 e3=>?_},λ y c' e=>?_,I.free,I.freeC,λ p hp=>?_,tracked {oc,a8,I.freeC x c hc} hs,by simpa using I.len⟩ ⟨c,hs,.inr hc⟩
  ·exact(hs.2 b (Vl (Vg (U5 e) (I.ok.cab x c a4 hc)))).trans (I.base.keep b o e n hb hx)
  ·let(sl,e1):=I.base.slot b o e n hb hx;exact{sl,(hs.2 b (Vl (Vg (U5 e) (I.ok.cab x c a4 hc)))).trans e1}
  ·let(o',e1):=I.base.there b o e hx;exact{o',(hs.2 b (Vl (Vg (U5 e) (I.ok.cab x c a4 hc)))).trans e1}
  ·by_cases hj:j=i
   ·subst hj;rw[hi] at e1;cases e1;rw[Wx a6] at e2;cases e2;exact{u,r,.inr {.inl hk,c,hc,a7}}
   ·rw[Xa (Vz hj)] at e2;let(u',r',q):=hl j y v' e1 e2 e3;refine{u',r',?_}
    rcases q with q|⟨k,c',e,z'⟩
    ·exact .inl q
    ·refine .inr {k,c',e,z'.sameBut hs ?_};rintro rfl;exact hj (p6 hN e1 (I.ok.inj _ _ _ e hc ▸ hi))
  ·by_cases hcc:c'=c
   ·subst hcc;exact{_,a7}
   ·let(w2,z2):=I.cell y c' e;exact{w2,z2.sameBut hs hcc}
  ·let(e,n,ne,nf,d):=I.pin p hp;refine{(hs.2 p.1 ?_).trans e,n,ne,nf,d};intro q;rw[q,a8] at e;let q':oc=p.2:=VL e;exact d w' (by rw[←q'];exact a9)
theorem lF(I:Inv X pins σ H s)(hN:X.N.Nodup)(hi:X.N[i]? = U x)(hx:Loc X.env.scope x)(r:bI v u)
  (h:∀ s',Inv X pins (σ.set i (U v)) H s'->Q () s') (hf:X.fn x=L\/X.env.scope.names.lookup x=U .local:=by first|exact .inl rfl|exact .inr rfl|assumption):Ç M A (storeName X.env x u) Q E s:=
 rP I hN hi hx r (λ s' I' _=>h s' I') hf
theorem Inv.call'{s':À}(I:Inv X pins σ H s)(ho:s'.os=s.os)(u:Un (frs X.stack) ch H H' s.heap s'.heap)(hok:HOk X.prog X.w H' s'.heap)(hg:AllBare s'.gens)
  (a3:∀ b∈ch,(b∈X.ex\/X.s₀.heap.objs.size<=b)/\b≠X.env.locals/\(∀ x c,X.env.cells.lookup x=U c->c≠b)/\∀ p∈X.pn++pins,p.1≠b):Inv X pins σ H' s':=by
 let(h',g',d',t',o'):=s';let e:o'=s.os:=ho;subst e;exact I.call (g':=g') (t':=t') (d':=d') u hok hg a3
end
abbrev XK:=O->Ü Z->Hp->Prop
abbrev St:=G (Ü V)
variable {σ:St}
abbrev VK:=V->Hp->Prop
abbrev TE:=St->Hp->VK->Prop
abbrev TT:=St->Hp->(Ý->Hp->Prop)->Prop
abbrev TA:=St->Hp->(G V->Hp->Prop)->Prop
structure gX where
 nx:St->Hp->Prop
 rt:VK
 bk:St->Hp->Prop:=λ _ _=>False
 ct:St->Hp->Prop:=λ _ _=>False
abbrev TS:=gX->St->Hp->Prop
variable {tb:TS}
def EP(X:Cx)(pins:G (Z × Obj))(σ:St)(Q:VK)(u:O)(s':À):Prop:=∃ v H',Inv X pins σ H' s'/\bI v u/\Q v H'
def TP(X:Cx)(pins:G (Z × Obj))(σ:St)(Q:Ý->Hp->Prop)(b:Ý)(s':À):Prop:=∃ H',Inv X pins σ H' s'/\Q b H'
def AP(X:Cx)(pins:G (Z × Obj))(σ:St)(Q:G V->Hp->Prop)(us:G O)(s':À):Prop:=∃ vs H',Inv X pins σ H' s'/\aX vs us/\Q vs H'
def SP(X:Cx)(pins:G (Z × Obj))(D:gX)(f:Flow)(s':À):Prop:=
 match f with
 | .next=>∃ σ' H',Inv X pins σ' H' s'/\D.nx σ' H'
 | .brk=>∃ σ' H',Inv X pins σ' H' s'/\D.bk σ' H'
 | .cont=>∃ σ' H',Inv X pins σ' H' s'/\D.ct σ' H'
 | .ret u=>∃ v σ' H',Inv X pins σ' H' s'/\bI v u/\D.rt v H'
def PE(X:Cx)(e:Ñ)(t:TE):Prop:=
 ∀ (pins:G (Z × Obj)) (s:À) (σ:St) (H:Hp) (Q:VK),Inv X pins σ H s->t σ H Q->Ç (Ê X.prog X.w) X.A (eval e X.env) (EP X pins σ Q) X.xe s
def PT(X:Cx)(e:Ñ)(t:TT):Prop:=
 ∀ (pins:G (Z × Obj)) (s:À) (σ:St) (H:Hp) (Q:Ý->Hp->Prop),Inv X pins σ H s->t σ H Q->Ç (Ê X.prog X.w) X.A (isTrue e X.env (eval e X.env)) (TP X pins σ Q) X.xe s
def PW(X:Cx)(e:Ñ)(t:TT):Prop:=
 ∀ (whole:Sem O) (pins:G (Z × Obj)) (s:À) (σ:St) (H:Hp) (Q:Ý->Hp->Prop),Inv X pins σ H s->t σ H Q->Ç (Ê X.prog X.w) X.A (isTrue e X.env whole) (TP X pins σ Q) X.xe s
def PW.pt{t:TT}(h:PW X e t):PT X e t:=h _
def PA(X:Cx)(es:G Ñ)(t:TA):Prop:=
 ∀ (pos:Pos) (pins:G (Z × Obj)) (s:À) (σ:St) (H:Hp) (Q:G V->Hp->Prop),Inv X pins σ H s->t σ H Q->Ç (Ê X.prog X.w) X.A (spliced (backTo pos (starEach es X.env))) (AP X pins σ Q) X.xe s
def PS(X:Cx)(st:Stmt)(t:TS):Prop:=
 ∀ (pins:G (Z × Obj)) (s:À) (σ:St) (H:Hp) (D:gX),Inv X pins σ H s->t D σ H->Ç (Ê X.prog X.w) X.A (exec st X.env) (SP X pins D) X.xe s
def PSs(X:Cx)(st:G Stmt)(t:TS):Prop:=
 ∀ (pins:G (Z × Obj)) (s:À) (σ:St) (H:Hp) (D:gX),Inv X pins σ H s->t D σ H->Ç (Ê X.prog X.w) X.A (execs st X.env) (SP X pins D) X.xe s
theorem thn{t:Sem α}{Q Q':α->À->Prop}(h:Ç M A t Q E s)(hQ:∀ a s,Q a s->Q' a s):Ç M A t Q' E s:=Wj h hQ λ _ _ x=>x
section
variable {X:Cx}
def Rb(i:à):TE:=λ σ H Q=>∃ v,σ[i]? = U (U v)/\Q v H
def tC(v:V):TE:=λ _ H Q=>Q v H
theorem OC(hN:X.N[i]? = U x)(hv:Vis X.env.scope x)(hd:(x == ("__debug__":Ã))=Â:=by decide)(a4:(x == ("__classdict__":Ã))=Â:=by decide):PE X (.Name x pos) (Rb i):=by
 intro pins s σ H Q I h;let(v,e,h):=h;let(m,hn,hl):=I.loc;let(u,r,l):=hl i x v hN e hv;let fin:EP X pins σ Q u s:={(v),H,I,r,h}
 rcases l with ⟨hk,hm⟩|⟨hk,c,hc,a3⟩
 ·exact Yf (wpAny_loadName_local I.ok.kind hk hn hm fin) hd
 ·rcases hk with hk|hk
  ·exact Yf (wpAny_loadName_cell I.ok.kind hk hc a3 fin) hd
  ·exact Yf (wpAny_loadName_free I.ok.kind hk hc a3 fin a4) hd
theorem gm{i j pos}:PE X (.Constant (.int i) j pos) (tC (.int i)):=λ _ _ _ H _ I h=>wpAny_Constant_int {.int i,H,I.tok _,{_,J},h}
theorem fq{b j pos}:PE X (.Constant (.bool b) j pos) (tC (.bl b)):=λ _ _ _ H _ I h=>Constant_bool {.bl b,H,I,J,h}
theorem aZ{j pos}:PE X (.Constant .none j pos) (tC .non):=λ _ _ _ H _ I h=>Constant_none {.non,H,I,J,h}
theorem aH{x j pos}:PE X (.Constant (.str x) j pos) (tC (.str x)):=λ _ _ _ H _ I h=>Calls.Constant_str {.str x,H,I.tok _,{_,J},h}
def Gl(X:Cx)(x:Ã):Prop:=X.env.kindOf x=U .globalImplicit
theorem dM{Q:O->À->Prop}(I:Inv X pins σ H s)(hg:Gl X x)(hm:X.mg x=U u)(h:Q u s)
  (hd:(x == ("__debug__":Ã))=Â:=by decide):Ç (Ê X.prog X.w) X.A (eval (.Name x pos) X.env) Q E s:=
 Calls.Name_function_global I.ok.kind hg (Calls.loadGlobal_global (by rw[I.ok.glob];exact I.mod.glob.keeps I.bk) hm h) hd
theorem jl{Q:O->À->Prop}(I:Inv X pins σ H s)(hg:Gl X x)(hm:X.mg x=Y)(hv:bootBuiltins x=U u)(h:Q u s)
  (hn:x ≠ "__name__":=by decide) (hd:(x == ("__debug__":Ã))=Â:=by decide):Ç (Ê X.prog X.w) X.A (eval (.Name x pos) X.env) Q E s:=by
 let(mb,h1,h2):=I.mod.blt;exact Calls.Name_function_global I.ok.kind hg (Calls.loadGlobal_builtin (by rw[I.ok.glob];exact I.mod.glob.keeps I.bk) hm (by rw[I.ok.blt];exact h1.keeps I.bk) ((h2 x hn).trans hv) h) hd
theorem KO{x:Ã}{v:V}{u:O}{pos:Pos}(hg:Gl X x)(hm:X.mg x=U u)(r:bI v u)(hd:(x == ("__debug__":Ã))=Â:=by decide):PE X (.Name x pos) (tC v):=
 λ _ _ _ H _ I h=>dM I hg hm {(v),H,I,r,h} hd
theorem dn{x:Ã}{v:V}{u:O}{pos:Pos}(hg:Gl X x)(hm:X.mg x=Y)(hv:bootBuiltins x=U u)(r:bI v u)(hn:x ≠ "__name__":=by decide)(hd:(x == ("__debug__":Ã))=Â:=by decide):PE X (.Name x pos) (tC v):=
 λ _ _ _ H _ I h=>jl I hg hm hv {(v),H,I,r,h} hn hd
variable {a b:Ñ}{ta tb:TE}
def tB(t:TE):TT:=λ σ H Q=>t σ H λ x H1=>∃ c,x=.bl c/\Q c H1
theorem Ow{t:TE}(h:PE X e t)(he:∀ whole,isTrue e X.env whole=(do let v ←whole;standAt e.pos;holding [v] (truthy v)):=by intro _;rfl):PT X e (tB t):=by
 intro pins s σ H Q I hw;refine isTrue_plain (thn (h pins s σ H _ I hw) λ v s1 ⟨x,H1,I1,r1,q1⟩=>?_) (he _);let(d,rfl,q):=q1;cases r1;exact Wh {(H1),I1,q}
variable {tA tB':TT}{bW:G Ñ}
def Th(t u:TT):TT:=λ σ H Q=>t σ H λ c H1=>if c=L then u σ H1 Q else Q Â H1
def tOr(t u:TT):TT:=λ σ H Q=>t σ H λ c H1=>if c=L then Q L H1 else u σ H1 Q
def Te(t:TT):TT:=λ σ H Q=>t σ H λ c H1=>Q (!c) H1
theorem gr(ha:PT X a tA):PW X (.BoolOp .And [a] pos) tA:=by
 intro wh pins s σ H Q I h;refine isTrue_and (thn (ha pins s σ H Q I h) λ c s1 e=>?_)
 cases c with
 | true=>exact isTrue_and_nil e
 | false=>exact e
theorem Ou(ha:PT X a tA):PW X (.BoolOp .Or [a] pos) tA:=by
 intro wh pins s σ H Q I h;refine isTrue_or (thn (ha pins s σ H Q I h) λ c s1 e=>?_)
 cases c with
 | false=>exact isTrue_or_nil e
 | true=>exact e
theorem Ov(ha:PT X a tA)(hb:PW X (.BoolOp .And (b::bW) pos) tB'):PW X (.BoolOp .And (a::b::bW) pos) (Th tA tB'):=by
 intro wh pins s σ H Q I h;refine isTrue_and (thn (ha pins s σ H _ I h) λ c s1 ⟨H1,I1,q1⟩=>?_)
 cases c with
 | true=>exact hb wh pins s1 σ H1 Q I1 q1
 | false=>exact{(H1),I1,q1}
theorem R4(ha:PT X a tA)(hb:PW X (.BoolOp .Or (b::bW) pos) tB'):PW X (.BoolOp .Or (a::b::bW) pos) (tOr tA tB'):=by
 intro wh pins s σ H Q I h;refine isTrue_or (thn (ha pins s σ H _ I h) λ c s1 ⟨H1,I1,q1⟩=>?_)
 cases c with
 | true=>exact{(H1),I1,q1}
 | false=>exact hb wh pins s1 σ H1 Q I1 q1
theorem Ox(ha:PT X a tA):PT X (.UnaryOp .Not a pos) (Te tA):=by
 intro pins s σ H Q I h;exact isTrue_not (ha pins s σ H (λ c H1=>Q (!c) H1) I h)
def Nr(ta tb:TE):TE:=λ σ H Q=>ta σ H λ x H1=>∃ c,x=.bl c/\if c=L then tb σ H1 Q else Q (.bl Â) H1
def Nk(ta:TE):TE:=λ σ H Q=>ta σ H λ x H1=>∃ c,x=.bl c/\Q (.bl (!c)) H1
theorem OD{op}{t:TE}(h:PE X a t):PE X (.BoolOp op [a] pos) t:=λ pins s σ H Q I hw=>BoolOp_one (h pins s σ H Q I hw)
theorem OG(ha:PE X a ta)(hb:PE X (.BoolOp .And (b::bW) pos) tb):PE X (.BoolOp .And (a::b::bW) pos) (Nr ta tb):=by
 intro pins s σ H Q I h;refine BoolOp_and (thn (ha pins s σ H _ I h) λ v s1 ⟨x,H1,I1,r1,q1⟩=>?_);let(c,rfl,q1):=q1;cases r1;refine Wh ?_
 cases c with
 | true=>exact hb pins s1 σ H1 Q I1 q1
 | false=>exact{.bl Â,H1,I1,J,q1}
theorem OE(ha:PE X a ta):PE X (.UnaryOp .Not a pos) (Nk ta):=by
 intro pins s σ H Q I h;refine UnaryOp_ (thn (ha pins s σ H _ I h) λ v s1 ⟨x,H1,I1,r1,q1⟩=>?_);let(c,rfl,q1):=q1;cases r1;exact not_of (Wh {.bl (!c),H1,I1,J,q1})
def tIf(t:TT)(ta tb:TE):TE:=λ σ H Q=>t σ H λ c H1=>if c=L then ta σ H1 Q else tb σ H1 Q
theorem FT{c:Ñ}(hc:PT X c tA)(ha:PE X a ta)(hb:PE X b tb):PE X (.IfExp c a b pos) (tIf tA ta tb):=by
 intro pins s σ H Q I h;refine wpAny_IfExp (thn (hc pins s σ H _ I h) λ d s1 ⟨H1,I1,q1⟩=>?_)
 cases d with
 | true=>exact ha pins s1 σ H1 Q I1 q1
 | false=>exact hb pins s1 σ H1 Q I1 q1
end
def SqL(K:Å)(H:Hp)(a:Z)(xs:G V):Prop:=
 Rd H a (.lst xs) \/
  ∃ (o:Obj) (its:Array O) (n:à),K.lookup a=U o/\o.cls=.type "list" /\ o.dict=Y/\o.data=.seq its n/\its.size<=Æ/\aX xs its.toList
def SqT(K:Å)(H:Hp)(a:Z)(xs:G V):Prop:=
 Rd H a (.tup xs) \/
  ∃ (o:Obj) (its:Array O) (n:à),K.lookup a=U o/\o.cls=.type "tuple" /\ o.data=.seq its n/\its.size<=Æ/\aX xs its.toList
def UP:O->Ü V
 | .none=>U .non
 | .bool b=>U (.bl b)
 | .int i _=>U (.int i)
 | .str x _=>U (.str x)
 | .bytes b _=>U (.byt b)
 | .float b _=>U (.flt b)
 | .ref a=>U (.ref a)
 | .type n=>U (.ty n)
 | _=>Y
theorem bI.abs{x:V}(r:bI x u):UP u=U x:=by
 cases x with
 | non=>cases r;rfl
 | bl _=>cases r;rfl
 | int _=>let(t,rfl):=r;rfl
 | str _=>let(t,rfl):=r;rfl
 | byt _=>let(t,rfl):=r;rfl
 | flt _=>let(t,rfl):=r;rfl
 | ref _=>cases r;rfl
 | ty _=>cases r;rfl
def bI.inj{x y:V}(r:bI x u)(q:bI y u):x=y:=VL (r.abs.symm.trans q.abs)
theorem aX.inj:∀ {xs ys:G V}{us:G O},aX xs us->aX ys us->xs=ys
 | _,_,_,.nil,.nil=>rfl
 | _,_,_,.cons r t,.cons r' t'=>by rw[r.inj r',aX.inj t t']
section
variable {xs ys:G V}
def SqL.of(h:H a=U (.lst xs)):SqL K H a xs:=.inl (.inl h)
def SqT.of(h:H a=U (.tup xs)):SqT K H a xs:=.inl (.inl h)
theorem Inv.list(I:Inv X pins σ H s)(h:SqL X.K H a xs):∃ its:G O,aX xs its/\PlainL s.heap a its.toArray/\xs.length<=Æ:=by
 rcases h with h|⟨o,its,n,hk,hc,hd,hs,hz,r⟩
 ·let(z,its,n,r,e):=h.ok I.hok;exact{its,r,{_,n,e,J,J,J},z}
 ·refine{its.toList,r,{o,n,I.kIn a o hk,hc,hd,by simpa using hs},?_};let e:=r.length;simp only[WO] at e;omega
theorem Inv.tuple(I:Inv X pins σ H s)(h:SqT X.K H a xs):∃ its:G O,aX xs its/\IsTup s.heap a its.toArray/\xs.length<=Æ:=by
 rcases h with h|⟨o,its,n,hk,hc,hs,hz,r⟩
 ·let(z,its,r,p):=h.ok I.hok;exact{(its),r,p,z}
 ·refine{its.toList,r,{o,I.kIn a o hk,hc,n,by simpa using hs},?_};let e:=r.length;simp only[WO] at e;omega
theorem Inv.list_inj(I:Inv X pins σ H s)(h:SqL X.K H a xs)(h':SqL X.K H a ys):xs=ys:=by
 let(its,r,(o,n,e,_,_,d),_):=I.list h;let(its',r',(o',n',e',_,_,d'),_):=I.list h';rw[e] at e';cases e';rw[d] at d'
 injection d' with d1 _
 have:its=its':=by simpa using VQ Array.toList d1
 subst this;exact r.inj r'
theorem Inv.tuple_inj(I:Inv X pins σ H s)(h:SqT X.K H a xs)(h':SqT X.K H a ys):xs=ys:=by
 let(its,r,(o,e,_,n,d),_):=I.tuple h;let(its',r',(o',e',_,n',d'),_):=I.tuple h';rw[e] at e';cases e';rw[d] at d'
 injection d' with d1 _
 have:its=its':=by simpa using VQ Array.toList d1
 subst this;exact r.inj r'
end
abbrev Cx.wish(X:Cx)(E:O->À->Prop):Cx:={ X with xe:=E }
abbrev Cx.nox(X:Cx):Cx:=X.wish λ _ _=>False
def Cx.Ok.wish(ok:X.Ok)(E:O->À->Prop):(X.wish E).Ok:=
 ⟨ok.mod,ok.kind,ok.glob,ok.blt,ok.above,ok.inj,ok.has,ok.cab,ok.hd,ok.sf,ok.frames,ok.stk,ok.exf,ok.bs,ok.bsz,ok.noex,ok.exfs,ok.funs,ok.frf⟩
def Cx.Ok.unwish(ok:(X.wish E).Ok):X.Ok:=
 ⟨ok.mod,ok.kind,ok.glob,ok.blt,ok.above,ok.inj,ok.has,ok.cab,ok.hd,ok.sf,ok.frames,ok.stk,ok.exf,ok.bs,ok.bsz,ok.noex,ok.exfs,ok.funs,ok.frf⟩
def Inv.wish(I:Inv X pins σ H s)(E:O->À->Prop):Inv (X.wish E) pins σ H s:={I.ok.wish E,I.os,I.bare,I.base,I.loc,I.cell,I.free,I.freeC,I.pin,I.hok,I.len}
def Inv.unwish(I:Inv (X.wish E) pins σ H s):Inv X pins σ H s:={(I.ok.unwish),I.os,I.bare,I.base,I.loc,I.cell,I.free,I.freeC,I.pin,I.hok,I.len}
theorem SP.unwish{D:gX}{f:Flow}{s':À}(h:SP (X.wish E) pins D f s'):SP X pins D f s':=by
 cases f with
 | next=>let(σ',H',I,q):=h;exact{(σ'),H',I.unwish,q}
 | brk=>let(σ',H',I,q):=h;exact{(σ'),H',I.unwish,q}
 | cont=>let(σ',H',I,q):=h;exact{(σ'),H',I.unwish,q}
 | ret u=>let(v,σ',H',I,r,q):=h;exact{(v),σ',H',I.unwish,r,q}
theorem PSs.nox{st:G Stmt}{t:TS}(h:PSs X.nox st t):PSs X st t:=λ pins s σ H D I hw=>
 Wj (h pins s σ H D (I.wish _) hw) (λ _ _ q=>q.unwish) λ _ _ z=>False.elim z
section
variable {st:Stmt}{bW:G Stmt}{t u:TS}{te:TE}
def Nl:TS:=λ D σ H=>D.nx σ H
def Tb(t u:TS):TS:=λ D σ H=>t { D with nx:=u D } σ H
def aj:PSs X [] Nl:=λ _ _ σ H _ I h=>X7 {(σ),H,I,h}
theorem jr(h1:PS X st t)(h2:PSs X bW u):PSs X (st::bW) (Tb t u):=by
 intro pins s σ H D I h;refine wpAny_execs_cons (thn (h1 pins s σ H { D with nx:=u D } I h) λ f s1 q=>?_)
 cases f with
 | next=>
  let(σ',H',I',q):=q;exact h2 pins s1 σ' H' D I' q
 | ret v=>exact q
 | brk=>exact q
 | cont=>exact q
theorem pj(h1:PS X st t):PSs X [st] t:=by
 intro pins s σ H D I h;refine wpAny_execs_cons (thn (h1 pins s σ H D I h) λ f s1 q=>?_)
 cases f with
 | next=>exact X7 q
 | ret v=>exact q
 | brk=>exact q
 | cont=>exact q
theorem Inv.quiet(I:Inv X pins σ H s):interactive X.env=Â:=by simp[interactive,I.ok.kind]
def Nn(te:TE):TS:=λ D σ H=>te σ H λ _ H1=>D.nx σ H1
theorem Kz(he:PE X e te)(hs:swapsWith e Y pos.line X.env=pure Â:=by rfl):PS X (.Expr e pos) (Nn te):=by
 intro pins s σ H D I h;exact wpAny_Expr_any (thn (he pins s σ H _ I h) λ v s1 ⟨x,H1,I1,r1,q1⟩=>{(σ),H1,I1,q1}) I.quiet hs
def Td(te:TE):TS:=λ D σ H=>te σ H D.rt
theorem AZ(he:PE X e te):PS X (.Return (U e) pos) (Td te):=by
 intro pins s σ H D I h;exact wpAny_Return_some (thn (he pins s σ H _ I h) λ v s1 ⟨x,H1,I1,r1,q1⟩=>{(x),σ,H1,I1,r1,q1})
def MW(c:TT)(t u:TS):TS:=λ D σ H=>c σ H λ b H1=>if b=L then t D σ H1 else u D σ H1
theorem JJ{c:Ñ}{a b:G Stmt}{tc:TT}(hc:PT X c tc)(ha:PSs X a t)(hb:PSs X b u):PS X (.If c a b pos) (MW tc t u):=by
 intro pins s σ H D I h;refine wpAny_If (thn (hc pins s σ H _ I h) λ d s1 ⟨H1,I1,q1⟩=>?_)
 cases d with
 | true=>exact ha pins s1 σ H1 D I1 q1
 | false=>exact hb pins s1 σ H1 D I1 q1
def Iz:TS:=λ _ _ _=>False
def bU:PS X st Iz:=λ _ _ _ _ _ _ h=>h.elim
def mG{a3:G Stmt}:PSs X a3 Iz:=λ _ _ _ _ _ _ h=>h.elim
end
abbrev TG:=V->St->Hp->(St->Hp->Prop)->Prop
abbrev TGs:=G V->St->Hp->(St->Hp->Prop)->Prop
def PG(X:Cx)(target:Ñ)(t:TG):Prop:=
 ∀ (pins:G (Z × Obj)) (s:À) (σ:St) (H:Hp) (v:V) (u:O) (Q:St->Hp->Prop),Inv X pins σ H s->bI v u->t v σ H Q →
  Ç (Ê X.prog X.w) X.A (assign target X.env u) (λ _ s'=>∃ σ' H',Inv X pins σ' H' s'/\Q σ' H') X.xe s
def PGs(X:Cx)(ts:G Ñ)(t:TGs):Prop:=
 ∀ (pins:G (Z × Obj)) (s:À) (σ:St) (H:Hp) (vs:G V) (us:G O) (Q:St->Hp->Prop),Inv X pins σ H s->aX vs us->t vs σ H Q →
  Ç (Ê X.prog X.w) X.A (assignInOrder ((assignEach ts X.env).map (·.2)) us) (λ _ s'=>∃ σ' H',Inv X pins σ' H' s'/\Q σ' H') X.xe s
abbrev Ir:=V->V->V->Hp->(Hp->Prop)->Prop
def T8(X:Cx)(t:Ir):Prop:=
 ∀ (pins:G (Z × Obj)) (s:À) (σ:St) (H:Hp) (o i v:V) (ov iv u:O) (Q:Hp->Prop),Inv X pins σ H s->bI o ov->bI i iv->bI v u->t o i v H Q →
  Ç (Ê X.prog X.w) X.A (setItem ov iv u) (λ _ s'=>∃ H',Inv X pins σ H' s'/\Q H') X.xe s
theorem fR:entryFor table "proto.unchain"=U Builtin.«proto.unchain»:=entryFor_of_tree (by kernel_rfl)
section
variable {prog:Ì}
theorem FC{Q:α->À->Prop}{e:Z}{oe:Obj}{ve:Array O}(hs:SfN A s.heap [e])(he:s.heap.get? e=U oe)(de:oe.data=.fields ve)(hz:2<ve.size)
  (hE:∀ h' o',(∀ b o,b≠e->s.heap.get? b=U o->h'.get? b=U o)->h'.get? e=U o'->o'.cls=oe.cls->E (.ref e) { s with heap:=h' }):Ç (Ê prog w) A (raiseNew (.ref e)) Q E s:=by
 cases hh:A.handled with
 | none=>exact wpAny_raiseNew_none hh (hE s.heap oe (λ _ _ _ q=>q) he J)
 | some a=>
 let(h,oh,rfl,a3,(vh,cx,dh,n2,a5),ne):=hs a hh;simp only[raiseNew];refine My (wpAny_handled ?_);rw[hh];let nb:((Ë h != Ë e)=L):=by simp;simpa using ne
 show Ç _ _ (if (Ë h != Ë e)=L then _ else _) _ _ _
 rw[if_pos nb];refine wpAny_bind (wpAny_holding (wpAny_runValue (codeAny_builtin fR ?_)));unfold Builtin.«proto.unchain»
 let fin:∀ (s':À),s'=s->Ç (Ê prog w) A (setField (.ref e) 2 (.ref h) >>= λ _=>throw (.ref e)) Q E s':=λ s' z=>by
  subst z;refine My (VJ he de hz (wpAny_throw ?_));exact hE _ _ (λ b o q r=>((VB ..).2 b q).trans r) (Vk _ he (VH (VR de _))) (Obj.cls_mapFields ..)
 refine My (Vm a3 dh n2 ?_)
 rcases a5 with rfl|⟨c,oc,rfl,a4,⟨vc,dc,c2⟩,nc⟩
 ·rw[Ve (by decide)];exact U3 (fin _ J)
 ·let n1:((Ë c == É)=Â):=by simp
  let n3:((Ë c == Ë e)=Â):=by simp;simpa using nc
  let n4:((Ë c == Ë h)=Â):=by
   simp;rintro rfl;rw[a4] at a3;cases a3;rw[dc] at dh;cases dh;rw[c2] at n2;cases n2
  rw[if_neg (by rw[n1];decide),if_neg (by rw[n3];decide),if_neg (by rw[n4];decide)];rw[if_neg (by decide)];refine wpAny_bind (wpAny_pure ?_);refine wpAny_pure {Code.quiet_builtin _ (by decide +kernel),?_};refine codeAny_builtin fR ?_;unfold Builtin.«proto.unchain»;refine wpAny_bind (wpAny_field a4 dc c2 ?_);rw[if_pos (by decide)];exact wpAny_pure (fin _ J)
theorem mf{Q:α->À->Prop}(hs:SfN A s.heap [])
  (hE:∀ h' e,(∀ b o,s.heap.get? b=U o->h'.get? b=U o)->(∃ o,h'.get? e=U o/\o.cls=.type "StopIteration")->E (.ref e) { s with heap:=h' }):Ç (Ê prog w) A (newExc (.type "StopIteration") [] >>= λ e=>raiseNew e) Q E s:=by
 refine My ?_;simp only[newExc,newTuple];refine My (Wi ?_ (by size_fits));refine My (m:=firstArgMember _ _) (wpAny_of_eq (a:=É) (by first|rfl|(simp only[firstArgMember];rfl)) ?_);refine Wi ?_ (by size_fits)
 let hz:2<(#[Ë %[s|99],É,É,É,Value.bool Â,É]++ownMembersOf (Ø "StopIteration") []).size:=by
  rw[Array.size_append];show 2<6+_;omega
 let ne:∀ b o,s.heap.get? b=U o->b≠(s.heap.push { cls:=Ø "tuple",data:=Data.seq #[] }).objs.size:=λ b o q z=>by
  let hb:=U5 q;rw[z,VX] at hb;exact Þ hb (Nat.not_lt.mpr (Xe _))
 refine FC (hs.fresh (λ b o q=>U0 _ (U0 _ q)) λ b o q z=>ne b o q (Vh.mp z)) (Vc _ J) J hz λ h' o' k a3 a4=>hE h' _ (λ b o q=>k b o (ne b o q) (U0 _ (U0 _ q))) {(o'),a3,a4}
theorem eO{l:Z}{items}{Q:Ü O->À->Prop}(hs:SfN A s.heap [it])
  (hit:s.heap.IsListIter it l i) (hl:s.heap.IsList l items) (hx:items[i]? = Y)
  (hQ:∀ h',Heap.ExtBut it s.heap h'->Q Y { s with heap:=h' }):Ç (Ê prog w) A (pyNext (.ref it)) Q E s:=by
 let(o,ho,hc,hd):=id hit;let(ol,a3,_,nl,a4):=hl;unfold pyNext
 refine My (WL (VG (name:=Ô "__next__") hit.typeIs XE
  (V9 XE hit.typeIs entry_listiter_next ?_ (args_listiter_next _))))
 show Ç _ _ (field (.ref it) 0 >>= _) _ _ s
 refine My (Vm ho hd (x:=.ref l) J ?_)
 show Ç _ _ (if (Ë l == É)=L then _ else _) _ _ s
 rw[U7 (show ¬ ((Ë l == É)=L) from U9)]
 show Ç _ _ (field (.ref it) 1 >>= _) _ _ s
 refine My (Vm ho hd (x:=.int i 0) J ?_)
 show Ç _ _ (seqItems? (.ref l) >>= _) _ _ s
 refine My (V8 a3 a4 ?_);simp only[VC,hx];refine My (Xb (My (VJ ho hd (by simp) ?_)));let sb:=VB s.heap it (Obj.mapFields (·.setIfInBounds 0 É))
 show Ç _ _ (newExc (.type "StopIteration") [] >>= _) _ _ _
 refine mf (hs.ext (λ b o n q=>(sb.2 b (by simpa using n)).trans q) λ _ z=>nomatch z) λ h' e kp a5=>?_;refine My (Xh (T := "StopIteration") (b:=L) a5 Yp ?_);exact U3 (hQ _ λ b o hb q=>kp b o ((sb.2 b hb).trans q))
theorem eo{l:Z}{items}{Q:Ü O->À->Prop}(hs:SfN A s.heap [it])
  (hit:s.heap.IsTupleIter it l i) (hl:s.heap.IsTuple l items) (hx:items[i]? = Y)
  (hQ:∀ h',Heap.ExtBut it s.heap h'->Q Y { s with heap:=h' }):Ç (Ê prog w) A (pyNext (.ref it)) Q E s:=by
 let(o,ho,hc,hd):=id hit;let(ol,a3,_,nl,a4):=hl;unfold pyNext
 refine My (WL (VG (name:=Ô "__next__") hit.typeIs Wb
  (V9 Wb hit.typeIs Xy ?_ (Xo _))))
 show Ç _ _ (field (.ref it) 0 >>= _) _ _ s
 refine My (Vm ho hd (x:=.ref l) J ?_)
 show Ç _ _ (if (Ë l == É)=L then _ else _) _ _ s
 rw[U7 (show ¬ ((Ë l == É)=L) from U9)]
 show Ç _ _ (field (.ref it) 1 >>= _) _ _ s
 refine My (Vm ho hd (x:=.int i 0) J ?_)
 show Ç _ _ (seqItems? (.ref l) >>= _) _ _ s
 refine My (V8 a3 a4 ?_);simp only[VC,hx];refine My (Xb (My (VJ ho hd (by simp) ?_)));let sb:=VB s.heap it (Obj.mapFields (·.setIfInBounds 0 É))
 show Ç _ _ (newExc (.type "StopIteration") [] >>= _) _ _ _
 refine mf (hs.ext (λ b o n q=>(sb.2 b (by simpa using n)).trans q) λ _ z=>nomatch z) λ h' e kp a5=>?_;refine My (Xh (T := "StopIteration") (b:=L) a5 Yp ?_);exact U3 (hQ _ λ b o hb q=>kp b o ((sb.2 b hb).trans q))
theorem i6{x left step:B}{Q:Ü O->À->Prop}(hs:SfN A s.heap [])(hit:IsRangeIter s.heap it x left step)(a3:left<=0)
  (hQ:∀ h',Heap.ExtBut it s.heap h'->Q Y { s with heap:=h' }):Ç (Ê prog w) A (pyNext (.ref it)) Q E s:=by
 let hT:s.TypeIs (.ref it) "range_iterator":={_,hit,J};unfold pyNext
 refine My (WL (VG (name:=Ô "__next__") hT F.slot_range_iterator_next
  (V9 F.slot_range_iterator_next hT F.entry_range_iterator_next ?_ (F.args_range_iterator_next_1 _))))
 show Ç _ _ (field (.ref it) 0 >>= _) _ _ s
 refine My (Vm hit J (x:=rawInt x) J ?_)
 show Ç _ _ (field (.ref it) 1 >>= _) _ _ s
 refine My (Vm hit J (x:=rawInt left) J ?_)
 show Ç _ _ (field (.ref it) 2 >>= _) _ _ s
 refine My (Vm hit J (x:=rawInt step) J ?_)
 show Ç _ _ (if left<=0 then _ else _) _ _ s
 rw[Ve a3];refine My (Xb ?_);refine My ?_
 show Ç _ _ (newExc (.type "StopIteration") [] >>= _) _ _ _
 refine mf hs λ h' e kp a4=>?_;refine My (Xh (T := "StopIteration") (b:=L) a4 Yp ?_);exact U3 (hQ _ λ b o _ q=>kp b o q)
end
section
variable {prog:Ì}
theorem rh{env:Env}{elts:G Ñ}{x1}{t:Z}{items:Array O}(hs:SfN A s.heap [])(ht:IsTup s.heap t items)
  (hn:(assignEach elts env).length=items.size) (a3:(assignEach elts env).findIdx? (·.1)=Y)
  (h:∀ h':Ð,Heap.ExtBut %[s|99] s.heap h'->Ç (Ê prog w) A (assignInOrder ((assignEach elts env).map (·.2)) items.toList) Q E { s with heap:=h' }) :
  Ç (Ê prog w) A (assign (.Tuple elts x1 pos) env (.ref t)) Q E s:=by
 let a5:t≠%[s|99]:=by let(o,ho,_):=ht;exact Vl (U5 ho)
 rw[assign_Tuple];refine wpAny_bind (wpAny_standAt ?_);unfold unpack;rw[hn,a3];refine wpAny_bind (wpAny_holding ?_);unfold unpackItems;refine wpAny_bind ?_;unfold notIterableAtAll;refine wpAny_bind (wpAny_specialOf ht.typeIs slot_tuple_iter.lookup ?_);refine wpAny_pure ?_;simp only[Bool.false_eq_true,if_false];refine wpAny_bind (wpAny_holding (iter_tuple ht ?_));refine wpAny_bind (wpAny_holding (draw_tuple a5 items.size 0 _ _ ⟨_,Heap.get?_push_size _ J,J,J⟩ (ht.push _) (by omega) λ h₁ a6 a4=>?_))
 let hall:List.take items.size (List.drop 0 items.toList)=items.toList:=by
  rw[List.drop_zero];exact Ww (by simp)
 rw[hall];rw[U7 (by simp)];let a7:IsTup h₁ t items:=(ht.push _).extBut a4.extBut a5;refine My (Vy (eo (hs.fresh (λ b o q=>a4.extBut _ _ (Vl (U5 q)) (U0 _ q)) λ b o q z=>Vl (U5 q) (Vh.mp z)) a6 (show h₁.IsTuple t items from a7) (by simp) λ h₂ a8=>?_));simp only[Option.isSome_none,Xn,XA];exact U3 (h h₂ λ b o hb e=>a8 b o hb (a4.extBut b o hb (U0 _ e)))
end
section
variable {X:Cx}{pos:Pos}
def gh(i:à):TG:=λ v σ H Q=>Q (σ.set i (U v)) H
theorem Br{i:à}{x:Ã}(hN:X.N.Nodup)(hi:X.N[i]? = U x)(hx:Loc X.env.scope x)(hf:X.fn x=L\/X.env.scope.names.lookup x=U .local:=by first|exact .inl rfl|exact .inr rfl|assumption):PG X (.Name x pos) (gh i):=by
 intro pins s σ H v u Q I r h;exact wpAny_assign_Name (lF I hN hi hx r (λ s' I'=>{_,H,I',h}) hf)
def T5:TGs:=λ vs σ H Q=>vs=[]/\Q σ H
def N4(t:TG)(u:TGs):TGs:=λ vs σ H Q=>∃ v r,vs=v::r/\t v σ H λ σ' H'=>u r σ' H' Q
theorem KH:PGs X [] T5:=by
 intro pins s σ H vs us Q I r h;let(e,h):=h;subst e;cases r;exact assignInOrder_nil {(σ),H,I,h}
theorem FL{es:G Ñ}{t:TG}{u:TGs}(h1:PG X e t)(h2:PGs X es u)
  (hs:(assignEach (e::es) X.env).map (·.2)=assign e X.env::(assignEach es X.env).map (·.2):=by rfl):PGs X (e::es) (N4 t u):=by
 intro pins s σ H vs us Q I r h;let(v,vr,e1,h):=h;subst e1
 cases r with
 | cons r rr=>
  rw[hs];refine assignInOrder_cons (thn (h1 pins s σ H _ _ _ I r h) λ _ s1 ⟨σ1,H1,I1,q1⟩=>?_);exact h2 pins s1 σ1 H1 _ _ Q I1 rr q1
def T3(K:Å)(n:à)(t:TGs):TG:=λ v σ H Q=>∃ a xs,v=.ref a/\SqT K H a xs/\xs.length=n/\t xs σ H Q
theorem OB{es:G Ñ}{k:à}{t:TGs}{n:à}(h:PGs X es t)
  (hn:(assignEach es X.env).length=n:=by rfl) (a3:(assignEach es X.env).findIdx? (·.1)=Y:=by rfl):PG X (.Tuple es k pos) (T3 X.K n t):=by
 intro pins s σ H v u Q I r hw;let(a,xs,e1,hq,hl,hw):=hw;subst e1;cases r;let(its,rv,ht,hz):=I.tuple hq;refine rh (I.sfn [] λ _ z=>nomatch z) ht (by simp[hn,←hl,rv.length]) a3 λ h' hx=>?_;let I1:Inv X pins σ H { s with heap:=h' }:=I.kept (t':=s.toks) λ b o e=>hx b o (Vl (U5 e)) e;exact h pins _ σ H xs _ Q I1 (by simpa using rv) hw
def T4(to ti:TE)(t:Ir):TG:=λ v σ H Q=>to σ H λ o H1=>ti σ H1 λ i H2=>t o i v H2 λ H3=>Q σ H3
theorem IP{o i:Ñ}{to ti:TE}{t:Ir}(ho:PE X o to)(hi:PE X i ti)(hs:T8 X t)
  (ha:∀ v,assign (.Subscript o i pos) X.env v=(do
   let ov ←holding [v] (eval o X.env)
   let iv ←holding [v,ov] (eval i X.env)
   standAt pos
   holding [v,ov,iv] (setItem ov iv v)
   release [v,ov,iv] []):=by intro _;rfl):PG X (.Subscript o i pos) (T4 to ti t):=by
 intro pins s σ H v u Q I r h;rw[ha];refine My (Vy (thn (ho pins s σ H _ I h) λ ov s1 ⟨x,H1,I1,r1,q1⟩=>?_));refine My (Vy (thn (hi pins s1 σ H1 _ I1 q1) λ iv s2 ⟨y,H2,I2,r2,q2⟩=>?_));refine My (Wg (My (Vy (thn (hs pins s2 σ H2 x y v ov iv u _ I2 r1 r2 r q2) λ _ s3 ⟨H3,I3,q3⟩=>?_))));exact wpAny_release {(σ),H3,I3,q3}
def Rf(te:TE)(g:TG):TS:=λ D σ H=>te σ H λ x H1=>g x σ H1 D.nx
theorem om{te:TE}{g:TG}(he:PE X e te)(hg:PG X tg g)(hs:swapsWithSole [tg] e pos.line X.env=pure Â:=by rfl)(hw:swappedStores [tg] e X.env=pure Y:=by rfl)
  (h1:(assignEach [tg] X.env).map (·.2)=[assign tg X.env]:=by rfl):PS X (.Assign [tg] e pos) (Rf te g):=by
 intro pins s σ H D I h;refine wpAny_Assign_stores (thn (he pins s σ H _ I h) λ v s1 ⟨x,H1,I1,r1,q1⟩=>?_) hs hw;rw[h1];exact thn (hg pins s1 σ H1 x v _ I1 r1 q1) λ _ s2 q=>q
theorem l0{i:à}{x:Ã}{e:Ñ}{te:TE}{pos':Pos}(hN:X.N.Nodup)(hi:X.N[i]? = U x)(hx:Loc X.env.scope x)(he:PE X e te)(hs:swapsWith e (U (.Name x pos')) pos.line X.env=pure Â:=by rfl)(hf:X.fn x=L\/X.env.scope.names.lookup x=U .local:=by first|exact .inl rfl|exact .inr rfl|assumption) :
  PS X (.Assign [.Name x pos'] e pos) (Rf te (gh i)):=by
 intro pins s σ H D I h;refine wpAny_Assign_Name (thn (he pins s σ H _ I h) λ v s1 ⟨y,H1,I1,r1,q1⟩=>?_) hs;exact lF I1 hN hi hx r1 (λ s2 I2=>{_,H1,I2,q1}) hf
end
structure It where
 go:à->Hp->Prop
 yld:à->Hp->V->Hp->Prop
 stop:à->Hp->Prop
def yc(X:Cx)(pins:G (Z × Obj))(H:Hp)(b:Z):Prop:=
 H b=Y/\b≠X.env.locals/\b ∉ X.fs/\(b∈X.ex\/X.s₀.heap.objs.size<=b)/\(∀ x c,X.env.cells.lookup x=U c->c≠b)/\∀ p∈X.pn++pins,p.1≠b
theorem Inv.fpOk{H':Hp}(I:Inv X pins σ H s)(hb:%[s|99]<=b)(hn:H' b=Y):yc X pins H' b:=by
 refine{hn,WR (Vg I.lt hb),I.nofs hb,.inr (Vv I.sz hb),λ x c e z=>?_,λ p hp z=>?_}
 ·let(v,q):=I.cell x c e;exact Þ (Vg q.lt (by rw[z];exact hb)) (V5 _)
 ·exact Þ (Vg (U5 (I.pin p hp).1) (by rw[z];exact hb)) (V5 _)
structure Turn(P:Ì)(w:Ï)(K:Å)(A:Î)(tg:Ñ)(wn:It)(fp:G Z)(it:Z)(tn:à->Ð->Prop):Prop where
 mem:it∈fp
 obj:∀ i h,tn i h->∀ b∈fp,∃ o,h.get? b=U o/\∀ v,o.data ≠ .cell v
 keep:∀ i h h',tn i h->(∀ b∈fp,∀ o,h.get? b=U o->h'.get? b=U o)->tn i h'
 item:∀ (X:Cx),X.prog=P->X.w=w->X.K=K->X.A=A->∀ (i:à) (pins:G (Z × Obj)) (s:À) (σ:St) (H:Hp) (E:O->À->Prop),Inv X pins σ H s->(∀ b∈fp,yc X pins H b)->tn i s.heap->wn.go i H →
  Ç (Ê P w) X.A (pyNext (.ref it)) (λ r s1=>∃ u,r=U u /\
   Ç (Ê P w) X.A (letOwnedTupleGo tg (.ref it) u) (λ _ s2=>∃ x H',Inv X pins σ H' s2/\bI x u/\wn.yld i H x H'/\tn (i+1) s2.heap/\∀ b∈fp,H' b=Y) E s1) E s
 done:∀ (X:Cx),X.prog=P->X.w=w->X.K=K->X.A=A->∀ (i:à) (pins:G (Z × Obj)) (s:À) (σ:St) (H:Hp) (E:O->À->Prop),Inv X pins σ H s->(∀ b∈fp,yc X pins H b)->tn i s.heap->wn.stop i H →
  Ç (Ê P w) X.A (pyNext (.ref it)) (λ r s1=>r=Y/\Inv X pins σ H s1) E s
 self:∀ (A:Î) (i:à) (s:À) (Q:O->À->Prop) (E:O->À->Prop),tn i s.heap->Q (.ref it) s->Ç (Ê P w) A (pyIter (.ref it)) Q E s
abbrev TI:=St->Hp->(It->Hp->Prop)->Prop
def PIE(X:Cx)(pins:G (Z × Obj))(σ:St)(tg:Ñ)(R:It->Hp->Prop)(a3:O)(s2:À):Prop:=
 ∃ (it:Z) (fp:G Z) (tn:à->Ð->Prop) (wn:It) (H':Hp),a3=.ref it/\Inv X pins σ H' s2/\Turn X.prog X.w X.K X.A tg wn fp it tn/\tn 0 s2.heap/\(∀ b∈fp,yc X pins H' b)/\R wn H'
def PI(X:Cx)(tg iter:Ñ)(wi:TI):Prop:=
 ∀ (pins:G (Z × Obj)) (s:À) (σ:St) (H:Hp) (R:It->Hp->Prop),Inv X pins σ H s->wi σ H R →
  Ç (Ê X.prog X.w) X.A (eval iter X.env) (λ v s1=>Ç (Ê X.prog X.w) X.A (pyIter v) (PIE X pins σ tg R) X.xe s1) X.xe s
theorem E6{n:String}{vs:Array O}(ho:s.heap.get? it=U o)(hc:o.cls=.type n)(hd:o.data=.fields vs)
    (hn:["enumerate", "zip", "dict_itemiterator", "dict_reverseitemiterator", "odict_iterator", "itertools.zip_longest", "itertools.pairwise"].contains n=Â) (hQ:Q () s):Ç M A (letOwnedTupleGo tg (.ref it) u) Q E s:=by
  unfold letOwnedTupleGo
  cases tg<;>first
    | exact U3 hQ
    | (cases u<;>first
        | exact U3 hQ
        | (refine My (wpAny_load ho ?_)
           rw[hc,hd]
           show Ç M A (if (["enumerate", "zip", "dict_itemiterator", "dict_reverseitemiterator", "odict_iterator", "itertools.zip_longest", "itertools.pairwise"].contains n && vs[0]? == U (rawInt _))=L then _ else _) Q E s
           rw[U7 (by intro h;rw[hn,Xp] at h;cases h)];exact U3 hQ))
def Itl(K:Å)(a:Z):It:=
 ⟨λ i H=>∃ xs x,SqL K H a xs/\xs[i]? = U x,λ i H x H'=>H'=H/\∀ xs,SqL K H a xs->xs[i]? = U x,λ i H=>∃ xs,SqL K H a xs/\xs.length<=i⟩
def Itt(K:Å)(a:Z):It:=
 ⟨λ i H=>∃ xs x,SqT K H a xs/\xs[i]? = U x,λ i H x H'=>H'=H/\∀ xs,SqT K H a xs->xs[i]? = U x,λ i H=>∃ xs,SqT K H a xs/\xs.length<=i⟩
def Itr(lo:B)(n:à):It:={λ i _=>i<n,λ i H x H'=>H'=H/\x=.int (lo+i),λ i _=>n<=i}
theorem B7(a it:Z):Turn P w K A tg (Itl K a) [it] it (λ i h=>h.IsListIter it a i) where
 mem:=by simp
 obj:=λ i h st b hb=>by
  let e:b=it:=by simpa using hb
  subst e;let(o,e,c,d):=st;exact{o,e,λ v z=>by rw[d] at z;cases z}
 keep:=λ i h h' st k=>st.at λ o e=>k it (by simp) o e
 item:=by
  intro X hP hw hK hc i pins s σ H E I hf st hg;subst hP hw hK;let(xs,x,hq,hx):=hg;let(its,rv,p,hz):=I.list hq;let(u,hu,ru):=rv.get hx;let(f0,f1,f2,f3,f4,f5):=hf it (by simp);refine wpAny_pyNext_list_item st p.isList (x:=u) (by simpa using hu) λ h' a3 sb=>?_;let I1:Inv X pins σ H { s with heap:=h' }:=I.turned (t':=s.toks) (λ b o hb e=>(sb.2 b hb).trans e) f0 f1 f3 f4 f5;let(o,e,c,d):=id a3;exact{u,J,E6 (s:={ s with heap:=h' }) e c d (by decide) {x,H,I1,ru,{J,λ ys hy=>by rw[I.list_inj hy hq];exact hx},a3,λ b hb=>(hf b hb).1}}
 done:=by
  intro X hP hw hK hc i pins s σ H E I hf st hg;subst hP hw hK;let(xs,hq,hx):=hg;let(its,rv,p,hz):=I.list hq;let(f0,f1,f2,f3,f4,f5):=hf it (by simp);let hl:=rv.length;exact eO (I.sfn [it] λ b hb=>by rw[Vh.mp hb];exact f0) st p.isList (by simp;omega) λ h' eb=>{J,I.turned (t':=s.toks) (λ b o hb e=>eb b o hb e) f0 f1 f3 f4 f5}
 self:=λ _ _ _ _ _ st h=>wpAny_pyIter_listiter st h
theorem yn(a it:Z):Turn P w K A tg (Itt K a) [it] it (λ i h=>h.IsTupleIter it a i) where
 mem:=by simp
 obj:=λ i h st b hb=>by
  let e:b=it:=by simpa using hb
  subst e;let(o,e,c,d):=st;exact{o,e,λ v z=>by rw[d] at z;cases z}
 keep:=λ i h h' st k=>st.at λ o e=>k it (by simp) o e
 item:=by
  intro X hP hw hK hc i pins s σ H E I hf st hg;subst hP hw hK;let(xs,x,hq,hx):=hg;let(its,rv,p,hz):=I.tuple hq;let(u,hu,ru):=rv.get hx;let(f0,f1,f2,f3,f4,f5):=hf it (by simp);refine wpAny_pyNext_tuple_item st (show s.heap.IsTuple a its.toArray from p) (x:=u) (by simpa using hu) λ h' a3 sb=>?_;let I1:Inv X pins σ H { s with heap:=h' }:=I.turned (t':=s.toks) (λ b o hb e=>(sb.2 b hb).trans e) f0 f1 f3 f4 f5;let(o,e,c,d):=id a3;exact{u,J,E6 (s:={ s with heap:=h' }) e c d (by decide) {x,H,I1,ru,{J,λ ys hy=>by rw[I.tuple_inj hy hq];exact hx},a3,λ b hb=>(hf b hb).1}}
 done:=by
  intro X hP hw hK hc i pins s σ H E I hf st hg;subst hP hw hK;let(xs,hq,hx):=hg;let(its,rv,p,hz):=I.tuple hq;let(f0,f1,f2,f3,f4,f5):=hf it (by simp);let hl:=rv.length;exact eo (I.sfn [it] λ b hb=>by rw[Vh.mp hb];exact f0) st (show s.heap.IsTuple a its.toArray from p) (by simp;omega) λ h' eb=>{J,I.turned (t':=s.toks) (λ b o hb e=>eb b o hb e) f0 f1 f3 f4 f5}
 self:=λ _ _ _ _ _ st h=>wpAny_pyIter_tupleiter st h
theorem yp(it:Z)(lo:B)(n:à):Turn P w K A tg (Itr lo n) [it] it (λ i h=>IsRangeIter h it (lo+(i:à) * 1) ((n:B) - (i:à)) 1) where
 mem:=by simp
 obj:=λ i h st b hb=>by
  let e:b=it:=by simpa using hb
  subst e
  exact{_,st,λ v z=>by
   let z':Data.fields _=Data.cell v:=z;cases z'}
 keep:=λ i h h' st k=>k it (by simp) _ st
 item:=by
  intro X hP hw hK hc i pins s σ H E I hf st hg;subst hP hw hK;let(f0,f1,f2,f3,f4,f5):=hf it (by simp);let a5:i<n:=hg;refine wpAny_pyNext_range_item st (by omega) λ h' a3 sb=>?_;let I1:Inv X pins σ H { s with heap:=h',toks:=s.toks+1 }:=I.turned (λ b o hb e=>(sb.2 b hb).trans e) f0 f1 f3 f4 f5
  let a4:IsRangeIter h' it (lo+((i+1:à):B) * 1) ((n:B) - ((i+1:à):B)) 1:=by
   rw[show lo+((i+1:à):B) * 1=lo+(i:à) * 1+1 by omega,show (n:B) - ((i+1:à):B)=(n:B) - (i:à) - 1 by omega];exact a3
  refine{_,J,E6 (s:={ s with heap:=h',toks:=s.toks+1 }) (n := "range_iterator") a3 J J (by decide) {.int (lo+i),H,I1,{s.toks,?_},{(J),J},a4,λ b hb=>(hf b hb).1}};rw[Int.mul_one]
 done:=by
  intro X hP hw hK hc i pins s σ H E I hf st hg;subst hP hw hK;let(f0,f1,f2,f3,f4,f5):=hf it (by simp);exact i6 (I.sfn [] λ _ z=>nomatch z) st (by have:n<=i:=hg;omega) λ h' eb=>{J,I.turned (t':=s.toks) (λ b o hb e=>eb b o hb e) f0 f1 f3 f4 f5}
 self:=λ _ _ _ _ _ st h=>wpAny_pyIter_rangeiter st h
theorem FA{R:It->Hp->Prop}{lo hi:B}{t u v:Tok}{tk:à}(I:Inv X pins σ H s)(h1:-(2 ^ 62)<=lo)(h2:lo<2 ^ 62)(h3:-(2 ^ 62)<=hi)(h4:hi<2 ^ 62)
  (q:R (Itr lo (hi - lo).toNat) H):Ç (Ê X.prog X.w) X.A (pyIter (.ref %[s|99])) (PIE X pins σ tg R) E { s with heap:=s.heap.push { cls:=.type "range",data:=.fields #[.int lo t,.int hi u,.int 1 v] },toks:=tk }:=by
 refine wpAny_pyIter_range (IsRange.new ..) (small_one h1 h2 h3 h4) ?_;let I1:Inv X pins σ H { s with heap:=s.heap.push { cls:=.type "range",data:=.fields #[.int lo t,.int hi u,.int 1 v] },toks:=tk }:=I.kept λ b o e=>U0 _ e
 refine⟨(s.heap.push { cls:=.type "range",data:=.fields #[.int lo t,.int hi u,.int 1 v] }).objs.size,[(s.heap.push { cls:=.type "range",data:=.fields #[.int lo t,.int hi u,.int 1 v] }).objs.size],_,_,H,J,
  I1.kept (t':=tk) λ b o e=>U0 _ e,yp _ lo (hi - lo).toNat,?_,λ b hb=>?_,q⟩
 ·let e1:lo+((0:à):B) * 1=lo:=by simp
  let e2:(((hi - lo).toNat:à):B) - ((0:à):B)=Builtin.Range.rangeSize lo hi 1:=by rw[rangeSize_one];split<;>omega
  show IsRangeIter _ _ (lo+((0:à):B) * 1) ((((hi - lo).toNat:à):B) - ((0:à):B)) 1
  rw[e1,e2];exact Vc _ J
 ·let e:b=(s.heap.push { cls:=.type "range",data:=.fields #[.int lo t,.int hi u,.int 1 v] }).objs.size:=by simpa using hb
  subst e;exact I1.fpOk (U6 _) (I1.hok.fresh (U6 _))
def NZ(ta:TA):TI:=λ σ H R=>ta σ H λ vs H1=>∃ j:B,vs=[.int j]/\-(2 ^ 62)<=j/\j<2 ^ 62/\R (Itr 0 j.toNat) H1
theorem Cg{a:Ñ}{ta:TA}{p:Pos}(hg:Gl X "range")(hm:X.mg "range"=Y)(ha:PA X [a] ta)(hs:starEach [a] X.env=[(Â,eval a X.env)]:=by rfl):PI X tg (.Call (.Name "range" p) [a] [] pos) (NZ ta):=by
 intro pins s σ H R I h;refine Call_ (jl I hg hm boot_range (V4 (thn (ha pos pins s σ H _ I h) λ us s1 ⟨vs,H1,I1,r1,q1⟩=>?_) hs J));let(j,e,q1,q2,q):=q1;subst e
 cases r1 with
 | cons r rr=>
  cases rr;let(t,rfl):=r;exact call_range_1 (FA I1 (by omega) (by omega) q1 q2 (by simpa using q))
def Tf(wi:TI)(g:TG)(tb:TS):TS:=λ D σ H=>wi σ H λ wn H1=>∃ W:à->à->St->Hp->Prop,(∃ m,W 0 m σ H1)/\∀ i m σ H,W i m σ H →
 (wn.stop i H/\D.nx σ H)\/(wn.go i H/\∃ N:St->Hp->Prop,(∀ σ' H',N σ' H'->∃ m',m' < m/\W (i+1) m' σ' H')/\∀ x H',wn.yld i H x H'->g x σ H' λ σ2 H2=>tb { D with nx:=N,ct:=N,bk:=D.nx } σ2 H2)
def rD(fp:G Z)(h:Ð):G (Z × Obj):=fp.filterMap λ b=>(h.get? b).map λ o=>(b,o)
theorem ib(hb:b∈fp)(e:h.get? b=U o):(b,o)∈rD fp h:=List.mem_filterMap.mpr {b,hb,by rw[e];rfl}
theorem Cq{p:Z × Obj}(hp:p∈rD fp h):p.1∈fp/\h.get? p.1=U p.2:=by
 let(b,hb,e):=List.mem_filterMap.mp hp
 cases q:h.get? b with
 | none=>rw[q] at e;cases e
 | some o=>
  rw[q] at e;let e':(b,o)=p:=VL e;subst e';exact{(hb),q}
theorem Inv.pinned(I:Inv X pins σ H s)(hf:∀ b∈fp,yc X pins H b)(ho:∀ b∈fp,∃ o,s.heap.get? b=U o/\∀ v,o.data ≠ .cell v):Inv X (pins++rD fp s.heap) σ H s:=
 I.pins_of λ p hp=>(VI.mp hp).elim (λ z=>I.pin p (VF _ z)) λ z=>by
  let(hb,e):=Cq z;let(f0,f1,f2,_):=hf p.1 hb;let(o,e',d):=ho p.1 hb;rw[e] at e';cases e';exact{(e),f0,f1,f2,d}
theorem Inv.unpinned{pl:G (Z × Obj)}(I:Inv X (pins++pl) σ H s):Inv X pins σ H s:=I.pins_of λ p hp=>I.pin p (VF _ (Wu _ hp))
theorem Oy{iter:Ñ}{body:G Stmt}{wi:TI}{g:TG}(hp:PassesOwn (Ê X.prog X.w) X.A X.env X.xe)(hi:PI X tg iter wi)(hg:PG X tg g)(hb:PSs X body tb)
  (hs:∀ x,foldedSetIterable iter X.env x=pure x:=by intro _;rfl):PS X (.For tg iter body [] pos) (Tf wi g tb):=by
 intro pins s σ H D I h;refine wpAny_For (thn (hi pins s σ H _ I h) λ v s1 h1=>thn h1 λ b1 s2 h2=>?_) hs;let(it,fp,tn,wn,H2,e,I2,T,a7,f2,W,(m0,w0),turn):=h2;subst e;let a3:∀ {H':Hp},(∀ b∈fp,H' b=Y)->∀ b∈fp,yc X pins H' b:=λ hn b hb=>{hn b hb,(f2 b hb).2};refine codeAny_forLoop_any (λ n s'=>∃ i σ' H',Inv X pins σ' H' s'/\tn i s'.heap/\(∀ b∈fp,H' b=Y)/\W i n σ' H') ?_ m0 {0,σ,H2,I2,a7,λ b hb=>(f2 b hb).1,w0};rintro n s3 ⟨i,σ3,H3,I3,a5,a6,w3⟩
 rcases turn i n σ3 H3 w3 with ⟨stop,qn⟩|⟨go,N,hN,step⟩
 ·refine Xr hp (thn (T.done X J J J J i pins s3 σ3 H3 X.xe I3 (a3 a6) a5 stop) λ r s4 ⟨hr,I4⟩=>?_);subst hr;exact X7 {(σ3),H3,I4,qn}
 ·refine Xr hp (thn (T.item X J J J J i pins s3 σ3 H3 X.xe I3 (a3 a6) a5 go) λ r s4 ⟨u,hr,h4⟩=>?_);subst hr;refine Xr hp (thn h4 λ _ s5 ⟨x,H5,I5,r5,y5,a4,a8⟩=>?_);let a9:=I5.pinned (a3 a8) (T.obj _ _ a4);refine Xr hp (thn (hg _ s5 σ3 H5 x u _ a9 r5 (step x H5 y5)) λ _ s6 ⟨σ6,H6,I6,q6⟩=>?_);refine Xr hp (thn (hb _ s6 σ6 H6 _ I6 q6) λ f s7 q7=>?_)
  let again:∀ {σ7:St} {H7:Hp},Inv X (pins++rD fp s5.heap) σ7 H7 s7->N σ7 H7->∃ m,m<n/\∃ i σ' H',Inv X pins σ' H' s7/\tn i s7.heap/\(∀ b∈fp,H' b=Y)/\W i m σ' H':=λ {σ7 H7} I7 n7=>by
   let(m',hm,w7):=hN σ7 H7 n7;refine{m',hm,i+1,σ7,H7,I7.unpinned,T.keep _ _ _ a4 λ b hb o e=>(I7.pin (b,o) (VF _ (VF _ (ib hb e)))).1,λ b hb=>?_,w7};let(o,e,d):=T.obj _ _ a4 b hb;exact(I7.pin (b,o) (VF _ (VF _ (ib hb e)))).2.1
  cases f with
  | next=>let(σ7,H7,I7,n7):=q7;exact again I7 n7
  | cont=>let(σ7,H7,I7,n7):=q7;exact again I7 n7
  | brk=>let(σ7,H7,I7,q7):=q7;exact{(σ7),H7,I7.unpinned,q7}
  | ret v=>let(x7,σ7,H7,I7,r7,q7):=q7;exact{(x7),σ7,H7,I7.unpinned,r7,q7}
theorem Hw{K:PySem.W.Frag}{xs:G V}{g:TG}{D:gX}(Pv:à->St->Hp->Prop)(h0:Pv 0 σ H)(hl:∀ i σ H,i<=xs.length->Pv i σ H->SqL K H a xs)
  (hs:∀ i x σ H,xs[i]? = U x->Pv i σ H->g x σ H λ σ2 H2=>tb { D with nx:=Pv (i+1),ct:=Pv (i+1),bk:=D.nx } σ2 H2) (hd:∀ σ H,Pv xs.length σ H->D.nx σ H) :
  ∃ W:à->à->St->Hp->Prop,(∃ m,W 0 m σ H)/\∀ i m σ H,W i m σ H →
   ((Itl K a).stop i H/\D.nx σ H)\/((Itl K a).go i H/\∃ N:St->Hp->Prop,(∀ σ' H',N σ' H'->∃ m',m' < m/\W (i+1) m' σ' H')/\∀ x H',(Itl K a).yld i H x H'->g x σ H' λ σ2 H2=>tb { D with nx:=N,ct:=N,bk:=D.nx } σ2 H2):=by
 refine{λ i m σ H=>m=xs.length - i/\i<=xs.length/\Pv i σ H,{xs.length,by simp,VM _,h0},?_};rintro i m σ H ⟨rfl,hi,p⟩;let q:=hl i σ H hi p
 by_cases hlt:i<xs.length
 ·refine .inr {⟨xs,xs[i],q,by simp[hlt]⟩,Pv (i+1),λ σ' H' p'=>{xs.length - (i+1),by omega,J,hlt,p'},λ x H' y=>?_};let(e,y):=y;subst e;exact hs i x σ _ (y xs q) p
 ·let e:i=xs.length:=by omega
  subst e;exact .inl {⟨xs,q,U6 _⟩,hd σ H p}
theorem D6{lo:B}{n:à}{g:TG}{D:gX}(Pv:à->St->Hp->Prop)(h0:Pv 0 σ H)
  (hs:∀ i σ H,i<n->Pv i σ H->g (.int (lo+i)) σ H λ σ2 H2=>tb { D with nx:=Pv (i+1),ct:=Pv (i+1),bk:=D.nx } σ2 H2) (hd:∀ σ H,Pv n σ H->D.nx σ H) :
  ∃ W:à->à->St->Hp->Prop,(∃ m,W 0 m σ H)/\∀ i m σ H,W i m σ H →
   ((Itr lo n).stop i H/\D.nx σ H)\/((Itr lo n).go i H/\∃ N:St->Hp->Prop,(∀ σ' H',N σ' H'->∃ m',m' < m/\W (i+1) m' σ' H')/\∀ x H',(Itr lo n).yld i H x H'->g x σ H' λ σ2 H2=>tb { D with nx:=N,ct:=N,bk:=D.nx } σ2 H2):=by
 refine{λ i m σ H=>m=n - i/\i<=n/\Pv i σ H,{n,by simp,VM _,h0},?_};rintro i m σ H ⟨rfl,hi,p⟩
 by_cases hlt:i<n
 ·refine .inr {hlt,Pv (i+1),λ σ' H' p'=>{n - (i+1),by omega,J,hlt,p'},λ x H' y=>?_};let(e,y):=y;subst e y;exact hs i σ _ hlt p
 ·let e:i=n:=by omega
  subst e;exact .inl {U6 _,hd σ H p}
abbrev R2:=V->V->Hp->VK->Prop
variable {r r':R2}
def OpR(X:Cx)(f:O->O->Sem O)(r:R2):Prop:=
 ∀ (pins:G (Z × Obj)) (s:À) (σ:St) (H:Hp) (x y:V) (v u:O) (Q:VK),Inv X pins σ H s->bI x v->bI y u->r x y H Q →
  Ç (Ê X.prog X.w) X.A (f v u) (EP X pins σ Q) X.xe s
def UnR(X:Cx)(f:O->Sem O)(r:V->Hp->VK->Prop):Prop:=
 ∀ (pins:G (Z × Obj)) (s:À) (σ:St) (H:Hp) (x:V) (v:O) (Q:VK),Inv X pins σ H s->bI x v->r x H Q →
  Ç (Ê X.prog X.w) X.A (f v) (EP X pins σ Q) X.xe s
def bK(X:Cx)(f:O)(r:G V->Hp->VK->Prop):Prop:=
 ∀ (pins:G (Z × Obj)) (s:À) (σ:St) (H:Hp) (xs:G V) (us:G O) (Q:VK),Inv X pins σ H s->aX xs us->r xs H Q →
  Ç (Ê X.prog X.w) X.A (call f us) (EP X pins σ Q) X.xe s
def tOp(r:R2)(ta tb:TE):TE:=λ σ H Q=>ta σ H λ x H1=>tb σ H1 λ y H2=>r x y H2 Q
def tUn(r:V->Hp->VK->Prop)(ta:TE):TE:=λ σ H Q=>ta σ H λ x H1=>r x H1 Q
def rI(C:B->B->Prop)(g:B->B->V):R2:=λ x y H Q=>∃ i j,x=.int i/\y=.int j/\C i j/\Q (g i j) H
def rI0(g:B->B->V):R2:=λ x y H Q=>∃ i j,x=.int i/\y=.int j/\Q (g i j) H
def rU(g:B->V):V->Hp->VK->Prop:=λ x H Q=>∃ i,x=.int i/\Q (g i) H
section
variable {a b c:Ñ}{ta tb tc:TE}
theorem RT(ha:PE X a ta)(hb:PE X b tb){R:V->V->Hp->Prop}(I:Inv X pins σ H s)
  (h:ta σ H λ x H1=>tb σ H1 λ y H2=>R x y H2) {Q:O->À->Prop} 
  (hf:∀ v u s2 x y H2,Inv X pins σ H2 s2->bI x v->bI y u->R x y H2->Ç (Ê X.prog X.w) X.A (f v u) Q X.xe s2) :
  Ç (Ê X.prog X.w) X.A (eval a X.env) (λ v s₁=>Ç (Ê X.prog X.w) X.A (eval b X.env) (λ u s₂=>Ç (Ê X.prog X.w) X.A (f v u) Q X.xe s₂) X.xe s₁) X.xe s:=by
 refine thn (ha pins s σ H _ I h) λ v s1 ⟨x,H1,I1,r1,q1⟩=>?_;refine thn (hb pins s1 σ H1 _ I1 q1) λ u s2 ⟨y,H2,I2,r2,q2⟩=>?_;exact hf v u s2 x y H2 I2 r1 r2 q2
theorem gf{op:Operator}(ho:OpR X (binaryOp op) r)(ha:PE X a ta)(hb:PE X b tb):PE X (.BinOp a op b pos) (tOp r ta tb):=by
 intro pins s σ H Q I h;exact wpAny_BinOp (RT ha hb I h λ v u s2 x y H2 I2 rx ry q=>ho pins s2 σ H2 x y v u Q I2 rx ry q)
theorem ye{op:UnaryOp}{r:V->Hp->VK->Prop}(ho:UnR X (unaryOp op) r)(ha:PE X a ta):PE X (.UnaryOp op a pos) (tUn r ta):=by
 intro pins s σ H Q I h;exact UnaryOp_ (thn (ha pins s σ H _ I h) λ v s1 ⟨x,H1,I1,r1,q1⟩=>ho pins s1 σ H1 x v Q I1 r1 q1)
theorem opI{C:B->B->Prop}{g:B->B->B}
  (rule:∀ (i j:B) (t u:Tok) (s:À) (Q:O->À->Prop) (E:O->À->Prop),C i j->Q (.int (g i j) s.toks) { s with toks:=s.toks+1 }->Ç (Ê X.prog X.w) X.A (f (.int i t) (.int j u)) Q E s) :
  OpR X f (rI C λ i j=>.int (g i j)):=by
 intro pins s σ H x y v u Q I rx ry h;let(i,j,rfl,rfl,hc,q):=h;let(t,rfl):=rx;let(t',rfl):=ry;exact rule i j t t' s _ _ hc {.int (g i j),H,I.tok _,{_,J},q}
theorem Tq{g:B->B->B}
  (rule:∀ (i j:B) (t u:Tok) (s:À) (Q:O->À->Prop) (E:O->À->Prop),Q (.int (g i j) s.toks) { s with toks:=s.toks+1 }->Ç (Ê X.prog X.w) X.A (f (.int i t) (.int j u)) Q E s) :
  OpR X f (rI0 λ i j=>.int (g i j)):=by
 intro pins s σ H x y v u Q I rx ry h;let(i,j,rfl,rfl,q):=h;let(t,rfl):=rx;let(t',rfl):=ry;exact rule i j t t' s _ _ {.int (g i j),H,I.tok _,{_,J},q}
theorem QO{g:B->B->Ý}
  (rule:∀ (i j:B) (t u:Tok) (s:À) (Q:O->À->Prop) (E:O->À->Prop),Q (.bool (g i j)) s->Ç (Ê X.prog X.w) X.A (f (.int i t) (.int j u)) Q E s) :
  OpR X f (rI0 λ i j=>.bl (g i j)):=by
 intro pins s σ H x y v u Q I rx ry h;let(i,j,rfl,rfl,q):=h;let(t,rfl):=rx;let(t',rfl):=ry;exact rule i j t t' s _ _ {.bl (g i j),H,I,J,q}
def RW(i j:B):Prop:=0<j/\j<1073741824
def RV(i j:B):Prop:=0<=j/\j<=1000000/\i.natAbs<2 ^ 64
def yd(i j:B):Prop:=(-(2 ^ 64)<i/\i<2 ^ 64)\/(-(2 ^ 64)<j/\j<2 ^ 64)
theorem yd.ok{i j:B}(h:yd i j):IntMulOk i j:=by
 rcases h with ⟨h1,h2⟩|⟨h1,h2⟩
 ·exact .of_left (intBits_le_64 h1 h2)
 ·exact .of_right (intBits_le_64 h1 h2)
theorem wF:OpR X (binaryOp .Add) (rI0 λ i j=>.int (i+j)):=Tq λ _ _ _ _ _ _ _ q=>add_int q
theorem OI:OpR X (binaryOp .Sub) (rI0 λ i j=>.int (i - j)):=Tq λ _ _ _ _ _ _ _ q=>sub_int q
theorem kK:OpR X (binaryOp .Mult) (rI yd λ i j=>.int (i * j)):=opI λ _ _ _ _ _ _ _ hc q=>mul_int q hc.ok
theorem K0:OpR X (binaryOp .FloorDiv) (rI RW λ i j=>.int (i / j)):=opI λ i j _ _ _ _ _ hc q=>by
 let h1:(0:B)<j:=hc.1;let h2:j<1073741824:=hc.2;exact floordiv_int (by omega) (by rw[Int.fdiv_eq_ediv_of_nonneg i (by omega)];exact q) (.inl (PyProof.noPylong_small (by omega)))
theorem l9:OpR X (binaryOp .Mod) (rI (λ _ j=>0<j) λ i j=>.int (i % j)):=opI λ i j _ _ _ _ _ hc q=>by
 let h1:(0:B)<j:=hc;exact mod_int' (by omega) (by rw[Int.fmod_eq_emod_of_nonneg i (by omega)];exact q)
theorem OK:OpR X (binaryOp .Pow) (rI RV λ i j=>.int (i ^ j.toNat)):=opI λ _ _ _ _ _ _ _ hc q=>pow_int_small hc.1 hc.2.1 hc.2.2 q
theorem unI{f:O->Sem O}{g:B->B}
  (rule:∀ (i:B) (t:Tok) (s:À) (Q:O->À->Prop) (E:O->À->Prop),Q (.int (g i) s.toks) { s with toks:=s.toks+1 }->Ç (Ê X.prog X.w) X.A (f (.int i t)) Q E s) :
  UnR X f (rU λ i=>.int (g i)):=by
 intro pins s σ H x v Q I rx h;let(i,rfl,q):=h;let(t,rfl):=rx;exact rule i t s _ _ {.int (g i),H,I.tok _,{_,J},q}
theorem Oe:UnR X (unaryOp .USub) (rU λ i=>.int (-i)):=unI λ _ _ _ _ _ q=>neg_int q
end
def MX:V->V->Ý
 | .non,.non=>L | .non,.int _=>L | .int _,.non=>L | .non,.bl _=>L | .bl _,.non=>L | .non,.str _=>L | .str _,.non=>L
 | .int _,.int _=>L | .bl _,.bl _=>L | .str _,.str _=>L | .byt _,.byt _=>L
 | .int _,.str _=>L | .str _,.int _=>L | .bl _,.str _=>L | .str _,.bl _=>L
 | _,_=>Â
def rEq:R2:=λ x y H Q=>MX x y=L/\Q (.bl (decide (x=y))) H
def rNe:R2:=λ x y H Q=>MX x y=L/\Q (.bl (!decide (x=y))) H
theorem BN{i j:B}:decide (V.int i=V.int j)=(i == j):=by
 rw[WW];simp
theorem Jk{i j:Ý}:decide (V.bl i=V.bl j)=(i == j):=by
 rw[WW];simp
theorem BM{i j:Ã}:decide (V.str i=V.str j)=(i == j):=by
 rw[WW];simp
theorem BO{i j:Array UInt8}:decide (V.byt i=V.byt j)=(i.toList == j.toList):=by
 rw[WW];cases i;cases j;simp
section
variable {a b c:Ñ}{ta tb tc:TE}
theorem aU{Q:VK}{k k':Ý}(I:Inv X pins σ H s)(q:Q (.bl k) H)(e:k=k'):EP X pins σ Q (.bool k') s:=by
 subst e;exact{.bl k,H,I,J,q}
theorem R8:OpR X (compareOp .Eq) rEq:=by
 intro pins s σ H x y v u Q I rx ry h;let(hs,q):=h
 cases x with
 | non=>
  cases rx
  cases y with
  | non=>cases ry;exact PySem.EqNone.eq_none_none (aU I q (by simp))
  | bl j=>cases ry;exact PySem.EqNone.eq_none_bool (aU I q (by simp))
  | int j=>let(t',rfl):=ry;exact PySem.EqNone.eq_none_int (aU I q (by simp))
  | str j=>let(t',rfl):=ry;exact PySem.EqNone.eq_none_str (aU I q (by simp))
  | _=>exact Þ (show Â=L from hs) U9
 | bl i=>
  cases rx
  cases y with
  | non=>cases ry;exact PySem.EqNone.eq_bool_none (aU I q (by simp))
  | bl j=>cases ry;exact eq_bool (aU I q Jk)
  | str j=>let(t',rfl):=ry;exact PySem.EqMixed.eq_bool_str (aU I q (by simp))
  | _=>exact Þ (show Â=L from hs) U9
 | int i=>
  let(t,rfl):=rx
  cases y with
  | non=>cases ry;exact PySem.EqNone.eq_int_none (aU I q (by simp))
  | int j=>let(t',rfl):=ry;exact eq_int (aU I q BN)
  | str j=>let(t',rfl):=ry;exact PySem.EqMixed.eq_int_str (aU I q (by simp))
  | _=>exact Þ (show Â=L from hs) U9
 | str i=>
  let(t,rfl):=rx
  cases y with
  | non=>cases ry;exact PySem.EqNone.eq_str_none (aU I q (by simp))
  | bl j=>cases ry;exact PySem.EqMixed.eq_str_bool (aU I q (by simp))
  | int j=>let(t',rfl):=ry;exact PySem.EqMixed.eq_str_int (aU I q (by simp))
  | str j=>let(t',rfl):=ry;exact eq_str (aU I q BM)
  | _=>exact Þ (show Â=L from hs) U9
 | byt i=>
  let(t,rfl):=rx
  cases y with
  | byt j=>let(t',rfl):=ry;exact W.eq_bytes (aU I q BO)
  | _=>exact Þ (show Â=L from hs) U9
 | _=>cases y<;>exact Þ (show Â=L from hs) U9
theorem R5:OpR X (compareOp .NotEq) rNe:=by
 intro pins s σ H x y v u Q I rx ry h;let(hs,q):=h
 cases x with
 | non=>
  cases rx
  cases y with
  | non=>cases ry;exact PySem.EqNone.ne_none_none (aU I q (by simp))
  | bl j=>cases ry;exact PySem.EqNone.ne_none_bool (aU I q (by simp))
  | int j=>let(t',rfl):=ry;exact PySem.EqNone.ne_none_int (aU I q (by simp))
  | str j=>let(t',rfl):=ry;exact PySem.EqNone.ne_none_str (aU I q (by simp))
  | _=>exact Þ (show Â=L from hs) U9
 | bl i=>
  cases rx
  cases y with
  | non=>cases ry;exact PySem.EqNone.ne_bool_none (aU I q (by simp))
  | bl j=>cases ry;exact ne_bool (aU I q (VQ not Jk))
  | str j=>let(t',rfl):=ry;exact PySem.EqMixed.ne_bool_str (aU I q (by simp))
  | _=>exact Þ (show Â=L from hs) U9
 | int i=>
  let(t,rfl):=rx
  cases y with
  | non=>cases ry;exact PySem.EqNone.ne_int_none (aU I q (by simp))
  | int j=>let(t',rfl):=ry;exact ne_int (aU I q (VQ not BN))
  | str j=>let(t',rfl):=ry;exact PySem.EqMixed.ne_int_str (aU I q (by simp))
  | _=>exact Þ (show Â=L from hs) U9
 | str i=>
  let(t,rfl):=rx
  cases y with
  | non=>cases ry;exact PySem.EqNone.ne_str_none (aU I q (by simp))
  | bl j=>cases ry;exact PySem.EqMixed.ne_str_bool (aU I q (by simp))
  | int j=>let(t',rfl):=ry;exact PySem.EqMixed.ne_str_int (aU I q (by simp))
  | str j=>let(t',rfl):=ry;exact ne_str (aU I q (VQ not BM))
  | _=>exact Þ (show Â=L from hs) U9
 | byt i=>
  let(t,rfl):=rx
  cases y with
  | byt j=>let(t',rfl):=ry;exact W.ne_bytes (aU I q (VQ not BO))
  | _=>exact Þ (show Â=L from hs) U9
 | _=>cases y<;>exact Þ (show Â=L from hs) U9
theorem NB:OpR X (compareOp .Lt) (rI0 λ i j=>.bl (decide (i<j))):=QO λ _ _ _ _ _ _ _ q=>lt_int q
theorem R6:OpR X (compareOp .LtE) (rI0 λ i j=>.bl (decide (i<=j))):=QO λ _ _ _ _ _ _ _ q=>le_int q
theorem NC:OpR X (compareOp .Gt) (rI0 λ i j=>.bl (decide (j<i))):=QO λ _ _ _ _ _ _ _ q=>gt_int q
theorem R7:OpR X (compareOp .GtE) (rI0 λ i j=>.bl (decide (j<=i))):=QO λ _ _ _ _ _ _ _ q=>ge_int q
theorem Co:OpR X (compareOp .In) (λ x y H Q=>∃ i j,x=.str i/\y=.str j/\Q (.bl (!(Builtin.Str.occurrences j i 0 j.length 1).isEmpty)) H):=by
 intro pins s σ H x y v u Q I rx ry h;let(i,j,rfl,rfl,q):=h;let(t,rfl):=rx;let(t',rfl):=ry;exact in_str (aU I q J)
theorem ON:OpR X (compareOp .Is) (λ x y H Q=>y=.non/\Q (.bl (decide (x=.non))) H):=by
 intro pins s σ H x y v u Q I rx ry h;let(rfl,q):=h;cases ry;refine is_none_gen (aU I q ?_)
 cases x<;>first
  | (cases rx;rfl)
  | (let(t,rfl):=rx;rfl)
theorem KW:OpR X (compareOp .IsNot) (λ x y H Q=>y=.non/\Q (.bl (!decide (x=.non))) H):=by
 intro pins s σ H x y v u Q I rx ry h;let(rfl,q):=h;cases ry;refine isnot_none_gen (aU I q ?_)
 cases x<;>first
  | (cases rx;rfl)
  | (let(t,rfl):=rx;rfl)
def NY:HO->Ý
 | .lst _=>L
 | .ins _ _ _=>L
 | _=>Â
theorem OpR.or(h:OpR X f r)(h':OpR X f r'):OpR X f (λ x y H Q=>r x y H Q\/r' x y H Q):=by
 intro pins s σ H x y v u Q I rx ry q
 rcases q with q|q
 ·exact h pins s σ H x y v u Q I rx ry q
 ·exact h' pins s σ H x y v u Q I rx ry q
theorem ai(b:Ñ)(h:op ≠ .In:=by decide)(h2:op ≠ .NotIn:=by decide):behindInMarks op b=Â:=by
 let e1:(op == CmpOp.In)=Â:=by cases op<;>first|rfl|exact Þ rfl h
 let e2:(op == CmpOp.NotIn)=Â:=by cases op<;>first|rfl|exact Þ rfl h2
 cases b<;>simp[behindInMarks,e1,e2]
theorem KQ(ho:OpR X (compareOp op) r)(ha:PE X a ta)(hb:PE X b tb)(hm:behindInMarks op b=Â):PE X (.Compare a [op] [b] pos) (tOp r ta tb):=by
 intro pins s σ H Q I h;exact wpAny_Compare1 (RT ha hb I h λ v u s2 x y H2 I2 rx ry q=>ho pins s2 σ H2 x y v u Q I2 rx ry q) hm
def JB(t:TE):TT:=λ σ H Q=>t σ H λ x H'=>∃ k,x=.bl k/\Q k H'
theorem u3(ho:OpR X (compareOp op) r)(ha:PE X a ta)(hb:PE X b tb)(hm:behindInMarks op b=Â):PT X (.Compare a [op] [b] pos) (JB (tOp r ta tb)):=by
 intro pins s σ H Q I h
 refine wpAny_isTrue_Compare1 (thn (ha pins s σ H _ I h) λ v s1 ⟨x,H1,I1,r1,q1⟩=>thn (hb pins s1 σ H1 _ I1 q1) λ u s2 ⟨y,H2,I2,r2,q2⟩=>
  thn (ho pins s2 σ H2 x y v u _ I2 r1 r2 q2) λ c s3 ⟨z,H3,I3,r3,k,e,q3⟩=>?_) hm
 subst e;cases r3;exact Wh {(H3),I3,q3}
def Aw(r r':R2)(ta tb tc:TE):TE:=λ σ H Q=>ta σ H λ x H1=>tb σ H1 λ y H2=>r x y H2 λ z H3=>∃ k,z=.bl k /\
 (if k=L then tc σ H3 λ w' H4=>r' y w' H4 Q else Q (.bl Â) H3)
theorem FV{a3:CmpOp}(ho:OpR X (compareOp op) r)(a4:OpR X (compareOp a3) r')(ha:PE X a ta)(hb:PE X b tb)(hc:PE X c tc)
  (hm:lastMarks [op,a3] [b,c]=Â:=by with_unfolding_all rfl):PE X (.Compare a [op,a3] [b,c] pos) (Aw r r' ta tb tc):=by
 intro pins s σ H Q I h
 refine Compare_chain (thn (ha pins s σ H _ I h) λ v s1 ⟨x,H1,I1,r1,q1⟩=>chain_link (thn (hb pins s1 σ H1 _ I1 q1) λ u s2 ⟨y,H2,I2,r2,q2⟩=>
  thn (ho pins s2 σ H2 x y v u _ I2 r1 r2 q2) λ d s3 ⟨z,H3,I3,r3,k,e,q3⟩=>?_)) hm
 subst e;cases r3;refine Wh ?_
 cases k with
 | false=>exact ite_ff {.bl Â,H3,I3,J,q3}
 | true=>exact ite_tt (chain_last (thn (hc pins s3 σ H3 _ I3 q3) λ w' s4 ⟨z',H4,I4,r4,q4⟩=>a4 pins s4 σ H4 y z' u w' Q I4 r2 r4 q4))
theorem FG{a3:CmpOp}(ho:OpR X (compareOp op) r)(a4:OpR X (compareOp a3) r')(ha:PE X a ta)(hb:PE X b tb)(hc:PE X c tc)
  (hm:lastMarks [op,a3] [b,c]=Â:=by with_unfolding_all rfl):PT X (.Compare a [op,a3] [b,c] pos) (JB (Aw r r' ta tb tc)):=by
 intro pins s σ H Q I h
 refine isTrue_chain (thn (ha pins s σ H _ I h) λ v s1 ⟨x,H1,I1,r1,q1⟩=>test_link (thn (hb pins s1 σ H1 _ I1 q1) λ u s2 ⟨y,H2,I2,r2,q2⟩=>
  thn (ho pins s2 σ H2 x y v u _ I2 r1 r2 q2) λ d s3 ⟨z,H3,I3,r3,k,e,q3⟩=>?_)) hm
 subst e;cases r3;refine Wh ?_
 cases k with
 | false=>
  let(k',e',q'):=q3;cases e';exact ite_ff {(H3),I3,q'}
 | true=>
  refine ite_tt (test_last (thn (hc pins s3 σ H3 _ I3 q3) λ w' s4 ⟨z',H4,I4,r4,q4⟩=>thn (a4 pins s4 σ H4 y z' u w' _ I4 r2 r4 q4) λ d' s5 ⟨z2,H5,I5,r5,k2,e2,q5⟩=>?_));subst e2;cases r5;exact Wh {(H5),I5,q5}
def ow:(Æ:à)<2 ^ 63:=by rw[sizeLine_eq];decide
theorem hZ:OpR X (binaryOp .Add) (λ x y H Q=>∃ i j,x=.str i/\y=.str j/\i.length+j.length<=Æ/\Q (.str (i++j)) H):=by
 intro pins s σ H x y v u Q I rx ry h;let(i,j,rfl,rfl,hz,q):=h;let(t,rfl):=rx;let(t',rfl):=ry;exact add_str (λ t' tk=>{.str (i++j),H,I.tok _,{_,J},q}) hz
theorem uh{x:V}(r:aX [x] us):∃ u,us=[u]/\bI x u:=by
 cases r with
 | cons r1 r2=>cases r2;exact{_,J,r1}
theorem Ak{x y:V}(r:aX [x,y] us):∃ u w',us=[u,w']/\bI x u/\bI y w':=by
 cases r with
 | cons r1 r2=>
  cases r2 with
  | cons r3 r4=>cases r4;exact{_,_,J,r1,r3}
theorem HN:bK X (.builtin "abs") (λ xs H Q=>∃ i,xs=[.int i]/\Q (.int (if i<0 then -i else i)) H):=by
 intro pins s σ H xs us Q I r h;let(i,rfl,q):=h;let(u,rfl,t,rfl):=uh r;exact call_abs_int λ u tk=>{.int (if i<0 then -i else i),H,I.tok _,{_,J},q}
theorem El(hc:X.calm=L):bK X (.builtin "max") (λ xs H Q=>∃ i j,xs=[.int i,.int j]/\Q (.int (if j > i then j else i)) H):=by
 intro pins s σ H xs us Q I r h;let(i,j,rfl,q):=h;let(u,w',rfl,(t,rfl),(t',rfl)):=Ak r;refine max_two_ints (I.ok.hd hc) λ h' tk k=>{_,H,I.kept k,?_,q}
 by_cases hj:j > i
 ·rw[Ve hj,Ve hj];exact{_,J}
 ·rw[U7 hj,U7 hj];exact{_,J}
theorem Ek(hc:X.calm=L):bK X (.builtin "min") (λ xs H Q=>∃ i j,xs=[.int i,.int j]/\Q (.int (if j<i then j else i)) H):=by
 intro pins s σ H xs us Q I r h;let(i,j,rfl,q):=h;let(u,w',rfl,(t,rfl),(t',rfl)):=Ak r;refine min_two_ints (I.ok.hd hc) λ h' tk k=>{_,H,I.kept k,?_,q}
 by_cases hj:j<i
 ·rw[Ve hj,Ve hj];exact{_,J}
 ·rw[U7 hj,U7 hj];exact{_,J}
theorem En:bK X (.type "int") (λ xs H Q=>(∃ i,xs=[.int i]/\Q (.int i) H)\/∃ k,xs=[.bl k]/\Q (.int (if k then 1 else 0)) H):=by
 intro pins s σ H xs us Q I r h
 rcases h with ⟨i,rfl,q⟩|⟨k,rfl,q⟩
 ·let(u,rfl,t,rfl):=uh r;exact call_int_int {.int i,H,I,{_,J},q}
 ·let(u,rfl,r1):=uh r;cases r1;exact call_int_bool {.int (if k then 1 else 0),H,I.tok _,{_,J},q}
end
structure Jx(h:Ð)(x dx C:Z)(mA:Ã->Ü O):Prop where
 obj:h.get? x=U (W.instObj C dx)
 ns:h.Ns1 dx mA
 ne:dx≠x
theorem mI{dx:Z}{mA:Ã->Ü O}(n:h.Ns1 dx mA):∃ od,h.get? dx=U od/\∀ name,W.lookIn name od=U (mA name):=by
 let(o,es,ep,ho,hd,hk,_,hm):=n;refine{o,ho,λ name=>?_};let e:=hm name;unfold nsFind findBy at e;rw[←Array.find?_toList] at e;unfold W.lookIn;rw[hd];dsimp only;split
 ·rename_i y q;rw[q] at e;exact VQ U e
 ·rename_i q;rw[q] at e
  let a:es.toList.any (·.refKey)=Â:=by
   rw[List.any_eq_false];intro y hy;let(z,t,a3):=hk y (Array.mem_toList_iff.mp hy);simp[DictEntry.refKey,a3]
  let a':¬ es.toList.any (·.refKey)=L:=by rw[a];exact U9
  rw[U7 a'];exact VQ U e
def Jx.look{x dx:Z}{mA:Ã->Ü O}(I:Jx h x dx C mA):∃ od,W.InstAt h x (W.instObj C dx) C (U od)/\∀ name,W.lookIn name od=U (mA name):=
 let {(od),ho,hl}:=mI I.ns
 ⟨od,{(I.obj),J,J,ho},hl⟩
section
variable {prog:Ì}{K:PySem.W.Frag}{x dx f:Z}{mA:Ã->Ü O}{name:Ã}{v:O}
theorem Ml{expr:Ý}{Q:O->À->Prop}(X:K.In s.heap)(I:Jx s.heap x dx C mA)(hg:W.plainGet K C name=L)(hh:Õ K C=L)
  (ha:È K (.ref C) name=U Y) (hv:mA name=U v) (a3:W.handedIn v=L) (h:Q v { s with toks:=s.toks+1 }) :
  Ç (Ê prog w) A (getAttr (.ref x) name expr) Q E s:=by
 let(od,wn,hl):=I.look;exact W.get_value X wn (W.plainGet_of hg).1 (W.findObj_own hh ha J (by rw[hl,hv])) a3 h
theorem Ht{pl:Sem Ý}{Q:O × G O->À->Prop}(X:K.In s.heap)(I:Jx s.heap x dx C mA)(hg:W.plainGet K C name=L)
  (hf:È K (.ref C) name=U (U (.ref f))) (ht:W.isFn K (.ref f)=L) (hv:mA name=Y) (h:Q (.ref f,[.ref x]) s) :
  Ç (Ê prog w) A (getMethod (.ref x) name pl) Q E s:=by
 let(od,wn,hl):=I.look;exact W.method_fn X wn (W.plainGet_of hg).1 (W.plainGet_of hg).2 hf (Wk.mp ht) (by show (W.lookIn name od).map (·.isSome)=U Â;rw[hl,hv];rfl) h
theorem Kq{ns:G Ã}(X:K.In s.heap)(I:Jx s.heap x dx C mA)
  (hs:È K (.ref C) "__setattr__"=U (U (.builtin "object.__setattr__"))) (hp:W.plainOver K C=L) (ht:W.takerIn K C name=U Y) (hh:Õ K C=L)
  (hw:PySem.Within mA ns) (hsz:ns.length<=Æ)
  (h:∀ h',Jx h' x dx C (λ y=>if y=name then U v else mA y)->Heap.SameBut dx s.heap h'->Q () { s with heap:=h',toks:=s.toks+2 }) :
  Ç (Ê prog w) A (setAttr (.ref x) name v) Q E s:=by
 let(od,wn,hl):=I.look;refine W.set_plain X wn hs (W.osa_open (s:={ s with toks:=s.toks+1 }) (r:=Y) X wn hp ht λ b=>?_);let(cd,hc,a5):=W.any_some hh;let hx:s.heap.get? x=U {.ref C,U dx,.plain,#[]}:=I.obj;refine My (U3 (My (My (wpAny_loadPart hx (My (W.Looks.here (s:={ s with toks:=s.toks+1 }) (W.looks_clsIn X hc) ?_))))));rw[a5];refine U3 (a:=U dx) (My (U3 (My ?_)));refine wpAny_nsSet1 (s:={ s with toks:=s.toks+1 }) I.ns λ h' a3 a4=>?_;let(oD,a9,b1,a6,a7,a8):=a3.count (PySem.Within.cons name v hw);refine My (wpAny_lookBehind a6 (by rw[a7];exact pastItsLine_dict (Vv a8 (by rw[Vo];omega))) ?_);exact U3 (h _ {(a4.2 _ (Vz I.ne)).trans I.obj,a3,I.ne} a4)
theorem Gk{R:Result->À->Prop}{vs:G O}(X:K.In s.heap)(hm:W.makesIn K C=L)
  (hi:È K (.ref C) "__init__"=U (U (.ref f))) (hf:Ú K (.ref f)=U (.type "function"))
  (h:codeAny (Ê prog w) (A.under (.builtin "type.__call__" ⟨.ref C::vs,kw⟩)) (.call (.ref f) {.ref (%[s|99]+1)::vs,kw}) (W.InitBack (%[s|99]+1) R)
   { s with heap:=(s.heap.push W.emptyDict).push (W.instObj C %[s|99]) }) :
  codeAny (Ê prog w) A (.call (.ref C) {(vs),kw}) R s:=by
 let(hh,g,d,t,os):=s;exact W.make_core (W.makes_of X hm) (W.looks_findIn X hi) (λ self=>W.bind_fn X self hf) (.inl J) h
end
def bh(f:Ã)(v:V):G (Ã × V)->G (Ã × V)
 | []=>[(f,v)]
 | (g,x)::r=>if g=f then (g,v)::r else (g,x)::bh f v r
theorem ae(f g:Ã)(v:V):∀ fs:G (Ã × V),(bh f v fs).lookup g=if g=f then U v else fs.lookup g
 | []=>by
  show List.lookup g [(f,v)]=_
  by_cases h:g=f
  ·let hb:(g == f)=L:=Wk.mpr h;simp only[List.lookup,hb,Ve h]
  ·let hb:(g == f)=Â:=Wr.mpr h;simp only[List.lookup,hb,U7 h]
 | (k,x)::r=>by
  let ih:=ae f g v r;rw[show bh f v ((k,x)::r)=(if k=f then (k,v)::r else (k,x)::bh f v r) from J]
  by_cases hk:k=f
  ·rw[Ve hk]
   by_cases h:g=k
   ·let hb:(g == k)=L:=Wk.mpr h;simp only[List.lookup,hb,Ve (h.trans hk)]
   ·let hb:(g == k)=Â:=Wr.mpr h;simp only[List.lookup,hb,U7 (λ e:g=f=>h (e.trans hk.symm))]
  ·rw[U7 hk]
   by_cases h:g=k
   ·let hb:(g == k)=L:=Wk.mpr h;simp only[List.lookup,hb,U7 (λ e:g=f=>hk (h.symm.trans e))]
   ·let hb:(g == k)=Â:=Wr.mpr h;simp only[List.lookup,hb];exact ih
theorem mJ(f:Ã)(v:V):∀ fs:G (Ã × V),f∈(bh f v fs).map (·.1)/\∀ g,g∈fs.map (·.1)->g∈(bh f v fs).map (·.1)
 | []=>{by simp[bh],λ g h=>by simp at h}
 | (k,x)::r=>by
  let(i1,i2):=mJ f v r;rw[show bh f v ((k,x)::r)=(if k=f then (k,v)::r else (k,x)::bh f v r) from J]
  by_cases hk:k=f
  ·rw[Ve hk];subst hk;exact{by simp,λ g h=>by simpa using h}
  ·rw[U7 hk];refine{?_,λ g h=>?_}
   ·rw[Vs];exact Vb _ i1
   ·rw[Vs] at h ⊢
    rcases Vp.mp h with e|e
    ·exact Vp.mpr (.inl e)
    ·exact Vb _ (i2 g e)
theorem mX(f:Ã)(v:V):∀ fs:G (Ã × V),(bh f v fs).length<=fs.length+1
 | []=>by simp[bh]
 | (k,x)::r=>by
  let ih:=mX f v r;rw[show bh f v ((k,x)::r)=(if k=f then (k,v)::r else (k,x)::bh f v r) from J]
  by_cases hk:k=f
  ·rw[Ve hk,Vo,Vo];omega
  ·rw[U7 hk,Vo,Vo];omega
theorem oZ.some_of{o:Ü O}(r:oZ (U v) o):∃ u,o=U u/\bI v u:=by
 cases o with
 | none=>exact(show False from r).elim
 | some u=>exact{(u),J,r}
theorem oZ.none_of{o:Ü O}(r:oZ Y o):o=Y:=by
 cases o with
 | none=>rfl
 | some u=>exact(show False from r).elim
theorem r8(r:bI v u):W.handedIn u=L:=by
 cases v with
 | non=>cases (show u=É from r);rfl
 | bl b=>cases (show u=Value.bool b from r);rfl
 | int i=>let(t,e):=(show ∃ t,u=Value.int i t from r);cases e;rfl
 | str x=>let(t,e):=(show ∃ t,u=Value.str x t from r);cases e;rfl
 | byt b=>let(t,e):=(show ∃ t,u=Value.bytes b t from r);cases e;rfl
 | flt b=>let(t,e):=(show ∃ t,u=Value.float b t from r);cases e;rfl
 | ref a=>cases (show u=Ë a from r);rfl
 | ty n=>cases (show u=Ø n from r);rfl
section
variable {H':Hp}{dx:Z}{fs fs':G (Ã × V)}
theorem pA(hok:HOk P w H h)(e:H a=U (.ins C dx fs)):∃ mA,Jx h a dx C mA/\(∀ f,oZ (fs.lookup f) (mA f))/\PySem.Within mA (fs.map (·.1))/\fs.length<=1000/\H dx=U (.own a):=by
 let(d,z,ne,ob,mA,n,r,q):=(show bL P w H h a (.ins C dx fs) from hok a _ e);exact{mA,{(ob),n,ne},r,q,z,d}
end
structure Cls(K:Å)(C:Z):Prop where
 pg:W.plainGet K C Str.empty=L
 hd:Õ K C=L
 po:W.plainOver K C=L
 sa:È K (.ref C) "__setattr__"=U (U (.builtin "object.__setattr__"))
def Cls.get(c:Cls K C)(f:Ã):W.plainGet K C f=L:=c.pg
def ba(K:Å)(C:Z)(f:Ã):Prop:=È K (.ref C) f=U Y
theorem ba.taker{f:Ã}(n:ba K C f):W.takerIn K C f=U Y:=by
 unfold W.takerIn;rw[show È K (.ref C) f=U Y from n];rfl
structure dA(K:Å)(C:Z)(m:Ã)(f:Z):Prop where
 at_:È K (.ref C) m=U (U (.ref f))
 fn:W.isFn K (.ref f)=L
 kp:W.keepIn K (.ref f)=L
section
variable {dx:Z}{fs:G (Ã × V)}{f:Ã}
theorem zw{b:Ý}{Q:O->À->Prop}(I:Inv X pins σ H s)(e:H a=U (.ins C dx fs))(c:Cls X.K C)(n:ba X.K C f)(l:fs.lookup f=U v)
  (h:∀ u s',Inv X pins σ H s'->bI v u->Q u s'):Ç (Ê X.prog X.w) A (getAttr (.ref a) f b) Q E s:=by
 let(mA,xz,r,_,_,_):=pA I.hok e;let(u,hu,ru):=oZ.some_of (v:=v) (o:=mA f) (by rw[←l];exact r f);exact Ml I.kIn xz (c.get f) c.hd n hu (r8 ru) (h u _ (I.tok _) ru)
theorem il{m:Ã}{g:Z}{pl:Sem Ý}{Q:O × G O->À->Prop}(I:Inv X pins σ H s)(e:H a=U (.ins C dx fs))(c:Cls X.K C)(k:dA X.K C m g)(l:fs.lookup m=Y)
  (h:Q (.ref g,[.ref a]) s):Ç (Ê X.prog X.w) A (getMethod (.ref a) m pl) Q E s:=by
 let(mA,xz,r,_,_,_):=pA I.hok e;let hn:mA m=Y:=oZ.none_of (by rw[←l];exact r m);exact Ht I.kIn xz (c.get m) k.at_ k.fn hn h
theorem yq{y:V}(I:Inv X pins σ H s)(e:H a=U (.ins C dx fs))(c:Cls X.K C)(n:ba X.K C f)(hl:fs.length<1000)(ry:bI y u)
  (h:∀ s',Inv X pins σ (upd H a (.ins C dx (bh f y fs))) s'->Q () s'):Ç (Ê X.prog X.w) A (setAttr (.ref a) f u) Q E s:=by
 let(mA,xz,r,wi,_,ho):=pA I.hok e;let hz:(fs.map (·.1)).length<=Æ:=by rw[U2,sizeLine_eq];omega
 refine Kq I.kIn xz c.sa c.po n.taker c.hd wi hz λ h' O' sb=>h _ ?_;let hd:∃ o,h'.get? dx=U o:=let {o,_,_,e',_}:=O'.ns;⟨o,e'⟩;refine I.write (x:=a) (e:=dx) (by rw[e];exact True.intro) (.inr ho) (λ b q hb z=>(sb.2 b hb).trans z) hd ?_;refine{by rw[ah xz.ne];exact ho,?_,xz.ne,O'.obj,_,O'.ns,λ g=>?_,λ g hg=>?_}
 ·have:=mX f y fs;omega
 ·show oZ ((bh f y fs).lookup g) (if g=f then U u else mA g)
  rw[ae]
  by_cases q:g=f
  ·rw[Ve q,Ve q];exact ry
  ·rw[U7 q,U7 q];exact r g
 ·by_cases q:g=f
  ·rw[q];exact(mJ f y fs).1
  ·refine(mJ f y fs).2 g (wi g λ z=>hg ?_)
   show (if g=f then U u else mA g)=Y
   rw[U7 q];exact z
theorem Inv.made(I:Inv X pins σ H s):Inv X pins σ (upd (upd H %[s|99] (.own (%[s|99]+1))) (%[s|99]+1) (.ins C %[s|99] []))
  { s with heap:=(s.heap.push W.emptyDict).push (W.instObj C %[s|99]) }:=by
 let e1:(s.heap.push W.emptyDict).get? %[s|99]=U W.emptyDict:=Vc s.heap J
 let e2:((s.heap.push W.emptyDict).push (W.instObj C %[s|99])).get? (%[s|99]+1)=U (W.instObj C %[s|99]):=by
  have:=Vc (s.heap.push W.emptyDict) (o:=W.instObj C %[s|99]) J
  rwa [VX] at this
 let e3:(s.heap.push W.emptyDict).Ns %[s|99] (λ _=>Y):={W.emptyDict,#[],_,e1,J,(λ e he=>Þ he (by simp)),λ _=>J};let I1:=I.laid (a:=%[s|99]) (o:=.own (%[s|99]+1)) (h':=s.heap.push W.emptyDict) (t':=s.toks) (λ b u q=>U0 _ q) (U6 _) {_,e1};refine I1.laid (a:=%[s|99]+1) (o:=.ins C %[s|99] []) (t':=s.toks) (λ b u q=>U0 _ q) (Wq (VX _ _)) ?_;let ne:%[s|99]≠%[s|99]+1:=Vl (XG _);refine{by rw[ah ne,ag],VM _,ne,e2,λ _=>Y,(Heap.Ns1.of_empty e3).at λ o q=>U0 _ q,λ _=>True.intro,λ y hy=>Þ J hy}
theorem BX{prog:Ì}{env:Env}{f:Ã}{Q:O->À->Prop}(hb:attributeBase e f env (eval e env)=eval e env)
  (h:Ç (Ê prog w) A (eval e env) (λ o s₁=>Ç (Ê prog w) A (getAttr o f L) Q E s₁) E s):Ç (Ê prog w) A (eval (.Attribute e f pos) env) Q E s:=
 Attribute_any_ h (by rw[arm_eval_Attribute,hb])
end
section
variable {o value:Ñ}{f:Ã}{pos' tpos:Pos}{ta tv:TE}
end
section
variable {Q:O->À->Prop}{c:O}{b:Ý}
inductive uf (K:PySem.W.Frag) (H:Hp):V->O->Prop where
 | non:uf K H .non (.type "NoneType")
 | bl (x:Ý):uf K H (.bl x) (.type "bool")
 | int (i:B):uf K H (.int i) (.type "int")
 | str (x:Ã):uf K H (.str x) (.type "str")
 | flt (x:UInt64):uf K H (.flt x) (.type "float")
 | lst {a:Z} {xs:G V} (e:H a=U (.lst xs)):uf K H (.ref a) (.type "list")
 | frz {a:Z} {o:Obj} {xs:G V} (e:H a=U (.frz o (.lst xs))):uf K H (.ref a) (.type "list")
 | tup {a:Z} {xs:G V} (e:H a=U (.tup xs)):uf K H (.ref a) (.type "tuple")
 | dK {a:Z} {kvs:G (Key × V)} (e:H a=U (.dK kvs)):uf K H (.ref a) (.type "dict")
 | dT {a:Z} {kvs:G (G Key × V)} (e:H a=U (.dT kvs)):uf K H (.ref a) (.type "dict")
 | ins {a C dx:Z} {fs:G (Ã × V)} (e:H a=U (.ins C dx fs)) (cl:Cls K C) (ha:PySem.W.findIn K (.ref C) "__class__"=U (U (.builtin "object.__class__")))
   (hn:PySem.W.specialIn K (.builtin "object.__class__") "__get__"=U (U (.builtin "getset_descriptor.__get__"))) (htk:PySem.W.takesIn K (.builtin "object.__class__")=U L)
   (hm:PySem.W.mroIn K C (.type "object")=U L):uf K H (.ref a) (.ref C)
theorem r0{x:V}{t:O}(I:Inv X pins σ H s)(rx:bI x u)(ty:uf X.K H x t)(e:Ö X.K t c=U b)(h:∀ tk,Q (.bool b) { s with toks:=tk }) :
  Ç (Ê X.prog X.w) A (call (.builtin "isinstance") [u,c]) Q E s:=by
 cases ty with
 | non=>cases (show u=É from rx);exact WI W.kitx_none I.kIn True.intro e (λ z=>nomatch z) h
 | bl y=>cases (show u=Value.bool y from rx);exact WI W.kitx_bool I.kIn True.intro e (λ z=>nomatch z) h
 | int i=>let(t,q):=(show ∃ t,u=Value.int i t from rx);cases q;exact WI W.kitx_int I.kIn True.intro e (λ z=>nomatch z) h
 | str y=>let(t,q):=(show ∃ t,u=Value.str y t from rx);cases q;exact WI W.kitx_str I.kIn True.intro e (λ z=>nomatch z) h
 | flt y=>let(t,q):=(show ∃ t,u=Value.float y t from rx);cases q;exact WI W.kitx_float I.kIn True.intro e (λ z=>nomatch z) h
 | @lst a xs ea=>
  cases (show u=Ë a from rx);let(_,_,n,_,h1):=(show bL X.prog X.w H s.heap a (.lst xs) from I.hok a _ ea);exact WI W.kitx_list I.kIn ⟨_,h1,J⟩ e (λ z=>nomatch z) h
 | @frz a ob xs ea=>
  cases (show u=Ë a from rx);let(_,_,_,n,_,h1):=(show bL X.prog X.w H s.heap a (.frz ob (.lst xs)) from I.hok a _ ea);exact WI W.kitx_list I.kIn ⟨_,h1,J⟩ e (λ z=>nomatch z) h
 | @tup a xs ea=>
  cases (show u=Ë a from rx);let(_,_,_,p):=(show bL X.prog X.w H s.heap a (.tup xs) from I.hok a _ ea);let(o,h1,h2,_):=p;exact WI W.kitx_tuple I.kIn ⟨o,h1,h2⟩ e (λ z=>nomatch z) h
 | @dK a kvs ea=>
  cases (show u=Ë a from rx);let(_,_,vs,_,p):=(show bL X.prog X.w H s.heap a (.dK kvs) from I.hok a _ ea);let(o,es,ep,h1,h2,_):=p;exact WI W.kitx_dict I.kIn ⟨o,h1,h2.1⟩ e (λ z=>nomatch z) h
 | @dT a kvs ea=>
  cases (show u=Ë a from rx);let(_,_,xs,_,o,es,ep,h1,h2,_):=(show bL X.prog X.w H s.heap a (.dT kvs) from I.hok a _ ea);exact WI W.kitx_dict I.kIn ⟨o,h1,h2.1⟩ e (λ z=>nomatch z) h
 | @ins a C dx fs ea cl ha hn htk hm=>
  cases (show u=Ë a from rx);let(mA,xz,_):=pA I.hok ea;let(od,wn,_):=xz.look;exact WI (W.kitx_own (cl.get _) cl.hd ha hn htk hm) I.kIn wn e (λ z=>nomatch z) h
end
structure iw(k:à)(A:Î):Prop where
 dp:A.depth+3 * k+5<recursionLimit
 un:A.units+16 * k+200<cLine
 gd:A.guards=U []
theorem iw.mono(r:iw k A)(h:j<=k):iw j A:=⟨by have:=r.dp;omega,by have:=r.un;omega,r.gd⟩
theorem iw.deeper(r:iw (k+1) A)(env:Env):iw k (A.deeper env):=
 ⟨by have:=r.dp;show A.depth+1+3 * k+5<_;omega,by have:=r.un;show A.units+3+16 * k+200<_;omega,r.gd⟩
theorem yB:(A.under (.builtin "type.__call__" ⟨.ref C::us,kw⟩)).depth=A.depth+1:=by
 first|rfl|simp[Around.under,Code.weight,Code.isCreation,Code.isGuard,Code.isCaller,Code.frames,Code.isFrame,guardIds]
theorem yA:(A.under (.builtin "type.__call__" ⟨.ref C::us,kw⟩)).units=A.units+1:=by
 first|rfl|simp[Around.under,Code.cUnits,Code.frames,Code.isFrame]
theorem vC:(A.under (.builtin "type.__call__" ⟨.ref C::us,kw⟩)).guards=A.guards:=by
 first|rfl|(simp[Around.under,Around.pushGuard,Code.isGuard,guardIds];done)
theorem iw.make(r:iw (k+1) A)(C:Z)(us:G O)(kw:G (Ã × O)):iw k (A.under (.builtin "type.__call__" ⟨.ref C::us,kw⟩)):=
 ⟨by have:=r.dp;rw[yB];omega,by have:=r.un;rw[yA];omega,by rw[vC];exact r.gd⟩
def iw.hand(r:iw k A)(e:Ü O):iw k (A.mark e):={(r.dp),r.un,r.gd}
theorem iw.depth(r:iw k A):A.depth<recursionLimit:=by have:=r.dp;omega
theorem iw.units(r:iw k A):A.units+64<cLine:=by have:=r.un;omega
def Rc:TA:=λ _ H Q=>Q [] H
def JC(ta:TE)(tr:TA):TA:=λ σ H Q=>ta σ H λ x H1=>tr σ H1 λ xs H2=>Q (x::xs) H2
section
variable {es:G Ñ}{te:TE}{t:TA}
theorem eB:PA X [] Rc:=λ _ _ _ _ H Q I h=>Calls.spliced_nil {[],H,I,.nil,h}
theorem KS(ha:PE X e te)(hr:PA X es t)(hs:starEach (e::es) X.env=(Â,eval e X.env)::starEach es X.env:=by rfl):PA X (e::es) (JC te t):=by
 intro pos pins s σ H Q I h;rw[hs]
 show Ç _ _ (spliced ((Â,eval e X.env)::backTo pos (starEach es X.env))) _ _ s
 refine Calls.spliced_cons (thn (ha pins s σ H _ I h) λ u s1 ⟨x,H1,I1,r1,q1⟩=>?_);exact thn (hr pos pins s1 σ H1 _ I1 q1) λ us s2 ⟨xs,H2,I2,r2,q2⟩=>{x::xs,H2,I2,.cons r1 r2,q2}
end
abbrev Sp:=G V->Hp->VK->XK->Prop
variable {sp:Sp}
abbrev CXT:=G Env->Hp->À->XK->O->À->Prop
variable {CX:CXT}
structure Jz(P:Ì)(w:Ï)(K:Å)(mg:Ã->Ü O)(base:Ð)(A:Î)(outer:G Env)(s:À)(H:Hp):Prop where
 frames:A.frames=U outer
 mod:Mod K mg base
 bs:∀ b o,base.get? b=U o->s.heap.get? b=U o/\H b=Y
 bsz:base.objs.size<=%[s|99]
 funs:s.heap.FunFrames base outer
 frf:∀ b∈frs outer,H b=Y
 hok:HOk P w H s.heap
 bare:AllBare s.gens
 soft:Jv A H
def CE(outer:G Env)(P:Ì)(w:Ï)(H:Hp)(s:À)(Q:VK)(u:O)(s':À):Prop:=
 ∃ v H',s'.os=s.os/\AllBare s'.gens/\Un (frs outer) [] H H' s.heap s'.heap/\HOk P w H' s'.heap/\bI v u/\Q v H'
def CR(CX:CXT)(outer:G Env)(P:Ì)(w:Ï)(H:Hp)(s:À)(Q:VK)(E:XK)(r:Result)(s':À):Prop:=
 match r with
 | .ok (.ret u)=>CE outer P w H s Q u s'
 | .ok _=>False
 | .error e=>CX outer H s E e s'
structure eV(c:Ý)(P:Ì)(w:Ï)(K:Å)(mg:Ã->Ü O)(base:Ð)(CX:CXT)(k:à)(f:Z)(fd:Á)(ps:G Ã)(sp:Sp):Prop where
 len:∀ vs H Q E,sp vs H Q E->vs.length=ps.length
 run:∀ (A:Î) (outer:G Env) (s:À) (H:Hp) (args:Args) (us:G O) (vs:G V) (Q:VK) (E:XK),iw k A->(c=L->A.handled=Y)->Jz P w K mg base A outer s H->BindsTo s fd args (ps.zip us)->aX vs us->sp vs H Q E →
  codeAny (Ê P w) A (.call (.ref f) args) (CR CX outer P w H s Q E) s
theorem eV.mono{c:Ý}{f:Z}(F:eV c P w K mg base CX j f fd ps sp)(h:j<=k) :
  eV c P w K mg base CX k f fd ps sp:={F.len,λ A outer s H args us vs Q E hr=>F.run A outer s H args us vs Q E (hr.mono h)}
abbrev au:=@eV L
abbrev yj:=@eV Â
theorem eV.imp{c:Ý}{f:Z}{a3:Sp}(F:eV c P w K mg base CX k f fd ps sp)
  (h:∀ vs H Q E,a3 vs H Q E->sp vs H Q E):eV c P w K mg base CX k f fd ps a3:=
 ⟨λ vs H Q E q=>F.len vs H Q E (h _ _ _ _ q),λ A outer s H args us vs Q E hr hc he hb hv hs=>F.run A outer s H args us vs Q E hr hc he hb hv (h _ _ _ _ hs)⟩
theorem Jz.make{outer:G Env}(e:Jz P w K mg base A outer s H)(C:Z)(us:G O)(kw:G (Ã × O)) :
  Jz P w K mg base (A.under (.builtin "type.__call__" ⟨.ref C::us,kw⟩)) outer s H:={by first|exact e.frames|(simpa [Around.under,Code.envs,Code.isFrame,pushEnvs] using e.frames),e.mod,e.bs,e.bsz,e.funs,e.frf,e.hok,e.bare,by have:=e.soft;first|exact this|(intro a h;exact this a (by simpa [Around.under] using h))}
section
variable {s':À}
def Inv.env0(I:Inv X pins σ H s):Jz X.prog X.w X.K X.mg X.base X.A X.stack s H:=
 ⟨I.ok.frames,I.ok.mod,I.bs,Vv I.ok.bsz I.sz,I.stack,I.stkFree,I.hok,I.bare,I.soft⟩
theorem Inv.after{Q:VK}(I:Inv X pins σ H s)(h:CE X.stack X.prog X.w H s Q u s'):EP X pins σ Q u s':=by
 let(v,H',os,bare,un,hok,r,q):=h;let(hh,g,d,t,a3):=s';obtain rfl:a3=s.os:=os;exact{v,H',I.call (h':=hh) (g':=g) (d':=d) (t':=t) (ch:=[]) un hok bare (λ b z=>Þ z (by simp)),r,q}
end
def Nq(sp:Sp)(dvs:G V)(E:XK)(t:TA):TE:=λ σ H Q=>t σ H λ vs H1=>sp (vs++dvs) H1 Q E
def ao(K:Å)(fd:Á)(ps:G Ã)(ds:G O):Prop:=
 ∀ (s:À) (us:G O),K.In s.heap->(us++ds).length=ps.length->BindsTo s fd {us,[]} (ps.zip (us++ds))
theorem ao.all(h:∀ us:G O,us.length=ps.length->bindArgs fd {us,[]}=pure (ps.zip us)):ao K fd ps []:=λ s us _ hl=>by
 rw[W9] at hl ⊢;exact .of_eq (h us hl)
def jm(CX:CXT)(X:Cx)(E:XK):Prop:=∀ (pins:G (Z × Obj)) (σ:St) (H:Hp) (s:À) (e:O) (s':À),Inv X pins σ H s->CX X.stack H s E e s'->X.xe e s'
section
variable {cb:Ý}{f:Z}{dvs:G V}{ds:G O}{E:XK}{m:Ã}{p apos:Pos}{o:Ñ}{es:G Ñ}{ta:TE}{t:TA}
theorem wC{Q:VK}(a3:(!cb || X.calm)=L)(F:eV cb X.prog X.w X.K X.mg X.base CX k f fd ps sp)(hr:iw k X.A)(hb:ao X.K fd ps ds)(hd:aX dvs ds)(hx:jm CX X E)
  (I:Inv X pins σ H s) (r:aX vs us) (h:sp (vs++dvs) H Q E):Ç (Ê X.prog X.w) X.A (call (.ref f) us) (EP X pins σ Q) X.xe s:=by
 let r2:aX (vs++dvs) (us++ds):=r.append hd;let hl:(us++ds).length=ps.length:=by rw[←r2.length];exact F.len _ _ _ _ h
 refine WX (We (F.run X.A X.stack s H ⟨us,[]⟩ (us++ds) (vs++dvs) Q E hr (λ z=>I.ok.hd (by subst z;exact a3)) I.env0 (hb s us I.kIn hl) r2 h) λ r s' hq=>?_)
 cases r with
 | error e=>exact hx pins σ H s e s' I hq
 | ok fl=>
  cases fl with
  | ret u=>exact I.after hq
  | next=>exact False.elim hq
  | brk=>exact False.elim hq
  | cont=>exact False.elim hq
theorem Bu(F:eV cb X.prog X.w X.K X.mg X.base CX k f fd ps sp)(hr:iw k X.A)(hg:Gl X x)(hm:X.mg x=U (.ref f))(hk:W.keepIn X.K (.ref f)=L)(hb:ao X.K fd ps ds)(hd:aX dvs ds)(hx:jm CX X E)
  (ha:PA X (e::es) t) (a3:(x == ("__debug__":Ã))=Â:=by decide) (he:starEach (e::es) X.env=(Â,eval e X.env)::starEach es X.env:=by rfl) (a4:(backTo pos (starEach es X.env)).any (·.1)=Â:=by rfl) (a5:(!cb || X.calm)=L:=by rfl) :
  PE X (.Call (.Name x p) (e::es) [] pos) (Nq sp dvs E t):=by
 intro pins s σ H Q I h;refine Wn (dM I hg hm ?_ a3);refine XF (h₀:=X.base) I.ok.mod.kin hk (thn (ha pos pins s σ H _ I h) λ us s1 ⟨vs,H1,I1,r,q⟩=>{I1.kIn,?_}) he a4;exact wC a5 F hr hb hd hx I1 r q
structure Mk(K:Å)(C f:Z):Prop where
 makes:W.makesIn K C=L
 init:È K (.ref C) "__init__"=U (U (.ref f))
 fn:W.isFn K (.ref f)=L
 kp:W.keepIn K (.ref C)=L
theorem Fv{Q:VK}(a4:(!cb || X.calm)=L)(M:Mk X.K C f)(F:eV cb X.prog X.w X.K X.mg X.base CX k f fd ps sp)(hr:iw (k+1) X.A)(hb:ao X.K fd ps ds)(hd:aX dvs ds)
  (hx:jm CX X E) (I:Inv X pins σ H s) (r:aX vs us)
  (h:∀ x dx,H x=Y->H dx=Y->dx≠x->sp (.ref x::(vs++dvs)) (upd (upd H dx (.own x)) x (.ins C dx [])) (λ v H2=>v=.non/\Q (.ref x) H2) E) :
  Ç (Ê X.prog X.w) X.A (call (.ref C) us) (EP X pins σ Q) X.xe s:=by
 let hq:=h (%[s|99]+1) %[s|99] (I.hok.fresh (Xe _)) (I.hok.fresh (U6 _)) (Vl (XG _));let I2:=Inv.made (C:=C) I;let r2:aX (V.ref (%[s|99]+1)::(vs++dvs)) (Ë (%[s|99]+1)::(us++ds)):=.cons J (r.append hd)
 let hl:(Ë (%[s|99]+1)::us++ds).length=ps.length:=by
  let e:=r2.length;rw[F.len _ _ _ _ hq] at e;exact e.symm
 refine WX (Gk (f:=f) I.kIn M.makes M.init (Wk.mp M.fn) (We (F.run _ X.stack _ _ ⟨Ë (%[s|99]+1)::us,[]⟩ (Ë (%[s|99]+1)::(us++ds)) _ _ E (hr.make C us []) (λ z=>I.ok.hd (by subst z;exact a4))
  (I2.env0.make C us []) (hb _ (Ë (%[s|99]+1)::us) I2.kIn hl) r2 hq) λ r s' a3=>?_))
 cases r with
 | error e=>exact hx pins σ _ _ e s' I2 a3
 | ok fl=>
  cases fl with
  | ret u=>
   let(v,H',I3,rv,ev,q3):=I2.after a3;subst ev;exact{rv,{V.ref (%[s|99]+1),H',I3,J,q3}}
  | next=>exact False.elim a3
  | brk=>exact False.elim a3
  | cont=>exact False.elim a3
end
section
variable {cb:Ý}{f:Z}{ks:G Ã}{E:XK}{m:Ã}{p apos kpos:Pos}{o:Ñ}{es:G Ñ}{kws:G Keyword}{te ta:TE}{t tk:TA}{nm:Ü Ã}
variable {g:G O->G O->G O}{gV:G V->G V->G V}
end
structure af(N P:G Ã)(sc:Scope):Prop where
 kind:sc.kind=.function
 co:sc.isCoroutine=Â
 gen:sc.isGenerator=Â
 nd:N.Nodup
 pre:N.take P.length=P
 par:∀ x∈P,sc.names.lookup x=U .local\/sc.names.lookup x=U .cell
 nofree:∀ y∈sc.names,y.2 ≠ .free
theorem sI{kindOf:Ã->Ü NameKind}:∀ {binds:G (Ã × O)}{m:Ã->Ü O},(∀ v,(x,v) ∉ binds)->bindL kindOf binds m x=m x
 | [],_,_=>rfl
 | (n,v)::r,m,h=>by
  unfold bindL;rw[sI λ w hw=>h w (mem_cons_of_mem _ hw)];split
  ·have:x≠n:=by rintro rfl;exact h v Vq
   simp[this]
  ·rfl
theorem sL{kindOf:Ã->Ü NameKind}:∀ {binds:G (Ã × O)}{m:Ã->Ü O},(∀ v,(x,v) ∉ binds)->bindC kindOf binds m x=m x
 | [],_,_=>rfl
 | (n,v)::r,m,h=>by
  unfold bindC;rw[sL λ w hw=>h w (mem_cons_of_mem _ hw)];split
  ·rfl
  ·have:x≠n:=by rintro rfl;exact h v Vq
   simp[this]
theorem sJ{kindOf:Ã->Ü NameKind}{x:Ã}{v:O}:∀ {P:G Ã}{vs:G O}{i:à}{m:Ã->Ü O},P.Nodup->P[i]? = U x->vs[i]? = U v->kindOf x=U .local →
  bindL kindOf (P.zip vs) m x=U v
 | [],_,_,_,_,h,_,_=>by simp at h
 | _::_,[],_,_,_,_,h,_=>by simp at h
 | p::P,w::vs,0,m,nd,h1,h2,hk=>by
  simp at h1 h2;subst h1;subst h2
  show bindL kindOf ((p,w)::P.zip vs) m p=_
  unfold bindL;rw[sI λ v hv=>(List.nodup_cons.mp nd).1 (of_mem_zip hv).1,if_pos hk];simp
 | p::P,w::vs,i+1,m,nd,h1,h2,hk=>by
  show bindL kindOf ((p,w)::P.zip vs) m x=_
  unfold bindL;exact sJ (i:=i) (List.nodup_cons.mp nd).2 (by simpa using h1) (by simpa using h2) hk
theorem sM{kindOf:Ã->Ü NameKind}{x:Ã}{v:O}:∀ {P:G Ã}{vs:G O}{i:à}{m:Ã->Ü O},P.Nodup->P[i]? = U x->vs[i]? = U v->kindOf x≠U .local →
  bindC kindOf (P.zip vs) m x=U v
 | [],_,_,_,_,h,_,_=>by simp at h
 | _::_,[],_,_,_,_,h,_=>by simp at h
 | p::P,w::vs,0,m,nd,h1,h2,hk=>by
  simp at h1 h2;subst h1;subst h2
  show bindC kindOf ((p,w)::P.zip vs) m p=_
  unfold bindC;rw[sL λ v hv=>(List.nodup_cons.mp nd).1 (of_mem_zip hv).1,if_neg hk];simp
 | p::P,w::vs,i+1,m,nd,h1,h2,hk=>by
  show bindC kindOf ((p,w)::P.zip vs) m x=_
  unfold bindC;exact sM (i:=i) (List.nodup_cons.mp nd).2 (by simpa using h1) (by simpa using h2) hk
def start(N:G Ã)(vs:G V):St:=vs.map U++Í (N.length - vs.length) Y
def Ae(cb:Ý)(CX:CXT)(P:Ì)(w:Ï)(K:Å)(mg:Ã->Ü O)(base:Ð)(N:G Ã)(qual:Ã)(scope:Scope)(f:Z)(cd:O)(A:Î)(outer:G Env)(s:À)(H:Hp)(E:XK):Cx where
 prog:=P
 w:=w
 K:=K
 mg:=mg
 base:=base
 A:=A.deeper (envOfC qual scope %[s|99] f cd)
 N:=N
 s₀:=s
 H₀:=H
 env:=envOfC qual scope %[s|99] f cd
 outer:=outer
 stack:=envOfC qual scope %[s|99] f cd::outer
 ex:=[]
 calm:=cb
 fn:=λ _=>L
 pn:=[]
 xe:=λ e s'=>Ç (Ê P w) (A.deeper (envOfC qual scope %[s|99] f cd)) (leaving (envOfC qual scope %[s|99] f cd) e) (λ _ a3=>CX outer H s E e a3) (λ e' a3=>CX outer H s E e' a3) s'
theorem xx{sc:Scope}{n:à}(h:sc.names.lookup x=U .cell):∃ c,(cellsFrom n sc.names []).lookup x=U c:=by
 let q:=W.cellsFrom_some sc.names n [] (.inl h);exact WQ.mp q
theorem DX{cb:Ý}{qual:Ã}{scope:Scope}{f:Z}{cd:O}{outer:G Env}{s1:À}{E:XK}
  (S:af N ps scope) (hd:cb=L->A.handled=Y) (e0:Jz P w K mg base A outer s H) (hl:vs.length=ps.length) (r:aX vs us)
  (x:InCallC s %[s|99] (bindL (envOfC qual scope %[s|99] f cd).kindOf (ps.zip us) λ _=>Y) (cellsFrom (%[s|99]+1) scope.names []) (bindC (envOfC qual scope %[s|99] f cd).kindOf (ps.zip us) λ _=>Y) s1) :
  Inv (Ae cb CX P w K mg base N qual scope f cd A outer s H E) [] (start N vs) H s1:=by
 let a5:ps.length<=N.length:=by have:=VQ List.length S.pre;rw[Vu] at this;omega
 let(h1,tk,rfl,hk):=x.done;let a3:∀ b:Z,b ∉ (Ae cb CX P w K mg base N qual scope f cd A outer s H E).ex:=λ b z=>Þ (show b∈([]:G Z) from z) (by simp)
 refine{⟨e0.mod,S.kind,J,J,U6 _,λ y z c h1 h2=>?_,λ y hy=>?_,λ y c _ h=>?_,hd,e0.soft,Around.frames_deeper e0.frames,.inr {(J),J},λ b z=>Þ z (a3 b),e0.bs,e0.bsz,λ b _ _=>a3 b,λ b z=>Þ z (a3 b),e0.funs,e0.frf⟩,
  rfl,e0.bare,Un.kept hk,{_,x.toInCall.ns,λ i y v h1 h2 h3=>?_},λ y c h=>{_,x.cell y c h},e0.hok.fresh (U6 _),λ y c h=>?_,λ p hp=>Þ (show p∈([]:G (Z × Obj)) from hp) (by simp),e0.hok.kept hk,?_}
 ·exact name_of_addr x.apart (WM h1) (WM h2)
 ·let hy:scope.names.lookup y=U .cell\/scope.names.lookup y=U .free:=hy
  rcases hy with hy|hy
  ·exact xx hy
  ·exact Þ J (S.nofree _ (WM hy))
 ·exact Xk (x.above y c (WM h))
 ·let hi:i<vs.length:=by
   unfold start at h2
   by_cases hi:i<vs.length
   ·exact hi
   ·rw[V3 (by simpa using hi)] at h2;rw[WV] at h2
    split at h2<;>cases h2
  let ha:vs[i]? = U v:=by
   unfold start at h2;rw[List.getElem?_append_left (by simpa using hi),getElem?_map] at h2
   cases e:vs[i]? with
   | none=>rw[e] at h2;cases h2
   | some a=>rw[e] at h2;cases h2;rfl
  let(u,hu,rv):=r.get ha
  let hp:ps[i]? = U y:=by
   rw[←S.pre,List.getElem?_take_of_lt (by omega)];exact h1
  let a4:ps.Nodup:=by rw[←S.pre];exact S.nd.sublist (List.take_sublist _ _)
  refine{u,rv,?_}
  rcases S.par y (Vx hp) with k|k
  ·exact .inl {k,sJ a4 hp hu k}
  ·let(c,e):=xx (n:=%[s|99]+1) k;refine .inr {.inl k,c,e,?_};let q:=x.cell y c e;rw[sM a4 hp hu (by show scope.names.lookup y≠_;rw[k];decide)] at q;exact q
 ·exact e0.hok.fresh (Xk (x.above y c (WM h)))
 ·unfold start
  show _=N.length
  rw[Va,U2,WB];omega
theorem N5{cb:Ý}{f:Z}{name qual:Ã}{params:Arguments}{body:G Stmt}{scope:Scope}{dV kV doc pm cdv ct oc:O}{an od:Ü Z}
  {osl:Array (Ü O)}   (lk:K.lookup f=U {oc,od,.func (W.fnOf name qual params body scope dV kV doc pm an cdv ct),osl}) (a6:W.codeIn K cdv qual=L) (S:af N ps scope)
  (len:∀ vs H Q E,sp vs H Q E->vs.length=ps.length)
  (a3:∀ (A:Î) (outer:G Env) (s:À) (H:Hp) (vs:G V) (Q:VK) (E:XK),iw k (A.deeper (envOfC qual scope %[s|99] f cdv))->sp vs H Q E →
   ∃ t,PSs (Ae cb CX P w K mg base N qual scope f cdv A outer s H E) body t/\t { nx:=λ _ H'=>Q .non H',rt:=Q } (start N vs) H) :
  eV cb P w K mg base CX (k+1) f (W.fnOf name qual params body scope dV kV doc pm an cdv ct) ps sp:=by
 refine{len,λ A outer s H args us vs Q E hr a7 e0 hb r a5=>?_};let hl:=len _ _ _ _ a5;let KX:K.In s.heap:=e0.mod.kin.keeps λ b o e=>(e0.bs b o e).1;let lim:s.heap.NoLimit:=e0.mod.nolimit.keeps λ b o e=>(e0.bs b o e).1
 let a4:∀ y∈ps.zip us,scope.names.lookup y.1=U .local\/(scope.names.lookup y.1=U .cell/\((cellsFrom (%[s|99]+1) scope.names []).lookup y.1).isSome=L):=λ ⟨n,v⟩ hy=>by
  rcases S.par n (X9 hy).1 with q|q
  ·exact .inl q
  ·exact .inr {q,W.cellsFrom_some _ _ _ (.inl q)}
 refine codeAny_call_function hr.depth (KX _ _ lk) J S.co S.gen J (W.codeRec_of KX a6) (hb _ _ _ _ ?_);refine wpAny_newFunctionEnv_cells S.kind a4 λ env he s1 x=>?_;subst he;refine{lim.keeps x.toInCall.keep,codeAny_func ?_};let(t,ht,hq):=a3 A outer s H vs Q E (hr.deeper _) a5;let I:Inv (Ae cb CX P w K mg base N qual scope f cdv A outer s H E) [] (start N vs) H s1:=DX S a7 e0 hl r x;refine Wj (ht [] s1 (start N vs) H _ I hq) (λ fl s' hs=>?_) λ e s' hs=>hs
 let fin:∀ {σ':St} {H':Hp} {v:V} {u:O},Inv (Ae cb CX P w K mg base N qual scope f cdv A outer s H E) [] σ' H' s'->bI v u->Q v H'->CE outer P w H s Q u s':=
  λ {σ' H' v u} wn rv q=>{(v),H',wn.os,wn.bare,wn.base,wn.hok,rv,q}
 cases fl with
 | ret u=>
  let(v,σ',H',wn,rv,q):=hs;exact fin wn rv q
 | next=>
  let(σ',H',wn,q):=hs;exact fin (v:=V.non) (u:=É) wn J q
 | brk=>
  let(_,_,_,q):=hs;exact False.elim q
 | cont=>
  let(_,_,_,q):=hs;exact False.elim q
section
variable {X:Cx}{x:Ã}{p pos:Pos}{e:Ñ}{es:G Ñ}{t:TA}{id T:String}{r:G V->Hp->VK->Prop}
def tCB(r:G V->Hp->VK->Prop)(t:TA):TE:=λ σ H Q=>t σ H λ vs H1=>r vs H1 Q
theorem lL(hc:bK X (.builtin id) r)(hg:Gl X x)(hm:X.mg x=Y)(hv:bootBuiltins x=U (.builtin id))(ha:PA X (e::es) t)(hn:x ≠ "__name__":=by decide)(a3:(x == ("__debug__":Ã))=Â:=by decide)
  (he:starEach (e::es) X.env=(Â,eval e X.env)::starEach es X.env:=by rfl) (a4:(backTo pos (starEach es X.env)).any (·.1)=Â:=by rfl):PE X (.Call (.Name x p) (e::es) [] pos) (tCB r t):=by
 intro pins s σ H Q I h;refine Wn (jl I hg hm hv ?_ hn a3);exact Yr (thn (ha pos pins s σ H _ I h) λ us s1 ⟨vs,H1,I1,r1,q1⟩=>hc pins s1 σ H1 vs us Q I1 r1 q1) he a4
theorem Cm(hc:bK X (.type T) r)(hg:Gl X x)(hm:X.mg x=Y)(hv:bootBuiltins x=U (.type T))(ha:PA X (e::es) t)(hn:x ≠ "__name__":=by decide)(a3:(x == ("__debug__":Ã))=Â:=by decide)
  (he:starEach (e::es) X.env=(Â,eval e X.env)::starEach es X.env:=by rfl) (a4:(backTo pos (starEach es X.env)).any (·.1)=Â:=by rfl):PE X (.Call (.Name x p) (e::es) [] pos) (tCB r t):=by
 intro pins s σ H Q I h;refine Wn (jl I hg hm hv ?_ hn a3);exact V4 (thn (ha pos pins s σ H _ I h) λ us s1 ⟨vs,H1,I1,r1,q1⟩=>hc pins s1 σ H1 vs us Q I1 r1 q1) he a4
end
end L2
namespace HT
open PySem PyProof.Rows
section
open PySem.SeqAt
open PySem.AutoSeq1 (wpAny_loadPart')
open PySem.MeetsSeq PySem.MeetsSeq2 PySem.MeetsSeq3
end
section
variable {prog:Ì}{w:Ï}{A:Î}{E:O->À->Prop}{s:À}
theorem cat_tup{t b:Z}{vs ws:G O}{Q:O->À->Prop}(ht:IsTup s.heap t vs.toArray)(hb:IsTup s.heap b ws.toArray)(hv:vs ≠ [])
  (h1:ws=[]->Q (.ref t) s) (h2:ws ≠ []->Q (.ref %[s|99]) { s with heap:=s.heap.push { cls:=.type "tuple",data:=.seq (vs++ws).toArray } })
  (hsz:vs.length+ws.length<=Æ):Ç (Ê prog w) A (binaryOp .Add (.ref t) (.ref b)) Q E s:=by
 let((cls,dd,data,sl),ho,hc,n,hd):=id ht;let((a7,a4,data2,a5),a3,a6,n2,hd2):=id hb;simp only at hc hd a6 hd2;subst hc hd a6 hd2;let e:vs.toArray++ws.toArray=(vs++ws).toArray:=by simp
 by_cases hw:ws=[]
 ·exact concat_meets {_,ho,J} ⟨_,a3,J⟩ noFill_tuple_add seq_tuple_add XI XB (Xv _ _)
   (tuple_addW1 t b vs.toArray ws.toArray n n2 dd a4 sl a5 (by simpa using hv) (by simp[hw])) {ho,a3,h1 hw}
 ·refine concat_meets {_,ho,J} ⟨_,a3,J⟩ noFill_tuple_add seq_tuple_add XI XB (Xv _ _)
   (tuple_addW2 t b vs.toArray ws.toArray n n2 dd a4 sl a5 (by simpa using hv) (by simpa using hw) (by rw[Vj,Vj];exact hsz)) {ho,a3,?_}
  rw[e];exact h2 hw
def sIx(n d:à):Ü B->à
 | none=>d
 | some v=>if v<0 then (v+(n:B)).toNat else min v.toNat n
def sIx_none(n d:à):sIx n d Y=d:=rfl
theorem sIx_nat(n d k:à):sIx n d (U (k:B))=min k n:=by
 show (if (k:B)<0 then ((k:B)+(n:B)).toNat else min (k:B).toNat n)=min k n
 rw[U7 (by omega),VC]
theorem Oq(n d:à)(hd:d<=n)(o:Ü B):sIx n d o<=n:=by
 cases o with
 | none=>exact hd
 | some v=>
  show (if v<0 then (v+(n:B)).toNat else min v.toNat n)<=n
  by_cases hv:v<0
  ·rw[Ve hv];omega
  ·rw[U7 hv];exact Nat.min_le_right _ _
theorem BR(v:B)(n d:à):(if v<0 then max (v+(n:B)) 0 else min v (n:B))=((sIx n d (U v):à):B):=by
 show (if v<0 then max (v+(n:B)) 0 else min v (n:B))=(((if v<0 then (v+(n:B)).toNat else min v.toNat n):à):B)
 by_cases hv:v<0
 ·simp only[Ve hv];omega
 ·simp only[U7 hv];omega
theorem zL(lo hi:Ü B)(n:à):Builtin.Slice.sliceAdjust lo hi 1 (n:B)=(((sIx n 0 lo:à):B),((sIx n n hi:à):B)):=by
 let h1:¬ ((1:B)<0):=by omega
 unfold Builtin.Slice.sliceAdjust;simp only[h1,if_false];refine Prod.ext ?_ ?_
 ·cases lo with
  | none=>rfl
  | some v=>exact BR v n 0
 ·cases hi with
  | none=>rfl
  | some v=>exact BR v n n
theorem yu(i j:à):Builtin.Slice.slicePlaces (i:B) (j:B) 1=j - i:=by
 unfold Builtin.Slice.slicePlaces;let h1:(1:B) > 0:=by omega
 simp only[h1,Yi,Int.ediv_one]
 split<;>omega
theorem oC{v:O}{o:Ü B}{Q:Ü B->À->Prop}(p:IsPart v o)(h:Q o s):Ç (Ê prog w) A (Builtin.Slice.slicePartIndex v) Q E s:=by
 cases p with
 | none=>exact slicePart_none h
 | int i t=>exact slicePart_int h
theorem fX{sl:Z}{vl vu:O}{lo hi:Ü B}{n:à}{Q:B × B × à->À->Prop}(hs:s.heap.IsSliceOf sl vl vu .none)(pl:IsPart vl lo)(pu:IsPart vu hi)
  (h:Q (((sIx n 0 lo:à):B),1,sIx n n hi - sIx n 0 lo) s):Ç (Ê prog w) A (Builtin.Slice.sliceApplied (.ref sl) (pure (n:B))) Q E s:=by
 let(os,a3,a5,a4):=id hs;unfold Builtin.Slice.sliceApplied Builtin.Slice.sliceFields;refine wpAny_bind (wpAny_bind (wpAny_field a3 a4 (x:=vl) J (wpAny_bind (wpAny_field a3 a4 (x:=vu) J (wpAny_bind (wpAny_field a3 a4 (x:=.none) J (wpAny_pure ?_)))))));refine wpAny_bind (slicePart_none ?_)
 show Ç _ _ (if ((1:B) == 0)=L then _ else _) _ _ s
 rw[U7 (by decide)];refine My (oC pl (My (oC pu (My (U3 ?_)))))
 show Ç _ _ (match Builtin.Slice.sliceAdjust lo hi 1 (n:B) with|(lo,hi)=>pure (lo,(1:B),Builtin.Slice.slicePlaces lo hi 1)) _ _ s
 rw[zL lo hi n]
 show Ç _ _ (pure (((sIx n 0 lo:à):B),(1:B),Builtin.Slice.slicePlaces ((sIx n 0 lo:à):B) ((sIx n n hi:à):B) 1)) _ _ s
 rw[yu];exact U3 h
theorem FI(xs:Array O)(i k:à):((Ó k).filterMap λ (m:à)=>xs[((i:B)+(m:B) * 1).toNat]?).toArray=((xs.toList.drop i).take k).toArray:=by
 let e:(λ (m:à)=>xs[((i:B)+(m:B) * 1).toNat]?)=λ m=>xs[i+m]?:=by
  funext m;have:((i:B)+(m:B) * 1).toNat=i+m:=by omega
  rw[this]
 rw[e];have:=pick_run xs i k;rw[List.filterMap_map] at this;let e2:((λ x=>xs[x]?) ∘ λ x=>i+x)=λ m=>xs[i+m]?:=rfl;rw[e2] at this;rw[this]
theorem getItem_tuple_cut{t sl:Z}{items:Array O}{vl vu:O}{lo hi:Ü B}{Q:O->À->Prop}(ht:IsTup s.heap t items)(hs:s.heap.IsSliceOf sl vl vu .none)(pl:IsPart vl lo)(pu:IsPart vu hi)
  (hw:¬ (sIx items.size 0 lo=0/\sIx items.size items.size hi=items.size))
  (h:Q (.ref %[s|99]) { s with heap:=s.heap.push { cls:=.type "tuple",data:=.seq ((items.toList.drop (sIx items.size 0 lo)).take (sIx items.size items.size hi - sIx items.size 0 lo)).toArray } })
  (hsz:items.size<=Æ):Ç (Ê prog w) A (getItem (.ref t) (.ref sl)) Q E s:=by
 let a3:sizeOk (.seq ((items.toList.drop (sIx items.size 0 lo)).take (sIx items.size items.size hi - sIx items.size 0 lo)).toArray):=by
  show ((items.toList.drop (sIx items.size 0 lo)).take (sIx items.size items.size hi - sIx items.size 0 lo)).toArray.size<=Æ
  rw[Vj,Vu,WA,WO];omega
 let hj:sIx items.size items.size hi<=items.size:=Oq _ _ (Nat.le_refl _) hi;let(os,a4,a5,a8):=id hs;let a6:s.TypeIs (.ref sl) "slice":={(os),a4,a5};unfold getItem
 try with_reducible refine Vy ?_
 first|refine My (U3 ?_)|skip
 refine My (wpAny_sequenceKey ht.typeIs (by decide) ?_)
 refine My (VG (name:=Ô "__getitem__") ht.typeIs VS
  (V9 VS ht.typeIs entry_tuple_getitem ?_ (args_tuple_getitem _ _)))
 show Ç _ _ (Builtin.Tuple.tupleItemsOf (.ref t) >>= _) _ _ s
 refine My (tupleItemsOf_ ht ?_);refine My (X6 a6 ?_);rw[Ve (by decide)];refine My (fX hs pl pu ?_)
 let a7:¬ ((((sIx items.size 0 lo:à):B) == 0 && (1:B) == 1 && (sIx items.size items.size hi - sIx items.size 0 lo) == items.size)=L):=by
  intro q;rw[V6,V6] at q;let q1:((sIx items.size 0 lo:à):B)=0:=eq_of_beq q.1.1;let q2:sIx items.size items.size hi - sIx items.size 0 lo=items.size:=eq_of_beq q.2;exact hw {by omega,by omega}
 show Ç _ _ (if (((sIx items.size 0 lo:à):B) == 0 && (1:B) == 1 && (sIx items.size items.size hi - sIx items.size 0 lo) == items.size)=L then _ else _) _ _ s
 rw[U7 a7,FI]
 first
  | exact My (m:=Builtin.Tuple.tupleExact _) (Wi (U3 ⟨_,J,U3 h⟩) a3)
  | exact My (m:=Builtin.Tuple.tupleExact _) (Wi (My (U3 (U3 ⟨_,J,U3 h⟩))) a3)
  | exact My (My (m:=Builtin.Tuple.tupleExact _) (Wi (U3 (U3 ⟨_,J,U3 h⟩)) a3))
  | exact My (My (m:=Builtin.Tuple.tupleExact _) (Wi (U3 ⟨_,J,U3 h⟩) a3))
end
end HT
namespace L2
open PySem PySem.Spec PyProof.Rows
variable {xs:G V}{us its:G O}{α:Type}{n:à}{pins:G (Z × Obj)}{σ:St}{s:À}{x:V}
abbrev TO:=St->Hp->(Ü B->Hp->Prop)->Prop
def PO(X:Cx)(e:Ü Ñ)(t:TO):Prop:=
 ∀ (pins:G (Z × Obj)) (s:À) (σ:St) (H:Hp) (Q:Ü B->Hp->Prop),Inv X pins σ H s->t σ H Q →
  Ç (Ê X.prog X.w) X.A (evalPart e X.env) (λ u s'=>∃ o H',Inv X pins σ H' s'/\IsPart u o/\Q o H') X.xe s
def Bh:TO:=λ _ H Q=>Q Y H
def Nj(t:TE):TO:=λ σ H Q=>t σ H λ x H1=>∃ i,x=.int i/\Q (U i) H1
theorem zu{ns:G B}:∀ {us:G O},aX (ns.map V.int) us->IntsAre us ns:=by
 induction ns with
 | nil=>intro us r;rw[XW] at r;cases r;exact .nil
 | cons n ns ih=>
  intro us r;rw[Vs] at r
  cases r with
  | cons r1 r2=>
   let(t,e):=r1;subst e;exact .cons n t (ih r2)
section
variable {X:Cx}{e:Ñ}{te:TE}{lo hi:Ü Ñ}{tl th:TO}{pos p2:Pos}
theorem bX:PO X Y Bh:=by
 intro pins s σ H Q I h;rw[evalPart_none];exact U3 {Y,H,I,.none,h}
theorem KC(h:PE X e te):PO X (U e) (Nj te):=by
 intro pins s σ H Q I hw;rw[evalPart_some];refine thn (h pins s σ H _ I hw) λ u s1 ⟨x,H1,I1,r1,q1⟩=>?_;let(i,rfl,q):=q1;let(t,rfl):=r1;exact{U i,H1,I1,.int i t,q}
def SlR(X:Cx)(r:V->Ü B->Ü B->Hp->VK->Prop):Prop:=
 ∀ (pins:G (Z × Obj)) (s:À) (σ:St) (H:Hp) (x:V) (v vl vu:O) (lo hi:Ü B) (sl:Z) (Q:VK),Inv X pins σ H s->bI x v->s.heap.IsSliceOf sl vl vu .none->IsPart vl lo->IsPart vu hi->r x lo hi H Q →
  ∃ T id,typeLookup (.type T) "__getitem__"=pure (U (.builtin id))/\s.TypeIs v T/\Ç (Ê X.prog X.w) X.A (getItem v (.ref sl)) (EP X pins σ Q) X.xe s
def tSl(r:V->Ü B->Ü B->Hp->VK->Prop)(te:TE)(tl th:TO):TE:=λ σ H Q=>te σ H λ x H1=>tl σ H1 λ l H2=>th σ H2 λ u H3=>r x l u H3 Q
theorem FN{r:V->Ü B->Ü B->Hp->VK->Prop}(hr:SlR X r)(he:PE X e te)(hl:PO X lo tl)(hu:PO X hi th):PE X (.Subscript e (.Slice lo hi Y p2) pos) (tSl r te tl th):=by
 intro pins s σ H Q I h;refine Subscript_ (thn (he pins s σ H _ I h) λ v s1 ⟨x,H1,I1,r1,q1⟩=>?_);refine wpAny_Slice (thn (hl pins s1 σ H1 _ I1 q1) λ vl s2 ⟨l,H2,I2,pl,q2⟩=>thn (hu pins s2 σ H2 _ I2 q2) λ vu s3 ⟨u,H3,I3,pu,q3⟩=>?_);rw[evalPart_none];refine U3 ?_;let I4:Inv X pins σ H3 { s3 with heap:=s3.heap.push { cls:=.type "slice",data:=.fields #[vl,vu,.none] } }:=I3.kept (t':=s3.toks) λ b ob q=>U0 _ q;let(T,id,hT,ht,hg):=hr pins { s3 with heap:=s3.heap.push { cls:=.type "slice",data:=.fields #[vl,vu,.none] } } σ H3 x v vl vu l u %[s3|99] Q I4 r1 (Heap.IsSliceOf.new ..) pl pu q3
 show Ç (Ê X.prog X.w) X.A (subscriptTail e (.Slice lo hi Y p2) v (.ref %[s3|99])) (EP X pins σ Q) X.xe { s3 with heap:=s3.heap.push { cls:=.type "slice",data:=.fields #[vl,vu,.none] } }
 exact tail_any (ops:=[.ref %[s3|99],v]) ht hT hg (by with_unfolding_all rfl)
def lU(xs:G V)(lo hi:Ü B):G V:=(xs.drop (HT.sIx xs.length 0 lo)).take (HT.sIx xs.length xs.length hi - HT.sIx xs.length 0 lo)
theorem mZ(xs:G V)(lo hi:Ü B):(lU xs lo hi).length<=xs.length:=by
 unfold lU;rw[length_take,length_drop];omega
def Uo(K:Å):V->Ü B->Ü B->Hp->VK->Prop:=λ x lo hi H Q=>∃ a xs,x=.ref a/\SqT K H a xs /\
 ¬ (HT.sIx xs.length 0 lo=0/\HT.sIx xs.length xs.length hi=xs.length)/\∀ p,H p=Y->Q (.ref p) (upd H p (.tup (lU xs lo hi)))
theorem Om:SlR X (Uo X.K):=by
 intro pins s σ H x v vl vu lo hi sl Q I rx hs pl pu h;let(a,xs,rfl,hx,hw,q):=h;cases rx;let(its,r,ht,hz):=I.tuple hx;let hlen:its.toArray.size=xs.length:=by rw[Vj];exact r.length.symm
 refine{"tuple",_,VS.lookup,ht.typeIs,?_};refine HT.getItem_tuple_cut ht hs pl pu (by rw[hlen];exact hw) ?_ (by rw[hlen];exact hz);rw[hlen];refine{.ref %[s|99],_,I.laid (t':=s.toks) (o:=.tup (lU xs lo hi)) (λ b ob q=>U0 _ q) (U6 _) ?_,J,q _ (I.hok.fresh (U6 _))};exact{Vv (mZ xs lo hi) hz,_,(r.drop (HT.sIx xs.length 0 lo)).take (HT.sIx xs.length xs.length hi - HT.sIx xs.length 0 lo),IsTup.new _ _}
def R3(K:Å):R2:=λ x y H Q=>∃ a b xs ys,x=.ref a/\y=.ref b/\SqT K H a xs/\SqT K H b ys/\xs ≠ []/\xs.length+ys.length<=Æ /\
 (ys=[]->Q (.ref a) H)/\(ys ≠ []->∀ p,H p=Y->Q (.ref p) (upd H p (.tup (xs++ys))))
theorem aX.nil_iff(r:aX xs us):us=[] ↔ xs=[]:=by
 cases r with
 | nil=>simp
 | cons _ _=>simp
theorem K1:OpR X (binaryOp .Add) (R3 X.K):=by
 intro pins s σ H x y v u Q I rx ry h;let(a,b,xs,ys,rfl,rfl,ha,hb,hx,hz,q1,q2):=h;cases rx;cases ry;let(its,r1,p1,_):=I.tuple ha;let(a3,r2,p2,_):=I.tuple hb;refine HT.cat_tup p1 p2 (λ z=>hx (r1.nil_iff.mp z)) (λ z=>{.ref a,H,I,J,q1 (r2.nil_iff.mp z)}) (λ z=>?_) (by rw[←r1.length,←r2.length];exact hz);refine{.ref %[s|99],_,I.laid (t':=s.toks) (o:=.tup (xs++ys)) (λ b ob q=>U0 _ q) (U6 _) ?_,J,q2 (λ w=>z (r2.nil_iff.mpr w)) _ (I.hok.fresh (U6 _))};exact{by rw[Va];exact hz,_,r1.append r2,IsTup.new _ _}
end
def ixN(n:à)(i:B):Ü à:=if 0<=i then (if i<n then U i.toNat else Y) else if -(n:B)<=i then U (i+n).toNat else Y
def atI(xs:G α)(i:B):Ü α:=(ixN xs.length i).bind λ j=>xs[j]?
theorem BE{i:B}{j:à}(h:ixN n i=U j):seqIndex? i n=U j/\j<n/\-(n:B)<=i/\i<n:=by
 unfold ixN at h
 by_cases h0:0<=i
 ·rw[Ve h0] at h
  by_cases h1:i<n
  ·rw[Ve h1] at h;let e:i.toNat=j:=VL h;exact{by rw[seqIndex_of h0 h1,e],by omega,by omega,h1}
  ·rw[U7 h1] at h;cases h
 ·rw[U7 h0] at h
  by_cases h1:-(n:B)<=i
  ·rw[Ve h1] at h;let e:(i+n).toNat=j:=VL h;exact{by rw[seqIndex_neg (by omega) h1,e],by omega,h1,by omega}
  ·rw[U7 h1] at h;cases h
theorem vd{xs:G α}{i:B}{v:α}(h:atI xs i=U v):∃ j,seqIndex? i xs.length=U j/\xs[j]? = U v/\j<xs.length/\-(xs.length:B)<=i/\i<xs.length:=by
 unfold atI at h
 cases e:ixN xs.length i with
 | none=>rw[e] at h;cases h
 | some j=>
  rw[e] at h;let(h1,h2,h3,h4):=BE e;exact{(j),h1,h,h2,h3,h4}
theorem bQ{xs:G α}{j:à}{v:α}(h:xs[j]? = U v):atI xs (j:B)=U v:=by
 let hj:j<xs.length:=(U1.mp h).1
 let e:ixN xs.length (j:B)=U j:=by
  unfold ixN;rw[if_pos (by omega),if_pos (by omega)];simp
 unfold atI;rw[e];exact h
def MO(b:Ñ):Prop:=∀ o i,subscripted b Â o i=operate [o,i] (getItem o i)
def IxR(X:Cx)(r:R2):Prop:=
 ∀ (value slice:Ñ) (pins:G (Z × Obj)) (s:À) (σ:St) (H:Hp) (x y:V) (v u:O) (Q:VK),Inv X pins σ H s->bI x v->bI y u->r x y H Q →
  subscripted slice Â v u=operate [v,u] (getItem v u)->Ç (Ê X.prog X.w) X.A (subscriptTail value slice v u) (EP X pins σ Q) X.xe s
def MtR(X:Cx)(id:String)(r:V->G V->Hp->VK->Prop):Prop:=
 ∀ (pins:G (Z × Obj)) (s:À) (σ:St) (H:Hp) (x:V) (xs:G V) (v:O) (us:G O) (Q:VK),Inv X pins σ H s->bI x v->aX xs us->r x xs H Q →
  Ç (Ê X.prog X.w) X.A (call (.builtin id) (v::us)) (EP X pins σ Q) X.xe s
section
variable {X:Cx}{a b:Ñ}{ta tb:TE}{pos:Pos}
theorem IxR.or{r r':R2}(h:IxR X r)(h':IxR X r'):IxR X (λ x y H Q=>r x y H Q\/r' x y H Q):=by
 intro value slice pins s σ H x y v u Q I rx ry q hs
 rcases q with q|q
 ·exact h value slice pins s σ H x y v u Q I rx ry q hs
 ·exact h' value slice pins s σ H x y v u Q I rx ry q hs
theorem JK{r:R2}(hr:IxR X r)(ha:PE X a ta)(hb:PE X b tb)(hs:MO b):PE X (.Subscript a b pos) (tOp r ta tb):=by
 intro pins s σ H Q I h;exact Subscript_ (RT ha hb I h λ v u s2 x y H2 I2 rx ry q=>hr a b pins s2 σ H2 x y v u Q I2 rx ry q (hs _ _))
def Uu(K:Å):R2:=λ x y H Q=>∃ p xs i v,x=.ref p/\y=.int i/\SqL K H p xs/\atI xs i=U v/\Q v H
def Us(K:Å):R2:=λ x y H Q=>∃ p xs i v,x=.ref p/\y=.int i/\SqT K H p xs/\atI xs i=U v/\Q v H
def Ut:R2:=λ x y H Q=>∃ z i c,x=.str z/\y=.int i/\z.length<=Æ/\atI z.cps.toList i=U c/\Q (.str ⟨#[c]⟩) H
theorem u6:IxR X (Uu X.K):=by
 intro value slice pins s σ H x y v u Q I rx ry h hs;let(p,xs,i,z,rfl,rfl,hq,he,q):=h;cases rx;let(t,rfl):=ry;let(its,r,pl,hz):=I.list hq;let(j,h1,h2,h3,h4,h5):=vd he;let(w,ew,rw'):=r.get h2;let hl:=r.length;let hn:=ow;let fin:EP X pins σ Q w s:={(z),H,I,rw',q}
 by_cases h0:0<=i
 ·let hj:i.toNat=j:=by
   rw[seqIndex_of h0 h5] at h1;exact VL h1
  exact item_listR pl.isList h0 (by omega) (by rw[hj];simpa using ew) fin hs
 ·let hj:(i+(its.toArray.size:B)).toNat=j:=by
   rw[seqIndex_neg (by omega) h4] at h1;rw[Vj,←hl];exact VL h1
  exact subscriptTail_builtinR (x:=w) pl.isList.typeIs slot_list_getitem.lookup
   (wpAny_getItem_list_neg (Q:=λ r s'=>r=w/\EP X pins σ Q r s') pl.isList (by omega) (by rw[Vj]<;>omega) (by omega) (by rw[hj];simpa using ew) {(J),fin}) hs
theorem Qu:IxR X (Us X.K):=by
 intro value slice pins s σ H x y v u Q I rx ry h hs;let(p,xs,i,z,rfl,rfl,hq,he,q):=h;cases rx;let(t,rfl):=ry;let(its,r,pl,hz):=I.tuple hq;let(j,h1,h2,h3,h4,h5):=vd he;let(w,ew,rw'):=r.get h2;let hl:=r.length;let hn:=ow;let fin:EP X pins σ Q w s:={(z),H,I,rw',q}
 exact subscriptTail_builtinR (x:=w) pl.typeIs slot_tuple_getitem.lookup
  (getItem_tuple (j:=j) (Q:=λ r s'=>r=w/\EP X pins σ Q r s') pl (by omega) (by omega) (by rw[Vj,←hl];exact h1) (by simpa using ew) {(J),fin}) hs
theorem Je:IxR X Ut:=by
 intro value slice pins s σ H x y v u Q I rx ry h hs;let(z,i,c,rfl,rfl,hz,he,q):=h;let(t,rfl):=rx;let(t',rfl):=ry;let(j,h1,h2,h3,h4,h5):=vd he;let hl:z.cps.toList.length=z.length:=by simp[Str.length]
 rw[hl] at h1 h4 h5;let hn:=ow
 exact tail_any (typeIs_str s z t) slot_str_getitem.lookup (getItem_str (c:=c) (by
  let e1:decide (i < -(2 ^ 63:B))=Â:=VE (by omega);let e2:decide (i >= 2 ^ 63)=Â:=VE (by omega);rw[e1,e2,Bool.or_false]) (by rw[h1];simpa using h2) {.str ⟨#[c]⟩,H,I.tok _,{_,J},q}) hs
theorem yz(its:G O)(n j:à)(u:O):Obj.mapSeq (·.setIfInBounds j u) { cls:=.type "list",data:=.seq its.toArray n }={ cls:=.type "list",data:=.seq (its.set j u).toArray n }:=by
 simp[Obj.mapSeq]
theorem Inv.lst{H:Hp}{p:Z}(I:Inv X pins σ H s)(h:H p=U (.lst xs)) :
  ∃ (its:G O) (n:à),aX xs its/\s.heap.get? p=U { cls:=.type "list",data:=.seq its.toArray n }/\xs.length<=Æ:=by
 let(z,its,n,r,e):=I.hok p _ h;exact{(its),n,r,e,z}
theorem Inv.lstUpd{H:Hp}{p:Z}{ys:G V}{its':G O}{n':à}{f:Obj->Obj}(I:Inv X pins σ H s)(h:H p=U (.lst xs))
  (ho:s.heap.get? p=U { cls:=.type "list",data:=.seq its.toArray n }) (hf:f { cls:=.type "list",data:=.seq its.toArray n }={ cls:=.type "list",data:=.seq its'.toArray n' }) (r:aX ys its') (hz:ys.length<=Æ) (t:à) :
  Inv X pins σ (upd H p (.lst ys)) { s with heap:=s.heap.update p f,toks:=t }:=by
 let e:(s.heap.update p f).get? p=U { cls:=.type "list",data:=.seq its'.toArray n' }:=by
  rw[Vk f ho (by rw[hf]<;>rfl),hf]
 refine I.write (x:=p) (e:=p) (by rw[h];trivial) (.inl J) (λ b u hb q=>(VP _ _ (Vz hb)).trans q) {_,e} ?_;exact{(hz),its',n',r,e}
def Nx:V->V->V->Hp->(Hp->Prop)->Prop:=λ o i v H Q=>∃ p xs k j,o=.ref p/\i=.int k/\H p=U (.lst xs)/\ixN xs.length k=U j/\Q (upd H p (.lst (xs.set j v)))
theorem wW:T8 X Nx:=by
 intro pins s σ H o i v ov iv u Q I ro ri rv h;let(p,xs,k,j,rfl,rfl,hp,hj,q):=h;cases ro;let(t,rfl):=ri;let(its,n,r,ho,hz):=I.lst hp;let(h1,h2,h3,h4):=BE hj;let hl:=r.length;let hn:=ow
 let I':Inv X pins σ (upd H p (.lst (xs.set j v))) { s with heap:=s.heap.update p (Obj.mapSeq (·.setIfInBounds j u)) }:=
  I.lstUpd hp ho (yz its n j u) (r.set rv j) (by rw[WJ];exact hz) s.toks
 by_cases h0:0<=k
 ·let hk:k.toNat=j:=by
   rw[seqIndex_of h0 h4] at h1;exact VL h1
  exact W.ki_setAt ho h0 (by omega) (by rw[Vj,←hl];exact h4) (by rw[hk];exact{_,I',q})
 ·let hk:(k+(its.toArray.size:B)).toNat=j:=by
   rw[seqIndex_neg (by omega) h3] at h1;rw[Vj,←hl];exact VL h1
  exact W.ki_setBack ho (by omega) (by rw[Vj,←hl];exact h3) (by omega) (by rw[hk];exact{_,I',q})
theorem tG(lo hi:Ü B)(n:à):(sliceBounds lo hi Y n).1=((HT.sIx n 0 lo:à):B)/\(sliceBounds lo hi Y n).2.1=((HT.sIx n n hi:à):B)/\(sliceBounds lo hi Y n).2.2=1:=by
 refine{?_,?_,J}
 ·cases lo with
  | none=>simp[sliceBounds,HT.sIx]
  | some i=>
   simp only[sliceBounds,HT.sIx,Option.getD_none,show (1:B) > 0 by decide,Yi]
   by_cases h:i<0
   ·simp only[h,Yi]<;>omega
   ·simp only[h,XA]<;>omega
 ·cases hi with
  | none=>simp[sliceBounds,HT.sIx]
  | some i=>
   simp only[sliceBounds,HT.sIx,Option.getD_none,show (1:B) > 0 by decide,Yi]
   by_cases h:i<0
   ·simp only[h,Yi]<;>omega
   ·simp only[h,XA]<;>omega
theorem qv(its:G O)(lo hi:Ü B):slicePick its.toArray lo hi Y=((its.drop (HT.sIx its.length 0 lo)).take (HT.sIx its.length its.length hi - HT.sIx its.length 0 lo)).toArray:=by
 let(h1,h2,h3):=tG lo hi its.toArray.size;unfold slicePick;rw[h1,h2,h3]
 simp only[sliceRange_one,pick_run,Vj]<;>rfl
def Up(K:Å):V->Ü B->Ü B->Hp->VK->Prop:=λ x lo hi H Q=>∃ a xs,x=.ref a/\SqL K H a xs/\∀ p,H p=Y->Q (.ref p) (upd H p (.lst (lU xs lo hi)))
theorem Bj:SlR X (Up X.K):=by
 intro pins s σ H x v vl vu lo hi sl Q I rx hs pl pu h;let(a,xs,rfl,hx,q):=h;cases rx;let(its,r,ht,hz):=I.list hx;let hlen:=r.length;refine{"list",_,slot_list_getitem.lookup,ht.isList.typeIs,?_};refine wpAny_getItem_list_slice ht.isList hs pl pu .none (by simp) ?_ (by rw[Vj]<;>omega);rw[qv,←hlen];refine{.ref %[s|99],_,I.laid (t':=s.toks) (o:=.lst (lU xs lo hi)) (λ b ob q=>U0 _ q) (U6 _) ?_,J,q _ (I.hok.fresh (U6 _))};exact{Vv (mZ xs lo hi) hz,_,0,(r.drop (HT.sIx xs.length 0 lo)).take (HT.sIx xs.length xs.length hi - HT.sIx xs.length 0 lo),Vc _ J}
def j6:V->Ý
 | .non=>L
 | .bl _=>L
 | .int _=>L
 | .str _=>L
 | _=>Â
def eqV:V->V->Ý
 | .non,.non=>L
 | .bl a,.bl b=>a == b
 | .bl a,.int b=>(if a then 1 else 0) == b
 | .int a,.bl b=>a == (if b then 1 else 0)
 | .int a,.int b=>a == b
 | .str a,.str b=>a == b
 | _,_=>Â
theorem Qw{A:Î}{y:V}{u v:O}(ry:bI y u)(rx:bI x v)(fy:j6 y=L)(fx:j6 x=L):SeqAt.EqAt A s u v (eqV y x):=by
 cases y with
 | non=>
  cases ry
  cases x with
  | non=>cases rx;exact SeqAt.EqAt.same _
  | bl b=>cases rx;exact SeqAt.EqAt.none_bool b
  | int b=>let(t,rfl):=rx;exact SeqAt.EqAt.none_int b t
  | str b=>let(t,rfl):=rx;exact SeqAt.EqAt.none_str b t
  | _=>exact Þ (show Â=L from fx) U9
 | bl a=>
  cases ry
  cases x with
  | non=>cases rx;exact SeqAt.EqAt.bool_none a
  | bl b=>cases rx;exact SeqAt.EqAt.bool_bool a b
  | int b=>let(t,rfl):=rx;exact SeqAt.EqAt.bool_int a b t
  | str b=>let(t,rfl):=rx;exact SeqAt.EqAt.bool_str a b t
  | _=>exact Þ (show Â=L from fx) U9
 | int a=>
  let(t',rfl):=ry
  cases x with
  | non=>cases rx;exact SeqAt.EqAt.int_none a t'
  | bl b=>cases rx;exact SeqAt.EqAt.int_bool a t' b
  | int b=>let(t,rfl):=rx;exact SeqAt.EqAt.int_int a t' b t
  | str b=>let(t,rfl):=rx;exact SeqAt.EqAt.int_str a t' b t
  | _=>exact Þ (show Â=L from fx) U9
 | str a=>
  let(t',rfl):=ry
  cases x with
  | non=>cases rx;exact SeqAt.EqAt.str_none a t'
  | bl b=>cases rx;exact SeqAt.EqAt.str_bool a t' b
  | int b=>let(t,rfl):=rx;exact SeqAt.EqAt.str_int a t' b t
  | str b=>let(t,rfl):=rx;exact SeqAt.EqAt.str_str a t' b t
  | _=>exact Þ (show Â=L from fx) U9
 | _=>exact Þ (show Â=L from fy) U9
def eqU(x:V)(u:O):Ý:=match u with
 | .none=>eqV .non x
 | .bool b=>eqV (.bl b) x
 | .int i _=>eqV (.int i) x
 | .str z _=>eqV (.str z) x
 | _=>Â
theorem Ji{y:V}{u:O}(r:bI y u)(f:j6 y=L):eqU x u=eqV y x:=by
 cases y with
 | non=>cases r;rfl
 | bl b=>cases r;rfl
 | int i=>let(t,rfl):=r;rfl
 | str z=>let(t,rfl):=r;rfl
 | _=>exact Þ (show Â=L from f) U9
theorem vf:∀ {xs:G V}{us:G O},aX xs us->xs.all j6=L->us.any (eqU x)=xs.any λ y=>eqV y x
 | _,_,.nil,_=>rfl
 | y::xs,u::us,.cons r t,f=>by
  rw[List.all_cons,V6] at f;rw[Yx,Yx,Ji r f.1,vf t f.2]
theorem p9{A:Î}{v:O}(rx:bI x v)(fx:j6 x=L):∀ {xs:G V}{us:G O},aX xs us->xs.all j6=L->∀ u∈us,SeqAt.EqAt A s u v (eqU x u)
 | _,_,.nil,_=>λ u hu=>by cases hu
 | y::xs,u::us,.cons r t,f=>λ u' hu=>by
  rw[List.all_cons,V6] at f
  rcases Vp.mp hu with rfl|hu
  ·rw[Ji r f.1];exact Qw r rx f.1 fx
  ·exact p9 rx fx t f.2 u' hu
def inV(x:V)(xs:G V):Ý:=xs.any λ y=>eqV y x
def rIn(K:Å)(neg:Ý):R2:=λ x y H Q=>∃ p xs,y=.ref p/\(SqL K H p xs\/SqT K H p xs)/\j6 x=L/\xs.all j6=L/\Q (.bl (if neg then !inV x xs else inV x xs)) H
theorem Cp:OpR X (compareOp .In) (rIn X.K Â):=by
 intro pins s σ H x y v u Q I rx ry h;let(p,xs,rfl,hq,fx,fs,q):=h;cases ry
 rcases hq with hq|hq
 ·let(its,r,pl,hz):=I.list hq;refine SeqAt.in_listAt (eqU x) pl.isList (λ w hw=>p9 rx fx r fs w (by simpa using hw)) {.bl _,H,I,J,?_};rw[show its.toArray.any (eqU x)=its.any (eqU x) by simp,vf r fs];exact q
 ·let(its,r,pl,hz):=I.tuple hq;refine SeqAt.in_tupleAt (eqU x) pl (λ w hw=>p9 rx fx r fs w (by simpa using hw)) {.bl _,H,I,J,?_};rw[show its.toArray.any (eqU x)=its.any (eqU x) by simp,vf r fs];exact q
theorem eL:bK X (.builtin "len") (λ xs H Q=>∃ p ys,xs=[.ref p]/\(SqL X.K H p ys\/SqT X.K H p ys)/\Q (.int ys.length) H):=by
 intro pins s σ H xs us Q I r h;let(p,ys,rfl,hq,q):=h;let(u,rfl,rx):=uh r;cases rx;let hn:=ow
 rcases hq with hq|hq
 ·let(its,r',pl,hz):=I.list hq;let hlen:=r'.length;exact Calls.call_len_list pl.isList (by simp only[Vj]<;>omega) {.int ys.length,H,I.tok _,{s.toks+1,by rw[Vj,hlen]},q}
 ·let(its,r',pl,hz):=I.tuple hq;let hlen:=r'.length;exact len_tuple pl (by simp only[Vj]<;>omega) {.int ys.length,H,I.tok _,{s.toks+1,by rw[Vj,hlen]},q}
theorem tY:bK X (.builtin "len") (λ xs H Q=>∃ z,xs=[.str z]/\z.length<=Æ/\Q (.int z.length) H):=by
 intro pins s σ H xs us Q I r h;let(z,rfl,hz,q):=h;let(u,rfl,t,rfl):=uh r;let hn:=ow;exact len_str (by omega) {.int z.length,H,I.tok _,{_,J},q}
theorem bK.or{f:O}{r r':G V->Hp->VK->Prop}(h:bK X f r)(h':bK X f r'):bK X f (λ xs H Q=>r xs H Q\/r' xs H Q):=by
 intro pins s σ H xs us Q I rs q
 rcases q with q|q
 ·exact h pins s σ H xs us Q I rs q
 ·exact h' pins s σ H xs us Q I rs q
theorem tX:bK X (.type "list") (λ xs H Q=>∃ p ys,xs=[.ref p]/\(SqL X.K H p ys\/SqT X.K H p ys)/\∀ l,H l=Y->Q (.ref l) (upd H l (.lst ys))):=by
 intro pins s σ H xs us Q I r h;let(p,ys,rfl,hq,q):=h;let(u,rfl,rx):=uh r;cases rx
 have fin:∀ (its:G O),aX ys its->ys.length<=Æ->∀ (h':Ð) (c':à),(∀ b o',s.heap.get? b=U o'->h'.get? b=U o') →
   h'.get? %[s|99]=U { cls:=.type "list",dict:=Y,data:=.seq its.toArray c',slots:=#[] }->EP X pins σ Q (.ref %[s|99]) { s with heap:=h' }:=λ its r' hz h' c' kp e=>
  ⟨.ref %[s|99],_,I.laid (t':=s.toks) kp (U6 _) (show bL X.prog X.w _ h' _ (.lst ys) from {(hz),its,c',r',e}),J,q _ (I.hok.fresh (U6 _))⟩
 rcases hq with hq|hq
 ·let(its,r',pl,hz):=I.list hq;let hlen:=r'.length;let(o,ho,hc,n,hd):=pl.isList;exact call_list_seq p (.inl J) ho hc hd (λ h' c' kp e=>fin its r' hz h' c' kp e) (by simp only[Vj]<;>omega)
 ·let(its,r',pl,hz):=I.tuple hq;let hlen:=r'.length;let(o,ho,hc,n,hd):=pl;exact call_list_seq p (.inr J) ho hc hd (λ h' c' kp e=>fin its r' hz h' c' kp e) (by simp only[Vj]<;>omega)
theorem qZ:bK X (.type "tuple") (λ xs H Q=>∃ p ys,xs=[.ref p]/\((SqL X.K H p ys/\∀ l,H l=Y->Q (.ref l) (upd H l (.tup ys)))\/(SqT X.K H p ys/\Q (.ref p) H))):=by
 intro pins s σ H xs us Q I r h;let(p,ys,rfl,h):=h;let(u,rfl,rx):=uh r;cases rx
 rcases h with ⟨hq,q⟩|⟨hq,q⟩
 ·let(its,r',pl,hz):=I.list hq;let hlen:=r'.length;refine call_tuple_list pl.isList (λ h' kp=>?_) (by simp only[Vj]<;>omega);let I1:Inv X pins σ H { s with heap:=h' }:=I.kept (t':=s.toks) kp
  let I2:Inv X pins σ (upd H h'.objs.size (.tup ys)) { s with heap:=h'.push { cls:=.type "tuple",data:=.seq its.toArray } }:=
   I1.laid (t':=s.toks) (λ b o e=>U0 _ e) (U6 _) (show bL X.prog X.w _ _ _ (.tup ys) from {hz,its,r',IsTup.new _ _})
  exact{.ref h'.objs.size,_,I2,J,q _ (I1.hok.fresh (U6 _))}
 ·let(its,r',pl,hz):=I.tuple hq;exact call_tuple_same pl {.ref p,H,I,J,q}
def tyV(K:Å)(T:String)(x:V)(H:Hp):Prop:=match x with
 | .str _=>T = "str"
 | .int _=>T = "int"
 | .ref p=>(T = "list" /\ ∃ xs,SqL K H p xs)\/(T = "tuple" /\ ∃ o,K.lookup p=U o/\o.cls=.type "tuple" /\ o.dict=Y) \/
   (T = "dict" /\ ((∃ kvs,H p=U (.dK kvs))\/∃ kvs,H p=U (.dT kvs)))\/(T = "set" /\ ∃ S n,H p=U (.set S n))
 | _=>False
theorem Iw{H:Hp}{T:String}{v:O}(I:Inv X pins σ H s)(r:bI x v)(ty:tyV X.K T x H) :
  s.TypeIs v T/\∀ a,v=.ref a->∃ ob,s.heap.get? a=U ob/\ob.dict=Y:=by
 cases x with
 | str z=>
  let(t,rfl):=r;cases (show T = "str" from ty);exact{typeIs_str s z t,λ _ e=>nomatch e}
 | int i=>
  let(t,rfl):=r;cases (show T = "int" from ty);exact{typeIs_int s i t,λ _ e=>nomatch e}
 | ref p=>
  cases r
  rcases ty with ⟨rfl,xs,hq⟩|⟨rfl,o,hk,hc,hd⟩|⟨rfl,hk⟩|⟨rfl,S,n,hk⟩
  ·let(its,_,pl,_):=I.list hq;refine{pl.isList.typeIs,λ a e=>?_};cases e;let(o,n,e,c,hd,_):=pl;exact{(o),e,hd}
  ·refine{⟨o,I.kIn p o hk,hc⟩,λ a e=>?_};cases e;exact{o,I.kIn _ o hk,hd}
  ·let z:∃ o,s.heap.get? p=U o/\o.ExactDict:=by
    rcases hk with ⟨kvs,hk⟩|⟨kvs,hk⟩
    ·let(_,_,_,_,o,_,_,e,ex,_):=I.hok p _ hk;exact{(o),e,ex}
    ·let(_,_,_,_,o,_,_,e,ex,_):=I.hok p _ hk;exact{(o),e,ex}
   let(o,e,ex):=z;refine{⟨o,e,ex.1⟩,λ a e2=>?_};cases e2;exact{(o),e,ex.2.1}
  ·let(o,_,_,_,e,ex,_):=I.hok p _ hk;refine{⟨o,e,ex.1⟩,λ a e2=>?_};cases e2;exact{(o),e,ex.2.1}
 | _=>exact False.elim ty
def Tg(K:Å)(T:String)(r:V->G V->Hp->VK->Prop)(to:TE):TE:=λ σ H Q=>to σ H λ x H1=>tyV K T x H1/\r x [] H1 Q
def tBM(K:Å)(T:String)(r:V->G V->Hp->VK->Prop)(to:TE)(t:TA):TE:=λ σ H Q=>to σ H λ x H1=>tyV K T x H1/\t σ H1 λ xs H2=>r x xs H2 Q
variable {o e:Ñ}{es:G Ñ}{to:TE}{t:TA}{name:Ã}{apos cpos:Pos}{T id:String}{r:V->G V->Hp->VK->Prop}
theorem OF(pa:PlainAttrs T)(slot:Slot T name id)(a5:typeOf (.builtin id)=pure (.type "method_descriptor"))(hm:MtR X id r)(ho:PE X o to)
  (a3:attributeBase o name X.env (eval o X.env)=eval o X.env:=by rfl) (a4:(apos.endLine == cpos.line)=L:=by rfl):PE X (.Call (.Attribute o name apos) [] [] cpos) (Tg X.K T r to):=by
 intro pins s σ H Q I h;refine wpAny_Call_method0_late a3 a4 (thn (ho pins s σ H _ I h) λ v s1 ⟨x,H1,I1,r1,ty,q1⟩=>?_);let(h1,h2):=Iw I1 r1 ty;exact{T,id,pa,slot,a5,h1,h2,Calls.callWith_builtin J (PySem.evalArgs_none (hm pins s1 σ H1 x [] v [] Q I1 r1 .nil q1))}
theorem NA(pa:PlainAttrs T)(slot:Slot T name id)(a7:typeOf (.builtin id)=pure (.type "method_descriptor"))(hm:MtR X id r)(ho:PE X o to)(ha:PA X (e::es) t)
  (a4:attributeBase o name X.env (eval o X.env)=eval o X.env:=by rfl)
  (a6:((backTo cpos (starEach (e::es) X.env)).all (λ x=>!x.1) && (backToKw cpos (keywordEach [] X.env)).all (λ x=>x.1.isSome)
   && decide ((e::es).length+([]:G Keyword).length+(if ([]:G Keyword).isEmpty then 0 else 1)<30))=L:=by rfl)
  (a5:(apos.endLine == cpos.line)=L:=by rfl) (hs:starEach (e::es) X.env=(Â,eval e X.env)::starEach es X.env:=by rfl) (a3:(backTo cpos (starEach es X.env)).any (·.1)=Â:=by rfl) :
  PE X (.Call (.Attribute o name apos) (e::es) [] cpos) (tBM X.K T r to t):=by
 intro pins s σ H Q I h;refine wpAny_Call_method_late a4 a6 a5 J (thn (ho pins s σ H _ I h) λ v s1 ⟨x,H1,I1,r1,ty,q1⟩=>?_);let(h1,h2):=Iw I1 r1 ty;refine{T,id,pa,slot,a7,h1,h2,?_};let hA:=ha cpos pins s1 σ H1 _ I1 q1;rw[hs] at hA ⊢;refine Calls.callWith_builtin (by show (Â || (backTo cpos (starEach es X.env)).any (·.1))=Â;rw[a3]<;>rfl) (Xm ?_);exact thn hA λ us s2 ⟨vs,H2,I2,r2,q2⟩=>hm pins s2 σ H2 x vs v us Q I2 r1 r2 q2
end
def MtM(X:Cx)(id:String)(r:V->G V->Hp->VK->Prop):Prop:=
 ∀ (pins:G (Z × Obj)) (s:À) (σ:St) (H:Hp) (x:V) (xs:G V) (v:O) (us:G O) (Q:VK),Inv X pins σ H s->bI x v->aX xs us->r x xs H Q →
  Ç (Ê X.prog X.w) X.A (call (.builtin id) (v::us)) (EP X pins σ Q) X.xe s
def aX.one:∀ {x:V}{us:G O},aX [x] us->∃ u,us=[u]/\bI x u
 | _,_,.cons r .nil=>{_,J,r}
def aX.zero:∀ {us:G O},aX [] us->us=[]
 | _,.nil=>rfl
def aX.eraseIdx:∀ {xs:G V}{us:G O}(i:à),aX xs us->aX (xs.eraseIdx i) (us.eraseIdx i)
 | _,_,_,.nil=>.nil
 | _,_,0,.cons _ t=>t
 | _,_,i+1,.cons r t=>.cons r (aX.eraseIdx i t)
theorem aX.reverse(h:aX xs us):aX xs.reverse us.reverse:=by
 induction h with
 | nil=>exact .nil
 | cons r t ih=>rw[Xd,Xd];exact aX.append ih (.cons r .nil)
theorem aX.rep(h:aX xs us):∀ k:à,aX (Í k xs).flatten (Í k us).flatten
 | 0=>.nil
 | k+1=>by
  rw[WS,WS,Xw,Xw];exact aX.append h (aX.rep h k)
def rY:∀ (l:G α) (i:à),(l.eraseIdx i).length<=l.length
 | [],_=>U6 _
 | _::_,0=>Xe _
 | _::r,i+1=>Nat.succ_le_succ (rY r i)
theorem r9(its:G O):∀ (k:à) (acc:G O),
  List.foldl (λ x1 x2=>x1++x2) acc.toArray (Í k its.toArray)=(acc++(Í k its).flatten).toArray
 | 0,acc=>by simp
 | k+1,acc=>by
  let e:acc.toArray++its.toArray=(acc++its).toArray:=by simp
  let e2:(acc++its)++(Í k its).flatten=acc++(Í (k+1) its).flatten:=by
   rw[WS,Xw,Xx]
  rw[←e2,←r9 its k (acc++its),←e,WS,YE]
section
variable {X:Cx}{H:Hp}{l b:Z}{ys zs:G V}
theorem Inv.lset{its':G O}{f:Array O->Array O}{t':à}(I:Inv X pins σ H s)(hH:H l=U (.lst xs))
  (e:s.heap.get? l=U { cls:=.type "list",data:=.seq its.toArray n }) (hf:f its.toArray=its'.toArray) (hv:aX ys its') (hz:ys.length<=Æ) :
  Inv X pins σ (upd H l (.lst ys)) { s with heap:=s.heap.update l (Obj.mapSeq f),toks:=t' }:=by
 let q:=PySem.IsL.update e f;rw[hf] at q;refine I.write (x:=l) (e:=l) (by rw[hH];exact trivial) (.inl J) (λ b' u hb hu=>(VP s.heap (Obj.mapSeq f) (Vz hb)).trans hu) {_,q} ?_;exact{hz,its',_,hv,q}
theorem Inv.lnew{t':à}(I:Inv X pins σ H s)(hv:aX ys its)(hz:ys.length<=Æ) :
  Inv X pins σ (upd H %[s|99] (.lst ys)) { s with heap:=s.heap.push { cls:=.type "list",data:=.seq its.toArray },toks:=t' }:=
 I.laid (λ _ _ q=>U0 _ q) (U6 _) {hz,its,0,hv,Vc _ J}
def Inv.fresh(I:Inv X pins σ H s):H %[s|99]=Y:=I.hok.fresh (U6 _)
theorem Inv.lstM(I:Inv X pins σ H s)(hH:H l=U (.lst xs)):xs.length<=Æ/\∃ (its:G O) (n:à),aX xs its/\xs.length=its.length/\s.heap.get? l=U { cls:=.type "list",data:=.seq its.toArray n }:=by
 let(z,its,n,r,e):=I.hok l _ hH;exact{(z),its,n,r,r.length,e}
theorem xi(h:n<=Æ):Builtin.List.listTooLong n=Â:=by
 unfold Builtin.List.listTooLong;exact decide_eq_false (by omega)
end
section
variable {X:Cx}
def Bp:V->G V->Hp->VK->Prop:=λ x vs H Q=>∃ l xs y,x=.ref l/\vs=[y]/\H l=U (.lst xs)/\xs.length<Æ/\Q .non (upd H l (.lst (xs++[y])))
theorem cw:MtM X "list.append" Bp:=by
 intro pins s σ H x vs v us Q I rx rv h;let(l,xs,y,rfl,rfl,hH,hz,q):=h;cases rx;let(u,rfl,ru):=rv.one;let(z,its,n,r,hl,e):=I.lstM hH;refine Xq F.slot_list_append {_,e,J} F.entry_list_append (F.args_list_append_2 _ _) (PySem.list_append l its.toArray n u (by rw[Vj];omega)) {e,?_};refine{.non,_,I.lset (its':=its++[u]) hH e (by simp) (r.append (.cons ru .nil)) ?_,J,q};rw[Va,W5];omega
def Bo:V->G V->Hp->VK->Prop:=λ x vs H Q=>∃ l b xs zs,x=.ref l/\vs=[.ref b]/\H l=U (.lst xs)/\H b=U (.lst zs)/\xs.length+zs.length<=Æ/\Q .non (upd H l (.lst (xs++zs)))
theorem Cu:MtM X "list.extend" Bo:=by
 intro pins s σ H x vs v us Q I rx rv h;let(l,b,xs,zs,rfl,rfl,hH,hB,hz,q):=h;cases rx;let(u,rfl,ru):=rv.one;cases ru;let(z,its,n,r,hl,e):=I.lstM hH;let(z2,a3,n2,r2,a5,e2):=I.lstM hB;let hsz:its.toArray.size+a3.toArray.size<=Æ:=by rw[Vj,Vj];omega
 let a4:¬ (!its.toArray.isEmpty && Builtin.List.listTooLong (its.toArray.size+a3.toArray.size))=L:=by
  rw[xi hsz,Bool.and_false];exact U9
 refine Xq F.slot_list_extend {_,e,J} F.entry_list_extend (F.args_list_extend_2 _ _)
  (AutoSeq1.list_extend_list_list_0 l its.toArray n b a3.toArray n2 a4 (by rw[Vj];omega) (by omega)) {e,e2,?_}
 refine{.non,_,I.lset (its':=its++a3) hH e (by simp) (r.append r2) ?_,J,q};rw[Va];omega
def AV:V->G V->Hp->VK->Prop:=λ x vs H Q=>∃ l xs,x=.ref l/\vs=[]/\H l=U (.lst xs)/\Q .non (upd H l (.lst []))
theorem Gi:MtM X "list.clear" AV:=by
 intro pins s σ H x vs v us Q I rx rv h;let(l,xs,rfl,rfl,hH,q):=h;cases rx;let a3:=rv.zero;subst a3;let(z,its,n,r,hl,e):=I.lstM hH;refine Xq F.slot_list_clear {_,e,J} F.entry_list_clear (F.args_list_clear_1 _) (AutoSeq1.list_clear_list_0 l its.toArray n (by rw[Vj];omega)) {e,?_};exact{.non,_,I.lset (its':=[]) (ys:=[]) hH e J .nil (VM _),J,q}
def Tj:R2:=λ x y H Q=>∃ l b xs zs,x=.ref l/\y=.ref b/\H l=U (.lst xs)/\H b=U (.lst zs)/\xs.length+zs.length<=Æ/\∀ p,H p=Y->Q (.ref p) (upd H p (.lst (xs++zs)))
theorem OP:OpR X (binaryOp .Add) Tj:=by
 intro pins s σ H x y v u Q I rx ry h;let(l,b,xs,zs,rfl,rfl,hH,hB,hz,q):=h;cases rx;cases ry;let(z,its,n,r,hl,e):=I.lstM hH;let(z2,a3,n2,r2,a4,e2):=I.lstM hB;refine PySem.P.add_list e e2 ?_ (by rw[Vj,Vj];omega);let ea:its.toArray++a3.toArray=(its++a3).toArray:=by simp
 rw[ea];exact{.ref _,_,I.lnew (t':=s.toks) (r.append r2) (by rw[Va];omega),J,q _ I.fresh}
def Uq:R2:=λ x y H Q=>∃ l k xs,x=.ref l/\y=.int k/\H l=U (.lst xs)/\-(2 ^ 63)<=k/\k<2 ^ 63/\xs.length * k.toNat<=Æ /\
 ∀ p,H p=Y->Q (.ref p) (upd H p (.lst (Í k.toNat xs).flatten))
theorem L7(xs:G α)(k:à):(Í k xs).flatten.length=k * xs.length:=by
 induction k with
 | zero=>simp
 | succ k ih=>rw[WS,Xw,Va,ih,Nat.succ_mul,Nat.add_comm]
theorem OJ:OpR X (binaryOp .Mult) Uq:=by
 intro pins s σ H x y v u Q I rx ry h;let(l,k,xs,rfl,rfl,hH,h1,h2,hz,q):=h;cases rx;let(t,rfl):=ry;let(z,its,n,r,hl,e):=I.lstM hH;let hlen:its.toArray.size * k.toNat<=Æ:=by rw[Vj,←hl];exact hz
 let a4:¬ its.toArray.size * k.toNat > (2 ^ 63 - 1) / 8:=by
  have:(Æ:à)<=(2 ^ 63 - 1) / 8:=by decide
  omega
 let a5:¬ (!Builtin.List.listFitsIndex k)=L:=by
  rw[fitsIndex_both h1 h2];exact U9
 let a3:¬ Builtin.List.listTooLong (its.toArray.size * k.toNat)=L:=by
  rw[xi hlen];exact U9
 let a6:List.foldl (λ x1 x2=>x1++x2) #[] (Í (if its.toArray.isEmpty=L then 0 else k.toNat) its.toArray)=(Í k.toNat its).flatten.toArray:=by
  let f0:∀ m:à,List.foldl (λ x1 x2=>x1++x2) #[] (Í m its.toArray)=(Í m its).flatten.toArray:=λ m=>by
   have:=r9 its m [];rw[YC] at this;exact this
  rw[f0]
  cases its with
  | nil=>simp
  | cons a r'=>rw[U7 (by simp)]
 refine wpAny_binaryOp_repeat_ref (T := "list") (U := "int") (by decide) ⟨_,e,J⟩ (λ s'=>typeIs_int s' k t) noFill_list_mul F.fills_int_mul F.slot_int_rmul repeat_list F.slot_int_index.lookup
  (Xq F.slot_int_rmul (typeIs_int s k t) F.entry_int_rmul (F.args_int_rmul_2 _ _) (int___rmul___int_list k t l its.toArray n)
   ⟨e,J,{_,e,J},Xq F.slot_list_mul {_,e,J} F.entry_list_mul (F.args_list_mul_2 _ _) (AutoListH.list___mul___list_int_3 l its.toArray n k t a5 a4 a3) {e,?_}⟩)
 rw[a6];exact{.ref _,_,I.lnew (t':=s.toks) (r.rep k.toNat) (by rw[L7,Nat.mul_comm];exact hz),J,q _ I.fresh}
end
section
variable {prog:Ì}{w:Ï}{A:Î}{E:O->À->Prop}
end
section
variable {X:Cx}
end
end L2
namespace Att
open PySem PySem.W PySem.Calls PyProof.Rows
theorem nB{P:Params}{h:Ð}:∀ (ns:G B) (vs:G O),WellAll P h vs (ns.map WData.int)->IntsAre vs ns:=by
 intro ns
 induction ns with
 | nil=>
  intro vs w;rw[XW] at w;cases w;exact .nil
 | cons n ns ih=>
  intro vs w;rw[Vs] at w
  cases w with
  | cons a b=>
   cases a;exact .cons _ _ (ih _ b)
theorem Ca{l:OpenLaw}{n:à}(hn:l.most=U n){P:Params}{h:Ð}{args:G WData}{vals:G O}
  (a3:l.row.toRowW.claim.pre args=L) (a4:WellAll P h vals args) :
  ∃ a vs ns,vals=[Ë a]/\args=[WData.list (ns.map WData.int)]/\h.get? a=U { cls:=.type "list",data:=.seq vs.toArray }/\IntsAre vs ns/\ns.length<=n:=by
 let a5:WShape.hasAll [] args [.list .int]=L:=(pre_splitW a3).1;let hc:l.pre.holds [] { args:=args }=L:=(pre_splitW a3).2;let(d,r,rfl,h1,h2):=hasAllW_cons a5;obtain rfl:=hasAllW_nil h2;let(xs,rfl,h3):=hasW_list h1;let(ns,rfl):=items_int h3
 let hlen:ns.length<=n:=by
  unfold OpenLaw.pre at hc
  let h4:(WTm.not (.lt (.lit (.int (n:B))) (.len (.arg 0)))).holds [] { args:=[.list (ns.map .int)] }=L:=by
   let h4:=(holds_andW hc).1;rw[hn] at h4;exact h4
  let h5:=condW_of h4 (w_not (w_lt w_lit (w_len_list (w_arg J))));rw[U2] at h5;refine XH λ q=>?_;let q':(n:B)<((ns.length:à):B):=by omega
  first
   | (rw[Vi q'] at h5;exact Þ h5 (by decide))
   | (simp at h5;omega)
 cases a4 with
 | cons w1 w2=>
  cases w2
  cases w1 with
  | list ho hall=>exact{_,_,ns,J,J,ho,nB ns _ hall,hlen}
theorem Ce(l:OpenLaw)(args:G WData):l.row.toRowW.claim.post args (.bool L) args=L:=
 postW_of (r:=l.row.toRowW) (X:=(L == L))
  (show WShape.has [] (.bool L) .bool=L by first|rfl|decide|simp[WShape.has,WShape.arms,WShape.armsAll])
  (show (WTm.eq .res (.lit (.bool L))).value [] { args:=args,res:=U (.bool L),after:=args }=U (.bool (L == L)) from w_eq_bool (w_res J) w_lit) J
theorem attach_call{l:OpenLaw}{n:à}{q:Ì}{loose:G Ã}{XP:(Ã->Ü O)->Ð->Prop}{YP:Ï->Ð->Prop}{d:DefRec}
  (hn:l.most=U n) (a5:d.params.defaults=[])
  (call:∀ (w:Ï) (s₀ s₁:À) (mg mb:Ã->Ü O) (fa:Z) (o:Obj) (pm cd doc:O) (a:Z) (vs:G O) (ns:G B),
   Ground q loose [] XP w s₀ mg mb s₁.heap->YP w s₁.heap →
   s₁.heap.get? fa=U o->o.data=.func (docDef d.name d.params d.body d.scope pm cd doc)->s₁.heap.CodeRec cd d.name->mg d.name=U (.ref fa) →
   s₁.heap.get? a=U { cls:=.type "list",data:=.seq vs.toArray }->IntsAre vs ns->ns.length<=n->s₁.gens=#[] →
   codeAny (Ê l.prog w) callerA (.call (.ref fa) {[.ref a],[]}) (λ r s'=>r=.ok (.ret (.bool L))/\OldK s₁.heap s'.heap/\s'.os=s₁.os/\AllBare s'.gens) s₁) :
  WalkO q loose XP YP l.row.toRowW d [] (λ f vs=>PySem.call f vs):=by
 intro w s₀ s₁ mg mb zo ww fa o pm cd doc dV kV ho hd a6 hD a7 hg args vals as a3 a9 b1 a8 b2;obtain rfl:dV=.none:=Dflts.none hD a5;obtain rfl:kV=.none:=Dflts.noKw hD;let(a,vs,ns,rfl,rfl,a4,hints,hlen):=Ca hn a3 a8;refine enter_call (We (call w s₀ s₁ mg mb fa o pm cd doc a vs ns zo ww ho (fd_plain hd) a6 a7 a4 hints hlen hg) λ r s' hq=>?_);let(rfl,h2,h3,h4):=hq;exact{.inl {.bool L,.bool L,[],J,λ _=>J,.bool L,Ce l _,λ _=>{List.Pairwise.nil,λ _ hm=>(nomatch hm)}},h2,h3,h4}
section
variable {prog:Ì}{w:Ï}{A:Î}{E:O->À->Prop}{s:À}{K:Frag}
def Uh(h:Ð)(xL d:Z):G (Z × Obj):=(Ó h.objs.size).filterMap λ a=>if a=xL\/a=d then Y else (h.get? a).map λ o=>(a,o)
end
end Att
namespace L2
open PySem PySem.Spec PyProof.Rows
variable {P prog:Ì}{w:Ï}{K:Å}{mg:Ã->Ü O}{CX:CXT}{a a3 a0 a1 a2 a4 a5 a6 a7 a8:Ü V}{fd:Á}{x qual:Ã}{l f p b T C it e:Z}{n t':à}{d:Ü Z}{cb ka kb:Ý}{ps N':G Ã}{ct nx bk:St->Hp->Prop}{pos:Pos}{A:Î}{H H1 H' H₀:Hp}{xs ys:G V}{o:HO}{u cls cx:O}{kvs:G (Key × V)}{y v:V}{Q E:O->À->Prop}{h' h h1:Ð}{s s₀:À}{env:Env}{pins:G (Z × Obj)}{σ:St}{α α0 α1 α2 α3:Type}{scope:Scope}{g:TG}{wn:It}{fp:G Z}{CC:O->Prop}{outer:G Env}{oe:Obj}{es elts:G Ñ}{M:Model}{tb:TS}{rt:VK}
def rL:∀ {vs:G O}{ns:G B},IntsAre vs ns->aX (ns.map V.int) vs
 | _,_,.nil=>.nil
 | _,_,.cons n t h=>.cons {(t),J} (rL h)
def RU(H:Hp):Prop:=∀ b,H b=Y\/∃ o xs,H b=U (.frz o (.lst xs))
theorem GH{mb:Ã->Ü O}{k:à}{fa a:Z}{sp:Sp}{s₁:À}{vs:G O}{ns:G B}
  (KX:K.In s₁.heap) (a6:s₁.heap.Ns Ä mg) (hb:s₁.heap.Ns builtinsNs mb) (b2:∀ x:Ã,x ≠ "__name__" → mb x=bootBuiltins x) (a7:s₁.heap.NoLimit) (hg:s₁.gens=#[])
  (ha:s₁.heap.get? a=U { cls:=.type "list",data:=.seq vs.toArray }) (hi:IntsAre vs ns) (hl:ns.length<=Æ) (hr:iw k callerA)
  (F:∀ base:Ð,K.In base->base.Ns Ä mg->au P w K mg base CX k fa fd [x] sp) (a5:∀ (s:À) (u:O),BindsTo s fd {[u],[]} [(x,u)])
  (b3:∀ H:Hp,RU H->SqL K H a (ns.map V.int)->sp [.ref a] H (λ v _=>v=.bl L) λ _ _ _=>False)
  (b4:∀ H e s',CX [] H s₁ (λ _ _ _=>False) e s'->False) :
  codeAny (Ê P w) callerA (.call (.ref fa) {[.ref a],[]}) (λ r s'=>r=.ok (.ret (.bool L))/\OldK s₁.heap s'.heap/\s'.os=s₁.os/\AllBare s'.gens) s₁:=by
 let rv:=rL hi;let a8:=hi.length
 have core:∀ H:Hp,RU H->SqL K H a (ns.map V.int)->HOk P w H s₁.heap->(∀ b,H b≠Y->b=a)->(H a≠Y->K.lookup a=Y) →
   codeAny (Ê P w) callerA (.call (.ref fa) {[.ref a],[]}) (λ r s'=>r=.ok (.ret (.bool L))/\OldK s₁.heap s'.heap/\s'.os=s₁.os/\AllBare s'.gens) s₁:=by
  intro H hO hS hok hA hK;let a3:∀ {b:Z} {o:Obj},s₁.heap.get? b=U o->H b=Y->(EO s₁.heap H).get? b=U o:=λ e n=>Hr e n
  let b5:∀ {b:Z} {o:Obj} {es:Array DictEntry} {ep:à},s₁.heap.get? b=U o->o.data=.dict es ep->H b=Y:=λ {b o es ep} e d=>by
   cases q:H b with
   | none=>rfl
   | some u=>
    let e':b=a:=hA b (by rw[q];simp);subst e';rw[ha] at e;cases e;let d':Data.seq vs.toArray _=Data.dict es ep:=d;cases d'
  let a4:∀ {b:Z} {m:Ã->Ü O},s₁.heap.Ns b m->(EO s₁.heap H).Ns b m:=λ {b m} ⟨o,es,ep,e,d,r⟩=>{o,es,ep,a3 e (b5 e d),d,r}
  let a9:K.In (EO s₁.heap H):=λ b o e=>a3 (KX b o e) (by
   cases q:H b with
   | none=>rfl
   | some u=>
    let e':b=a:=hA b (by rw[q];simp);subst e';rw[hK (by rw[q];simp)] at e;cases e)
  let hM:Mod K mg (EO s₁.heap H):={a9,a4 a6,{mb,a4 hb,b2},let {(mc),h1,h2}:=a7;⟨mc,a4 h1,h2⟩};let e0:Jz P w K mg (EO s₁.heap H) callerA [] s₁ H:={J,hM,λ b o e=>K2 e,Wq (D5 _ _),trivial,λ b hb=>Þ (show b∈([]:G Z) from hb) (by simp),hok,.of_eq hg,.none rfl};refine We ((F _ a9 (a4 a6)).run callerA [] s₁ H {[.ref a],[]} [.ref a] [.ref a] _ _ hr (λ _=>J) e0 (a5 s₁ (.ref a)) (.cons J .nil) (b3 H hO hS)) λ r s' h=>?_
  cases r with
  | error e=>exact(b4 H e s' h).elim
  | ok fl=>
   cases fl with
   | next=>exact False.elim h
   | brk=>exact False.elim h
   | cont=>exact False.elim h
   | ret u=>
    let(v,H',os,bare,un,b1,r',q):=h;let q':v=.bl L:=q;subst q';obtain rfl:u=Value.bool L:=r';refine{J,OldK.of_keep λ b o e=>?_,os,bare}
    cases q:H b with
    | none=>exact un.keep b o e q (by intro z;exact Þ (show b∈([]:G Z) from z) (by simp)) (by simp)
    | some u=>
     rcases hO b with z|⟨ob,xs,z⟩
     ·rw[q] at z;cases z
     ·let z2:=un.frzs b ob _ z;let(e1,_):=hok b _ z;let(e2,_):=b1 b _ z2;rw[e] at e1;cases e1;exact e2
 cases hk:K.lookup a with
 | some o=>
  let e:=KX a o hk;rw[ha] at e;cases e;refine core (λ _=>Y) (λ _=>.inl J) (.inr {_,vs.toArray,_,hk,J,J,J,by rw[Vj,a8];exact hl,by simpa using rv}) (λ b u z=>by let z':(Y:Ü HO)=U u:=z;cases z') (λ b z=>Þ J z) λ z=>Þ J z
 | none=>
  refine core (λ b=>if b=a then U (.frz { cls:=.type "list",data:=.seq vs.toArray } (.lst (ns.map V.int))) else Y) (λ b=>?_) (.inl (.inr ⟨{ cls:=.type "list",data:=.seq vs.toArray },Ve rfl⟩)) (λ b u z=>?_) (λ b z=>?_) λ _=>hk
  ·by_cases hb:b=a
   ·exact .inr {_,_,Ve hb}
   ·exact .inl (U7 hb)
  ·by_cases hb:b=a
   ·let z':=(Ve hb).symm.trans z;cases z';subst hb;exact{ha,by rw[U2];exact hl,vs,_,rv,ha}
   ·let z':=(U7 hb).symm.trans z;cases z'
  ·by_cases hb:b=a
   ·exact hb
   ·exact Þ (U7 hb) z
abbrev KOf{K:PySem.W.Frag}{h:Ð}(_:K.In h):PySem.W.Frag:=K
theorem S5{l:W.OpenLaw}{k:à}{q:Ì}{loose:G Ã}{XP:(Ã->Ü O)->Ð->Prop}{YP:Ï->Ð->Prop}{d:DefRec}{K:Params->Å}{CX:Ï->CXT}{sp:Ï->Sp}
  (hn:l.most=U n) (a4:n<=Æ) (a5:d.params.defaults=[]) (hr:iw k callerA)
  (hY:∀ (w:Ï) (h:Ð),YP w h->(K w.params).In h)
  (F:∀ (w:Ï) (mg:Ã->Ü O) (fa:Z) (h:Ð),(K w.params).In h->h.Ns Ä mg->mg d.name=U (.ref fa) →
   ∃ fd:Á,(∀ (s:À) (u:O),BindsTo s fd {[u],[]} [(x,u)]) /\
    ∀ base:Ð,(K w.params).In base->base.Ns Ä mg->au l.prog w (K w.params) mg base (CX w) k fa fd [x] (sp w))
  (a6:∀ (w:Ï) (H:Hp) (a:Z) (ns:G B),ns.length<=n->RU H->SqL (K w.params) H a (ns.map V.int)->sp w [.ref a] H (λ v _=>v=.bl L) λ _ _ _=>False)
  (a7:∀ (w:Ï) (H:Hp) (s:À) (e:O) (s':À),CX w [] H s (λ _ _ _=>False) e s'->False) :
  W.WalkO q loose XP YP l.row.toRowW d [] (λ f vs=>PySem.call f vs):=by
 refine Att.attach_call hn a5 λ w s₀ s₁ mg mb fa o pm cd doc a vs ns zo ww ho hd a9 a8 a3 hints hlen hg=>?_;let KX:=hY w _ ww;let(fd,hb,hF):=F w mg fa _ KX zo.T.g a8;exact GH KX zo.T.g zo.T.b zo.T.builtins zo.T.nolimit hg a3 hints (Vv hlen a4) hr hF hb (λ H hO hS=>a6 w H a ns hlen hO hS) λ H e s'=>a7 w H s₁ e s'
def ar(s:Stmt)(j:à):Stmt:=match s with
 | .ClassDef _ _ _ body _ _ _ _ _ _ _=>body.getD j (.Pass {(0),0,0,0})
 | _=>.Pass {(0),0,0,0}
def dP(s:Stmt):Arguments:=match s with
 | .FunctionDef _ a _ _ _ _ _ _ _ _=>a
 | _=>{ posonlyargs:=[],args:=[],vararg:=Y,kwonlyargs:=[],kw_defaults:=[],kwarg:=Y,defaults:=[] }
def cK(s:Stmt):G Stmt:=match s with
 | .FunctionDef _ _ b _ _ _ _ _ _ _=>b
 | _=>[]
def aa(s:Stmt):Scope:=match s with
 | .FunctionDef _ _ _ _ _ _ sc _ _ _=>sc
 | _=>{ kind:=.function,names:=[],isGenerator:=Â,isCoroutine:=Â }
abbrev CX0:CXT:=λ _ _ _ _ _ _=>False
abbrev E0:XK:=λ _ _ _=>False
def av{X:Cx}:jm CX0 X E0:=λ _ _ _ _ _ _ _ h=>h.elim
structure Fun(K:Å)(x qual:Ã)(st:Stmt)(f:Z)(fd:Á):Prop where
 ex:∃ (oc:O) (od:Ü Z) (kV doc pm:O) (an:Ü Z) (cdv ct:O) (osl:Array (Ü O)),
  fd=W.fnOf x qual (dP st) (cK st) (aa st) .none kV doc pm an cdv ct/\K.lookup f=U ⟨oc,od,.func fd,osl⟩/\W.codeIn K cdv qual=L
 kp:W.keepIn K (.ref f)=L
section
variable {K:PySem.W.Frag}{base:Ð}
theorem Fun.ok{st:Stmt}{N:G Ã}{k:à}{sp:Sp}(F:Fun K x qual st f fd)(S:af N ps (aa st))(len:∀ vs H Q E,sp vs H Q E->vs.length=ps.length)
  (a3:∀ (cdv:O) (A:Î) (outer:G Env) (s:À) (H:Hp) (vs:G V) (Q:VK) (E:XK),iw k (A.deeper (envOfC qual (aa st) %[s|99] f cdv))->sp vs H Q E →
   ∃ t,PSs (Ae cb CX0 P w K mg base N qual (aa st) f cdv A outer s H E).nox (cK st) t/\t { nx:=λ _ H'=>Q .non H',rt:=Q } (start N vs) H):eV cb P w K mg base CX0 (k+1) f fd ps sp:=by
 let(oc,od,kV,doc,pm,an,cdv,ct,osl,rfl,lk,a4):=F.ex;refine N5 lk a4 S len λ A outer s H vs Q E hr a5=>?_;let(t,h,q):=a3 cdv A outer s H vs Q E hr a5;exact{(t),h.nox,q}
theorem Fun.binds{st:Stmt}(F:Fun K x qual st f fd)
  (h:∀ (kV doc pm:O) (an:Ü Z) (cdv ct:O) (us:G O),us.length=ps.length->bindArgs (W.fnOf x qual (dP st) (cK st) (aa st) .none kV doc pm an cdv ct) {us,[]}=pure (ps.zip us)):ao K fd ps []:=by
 let(oc,od,kV,doc,pm,an,cdv,ct,osl,rfl,lk,a3):=F.ex;exact .all (h kV doc pm an cdv ct)
def Qv{st:Stmt}{oc:O}{od an:Ü Z}{osl:Array (Ü O)}{kV doc pm cdv ct:O}(l:K.lookup f=U {oc,od,.func (W.fnOf x qual (dP st) (cK st) (aa st) .none kV doc pm an cdv ct),osl})
  (c:W.codeIn K cdv qual=L) (k:W.keepIn K (.ref f)=L):Fun K x qual st f (W.fnOf x qual (dP st) (cK st) (aa st) .none kV doc pm an cdv ct):={⟨oc,od,kV,doc,pm,an,cdv,ct,osl,J,l,c⟩,k}
end
def B9(h:n<=1000):n<Æ:=Nat.lt_of_le_of_lt h (by decide)
section
variable {X:Cx}
theorem pv(i:à)(hN:X.N[i]? = U x:=by rfl)(hv:Vis X.env.scope x:=by first|exact Or.inl rfl|exact Or.inr (Or.inl J)|exact Or.inr (Or.inr J))(hd:(x == ("__debug__":Ã))=Â:=by decide)
  (a3:(x == ("__classdict__":Ã))=Â:=by decide):PE X (.Name x pos) (Rb i):=OC hN hv hd a3
end
theorem TU{c A wv:Prop}[Decidable c](h1:c->A)(h2:¬ c->wv):if c then A else wv:=by
 by_cases h:c
 ·rw[Ve h];exact h1 h
 ·rw[U7 h];exact h2 h
def nM(H H':Hp):Prop:=∀ b o,H b=U o->H' b=U o
def nM.refl(H:Hp):nM H H:=λ _ _ h=>h
theorem nM.trans{H2:Hp}(a:nM H H1)(b:nM H1 H2):nM H H2:=λ c o h=>b c o (a c o h)
theorem nM.free(e:nM H H')(h:H' l=Option.none):H l=Option.none:=by
 cases q:H l with
 | none=>rfl
 | some o=>
  rw[e l o q] at h;cases h
theorem nM.seq{a:Z}(e:nM H H')(h:SqL K H a xs):SqL K H' a xs:=by
 rcases h with (h|⟨o,h⟩)|h
 ·exact .inl (.inl (e _ _ h))
 ·exact .inl (.inr {o,e _ _ h})
 ·exact .inr h
section
variable {κ:Type}[DecidableEq κ]
def nL(kvs:G (κ × V))(k:κ):Ü V:=(kvs.find? λ kv=>decide (kv.1=k)).map (·.2)
def wq(kvs:G (κ × V))(k:κ)(v:V):G (κ × V):=
 if (kvs.any λ kv=>decide (kv.1=k))=L then kvs.map (λ kv=>if kv.1=k then (kv.1,v) else kv) else kvs++[(k,v)]
def lW(kvs:G (κ × V))(k:κ):G (κ × V):=kvs.filter λ kv=>decide (kv.1≠k)
theorem lE{p:κ × V}{r:G (κ × V)}{k:κ}(e:p.1=k):nL (p::r) k=U p.2:=by simp[nL,XJ,e]
theorem jo{p:κ × V}{r:G (κ × V)}{k:κ}(e:¬ p.1=k):nL (p::r) k=nL r k:=by simp[nL,XJ,e]
theorem wQ(k:κ):∀ kvs:G (κ × V),(kvs.any λ kv=>decide (kv.1=k))=(nL kvs k).isSome
 | []=>rfl
 | p::r=>by
  rw[Yx]
  by_cases e:p.1=k
  ·simp only[lE e,Vi e,Bool.true_or,Option.isSome_some]
  ·rw[jo e,VE e,Ye];exact wQ k r
theorem mW(kvs:G (κ × V))(k:κ)(v:V):(wq kvs k v).length<=kvs.length+1:=by
 unfold wq;split
 ·rw[U2];omega
 ·rw[Va,Vo,WK];omega
theorem oZ.isSome_eq{o:Ü V}{u:Ü O}(r:oZ o u):o.isSome=u.isSome:=by
 cases o with
 | none=>cases u with
  | none=>rfl
  | some _=>exact(show False from r).elim
 | some _=>cases u with
  | none=>exact(show False from r).elim
  | some _=>rfl
theorem KV.val{kvs:G (κ × V)}{vs:G (κ × O)}(r:KV kvs vs)(k:κ):oZ (nL kvs k) (valueAt vs k):=by
 unfold KV at r
 induction r with
 | nil=>exact True.intro
 | @cons p q ps qs h t ih=>
  let(h1,h2):=h
  by_cases e:p.1=k
  ·let e':q.1=k:=h1.symm.trans e;let b:valueAt (q::qs) k=U q.2:=by simp[valueAt,XJ,e']
   rw[lE e,b];exact h2
  ·let e':¬ q.1=k:=λ z=>e (h1.trans z);let b:valueAt (q::qs) k=valueAt qs k:=by simp[valueAt,XJ,e']
   rw[jo e,b];exact ih
theorem KV.any{kvs:G (κ × V)}{vs:G (κ × O)}(r:KV kvs vs)(k:κ):(kvs.any λ kv=>decide (kv.1=k))=vs.any λ kv=>decide (kv.1=k):=by
 unfold KV at r
 induction r with
 | nil=>rfl
 | cons h t ih=>rw[Yx,Yx,ih,h.1]
theorem KV.repl{kvs:G (κ × V)}{vs:G (κ × O)}(r:KV kvs vs)(k:κ)(ry:bI y u) :
  KV (kvs.map λ kv=>if kv.1=k then (kv.1,y) else kv) (vs.map λ kv=>if kv.1=k then (kv.1,u) else kv):=by
 unfold KV at r ⊢
 induction r with
 | nil=>exact .nil
 | @cons p q ps qs h t ih=>
  rw[Vs,Vs];refine .cons ?_ ih;let(h1,h2):=h
  by_cases e:p.1=k
  ·rw[Ve e,Ve (h1.symm.trans e)];exact{(h1),ry}
  ·rw[U7 e,U7 (λ z=>e (h1.trans z))];exact{(h1),h2}
theorem KV.put{kvs:G (κ × V)}{vs:G (κ × O)}(r:KV kvs vs)(k:κ)(ry:bI y u):KV (wq kvs k y) (stored vs k u):=by
 unfold wq stored;rw[r.any k]
 by_cases e:(vs.any λ kv=>decide (kv.1=k))=L
 ·rw[Ve e,Ve e];exact r.repl k ry
 ·rw[U7 e,U7 e];exact Paired.snoc r {(J),ry}
theorem KV.drop{kvs:G (κ × V)}{vs:G (κ × O)}(r:KV kvs vs)(k:κ):KV (lW kvs k) (without vs k):=by
 unfold KV at r ⊢;unfold lW without
 induction r with
 | nil=>exact .nil
 | @cons p q ps qs h t ih=>
  let(h1,h2):=h;rw[XY,XY]
  by_cases e:p.1=k
  ·let a:¬ decide (p.1≠k)=L:=by simp[e]
   let b:¬ decide (q.1≠k)=L:=by simp[h1.symm.trans e]
   rw[U7 a,U7 b];exact ih
  ·let e':¬ q.1=k:=λ z=>e (h1.trans z);let a:decide (p.1≠k)=L:=by simp[e]
   let b:decide (q.1≠k)=L:=by simp[e']
   rw[Ve a,Ve b];exact .cons {(h1),h2} ih
def KV.length{kvs:G (κ × V)}{vs:G (κ × O)}(r:KV kvs vs):kvs.length=vs.length:=YA r
def HF(kvs:G (κ × V))(k:κ):(lW kvs k).length<=kvs.length:=List.length_filter_le _ _
end
theorem yg{k:Key}(r:bI (kV k) u):(bj P w).is k u=L:=by
 cases k with
 | inl i=>let(t,e):=(show ∃ t,u=Value.int i t from r);subst e;exact vB P w i t
 | inr x=>let(t,e):=(show ∃ t,u=Value.str x t from r);subst e;exact vA P w x t
theorem rZ:∀ {ks:G Key}{us:G O},aX (ks.map kV) us->ItemsAre (bj P w) ks us
 | [],_,r=>by rw[XW] at r;cases r;exact .nil
 | k::ks,_,r=>by
  rw[Vs] at r
  cases r with
  | cons h t=>exact .cons (yg h) (rZ t)
abbrev KT(H:Hp):G (G Key × V)->G (G Key × Z × O)->Prop:=Paired λ p q=>p.1=q.1/\H q.2.1=U (.tup (p.1.map kV))/\bI p.2 q.2.2
theorem KT.val{kvs:G (G Key × V)}{xs:G (G Key × Z × O)}(r:KT H kvs xs)(k:G Key):oZ (nL kvs k) ((atKey xs k).map (·.2)):=by
 induction r with
 | nil=>exact True.intro
 | @cons p q ps qs h t ih=>
  let(h1,_,h2):=h
  by_cases e:p.1=k
  ·let e':q.1=k:=h1.symm.trans e;let b:atKey (q::qs) k=U q.2:=by simp[atKey,XJ,e']
   rw[lE e,b];exact h2
  ·let e':¬ q.1=k:=λ z=>e (h1.trans z);let b:atKey (q::qs) k=atKey qs k:=by simp[atKey,XJ,e']
   rw[jo e,b];exact ih
theorem KT.repl{kvs:G (G Key × V)}{xs:G (G Key × Z × O)}(r:KT H kvs xs)(k:G Key)(ry:bI y u) :
  KT H (kvs.map λ kv=>if kv.1=k then (kv.1,y) else kv) (xs.map (putAt k u)):=by
 induction r with
 | nil=>exact .nil
 | @cons p q ps qs h t ih=>
  rw[map_cons,map_cons];refine .cons ?_ ih;let(h1,h2,h3):=h;unfold putAt
  by_cases e:p.1=k
  ·rw[Ve e,Ve (h1.symm.trans e)];exact{(h1),h2,ry}
  ·rw[U7 e,U7 (λ z=>e (h1.trans z))];exact{(h1),h2,h3}
theorem KT.put{kvs:G (G Key × V)}{xs:G (G Key × Z × O)}(r:KT H kvs xs)(k:G Key)(hb:H b=U (.tup (k.map kV)))(ry:bI y u) :
  KT H (wq kvs k y) (storedH xs k b u):=by
 let e:(kvs.any λ kv=>decide (kv.1=k))=(atKey xs k).isSome:=by
  rw[wQ,(r.val k).isSome_eq,Yk]
 unfold wq storedH;rw[e]
 by_cases q:(atKey xs k).isSome=L
 ·rw[Ve q,Ve q];exact r.repl k ry
 ·rw[U7 q,U7 q];exact Paired.snoc r {(J),hb,ry}
theorem KT.keeps{kvs:G (G Key × V)}{xs:G (G Key × Z × O)}(r:KT H kvs xs)(ht:∀ b ys,H b=U (.tup ys)->H' b=U (.tup ys)):KT H' kvs xs:=
 Paired.mapP r λ _ _ z=>{z.1,ht _ _ z.2.1,z.2.2}
section
variable {a:Z}
def Nw{u:HO}(ok:HOk P w H h)(e:Rd H a u):bL P w H h a u:=e.ok ok
def Av(ok:HOk P w H h)(e:Rd H a (.dK kvs)):kvs.length<=Æ/\(a == sysModules)=Â/\∃ vs,KV kvs vs/\h.DictOf (bj P w) a vs:=
 show bL P w H h a (.dK kvs) from Nw ok e
def N7(ok:HOk P w H h)(e:H a=U (.dK kvs)):kvs.length<=Æ/\(a == sysModules)=Â/\∃ vs,KV kvs vs/\h.DictOf (bj P w) a vs:=Av ok (.inl e)
theorem rF{ks:G Key}(ok:HOk P w H h)(e:H a=U (.tup (ks.map kV))):(tupleKind (bj P w)).is h ks a:=by
 let(_,its,r,o,h1,h2,n,h3):=(show bL P w H h a (.tup (ks.map kV)) from ok a _ e);exact{o,its.toArray,n,h1,h2,h3,by simpa using rZ r}
theorem Au{kvs:G (G Key × V)}(ok:HOk P w H h)(e:Rd H a (.dT kvs)):kvs.length<=Æ/\(a == sysModules)=Â /\
  ∃ xs,KT H kvs xs/\h.DictOfH (tupleKind (bj P w)) a xs:=by
 let(z,y,xs,r,o,es,ep,h1,h2,h3,h4,h5):=(show bL P w H h a (.dT kvs) from Nw ok e);refine{z,y,xs,r,o,es,ep,h1,h2,h3,h4,λ x hx=>?_,h5}
 let all:∀ {l:G (G Key × V)} {m:G (G Key × Z × O)},KT H l m->∀ x∈m,(tupleKind (bj P w)).is h x.1 x.2.1:=by
  intro l m q
  induction q with
  | nil=>intro x hx;exact nomatch hx
  | @cons p q ps qs hq t ih=>
   intro x hx
   rcases Vp.mp hx with e|hx
   ·subst e;exact rF ok (by rw[←hq.1];exact hq.2.1)
   ·exact ih x hx
 exact all r x hx
def SW{kvs:G (G Key × V)}(ok:HOk P w H h)(e:H a=U (.dT kvs)):kvs.length<=Æ/\(a == sysModules)=Â /\
  ∃ xs,KT H kvs xs/\h.DictOfH (tupleKind (bj P w)) a xs:=Au ok (.inl e)
end
def Ai(H:Hp)(a:Z)(y:V)(r:Ü V):Prop:=
 (∃ kvs k,Rd H a (.dK kvs)/\y=kV k/\r=nL kvs k)\/∃ kvs k b,Rd H a (.dT kvs)/\y=.ref b/\H b=U (.tup (k.map kV))/\r=nL kvs k
def M3(H:Hp)(a:Z)(y v:V)(H':Hp):Prop:=
 (∃ kvs k,H a=U (.dK kvs)/\y=kV k/\kvs.length<Æ/\H'=upd H a (.dK (wq kvs k v))) \/
 ∃ kvs k b,H a=U (.dT kvs)/\y=.ref b/\H b=U (.tup (k.map kV))/\kvs.length<Æ/\H'=upd H a (.dT (wq kvs k v))
def Ai.k{a:Z}{k:Key}(e:H a=U (.dK kvs)):Ai H a (kV k) (nL kvs k):=.inl {kvs,k,.inl e,J,J}
def M3.k{a:Z}{k:Key}(e:H a=U (.dK kvs))(hl:kvs.length<Æ):M3 H a (kV k) v (upd H a (.dK (wq kvs k v))):=.inl {(kvs),k,e,J,hl,J}
variable {k:à}
section
variable {X:Cx}{a:Z}{r:O}{o:Ü V}
theorem Inv.big(I:Inv X pins σ H s):sysModules<%[s|99]:=by
 let h:Ä<%[s|99]:=(I.mod.glob.keeps I.bk).lt;exact Xj (by decide) h
theorem Ed(hu:A.units+1<cLine)(I:Inv X pins σ H s)(g:Ai H a y (U v))(ry:bI y u)(h:∀ w' s',Inv X pins σ H s'->bI v w'->Q w' s') :
  Ç (Ê X.prog X.w) A (getItem (.ref a) u) Q E s:=by
 rcases g with ⟨kvs,k,e,ey,l⟩|⟨kvs,k,b,e,ey,eb,l⟩
 ·subst ey;let(z,hd,vs,rel,dd):=Av I.hok e;let(w',hw,rw'):=oZ.some_of (v:=v) (o:=valueAt vs k) (by rw[l];exact rel.val k);exact wpAny_getItem_of (yg ry) dd.mapOf hw (h w' _ (I.tok _) rw')
 ·subst ey;cases (show u=Ë b from ry);let(z,hd,xs,rel,dd):=Au I.hok e;let(w',hw,rw'):=oZ.some_of (v:=v) (o:=(atKey xs k).map (·.2)) (by rw[l];exact rel.val k);let(p,hp,a3):=Vf.mp hw;refine wpAny_getItem_heap (XD hu) (rF I.hok eb) dd hp ?_;rw[a3];exact h w' _ (I.tok _) rw'
theorem UK(hu:A.units+1<cLine)(I:Inv X pins σ H s)(g:Ai H a y o)(ry:bI y u)(h:∀ s',Inv X pins σ H s'->Q (.bool o.isSome) s') :
  Ç (Ê X.prog X.w) A (compareOp .In u (.ref a)) Q E s:=by
 rcases g with ⟨kvs,k,e,ey,l⟩|⟨kvs,k,b,e,ey,eb,l⟩
 ·subst ey;let(z,hd,vs,rel,dd):=Av I.hok e;refine wpAny_in_of (yg ry) hd dd.mapOf ?_;rw[←(rel.val k).isSome_eq,←l];exact h _ (I.tok _)
 ·subst ey;cases (show u=Ë b from ry);let(z,hd,xs,rel,dd):=Au I.hok e;refine wpAny_in_heap (XD hu) (rF I.hok eb) hd dd ?_;let q:=(rel.val k).isSome_eq;rw[Yk] at q;rw[←q,←l];exact h _ (I.tok _)
theorem MC(hu:A.units+1<cLine)(I:Inv X pins σ H s)(g:Ai H a y o)(ry:bI y u)(h:∀ s',Inv X pins σ H s'->Q (.bool (!o.isSome)) s') :
  Ç (Ê X.prog X.w) A (compareOp .NotIn u (.ref a)) Q E s:=by
 rcases g with ⟨kvs,k,e,ey,l⟩|⟨kvs,k,b,e,ey,eb,l⟩
 ·subst ey;let(z,hd,vs,rel,dd):=Av I.hok e;refine wpAny_notIn_of (yg ry) hd dd.mapOf ?_;rw[←(rel.val k).isSome_eq,←l];exact h _ (I.tok _)
 ·subst ey;cases (show u=Ë b from ry);let(z,hd,xs,rel,dd):=Au I.hok e;refine wpAny_notIn_heap (XD hu) (rF I.hok eb) hd dd ?_;let q:=(rel.val k).isSome_eq;rw[Yk] at q;rw[←q,←l];exact h _ (I.tok _)
theorem va{ob:HO}(I:Inv X pins σ H s)(mu:Mut (H a))(hs:Heap.SameBut a s.heap h')(he:∃ q,h'.get? a=U q)(new:bL X.prog X.w (upd H a ob) h' a ob) :
  Inv X pins σ (upd H a ob) { s with heap:=h',toks:=t' }:=
 I.write (x:=a) (e:=a) mu (.inl J) (λ b q hb z=>(hs.2 b hb).trans z) he new
def Jj{vs:G (Key × O)}(z:kvs.length<=Æ)(hd:(a == sysModules)=Â)(rel:KV kvs vs)(dd:h'.DictOf (bj P w) a vs) :
  bL P w H' h' a (.dK kvs):={(z),hd,vs,rel,dd}
theorem Ec{Q:Unit->À->Prop}(hu:A.units+1<cLine)(I:Inv X pins σ H s)(g:M3 H a y v H')(ry:bI y u)(rv:bI v r)(h:∀ s',Inv X pins σ H' s'->Q () s') :
  Ç (Ê X.prog X.w) A (setItem (.ref a) u r) Q E s:=by
 rcases g with ⟨kvs,k,e,ey,l,eH⟩|⟨kvs,k,b,e,ey,eb,l,eH⟩
 ·subst ey eH;let(z,hd,vs,rel,dd):=N7 I.hok e;let hz:vs.length<=Æ:=by rw[←rel.length];exact z
  let hl:(wq kvs k v).length<=Æ:=by have:=mW kvs k v;omega
  refine wpAny_setItem_pairs (hsz:=hz) (yg ry) dd λ h' a3 hs=>h _ ?_;let he:∃ q,h'.get? a=U q:=let {q,_,_,hq,_}:=a3;⟨q,hq⟩;exact va I (by rw[e];exact True.intro) hs he (Jj hl hd (rel.put k rv) a3)
 ·subst ey eH;cases (show u=Ë b from ry);let(z,hd,xs,rel,dd):=SW I.hok e;let hz:xs.length<=Æ:=by rw[←YA rel];exact z
  let hl:(wq kvs k v).length<=Æ:=by have:=mW kvs k v;omega
  refine wpAny_setItem_heap (hsz:=hz) (XD hu) (rF I.hok eb) dd λ h' a3 hs=>h _ ?_;let(q,es,ep,hq,h2,h3,h4,_,h5):=a3;refine va I (by rw[e];exact True.intro) hs ⟨q,hq⟩ ⟨hl,hd,_,(rel.put k eb rv).keeps λ c ys ec=>?_,q,es,ep,hq,h2,h3,h4,h5⟩;rw[ah (Sd ec e (λ z=>nomatch z))];exact ec
end
section
variable {X:Cx}{a:Z}{k:Key}
theorem SX{more:G O}(I:Inv X pins σ H s)(e:H a=U (.dK kvs))(ry:bI (kV k) u)(l:nL kvs k=U v)(hm:more=[]\/∃ x,more=[x])
  (h:∀ w' s',Inv X pins σ (upd H a (.dK (lW kvs k))) s'->bI v w'->Q w' s'):Ç (Ê X.prog X.w) A (call (.builtin "dict.pop") (.ref a::u::more)) Q E s:=by
 let(z,hd,vs,rel,dd):=N7 I.hok e;let(w',hw,rw'):=oZ.some_of (v:=v) (o:=valueAt vs k) (by rw[←l];exact rel.val k)
 let hp:(keyPart u).isSome=L:=by
  cases k with
  | inl i=>let(t,q):=(show ∃ t,u=Value.int i t from ry);subst q;rfl
  | inr x=>let(t,q):=(show ∃ t,u=Value.str x t from ry);subst q;rfl
 let ha:argsOk "dict.pop" ⟨.ref a::u::more,[]⟩:=by
  rcases hm with q|⟨x,q⟩
  ·subst q;exact PySem.F.args_dict_pop_2 _ _
  ·subst q;exact PySem.F.args_dict_pop_3 _ _ _
 refine call_meetsIn XN dd.typeIs PySem.F.entry_dict_pop ha (meets_dict_pop_there (bj X.prog X.w) a (yg ry) more hm hp)
  ⟨vs,w',dd,by rw[←rel.length];exact z,hw,λ h' a3 hs=>h w' _ ?_ rw'⟩
 let he:∃ q,h'.get? a=U q:=let {q,_,_,hq,_}:=a3;⟨q,hq⟩;exact va I (by rw[e];exact True.intro) hs he (Jj (Vv (HF kvs k) z) hd (rel.drop k) a3)
end
def Ua(i:Ñ):Prop:=∀ ov iv,subscripted i Â ov iv=operate [ov,iv] (getItem ov iv)
theorem Kn{value slice:Ñ}{T id:String}
  (hl:typeLookup (.type T) "__getitem__"=pure (U (.builtin id))) (hs:Ua slice)
  (h:Ç (Ê prog w) A (eval value env) (λ o s₁=>Ç (Ê prog w) A (eval slice env) (λ i s₂=>s₂.TypeIs o T/\Ç (Ê prog w) A (getItem o i) Q E s₂) E s₁) E s) :
  Ç (Ê prog w) A (eval (.Subscript value slice pos) env) Q E s:=by
 refine Subscript_ (wpAny_mono h (λ o s₁ h₁=>wpAny_mono h₁ (λ i s₂ h₂=>?_) λ _ _ x=>x) λ _ _ x=>x);let(hT,h₂):=h₂;unfold subscriptTail;refine wpAny_bind ?_;rw[getitemInPython_of_ne hT.not_modules];refine wpAny_bind (wpAny_specialOf hT hl ?_)
 let fin:Ç (Ê prog w) A (subscripted slice Â o i) (λ r s₃=>Ç (Ê prog w) A (letTemporaryGo value o r >>= λ _=>pure r) Q E s₃) E s₂:=by
  rw[hs o i];exact wpAny_operating (Wj h₂ (λ r s₃ h₃=>My (wpAny_letTemporaryGo (U3 h₃))) λ _ _ x=>x)
 first
  | exact U3 (My fin)
  | exact My (U3 (My fin))
  | exact My fin
theorem vS{X:Cx}{a:Z}{o:Ü V}(I:Inv X pins σ H s)(g:Ai H a y o):s.TypeIs (.ref a) "dict":=by
 rcases g with ⟨kvs,k,e,_,_⟩|⟨kvs,k,b,e,_,_,_⟩
 ·let(_,_,vs,_,dd):=Av I.hok e;exact dd.typeIs
 ·let(_,_,xs,_,dd):=Au I.hok e;exact dd.typeIs
def Np(td ty:TE):TE:=λ σ H Q=>td σ H λ x H1=>ty σ H1 λ y H2=>∃ a v,x=.ref a/\Ai H2 a y (U v)/\Q v H2
def Nv(td ty tv:TE):TS:=λ D σ H=>tv σ H λ v H1=>td σ H1 λ x H2=>ty σ H2 λ y H3=>∃ a H4,x=.ref a/\M3 H3 a y v H4/\D.nx σ H4
section
variable {X:Cx}{o i e value:Ñ}{pos' tpos:Pos}{td ty tv:TE}
theorem Bt(hu:X.A.units+1<cLine)(ho:PE X o td)(hi:PE X i ty)(hs:Ua i):PE X (.Subscript o i pos) (Np td ty):=by
 intro pins s σ H Q I h;refine Kn PySem.F.slot_dict_getitem.lookup hs (thn (ho pins s σ H _ I h) λ u s1 ⟨x,H1,I1,rx,q1⟩=>thn (hi pins s1 σ H1 _ I1 q1) λ iv s2 ⟨y,H2,I2,ry,a,v,ex,g,q2⟩=>?_);subst ex;obtain rfl:u=Ë a:=rx;exact{vS I2 g,Ed hu I2 g ry λ w' s3 I3 rw'=>{(v),H2,I3,rw',q2}}
theorem pw(hu:X.A.units+1<cLine)(ho:PE X o td)(hi:PE X i ty)(hv:PE X value tv)(hs:swapsWith value (U (.Subscript o i pos')) pos.line X.env=pure Â) :
  PS X (.Assign [.Subscript o i pos'] value pos) (Nv td ty tv):=by
 intro pins s σ H D I h;refine wpAny_Assign_Subscript (thn (hv pins s σ H _ I h) λ r s1 ⟨v,H1,I1,rv,q1⟩=>thn (ho pins s1 σ H1 _ I1 q1) λ u s2 ⟨x,H2,I2,rx,q2⟩=>thn (hi pins s2 σ H2 _ I2 q2) λ iv s3 ⟨y,H3,I3,ry,a,H4,ex,g,q3⟩=>?_) hs;subst ex;obtain rfl:u=Ë a:=rx;exact Ec hu I3 g ry rv λ s4 I4=>{(σ),H4,I4,q3}
end
def HI(h:Ð)(hb:sysModules<h.objs.size):bL P w H (h.push { cls:=.type "dict",data:=.dict #[] }) h.objs.size (.dK []):=
 ⟨VM _,Wr.mpr (Vz (Vl hb)),[],.nil,Heap.DictOf.new h⟩
def Oj:TE:=λ _ H Q=>∀ p,H p=Y->Q (.ref p) (upd H p (.dK []))
section
variable {X:Cx}
theorem FU:PE X (.Dict [] [] pos) Oj:=λ pins s σ H Q I h=>
 wpAny_Dict_empty {.ref %[s|99],_,I.laid (a:=%[s|99]) (o:=.dK []) (t':=s.toks) (λ _ _ q=>U0 _ q) (U6 _) (HI s.heap I.big),J,h _ (I.hok.fresh (U6 _))}
end
structure M2(X:Cx)(o:Ñ)(m:Ã)(apos:Pos)(e f:Ñ)(cpos:Pos):Prop where
 base:attributeBase o m X.env (eval o X.env)=eval o X.env
 few:((backTo cpos (starEach [e,f] X.env)).all (λ x=>!x.1) && (backToKw cpos (keywordEach [] X.env)).all (λ x=>x.1.isSome)
  && decide (([e,f]:G Ñ).length+([]:G Keyword).length+(if ([]:G Keyword).isEmpty then 0 else 1)<30))=L
 line:(apos.endLine == cpos.line)=L
 trees:backTo cpos (starEach [e,f] X.env)=[(Â,eval e X.env),(Â,eval f X.env)]
variable {base:Ð}
section
variable {X:Cx}{a:Z}{d:V}{r:O}{o:Ü V}
end
section
variable {X:Cx}{o e f:Ñ}{apos cpos:Pos}{td ty tx:TE}
end
section
variable {X:Cx}{a:Z}
end
section
variable {X:Cx}{a:Z}
end
section
variable {κ:Type}[DecidableEq κ]
end
section
variable {X:Cx}
def Ke(i j:B):Prop:=i.natAbs<2 ^ 256/\j.natAbs<2 ^ 256
theorem BW{i:B}(h:i.natAbs<2 ^ 256):Builtin.Int.intBits i<=2 ^ 20:=Vv (intBits_le h) (by decide)
theorem KZ:OpR X (binaryOp .Mult) (rI Ke λ i j=>.int (i * j)):=opI λ _ _ _ _ _ _ _ hc q=>mul_int q (IntMulOk.of_bits (BW hc.1) (BW hc.2))
def E9(_ j:B):Prop:=j≠0/\j.natAbs<2 ^ 256
theorem Qm{j:B}(h:j≠0)(hj:j.natAbs<2 ^ 256):j.natAbs.log2<9000:=by
 let h0:j.natAbs≠0:=by omega
 let h1:=(Nat.log2_lt h0).mpr hj;omega
theorem FX:OpR X (binaryOp .FloorDiv) (rI E9 λ i j=>.int (i.fdiv j)):=opI λ _ _ _ _ _ _ _ hc q=>floordiv_int hc.1 q (.inl (PyProof.noPylong_of_log2 (Qm hc.1 hc.2)))
theorem HM:bK X (.builtin "isinstance") (λ xs H Q=>∃ x n ty b,xs=[x,.ty n]/\uf X.K H x ty/\Ö X.K ty (.type n)=U b/\Q (.bl b) H):=by
 intro pins s σ H xs us Q I r h;let(x,n,ty,b,rfl,a3,hk,q):=h;let(u,w',rfl,rx,rc):=Ak r;cases (show w'=Ø n from rc);exact r0 I rx a3 hk (λ tk=>{.bl b,H,I.tok _,J,q})
def DU(K:Å)(A wv:String)(r:Ý)
  (h:(if (Ø A == Ø wv)=L then U L else if W.kitMeta wv=L then (fastBuiltinMro A).map (·.contains (.type wv)) else Y)=U r):Ö K (.type A) (.type wv)=U r:=h
mutual
inductive o6 (K:PySem.W.Frag) (H:Hp):V->PyData->Prop
 | non:o6 K H .non .none
 | bl (b:Ý):o6 K H (.bl b) (.bool b)
 | int (i:B):o6 K H (.int i) (.int i)
 | str (x:Ã):o6 K H (.str x) (.str x)
 | lst {a:Z} {xs:G V} {ds:G PyData} (h:SqL K H a xs) (r:lY K H xs ds):o6 K H (.ref a) (.list ds)
 | tup {a:Z} {xs:G V} {ds:G PyData} (h:SqT K H a xs) (r:lY K H xs ds):o6 K H (.ref a) (.tuple ds)
inductive lY (K:PySem.W.Frag) (H:Hp):G V->G PyData->Prop
 | nil:lY K H [] []
 | cons {x:V} {d:PyData} {xs:G V} {ds:G PyData} (h:o6 K H x d) (t:lY K H xs ds):lY K H (x::xs) (d::ds)
end
mutual
theorem o6.reads(I:Inv X pins σ H s):∀ {x:V}{d:PyData}{u:O},o6 X.K H x d->bI x u->∃ as,Reads s.heap u d as
 | _,_,_,.non,r=>by cases (show _=É from r);exact{_,.none}
 | _,_,_,.bl b,r=>by cases (show _=Value.bool b from r);exact{_,.bool b}
 | _,_,_,.int i,r=>by let(t,rfl):=r;exact{_,.int i t}
 | _,_,_,.str x,r=>by let(t,rfl):=r;exact{_,.str x t}
 | _,_,_,@o6.lst _ _ a xs ds h q,r=>by
  cases (show _=Ë a from r);let(its,hv,hp,_):=I.list h;let(o,n,e,c,_,d):=hp;let(as,z):=lY.reads I q hv;exact{_,.list e c d (by simpa using z)}
 | _,_,_,@o6.tup _ _ a xs ds h q,r=>by
  cases (show _=Ë a from r);let(its,hv,hp,_):=I.tuple h;let(o,e,c,n,d):=hp;let(as,z):=lY.reads I q hv;exact{_,.tuple e c d (by simpa using z)}
theorem lY.reads(I:Inv X pins σ H s):∀ {xs:G V}{ds:G PyData}{us:G O},lY X.K H xs ds->aX xs us->∃ as,ReadsAll s.heap us ds as
 | _,_,_,.nil,.nil=>{_,.nil}
 | _,_,_,.cons h t,.cons r q=>by
  let(as,z):=o6.reads I h r;let(bs,y):=lY.reads I t q;exact{_,.cons z y}
end
def Uv(K:Å):R2:=λ x y H Q=>∃ d e,o6 K H x d/\o6 K H y e/\SeqAt.shaped d=L/\SeqAt.shaped e=L/\Q (.bl (PyData.eqv d e)) H
def Ur(K:Å):R2:=λ x y H Q=>∃ d e,o6 K H x d/\o6 K H y e/\SeqAt.shaped d=L/\SeqAt.shaped e=L/\Q (.bl (!PyData.eqv d e)) H
theorem OO(hu:X.A.units+64<cLine):OpR X (compareOp .Eq) (Uv X.K):=by
 intro pins s σ H x y v u Q I rx ry h;let(d,e,hd,he,sd,se,q):=h;let(as,z):=hd.reads I rx;let(bs,z'):=he.reads I ry;exact SeqAt.compareEq_shaped z z' sd se hu {.bl _,H,I,J,q}
theorem OL(hu:X.A.units+64<cLine):OpR X (compareOp .NotEq) (Ur X.K):=by
 intro pins s σ H x y v u Q I rx ry h;let(d,e,hd,he,sd,se,q):=h;let(as,z):=hd.reads I rx;let(bs,z'):=he.reads I ry;exact SeqAt.compareNe_shaped z z' sd se hu {.bl _,H,I,J,q}
end
theorem Fu(h:H p=Y):nM H (upd H p o):=λ b u e=>by
 rw[ah (bz e h)];exact e
theorem Jm(xs:G α)(i:B)(h0:0<=i)(h1:i<xs.length):∃ v,atI xs i=U v/\v∈xs:=by
 let hl:i.toNat<xs.length:=by omega
 refine{xs[i.toNat],?_,XX hl};let e:((i.toNat:à):B)=i:=by omega
 have:=bQ (xs:=xs) (j:=i.toNat) (v:=xs[i.toNat]) (U4 hl);rw[e] at this;exact this
theorem xG(ns:G B)(i:B)(h0:0<=i)(h1:i<ns.length):∃ z,atI (ns.map V.int) i=U (.int z)/\z∈ns:=by
 let(v,e,m):=Jm (ns.map V.int) i h0 (by simpa using h1);let(z,hz,rfl):=U8.mp m;exact{(z),e,hz}
def rj(cells:G (Ã × Z)):G (Ã × NameKind)->G (Ã × Z)->G (Ã × Z)
 | [],acc=>acc
 | (n,k)::r,acc=>if (k == .free)=L then rj cells r ((n,(cells.lookup n).getD 0)::acc) else rj cells r acc
theorem i4:∀ (names:G (Ã × NameKind)) (acc:G (Ã × Z)),(∀ y∈names,y.2=.free->∃ c,env.cells.lookup y.1=U c) →
  (forIn names acc (λ (x:Ã × NameKind) (cs:G (Ã × Z))=>match x with
   | (name,kind)=>if (kind == .free)=L then (do let a ←cellOf env name;pure (ForInStep.yield ((name,a)::cs))) else (do pure PUnit.unit;pure (ForInStep.yield cs))):Sem (G (Ã × Z)))=pure (rj env.cells names acc)
 | [],acc,_=>rfl
 | (n,k)::r,acc,h=>by
  rw[YD];let hr:∀ y∈r,y.2=.free->∃ c,env.cells.lookup y.1=U c:=λ y hy=>h y (Vb _ hy)
  by_cases hk:(k == .free)=L
  ·let(c,hc):=h (n,k) mem_cons_self (by simpa using hk);let a3:env.cells.lookup n=U c:=hc;simp only[hk,if_true,rj,a3,Option.getD_some];let e:cellOf env n=pure c:=by unfold cellOf;rw[a3]
   rw[e];exact i4 r _ hr
  ·simp only[hk,XA,rj];exact i4 r acc hr
theorem jK(h:∀ y∈scope.names,y.2=.free->∃ c,env.cells.lookup y.1=U c):closureFor scope env=pure (rj env.cells scope.names []):=by
 unfold closureFor;have:=i4 (env:=env) scope.names [] h
 first
  | exact(VQ (λ m=>m >>= λ cs=>pure cs) this).trans (pure_bind _ _)
  | (simp only[] at this ⊢;rw[this];rfl)
theorem qk{cells:G (Ã × Z)}{c:Z}:∀ {names:G (Ã × NameKind)}{acc:G (Ã × Z)},(∀ y∈names,y.2=.free->∃ c,cells.lookup y.1=U c)->(rj cells names acc).lookup x=U c->acc.lookup x=U c\/cells.lookup x=U c
 | [],acc,_,h=>.inl h
 | (n,k)::r,acc,hf,h=>by
  let hr:∀ y∈r,y.2=.free->∃ c,cells.lookup y.1=U c:=λ y hy=>hf y (mem_cons_of_mem _ hy);unfold rj at h
  by_cases hk:(k == .free)=L
  ·rw[Ve hk] at h
   rcases qk hr h with q|q
   ·rw[Wz] at q
    cases hx:x == n with
    | true=>
     rw[hx] at q;let(d,hd):=hf (n,k) Vq (by simpa using hk);let e:x=n:=by simpa using hx
     subst e;let a3:cells.lookup x=U d:=hd;rw[a3] at q ⊢;exact .inr (by simpa using q)
    | false=>rw[hx] at q;exact .inl q
   ·exact .inr q
  ·rw[U7 hk] at h;exact qk hr h
theorem ql{cells:G (Ã × Z)}:∀ {names:G (Ã × NameKind)}{acc:G (Ã × Z)},(∀ y∈names,y.2=.free->∃ c,cells.lookup y.1=U c)->(∃ c,acc.lookup x=U c)->∃ c,(rj cells names acc).lookup x=U c
 | [],acc,_,h=>h
 | (n,k)::r,acc,hf,h=>by
  let hr:∀ y∈r,y.2=.free->∃ c,cells.lookup y.1=U c:=λ y hy=>hf y (mem_cons_of_mem _ hy);unfold rj
  by_cases hk:(k == .free)=L
  ·rw[Ve hk];refine ql hr ?_;rw[Wz]
   cases hx:x == n with
   | true=>exact{_,J}
   | false=>exact h
  ·rw[U7 hk];exact ql hr h
theorem lS{cells:G (Ã × Z)}:∀ {names:G (Ã × NameKind)}{acc:G (Ã × Z)},(∀ y∈names,y.2=.free->∃ c,cells.lookup y.1=U c)->names.lookup x=U .free->∃ c,(rj cells names acc).lookup x=U c
 | [],acc,_,h=>by simp at h
 | (n,k)::r,acc,hf,h=>by
  let hr:∀ y∈r,y.2=.free->∃ c,cells.lookup y.1=U c:=λ y hy=>hf y (mem_cons_of_mem _ hy);rw[lookup_cons] at h;unfold rj
  cases hx:x == n with
  | true=>
   rw[hx] at h;let hk:k=.free:=by simpa using h
   subst hk;rw[Ve (show (NameKind.free == NameKind.free)=L from J)];refine ql hr {(cells.lookup n).getD 0,?_};rw[Wz,hx]
  | false=>
   rw[hx] at h
   by_cases hk:(k == .free)=L
   ·rw[Ve hk];exact lS hr h
   ·rw[U7 hk];exact lS hr h
theorem ik{k:NameKind}:∀ {names:G (Ã × NameKind)},names.lookup x=U k->(x,k)∈names
 | [],h=>by simp at h
 | (n,j)::r,h=>by
  rw[Wz] at h
  cases hx:x == n with
  | true=>
   rw[hx] at h;let e:x=n:=by simpa using hx
   let e2:j=k:=by simpa using h
   subst e;subst e2;exact Vq
  | false=>rw[hx] at h;exact Vb _ (ik h)
theorem eT{env:Env}{x:Ã}:∀ {names:G (Ã × NameKind)},
  (names.map λ (n,k)=>if (k == NameKind.free && env.scope.kind == .function && env.kindOf n == U .cell) then (n,NameKind.cell) else (n,k)).lookup x
   = (names.lookup x).map λ k=>if (k == NameKind.free && env.scope.kind == .function && env.kindOf x == U .cell) then NameKind.cell else k
 | []=>rfl
 | (n,k)::r=>by
  let ih:=@eT env x r
  show List.lookup x ((if (k == NameKind.free && env.scope.kind == .function && env.kindOf n == U .cell)=L then (n,NameKind.cell) else (n,k))::_)=_
  cases hx:x == n with
  | true=>
   let e:x=n:=by simpa using hx
   subst e
   by_cases hc:(k == NameKind.free && env.scope.kind == .function && env.kindOf x == U .cell)=L
   ·rw[Ve hc];simp only[Wz,Vr,Option.map_some];rw[Ve hc]
   ·rw[U7 hc];simp only[Wz,Vr,Option.map_some];rw[U7 hc]
  | false=>
   by_cases hc:(k == NameKind.free && env.scope.kind == .function && env.kindOf n == U .cell)=L
   ·rw[Ve hc];simp only[Wz,hx];exact ih
   ·rw[U7 hc];simp only[Wz,hx];exact ih
abbrev cCx(X:Cx)(scope:Scope)(N':G Ã)(C:Z)(s₀:À)(H₀:Hp)(ex:G Z)(pn:G (Z × Obj)):Cx:=
 { X with N:=N',s₀:=s₀,H₀:=H₀,env:=compEnvC scope (rj X.env.cells scope.names []) C X.env,outer:=X.stack,stack:=X.stack,ex:=ex,fn:=λ _=>Â,pn:=pn,xe:=λ _ _=>False }
def PTs(ww:Cx)(ifs:G Ñ)(t:TT):Prop:=
 ∀ (pins:G (Z × Obj)) (s:À) (σ:St) (H:Hp) (Q:Ý->Hp->Prop),Inv ww pins σ H s->t σ H Q →
  Ç (Ê ww.prog ww.w) ww.A (forIn ifs L λ c r=>if r=L then do let ok ←isTrue c ww.env (eval c ww.env);pure (ForInStep.yield ok) else pure (ForInStep.yield r)) (TP ww pins σ Q) ww.xe s
def S9:TT:=λ _ H Q=>Q L H
def aY{ww:Cx}:PTs ww [] S9:=λ _ _ _ H _ I h=>U3 {(H),I,h}
theorem Bq{ww:Cx}{c:Ñ}{t:TT}(h:PT ww c t):PTs ww [c] t:=λ pins s σ H Q I hw=>PySem.wpAny_tests_one (h pins s σ H Q I hw)
theorem HOk.but(ok:HOk P w H h)(hn:H C=Y)(hs:Heap.SameBut C h h'):HOk P w H h':=λ b ob e=>by
 refine(ok b ob e).stay (λ c w' hc q=>(hs.2 c ?_).trans q) (λ _ q=>q) (λ _ _ q=>q) λ _ _ q=>q;rintro rfl
 rcases hc with rfl|hc
 ·rw[hn] at e;cases e
 ·rw[hn] at hc;cases hc
theorem Un.but{fs ex:G Z}{h2:Ð}(u:Un fs ex H H' h h1)(hs:Heap.SameBut C h1 h2)(hC:∀ b o,h.get? b=U o->b≠C):Un fs ex H H' h h2 where
 keep:=λ b o e n hb hx=>(hs.2 b (hC b o e)).trans (u.keep b o e n hb hx)
 slot:=λ b o e n hb hx=>by
  let(sl,q):=u.slot b o e n hb hx;exact{sl,(hs.2 b (hC b o e)).trans q}
 free:=u.free
 there:=λ b o e hx=>by
  let(o',q):=u.there b o e hx;exact{o',(hs.2 b (hC b o e)).trans q}
 tups:=u.tups
 frzs:=u.frzs
 tbls:=u.tbls
section
variable {X:Cx}
def JD(k:à)(wi:TI)(g:TG)(tt:TT)(te:TE):TE:=λ σ H Q=>wi σ H λ wn H1=>∀ D,H1 D=Y->∃ W:à->à->G V->Hp->Prop,(∃ m,W 0 m [] (upd H1 D (.lst [])))/\∀ i m ys H,W i m ys H →
 (wn.stop i H/\Q (.ref D) H)\/(wn.go i H/\∃ N:G V->Hp->Prop,(∀ a3 H',N a3 H'->∃ m',m' < m/\W (i+1) m' a3 H') /\
  ∀ x H',wn.yld i H x H'->g x (Í k Y++σ) H' λ σ2 H2=>(∃ vs:St,vs.length=k/\σ2=vs++σ)/\tt σ2 H2 λ b H3=>if b=L then te σ2 H3 λ y H4=>H4 D=U (.lst ys)/\ys.length<Æ/\N (ys++[y]) (upd H4 D (.lst (ys++[y]))) else N ys H3)
theorem Ee{ww:Cx}{tg elt iter:Ñ}{ifs:G Ñ}{D:Z}{tt:TT}{te:TE}{tn:à->Ð->Prop}{Q:VK}
  (hx:ww.xe=λ _ _=>False) (hg:PG ww tg g) (ht:PTs ww ifs tt) (he:PE ww elt te) (T:Turn ww.prog ww.w ww.K ww.A tg wn fp it tn) (hf:∀ H:Hp,(∀ b∈fp,H b=Y)->∀ b∈fp,yc ww [] H b)
  (W:à->à->G V->Hp->Prop)
  (turn:∀ i m ys H,W i m ys H->(wn.stop i H/\Q (.ref D) H)\/(wn.go i H/\∃ N:G V->Hp->Prop,(∀ a3 H',N a3 H'->∃ m',m' < m/\W (i+1) m' a3 H') /\
   ∀ x H',wn.yld i H x H'->g x (Í k Y++σ) H' λ σ2 H2=>(∃ vs:St,vs.length=k/\σ2=vs++σ)/\tt σ2 H2 λ b H3=>if b=L then te σ2 H3 λ y H4=>H4 D=U (.lst ys)/\ys.length<Æ/\N (ys++[y]) (upd H4 D (.lst (ys++[y]))) else N ys H3))
  (n:à) (s:À) (h:∃ i ys H,Inv ww [] (Í k Y++σ) H s/\tn i s.heap/\(∀ b∈fp,H b=Y)/\W i n ys H) :
  codeAny (Ê ww.prog ww.w) ww.A (.compLoop (.ListComp elt [⟨tg,iter,ifs,0⟩] scope pos) 0 (.ref it) (.ref D) ww.env) (λ r s'=>r=.ok .next/\∃ H',Inv ww [] (Í k Y++σ) H' s'/\Q (.ref D) H') s:=by
 refine codeAny_loop J (λ n s=>∃ i ys H,Inv ww [] (Í k Y++σ) H s/\tn i s.heap/\(∀ b∈fp,H b=Y)/\W i n ys H) ?_ n h;rintro n s3 ⟨i,ys,H3,I3,a5,a6,w3⟩
 show Ç _ ww.A ((compTurn (.ListComp elt [⟨tg,iter,ifs,0⟩] scope pos) 0 (.ref it) (.ref D) ww.env).onRaise (λ x=>do noteFrame x ww.env;theTreesLotGoes x)) _ _ s3
 refine PySem.wpAny_noted ?_;rw[PySem.compTurn_list]
 let no:∀ {α:Type} {m:Sem α} {P:α->À->Prop} {E:O->À->Prop} {s:À},Ç (Ê ww.prog ww.w) ww.A m P ww.xe s->Ç (Ê ww.prog ww.w) ww.A m P E s:=λ {α m P E s} h=>
  Wj h (λ _ _ q=>q) λ _ _ q=>by rw[hx] at q;exact q.elim
 refine My (Wg (My ?_))
 rcases turn i n ys H3 w3 with ⟨stop,qn⟩|⟨go,N,hN,step⟩
 ·refine thn (T.done ww J J J J i [] s3 (Í k Y++σ) H3 _ I3 (hf H3 a6) a5 stop) λ r s4 ⟨hr,I4⟩=>?_;subst hr;exact U3 {(J),H3,I4,qn}
 ·refine thn (T.item ww J J J J i [] s3 (Í k Y++σ) H3 _ I3 (hf H3 a6) a5 go) λ r s4 ⟨u,hr,h4⟩=>?_;subst hr;refine My (thn h4 λ _ s5 ⟨x,H5,I5,r5,y5,a4,a8⟩=>?_);let a9:=I5.pinned (hf H5 a8) (T.obj _ _ a4);refine My (no (thn (hg _ s5 (Í k Y++σ) H5 x u _ a9 r5 (step x H5 y5)) λ _ s6 ⟨σ6,H6,I6,⟨vs,a7,e6⟩,q6⟩=>?_));subst e6
  let forget:∀ {pins:G (Z × Obj)} {H:Hp} {s:À},Inv ww pins (vs++σ) H s->Inv ww pins (Í k Y++σ) H s:=λ {pins H s} I=>I.weak (by simp[a7]) λ i v e=>by
   by_cases hi:i<k
   ·rw[Wm (by simpa using hi)] at e;simp[WV,hi] at e
   ·rw[V3 (by simpa using XH hi)] at e;rw[V3 (by omega)]
    simpa [a7] using e
  refine My (no (thn (ht _ s6 (vs++σ) H6 _ I6 q6) λ b s7 ⟨H7,I7,q7⟩=>?_))
  let again:∀ {H8:Hp} {s8:À} {a3:G V},Inv ww ([]++rD fp s5.heap) (vs++σ) H8 s8->N a3 H8->∃ m,m<n/\∃ i ys H,Inv ww [] (Í k Y++σ) H s8/\tn i s8.heap/\(∀ b∈fp,H b=Y)/\W i m ys H:=λ {H8 s8 a3} I8 n8=>by
   let(m',hm,w8):=hN a3 H8 n8;refine{m',hm,i+1,a3,H8,forget I8.unpinned,T.keep _ _ _ a4 λ b hb o e=>(I8.pin (b,o) (VF _ (VF _ (ib hb e)))).1,λ b hb=>?_,w8};let(o,e,d):=T.obj _ _ a4 b hb;exact(I8.pin (b,o) (VF _ (VF _ (ib hb e)))).2.1
  cases b with
  | false=>
   rw[U7 U9] at q7;exact U3 {J,again I7 q7}
  | true=>
   rw[Ve J] at q7;refine My (My (no (thn (he _ s7 (vs++σ) H7 _ I7 q7) λ y s8 ⟨y',H8,I8,ry,q8,l8,n8⟩=>?_)));exact My (no (thn (cw _ s8 (vs++σ) H8 (.ref D) [y'] (.ref D) [y] (λ _ H'=>N (ys++[y']) H') I8 J (.cons ry .nil) {(D),ys,y',J,J,q8,l8,n8}) λ _ s9 ⟨_,H9,I9,_,q9⟩=>U3 (U3 {J,again I9 q9})))
structure me(X:Cx)(scope:Scope)(N':G Ã)(k:à):Prop where
 cell:∀ y∈scope.names,y.2 ≠ .cell
 kind:scope.kind=.function
 names:∀ y∈scope.names,y.2=.local->scope.names.lookup y.1=U .local
 free:∀ y∈scope.names,y.2=.free->X.env.scope.names.lookup y.1=U .cell
 len:N'.length=k+X.N.length
 sub:∀ i x,N'[k+i]? = U x->scope.names.lookup x=U .free->X.N[i]? = U x
 loc:∀ i x,N'[k+i]? = U x->scope.names.lookup x≠U .local
theorem me.cells(c:me X scope N' k)(I:Inv X pins σ H s):∀ y∈scope.names,y.2=.free->∃ a,X.env.cells.lookup y.1=U a:=λ y hy e=>
 I.ok.has y.1 (.inl (c.free y hy e))
theorem Hq{s₄:À}{m:Ã->Ü O}(c:me X scope N' k)(I:Inv X pins σ H s)
  (hf:∀ b∈fp,yc X pins H b) (a8:∀ b∈fp,b<%[s|99]) (hb:∀ b∈fp,X.base.get? b=Y) (a9:s₄.heap.Ns %[s|99] m) (hk:∀ b o,s.heap.get? b=U o->s₄.heap.get? b=U o) (ho:s₄.os=s.os) (hg:s₄.gens=s.gens) :
  Inv (cCx X scope N' %[s|99] s H fp (X.pn++pins)) [] (Í k Y++σ) H s₄:=by
 let a6:=c.cells I
 let sub:∀ x a,(rj X.env.cells scope.names []).lookup x=U a->X.env.cells.lookup x=U a:=λ x a e=>by
  rcases qk a6 e with q|q
  ·simp at q
  ·exact q
 let kinds:∀ x,(compEnvC scope (rj X.env.cells scope.names []) %[s|99] X.env).kindOf x=U .cell\/(compEnvC scope (rj X.env.cells scope.names []) %[s|99] X.env).kindOf x=U .free->scope.names.lookup x=U .free:=λ x hx=>by
  let e:(compEnvC scope (rj X.env.cells scope.names []) %[s|99] X.env).kindOf x=(scope.names.lookup x).map λ k=>if (k == NameKind.free && X.env.scope.kind == .function && X.env.kindOf x == U .cell) then NameKind.cell else k:=eT
  rw[e] at hx
  cases q:scope.names.lookup x with
  | none=>rw[q] at hx;simp at hx
  | some j=>
   rw[q] at hx;let hj:j ≠ .cell:=c.cell (x,j) (ik q)
   cases j<;>simp_all
 let fresh:∀ b,%[s|99]<=b->s.heap.get? b=Y:=λ b hb=>V0 hb;let ne:∀ b o,s.heap.get? b=U o->b≠%[s|99]:=λ b o e=>Vl (U5 e)
 let b1:∀ x a,X.env.cells.lookup x=U a->a<%[s|99]:=λ x a e=>by
  let(v,o,h1,_):=I.cell x a e;exact U5 h1
 refine{⟨I.ok.mod,c.kind,I.ok.glob,I.ok.blt,U6 _,λ x y a e1 e2=>I.ok.inj x y a (sub x a e1) (sub y a e2),λ x hx=>lS a6 (kinds x hx),(λ _ _ z=>nomatch z),I.ok.hd,I.soft,I.ok.frames,.inl J,λ b a5=>{Vl (a8 b a5),λ x a e=>(hf b a5).2.2.2.2.1 x a (sub x a e)},
   I.bs,Vv I.ok.bsz I.sz,(λ b o e a5=>by rw[hb b a5] at e;cases e),λ b a5 hz=>?_,I.stack,I.stkFree⟩,ho,by rw[hg];exact I.bare,Un.kept hk,{m,a9,λ i x v e1 e2 e3=>?_},λ x a e=>?_,I.hok.fresh (U6 _),λ x a e=>I.freeC x a (sub x a e),λ p hp=>?_,I.hok.kept hk,?_}
 ·rcases Vp.mp (I.stkSub b hz) with z|z
  ·exact(hf b a5).2.1 z
  ·exact(hf b a5).2.2.1 z
 ·let hi:k<=i:=by
   refine XH λ hi=>?_;rw[Wm (by simpa using hi)] at e2;simp[WV,hi] at e2
  obtain⟨j,rfl⟩:∃ j,i=k+j:={i - k,by omega};rw[V3 (by simp)] at e2;let b2:σ[j]? = U (U v):=by simpa using e2
  let e:(relabel scope X.env).names.lookup x=(scope.names.lookup x).map λ k=>if (k == NameKind.free && X.env.scope.kind == .function && X.env.kindOf x == U .cell) then NameKind.cell else k:=eT
  let a3:scope.names.lookup x=U .free:=by
   cases q:scope.names.lookup x with
   | none=>
    rcases e3 with z|z|z
    all_goals (have z':(relabel scope X.env).names.lookup x=U _:=z;rw[e,q] at z';simp at z')
   | some j'=>
    let h1:j' ≠ .cell:=c.cell (x,j') (ik q);let h2:j' ≠ .local:=λ z=>c.loc j x e1 (by rw[q,z])
    rcases e3 with z|z|z
    all_goals (have z':(relabel scope X.env).names.lookup x=U _:=z;rw[e,q] at z';cases j'<;>simp_all)
  let hX:=c.sub j x e1 a3;let a4:=c.free (x,.free) (ik a3) J;let(m0,b5,b3):=I.loc;let(u,r,l):=b3 j x v hX b2 (.inr (.inl a4));refine{u,r,?_}
  rcases l with ⟨z,_⟩|⟨_,a,ea,hz⟩
  ·let z':X.env.scope.names.lookup x=U .local:=z;rw[a4] at z';cases z'
  ·let(a',a7):=lS (acc:=[]) a6 a3;let e4:=sub x a' a7;rw[ea] at e4;cases e4;refine .inr {.inl ?_,a,a7,?_}
   ·show (relabel scope X.env).names.lookup x=U .cell
    rw[e,a3];let k1:(X.env.scope.kind == .function)=L:=by rw[I.ok.kind];rfl
    let k2:(X.env.kindOf x == U .cell)=L:=by
     have:X.env.kindOf x=U .cell:=a4;rw[this];rfl
    simp[k1,k2]
   ·let(o,h1,h2):=hz;exact{o,hk _ _ h1,h2}
 ·let(v,o,h1,h2):=I.cell x a (sub x a e);exact{v,o,hk _ _ h1,h2}
 ·let b4:p∈X.pn++pins:=by simpa using hp
  let(e,n,nl,nf,d):=I.pin p b4;refine{hk _ _ e,n,ne _ _ e,λ z=>?_,d}
  rcases Vp.mp (I.stkSub _ z) with z|z
  ·exact nl z
  ·exact nf z
 ·show (Í k Y++σ).length=N'.length
  rw[c.len,Va,WB,I.len]
theorem oH{elt iter tg:Ñ}{ifs:G Ñ}{tt:TT}{te:TE}{tn:à->Ð->Prop}{Q:VK}{RR:O->Z->Result->À->Prop}
  (c:me X scope N' k) (I:Inv X pins σ H s) (T:Turn X.prog X.w X.K X.A tg wn fp it tn) (st:tn 0 s.heap) (hf:∀ b∈fp,yc X pins H b)
  (hg:∀ C s₀ H₀ ex pn,PG (cCx X scope N' C s₀ H₀ ex pn) tg g) (ht:∀ C s₀ H₀ ex pn,PTs (cCx X scope N' C s₀ H₀ ex pn) ifs tt) (he:∀ C s₀ H₀ ex pn,PE (cCx X scope N' C s₀ H₀ ex pn) elt te)
  (h:∀ D,H D=Y->∃ W:à->à->G V->Hp->Prop,(∃ m,W 0 m [] (upd H D (.lst [])))/\∀ i m ys H,W i m ys H →
   (wn.stop i H/\Q (.ref D) H)\/(wn.go i H/\∃ N:G V->Hp->Prop,(∀ a7 H',N a7 H'->∃ m',m' < m/\W (i+1) m' a7 H') /\
    ∀ x H',wn.yld i H x H'->g x (Í k Y++σ) H' λ σ2 H2=>(∃ vs:St,vs.length=k/\σ2=vs++σ)/\tt σ2 H2 λ b H3=>if b=L then te σ2 H3 λ y H4=>H4 D=U (.lst ys)/\ys.length<Æ/\N (ys++[y]) (upd H4 D (.lst (ys++[y]))) else N ys H3))
  (fin:∀ D C s' H' m,s'.heap.Ns C m->C≠X.env.locals->(∀ x a,X.env.cells.lookup x=U a->a≠C)->(H' C=Y/\X.s₀.heap.objs.size<=C/\∀ p∈X.pn++pins,p.1≠C)->(∀ h',Heap.SameBut C s'.heap h'->Inv X pins σ H' { s' with heap:=h' })->Q (.ref D) H'->RR (.ref D) C (.ok .next) s') :
  Ç (Ê X.prog X.w) X.A (newList []) (λ acc s₃=>Ç (Ê X.prog X.w) X.A (newFunctionEnv scope X.env.globals (rj X.env.cells scope.names []) [] X.env.qual Y .none (U X.env)) (λ a5 s₄=>
   codeAny (Ê X.prog X.w) X.A (.compStart (.ListComp elt [⟨tg,iter,ifs,0⟩] scope pos) 0 (.ref it) acc { a5 with scope:=relabel scope X.env }) (RR acc a5.locals) s₄) E s₃) E s:=by
 refine wpAny_newObj_type (wpAny_newFunctionEnv c.cell (by intro y hy;simp at hy) (λ h₁ a3 a4=>?_) c.kind);dsimp only at a3 a4 ⊢;let I3:Inv X pins σ (upd H %[s|99] (.lst [])) { s with heap:=s.heap.push { cls:=.type "list",data:=.seq ([]:G O).toArray },toks:=s.toks }:=I.lnew (ys:=[]) (its:=[]) .nil (Nat.zero_le _);generalize hH2:s.heap.push { cls:=.type "list",dict:=Y,data:=.seq ([]:G O).toArray }=hp at a3 a4 I3 ⊢;let a8:∀ b o,s.heap.get? b=U o->hp.get? b=U o:=λ b o e=>by rw[←hH2];exact Heap.get?_push_of_some _ e
 let a9:H %[s|99]=Y:=I.hok.fresh (U6 _);let kp:∀ b o,hp.get? b=U o->h₁.get? b=U o:=λ b o e=>a4.extBut b o (Vl (U5 e)) (U0 _ e)
 let stk:∀ b∈fp,s.heap.get? b≠Y:=λ b hb z=>by
  let(o,e,_):=T.obj _ _ st b hb;rw[z] at e;cases e
 let flt:∀ b∈fp,b<%[s|99]:=λ b hb=>by
  let(o,e,_):=T.obj _ _ st b hb;exact U5 e
 let b4:∀ b∈fp,b≠%[s|99]:=λ b hb=>Vl (flt b hb)
 let b1:∀ b∈fp,yc X pins (upd H %[s|99] (.lst [])) b:=λ b hb=>by
  let(a1,a2):=hf b hb;exact{by rw[ah (b4 b hb)];exact a1,a2}
 let b5:∀ b∈fp,X.base.get? b=Y:=λ b hb=>by
  cases e:X.base.get? b with
  | none=>rfl
  | some o=>
   rcases (hf b hb).2.2.2.1 with z|z
   ·exact Þ z (I.ok.noex b o e)
   ·have:=U5 (I.ok.bs b o e).1;exact Þ (Vg this z) (V5 _)
 let hsz:%[s|99]<hp.objs.size:=by rw[←hH2,VX];exact XG _
 let IY:=Hq (s₄:={ s with heap:=h₁,toks:=s.toks+([]:G (Ã × O)).length }) (fp:=fp) c I3 b1 (λ b hb=>Xj (flt b hb) hsz) b5 a3 kp J J;let(W,(m0,w0),turn):=h %[s|99] a9
 let run:=Ee (ww:=cCx X scope N' hp.objs.size { s with heap:=hp,toks:=s.toks } (upd H %[s|99] (.lst [])) fp (X.pn++pins)) (tg:=tg) (elt:=elt) (iter:=iter) (ifs:=ifs) (scope:=scope) (pos:=pos) (it:=it) (D:=%[s|99]) (k:=k) (σ:=σ) (Q:=Q)
  rfl (hg _ _ _ _ _) (ht _ _ _ _ _) (he _ _ _ _ _) T (λ H' hn b hb=>{hn b hb,Vl (Xj (flt b hb) hsz),λ z=>(IY.ok.exfs b hb) z,.inl hb,λ x a e=>(IY.ok.exf b hb).2 x a e,λ p hp=>by
   let a6:p∈X.pn++pins:=by simpa using hp
   exact(hf b hb).2.2.2.2.2 p a6}) W turn m0
 let b2:tn 0 h₁:=T.keep _ _ _ st λ b hb o e=>kp b o (a8 b o e);let go:=run { s with heap:=h₁,toks:=s.toks+([]:G (Ã × O)).length } ⟨0,[],_,IY,b2,λ b hb=>(b1 b hb).1,w0⟩
 let out:∀ r s',(r=Except.ok Flow.next/\∃ H',Inv (cCx X scope N' hp.objs.size { s with heap:=hp,toks:=s.toks } (upd H %[s|99] (.lst [])) fp (X.pn++pins)) [] (Í k Y++σ) H' s'/\Q (.ref %[s|99]) H')->RR (.ref %[s|99]) hp.objs.size r s':=by
  rintro r s' ⟨rfl,H',J',q⟩;let(m,hn,_):=J'.loc;let hC:hp.objs.size≠X.env.locals:=WR (Vg I.lt (Xk hsz));refine fin _ _ s' H' m hn hC (λ x a e=>?_) ⟨J'.free,Vv I.sz (Xk hsz),λ p a6=>Vl (Xj (U5 (I.pin p a6).1) hsz)⟩ (λ h' b3=>?_) q
  ·let(v,o,h1,_):=I.cell x a e;exact Vl (Xj (U5 h1) hsz)
  ·refine I.call' (ch:=fp) ?_ ?_ ?_ J'.bare λ b hb=>{(hf b hb).2.2.2.1,(hf b hb).2.1,(hf b hb).2.2.2.2.1,(hf b hb).2.2.2.2.2}
   ·exact J'.os
   ·let u1:Un (frs X.stack) fp H (upd H %[s|99] (.lst [])) s.heap hp:=Un.laid a8 (U6 _) a9;exact(u1.trans J'.base).but b3 λ b o e=>Vl (Xj (U5 e) hsz)
   ·exact J'.hok.but J'.free b3
 exact codeAny_compStart_list (We go out) (T.self _ 0 _ _ _ b2 (We go out))
theorem KP{elt iter tg:Ñ}{ifs:G Ñ}{scope:Scope}{pos:Pos}{wi:TI}{g:TG}{tt:TT}{te:TE}{N':G Ã}{k:à}
  (c:me X scope N' k) (hi:PI X tg iter wi)
  (hg:∀ C s₀ H₀ ex pn,PG (cCx X scope N' C s₀ H₀ ex pn) tg g) (ht:∀ C s₀ H₀ ex pn,PTs (cCx X scope N' C s₀ H₀ ex pn) ifs tt) (he:∀ C s₀ H₀ ex pn,PE (cCx X scope N' C s₀ H₀ ex pn) elt te)
  (hs:∀ x,foldedSetIterable iter X.env x=pure x:=by intro _;rfl):PE X (.ListComp elt [⟨tg,iter,ifs,0⟩] scope pos) (JD k wi g tt te):=by
 intro pins s σ H Q I h;rw[PySem.eval_ListComp];refine Yq (use:=Y) J hs (jK (c.cells I)) c.kind c.names (thn (hi pins s σ H _ I h) λ v s1 h1=>thn h1 λ a5 s2 h2=>?_);let(it,fp,tn,wn,H2,rfl,I2,T,a3,f2,hW):=h2;refine oH (RR:=λ acc C=>PySem.compPost (Ê X.prog X.w) X.A X.xe Y (EP X pins σ Q) acc C) c I2 T a3 f2 hg ht he hW ?_;intro D C s' H' m hn _ _ _ hI q;exact{m,hn,λ h' a4=>{.ref D,H',hI h' a4,J,q}}
def Ni(i:à)(te:TE):TS:=λ D σ H=>te σ H λ x H1=>D.nx (σ.set i (U x)) H1
theorem Ky{elt iter tg:Ñ}{ifs:G Ñ}{scope:Scope}{pos a3 py:Pos}{wi:TI}{g:TG}{tt:TT}{te:TE}{N':G Ã}{k i:à}{y:Ã}
  (hN:X.N.Nodup) (a7:X.N[i]? = U y) (hy:Loc X.env.scope y)
  (c:me X scope N' k) (hi:PI X tg iter wi)
  (hg:∀ C s₀ H₀ ex pn,PG (cCx X scope N' C s₀ H₀ ex pn) tg g) (ht:∀ C s₀ H₀ ex pn,PTs (cCx X scope N' C s₀ H₀ ex pn) ifs tt) (he:∀ C s₀ H₀ ex pn,PE (cCx X scope N' C s₀ H₀ ex pn) elt te)
  (a8:swapsWith (.ListComp elt [⟨tg,iter,ifs,0⟩] scope pos) (U (.Name y py)) a3.line X.env=pure L:=by rfl)
  (hs:∀ x,foldedSetIterable iter X.env x=pure x:=by intro _;rfl) (hf:X.fn y=L\/X.env.scope.names.lookup y=U .local:=by first|exact .inl rfl|exact .inr rfl|assumption) :
  PS X (.Assign [.Name y py] (.ListComp elt [⟨tg,iter,ifs,0⟩] scope pos) a3) (Ni i (JD k wi g tt te)):=by
 intro pins s σ H D I h;rw[PySem.exec_Assign_Name_used _ _ _ _ a8];refine My (Wg (My ?_))
 show Ç _ X.A (do let _ ←comprehension (.ListComp elt [⟨tg,iter,ifs,0⟩] scope pos) scope X.env _ (newList []) Â (eval iter X.env) (U (assign (.Name y py) X.env))) _ _ s
 refine My (thn (Yq (use:=U (assign (.Name y py) X.env)) (Q:=λ _ s'=>SP X pins D .next s') J hs (jK (c.cells I)) c.kind c.names (thn (hi pins s σ H _ I h) λ v s1 h1=>thn h1 λ b5 s2 h2=>?_)) λ _ s' hq=>U3 (U3 hq));let(it,fp,tn,wn,H2,rfl,I2,T,a9,f2,hW):=h2;refine oH (Q:=λ x H1=>D.nx (σ.set i (U x)) H1) (RR:=λ acc C=>PySem.compPost (Ê X.prog X.w) X.A X.xe (U (assign (.Name y py) X.env)) (λ _ s'=>SP X pins D .next s') acc C) c I2 T a9 f2 hg ht he hW ?_;intro D' C s' H' m hn a5 a6 a4 hI q
 show Ç _ X.A (assign (.Name y py) X.env (.ref D')) _ _ s'
 let I':Inv X pins σ H' s':=hI s'.heap (Heap.SameBut.refl _ _);refine wpAny_assign_Name (rP I' hN a7 hy (show bI (.ref D') (.ref D') from J) (λ b1 b2 ⟨a,sb,ha⟩=>?_) hf)
 let b3:C≠a:=by
  rcases ha with rfl|ha
  ·exact a5
  ·exact λ z=>a6 _ _ ha z.symm
 refine{m,hn.sameBut sb b3,λ h' b4=>{_,H',?_,q}};exact b2.turned (t':=b1.toks) (λ b o hb e=>(b4.2 b hb).trans e) a4.1 a5 (.inr a4.2.1) a6 a4.2.2
end
def iJ(CC:O->Prop)(h:Ð)(e:Z)(cls:O)(d:Ü Z)(T:Z):Prop:=
 ∃ oe vs oT ts,h.get? e=U oe/\oe.cls=cls/\oe.dict=d/\oe.data=.fields vs/\vs[1]? = U (.ref T)/\T≠e/\h.get? T=U oT/\oT.data=.fields ts/\ts[3]? = U .none/\∃ cx,vs[2]? = U cx/\CC cx
def E5:Z:=92
def Aj(cls:O)(h:Ð)(ex:G Z)(H:Hp)(cx:O):Prop:=cx=.none\/cls=.ref E5/\∃ (c:Z) (oc:Obj) (u:HO),cx=.ref c/\(h.get? c=Y\/c∈ex)/\H c=U (.frz oc u)/\E8 oc
theorem Aj.back{ex ex':G Z}(x:Aj cls h ex H cx)(k:∀ c,(h.get? c=Y\/c∈ex)->h'.get? c=Y\/c∈ex'):Aj cls h' ex' H cx:=by
 rcases x with a|⟨y,c,oc,u,a,b,d,e⟩
 ·exact .inl a
 ·exact .inr {y,c,oc,u,a,k c b,d,e}
theorem iJ.imp{C C':O->Prop}(x:iJ C h e cls d T)(k:∀ cx,C cx->C' cx):iJ C' h e cls d T:=by
 let(oe,vs,oT,ts,a1,a2,a3,a4,a5,a6,a7,a8,a9,cx,b,c):=x;exact{oe,vs,oT,ts,a1,a2,a3,a4,a5,a6,a7,a8,a9,cx,b,k cx c}
def CX1(P:Ì)(w:Ï):CXT:=λ outer H s E ev s'=>∃ e T cls d H',ev=.ref e/\s'.os=s.os/\AllBare s'.gens/\Un (frs outer) [] H H' s.heap s'.heap/\HOk P w H' s'.heap /\
 s.heap.get? e=Y/\s.heap.get? T=Y/\H' e=Y/\H' T=Y/\iJ (Aj cls s.heap [] H') s'.heap e cls d T/\(∀ dx,d=U dx->∃ fs,H' dx=U (.xd fs))/\E cls d H'
theorem Eb(f:Array O->Array O)(o:Obj):(Obj.mapFields f o).dict=o.dict:=by
 unfold Obj.mapFields;split<;>rfl
structure ux(fs:G Z)(e:Z)(no:Z->Prop)(h h':Ð):Prop where
 keep:∀ b o,b≠e->¬ no b->b ∉ fs->h.get? b=U o->h'.get? b=U o
 slot:∀ b o,b≠e->¬ no b->b∈fs->h.get? b=U o->∃ sl,h'.get? b=U { o with slots:=sl }
 size:h.objs.size<=h'.objs.size
theorem wN{xL:Z}{vs:Array O}{head:O}{a3:Ý}{Q:Unit->À->Prop}
  (a6:A.frames=U (env::outer)) (hl:s.heap.FunFrames base (env::outer)) (hf:env.frame=U xL) (he:s.heap.get? e=U oe) (hd:oe.data=.fields vs) (hsz:1<vs.size) (a7:∃ cx,vs[2]? = U cx/\CC cx)
  (hQ:∀ h',ux (frs (env::outer)) e (λ _=>False) s.heap h'->(∃ T a4 a5 oT ts,s.heap.get? T=Y/\h'.get? e=U a4/\a4.cls=oe.cls/\a4.dict=oe.dict/\a4.data=.fields a5/\a5[1]? = U (.ref T)/\T≠e/\h'.get? T=U oT/\oT.data=.fields ts/\ts[3]? = U (rawInt xL)/\∃ cx,a5[2]? = U cx/\CC cx)->Q () { s with heap:=h' }) :
  Ç M A (do let a ←frameOf env;let pl ←entryPlaceOf xL a3;let b ←EntryCells.newEntry head a .none (rawInt xL) .none pl;setField (.ref e) 1 b) Q E s:=by
 let a8:e ∉ frs (env::outer):=λ z=>by
  let(_,o,q1,q2):=hl.mem z;rw[he] at q1;cases q1;exact q2 vs hd
 refine wpAny_bind (wpAny_frameOf_fun a6 hl hf λ g1 sg=>?_);refine wpAny_bind (wpAny_entryPlaceOf λ pl a9=>?_);unfold EntryCells.newEntry newFields;refine wpAny_bind (wpAny_newObj_type ?_ (a9.sizeOk5 _ _ _ _ _));let e1:g1.get? e=U oe:=(sg.2.1 e a8).trans he;generalize hnew:({ cls:=.type "traceback",dict:=Y,data:=.fields ([head,.ref xL,.none,rawInt xL,.none]++(if pl.isEmpty then Í 6 É else pl)).toArray }:Obj)=oN;let dN:oN.data=.fields ([head,.ref xL,.none,rawInt xL,.none]++(if pl.isEmpty then Í 6 É else pl)).toArray:=by rw[←hnew]
 let e2:(g1.push oN).get? e=U oe:=U0 _ e1;refine VJ e2 hd hsz (hQ _ ?_ ?_)
 ·let other:∀ b o,b≠e->g1.get? b=U o->((g1.push oN).update e (Obj.mapFields (·.setIfInBounds 1 (Ë g1.objs.size)))).get? b=U o:=λ b o hb q=>by
   rw[VP _ _ (Vz hb)];exact U0 _ q
  refine{λ b o hb _ b1 q=>other b o hb ((sg.2.1 b b1).trans q),λ b o hb _ _ q=>?_,?_}
  ·let(sl,q'):=sg.2.2 b o q;exact{sl,other b _ hb q'}
  ·let z1:g1.objs.size=%[s|99]:=sg.1;let z2:=((VB (g1.push oN) e (Obj.mapFields (·.setIfInBounds 1 (Ë g1.objs.size))))).1;rw[z2,VX];omega
 ·let ne:g1.objs.size≠e:=WR (U5 e1);let d3:=VR hd (·.setIfInBounds 1 (Ë g1.objs.size));refine{g1.objs.size,_,_,oN,_,?_,Vk _ e2 (VH d3),Obj.cls_mapFields _ _,Eb _ _,d3,by simp[hsz],ne,?_,dN,by simp,a7.imp λ cx z=>{by rw[Yn (by decide)];exact z.1,z.2}}
  ·let z1:g1.objs.size=%[s|99]:=sg.1;rw[z1];exact V0 (U6 _)
  ·rw[VP _ _ (Vz ne)];exact Vc _ (VH dN)
theorem BL{oT:Obj}{vs ts:Array O}{Q:Unit->À->Prop}(he:s.heap.get? e=U oe)(hd:oe.data=.fields vs)(h1:vs[1]? = U (.ref T))(hT:s.heap.get? T=U oT)(a3:oT.data=.fields ts)(h3:3<ts.size)(ne:T≠e)(a4:∃ cx,vs[2]? = U cx/\CC cx)
  (hQ:∀ h',(∀ b,b≠T->h'.get? b=s.heap.get? b)->h'.objs.size=%[s|99]->iJ CC h' e oe.cls oe.dict T->Q () { s with heap:=h' }):Ç M A (setFlight (.ref e) Y) Q E s:=by
 unfold setFlight;refine wpAny_bind (wpAny_field he hd h1 ?_);rw[if_pos (show (Ë T != É)=L from by simp)];let sb:=Heap.SameBut.update s.heap T (Obj.mapFields (·.setIfInBounds 3 ((Y:Ü Z).elim É λ f=>rawInt f)));refine wpAny_setField hT a3 h3 (hQ _ sb.2 sb.1 ?_);let d3:=Obj.data_mapFields a3 (·.setIfInBounds 3 ((Y:Ü Z).elim É λ f=>rawInt f));exact{oe,vs,_,_,(sb.2 e (Ne.symm ne)).trans he,J,J,hd,h1,ne,Heap.get?_update_self _ hT (Obj.isFreed_of_fields d3),d3,by simp[h3],a4}
theorem xf{xL:Z}{vs:Array O}{Q:Unit->À->Prop}
  (a4:A.frames=U (env::outer)) (hl:s.heap.FunFrames base (env::outer)) (hf:env.frame=U xL) (he:s.heap.get? e=U oe) (hd:oe.data=.fields vs) (h1:vs[1]? = U .none) (a5:∃ cx,vs[2]? = U cx/\CC cx)
  (hQ:∀ h' T,ux (frs (env::outer)) e (λ _=>False) s.heap h'->s.heap.get? T=Y->iJ CC h' e oe.cls oe.dict T->Q () { s with heap:=h' }) :
  Ç M A (noteFrame (.ref e) env) (λ _ s2=>Ç M A (setFlight (.ref e) Y) Q E s2) E s:=by
 unfold noteFrame;simp only[hf];refine wpAny_bind (wpAny_field he hd h1 ?_);rw[if_neg (by decide)];refine wN a4 hl hf he hd (Array.getElem?_eq_some_iff.mp h1).1 a5 λ g ng hx=>?_;let(T,a7,a8,oT,ts,nT,q1,q2,a6,q3,q4,ne,q5,q6,q7,q8):=hx;refine BL (s:={ s with heap:=g }) q1 q3 q4 q5 q6 (Array.getElem?_eq_some_iff.mp q7).1 ne q8 λ g' sb sz ex=>?_;rw[q2,a6] at ex;let lt:∀ b o,s.heap.get? b=U o->b≠T:=λ b o q z=>by rw[z,nT] at q;cases q
 exact hQ g' T {λ b o hb hn a3 q=>(sb b (lt b o q)).trans (ng.keep b o hb hn a3 q),λ b o hb hn a3 q=>by
  let(sl,q'):=ng.slot b o hb hn a3 q;exact{sl,(sb b (lt b o q)).trans q'},Vv ng.size (Wq sz.symm)} nT ex
theorem rW{xL:Z}{dd:Ü Z}{Q:Unit->À->Prop}
  (a8:A.frames=U (env::outer)) (hl:s.heap.FunFrames base (env::outer)) (hf:env.frame=U xL) (hx:iJ CC s.heap e cls dd T) (b4:e ∉ frs (env::outer)) (b5:T ∉ frs (env::outer)) (hb:base.get? T=Y)
  (hQ:∀ h' T',ux (frs (env::outer)) e (λ b=>b=T) s.heap h'->s.heap.get? T'=Y->iJ CC h' e cls dd T'->Q () { s with heap:=h' }) :
  Ç M A (noteFrame (.ref e) env) (λ _ s2=>Ç M A (setFlight (.ref e) Y) Q E s2) E s:=by
 let(oe,vs,oT,ts,he,rfl,rfl,hd,h1,ne,hT,a4,h3,a9):=hx;unfold noteFrame;simp only[hf];refine wpAny_bind (wpAny_field he hd h1 ?_);rw[if_pos (show (Ë T != É)=L from by simp)];refine wpAny_bind (wpAny_field hT a4 h3 ?_);rw[if_neg (show ¬ ((É == rawInt xL)=L) from by simp[rawInt])];let a3:=Heap.SameBut.update s.heap T (Obj.mapFields (·.setIfInBounds 3 É));refine wpAny_bind (wpAny_setField hT a4 (Array.getElem?_eq_some_iff.mp h3).1 ?_);generalize hg0:s.heap.update T (Obj.mapFields (·.setIfInBounds 3 É))=g0 at a3;let fl:g0.FunFrames base (env::outer):=hl.of_keeps λ b o q b1=>{o,(a3.2 b (λ z=>by rw[z,hT] at q;cases q;exact b1 ts a4)).trans q,J};let b2:g0.get? e=U oe:=(a3.2 e (Ne.symm ne)).trans he;refine wN (s:={ s with heap:=g0 }) a8 fl hf b2 hd (Array.getElem?_eq_some_iff.mp h1).1 a9 λ g ng hx=>?_;let(T',b6,b8,cc,cg,nT,q1,q2,b3,q3,q4,ne',q5,q6,q7,q8):=hx;refine BL (s:={ s with heap:=g }) q1 q3 q4 q5 q6 (Array.getElem?_eq_some_iff.mp q7).1 ne' q8 λ g' sb sz ex=>?_;rw[q2,b3] at ex
 let tT:T≠T':=λ z=>by
  subst z;have:=Vk (Obj.mapFields (·.setIfInBounds 3 É)) hT (VH (VR a4 _));rw[hg0] at this;let a6:g0.get? T=Y:=nT;rw[this] at a6;cases a6
 let a7:s.heap.get? T'=Y:=(a3.2 T' (Vz tT)).symm.trans nT;let lt:∀ b o,s.heap.get? b=U o->b≠T':=λ b o q z=>by rw[z,a7] at q;cases q
 exact hQ g' T' {λ b o hb hn a5 q=>(sb b (lt b o q)).trans (ng.keep b o hb (λ z=>z) a5 ((a3.2 b hn).trans q)),λ b o hb hn a5 q=>by
  let(sl,q'):=ng.slot b o hb (λ z=>z) a5 ((a3.2 b hn).trans q);exact{sl,(sb b (lt b o q)).trans q'},Vv (Wq a3.1.symm) (Vv ng.size (Wq sz.symm))} a7 ex
theorem HOk.noted{fs:G Z}{no:Z->Prop}(ok:HOk P w H h)(n:ux fs e no h h')(he:H e=Y)(hn:∀ b,no b->H b=Y)(hf:∀ b∈fs,H b=Y):HOk P w H h':=λ b ob q=>by
 refine(ok b ob q).stay (λ c v hc r=>n.keep c v ?_ ?_ ?_ r) (λ _ z=>z) (λ _ _ z=>z) λ _ _ z=>z
 all_goals
  rcases hc with z|z
  all_goals intro k
 ·rw[←z,k,he] at q;cases q
 ·rw[k,he] at z;cases z
 ·rw[←z,hn _ k] at q;cases q
 ·rw[hn _ k] at z;cases z
 ·rw[←z,hf _ k] at q;cases q
 ·rw[hf _ k] at z;cases z
theorem Un.noted{fs fs':G Z}{h2:Ð}{no:Z->Prop}(u:Un fs [] H H' h h1)(n:ux fs' e no h1 h2)(he:h.get? e=Y)(hn:∀ b,no b->h.get? b=Y)(hs:∀ b∈fs',b∈fs\/h.get? b=Y):Un fs [] H H' h h2:=by
 let ne:∀ b o,h.get? b=U o->b≠e/\¬ no b:=λ b o q=>{λ z=>(by rw[z,he] at q;cases q),λ z=>(by rw[hn b z] at q;cases q)}
 let nf:∀ b o,h.get? b=U o->b ∉ fs->b ∉ fs':=λ b o q hb z=>by
  rcases hs b z with k|k
  ·exact hb k
  ·rw[k] at q;cases q
 refine{λ b o q a hb hx=>n.keep b o (ne b o q).1 (ne b o q).2 (nf b o q hb) (u.keep b o q a hb hx),λ b o q a hb hx=>?_,u.free,λ b o q hx=>?_,u.tups,u.frzs,u.tbls}
 ·let(sl,r):=u.slot b o q a hb hx
  by_cases hb':b∈fs'
  ·let(a3,r'):=n.slot b _ (ne b o q).1 (ne b o q).2 hb' r;exact{(a3),r'}
  ·exact{sl,n.keep b _ (ne b o q).1 (ne b o q).2 hb' r}
 ·let(o',r):=u.there b o q hx
  by_cases hb':b∈fs'
  ·let(a3,r'):=n.slot b _ (ne b o q).1 (ne b o q).2 hb' r;exact{_,r'}
  ·exact{_,n.keep b _ (ne b o q).1 (ne b o q).2 hb' r}
def wO(CX:CXT)(X:Cx)(E:XK)(σ:St):Prop:=∀ (pins:G (Z × Obj)) (H:Hp) (s:À) (e:O) (s':À),Inv X pins σ H s->CX X.stack H s E e s'->X.xe e s'
def xJ(X:Cx)(E:XK)(σ:St):Prop:=∀ (pins:G (Z × Obj)) (H:Hp) (s:À) (h':Ð) (e:Z) (C:Z) (us:G O),Inv X pins σ H s->Heap.MadeExcOf s.heap h' e (.ref C) us->E (.ref C) Y H->X.xe (.ref e) { s with heap:=h' }
theorem bL.there{a:Z}(x:bL P w H h a o):∃ ob,h.get? a=U ob:=by
 cases o with
 | lst xs=>let(_,_,_,_,e):=x;exact{_,e}
 | tup xs=>let(_,_,_,ob,e,_):=x;exact{(ob),e}
 | dK kvs=>let(_,_,_,_,ob,_,_,e,_):=x;exact{(ob),e}
 | dT kvs=>let(_,_,_,_,ob,_,_,e,_):=x;exact{(ob),e}
 | set S n=>let(ob,_,_,_,e,_):=x;exact{(ob),e}
 | ins C dx fs=>let(_,_,_,e,_):=x;exact{_,e}
 | own y=>exact x
 | xd fs=>let(_,(ob,_,_,e,_),_):=x;exact{(ob),e}
 | rng lo hi=>let(_,_,_,e):=x;exact{_,e}
 | frz ob u=>exact{_,x.1}
 | tbl ps=>let(_,_,_,_,e,_):=x;exact{_,e}
 | cod q=>let(_,_,_,e,_):=x;exact{_,e}
 | met f y=>exact{_,x}
 | ext φ=>exact x.2.1
theorem HOk.gone{a:Z}(ok:HOk P w H h)(e:h.get? a=Y):H a=Y:=by
 cases q:H a with
 | none=>rfl
 | some o=>
  let(ob,z):=(ok a o q).there;rw[e] at z;cases z
theorem Un.gone{fs:G Z}{a:Z}(u:Un fs [] H H' h h1)(e:h1.get? a=Y):h.get? a=Y:=by
 cases q:h.get? a with
 | none=>rfl
 | some o=>
  let(o',z):=u.there a o q (by simp);rw[e] at z;cases z
theorem hU{N:G Ã}{cd:O}{E:XK} :
  xJ (Ae cb (CX1 P w) P w K mg base N qual scope f cd A outer s₀ H₀ E) E σ:=by
 intro pins H s h' e C us I hm hE;let(t,he,_,_):=hm.there
 show Ç (Ê P w) (A.deeper (envOfC qual scope %[s₀|99] f cd)) (leaving (envOfC qual scope %[s₀|99] f cd) (.ref e)) _ _ _
 unfold leaving;let un:Un (frs outer) [] H₀ H s₀.heap s.heap:=I.base;let fl:h'.FunFrames base (envOfC qual scope %[s₀|99] f cd::outer):=I.stack.of_keeps λ b o q _=>{o,hm.keeps b o q,J};refine wpAny_bind (xf (CC:=Aj (.ref C) s₀.heap [] H) (s:={ s with heap:=h' }) (base:=base) (outer:=outer) I.ok.frames fl J he J J ⟨_,J,.inl rfl⟩ λ g T ng nT ex=>?_)
 let a3:s.heap.get? T=Y:=by
  cases q:s.heap.get? T with
  | none=>rfl
  | some o=>
   let z:=hm.keeps T o q;let a4:h'.get? T=Y:=nT;rw[a4] at z;cases z
 let u2:Un (frs outer) [] H₀ H s₀.heap h':=un.trans (Un.kept hm.keeps);refine{e,T,.ref C,Y,H,J,I.os,I.bare,u2.noted ng (un.gone hm.new) (λ _ z=>z.elim) (λ b hb=>?_),(I.hok.kept hm.keeps).noted ng (I.hok.gone hm.new) (λ _ z=>z.elim) I.stkFree,un.gone hm.new,un.gone a3,I.hok.gone hm.new,I.hok.gone a3,ex,(λ _ z=>nomatch z),hE}
 rcases Vp.mp (I.stkSub b hb) with z|z
 ·exact .inr (by rw[z];exact V0 (U6 _))
 ·exact .inl z
theorem aK{N:G Ã}{cd:O}{E:XK} :
  jm (CX1 P w) (Ae cb (CX1 P w) P w K mg base N qual scope f cd A outer s₀ H₀ E) E:=by
 intro pins σ H s ev s' I hc;let(e,T,cls,dd,H',rfl,os,bare,a6,hok,ne,nT,He,HT,ex,a7,hE):=hc
 show Ç (Ê P w) (A.deeper (envOfC qual scope %[s₀|99] f cd)) (leaving (envOfC qual scope %[s₀|99] f cd) (.ref e)) _ _ _
 unfold leaving;let I2:Inv _ pins σ H' s':=I.call' (ch:=[]) os a6 hok bare (λ b z=>Þ z (by simp))
 let nf:∀ b,s.heap.get? b=Y->b ∉ frs (envOfC qual scope %[s₀|99] f cd::outer):=λ b hb z=>by
  let(_,o,q,_):=I.stack.mem z;rw[hb] at q;cases q
 let nb:base.get? T=Y:=by
  cases q:base.get? T with
  | none=>rfl
  | some o=>
   have:=I.bk T o q;rw[nT] at this;cases this
 let fl:s'.heap.FunFrames base (envOfC qual scope %[s₀|99] f cd::outer):=I2.stack;refine My (rW (base:=base) (outer:=outer) I.ok.frames fl J ex (nf e ne) (nf T nT) nb λ g T' ng a4 ex'=>?_);let a3:Un (frs outer) [] H₀ H s₀.heap s.heap:=I.base;let a5:Un (frs outer) [] H₀ H' s₀.heap s'.heap:=I2.base;refine{e,T',cls,dd,H',J,I2.os,bare,a5.noted ng (a3.gone ne) (λ b z=>by rw[z];exact a3.gone nT) (λ b hb=>?_),hok.noted ng He (λ b z=>by rw[z];exact HT) I2.stkFree,a3.gone ne,a5.gone a4,He,hok.gone a4,ex'.imp λ cx z=>z.back λ c q=>q.imp a3.gone id,a7,hE}
 rcases Vp.mp (I.stkSub b hb) with z|z
 ·exact .inr (by rw[z];exact V0 (U6 _))
 ·exact .inl z
section
variable {X:Cx}
def IB(sp:Sp)(dvs:G V)(E:St->XK)(t:TA):TE:=λ σ H Q=>t σ H λ vs H1=>sp (vs++dvs) H1 Q (E σ)
theorem w9{sp:Sp}{ds:G O}{dvs:G V}{E:St->XK}{e:Ñ}{t:TA}{p:Pos}
  (F:eV cb X.prog X.w X.K X.mg X.base CX k f fd ps sp) (hr:iw k X.A) (hg:Gl X x) (hm:X.mg x=U (.ref f)) (hk:W.keepIn X.K (.ref f)=L) (hb:ao X.K fd ps ds) (hd:aX dvs ds) (hx:∀ σ,wO CX X (E σ) σ)
  (ha:PA X (e::es) t) (a3:(x == ("__debug__":Ã))=Â:=by decide) (he:starEach (e::es) X.env=(Â,eval e X.env)::starEach es X.env:=by rfl) (a4:(backTo pos (starEach es X.env)).any (·.1)=Â:=by rfl) (a5:(!cb || X.calm)=L:=by rfl) :
  PE X (.Call (.Name x p) (e::es) [] pos) (IB sp dvs E t):=by
 intro pins s σ H Q I h;refine Wn (dM I hg hm ?_ a3);refine XF (h₀:=X.base) I.ok.mod.kin hk (thn (ha pos pins s σ H _ I h) λ us s1 ⟨vs,H1,I1,r,q⟩=>{I1.kIn,?_}) he a4;let r2:aX (vs++dvs) (us++ds):=r.append hd;let hl:(us++ds).length=ps.length:=by rw[←r2.length];exact F.len _ _ _ _ q
 refine WX (We (F.run X.A X.stack s1 H1 ⟨us,[]⟩ (us++ds) (vs++dvs) Q (E σ) hr (λ z=>I1.ok.hd (by subst z;exact a5)) I1.env0 (hb s1 us I1.kIn hl) r2 q) λ rr s' hq=>?_)
 cases rr with
 | error ev=>exact hx σ pins H1 s1 ev s' I1 hq
 | ok fl=>
  cases fl with
  | ret u=>exact I1.after hq
  | next=>exact False.elim hq
  | brk=>exact False.elim hq
  | cont=>exact False.elim hq
set_option genInjectivity false in
structure Nf where
 nm:Ã
 q:Ã
 N:Z
 bs:G O
 bm:G O
 hdct:Ý
 sn:G Ã
 sub:G O
 ab:Ý
 col:Ü Ý
 dd:Ü Z
 k0:Ü O
 k1:Ü O
 k2:Ü O
 k3:Ü O
 k5:Ü O
def A1(K:Å)(C:Z)(z:Ü O)(bmB:G O)(newId:String):Ý:=match K.lookup C with
 | some ⟨.type "type",_,.cls dat,slt⟩=>(match dat.mro,slt.toList with
  | .ref C'::up,[_,_,_,_,U (.builtin n),_]=>C' == C && n == newId && !dat.hasDel && W.tailIn K bmB up && W.nsOkIn K dat.ns && Ò K dat.ns "__init__" == U z
  | _,_=>Â)
 | _=>Â
theorem Bb{z:Ü O}(q0:A1 K C z [.type "ValueError",.type "Exception",.type "BaseException",.type "object"] "ValueError.__new__"=L) :
  ∃ c:Nf,K.lookup C=U (excClassObj c.nm c.q C c.N c.bs c.bm c.hdct c.sn c.sub c.ab c.col c.dd c.k0 c.k1 c.k2 c.k3 c.k5 "ValueError.__new__")/\W.tailIn K [.type "ValueError",.type "Exception",.type "BaseException",.type "object"] c.bm=L/\W.nsOkIn K c.N=L/\Ò K c.N "__init__"=U z:=by
 unfold A1 at q0;split at q0
 ·rename_i b1 a6 a3 a5;split at q0
  ·rename_i b6 b2 g0 g1 g2 g3 nw g5 em b3
   simp only[V6,Wk,Bool.not_eq_true'] at q0<;>skip
   let(((((rfl,rfl),a4),tok),a7),a8):=q0;let(c1,c2,c3,c4,c5,c6,c7,c8,c9,b4,b8):=a6;dsimp only at em a4 a7 a8;subst em a4;obtain⟨a9⟩:=a3;let b5:a9=[g0,g1,g2,g3,U (.builtin "ValueError.__new__"),g5]:=b3;subst b5;exact{⟨c1,c5,c4,c2,b2,c6,c7,c8,c9,b4,b1,g0,g1,g2,g3,g5⟩,a5,tok,a7,a8}
  ·cases q0
 ·cases q0
structure T9(K:Å)(C:Z):Prop where
 ex:W.excIn K C [.type "ValueError",.type "Exception",.type "BaseException",.type "object"] "ValueError.__new__"=L
def Iy(C:Z)(E:St->XK)(t:TA):TS:=λ _ σ H=>t σ H λ vs H1=>vs.length<=Æ/\E σ (.ref C) Y H1
theorem lJ{e₀:Ñ}{bW:G Ñ}{np cpos:Pos}{t:TA}{E:St->XK}(hc:X.calm=L)(hg:Gl X x)(a6:X.mg x=U (.ref C))(xz:T9 X.K C)(hx:∀ σ,xJ X (E σ) σ)(ha:PA X (e₀::bW) t)
  (he:starEach (e₀::bW) X.env=(Â,eval e₀ X.env)::starEach bW X.env:=by rfl) (a3:(backTo cpos (starEach bW X.env)).any (·.1)=Â:=by rfl) (a7:(x == ("__debug__":Ã))=Â:=by decide) :
  PS X (.Raise (U (.Call (.Name x np) (e₀::bW) [] cpos)) Y pos) (Iy C E t):=by
 intro pins s σ H D I h;let(c,a4,tok,a5,a8):=Bb (z:=Y) xz.ex;let a9:X.base.Ns c.N (X.base.nsMap c.N):=.of_isNs (W.isNs_of_in I.mod.kin a5)
 refine PySem.wpAny_Raise_call_subU (C:=C) (nm:=c.nm) (q:=c.q) (N:=c.N) (bs:=c.bs) (bm:=c.bm) (hdct:=c.hdct) (sn:=c.sn) (sub:=c.sub) (ab:=c.ab) (col:=c.col) (dd:=c.dd) (k0:=c.k0) (k1:=c.k1) (k2:=c.k2) (k3:=c.k3) (k5:=c.k5)
  VW (by decide +kernel) VW (mN:=X.base.nsMap c.N) ((Ya I.kIn tok).hasType (by decide +kernel)) (I.ok.hd hc) (by rw[he];exact(Ye _).trans a3) (W.nsMap_none_of_in I.mod.kin a5 a8) (dM I hg a6 {J,?_} a7)
 let hh:=ha cpos pins s σ H _ I h;rw[he] at hh ⊢;exact Xm (thn hh λ us s2 ⟨vs,H2,I2,r,hl,hE⟩=>{J,by rw[←r.length];exact hl,I2.kIn _ _ a4,a9.keeps I2.bk,Ya I2.kIn tok,λ h' e hm=>hx σ pins H2 s2 h' e C us I2 hm hE})
abbrev Cx.mark(X:Cx)(e:Z)(H1:Hp):Cx:={ X with A:=X.A.mark (U (.ref e)),H₀:=H1,calm:=Â,xe:=λ _ _=>False }
abbrev Cx.at0(X:Cx)(H1:Hp):Cx:={ X with H₀:=H1 }
theorem Inv.reb{o:Obj}{u:HO}(I:Inv X pins σ H s)(h0:X.s₀.heap.get? e=Y)(hf:e ∉ X.fs)(he:H e=U (.frz o u))(sf:Jv X.A (upd X.H₀ e (.frz o u))):Inv (X.at0 (upd X.H₀ e (.frz o u))) pins σ H s:=by
 let ne:∀ b ob,X.s₀.heap.get? b=U ob->b≠e:=λ b ob q z=>by rw[z,h0] at q;cases q
 let un:∀ b,b≠e->upd X.H₀ e (.frz o u) b=X.H₀ b:=λ b hb=>ah hb
 let nn:∀ b,upd X.H₀ e (.frz o u) b=Y->X.H₀ b=Y:=λ b hb=>by
  by_cases z:b=e
  ·rw[z,ag] at hb;cases hb
  ·rw[un b z] at hb;exact hb
 exact{⟨I.ok.mod,I.ok.kind,I.ok.glob,I.ok.blt,I.ok.above,I.ok.inj,I.ok.has,I.ok.cab,I.ok.hd,sf,I.ok.frames,I.ok.stk,I.ok.exf,
  λ b ob q=>{(I.ok.bs b ob q).1,(un b (ne b ob (I.ok.bs b ob q).1)).trans (I.ok.bs b ob q).2},I.ok.bsz,I.ok.noex,I.ok.exfs,I.ok.funs,λ b hb=>(un b (λ z=>hf (z ▸ hb))).trans (I.ok.frf b hb)⟩,I.os,I.bare,
  ⟨λ b ob q n=>I.base.keep b ob q (nn b n),λ b ob q n=>I.base.slot b ob q (nn b n),λ b ob q n=>I.base.free b ob q (nn b n),I.base.there,
   λ b xs q=>by
    let q:upd X.H₀ e (.frz o u) b=_:=q
    by_cases z:b=e
    ·rw[z,ag] at q;cases q
    ·rw[un b z] at q;exact I.base.tups b xs q,
   λ b ob v q=>by
    let q:upd X.H₀ e (.frz o u) b=_:=q
    by_cases z:b=e
    ·rw[z,ag] at q;cases q;rw[z];exact he
    ·rw[un b z] at q;exact I.base.frzs b ob v q,
   λ b ps q=>by
    let q:upd X.H₀ e (.frz o u) b=_:=q
    by_cases z:b=e
    ·rw[z,ag] at q;cases q
    ·rw[un b z] at q;exact I.base.tbls b ps q⟩,
  I.loc,I.cell,I.free,I.freeC,I.pin,I.hok,I.len}
theorem Inv.unreb(ok:X.Ok)(h0:X.s₀.heap.get? e=Y)(hh:∀ o:HO,X.H₀ e=U o->(∀ xs,o ≠ .tup xs)/\(∀ ob u,o ≠ .frz ob u)/\∀ ps,o ≠ .tbl ps)(I:Inv (X.at0 (upd X.H₀ e o)) pins σ H s):Inv X pins σ H s:=by
 let ne:∀ b ob,X.s₀.heap.get? b=U ob->b≠e:=λ b ob q z=>by rw[z,h0] at q;cases q
 let un:∀ b,b≠e->upd X.H₀ e o b=X.H₀ b:=λ b hb=>ah hb
 exact{ok,I.os,I.bare,
  ⟨λ b ob q n=>I.base.keep b ob q ((un b (ne b ob q)).trans n),λ b ob q n=>I.base.slot b ob q ((un b (ne b ob q)).trans n),λ b ob q n=>I.base.free b ob q ((un b (ne b ob q)).trans n),I.base.there,
   λ b xs q=>I.base.tups b xs ((un b (λ z=>(hh _ (z ▸ q)).1 xs J)).trans q),
   λ b ob v q=>I.base.frzs b ob v ((un b (λ z=>(hh _ (z ▸ q)).2.1 ob v J)).trans q),
   λ b ps q=>I.base.tbls b ps ((un b (λ z=>(hh _ (z ▸ q)).2.2 ps J)).trans q)⟩,
  I.loc,I.cell,I.free,I.freeC,I.pin,I.hok,I.len}
theorem Inv.mark{o:Obj}{u:HO}(I:Inv X pins σ H s)(h0:X.s₀.heap.get? e=Y)(hf:e ∉ X.fs)(he:H e=U (.frz o u))(nc:Nd (upd X.H₀ e (.frz o u)) o):Inv (X.mark e (upd X.H₀ e (.frz o u))) pins σ H s:=by
 let ne:∀ b ob,X.s₀.heap.get? b=U ob->b≠e:=λ b ob q z=>by rw[z,h0] at q;cases q
 let un:∀ b,b≠e->upd X.H₀ e (.frz o u) b=X.H₀ b:=λ b hb=>ah hb
 let nn:∀ b,upd X.H₀ e (.frz o u) b=Y->X.H₀ b=Y:=λ b hb=>by
  by_cases z:b=e
  ·rw[z,ag] at hb;cases hb
  ·rw[un b z] at hb;exact hb
 exact{⟨I.ok.mod,I.ok.kind,I.ok.glob,I.ok.blt,I.ok.above,I.ok.inj,I.ok.has,I.ok.cab,(λ z=>nomatch z),(λ a z=>{e,o,u,by cases z;rfl,ag,nc}),I.ok.frames,I.ok.stk,I.ok.exf,
  λ b ob q=>{(I.ok.bs b ob q).1,(un b (ne b ob (I.ok.bs b ob q).1)).trans (I.ok.bs b ob q).2},I.ok.bsz,I.ok.noex,I.ok.exfs,I.ok.funs,λ b hb=>(un b (λ z=>hf (z ▸ hb))).trans (I.ok.frf b hb)⟩,I.os,I.bare,
  ⟨λ b ob q n=>I.base.keep b ob q (nn b n),λ b ob q n=>I.base.slot b ob q (nn b n),λ b ob q n=>I.base.free b ob q (nn b n),I.base.there,
   λ b xs q=>by
    let q:upd X.H₀ e (.frz o u) b=_:=q
    by_cases z:b=e
    ·rw[z,ag] at q;cases q
    ·rw[un b z] at q;exact I.base.tups b xs q,
   λ b ob v q=>by
    let q:upd X.H₀ e (.frz o u) b=_:=q
    by_cases z:b=e
    ·rw[z,ag] at q;cases q;rw[z];exact he
    ·rw[un b z] at q;exact I.base.frzs b ob v q,
   λ b ps q=>by
    let q:upd X.H₀ e (.frz o u) b=_:=q
    by_cases z:b=e
    ·rw[z,ag] at q;cases q
    ·rw[un b z] at q;exact I.base.tbls b ps q⟩,
  I.loc,I.cell,I.free,I.freeC,I.pin,I.hok,I.len}
theorem Inv.unmark(ok:X.Ok)(h0:X.s₀.heap.get? e=Y)(hh:∀ o:HO,X.H₀ e=U o->(∀ xs,o ≠ .tup xs)/\(∀ ob u,o ≠ .frz ob u)/\∀ ps,o ≠ .tbl ps)(I:Inv (X.mark e (upd X.H₀ e o)) pins σ H s):Inv X pins σ H s:=by
 let ne:∀ b ob,X.s₀.heap.get? b=U ob->b≠e:=λ b ob q z=>by rw[z,h0] at q;cases q
 let un:∀ b,b≠e->upd X.H₀ e o b=X.H₀ b:=λ b hb=>ah hb
 exact{ok,I.os,I.bare,
  ⟨λ b ob q n=>I.base.keep b ob q ((un b (ne b ob q)).trans n),λ b ob q n=>I.base.slot b ob q ((un b (ne b ob q)).trans n),λ b ob q n=>I.base.free b ob q ((un b (ne b ob q)).trans n),I.base.there,
   λ b xs q=>I.base.tups b xs ((un b (λ z=>(hh _ (z ▸ q)).1 xs J)).trans q),
   λ b ob v q=>I.base.frzs b ob v ((un b (λ z=>(hh _ (z ▸ q)).2.1 ob v J)).trans q),
   λ b ps q=>I.base.tbls b ps ((un b (λ z=>(hh _ (z ▸ q)).2.2 ps J)).trans q)⟩,
  I.loc,I.cell,I.free,I.freeC,I.pin,I.hok,I.len}
end
variable {X:Cx}
structure M0(K:Å)(x qual:Ã)(st:Stmt)(f:Z)(fd:Á):Prop where
 ex:∃ (oc:O) (od:Ü Z) (dV kV doc pm:O) (an:Ü Z) (cdv ct:O) (osl:Array (Ü O)),
  fd=W.fnOf x qual (dP st) (cK st) (aa st) dV kV doc pm an cdv ct/\K.lookup f=U ⟨oc,od,.func fd,osl⟩/\W.codeIn K cdv qual=L
 kp:W.keepIn K (.ref f)=L
section
variable {K:PySem.W.Frag}
theorem M0.ok{st:Stmt}{N:G Ã}{sp:Sp}(F:M0 K x qual st f fd)(S:af N ps (aa st))(len:∀ vs H Q E,sp vs H Q E->vs.length=ps.length)
  (a3:∀ (cdv:O) (A:Î) (outer:G Env) (s:À) (H:Hp) (vs:G V) (Q:VK) (E:XK),iw k (A.deeper (envOfC qual (aa st) %[s|99] f cdv))->sp vs H Q E →
   ∃ t,PSs (Ae cb CX P w K mg base N qual (aa st) f cdv A outer s H E) (cK st) t/\t { nx:=λ _ H'=>Q .non H',rt:=Q } (start N vs) H):eV cb P w K mg base CX (k+1) f fd ps sp:=by
 let(oc,od,dV,kV,doc,pm,an,cdv,ct,osl,rfl,lk,a4):=F.ex;exact N5 lk a4 S len λ A outer s H vs Q E hr a5=>a3 cdv A outer s H vs Q E hr a5
def BI{st:Stmt}{oc:O}{od an:Ü Z}{osl:Array (Ü O)}{dV kV doc pm cdv ct:O}(l:K.lookup f=U {oc,od,.func (W.fnOf x qual (dP st) (cK st) (aa st) dV kV doc pm an cdv ct),osl})
  (c:W.codeIn K cdv qual=L) (k:W.keepIn K (.ref f)=L):M0 K x qual st f (W.fnOf x qual (dP st) (cK st) (aa st) dV kV doc pm an cdv ct):={⟨oc,od,dV,kV,doc,pm,an,cdv,ct,osl,J,l,c⟩,k}
end
open PySem.W
structure Af(K:Å)(C:Z):Prop where
 ga:È K (.ref C) "__getattribute__"=U (U (.builtin "BaseException.__getattribute__"))
 no:È K (.ref C) "__getattr__"=U Y
 mb:Û K C (.type "BaseException")=U L
 mo:Û K C (.type "object")=U L
 cl:È K (.ref C) "__class__"=U (U (.builtin "object.__class__"))
 sp:W.specialIn K (.builtin "object.__class__") "__get__"=U (U (.builtin "getset_descriptor.__get__"))
 tk:W.takesIn K (.builtin "object.__class__")=U L
 hd:Õ K C=L
section
variable {K:PySem.W.Frag}{x:Z}{ox:Obj}{od:Ü Obj}{name:Ã}
theorem sr{nameV:O}{Q:Unit->À->Prop}(c:Af K C)(X:K.In s.heap)(I:InstAt s.heap x ox C od)(hq:Q () s):Ç M A (checkBuiltinCall "BaseException.__getattribute__" ⟨[.ref x,nameV],[]⟩) Q E s:=by
 let hk:builtinKind "BaseException.__getattribute__"=U .slot:=by decide +kernel
 let a3:splitId "BaseException.__getattribute__"=U ("BaseException", "__getattribute__"):=by decide +kernel
 let ha:=F.args_bexc_ga (.ref x) nameV;let L0:=I.type (M:=M);let L1:=looks_mroIn (M:=M) X c.mb;let(hh,g,d,t,os):=s;simp only[checkBuiltinCall,hk,a3];let LI:Looks M hh (isInstance (.ref x) (.type "BaseException")) L:=L0.andThen L1;refine My (LI.at ?_)
 first|exact hq|exact U3 hq|(simp only[Bool.not_true,Xn,XA];exact hq)
def Ud(M:Model)(A:Î)(P:O->À->Prop)(fin:PySem.Fin)(s:À):Prop:=match fin with
 | .done (.ret v)=>P v s
 | .again c=>c.quiet=L/\codeAny M A c (λ r s'=>match r with | .ok (.ret v)=>P v s'|_=>False) s
 | _=>False
theorem Hz{Q:Ü O->À->Prop}(c:Af K C)(X:K.In s.heap)(I:InstAt s.heap x ox C od)
  (h:∀ A':Î,Ç (Ê prog w) A' (Builtin.«object.__getattribute__» ⟨[.ref x,.str name s.toks],[]⟩) (Ud (Ê prog w) A λ v s'=>Ç (Ê prog w) A (handedOut v) (λ v a3=>Q (U v) a3) (λ _ _=>False) s') (λ _ _=>False) { s with toks:=s.toks+1 }) :
  Ç (Ê prog w) A (getAttr? (.ref x) name) Q E s:=by
 let(hh,g,d,t,os):=s;let L0:=I.type (M:=Ê prog w);let L1:=looks_findIn (M:=Ê prog w) X c.ga;let L2:=looks_findIn (M:=Ê prog w) X c.no;unfold getAttr? getAttrBy? getAttrBy;refine wpAny_bind (wpAny_mkText (wpAny_bind (wpAny_attempt (wpAny_holding (wpAny_bind (L0.at (wpAny_bind (L1.at ?_))))))))
 show Ç _ _ (getAttrByItsOwn _ _ _ _ _ _) _ _ _
 unfold getAttrByItsOwn
 show Ç _ _ (do let before ←typeLookup (.ref C) "__getattr__";_) _ _ _
 refine wpAny_bind (L2.at (wpAny_bind (wpAny_attempt (wpAny_holding ?_))));unfold callGetattribute;rw[if_neg (by simp)];unfold boundAndCalled;rw[F.attr_ValueError.ga.bind (.ref x)];refine wpAny_bind (wpAny_pure (wpAny_call (codeAny_call_builtin F.attr_ValueError.ga.plain F.entry_bexc_ga (sr c X I ?_))));let a4:∀ v s',Ç (Ê prog w) A (handedOut v) (λ v a3=>Q (U v) a3) (λ _ _=>False) s'->Ç (Ê prog w) A (handedOut v) (λ a s'=>Ç (Ê prog w) A (pure (U a)) Q E s') (λ e s'=>Ç (Ê prog w) A (do if ←isInstance e (.type "AttributeError") then pure Y else throw e) Q E s') s':=λ v s' z=>wpAny_mono z (λ _ _ q=>wpAny_pure q) λ _ _ q=>q.elim;refine wpAny_mono (h _) (λ fin s' z=>?_) λ _ _ z=>z.elim
 cases fin with
 | done f=>cases f with
  | ret v=>exact a4 v s' z
  | _=>exact z.elim
 | again c'=>
  let(z1,z2):=z;refine{z1,We z2 λ r a3 q=>?_}
  cases r with
  | error e=>exact q.elim
  | ok f=>cases f with
   | ret v=>exact a4 v a3 q
   | _=>exact q.elim
theorem qY{a g:O}(hc:(clsIn K C).isSome=L)(ha:findIn K (.ref C) name=U (U a))(hg:specialIn K a "__get__"=U (U g))(ht:takesIn K a=U L):findObj K C od name=U (.bind g a):=by
 let(cd,hc):=Option.isSome_iff_exists.mp hc;unfold findObj;rw[hc,Option.bind_some,ha,Option.bind_some];simp[hg,ht]
theorem Af.some(c:Af K C):(clsIn K C).isSome=L:=by
 let(cd,hc,_):=any_some c.hd;rw[hc];rfl
theorem Ea{Q:Ü O->À->Prop}(c:Af K C)(X:K.In s.heap)(I:InstAt s.heap x ox C od)(hq:Q (U (.ref C)) { s with toks:=s.toks+1 }):Ç (Ê prog w) A (getAttr? (.ref x) "__class__") Q E s:=by
 let hf:findObj K C od "__class__"=U (.bind (.builtin "getset_descriptor.__get__") (.builtin "object.__class__")):=qY c.some c.cl c.sp c.tk;refine Hz c X I λ A'=>?_;let L0:=I.type (M:=Ê prog w);let L1:=looks_find (M:=Ê prog w) X I hf;let cg:∀ {A:Î} {R:Result->À->Prop},R (.ok (.ret (.ref C))) { s with toks:=s.toks+1 }->codeAny (Ê prog w) A (.call (.builtin "getset_descriptor.__get__") {[.builtin "object.__class__",.ref x,.ref C],[]}) R { s with toks:=s.toks+1 }:=λ h=>class_get (s:={ s with toks:=s.toks+1 }) (ox:=ox) (od:=od) X I c.mo h;let(hh,gg,d,t,os):=s;refine My (U3 (My (U3 (My (L0.at (My (L1.at ?_)))))))
 show Ç _ _ (do ret (←holding [.builtin "object.__class__"] (call (.builtin "getset_descriptor.__get__") [.builtin "object.__class__",.ref x,.ref C]))) _ _ _
 exact My (Vy (WX (cg (U3 (show Ud _ _ _ (.done (.ret (.ref C))) _ from handed_on J hq)))))
theorem xq(c:Af K C):KitX K (.ref x) (.ref C) (λ h=>InstAt h x ox C od) where
 ty:=λ _ _ _ I=>I.type
 it:=λ _ _ X _=>by
  let(a4,a3,_):=any_some c.hd;unfold clsIn at a3;split at a3
  ·rename_i c' d' a5 a6 ho;intro A' Q' E' s' k q;unfold isType loadHead;exact wpAny_bind (wpAny_loadPart (k _ _ (X _ _ ho)) (wpAny_pure q))
  ·cases a3
 ne:=λ h tp dd its n sl X a7=>by
  let(a4,a3,_):=any_some c.hd;refine Bool.eq_false_iff.mpr λ q=>?_;let e:C=tp:=Value.ref.inj (beq_iff_eq.mp q);subst e;unfold clsIn at a3;split at a3
  ·rename_i c' d' a5 a6 ho;let z:=(X _ _ ho).symm.trans a7;cases z
  ·cases a3
 ca:=λ X I k=>Ea c X I k
end
def rA(oe:Obj):HO:=.frz oe (.ext λ _=>True)
structure ix(X:Cx)(pins:G (Z × Obj))(e:Z):Prop where
 s0:X.s₀.heap.get? e=Y
 loc:e≠X.env.locals
 cel:∀ x c,X.env.cells.lookup x=U c->c≠e
 fs:e ∉ X.fs
 pin:∀ p∈X.pn++pins,p.1≠e
theorem ix.of(I:Inv X pins σ H s)(hx:X.ex=[])(h:s.heap.get? e=Y):ix X pins e where
 s0:=by
  cases q:X.s₀.heap.get? e with
  | none=>rfl
  | some o=>
   let(o',z):=I.base.there e o q (by rw[hx];simp);rw[h] at z;cases z
 loc:=λ z=>by
  let(m,(o,_,_,q,_),_):=I.loc;rw[←z,h] at q;cases q
 cel:=λ x c q z=>by
  let(v,o,r,_):=I.cell x c q;rw[z,h] at r;cases r
 fs:=λ z=>by
  let(_,o,q,_):=I.funs.mem z;rw[h] at q;cases q
 pin:=λ p hp z=>by
  let q:=(I.pin p hp).1;rw[z,h] at q;cases q
theorem Inv.track(I:Inv X pins σ H s)(N:ix X pins e)(he:s.heap.get? e=U oe)(hn:H e=Y):Inv X pins σ (upd H e (rA oe)) s:=by
 let ne:∀ {b:Z} {o:HO},H b=U o->b≠e:=λ q z=>by rw[z,hn] at q;cases q
 refine{I.ok,I.os,I.bare,{I.base.keep,I.base.slot,λ b o q n hx=>?_,I.base.there,λ b xs q=>?_,λ b o u q=>?_,λ b ps q=>?_},I.loc,I.cell,?_,λ x c q=>?_,λ p hp=>?_,λ b o q=>?_,I.len}
 ·rw[ah (λ z=>by rw[z,N.s0] at q;cases q)];exact I.base.free b o q n hx
 ·let z:=I.base.tups b xs q;rw[ah (ne z)];exact z
 ·let z:=I.base.frzs b o u q;rw[ah (ne z)];exact z
 ·let(m,z):=I.base.tbls b ps q;exact{m,by rw[ah (ne z)];exact z}
 ·rw[ah (Vz N.loc)];exact I.free
 ·rw[ah (N.cel x c q)];exact I.freeC x c q
 ·let(a,b,c,d,f):=I.pin p hp;exact{a,by rw[ah (N.pin p hp)];exact b,c,d,f}
 ·by_cases hb:b=e
  ·subst hb;rw[ag] at q;cases q;exact{he,trivial,{(oe),he},λ _ _ _ _=>trivial}
  ·rw[ah hb] at q;exact(I.hok b o q).stay (λ _ _ _ r=>r) (λ c r=>by rw[ah (ne r)];exact r) (λ c y r=>by rw[ah (ne r)];exact r) λ c xs r=>by rw[ah (ne r)];exact r
def CxT(X:Cx)(pins:G (Z × Obj))(H:Hp)(cls cx:O):Prop:=cx=.none\/cls=.ref E5/\∃ (c:Z) (oc:Obj) (u:HO),cx=.ref c/\ix X pins c/\H c=U (.frz oc u)/\E8 oc
theorem Aj.t(x:Aj cls h [] H cx)(k:∀ c,h.get? c=Y->ix X pins c):CxT X pins H cls cx:=by
 rcases x with a|⟨y,c,oc,u,a,b,d,e⟩
 ·exact .inl a
 ·exact .inr {y,c,oc,u,a,k c (b.resolve_right (by simp)),d,e}
def PHs(X:Cx)(hs:G ExceptHandler)(th:O->Ü Z->TS):Prop:=
 ∀ (pins:G (Z × Obj)) (s:À) (σ:St) (H:Hp) (D:gX) (e T:Z) (cls:O) (d:Ü Z),Inv X pins σ H s->ix X pins e->H e=Y->iJ (CxT X pins H cls) s.heap e cls d T->th cls d D σ H->Ç (Ê X.prog X.w) X.A (handleBy (.ref e) X.env hs) (SP X pins D) X.xe s
theorem BK{Q:Unit->À->Prop}(x:iJ CC s.heap e cls d T)(hQ:∀ h',(∀ b o,s.heap.get? b=U o->h'.get? b=U o)->Q () { s with heap:=h' }) :
  Ç M A (setFlight (.ref e) Y) Q E s:=by
 let(oe,vs,oT,ts,he,rfl,rfl,hd,h1,ne,hT,a3,h3,a5):=x;unfold setFlight;refine wpAny_bind (wpAny_field he hd h1 ?_);rw[if_pos (show (Ë T != É)=L from by simp)];refine wpAny_setField hT a3 (Array.getElem?_eq_some_iff.mp h3).1 (hQ _ λ b o q=>?_)
 by_cases hb:b=T
 ·subst hb;rw[hT] at q;cases q
  let same:Obj.mapFields (·.setIfInBounds 3 ((Y:Ü Z).elim É λ f=>rawInt f)) oT=oT:=by
   let(c,d,dat,sl):=oT;cases a3
   let e3:ts.setIfInBounds 3 ((Y:Ü Z).elim É λ f=>rawInt f)=ts:=by
    apply Array.ext_getElem?;intro i
    by_cases hi:i=3
    ·subst hi;let(a4,hv):=Vt.mp h3;simp[Array.getElem?_setIfInBounds,a4,hv]
    ·rw[Yn (Vz hi)]
   show ({c,d,.fields (ts.setIfInBounds 3 ((Y:Ü Z).elim É λ f=>rawInt f)),sl}:Obj)=_
   rw[e3]
  have:=Vk (Obj.mapFields (·.setIfInBounds 3 ((Y:Ü Z).elim É λ f=>rawInt f))) hT (VH (VR a3 _));rw[same] at this;exact this
 ·rw[VP _ _ (Vz hb)];exact q
def Nm:O->Ü Z->TS:=λ _ _ _ _ _=>False
def KG:PHs X [] Nm:=λ _ _ _ _ _ _ _ _ _ _ _ _ _ h=>h.elim
theorem SP.unmark{D:gX}{f:Flow}{s2:À}(ok:X.Ok)(h0:X.s₀.heap.get? e=Y)(hh:∀ o:HO,X.H₀ e=U o->(∀ xs,o ≠ .tup xs)/\(∀ ob u,o ≠ .frz ob u)/\∀ ps,o ≠ .tbl ps)(q:SP (X.mark e (upd X.H₀ e o)) pins D f s2):SP X pins D f s2:=by
 cases f with
 | next=>let(σ',H',wn,q):=q;exact{σ',H',wn.unmark ok h0 hh,q}
 | brk=>let(σ',H',wn,q):=q;exact{σ',H',wn.unmark ok h0 hh,q}
 | cont=>let(σ',H',wn,q):=q;exact{σ',H',wn.unmark ok h0 hh,q}
 | ret u=>let(v,σ',H',wn,r,q):=q;exact{v,σ',H',wn.unmark ok h0 hh,r,q}
theorem SP.unreb{D:gX}{f:Flow}{s2:À}(ok:X.Ok)(h0:X.s₀.heap.get? e=Y)(hh:∀ o:HO,X.H₀ e=U o->(∀ xs,o ≠ .tup xs)/\(∀ ob u,o ≠ .frz ob u)/\∀ ps,o ≠ .tbl ps)(q:SP (X.at0 (upd X.H₀ e o)) pins D f s2):SP X pins D f s2:=by
 cases f with
 | next=>let(σ',H',wn,q):=q;exact{σ',H',wn.unreb ok h0 hh,q}
 | brk=>let(σ',H',wn,q):=q;exact{σ',H',wn.unreb ok h0 hh,q}
 | cont=>let(σ',H',wn,q):=q;exact{σ',H',wn.unreb ok h0 hh,q}
 | ret u=>let(v,σ',H',wn,r,q):=q;exact{v,σ',H',wn.unreb ok h0 hh,r,q}
theorem Inv.markE{vs:Array O}(I:Inv X pins σ (upd H e (rA oe)) s)(N:ix X pins e)(hn:H e=Y)(hh:∀ o:HO,X.H₀ e=U o->(∀ xs,o ≠ .tup xs)/\(∀ ob u,o ≠ .frz ob u)/\∀ ps,o ≠ .tbl ps)(hd:oe.data=.fields vs)(h2:vs[2]? = U cx)(hx:CxT X pins H cls cx) :
  ∃ H1,H1 e=U (rA oe)/\Inv (X.mark e H1) pins σ (upd H e (rA oe)) s/\∀ {a3:G (Z × Obj)} {D:gX} {f:Flow} {s2:À},SP (X.mark e H1) a3 D f s2->SP X a3 D f s2:=by
 rcases hx with rfl|⟨_,c,oc,u,rfl,Nc,Hc,nc⟩
 ·exact{_,ag,I.mark N.s0 N.fs (e:=e) (o:=oe) (u:=.ext λ _=>True) ag {vs,_,hd,h2,.inl J},λ q=>SP.unmark I.ok N.s0 hh q}
 ·let ce:c≠e:=λ z=>by rw[z,hn] at Hc;cases Hc
  let a4:upd H e (rA oe) c=U (.frz oc u):=(ah ce).trans Hc
  by_cases h0:X.H₀ c=U (.frz oc u)
  ·exact{_,ag,I.mark N.s0 N.fs (e:=e) (o:=oe) (u:=.ext λ _=>True) ag {vs,_,hd,h2,.inr {c,oc,u,J,(ah ce).trans h0,nc}},λ q=>SP.unmark I.ok N.s0 hh q}
  ·let sf:Jv X.A (upd X.H₀ c (.frz oc u)):=λ a z=>by
    let(e',a5,u',r1,r2,r3):=I.ok.sf a z
    let k:∀ b ob v,X.H₀ b=U (.frz ob v)->upd X.H₀ c (.frz oc u) b=U (.frz ob v):=λ b ob v q=>by
     by_cases hb:b=c
     ·subst hb;have:=I.base.frzs b ob v q;rw[a4] at this;rw[ag];exact this
     ·rw[ah hb];exact q
    exact{e',a5,u',r1,k _ _ _ r2,r3.up k}
   let wn:=I.reb (e:=c) (o:=oc) (u:=u) Nc.s0 Nc.fs a4 sf
   let a6:∀ o:HO,X.H₀ c=U o->(∀ xs,o ≠ .tup xs)/\(∀ ob u,o ≠ .frz ob u)/\∀ ps,o ≠ .tbl ps:=λ o h1=>
    ⟨λ xs z=>(by have:=I.base.tups c xs (h1.trans (VQ U z));rw[a4] at this;cases this),λ ob v z=>(by have:=I.base.frzs c ob v (h1.trans (VQ U z));rw[a4] at this;cases this;exact h0 (h1.trans (VQ U z))),λ ps z=>(by let(_,this):=I.base.tbls c ps (h1.trans (VQ U z));rw[a4] at this;cases this)⟩
   let a7:∀ o:HO,(X.at0 (upd X.H₀ c (.frz oc u))).H₀ e=U o->(∀ xs,o ≠ .tup xs)/\(∀ ob u,o ≠ .frz ob u)/\∀ ps,o ≠ .tbl ps:=λ o h1=>hh o ((ah (Vz ce)).symm.trans h1);exact{_,ag,wn.mark N.s0 N.fs (e:=e) (o:=oe) (u:=.ext λ _=>True) ag {vs,_,hd,h2,.inr {c,oc,u,J,(ah ce).trans ag,nc}},λ q=>SP.unreb I.ok Nc.s0 a6 (SP.unmark wn.ok N.s0 a7 q)}
theorem Jh(ex:iJ CC h e cls d T):W.Looks M h (typeOf (.ref e)) cls:=by
 let(oe,vs,oT,ts,he,rfl,_):=ex;exact(W.Looks.ld he).andThen .now
def UI(i:à):St->Hp->(St->Hp->Prop)->Prop:=λ σ H Q=>Q (σ.set i Y) H
def MY(i:à)(nx:St->Hp->Prop):St->Hp->Prop:=λ σ H=>UI i σ H nx
def gX.del(i:à)(D:gX):gX:={MY i D.nx,D.rt,MY i D.bk,MY i D.ct}
theorem mh{i:à}{Q:Unit->À->Prop}(I:Inv X pins σ H s)(hi:X.N[i]? = U x)(hk:X.env.scope.names.lookup x=U .local)(hN:X.N.Nodup)
  (h:∀ s',Inv X pins (σ.set i Y) H s'->Q () s'):Ç M A (do bindName X.env x .none;unbindBehindTheSuite X.env x pos) Q E s:=by
 let(m,hn,hl):=id I.loc;let a3:(X.env.scope.kind == .class || (X.env.scope.kind == .module && X.env.locals != X.env.globals))=Â:=by rw[I.ok.kind];rfl
 let cne:=I.cne;refine PySem.wpAny_nameGoes_keeps hk hn a3 λ h' v a4 hs=>?_;let(oL,_,_,a5,_):=id hn;refine h _ {I.ok,I.os,I.bare,{λ b o e n hb hx=>?_,λ b o e n hb hx=>?_,I.base.free,λ b o e hx=>?_,I.base.tups,I.base.frzs,I.base.tbls},{_,a4,λ j y v' e1 e2 e3=>?_},λ y c e=>?_,I.free,I.freeC,λ p hp=>?_,λ b ob e=>?_,by simpa using I.len}
 ·exact(hs.2 b (Vl (Vg (U5 e) I.ok.above))).trans (I.base.keep b o e n hb hx)
 ·let(sl,e1):=I.base.slot b o e n hb hx;exact{sl,(hs.2 b (Vl (Vg (U5 e) I.ok.above))).trans e1}
 ·let(o',e1):=I.base.there b o e hx;exact{o',(hs.2 b (Vl (Vg (U5 e) I.ok.above))).trans e1}
 ·let hj:j≠i:=by
   rintro rfl
   by_cases hlt:j<σ.length
   ·rw[Wx hlt] at e2;cases e2
   ·rw[VU (by simpa using XH hlt)] at e2;cases e2
  rw[Xa (Vz hj)] at e2;let(u',r',q):=hl j y v' e1 e2 e3;refine{u',r',?_}
  rcases q with ⟨k,e⟩|⟨k,c,e,z⟩
  ·refine .inl {k,?_};have:y≠x:=λ e=>hj (p6 hN e1 (e ▸ hi));simp[this,e]
  ·exact .inr {k,c,e,z.sameBut hs (cne y c e)}
 ·let(w',z):=I.cell y c e;exact{w',z.sameBut hs (cne y c e)}
 ·let(e,n,ne,nf,d):=I.pin p hp;exact{(hs.2 p.1 ne).trans e,n,ne,nf,d}
 ·refine(I.hok b ob e).stay (λ c w' hc q=>(hs.2 c ?_).trans q) (λ _ q=>q) (λ _ _ q=>q) λ _ _ q=>q;rintro rfl
  rcases hc with rfl|hc
  ·rw[I.free] at e;cases e
  ·rw[I.free] at hc;cases hc
def Ta(tb:(St->XK)->TS)(th:O->Ü Z->TS):TS:=λ D σ H=>tb (λ σ' cls d H'=>th cls d D σ' H') D σ H
abbrev Cx.tried(X:Cx)(E:O->À->Prop)(pn:G (Z × Obj)):Cx:={ X with xe:=E,pn:=pn }
theorem AY{body:G Stmt}{h₀:ExceptHandler}{hs:G ExceptHandler}{tb:(St->XK)->TS}{th:O->Ü Z->TS}(a3:X.stack=X.env::X.outer/\X.env.frame=U X.env.locals/\X.ex=[])
  (hb:∀ (EX:St->XK) (E:O->À->Prop) (pn:G (Z × Obj)),(∀ σ,wO (CX1 X.prog X.w) (X.tried E pn) (EX σ) σ)->PSs (X.tried E pn) body (tb EX)) (hh:PHs X (h₀::hs) th) :
  PS X (.Try body (h₀::hs) [] [] pos) (Ta tb th):=by
 intro pins s σ H D I h;refine PySem.wpAny_Try_except ?_;let a6:∀ E pn,(X.tried E pn).Ok:=λ E pn=>{(I.ok.mod),I.ok.kind,I.ok.glob,I.ok.blt,I.ok.above,I.ok.inj,I.ok.has,I.ok.cab,I.ok.hd,I.ok.sf,I.ok.frames,I.ok.stk,I.ok.exf,I.ok.bs,I.ok.bsz,I.ok.noex,I.ok.exfs,I.ok.funs,I.ok.frf}
 let back:∀ {E:O->À->Prop} {a4:G (Z × Obj)} {σ':St} {H':Hp} {s':À},Inv (X.tried E (X.pn++pins)) a4 σ' H' s'->Inv X pins σ' H' s':=λ {E a4 σ' H' s'} wn=>
  ⟨I.ok,wn.os,wn.bare,wn.base,wn.loc,wn.cell,wn.free,wn.freeC,λ p hp=>wn.pin p (Wu _ hp),wn.hok,wn.len⟩
 let I0:∀ E,Inv (X.tried E (X.pn++pins)) [] σ H s:=λ E=>{a6 E _,I.os,I.bare,I.base,I.loc,I.cell,I.free,I.freeC,λ p hp=>I.pin p (by simpa using hp),I.hok,I.len};refine thn (hb (λ σ' cls d H'=>th cls d D σ' H') _ (X.pn++pins) ?_ [] s σ H D (I0 _) h) λ f s1 q=>?_
 ·intro σ1 a7 H1 s1 ev s2 I1 hc;let(e,T,cls,dd,H',rfl,os,bare,a5,hok,ne,nT,He,HT,ex,a9,hE):=hc;let I2:=I1.call' (ch:=[]) os a5 hok bare (λ b z=>Þ z (by simp))
  let nf:∀ b,s1.heap.get? b=Y->b ∉ frs (X.env::X.outer):=λ b hb z=>by
   let st:=I1.stack;let a8:s1.heap.FunFrames X.base (X.env::X.outer):=by rw[←a3.1];exact st
   let(_,o,q,_):=a8.mem z;rw[hb] at q;cases q
  let nb:X.base.get? T=Y:=by
   cases q:X.base.get? T with
   | none=>rfl
   | some o=>
    have:=I1.bk T o q;rw[nT] at this;cases this
  let fl:s2.heap.FunFrames X.base (X.env::X.outer):=by rw[←a3.1];exact I2.stack
  let fr:X.A.frames=U (X.env::X.outer):=by rw[←a3.1];exact I.ok.frames
  refine rW (base:=X.base) (outer:=X.outer) fr fl a3.2.1 ex (nf e ne) (nf T nT) nb λ g T' ng b1 ex'=>?_;let fs:∀ b∈frs (X.env::X.outer),b∈frs X.stack:=λ b hb=>by rw[a3.1];exact hb
  let I3:=I1.call' (s':={ s2 with heap:=g }) (ch:=[]) os (a5.noted ng ne (λ b z=>by rw[z];exact nT) λ b hb=>.inl (fs b hb)) (hok.noted ng He (λ b z=>by rw[z];exact HT) λ b hb=>I2.stkFree b (fs b hb)) bare (λ b z=>Þ z (by simp));exact hh pins _ σ1 H' D e T' cls dd (back I3) (ix.of (back I1) a3.2.2 ne) He (ex'.imp λ cx z=>z.t λ c q=>ix.of (back I1) a3.2.2 q) hE
 ·cases f with
  | next=>let(σ',H',wn,q):=q;exact X7 {σ',H',back wn,q}
  | brk=>let(σ',H',wn,q):=q;exact{σ',H',back wn,q}
  | cont=>let(σ',H',wn,q):=q;exact{σ',H',back wn,q}
  | ret u=>let(v,σ',H',wn,r,q):=q;exact{v,σ',H',back wn,r,q}
def kXd:HO->Prop:=λ o=>match o with
 | .xd _=>True
 | _=>False
def uw(H:Hp):Ü Z->Prop
 | none=>True
 | some dx=>∃ o,H dx=U o/\kXd o
theorem Em:bK X (.builtin "isinstance") (λ xs H Q=>∃ e oe C D b,xs=[.ref e,D]/\(∃ u,H e=U (.frz oe u))/\oe.cls=.ref C/\uw H oe.dict/\(∃ vs,oe.data=.fields vs)/\Af X.K C/\(∃ u,bI D u/\Ö X.K (.ref C) u=U b)/\Q (.bl b) H):=by
 intro pins s σ H xs us Q I r h;let(e,oe,C,D,b,rfl,(uu,hH),hc,hd,(vs,hv),ec,(u,ru,hk),q):=h;let(u1,u2,rfl,r1,r2):=Ak r;cases (show u1=Ë e from r1)
 let hu:u2=u:=by
  cases D with
  | ref a=>exact(show u2=Ë a from r2).trans (show u=Ë a from ru).symm
  | ty n=>exact(show u2=Ø n from r2).trans (show u=Ø n from ru).symm
  | non=>exact(show u2=É from r2).trans (show u=É from ru).symm
  | bl b'=>exact(show u2=Value.bool b' from r2).trans (show u=Value.bool b' from ru).symm
  | int i=>let(t,rfl):=ru;simp[Ö,W.kitCls] at hk
  | str i=>let(t,rfl):=ru;simp[Ö,W.kitCls] at hk
  | byt i=>let(t,rfl):=ru;simp[Ö,W.kitCls] at hk
  | flt i=>let(t,rfl):=ru;simp[Ö,W.kitCls] at hk
 subst hu;let(he,_):=(show bL X.prog X.w H s.heap e (.frz oe uu) from I.hok e _ hH);let a3:W.notCls oe=L:=by unfold W.notCls;rw[hv]
 cases q0:oe.dict with
 | none=>
  let wn:W.InstAt s.heap e oe C Y:={he,hc,a3,by rw[q0];trivial};exact WI (xq ec) I.kIn wn hk (λ z=>nomatch z) λ tk=>{.bl b,H,I.tok _,J,q}
 | some dx=>
  rw[q0] at hd;let(o,ho,hx):=hd
  cases o with
  | xd fs=>
   let(mA,hn,_):=I.hok dx _ ho;let(oD,a4,_):=mI hn;let wn:W.InstAt s.heap e oe C (U oD):={he,hc,a3,by rw[q0];exact a4};exact WI (xq ec) I.kIn wn hk (λ z=>nomatch z) λ tk=>{.bl b,H,I.tok _,J,q}
  | _=>exact hx.elim
def wM(K:Frag)(C fI:Z)(bmB:G O)(newId:String):Ý:=A1 K C (U (.ref fI)) bmB newId
section
variable {R:Result->À->Prop}{g:Array GenState}{d:Drawn}{t:à}{os:OsState}{K:Frag}
variable {nm q:Ã}{N fI:Z}{bs bm bmB:G O}{hdct:Ý}{sn:G Ã}{sub:G O}{ab:Ý}{col:Ü Ý}{dd:Ü Z}{k0 k1 k2 k3 k5:Ü O}{wv Bn newId nid initId inN:String}{bmN:G O}
abbrev nV(C:Z)(bW:G O)(h:Ð):Ð:=(h.push { cls:=.type "tuple",data:=.seq bW.toArray }).push { cls:=.ref C,data:=.fields #[.ref h.objs.size,.none,.none,.none,.bool Â,.none] }
theorem MA(Fn:ExcBaseFacts Bn newId inN bmN)(a3:bmB.contains (.type Bn)=L)(F:ExcBaseFacts wv nid initId bmB)(T:OwnTail h bmB bm){mN:Ã->Ü O}{bW:G O}
  (hC:h.get? C=U (excClassObj nm q C N bs bm hdct sn sub ab col dd k0 k1 k2 k3 k5 newId)) (hn:h.Ns N mN) (a5:mN "__init__"=U (.ref fI)) (X:K.In h) (hf:typeIn K (.ref fI)=U (.type "function")) (hrest:bW.length<=Æ)
  (hq:codeAny (Ê prog w) (A.under (.builtin "type.__call__" ⟨.ref C::bW,[]⟩)) (.call (.ref fI) {.ref (h.objs.size+1)::bW,[]}) (InitBack (h.objs.size+1) R) {nV C bW h,g,d,t,os}) :
  codeAny (Ê prog w) A (.call (.ref C) {bW,[]}) R {(h),g,d,t,os}:=by
 let f1:=tc_lookup;let f2:=tc_bind (.ref C);let hT:({(h),g,d,t,os}:À).TypeIs (.ref C) "type":={_,hC,J};refine codeAny_of_tree ?_
 show Ç _ _ (callAny (.ref C) _) _ _ _
 repeat (any_goals (first|assumption|with_reducible refine VY hC ?_|wp_step))
 refine{J,?_};refine codeAny_call_builtin_at (YI _ (by decide +kernel)) entry_typeCall (wpAny_check_type_call_sub hC ?_)
 repeat (first|with_reducible refine VY hC ?_|with_reducible refine wpAny_madeBy_exc hC ?_|wp_step)
 refine codeAny_call_builtin_code (YI _ Fn.quiet) (wpAny_check_new_subU Fn a3 T hC (codeAny_exc_new_subU Fn a3 F T hC ?_ hrest))
 show Ç _ _ _ _ _ _
 let kp:∀ b o,h.get? b=U o->(nV C bW h).get? b=U o:=λ b o e=>Heap.get?_push_of_some _ (Heap.get?_push_of_some _ e);let a4:=kp _ _ hC;let a6:(nV C bW h).Ns N mN:=let {(o),es,ep,e,r}:=hn;⟨o,es,ep,kp _ _ e,r⟩;let hg:(nV C bW h).get? (h.objs.size+1)=U { cls:=.ref C,data:=.fields #[.ref h.objs.size,.none,.none,.none,.bool Â,.none] }:=by unfold nV;heap_get
 let a7:(Ë C::bm).contains (.ref C)=L:=by simp
 let T1:=T.keeps (h':=nV C bW h) kp;let X1:K.In (nV C bW h):=λ b o e=>kp b o (X b o e);unfold isInstance
 repeat (first|with_reducible refine VY hg ?_|wp_step)
 show Ç _ _ (isSubtype (.ref C) (.ref C)) _ _ {nV C bW h,g,d,t,os}
 refine Xs a4 ?_;rw[a7]
 repeat (first|with_reducible refine VY hg ?_|wp_step)
 show Ç _ _ (typeLookup (.ref C) _) _ _ _
 refine wpAny_typeLookup_tail a4 a6 T1 F.mroIs F.init.lookup ?_;rw[a5];refine Vy (My ((bind_fn X1 _ hf).at ?_));refine My (WX (We hq λ r s' z=>?_))
 cases r with
 | error e=>exact z
 | ok f=>
  cases f with
  | ret v=>let(rfl,y):=z;exact U3 (U3 y)
  | next=>exact z.elim
  | brk=>exact z.elim
  | cont=>exact z.elim
end
def qi:G O->G O
 | .ref _::r=>qi r
 | l=>l
theorem mS(self:O):∀ l:G O,refuseLoop self "__setattr__" l=refuseLoop self "__setattr__" (qi l)
 | []=>rfl
 | v::r=>by
  cases v with
  | ref c=>rw[refuseLoop_ref];exact mS self r
  | _=>rfl
def Bv(l:G O):Ý:=qi l == [.type "ValueError",.type "Exception",.type "BaseException",.type "object"]
theorem yr(self:O){l:G O}(e:Bv l=L):refuseLoop self "__setattr__" l=pure ():=by
 rw[mS,Wk.mp e];exact PySem.F.store_ValueError.passes self
def mi(K:Frag)(C:Z):Ý:=(clsIn K C).any λ cd=>Bv cd.mro && cd.mro.contains (.type "object")
structure Be(K:Frag)(C:Z):Prop where
 ov:mi K C=L
 sa:findIn K (.ref C) "__setattr__"=U (U (.builtin "object.__setattr__"))
 hd:hasDictIn K C=L
section
variable {K:Frag}{x:Z}{name:Ã}{v:O}
theorem FW{ox:Obj}{od:Ü Obj}{tk:Tok}{R:Result->À->Prop}(X:K.In s.heap)(I:InstAt s.heap x ox C od)(hp:mi K C=L)(ht:takerIn K C name=U Y)
  (h:∀ b,Ç (Ê prog w) A.in1 (Builtin.ObjectAttr.storeInOwnDict (.ref x) (.ref C) (.str name tk) name v b) (λ fin s'=>match fin with | .done f=>R (.ok f) s' | .again c'=>c'.quiet=L/\codeAny (Ê prog w) A c' R s') (λ e s'=>R (.error e) s') s) :
  codeAny (Ê prog w) A (.call (.builtin "object.__setattr__") {[.ref x,.str name tk,v],[]}) R s:=by
 let sf:=PySem.F.store_object;let(dat,a4,a3):=any_some hp;rw[V6] at a3
 let emp:dat.mro.isEmpty=Â:=by cases q:dat.mro with|nil=>rw[q] at a3;cases a3.2|cons _ _=>rfl
 let NY:Looks (Ê prog w) s.heap (isInstance (.ref x) (.type "object")) L:=I.type.andThen (looks_mroIn X (by unfold mroIn;rw[a4,Option.bind_some,if_neg (by rw[emp];decide),a3.2]));refine codeAny_call_builtin sf.slot.plain sf.entry (@check_slot (Ê prog w) _ _ s "object.__setattr__" "object" "__setattr__" (.ref x) [.str name tk,v] [] _ sf.kind sf.split NY (sf.args (.ref x) (.str name tk) v) ?_);let(on,a5,hr):=Option.bind_eq_some_iff.mp ht;let lm:Looks (Ê prog w) s.heap (mroOf (.ref C)) dat.mro:=(looks_clsIn X a4).andThen .now
 let lt:Looks (Ê prog w) s.heap (Builtin.ObjectAttr.storeTaker? on) Y:=by
  cases on with
  | none=>exact .now
  | some a=>
   let(b,hb,hz):=Vf.mp hr;refine(looks_takesIn X hb).andThen ?_;cases b
   ·exact .now
   ·cases hz
 rw[osa_eq,refuse_eq];refine My (My (I.type.here (My (lm.here (by rw[yr _ a3.1];refine U3 (My (I.type.here (My ((Yh X a5).here (My (lt.here (h _))))))))))))
theorem Kr{vs:Array O}{sl:Array (Ü O)}{Q:Unit->À->Prop}(c:Be K C)(X:K.In s.heap)(hx:s.heap.get? x=U {.ref C,Y,.fields vs,sl})(ht:takerIn K C name=U Y)
  (h:∀ h' tk,h'.get? x=U {.ref C,U %[s|99],.fields vs,sl}->h'.Ns1 %[s|99] (λ y=>if y=name then U v else Y)->(∀ b o,b≠x->s.heap.get? b=U o->h'.get? b=U o)->Q () { s with heap:=h',toks:=tk }) :
  Ç (Ê prog w) A (setAttr (.ref x) name v) Q E s:=by
 let I:InstAt s.heap x {.ref C,Y,.fields vs,sl} C Y:={(hx),J,J,trivial};refine set_plain X I c.sa (FW (s:={ s with toks:=s.toks+1 }) X I c.ov ht λ b=>?_);let(cd,hc,a5):=any_some c.hd;let a3:x≠%[s|99]:=Vl (U5 hx);let a4:(s.heap.push { cls:=.type "dict",data:=.dict #[] }).get? x=U {.ref C,Y,.fields vs,sl}:=U0 _ hx;refine My (U3 (My (My (wpAny_loadPart hx ?_))))
 show Ç _ _ (do if !(←classData C).hasDict then pure Y else _) _ _ _
 refine My (Looks.here (s:={ s with toks:=s.toks+1 }) (looks_clsIn X hc) ?_);rw[a5,U7 (by decide)]
 show Ç _ _ (do let d ←alloc { cls:=.type "dict",data:=.dict #[] };update x λ o=>{ o with dict:=U d };dictMade (.ref C) x d) _ _ _
 refine My (wpAny_alloc (My (wpAny_update a4 (U3 (a:=U %[s|99]) ?_))));generalize hg:(s.heap.push { cls:=.type "dict",data:=.dict #[] }).update x (λ o=>{ o with dict:=U %[s|99] })=g0;let gx:g0.get? x=U {.ref C,U %[s|99],.fields vs,sl}:=by rw[←hg];exact Vk _ a4 J
 let gd:g0.get? %[s|99]=U { cls:=.type "dict",data:=.dict #[] }:=by rw[←hg];exact(Heap.get?_update_ne _ _ _ _ a3.symm).trans (Heap.get?_push_at J J)
 let gk:∀ b o,b≠x->s.heap.get? b=U o->g0.get? b=U o:=λ b o hb e=>by rw[←hg];exact(Heap.get?_update_ne _ _ _ _ hb).trans (U0 _ e)
 let gn:g0.Ns %[s|99] (λ _=>Y):={_,#[],_,gd,J,λ e he=>Þ he (by simp),λ _=>J}
 show Ç _ _ (Builtin.ObjectAttr.storeInDict %[s|99] (.str name s.toks) name v) _ _ _
 unfold Builtin.ObjectAttr.storeInDict Builtin.ObjectAttr.newKeyGuard;refine wpAny_bind (wpAny_pure (wpAny_bind (wpAny_nsSet1 (Heap.Ns1.of_empty gn) λ h2 n2 s2=>?_)));let(oD,eD,pD,q1,q2,q3):=n2.count (Within.cons name v Within.nil);refine wpAny_bind (wpAny_lookBehind q1 (by rw[q2];exact pastItsLine_dict (Nat.le_trans q3 (by rw[length_cons,length_nil,sizeLine_eq];omega))) ?_);exact wpAny_pure (h h2 _ ((s2.2 x a3).trans gx) n2 λ b o hb e=>(s2.2 b (Nat.ne_of_lt (Heap.lt_size e))).trans (gk b o hb e))
end
section
variable {K:PySem.W.Frag}{x dx:Z}{ox:Obj}{od:Ü Obj}{name:Ã}{mA:Ã->Ü O}
theorem MB{expr:Ý}(c:Af K C)(X:K.In s.heap)(hx:s.heap.get? x=U ox)(a3:ox.cls=.ref C)(a4:notCls ox=L)(hd:ox.dict=U dx)(hn:s.heap.Ns1 dx mA)(ha:ba K C name)(hv:mA name=U u)(hh:handedIn u=L)
  (h:Q u { s with toks:=s.toks+1 }):Ç (Ê prog w) A (getAttr (.ref x) name expr) Q E s:=by
 let(oD,ho,hl):=mI hn;let I:InstAt s.heap x ox C (U oD):={hx,a3,a4,by rw[hd];exact ho};let hf:findObj K C (U oD) name=U (.value u):=findObj_own c.hd ha J (by rw[hl,hv]);let L0:=I.type (M:=Ê prog w);let L1:=looks_findIn (M:=Ê prog w) X c.ga;let L2:=looks_findIn (M:=Ê prog w) X c.no;let L3:=looks_find (M:=Ê prog w) X I hf;let ck:=λ {M:Model} {A:Î} {E:O->À->Prop} {Q:Unit->À->Prop} (q:Q () { s with toks:=s.toks+1 })=>sr (M:=M) (A:=A) (E:=E) (nameV:=.str name s.toks) (s:={ s with toks:=s.toks+1 }) c X I q;let(hp,g,d,t,os):=s;unfold getAttr getAttrBy;refine wpAny_bind (wpAny_mkText (wpAny_holding (wpAny_bind (L0.at (wpAny_bind (L1.at ?_))))))
 show Ç _ _ (getAttrByItsOwn _ _ _ _ _ _) _ _ _
 unfold getAttrByItsOwn
 show Ç _ _ (do let before ←typeLookup (.ref C) "__getattr__";_) _ _ _
 refine wpAny_bind (L2.at (wpAny_bind (wpAny_attempt (wpAny_holding ?_))));unfold callGetattribute;rw[show (expr && onTheHeap (Value.builtin "BaseException.__getattribute__"))=Â from Bool.and_false _,if_neg (by decide)];unfold boundAndCalled;rw[F.attr_ValueError.ga.bind (.ref x)];refine wpAny_bind (wpAny_pure (wpAny_call (codeAny_call_builtin F.attr_ValueError.ga.plain F.entry_bexc_ga (ck ?_))));refine wpAny_bind (wpAny_pure (wpAny_bind (wpAny_pure (wpAny_bind (L0.at (wpAny_bind (L3.at (wpAny_pure ?_))))))))
 show Ç _ _ (handedOut u) _ _ _
 rw[handedOut_of hh];exact U3 h
end
section
variable {g:Array GenState}{d:Drawn}{t:à}{os:OsState}{a0:Z}{dct:Ü Z}
variable {nm q:Ã}{N:Z}{bs bm bmB:G O}{hdct:Ý}{sn:G Ã}{sub:G O}{ab:Ý}{col:Ü Ý}{dd:Ü Z}{k0 k1 k2 k3 k5:Ü O}{wv newId nid initId:String}
theorem DZ(F:ExcBaseFacts wv nid initId bmB)(T:OwnTail h bmB bm){bW:G O}(hC:h.get? C=U (excClassObj nm q C N bs bm hdct sn sub ab col dd k0 k1 k2 k3 k5 newId))
  (he:h.get? e=U {.ref C,dct,.fields #[.ref a0,.none,.none,.none,.bool Â,.none],#[]}) (hrest:bW.length<=Æ)
  (hq:∀ h' a1,h'.get? e=U {.ref C,dct,.fields #[.ref a1,.none,.none,.none,.bool Â,.none],#[]}->(∀ b o,b≠e->h.get? b=U o->h'.get? b=U o)->Q .none {(h'),g,d,t,os}) :
  Ç (Ê prog w) A (call (.builtin initId) (.ref e::bW)) Q E {(h),g,d,t,os}:=by
 refine WX (Xi F.init.plain F.initEntry (wpAny_check_init_subU F T hC he J ?_))
 wp_walk
 refine hq _ h.objs.size ?_ λ b o hb z=>?_
 ·rw[Vk _ (U0 _ he) J];rfl
 ·rw[VP _ _ (Vz hb)];exact U0 _ z
end
theorem R9{K:Frag}{N:Z}{n:Ã}{v:O}(X:K.In h)(zo:h.Ns N mg)(e:nsIn K N n=U (U v)):mg n=U v:=by
 let(ob,ents,prev,a6,a4,_,a3):=zo;unfold nsIn at e;split at e
 ·rename_i c0 d0 a7 n0 a8 look;let z:=X _ _ look;rw[a6] at z;cases z;cases a4;split at e
  ·rename_i ent a5;cases e;rw[←a3];unfold nsFind findBy;rw[←Array.find?_toList,a5];rfl
  ·split at e<;>cases e
 ·cases e
structure Jw(K:Å)(C fI:Z):Prop where
 ex:wM K C fI [.type "ValueError",.type "Exception",.type "BaseException",.type "object"] "ValueError.__new__"=L
 fn:typeIn K (.ref fI)=U (.type "function")
 st:Be K C
theorem Jw.op{fI:Z}(xz:Jw K C fI)(X:K.In h):∃ c:Nf,h.get? C=U (excClassObj c.nm c.q C c.N c.bs c.bm c.hdct c.sn c.sub c.ab c.col c.dd c.k0 c.k1 c.k2 c.k3 c.k5 "ValueError.__new__") /\
  OwnTail h [.type "ValueError",.type "Exception",.type "BaseException",.type "object"] c.bm/\h.Ns c.N (h.nsMap c.N)/\h.nsMap c.N "__init__"=U (.ref fI):=by
 let(c,a3,tok,a5,a6):=Bb xz.ex;let a4:h.Ns c.N (h.nsMap c.N):=.of_isNs (W.isNs_of_in X a5);exact{c,X _ _ a3,Ya X tok,a4,R9 X a4 a6}
variable {op:CmpOp}
def exO(e C:Z)(d:Ü Z):Ð->Prop:=λ h=>∃ t,h.get? e=U {.ref C,d,.fields #[.ref t,.none,.none,.none,.bool Â,.none],#[]}
def exH(e C:Z)(d:Ü Z):HO:=.ext (exO e C d)
theorem Ba(q:exO e C d h):bL P w H h e (exH e C d):=by
 let(t,he):=id q;exact{q,{_,he},λ h1 h2 ⟨t,a⟩ b=>{t,b _ a}}
def pB(q:bL P w H h e (exH e C d)):exO e C d h:=q.1
section
variable {X:Cx}{pins:G (Z × Obj)}{σ:St}{H:Hp}{s:À}
theorem Inv.adopt{a:Z}(I:Inv X pins σ H s)(N:ix X pins a)(hn:H a=Y)(new:bL X.prog X.w (upd H a o) s.heap a o):Inv X pins σ (upd H a o) s:=by
 let ne:∀ {b:Z} {u:HO},H b=U u->b≠a:=λ q z=>by rw[z,hn] at q;cases q
 refine{I.ok,I.os,I.bare,{I.base.keep,I.base.slot,λ b u q n hx=>?_,I.base.there,λ b xs q=>?_,λ b u v q=>?_,λ b ps q=>?_},I.loc,I.cell,?_,λ x c q=>?_,λ p hp=>?_,λ b u q=>?_,I.len}
 ·rw[ah (λ z=>by rw[z,N.s0] at q;cases q)];exact I.base.free b u q n hx
 ·let z:=I.base.tups b xs q;rw[ah (ne z)];exact z
 ·let z:=I.base.frzs b u v q;rw[ah (ne z)];exact z
 ·let(m,z):=I.base.tbls b ps q;exact{m,by rw[ah (ne z)];exact z}
 ·rw[ah (Vz N.loc)];exact I.free
 ·rw[ah (N.cel x c q)];exact I.freeC x c q
 ·let(a1,b1,c1,d1,f1):=I.pin p hp;exact{a1,by rw[ah (N.pin p hp)];exact b1,c1,d1,f1}
 ·by_cases hb:b=a
  ·subst hb;rw[ag] at q;cases q;exact new
  ·rw[ah hb] at q;exact(I.hok b u q).stay (λ _ _ _ r=>r) (λ c r=>by rw[ah (ne r)];exact r) (λ c y r=>by rw[ah (ne r)];exact r) λ c xs r=>by rw[ah (ne r)];exact r
theorem Inv.newAt{a:Z}(I:Inv X pins σ H s)(ha:%[s|99]<=a):ix X pins a where
 s0:=V0 (Vv I.sz ha)
 loc:=WR (Vg I.lt ha)
 cel:=λ x c e z=>by
  let(v,o,q,_):=I.cell x c e;exact Þ (Vg (U5 q) (by rw[z];exact ha)) (V5 _)
 fs:=I.nofs ha
 pin:=λ p hp z=>Þ (Vg (U5 (I.pin p hp).1) (by rw[z];exact ha)) (V5 _)
structure Ob(K:Å)(wv:Z):Prop where
 sp:specialIn K (.ref wv) "__getattribute__"=U (U (.builtin "type.__getattribute__"))
 rd:readsIn K wv (.type "type")=L
 fc:findCls K (.ref wv) (.type "type") "__init__"=U (.val (.builtin "ValueError.__init__"))
def kXI(K:Å)(Q:VK):G V->Hp->Prop:=λ vs H=>∃ e C d fI bW,vs=.ref e::bW/\H e=U (exH e C d)/\Jw K C fI/\bW.length<=Æ/\Q .non H
def tXI(K:Å)(t:TA):TE:=λ σ H Q=>t σ H (kXI K Q)
theorem p5{x:Ã}{wv:Z}{p apos pos:Pos}{e:Ñ}{es:G Ñ}{t:TA}{pl:Sem Ý}(hg:Gl X x)(hm:X.mg x=U (.ref wv))(b:Ob X.K wv)(ha:PA X (e::es) t)(a3:(x == ("__debug__":Ã))=Â:=by decide)
  (a4:starEach (e::es) X.env=(Â,eval e X.env)::starEach es X.env:=by rfl) (a5:(backTo pos (starEach es X.env)).any (·.1)=Â:=by rfl)
  (ht:eval (.Call (.Attribute (.Name x p) "__init__" apos) (e::es) [] pos) X.env=(do
   let ov ←eval (.Name x p) X.env
   standAt apos.atName
   let (f,first) ←holding [ov] (getMethod ov "__init__" pl)
   callWith pos f first (backTo pos (starEach (e::es) X.env)) (backToKw pos (keywordEach [] X.env))):=by rfl) :
  PE X (.Call (.Attribute (.Name x p) "__init__" apos) (e::es) [] pos) (tXI X.K t):=by
 intro pins s σ H Q I h;refine Xu (pl:=pl) (dM I hg hm ?_ a3) ht;refine method_cls I.kIn b.sp (cls_value I.kIn b.rd b.fc (by decide +kernel) ?_);let I1:=I.tok (s.toks+1);refine Yr (thn (ha pos pins _ σ H _ I1 h) λ us s1 ⟨vs,H1,wn,r1,q1⟩=>?_) a4 a5;let(ex,C,d,fI,bW,rfl,he,xz,hl,q):=q1
 cases r1 with
 | cons r rr=>
  cases r;let(t0,h0):=pB (wn.hok ex _ he);let(c,hC,T,_,_):=xz.op wn.kIn;refine DZ (h:=s1.heap) (g:=s1.gens) (d:=s1.drawn) (t:=s1.toks) (os:=s1.os) VW T hC h0 (by rw[←rr.length];exact hl) λ h' a1 q1 q2=>?_
  let same:upd H1 ex (exH ex C d)=H1:=funext λ b=>by
   by_cases hb:b=ex
   ·rw[hb,ag,he]
   ·rw[ah hb]
  let J2:=wn.write (t':=s1.toks) (x:=ex) (e:=ex) (o:=exH ex C d) (by rw[he];trivial) (.inl J) (λ b u hb z=>q2 b u hb z) {_,q1} (Ba {(a1),q1});rw[same] at J2;exact{.non,H1,J2,J,q}
end
def Tv(K:Å)(f:Ã)(y:V)(σ:St)(nx:St->Hp->Prop):VK:=λ x H=>∃ e C,x=.ref e/\H e=U (exH e C Y)/\Be K C/\takerIn K C f=U Y /\
 ∀ dx H',H dx=Y->dx≠e->(∀ b o,b≠e->H b=U o->H' b=U o)->H' e=U (exH e C (U dx))->H' dx=U (.xd [(f,y)])->nx σ H'
def Rw(K:Å)(f:Ã)(ta:TE)(σ:St)(nx:St->Hp->Prop):VK:=λ y H=>ta σ H (Tv K f y σ nx)
def Nh(K:Å)(ta tv:TE)(f:Ã):TS:=λ D σ H=>tv σ H (Rw K f ta σ D.nx)
section
variable {X:Cx}{e o value:Ñ}{ta tv:TE}{f:Ã}{pos pos':Pos}
theorem u4(ha:PE X o ta)(hv:PE X value tv)(hs:swapsWith value (U (.Attribute o f pos')) pos.line X.env=pure Â):PS X (.Assign [.Attribute o f pos'] value pos) (Nh X.K ta tv f):=by
 intro pins s σ H D I h;refine plainObj_wpAny_Assign_Attribute (thn (hv pins s σ H _ I h) λ u s1 ⟨y,H1,I1,ry,q⟩=>thn (ha pins s1 σ H1 _ I1 q) λ ov s2 ⟨x,H2,I2,rx,q1⟩=>?_) hs;let(ex,C,rfl,he,st,ht,k):=q1;obtain rfl:ov=Ë ex:=rx;let(t0,h0):=pB (I2.hok ex _ he);refine Kr st I2.kIn h0 ht λ h' tk q1 q2 q3=>?_;let fr:H2 %[s2|99]=Y:=I2.hok.fresh (U6 _);let ne:%[s2|99]≠ex:=WR (U5 h0);let wn:=I2.write (t':=tk) (x:=ex) (e:=ex) (o:=exH ex C (U %[s2|99])) (by rw[he];trivial) (.inl J) (λ b u hb z=>q3 b u hb z) {_,q1} (Ba {(t0),q1});let J2:=wn.adopt (a:=%[s2|99]) (o:=.xd [(f,y)]) (I2.newAt (U6 _)) (by rw[ah ne];exact fr) {_,q2,λ g=>?_}
 ·refine{σ,_,J2,k %[s2|99] _ fr ne (λ b u hb z=>?_) ?_ ag}
  ·rw[ah (bz z fr),ah hb];exact z
  ·rw[ah (Vz ne),ag]
 ·show oZ (List.lookup g [(f,y)]) (if g=f then U u else Y)
  by_cases hg:g=f
  ·subst hg;rw[Ve J,List.lookup_cons_self];exact ry
  ·let hb:(g == f)=Â:=Wr.mpr hg;rw[U7 hg,Wz,hb];exact True.intro
end
def del(H:Hp)(e:Z):Hp:=λ b=>if b=e then Y else H b
def qj:del H e e=Y:=Ve J
def gq(h:b≠e):del H e b=H b:=U7 h
theorem Inv.untrack(I:Inv X pins σ H s)(he:H e=U (exH e C d)):Inv X pins σ (del H e) s:=by
 let ne:∀ {b:Z} {u:HO},H b=U u->u≠exH e C d->b≠e:=λ q z k=>by rw[k,he] at q;exact z (VL q).symm
 let no:∀ {b:Z},H b=Y->del H e b=Y:=λ {b} q=>by
  by_cases hb:b=e
  ·rw[hb];exact qj
  ·rw[gq hb];exact q
 refine{I.ok,I.os,I.bare,{I.base.keep,I.base.slot,λ b u q n hx=>no (I.base.free b u q n hx),I.base.there,λ b xs q=>?_,λ b u v q=>?_,λ b ps q=>?_},I.loc,I.cell,no I.free,λ x c q=>no (I.freeC x c q),λ p hp=>?_,λ b u q=>?_,I.len}
 ·let z:=I.base.tups b xs q;rw[gq (ne z (by intro k;cases k))];exact z
 ·let z:=I.base.frzs b u v q;rw[gq (ne z (by intro k;cases k))];exact z
 ·let(m,z):=I.base.tbls b ps q;exact{m,by rw[gq (ne z (by intro k;cases k))];exact z}
 ·let(a1,b1,c1,d1,f1):=I.pin p hp;exact{a1,no b1,c1,d1,f1}
 ·let hb:b≠e:=λ z=>by rw[z,qj] at q;cases q
  rw[gq hb] at q;exact(I.hok b u q).stay (λ _ _ _ r=>r) (λ c r=>by rw[gq (ne r (by intro k;cases k))];exact r) (λ c y r=>by rw[gq (ne r (by intro k;cases k))];exact r) λ c xs r=>by rw[gq (ne r (by intro k;cases k))];exact r
def BY(X:Cx)(E:XK)(σ:St):Prop:=∀ (pins:G (Z × Obj)) (H:Hp) (s:À) (e C:Z) (d:Ü Z),Inv X pins σ H s->H e=Y->X.s₀.heap.get? e=Y->exO e C d s.heap->(∀ dx,d=U dx->∃ fs,H dx=U (.xd fs))->E (.ref C) d H->X.xe (.ref e) s
theorem cL{N:G Ã}{cd:O}{E:XK} :
  BY (Ae cb (CX1 P w) P w K mg base N qual scope f cd A outer s₀ H₀ E) E σ:=by
 intro pins H s e C d I hn a3 hx hd hE;let(t,he):=hx
 show Ç (Ê P w) (A.deeper (envOfC qual scope %[s₀|99] f cd)) (leaving (envOfC qual scope %[s₀|99] f cd) (.ref e)) _ _ _
 unfold leaving;let un:Un (frs outer) [] H₀ H s₀.heap s.heap:=I.base;refine wpAny_bind (xf (CC:=Aj (.ref C) s₀.heap [] H) (s:=s) (base:=base) (outer:=outer) I.ok.frames I.stack J he J J ⟨_,J,.inl rfl⟩ λ g T ng nT ex=>?_);refine{e,T,.ref C,d,H,J,I.os,I.bare,un.noted ng a3 (λ _ z=>z.elim) (λ b hb=>?_),I.hok.noted ng hn (λ _ z=>z.elim) I.stkFree,a3,un.gone nT,hn,I.hok.gone nT,ex,hd,hE}
 rcases Vp.mp (I.stkSub b hb) with z|z
 ·exact .inr (by rw[z];exact V0 (U6 _))
 ·exact .inl z
theorem yt{x:Sem O}{Q:Flow->À->Prop}(hh:A.handled=Y)
  (h:Ç M A x (λ v s1=>∃ (e:Z) (d:Ü Z) (c:Nf) (newId:String),v=.ref e/\s1.heap.get? C=U (excClassObj c.nm c.q C c.N c.bs c.bm c.hdct c.sn c.sub c.ab c.col c.dd c.k0 c.k1 c.k2 c.k3 c.k5 newId)/\c.bm.contains (.type "BaseException")=L/\exO e C d s1.heap/\E (.ref e) s1) E s) :
  Ç M A (raiseStmt env (U x) Y) Q E s:=by
 unfold raiseStmt;refine wpAny_bind (wpAny_mono h (λ v s1 h1=>?_) λ _ _ z=>z);let(e,d,c,newId,rfl,hC,hb,(t,he),hE):=h1;let a3:(Ë C::c.bm).contains (.type "BaseException")=L:=by rw[List.contains_cons,hb,Bool.or_true]
 let(hp,g,dr,tk,os):=s1
 repeat (first|with_reducible refine VY he ?_|with_reducible refine VY hC ?_|(with_reducible refine Xs hC ?_;rw[a3])|wp_step)
 exact wpAny_raiseNew_none hh hE
section
variable {X:Cx}
def kRz(e C:Z)(E:XK):VK:=λ v H=>v=.non/\∃ d,H e=U (exH e C d)/\(∀ dx,d=U dx->∃ fs,del H e dx=U (.xd fs))/\E (.ref C) d (del H e)
def kRI(C:Z)(sp:Sp)(E:XK):G V->Hp->Prop:=λ vs H=>vs.length<=Æ/\∀ e,H e=Y->sp (.ref e::vs) (upd H e (exH e C Y)) (kRz e C E) E0
def Bg(C:Z)(sp:Sp)(E:St->XK)(t:TA):TS:=λ _ σ H=>t σ H (kRI C sp (E σ))
theorem Cd{fI:Z}{sp:Sp}{e₀:Ñ}{bW:G Ñ}{np cpos:Pos}{t:TA}{E:St->XK}(hc:X.calm=L)(hg:Gl X x)(a8:X.mg x=U (.ref C))(xz:Jw X.K C fI)
  (F:au X.prog X.w X.K X.mg X.base CX0 k fI fd ps sp) (hr:iw (k+1) X.A) (hb:ao X.K fd ps []) (hx:∀ σ,BY X (E σ) σ) (ha:PA X (e₀::bW) t)
  (he:starEach (e₀::bW) X.env=(Â,eval e₀ X.env)::starEach bW X.env:=by rfl) (a5:(backTo cpos (starEach bW X.env)).any (·.1)=Â:=by rfl) (a9:(x == ("__debug__":Ã))=Â:=by decide) :
  PS X (.Raise (U (.Call (.Name x np) (e₀::bW) [] cpos)) Y pos) (Bg C sp E t):=by
 intro pins s σ H D I h;rw[arm_exec_Raise];refine wpAny_bind (wpAny_standAt (yt (C:=C) (I.ok.hd hc) (wpAny_bind (wpAny_mono (wpAny_Call_ofName (dM I hg a8 ?_ a9)) (λ v s3 h3=>wpAny_bind (wpAny_standAt (wpAny_pure h3))) λ _ _ z=>z))));unfold callWith;let hh:=ha cpos pins s σ H _ I h;rw[he] at hh ⊢;refine wpAny_bind (wpAny_holding (Calls.evalArgs_plain (thn hh λ us s2 ⟨vs,H2,I2,r,hl,b1⟩=>wpAny_bind (wpAny_standAt ?_))));let(c,hC,T,hN,hi):=xz.op I2.kIn;let a7:(backTo cpos ((Â,eval e₀ X.env)::starEach bW X.env)).any (·.1)=Â:=(Bool.false_or _).trans a5
 let I3:Inv X pins σ (upd H2 (%[s2|99]+1) (exH (%[s2|99]+1) C Y)) { s2 with heap:=nV C us s2.heap }:=by
  let wn:=I2.kept (t':=s2.toks) (h':=s2.heap.push { cls:=.type "tuple",data:=.seq us.toArray }) λ b u q=>U0 _ q;refine wn.laid (t':=s2.toks) (a:=%[s2|99]+1) (o:=exH (%[s2|99]+1) C Y) (λ b u q=>U0 _ q) (Wq (VX _ _)) (Ba {%[s2|99],?_});have:=Vc (s2.heap.push { cls:=.type "tuple",data:=.seq us.toArray }) (o:={.ref C,Y,.fields #[.ref %[s2|99],.none,.none,.none,.bool Â,.none],#[]}) J
  rwa [VX] at this
 let hq:=b1 (%[s2|99]+1) (I2.hok.fresh (Xe _));let r2:aX (V.ref (%[s2|99]+1)::vs) (Ë (%[s2|99]+1)::us):=.cons J r
 let b2:(Ë (%[s2|99]+1)::us++[]).length=ps.length:=by
  rw[W9,←r2.length];exact F.len _ _ _ _ hq
 simp only[a7];refine My (wpAny_keeperOf_exc (h:=s2.heap) (g:=s2.gens) (d:=s2.drawn) (t:=s2.toks) (os:=s2.os) hC ?_);refine My (WX (MA (h:=s2.heap) (g:=s2.gens) (d:=s2.drawn) (t:=s2.toks) (os:=s2.os) VW (by decide +kernel) VW T hC hN hi I2.kIn xz.fn (by show us.length<=Æ;rw[←r.length];exact hl) ?_));let a3:=hb { s2 with heap:=nV C us s2.heap } (Ë (%[s2|99]+1)::us) I3.kIn b2;rw[W9] at a3;refine We (F.run _ X.stack _ _ ⟨Ë (%[s2|99]+1)::us,[]⟩ (Ë (%[s2|99]+1)::us) _ _ E0 (hr.make C us []) (λ _=>I3.ok.hd hc) (I3.env0.make C us []) a3 r2 hq) λ rr s' a4=>?_
 cases rr with
 | error e=>exact a4.elim
 | ok fl=>
  cases fl with
  | ret u=>
   let(v,H',I4,rv,rfl,d,a6,hd2,hE):=I3.after a4;cases rv;refine{J,My (Vy (wpAny_point (U3 ?_)))};let(c',b3,T',_,_):=xz.op I4.kIn
   exact{%[s2|99]+1,d,c',_,J,b3,T'.hasType (by decide +kernel),pB (I4.hok _ _ a6),
    hx σ pins (del H' (%[s2|99]+1)) s' _ C d (I4.untrack a6) qj (V0 (Vv I2.sz (Xe _))) (pB (I4.hok _ _ a6)) hd2 hE}
  | next=>exact False.elim a4
  | brk=>exact False.elim a4
  | cont=>exact False.elim a4
def kXF(K:Å)(f:Ã)(Q:VK):VK:=λ x H=>∃ e oe C dx fs v,x=.ref e/\H e=U (rA oe)/\oe.cls=.ref C/\oe.dict=U dx/\(∃ vs,oe.data=.fields vs)/\H dx=U (.xd fs)/\Af K C/\ba K C f/\fs.lookup f=U v/\Q v H
def tXF(K:Å)(ta:TE)(f:Ã):TE:=λ σ H Q=>ta σ H (kXF K f Q)
theorem KI{e:Ñ}{f:Ã}{ta:TE}(he:PE X e ta)(hb:attributeBase e f X.env (eval e X.env)=eval e X.env):PE X (.Attribute e f pos) (tXF X.K ta f):=by
 intro pins s σ H Q I h;refine BX hb (thn (he pins s σ H _ I h) λ u s1 ⟨x,H1,I1,rx,q1⟩=>?_);let(ex,oe,C,dx,fs,v,rfl,hx,a4,hd,(vs,a3),a5,c,n,l,q):=q1;obtain rfl:u=Ë ex:=rx;let h1:s1.heap.get? ex=U oe:=(I1.hok ex _ hx).1;let(mA,hn,hr):=I1.hok dx _ a5;let(u,hu,ru):=oZ.some_of (v:=v) (o:=mA f) (by rw[←l];exact hr f);exact MB c I1.kIn h1 a4 (by unfold notCls;rw[a3]) hd hn n hu (r8 ru) {v,H1,I1.tok _,ru,q}
def w6{K:Å}(hK:X.K=K){e:Ñ}{f:Ã}{pos:Pos}{ta:TE}(he:PE X e ta)(hb:attributeBase e f X.env (eval e X.env)=eval e X.env):PE X (.Attribute e f pos) (tXF K ta f):=hK ▸ KI he hb
end
def Mx{Q:St->Hp->Prop}:gh 0 v (a::σ) H Q=Q (U v::σ) H:=rfl
def Mw{Q:St->Hp->Prop}:gh 1 v (a0::a::σ) H Q=Q (a0::U v::σ) H:=rfl
def Mu{Q:St->Hp->Prop}:gh 2 v (a0::a1::a::σ) H Q=Q (a0::a1::U v::σ) H:=rfl
def Mt{Q:St->Hp->Prop}:gh 3 v (a0::a1::a2::a::σ) H Q=Q (a0::a1::a2::U v::σ) H:=rfl
def Ms{Q:St->Hp->Prop}:gh 4 v (a0::a1::a2::a3::a::σ) H Q=Q (a0::a1::a2::a3::U v::σ) H:=rfl
def Mr{Q:St->Hp->Prop}:gh 5 v (a0::a1::a2::a3::a4::a::σ) H Q=Q (a0::a1::a2::a3::a4::U v::σ) H:=rfl
def Mq{Q:St->Hp->Prop}:gh 6 v (a0::a1::a2::a3::a4::a5::a::σ) H Q=Q (a0::a1::a2::a3::a4::a5::U v::σ) H:=rfl
def Mp{Q:St->Hp->Prop}:gh 7 v (a0::a1::a2::a3::a4::a5::a6::a::σ) H Q=Q (a0::a1::a2::a3::a4::a5::a6::U v::σ) H:=rfl
def Mo{Q:St->Hp->Prop}:gh 8 v (a0::a1::a2::a3::a4::a5::a6::a7::a::σ) H Q=Q (a0::a1::a2::a3::a4::a5::a6::a7::U v::σ) H:=rfl
def Mn{Q:St->Hp->Prop}:gh 9 v (a0::a1::a2::a3::a4::a5::a6::a7::a8::a::σ) H Q=Q (a0::a1::a2::a3::a4::a5::a6::a7::a8::U v::σ) H:=rfl
def Hu{a9:Ü V}{Q:St->Hp->Prop}:gh 10 v (a0::a1::a2::a3::a4::a5::a6::a7::a8::a9::a::σ) H Q=Q (a0::a1::a2::a3::a4::a5::a6::a7::a8::a9::U v::σ) H:=rfl
def aM:Ü α->(α->Prop)->Prop
 | some x,k=>k x
 | none,_=>False
def mH(x:α)(k:α->Prop):aM (U x) k=k x:=rfl
theorem aq{o:Ü α}{k:α->Prop}(h:aM o k):∃ x,o=U x/\k x:=by
 cases o with
 | none=>exact h.elim
 | some x=>exact{(x),J,h}
def QK:HO->Ü (G V)
 | .lst xs=>U xs
 | .tup xs=>U xs
 | .frz _ (.lst xs)=>U xs
 | _=>Y
def Rt:HO->Ü (G V)
 | .lst xs=>U xs
 | _=>Y
def Ra:HO->Ü (G V)
 | .tup xs=>U xs
 | _=>Y
def dq(H:Hp)(p:Z):Ü (G V):=(H p).bind QK
def aQ(H:Hp)(p:Z):Ü (G V):=(H p).bind Rt
def jg(H:Hp)(p:Z):Ü (G V):=(H p).bind Ra
def Ft(xs:G V):QK (.lst xs)=U xs:=rfl
def Fs(xs:G V):QK (.tup xs)=U xs:=rfl
def GG(xs:G V):Rt (.lst xs)=U xs:=rfl
def Fm(xs:G V):Ra (.tup xs)=U xs:=rfl
def zK{β:Type}(x:α)(f:α->Ü β):(U x).bind f=f x:=rfl
abbrev Ext(H H':Hp):Prop:=(∀ a,(H a).isSome=L->H' a=H a)/\∀ (K:PySem.W.Frag) a xs,SqL K H a xs->SqL K H' a xs
def RB(r:R2)(x:V)(Q:VK):VK:=λ y H=>r x y H Q
def Ja(r:R2)(x y:V)(H:Hp)(Q:VK):(RB r x Q y H)=(r x y H Q):=rfl
def kOp(r:R2)(tb:TE)(σ:St)(Q:VK):VK:=λ x H=>tb σ H (RB r x Q)
def NM(r:R2)(tb:TE)(σ:St)(Q:VK)(x:V)(H:Hp):(kOp r tb σ Q x H)=(tb σ H (RB r x Q)):=rfl
def NK(r:R2)(ta tb:TE)(σ:St)(H:Hp)(Q:VK):(tOp r ta tb σ H Q)=(ta σ H (kOp r tb σ Q)):=rfl
def Tu(v:V)(σ:St)(H:Hp)(Q:VK):(tC v σ H Q)=(Q v H):=rfl
def kUn(r:V->Hp->VK->Prop)(Q:VK):VK:=λ x H=>r x H Q
def Sw(r:V->Hp->VK->Prop)(Q:VK)(x:V)(H:Hp):(kUn r Q x H)=(r x H Q):=rfl
def Si(r:V->Hp->VK->Prop)(ta:TE)(σ:St)(H:Hp)(Q:VK):(tUn r ta σ H Q)=(ta σ H (kUn r Q)):=rfl
def QL:R2:=λ x y H Q=>y=.non/\Q (.bl (decide (x=.non))) H
def JI:R2:=λ x y H Q=>y=.non/\Q (.bl (!decide (x=.non))) H
theorem yD(H:Hp)(Q:VK):QL (.non) .non H Q=Q (.bl L) H:=propext {λ h=>h.2,λ h=>{(J),h}}
theorem vD(H:Hp)(Q:VK):JI (.non) .non H Q=Q (.bl Â) H:=propext {λ h=>h.2,λ h=>{(J),h}}
theorem yE(i:B)(H:Hp)(Q:VK):QL (.int i) .non H Q=Q (.bl Â) H:=propext {λ h=>h.2,λ h=>{(J),h}}
theorem vE(i:B)(H:Hp)(Q:VK):JI (.int i) .non H Q=Q (.bl L) H:=propext {λ h=>h.2,λ h=>{(J),h}}
theorem yC(i:Z)(H:Hp)(Q:VK):QL (.ref i) .non H Q=Q (.bl Â) H:=propext {λ h=>h.2,λ h=>{(J),h}}
def NP(Q:Ý->Hp->Prop):VK:=λ x H=>∃ k,x=.bl k/\Q k H
def TC(Q:Ý->Hp->Prop):Ý->Hp->Prop:=λ c H=>Q (!c) H
def PM(Q:Ý->Hp->Prop)(c:Ý)(H:Hp):(TC Q c H)=(Q (!c) H):=rfl
def Pa(t:TT)(σ:St)(H:Hp)(Q:Ý->Hp->Prop):(Te t σ H Q)=(t σ H (TC Q)):=rfl
def TR(u:TT)(σ:St)(Q:Ý->Hp->Prop):Ý->Hp->Prop:=λ c H=>if c=L then u σ H Q else Q Â H
def Qg(u:TT)(σ:St)(Q:Ý->Hp->Prop)(c:Ý)(H:Hp):(TR u σ Q c H)=(if c=L then u σ H Q else Q Â H):=rfl
def Pg(t u:TT)(σ:St)(H:Hp)(Q:Ý->Hp->Prop):(Th t u σ H Q)=(t σ H (TR u σ Q)):=rfl
def kOr(u:TT)(σ:St)(Q:Ý->Hp->Prop):Ý->Hp->Prop:=λ c H=>if c=L then Q L H else u σ H Q
def SA(u:TT)(σ:St)(Q:Ý->Hp->Prop)(c:Ý)(H:Hp):(kOr u σ Q c H)=(if c=L then Q L H else u σ H Q):=rfl
def Sk(t u:TT)(σ:St)(H:Hp)(Q:Ý->Hp->Prop):(tOr t u σ H Q)=(t σ H (kOr u σ Q)):=rfl
def SU(tb:TE)(σ:St)(Q:VK):VK:=λ x H=>∃ c,x=.bl c/\if c=L then tb σ H Q else Q (.bl Â) H
def SO(Q:VK):VK:=λ x H=>∃ c,x=.bl c/\Q (.bl (!c)) H
def TF(ta tb:TE)(σ:St)(Q:VK):Ý->Hp->Prop:=λ c H=>if c=L then ta σ H Q else tb σ H Q
def PX(ta tb:TE)(σ:St)(Q:VK)(c:Ý)(H:Hp):(TF ta tb σ Q c H)=(if c=L then ta σ H Q else tb σ H Q):=rfl
def nS(t:TT)(ta tb:TE)(σ:St)(H:Hp)(Q:VK):(tIf t ta tb σ H Q)=(t σ H (TF ta tb σ Q)):=rfl
def QV(r':R2)(y:V)(Q:VK):VK:=λ w H=>r' y w H Q
def P8(r':R2)(y w:V)(Q:VK)(H:Hp):(QV r' y Q w H)=(r' y w H Q):=rfl
def RN(r':R2)(tc:TE)(σ:St)(y:V)(Q:VK):VK:=λ z H=>∃ k,z=.bl k/\(if k=L then tc σ H (QV r' y Q) else Q (.bl Â) H)
def TL(r r':R2)(tc:TE)(σ:St)(x:V)(Q:VK):VK:=λ y H=>r x y H (RN r' tc σ y Q)
def UH(r r':R2)(tb tc:TE)(σ:St)(Q:VK):VK:=λ x H=>tb σ H (TL r r' tc σ x Q)
def Pc(σ:St)(H:Hp)(Q:G V->Hp->Prop):(Rc σ H Q)=(Q [] H):=rfl
def A8(x:V)(Q:G V->Hp->Prop):G V->Hp->Prop:=λ xs H=>Q (x::xs) H
def GD(x:V)(Q:G V->Hp->Prop)(xs:G V)(H:Hp):(A8 x Q xs H)=(Q (x::xs) H):=rfl
def NX(tr:TA)(σ:St)(Q:G V->Hp->Prop):VK:=λ x H=>tr σ H (A8 x Q)
def LS(tr:TA)(σ:St)(Q:G V->Hp->Prop)(x:V)(H:Hp):(NX tr σ Q x H)=(tr σ H (A8 x Q)):=rfl
def La(ta:TE)(tr:TA)(σ:St)(H:Hp)(Q:G V->Hp->Prop):(JC ta tr σ H Q)=(ta σ H (NX tr σ Q)):=rfl
def uv(sp:Sp)(dvs:G V)(E:XK)(Q:VK):G V->Hp->Prop:=λ vs H=>sp (vs++dvs) H Q E
def Dn(v0:V)(sp:Sp)(dvs:G V)(E:XK)(Q:VK)(H:Hp):uv sp dvs E Q [v0] H=sp (v0::dvs) H Q E:=rfl
def Dm(v0 v1:V)(sp:Sp)(dvs:G V)(E:XK)(Q:VK)(H:Hp):uv sp dvs E Q [v0,v1] H=sp (v0::v1::dvs) H Q E:=rfl
def Dl(v0 v1 v2:V)(sp:Sp)(dvs:G V)(E:XK)(Q:VK)(H:Hp):uv sp dvs E Q [v0,v1,v2] H=sp (v0::v1::v2::dvs) H Q E:=rfl
def Dk(v0 v1 v2 v3:V)(sp:Sp)(dvs:G V)(E:XK)(Q:VK)(H:Hp):uv sp dvs E Q [v0,v1,v2,v3] H=sp (v0::v1::v2::v3::dvs) H Q E:=rfl
def Dj(v0 v1 v2 v3 v4:V)(sp:Sp)(dvs:G V)(E:XK)(Q:VK)(H:Hp):uv sp dvs E Q [v0,v1,v2,v3,v4] H=sp (v0::v1::v2::v3::v4::dvs) H Q E:=rfl
def Lc(sp:Sp)(dvs:G V)(E:XK)(t:TA)(σ:St)(H:Hp)(Q:VK):(Nq sp dvs E t σ H Q)=(t σ H (uv sp dvs E Q)):=rfl
def kCB(r:G V->Hp->VK->Prop)(Q:VK):G V->Hp->Prop:=λ vs H=>r vs H Q
def SK(r:G V->Hp->VK->Prop)(Q:VK)(vs:G V)(H:Hp):(kCB r Q vs H)=(r vs H Q):=rfl
def Sm(r:G V->Hp->VK->Prop)(t:TA)(σ:St)(H:Hp)(Q:VK):(tCB r t σ H Q)=(t σ H (kCB r Q)):=rfl
def K7(nx:St->Hp->Prop)(rt:VK)(bk ct:St->Hp->Prop)(σ:St)(H:Hp):(Nl {(nx),rt,bk,ct} σ H)=(nx σ H):=rfl
def O7(t u:TS)(nx:St->Hp->Prop)(rt:VK)(bk ct:St->Hp->Prop)(σ:St)(H:Hp):(Tb t u {(nx),rt,bk,ct} σ H)=(t {u {(nx),rt,bk,ct},rt,bk,ct} σ H):=rfl
def O9(te:TE)(nx:St->Hp->Prop)(rt:VK)(bk ct:St->Hp->Prop)(σ:St)(H:Hp):(Td te {(nx),rt,bk,ct} σ H)=(te σ H rt):=rfl
def NW(nx:St->Hp->Prop)(σ:St):VK:=λ x H=>nx σ H
def LR(nx:St->Hp->Prop)(σ:St)(x:V)(H:Hp):(NW nx σ x H)=(nx σ H):=rfl
def K8(te:TE)(nx:St->Hp->Prop)(rt:VK)(bk ct:St->Hp->Prop)(σ:St)(H:Hp):(Nn te {(nx),rt,bk,ct} σ H)=(te σ H (NW nx σ)):=rfl
def RH(t u:TS)(D:gX)(σ:St):Ý->Hp->Prop:=λ b H=>if b=L then t D σ H else u D σ H
def Jb(t u:TS)(D:gX)(σ:St)(b:Ý)(H:Hp):(RH t u D σ b H)=(if b=L then t D σ H else u D σ H):=rfl
def bw(c:TT)(t u:TS)(D:gX)(σ:St)(H:Hp):(MW c t u D σ H)=(c σ H (RH t u D σ)):=rfl
def TN(g:TG)(σ:St)(nx:St->Hp->Prop):VK:=λ x H=>g x σ H nx
def Qe(g:TG)(σ:St)(nx:St->Hp->Prop)(x:V)(H:Hp):(TN g σ nx x H)=(g x σ H nx):=rfl
def Pf(te:TE)(g:TG)(nx:St->Hp->Prop)(rt:VK)(bk ct:St->Hp->Prop)(σ:St)(H:Hp):(Rf te g {(nx),rt,bk,ct} σ H)=(te σ H (TN g σ nx)):=rfl
def kGs(u:TGs)(r:G V)(Q:St->Hp->Prop):St->Hp->Prop:=λ σ' H'=>u r σ' H' Q
def SF(u:TGs)(r:G V)(Q:St->Hp->Prop)(σ:St)(H:Hp):(kGs u r Q σ H)=(u r σ H Q):=rfl
theorem OpR.mono{f:O->O->Sem O}{r r':R2}(h:OpR X f r)(m:∀ x y H Q,r' x y H Q->r x y H Q):OpR X f r':=λ pins s σ H x y v u Q I rx ry hq=>h pins s σ H x y v u Q I rx ry (m _ _ _ _ hq)
theorem bK.mono{f:O}{r r':G V->Hp->VK->Prop}(h:bK X f r)(m:∀ xs H Q,r' xs H Q->r xs H Q):bK X f r':=λ pins s σ H xs us Q I rx hq=>h pins s σ H xs us Q I rx (m _ _ _ hq)
theorem IxR.mono{r r':R2}(h:IxR X r)(m:∀ x y H Q,r' x y H Q->r x y H Q):IxR X r':=λ a b pins s σ H x y v u Q I rx ry hq=>h a b pins s σ H x y v u Q I rx ry (m _ _ _ _ hq)
theorem SlR.mono{r r':V->Ü B->Ü B->Hp->VK->Prop}(h:SlR X r)(m:∀ x lo hi H Q,r' x lo hi H Q->r x lo hi H Q):SlR X r':=λ pins s σ H x v vl vu lo hi sl Q I rx a b c hq=>h pins s σ H x v vl vu lo hi sl Q I rx a b c (m _ _ _ _ _ hq)
theorem PG.mono{tg:Ñ}{g':TG}(h:PG X tg g)(m:∀ v σ H Q,g' v σ H Q->g v σ H Q):PG X tg g':=λ pins s σ H v u Q I r hq=>h pins s σ H v u Q I r (m _ _ _ _ hq)
theorem jv(h:dq H p=U ys):SqL K H p ys\/SqT K H p ys:=by
 unfold dq at h
 cases e:H p with
 | none=>rw[e] at h;cases h
 | some o=>
  rw[e] at h;let h':QK o=U ys:=h
  cases o with
  | lst xs=>cases h';exact .inl (SqL.of e)
  | tup xs=>cases h';exact .inr (SqT.of e)
  | frz ob u=>
   cases u with
   | lst xs=>cases h';exact .inl (.inl (.inr {(ob),e}))
   | _=>cases h'
  | _=>cases h'
theorem cI(h:aQ H p=U ys):H p=U (.lst ys):=by
 unfold aQ at h
 cases e:H p with
 | none=>rw[e] at h;cases h
 | some o=>
  rw[e] at h;let h':Rt o=U ys:=h
  cases o with
  | lst xs=>cases h';rfl
  | _=>cases h'
theorem wz(h:jg H p=U ys):H p=U (.tup ys):=by
 unfold jg at h
 cases e:H p with
 | none=>rw[e] at h;cases h
 | some o=>
  rw[e] at h;let h':Ra o=U ys:=h
  cases o with
  | tup xs=>cases h';rfl
  | _=>cases h'
def RE(H:Hp)(Q:VK):G V->Prop:=λ ys=>Q (.int ys.length) H
def PR(H:Hp)(Q:VK)(ys:G V):RE H Q ys=Q (.int ys.length) H:=rfl
def QM(xs:G V)(H:Hp)(Q:VK):Prop:=match xs with
 | [.ref p]=>aM (dq H p) (RE H Q)
 | [.str z]=>z.length<=Æ/\Q (.int z.length) H
 | _=>False
def Po(p:Z)(H:Hp)(Q:VK):QM [.ref p] H Q=aM (dq H p) (RE H Q):=rfl
def Lh(z:Ã)(H:Hp)(Q:VK):QM [.str z] H Q=(z.length<=Æ/\Q (.int z.length) H):=rfl
theorem aA:bK X (.builtin "len") QM:=by
 refine(eL.or tY).mono λ xs H Q h=>?_;unfold QM at h;split at h
 ·rename_i p;let(ys,e,q):=aq h;exact .inl {p,ys,J,jv e,q}
 ·rename_i z;exact .inr {(z),J,h.1,h.2}
 ·exact h.elim
def RF(H:Hp)(Q:VK):V->Prop:=λ v=>Q v H
def PU(H:Hp)(Q:VK)(v:V):RF H Q v=Q v H:=rfl
def kIx(i:B)(H:Hp)(Q:VK):G V->Prop:=λ ys=>aM (atI ys i) (RF H Q)
def SE(i:B)(H:Hp)(Q:VK)(ys:G V):kIx i H Q ys=aM (atI ys i) (RF H Q):=rfl
def qIx:R2:=λ x y H Q=>match x,y with
 | .ref p,.int i=>aM (dq H p) (kIx i H Q)
 | _,_=>False
def So(p:Z)(i:B)(H:Hp)(Q:VK):qIx (.ref p) (.int i) H Q=aM (dq H p) (kIx i H Q):=rfl
theorem eA:IxR X qIx:=by
 refine(u6.or Qu).mono λ x y H Q h=>?_;unfold qIx at h;split at h
 ·rename_i p i;let(ys,e,q):=aq h;let(v,e2,q2):=aq q
  rcases jv (K:=X.K) e with z|z
  ·exact .inl {(p),ys,i,v,J,J,z,e2,q2}
  ·exact .inr {(p),ys,i,v,J,J,z,e2,q2}
 ·exact h.elim
def S2(a:α)(xs:G α):atI (a::xs) 0=U a:=bQ (j:=0) J
def S1(a b:α)(xs:G α):atI (a::b::xs) 1=U b:=bQ (j:=1) J
def SY(a b c:α)(xs:G α):atI (a::b::c::xs) 2=U c:=bQ (j:=2) J
def SQ(H:Hp)(Q:VK):G V->Prop:=λ ys=>∀ l,H l=Y->Q (.ref l) (upd H l (.lst ys))
def Nz(xs:G V)(H:Hp)(Q:VK):Prop:=match xs with
 | [.ref p]=>aM (dq H p) (SQ H Q)
 | _=>False
theorem zB:bK X (.type "list") Nz:=by
 refine tX.mono λ xs H Q h=>?_;unfold Nz at h;split at h
 ·rename_i p;let(ys,e,q):=aq h;exact{p,ys,J,jv e,q}
 ·exact h.elim
def JS(p:Z)(H:Hp)(Q:VK):HO->Prop:=λ o=>match o with
 | .lst ys=>∀ l,H l=Y->Q (.ref l) (upd H l (.tup ys))
 | .tup _=>Q (.ref p) H
 | _=>False
def IK(xs:G V)(H:Hp)(Q:VK):Prop:=match xs with
 | [.ref p]=>aM (H p) (JS p H Q)
 | _=>False
theorem vT:bK X (.type "tuple") IK:=by
 refine qZ.mono λ xs H Q h=>?_;unfold IK at h;split at h
 ·rename_i p;let(o,e,q):=aq h;unfold JS at q;split at q
  ·rename_i ys;exact{p,ys,J,.inl {SqL.of e,q}}
  ·rename_i ys;exact{p,ys,J,.inr {SqT.of e,q}}
  ·exact q.elim
 ·exact h.elim
def Rn(xs:G V)(H:Hp)(Q:VK):Prop:=match xs with
 | [.int i]=>Q (.int (if i<0 then -i else i)) H
 | _=>False
def Pt(i:B)(H:Hp)(Q:VK):Rn [.int i] H Q=Q (.int (if i<0 then -i else i)) H:=rfl
theorem Ei:bK X (.builtin "abs") Rn:=by
 refine HN.mono λ xs H Q h=>?_;unfold Rn at h;split at h
 ·rename_i i;exact{(i),J,h}
 ·exact h.elim
def Rk(xs:G V)(H:Hp)(Q:VK):Prop:=match xs with
 | [.int i,.int j]=>Q (.int (if i<j then j else i)) H
 | _=>False
def Pm(i j:B)(H:Hp)(Q:VK):Rk [.int i,.int j] H Q=Q (.int (if i<j then j else i)) H:=rfl
theorem jw(hc:X.calm=L):bK X (.builtin "max") Rk:=by
 refine(El hc).mono λ xs H Q h=>?_;unfold Rk at h;split at h
 ·rename_i i j;exact{(i),j,J,h}
 ·exact h.elim
def Rj(xs:G V)(H:Hp)(Q:VK):Prop:=match xs with
 | [.int i,.int j]=>Q (.int (if j<i then j else i)) H
 | _=>False
def Pl(i j:B)(H:Hp)(Q:VK):Rj [.int i,.int j] H Q=Q (.int (if j<i then j else i)) H:=rfl
theorem mL(hc:X.calm=L):bK X (.builtin "min") Rj:=by
 refine(Ek hc).mono λ xs H Q h=>?_;unfold Rj at h;split at h
 ·rename_i i j;exact{(i),j,J,h}
 ·exact h.elim
def tyO:HO->Ü String
 | .lst _=>U "list"
 | .tup _=>U "tuple"
 | .frz _ (.lst _)=>U "list"
 | .dK _=>U "dict"
 | .dT _=>U "dict"
 | _=>Y
def Ki(xs:G V):tyO (.lst xs)=U "list":=rfl
def Kh(xs:G V):tyO (.tup xs)=U "tuple":=rfl
def Of(xs:G (Key × V)):tyO (.dK xs)=U "dict":=rfl
def tyN(H:Hp):V->Ü String
 | .non=>U "NoneType"
 | .bl _=>U "bool"
 | .int _=>U "int"
 | .str _=>U "str"
 | .ref p=>(H p).bind tyO
 | _=>Y
def Kl(H:Hp):tyN H .non=U "NoneType":=rfl
def Oh(H:Hp)(b:Ý):tyN H (.bl b)=U "bool":=rfl
def Km(H:Hp)(i:B):tyN H (.int i)=U "int":=rfl
def Kj(H:Hp)(x:Ã):tyN H (.str x)=U "str":=rfl
def Kk(H:Hp)(p:Z):tyN H (.ref p)=(H p).bind tyO:=rfl
theorem Og{x:V}{t:String}(h:tyN H x=U t):uf K H x (.type t):=by
 cases x with
 | non=>cases h;exact .non
 | bl b=>cases h;exact .bl b
 | int i=>cases h;exact .int i
 | str x=>cases h;exact .str x
 | ref p=>
  let h':(H p).bind tyO=U t:=h
  cases e:H p with
  | none=>rw[e] at h';cases h'
  | some o=>
   rw[e] at h';let h2:tyO o=U t:=h'
   cases o with
   | lst xs=>cases h2;exact .lst e
   | tup xs=>cases h2;exact .tup e
   | dK xs=>cases h2;exact .dK e
   | dT xs=>cases h2;exact .dT e
   | frz ob u=>
    cases u with
    | lst xs=>cases h2;exact .frz e
    | _=>cases h2
   | _=>cases h2
 | _=>cases h
def rG:G String:=["NoneType", "bool", "int", "str", "list", "tuple", "dict"]
def TV(t n:String):Ý:=t == n || (t == "bool" && n == "int")
theorem Hj(K:Å):∀ t∈rG,∀ n∈rG,Ö K (.type t) (.type n)=U (TV t n):=by
 intro t ht n hn;unfold rG at ht hn;simp only[mem_cons,not_mem_nil,or_false] at ht hn
 rcases ht with rfl|rfl|rfl|rfl|rfl|rfl|rfl<;>rcases hn with rfl|rfl|rfl|rfl|rfl|rfl|rfl<;>exact DU K _ _ _ (by decide +kernel)
def jX(n:String)(H:Hp)(Q:VK):String->Prop:=λ t=>t∈rG/\Q (.bl (TV t n)) H
def Ad(xs:G V)(H:Hp)(Q:VK):Prop:=match xs with
 | [x,.ty n]=>n∈rG/\aM (tyN H x) (jX n H Q)
 | _=>False
theorem bF:bK X (.builtin "isinstance") Ad:=by
 refine HM.mono λ xs H Q h=>?_;unfold Ad at h;split at h
 ·rename_i x n;let(hn,h):=h;let(t,e,ht,q):=aq h;exact{x,n,_,_,J,Og e,Hj _ t ht n hn,q}
 ·exact h.elim
theorem yG(x:V)(H:Hp)(Q:VK):Ad [x,.ty "int"] H Q=aM (tyN H x) (jX "int" H Q):=by
 unfold Ad;exact propext {λ h=>h.2,λ h=>{by decide,h}}
theorem vG(x:V)(H:Hp)(Q:VK):Ad [x,.ty "bool"] H Q=aM (tyN H x) (jX "bool" H Q):=by
 unfold Ad;exact propext {λ h=>h.2,λ h=>{by decide,h}}
theorem tU(x:V)(H:Hp)(Q:VK):Ad [x,.ty "tuple"] H Q=aM (tyN H x) (jX "tuple" H Q):=by
 unfold Ad;exact propext {λ h=>h.2,λ h=>{by decide,h}}
theorem vF(x:V)(H:Hp)(Q:VK):Ad [x,.ty "list"] H Q=aM (tyN H x) (jX "list" H Q):=by
 unfold Ad;exact propext {λ h=>h.2,λ h=>{by decide,h}}
theorem yF(x:V)(H:Hp)(Q:VK):Ad [x,.ty "str"] H Q=aM (tyN H x) (jX "str" H Q):=by
 unfold Ad;exact propext {λ h=>h.2,λ h=>{by decide,h}}
theorem Dh(H:Hp)(Q:VK):jX "int" H Q "NoneType"=Q (.bl Â) H:=propext {λ h=>h.2,λ h=>{by decide,h}}
theorem Dg(H:Hp)(Q:VK):jX "str" H Q "NoneType"=Q (.bl Â) H:=propext {λ h=>h.2,λ h=>{by decide,h}}
theorem Df(H:Hp)(Q:VK):jX "tuple" H Q "NoneType"=Q (.bl Â) H:=propext {λ h=>h.2,λ h=>{by decide,h}}
theorem De(H:Hp)(Q:VK):jX "bool" H Q "bool"=Q (.bl L) H:=propext {λ h=>h.2,λ h=>{by decide,h}}
theorem Dd(H:Hp)(Q:VK):jX "int" H Q "bool"=Q (.bl L) H:=propext {λ h=>h.2,λ h=>{by decide,h}}
theorem Dc(H:Hp)(Q:VK):jX "tuple" H Q "bool"=Q (.bl Â) H:=propext {λ h=>h.2,λ h=>{by decide,h}}
theorem CW(H:Hp)(Q:VK):jX "bool" H Q "int"=Q (.bl Â) H:=propext {λ h=>h.2,λ h=>{by decide,h}}
theorem CU(H:Hp)(Q:VK):jX "int" H Q "int"=Q (.bl L) H:=propext {λ h=>h.2,λ h=>{by decide,h}}
theorem CT(H:Hp)(Q:VK):jX "str" H Q "int"=Q (.bl Â) H:=propext {λ h=>h.2,λ h=>{by decide,h}}
theorem CQ(H:Hp)(Q:VK):jX "tuple" H Q "int"=Q (.bl Â) H:=propext {λ h=>h.2,λ h=>{by decide,h}}
theorem CL(H:Hp)(Q:VK):jX "int" H Q "str"=Q (.bl Â) H:=propext {λ h=>h.2,λ h=>{by decide,h}}
theorem CK(H:Hp)(Q:VK):jX "str" H Q "str"=Q (.bl L) H:=propext {λ h=>h.2,λ h=>{by decide,h}}
theorem CJ(H:Hp)(Q:VK):jX "tuple" H Q "str"=Q (.bl Â) H:=propext {λ h=>h.2,λ h=>{by decide,h}}
theorem CP(H:Hp)(Q:VK):jX "int" H Q "list"=Q (.bl Â) H:=propext {λ h=>h.2,λ h=>{by decide,h}}
theorem CN(H:Hp)(Q:VK):jX "str" H Q "list"=Q (.bl Â) H:=propext {λ h=>h.2,λ h=>{by decide,h}}
theorem CO(H:Hp)(Q:VK):jX "list" H Q "list"=Q (.bl L) H:=propext {λ h=>h.2,λ h=>{by decide,h}}
theorem CM(H:Hp)(Q:VK):jX "tuple" H Q "list"=Q (.bl Â) H:=propext {λ h=>h.2,λ h=>{by decide,h}}
theorem CI(H:Hp)(Q:VK):jX "int" H Q "tuple"=Q (.bl Â) H:=propext {λ h=>h.2,λ h=>{by decide,h}}
theorem CH(H:Hp)(Q:VK):jX "str" H Q "tuple"=Q (.bl Â) H:=propext {λ h=>h.2,λ h=>{by decide,h}}
theorem CG(H:Hp)(Q:VK):jX "tuple" H Q "tuple"=Q (.bl L) H:=propext {λ h=>h.2,λ h=>{by decide,h}}
theorem CZ(H:Hp)(Q:VK):jX "int" H Q "dict"=Q (.bl Â) H:=propext {λ h=>h.2,λ h=>{by decide,h}}
theorem CY(H:Hp)(Q:VK):jX "tuple" H Q "dict"=Q (.bl Â) H:=propext {λ h=>h.2,λ h=>{by decide,h}}
def RQ(r:V->G V->Hp->VK->Prop)(x:V)(Q:VK):G V->Hp->Prop:=λ xs H=>r x xs H Q
def Qd(r:V->G V->Hp->VK->Prop)(x:V)(Q:VK)(xs:G V)(H:Hp):RQ r x Q xs H=r x xs H Q:=rfl
def kBM(K:Å)(T:String)(r:V->G V->Hp->VK->Prop)(t:TA)(σ:St)(Q:VK):VK:=λ x H=>tyV K T x H/\t σ H (RQ r x Q)
def SM(K:Å)(T:String)(r:V->G V->Hp->VK->Prop)(t:TA)(σ:St)(Q:VK)(x:V)(H:Hp):kBM K T r t σ Q x H=(tyV K T x H/\t σ H (RQ r x Q)):=rfl
def Sn(K:Å)(T:String)(r:V->G V->Hp->VK->Prop)(to:TE)(t:TA)(σ:St)(H:Hp)(Q:VK):tBM K T r to t σ H Q=to σ H (kBM K T r t σ Q):=rfl
def TM(K:Å)(T:String)(r:V->G V->Hp->VK->Prop)(Q:VK):VK:=λ x H=>tyV K T x H/\r x [] H Q
def Qc(K:Å)(T:String)(r:V->G V->Hp->VK->Prop)(Q:VK)(x:V)(H:Hp):TM K T r Q x H=(tyV K T x H/\r x [] H Q):=rfl
def Pe(K:Å)(T:String)(r:V->G V->Hp->VK->Prop)(to:TE)(σ:St)(H:Hp)(Q:VK):Tg K T r to σ H Q=to σ H (TM K T r Q):=rfl
theorem Fi(K:Å)(p:Z)(H:Hp)(h:(aQ H p).isSome=L):tyV K "list" (.ref p) H=True:=by
 cases e:aQ H p with
 | none=>rw[e] at h;cases h
 | some ys=>exact eq_true (.inl {J,ys,SqL.of (cI e)})
def TQ(l:Z)(y:V)(H:Hp)(Q:VK):G V->Prop:=λ xs=>xs.length<Æ/\Q .non (upd H l (.lst (xs++[y])))
def Qf(l:Z)(y:V)(H:Hp)(Q:VK)(xs:G V):TQ l y H Q xs=(xs.length<Æ/\Q .non (upd H l (.lst (xs++[y])))):=rfl
theorem Cz(l:Z)(y:V)(H:Hp)(Q:VK):Bp (.ref l) [y] H Q=aM (aQ H l) (TQ l y H Q):=by
 refine propext {λ h=>?_,λ h=>?_}
 ·let(_,xs,_,e1,e2,e3,a,b):=h;cases e1;cases e2;let e:aQ H l=U xs:=by unfold aQ;rw[e3];rfl
  rw[e];exact{(a),b}
 ·let(xs,e,a,b):=aq h;exact{l,xs,y,J,J,cI e,a,b}
def SR(xs:G V)(H:Hp)(Q:VK):G V->Prop:=λ ys=>xs.length+ys.length<=Æ/\∀ p,H p=Y->Q (.ref p) (upd H p (.lst (xs++ys)))
def SS(b:Z)(H:Hp)(Q:VK):G V->Prop:=λ xs=>aM (aQ H b) (SR xs H Q)
theorem Ph(l b:Z)(H:Hp)(Q:VK):Tj (.ref l) (.ref b) H Q=aM (aQ H l) (SS b H Q):=by
 refine propext {λ h=>?_,λ h=>?_}
 ·let(l',b',xs,zs,e1,e2,e3,e4,hz,hq):=h;cases e1;cases e2;let e:aQ H l=U xs:=by unfold aQ;rw[e3];rfl
  let e':aQ H b=U zs:=by unfold aQ;rw[e4];rfl
  rw[e]
  show aM (aQ H b) _
  rw[e'];exact{(hz),hq}
 ·let(xs,e,q):=aq h;let(zs,e',a,q):=aq q;exact{l,b,xs,zs,J,J,cI e,cI e',a,q}
def JW(p:Z)(xs:G V)(v:V)(H:Hp)(Q:Hp->Prop):à->Prop:=λ j=>Q (upd H p (.lst (xs.set j v)))
def LB(p:Z)(xs:G V)(v:V)(H:Hp)(Q:Hp->Prop)(j:à):JW p xs v H Q j=Q (upd H p (.lst (xs.set j v))):=rfl
def TB(p:Z)(i:B)(v:V)(H:Hp)(Q:Hp->Prop):G V->Prop:=λ xs=>aM (ixN xs.length i) (JW p xs v H Q)
def PJ(p:Z)(i:B)(v:V)(H:Hp)(Q:Hp->Prop)(xs:G V):TB p i v H Q xs=aM (ixN xs.length i) (JW p xs v H Q):=rfl
theorem Lg(p:Z)(i:B)(v:V)(H:Hp)(Q:Hp->Prop):Nx (.ref p) (.int i) v H Q=aM (aQ H p) (TB p i v H Q):=by
 refine propext {λ h=>?_,λ h=>?_}
 ·let(_,xs,_,j,e1,e2,e3,e4,b):=h;cases e1;cases e2;let e:aQ H p=U xs:=by unfold aQ;rw[e3];rfl
  rw[e]
  show aM (ixN xs.length i) _
  rw[e4];exact b
 ·let(xs,e,q):=aq h;let(j,e4,q):=aq q;exact{p,xs,i,j,J,J,cI e,e4,q}
def A7(t:Ir)(o v:V)(σ:St)(Q:St->Hp->Prop):VK:=λ i H=>t o i v H λ H3=>Q σ H3
def Gy(t:Ir)(o v:V)(σ:St)(Q:St->Hp->Prop)(i:V)(H:Hp):A7 t o v σ Q i H=t o i v H (Q σ):=rfl
def Jd(ti:TE)(t:Ir)(v:V)(σ:St)(Q:St->Hp->Prop):VK:=λ o H=>ti σ H (A7 t o v σ Q)
def Gz(ti:TE)(t:Ir)(v:V)(σ:St)(Q:St->Hp->Prop)(o:V)(H:Hp):Jd ti t v σ Q o H=ti σ H (A7 t o v σ Q):=rfl
def Qk(to ti:TE)(t:Ir)(v:V)(σ:St)(H:Hp)(Q:St->Hp->Prop):T4 to ti t v σ H Q=to σ H (Jd ti t v σ Q):=rfl
def kGT(n:à)(t:TGs)(σ:St)(H:Hp)(Q:St->Hp->Prop):G V->Prop:=λ xs=>xs.length=n/\t xs σ H Q
def SG(n:à)(t:TGs)(σ:St)(H:Hp)(Q:St->Hp->Prop)(xs:G V):kGT n t σ H Q xs=(xs.length=n/\t xs σ H Q):=rfl
def qGT(n:à)(t:TGs):TG:=λ v σ H Q=>match v with
 | .ref a=>aM (jg H a) (kGT n t σ H Q)
 | _=>False
def Sq(n:à)(t:TGs)(a:Z)(σ:St)(H:Hp)(Q:St->Hp->Prop):qGT n t (.ref a) σ H Q=aM (jg H a) (kGT n t σ H Q):=rfl
theorem dI{t:TGs}{Q:St->Hp->Prop}(h:qGT n t v σ H Q):T3 K n t v σ H Q:=by
 unfold qGT at h;split at h
 ·rename_i a;let(xs,e,hl,q):=aq h;exact{a,xs,J,SqT.of (wz e),hl,q}
 ·exact h.elim
def kJ:OpR X (compareOp .Is) QL:=ON
def lM:OpR X (compareOp .IsNot) JI:=KW
def Aq(tb:TS)(D:gX):St->Hp->Prop:=λ σ H=>tb D σ H
def cn(tb:TS)(D:gX)(σ:St)(H:Hp):Aq tb D σ H=tb D σ H:=rfl
def M9(g:TG)(tb:TS)(D:gX)(σ:St)(wn:It)(H1:Hp):Prop:=∃ W:à->à->St->Hp->Prop,(∃ m,W 0 m σ H1)/\∀ i m σ H,W i m σ H →
 (wn.stop i H/\D.nx σ H)\/(wn.go i H/\∃ N:St->Hp->Prop,(∀ σ' H',N σ' H'->∃ m',m' < m/\W (i+1) m' σ' H')/\∀ x H',wn.yld i H x H'->g x σ H' λ σ2 H2=>tb { D with nx:=N,ct:=N,bk:=D.nx } σ2 H2)
def Pd(wi:TI)(g:TG)(tb:TS)(D:gX)(σ:St)(H:Hp):Tf wi g tb D σ H=wi σ H (M9 g tb D σ):=rfl
def kR1(R:It->Hp->Prop):G V->Hp->Prop:=λ vs H=>∃ j:B,vs=[.int j]/\-(2 ^ 62)<=j/\j<2 ^ 62/\R (Itr 0 j.toNat) H
theorem Sx(R:It->Hp->Prop)(j:B)(H:Hp):kR1 R [.int j] H=(-(2 ^ 62)<=j/\j<2 ^ 62/\R (Itr 0 j.toNat) H):=propext {λ ⟨_,e,q⟩=>by cases e;exact q,λ q=>{(j),J,q}}
def L4(ta:TA)(σ:St)(H:Hp)(R:It->Hp->Prop):NZ ta σ H R=ta σ H (kR1 R):=rfl
def EZ(K:Å)(a:Z)(H:Hp)(R:It->Hp->Prop):HO->Prop:=λ o=>match o with
 | .lst _=>R (Itl K a) H
 | .frz _ (.lst _)=>R (Itl K a) H
 | .tup _=>R (Itt K a) H
 | _=>False
def Di(K:Å)(a:Z)(H:Hp)(R:It->Hp->Prop)(xs:G V):EZ K a H R (.lst xs)=R (Itl K a) H:=rfl
def QR(K:Å)(R:It->Hp->Prop):VK:=λ x H=>match x with
 | .ref a=>aM (H a) (EZ K a H R)
 | _=>False
def PY(K:Å)(R:It->Hp->Prop)(a:Z)(H:Hp):QR K R (.ref a) H=aM (H a) (EZ K a H R):=rfl
def TZ(K:Å)(tl:TE):TI:=λ σ H R=>tl σ H (QR K R)
def Qj(K:Å)(tl:TE)(σ:St)(H:Hp)(R:It->Hp->Prop):TZ K tl σ H R=tl σ H (QR K R):=rfl
theorem Oz{tg l:Ñ}{tl:TE}(hl:PE X l tl):PI X tg l (TZ X.K tl):=by
 intro pins s σ H R I h;refine thn (hl pins s σ H _ I h) λ v s1 ⟨x,H1,I1,r1,q1⟩=>?_;unfold QR at q1;split at q1
 ·rename_i a;cases r1;let(o,e,q):=aq q1
  let fp:∀ b∈[%[s1|99]],yc X pins H1 b:=λ b hb=>by
   let e:b=%[s1|99]:=by simpa using hb
   subst e;exact I1.fpOk (U6 _) (I1.hok.fresh (U6 _))
  let lst:∀ xs,SqL X.K H1 a xs->R (Itl X.K a) H1->Ç (Ê X.prog X.w) X.A (pyIter (.ref a)) (PIE X pins σ tg R) X.xe s1:=λ xs hq q=>by
   let(its,rv,p,hz):=I1.list hq;refine XM p.isList ?_;exact{%[s1|99],[%[s1|99]],_,_,H1,J,I1.kept (t':=s1.toks) λ b o e=>U0 _ e,B7 a _,{_,Vc _ J,J,J},fp,q}
  unfold EZ at q;split at q
  ·exact lst _ (SqL.of e) q
  ·exact lst _ (.inl (.inr {_,e})) q
  ·let(its,rv,p,hz):=I1.tuple (SqT.of e);refine wpAny_pyIter_tuple (show s1.heap.IsTuple a its.toArray from p) ?_;exact{%[s1|99],[%[s1|99]],_,_,H1,J,I1.kept (t':=s1.toks) λ b o e=>U0 _ e,yn a _,{_,Vc _ J,J,J},fp,q}
  ·exact q.elim
 ·exact q1.elim
def u9{lo:B}(Pv:à->St->Hp->Prop)(h0:Pv 0 σ H)
  (hs:∀ i σ H,i<n->Pv i σ H->g (.int (lo+i)) σ H (Aq tb {Pv (i+1),rt,nx,Pv (i+1)})) (hd:∀ σ H,Pv n σ H->nx σ H):M9 g tb {(nx),rt,bk,ct} σ (Itr lo n) H:=D6 Pv h0 hs hd
theorem iM{a:Z}(Pv:à->St->Hp->Prop)(h0:Pv 0 σ H)(hl:∀ i σ H,i<=xs.length->Pv i σ H->H a=U (.lst xs))
  (hs:∀ i x σ H,xs[i]? = U x->Pv i σ H->g x σ H (Aq tb {Pv (i+1),rt,nx,Pv (i+1)})) (hd:∀ σ H,Pv xs.length σ H->nx σ H):M9 g tb {(nx),rt,bk,ct} σ (Itl K a) H:=Hw (xs:=xs) Pv h0 (λ i σ H hi p=>SqL.of (hl i σ H hi p)) hs hd
def Gp(sp:Sp)(dvs:G V)(E:St->XK)(t:TA)(σ:St)(H:Hp)(Q:VK):IB sp dvs E t σ H Q=t σ H (uv sp dvs (E σ) Q):=rfl
def Rx(th:O->Ü Z->TS)(D:gX):St->XK:=λ σ cls d H=>th cls d D σ H
def PB(th:O->Ü Z->TS)(D:gX)(σ:St)(cls:O)(d:Ü Z)(H:Hp):Rx th D σ cls d H=th cls d D σ H:=rfl
def A5(tb:(St->XK)->TS)(th:O->Ü Z->TS)(D:gX)(σ:St)(H:Hp):Ta tb th D σ H=tb (Rx th D) D σ H:=rfl
def Jc(C:Z)(E:XK):G V->Hp->Prop:=λ vs H=>vs.length<=Æ/\E (.ref C) Y H
def Gw(C:Z)(E:XK)(vs:G V)(H:Hp):Jc C E vs H=(vs.length<=Æ/\E (.ref C) Y H):=rfl
def Gm(C:Z)(E:St->XK)(t:TA)(D:gX)(σ:St)(H:Hp):Iy C E t D σ H=t σ H (Jc C (E σ)):=rfl
def JU(i:à)(tb:TS)(D:gX):St->Hp->Prop:=λ σ H=>tb D σ H
def Lx(i:à)(tb:TS)(D:gX)(σ:St)(H:Hp):JU i tb D σ H=tb D σ H:=rfl
def SN(i:à)(nx:St->Hp->Prop)(rt:VK)(bk ct:St->Hp->Prop):gX.del i {(nx),rt,bk,ct}=⟨MY i nx,rt,MY i bk,MY i ct⟩:=rfl
theorem gO(H:Hp)(dx:Z):uw H (U dx)=aM (H dx) kXd:=by
 refine propext {λ ⟨o,h,k⟩=>by rw[h];exact k,λ h=>?_};let(o,e,k):=aq h;exact{(o),e,k}
def Rg:O->Ü Z
 | .ref C=>U C
 | _=>Y
def Fz(C:Z):Rg (.ref C)=U C:=rfl
def RS:V->Ü O
 | .ref C=>U (.ref C)
 | .ty n=>U (.type n)
 | _=>Y
def HL(C:Z):RS (.ref C)=U (.ref C):=rfl
def kE4(H:Hp)(Q:VK):Ý->Prop:=λ b=>Q (.bl b) H
def NN(H:Hp)(Q:VK)(b:Ý):kE4 H Q b=Q (.bl b) H:=rfl
def kE3(K:Å)(C:Z)(H:Hp)(Q:VK):O->Prop:=λ u=>aM (Ö K (.ref C) u) (kE4 H Q)
def SH(K:Å)(C:Z)(H:Hp)(Q:VK)(u:O):kE3 K C H Q u=aM (Ö K (.ref C) u) (kE4 H Q):=rfl
def kE2(K:Å)(oe:Obj)(D:V)(H:Hp)(Q:VK):Z->Prop:=λ C=>uw H oe.dict/\(∃ vs,oe.data=.fields vs)/\Af K C/\aM (RS D) (kE3 K C H Q)
def SI(K:Å)(oe:Obj)(D:V)(H:Hp)(Q:VK)(C:Z):kE2 K oe D H Q C=(uw H oe.dict/\(∃ vs,oe.data=.fields vs)/\Af K C/\aM (RS D) (kE3 K C H Q)):=rfl
def kE1(K:Å)(D:V)(H:Hp)(Q:VK):HO->Prop:=λ o=>match o with
 | .frz oe (.ext _)=>aM (Rg oe.cls) (kE2 K oe D H Q)
 | _=>False
def SJ(K:Å)(D:V)(H:Hp)(Q:VK)(oe:Obj):kE1 K D H Q (rA oe)=aM (Rg oe.cls) (kE2 K oe D H Q):=rfl
def QN(K:Å)(xs:G V)(H:Hp)(Q:VK):Prop:=match xs with
 | [.ref e,D]=>aM (H e) (kE1 K D H Q)
 | _=>False
def Pq(K:Å)(e:Z)(D:V)(H:Hp)(Q:VK):QN K [.ref e,D] H Q=aM (H e) (kE1 K D H Q):=rfl
theorem Eg:bK X (.builtin "isinstance") (QN X.K):=by
 refine Em.mono λ xs H Q h=>?_;unfold QN at h;split at h
 ·rename_i e D;let(o,h1,h):=aq h;unfold kE1 at h;split at h
  ·rename_i oe φ;let(C,h2,h):=aq h;let(h3,h4,h5,h):=h;let(u,h6,h):=aq h;let(b,h7,h):=aq h
   let hc:oe.cls=.ref C:=by
    cases q:oe.cls with
    | ref C'=>rw[q] at h2;cases h2;rfl
    | _=>rw[q] at h2;cases h2
   refine{e,oe,C,D,b,J,{_,h1},hc,h3,h4,h5,{u,?_,h7},h}
   cases D with
   | ref a=>cases h6;rfl
   | ty n=>cases h6;rfl
   | _=>cases h6
  ·exact h.elim
 ·exact h.elim
def kC3(D:Z)(ys:G V)(N:G V->Hp->Prop):VK:=λ y H=>H D=U (.lst ys)/\ys.length<Æ/\N (ys++[y]) (upd H D (.lst (ys++[y])))
def kC2(te:TE)(σ2:St)(D:Z)(ys:G V)(N:G V->Hp->Prop):Ý->Hp->Prop:=λ b H=>if b=L then te σ2 H (kC3 D ys N) else N ys H
def kC1(k:à)(tt:TT)(te:TE)(σ:St)(D:Z)(ys:G V)(N:G V->Hp->Prop):St->Hp->Prop:=λ σ2 H=>(∃ vs:St,vs.length=k/\σ2=vs++σ)/\tt σ2 H (kC2 te σ2 D ys N)
def OV(σ:St)(H:Hp)(Q:Ý->Hp->Prop):S9 σ H Q=Q L H:=rfl
def J1(k:à)(g:TG)(tt:TT)(te:TE)(σ:St)(Q:VK):It->Hp->Prop:=λ wn H1=>∀ D,H1 D=Y->∃ W:à->à->G V->Hp->Prop,(∃ m,W 0 m [] (upd H1 D (.lst [])))/\∀ i m ys H,W i m ys H →
 (wn.stop i H/\Q (.ref D) H)\/(wn.go i H/\∃ N:G V->Hp->Prop,(∀ a3 H',N a3 H'->∃ m',m' < m/\W (i+1) m' a3 H') /\
  ∀ x H',wn.yld i H x H'->g x (Í k Y++σ) H' (kC1 k tt te σ D ys N))
def Lb(k:à)(wi:TI)(g:TG)(tt:TT)(te:TE)(σ:St)(H:Hp)(Q:VK):JD k wi g tt te σ H Q=wi σ H (J1 k g tt te σ Q):=rfl
def NQ(i:à)(σ:St)(nx:St->Hp->Prop):VK:=λ x H=>gh i x σ H nx
def Ly(i:à)(σ:St)(nx:St->Hp->Prop)(x:V)(H:Hp):NQ i σ nx x H=gh i x σ H nx:=rfl
def K5(i:à)(te:TE)(nx:St->Hp->Prop)(rt:VK)(bk ct:St->Hp->Prop)(σ:St)(H:Hp):Ni i te {(nx),rt,bk,ct} σ H=te σ H (NQ i σ nx):=rfl
section
variable {tt:TT}{te:TE}{Q:VK}{K:PySem.W.Frag}
end
def aJ:G (Ü α)->Ü (G α)
 | []=>U []
 | o::r=>o.bind λ x=>(aJ r).map λ xs=>x::xs
def Ah(f:V->Ü PyData):HO->Ü PyData
 | .lst xs=>(aJ (xs.map f)).map .list
 | .tup xs=>(aJ (xs.map f)).map .tuple
 | _=>Y
def jY(H:Hp)(f:V->Ü PyData):V->Ü PyData
 | .non=>U .none
 | .bl b=>U (.bool b)
 | .int i=>U (.int i)
 | .str z=>if PyData.strOk z=L then U (.str z) else Y
 | .ref p=>(H p).bind (Ah f)
 | _=>Y
def dC(H:Hp):à->V->Ü PyData
 | 0,_=>Y
 | n+1,x=>jY H (dC H n) x
def noD:V->Ü PyData:=λ _=>Y
def Ql(H:Hp)(x:V):dC H 6 x=jY H (jY H (jY H (jY H (jY H (jY H noD))))) x:=rfl
def kj(H:Hp)(n:à)(z:Ã):dC H (n+1) (.str z)=if PyData.strOk z=L then U (.str z) else Y:=rfl
def yL(H:Hp)(n:à)(p:Z):dC H (n+1) (.ref p)=(H p).bind (Ah (dC H n)):=rfl
def yN(H:Hp)(f:V->Ü PyData):jY H f .non=U .none:=rfl
def yO(H:Hp)(f:V->Ü PyData)(i:B):jY H f (.int i)=U (.int i):=rfl
def yM(H:Hp)(f:V->Ü PyData)(z:Ã):jY H f (.str z)=if PyData.strOk z=L then U (.str z) else Y:=rfl
def oF(H:Hp)(f:V->Ü PyData)(p:Z):jY H f (.ref p)=(H p).bind (Ah f):=rfl
def oE(f:V->Ü PyData)(xs:G V):Ah f (.lst xs)=(aJ (xs.map f)).map .list:=rfl
def kl(f:V->Ü PyData)(xs:G V):Ah f (.tup xs)=(aJ (xs.map f)).map .tuple:=rfl
def qX:aJ ([]:G (Ü α))=U []:=rfl
theorem iF(x:α)(r:G (Ü α)):aJ (U x::r)=(aJ r).map λ xs=>x::xs:=rfl
theorem gP(H:Hp)(f:V->Ü PyData):∀ ns:G B,aJ ((ns.map V.int).map (jY H f))=U (ns.map PyData.int)
 | []=>rfl
 | i::r=>by
  show (aJ ((r.map V.int).map (jY H f))).map _=_
  rw[gP H f r];rfl
theorem lQ(ih:∀ x d,dC H n x=U d->o6 K H x d/\d.canLay0=L/\d.depth<=n):∀ (xs:G V) (ds:G PyData),aJ (xs.map (dC H n))=U ds->lY K H xs ds/\PyData.canLayAll0 ds=L/\PyData.depthAll ds<=n
 | [],ds,h=>by cases h;exact{.nil,J,VM _}
 | x::xs,ds,h=>by
  let h':(dC H n x).bind (λ d=>(aJ (xs.map (dC H n))).map λ ds=>d::ds)=U ds:=h
  cases e:dC H n x with
  | none=>rw[e] at h';cases h'
  | some d=>
   rw[e] at h';let h2:(aJ (xs.map (dC H n))).map (λ ds=>d::ds)=U ds:=h'
   cases e2:aJ (xs.map (dC H n)) with
   | none=>rw[e2] at h2;cases h2
   | some es=>
    rw[e2] at h2;cases h2;let(a,b,c):=ih x d e;let(a',b',c'):=lQ ih xs es e2;exact{.cons a a',by simp[PyData.canLayAll0,b,b'],by simp only[PyData.depthAll];omega}
theorem mj:∀ (n:à) (x:V) (d:PyData),dC H n x=U d->o6 K H x d/\d.canLay0=L/\d.depth<=n
 | 0,x,d,h=>by cases h
 | n+1,x,d,h=>by
  cases x with
  | non=>cases h;exact{.non,J,VM _}
  | bl b=>cases h;exact{.bl b,J,VM _}
  | int i=>cases h;exact{.int i,J,VM _}
  | str z=>
   rw[kj] at h;split at h
   ·rename_i hz;cases h;exact{.str z,by simpa [PyData.canLay0] using hz,VM _}
   ·cases h
  | ref p=>
   rw[yL] at h
   cases e:H p with
   | none=>rw[e] at h;cases h
   | some o=>
    rw[e] at h;let h':Ah (dC H n) o=U d:=h
    cases o with
    | lst xs=>
     rw[oE] at h'
     cases e2:aJ (xs.map (dC H n)) with
     | none=>rw[e2] at h';cases h'
     | some ds=>
      rw[e2] at h';cases h';let(a,b,c):=lQ (K:=K) (mj n) xs ds e2;exact{.lst (SqL.of e) a,by simpa [PyData.canLay0] using b,by simp only[PyData.depth];omega}
    | tup xs=>
     rw[kl] at h'
     cases e2:aJ (xs.map (dC H n)) with
     | none=>rw[e2] at h';cases h'
     | some ds=>
      rw[e2] at h';cases h';let(a,b,c):=lQ (K:=K) (mj n) xs ds e2;exact{.tup (SqT.of e) a,by simpa [PyData.canLay0] using b,by simp only[PyData.depth];omega}
    | _=>cases h'
  | _=>cases h
theorem fF{x:V}{d:PyData}(hn:n<=64)(h:dC H n x=U d):o6 K H x d/\SeqAt.shaped d=L:=by
 let(a,b,c):=mj (K:=K) n x d h;refine{a,?_};unfold SeqAt.shaped;rw[b,decide_eq_true (show d.depth<=64 by omega)];rfl
def Js(neg:Ý)(H:Hp)(Q:VK)(d:PyData):PyData->Prop:=λ e=>Q (.bl (if neg=L then !PyData.eqv d e else PyData.eqv d e)) H
def GB(H:Hp)(Q:VK)(d e:PyData):Js L H Q d e=Q (.bl (!PyData.eqv d e)) H:=rfl
def GC(H:Hp)(Q:VK)(d e:PyData):Js Â H Q d e=Q (.bl (PyData.eqv d e)) H:=rfl
def QS(neg:Ý)(y:V)(H:Hp)(Q:VK):PyData->Prop:=λ d=>aM (dC H 6 y) (Js neg H Q d)
def P0(neg:Ý)(y:V)(H:Hp)(Q:VK)(d:PyData):QS neg y H Q d=aM (dC H 6 y) (Js neg H Q d):=rfl
def qEq(neg:Ý):R2:=λ x y H Q=>if MX x y=L then Q (.bl (if neg=L then !decide (x=y) else decide (x=y))) H else aM (dC H 6 x) (QS neg y H Q)
theorem eX(neg:Ý)(p:Z)(y:V)(H:Hp)(Q:VK):qEq neg (.ref p) y H Q=aM (dC H 6 (.ref p)) (QS neg y H Q):=by
 show (if MX (.ref p) y=L then _ else _)=_
 rw[U7 (by cases y<;>exact U9)]
theorem eZ(neg:Ý)(p:Z)(x:V)(H:Hp)(Q:VK):qEq neg x (.ref p) H Q=aM (dC H 6 x) (QS neg (.ref p) H Q):=by
 show (if MX x (.ref p)=L then _ else _)=_
 rw[U7 (by cases x<;>exact U9)]
theorem jJ(i:B)(j:B)(H:Hp)(Q:VK):qEq Â (V.int i) (V.int j) H Q=Q (.bl (decide (i=j))) H:=by
 let e:decide (((V.int i):V)=(V.int j))=decide (i=j):=by simp
 show Q (.bl (if Â=L then !decide ((V.int i)=(V.int j)) else decide ((V.int i)=(V.int j)))) H=_
 rw[e];rfl
theorem qV(i:B)(j:B)(H:Hp)(Q:VK):qEq L (V.int i) (V.int j) H Q=Q (.bl (!decide (i=j))) H:=by
 let e:decide (((V.int i):V)=(V.int j))=decide (i=j):=by simp
 show Q (.bl (if L=L then !decide ((V.int i)=(V.int j)) else decide ((V.int i)=(V.int j)))) H=_
 rw[e];rfl
theorem qW(i:Ã)(j:Ã)(H:Hp)(Q:VK):qEq Â (V.str i) (V.str j) H Q=Q (.bl (decide (i=j))) H:=by
 let e:decide (((V.str i):V)=(V.str j))=decide (i=j):=by simp
 show Q (.bl (if Â=L then !decide ((V.str i)=(V.str j)) else decide ((V.str i)=(V.str j)))) H=_
 rw[e];rfl
theorem qU(i:Ã)(j:Ã)(H:Hp)(Q:VK):qEq L (V.str i) (V.str j) H Q=Q (.bl (!decide (i=j))) H:=by
 let e:decide (((V.str i):V)=(V.str j))=decide (i=j):=by simp
 show Q (.bl (if L=L then !decide ((V.str i)=(V.str j)) else decide ((V.str i)=(V.str j)))) H=_
 rw[e];rfl
theorem aO(hu:X.A.units+64<cLine):OpR X (compareOp .Eq) (qEq Â):=by
 refine(R8.or (OO hu)).mono λ x y H Q h=>?_;unfold qEq at h;split at h
 ·rename_i hs;exact .inl {(hs),h}
 let(d,e1,h):=aq h;let(e,e2,h):=aq h;let(a,b):=fF (K:=X.K) (by decide) e1;let(a',b'):=fF (K:=X.K) (by decide) e2;exact .inr {(d),e,a,a',b,b',h}
theorem gp(hu:X.A.units+64<cLine):OpR X (compareOp .NotEq) (qEq L):=by
 refine(R5.or (OL hu)).mono λ x y H Q h=>?_;unfold qEq at h;split at h
 ·rename_i hs;exact .inl {(hs),h}
 let(d,e1,h):=aq h;let(e,e2,h):=aq h;let(a,b):=fF (K:=X.K) (by decide) e1;let(a',b'):=fF (K:=X.K) (by decide) e2;exact .inr {(d),e,a,a',b,b',h}
def iO(i j:B):PyData.eqv (.int i) (.int j)=decide (i=j):=Bool.beq_eq_decide_eq i j
def iN(i j:Ã):PyData.eqv (.str i) (.str j)=(i == j):=rfl
def HA:PyData.eqv .none .none=L:=rfl
theorem dQ(xs ys:G PyData):PyData.eqv (.tuple xs) (.tuple ys)=PyData.eqvAll xs ys:=by simp only[PyData.eqv]
theorem js(xs ys:G PyData):PyData.eqv (.list xs) (.list ys)=PyData.eqvAll xs ys:=by simp only[PyData.eqv]
def cf:PyData.eqvAll [] []=L:=by simp only[PyData.eqvAll]
theorem aE(x y:PyData)(xs ys:G PyData):PyData.eqvAll (x::xs) (y::ys)=(PyData.eqv x y && PyData.eqvAll xs ys):=by simp only[PyData.eqvAll]
theorem HC(x:PyData)(xs:G PyData):PyData.eqvAll (x::xs) []=Â:=by simp only[PyData.eqvAll]
theorem HB(x:PyData)(xs:G PyData):PyData.eqvAll [] (x::xs)=Â:=by simp only[PyData.eqvAll]
theorem fE:∀ ns ms:G B,PyData.eqvAll (ns.map PyData.int) (ms.map PyData.int)=decide (ns=ms)
 | [],[]=>by rw[XW,cf];rfl
 | [],_::_=>by rw[XW,Vs,HB];rfl
 | _::_,[]=>by rw[XW,Vs,HC];rfl
 | i::r,j::t=>by
  rw[Vs,Vs,aE,iO,fE r t]
  by_cases h:i=j<;>by_cases h2:r=t<;>simp[h,h2]
def MQ(i j:B):RW i j=(0<j/\j<1073741824):=rfl
theorem QE(i j:B)(h:-18446744073709551616<i)(h':i<18446744073709551616):yd i j=True:=eq_true (.inl {by omega,by omega})
theorem QD(i j:B)(h:-18446744073709551616<j)(h':j<18446744073709551616):yd i j=True:=eq_true (.inr {by omega,by omega})
theorem MP(j:B):RV 10 j=(0<=j/\j<=1000000):=propext {λ h=>{(h.1),h.2.1},λ h=>{h.1,h.2,by decide}}
def NO(n:à)(h:n<=1000):(n<=Æ)=True:=eq_true (Xk (B9 h))
theorem Ext.of(h:∀ a,(H a).isSome=L->H' a=H a):Ext H H':={h,λ K a xs q=>by
 let s:nM H H':=λ b o e=>(h b (by rw[e];rfl)).trans e;exact s.seq q}
theorem Ext.same(h:Ext H H'):nM H H':=λ b o e=>(h.1 b (by rw[e];rfl)).trans e
theorem nM.ext(h:nM H H'):Ext H H':=Ext.of λ a q=>by
 cases e:H a with
 | none=>rw[e] at q;cases q
 | some o=>exact h a o e
def Ext.refl(H:Hp):Ext H H:=(nM.refl H).ext
def Ext.trans{H2:Hp}(a:Ext H H1)(b:Ext H1 H2):Ext H H2:=(a.same.trans b.same).ext
def Ext.new(h:H p=Y):Ext H (upd H p o):=(Fu h).ext
theorem Ext.put(a:Ext H H1)(h:H p=Y):Ext H (upd H1 p o):=nM.ext λ b u e=>by
 rw[ah (bz e h)];exact a.same b u e
def Ext.free(a:Ext H H1)(h:H1 p=Y):H p=Y:=a.same.free h
def Ext.at(a:Ext H H1)(h:H p=U o):H1 p=U o:=a.same _ _ h
theorem KU{i:B}{k:V->Prop}(h0:0<=i)(h1:i<xs.length)(h:∀ v∈xs,k v):aM (atI xs i) k:=by
 let(v,e,m):=Jm xs i h0 h1;rw[e];exact h v m
def UL(CX:CXT)(P:Ì)(w:Ï)(K:Å)(mg:Ã->Ü O)(base:Ð)(N:G Ã)(qual:Ã)(scope:Scope)(f:Z)(cd:O)(A:Î)(outer:G Env)(s:À)(H:Hp)(E:XK):(Ae cb CX P w K mg base N qual scope f cd A outer s H E).K=K:=rfl
def fb(h:X.K=K):bK X (.builtin "isinstance") (QN K):=h ▸ Eg
theorem jI:∀ {a b:G Char},a.map Char.toNat=b.map Char.toNat->a=b
 | [],[],_=>rfl
 | [],_::_,h=>by cases h
 | _::_,[],h=>by cases h
 | x::r,y::q,h=>by
  simp only[Vs,YF] at h
  let e:x=y:=by
   let z:x.val.toNat=y.val.toNat:=h.1;exact Char.ext (UInt32.toNat_inj.mp z)
  rw[e,jI h.2]
theorem tQ(a b:String):(Ô a=Ô b)=(a=b):=by
 refine propext {λ h=>?_,λ h=>by rw[h]};rw[Str.ofString_eq_toList,Str.ofString_eq_toList] at h;let e:(a.toList.map Char.toNat).toArray=(b.toList.map Char.toNat).toArray:=VQ Str.cps h;let e2:=jI (VQ Array.toList e);exact String.ext e2
theorem xw(h:Õ K C=L):(W.clsIn K C).isSome=L:=by
 let(cd,hc,_):=W.any_some h;rw[hc];rfl
theorem Mf{A:Z}(h1:Õ K C=L)(h2:Ú K (.ref C)=U (.type "type"))(h3:W.subIn K (.ref A) (.ref C)=U L):Ö K (.ref A) (.ref C)=U L:=by
 unfold Ö;split
 ·rfl
 ·show (if _ then _ else _)=_
  rw[xw h1,h2,Ve (by decide),h3]
theorem Qo{A:Z}(h0:(A == C)=Â)(h1:Õ K C=L)(h2:Ú K (.ref C)=U (.type "type"))(h3:W.subIn K (.ref A) (.ref C)=U Â):Ö K (.ref A) (.ref C)=U Â:=by
 unfold Ö;rw[if_neg (by intro z;let e:A=C:=Value.ref.inj (beq_iff_eq.mp z);rw[e] at h0;simp at h0)]
 show (if _ then _ else _)=_
 rw[xw h1,h2,Ve (by decide),h3]
theorem Qn{A:Z}{n:String}{b:Ý}(h1:W.kitMeta n=L)(h3:W.subIn K (.ref A) (.type n)=U b):Ö K (.ref A) (.type n)=U b:=by
 unfold Ö;rw[if_neg (by intro z;let e:=beq_iff_eq.mp z;cases e)]
 show (if _ then _ else _)=_
 rw[Ve h1,h3]
def isW(H:Hp):V->Ü Ý
 | .int _=>U L
 | .bl _=>U Â
 | .non=>U Â
 | .str _=>U Â
 | .ref p=>((H p).bind tyO).map λ _=>Â
 | _=>Y
def Ho(H:Hp)(i:B):isW H (.int i)=U L:=rfl
def Mj(H:Hp)(i:Ý):isW H (.bl i)=U Â:=rfl
def Hn(H:Hp):isW H .non=U Â:=rfl
def Hl(H:Hp)(i:Ã):isW H (.str i)=U Â:=rfl
theorem lO(H:Hp)(p:Z):isW H (.ref p)=((H p).bind tyO).map λ _=>Â:=rfl
theorem pz{b:Ý}(h:isW H (.ref p)=U b):b=Â/\∃ o,H p=U o/\(tyO o=U "list" \/ tyO o=U "tuple" \/ tyO o=U "dict"):=by
 rw[lO] at h
 cases e:H p with
 | none=>rw[e] at h;cases h
 | some o=>
  rw[e] at h;let h':(tyO o).map (λ _=>Â)=U b:=h
  cases e2:tyO o with
  | none=>rw[e2] at h';cases h'
  | some t=>
   rw[e2] at h';cases h';refine{J,o,J,?_}
   cases o with
   | lst xs=>exact .inl J
   | tup xs=>exact .inr (.inl J)
   | dK xs=>exact .inr (.inr J)
   | dT xs=>exact .inr (.inr J)
   | frz ob u=>cases u with
    | lst xs=>exact .inl J
    | _=>cases e2
   | _=>cases e2
theorem gw{o:Ü α}{k k':α->Prop}(m:∀ x,k x->k' x)(h:aM o k):aM o k':=by
 let(x,e,q):=aq h;rw[e];exact m x q
theorem xr:∀ {ns ms:G B},ns.map V.int=ms.map V.int->ns=ms
 | [],[],_=>rfl
 | [],_::_,h=>by cases h
 | _::_,[],h=>by cases h
 | i::r,j::t,h=>by
  simp only[Vs,YF,V.int.injEq] at h;rw[h.1,xr h.2]
def ur(F:G B->Prop):G V->Prop:=λ xs=>∃ ns,xs=ns.map V.int/\F ns
theorem LK(F:G B->Prop)(ns:G B):ur F (ns.map V.int)=F ns:=propext {λ ⟨ms,e,h⟩=>by rw[xr e];exact h,λ h=>{(ns),J,h}}
def xK(i j:B)(h:i.natAbs<2 ^ 256)(h':j.natAbs<2 ^ 256):Ke i j=True:=eq_true {(h),h'}
theorem HK(xs:G V)(z:B)(h:0<=z):lU xs Y (U z)=xs.take z.toNat:=by
 unfold lU;rw[HT.sIx_none,List.drop_zero,Nat.sub_zero];let(n,rfl):=Int.eq_ofNat_of_zero_le h;rw[HT.sIx_nat]
 show _=xs.take n
 rcases Nat.le_total n xs.length with q|q
 ·rw[Nat.min_eq_left q]
 ·rw[Nat.min_eq_right q,Ww (U6 _),Ww q]
def UG(lo hi:Ü B)(H:Hp)(Q:VK):G V->Prop:=λ xs=>∀ p,H p=Y->Q (.ref p) (upd H p (.lst (lU xs lo hi)))
def To:V->Ü B->Ü B->Hp->VK->Prop:=λ x lo hi H Q=>match x with
 | .ref a=>aM (aQ H a) (UG lo hi H Q)
 | _=>False
theorem Um:SlR X To:=Bj.mono λ x lo hi H Q h=>by
 unfold To at h;split at h
 ·rename_i a;let(xs,e,q):=aq h;exact{a,xs,J,SqL.of (cI e),q}
 ·exact h.elim
def Ry(r:V->Ü B->Ü B->Hp->VK->Prop)(x:V)(l:Ü B)(Q:VK):Ü B->Hp->Prop:=λ u H=>r x l u H Q
def PC(r:V->Ü B->Ü B->Hp->VK->Prop)(x:V)(l:Ü B)(Q:VK)(u:Ü B)(H:Hp):Ry r x l Q u H=r x l u H Q:=rfl
def Rz(r:V->Ü B->Ü B->Hp->VK->Prop)(th:TO)(σ:St)(x:V)(Q:VK):Ü B->Hp->Prop:=λ l H=>th σ H (Ry r x l Q)
def PD(r:V->Ü B->Ü B->Hp->VK->Prop)(th:TO)(σ:St)(x:V)(Q:VK)(l:Ü B)(H:Hp):Rz r th σ x Q l H=th σ H (Ry r x l Q):=rfl
def Tz(r:V->Ü B->Ü B->Hp->VK->Prop)(tl th:TO)(σ:St)(Q:VK):VK:=λ x H=>tl σ H (Rz r th σ x Q)
def PF(r:V->Ü B->Ü B->Hp->VK->Prop)(tl th:TO)(σ:St)(Q:VK)(x:V)(H:Hp):Tz r tl th σ Q x H=tl σ H (Rz r th σ x Q):=rfl
def Sj(r:V->Ü B->Ü B->Hp->VK->Prop)(te:TE)(tl th:TO)(σ:St)(H:Hp)(Q:VK):tSl r te tl th σ H Q=te σ H (Tz r tl th σ Q):=rfl
def Cw(σ:St)(H:Hp)(Q:Ü B->Hp->Prop):Bh σ H Q=Q Y H:=rfl
def NR(Q:Ü B->Hp->Prop):VK:=λ x H=>∃ i,x=.int i/\Q (U i) H
theorem LD(Q:Ü B->Hp->Prop)(i:B)(H:Hp):NR Q (.int i) H=Q (U i) H:=propext {λ ⟨_,e,q⟩=>by cases e;exact q,λ q=>{(i),J,q}}
def K6(t:TE)(σ:St)(H:Hp)(Q:Ü B->Hp->Prop):Nj t σ H Q=t σ H (NR Q):=rfl
def jZ(o:HO)(H:Hp)(Q:VK):Prop:=∀ (p:Z) (H':Hp),H p=Y->Ext H H'->H' p=U o->Q (.ref p) H'
theorem jZ.to{Q:VK}(h:jZ o H Q):∀ p,H p=Y->Q (.ref p) (upd H p o):=λ p hp=>h p _ hp (Ext.new hp) ag
def kQT(Q:VK):G V->Hp->Prop:=λ xs H=>xs.length<=Æ/\jZ (.tup xs) H Q
def Sy(Q:VK)(xs:G V)(H:Hp):kQT Q xs H=(xs.length<=Æ/\jZ (.tup xs) H Q):=rfl
def kQL(Q:VK):G V->Hp->Prop:=λ xs H=>xs.length<=Æ/\jZ (.lst xs) H Q
def Sz(Q:VK)(xs:G V)(H:Hp):kQL Q xs H=(xs.length<=Æ/\jZ (.lst xs) H Q):=rfl
def Tn(t:TA):TE:=λ σ H Q=>t σ H (kQT Q)
def Pj(t:TA)(σ:St)(H:Hp)(Q:VK):Tn t σ H Q=t σ H (kQT Q):=rfl
def Tp(t:TA):TE:=λ σ H Q=>t σ H (kQL Q)
def Pn(t:TA)(σ:St)(H:Hp)(Q:VK):Tp t σ H Q=t σ H (kQL Q):=rfl
section
variable {t:TA}
theorem KJ{x1}(h:PA X es t):PE X (.Tuple es x1 pos) (Tn t):=by
 intro pins s σ H Q I hq;refine wpAny_Tuple_spliced (thn (h pos pins s σ H _ I hq) λ us s1 ⟨xs,H1,I1,r,z,q⟩=>{by rw[←r.length];exact z,?_});let hf:H1 %[s1|99]=Y:=I1.hok.fresh (U6 _);refine{.ref %[s1|99],upd H1 %[s1|99] (.tup xs),I1.laid (t':=s1.toks) (λ b u e=>U0 _ e) (U6 _) ?_,J,q.to _ hf};exact{z,us,r,{_,Vc _ J,J,_,J}}
theorem KL(h:PA X es t):PE X (.List es pos) (Tp t):=by
 intro pins s σ H Q I hq;refine wpAny_List_spliced (thn (h pos pins s σ H _ I hq) λ us s1 ⟨xs,H1,I1,r,z,q⟩=>{by rw[←r.length];exact z,?_});let hf:H1 %[s1|99]=Y:=I1.hok.fresh (U6 _);refine{.ref %[s1|99],upd H1 %[s1|99] (.lst xs),I1.laid (t':=s1.toks) (λ b u e=>U0 _ e) (U6 _) ?_,J,q.to _ hf};exact{z,us,0,r,Vc _ J}
end
def kN(f:G V->HO)(H:Hp)(Q:VK):G V->Prop:=λ ys=>jZ (f ys) H Q
def UB(f:G V->HO)(H:Hp)(Q:VK)(ys:G V):kN f H Q ys=jZ (f ys) H Q:=rfl
def JN(xs:G V)(H:Hp)(Q:VK):Prop:=match xs with
 | [.ref p]=>aM (dq H p) (kN .lst H Q)
 | _=>False
def Lm(p:Z)(H:Hp)(Q:VK):JN [.ref p] H Q=aM (dq H p) (kN .lst H Q):=rfl
theorem bo:bK X (.type "list") JN:=zB.mono λ xs H Q h=>by
 unfold JN at h;split at h
 ·exact gw (λ _ q=>q.to) h
 ·exact h.elim
def kNT(p:Z)(H:Hp)(Q:VK):HO->Prop:=λ o=>match o with
 | .lst ys=>jZ (.tup ys) H Q
 | .tup _=>Q (.ref p) H
 | _=>False
def LG(p:Z)(H:Hp)(Q:VK)(ys:G V):kNT p H Q (.lst ys)=jZ (.tup ys) H Q:=rfl
def A4(xs:G V)(H:Hp)(Q:VK):Prop:=match xs with
 | [.ref p]=>aM (H p) (kNT p H Q)
 | _=>False
def Gs(p:Z)(H:Hp)(Q:VK):A4 [.ref p] H Q=aM (H p) (kNT p H Q):=rfl
theorem dU:bK X (.type "tuple") A4:=vT.mono λ xs H Q h=>by
 unfold A4 at h;split at h
 ·refine gw (λ o q=>?_) h;unfold kNT at q;unfold JS;split at q
  ·exact q.to
  ·exact q
  ·exact q.elim
 ·exact h.elim
def RC(xs:G V)(H:Hp)(Q:VK):G V->Prop:=λ ys=>xs.length+ys.length<=Æ/\jZ (.lst (xs++ys)) H Q
def PN(xs:G V)(H:Hp)(Q:VK)(ys:G V):RC xs H Q ys=(xs.length+ys.length<=Æ/\jZ (.lst (xs++ys)) H Q):=rfl
def RD(b:Z)(H:Hp)(Q:VK):G V->Prop:=λ xs=>aM (aQ H b) (RC xs H Q)
def PQ(b:Z)(H:Hp)(Q:VK)(xs:G V):RD b H Q xs=aM (aQ H b) (RC xs H Q):=rfl
def Rr:R2:=λ x y H Q=>match x,y with
 | .ref l,.ref b=>aM (aQ H l) (RD b H Q)
 | _,_=>False
def Py(l b:Z)(H:Hp)(Q:VK):Rr (.ref l) (.ref b) H Q=aM (aQ H l) (RD b H Q):=rfl
theorem dJ:OpR X (binaryOp .Add) Rr:=OP.mono λ x y H Q h=>by
 unfold Rr at h;split at h
 ·rw[Ph];exact gw (λ _ q=>gw (λ _ q=>{(q.1),q.2.to}) q) h
 ·exact h.elim
def kNS(lo hi:Ü B)(H:Hp)(Q:VK):G V->Prop:=λ xs=>jZ (.lst (lU xs lo hi)) H Q
def SD(lo hi:Ü B)(H:Hp)(Q:VK)(xs:G V):kNS lo hi H Q xs=jZ (.lst (lU xs lo hi)) H Q:=rfl
def nSl:V->Ü B->Ü B->Hp->VK->Prop:=λ x lo hi H Q=>match x with
 | .ref a=>aM (aQ H a) (kNS lo hi H Q)
 | _=>False
def Sr(a:Z)(lo hi:Ü B)(H:Hp)(Q:VK):nSl (.ref a) lo hi H Q=aM (aQ H a) (kNS lo hi H Q):=rfl
theorem Ip:SlR X nSl:=Um.mono λ x lo hi H Q h=>by
 unfold nSl at h;split at h
 ·exact gw (λ _ q=>q.to) h
 ·exact h.elim
theorem PE.mono{e:Ñ}{t t':TE}(h:PE X e t)(m:∀ σ H Q,t' σ H Q->t σ H Q):PE X e t':=λ pins s σ H Q I q=>h pins s σ H Q I (m _ _ _ q)
def NJ:TE:=λ _ H Q=>jZ (.dK []) H Q
def Lo(σ:St)(H:Hp)(Q:VK):NJ σ H Q=jZ (.dK []) H Q:=rfl
def FR:PE X (.Dict [] [] pos) NJ:=FU.mono λ _ _ _ h=>h.to
section
variable {tg:Ñ}
end
def QW:O->G Z
 | .ref c=>[c]
 | _=>[]
def hAd(A:Î)(h:Ð):G Z:=match A.handled with
 | some (.ref e)=>e::(match h.get? e with
  | some o=>(match o.data with
   | .fields vs=>(match vs[2]? with
    | some v=>QW v
    | none=>[])
   | _=>[])
  | none=>[])
 | _=>[]
theorem wK{vs:Array O}(ha:A.handled=U (.ref e))(he:h.get? e=U oe)(hd:oe.data=.fields vs)(h2:vs[2]? = U cx):hAd A h=e::QW cx:=by
 unfold hAd;simp only[ha,he,hd,h2]
theorem SfN.frame{l l':G Z}(x:SfN A h l)(k:∀ b∈hAd A h,∀ o,h.get? b=U o->h'.get? b=U o)(ne:∀ b o,h.get? b=U o->b ∉ l->b ∉ l'):SfN A h' l'/\hAd A h'=hAd A h:=by
 cases q:A.handled with
 | none=>exact{λ a z=>(by rw[q] at z;cases z),(by simp only[hAd,q])}
 | some v=>
  let(e,oe,rfl,he,(vs,cx,hd,h2,hc),hl):=x v q;let e1:=wK q he hd h2;let k':∀ b∈e::QW cx,∀ o,h.get? b=U o->h'.get? b=U o:=λ b hb=>k b (by rw[e1];exact hb);let a3:=k' e (Vq ..) oe he;let e2:=wK q a3 hd h2;refine{λ a z=>?_,e2.trans e1.symm};rw[q] at z;cases z;refine{e,oe,J,a3,{vs,cx,hd,h2,?_},ne e oe he hl}
  rcases hc with z|⟨c,oc,rfl,q1,q2,q3⟩
  ·exact .inl z
  ·exact .inr {c,oc,J,k' c (by simp[QW]) oc q1,q2,ne c oc q1 q3}
theorem SfN.lt{l:G Z}(x:SfN A h l)(hb:b∈hAd A h):b<h.objs.size:=by
 cases q:A.handled with
 | none=>simp only[hAd,q] at hb;cases hb
 | some v=>
  let(e,oe,rfl,he,(vs,cx,hd,h2,hc),hl):=x v q;rw[wK q he hd h2] at hb
  rcases Vp.mp hb with rfl|hb
  ·exact U5 he
  ·rcases hc with rfl|⟨c,oc,rfl,q1,_⟩
   ·cases hb
   ·rw[Vh.mp hb];exact U5 q1
theorem Inv.sfn_push(I:Inv X pins σ H s)(o:Obj):SfN X.A (s.heap.push o) [%[s|99]]/\hAd X.A (s.heap.push o)=hAd X.A s.heap:=
 (I.sfn [] λ _ z=>nomatch z).frame (λ b _ o q=>U0 _ q) λ b o q _ z=>Þ (U5 q) (by rw[Vh.mp z];exact V5 _)
theorem Walks.listS(xL:G Z)(I ax:Z)(a5:ax≠I)(items:Array O) :
  Walks prog w A I (I::ax::xL) [I] items.size (λ i v=>items[i]? = U v) (λ i g=>(g.IsListIter I ax i/\g.IsList ax items)/\SfN A g [I]/\hAd A g=xL) where
 sub:=λ c hc=>by simp at hc;simp[hc]
 frame:=λ _ _ _ st hk=>{⟨st.1.1.at λ o e=>hk I (by simp) o e,st.1.2.at λ o e=>hk ax (by simp) o e⟩,by
  let z:=st.2.1.frame (l':=[I]) (λ b hb o e=>hk b (by rw[st.2.2] at hb;simp[hb]) o e) λ _ _ _ q=>q;exact{z.1,z.2.trans st.2.2}}
 item:=λ i s Q E hi st hQ=>by
  refine wpAny_pyNext_list_item st.1.1 st.1.2 (x:=items[i]) (by simp[hi]) λ h' a4 a3=>?_
  let nI:∀ b∈hAd A s.heap,b≠I:=λ b hb z=>by
   subst z
   cases q:A.handled with
   | none=>simp only[hAd,q] at hb;cases hb
   | some v=>
    let(e,oe,rfl,he,(vs,cx,hd,h2,hc),hl):=st.2.1 v q;rw[wK q he hd h2] at hb
    rcases Vp.mp hb with z|hb
    ·exact hl (by simp[z])
    ·rcases hc with rfl|⟨c,oc,rfl,q1,_,q3⟩
     ·cases hb
     ·exact q3 (by simp[Vh.mp hb])
  let z:=st.2.1.frame (h':=h') (l':=[I]) (λ b hb o e=>a3.extBut b o (nI b hb) e) λ _ _ _ q=>q;exact hQ _ h' s.toks (by simp[hi]) ⟨⟨a4,st.1.2.extBut a3.extBut a5⟩,z.1,z.2.trans st.2.2⟩ λ b o hb e=>a3.extBut b o (λ h=>hb (by simp[h])) e
 done:=λ s Q E st hQ=>eO st.2.1 st.1.1 st.1.2 (by simp) λ h' a6=>hQ h' s.toks λ b o hb e=>a6 b o (λ h=>hb (by simp[h])) e
 self:=λ _ _ _ _ st hQ=>wpAny_pyIter_listiter st.1.1 hQ
theorem mT:∀ (n:à) (ns:G B) (val:à->B),(∀ i,val i=ns.getD i 0)->n<=ns.length->preSum val n=(ns.take n).sum
 | 0,ns,val,h,hl=>by simp[preSum]
 | n+1,ns,val,h,hl=>by
  let ih:=mT n ns val h (by omega)
  let e:ns.take (n+1)=ns.take n++[ns.getD n 0]:=by
   rw[List.take_succ,U4 (by omega)];simp[List.getD,U4 (show n<ns.length by omega)]
  rw[preSum,ih,e,YB,h];simp
def JT(H:Hp)(Q:VK):G B->Prop:=λ ns=>Q (.int ns.sum) H
def Lv(H:Hp)(Q:VK)(ns:G B):JT H Q ns=Q (.int ns.sum) H:=rfl
def Ri:G V->Hp->VK->Prop:=λ vs H Q=>match vs with
 | [.ref p]=>aM (aQ H p) (ur (JT H Q))
 | _=>False
def Pk(p:Z)(H:Hp)(Q:VK):Ri [.ref p] H Q=aM (aQ H p) (ur (JT H Q)):=rfl
def Jt(F:G Ý->Prop):G V->Prop:=λ xs=>∃ bs,xs=bs.map V.bl/\F bs
theorem BV:∀ {ns ms:G Ý},ns.map V.bl=ms.map V.bl->ns=ms
 | [],[],_=>rfl
 | [],_::_,h=>by cases h
 | _::_,[],h=>by cases h
 | i::r,j::t,h=>by
  simp only[Vs,YF,V.bl.injEq] at h;rw[h.1,BV h.2]
theorem Qa(F:G Ý->Prop)(bs:G Ý):Jt F (bs.map V.bl)=F bs:=propext {λ ⟨ms,e,h⟩=>by rw[BV e];exact h,λ h=>{(bs),J,h}}
def J5(H:Hp)(Q:VK):G Ý->Prop:=λ bs=>Q (.bl (bs.all id)) H
def LZ(H:Hp)(Q:VK)(bs:G Ý):J5 H Q bs=Q (.bl (bs.all id)) H:=rfl
def Rm:G V->Hp->VK->Prop:=λ vs H Q=>match vs with
 | [.ref p]=>aM (aQ H p) (Jt (J5 H Q))
 | _=>False
def Pr(p:Z)(H:Hp)(Q:VK):Rm [.ref p] H Q=aM (aQ H p) (Jt (J5 H Q)):=rfl
theorem mK:bK X (.builtin "sum") Ri:=by
 intro pins s σ H vs us Q I r h;unfold Ri at h;split at h
 ·rename_i p;let(xs,e,ns,rfl,q):=aq h
  cases r with
  | cons r rr=>
   cases rr;cases r;let(its,rv,pl,hz):=I.list (SqL.of (cI e));let a5:∀ b∈hAd X.A s.heap,b<%[s|99]:=λ b hb=>(I.sfn [] λ _ z=>nomatch z).lt hb;let a3:p<%[s|99]:=by let(_,e,_):=pl.isList;exact U5 e
   let hlen:its.length=ns.length:=by have:=rv.length;simpa using this.symm
   refine call_sum_walkAnyS (XM pl.isList {%[s|99],_,_,_,_,_,_,λ i=>ns.getD i 0,J,(Walks.listS (A:=X.A.in1) (hAd X.A s.heap) _ p (Vl a3) its.toArray).toS,{⟨⟨_,Vc _ J,J,J⟩,pl.isList.push _⟩,I.sfn_push _},λ b hb=>?_,λ i v hP=>?_,λ s' t' hm=>?_})
   ·rw[VX]
    rcases Vp.mp hb with rfl|hb
    ·exact XG _
    ·rcases Vp.mp hb with rfl|hb
     ·exact Nat.lt_succ_of_lt a3
     ·exact Nat.lt_succ_of_lt (a5 b hb)
   ·let hv:its[i]? = U v:=by simpa using hP
    let hi:i<ns.length:=by rw[←hlen];exact(U1.mp hv).1
    let(u,hu,ru):=rv.get (i:=i) (x:=.int (ns.getD i 0)) (by rw[Vd,U4 hi];simp[List.getD,U4 hi]);rw[hv] at hu;cases hu;exact ru
   ·let(hp,g,d,tk,os):=s'
    let kp:∀ b o,s.heap.get? b=U o->hp.get? b=U o:=λ b o e=>hm.heap b o (λ a4=>by
     have:b=%[s|99]:=by simpa using a4
     subst this;exact Þ (U5 e) (V5 _)) (U0 _ e)
    let e1:g=s.gens:=hm.gens;let e2:d=s.drawn:=hm.drawn;let e3:os=s.os:=hm.os;subst e1 e2 e3;refine{.int ns.sum,H,I.kept (t':=tk) kp,?_,q};let es:=mT its.toArray.size ns (λ i=>ns.getD i 0) (λ _=>J) (by simp[hlen]);rw[show its.toArray.size=ns.length by simp[hlen],Wy] at es;rw[show its.toArray.size=ns.length by simp[hlen],es];exact{(t'),J}
 ·exact h.elim
theorem EG(bs:G Ý):(Ó bs.length).all (λ i=>bs.getD i Â)=bs.all id:=by
 rw[WW,Wc,Wc];refine{λ h x hx=>?_,λ h i hi=>?_}
 ·let(i,hi,e):=WN hx;have:=h i (Wv.mpr hi)
  simpa [List.getD,U4 hi,e] using this
 ·let a3:=Wv.mp hi;have:=h (bs[i]) (XX a3)
  simpa [List.getD,U4 a3] using this
theorem dR:bK X (.builtin "all") Rm:=by
 intro pins s σ H vs us Q I r h;unfold Rm at h;split at h
 ·rename_i p;let(xs,e,bs,rfl,q):=aq h
  cases r with
  | cons r rr=>
   cases rr;cases r;let(its,rv,pl,hz):=I.list (SqL.of (cI e));let a5:∀ b∈hAd X.A s.heap,b<%[s|99]:=λ b hb=>(I.sfn [] λ _ z=>nomatch z).lt hb;let a4:p<%[s|99]:=by let(_,e,_):=pl.isList;exact U5 e
   let hlen:its.length=bs.length:=by have:=rv.length;simpa using this.symm
   refine call_all_walk (XM pl.isList {%[s|99],_,_,_,_,_,λ i=>bs.getD i Â,J,Walks.listS (A:=X.A.in1) (hAd X.A s.heap) _ p (Vl a4) its.toArray,{⟨⟨_,Vc _ J,J,J⟩,pl.isList.push _⟩,I.sfn_push _},λ i v s' Q' E' hP hQ=>?_,λ h' tk hk=>?_})
   ·let hv:its[i]? = U v:=by simpa using hP
    let hi:i<bs.length:=by rw[←hlen];exact(U1.mp hv).1
    let(u,hu,ru):=rv.get (i:=i) (x:=.bl (bs.getD i Â)) (by rw[Vd,U4 hi];simp[List.getD,U4 hi]);rw[hv] at hu;cases hu;let e2:v=.bool (bs.getD i Â):=ru;subst e2;exact Wh hQ
   ·let kp:∀ b o,s.heap.get? b=U o->h'.get? b=U o:=λ b o e=>hk b o (λ a3=>by
     have:b=%[s|99]:=by simpa using a3
     subst this;exact Þ (U5 e) (V5 _)) (U0 _ e)
    refine{.bl (bs.all id),H,I.kept (t':=tk) kp,?_,q};rw[show its.toArray.size=bs.length by simp[hlen],EG];exact J
 ·exact h.elim
structure Src(prog:Ì)(w:Ï)(it:Z)(fr:G Z)(st:à->Ð->Prop)(val:à->Ü O):Prop where
 mem:it∈fr
 there:∀ k h,st k h->∀ b∈fr,∃ o,h.get? b=U o
 keep:∀ k h h',st k h->(∀ b∈fr,∀ o,h.get? b=U o->h'.get? b=U o)->st k h'
 item:∀ (A:Î) k s v (Q:O->À->Prop) (E:O->À->Prop),st k s.heap->val k=U v->(∀ h',st (k+1) h'->Heap.SameBut it s.heap h'->Q v { s with heap:=h' })->Ç (Ê prog w) A (Builtin.SmallTypes.nextOf (.ref it)) Q E s
 fin:∀ (A:Î) k s (Q:O->À->Prop) (E:O->À->Prop),SfN A s.heap [it]->st k s.heap->val k=Y->(∀ h' e,Heap.ExtBut it s.heap h'->(∃ o,h'.get? e=U o/\o.cls=.type "StopIteration")->E (.ref e) { s with heap:=h' })->Ç (Ê prog w) A (Builtin.SmallTypes.nextOf (.ref it)) Q E s
theorem tS{j t:Z}{xs:Array O}(hs:SfN A s.heap [j])(hj:s.heap.IsListIter j t k)(ht:s.heap.IsList t xs)(hv:xs[k]? = Y)
  (hE:∀ g e,Heap.ExtBut j s.heap g->(∃ o,g.get? e=U o/\o.cls=.type "StopIteration")->E (.ref e) { s with heap:=g }):Ç (Ê prog w) A (Builtin.SmallTypes.nextOf (.ref j)) Q E s:=by
 let(oj,h0,h1,h2):=id hj;let(ot,g0,_,n,g1):=ht;unfold Builtin.SmallTypes.nextOf;refine wpAny_bind (wpAny_callSpecial?_slot (name:=Ô "__next__") hj.typeIs slot_listiter_next (wpAny_call_entry slot_listiter_next hj.typeIs entry_listiter_next ?_ (args_listiter_next _)));refine wpAny_bind (m:=field (.ref j) 0) (wpAny_field h0 h2 (x:=.ref t) J ?_)
 show Ç _ _ (if (Ë t == É)=L then _ else _) _ _ _
 rw[U7 (show ¬ ((.ref t:O) == .none)=L from U9)];refine My (m:=field (.ref j) 1) (Vm h0 h2 (x:=.int k 0) J ?_);refine My (m:=seqItems? (.ref t)) (V8 g0 g1 ?_);simp only[VC,hv];refine My (Xb (My (VJ h0 h2 (by simp) ?_)));let sb:=VB s.heap j (Obj.mapFields (·.setIfInBounds 0 É))
 show Ç _ _ (newExc (.type "StopIteration") [] >>= _) _ _ _
 exact mf (hs.ext (λ b o n q=>(sb.2 b (by simpa using n)).trans q) λ _ z=>nomatch z) λ h' e kp a3=>hE _ _ (λ b o hb q=>kp b o ((sb.2 b hb).trans q)) a3
theorem Fo(it l:Z)(a3:l≠it)(xs:Array O):Src prog w it [it,l] (λ k h=>h.IsListIter it l k/\h.IsList l xs) (λ k=>xs[k]?) where
 mem:=Vq
 there:=λ k h st b hb=>by
  rcases Vp.mp hb with e|hb
  ·let(o,q,_):=st.1;exact{o,by rw[e];exact q}
  ·let(o,q,_):=st.2;exact{o,by rw[Vh.mp hb];exact q}
 keep:=λ k h h' st q=>{st.1.at λ o e=>q it (by simp) o e,st.2.at λ o e=>q l (by simp) o e}
 item:=λ A k s v Q E st hv hQ=>wpAny_nextOf_list_item st.1 st.2 hv λ h' a b=>hQ h' {a,st.2.extBut b.extBut a3} b
 fin:=λ A k s Q E hh st hv hE=>tS hh st.1 st.2 hv hE
section
theorem qT{j t:Z}{xs:Array O}{v:O}(hj:s.heap.IsTupleIter j t k)(ht:s.heap.IsTuple t xs)(hv:xs[k]? = U v)
  (hQ:∀ g,g.IsTupleIter j t (k+1)->Heap.SameBut j s.heap g->Q v { s with heap:=g }):Ç (Ê prog w) A (Builtin.SmallTypes.nextOf (.ref j)) Q E s:=by
 let(oj,h0,h1,h2):=id hj;let(ot,g0,_,n,g1):=ht;unfold Builtin.SmallTypes.nextOf;refine wpAny_bind (wpAny_callSpecial?_slot (name:=Ô "__next__") hj.typeIs F.slot_tuple_iterator_next (wpAny_call_entry F.slot_tuple_iterator_next hj.typeIs F.entry_tuple_iterator_next ?_ (F.args_tuple_iterator_next_1 _)));refine wpAny_bind (m:=field (.ref j) 0) (wpAny_field h0 h2 (x:=.ref t) J ?_)
 show Ç _ _ (if (Ë t == É)=L then _ else _) _ _ _
 rw[U7 (show ¬ ((.ref t:O) == .none)=L from U9)];refine My (m:=field (.ref j) 1) (Vm h0 h2 (x:=.int k 0) J ?_);refine My (m:=seqItems? (.ref t)) (V8 g0 g1 ?_);simp only[VC,hv];refine My (VJ h0 h2 (by simp) (U3 {v,J,U3 (hQ _ {_,Vk _ h0 (VH (VR h2 _)),(Obj.cls_mapFields ..).trans h1,?_} (VB ..))}));rw[VR h2];simp[rawInt]
theorem tR{j t:Z}{xs:Array O}(hs:SfN A s.heap [j])(hj:s.heap.IsTupleIter j t k)(ht:s.heap.IsTuple t xs)(hv:xs[k]? = Y)
  (hE:∀ g e,Heap.ExtBut j s.heap g->(∃ o,g.get? e=U o/\o.cls=.type "StopIteration")->E (.ref e) { s with heap:=g }):Ç (Ê prog w) A (Builtin.SmallTypes.nextOf (.ref j)) Q E s:=by
 let(oj,h0,h1,h2):=id hj;let(ot,g0,_,n,g1):=ht;unfold Builtin.SmallTypes.nextOf;refine wpAny_bind (wpAny_callSpecial?_slot (name:=Ô "__next__") hj.typeIs F.slot_tuple_iterator_next (wpAny_call_entry F.slot_tuple_iterator_next hj.typeIs F.entry_tuple_iterator_next ?_ (F.args_tuple_iterator_next_1 _)));refine wpAny_bind (m:=field (.ref j) 0) (wpAny_field h0 h2 (x:=.ref t) J ?_)
 show Ç _ _ (if (Ë t == É)=L then _ else _) _ _ _
 rw[U7 (show ¬ ((.ref t:O) == .none)=L from U9)];refine My (m:=field (.ref j) 1) (Vm h0 h2 (x:=.int k 0) J ?_);refine My (m:=seqItems? (.ref t)) (V8 g0 g1 ?_);simp only[VC,hv];refine My (Xb (My (VJ h0 h2 (by simp) ?_)));let sb:=VB s.heap j (Obj.mapFields (·.setIfInBounds 0 É))
 show Ç _ _ (newExc (.type "StopIteration") [] >>= _) _ _ _
 exact mf (hs.ext (λ b o n q=>(sb.2 b (by simpa using n)).trans q) λ _ z=>nomatch z) λ h' e kp a3=>hE _ _ (λ b o hb q=>kp b o ((sb.2 b hb).trans q)) a3
theorem Kp(it l:Z)(a3:l≠it)(xs:Array O):Src prog w it [it,l] (λ k h=>h.IsTupleIter it l k/\h.IsTuple l xs) (λ k=>xs[k]?) where
 mem:=Vq
 there:=λ k h st b hb=>by
  rcases Vp.mp hb with e|hb
  ·let(o,q,_):=st.1;exact{o,by rw[e];exact q}
  ·let(o,q,_):=st.2;exact{o,by rw[Vh.mp hb];exact q}
 keep:=λ k h h' st q=>{st.1.at λ o e=>q it (by simp) o e,st.2.at λ o e=>q l (by simp) o e}
 item:=λ A k s v Q E st hv hQ=>qT st.1 st.2 hv λ h' a b=>hQ h' {a,st.2.extBut b.extBut a3} b
 fin:=λ A k s Q E hh st hv hE=>tR hh st.1 st.2 hv hE
structure oA(z TI TO i j:Z)(f g:G Z):Prop where
 ti:TI≠z/\TI≠TO/\TI≠i/\TI≠j
 zt:z≠TO
 zf:z ∉ f
 zg:z ∉ g
 tf:TO ∉ f
 tg:TO ∉ g
 ig:i ∉ g
 jf:j ∉ f
variable {z TI TO i j:Z}{f g:G Z}{ti tj:à->Ð->Prop}{vi vj:à->Ü O}{m:à}{x y a b:O}
def fV{q:Z}{l:G Z}(hp:p∈l)(hq:q ∉ l):p≠q:=λ e=>hq (e ▸ hp)
theorem Src.but{fr:G Z}{st:à->Ð->Prop}{val:à->Ü O}(S:Src prog w it fr st val){c:Z}(q:st k h)(e:Heap.ExtBut c h h')(hc:c ∉ fr):st k h':=
 S.keep k h h' q λ b hb o ho=>e b o (fV hb hc) ho
theorem B4(S:Src prog w i f ti vi)(T:Src prog w j g tj vj)(D:oA z TI TO i j f g)
  (hz:IsZip s.heap z TI TO .none) (a4:IsPair s.heap TI (.ref i) (.ref j)) (a5:IsPair s.heap TO a b) (hi:ti k s.heap) (hj:tj m s.heap) (hx:vi k=U x) (hy:vj m=U y)
  (hQ:∀ h',IsZip h' z TI TO (rawInt %[s|99])->IsPair h' TO x y->ti (k+1) h'->tj (m+1) h'->IsPair h' %[s|99] x y->h'.objs.size=%[s|99]+1->(∀ c o,c ∉ [z,TO,i,j]->s.heap.get? c=U o->h'.get? c=U o)->Q (.ref %[s|99]) { s with heap:=h' }) :
  Ç (Ê prog w) A (Builtin.«zip.__next__» ⟨[.ref z],[]⟩) (λ fin s'=>∃ v,fin=.done (.ret v)/\Q v s') E s:=by
 let iz:i≠z:=fV S.mem D.zf;let jz:j≠z:=fV T.mem D.zg;let a6:i≠TO:=fV S.mem D.tf;let a7:j≠TO:=fV T.mem D.tg;let ij:i≠j:=fV S.mem D.jf;refine wpAny_bind (m:=field (.ref z) 2) (wpAny_field hz J (x:=.bool Â) J ?_);refine wpAny_bind (m:=field (.ref z) 3) (wpAny_field hz J (x:=.ref TI) J (wpAny_bind (wpAny_seqItems a4 J ?_)));refine wpAny_bind (m:=Builtin.SmallTypes.ownedTupleIsFree (.ref z)) ?_;unfold Builtin.SmallTypes.ownedTupleIsFree;refine wpAny_bind (wpAny_field hz J (x:=.none) J (wpAny_pure ?_));simp only[if_true];refine wpAny_bind (wpAny_rule (wpAny_bind (wpAny_field hz J (x:=.ref TO) J (wpAny_bind (wpAny_setField_rec hz (by simp) λ q1 z1 s1=>?_)))));replace z1:IsZip q1 z TI TO .ellipsis:=z1;refine wpAny_bind ?_;simp only[List.zipIdx_cons,List.zipIdx_nil,List.forIn_cons,List.forIn_nil];refine wpAny_bind (wpAny_bind (wpAny_onRaise (wpAny_bind (m:=Builtin.SmallTypes.nextOf (.ref i)) (S.item _ k _ x _ _ (S.but hi s1.extBut D.zf) hx λ q2 i2 s2=>wpAny_pure ?_))));let o2:IsPair q2 TO a b:=s2.extBut _ _ a6.symm (s1.extBut _ _ D.zt.symm a5);refine wpAny_bind (wpAny_seqItems o2 J (wpAny_bind (wpAny_updateSeq_pair o2 λ q3 o3 s3=>wpAny_bind (wpAny_letGo (wpAny_pure ?_)))));replace o3:IsPair q3 TO x b:=o3;let j3:tj m q3:=T.but (T.but (T.but hj s1.extBut D.zg) s2.extBut D.ig) s3.extBut D.tg;refine wpAny_bind (wpAny_bind (wpAny_onRaise (wpAny_bind (m:=Builtin.SmallTypes.nextOf (.ref j)) (T.item _ m _ y _ _ j3 hy λ q4 j4 s4=>wpAny_pure ?_))));let o4:IsPair q4 TO x b:=s4.extBut _ _ a7.symm o3;refine wpAny_bind (wpAny_seqItems o4 J (wpAny_bind (wpAny_updateSeq_pair o4 λ q5 o5 s5=>wpAny_bind (wpAny_letGo (wpAny_pure (wpAny_pure ?_))))));replace o5:IsPair q5 TO x y:=o5;refine wpAny_bind (wpAny_seqItems o5 J (wpAny_bind (wpAny_newTuple ?_)));let sz:q5.objs.size=%[s|99]:=by rw[s5.1,s4.1,s3.1,s2.1,s1.1]
 let z5:IsZip q5 z TI TO .ellipsis:=s5.extBut _ _ D.zt (s4.extBut _ _ jz.symm (s3.extBut _ _ D.zt (s2.extBut _ _ iz.symm z1)))
 let k5:∀ c o,c ∉ [z,TO,i,j]->s.heap.get? c=U o->q5.get? c=U o:=λ c o hc e=>by
  simp only[Vp,VD,Wa,X0] at hc;exact s5.extBut _ _ hc.2.1 (s4.extBut _ _ hc.2.2.2 (s3.extBut _ _ hc.2.1 (s2.extBut _ _ hc.2.2.1 (s1.extBut _ _ hc.1 e))))
 let i5:ti (k+1) q5:=S.but (S.but (S.but i2 s3.extBut D.tf) s4.extBut D.jf) s5.extBut D.tf;let j5:tj (m+1) q5:=T.but j4 s5.extBut D.tg;let a3:z<q5.objs.size:=Heap.lt_size z5;refine wpAny_bind (m:=Builtin.SmallTypes.ownedTupleHandOut (.ref z) (.ref q5.objs.size)) ?_;unfold Builtin.SmallTypes.ownedTupleHandOut;let z6:IsZip (q5.push { cls:=.type "tuple",data:=.seq #[x,y] }) z TI TO .ellipsis:=Heap.get?_push_of_some _ z5;refine wpAny_bind (wpAny_setField_rec z6 (by simp) λ q7 z7 s7=>?_);replace z7:IsZip q7 z TI TO (rawInt q5.objs.size):=z7;refine wpAny_setField_rec z7 (by simp) λ q8 z8 s8=>?_;replace z8:IsZip q8 z TI TO (rawInt q5.objs.size):=z8;let up:∀ c o,c≠z->q5.get? c=U o->q8.get? c=U o:=λ c o hc e=>s8.extBut _ _ hc (s7.extBut _ _ hc (Heap.get?_push_of_some _ e));let t8:IsPair q8 q5.objs.size x y:=s8.extBut _ _ (Nat.ne_of_gt a3) (s7.extBut _ _ (Nat.ne_of_gt a3) (Heap.get?_push_size _ J));let n8:q8.objs.size=q5.objs.size+1:=by rw[s8.1,s7.1,Heap.size_push]
 rw[sz] at z8 t8 n8;refine U3 {_,J,?_}
 show Q (.ref q5.objs.size) _
 rw[sz];exact hQ q8 z8 (up _ _ D.zt.symm o5) (S.keep _ _ _ i5 λ c hc o e=>up c o (fV hc D.zf) e) (T.keep _ _ _ j5 λ c hc o e=>up c o (fV hc D.zg) e) t8 n8 λ c o hc e=>up c o (λ q=>hc (by simp[q])) (k5 c o hc e)
theorem Fb(hs:SfN A s.heap [z,TO,i,j])(S:Src prog w i f ti vi)(T:Src prog w j g tj vj)(D:oA z TI TO i j f g){Q:Fin->À->Prop}
  (hz:IsZip s.heap z TI TO .none) (a4:IsPair s.heap TI (.ref i) (.ref j)) (a5:IsPair s.heap TO a b) (hi:ti k s.heap) (hj:tj m s.heap) (a6:vi k=Y\/vj m=Y)
  (hE:∀ h' e,(∀ c o,c ∉ [z,TO,i,j]->s.heap.get? c=U o->h'.get? c=U o)->(∃ o,h'.get? e=U o/\o.cls=.type "StopIteration")->E (.ref e) { s with heap:=h' }) :
  Ç (Ê prog w) A (Builtin.«zip.__next__» ⟨[.ref z],[]⟩) Q E s:=by
 let iz:i≠z:=fV S.mem D.zf;let jz:j≠z:=fV T.mem D.zg;let a7:i≠TO:=fV S.mem D.tf;let a8:j≠TO:=fV T.mem D.tg;refine wpAny_bind (m:=field (.ref z) 2) (wpAny_field hz J (x:=.bool Â) J ?_);refine wpAny_bind (m:=field (.ref z) 3) (wpAny_field hz J (x:=.ref TI) J (wpAny_bind (wpAny_seqItems a4 J ?_)));refine wpAny_bind (m:=Builtin.SmallTypes.ownedTupleIsFree (.ref z)) ?_;unfold Builtin.SmallTypes.ownedTupleIsFree;refine wpAny_bind (wpAny_field hz J (x:=.none) J (wpAny_pure ?_));simp only[if_true];refine wpAny_bind (wpAny_rule (wpAny_bind (wpAny_field hz J (x:=.ref TO) J (wpAny_bind (wpAny_setField_rec hz (by simp) λ q1 z1 s1=>?_)))));replace z1:IsZip q1 z TI TO .ellipsis:=z1;refine wpAny_bind ?_;simp only[List.zipIdx_cons,List.zipIdx_nil,List.forIn_cons,List.forIn_nil];refine wpAny_bind (wpAny_bind (wpAny_onRaise (wpAny_bind (m:=Builtin.SmallTypes.nextOf (.ref i)) ?_)))
 cases hx:vi k with
 | none=>
  refine S.fin _ k _ _ _ (hs.ext (λ b o n q=>s1.extBut _ _ (λ y=>n (by simp[y])) q) (by simp)) (S.but hi s1.extBut D.zf) hx λ q2 e s2 ⟨oe,he,a3⟩=>?_;let z2:IsZip q2 z TI TO .ellipsis:=s2 _ _ iz.symm z1;let ez:e≠z:=λ q=>by subst q;rw[z2] at he;cases he;simp at a3
  refine WD z2 (by simp) λ q3 _ s3=>hE q3 e (λ c o hc q=>?_) {oe,s3.extBut _ _ ez he,a3};simp only[Vp,VD,Wa,X0] at hc;exact s3.extBut _ _ hc.1 (s2 _ _ hc.2.2.1 (s1.extBut _ _ hc.1 q))
 | some x=>
  let hy:vj m=Y:=a6.resolve_left (by rw[hx];exact Option.some_ne_none x);refine S.item _ k _ x _ _ (S.but hi s1.extBut D.zf) hx λ q2 i2 s2=>U3 ?_;let o2:IsPair q2 TO a b:=s2.extBut _ _ a7.symm (s1.extBut _ _ D.zt.symm a5);refine My (V8 o2 J (My (Yg o2 λ q3 o3 s3=>My (wpAny_letGo (U3 ?_)))));let j3:tj m q3:=T.but (T.but (T.but hj s1.extBut D.zg) s2.extBut D.ig) s3.extBut D.tg;refine My (My (Yy (My (m:=Builtin.SmallTypes.nextOf (.ref j)) (T.fin _ m _ _ _ (hs.ext (λ b o n q=>s3.extBut _ _ (λ y=>n (by simp[y])) (s2.extBut _ _ (λ y=>n (by simp[y])) (s1.extBut _ _ (λ y=>n (by simp[y])) q))) (by simp)) j3 hy λ q4 e s4 ⟨oe,he,a3⟩=>?_))));let z4:IsZip q4 z TI TO .ellipsis:=s4 _ _ jz.symm (s3.extBut _ _ D.zt (s2.extBut _ _ iz.symm z1));let ez:e≠z:=λ q=>by subst q;rw[z4] at he;cases he;simp at a3
  refine WD z4 (by simp) λ q5 _ s5=>hE q5 e (λ c o hc q=>?_) {oe,s5.extBut _ _ ez he,a3};simp only[Vp,VD,Wa,X0] at hc;exact s5.extBut _ _ hc.1 (s4 _ _ hc.2.2.2 (s3.extBut _ _ hc.2.1 (s2.extBut _ _ hc.2.2.1 (s1.extBut _ _ hc.1 q))))
theorem nW(S:Src prog w i f ti vi)(T:Src prog w j g tj vj)(D:oA z TI TO i j f g){Q:Ü O->À->Prop}
  (hz:IsZip s.heap z TI TO .none) (a3:IsPair s.heap TI (.ref i) (.ref j)) (a4:IsPair s.heap TO a b) (hi:ti k s.heap) (hj:tj m s.heap) (hx:vi k=U x) (hy:vj m=U y)
  (hQ:∀ h',IsZip h' z TI TO (rawInt %[s|99])->IsPair h' TO x y->ti (k+1) h'->tj (m+1) h'->IsPair h' %[s|99] x y->h'.objs.size=%[s|99]+1->(∀ c o,c ∉ [z,TO,i,j]->s.heap.get? c=U o->h'.get? c=U o)->Q (U (.ref %[s|99])) { s with heap:=h' }) :
  Ç (Ê prog w) A (pyNext (.ref z)) Q E s:=by
 let ty:s.TypeIs (.ref z) "zip":={_,hz,J};unfold pyNext;exact wpAny_bind (wpAny_attempt (wpAny_callSpecial?_slot (name:=Ô "__next__") ty F.slot_zip_next (wpAny_call_entry F.slot_zip_next ty F.entry_zip_next (B4 S T D hz a3 a4 hi hj hx hy λ h' c1 c2 c3 c4 c5 c6 c7=>wpAny_pure (hQ h' c1 c2 c3 c4 c5 c6 c7)) (F.args_zip_next_1 _))))
theorem qt(hs:SfN A s.heap [z,TO,i,j])(S:Src prog w i f ti vi)(T:Src prog w j g tj vj)(D:oA z TI TO i j f g){Q:Ü O->À->Prop}
  (hz:IsZip s.heap z TI TO .none) (a3:IsPair s.heap TI (.ref i) (.ref j)) (a4:IsPair s.heap TO a b) (hi:ti k s.heap) (hj:tj m s.heap) (a5:vi k=Y\/vj m=Y)
  (hQ:∀ h',(∀ c o,c ∉ [z,TO,i,j]->s.heap.get? c=U o->h'.get? c=U o)->Q Y { s with heap:=h' }):Ç (Ê prog w) A (pyNext (.ref z)) Q E s:=by
 let ty:s.TypeIs (.ref z) "zip":={_,hz,J};unfold pyNext;refine wpAny_bind (wpAny_attempt (wpAny_callSpecial?_slot (name:=Ô "__next__") ty F.slot_zip_next (wpAny_call_entry F.slot_zip_next ty F.entry_zip_next (Fb (show SfN A.in1 s.heap _ from hs) S T D hz a3 a4 hi hj a5 λ h' e kp he=>?_) (F.args_zip_next_1 _))));let(o,ho,hc):=he;exact wpAny_bind (wpAny_isInstance (T := "StopIteration") (b:=L) {(o),ho,hc} isSubtype_stop (wpAny_pure (hQ _ kp)))
end
def SeqAt(h:Ð)(k:Ý)(l:Z)(xs:Array O):Prop:=match k with
 | true=>h.IsTuple l xs
 | false=>h.IsList l xs
def eC(h:Ð)(k:Ý)(it l:Z)(n:à):Prop:=match k with
 | true=>h.IsTupleIter it l n
 | false=>h.IsListIter it l n
def E4(k:Ý)(l:Z):Obj:=match k with
 | true=>{ cls:=.type "tuple_iterator",data:=.fields #[.ref l,.int 0 0] }
 | false=>{ cls:=.type "list_iterator",data:=.fields #[.ref l,.int 0 0] }
theorem SeqAt.at{k:Ý}{xs:Array O}(q:SeqAt h k l xs)(e:∀ o,h.get? l=U o->h'.get? l=U o):SeqAt h' k l xs:=by
 cases k
 ·exact Heap.IsList.at q e
 ·exact Heap.IsTuple.at q e
theorem eC.at{k:Ý}(q:eC h k it l n)(e:∀ o,h.get? it=U o->h'.get? it=U o):eC h' k it l n:=by
 cases k
 ·exact Heap.IsListIter.at q e
 ·exact Heap.IsTupleIter.at q e
theorem eC.obj{k:Ý}(q:eC h k it l n):∃ o fs,h.get? it=U o/\o.data=.fields fs:=by
 cases k
 ·let(o,e,_,d):=(show h.IsListIter it l n from q);exact{o,_,e,d}
 ·let(o,e,_,d):=(show h.IsTupleIter it l n from q);exact{o,_,e,d}
theorem wA(k:Ý)(it l:Z)(a3:l≠it)(xs:Array O):Src prog w it [it,l] (λ n h=>eC h k it l n/\SeqAt h k l xs) (λ n=>xs[n]?):=by
 cases k
 ·exact Fo it l a3 xs
 ·exact Kp it l a3 xs
theorem BF{k:Ý}{xs:Array O}(h:SeqAt s.heap k l xs)(hQ:Q (.ref %[s|99]) { s with heap:=s.heap.push (E4 k l) }):Ç (Ê prog w) A (pyIter (.ref l)) Q E s:=by
 cases k
 ·exact XM h hQ
 ·exact wpAny_pyIter_tuple h hQ
abbrev zq1(ka:Ý)(a:Z)(h:Ð):Ð:=h.push (E4 ka a)
abbrev zq2(ka kb:Ý)(a b:Z)(h:Ð):Ð:=(zq1 ka a h).push (E4 kb b)
abbrev zq3(ka kb:Ý)(a b:Z)(h:Ð):Ð:=(zq2 ka kb a b h).push { cls:=.type "tuple",data:=.seq #[.ref h.objs.size,.ref (zq1 ka a h).objs.size] }
abbrev zq4(ka kb:Ý)(a b:Z)(h:Ð):Ð:=(zq3 ka kb a b h).push { cls:=.type "tuple",data:=.seq #[.none,.none] }
abbrev zq5(ka kb:Ý)(a b:Z)(h:Ð):Ð:=(zq4 ka kb a b h).push { cls:=.type "zip",data:=.fields #[.none,.bool Â,.bool Â,.ref (zq2 ka kb a b h).objs.size,.ref (zq3 ka kb a b h).objs.size] }
theorem B3(ka kb:Ý)(a b:Z)(xs ys:Array O):Meets (Builtin.«zip.__new__» ⟨[.type "zip",.ref a,.ref b],[]⟩) (λ _ R s=>SeqAt s.heap ka a xs/\SeqAt s.heap kb b ys/\R (.ok (.ret (.ref (zq4 ka kb a b s.heap).objs.size))) { s with heap:=zq5 ka kb a b s.heap }):=
 .of_wp λ prog w A R s h=>by
  let(hp,g,d,tk,os):=s;let(h1,h2,h):=h;let a3:=sub_zip;let q1:SeqAt (Shared.heap {(hp),g,d,tk,os}) ka a xs:=h1;let q2:SeqAt (Shared.heap {hp.push (E4 ka a),g,d,tk,os}) kb b ys:=h2.at λ o e=>U0 _ e
  wp_walk using BF q1,BF q2
  exact{_,J,h}
theorem MF{a:Z}{xs ys:Array O}(h1:SeqAt s.heap ka a xs)(h2:SeqAt s.heap kb b ys)
  (h:∀ h' n,n=%[s|99]->IsZip h' (n+4) (n+2) (n+3) .none->IsPair h' (n+2) (.ref n) (.ref (n+1))->IsPair h' (n+3) .none .none->eC h' ka n a 0->eC h' kb (n+1) b 0->h'.objs.size=n+5->(∀ c o,s.heap.get? c=U o->h'.get? c=U o)->Q (.ref (n+4)) { s with heap:=h' }) :
  Ç (Ê prog w) A (call (.type "zip") [.ref a,.ref b]) Q E s:=by
 refine callType_new F.called_zip (by decide) (F.typeCall_zip_2 _ _) (F.newCall_zip_2 _ _) (λ ob=>F.args_object_init_3 ob _ _) F.entry_zip_new (B3 ka kb a b xs ys) {h1,h2,?_};let n1:(zq1 ka a s.heap).objs.size=%[s|99]+1:=VX ..;let n2:(zq2 ka kb a b s.heap).objs.size=%[s|99]+2:=by rw[VX,n1]
 let n3:(zq3 ka kb a b s.heap).objs.size=%[s|99]+3:=by rw[VX,n2]
 let n4:(zq4 ka kb a b s.heap).objs.size=%[s|99]+4:=by rw[VX,n3]
 let n5:(zq5 ka kb a b s.heap).objs.size=%[s|99]+5:=by rw[VX,n4]
 let f1:eC (zq1 ka a s.heap) ka %[s|99] a 0:=by
  cases ka<;>exact{_,Vc _ J,J,J}
 let f2:eC (zq2 ka kb a b s.heap) kb (zq1 ka a s.heap).objs.size b 0:=by
  cases kb<;>exact{_,Vc _ J,J,J}
 let u2:∀ c o,(zq2 ka kb a b s.heap).get? c=U o->(zq5 ka kb a b s.heap).get? c=U o:=λ c o e=>U0 _ (U0 _ (U0 _ e));let g5:(zq5 ka kb a b s.heap).get? (zq4 ka kb a b s.heap).objs.size=U _:=Vc _ J;let g4:(zq5 ka kb a b s.heap).get? (zq3 ka kb a b s.heap).objs.size=U _:=U0 _ (Vc _ J);let g3:(zq5 ka kb a b s.heap).get? (zq2 ka kb a b s.heap).objs.size=U _:=U0 _ (U0 _ (Vc _ J));let e1:eC (zq5 ka kb a b s.heap) ka %[s|99] a 0:=f1.at λ o e=>u2 _ o (U0 _ e);let e2:eC (zq5 ka kb a b s.heap) kb (zq1 ka a s.heap).objs.size b 0:=f2.at λ o e=>u2 _ o e
 show _/\_
 rw[n2,n3,n4] at g5;rw[n1,n2] at g3;rw[n3] at g4;rw[n1] at e2;rw[n4];exact{⟨_,g5,J⟩,h _ _ J g5 g3 g4 e1 e2 n5 λ c o e=>u2 c o (U0 _ (U0 _ e))}
section
variable {σ:G (Ü V)}
theorem Inv.turnNew{ch:G Z}{n:Z}(I:Inv X pins σ H s)(a3:∀ b∈ch,yc X pins H b)(k:∀ b ob,b ∉ ch->s.heap.get? b=U ob->h'.get? b=U ob)(hn:%[s|99]<=n)(new:bL X.prog X.w (upd H n o) h' n o) :
  Inv X pins σ (upd H n o) { s with heap:=h',toks:=t' }:=by
 let fn:=I.hok.fresh hn;let up:∀ {b u},H b=U u->upd H n o b=U u:=λ {b u} e=>by rw[ah (bz e fn)];exact e
 let a4:∀ {b u},H b=U u->b ∉ ch:=λ {b u} e z=>by rw[(a3 b z).1] at e;cases e
 refine I.step (g':=s.gens) (d':=s.drawn) (ch:=ch) (λ b hb=>{(a3 b hb).2.2.2.1,(a3 b hb).2.1,(a3 b hb).2.2.2.2.1,(a3 b hb).2.2.2.2.2}) (λ b ob _ _ hc e _=>k b ob hc e) (λ b ob _ _ hc e _=>{ob.slots,k b ob hc e})
  (λ b ob _ e q=>?_) (λ b ob hc e=>{ob,k b ob hc e}) (λ _ _ e=>up e) (λ _ _ _ e=>up e) (λ b ps e=>{#[],by rw[up e];simp}) (λ m hm=>?_) (λ b u e=>?_) I.bare
 ·rw[ah (Vl (Vg (U5 e) hn))];exact q
 ·let(ol,es,ep,ho,r):=hm;exact{ol,es,ep,k _ ol (λ z=>(a3 _ z).2.1 J) ho,r}
 ·by_cases hb:b=n
  ·subst hb;rw[ag] at e;cases e;exact new
  ·rw[ah hb] at e;refine(I.hok b u e).stay (λ c v hc q=>k c v ?_ q) (λ c q=>up q) (λ c y q=>up q) λ c xs q=>up q
   rcases hc with rfl|hc
   ·exact a4 e
   ·exact a4 hc
theorem Inv.turnL{ch:G Z}(I:Inv X pins σ H s)(a3:∀ b∈ch,yc X pins H b)(k:∀ b ob,b ∉ ch->s.heap.get? b=U ob->h'.get? b=U ob):Inv X pins σ H { s with heap:=h',toks:=t' }:=by
 let a4:∀ {b u},H b=U u->b ∉ ch:=λ {b u} e z=>by rw[(a3 b z).1] at e;cases e
 refine I.step (g':=s.gens) (d':=s.drawn) (ch:=ch) (λ b hb=>{(a3 b hb).2.2.2.1,(a3 b hb).2.1,(a3 b hb).2.2.2.2.1,(a3 b hb).2.2.2.2.2}) (λ b ob _ _ hc e _=>k b ob hc e) (λ b ob _ _ hc e _=>{ob.slots,k b ob hc e})
  (λ _ _ _ _ q=>q) (λ b ob hc e=>{ob,k b ob hc e}) (λ _ _ e=>e) (λ _ _ _ e=>e) (λ b ps e=>{#[],by rw[e];simp}) (λ m hm=>?_) (λ b u e=>?_) I.bare
 ·let(ol,es,ep,ho,r):=hm;exact{ol,es,ep,k _ ol (λ z=>(a3 _ z).2.1 J) ho,r}
 ·refine(I.hok b u e).stay (λ c v hc q=>k c v ?_ q) (λ _ q=>q) (λ _ _ q=>q) λ _ _ q=>q
  rcases hc with rfl|hc
  ·exact a4 e
  ·exact a4 hc
end
def SqK(k:Ý)(H:Hp)(a:Z)(xs:G V):Prop:=match k with
 | true=>H a=U (.tup xs)
 | false=>H a=U (.lst xs)
theorem SqK.ne{k:Ý}{a:Z}(h:SqK k H a xs)(e:H b=Y):a≠b:=λ z=>by
 subst z;cases k
 ·rw[show H a=U (.lst xs) from h] at e;cases e
 ·rw[show H a=U (.tup xs) from h] at e;cases e
theorem Inv.sq{k:Ý}{a:Z}(I:Inv X pins σ H s)(h:SqK k H a xs):∃ its:G O,aX xs its/\SeqAt s.heap k a its.toArray:=by
 cases k
 ·let(its,r,p,_):=I.list (SqL.of h);exact{(its),r,p.isList}
 ·let(its,r,p,_):=I.tuple (SqT.of h);exact{(its),r,p}
def Itz(ka kb:Ý)(a b:Z)(xs ys:G V):It:=
 ⟨λ i H=>SqK ka H a xs/\SqK kb H b ys/\i<xs.length/\i<ys.length,λ i H x H'=>∃ p u v,H p=Y/\x=.ref p/\xs[i]? = U u/\ys[i]? = U v/\H'=upd H p (.tup [u,v]),λ i H=>SqK ka H a xs/\SqK kb H b ys/\(xs.length<=i\/ys.length<=i)⟩
def Tnz(ka kb:Ý)(a b z TI TO p q:Z)(i:à)(h:Ð):Prop:=IsZip h z TI TO .none/\IsPair h TI (.ref p) (.ref q)/\(∃ u v,IsPair h TO u v)/\eC h ka p a i/\eC h kb q b i
theorem Fj{x1}{tp:Pos}(ka kb:Ý)(a b z TI TO p q:Z)(xs ys:G V)(nd:[z,TI,TO,p,q].Nodup):Turn P w K A (.Tuple elts x1 tp) (Itz ka kb a b xs ys) [z,TI,TO,p,q] z (Tnz ka kb a b z TI TO p q) where
 mem:=Vq
 obj:=λ i h st c hc=>by
  let(e1,e2,(u,v,e3),e4,e5):=st;simp only[Vp,VD,Wa] at hc
  rcases hc with rfl|rfl|rfl|rfl|rfl
  ·exact{_,e1,λ v z=>by cases z}
  ·exact{_,e2,λ v z=>by cases z}
  ·exact{_,e3,λ v z=>by cases z}
  ·let(o,fs,e,d):=e4.obj;exact{o,e,λ v z=>by rw[d] at z;cases z}
  ·let(o,fs,e,d):=e5.obj;exact{o,e,λ v z=>by rw[d] at z;cases z}
 keep:=λ i h h' st k=>by
  let(e1,e2,(u,v,e3),e4,e5):=st;exact{k z (by simp) _ e1,k TI (by simp) _ e2,{u,v,k TO (by simp) _ e3},e4.at λ o e=>k p (by simp) o e,e5.at λ o e=>k q (by simp) o e}
 item:=by
  intro X hP hw hK hc i pins s σ H E I hf st hg;subst hP hw hK;let(e1,e2,(u0,v0,e3),e4,e5):=st;let(ha,hb,l1,l2):=hg;let(as,ra,sa):=I.sq ha;let(bs,rb,sb):=I.sq hb;let hx:xs[i]? = U xs[i]:=U4 l1;let hy:ys[i]? = U ys[i]:=U4 l2;let(u,hu,ru):=ra.get hx;let(v,hv,rv):=rb.get hy;let free:∀ c∈[z,TI,TO,p,q],H c=Y:=λ c h=>(hf c h).1;let a3:∀ c∈[z,TI,TO,p,q],a≠c:=λ c h=>ha.ne (free c h);let a4:∀ c∈[z,TI,TO,p,q],b≠c:=λ c h=>hb.ne (free c h);simp only[Wf,Vp,VD,Wa,X0,not_false_eq_true,and_true,X2] at nd;let((z1,z2,z3,z4),(t1,t2,t3),(w1,w2),y1):=nd;let S:=wA (prog:=X.prog) (w:=X.w) ka p a (a3 p (by simp)) as.toArray;let T:=wA (prog:=X.prog) (w:=X.w) kb q b (a4 q (by simp)) bs.toArray;let D:oA z TI TO p q [p,a] [q,b]:={⟨Vz z1,t1,t2,t3⟩,z2,by simp[z3,Vz (a3 z (by simp))],by simp[z4,Vz (a4 z (by simp))],by simp[w1,Vz (a3 TO (by simp))],by simp[w2,Vz (a4 TO (by simp))],by simp[y1,Vz (a4 p (by simp))],by simp[Vz y1,Vz (a3 q (by simp))]};refine nW S T D e1 e2 e3 {(e4),sa} ⟨e5,sb⟩ (x:=u) (y:=v) (by simpa using hu) (by simpa using hv) λ h1 c1 c2 c3 c4 c5 c6 c7=>?_;refine{_,J,wpAny_letOwnedTupleGo_zip (s:={ s with heap:=h1 }) c1 λ h2 d1 d2=>?_};let lt:z<%[s|99]:=U5 e1;let kp:∀ c o,c ∉ [z,TO,p,q]->s.heap.get? c=U o->h2.get? c=U o:=λ c o hc e=>d2.extBut _ _ (λ q=>hc (by simp[q])) (c7 c o hc e);let hn:h2.get? %[s|99]=U { cls:=.type "tuple",data:=.seq #[u,v] }:=d2.extBut _ _ (WR lt) c5;let I2:Inv X pins σ (upd H %[s|99] (.tup [xs[i],ys[i]])) { s with heap:=h2 }:=I.turnNew (t':=s.toks) (ch:=[z,TO,p,q]) (λ c hc=>hf c (by simp only[Vp,VD,Wa] at hc ⊢;rcases hc with h|h|h|h<;>simp[h])) kp (U6 _) {(show 2<=Æ by decide),[u,v],.cons ru (.cons rv .nil),{_,hn,J,_,J}};let fr:H %[s|99]=Y:=I.hok.fresh (U6 _);refine{.ref %[s|99],_,I2,J,{_,_,_,fr,J,hx,hy,J},{d1,d2.extBut _ _ (Vz z1) (c7 TI _ (by simp[Vz z1,t1,t2,t3]) e2),{u,v,d2.extBut _ _ (Vz z2) c2},c3.1.at λ o e=>d2.extBut _ _ (Vz z3) e,c4.1.at λ o e=>d2.extBut _ _ (Vz z4) e},λ c hc=>?_}
  obtain⟨o,ho,_⟩:∃ o,s.heap.get? c=U o/\True:=by
   simp only[Vp,VD,Wa] at hc
   rcases hc with rfl|rfl|rfl|rfl|rfl
   ·exact{_,e1,trivial}
   ·exact{_,e2,trivial}
   ·exact{_,e3,trivial}
   ·let(o,_,e,_):=e4.obj;exact{(o),e,trivial}
   ·let(o,_,e,_):=e5.obj;exact{(o),e,trivial}
  rw[ah (Vl (U5 ho))];exact free c hc
 done:=by
  intro X hP hw hK hc i pins s σ H E I hf st hg;subst hP hw hK;let(e1,e2,(u0,v0,e3),e4,e5):=st;let(ha,hb,l):=hg;let(as,ra,sa):=I.sq ha;let(bs,rb,sb):=I.sq hb;let free:∀ c∈[z,TI,TO,p,q],H c=Y:=λ c h=>(hf c h).1;let a3:∀ c∈[z,TI,TO,p,q],a≠c:=λ c h=>ha.ne (free c h);let a4:∀ c∈[z,TI,TO,p,q],b≠c:=λ c h=>hb.ne (free c h);simp only[Wf,Vp,VD,Wa,X0,not_false_eq_true,and_true,X2] at nd;let((z1,z2,z3,z4),(t1,t2,t3),(w1,w2),y1):=nd;let S:=wA (prog:=X.prog) (w:=X.w) ka p a (a3 p (by simp)) as.toArray;let T:=wA (prog:=X.prog) (w:=X.w) kb q b (a4 q (by simp)) bs.toArray;let D:oA z TI TO p q [p,a] [q,b]:={⟨Vz z1,t1,t2,t3⟩,z2,by simp[z3,Vz (a3 z (by simp))],by simp[z4,Vz (a4 z (by simp))],by simp[w1,Vz (a3 TO (by simp))],by simp[w2,Vz (a4 TO (by simp))],by simp[y1,Vz (a4 p (by simp))],by simp[Vz y1,Vz (a3 q (by simp))]};let la:=ra.length;let lb:=rb.length;refine qt (I.sfn _ λ c hc=>free c (by simp only[Vp,VD,Wa] at hc ⊢;rcases hc with h|h|h|h<;>simp[h])) S T D e1 e2 e3 ⟨e4,sa⟩ ⟨e5,sb⟩ (l.imp (λ h=>by simp;omega) λ h=>by simp;omega) λ h1 kp=>{J,I.turnL (t':=s.toks) (ch:=[z,TO,p,q]) (λ c hc=>hf c (by simp only[Vp,VD,Wa] at hc ⊢;rcases hc with h|h|h|h<;>simp[h])) kp}
 self:=λ _ _ _ _ _ st h=>wpAny_pyIter_zip st.1 h
def kZ2(ka:Ý)(a b:Z)(xs:G V)(H:Hp)(R:It->Hp->Prop):HO->Prop:=λ o=>match o with
 | .lst ys=>R (Itz ka Â a b xs ys) H
 | .tup ys=>R (Itz ka L a b xs ys) H
 | _=>False
def Ls(ka:Ý)(a b:Z)(xs ys:G V)(H:Hp)(R:It->Hp->Prop):kZ2 ka a b xs H R (.lst ys)=R (Itz ka Â a b xs ys) H:=rfl
def kZ1(a b:Z)(H:Hp)(R:It->Hp->Prop):HO->Prop:=λ o=>match o with
 | .lst xs=>aM (H b) (kZ2 Â a b xs H R)
 | .tup xs=>aM (H b) (kZ2 L a b xs H R)
 | _=>False
def Lu(a b:Z)(xs:G V)(H:Hp)(R:It->Hp->Prop):kZ1 a b H R (.tup xs)=aM (H b) (kZ2 L a b xs H R):=rfl
def kZ0(R:It->Hp->Prop):G V->Hp->Prop:=λ vs H=>match vs with
 | [.ref a,.ref b]=>aM (H a) (kZ1 a b H R)
 | _=>False
def Sv(R:It->Hp->Prop)(a b:Z)(H:Hp):kZ0 R [.ref a,.ref b] H=aM (H a) (kZ1 a b H R):=rfl
def TX(ta:TA):TI:=λ σ H R=>ta σ H (kZ0 R)
def Qh(ta:TA)(σ:St)(H:Hp)(R:It->Hp->Prop):TX ta σ H R=ta σ H (kZ0 R):=rfl
theorem Qt{R:It->Hp->Prop}{vs:G V}(h:kZ0 R vs H):∃ a b ka kb xs ys,vs=[.ref a,.ref b]/\SqK ka H a xs/\SqK kb H b ys/\R (Itz ka kb a b xs ys) H:=by
 unfold kZ0 at h;split at h
 ·rename_i a b;let(o,e,h):=aq h;unfold kZ1 at h;split at h
  ·rename_i xs;let(o',e',h):=aq h;unfold kZ2 at h;split at h
   ·exact{a,b,Â,Â,xs,_,J,e,e',h}
   ·exact{a,b,Â,L,xs,_,J,e,e',h}
   ·exact h.elim
  ·rename_i xs;let(o',e',h):=aq h;unfold kZ2 at h;split at h
   ·exact{a,b,L,Â,xs,_,J,e,e',h}
   ·exact{a,b,L,L,xs,_,J,e,e',h}
   ·exact h.elim
  ·exact h.elim
 ·exact h.elim
theorem A0{a b:Ñ}{x1}{tp:Pos}{ta:TA}{p pos:Pos}(hg:Gl X "zip")(hm:X.mg "zip"=Y)(ha:PA X [a,b] ta)(hs:starEach [a,b] X.env=[(Â,eval a X.env),(Â,eval b X.env)]:=by rfl)(a3:starEach [b] X.env=[(Â,eval b X.env)]:=by rfl) :
  PI X (.Tuple elts x1 tp) (.Call (.Name "zip" p) [a,b] [] pos) (TX ta):=by
 intro pins s σ H R I h;refine Call_ (jl I hg hm (show bootBuiltins "zip"=U (.type "zip") by decide +kernel) (V4 (thn (ha pos pins s σ H _ I h) λ us s1 ⟨vs,H1,I1,r1,q1⟩=>?_) (by rw[hs,a3]) (by rw[a3];rfl)));let(a,b,ka,kb,xs,ys,rfl,sa,sb,q):=Qt q1
 cases r1 with
 | cons r rr=>
  cases rr with
  | cons r' rr=>
   cases rr;cases r;cases r';let(as,ra,a4):=I1.sq sa;let(bs,rb,a5):=I1.sq sb;refine MF a4 a5 λ h' n hn e1 e2 e3 e4 e5 e6 e7=>?_;let I2:Inv X pins σ H1 { s1 with heap:=h' }:=I1.kept (t':=s1.toks) e7;refine wpAny_pyIter_zip (s:={ s1 with heap:=h' }) e1 {n+4,[n+4,n+2,n+3,n,n+1],_,_,H1,J,I2,Fj ka kb a b (n+4) (n+2) (n+3) n (n+1) xs ys (by simp),{e1,e2,{_,_,e3},e4,e5},λ c hc=>?_,q}
   let hle:%[s1|99]<=c:=by
    rw[←hn];simp only[Vp,VD,Wa] at hc
    rcases hc with rfl|rfl|rfl|rfl|rfl
    ·exact W7 ..
    ·exact W7 ..
    ·exact W7 ..
    ·exact U6 _
    ·exact W7 ..
   exact I1.fpOk hle (I1.hok.fresh hle)
def QU(te:TE)(σ2:St)(N1:VK)(N0:Hp->Prop):Ý->Hp->Prop:=λ b H=>if b=L then te σ2 H N1 else N0 H
def aT(te:TE)(σ2:St)(N1:VK)(N0:Hp->Prop)(b:Ý)(H:Hp):QU te σ2 N1 N0 b H=(if b=L then te σ2 H N1 else N0 H):=rfl
def kCm(k:à)(tt:TT)(te:TE)(σ:St)(N1:VK)(N0:Hp->Prop):St->Hp->Prop:=λ σ2 H=>(∃ vs:St,vs.length=k/\σ2=vs++σ)/\tt σ2 H (QU te σ2 N1 N0)
theorem aN(tt:TT)(te:TE)(σ:St)(N1:VK)(N0:Hp->Prop)(a:Ü V)(H:Hp):kCm 1 tt te σ N1 N0 (a::σ) H=tt (a::σ) H (QU te (a::σ) N1 N0):=propext {λ h=>h.2,λ h=>{⟨[a],J,J⟩,h}}
theorem iL(tt:TT)(te:TE)(σ:St)(N1:VK)(N0:Hp->Prop)(a b:Ü V)(H:Hp):kCm 2 tt te σ N1 N0 (a::b::σ) H=tt (a::b::σ) H (QU te (a::b::σ) N1 N0):=propext {λ h=>h.2,λ h=>{⟨[a,b],J,J⟩,h}}
def Lf(σ:St):Í 1 (Y:Ü V)++σ=Y::σ:=rfl
def Le(σ:St):Í 2 (Y:Ü V)++σ=Y::Y::σ:=rfl
def Al(R:α->V->Prop)(zs:G α)(ys:G V):Prop:=ys.length=zs.length/\∀ (i:à) z y,zs[i]? = U z->ys[i]? = U y->R z y
theorem Al.nil{R:α->V->Prop}:Al R [] []:={J,λ i z y h=>by simp at h}
theorem Al.snoc{R:α->V->Prop}{zs:G α}{z:α}(h:Al R zs ys)(r:R z y):Al R (zs++[z]) (ys++[y]):=by
 refine{by simp[h.1],λ i z' y' h1 h2=>?_}
 by_cases hi:i<zs.length
 ·rw[Wm hi] at h1;rw[Wm (by rw[h.1];exact hi)] at h2;exact h.2 i z' y' h1 h2
 ·rw[V3 (by omega)] at h1;rw[V3 (by rw[h.1];omega),h.1] at h2
  by_cases h0:i - zs.length=0
  ·rw[h0] at h1 h2;simp at h1 h2;subst h1;subst h2;exact r
  ·rw[VU (by simp;omega)] at h1;cases h1
theorem Al.imp{R S:α->V->Prop}{zs:G α}(h:Al R zs ys)(f:∀ z y,R z y->S z y):Al S zs ys:={h.1,λ i z y a b=>f z y (h.2 i z y a b)}
theorem Al.map{f:α->V}{zs:G α}(h:Al (λ z y=>y=f z) zs ys):ys=zs.map f:=by
 apply W0;intro i;rw[Vd]
 by_cases hi:i<zs.length
 ·let e1:zs[i]? = U zs[i]:=U4 hi;have e2:ys[i]? = U (ys[i]'(by rw[h.1];exact hi)):=U4 _;rw[e1,e2,h.2 i _ _ e1 e2];rfl
 ·have:=h.1;rw[VU (show ys.length<=i by omega),VU (show zs.length<=i by omega)];rfl
section
variable {tt:TT}{te:TE}{Q:VK}{K:PySem.W.Frag}
theorem lR(zs:G α)(c:α->Ý)(P:α->V->Hp->Prop)(R:Z->α->V->Hp->Prop)
  (a8:∀ i z H',zs[i]? = U z->Ext H H'->wn.go i H'/\∀ x a3,wn.yld i H' x a3->Ext H' a3/\P z x a3)
  (a9:∀ H',Ext H H'->wn.stop zs.length H')
  (a6:∀ D z y H1 H2,R D z y H1->Ext H1 H2->R D z y H2) (a7:∀ D z y H1 o,R D z y H1->R D z y (upd H1 D o))
  (hl:zs.length<=Æ)
  (hs:∀ D z x H' N1 N0,z∈zs->H D=Y->Ext H H'->(∃ ys,H' D=U (.lst ys))->P z x H'->(c z=L->∀ y a3,Ext H' a3->R D z y a3->N1 y a3)->(c z=Â->∀ a3,Ext H' a3->N0 a3)->g x (Í k Y++σ) H' (kCm k tt te σ N1 N0))
  (hd:∀ D ys H',H D=Y->Ext H H'->H' D=U (.lst ys)->Al (λ z y=>R D z y H') (zs.filter c) ys->Q (.ref D) H'):J1 k g tt te σ Q wn H:=by
 intro D hD;refine{λ i m ys H'=>m=zs.length - i/\i<=zs.length/\Ext H H'/\H' D=U (.lst ys)/\Al (λ z y=>R D z y H') ((zs.take i).filter c) ys,{zs.length,by simp,VM _,Ext.new hD,ag,by simpa using Al.nil},?_};rintro i m ys H' ⟨rfl,hi,e,a4,al⟩
 by_cases hlt:i<zs.length
 ·let hz:zs[i]? = U zs[i]:=U4 hlt;let(go,y):=a8 i zs[i] H' hz e;let tk:zs.take (i+1)=zs.take i++[zs[i]]:=by rw[List.take_succ,hz];rfl
  let ln:ys.length<Æ:=by
   let h1:=al.1;let h2:=List.length_filter_le c (zs.take i);simp only[Vu] at h2;omega
  refine .inr {go,λ a5 H2=>Ext H H2/\H2 D=U (.lst a5)/\Al (λ z y=>R D z y H2) ((zs.take (i+1)).filter c) a5,λ a5 H2 p=>{zs.length - (i+1),by omega,J,hlt,p},λ x H2 z=>?_};let(e2,p2):=y x H2 z;refine hs D zs[i] x H2 (kC3 D ys _) _ (XX hlt) hD (e.trans e2) ⟨ys,e2.at a4⟩ p2 (λ hc y H3 e3 r3=>?_) λ hc H3 e3=>?_
  ·refine{e3.at (e2.at a4),ln,(e.trans (e2.trans e3)).put hD,ag,?_};rw[tk,Xl,show [zs[i]].filter c=[zs[i]] by simp[hc]];exact Al.snoc (al.imp λ z y r=>a7 _ _ _ _ _ (a6 _ _ _ _ _ r (e2.trans e3))) (a7 _ _ _ _ _ r3)
  ·refine{e.trans (e2.trans e3),(e2.trans e3).at a4,?_};rw[tk,Xl,show [zs[i]].filter c=[] by simp[hc],W9];exact al.imp λ z y r=>a6 _ _ _ _ _ r (e2.trans e3)
 ·let e':i=zs.length:=by omega
  subst e';rw[Wy] at al;exact .inl {a9 H' e,hd D ys H' hD e a4 al}
theorem bb(zs:G α)(c:α->Ý)(f:α->V)(P:α->V->Hp->Prop)
  (a4:∀ i z H',zs[i]? = U z->Ext H H'->wn.go i H'/\∀ x a3,wn.yld i H' x a3->Ext H' a3/\P z x a3)
  (a5:∀ H',Ext H H'->wn.stop zs.length H') (hl:zs.length<=Æ)
  (hs:∀ D z x H' N1 N0,z∈zs->H D=Y->Ext H H'->P z x H'->(c z=L->∀ a3,Ext H' a3->N1 (f z) a3)->(c z=Â->∀ a3,Ext H' a3->N0 a3)->g x (Í k Y++σ) H' (kCm k tt te σ N1 N0))
  (hd:∀ D H',H D=Y->Ext H H'->H' D=U (.lst ((zs.filter c).map f))->Q (.ref D) H'):J1 k g tt te σ Q wn H:=
 lR zs c P (λ _ z y _=>y=f z) a4 a5 (λ _ _ _ _ _ r _=>r) (λ _ _ _ _ _ r=>r) hl (λ D z x H' N1 N0 hz hD e _ p k1 k0=>hs D z x H' N1 N0 hz hD e p (λ hc a3 e'=>k1 hc _ a3 e' J) k0) λ D ys H' hD e a6 al=>hd D H' hD e (by rw[←al.map];exact a6)
theorem kH{lo:B}:(∀ i z H',(Ó n)[i]? = U z->Ext H H'->(Itr lo n).go i H'/\∀ x a3,(Itr lo n).yld i H' x a3->Ext H' a3/\x=.int (lo+(z:à)))/\∀ H',Ext H H'->(Itr lo n).stop (Ó n).length H':=by
 refine{λ i z H' hz _=>?_,λ H' _=>by simp[Itr]};let(h1,h2):=U1.mp hz;let e:i=z:=by simpa using h2
 subst e;exact{(show i<n by simpa using h1),λ x a3 y=>{by rw[y.1];exact Ext.refl _,y.2}}
theorem iB{a:Z}(h:H a=U (.lst xs)):(∀ i z H',xs[i]? = U z->Ext H H'->(Itl K a).go i H'/\∀ x a3,(Itl K a).yld i H' x a3->Ext H' a3/\(x=z/\a3 a=U (.lst xs)))/\∀ H',Ext H H'->(Itl K a).stop xs.length H':=
 ⟨λ i z H' hz e=>{⟨xs,z,SqL.of (e.at h),hz⟩,λ x a3 y=>{by rw[y.1];exact Ext.refl _,VL ((y.2 xs (SqL.of (e.at h))).symm.trans hz),by rw[y.1];exact e.at h}},λ H' e=>{xs,SqL.of (e.at h),U6 _}⟩
theorem SqK.ext{kk:Ý}{a:Z}(h:SqK kk H a xs)(e:Ext H H'):SqK kk H' a xs:=by
 cases kk
 ·exact e.at (show H a=U (.lst xs) from h)
 ·exact e.at (show H a=U (.tup xs) from h)
def Q9(z:V × V)(x:V)(H:Hp):Prop:=∃ p,x=.ref p/\H p=U (.tup [z.1,z.2])
theorem wx{a:Z}(ha:SqK ka H a xs)(hb:SqK kb H b ys):(∀ i z H',(xs.zip ys)[i]? = U z->Ext H H'->(Itz ka kb a b xs ys).go i H'/\∀ x a3,(Itz ka kb a b xs ys).yld i H' x a3->Ext H' a3/\Q9 z x a3)/\∀ H',Ext H H'->(Itz ka kb a b xs ys).stop (xs.zip ys).length H':=by
 refine{λ i z H' hz e=>?_,λ H' e=>{ha.ext e,hb.ext e,?_}}
 ·let(h1,h2):=U1.mp hz;rw[XQ] at h1;refine{⟨ha.ext e,hb.ext e,by omega,by omega⟩,λ x a3 y=>?_};let(p,u,v,hp,rfl,hu,hv,rfl):=y;refine{Ext.new hp,p,J,?_};rw[ag];rw[U4 (by omega)] at hu hv;cases hu;cases hv;rw[←h2,List.getElem_zip]
 ·rw[XQ];omega
theorem Mz{a:Z}(Pv:à->St->Hp->Prop)(h0:Pv 0 σ H)(hl:∀ i σ H,Pv i σ H->SqK ka H a xs/\SqK kb H b ys)
  (hs:∀ i u v p σ H H',xs[i]? = U u->ys[i]? = U v->Pv i σ H->H p=Y->Ext H H'->H' p=U (.tup [u,v])->g (.ref p) σ H' (Aq tb {Pv (i+1),rt,nx,Pv (i+1)})) (hd:∀ σ H,Pv (min xs.length ys.length) σ H->nx σ H):M9 g tb {(nx),rt,bk,ct} σ (Itz ka kb a b xs ys) H:=by
 refine{λ i m σ H=>m=min xs.length ys.length - i/\i<=min xs.length ys.length/\Pv i σ H,{min xs.length ys.length,by simp,VM _,h0},?_};rintro i m σ H ⟨rfl,hi,p⟩;let(qa,qb):=hl i σ H p
 by_cases hlt:i<min xs.length ys.length
 ·refine .inr {⟨qa,qb,by omega,by omega⟩,Pv (i+1),λ σ' H' p'=>{min xs.length ys.length - (i+1),by omega,J,hlt,p'},λ x H' y=>?_};let(r,u,v,hr,rfl,hu,hv,rfl):=y;exact hs i u v r σ H _ hu hv p hr (Ext.new hr) ag
 ·let e:i=min xs.length ys.length:=by omega
  subst e;exact .inl {⟨qa,qb,by omega⟩,hd σ H p}
end
def N8(sc:Scope)(N:G Ã)(scope:Scope)(N':G Ã)(k:à):Ý:=
 scope.names.all (λ y=>!(y.2 == .cell)) && (scope.kind == .function) && scope.names.all (λ y=>!(y.2 == .local) || scope.names.lookup y.1 == U .local) && scope.names.all (λ y=>!(y.2 == .free) || sc.names.lookup y.1 == U .cell) && decide (N'.length=k+N.length) &&
  ((N'.drop k).zip N).all (λ p=>(!(scope.names.lookup p.1 == U .free) || decide (p.1=p.2)) && !(scope.names.lookup p.1 == U .local))
theorem aP(sc:Scope)(N:G Ã)(h1:X.env.scope=sc)(h2:X.N=N)(h:N8 sc N scope N' k=L):me X scope N' k:=by
 unfold N8 at h;simp only[Bool.and_eq_true,decide_eq_true_eq] at h;let(((((a1,a2),a3),a4),a5),a6):=h;rw[all_eq_true] at a1 a3 a4 a6
 let pr:∀ i x,N'[k+i]? = U x->∃ y,N[i]? = U y/\(x,y)∈(N'.drop k).zip N:=λ i x hx=>by
  let h0:=(U1.mp hx).1;let hi:i<N.length:=by omega
  let e1:(N'.drop k)[i]? = U x:=by rw[List.getElem?_drop];exact hx
  let e2:N[i]? = U N[i]:=U4 hi;refine{_,e2,Vx (i:=i) ?_};rw[List.getElem?_zip_eq_some];exact{(e1),e2}
 refine{λ y hy e=>?_,by simpa using a2,λ y hy e=>?_,λ y hy e=>?_,by rw[h2];exact a5,λ i x hx hf=>?_,λ i x hx hf=>?_}
 ·have:=a1 y hy;rw[e] at this;simp at this
 ·have:=a3 y hy;rw[e] at this;simpa using this
 ·have:=a4 y hy;rw[e] at this;rw[h1];simpa using this
 ·let(y,hy,hm):=pr i x hx;have:=a6 _ hm;simp only[hf] at this;rw[h2,hy];simp at this;rw[this]
 ·let(y,hy,hm):=pr i x hx;have:=a6 _ hm;simp[hf] at this
def JZ(H:Hp)(Q:VK):V->Prop:=λ v=>Q v H
def LN(H:Hp)(Q:VK)(v:V):JZ H Q v=Q v H:=rfl
def E1(K:Å)(f:Ã)(H:Hp)(Q:VK):HO->Prop:=λ o=>match o with
 | .ins C dx fs=>Cls K C/\ba K C f/\aM (fs.lookup f) (JZ H Q)
 | _=>False
def LO(K:Å)(f:Ã)(H:Hp)(Q:VK)(C dx:Z)(fs:G (Ã × V)):E1 K f H Q (.ins C dx fs)=(Cls K C/\ba K C f/\aM (fs.lookup f) (JZ H Q)):=rfl
def Na(K:Å)(f:Ã)(Q:VK):VK:=λ x H=>match x with
 | .ref a=>aM (H a) (E1 K f H Q)
 | _=>False
def PZ(K:Å)(f:Ã)(Q:VK)(a:Z)(H:Hp):Na K f Q (.ref a) H=aM (H a) (E1 K f H Q):=rfl
def Rq(K:Å)(ta:TE)(f:Ã):TE:=λ σ H Q=>ta σ H (Na K f Q)
def Px(K:Å)(ta:TE)(f:Ã)(σ:St)(H:Hp)(Q:VK):Rq K ta f σ H Q=ta σ H (Na K f Q):=rfl
theorem Mg{f:Ã}{Q:VK}{x:V}(h:Na K f Q x H):∃ a C dx fs v,x=.ref a/\H a=U (.ins C dx fs)/\Cls K C/\ba K C f/\fs.lookup f=U v/\Q v H:=by
 unfold Na at h;split at h
 ·let(o,e,h):=aq h;unfold E1 at h;split at h
  ·let(c,n,h):=h;let(v,l,q):=aq h;exact{_,_,_,_,v,J,e,c,n,l,q}
  ·exact h.elim
 ·exact h.elim
section
variable {e o value:Ñ}{ta tv:TE}{f:Ã}{pos':Pos}
theorem Bs(he:PE X e ta)(hb:attributeBase e f X.env (eval e X.env)=eval e X.env):PE X (.Attribute e f pos) (Rq X.K ta f):=by
 intro pins s σ H Q I h;refine BX hb (thn (he pins s σ H _ I h) λ u s1 ⟨x,H1,I1,rx,q1⟩=>?_);let(a,C,dx,fs,v,ex,ea,c,n,l,q):=Mg q1;subst ex;obtain rfl:u=Ë a:=rx;exact zw I1 ea c n l λ u' s2 I2 ru=>{(v),H1,I2,ru,q}
def EW(K:Å)(f:Ã)(y:V)(a:Z)(σ:St)(nx:St->Hp->Prop)(H:Hp):HO->Prop:=λ o=>match o with
 | .ins C dx fs=>Cls K C/\ba K C f/\fs.length<1000/\nx σ (upd H a (.ins C dx (bh f y fs)))
 | _=>False
def Lw(K:Å)(f:Ã)(y:V)(a:Z)(σ:St)(nx:St->Hp->Prop)(H:Hp)(C dx:Z)(fs:G (Ã × V)):EW K f y a σ nx H (.ins C dx fs)=(Cls K C/\ba K C f/\fs.length<1000/\nx σ (upd H a (.ins C dx (bh f y fs)))):=rfl
def EY(K:Å)(f:Ã)(y:V)(σ:St)(nx:St->Hp->Prop):VK:=λ x H=>match x with
 | .ref a=>aM (H a) (EW K f y a σ nx H)
 | _=>False
def Lz(K:Å)(f:Ã)(y:V)(σ:St)(nx:St->Hp->Prop)(a:Z)(H:Hp):EY K f y σ nx (.ref a) H=aM (H a) (EW K f y a σ nx H):=rfl
def JV(K:Å)(f:Ã)(ta:TE)(σ:St)(nx:St->Hp->Prop):VK:=λ y H=>ta σ H (EY K f y σ nx)
def LA(K:Å)(f:Ã)(ta:TE)(σ:St)(nx:St->Hp->Prop)(y:V)(H:Hp):JV K f ta σ nx y H=ta σ H (EY K f y σ nx):=rfl
def NF(K:Å)(ta tv:TE)(f:Ã):TS:=λ D σ H=>tv σ H (JV K f ta σ D.nx)
def Li(K:Å)(ta tv:TE)(f:Ã)(nx:St->Hp->Prop)(rt:VK)(bk ct:St->Hp->Prop)(σ:St)(H:Hp):NF K ta tv f {(nx),rt,bk,ct} σ H=tv σ H (JV K f ta σ nx):=rfl
theorem FH(ha:PE X o ta)(hv:PE X value tv)(hs:swapsWith value (U (.Attribute o f pos')) pos.line X.env=pure Â):PS X (.Assign [.Attribute o f pos'] value pos) (NF X.K ta tv f):=by
 intro pins s σ H D I h;refine plainObj_wpAny_Assign_Attribute (thn (hv pins s σ H _ I h) λ u s1 ⟨y,H1,I1,ry,q⟩=>thn (ha pins s1 σ H1 _ I1 q) λ ov s2 ⟨x,H2,I2,rx,q1⟩=>?_) hs;unfold EY at q1;split at q1
 ·rename_i a;obtain rfl:ov=Ë a:=rx;let(ob,ea,q1):=aq q1;unfold EW at q1;split at q1
  ·let(c,n,l,q2):=q1;exact yq I2 ea c n l ry λ s3 I3=>{σ,_,I3,q2}
  ·exact q1.elim
 ·exact q1.elim
end
def oz(sp:Sp)(dvs:G V)(E:XK)(a:Z)(Q:VK):G V->Hp->Prop:=λ vs H=>sp (.ref a::(vs++dvs)) H Q E
def yK(sp:Sp)(dvs:G V)(E:XK)(a:Z)(Q:VK)(H:Hp):oz sp dvs E a Q [] H=sp (.ref a::dvs) H Q E:=rfl
def yJ(sp:Sp)(dvs:G V)(E:XK)(a:Z)(Q:VK)(x:V)(H:Hp):oz sp dvs E a Q [x] H=sp (.ref a::x::dvs) H Q E:=rfl
def yI(sp:Sp)(dvs:G V)(E:XK)(a:Z)(Q:VK)(x y:V)(H:Hp):oz sp dvs E a Q [x,y] H=sp (.ref a::x::y::dvs) H Q E:=rfl
def yH(sp:Sp)(dvs:G V)(E:XK)(a:Z)(Q:VK)(x y z:V)(H:Hp):oz sp dvs E a Q [x,y,z] H=sp (.ref a::x::y::z::dvs) H Q E:=rfl
def wI(C:Z)(m:Ã)(sp:Sp)(dvs:G V)(E:XK)(t:TA)(σ:St)(Q:VK)(a:Z)(H:Hp):HO->Prop:=λ o=>match o with
 | .ins C' dx fs=>C'=C/\fs.lookup m=Y/\t σ H (oz sp dvs E a Q)
 | _=>False
theorem Gx(C:Z)(m:Ã)(sp:Sp)(dvs:G V)(E:XK)(t:TA)(σ:St)(Q:VK)(a:Z)(H:Hp)(dx:Z)(fs:G (Ã × V)):wI C m sp dvs E t σ Q a H (.ins C dx fs)=(fs.lookup m=Y/\t σ H (oz sp dvs E a Q)):=propext {λ h=>h.2,λ h=>{(J),h}}
def yh(C:Z)(m:Ã)(sp:Sp)(dvs:G V)(E:XK)(t:TA)(σ:St)(Q:VK):VK:=λ x H=>match x with
 | .ref a=>aM (H a) (wI C m sp dvs E t σ Q a H)
 | _=>False
def LH(C:Z)(m:Ã)(sp:Sp)(dvs:G V)(E:XK)(t:TA)(σ:St)(Q:VK)(a:Z)(H:Hp):yh C m sp dvs E t σ Q (.ref a) H=aM (H a) (wI C m sp dvs E t σ Q a H):=rfl
def EV(C:Z)(m:Ã)(sp:Sp)(dvs:G V)(E:XK)(ta:TE)(t:TA):TE:=λ σ H Q=>ta σ H (yh C m sp dvs E t σ Q)
def Lk(C:Z)(m:Ã)(sp:Sp)(dvs:G V)(E:XK)(ta:TE)(t:TA)(σ:St)(H:Hp)(Q:VK):EV C m sp dvs E ta t σ H Q=ta σ H (yh C m sp dvs E t σ Q):=rfl
theorem qd{m:Ã}{sp:Sp}{dvs:G V}{E:XK}{t:TA}{Q:VK}{x:V}(h:yh C m sp dvs E t σ Q x H):∃ a dx fs,x=.ref a/\H a=U (.ins C dx fs)/\fs.lookup m=Y/\t σ H λ vs H2=>sp (x::(vs++dvs)) H2 Q E:=by
 unfold yh at h;split at h
 ·let(o,e,h):=aq h;unfold wI at h;split at h
  ·let(rfl,l,h):=h;exact{_,_,_,J,e,l,h}
  ·exact h.elim
 ·exact h.elim
section
variable {X:Cx}{cb:Ý}{CX:CXT}{k:à}{f C:Z}{fd:Á}{ps:G Ã}{sp:Sp}{dvs:G V}{ds:G O}{E:XK}{x m:Ã}{p pos apos:Pos}{e o:Ñ}{es:G Ñ}{ta:TE}{t:TA}
theorem FO{pl:Sem Ý}(he:PE X o ta)(c:Cls X.K C)(hm:dA X.K C m f)(F:eV cb X.prog X.w X.K X.mg X.base CX k f fd ps sp)(hr:iw k X.A)(hb:ao X.K fd ps ds)(hd:aX dvs ds)(hx:jm CX X E)(ha:PA X (e::es) t)
  (a3:starEach (e::es) X.env=(Â,eval e X.env)::starEach es X.env:=by rfl) (a4:(backTo pos (starEach es X.env)).any (·.1)=Â:=by rfl)
  (ht:eval (.Call (.Attribute o m apos) (e::es) [] pos) X.env=(do
   let ov ←eval o X.env
   standAt apos.atName
   let (f,first) ←holding [ov] (getMethod ov m pl)
   callWith pos f first (backTo pos (starEach (e::es) X.env)) (backToKw pos (keywordEach [] X.env))):=by rfl) (a5:(!cb || X.calm)=L:=by rfl) :
  PE X (.Call (.Attribute o m apos) (e::es) [] pos) (EV C m sp dvs E ta t):=by
 intro pins s σ H Q I h;refine Xu (pl:=pl) (thn (he pins s σ H _ I h) λ u s1 ⟨x,H1,I1,rx,q0⟩=>?_) ht;let(a,dx,fs,ex,ea,l,q):=qd q0;subst ex;obtain rfl:u=Ë a:=rx;refine il I1 ea c hm l ?_;refine XF (first:=[.ref a]) (h₀:=X.base) I.ok.mod.kin hm.kp (thn (ha pos pins s1 σ H1 _ I1 q) λ us s2 ⟨vs,H2,I2,r,q2⟩=>{I2.kIn,?_}) a3 a4;exact wC (us:=.ref a::us) (vs:=.ref a::vs) a5 F hr hb hd hx I2 (.cons J r) q2
theorem Ck{pl:Sem Ý}(he:PE X o ta)(c:Cls X.K C)(hm:dA X.K C m f)(F:eV cb X.prog X.w X.K X.mg X.base CX k f fd ps sp)(hr:iw k X.A)(hb:ao X.K fd ps ds)(hd:aX dvs ds)(hx:jm CX X E)
  (ht:eval (.Call (.Attribute o m apos) [] [] pos) X.env=(do
   let ov ←eval o X.env
   standAt apos.atName
   let (f,first) ←holding [ov] (getMethod ov m pl)
   callWith pos f first (backTo pos (starEach [] X.env)) (backToKw pos (keywordEach [] X.env))):=by rfl) (a3:(!cb || X.calm)=L:=by rfl) :
  PE X (.Call (.Attribute o m apos) [] [] pos) (EV C m sp dvs E ta Rc):=by
 intro pins s σ H Q I h;refine Xu (pl:=pl) (thn (he pins s σ H _ I h) λ u s1 ⟨x,H1,I1,rx,q0⟩=>?_) ht;let(a,dx,fs,ex,ea,l,q):=qd q0;subst ex;obtain rfl:u=Ë a:=rx;refine il I1 ea c hm l ?_;exact W.callWith_K0 (first:=[.ref a]) I1.kIn hm.kp (wC (us:=[.ref a]) (vs:=[.ref a]) a3 F hr hb hd hx I1 (.cons J .nil) q)
end
def Ap(x:Z)(Q:VK):VK:=λ v H=>v=.non/\Q (.ref x) H
theorem LJ(x:Z)(Q:VK)(H:Hp):Ap x Q .non H=Q (.ref x) H:=propext {λ h=>h.2,λ h=>{(J),h}}
def uq(C:Z)(sp:Sp)(dvs:G V)(E:XK)(Q:VK):G V->Hp->Prop:=λ vs H=>∀ (x dx:Z) (H':Hp),H x=Y->H dx=Y->dx≠x->Ext H H'->H' x=U (.ins C dx [])->H' dx=U (.own x)->sp (.ref x::(vs++dvs)) H' (Ap x Q) E
def CF(C:Z)(sp:Sp)(dvs:G V)(E:XK)(Q:VK)(a:V)(H:Hp):uq C sp dvs E Q [a] H=∀ (x dx:Z) (H':Hp),H x=Y->H dx=Y->dx≠x->Ext H H'->H' x=U (.ins C dx [])->H' dx=U (.own x)->sp (.ref x::a::dvs) H' (Ap x Q) E:=rfl
def CD(C:Z)(sp:Sp)(dvs:G V)(E:XK)(Q:VK)(a b:V)(H:Hp):uq C sp dvs E Q [a,b] H=∀ (x dx:Z) (H':Hp),H x=Y->H dx=Y->dx≠x->Ext H H'->H' x=U (.ins C dx [])->H' dx=U (.own x)->sp (.ref x::a::b::dvs) H' (Ap x Q) E:=rfl
def CB(C:Z)(sp:Sp)(dvs:G V)(E:XK)(Q:VK)(a b c:V)(H:Hp):uq C sp dvs E Q [a,b,c] H=∀ (x dx:Z) (H':Hp),H x=Y->H dx=Y->dx≠x->Ext H H'->H' x=U (.ins C dx [])->H' dx=U (.own x)->sp (.ref x::a::b::c::dvs) H' (Ap x Q) E:=rfl
def NG(C:Z)(sp:Sp)(dvs:G V)(E:XK)(t:TA):TE:=λ σ H Q=>t σ H (uq C sp dvs E Q)
def Ll(C:Z)(sp:Sp)(dvs:G V)(E:XK)(t:TA)(σ:St)(H:Hp)(Q:VK):NG C sp dvs E t σ H Q=t σ H (uq C sp dvs E Q):=rfl
section
variable {sp:Sp}{dvs:G V}{ds:G O}{E:XK}{m:Ã}{p apos:Pos}{e o:Ñ}{ta:TE}{t:TA}
theorem uq.to{Q:VK}{vs:G V}(h:uq C sp dvs E Q vs H):∀ x dx,H x=Y->H dx=Y->dx≠x->sp (.ref x::(vs++dvs)) (upd (upd H dx (.own x)) x (.ins C dx [])) (λ v H2=>v=.non/\Q (.ref x) H2) E:=λ x dx hx hd ne=>
 h x dx _ hx hd ne ((Ext.new hd).put hx) ag (by rw[ah ne,ag])
theorem FP(M:Mk X.K C f)(F:eV cb X.prog X.w X.K X.mg X.base CX k f fd ps sp)(hr:iw (k+1) X.A)(hg:Gl X x)(hm:X.mg x=U (.ref C))(hb:ao X.K fd ps ds)(hd:aX dvs ds)(hx:jm CX X E)
  (ha:PA X (e::es) t) (a3:(x == ("__debug__":Ã))=Â:=by decide) (he:starEach (e::es) X.env=(Â,eval e X.env)::starEach es X.env:=by rfl) (a4:(backTo pos (starEach es X.env)).any (·.1)=Â:=by rfl) (a5:(!cb || X.calm)=L:=by rfl) :
  PE X (.Call (.Name x p) (e::es) [] pos) (NG C sp dvs E t):=by
 intro pins s σ H Q I h;refine Wn (dM I hg hm ?_ a3);refine XF (h₀:=X.base) I.ok.mod.kin M.kp (thn (ha pos pins s σ H _ I h) λ us s1 ⟨vs,H1,I1,r,q⟩=>{I1.kIn,?_}) he a4;exact Fv a5 M F hr hb hd hx I1 r q.to
end
def By:Ñ->Ý
 | .Starred ..=>Â
 | _=>L
theorem Ko{e:Ñ}(h:By e=L):starEach (e::es) env=(Â,eval e env)::starEach es env:=by
 cases e<;>first|rfl|cases h
theorem M6{e:Ñ}{te:TE}{t:TA}(ha:PE X e te)(hr:PA X es t)(hn:By e=L:=by rfl):PA X (e::es) (JC te t):=KS ha hr (Ko hn)
def Sg(K:Å)(t:TA)(σ:St)(H:Hp)(Q:VK):tXI K t σ H Q=t σ H (kXI K Q):=rfl
def K3(K:Å)(ta tv:TE)(f:Ã)(nx:St->Hp->Prop)(rt:VK)(bk ct:St->Hp->Prop)(σ:St)(H:Hp):Nh K ta tv f {(nx),rt,bk,ct} σ H=tv σ H (Rw K f ta σ nx):=rfl
def Pz(K:Å)(f:Ã)(ta:TE)(σ:St)(nx:St->Hp->Prop)(y:V)(H:Hp):Rw K f ta σ nx y H=ta σ H (Tv K f y σ nx):=rfl
def Cv(C:Z)(sp:Sp)(E:St->XK)(t:TA)(D:gX)(σ:St)(H:Hp):Bg C sp E t D σ H=t σ H (kRI C sp (E σ)):=rfl
def Sh(K:Å)(ta:TE)(f:Ã)(σ:St)(H:Hp)(Q:VK):tXF K ta f σ H Q=ta σ H (kXF K f Q):=rfl
def M5(C:Z)(f:Ã):Sp:=λ vs H Q E=>∃ e x,vs=[.ref e,x]/\H e=U (exH e C Y)/\∀ dx H',H dx=Y->dx≠e->(∀ b o,b≠e->H b=U o->H' b=U o)->H' e=U (exH e C (U dx))->H' dx=U (.xd [(f,x)])->Q .non H'
theorem A6(C:Z)(f:Ã){vs:G V}{Q:VK}{E:XK}(h:M5 C f vs H Q E):vs.length=2:=by
 let(_,_,rfl,_):=h;rfl
theorem rH{f:Ã}{E:XK}{x:V}(h:∀ dx H',Ext H H'->H' dx=U (.xd [(f,x)])->E (.ref C) (U dx) H'):kRI C (M5 C f) E [x] H:=by
 refine{(show 1<=Æ by decide),λ e he=>{e,x,J,ag,λ dx H' h1 h2 h3 h4 h5=>{J,U dx,h4,λ _ z=>by cases z;exact{_,by rw[gq h2];exact h5},h dx _ (nM.ext λ b o q=>?_) (by rw[gq h2];exact h5)}}};let hb:b≠e:=bz q he;rw[gq hb];exact h3 b o hb (by rw[ah hb];exact q)
def og(H:Hp)(z:G B)(y:V):Prop:=∃ q,y=.ref q/\H q=U (.tup (z.map V.int))
theorem og.ext{z:G B}(h:og H z y)(e:Ext H H'):og H' z y:=by
 let(q,rfl,hq):=h;exact{q,J,e.at hq}
theorem og.upd{z:G B}(h:og H z y)(hp:H p=U (.lst xs)):og (upd H p o) z y:=by
 let(q,rfl,hq):=h;exact{q,J,by rw[ah (λ z=>by rw[z,hp] at hq;cases hq)];exact hq}
def bM(H:Hp)(p:Z)(zs:G (G B)):Prop:=∃ ys,H p=U (.lst ys)/\Al (og H) zs ys
theorem bM.ext{zs:G (G B)}(h:bM H p zs)(e:Ext H H'):bM H' p zs:=by
 let(ys,hp,al):=h;exact{ys,e.at hp,al.imp λ _ _ r=>r.ext e}
theorem pF{H:Hp}{f:V->Ü PyData}:∀ {zs:G (G B)}{ys:G V},Al (og H) zs ys->aJ (ys.map (jY H (jY H f)))=U (zs.map λ z=>PyData.tuple (z.map PyData.int))
 | [],ys,h=>by rw[List.eq_nil_of_length_eq_zero h.1];rfl
 | z::zs,[],h=>by have:=h.1;simp at this
 | z::zs,y::ys,h=>by
  let(q,rfl,hq):=h.2 0 z y J J;let ih:=pF (H:=H) (f:=f) (zs:=zs) (ys:=ys) ⟨by have:=h.1;simpa using this,λ i z y a b=>h.2 (i+1) z y (by simpa using a) (by simpa using b)⟩
  let e1:jY H (jY H f) (.ref q)=U (.tuple (z.map PyData.int)):=by
   rw[oF,hq]
   show Ah (jY H f) (.tup (z.map V.int))=_
   rw[kl,gP];rfl
  rw[Vs,e1,iF,ih];rfl
theorem pE:∀ zs:G (G B),PyData.eqvAll (zs.map λ z=>PyData.tuple (z.map PyData.int)) (zs.map λ z=>PyData.tuple (z.map PyData.int))=L
 | []=>by rw[XW,cf]
 | z::zs=>by rw[Vs,aE,dQ,fE,pE zs];simp
def ak(h:n<=5000):n<=Æ:=Vv h (by decide)
def jk(h:n<5000):n<Æ:=Vg h (by decide)
def RO(xs:G V)(H:Hp)(Q:VK):G V->Prop:=λ ys=>xs.length+ys.length<=Æ/\∀ (p:Z) (H':Hp),Ext H H'->H' p=U (.tup (xs++ys))->Q (.ref p) H'
def Iv(xs:G V)(H:Hp)(Q:VK)(ys:G V):RO xs H Q ys=(xs.length+ys.length<=Æ/\∀ (p:Z) (H':Hp),Ext H H'->H' p=U (.tup (xs++ys))->Q (.ref p) H'):=rfl
def RP(b:Z)(H:Hp)(Q:VK):G V->Prop:=λ xs=>aM (jg H b) (RO xs H Q)
def P9(b:Z)(H:Hp)(Q:VK)(xs:G V):RP b H Q xs=aM (jg H b) (RO xs H Q):=rfl
def JQ:R2:=λ x y H Q=>match x,y with
 | .ref l,.ref b=>aM (jg H l) (RP b H Q)
 | _,_=>False
def Lq(l b:Z)(H:Hp)(Q:VK):JQ (.ref l) (.ref b) H Q=aM (jg H l) (RP b H Q):=rfl
theorem xa:OpR X (binaryOp .Add) JQ:=by
 intro pins s σ H x y v u Q I rx ry h;unfold JQ at h;split at h
 ·rename_i l b;let(xs,e1,h):=aq h;let(ys,e2,hz,k):=aq h;let g1:=wz e1;let g2:=wz e2
  by_cases hx:xs=[]
  ·subst hx;cases rx;cases ry;let(its,r1,p1,_):=I.tuple (SqT.of g1);let(a3,r2,p2,_):=I.tuple (SqT.of g2);let((cls,dd,data,sl),ho,hc,n,hd):=id p1;let((a8,a6,data2,a7),a4,a5,n2,hd2):=id p2;simp only at hc hd a5 hd2;subst hc hd a5 hd2;cases r1
   exact concat_meets {_,ho,J} ⟨_,a4,J⟩ noFill_tuple_add seq_tuple_add XI XB (Xv _ _)
    (tuple_addW0 l b #[] a3.toArray n n2 dd a6 sl a7 (by simp)) {ho,a4,show EP X pins σ Q (.ref b) s from {.ref b,H,I,J,k b H (Ext.refl _) (by rw[YC];exact g2)}}
  ·refine K1 pins s σ H (.ref l) (.ref b) v u Q I rx ry {l,b,xs,ys,J,J,SqT.of g1,SqT.of g2,hx,hz,λ hy=>?_,λ hy p hp=>k p _ (Ext.new hp) ag};subst hy;exact k l H (Ext.refl _) (by rw[W9];exact g1)
 ·exact h.elim
theorem lV{R:α->V->Hp->Prop}(hR:∀ z y H H',R z y H->Ext H H'->R z y H'){zs:G α}(h:H l=U (.lst ys))(al:Al (λ z y=>R z y H) zs ys) :
  (∀ i z H',zs[i]? = U z->Ext H H'->(Itl K l).go i H'/\∀ x a3,(Itl K l).yld i H' x a3->Ext H' a3/\R z x a3)/\∀ H',Ext H H'->(Itl K l).stop zs.length H':=by
 refine{λ i z H' hz e=>?_,λ H' e=>{ys,SqL.of (e.at h),by rw[al.1];exact U6 _}};let hi:i<ys.length:=by rw[al.1];exact(U1.mp hz).1
 let hy:ys[i]? = U ys[i]:=U4 hi;refine{⟨ys,ys[i],SqL.of (e.at h),hy⟩,λ x a3 y=>?_};let hx:x=ys[i]:=VL ((y.2 ys (SqL.of (e.at h))).symm.trans hy);refine{by rw[y.1];exact Ext.refl _,?_};rw[hx,y.1];exact hR _ _ _ _ (al.2 i z _ hz hy) e
def axP(a:B × B)(x:V)(H:Hp):Prop:=∃ q,x=.ref q/\H q=U (.tup [.int a.1,.int a.2])
theorem axP.ext{a:B × B}{x:V}(h:axP a x H)(e:Ext H H'):axP a x H':=by
 let(q,rfl,hq):=h;exact{q,J,e.at hq}
theorem rK{axs:G (B × B)}(al:Al (og H) (axs.map λ a=>[a.1,a.2]) ys):Al (λ a y=>axP a y H) axs ys:=by
 refine{by rw[al.1,U2],λ i a y ha hy=>?_};let(q,hq,h):=al.2 i [a.1,a.2] y (by rw[Vd,ha];rfl) hy;exact{(q),hq,h}
section
variable {z TI TO i j:Z}{f g:G Z}{ti tj:à->Ð->Prop}{vi vj:à->Ü O}{m:à}{x y:O}{t:Z}{fl:Ý}{ot:Obj}
variable {a q:Z}{as bs:Array O}
end
def Rl(xs:G V)(H:Hp)(Q:VK):Prop:=match xs with
 | [.int i]=>Q (.int i) H
 | [.bl k]=>Q (.int (if k=L then 1 else 0)) H
 | _=>False
def Gr(k:Ý)(H:Hp)(Q:VK):Rl [.bl k] H Q=Q (.int (if k=L then 1 else 0)) H:=rfl
theorem Eh:bK X (.type "int") Rl:=En.mono λ xs H Q h=>by
 unfold Rl at h;split at h
 ·exact .inl {_,J,h}
 ·exact .inr {_,J,h}
 ·exact h.elim
def TK(l:Z)(H:Hp)(Q:VK):G V->Prop:=λ _=>Q .non (upd H l (.lst []))
def P7(l:Z)(H:Hp)(Q:VK)(xs:G V):TK l H Q xs=Q .non (upd H l (.lst [])):=rfl
theorem Gq(l:Z)(H:Hp)(Q:VK):AV (.ref l) [] H Q=aM (aQ H l) (TK l H Q):=by
 unfold AV;refine propext {λ h=>?_,λ h=>?_}
 ·let(l',xs,e,_,hl,q):=h;cases e;let e2:aQ H l=U xs:=by unfold aQ;rw[hl];rfl
  rw[e2,mH];exact q
 ·let(xs,e,q):=aq h;exact{l,xs,J,J,cI e,q}
def J0(l:Z)(xs:G V)(H:Hp)(Q:VK):G V->Prop:=λ zs=>xs.length+zs.length<=Æ/\Q .non (upd H l (.lst (xs++zs)))
def LP(l:Z)(xs:G V)(H:Hp)(Q:VK)(zs:G V):J0 l xs H Q zs=(xs.length+zs.length<=Æ/\Q .non (upd H l (.lst (xs++zs)))):=rfl
def NV(l b:Z)(H:Hp)(Q:VK):G V->Prop:=λ xs=>aM (aQ H b) (J0 l xs H Q)
def LQ(l b:Z)(H:Hp)(Q:VK)(xs:G V):NV l b H Q xs=aM (aQ H b) (J0 l xs H Q):=rfl
theorem Cy(l b:Z)(H:Hp)(Q:VK):Bo (.ref l) [.ref b] H Q=aM (aQ H l) (NV l b H Q):=by
 refine propext {λ h=>?_,λ h=>?_}
 ·let(l',b',xs,zs,e1,e2,h1,h2,h3,q):=h;cases e1;cases e2;unfold aQ;rw[h1]
  show aM (aQ H b) _
  unfold aQ;rw[h2];exact{(h3),q}
 ·let(xs,e,h):=aq h;let(zs,e2,h3,q):=aq h;exact{l,b,xs,zs,J,J,cI e,cI e2,h3,q}
section
variable {a b c d:Ñ}{ta tb tc td:TE}
end
section
variable {tt:TT}{te:TE}{Q:VK}{K:PySem.W.Frag}
end
def Ite(l:Z)(xs:G V):It:=
 ⟨λ i H=>H l=U (.lst xs)/\i<xs.length,λ i H x H'=>∃ p u,H p=Y/\x=.ref p/\xs[i]? = U u/\H'=upd H p (.tup [.int (i:B),u]),λ i H=>H l=U (.lst xs)/\i=xs.length⟩
def Tne(l e it:Z)(i:à)(h:Ð):Prop:=(∃ old,IsEnum h e it (i:B) old)/\h.IsListIter it l i
theorem B8{K:PySem.W.Frag}{x1}{tp:Pos}(l e it:Z)(xs:G V)(ne:e≠it)(hA:A.handled=Y):Turn P w K A (.Tuple elts x1 tp) (Ite l xs) [e,it] e (Tne l e it) where
 mem:=Vq
 obj:=λ i h st c hc=>by
  let((old,e1),e2):=st;simp only[Vp,VD,Wa] at hc
  rcases hc with rfl|rfl
  ·exact{_,e1,λ v z=>by cases z}
  ·let(o,e,_,d):=e2;exact{o,e,λ v z=>by rw[d] at z;cases z}
 keep:=λ i h h' st k=>by
  let((old,e1),e2):=st;exact{⟨old,k e (by simp) _ e1⟩,e2.at λ o q=>k it (by simp) o q}
 item:=by
  intro X hP hw hK hc i pins s σ H E I hf st hg;subst hP hw hK;let(ha,l1):=hg;let(as,ra,pl,_):=I.list (SqL.of ha);let hx:xs[i]? = U xs[i]:=U4 l1;let(u,hu,ru):=ra.get hx;let free:∀ c∈[e,it],H c=Y:=λ c h=>(hf c h).1;let a4:l≠e:=λ z=>by have:=free e (by simp);rw[←z,ha] at this;cases this
  let a5:l≠it:=λ z=>by have:=free it (by simp);rw[←z,ha] at this;cases this
  let W:=WalksT.enumerate (prog:=X.prog) (w:=X.w) (show X.A.handled=Y by rw[hc];exact hA) e it l ne a4 a5 as.toArray;let la:=ra.length;let(e1,e2):=st;let(old,a7):=e1;refine W.item i s _ E (by simp;omega) ⟨⟨old,a7⟩,e2,pl.isList⟩ λ T vals h1 tk hp hle hT a3 kp=>{_,J,?_};refine W.go elts x1 tp i T ⟨h1,s.gens,s.drawn,tk,s.os⟩ _ E a3 λ h2 a8 a9=>?_;let nT:=W.apart i T h1 a3;let(a6,x,b1,rfl):=hp
  let b2:x=u:=by
   have:as[i]? = U x:=by simpa using b1
   rw[hu] at this;exact(VL this).symm
  subst b2;let b3:h2.IsTuple T #[.int (i:B) a6,x]:=hT.at λ o q=>a9 T o nT q;let I2:Inv X pins σ (upd H T (.tup [.int (i:B),xs[i]])) { s with heap:=h2,toks:=tk }:=I.turnNew (t':=tk) (ch:=[e,it]) (λ c hc=>hf c hc) (λ c o hc q=>a9 c o hc (kp c o hc q)) hle {(show 2<=Æ by decide),[.int (i:B) a6,x],.cons {(a6),J} (.cons ru .nil),b3};let fr:H T=Y:=I.hok.fresh hle;refine{.ref T,_,I2,J,{_,_,fr,J,hx,J},{(a8.1),a8.2.1},λ c hc=>?_}
  let b4:c<%[s|99]:=by
   simp only[Vp,VD,Wa] at hc
   rcases hc with rfl|rfl
   ·exact U5 a7
   ·let(o,q,_):=e2;exact U5 q
  rw[ah (Vl (Vg b4 hle))];exact free c hc
 done:=by
  intro X hP hw hK hc i pins s σ H E I hf st hg;subst hP hw hK;let(ha,rfl):=hg;let(as,ra,pl,_):=I.list (SqL.of ha);let free:∀ c∈[e,it],H c=Y:=λ c h=>(hf c h).1;let a4:l≠e:=λ z=>by have:=free e (by simp);rw[←z,ha] at this;cases this
  let a5:l≠it:=λ z=>by have:=free it (by simp);rw[←z,ha] at this;cases this
  let W:=WalksT.enumerate (prog:=X.prog) (w:=X.w) (show X.A.handled=Y by rw[hc];exact hA) e it l ne a4 a5 as.toArray;let la:=ra.length;let hsz:as.toArray.size=xs.length:=by simp[la]
  let(e1,e2):=st;refine W.done s _ E (by rw[hsz];exact{(e1),e2,pl.isList}) λ h' tk kp=>{J,I.turnL (t':=tk) (ch:=[e,it]) (λ c hc=>hf c hc) kp}
 self:=λ A i s Q E st h=>by
  let((old,e1),e2):=st;exact wpAny_pyIter_enum e1 h
def RI(l:Z)(H:Hp)(R:It->Hp->Prop):G V->Prop:=λ xs=>R (Ite l xs) H
def P1(l:Z)(H:Hp)(R:It->Hp->Prop)(xs:G V):RI l H R xs=R (Ite l xs) H:=rfl
def QT(R:It->Hp->Prop):G V->Hp->Prop:=λ vs H=>match vs with
 | [.ref l]=>aM (aQ H l) (RI l H R)
 | _=>False
def P2(R:It->Hp->Prop)(l:Z)(H:Hp):QT R [.ref l] H=aM (aQ H l) (RI l H R):=rfl
def N3(ta:TA):TI:=λ σ H R=>ta σ H (QT R)
def L5(ta:TA)(σ:St)(H:Hp)(R:It->Hp->Prop):N3 ta σ H R=ta σ H (QT R):=rfl
theorem KD{a:Ñ}{x1}{tp:Pos}{ta:TA}{p pos:Pos}(hg:Gl X "enumerate")(hm:X.mg "enumerate"=Y)(ha:PA X [a] ta)(he:starEach [a] X.env=[(Â,eval a X.env)]:=by rfl)(hq:X.calm=L:=by rfl) :
  PI X (.Tuple elts x1 tp) (.Call (.Name "enumerate" p) [a] [] pos) (N3 ta):=by
 intro pins s σ H R I h;refine Call_ (jl I hg hm (show bootBuiltins "enumerate"=U (.type "enumerate") by decide +kernel) (PyProof.Rows.callWith_type1 (thn (ha pos pins s σ H _ I h) λ us s1 ⟨vs,H1,I1,r1,q1⟩=>?_) (by rw[he];rfl) (by rfl)));unfold QT at q1;split at q1
 ·rename_i l;let(xs,e,q):=aq q1;replace e:=cI e
  cases r1 with
  | cons r rr=>
   cases rr;cases r;let(as,ra,pl,_):=I1.list (SqL.of e);refine call_enumerate_list pl.isList λ h' e1 e2 e3 e4=>?_;let I2:Inv X pins σ H1 { s1 with heap:=h' }:=I1.kept (t':=s1.toks) e4;refine wpAny_pyIter_enum (s:={ s1 with heap:=h' }) e1 {%[s1|99]+1,[%[s1|99]+1,%[s1|99]],_,_,H1,J,I2,B8 l (%[s1|99]+1) %[s1|99] xs (by simp) (I1.ok.hd hq),{⟨_,e1⟩,e2},λ c hc=>?_,q}
   let hle:%[s1|99]<=c:=by
    simp only[Vp,VD,Wa] at hc
    rcases hc with rfl|rfl
    ·exact W7 ..
    ·exact U6 _
   exact I1.fpOk hle (I1.hok.fresh hle)
 ·exact q1.elim
section
variable {Q:VK}{K:PySem.W.Frag}
theorem Hx(Pv:à->St->Hp->Prop)(h0:Pv 0 σ H)(hl:∀ i σ H,Pv i σ H->H l=U (.lst xs))
  (hs:∀ i u p σ H H',xs[i]? = U u->Pv i σ H->H p=Y->Ext H H'->H' p=U (.tup [.int (i:B),u])->g (.ref p) σ H' (Aq tb {Pv (i+1),rt,nx,Pv (i+1)})) (hd:∀ σ H,Pv xs.length σ H->nx σ H):M9 g tb {(nx),rt,bk,ct} σ (Ite l xs) H:=by
 refine{λ i m σ H=>m=xs.length - i/\i<=xs.length/\Pv i σ H,{xs.length,by simp,VM _,h0},?_};rintro i m σ H ⟨rfl,hi,p⟩;let qa:=hl i σ H p
 by_cases hlt:i<xs.length
 ·refine .inr {⟨qa,hlt⟩,Pv (i+1),λ σ' H' p'=>{xs.length - (i+1),by omega,J,hlt,p'},λ x H' y=>?_};let(r,u,hr,rfl,hu,rfl):=y;exact hs i u r σ H _ hu p hr (Ext.new hr) ag
 ·let e:i=xs.length:=by omega
  subst e;exact .inl {⟨qa,J⟩,hd σ H p}
end
def IW(C:Z)(m:Ã)(sp:Sp)(dvs:G V)(E:St->XK)(ta:TE)(t:TA):TE:=λ σ H Q=>EV C m sp dvs (E σ) ta t σ H Q
def Gu(C:Z)(m:Ã)(sp:Sp)(dvs:G V)(E:St->XK)(ta:TE)(t:TA)(σ:St)(H:Hp)(Q:VK):IW C m sp dvs E ta t σ H Q=ta σ H (yh C m sp dvs (E σ) t σ Q):=rfl
section
variable {X:Cx}{cb:Ý}{CX:CXT}{k:à}{f C:Z}{fd:Á}{ps:G Ã}{sp:Sp}{dvs:G V}{ds:G O}{E:St->XK}{x m:Ã}{p pos apos:Pos}{e o:Ñ}{es:G Ñ}{ta:TE}{t:TA}
theorem Ks{us:G O}{vs:G V}{Q:VK}(a3:(!cb || X.calm)=L)(F:eV cb X.prog X.w X.K X.mg X.base CX k f fd ps sp)(hr:iw k X.A)(hb:ao X.K fd ps ds)(hd:aX dvs ds)(hx:∀ σ,wO CX X (E σ) σ)(I:Inv X pins σ H s)(r:aX vs us)(q:sp (vs++dvs) H Q (E σ)) :
  Ç (Ê X.prog X.w) X.A (call (.ref f) us) (EP X pins σ Q) X.xe s:=by
 let r2:aX (vs++dvs) (us++ds):=r.append hd;let hl:(us++ds).length=ps.length:=by rw[←r2.length];exact F.len _ _ _ _ q
 refine WX (We (F.run X.A X.stack s H ⟨us,[]⟩ (us++ds) (vs++dvs) Q (E σ) hr (λ z=>I.ok.hd (by subst z;exact a3)) I.env0 (hb s us I.kIn hl) r2 q) λ rr s' hq=>?_)
 cases rr with
 | error ev=>exact hx σ pins H s ev s' I hq
 | ok fl=>
  cases fl with
  | ret u=>exact I.after hq
  | next=>exact False.elim hq
  | brk=>exact False.elim hq
  | cont=>exact False.elim hq
theorem Cj{pl:Sem Ý}(he:PE X o ta)(c:Cls X.K C)(hm:dA X.K C m f)(F:eV cb X.prog X.w X.K X.mg X.base CX k f fd ps sp)(hr:iw k X.A)(hb:ao X.K fd ps ds)(hd:aX dvs ds)(hx:∀ σ,wO CX X (E σ) σ)(ha:PA X (e::es) t)
  (a3:starEach (e::es) X.env=(Â,eval e X.env)::starEach es X.env:=by rfl) (a4:(backTo pos (starEach es X.env)).any (·.1)=Â:=by rfl)
  (ht:eval (.Call (.Attribute o m apos) (e::es) [] pos) X.env=(do
   let ov ←eval o X.env
   standAt apos.atName
   let (f,first) ←holding [ov] (getMethod ov m pl)
   callWith pos f first (backTo pos (starEach (e::es) X.env)) (backToKw pos (keywordEach [] X.env))):=by rfl) (a5:(!cb || X.calm)=L:=by rfl) :
  PE X (.Call (.Attribute o m apos) (e::es) [] pos) (IW C m sp dvs E ta t):=by
 intro pins s σ H Q I h;refine Xu (pl:=pl) (thn (he pins s σ H _ I h) λ u s1 ⟨x,H1,I1,rx,q0⟩=>?_) ht;let(a,dx,fs,ex,ea,l,q):=qd q0;subst ex;obtain rfl:u=Ë a:=rx;refine il I1 ea c hm l ?_;refine XF (first:=[.ref a]) (h₀:=X.base) I.ok.mod.kin hm.kp (thn (ha pos pins s1 σ H1 _ I1 q) λ us s2 ⟨vs,H2,I2,r,q2⟩=>{I2.kIn,?_}) a3 a4;exact Ks (us:=.ref a::us) (vs:=.ref a::vs) a5 F hr hb hd hx I2 (.cons J r) q2
end
theorem eP{β:Type}(f:α->Ü β)(g:α->β):∀ xs:G α,(∀ x∈xs,f x=U (g x))->xs.filterMap f=xs.map g
 | [],_=>rfl
 | x::r,h=>by
  rw[Xg,h x Vq]
  show g x::_=_
  rw[eP f g r λ y hy=>h y (Vb _ hy)];rfl
theorem qu(its:G O):slicePick its.toArray Y Y (U (-1))=its.reverse.toArray:=by
 unfold slicePick sliceBounds sliceRange;simp only[Option.getD_some,size_toArray,show ¬ ((-1:B) > 0) by decide,if_false]
 let e:(Ó (if (its.length:B) - 1 > -1 then ((its.length:B) - 1 - -1 - -1 - 1) / - -1 else 0).toNat)=Ó its.length:=by
  congr 1
  by_cases h:(its.length:B) - 1 > -1
  ·rw[Ve h,show (- -1:B)=1 from J,Int.ediv_one];omega
  ·rw[U7 h];omega
 rw[e];congr 1;rw[List.filterMap_map];apply W0;intro i
 by_cases hi:i<its.length
 ·rw[eP _ (λ k=>(its.reverse[k]?).getD .none) (Ó its.length) (λ k hk=>?_)]
  ·rw[Vd,X4 hi]
   show U ((its.reverse[i]?).getD .none)=_
   rw[U4 (by simpa using hi)];rfl
  ·let a3:=Wv.mp hk
   show its.toArray[((its.length:B) - 1 + -1 * (k:B)).toNat]? = _
   let hn:((its.length:B) - 1 + -1 * (k:B)).toNat=its.length - 1 - k:=by omega
   rw[hn,List.getElem?_toArray,WC a3,U4 (by omega)];rfl
 ·rw[VU (show its.reverse.length<=i by rw[VT];omega)];refine VU (Vv (List.length_filterMap_le _ _) ?_);rw[VZ];omega
def JX(H:Hp)(Q:VK):G V->Prop:=λ xs=>jZ (.lst xs.reverse) H Q
def LC(H:Hp)(Q:VK)(xs:G V):JX H Q xs=jZ (.lst xs.reverse) H Q:=rfl
def QQ(Q:VK):VK:=λ x H=>match x with
 | .ref p=>aM (aQ H p) (JX H Q)
 | _=>False
def PK(Q:VK)(p:Z)(H:Hp):QQ Q (.ref p) H=aM (aQ H p) (JX H Q):=rfl
def Tc(te:TE):TE:=λ σ H Q=>te σ H (QQ Q)
def O8(te:TE)(σ:St)(H:Hp)(Q:VK):Tc te σ H Q=te σ H (QQ Q):=rfl
section
variable {e st:Ñ}{te tst:TE}{p2:Pos}
theorem IQ(he:PE X e te)(hs:PE X st tst)(h1:∀ (σ:St) (H:Hp) (Q:VK),Q (.int (-1)) H->tst σ H Q):PE X (.Subscript e (.Slice Y Y (U st) p2) pos) (Tc te):=by
 intro pins s σ H Q I h;refine Subscript_ (thn (he pins s σ H _ I h) λ v s1 ⟨x,H1,I1,r1,q1⟩=>?_);unfold QQ at q1;split at q1
 ·rename_i p;let(xs,ex,q):=aq q1;replace ex:=cI ex;cases r1;refine wpAny_Slice ?_;rw[evalPart_none];refine U3 ?_;refine U3 ?_;rw[evalPart_some];refine thn (hs pins s1 σ H1 (λ y H'=>y=.int (-1)/\H'=H1) I1 (h1 σ H1 _ {(J),J})) λ u s2 ⟨y,H2,I2,r2,e2,e3⟩=>?_;subst e2 e3;let(tk,rfl):=r2;let I4:Inv X pins σ H2 { s2 with heap:=s2.heap.push { cls:=.type "slice",data:=.fields #[.none,.none,.int (-1) tk] } }:=I2.kept (t':=s2.toks) λ b ob q=>U0 _ q
  show Ç (Ê X.prog X.w) X.A (subscriptTail e (.Slice Y Y (U st) p2) (.ref p) (.ref %[s2|99])) (EP X pins σ Q) X.xe { s2 with heap:=s2.heap.push { cls:=.type "slice",data:=.fields #[.none,.none,.int (-1) tk] } }
  let(its,r,ht,hz):=I4.list (SqL.of ex);refine tail_any (ops:=[.ref p,.ref %[s2|99]]) ht.isList.typeIs slot_list_getitem.lookup ?_ (by with_unfolding_all rfl);let hlen:=r.length;refine wpAny_getItem_list_slice (st:=U (-1)) ht.isList (Heap.IsSliceOf.new ..) .none .none (.int (-1) tk) (by simp) ?_ (by rw[Vj]<;>omega);rw[qu];let fr:=I4.hok.fresh (U6 (Heap.objs (s2.heap.push { cls:=.type "slice",data:=.fields #[.none,.none,.int (-1) tk] })).size);refine⟨.ref (s2.heap.push { cls:=.type "slice",data:=.fields #[.none,.none,.int (-1) tk] }).objs.size,_,I4.laid (t':=s2.toks) (o:=.lst xs.reverse) (λ b ob q=>U0 _ q) (U6 _) ?_,J,q _ _ fr (Ext.new fr) ag⟩;exact{by rw[VT];exact hz,its.reverse,0,r.reverse,Vc _ J}
 ·exact q1.elim
end
def Ag(n:B):G V:=(Ó n.toNat).map λ (i:à)=>V.int (i:B)
def kLR(Q:VK):G V->Hp->Prop:=λ vs H=>match vs with
 | [.int n]=>0<=n/\n<=4096/\jZ (.lst (Ag n)) H Q
 | _=>False
def Ng(Q:VK)(n:B)(H:Hp):kLR Q [.int n] H=(0<=n/\n<=4096/\jZ (.lst (Ag n)) H Q):=rfl
def tLR(ta:TA):TE:=λ σ H Q=>ta σ H (kLR Q)
def Sl(ta:TA)(σ:St)(H:Hp)(Q:VK):tLR ta σ H Q=ta σ H (kLR Q):=rfl
theorem vg{n:B}(h0:n<=4096)(h1:-5000<=n):Builtin.Range.small 0 n 1=L/\Builtin.Range.rangeSize 0 n 1=((n.toNat:à):B):=by
 let e:Builtin.Range.rangeSize 0 n 1=((n.toNat:à):B):=by
  unfold Builtin.Range.rangeSize;rw[if_pos (by decide)];split
  ·rw[Int.ediv_one];omega
  ·omega
 refine{?_,e};unfold Builtin.Range.small;rw[e,if_pos (by decide)];unfold Builtin.Range.rangeFitsLong;simp;omega
theorem iP:∀ {xs:G V}{us:G O},us.length=xs.length->(∀ (i:à) (x:V) (u:O),xs[i]? = U x->us[i]? = U u->bI x u)->aX xs us
 | [],[],_,_=>.nil
 | [],_::_,h,_=>by cases h
 | _::_,[],h,_=>by cases h
 | x::xs,u::us,h,k=>.cons (k 0 x u J J) (iP (by simpa using h) λ i y w a b=>k (i+1) y w (by simpa using a) (by simpa using b))
theorem kP{a:Ñ}{ta:TA}{p p2 a3:Pos}(hc:X.calm=L)(hg:Gl X "list")(hm:X.mg "list"=Y)(a7:Gl X "range")(a8:X.mg "range"=Y)(ha:PA X [a] ta)(hs:starEach [a] X.env=[(Â,eval a X.env)]:=by rfl)(a4:starEach [Expr.Call (.Name "range" p2) [a] [] a3] X.env=[(Â,eval (Expr.Call (.Name "range" p2) [a] [] a3) X.env)]:=by rfl)(a5:starEach ([]:G Ñ) X.env=[]:=by rfl) :
  PE X (.Call (.Name "list" p) [.Call (.Name "range" p2) [a] [] a3] [] pos) (tLR ta):=by
 intro pins s σ H Q I h;refine Wn (jl I hg hm (show bootBuiltins "list"=U (.type "list") by decide +kernel) ?_);refine V4 ?_ (by rw[a4,a5]) (by rw[a5];rfl);rw[a4]
 show Ç _ _ (spliced ((Â,eval _ X.env)::[])) _ _ s
 refine Calls.spliced_cons ?_;refine Call_ (jl I a7 a8 boot_range (PyProof.Rows.callWith_type1 (thn (ha a3 pins s σ H _ I h) λ us s1 ⟨vs,H1,I1,r1,q1⟩=>?_) hs J));unfold kLR at q1;split at q1
 ·rename_i n;let(b2,hn,q):=q1
  cases r1 with
  | cons r rr=>
   cases rr;let(t,rfl):=r;refine call_range_1 ?_;refine Calls.spliced_nil ?_;let(k1,k2):=vg hn (by omega);let I2:Inv X pins σ H1 { s1 with heap:=s1.heap.push { cls:=.type "range",data:=.fields #[.int 0 s1.toks,.int n t,.int 1 (s1.toks+1)] },toks:=s1.toks+1+1 }:=I1.kept (t':=s1.toks+1+1) λ b ob e=>U0 _ e;refine call_list_range (s:={ s1 with heap:=s1.heap.push { cls:=.type "range",data:=.fields #[.int 0 s1.toks,.int n t,.int 1 (s1.toks+1)] },toks:=s1.toks+1+1 }) (n:=n.toNat) (I1.ok.hd hc) (Vc _ J) k1 k2 (by omega) λ h' tk acc c kp a6 hit=>?_;let fr:=I2.hok.fresh (U6 _)
   let hv:aX (Ag n) acc.toList:=by
    refine iP (by unfold Ag;rw[length_map,length_range,Array.length_toList,hit.1]) λ i x u hx hu=>?_;unfold Ag at hx;rw[getElem?_map] at hx;let(j,hj,rfl):=Option.map_eq_some_iff.mp hx;let(b3,a9):=List.getElem?_eq_some_iff.mp hj;let ej:i=j:=by simpa using a9
    subst ej;let(b1,e):=hit.2 i u (by simpa using hu);exact{b1,by rw[e];congr 1;omega}
   refine⟨.ref (s1.heap.push { cls:=.type "range",data:=.fields #[.int 0 s1.toks,.int n t,.int 1 (s1.toks+1)] }).objs.size,_,I2.laid (t':=tk) (o:=.lst (Ag n)) kp (U6 _) {?_,acc.toList,c,hv,?_},J,q _ _ fr (Ext.new fr) ag⟩
   ·unfold Ag;rw[length_map,length_range];exact ak (by omega)
   ·exact a6
 ·exact q1.elim
def gi(h:n+64<cLine):n+1<cLine:=by omega
def RL(Q:VK)(x:V):VK:=λ y H=>∃ a v,x=.ref a/\Ai H a y (U v)/\Q v H
def TJ(ty:TE)(σ:St)(Q:VK):VK:=λ x H=>ty σ H (RL Q x)
def P6(ty:TE)(σ:St)(Q:VK)(x:V)(H:Hp):TJ ty σ Q x H=ty σ H (RL Q x):=rfl
def K9(td ty:TE)(σ:St)(H:Hp)(Q:VK):Np td ty σ H Q=td σ H (TJ ty σ Q):=rfl
def Od{a:Z}{k:Key}{Q:VK}(e:H a=U (.dK kvs))(h:nL kvs k=U v)(q:Q v H):RL Q (.ref a) (kV k) H:={a,v,J,h ▸ Ai.k e,q}
def Rh(neg:Ý):R2:=λ y x H Q=>∃ a o,x=.ref a/\Ai H a y o/\Q (.bl (if neg=L then !o.isSome else o.isSome)) H
def wy{neg:Ý}{a:Z}{k:Key}{Q:VK}(e:H a=U (.dK kvs))(q:Q (.bl (if neg=L then !(nL kvs k).isSome else (nL kvs k).isSome)) H):Rh neg (kV k) (.ref a) H Q:={a,_,J,Ai.k e,q}
theorem A3(hu:X.A.units+1<cLine):OpR X (compareOp .In) (Rh Â):=by
 intro pins s σ H x y v u Q I rx ry h;let(a,o,rfl,g,q):=h;obtain rfl:u=Ë a:=ry;exact UK hu I g rx λ s3 I3=>{.bl o.isSome,H,I3,J,q}
theorem rV(hu:X.A.units+1<cLine):OpR X (compareOp .NotIn) (Rh L):=by
 intro pins s σ H x y v u Q I rx ry h;let(a,o,rfl,g,q):=h;obtain rfl:u=Ë a:=ry;exact MC hu I g rx λ s3 I3=>{.bl (!o.isSome),H,I3,J,q}
def RJ(nx:St->Hp->Prop)(σ:St)(v x:V):VK:=λ y H=>∃ a H4,x=.ref a/\M3 H a y v H4/\nx σ H4
def RK(ty:TE)(nx:St->Hp->Prop)(σ:St)(v:V):VK:=λ x H=>ty σ H (RJ nx σ v x)
def P4(ty:TE)(nx:St->Hp->Prop)(σ:St)(v x:V)(H:Hp):RK ty nx σ v x H=ty σ H (RJ nx σ v x):=rfl
def TH(td ty:TE)(nx:St->Hp->Prop)(σ:St):VK:=λ v H=>td σ H (RK ty nx σ v)
def P5(td ty:TE)(nx:St->Hp->Prop)(σ:St)(v:V)(H:Hp):TH td ty nx σ v H=td σ H (RK ty nx σ v):=rfl
def Ld(td ty tv:TE)(nx:St->Hp->Prop)(rt:VK)(bk ct:St->Hp->Prop)(σ:St)(H:Hp):Nv td ty tv {(nx),rt,bk,ct} σ H=tv σ H (TH td ty nx σ):=rfl
def Oc{a:Z}{k:Key}(e:H a=U (.dK kvs))(hl:kvs.length<Æ)(q:nx σ (upd H a (.dK (wq kvs k v)))):RJ nx σ v (.ref a) (kV k) H:={a,_,J,M3.k e hl,q}
def kL:∀ {us:G O}{ns:G B},IntsAre us ns->aX (ns.map V.int) us
 | _,_,.nil=>.nil
 | _,_,.cons n t r=>.cons {(t),J} (kL r)
def tV(i:à):TE:=λ σ H Q=>match σ[i]? with
 | some (U v)=>Q v H
 | _=>False
theorem RY(i:à):Rb i=tV i:=by
 funext σ H Q;refine propext {λ ⟨v,e,q⟩=>?_,λ h=>?_}
 ·unfold tV;rw[e];exact q
 ·unfold tV at h;split at h
  ·rename_i v e;exact{(v),e,h}
  ·exact h.elim
def IZ{Q:VK}:tV 0 (U v::σ) H Q=Q v H:=rfl
def O6{Q:VK}:tV 1 (a0::U v::σ) H Q=Q v H:=rfl
def O5{Q:VK}:tV 2 (a0::a1::U v::σ) H Q=Q v H:=rfl
def O2{Q:VK}:tV 3 (a0::a1::a2::U v::σ) H Q=Q v H:=rfl
def O1{Q:VK}:tV 4 (a0::a1::a2::a3::U v::σ) H Q=Q v H:=rfl
def O0{Q:VK}:tV 5 (a0::a1::a2::a3::a4::U v::σ) H Q=Q v H:=rfl
def OZ{Q:VK}:tV 6 (a0::a1::a2::a3::a4::a5::U v::σ) H Q=Q v H:=rfl
def OY{Q:VK}:tV 7 (a0::a1::a2::a3::a4::a5::a6::U v::σ) H Q=Q v H:=rfl
def OX{Q:VK}:tV 8 (a0::a1::a2::a3::a4::a5::a6::a7::U v::σ) H Q=Q v H:=rfl
def OW{Q:VK}:tV 9 (a0::a1::a2::a3::a4::a5::a6::a7::a8::U v::σ) H Q=Q v H:=rfl
def K4{a9:Ü V}{Q:VK}:tV 10 (a0::a1::a2::a3::a4::a5::a6::a7::a8::a9::U v::σ) H Q=Q v H:=rfl
def nI0(g:B->B->V):R2:=λ x y H Q=>match x,y with
 | .int i,.int j=>Q (g i j) H
 | _,_=>False
def Su(g:B->B->V)(i j:B)(H:Hp)(Q:VK):nI0 g (.int i) (.int j) H Q=Q (g i j) H:=rfl
theorem oq(g:B->B->V):rI0 g=nI0 g:=by
 funext x y H Q;refine propext {λ ⟨i,j,e,e',q⟩=>by subst e e';exact q,λ h=>?_};unfold nI0 at h;split at h
 ·exact{_,_,J,J,h}
 ·exact h.elim
def nI(C:B->B->Prop)(g:B->B->V):R2:=λ x y H Q=>match x,y with
 | .int i,.int j=>C i j/\Q (g i j) H
 | _,_=>False
def UA(C:B->B->Prop)(g:B->B->V)(i j:B)(H:Hp)(Q:VK):nI C g (.int i) (.int j) H Q=(C i j/\Q (g i j) H):=rfl
theorem yf(C:B->B->Prop)(g:B->B->V):rI C g=nI C g:=by
 funext x y H Q;refine propext {λ ⟨i,j,e,e',q⟩=>by subst e e';exact q,λ h=>?_};unfold nI at h;split at h
 ·exact{_,_,J,J,h}
 ·exact h.elim
def nU(g:B->V):V->Hp->VK->Prop:=λ x H Q=>match x with
 | .int i=>Q (g i) H
 | _=>False
def Uz(g:B->V)(i:B)(H:Hp)(Q:VK):nU g (.int i) H Q=Q (g i) H:=rfl
theorem Sf(g:B->V):rU g=nU g:=by
 funext x H Q;refine propext {λ ⟨i,e,q⟩=>by subst e;exact q,λ h=>?_};unfold nU at h;split at h
 ·exact{_,J,h}
 ·exact h.elim
def oy(Q:Ý->Hp->Prop):VK:=λ x H=>match x with
 | .bl k=>Q k H
 | _=>False
def xl(Q:Ý->Hp->Prop)(k:Ý)(H:Hp):oy Q (.bl k) H=Q k H:=rfl
theorem Hk(Q:Ý->Hp->Prop):NP Q=oy Q:=by
 funext x H;refine propext {λ ⟨k,e,q⟩=>by subst e;exact q,λ h=>?_};unfold oy at h;split at h
 ·exact{_,J,h}
 ·exact h.elim
def um(t:TE):TT:=λ σ H Q=>t σ H (oy Q)
def BB(t:TE)(σ:St)(H:Hp)(Q:Ý->Hp->Prop):um t σ H Q=t σ H (oy Q):=rfl
theorem p7(t:TE):JB t=um t:=by
 funext σ H Q
 show t σ H (NP Q)=t σ H (oy Q)
 rw[Hk]
def Cs(t:TE):tB t=um t:=p7 t
def Ar(tb:TE)(σ:St)(Q:VK):VK:=λ x H=>match x with
 | .bl c=>if c=L then tb σ H Q else Q (.bl Â) H
 | _=>False
def LY(tb:TE)(σ:St)(Q:VK)(c:Ý)(H:Hp):Ar tb σ Q (.bl c) H=(if c=L then tb σ H Q else Q (.bl Â) H):=rfl
def JR(ta tb:TE):TE:=λ σ H Q=>ta σ H (Ar tb σ Q)
def Lr(ta tb:TE)(σ:St)(H:Hp)(Q:VK):JR ta tb σ H Q=ta σ H (Ar tb σ Q):=rfl
theorem Gf(ta tb:TE):Nr ta tb=JR ta tb:=by
 funext σ H Q
 show ta σ H (SU tb σ Q)=ta σ H (Ar tb σ Q)
 congr 1;funext x H;refine propext {λ ⟨k,e,q⟩=>by subst e;exact q,λ h=>?_};unfold Ar at h;split at h
 ·exact{_,J,h}
 ·exact h.elim
def Ao(Q:VK):VK:=λ x H=>match x with
 | .bl c=>Q (.bl (!c)) H
 | _=>False
def LF(Q:VK)(c:Ý)(H:Hp):Ao Q (.bl c) H=Q (.bl (!c)) H:=rfl
def JM(ta:TE):TE:=λ σ H Q=>ta σ H (Ao Q)
def Lj(ta:TE)(σ:St)(H:Hp)(Q:VK):JM ta σ H Q=ta σ H (Ao Q):=rfl
theorem Ge(ta:TE):Nk ta=JM ta:=by
 funext σ H Q
 show ta σ H (SO Q)=ta σ H (Ao Q)
 congr 1;funext x H;refine propext {λ ⟨k,e,q⟩=>by subst e;exact q,λ h=>?_};unfold Ao at h;split at h
 ·exact{_,J,h}
 ·exact h.elim
def yi(r':R2)(tc:TE)(σ:St)(y:V)(Q:VK):VK:=λ z H=>match z with
 | .bl k=>if k=L then tc σ H (QV r' y Q) else Q (.bl Â) H
 | _=>False
def LV(r':R2)(tc:TE)(σ:St)(y:V)(Q:VK)(k:Ý)(H:Hp):yi r' tc σ y Q (.bl k) H=(if k=L then tc σ H (QV r' y Q) else Q (.bl Â) H):=rfl
theorem Mh(r':R2)(tc:TE)(σ:St)(y:V)(Q:VK):RN r' tc σ y Q=yi r' tc σ y Q:=by
 funext z H;refine propext {λ ⟨k,e,q⟩=>by subst e;exact q,λ h=>?_};unfold yi at h;split at h
 ·exact{_,J,h}
 ·exact h.elim
def E2(r r':R2)(tc:TE)(σ:St)(x:V)(Q:VK):VK:=λ y H=>r x y H (yi r' tc σ y Q)
def LW(r r':R2)(tc:TE)(σ:St)(x y:V)(Q:VK)(H:Hp):E2 r r' tc σ x Q y H=r x y H (yi r' tc σ y Q):=rfl
def E3(r r':R2)(tb tc:TE)(σ:St)(Q:VK):VK:=λ x H=>tb σ H (E2 r r' tc σ x Q)
def LX(r r':R2)(tb tc:TE)(σ:St)(Q:VK)(x:V)(H:Hp):E3 r r' tb tc σ Q x H=tb σ H (E2 r r' tc σ x Q):=rfl
def wH(r r':R2)(ta tb tc:TE):TE:=λ σ H Q=>ta σ H (E3 r r' tb tc σ Q)
def Gv(r r':R2)(ta tb tc:TE)(σ:St)(H:Hp)(Q:VK):wH r r' ta tb tc σ H Q=ta σ H (E3 r r' tb tc σ Q):=rfl
theorem rX(r r':R2)(ta tb tc:TE):Aw r r' ta tb tc=wH r r' ta tb tc:=by
 funext σ H Q
 show ta σ H (UH r r' tb tc σ Q)=ta σ H (E3 r r' tb tc σ Q)
 congr 1;funext x H1
 show tb σ H1 (TL r r' tc σ x Q)=tb σ H1 (E2 r r' tc σ x Q)
 congr 1;funext y H2
 show r x y H2 (RN r' tc σ y Q)=r x y H2 (yi r' tc σ y Q)
 rw[Mh]
def E7:TGs:=λ vs σ H Q=>match vs with
 | []=>Q σ H
 | _=>False
def L6(σ:St)(H:Hp)(Q:St->Hp->Prop):E7 [] σ H Q=Q σ H:=rfl
theorem Mm:T5=E7:=by
 funext vs σ H Q;refine propext {λ ⟨e,q⟩=>by subst e;exact q,λ h=>?_};unfold E7 at h;split at h
 ·exact{(J),h}
 ·exact h.elim
def wL(t:TG)(u:TGs):TGs:=λ vs σ H Q=>match vs with
 | v::r=>t v σ H (kGs u r Q)
 | _=>False
def GF(t:TG)(u:TGs)(v:V)(r:G V)(σ:St)(H:Hp)(Q:St->Hp->Prop):wL t u (v::r) σ H Q=t v σ H (kGs u r Q):=rfl
theorem Hv(t:TG)(u:TGs):N4 t u=wL t u:=by
 funext vs σ H Q;refine propext {λ ⟨v,r,e,q⟩=>by subst e;exact q,λ h=>?_};unfold wL at h;split at h
 ·exact{_,_,J,h}
 ·exact h.elim
theorem jV{f:α0->G V}{wv:α0->Prop}(inj:∀ a a',f a=f a'->a=a')(a:α0):(∃ a',f a=f a'/\wv a')=wv a:=propext ⟨λ ⟨a',e,q⟩=>by obtain rfl:=inj _ _ e;exact q,λ q=>{(a),J,q}⟩
theorem jW{f:α0->G V}{wv:α0->Prop}{vs:G V}(h:∃ a,vs=f a/\wv a)(l:∀ a,(f a).length=n):vs.length=n:=by
 let(_,rfl,_):=h;exact l _
theorem jb{f:α0->α1->G V}{wv:α0->α1->Prop}(inj:∀ a b a' b',f a b=f a' b'->a=a'/\b=b')(a:α0)(b:α1):(∃ a' b',f a b=f a' b'/\wv a' b')=wv a b:=propext ⟨λ ⟨a',b',e,q⟩=>by let(rfl,rfl):=inj _ _ _ _ e;exact q,λ q=>{(a),b,J,q}⟩
theorem fT{f:α0->α1->G V}{wv:α0->α1->Prop}{vs:G V}(h:∃ a b,vs=f a b/\wv a b)(l:∀ a b,(f a b).length=n):vs.length=n:=by
 let(_,_,rfl,_):=h;exact l _ _
theorem EK{f:α0->α1->α2->G V}{wv:α0->α1->α2->Prop}(inj:∀ a b c a' b' c',f a b c=f a' b' c'->a=a'/\b=b'/\c=c')(a:α0)(b:α1)(c:α2):(∃ a' b' c',f a b c=f a' b' c'/\wv a' b' c')=wv a b c:=propext ⟨λ ⟨a',b',c',e,q⟩=>by let(rfl,rfl,rfl):=inj _ _ _ _ _ _ e;exact q,λ q=>{(a),b,c,J,q}⟩
theorem ud{f:α0->α1->α2->G V}{wv:α0->α1->α2->Prop}{vs:G V}(h:∃ a b c,vs=f a b c/\wv a b c)(l:∀ a b c,(f a b c).length=n):vs.length=n:=by
 let(_,_,_,rfl,_):=h;exact l _ _ _
theorem QJ{f:α0->α1->α2->α3->G V}{wv:α0->α1->α2->α3->Prop}(inj:∀ a b c d a' b' c' d',f a b c d=f a' b' c' d'->a=a'/\b=b'/\c=c'/\d=d')(a:α0)(b:α1)(c:α2)(d:α3):(∃ a' b' c' d',f a b c d=f a' b' c' d'/\wv a' b' c' d')=wv a b c d:=propext ⟨λ ⟨a',b',c',d',e,q⟩=>by let(rfl,rfl,rfl,rfl):=inj _ _ _ _ _ _ _ _ e;exact q,λ q=>{(a),b,c,d,J,q}⟩
theorem EL{f:α0->α1->α2->α3->G V}{wv:α0->α1->α2->α3->Prop}{vs:G V}(h:∃ a b c d,vs=f a b c d/\wv a b c d)(l:∀ a b c d,(f a b c d).length=n):vs.length=n:=by
 let(_,_,_,_,rfl,_):=h;exact l _ _ _ _
theorem Ti{α4:Type}{f:α0->α1->α2->α3->α4->G V}{wv:α0->α1->α2->α3->α4->Prop}(inj:∀ a b c d i a' b' c' d' i',f a b c d i=f a' b' c' d' i'->a=a'/\b=b'/\c=c'/\d=d'/\i=i')(a:α0)(b:α1)(c:α2)(d:α3)(i:α4):(∃ a' b' c' d' i',f a b c d i=f a' b' c' d' i'/\wv a' b' c' d' i')=wv a b c d i:=propext ⟨λ ⟨a',b',c',d',i',e,q⟩=>by let(rfl,rfl,rfl,rfl,rfl):=inj _ _ _ _ _ _ _ _ _ _ e;exact q,λ q=>{(a),b,c,d,i,J,q}⟩
theorem Ul{α4:Type}{f:α0->α1->α2->α3->α4->G V}{wv:α0->α1->α2->α3->α4->Prop}{vs:G V}(h:∃ a b c d i,vs=f a b c d i/\wv a b c d i)(l:∀ a b c d i,(f a b c d i).length=n):vs.length=n:=by
 let(_,_,_,_,_,rfl,_):=h;exact l _ _ _ _ _
theorem UC{P:G O->Prop}(h:P []):∀ us:G O,us.length=0->P us:=λ us e=>by
 cases us with
 | nil=>exact h
 | cons a r=>cases e
theorem jc{P:G O->Prop}(h:∀ a,P [a]):∀ us:G O,us.length=1->P us:=λ us e=>by
 cases us with
 | nil=>cases e
 | cons x r=>exact UC (P:=λ r=>P (x::r)) (h x) r (XO e)
theorem iy{P:G O->Prop}(h:∀ a b,P [a,b]):∀ us:G O,us.length=2->P us:=λ us e=>by
 cases us with
 | nil=>cases e
 | cons x r=>exact jc (P:=λ r=>P (x::r)) (h x) r (XO e)
theorem ue{P:G O->Prop}(h:∀ a b c,P [a,b,c]):∀ us:G O,us.length=3->P us:=λ us e=>by
 cases us with
 | nil=>cases e
 | cons x r=>exact iy (P:=λ r=>P (x::r)) (h x) r (XO e)
theorem M7{P:G O->Prop}(h:∀ a b c d,P [a,b,c,d]):∀ us:G O,us.length=4->P us:=λ us e=>by
 cases us with
 | nil=>cases e
 | cons x r=>exact ue (P:=λ r=>P (x::r)) (h x) r (XO e)
theorem Ru{P:G O->Prop}(h:∀ a b c d i,P [a,b,c,d,i]):∀ us:G O,us.length=5->P us:=λ us e=>by
 cases us with
 | nil=>cases e
 | cons x r=>exact M7 (P:=λ r=>P (x::r)) (h x) r (XO e)
section
variable {X:Cx}
theorem pvN(i:à){x:Ã}{pos:Pos}(hN:X.N[i]? = U x:=by rfl)(hv:Vis X.env.scope x:=by first|exact Or.inl rfl|exact Or.inr (Or.inl J)|exact Or.inr (Or.inr J))(hd:(x == ("__debug__":Ã))=Â:=by decide)
  (a3:(x == ("__classdict__":Ã))=Â:=by decide):PE X (.Name x pos) (tV i):=by rw[←RY];exact pv i hN hv hd a3
theorem aI:OpR X (binaryOp .Add) (nI0 λ i j=>.int (i+j)):=by rw[←oq];exact wF
theorem dB:OpR X (binaryOp .Sub) (nI0 λ i j=>.int (i - j)):=by rw[←oq];exact OI
theorem o7:OpR X (compareOp .Lt) (nI0 λ i j=>.bl (decide (i<j))):=by rw[←oq];exact NB
theorem jh:OpR X (compareOp .LtE) (nI0 λ i j=>.bl (decide (i<=j))):=by rw[←oq];exact R6
theorem iI:OpR X (compareOp .Gt) (nI0 λ i j=>.bl (decide (j<i))):=by rw[←oq];exact NC
theorem ND:OpR X (compareOp .GtE) (nI0 λ i j=>.bl (decide (j<=i))):=by rw[←oq];exact R7
theorem eW:OpR X (binaryOp .Mult) (nI yd λ i j=>.int (i * j)):=by rw[←yf];exact kK
theorem Bw:OpR X (binaryOp .Mult) (nI Ke λ i j=>.int (i * j)):=by rw[←yf];exact KZ
theorem bY:OpR X (binaryOp .FloorDiv) (nI RW λ i j=>.int (i / j)):=by rw[←yf];exact K0
theorem xc:OpR X (binaryOp .FloorDiv) (nI E9 λ i j=>.int (i.fdiv j)):=by rw[←yf];exact FX
theorem bP:OpR X (binaryOp .Mod) (nI (λ _ j=>0<j) λ i j=>.int (i % j)):=by rw[←yf];exact l9
theorem ma:OpR X (binaryOp .Pow) (nI RV λ i j=>.int (i ^ j.toNat)):=by rw[←yf];exact OK
theorem j7:UnR X (unaryOp .USub) (nU λ i=>.int (-i)):=by rw[←Sf];exact Oe
variable {a b c d e:Ñ}{ta tb tc td t:TE}{pos:Pos}
theorem FF{r:R2}(ho:OpR X (compareOp op) r)(ha:PE X a ta)(hb:PE X b tb)(hm:behindInMarks op b=Â):PT X (.Compare a [op] [b] pos) (um (tOp r ta tb)):=by rw[←p7];exact u3 ho ha hb hm
theorem Kx(h:PE X e t)(he:∀ whole,isTrue e X.env whole=(do let v ←whole;standAt e.pos;holding [v] (truthy v)):=by intro _;rfl):PT X e (um t):=by rw[←Cs];exact Ow h he
theorem rT{a3:CmpOp}{r r':R2}(ho:OpR X (compareOp op) r)(a4:OpR X (compareOp a3) r')(ha:PE X a ta)(hb:PE X b tb)(hc:PE X c tc)
  (hm:lastMarks [op,a3] [b,c]=Â:=by with_unfolding_all rfl):PE X (.Compare a [op,a3] [b,c] pos) (wH r r' ta tb tc):=by rw[←rX];exact FV ho a4 ha hb hc hm
theorem Cc{a3:CmpOp}{r r':R2}(ho:OpR X (compareOp op) r)(a4:OpR X (compareOp a3) r')(ha:PE X a ta)(hb:PE X b tb)(hc:PE X c tc)
  (hm:lastMarks [op,a3] [b,c]=Â:=by with_unfolding_all rfl):PT X (.Compare a [op,a3] [b,c] pos) (um (wH r r' ta tb tc)):=by rw[←p7,←rX];exact FG ho a4 ha hb hc hm
variable {bW:G Ñ}
theorem KR(ha:PE X a ta)(hb:PE X (.BoolOp .And (b::bW) pos) tb):PE X (.BoolOp .And (a::b::bW) pos) (JR ta tb):=by rw[←Gf];exact OG ha hb
theorem KN(ha:PE X a ta):PE X (.UnaryOp .Not a pos) (JM ta):=by rw[←Ge];exact OE ha
def bD:PGs X [] E7:=by rw[←Mm];exact KH
theorem Ci{e:Ñ}{t:TG}{u:TGs}(h1:PG X e t)(h2:PGs X es u)
  (hs:(assignEach (e::es) X.env).map (·.2)=assign e X.env::(assignEach es X.env).map (·.2):=by rfl):PGs X (e::es) (wL t u):=by rw[←Hv];exact FL h1 h2 hs
end
def Jg{c:TT}{t u:TS}(R:St->Hp->Prop)(h:∀ a3:St->Hp->Prop,(∀ σ' H',R σ' H'->a3 σ' H')->MW c t u {(a3),rt,bk,ct} σ H)(k:∀ σ' H',R σ' H'->nx σ' H'):MW c t u {(nx),rt,bk,ct} σ H:=h nx k
theorem FQ{X:Cx}{e:Ñ}{f:Ã}{pos:Pos}{ta:TE}{K:Å}(hK:X.K=K)(he:PE X e ta)(hb:attributeBase e f X.env (eval e X.env)=eval e X.env):PE X (.Attribute e f pos) (Rq K ta f):=by subst hK;exact Bs he hb
def RA(k:B)(H:Hp)(Q:VK):G V->Prop:=λ xs=>0<=k/\k<=4096/\xs.length * k.toNat<=Æ/\jZ (.lst (Í k.toNat xs).flatten) H Q
def PL(k:B)(H:Hp)(Q:VK)(xs:G V):RA k H Q xs=(0<=k/\k<=4096/\xs.length * k.toNat<=Æ/\jZ (.lst (Í k.toNat xs).flatten) H Q):=rfl
def Ro:R2:=λ x y H Q=>match x,y with
 | .ref l,.int k=>aM (aQ H l) (RA k H Q)
 | _,_=>False
def Pu(l:Z)(k:B)(H:Hp)(Q:VK):Ro (.ref l) (.int k) H Q=aM (aQ H l) (RA k H Q):=rfl
theorem KY:OpR X (binaryOp .Mult) Ro:=OJ.mono λ x y H Q h=>by
 unfold Ro at h;split at h
 ·rename_i l k;let(xs,e,h0,h1,h2,q):=aq h;exact{l,k,xs,J,J,cI e,by omega,by omega,h2,q.to}
 ·exact h.elim
def RG(neg:Ý)(x:V)(H:Hp)(Q:VK):G V->Prop:=λ xs=>j6 x=L/\xs.all j6=L/\Q (.bl (if neg=L then !inV x xs else inV x xs)) H
def PV(neg:Ý)(x:V)(H:Hp)(Q:VK)(xs:G V):RG neg x H Q xs=(j6 x=L/\xs.all j6=L/\Q (.bl (if neg=L then !inV x xs else inV x xs)) H):=rfl
def nIn(neg:Ý):R2:=λ x y H Q=>match y with
 | .ref p=>aM (dq H p) (RG neg x H Q)
 | _=>False
def Ss(neg:Ý)(x:V)(p:Z)(H:Hp)(Q:VK):nIn neg x (.ref p) H Q=aM (dq H p) (RG neg x H Q):=rfl
theorem Ot{neg:Ý}{x:V}{Q:VK}(h:nIn neg x y H Q):rIn K neg x y H Q:=by
 unfold nIn at h;split at h
 ·rename_i p;let(xs,e,h1,h2,q):=aq h;exact{p,xs,J,jv e,h1,h2,q}
 ·exact h.elim
theorem OM:OpR X (compareOp .In) (nIn Â):=Cp.mono λ x y H Q h=>Ot h
theorem HJ(xs:G V)(z:B)(h:0<=z):lU xs (U z) Y=xs.drop z.toNat:=by
 unfold lU;let(n,rfl):=Int.eq_ofNat_of_zero_le h;rw[HT.sIx_none,HT.sIx_nat]
 show _=xs.drop n
 rcases Nat.le_total n xs.length with q|q
 ·rw[Nat.min_eq_left q];exact Ww (by rw[WA];omega)
 ·rw[Nat.min_eq_right q,List.drop_of_length_le (U6 _),List.drop_of_length_le q,List.take_nil]
theorem BC:∀ {kvs:G (Key × V)}{xs:G (Key × O)},KV kvs xs->∀ {i:à}{p:Key × V},kvs[i]? = U p->∃ q,xs[i]? = U q/\p.1=q.1/\bI p.2 q.2
 | _,_,.nil,i,q,h=>by simp at h
 | _::_,q::_,.cons h t,0,p,hq=>by cases hq;exact{(q),J,h}
 | _::_,_::_,.cons h t,i+1,p,hq=>BC t (i:=i) (by simpa using hq)
theorem Fy:∀ {k:Key}{u:O},uo k u=L->bI (kV k) u
 | .inl i,u,h=>by
  rcases bf h with ⟨j,t,e1,e2⟩|⟨j,t,e1,e2⟩
  ·cases e1;exact{(t),e2}
  ·cases e1
 | .inr x,u,h=>by
  rcases bf h with ⟨j,t,e1,e2⟩|⟨j,t,e1,e2⟩
  ·cases e1
  ·cases e1;exact{(t),e2}
section
variable {tt:TT}{te:TE}{Q:VK}
end
structure IsC(K:Å)(C:Z):Prop where
 cl:Cls K C
 fc:È K (.ref C) "__class__"=U (U (.builtin "object.__class__"))
 ocs:W.specialIn K (.builtin "object.__class__") "__get__"=U (U (.builtin "getset_descriptor.__get__"))
 oct:W.takesIn K (.builtin "object.__class__")=U L
 mo:Û K C (.type "object")=U L
theorem Hi:Ö K (.ref C) (.ref C)=U L:=by
 unfold Ö;rw[if_pos (by simp)]
def Tt(K:Å):G V->Hp->VK->Prop:=λ xs H Q=>∃ p C dx fs,xs=[.ref p,.ref C]/\H p=U (.ins C dx fs)/\IsC K C/\Q (.bl L) H
def Kf{dx:Z}{fs:G (Ã × V)}{Q:VK}(h:H p=U (.ins C dx fs))(ic:IsC K C)(q:Q (.bl L) H):Tt K [.ref p,.ref C] H Q:={(p),C,dx,fs,J,h,ic,q}
theorem Ej(hK:X.K=K):bK X (.builtin "isinstance") (Tt K):=by
 subst hK;intro pins s σ H xs us Q I r h;let(p,C,dx,fs,rfl,hp,ic,q):=h;let(u,w',rfl,rx,rc):=Ak r;cases (show w'=Ë C from rc);exact r0 I rx (uf.ins hp ic.cl ic.fc ic.ocs ic.oct ic.mo) Hi (λ tk=>{.bl L,H,I.tok _,J,q})
section
variable {K:Frag}{x dx:Z}{name:Ã}{v:O}
end
section
variable {e o value:Ñ}{ta tv:TE}{f:Ã}{pos':Pos}
end
open Sem (wp)
open AutoSeq1 (wpAny_loadPart')
section
structure Uj(z TI TO i j l:Z)(f g e:G Z):Prop where
 ti:TI≠z/\TI≠TO/\TI≠i/\TI≠j/\TI≠l
 zt:z≠TO
 zf:z ∉ f
 zg:z ∉ g
 ze:z ∉ e
 tf:TO ∉ f
 tg:TO ∉ g
 te:TO ∉ e
 ig:i ∉ g
 ie:i ∉ e
 jf:j ∉ f
 je:j ∉ e
 lf:l ∉ f
 lg:l ∉ g
variable {z TI TO i j:Z}{f g e:G Z}{ti tj tl:à->Ð->Prop}{vi vj vl:à->Ü O}{m:à}{x y a b c:O}
end
section
variable {R:Result->À->Prop}{wn:Z}{wr:G Z}{zo:Array GenState->Array GenState->Prop}{P:à->O->Prop}{St:à->À->Prop}
end
abbrev PKy:=G B × G B
section
variable {a:Z}
end
section
variable {d:Z}{k:PKy}{zn:G PKy}
end
def Ny:G V->Hp->VK->Prop:=λ vs H Q=>∃ p ns,vs=[.ref p]/\H p=U (.lst (ns.map V.int))/\ns.length<64/\∀ ms:G B,ms.Perm ns->ms.Pairwise (·<=·)->jZ (.lst (ms.map V.int)) H Q
def Fe{ns:G B}{Q:VK}(e:H p=U (.lst (ns.map V.int)))(hl:ns.length<64)(q:∀ ms:G B,ms.Perm ns->ms.Pairwise (·<=·)->jZ (.lst (ms.map V.int)) H Q):Ny [.ref p] H Q:={(p),ns,J,e,hl,q}
theorem zA:bK X (.builtin "sorted") Ny:=by
 intro pins s σ H vs us Q I r h;let(p,ns,rfl,e,hl,q):=h
 cases r with
 | cons r rr=>
  cases rr;cases r;let(z,its,n,r',hlen,hg):=I.lstM e;rw[U2] at hlen;let hI:IntsAre its ns:=zu r';refine sorted_ints (vs:=its) ⟨_,hg,J,n,J⟩ hI (by omega) λ out a4 a1 a2 a3=>?_;let fr:=I.hok.fresh (a:=%[s|99]+1) (Xe _);let(e',a5):=sortedAll_at s.heap its out;refine{.ref (%[s|99]+1),_,I.laid (t':=s.toks) (h':=sortedAll s.heap its out) (o:=.lst (a4.map V.int)) (λ b u hb=>sortedAll_old hb) (Xe _) {?_,out.toList,e',kL a1,?_},J,q a4 a2 a3 _ _ fr (Ext.new fr) ag}
  ·rw[U2,a2.length_eq];exact ak (by omega)
  ·rw[Array.toArray_toList];exact a5
section
variable {e st:Ñ}{te tst:TE}{p2:Pos}
end
section
variable {a b:Ñ}{ta tb:TE}{bW:G Ñ}
end
open PySem.SeqAt
theorem qh(k:Ý):∀ {bs:G Ý}{vs:G O},aX (bs.map V.bl) vs->∀ y,y∈vs->∀ (A:Î) (s:À),EqAt A s y (.bool k) (isBoolOf k y)
 | [],_,.nil,y,hy,_,_=>Þ hy VD
 | b::bs,_,.cons (b:=u) r rr,y,hy,A,s=>by
  rcases Vp.mp hy with e|hy
  ·let e2:u=.bool b:=r;rw[e,e2];exact EqAt.bool_bool b k
  ·exact qh k rr y hy A s
theorem su(k:Ý):∀ {bs:G Ý}{vs:G O},aX (bs.map V.bl) vs->vs.countP (isBoolOf k)=bs.count k
 | [],_,.nil=>rfl
 | b::bs,_,.cons (b:=u) r rr=>by
  let e2:u=.bool b:=r;rw[List.countP_cons,List.count_cons,su k rr,e2];rfl
theorem qr(k:Ý):∀ {bs:G Ý}{vs:G O},aX (bs.map V.bl) vs->∀ (j:à) (h:j<vs.length) (h':j<bs.length),isBoolOf k vs[j]=(bs[j] == k)
 | b::bs,_,.cons (b:=u) r rr,0,_,_=>by
  let e2:u=.bool b:=r;subst e2;rfl
 | b::bs,_,.cons (b:=u) r rr,j+1,h,h'=>qr k rr j (by simpa using h) (by simpa using h')
def J4(k:Ý)(H:Hp)(Q:VK):G Ý->Prop:=λ bs=>Q (.int (bs.count k:à)) H
def LU(k:Ý)(H:Hp)(Q:VK)(bs:G Ý):J4 k H Q bs=Q (.int (bs.count k:à)) H:=rfl
def JP:V->G V->Hp->VK->Prop:=λ x vs H Q=>match x,vs with
 | .ref l,[.bl k]=>aM (aQ H l) (Jt (J4 k H Q))
 | _,_=>False
def Lp(l:Z)(k:Ý)(H:Hp)(Q:VK):JP (.ref l) [.bl k] H Q=aM (aQ H l) (Jt (J4 k H Q)):=rfl
theorem Gh:MtM X "list.count" JP:=by
 intro pins s σ H x vs v us Q I rx rv h;unfold JP at h;split at h
 ·rename_i l k;let(xs,hx,bs,rfl,q):=aq h;replace hx:=cI hx;cases rx
  cases rv with
  | cons rk rr=>
   cases rr;cases rk;let(z,its,n,r,hl,e):=I.lstM hx;refine Xq F.slot_list_count {_,e,J} F.entry_list_count (F.args_list_count_2 _ _) (list_countAt l its.toArray n _ _ (.bool k) (isBoolOf k)) {e,λ y hy=>qh k r y (by simpa using hy) _ _,?_};rw[show its.toArray.toList.countP (isBoolOf k)=bs.count k from su k r];exact{.int (bs.count k:à),H,I.tok _,{_,J},q}
 ·exact h.elim
def JY(k:Ý)(H:Hp)(Q:VK):G Ý->Prop:=λ bs=>k∈bs/\Q (.int (bs.idxOf k:à)) H
def LL(k:Ý)(H:Hp)(Q:VK)(bs:G Ý):JY k H Q bs=(k∈bs/\Q (.int (bs.idxOf k:à)) H):=rfl
def JO:V->G V->Hp->VK->Prop:=λ x vs H Q=>match x,vs with
 | .ref l,[.bl k]=>aM (aQ H l) (Jt (JY k H Q))
 | _,_=>False
def Ln(l:Z)(k:Ý)(H:Hp)(Q:VK):JO (.ref l) [.bl k] H Q=aM (aQ H l) (Jt (JY k H Q)):=rfl
theorem lN:MtM X "list.index" JO:=by
 intro pins s σ H x vs v us Q I rx rv h;unfold JO at h;split at h
 ·rename_i l k;let(xs,hx,bs,rfl,hk,q):=aq h;replace hx:=cI hx;cases rx
  cases rv with
  | cons rk rr=>
   cases rr;cases rk;let(z,its,n,r,hl,e):=I.lstM hx;let hs:Æ=16777216:=sizeLine_eq;rw[U2] at hl z;let hj:bs.idxOf k<bs.length:=List.idxOf_lt_length_iff.mpr hk;refine Xq F.slot_list_index {_,e,J} F.entry_list_index (F.args_list_index_2 _ _) (list_indexAt l its.toArray n _ _ (.bool k) (isBoolOf k) (bs.idxOf k) (by simpa [←hl] using hj) (by omega) ?_ ?_) {e,λ y hy=>qh k r y (by simpa using hy) _ _,?_}
   ·show isBoolOf k its[bs.idxOf k]=L
    rw[qr k r _ (by omega) hj,List.getElem_idxOf hj];exact Vr k
   ·intro j a3 a4
    show isBoolOf k its[j]=Â
    rw[qr k r j (by simpa using a3) (by omega)];exact eq_false_of_ne_true (by simpa using List.not_of_lt_findIdx a4)
   ·exact{.int (bs.idxOf k:à),H,I.tok _,{_,J},q}
 ·exact h.elim
structure Mk0(K:Å)(C:Z):Prop where
 makes:W.makesIn K C=L
 init:È K (.ref C) "__init__"=U (U (.builtin "object.__init__"))
 kp:W.keepIn K (.ref C)=L
structure MD(P:Ì)(w:Ï)(K:Å)(mg:Ã->Ü O)(base:Ð)(CX:CXT)(k:à)(m:Ã)(C:Z)(sp:Sp):Prop where
 c:Cls K C
 ex:∃ f fd ps,dA K C m f/\au P w K mg base CX k f fd ps sp/\ao K fd ps []
section
variable {tt:TT}{te:TE}{Q:VK}
end
def Uc(o:Obj):Prop:=∃ vs:Array O,o.data=.fields vs/\∃ cx,vs[2]? = U cx
section
variable {X:Cx}
def wJ(i:à)(tb:Z->TS)(tr:O->Ü Z->TS)(cls:O)(d:Ü Z)(D:gX)(σ:St)(H:Hp):Ý->Prop:=λ b=>if b=L then ∀ (e:Z) (oe:Obj),H e=Y->oe.cls=cls->oe.dict=d->Uc oe->gh i (.ref e) σ (upd H e (rA oe)) (JU i (tb e) (D.del i)) else tr cls d D σ H
def GA(i:à)(tb:Z->TS)(tr:O->Ü Z->TS)(cls:O)(d:Ü Z)(D:gX)(σ:St)(H:Hp)(b:Ý):wJ i tb tr cls d D σ H b=(if b=L then ∀ (e:Z) (oe:Obj),H e=Y->oe.cls=cls->oe.dict=d->Uc oe->gh i (.ref e) σ (upd H e (rA oe)) (JU i (tb e) (D.del i)) else tr cls d D σ H):=rfl
def IA(K:Å)(C:O)(i:à)(tb:Z->TS)(tr:O->Ü Z->TS):O->Ü Z->TS:=λ cls d D σ H=>aM (Ù K cls C) (wJ i tb tr cls d D σ H)
def Gn(K:Å)(C:O)(i:à)(tb:Z->TS)(tr:O->Ü Z->TS)(cls:O)(d:Ü Z)(D:gX)(σ:St)(H:Hp):IA K C i tb tr cls d D σ H=aM (Ù K cls C) (wJ i tb tr cls d D σ H):=rfl
theorem OA{x n:Ã}{i:à}{np pos:Pos}{b₀:Stmt}{body:G Stmt}{bW:G ExceptHandler}{C:O}{tb:Z->TS}{tr:O->Ü Z->TS}(hN:X.N.Nodup)(hi:X.N[i]? = U n)(hk:X.env.scope.names.lookup n=U .local)(hg:Gl X x)(hm:X.mg x=U C\/(X.mg x=Y/\bootBuiltins x=U C/\x ≠ "__name__"))(hb:∀ e H1,PSs (X.mark e H1) (b₀::body) (tb e))(hr:PHs X bW tr)
  (a4:(x == ("__debug__":Ã))=Â:=by decide):PHs X (.ExceptHandler (U (.Name x np)) (U n) (b₀::body) pos::bW) (IA X.K C i tb tr):=by
 intro pins s σ H D e T cls d I N hn ex h;let(b,hx,h):=aq h;let(oe,vs,oT,ts,he,hc,hd,a3,_,_,_,_,_,a5):=id ex
 let a6:∀ o:HO,X.H₀ e=U o->(∀ xs,o ≠ .tup xs)/\(∀ ob u,o ≠ .frz ob u)/\∀ ps,o ≠ .tbl ps:=λ o h0=>
  ⟨λ xs z=>(by have:=I.base.tups e xs (h0.trans (VQ U z));rw[hn] at this;cases this),λ ob u z=>(by have:=I.base.frzs e ob u (h0.trans (VQ U z));rw[hn] at this;cases this),λ ps z=>(by let(_,this):=I.base.tbls e ps (h0.trans (VQ U z));rw[hn] at this;cases this)⟩
 let(cx,v2,a7):=a5;let(Hm,a9,Im,a8):=(I.track N he hn).markE N hn a6 a3 v2 a7
 let ld:∀ {Q:O->À->Prop} {E:O->À->Prop},Q C s->Ç (Ê X.prog X.w) (X.A.mark (U (.ref e))) (eval (.Name x np) X.env) Q E s:=λ {Q E} q=>by
  rcases hm with z|⟨z1,z2,z3⟩
  ·exact dM (X:=X.mark e Hm) Im hg z q a4
  ·exact jl (X:=X.mark e Hm) Im hg z1 z2 q z3 a4
 refine PySem.wpAny_handleBy_cons (PySem.codeAny_handlers_test (ld ((W.exm_one I.kIn (Jh ex) hx).here ?_))) (by intro q;cases q);unfold wJ at h
 cases b with
 | false=>
  rw[U7 U9] at h;exact hr pins s σ H D e T cls d I N hn ex h
 | true=>
  rw[Ve J] at h;refine Yj (BK ex λ h' kp=>?_);refine lF (X:=X.mark e Hm) (Im.kept (t':=s.toks) kp) hN hi (.inl hk) (show bI (.ref e) (.ref e) from J) (λ s1 I1=>?_) (.inr hk);let hh:tb e (D.del i) (σ.set i (U (.ref e))) (upd H e (rA oe)):=h e oe hn hc hd {(vs),a3,cx,v2};refine Wj (hb e _ pins s1 _ _ (D.del i) I1 hh) (λ f s2 q=>?_) λ _ _ z=>z.elim
  show Ç _ X.A _ _ _ s2
  let q':=a8 q
  cases f with
  | next=>let(σ',H',wn,q):=q';exact mh wn hi hk hN λ s3 J3=>{_,H',J3,q}
  | brk=>let(σ',H',wn,q):=q';exact mh wn hi hk hN λ s3 J3=>{_,H',J3,q}
  | cont=>let(σ',H',wn,q):=q';exact mh wn hi hk hN λ s3 J3=>{_,H',J3,q}
  | ret u=>let(v,σ',H',wn,r,q):=q';exact mh wn hi hk hN λ s3 J3=>{v,_,H',J3,r,q}
end
def BD(n:à)(cl:à->Z)(m:Ã)(sp:à->Sp)(E:XK)(t:TA)(σ:St)(Q:VK):VK:=λ x H=>∃ a i dx fs,x=.ref a/\i<n/\H a=U (.ins (cl i) dx fs)/\fs.lookup m=Y/\t σ H (λ vs H2=>sp i (.ref a::vs) H2 Q E)
def Bz(n:à)(cl:à->Z)(m:Ã)(sp:à->Sp)(E:XK)(ta:TE)(t:TA):TE:=λ σ H Q=>ta σ H (BD n cl m sp E t σ Q)
def CA(n:à)(cl:à->Z)(m:Ã)(sp:à->Sp)(E:XK)(ta:TE)(t:TA)(σ:St)(H:Hp)(Q:VK):Bz n cl m sp E ta t σ H Q=ta σ H (BD n cl m sp E t σ Q):=rfl
section
variable {cl:à->Z}{m:Ã}{sp:à->Sp}{apos:Pos}{o e:Ñ}{ta:TE}{t:TA}
theorem yv{E:XK}{pl:Sem Ý}(he:PE X o ta)(hT:∀ i,i<n->MD X.prog X.w X.K X.mg X.base CX k m (cl i) (sp i))(hr:iw k X.A)(hx:jm CX X E)(ha:PA X (e::es) t)
  (a3:starEach (e::es) X.env=(Â,eval e X.env)::starEach es X.env:=by rfl) (a4:(backTo pos (starEach es X.env)).any (·.1)=Â:=by rfl)
  (ht:eval (.Call (.Attribute o m apos) (e::es) [] pos) X.env=(do
   let ov ←eval o X.env
   standAt apos.atName
   let (f,first) ←holding [ov] (getMethod ov m pl)
   callWith pos f first (backTo pos (starEach (e::es) X.env)) (backToKw pos (keywordEach [] X.env))):=by rfl) (a5:X.calm=L:=by rfl) :
  PE X (.Call (.Attribute o m apos) (e::es) [] pos) (Bz n cl m sp E ta t):=by
 intro pins s σ H Q I h;refine Xu (pl:=pl) (thn (he pins s σ H _ I h) λ u s1 ⟨x,H1,I1,rx,q0⟩=>?_) ht;let(a,i,dx,fs,ex,hi,ea,l,q):=q0;let(c,f,fd,ps,hm,F,hb):=hT i hi;subst ex;obtain rfl:u=Ë a:=rx;refine il I1 ea c hm l ?_;refine XF (first:=[.ref a]) (h₀:=X.base) I.ok.mod.kin hm.kp (thn (ha pos pins s1 σ H1 _ I1 q) λ us s2 ⟨vs,H2,I2,r,q2⟩=>{I2.kIn,?_}) a3 a4;exact wC (us:=.ref a::us) (vs:=.ref a::vs) (ds:=[]) (dvs:=[]) (cb:=L) a5 F hr hb .nil hx I2 (.cons J r) (by rw[W9];exact q2)
end
section
variable {sp:Sp}{dvs:G V}{ds:G O}{E:St->XK}{p:Pos}{e:Ñ}{t:TA}
end
def Ts:V->Ü B->Ü B->Hp->VK->Prop:=λ x lo hi H Q=>match x with
 | .str z=>z.length<=Æ/\Q (.str (PySem.Txt.slice z lo hi)) H
 | _=>False
theorem JH:SlR X Ts:=by
 intro pins s σ H x v vl vu lo hi sl Q I rx hs pl pu h;unfold Ts at h;split at h
 ·rename_i z;let(hz,q):=h;let(t,rfl):=rx;refine{"str",_,F.slot_str_getitem.lookup,typeIs_str _ _ _,?_};let fin:∀ (t':Tok) (k:à),EP X pins σ Q (.str (PySem.Txt.slice z lo hi) t') { s with toks:=k }:=λ t' k=>{.str _,H,I.tok _,{_,J},q}
  cases pl with
  | none=>
   cases pu with
   | none=>exact W3 (l:=Y) (u:=Y) (st:=Y) hs J (X8 {Vv (Txt.slice_le z _ _) hz,λ t' k=>fin t' k})
   | int j uj=>exact W3 (l:=Y) (u:=U (j,uj)) (st:=Y) hs J (X8 {Vv (Txt.slice_le z _ _) hz,λ t' k=>fin t' k})
  | int i ui=>
   cases pu with
   | none=>exact W3 (l:=U (i,ui)) (u:=Y) (st:=Y) hs J (X8 {Vv (Txt.slice_le z _ _) hz,λ t' k=>fin t' k})
   | int j uj=>exact W3 (l:=U (i,ui)) (u:=U (j,uj)) (st:=Y) hs J (X8 {Vv (Txt.slice_le z _ _) hz,λ t' k=>fin t' k})
 ·exact h.elim
end L2
namespace HT
open PySem PySem.Spec PyProof.Rows
section
variable {prog:Ì}{w:Ï}{A:Î}{E:O->À->Prop}{s:À}
theorem getItem_tuple_whole{t sl:Z}{items:Array O}{vl vu:O}{lo hi:Ü B}{Q:O->À->Prop}(ht:IsTup s.heap t items)(hs:s.heap.IsSliceOf sl vl vu .none)(pl:IsPart vl lo)(pu:IsPart vu hi)
  (hw:sIx items.size 0 lo=0/\sIx items.size items.size hi=items.size) (h:Q (.ref t) s):Ç (Ê prog w) A (getItem (.ref t) (.ref sl)) Q E s:=by
 let(os,a4,a5,a7):=id hs;let a6:s.TypeIs (.ref sl) "slice":={(os),a4,a5};unfold getItem
 try with_reducible refine Vy ?_
 first|refine My (U3 ?_)|skip
 refine My (wpAny_sequenceKey ht.typeIs (by decide) ?_)
 refine My (VG (name:=Ô "__getitem__") ht.typeIs VS
  (V9 VS ht.typeIs entry_tuple_getitem ?_ (args_tuple_getitem _ _)))
 show Ç _ _ (Builtin.Tuple.tupleItemsOf (.ref t) >>= _) _ _ s
 refine My (tupleItemsOf_ ht ?_);refine My (X6 a6 ?_);rw[Ve (by decide)];refine My (fX hs pl pu ?_)
 let a3:(((sIx items.size 0 lo:à):B) == 0 && (1:B) == 1 && (sIx items.size items.size hi - sIx items.size 0 lo) == items.size)=L:=by
  rw[hw.1,hw.2];simp
 show Ç _ _ (if (((sIx items.size 0 lo:à):B) == 0 && (1:B) == 1 && (sIx items.size items.size hi - sIx items.size 0 lo) == items.size)=L then _ else _) _ _ s
 rw[Ve a3];refine My ?_
 show Ç _ _ (Builtin.Tuple.tupleIsExact (.ref t)) _ _ s
 refine My (X6 ht.typeIs (U3 ?_));rw[Ve (by decide)];refine My (Xb ?_)
 first
  | exact U3 ⟨_,J,U3 h⟩
  | exact My (U3 (U3 ⟨_,J,U3 h⟩))
  | exact My (U3 ⟨_,J,U3 h⟩)
end
end HT
namespace L2
open PySem PySem.Spec PyProof.Rows
variable {X:Cx}{d:Z}{kvs:G (Key × O)}{ep:à}
def M8(a:Z)(lo hi:Ü B)(H:Hp)(Q:VK):G V->Prop:=λ xs=>((HT.sIx xs.length 0 lo=0/\HT.sIx xs.length xs.length hi=xs.length)->Q (.ref a) H)/\(¬ (HT.sIx xs.length 0 lo=0/\HT.sIx xs.length xs.length hi=xs.length)->jZ (.tup (lU xs lo hi)) H Q)
def QP:V->Ü B->Ü B->Hp->VK->Prop:=λ x lo hi H Q=>match x with
 | .ref a=>aM (jg H a) (M8 a lo hi H Q)
 | _=>False
theorem ET:SlR X QP:=by
 intro pins s σ H x v vl vu lo hi sl Q I rx hs pl pu h;unfold QP at h;split at h
 ·rename_i a;let(xs,e,q1,q2):=aq h;let hx:SqT X.K H a xs:=SqT.of (wz e)
  by_cases hw:HT.sIx xs.length 0 lo=0/\HT.sIx xs.length xs.length hi=xs.length
  ·cases rx;let(its,r,ht,hz):=I.tuple hx;let hlen:its.toArray.size=xs.length:=by rw[Vj];exact r.length.symm
   refine{"tuple",_,VS.lookup,ht.typeIs,?_};exact HT.getItem_tuple_whole ht hs pl pu (by rw[hlen];exact hw) {.ref a,H,I,J,q1 hw}
  ·exact Om pins s σ H (.ref a) v vl vu lo hi sl Q I rx hs pl pu {a,xs,J,hx,hw,(q2 hw).to}
 ·exact h.elim
def Its(x:Ã):It:={λ i _=>i<x.cps.size,λ i H v H'=>H'=H/\∃ c,x.cps[i]? = U c/\v=.str ⟨#[c]⟩,λ i _=>x.cps.size<=i}
theorem Fl{P:Ì}{w:Ï}{K:Å}{A:Î}{tg:Ñ}(it:Z)(x:Ã)(t:Tok)(hA:A.handled=Y):Turn P w K A tg (Its x) [it] it (λ i h=>h.IsStrIter it "str_ascii_iterator" x t i) where
 mem:=by simp
 obj:=λ i h st b hb=>by
  let e:b=it:=by simpa using hb
  subst e;let(o,e,c,d):=st;exact{o,e,λ v z=>by rw[d] at z;cases z}
 keep:=λ i h h' st k=>let {(o),ho,r}:=st;⟨o,k it (by simp) o ho,r⟩
 item:=by
  intro X hP hw hK hc i pins s σ H E I hf st hg;subst hP hw hK;let hi:i<x.cps.size:=hg;let hx:x.cps[i]? = U x.cps[i]:=by simp[hi]
  let(f0,f1,f2,f3,f4,f5):=hf it (by simp);refine wpAny_pyNext_ascii_item st hx λ h' a3 sb=>?_;let I1:Inv X pins σ H { s with heap:=h',toks:=s.toks+1 }:=I.turned (λ b o hb e=>(sb.2 b hb).trans e) f0 f1 f3 f4 f5;let(o,e,c,d):=id a3;exact{_,J,E6 (s:={ s with heap:=h',toks:=s.toks+1 }) e c d (by decide) {.str ⟨#[x.cps[i]]⟩,H,I1,{_,J},{J,_,hx,J},a3,λ b hb=>(hf b hb).1}}
 done:=by
  intro X hP hw hK hc i pins s σ H E I hf st hg;subst hP hw hK;let hi:x.cps.size<=i:=hg;let(f0,f1,f2,f3,f4,f5):=hf it (by simp);exact wpAny_pyNext_ascii_end (show X.A.handled=Y by rw[hc];exact hA) st (by simp[hi]) λ h' eb=>{J,I.turned (t':=s.toks) (λ b o hb e=>eb b o hb e) f0 f1 f3 f4 f5}
 self:=λ _ _ _ _ _ st h=>wpAny_pyIter_striter_ascii st h
def NS(R:It->Hp->Prop):VK:=λ v H=>∃ x:Ã,v=.str x/\x.cps.all (· < 128)=L/\R (Its x) H
def TY(tl:TE):TI:=λ σ H R=>tl σ H (NS R)
def Qi(tl:TE)(σ:St)(H:Hp)(R:It->Hp->Prop):TY tl σ H R=tl σ H (NS R):=rfl
theorem wD{tg l:Ñ}{tl:TE}(hl:PE X l tl)(hq:X.calm=L:=by rfl):PI X tg l (TY tl):=by
 intro pins s σ H R I h;refine thn (hl pins s σ H _ I h) λ v s1 ⟨x,H1,I1,r1,q1⟩=>?_;let(z,rfl,ha,q):=q1;let(t,rfl):=r1;refine wpAny_pyIter_ascii ha ?_;refine{%[s1|99],[%[s1|99]],_,_,H1,J,I1.kept (t':=s1.toks) λ b o e=>U0 _ e,Fl _ z t (I1.ok.hd hq),{_,Vc _ J,J,J},λ b hb=>?_,q};let e:b=%[s1|99]:=by simpa using hb
 subst e;exact I1.fpOk (U6 _) (I1.hok.fresh (U6 _))
def sgn(c:à):V:=.str ⟨#[c]⟩
theorem kG{H:Hp}(x:Ã):(∀ i z H',x.cps.toList[i]? = U z->Ext H H'->(Its x).go i H'/\∀ v a3,(Its x).yld i H' v a3->Ext H' a3/\v=sgn z)/\∀ H',Ext H H'->(Its x).stop x.cps.toList.length H':=by
 refine{λ i z H' hz _=>?_,λ H' _=>by simp[Its]};let a4:x.cps[i]? = U z:=by simpa using hz
 refine{?_,λ v a3 y=>{by rw[y.1];exact Ext.refl _,?_}}
 ·have:=(U1.mp hz).1
  show i<x.cps.size
  simpa using this
 ·let(c,hc,rfl):=y.2;rw[a4] at hc;cases hc;rfl
def inS(i j:Ã):Ý:=!(Builtin.Str.occurrences j i 0 j.length 1).isEmpty
def Rp:R2:=λ x y H Q=>match x,y with
 | .str i,.str j=>Q (.bl (inS i j)) H
 | _,_=>False
def Pw(i j:Ã)(H:Hp)(Q:VK):Rp (.str i) (.str j) H Q=Q (.bl (inS i j)) H:=rfl
theorem px:OpR X (compareOp .In) Rp:=Co.mono λ x y H Q h=>by
 unfold Rp at h;split at h
 ·exact{_,_,J,J,h}
 ·exact h.elim
section
variable {prog:Ì}{w:Ï}{A:Î}{E:O->À->Prop}{s:À}
theorem vQ{R:Result->À->Prop}(hh:A.handled=Y)(lo:(d == sysModules)=Â)(hd:s.heap.DictAt (bj prog w) d kvs ep)(S:Z)(res:O)(c₀:à)(hS:s.heap.get? S=U { cls:=.type "list",data:=.seq #[] c₀ })
  (hn:kvs.length<=Æ)
  (hR:∀ h' tk a3 c',(∀ b o,b≠S->s.heap.get? b=U o->h'.get? b=U o)->h'.get? S=U { cls:=.type "list",dict:=Y,data:=.seq a3 c',slots:=#[] } →
   ItemsOf (λ i v=>∃ k x,kvs[i]? = U (k,x)/\(bj prog w).is k v=L) a3 kvs.length->R (.ok (.ret res)) { s with heap:=h',toks:=tk }) :
  Ç (Ê prog w) A.in1 (Builtin.List.listExtendWith (.ref S) (.ref d) res)
   (λ fin s'=>match fin with | .done f=>R (.ok f) s' | .again c'=>c'.quiet=L/\codeAny (Ê prog w) A c' R s') (λ e s'=>R (.error e) s') s:=by
 let hT:s.TypeIs (.ref d) "dict":=hd.dictOf.typeIs
 let a4:S≠d:=λ e=>by
  let(o,ho,hc):=hT;rw[←e,hS] at ho;cases ho;have:Ø "list"=Ø "dict":=hc;exact Þ this (by decide)
 let a7:S≠%[s|99]:=Vl (U5 hS);let a8:d<%[s|99]:=by let(o,ho,_):=hT;exact U5 ho
 let b5:d≠%[s|99]:=Vl a8
 let b6:S ∉ [%[s|99],d]:=λ hm=>by
  rcases Vp.mp hm with e|hm
  ·exact a7 e
  ·exact a4 (Vh.mp hm)
 let W:=(Walks.dictKeys (prog:=prog) (w:=w) (knd:=bj prog w) (A:=A.in1) hh %[s|99] d b5 kvs ep).toS;unfold Builtin.List.listExtendWith;refine wpAny_bind (wpAny_typeOf (T := "dict") hT ?_);let h1:Builtin.List.listSameRef (.ref S) (.ref d)=Â:=by simp[Builtin.List.listSameRef,a4]
 let h2:(Ø "dict" == Ø "list")=Â:=by decide
 let h3:(Ø "dict" == Ø "tuple")=Â:=by decide
 simp only[h1,h2,h3,Bool.or_false,Bool.false_eq_true,if_false];refine wpAny_bind (wpAny_pyIter_dict lo hd ?_);let a9:(s.heap.push { cls:=.type "dict_keyiterator",data:=.fields #[.ref d,.int 0 0,.int kvs.length 0,.int ep 0] }).DictAt (bj prog w) d kvs ep:=hd.at' λ o e=>Heap.get?_push_of_some _ e;let b1:(s.heap.push { cls:=.type "dict_keyiterator",data:=.fields #[.ref d,.int 0 0,.int kvs.length 0,.int ep 0] }).IsKeyIter %[s|99] d 0 kvs.length ep:={_,Heap.get?_push_size _ J,J,J};let b2:=Heap.get?_push_of_some { cls:=.type "dict_keyiterator",data:=.fields #[.ref d,.int 0 0,.int kvs.length 0,.int ep 0] } hS;let b8:∀ b o,s.heap.get? b=U o->(s.heap.push { cls:=.type "dict_keyiterator",data:=.fields #[.ref d,.int 0 0,.int kvs.length 0,.int ep 0] }).get? b=U o:=λ b o e=>Heap.get?_push_of_some _ e;generalize (s.heap.push { cls:=.type "dict_keyiterator",data:=.fields #[.ref d,.int 0 0,.int kvs.length 0,.int ep 0] })=hp at *;let a5:({ s with heap:=hp }:À).TypeIs (.ref d) "dict":=a9.dictOf.typeIs;refine wpAny_bind (wpAny_holding ?_);unfold Builtin.List.listLengthHint;refine wpAny_bind (wpAny_specialOf (T := "dict") a5 PySem.F.slot_dict_len.lookup ?_)
 wp_delta
 refine My (Xh (T := "dict") (b:=L) a5 (by rw[isSubtype_type];kernel_rfl) ?_)
 show Ç _ _ (typeOf (Ë d) >>= _) _ _ _
 refine My (X6 (T := "dict") a5 ?_);refine U3 ?_;rw[Ve (by decide)];refine My (Xb ?_);refine My ?_
 show Ç _ _ (updateSeq S (·.push .none) >>= λ _=>updateSeq S (·.pop)) _ _ _
 refine My (X5 b2 J ?_);let b3:=Vk (Obj.mapSeq (·.push É)) b2 J;refine X5 (hz:=by seq_fits) b3 rfl ?_;let cc:=Vk (Obj.mapSeq (·.pop)) b3 J;let a6:∀ b o,b≠S->hp.get? b=U o->((hp.update S (Obj.mapSeq (·.push É))).update S (Obj.mapSeq (·.pop))).get? b=U o:=λ b o hb e=>(VP _ _ (Vz hb)).trans ((VP _ _ (Vz hb)).trans e);refine U3 {plainId_quiet F.plain_extend_loop _,?_};refine codeAny_extend_loopS W hn S b6 res kvs.length 0 _ #[] _ J (VM _) ⟨b1.at λ o e=>a6 _ o (Vz a7) e,a9.at' λ o e=>a6 _ o (Vz a4) e⟩ cc (ItemsOf.nil _) λ s' a3 c' hm cg b4=>?_;rw[Moved.eq_with hm];refine hR s'.heap s'.toks a3 c' (λ b o hb e=>hm.heap b o (λ hmem=>?_) (a6 b o hb (b8 b o e))) cg b4
 rcases Vp.mp hmem with e'|hmem
 ·exact hb e'
 ·exact Þ (U5 e) (by rw[Vh.mp hmem];exact V5 _)
theorem DY{R:Result->À->Prop}(hh:A.handled=Y)(lo:(d == sysModules)=Â)(hd:s.heap.DictAt (bj prog w) d kvs ep)(S:Z)(a6:S≠d)(hS:s.heap.get? S=U { cls:=.type "list",data:=.seq #[] })
  (hn:kvs.length<=Æ)
  (hR:∀ h' tk a3 c',(∀ b o,b≠S->s.heap.get? b=U o->h'.get? b=U o)->h'.get? S=U { cls:=.type "list",dict:=Y,data:=.seq a3 c',slots:=#[] } →
   ItemsOf (λ i v=>∃ k x,kvs[i]? = U (k,x)/\(bj prog w).is k v=L) a3 kvs.length->R (.ok (.ret .none)) { s with heap:=h',toks:=tk }) :
  Ç (Ê prog w) A.in1 (Builtin.«list.__init__» ⟨[.ref S,.ref d],[]⟩)
   (λ fin s'=>match fin with | .done f=>R (.ok f) s' | .again c'=>c'.quiet=L/\codeAny (Ê prog w) A c' R s') (λ e s'=>R (.error e) s') s:=by
 show Ç _ _ (do let old ←Builtin.List.listItems (.ref S);Builtin.List.listUpdate (.ref S) (λ _=>#[]);letGo old.toList.reverse;Builtin.List.listExtendWith (.ref S) (.ref d) .none) _ _ s
 refine wpAny_bind ?_;unfold Builtin.List.listItems;refine wpAny_bind (wpAny_seqItems hS J (wpAny_pure ?_))
 show Ç _ _ (updateSeq S (λ _=>#[]) >>= λ _=>letGo (#[]:Array O).toList.reverse >>= λ _=>Builtin.List.listExtendWith (.ref S) (.ref d) .none) _ _ s
 refine My (X5 hS J ?_);let a7:=Vk (Obj.mapSeq (λ _=>(#[]:Array O))) hS J
 let a4:∀ b o,b≠S->s.heap.get? b=U o->(s.heap.update S (Obj.mapSeq (λ _=>(#[]:Array O)))).get? b=U o:=
  λ b o hb e=>(VP _ _ (Vz hb)).trans e
 refine My (wpAny_letGo ?_);refine vQ hh lo (hd.at' λ o e=>a4 _ o (Vz a6) e) S .none _ a7 hn λ h' tk a3 c' hk a8 a5=>?_;exact hR h' tk a3 c' (λ b o hb e=>hk b o hb (a4 b o hb e)) a8 a5
theorem nZ{Q:O->À->Prop}(hh:A.handled=Y)(lo:(d == sysModules)=Â)(hd:s.heap.DictAt (bj prog w) d kvs ep)(hn:kvs.length<=Æ)
  (hQ:∀ h' tk a3 c',(∀ b o,s.heap.get? b=U o->h'.get? b=U o) →
   h'.get? %[s|99]=U { cls:=.type "list",dict:=Y,data:=.seq a3 c',slots:=#[] }->ItemsOf (λ i v=>∃ k x,kvs[i]? = U (k,x)/\(bj prog w).is k v=L) a3 kvs.length->Q (.ref %[s|99]) { s with heap:=h',toks:=tk }) :
  Ç (Ê prog w) A (call (.type "list") [.ref d]) Q E s:=by
 refine callType_codes (Q₁:=λ obj s₁=>obj=.ref %[s|99]/\s₁={ s with heap:=s.heap.push { cls:=.type "list",data:=.seq #[] } }) F.called_list (F.typeCall_list_1 _) F.entry_list_init
  (code_list_new _ {(J),J}) λ obj s₁ h₁=>?_
 let(rfl,rfl):=h₁;let hS:(s.heap.push { cls:=.type "list",data:=.seq #[] }).get? %[s|99]=U { cls:=.type "list",data:=.seq #[] }:=Vc _ J;let a5:%[s|99]≠d:=λ e=>by let(o,es,ho,_):=hd;rw[←e] at ho;exact Þ (U5 ho) (V5 _)
 refine{⟨_,hS,J⟩,F.args_list_init_2 _ _,DY (A:=A.in1) hh lo (hd.at' λ o e=>U0 _ e) _ a5 hS hn λ h' tk a3 c' hk a6 a4=>?_};exact{J,hQ h' tk a3 c' (λ b o e=>hk b o (Vl (U5 e)) (U0 _ e)) a6 a4}
end
def IL:G V->Hp->VK->Prop:=λ vs H Q=>∃ p kvs,vs=[.ref p]/\H p=U (.dK kvs)/\kvs.length<=Æ/\jZ (.lst (kvs.map λ z=>kV z.1)) H Q
theorem B5{p:Z}{kvs:G (Key × V)}{H:Hp}{Q:VK}(e:H p=U (.dK kvs))(hl:kvs.length<=Æ)(q:jZ (.lst (kvs.map λ z=>kV z.1)) H Q):IL [.ref p] H Q:={(p),kvs,J,e,hl,q}
theorem vU(hc:X.calm=L):bK X (.type "list") IL:=by
 intro pins s σ H vs us Q I r h;let(p,kvs,rfl,ha,hl,q):=h
 cases r with
 | cons r rr=>
  cases rr;cases r;let hO:bL X.prog X.w H s.heap p (.dK kvs):=I.hok p _ ha;let(z0,lo,xs,kx,dd):=id hO;let(ep,a5):=dd.dictAt;refine nZ (I.ok.hd hc) lo a5 (by rw[←kx.length];exact hl) λ h' tk acc c kp a3 hit=>?_;let fr:=I.hok.fresh (U6 _)
  let hv:aX (kvs.map λ z=>kV z.1) acc.toList:=by
   let hlen:kvs.length=xs.length:=YA kx;refine iP (by rw[U2,WO,hit.1,hlen]) λ i x u hx hu=>?_;rw[Vd] at hx;let(z,hz,rfl):=Vf.mp hx;let(q',a6,a7,_):=BC kx hz;let(k,y,hy,a8):=hit.2 i u (by simpa using hu);rw[a6] at hy;cases hy;let a4:z.1=k:=a7;rw[a4];exact Fy a8
  refine{.ref %[s|99],_,I.laid (t':=tk) (o:=.lst (kvs.map λ z=>kV z.1)) kp (U6 _) {by rw[U2];exact hl,acc.toList,c,hv,a3},J,q _ _ fr (Ext.new fr) ag}
def NI:V->G V->Hp->VK->Prop:=λ x vs H Q=>∃ d kvs k v,x=.ref d/\vs=[kV k]/\H d=U (.dK kvs)/\nL kvs k=U v/\Q v (upd H d (.dK (lW kvs k)))
def Fh{kvs:G (Key × V)}{k:Key}{v:V}{H:Hp}{Q:VK}(h:H d=U (.dK kvs))(hv:nL kvs k=U v)(q:Q v (upd H d (.dK (lW kvs k)))):NI (.ref d) [kV k] H Q:={(d),kvs,k,v,J,J,h,hv,q}
theorem BA:MtM X "dict.pop" NI:=by
 intro pins s σ H x vs v us Q I rx rv h;let(d,kvs,k,y,rfl,rfl,hH,hv,q):=h;cases rx
 cases rv with
 | cons r rr=>
  cases rr;exact SX I hH r hv (.inl J) λ w' s' I' r'=>{y,_,I',r',q}
section
variable {prog:Ì}{w:Ï}{A:Î}{E:O->À->Prop}{s:À}{a₀:Array Keyed}
end
section
variable {n:à}(h0:0<n)
include h0
end
section
variable {prog:Ì}{w:Ï}{A:Î}{E:O->À->Prop}{s:À}
end
section
variable {g:TG}{tb:TS}{nx:St->Hp->Prop}{rt:VK}{bk ct:St->Hp->Prop}{σ:St}{H:Hp}
end
section
variable {prog:Ì}{w:Ï}{A:Î}{E:O->À->Prop}{s:À}
end
section
variable {g:TG}{tb:TS}{nx:St->Hp->Prop}{rt:VK}{bk ct:St->Hp->Prop}{σ:St}{H:Hp}
end
section
variable {e lo st:Ñ}{te tlo tst:TE}{pos p2:Pos}
end
section
variable {pins:G (Z × Obj)}{σ:St}{H:Hp}{s:À}
end
end L2
namespace PySem
open Sem (wp)
section
variable {prog:Ì}{w:Ï}{A:Î}{E:O->À->Prop}{s:À}
end
end PySem
namespace PyProof.Rows
open PySem PySem.Spec
section
variable {prog:Ì}{w:Ï}{K:Type}[DecidableEq K]{knd:PySem.KeyKind prog w K}{A:Î}{R:Result->À->Prop}{I:Z}{fp wr:G Z}{zo:Array GenState->Array GenState->Prop}{n:à}{P:à->O->Prop}{St:à->À->Prop}
end
end PyProof.Rows
namespace PySem
open Sem (wp)
open PyProof.Rows
section
variable {prog:Ì}{w:Ï}{K:Type}[DecidableEq K]{knd:KeyKind prog w K}{A:Î}{E:O->À->Prop}{s:À}
end
end PySem
namespace L2
open PySem PySem.Spec PyProof.Rows
variable {Q:Unit->À->Prop}{CC:O->Prop}{e T:Z}{cls:O}{env:Env}{oe:Obj}
def NH:V->G V->Hp->VK->Prop:=λ x vs H Q=>∃ (z:Ã) (p:Z) (ws:G Ã),x=.str z/\vs=[.ref p]/\H p=U (.lst (ws.map V.str))/\z.length<=16/\(ws.map (·.length)).sum+ws.length<=1048576/\Q (.str (PySem.Txt.join z ws)) H
def Fg{z:Ã}{p:Z}{ws:G Ã}{H:Hp}{Q:VK}(e:H p=U (.lst (ws.map V.str)))(h1:z.length<=16)(h2:(ws.map (·.length)).sum+ws.length<=1048576)(q:Q (.str (PySem.Txt.join z ws)) H):NH (.str z) [.ref p] H Q:={(z),p,ws,J,J,e,h1,h2,q}
theorem wU:∀ {ws:G Ã}{us:G O},aX (ws.map V.str) us->StrsAre us ws
 | [],_,r=>by rw[XW] at r;cases r;exact .nil
 | w::ws,_,r=>by
  rw[Vs] at r
  cases r with
  | cons h t=>
   let(t',rfl):=h;exact .cons w t' (wU t)
theorem Gg{X:Cx}:MtM X "str.join" NH:=by
 intro pins s σ H x vs v us Q I rx rv h;let(z,p,ws,rfl,rfl,e,h1,h2,q):=h;let(t,rfl):=rx;let(u,rfl,ru):=aX.one rv;cases ru;let(its,hv,(o,n,e1,c1,d1,s1),_):=I.list (SqL.of e);exact join_listW (items:=its.toArray) ⟨o,e1,c1,n,s1⟩ (by simpa using wU hv) h1 h2 λ t' k=>{.str _,H,I.tok _,{_,J},q}
def UJ(w:Ï)(l:G (Ã × Tok × O)):Obj:={ cls:=.type "dict",data:=.dict (l.map λ p=>({ hash:=PyData.keyHash w.params p.1,key:=.str p.1 p.2.1,val:=p.2.2 }:DictEntry)).toArray l.length }
structure UY(w:Ï)(K:Å)(a:Z)(kvs:G (Ã × V)):Prop where
 ex:∃ l:G (Ã × Tok × O),K.lookup a=U (UJ w l)/\(a == sysModules)=Â/\(l.map (·.1)).Nodup/\Paired (λ (p:Ã × V) (q:Ã × Tok × O)=>p.1=q.1/\bI p.2 q.2.2) kvs l
section
variable {X:Cx}{o i:Ñ}{pos:Pos}{td ty:TE}
end
structure FD(P:Ì)(w:Ï)(K:Å)(mg:Ã->Ü O)(base:Ð)(CX:CXT)(k:à)(f:Z)(sp:Sp):Prop where
 kp:W.keepIn K (.ref f)=L
 ex:∃ fd ps,au P w K mg base CX k f fd ps sp/\ao K fd ps []
def M1(CC:O->Prop)(h:Ð)(e:Z)(cls:O)(d:Ü Z)(T:Z):Prop:=
 ∃ oe vs oT ts,h.get? e=U oe/\oe.cls=cls/\oe.dict=d/\oe.data=.fields vs/\vs[1]? = U (.ref T)/\T≠e/\h.get? T=U oT/\oT.data=.fields ts/\3<ts.size/\∃ cx,vs[2]? = U cx/\CC cx
section
variable {M:Model}{A:Î}{E:O->À->Prop}{s:À}
theorem BJ{d:Ü Z}{fr:Ü Z}(hx:M1 CC s.heap e cls d T)
  (hQ:∀ h',(∀ b,b≠T->h'.get? b=s.heap.get? b)->h'.objs.size=%[s|99]->M1 CC h' e cls d T->(fr=Y->iJ CC h' e cls d T)->Q () { s with heap:=h' }):Ç M A (setFlight (.ref e) fr) Q E s:=by
 let(oe,vs,oT,ts,he,q1,q2,hd,h1,ne,hT,a3,h3,a4):=hx;unfold setFlight;refine wpAny_bind (wpAny_field he hd h1 ?_);rw[if_pos (show (Ë T != É)=L from by simp)];let sb:=Heap.SameBut.update s.heap T (Obj.mapFields (·.setIfInBounds 3 (fr.elim É λ f=>rawInt f)));let d3:=Obj.data_mapFields a3 (·.setIfInBounds 3 (fr.elim É λ f=>rawInt f));let gT:=Heap.get?_update_self (Obj.mapFields (·.setIfInBounds 3 (fr.elim É λ f=>rawInt f))) hT (Obj.isFreed_of_fields d3);refine wpAny_setField hT a3 h3 (hQ _ sb.2 sb.1 ⟨oe,vs,_,_,(sb.2 e (Ne.symm ne)).trans he,q1,q2,hd,h1,ne,gT,d3,by simp[h3],a4⟩ λ z=>?_);exact{oe,vs,_,_,(sb.2 e (Ne.symm ne)).trans he,q1,q2,hd,h1,ne,gT,d3,by subst z;simp[h3],a4}
theorem Gd{base:Ð}{outer:G Env}{xL:Z}{dd:Ü Z}
  (a7:A.frames=U (env::outer)) (hl:s.heap.FunFrames base (env::outer)) (hf:env.frame=U xL) (hx:M1 CC s.heap e cls dd T)
  (hQ:∀ h' T',ux (frs (env::outer)) e (λ b=>b=T) s.heap h'->(T'=T\/s.heap.get? T'=Y)->M1 CC h' e cls dd T'->Q () { s with heap:=h' }) :
  Ç M A (noteFrame (.ref e) env) Q E s:=by
 let a8:=hx;let(oe,vs,oT,ts,he,r1,r2,hd,h1,ne,hT,a4,h3,a9):=hx;unfold noteFrame;simp only[hf];refine wpAny_bind (wpAny_field he hd h1 ?_);rw[if_pos (show (Ë T != É)=L from by simp)];refine wpAny_bind (wpAny_field hT a4 (Array.getElem?_eq_getElem h3) ?_)
 by_cases hz:(ts[3] == rawInt xL)=L
 ·rw[Ve hz];exact U3 (hQ s.heap T {λ b o _ _ _ q=>q,λ b o _ _ _ q=>{(o.slots),q},U6 _} (.inl J) a8)
 ·rw[U7 hz];let a3:=VB s.heap T (Obj.mapFields (·.setIfInBounds 3 É));refine My (VJ hT a4 h3 ?_);generalize hg0:s.heap.update T (Obj.mapFields (·.setIfInBounds 3 É))=g0 at a3;let fl:g0.FunFrames base (env::outer):=hl.of_keeps λ b o q b1=>{o,(a3.2 b (λ z=>by rw[z,hT] at q;cases q;exact b1 ts a4)).trans q,J};let b2:g0.get? e=U oe:=(a3.2 e (Vz ne)).trans he;refine wN (s:={ s with heap:=g0 }) a7 fl hf b2 hd (Vt.mp h1).1 a9 λ g ng hx=>?_;let(T',b3,b4,b5,b6,nT,q1,q2,b8,q3,q4,ne',q5,q6,q7,q8):=hx
  let tT:T≠T':=λ z=>by
   subst z;have:=Vk (Obj.mapFields (·.setIfInBounds 3 É)) hT (VH (VR a4 _));rw[hg0] at this;let a6:g0.get? T=Y:=nT;rw[this] at a6;cases a6
  let cc:s.heap.get? T'=Y:=(a3.2 T' (Vz tT)).symm.trans nT
  exact hQ g T' {λ b o hb hn a5 q=>ng.keep b o hb (λ z=>z) a5 ((a3.2 b hn).trans q),λ b o hb hn a5 q=>ng.slot b o hb (λ z=>z) a5 ((a3.2 b hn).trans q),Vv (Wq a3.1.symm) ng.size} (.inr cc)
   ⟨b3,b4,b5,b6,q1,q2.trans r1,b8.trans r2,q3,q4,ne',q5,q6,(Vt.mp q7).1,q8⟩
end
theorem Un.butX{fs ex:G Z}{H H':Hp}{h h1 h2:Ð}{C:Z}(u:Un fs ex H H' h h1)(hs:∀ b,b≠C->h2.get? b=h1.get? b)(hC:h.get? C=Y\/C∈ex):Un fs ex H H' h h2:=by
 let ne:∀ b o,h.get? b=U o->b ∉ ex->b≠C:=λ b o q hx z=>(by rcases hC with k|k;rw[z,k] at q;cases q;exact hx (z ▸ k));refine{λ b o q a hb hx=>(hs b (ne b o q hx)).trans (u.keep b o q a hb hx),λ b o q a hb hx=>?_,u.free,λ b o q hx=>?_,u.tups,u.frzs,u.tbls}
 ·let(sl,r):=u.slot b o q a hb hx;exact{sl,(hs b (ne b o q hx)).trans r}
 ·let(o',r):=u.there b o q hx;exact{o',(hs b (ne b o q hx)).trans r}
def Jq(X:Cx)(E:XK):Prop:=∀ (pins:G (Z × Obj)) (σ:St) (H':Hp) (s':À) (e T:Z) (cls:O) (dd:Ü Z),Inv X pins σ H' s'->X.s₀.heap.get? e=Y->X.s₀.heap.get? T=Y->H' e=Y->H' T=Y->M1 (Aj cls X.s₀.heap [] H') s'.heap e cls dd T->(∀ dx,dd=U dx->∃ fs,H' dx=U (.xd fs))->E cls dd H'->X.xe (.ref e) s'
theorem yP{P:Ì}{w:Ï}{K:Å}{mg:Ã->Ü O}{base:Ð}{N:G Ã}{qual:Ã}{scope:Scope}{f:Z}{cd:O}{A:Î}{outer:G Env}{s₀:À}{H₀:Hp}{E:XK} :
  Jq (Ae cb (CX1 P w) P w K mg base N qual scope f cd A outer s₀ H₀ E) E:=by
 intro pins σ H' s' e T cls dd I2 a5 a6 He HT ex b1 hE
 show Ç (Ê P w) (A.deeper (envOfC qual scope %[s₀|99] f cd)) (leaving (envOfC qual scope %[s₀|99] f cd) (.ref e)) _ _ _
 unfold leaving;let fl:s'.heap.FunFrames base (envOfC qual scope %[s₀|99] f cd::outer):=I2.stack;refine wpAny_bind (Gd (base:=base) (outer:=outer) I2.ok.frames fl J ex λ g T1 ng a7 b2=>?_);refine BJ (s:={ s' with heap:=g }) b2 λ g2 sb sz _ b3=>?_;let a8:Un (frs outer) [] H₀ H' s₀.heap s'.heap:=I2.base
 let a3:s₀.heap.get? T1=Y:=by
  rcases a7 with rfl|h
  ·exact a6
  ·exact a8.gone h
 let a9:H' T1=Y:=by
  rcases a7 with rfl|h
  ·exact HT
  ·exact I2.hok.gone h
 let n2:ux (frs (envOfC qual scope %[s₀|99] f cd::outer)) e (λ b=>b=T\/b=T1) s'.heap g2:={λ b o hb hn a4 q=>(sb b (λ z=>hn (.inr z))).trans (ng.keep b o hb (λ z=>hn (.inl z)) a4 q),λ b o hb hn a4 q=>by
  let(sl,q'):=ng.slot b o hb (λ z=>hn (.inl z)) a4 q;exact{sl,(sb b (λ z=>hn (.inr z))).trans q'},Vv ng.size (Wq sz.symm)}
 refine{e,T1,cls,dd,H',J,I2.os,I2.bare,a8.noted n2 a5 (λ b z=>by rcases z with z|z<;>rw[z];exact a6;exact a3) (λ b hb=>?_),I2.hok.noted n2 He (λ b z=>by rcases z with z|z<;>rw[z];exact HT;exact a9) I2.stkFree,a5,a3,He,a9,b3 J,b1,hE}
 rcases Vp.mp (I2.stkSub b hb) with z|z
 ·exact .inr (by rw[z];exact V0 (U6 _))
 ·exact .inl z
section
variable {X:Cx}
end
section
variable {X:Cx}{pins:G (Z × Obj)}{σ:St}{H:Hp}{s:À}
end
section
variable {X:Cx}{CX:CXT}{k:à}{f C:Z}{fd:Á}{ps ks:G Ã}{sp:Sp}{E:XK}{x:Ã}{p pos:Pos}{e:Ñ}{es:G Ñ}{kws:G Keyword}{t tk:TA}{g:G O->G O->G O}{gV:G V->G V->G V}
end
section
variable {X:Cx}
end
theorem iJ.keeps{h h':Ð}{d:Ü Z}(x:iJ CC h e cls d T)(k:∀ b o,h.get? b=U o->h'.get? b=U o):iJ CC h' e cls d T:=by
 let(oe,vs,oT,ts,a1,a2,a3,a4,a5,a6,a7,a8,a9,cx,b,c):=x;exact{oe,vs,oT,ts,k _ _ a1,a2,a3,a4,a5,a6,k _ _ a7,a8,a9,cx,b,c}
section
variable {prog:Ì}{w:Ï}{A:Î}{E:O->À->Prop}{s:À}
theorem Cb{α:Type}{Q:α->À->Prop}{h:Z}{oh:Obj}{ve vh:Array O}(hh:A.handled=U (.ref h))(ne:h≠e)(a3:s.heap.get? h=U oh)(dh:oh.data=.fields vh)(n2:vh[2]? = U .none)(he:s.heap.get? e=U oe)(de:oe.data=.fields ve)(hz:2<ve.size)
  (hE:∀ h',(∀ b,b≠e->h'.get? b=s.heap.get? b)->h'.get? e=U (Obj.mapFields (·.setIfInBounds 2 (.ref h)) oe)->h'.objs.size=%[s|99]->E (.ref e) { s with heap:=h' }):Ç (Ê prog w) A (raiseNew (.ref e)) Q E s:=by
 simp only[raiseNew];refine My (wpAny_handled ?_);rw[hh];let nb:((Ë h != Ë e)=L):=by simp;simpa using ne
 show Ç _ _ (if (Ë h != Ë e)=L then _ else _) _ _ _
 rw[if_pos nb];refine wpAny_bind (wpAny_holding (wpAny_runValue (codeAny_builtin fR ?_)));unfold Builtin.«proto.unchain»;refine wpAny_bind (wpAny_field a3 dh n2 ?_);rw[if_pos (by decide)];refine wpAny_pure ?_;refine wpAny_bind (m:=setField (.ref e) 2 (.ref h)) (wpAny_setField he de hz (wpAny_throw ?_));let sb:=Heap.SameBut.update s.heap e (Obj.mapFields (·.setIfInBounds 2 (.ref h)));exact hE _ sb.2 (Heap.get?_update_self _ he (Obj.isFreed_of_fields (Obj.data_mapFields de _))) sb.1
theorem vR{C:Z}{vs:Array O}{c:Nf}{newId:String}{msg:String}{Q:O->À->Prop}(hC:s.heap.get? C=U (excClassObj c.nm c.q C c.N c.bs c.bm c.hdct c.sn c.sub c.ab c.col c.dd c.k0 c.k1 c.k2 c.k3 c.k5 newId))(hb:c.bm.contains (.type "BaseException")=L)
  (he:s.heap.get? e=U { cls:=.ref C,data:=.fields vs }) (hq:Q (.ref e) s):Ç (Ê prog w) A (excFromValue (.ref e) msg) Q E s:=by
 let a3:(Ë C::c.bm).contains (.type "BaseException")=L:=by rw[Yc,hb,Bool.or_true]
 let(hp,g,d,tk,os):=s;unfold excFromValue
 repeat (first|with_reducible refine VY he ?_|with_reducible refine VY hC ?_|(with_reducible refine Xs hC ?_;rw[a3])|wp_step)
 exact hq
theorem zx{K:Å}{ve:Array O}{msg:String}{Q:O->À->Prop}(kin:K.In s.heap)(he:s.heap.get? e=U oe)(a3:oe.cls=cls)(hd:oe.data=.fields ve)(a4:W.subIn K cls (.type "BaseException")=U L)
  (hq:Q (.ref e) s):Ç (Ê prog w) A (excFromValue (.ref e) msg) Q E s:=by
 let L2:W.Looks (Ê prog w) s.heap (isInstance (.ref e) (.type "BaseException")) L:=((W.Looks.ld he).andThen (by rw[a3];exact .now)).andThen (W.looks_subIn kin a4);let(hp,g,d,tk,os):=s
 let L1:∀ {Q':Ý->À->Prop} {E':O->À->Prop},Q' Â {(hp),g,d,tk,os}->Ç (Ê prog w) A (isType (.ref e)) Q' E' {(hp),g,d,tk,os}:=λ q=>by
  let(cl,dct,dat,sl):=oe;cases hd
  repeat (first|with_reducible refine VY he ?_|wp_step)
  exact q
 unfold excFromValue isExcClass;refine wpAny_bind (wpAny_bind (L1 ?_));rw[if_neg (by decide)];refine wpAny_pure ?_;rw[if_neg (by decide)];refine wpAny_bind (L2.here ?_);rw[if_pos J];exact wpAny_pure hq
theorem vk{K:Å}{h C:Z}{oh:Obj}{vh:Array O}{c:Nf}{newId:String}{xm cm:Sem O}{Q:Flow->À->Prop}(hh:A.handled=U (.ref h))(dh:oh.data=.fields vh)(n2:vh[2]? = U .none)(b3:oh.cls=cls)(b4:W.subIn K cls (.type "BaseException")=U L)
  (hx:Ç (Ê prog w) A xm (λ v s1=>∃ e t:Z,v=.ref e/\Ç (Ê prog w) A cm (λ u s2=>u=.ref h/\K.In s2.heap/\h≠e/\s2.heap.get? h=U oh/\c.bm.contains (.type "BaseException")=L/\s2.heap.get? C=U (excClassObj c.nm c.q C c.N c.bs c.bm c.hdct c.sn c.sub c.ab c.col c.dd c.k0 c.k1 c.k2 c.k3 c.k5 newId)/\e≠C /\
    s2.heap.get? e=U { cls:=.ref C,data:=.fields #[.ref t,.none,.none,.none,.bool Â,.none] } /\
    ∀ h',(∀ b,b≠e->h'.get? b=s2.heap.get? b)->h'.get? e=U { cls:=.ref C,data:=.fields #[.ref t,.none,.ref h,.ref h,.bool L,.none] }->h'.objs.size=%[s2|99]->E (.ref e) { s2 with heap:=h' }) E s1) E s) :
  Ç (Ê prog w) A (raiseStmt env (U xm) (U cm)) Q E s:=by
 unfold raiseStmt;refine wpAny_bind (wpAny_mono hx (λ v s1 h1=>?_) λ _ _ z=>z);let(e,t,rfl,h1):=h1;refine wpAny_bind (wpAny_holding (wpAny_mono h1 (λ u s2 h2=>?_) λ _ _ z=>z));let(rfl,kin,ne,a5,hb,hC,a6,he,hE):=h2;refine wpAny_bind (wpAny_pure ?_);let b5:(Ë C::c.bm).contains (.type "BaseException")=L:=by rw[List.contains_cons,hb,Bool.or_true]
 refine wpAny_bind (wpAny_holding (vR hC hb he ?_));dsimp only;rw[if_neg (by simp)];refine wpAny_bind (wpAny_holding (zx kin a5 b3 dh b4 ?_));refine wpAny_bind (wpAny_setField he J (by simp) ?_);refine wpAny_bind (wpAny_setField (Heap.get?_update_self _ he J) J (by simp) ?_);let a3:=Heap.SameBut.update s2.heap e (Obj.mapFields (·.setIfInBounds 3 (.ref h)));let a7:=Heap.get?_update_self (Obj.mapFields (·.setIfInBounds 3 (.ref h))) he J;generalize s2.heap.update e (Obj.mapFields (·.setIfInBounds 3 (.ref h)))=g1 at a3 a7 ⊢;let a4:=Heap.SameBut.update g1 e (Obj.mapFields (·.setIfInBounds 4 (.bool L)));let a8:=Heap.get?_update_self (Obj.mapFields (·.setIfInBounds 4 (.bool L))) a7 J;generalize g1.update e (Obj.mapFields (·.setIfInBounds 4 (.bool L)))=g2 at a4 a8 ⊢;let a9:g2.get? e=U { cls:=.ref C,data:=.fields #[.ref t,.none,.none,.ref h,.bool L,.none] }:=a8;let b1:g2.get? C=U (excClassObj c.nm c.q C c.N c.bs c.bm c.hdct c.sn c.sub c.ab c.col c.dd c.k0 c.k1 c.k2 c.k3 c.k5 newId):=(a4.2 C (Ne.symm a6)).trans ((a3.2 C (Ne.symm a6)).trans hC);let b2:g2.get? h=U oh:=(a4.2 h ne).trans ((a3.2 h ne).trans a5)
 let fin:∀ s3:À,s3={ s2 with heap:=g2 }->Ç (Ê prog w) A (raiseNew (.ref e)) Q E s3:=λ s3 z=>by
  subst z;refine Cb (s:={ s2 with heap:=g2 }) hh ne b2 dh n2 a9 rfl (by simp) λ h' k1 k2 k3=>?_;exact hE h' (λ b hb=>(k1 b hb).trans ((a4.2 b hb).trans (a3.2 b hb))) k2 (k3.trans (a4.1.trans a3.1))
 let(hp,g,d,tk,os):=s2
 repeat (first|with_reducible refine VY a9 ?_|with_reducible refine VY b1 ?_|(with_reducible refine Xs b1 ?_;rw[b5])|wp_step)
 exact fin _ J
end
section
variable {X:Cx}
def NU(C:Z)(E:XK):G V->Hp->Prop:=λ vs H1=>vs.length<=Æ/\E (.ref C) Y H1
def LM(C:Z)(E:XK)(vs:G V)(H1:Hp):NU C E vs H1=(vs.length<=Æ/\E (.ref C) Y H1):=rfl
def RZ(K:Å)(C1 C2:O)(i:à)(C:Z)(E:St->XK)(t:TA):O->Ü Z->TS:=λ cls _ _ σ H=>
 (W.exmAny K cls [C1,C2]=U L/\cls ≠ .ref E5/\W.subIn K cls (.type "BaseException")=U L)/\∀ (e:Z) (oe:Obj),H e=Y->t (σ.set i (U (.ref e))) (upd H e (rA oe)) (NU C (E σ))
theorem Cr{M:Model}{A:Î}{E:O->À->Prop}{s:À}{xL:Z}{oT:Obj}{vs ts:Array O}(hf:env.frame=U xL)(he:s.heap.get? e=U oe)(hd:oe.data=.fields vs)(h1:vs[1]? = U (.ref T))(hT:s.heap.get? T=U oT)(a3:oT.data=.fields ts)(h3:ts[3]? = U (rawInt xL))(q:Q () s):Ç M A (noteFrame (.ref e) env) Q E s:=by
 unfold noteFrame;simp only[hf];refine wpAny_bind (wpAny_field he hd h1 ?_);rw[if_pos (show (Ë T != É)=L from by simp)];refine wpAny_bind (wpAny_field hT a3 h3 ?_);rw[if_pos (by simp)];exact wpAny_pure q
theorem Inv.butN{pins:G (Z × Obj)}{σ:St}{H:Hp}{s:À}{g:Ð}(I:Inv X pins σ H s)(N:ix X pins T)(hT:H T=Y)(sb:Heap.SameBut T s.heap g):Inv X pins σ H { s with heap:=g }:=by
 let(m,hn,hl):=I.loc;refine{I.ok,I.os,I.bare,I.base.butX sb.2 (.inl N.s0),{m,?_,λ j y v e1 e2 e3=>?_},λ y c e=>?_,I.free,I.freeC,λ p hp=>?_,I.hok.but hT sb,I.len}
 ·let(o,es,ep,q1,q2):=hn;exact{o,es,ep,(sb.2 _ (Vz N.loc)).trans q1,q2}
 ·let(u,r,q):=hl j y v e1 e2 e3;refine{u,r,?_}
  rcases q with q|⟨k,c,e,z⟩
  ·exact .inl q
  ·exact .inr {k,c,e,z.sameBut sb (N.cel y c e)}
 ·let(v,z):=I.cell y c e;exact{v,z.sameBut sb (N.cel y c e)}
 ·let(a,b):=I.pin p hp;exact{(sb.2 _ (N.pin p hp)).trans a,b}
theorem FK{xL C:Z}{x1 x2 n x:Ã}{i kk:à}{p1 p2 tp np cpos b5 b6 pos:Pos}{e₀:Ñ}{bW:G Ñ}{C1 C2:O}{E:St->XK}{t:TA}
  (hN:X.N.Nodup) (hi:X.N[i]? = U n) (hk:X.env.scope.names.lookup n=U .local) (b1:X.stack=X.env::X.outer) (hL:X.env.frame=U xL) (hex:X.ex=[]) (c1:Gl X x1) (c2:X.mg x1=U C1) (c3:Gl X x2) (c4:X.mg x2=U C2) (hg:Gl X x) (hm:X.mg x=U (.ref C)) (xz:T9 X.K C) (hC:C=E5) (hx:∀ σ,Jq X (E σ))
  (ha:∀ e H1,PA (X.mark e H1) (e₀::bW) t) (c5:starEach (e₀::bW) X.env=(Â,eval e₀ X.env)::starEach bW X.env:=by rfl) (a6:(backTo cpos (starEach bW X.env)).any (·.1)=Â:=by rfl)
  (c6:(x1 == ("__debug__":Ã))=Â:=by decide) (hd2:(x2 == ("__debug__":Ã))=Â:=by decide) (c7:(x == ("__debug__":Ã))=Â:=by decide) (b2:(n == ("__debug__":Ã))=Â:=by decide) (c8:(n == ("__classdict__":Ã))=Â:=by decide) :
  PHs X [.ExceptHandler (U (.Tuple [.Name x1 p1,.Name x2 p2] kk tp)) (U n) [.Raise (U (.Call (.Name x np) (e₀::bW) [] cpos)) (U (.Name n b6)) b5] pos] (RZ X.K C1 C2 i C E t):=by
 intro pins s σ H D e T cls d I N hn ex h;let((c9,dc,de),h):=h;let(oe,vs,oT,ts,he,hc,hd,a4,_,_,_,_,_,dh):=id ex
 let dm:∀ o:HO,X.H₀ e=U o->(∀ xs,o ≠ .tup xs)/\(∀ ob u,o ≠ .frz ob u)/\∀ ps,o ≠ .tbl ps:=λ o h0=>
  ⟨λ xs z=>(by have:=I.base.tups e xs (h0.trans (VQ U z));rw[hn] at this;cases this),λ ob u z=>(by have:=I.base.frzs e ob u (h0.trans (VQ U z));rw[hn] at this;cases this),λ ps z=>(by let(_,this):=I.base.tbls e ps (h0.trans (VQ U z));rw[hn] at this;cases this)⟩
 let(cx,v2,b8):=dh;let(Hm,dr,Im,dv):=(I.track N he hn).markE N hn dm a4 v2 b8;let cc:cx=.none:=b8.resolve_right λ z=>dc z.1;subst cc;refine PySem.wpAny_handleBy_cons (Yz ?_) (by intro q;cases q);refine wpAny_Tuple ?_;refine wpAny_items_cons (dM (X:=X.mark e Hm) Im c1 c2 ?_ c6);refine wpAny_items_cons (dM (X:=X.mark e Hm) Im c3 c4 ?_ hd2);refine wpAny_items_nil {by size_fits,?_};let kp:∀ q o,s.heap.get? q=U o->(s.heap.push { cls:=.type "tuple",data:=.seq [C1,C2].toArray }).get? q=U o:=λ _ _ z=>U0 _ z;refine(W.exm_tup2 (Im.kIn.keeps kp) ((Jh ex).keeps kp) (Vc s.heap J) c9).here ?_;refine Yj (BK (ex.keeps kp) λ h1 dy=>?_);let I1:Inv (X.mark e Hm) pins σ (upd H e (rA oe)) { s with heap:=h1 }:=Im.kept (t':=s.toks) λ b o q=>dy b o (kp b o q);refine lF (X:=X.mark e Hm) I1 hN hi (.inl hk) (show bI (.ref e) (.ref e) from J) (λ s1 I2=>?_) (.inr hk);let dN:=h e oe hn;let(c,b3,tok,cg,d0):=Bb (z:=Y) xz.ex;let d1:X.base.Ns c.N (X.base.nsMap c.N):=.of_isNs (W.isNs_of_in I.mod.kin cg);let el:(upd H e (rA oe)) e=U (.frz oe (.ext λ _=>True)):=ag;let ck:Hm e=U (.frz oe (.ext λ _=>True)):=dr;let d2:i<σ.length:=by rw[I.len];exact(U1.mp hi).1
 let fin:∀ (e2 t2:Z) (s2:À) (H2:Hp) (h':Ð),Inv (X.mark e Hm) pins (σ.set i (U (.ref e))) H2 s2->s2.heap.get? e2=Y->(∀ b o,s2.heap.get? b=U o->h'.get? b=U o)->h'.get? e2=U { cls:=.ref C,data:=.fields #[.ref t2,.none,.ref e,.ref e,.bool L,.none] }->E σ (.ref C) Y H2 →
   Ç (Ê X.prog X.w) (X.A.mark (U (.ref e))) (noteFrame (.ref e2) X.env) (λ _ d4=>Ç (Ê X.prog X.w) (X.A.mark (U (.ref e))) (do bindName X.env n É;unbindBehindTheSuite X.env n pos) (λ _ s4=>Ç (Ê X.prog X.w) (X.A.mark (U (.ref e))) (PySem.passOn (α:=Flow) "try.except-as" (.ref e2) X.env) (λ _ _=>False) (notedBy (Ê X.prog X.w) (X.A.mark (U (.ref e))) X.env (cameBackBy (Ê X.prog X.w) X.A X.env X.xe)) s4)
    (λ y s4=>Ç (Ê X.prog X.w) (X.A.mark (U (.ref e))) (setFlight (.ref e2) Y) (λ _ s5=>notedBy (Ê X.prog X.w) (X.A.mark (U (.ref e))) X.env (cameBackBy (Ê X.prog X.w) X.A X.env X.xe) y s5) (notedBy (Ê X.prog X.w) (X.A.mark (U (.ref e))) X.env (cameBackBy (Ê X.prog X.w) X.A X.env X.xe)) s4) d4)
    (notedBy (Ê X.prog X.w) (X.A.mark (U (.ref e))) X.env (cameBackBy (Ê X.prog X.w) X.A X.env X.xe)) { s2 with heap:=h' }:=by
  intro e2 t2 s2 H2 h' I3 n2 a7 g2 hE;let fr:(X.A.mark (U (.ref e))).frames=U (X.env::X.outer):=by rw[←b1];exact I3.ok.frames
  let fl:h'.FunFrames X.base (X.env::X.outer):=by
   let z:s2.heap.FunFrames X.base X.stack:=I3.stack;rw[b1] at z;exact z.of_keeps λ b o q _=>{o,a7 b o q,J}
  let d5:H2 e=U (.frz oe (.ext λ _=>True)):=I3.base.frzs e _ _ ck;let b4:H2 e2=Y:=I3.hok.gone n2;let N2:ix (X.mark e Hm) pins e2:=ix.of I3 hex n2;let fs:∀ b∈frs (X.env::X.outer),b∈frs X.stack:=λ b hb=>by rw[b1];exact hb
  unfold noteFrame;simp only[hL];refine wpAny_bind (wpAny_field (s:={ s2 with heap:=h' }) (x:=É) g2 J J ?_);rw[if_neg (by decide)];refine wN (s:={ s2 with heap:=h' }) (CC:=Aj (.ref C) X.s₀.heap [] H2) fr fl hL g2 J (by simp) ⟨.ref e,J,.inr {by rw[hC],e,oe,_,J,.inl N.s0,d5,{(vs),a4,v2}}⟩ λ g3 ng d6=>?_;let(T2,a3,cm,a8,d7,nT,q1,q2,d8,q3,q4,ne',q5,q6,q7,q8):=d6
  let cv:s2.heap.get? T2=Y:=by
   cases q:s2.heap.get? T2 with
   | none=>rfl
   | some o=>
    let z:=a7 T2 o q;let d9:h'.get? T2=Y:=nT;rw[d9] at z;cases z
  let HT:H2 T2=Y:=I3.hok.gone cv;let NT:ix (X.mark e Hm) pins T2:=ix.of I3 hex cv;let I4:Inv (X.mark e Hm) pins (σ.set i (U (.ref e))) H2 { s2 with heap:=g3 }:=I3.call' (s':={ s2 with heap:=g3 }) (ch:=[]) J ((Un.kept a7).noted ng n2 (λ _ z=>z.elim) λ b hb=>.inl (fs b hb)) ((I3.hok.kept a7).noted ng b4 (λ _ z=>z.elim) λ b hb=>I3.stkFree b (fs b hb)) I3.bare λ b z=>Þ z (by simp)
  let I5:Inv (X.mark e Hm) ((e2,a3)::(T2,a8)::pins) (σ.set i (U (.ref e))) H2 { s2 with heap:=g3 }:={I4.ok,I4.os,I4.bare,I4.base,I4.loc,I4.cell,I4.free,I4.freeC,λ p hp=>by
   rcases VI.mp hp with hp|hp
   ·exact I4.pin p (Wu _ hp)
   ·rcases Vp.mp hp with rfl|hp
    ·exact{q1,b4,N2.loc,N2.fs,λ v z=>by rw[show a3.data=_ from q3] at z;cases z}
    ·rcases Vp.mp hp with rfl|hp
     ·exact{q5,HT,NT.loc,NT.fs,λ v z=>by rw[show a8.data=_ from q6] at z;cases z}
     ·exact I4.pin p (VF _ hp),I4.hok,I4.len}
  refine mh (X:=X.mark e Hm) I5 hi hk hN λ s5 I6=>?_;let p1:s5.heap.get? e2=U a3:=(I6.pin (e2,a3) (by simp)).1;let pT:s5.heap.get? T2=U a8:=(I6.pin (T2,a8) (by simp)).1;let I7:Inv (X.mark e Hm) pins ((σ.set i (U (.ref e))).set i Y) H2 s5:={I6.ok,I6.os,I6.bare,I6.base,I6.loc,I6.cell,I6.free,I6.freeC,λ p hp=>I6.pin p (by rcases List.mem_append.mp hp with hp|hp;exact mem_append_left _ hp;exact mem_append_right _ (mem_cons_of_mem _ (mem_cons_of_mem _ hp))),I6.hok,I6.len};clear I5 I6;unfold PySem.passOn;refine wpAny_bind (wpAny_field p1 q3 q4 ?_);rw[if_neg (by simp)];unfold setFlight;refine wpAny_bind (wpAny_bind (wpAny_field p1 q3 q4 ?_));rw[if_pos (show (Ë T2 != É)=L from by simp)];refine wpAny_setField pT q6 (Array.getElem?_eq_some_iff.mp q7).1 ?_;let sb:=Heap.SameBut.update s5.heap T2 (Obj.mapFields (·.setIfInBounds 3 (X.env.frame.elim É λ f=>rawInt f)));let d3:=Obj.data_mapFields q6 (·.setIfInBounds 3 (X.env.frame.elim É λ f=>rawInt f));let gT:=Heap.get?_update_self (Obj.mapFields (·.setIfInBounds 3 (X.env.frame.elim É λ f=>rawInt f))) pT (Obj.isFreed_of_fields d3);generalize s5.heap.update T2 (Obj.mapFields (·.setIfInBounds 3 (X.env.frame.elim É λ f=>rawInt f)))=g4 at sb gT ⊢;let I8:=I7.butN NT HT sb;let ge:g4.get? e2=U a3:=(sb.2 e2 (Ne.symm ne')).trans p1
  let cH:(d7.setIfInBounds 3 (X.env.frame.elim É λ f=>rawInt f))[3]? = U (rawInt xL):=by
   rw[hL];simp[(Vt.mp q7).1]
  refine wpAny_throw ?_
  show Ç _ _ (noteFrame (.ref e2) X.env) _ _ _
  refine Cr (s:={ s5 with heap:=g4 }) hL ge q3 q4 gT d3 cH ?_
  show Ç _ _ _ _ _ _
  refine My (Vm (s:={ s5 with heap:=g4 }) ge q3 q4 ?_);rw[U7 (by simp)];let xg:M1 (Aj (.ref C) X.s₀.heap [] H2) g4 e2 (.ref C) Y T2:={a3,cm,_,_,ge,q2,d8,q3,q4,ne',gT,d3,(Vt.mp cH).1,q8};refine BJ (s:={ s5 with heap:=g4 }) xg λ g5 ea eb ec _=>?_;let I9:=I8.butN (g:=g5) NT HT {(eb),ea};obtain⟨σ',H',wn,hσ',hH'⟩:SP X pins ⟨λ σ' H'=>σ'=(σ.set i (U (.ref e))).set i Y/\H'=H2,λ _ _=>False,λ _ _=>False,λ _ _=>False⟩ .next { s5 with heap:=g5 }:=dv {_,_,I9,J,J};subst hσ' hH';exact hx σ pins _ _ _ e2 T2 (.ref C) Y wn N2.s0 NT.s0 b4 HT ec (λ _ z=>nomatch z) hE
 refine wpAny_execs_cons ?_;rw[arm_exec_Raise];refine wpAny_bind (wpAny_standAt ?_);simp only[evalOpt,Option.map];refine vk (K:=X.K) (h:=e) (oh:=oe) (C:=C) (c:=c) (newId := "ValueError.__new__") J a4 v2 hc de ?_;refine wpAny_bind ?_;refine wpAny_Call_Name_kw (dM (X:=X.mark e Hm) I2 hg hm ?_ c7);unfold callWith;let hh:=ha e Hm cpos pins s1 _ _ _ I2 dN;rw[c5] at hh ⊢;refine wpAny_bind (wpAny_holding (Calls.evalArgs_plain (wpAny_mono hh (λ us s2 ⟨cm,H2,I3,r,hl,hq⟩=>wpAny_bind (wpAny_standAt ?_)) λ _ _ z=>z.elim)));let cT:(backTo cpos ((Â,eval e₀ X.env)::starEach bW X.env)).any (·.1)=Â:=(Bool.false_or _).trans a6;let a9:=I3.kIn _ _ b3;simp only[cT];refine wpAny_bind (wpAny_keeperOf_exc (h:=s2.heap) (g:=s2.gens) (d:=s2.drawn) (t:=s2.toks) (os:=s2.os) a9 ?_);refine wpAny_bind (wpAny_call_exc_subU (h:=s2.heap) (g:=s2.gens) (d:=s2.drawn) (t:=s2.toks) (os:=s2.os) (hrest:=by show us.length<=Æ;rw[←r.length];exact hl) PySem.F.excBase_ValueError (by decide +kernel) PySem.F.excBase_ValueError (W.tail_of_in I3.kIn tok) a9 (d1.keeps I3.bk) (W.nsMap_none_of_in I.mod.kin cg d0) λ h' e2 hm=>wpAny_bind (wpAny_holding (wpAny_point (wpAny_pure ?_))));refine wpAny_bind (wpAny_standAt (wpAny_pure ?_));let(t2,ht,_,_):=hm.there;refine{e2,t2,J,?_};let I4:Inv (X.mark e Hm) pins _ H2 { s2 with heap:=h' }:=I3.kept (t':=s2.toks) hm.keeps;let(m,ed,ef):=I4.loc;let(u,ru,l):=ef i n (.ref e) hi (List.getElem?_set_self d2) (.inl hk);cases ru;let cV:H2 e=U (.frz oe (.ext λ _=>True)):=I3.base.frzs e _ _ ck
 let cZ:∀ {Q:O->À->Prop} {E:O->À->Prop},Q (.ref e) { s2 with heap:=h' }->Ç (Ê X.prog X.w) (X.A.mark (U (.ref e))) (eval (.Name n b6) X.env) Q E { s2 with heap:=h' }:=λ q=>by
  rcases l with ⟨hk',ej⟩|⟨hk',c',c0,a5⟩
  ·exact Yf (wpAny_loadName_local I.ok.kind hk' ed ej q) b2
  ·rcases hk' with hk'|hk'
   ·exact Yf (wpAny_loadName_cell I.ok.kind hk' c0 a5 q) b2
   ·exact Yf (wpAny_loadName_free I.ok.kind hk' c0 a5 q c8) b2
 refine My (cZ (My (Wg (U3 ?_))))
 let ee:e≠e2:=λ z=>by
  let(k1,_):=I3.hok e _ cV;rw[z,hm.new] at k1;cases k1
 refine{J,I4.kIn,ee,(I4.hok e _ cV).1,(Ya I3.kIn tok).hasType (by decide +kernel),hm.keeps _ _ a9,(λ z=>by let q:=hm.new;rw[z,a9] at q;cases q),ht,λ h2 k1 k2 k3=>?_};exact fin e2 t2 s2 H2 h2 I3 hm.new (λ b o q=>(k1 b λ z=>by rw[z,hm.new] at q;cases q).trans (hm.keeps b o q)) k2 hq
end
section
variable {X:Cx}
theorem rE{K:Å}{o e:Ñ}{es:G Ñ}{to:TE}{t:TA}{name:Ã}{apos cpos:Pos}{T id:String}{r:V->G V->Hp->VK->Prop}(hK:X.K=K)(pa:PlainAttrs T)(slot:Slot T name id)(a7:typeOf (.builtin id)=pure (.type "method_descriptor"))(hm:MtR X id r)(ho:PE X o to)(ha:PA X (e::es) t)
  (a4:attributeBase o name X.env (eval o X.env)=eval o X.env:=by rfl)
  (a6:((backTo cpos (starEach (e::es) X.env)).all (λ x=>!x.1) && (backToKw cpos (keywordEach [] X.env)).all (λ x=>x.1.isSome)
   && decide ((e::es).length+([]:G Keyword).length+(if ([]:G Keyword).isEmpty then 0 else 1)<30))=L:=by rfl)
  (a5:(apos.endLine == cpos.line)=L:=by rfl) (hs:starEach (e::es) X.env=(Â,eval e X.env)::starEach es X.env:=by rfl) (a3:(backTo cpos (starEach es X.env)).any (·.1)=Â:=by rfl) :
  PE X (.Call (.Attribute o name apos) (e::es) [] cpos) (tBM K T r to t):=by
 subst hK;exact NA pa slot a7 hm ho ha a4 a6 a5 hs a3
end
end L2
namespace PySem.SeqAt
open AutoSeq1 (wpAny_loadPart')
open MeetsSeq MeetsSeq2 MeetsSeq3 SeqRoads2
theorem qw(l:Z)(items:Array O)(n:à)(x:O)(e:O->Ý)(j:à)(hj:j<items.size)(hit:e items[j]=L)(a5:items.size<=Æ)(k:à) :
  ∀ i:à,j - i=k->i<=j->(∀ m (hm:m<items.size),i<=m->m<j->e items[m]=Â)->Meets (Builtin.«list.remove.loop» ⟨[.ref l,x,rawInt i],[]⟩)
   (λ A R s=>s.heap.get? l=U { cls:=.type "list",dict:=Y,data:=.seq items n,slots:=#[] }/\(∀ y,y∈items->EqAt A.in1 s y x (e y))/\R (.ok (.ret .none)) { s with heap:=s.heap.update l (Obj.mapSeq λ xs=>xs.eraseIdxIfInBounds j) }):=by
 induction k with
 | zero=>
  intro i hk a7 a3 prog w A R s h;let(hp,g,d,tk,os):=s;let(hl,he,h):=h;let a6:i=j:=by omega
  subst a6
  wp_walk using WH hl
  let hi:items[((i:à):B).toNat]? = U items[i]:=by simp[hj]
  rw[hi];refine My (he _ (Array.getElem_mem hj) prog w _ _ ?_);rw[hit];let a8:(items.eraseIdxIfInBounds i).size<=Æ+1:=Vv (size_erased items _) (Nat.le_succ_of_le a5)
  wp_walk using (X5 hl J (hz:=a5) (_hz':=a8)),WH hl
  simpa using h
 | succ k ih=>
  intro i hk a7 a3 prog w A R s h;let(hp,g,d,tk,os):=s;let(hl,he,h):=h;let a4:i<items.size:=by omega
  wp_walk using WH hl
  let hi:items[((i:à):B).toNat]? = U items[i]:=by simp[a4]
  let hc:((i:B)+1)=((i+1:à):B):=by push_cast;rfl
  rw[hi];refine My (he _ (Array.getElem_mem a4) prog w _ _ ?_);rw[a3 i a4 (U6 _) (by omega)]
  wp_walk
  rw[hc]
  exact{plainId_quiet Yo _,Xt entry_remove_loop (by
   rw[Around.under_plainId Yo _];exact ih (i+1) (by omega) (by omega) (λ m hm h1 h2=>a3 m hm (by omega) h2) prog w A R _ {(hl),he,h})}
theorem list_removeAt(l:Z)(items:Array O)(n:à)(x:O)(e:O->Ý)(j:à)(hj:j<items.size)
  (hit:e items[j]=L) (a3:∀ m (hm:m<items.size),m<j->e items[m]=Â) (a4:items.size<=Æ) :
  Meets (Builtin.«list.remove» ⟨[.ref l,x],[]⟩)
   (λ A R s=>s.heap.get? l=U { cls:=.type "list",dict:=Y,data:=.seq items n,slots:=#[] }/\(∀ y,y∈items->EqAt A.in1 s y x (e y))/\R (.ok (.ret .none)) { s with heap:=s.heap.update l (Obj.mapSeq λ xs=>xs.eraseIdxIfInBounds j) }):=by
 intro prog w A R s h;let(hp,g,d,tk,os):=s;let(hl,he,h):=h
 wp_walk using WH hl
 exact{plainId_quiet Yo _,Xt entry_remove_loop (by
  rw[Around.under_plainId Yo _];exact qw l items n x e j hj hit a4 _ 0 J (VM _) (λ m hm _ h2=>a3 m hm h2) prog w A R _ {(hl),he,h})}
end PySem.SeqAt
namespace L2
open PySem PySem.Spec PyProof.Rows
section
variable {X:Cx}
def Bm:V->G V->Hp->VK->Prop:=λ x vs H Q=>∃ l xs y d ds j,x=.ref l/\vs=[y]/\H l=U (.lst xs)/\dC H 6 y=U d/\aJ (xs.map (dC H 5))=U ds/\ds.findIdx? (λ z=>PyData.eqv z d)=U j/\Q .non (upd H l (.lst (xs.eraseIdx j)))
theorem ym{l:Z}{xs:G V}{y:V}{d:PyData}{ds:G PyData}{j:à}{H:Hp}{Q:VK}(h:H l=U (.lst xs))(hd:dC H 6 y=U d)(hs:aJ (xs.map (dC H 5))=U ds)(hj:ds.findIdx? (λ z=>PyData.eqv z d)=U j)(q:Q .non (upd H l (.lst (xs.eraseIdx j)))):Bm (.ref l) [y] H Q:={(l),xs,y,d,ds,j,J,J,h,hd,hs,hj,q}
theorem Ct(hu:X.A.units+64<cLine):MtM X "list.remove" Bm:=by
 intro pins s σ H x vs v us Q I rx rv h;let(l,xs,y,d,ds,j,rfl,rfl,hH,e1,e2,hj,q):=h;cases rx;let(u,rfl,ru):=rv.one;let(z,its,n,r,hl,e):=I.lstM hH;let(a,b,c):=mj (K:=X.K) 6 y d e1;let(as,zy):=a.reads I ru;let(a',b',c'):=lQ (K:=X.K) (mj 5) xs ds e2;let(bs,zs):=a'.reads I r;let hm:=SeqAt.readsAll_map ds _ _ b' zs;rw[List.findIdx?_eq_some_iff_getElem] at hj;let(a6,a3,a4):=hj;let a7:ds.length=its.length:=by rw[←hm,U2]
 refine Xq F.slot_list_remove {_,e,J} F.entry_list_remove (F.args_list_remove_2 _ _) (SeqAt.list_removeAt l its.toArray n u (λ y=>PyData.eqv (SeqAt.readOf s.heap y) d) j (by rw[Vj];omega) ?_ ?_ (by rw[Vj];omega)) {e,?_,?_}
 ·show PyData.eqv (SeqAt.readOf s.heap its.toArray[j]) d=L
  rw[List.getElem_toArray,←a3];congr 1;rw[←List.getElem_map (f:=SeqAt.readOf s.heap) (h:=by rw[U2];omega)];exact List.getElem_of_eq hm _
 ·intro m a8 a5;let a9:m<ds.length:=by omega
  let h2:=a4 m a5
  show PyData.eqv (SeqAt.readOf s.heap its.toArray[m]) d=Â
  rw[List.getElem_toArray]
  let e3:SeqAt.readOf s.heap (its[m]'(by omega))=ds[m]:=by
   rw[←List.getElem_map (f:=SeqAt.readOf s.heap) (h:=by rw[U2];omega)];exact List.getElem_of_eq hm _
  rw[e3];exact Xz.mpr h2
 ·exact SeqAt.items_eqAt (by simpa using zs) zy b' b (by have:=Nat.min_le_right (PyData.depthAll ds) d.depth;omega)
 ·refine{.non,_,I.lset (its':=its.eraseIdx j) hH e ?_ (r.eraseIdx j) ?_,J,q}
  ·show its.toArray.eraseIdxIfInBounds j=(its.eraseIdx j).toArray
   rw[List.eraseIdxIfInBounds_toArray]
  ·have:=rY xs j;omega
end
end L2
namespace PH
variable {ns vals ms:G B}{H H':Hp}{ys:G V}{α:Type}{m s:Ã}{p l h st D Pp:Z}{K:Å}{mg:Ã->Ü O}{i j k:à}{y:V}{room c n:B}{ps:G Ã}{S:G Z}{o:HO}{fd:Á}{P:Ì}{w:Ï}{base:Ð}{CX:CXT}{a:B × B}{Q:VK}{cs:G à}{rw:G (Ã × Z)}
def o9(ns:G B):Prop:=ns.length<=8/\∀ n∈ns,1<=n/\n<=1000000000
def aw:G B->B
 | []=>1
 | n::r=>n * aw r
theorem gK:∀ ns ms:G B,aw (ns++ms)=aw ns * aw ms
 | [],ms=>by simp[aw]
 | n::r,ms=>by simp only[W8,aw,gK r ms,Int.mul_assoc]
theorem hV(ns:G B)(i:à)(z:B)(h:ns[i]? = U z):aw (ns.take (i+1))=aw (ns.take i) * z:=by
 rw[Xc,h,gK];simp[aw]
theorem rS:∀ ns:G B,(∀ n∈ns,1<=n/\n<=1000000000)->1<=aw ns/\aw ns<=1000000000 ^ ns.length
 | [],_=>by simp[aw]
 | n::r,h=>by
  let(h1,h2):=rS r λ m hm=>h m (Vb _ hm);let(g1,g2):=h n Vq;refine{?_,?_}
  ·show 1<=n * aw r
   exact Int.le_trans (by omega) (W2 g1 h1 (by decide) (by omega):1 * 1<=n * aw r)
  ·show n * aw r<=1000000000 ^ (r.length+1)
   rw[Int.pow_succ,XS];exact W2 h2 g2 (by omega) (Int.le_trans (by omega) h2)
theorem KA:∀ {k:à},k<=8->(1000000000:B) ^ k<=1000000000 ^ 8
 | 0,_=>by decide
 | 1,_=>by decide
 | 2,_=>by decide
 | 3,_=>by decide
 | 4,_=>by decide
 | 5,_=>by decide
 | 6,_=>by decide
 | 7,_=>by decide
 | 8,_=>by decide
 | k+9,h=>by omega
theorem o9.prod(h:o9 ns):1<=aw ns/\aw ns<=1000000000 ^ 8:=by
 let(a,b):=rS ns h.2;exact{a,Int.le_trans b (KA h.1)}
theorem o9.take(h:o9 ns)(i:à):o9 (ns.take i):=⟨by have:=h.1;simp;omega,λ n hn=>h.2 n (WG hn)⟩
def InR:G B->G B->Prop
 | [],[]=>True
 | n::r,x::xs=>(0<=x/\x<n)/\InR r xs
 | _,_=>False
theorem InR.len:∀ {ns xs:G B},InR ns xs->xs.length=ns.length
 | [],[],_=>rfl
 | [],_::_,h=>h.elim
 | _::_,[],h=>h.elim
 | _::r,_::xs,⟨_,h⟩=>by simp[InR.len h]
open PySem L2
def vi:V->B
 | .int i=>i
 | _=>0
def fW(x:V)(b:B):Ý:=match x with
 | .int i=>decide (0<=i) && decide (i<b)
 | _=>Â
def uy(H:Hp)(x:V):Prop:=(isW H x).isSome=L/\∀ q xs,x=.ref q->H q=U (.tup xs)->∀ y∈xs,(isW H y).isSome=L
def rB(ns:G B):Ü HO->Ý
 | some (.tup xs)=>decide (xs.length=ns.length) && (xs.zip ns).all (λ p=>fW p.1 p.2)
 | _=>Â
def rC(ns:G B)(x:V)(H:Hp):Ý:=match x with
 | .ref q=>rB ns (H q)
 | _=>Â
theorem Mi(e:Ext H H'){x:V}{b:Ý}(h:isW H x=U b):isW H' x=U b:=by
 cases x with
 | ref p=>
  let(_,o,ho,_):=pz h;rw[lO,ho] at h;rw[lO,e.at ho];exact h
 | _=>exact h
theorem tF{q:Z}{xs:G B}(h:H q=U (.tup (xs.map V.int))):uy H (.ref q):=by
 refine{by rw[lO,h];rfl,λ q' ys e hy y hm=>?_};cases e;rw[h] at hy;cases hy;let(i,_,rfl):=U8.mp hm;rfl
theorem Jf:∀ {ns ys:G B},InR ns ys->((ys.map V.int).zip ns).all (λ p=>fW p.1 p.2)=L
 | [],[],_=>rfl
 | [],_::_,h=>h.elim
 | _::_,[],h=>h.elim
 | n::ns,y::ys,⟨h,k⟩=>by
  simp only[Vs,List.zip_cons_cons,List.all_cons,Jf k,Bool.and_true]
  show (decide (0<=y) && decide (y<n))=L
  simp[h.1,h.2]
theorem Cf{ys:G B}{q:Z}(h:H q=U (.tup (ys.map V.int)))(hy:InR ns ys):rC ns (.ref q) H=L:=by
 show rB ns (H q)=L
 rw[h]
 show (decide _ && _)=L
 rw[Jf hy,Bool.and_true,decide_eq_true_eq,U2,hy.len]
theorem S8:∀ (xs:G V) (ns:G B),xs.zip (ns.map V.int)=(xs.zip ns).map λ p=>(p.1,V.int p.2)
 | [],_=>rfl
 | _::_,[]=>rfl
 | x::xs,n::ns=>by simp[S8 xs ns]
def lT(l:G α):(l.filter λ _=>L)=l:=Xf.mpr λ _ _=>J
theorem IX:∀ (ys ps:G B),(((ys.map V.int).zip (ps.map V.int)).filter λ _=>L).map (λ z=>V.int (vi z.1 * vi z.2))=(List.zipWith (λ x p=>x * p) ys ps).map V.int
 | [],_=>rfl
 | _::_,[]=>rfl
 | y::ys,p::ps=>by
  let ih:=IX ys ps;rw[lT] at ih ⊢;simp only[Vs,List.zip_cons_cons,WY,ih];rfl
def bE(a:B × B):B × B:=(a.1,if a.1 > 1 then a.2 else 0)
def axL(axs:G (B × B)):G (G B):=axs.map λ a=>[a.1,a.2]
def aF(axs:G (B × B)):B:=(axs.map λ a=>min 0 ((a.1 - 1) * a.2)).sum
def aG(axs:G (B × B)):B:=(axs.map λ a=>max 0 ((a.1 - 1) * a.2)).sum
def iA(axs:G (B × B)):Prop:=axs.length<=8/\∀ a∈axs,1<=a.1/\a.1<=1000000000
structure md(room first:B)(axs:G (B × B)):Prop where
 ax:iA axs
 r1:1<=room
 r2:room<=1000000000000000000
 lo:0<=first+aF (axs.map bE)
 hi:first+aG (axs.map bE)<room
theorem iA.kept{axs:G (B × B)}(h:iA axs):iA (axs.map bE):={by rw[U2];exact h.1,λ a ha=>by
 let(b,hb,rfl):=U8.mp ha;exact h.2 b hb}
theorem iA.sizes{axs:G (B × B)}(h:iA axs):o9 (axs.map λ a=>a.1):={by rw[U2];exact h.1,λ n hn=>by
 let(b,hb,rfl):=U8.mp hn;exact h.2 b hb}
def gc(room first:B)(l:Z):G (Ã × V):=bh "axes" (.ref l) (bh "first" (.int first) (bh "room" (.int room) []))
def Sb:¬ (("room":Ã) = "axes"):=by decide +kernel
def Sa:¬ (("room":Ã) = "first"):=by decide +kernel
def Se:¬ (("first":Ã) = "axes"):=by decide +kernel
theorem g6(room first:B)(l:Z):(gc room first l).lookup ("room":Ã)=U (.int room):=by
 unfold gc;rw[ae,if_neg Sb,ae,if_neg Sa,ae,if_pos J]
theorem dS(room first:B)(l:Z):(gc room first l).lookup ("first":Ã)=U (.int first):=by
 unfold gc;rw[ae,if_neg Se,ae,if_pos J]
theorem dH(room first:B)(l:Z):(gc room first l).lookup ("axes":Ã)=U (.ref l):=by
 unfold gc;rw[ae,if_pos J]
theorem lD(room first:B)(l:Z)(h1:¬ m = "axes")(h2:¬ m = "first")(h3:¬ m = "room"):(gc room first l).lookup m=Y:=by
 unfold gc;rw[ae,if_neg h1,ae,if_neg h2,ae,if_neg h3];rfl
theorem ju:∀ ns:G B,(∀ n∈ns,(1:B)<=n)->1<=aw ns
 | [],_=>by simp[aw]
 | n::ns,h=>by
  let h1:=h n Vq;let h2:=ju ns λ m hm=>h m (Vb _ hm)
  show 1<=n * aw ns
  have:=W2 h1 h2 (by decide) (by omega);omega
theorem vH(l:G (B × B))(a:B × B):aF (l++[a])=aF l+min 0 (a.2 * (a.1 - 1)):=by
 unfold aF;rw[map_append,List.sum_append,Int.mul_comm a.2];simp
theorem vO(l:G (B × B))(a:B × B):aG (l++[a])=aG l+max 0 (a.2 * (a.1 - 1)):=by
 unfold aG;rw[map_append,List.sum_append,Int.mul_comm a.2];simp
theorem aC(a:B × B)(l:G (B × B)):aF (a::l)=min 0 ((a.1 - 1) * a.2)+aF l:=by unfold aF;simp
theorem aD(a:B × B)(l:G (B × B)):aG (a::l)=max 0 ((a.1 - 1) * a.2)+aG l:=by unfold aG;simp
def eU(xs ps:G B):B:=(List.zipWith (λ x p=>x * p) xs ps).sum
theorem vz{x p s:B}(h0:0<=x)(h1:x<=s - 1):min 0 ((s - 1) * p)<=x * p/\x * p<=max 0 ((s - 1) * p):=by
 rcases Int.le_total 0 p with hp|hp
 ·let a:=Int.mul_nonneg h0 hp;let b:=W6 h1 hp;omega
 ·let a:=Int.mul_nonneg h0 (show 0<=-p by omega);let b:=W6 h1 (show 0<=-p by omega);rw[YH] at a b;rw[YH] at b;omega
theorem mY:∀ (axs:G (B × B)) (xs:G B),InR (axs.map λ a=>a.1) xs->aF axs<=eU xs (axs.map λ a=>a.2)/\eU xs (axs.map λ a=>a.2)<=aG axs
 | [],[],_=>by decide
 | [],_::_,h=>h.elim
 | _::_,[],h=>h.elim
 | a::r,x::xs,⟨⟨h0,h1⟩,h⟩=>by
  let(b1,b2):=mY r xs h
  let e:eU (x::xs) ((a::r).map λ a=>a.2)=x * a.2+eU xs (r.map λ a=>a.2):=by
   unfold eU;rw[map_cons,List.zipWith_cons_cons,List.sum_cons]
  rw[aC,aD,e];let a3:x<a.1:=h1;let(c1,c2):=vz (p:=a.2) h0 (show x<=a.1 - 1 by omega);omega
theorem InR.bound:∀ {ns ys:G B},o9 ns->InR ns ys->∀ a∈ys,0<=a/\a<1000000000:=λ {ns ys} hs hy=>by
 have:∀ {ns ys:G B},(∀ n∈ns,1<=n/\n<=1000000000)->InR ns ys->∀ a∈ys,0<=a/\a<1000000000:=by
  intro ns
  induction ns with
  | nil=>intro ys _ h a ha;cases ys with
   | nil=>cases ha
   | cons _ _=>exact h.elim
  | cons n r ih=>intro ys hs h a ha;cases ys with
   | nil=>exact h.elim
   | cons y ys=>
    let hn:=hs n Vq;let hy:0<=y/\y<n:=h.1
    rcases Vp.mp ha with rfl|ha
    ·omega
    ·exact ih (λ m hm=>hs m (Vb _ hm)) h.2 a ha
 exact this hs.2 hy
theorem jE(ns:G B)(h:∀ n∈ns,(1:B)<=n)(i:à):aw (ns.take i)<=aw ns:=by
 let e:aw ns=aw (ns.take i) * aw (ns.drop i):=by rw[←gK,W4]
 let a:=ju (ns.take i) λ n hn=>h n (WG hn);let b:=ju (ns.drop i) λ n hn=>h n (List.mem_of_mem_drop hn);rw[e];have:=Yw b (show 0<=aw (ns.take i) by omega);omega
def eQ(cs:G B)(a:B × B):G B:=cs.flatMap λ c=>(Ó a.1.toNat).map λ (n:à)=>c+(n:B) * a.2
def aV(first:B)(axs:G (B × B)):G B:=axs.foldl eQ [first]
theorem mr(cs:G B)(a:B × B):(eQ cs a).length=cs.length * a.1.toNat:=by
 unfold eQ
 induction cs with
 | nil=>simp
 | cons c r ih=>rw[List.flatMap_cons,Va,ih,U2,VZ,Vo,Nat.add_mul];omega
theorem m5(first:B)(axs:G (B × B))(a:B × B):aV first (axs++[a])=eQ (aV first axs) a:=by
 unfold aV;rw[List.foldl_append];rfl
theorem sk:∀ (axs:G (B × B)) (cs:G B),(∀ a∈axs,(1:B)<=a.1)->((axs.foldl eQ cs).length:B)=cs.length * aw (axs.map λ a=>a.1)
 | [],cs,_=>by simp[aw]
 | a::r,cs,h=>by
  let ha:=h a Vq;rw[YE,sk r (eQ cs a) λ b hb=>h b (Vb _ hb),mr,YG,Ws (by omega),Int.mul_assoc];rfl
theorem ip(first:B)(axs:G (B × B))(h:∀ a∈axs,(1:B)<=a.1):((aV first axs).length:B)=aw (axs.map λ a=>a.1):=by
 unfold aV;rw[sk axs [first] h];simp
theorem sj:∀ (axs:G (B × B)) (cs:G B) (M:B),M∈axs.foldl eQ cs ↔ ∃ c∈cs,∃ xs,InR (axs.map λ a=>a.1) xs/\M=c+eU xs (axs.map λ a=>a.2)
 | [],cs,M=>by
  refine{λ h=>{M,h,[],trivial,by simp[eU]},λ ⟨c,hc,xs,hx,e⟩=>?_}
  match xs,hx with
  | [],_=>rw[e];simpa [eU] using hc
 | a::r,cs,M=>by
  rw[YE,sj r (eQ cs a) M]
  let de:∀ (x:B) (xs:G B),eU (x::xs) ((a::r).map λ a=>a.2)=x * a.2+eU xs (r.map λ a=>a.2):=λ x xs=>by
   unfold eU;rw[map_cons,List.zipWith_cons_cons,List.sum_cons]
  constructor
  ·rintro ⟨c,hc,xs,hx,e⟩;unfold eQ at hc;let(c0,a3,a4):=List.mem_flatMap.mp hc;let(n,hn,rfl):=List.mem_map.mp a4;let a5:=List.mem_range.mp hn;refine{c0,a3,(n:B)::xs,{⟨by omega,?_⟩,hx},by rw[de,e];omega}
   show (n:B)<a.1
   omega
  ·rintro ⟨c,hc,xs,hx,e⟩
   match xs,hx with
   | x::xs,⟨⟨h0,h1⟩,hx⟩=>
    let a6:x<a.1:=h1;refine{c+x * a.2,?_,xs,hx,by rw[e,de];omega};unfold eQ;refine List.mem_flatMap.mpr {c,hc,List.mem_map.mpr {x.toNat,List.mem_range.mpr (by omega),?_}};rw[Int.toNat_of_nonneg h0]
theorem zz(first:B)(axs:G (B × B))(M:B):M∈aV first axs ↔ ∃ xs,InR (axs.map λ a=>a.1) xs/\M=first+eU xs (axs.map λ a=>a.2):=by
 unfold aV;rw[sj];refine{λ ⟨c,hc,xs,hx,e⟩=>{xs,hx,by rw[e,List.mem_singleton.mp hc]},λ ⟨xs,hx,e⟩=>{first,List.mem_singleton.mpr rfl,xs,hx,e}}
def top(i:à):Stmt:=PySem.Challenge.pw_pacehall_k85_hall_names.main.body.getD i (.Pass {(0),0,0,0})
abbrev cE:Stmt:=ar (top 8) 0
local macro_rules | `(nofun) => `(by decide +kernel)
local macro_rules | `(∅) => `(⟨rfl,rfl,rfl,nofun,rfl,nofun,nofun⟩)
def jT:af ["self", "number"] ["self", "number"] (aa cE):=∅
abbrev cQ:Stmt:=ar (top 9) 0
def kC:af ["self", "name"] ["self", "name"] (aa cQ):=∅
abbrev dw:Stmt:=ar (top 10) 0
def lC:af ["self", "name"] ["self", "name"] (aa dw):=∅
abbrev kf:Stmt:=top 12
def zH:af ["thing"] ["thing"] (aa kf):=∅
abbrev kg:Stmt:=top 15
def ir:af ["sizes", "count", "size"] ["sizes"] (aa kg):=∅
abbrev cO:Stmt:=top 16
def kA:af ["thing", "bound"] ["thing", "bound"] (aa cO):=∅
abbrev g8:Stmt:=top 17
def zI:af ["sizes", "thing"] ["sizes", "thing"] (aa g8):=∅
abbrev fJ:Stmt:=top 18
def jL:af ["count"] ["count"] (aa fJ):=∅
abbrev iR:Stmt:=top 23
def vZ:af ["thing", "low", "high"] ["thing", "low", "high"] (aa iR):=∅
abbrev mD:Stmt:=top 24
def EE:af ["thing"] ["thing"] (aa mD):=∅
abbrev mE:Stmt:=top 25
def EF:af ["thing"] ["thing"] (aa mE):=∅
abbrev hG:Stmt:=top 26
def zJ:af ["thing"] ["thing"] (aa hG):=∅
abbrev iQ:Stmt:=top 27
def vY:af ["axis"] ["axis"] (aa iQ):=∅
abbrev cB:Stmt:=ar (top 28) 0
def nF:af ["self", "room", "first", "axes"] ["self", "room", "first", "axes"] (aa cB):=∅
abbrev eF:Stmt:=ar (top 28) 1
def t5:af ["self"] ["self"] (aa eF):=∅
abbrev eI:Stmt:=ar (top 28) 2
def t6:af ["self"] ["self"] (aa eI):=∅
abbrev gF:Stmt:=ar (top 28) 3
def t9:af ["self"] ["self"] (aa gF):=∅
abbrev fB:Stmt:=ar (top 28) 4
def wd:af ["self", "place"] ["self", "place"] (aa fB):=∅
abbrev gG:Stmt:=ar (top 28) 6
def dj:af ["self", "found", "size", "pace"] ["self"] (aa gG):=∅
abbrev eJ:Stmt:=ar (top 28) 7
def t7:af ["self"] ["self"] (aa eJ):=∅
abbrev cA:Stmt:=ar (top 28) 8
def nE:af ["self"] ["self"] (aa cA):=∅
abbrev jt:Stmt:=top 29
def mM:af ["cells", "size", "pace", "found", "cell"] ["cells", "size", "pace"] (aa jt):=∅
abbrev du:Stmt:=ar (top 31) 0
def lB:af ["self", "values"] ["self", "values"] (aa du):=∅
abbrev cF:Stmt:=ar (top 31) 1
def jU:af ["self"] ["self"] (aa cF):=∅
abbrev b0:Stmt:=ar (top 31) 2
def eu:af ["self", "view"] ["self", "view"] (aa b0):=∅
abbrev eK:Stmt:=ar (top 31) 3
def ua:af ["self", "view"] ["self", "view"] (aa eK):=∅
abbrev gu:Stmt:=top 35
def sH:af ["thing"] ["thing"] (aa gu):=∅
abbrev ek:Stmt:=ar (top 36) 0
def nK:af ["self", "values"] ["self", "values"] (aa ek):=∅
abbrev cR:Stmt:=ar (top 36) 1
def cW:af ["self", "name"] ["self", "name"] (aa cR):=∅
abbrev i3:Stmt:=ar (top 36) 2
def fH:af ["self", "name", "view"] ["self", "name", "view"] (aa i3):=∅
abbrev iZ:Stmt:=ar (top 36) 3
def cM:af ["self", "name", "of", "move"] ["self", "name", "of", "move"] (aa iZ):=∅
abbrev i0:Stmt:=ar (top 36) 4
def m9:af ["self", "name"] ["self", "name"] (aa i0):=∅
abbrev iX:Stmt:=ar (top 36) 5
def m6:af ["self", "name"] ["self", "name"] (aa iX):=∅
abbrev iY:Stmt:=ar (top 36) 6
def m7:af ["self", "name"] ["self", "name"] (aa iY):=∅
abbrev gJ:Stmt:=ar (top 36) 7
def uc:af ["self"] ["self"] (aa gJ):=∅
abbrev cS:Stmt:=ar (top 36) 8
def kD:af ["self"] ["self"] (aa cS):=∅
abbrev oi:Stmt:=top 38
def cJ:af ["size", "start", "stop", "step", "stride", "low", "high", "first", "end", "many"] ["size", "start", "stop", "step"] (aa oi):=∅
abbrev AU:Stmt:=top 39
def Jl:af ["bound", "size", "low", "high", "counted"] ["bound", "size", "low", "high"] (aa AU):=∅
abbrev dY:Stmt:=top 40
def nC:af ["first", "end", "stride"] ["first", "end", "stride"] (aa dY):=∅
abbrev dZ:Stmt:=top 42
def gU:af ["fits"] ["fits"] (aa dZ):=∅
abbrev fK:Stmt:=top 43
def jM:af ["sizes", "axis"] ["sizes", "axis"] (aa fK):=∅
abbrev ke:Stmt:=top 44
def oM:af ["row", "axis", "told"] ["row", "axis", "told"] (aa ke):=∅
abbrev bN:Stmt:=top 45
def kz:af ["many", "axis"] ["many", "axis"] (aa bN):=∅
abbrev jD:Stmt:=ar (top 46) 0
abbrev kO:Stmt:=ar (top 46) 1
abbrev cC:Stmt:=ar (top 46) 2
def cD:af ["self", "sizes", "found"] ["self", "sizes"] (aa cC):=∅
abbrev mF:Stmt:=ar (top 46) 4
def bx:af ["self", "view", "sizes", "found", "many", "first", "axes", "axis", "size", "pace"] ["self", "view"] (aa mF):=∅
abbrev mR:Stmt:=ar (top 46) 5
abbrev bp:Stmt:=ar (top 47) 0
def gb:af ["self", "axis", "start", "stop", "step"] ["self", "axis", "start", "stop", "step"] (aa bp):=∅
abbrev fL:Stmt:=ar (top 47) 1
def fS:af ["self", "sizes", "e"] ["self", "sizes"] (aa fL):=∅
abbrev eS:Stmt:=ar (top 47) 2
def iH:af ["self", "sizes"] ["self", "sizes"] (aa eS):=∅
abbrev fM:Stmt:=ar (top 47) 3
def jN:af ["self", "sizes", "place", "found"] ["self", "sizes", "place"] (aa fM):=∅
abbrev kM:Stmt:=ar (top 47) 4
abbrev ei:Stmt:=ar (top 48) 0
def nJ:af ["self", "axis", "at"] ["self", "axis", "at"] (aa ei):=∅
abbrev fN:Stmt:=ar (top 48) 1
def rg:af ["self", "sizes"] ["self", "sizes"] (aa fN):=∅
abbrev fO:Stmt:=ar (top 48) 2
def jO:af ["self", "sizes"] ["self", "sizes"] (aa fO):=∅
abbrev gI:Stmt:=ar (top 48) 3
def ub:af ["self", "sizes", "place"] ["self", "sizes", "place"] (aa gI):=∅
abbrev mQ:Stmt:=ar (top 48) 4
abbrev eg:Stmt:=ar (top 49) 0
def nG:af ["self", "order"] ["self", "order"] (aa eg):=∅
abbrev dE:Stmt:=ar (top 49) 1
def rf:af ["self", "sizes"] ["self", "sizes"] (aa dE):=∅
abbrev gH:Stmt:=ar (top 49) 2
def eN:af ["self", "sizes", "place", "found", "number", "axis"] ["self", "sizes", "place"] (aa gH):=∅
abbrev mP:Stmt:=ar (top 49) 3
abbrev cP:Stmt:=ar (top 50) 0
def kB:af ["self", "axis", "size"] ["self", "axis", "size"] (aa cP):=∅
abbrev eh:Stmt:=ar (top 50) 1
def nH:af ["self", "sizes"] ["self", "sizes"] (aa eh):=∅
abbrev eR:Stmt:=ar (top 50) 2
def oa:af ["self", "sizes", "place"] ["self", "sizes", "place"] (aa eR):=∅
abbrev jC:Stmt:=ar (top 50) 3
abbrev iV:Stmt:=top 52
def fG:af ["_law_script", "_law_k", "_law_many", "_law_number"] ["_law_script", "_law_k", "_law_many"] (aa iV):=∅
abbrev iU:Stmt:=top 53
def br:af ["_law_cell", "_law_room", "_law_sizes", "_law_axes", "_law_low", "_law_high", "_law_size", "_law_pace"] ["_law_cell", "_law_room", "_law_sizes"] (aa iU):=∅
abbrev gA:Stmt:=top 54
def eM:af ["_law_cell", "_law_room", "_law_sizes", "_law_k"] ["_law_cell", "_law_room"] (aa gA):=∅
abbrev gC:Stmt:=top 55
def bB:af ["_law_parts_here", "_law_found", "_law_size", "_law_pace", "_law_longer", "_law_cell", "_law_number"] ["_law_parts_here"] (aa gC):=∅
abbrev iS:Stmt:=top 56
def wc:af ["_law_parts_here"] ["_law_parts_here"] (aa iS):=∅
abbrev fz:Stmt:=top 57
def dX:af ["_law_script", "_law_k", "_law_letters", "_law_word", "_law_cell", "_law_at"] ["_law_script", "_law_k"] (aa fz):=∅
abbrev bS:Stmt:=top 58
def iG:af ["_law_name_here"] ["_law_name_here"] (aa bS):=∅
abbrev bV:Stmt:=top 59
def lA:af ["_law_name_here", "_law_state"] ["_law_name_here", "_law_state"] (aa bV):=∅
abbrev iT:Stmt:=top 60
def bq:af ["_law_parts_here", "_law_cell", "_law_room", "_law_first", "_law_axes", "_law_turned", "_law_at", "_law_size", "_law_pace", "_law_many", "_law_back"] ["_law_parts_here", "_law_cell"] (aa iT):=∅
abbrev gB:Stmt:=top 61
def di:af ["_law_parts_here", "_law_count_here", "_law_size", "_law_pace"] ["_law_parts_here"] (aa gB):=∅
abbrev dt:Stmt:=top 62
def ly:af ["_law_name_here", "_law_state"] ["_law_name_here", "_law_state"] (aa dt):=∅
abbrev gE:Stmt:=top 63
def bC:af ["_law_which", "_law_hall", "_law_name_here", "_law_thing", "_law_move_here", "_law_found", "_law_word", "e", "_law_some"] ["_law_which", "_law_hall", "_law_name_here", "_law_thing", "_law_move_here"] (aa gE):=∅
abbrev iW:Stmt:=top 64
def bt:af ["_law_script", "_law_k", "_law_hall", "_law_state", "_law_room", "_law_name_here", "_law_cell", "_law_parts_here", "_law_due"] ["_law_script", "_law_k", "_law_hall", "_law_state", "_law_room"] (aa iW):=∅
abbrev fA:Stmt:=top 65
def bg:af ["_law_script", "_law_k", "_law_hall", "_law_state", "_law_name_here", "_law_of_here", "_law_due", "_law_move_here", "_law_parts_here"] ["_law_script", "_law_k", "_law_hall", "_law_state"] (aa fA):=∅
abbrev gv:Stmt:=top 66
def eY:af ["_law_script", "_law_k", "_law_hall", "_law_state", "_law_values", "_law_name_here", "_law_which", "_law_word", "_law_found", "_law_row"] ["_law_script", "_law_k", "_law_hall", "_law_state", "_law_values"] (aa gv):=∅
abbrev j1:Stmt:=top 67
def lX:af ["_law_script", "_law_room", "_law_values", "_law_handed", "_law_hall", "_law_beside", "_law_state", "_law_k", "_law_way", "_law_found"] ["_law_script"] (aa j1):=∅
set_option genInjectivity false in
structure Adr where
 a_GP:Z
 a_G4:Z
 a_G8:Z
 a_G5:Z
 a_Hg:Z
 a_Hh:Z
 a_G6:Z
 a_L8:Z
 a_Ma:Z
 a_aa0:Z
 a_Mb:Z
 a_aa1:Z
 a_aa2:Z
 a_Mc:Z
 a_aa3:Z
 a_aa4:Z
 a_L9:Z
 a_qc:Z
 d_qc:Á
 a_vI:Z
 d_vI:Á
 a_xo:Z
 d_xo:Á
 a_GQ:Z
 d_GQ:Á
 a_GR:Z
 d_GR:Á
 a_vJ:Z
 d_vJ:Á
 a_GS:Z
 d_GS:Á
 a_zk:Z
 d_zk:Á
 a_DI:Z
 d_DI:Á
 a_GW:Z
 d_GW:Á
 a_GX:Z
 d_GX:Á
 a_GU:Z
 d_GU:Á
 a_DJ:Z
 d_DJ:Á
 a_yV:Z
 d_yV:Á
 a_Ds:Z
 d_Ds:Á
 a_Dt:Z
 d_Dt:Á
 a_Du:Z
 d_Du:Á
 a_DK:Z
 d_DK:Á
 a_Dw:Z
 d_Dw:Á
 a_Dx:Z
 d_Dx:Á
 a_yW:Z
 d_yW:Á
 a_GY:Z
 d_GY:Á
 a_yR:Z
 d_yR:Á
 a_tW:Z
 d_tW:Á
 a_oG:Z
 d_oG:Á
 a_Dy:Z
 d_Dy:Á
 a_GZ:Z
 d_GZ:Á
 a_yX:Z
 d_yX:Á
 a_vK:Z
 d_vK:Á
 a_DL:Z
 d_DL:Á
 a_DM:Z
 d_DM:Á
 a_DN:Z
 d_DN:Á
 a_DO:Z
 d_DO:Á
 a_DP:Z
 d_DP:Á
 a_Dz:Z
 d_Dz:Á
 a_vL:Z
 d_vL:Á
 a_Md:Z
 d_Md:Á
 a_Me:Z
 d_Me:Á
 a_yY:Z
 d_yY:Á
 a_yZ:Z
 d_yZ:Á
 a_zm:Z
 d_zm:Á
 a_GV:Z
 d_GV:Á
 a_vM:Z
 d_vM:Á
 a_zo:Z
 d_zo:Á
 a_DA:Z
 d_DA:Á
 a_za:Z
 d_za:Á
 a_G0:Z
 d_G0:Á
 a_DQ:Z
 d_DQ:Á
 a_yS:Z
 d_yS:Á
 a_zp:Z
 d_zp:Á
 a_zh:Z
 d_zh:Á
 a_zq:Z
 d_zq:Á
 a_DB:Z
 d_DB:Á
 a_zb:Z
 d_zb:Á
 a_zr:Z
 d_zr:Á
 a_Dp:Z
 d_Dp:Á
 a_DC:Z
 d_DC:Á
 a_DR:Z
 d_DR:Á
 a_zc:Z
 d_zc:Á
 a_Dq:Z
 d_Dq:Á
 a_DD:Z
 d_DD:Á
 a_DS:Z
 d_DS:Á
 a_vN:Z
 d_vN:Á
 a_zd:Z
 d_zd:Á
 a_zi:Z
 d_zi:Á
 a_Dr:Z
 d_Dr:Á
 a_DT:Z
 d_DT:Á
 a_GI:Z
 d_GI:Á
 a_DE:Z
 d_DE:Á
 a_DF:Z
 d_DF:Á
 a_GJ:Z
 d_GJ:Á
 a_GK:Z
 d_GK:Á
 a_zj:Z
 d_zj:Á
 a_yT:Z
 d_yT:Á
 a_GL:Z
 d_GL:Á
 a_DG:Z
 d_DG:Á
 a_yU:Z
 d_yU:Á
 a_DH:Z
 d_DH:Á
 a_GN:Z
 d_GN:Á
 a_GO:Z
 d_GO:Á
 a_G3:Z
 d_G3:Á
 a_law:Z
 d_law:Á
variable {t:Adr}
structure Tx(K:Å)(mg:Ã->Ü O)(t:Adr):Prop where
 m_GP:mg "PaceError"=U (.ref t.a_GP)
 m_G4:mg "NoPlace"=U (.ref t.a_G4)
 m_G8:mg "NoStep"=U (.ref t.a_G8)
 m_G5:mg "NoCells"=U (.ref t.a_G5)
 m_Hg:mg "NoView"=U (.ref t.a_Hg)
 m_Hh:mg "NoMove"=U (.ref t.a_Hh)
 m_G6:mg "TooMany"=U (.ref t.a_G6)
 m_L8:mg "NoName"=U (.ref t.a_L8)
 m_Ma:mg "Known"=U (.ref t.a_Ma)
 m_aa0:mg "View"=U (.ref t.a_aa0)
 m_Mb:mg "Store"=U (.ref t.a_Mb)
 m_aa1:mg "Hall"=U (.ref t.a_aa1)
 m_aa2:mg "Move"=U (.ref t.a_aa2)
 m_Mc:mg "Slice"=U (.ref t.a_Mc)
 m_aa3:mg "Pick"=U (.ref t.a_aa3)
 m_aa4:mg "Turn"=U (.ref t.a_aa4)
 m_L9:mg "Spread"=U (.ref t.a_L9)
 qB3:È K (.ref t.a_aa0) "__class__"=U (U (.builtin "object.__class__"))
 qB4:Û K t.a_aa0 (.type "object")=U L
 qAz:W.excIn K t.a_Hg [.type "ValueError",.type "Exception",.type "BaseException",.type "object"] "ValueError.__new__"=L
 qAp:W.excIn K t.a_Hh [.type "ValueError",.type "Exception",.type "BaseException",.type "object"] "ValueError.__new__"=L
 qAu:W.excIn K t.a_G5 [.type "ValueError",.type "Exception",.type "BaseException",.type "object"] "ValueError.__new__"=L
 qB0:W.excIn K t.a_G8 [.type "ValueError",.type "Exception",.type "BaseException",.type "object"] "ValueError.__new__"=L
 qAg:Ù K (.ref t.a_G5) (.ref t.a_G8)=U Â
 qAe:Ù K (.ref t.a_G5) (.ref t.a_G5)=U L
 ocs:W.specialIn K (.builtin "object.__class__") "__get__"=U (U (.builtin "getset_descriptor.__get__"))
 oct:W.takesIn K (.builtin "object.__class__")=U L
 xh:([t.a_L8,t.a_Ma,t.a_Hg,t.a_Hh,t.a_G6,t.a_G5].all λ c=>Õ K c && Ú K (.ref c) == U (.type "type") && È K (.ref c) "__getattribute__" == U (U (.builtin "BaseException.__getattribute__")) && È K (.ref c) "__getattr__" == U Y && Û K c (.type "BaseException") == U L && Û K c (.type "object") == U L && È K (.ref c) "__class__" == U (U (.builtin "object.__class__")))=L
 xs:([t.a_L8,t.a_Ma,t.a_Hg,t.a_Hh,t.a_G6,t.a_G5].all λ a=>[t.a_L8,t.a_Ma,t.a_Hg,t.a_Hh,t.a_G6,t.a_G5].all λ c=>W.subIn K (.ref a) (.ref c) == U (a == c))=L
 xp:([t.a_L8,t.a_Ma,t.a_Hg,t.a_Hh,t.a_G6,t.a_G5].all λ a=>W.subIn K (.ref a) (.type "ValueError") == U L && Ù K (.ref a) (.ref t.a_GP) == U L)=L
 xn:decide (List.Nodup [t.a_L8,t.a_Ma,t.a_Hg,t.a_Hh,t.a_G6,t.a_G5])=L
 hard:decide (t.a_Hh=L2.E5)=L
 soft:decide (t.a_G5=L2.E5)=Â
 xm:W.exmAny K (.ref t.a_G5) [.ref t.a_G8,.ref t.a_G5]=U L
 xb:W.subIn K (.ref t.a_G5) (.type "BaseException")=U L
 m_MOST_TOLD:∃ tk,mg "MOST_TOLD"=U (.int 4096 tk)
 m_MOST_ROOM:∃ tk,mg "MOST_ROOM"=U (.int 1000000000000000000 tk)
 m_MOST_SIZE:∃ tk,mg "MOST_SIZE"=U (.int 1000000000 tk)
 m_MOST_AXES:∃ tk,mg "MOST_AXES"=U (.int 8 tk)
 m_LETTERS:∃ tk,mg "LETTERS"=U (.str "abcdefghijklmnopqrstuvwxyz" tk)
 m_MOST_LETTERS:∃ tk,mg "MOST_LETTERS"=U (.int 8 tk)
 oi_TooMany:Jw K t.a_G6 t.a_qc
 tk_TooMany_number:W.takerIn K t.a_G6 "number"=U Y
 qBk:ba K t.a_G6 "number"
 bi_PaceError:Ob K t.a_GP
 oi_NoName:Jw K t.a_L8 t.a_vI
 tk_NoName_name:W.takerIn K t.a_L8 "name"=U Y
 qC4:ba K t.a_L8 "name"
 oi_Known:Jw K t.a_Ma t.a_xo
 tk_Known_name:W.takerIn K t.a_Ma "name"=U Y
 qCg:ba K t.a_Ma "name"
 qA1:Cls K t.a_aa0
 qAc:ba K t.a_aa0 "axes"
 qAd:ba K t.a_aa0 "first"
 qAi:ba K t.a_aa0 "room"
 qC5:Mk K t.a_aa0 t.a_yV
 qAm:dA K t.a_aa0 "sizes" t.a_Ds
 qCh:dA K t.a_aa0 "paces" t.a_Dt
 qAh:dA K t.a_aa0 "count" t.a_Du
 qBd:dA K t.a_aa0 "cell" t.a_DK
 qCi:dA K t.a_aa0 "cells" t.a_Dw
 qCj:dA K t.a_aa0 "least" t.a_Dx
 qBo:dA K t.a_aa0 "greatest" t.a_yW
 qA5:Cls K t.a_Mb
 qAf:ba K t.a_Mb "floor"
 qDm:Mk K t.a_Mb t.a_yR
 qBb:dA K t.a_Mb "all_values" t.a_tW
 qA7:dA K t.a_Mb "refuse_room" t.a_oG
 qBa:dA K t.a_Mb "read" t.a_Dy
 qA0:Cls K t.a_aa1
 qCx:ba K t.a_aa1 "past"
 qA8:ba K t.a_aa1 "store"
 qA3:ba K t.a_aa1 "views"
 qDd:Mk K t.a_aa1 t.a_yX
 qA2:dA K t.a_aa1 "refuse_new" t.a_vK
 qA9:dA K t.a_aa1 "call" t.a_DL
 qCy:dA K t.a_aa1 "make" t.a_DM
 qCz:dA K t.a_aa1 "drop" t.a_DN
 qA6:dA K t.a_aa1 "view" t.a_DO
 qBe:dA K t.a_aa1 "seen" t.a_DP
 qAw:dA K t.a_aa1 "names" t.a_Dz
 qAv:dA K t.a_aa1 "all_values" t.a_vL
 qE6:Cls K t.a_aa2
 qE5:Mk0 K t.a_aa2
 qDr:dA K t.a_aa2 "behind" t.a_zo
 qDz:dA K t.a_aa2 "ahead" t.a_DA
 qDn:dA K t.a_aa2 "sizes_of" t.a_za
 qE4:dA K t.a_aa2 "on" t.a_G0
 qE1:dA K t.a_aa2 "told" t.a_DQ
 qA4:Cls K t.a_Mc
 qAb:ba K t.a_Mc "axis"
 qAl:ba K t.a_Mc "start"
 qAn:ba K t.a_Mc "step"
 qAo:ba K t.a_Mc "stop"
 qB2:dA K t.a_Mc "behind" t.a_zh
 qC6:dA K t.a_Mc "ahead" t.a_zq
 qAy:dA K t.a_Mc "sizes_of" t.a_za
 qAt:dA K t.a_Mc "on" t.a_G0
 qE0:dA K t.a_Mc "told" t.a_DB
 qD0:Mk K t.a_Mc t.a_yS
 qAq:dA K t.a_Mc "taken" t.a_zp
 qAa:Cls K t.a_aa3
 qB8:ba K t.a_aa3 "at"
 qAj:ba K t.a_aa3 "axis"
 qB5:dA K t.a_aa3 "behind" t.a_Dp
 qCk:dA K t.a_aa3 "ahead" t.a_DC
 qB1:dA K t.a_aa3 "sizes_of" t.a_za
 qC0:dA K t.a_aa3 "on" t.a_G0
 qE2:dA K t.a_aa3 "told" t.a_DR
 qC7:Mk K t.a_aa3 t.a_zb
 qB6:dA K t.a_aa3 "picked" t.a_zr
 qAr:Cls K t.a_aa4
 qAx:ba K t.a_aa4 "order"
 qC8:dA K t.a_aa4 "behind" t.a_Dq
 qCl:dA K t.a_aa4 "ahead" t.a_DD
 qBp:dA K t.a_aa4 "sizes_of" t.a_za
 qDe:dA K t.a_aa4 "on" t.a_G0
 qE3:dA K t.a_aa4 "told" t.a_DS
 qDs:Mk K t.a_aa4 t.a_zc
 qAk:Cls K t.a_L9
 qAs:ba K t.a_L9 "axis"
 qB7:ba K t.a_L9 "size"
 qBq:dA K t.a_L9 "behind" t.a_zd
 qC1:dA K t.a_L9 "ahead" t.a_zi
 qBf:dA K t.a_L9 "sizes_of" t.a_za
 qD1:dA K t.a_L9 "on" t.a_G0
 qDt:dA K t.a_L9 "told" t.a_Dr
 qDj:Mk K t.a_L9 t.a_vN
 F_qc:Fun K "__init__" "TooMany.__init__" cE t.a_qc t.d_qc
 b_qc:ao K t.d_qc ["self", "number"] []
 F_vI:Fun K "__init__" "NoName.__init__" cQ t.a_vI t.d_vI
 b_vI:ao K t.d_vI ["self", "name"] []
 F_xo:Fun K "__init__" "Known.__init__" dw t.a_xo t.d_xo
 b_xo:ao K t.d_xo ["self", "name"] []
 F_GQ:Fun K "is_whole" "is_whole" kf t.a_GQ t.d_GQ
 m_GQ:mg "is_whole"=U (.ref t.a_GQ)
 b_GQ:ao K t.d_GQ ["thing"] []
 F_GR:Fun K "count_of" "count_of" kg t.a_GR t.d_GR
 m_GR:mg "count_of"=U (.ref t.a_GR)
 b_GR:ao K t.d_GR ["sizes"] []
 F_vJ:Fun K "is_number_below" "is_number_below" cO t.a_vJ t.d_vJ
 m_vJ:mg "is_number_below"=U (.ref t.a_vJ)
 b_vJ:ao K t.d_vJ ["thing", "bound"] []
 F_GS:Fun K "is_place" "is_place" g8 t.a_GS t.d_GS
 m_GS:mg "is_place"=U (.ref t.a_GS)
 b_GS:ao K t.d_GS ["sizes", "thing"] []
 F_zk:Fun K "refuse_long" "refuse_long" fJ t.a_zk t.d_zk
 m_zk:mg "refuse_long"=U (.ref t.a_zk)
 b_zk:ao K t.d_zk ["count"] []
 F_DI:Fun K "is_within" "is_within" iR t.a_DI t.d_DI
 m_DI:mg "is_within"=U (.ref t.a_DI)
 b_DI:ao K t.d_DI ["thing", "low", "high"] []
 F_GW:Fun K "is_size" "is_size" mD t.a_GW t.d_GW
 m_GW:mg "is_size"=U (.ref t.a_GW)
 b_GW:ao K t.d_GW ["thing"] []
 F_GX:Fun K "is_axis" "is_axis" mE t.a_GX t.d_GX
 m_GX:mg "is_axis"=U (.ref t.a_GX)
 b_GX:ao K t.d_GX ["thing"] []
 F_GU:Fun K "are_axes" "are_axes" hG t.a_GU t.d_GU
 m_GU:mg "are_axes"=U (.ref t.a_GU)
 b_GU:ao K t.d_GU ["thing"] []
 F_DJ:Fun K "kept_axis" "kept_axis" iQ t.a_DJ t.d_DJ
 m_DJ:mg "kept_axis"=U (.ref t.a_DJ)
 b_DJ:ao K t.d_DJ ["axis"] []
 F_yV:Fun K "__init__" "View.__init__" cB t.a_yV t.d_yV
 b_yV:ao K t.d_yV ["self", "room", "first", "axes"] []
 F_Ds:Fun K "sizes" "View.sizes" eF t.a_Ds t.d_Ds
 b_Ds:ao K t.d_Ds ["self"] []
 F_Dt:Fun K "paces" "View.paces" eI t.a_Dt t.d_Dt
 b_Dt:ao K t.d_Dt ["self"] []
 F_Du:Fun K "count" "View.count" gF t.a_Du t.d_Du
 b_Du:ao K t.d_Du ["self"] []
 F_DK:Fun K "cell" "View.cell" fB t.a_DK t.d_DK
 b_DK:ao K t.d_DK ["self", "place"] []
 F_Dw:Fun K "cells" "View.cells" gG t.a_Dw t.d_Dw
 b_Dw:ao K t.d_Dw ["self"] []
 F_Dx:Fun K "least" "View.least" eJ t.a_Dx t.d_Dx
 b_Dx:ao K t.d_Dx ["self"] []
 F_yW:Fun K "greatest" "View.greatest" cA t.a_yW t.d_yW
 b_yW:ao K t.d_yW ["self"] []
 F_GY:Fun K "widened" "widened" jt t.a_GY t.d_GY
 m_GY:mg "widened"=U (.ref t.a_GY)
 b_GY:ao K t.d_GY ["cells", "size", "pace"] []
 F_yR:Fun K "__init__" "Store.__init__" du t.a_yR t.d_yR
 b_yR:ao K t.d_yR ["self", "values"] []
 F_tW:Fun K "all_values" "Store.all_values" cF t.a_tW t.d_tW
 b_tW:ao K t.d_tW ["self"] []
 F_oG:Fun K "refuse_room" "Store.refuse_room" b0 t.a_oG t.d_oG
 b_oG:ao K t.d_oG ["self", "view"] []
 F_Dy:Fun K "read" "Store.read" eK t.a_Dy t.d_Dy
 b_Dy:ao K t.d_Dy ["self", "view"] []
 F_GZ:Fun K "is_name" "is_name" gu t.a_GZ t.d_GZ
 m_GZ:mg "is_name"=U (.ref t.a_GZ)
 b_GZ:ao K t.d_GZ ["thing"] []
 F_yX:Fun K "__init__" "Hall.__init__" ek t.a_yX t.d_yX
 b_yX:ao K t.d_yX ["self", "values"] []
 F_vK:Fun K "refuse_new" "Hall.refuse_new" cR t.a_vK t.d_vK
 b_vK:ao K t.d_vK ["self", "name"] []
 F_DL:Fun K "call" "Hall.call" i3 t.a_DL t.d_DL
 b_DL:ao K t.d_DL ["self", "name", "view"] []
 F_DM:Fun K "make" "Hall.make" iZ t.a_DM t.d_DM
 b_DM:ao K t.d_DM ["self", "name", "of", "move"] []
 F_DN:Fun K "drop" "Hall.drop" i0 t.a_DN t.d_DN
 b_DN:ao K t.d_DN ["self", "name"] []
 F_DO:Fun K "view" "Hall.view" iX t.a_DO t.d_DO
 b_DO:ao K t.d_DO ["self", "name"] []
 F_DP:Fun K "seen" "Hall.seen" iY t.a_DP t.d_DP
 b_DP:ao K t.d_DP ["self", "name"] []
 F_Dz:Fun K "names" "Hall.names" gJ t.a_Dz t.d_Dz
 b_Dz:ao K t.d_Dz ["self"] []
 F_vL:Fun K "all_values" "Hall.all_values" cS t.a_vL t.d_vL
 b_vL:ao K t.d_vL ["self"] []
 F_Md:M0 K "span" "span" oi t.a_Md t.d_Md
 m_Md:mg "span"=U (.ref t.a_Md)
 b_Md:ao K t.d_Md ["size", "start", "stop", "step"] []
 b_span_1:ao K t.d_Md ["size", "start", "stop", "step"] [É,É,É]
 b_span_2:ao K t.d_Md ["size", "start", "stop", "step"] [É,É]
 b_span_3:ao K t.d_Md ["size", "start", "stop", "step"] [É]
 F_Me:Fun K "held" "held" AU t.a_Me t.d_Me
 m_Me:mg "held"=U (.ref t.a_Me)
 b_Me:ao K t.d_Me ["bound", "size", "low", "high"] []
 F_yY:Fun K "steps_between" "steps_between" dY t.a_yY t.d_yY
 m_yY:mg "steps_between"=U (.ref t.a_yY)
 b_yY:ao K t.d_yY ["first", "end", "stride"] []
 F_yZ:Fun K "refuse_unless" "refuse_unless" dZ t.a_yZ t.d_yZ
 m_yZ:mg "refuse_unless"=U (.ref t.a_yZ)
 b_yZ:ao K t.d_yZ ["fits"] []
 F_zm:Fun K "refuse_axis" "refuse_axis" fK t.a_zm t.d_zm
 m_zm:mg "refuse_axis"=U (.ref t.a_zm)
 b_zm:ao K t.d_zm ["sizes", "axis"] []
 F_GV:Fun K "replaced" "replaced" ke t.a_GV t.d_GV
 m_GV:mg "replaced"=U (.ref t.a_GV)
 b_GV:ao K t.d_GV ["row", "axis", "told"] []
 F_vM:Fun K "place_one_along" "place_one_along" bN t.a_vM t.d_vM
 m_vM:mg "place_one_along"=U (.ref t.a_vM)
 b_vM:ao K t.d_vM ["many", "axis"] []
 F_zo:Fun K "behind" "Move.behind" jD t.a_zo t.d_zo
 b_zo:ao K t.d_zo ["self", "sizes"] []
 F_DA:Fun K "ahead" "Move.ahead" kO t.a_DA t.d_DA
 b_DA:ao K t.d_DA ["self", "sizes", "place"] []
 F_za:Fun K "sizes_of" "Move.sizes_of" cC t.a_za t.d_za
 b_za:ao K t.d_za ["self", "sizes"] []
 F_G0:Fun K "on" "Move.on" mF t.a_G0 t.d_G0
 b_G0:ao K t.d_G0 ["self", "view"] []
 F_DQ:Fun K "told" "Move.told" mR t.a_DQ t.d_DQ
 b_DQ:ao K t.d_DQ ["self"] []
 F_yS:M0 K "__init__" "Slice.__init__" bp t.a_yS t.d_yS
 b_yS:ao K t.d_yS ["self", "axis", "start", "stop", "step"] []
 b_Slice___init___2:ao K t.d_yS ["self", "axis", "start", "stop", "step"] [É,É,É]
 b_Slice___init___3:ao K t.d_yS ["self", "axis", "start", "stop", "step"] [É,É]
 b_Slice___init___4:ao K t.d_yS ["self", "axis", "start", "stop", "step"] [É]
 F_zp:Fun K "taken" "Slice.taken" fL t.a_zp t.d_zp
 b_zp:ao K t.d_zp ["self", "sizes"] []
 F_zh:Fun K "behind" "Slice.behind" eS t.a_zh t.d_zh
 b_zh:ao K t.d_zh ["self", "sizes"] []
 F_zq:Fun K "ahead" "Slice.ahead" fM t.a_zq t.d_zq
 b_zq:ao K t.d_zq ["self", "sizes", "place"] []
 F_DB:Fun K "told" "Slice.told" kM t.a_DB t.d_DB
 b_DB:ao K t.d_DB ["self"] []
 F_zb:Fun K "__init__" "Pick.__init__" ei t.a_zb t.d_zb
 b_zb:ao K t.d_zb ["self", "axis", "at"] []
 F_zr:Fun K "picked" "Pick.picked" fN t.a_zr t.d_zr
 b_zr:ao K t.d_zr ["self", "sizes"] []
 F_Dp:Fun K "behind" "Pick.behind" fO t.a_Dp t.d_Dp
 b_Dp:ao K t.d_Dp ["self", "sizes"] []
 F_DC:Fun K "ahead" "Pick.ahead" gI t.a_DC t.d_DC
 b_DC:ao K t.d_DC ["self", "sizes", "place"] []
 F_DR:Fun K "told" "Pick.told" mQ t.a_DR t.d_DR
 b_DR:ao K t.d_DR ["self"] []
 F_zc:Fun K "__init__" "Turn.__init__" eg t.a_zc t.d_zc
 b_zc:ao K t.d_zc ["self", "order"] []
 F_Dq:Fun K "behind" "Turn.behind" dE t.a_Dq t.d_Dq
 b_Dq:ao K t.d_Dq ["self", "sizes"] []
 F_DD:Fun K "ahead" "Turn.ahead" gH t.a_DD t.d_DD
 b_DD:ao K t.d_DD ["self", "sizes", "place"] []
 F_DS:Fun K "told" "Turn.told" mP t.a_DS t.d_DS
 b_DS:ao K t.d_DS ["self"] []
 F_vN:Fun K "__init__" "Spread.__init__" cP t.a_vN t.d_vN
 b_vN:ao K t.d_vN ["self", "axis", "size"] []
 F_zd:Fun K "behind" "Spread.behind" eh t.a_zd t.d_zd
 b_zd:ao K t.d_zd ["self", "sizes"] []
 F_zi:Fun K "ahead" "Spread.ahead" eR t.a_zi t.d_zi
 b_zi:ao K t.d_zi ["self", "sizes", "place"] []
 F_Dr:Fun K "told" "Spread.told" jC t.a_Dr t.d_Dr
 b_Dr:ao K t.d_Dr ["self"] []
 F_DT:Fun K "_law_draw" "_law_draw" iV t.a_DT t.d_DT
 m_DT:mg "_law_draw"=U (.ref t.a_DT)
 b_DT:ao K t.d_DT ["_law_script", "_law_k", "_law_many"] []
 F_GI:Fun K "_law_like" "_law_like" iU t.a_GI t.d_GI
 m_GI:mg "_law_like"=U (.ref t.a_GI)
 b_GI:ao K t.d_GI ["_law_cell", "_law_room", "_law_sizes"] []
 F_DE:Fun K "_law_parts" "_law_parts" gA t.a_DE t.d_DE
 m_DE:mg "_law_parts"=U (.ref t.a_DE)
 b_DE:ao K t.d_DE ["_law_cell", "_law_room"] []
 F_DF:Fun K "_law_cells" "_law_cells" gC t.a_DF t.d_DF
 m_DF:mg "_law_cells"=U (.ref t.a_DF)
 b_DF:ao K t.d_DF ["_law_parts_here"] []
 F_GJ:Fun K "_law_view" "_law_view" iS t.a_GJ t.d_GJ
 m_GJ:mg "_law_view"=U (.ref t.a_GJ)
 b_GJ:ao K t.d_GJ ["_law_parts_here"] []
 F_GK:Fun K "_law_name" "_law_name" fz t.a_GK t.d_GK
 m_GK:mg "_law_name"=U (.ref t.a_GK)
 b_GK:ao K t.d_GK ["_law_script", "_law_k"] []
 F_zj:Fun K "_law_is_name" "_law_is_name" bS t.a_zj t.d_zj
 m_zj:mg "_law_is_name"=U (.ref t.a_zj)
 b_zj:ao K t.d_zj ["_law_name_here"] []
 F_yT:Fun K "_law_is_called" "_law_is_called" bV t.a_yT t.d_yT
 m_yT:mg "_law_is_called"=U (.ref t.a_yT)
 b_yT:ao K t.d_yT ["_law_name_here", "_law_state"] []
 F_GL:Fun K "_law_move" "_law_move" iT t.a_GL t.d_GL
 m_GL:mg "_law_move"=U (.ref t.a_GL)
 b_GL:ao K t.d_GL ["_law_parts_here", "_law_cell"] []
 F_DG:Fun K "_law_count" "_law_count" gB t.a_DG t.d_DG
 m_DG:mg "_law_count"=U (.ref t.a_DG)
 b_DG:ao K t.d_DG ["_law_parts_here"] []
 F_yU:Fun K "_law_named_due" "_law_named_due" dt t.a_yU t.d_yU
 m_yU:mg "_law_named_due"=U (.ref t.a_yU)
 b_yU:ao K t.d_yU ["_law_name_here", "_law_state"] []
 F_DH:Fun K "_law_asked" "_law_asked" gE t.a_DH t.d_DH
 m_DH:mg "_law_asked"=U (.ref t.a_DH)
 b_DH:ao K t.d_DH ["_law_which", "_law_hall", "_law_name_here", "_law_thing", "_law_move_here"] []
 F_GN:Fun K "_law_call" "_law_call" iW t.a_GN t.d_GN
 m_GN:mg "_law_call"=U (.ref t.a_GN)
 b_GN:ao K t.d_GN ["_law_script", "_law_k", "_law_hall", "_law_state", "_law_room"] []
 F_GO:Fun K "_law_make" "_law_make" fA t.a_GO t.d_GO
 m_GO:mg "_law_make"=U (.ref t.a_GO)
 b_GO:ao K t.d_GO ["_law_script", "_law_k", "_law_hall", "_law_state"] []
 F_G3:Fun K "_law_of" "_law_of" gv t.a_G3 t.d_G3
 m_G3:mg "_law_of"=U (.ref t.a_G3)
 b_G3:ao K t.d_G3 ["_law_script", "_law_k", "_law_hall", "_law_state", "_law_values"] []
 F_law:Fun K "law" "law" j1 t.a_law t.d_law
 m_law:mg "law"=U (.ref t.a_law)
 b_law:ao K t.d_law ["_law_script"] []
 z_ValueError:mg "ValueError"=Y
 z_abs:mg "abs"=Y
 z_all:mg "all"=Y
 z_bool:mg "bool"=Y
 z_enumerate:mg "enumerate"=Y
 z_int:mg "int"=Y
 z_isinstance:mg "isinstance"=Y
 z_len:mg "len"=Y
 z_list:mg "list"=Y
 z_max:mg "max"=Y
 z_min:mg "min"=Y
 z_range:mg "range"=Y
 z_sorted:mg "sorted"=Y
 z_str:mg "str"=Y
 z_sum:mg "sum"=Y
 z_tuple:mg "tuple"=Y
 z_zip:mg "zip"=Y
variable {xs:G V}
def Tx.is_View(T:Tx K mg t):IsC K t.a_aa0:={(T.qA1),T.qB3,T.ocs,T.oct,T.qB4}
local macro_rules | `(tactic| trivial) => `(tactic| first | exact Or.inl rfl | exact Or.inr rfl | exact Or.inr (Or.inl rfl) | exact Or.inr (Or.inr rfl) | assumption)
local macro_rules | `(tactic| simp! only [$xs,*]) => do
  let ys := xs.getElems.map λ x => (⟨x.raw⟩ : Lean.TSyntax `Lean.Parser.Tactic.simpLemma)
  let zs ← ("!reduceIte !mH !Mx !Mw !Mu !Mt !Ms !Mr !Mq !Mp !Mo !Mn !Hu !Ja !NM !NK !Tu !Sw !Si !yD !vD !yE !vE !yC !PM !Pa !Qg !Pg !SA !Sk !PX !nS !P8 !Pc !GD !LS !La !Dn !Dm !Dl !Dk !Dj !Lc !SK !Sm !K7 !O7 !O9 !LR !K8 !Jb !bw !Qe !Pf !SF !PR !Po !Lh !PU !SE !So !Pt !Pm !Pl !yG !vG !tU !vF !yF !Dh !Dg !Df !De !Dd !Dc !CW !CU !CT !CQ !CL !CK !CJ !CP !CN !CO !CM !CI !CH !CG !CZ !CY !Qd !SM !Sn !Qc !Pe !Qf !Cz !LB !PJ !Lg !Gy !Gz !Qk !SG !Sq !cn !Pd !Sx !L4 !Di !PY !Qj !Gp !PB !A5 !Gw !Gm !Lx !SN !NN !SH !SI !SJ !Pq !OV !Lb !Ly !K5 !Ql !yN !yO !yM !oF !oE !kl !qX !iF !GB !GC !P0 !eZ !jJ !qV !qW !qU !LK !PC !PD !PF !Sj !Cw !LD !K6 !Sy !Sz !Pj !Pn !UB !Lm !LG !Gs !PN !PQ !Py !SD !Sr !Lo !Lv !Pk !Qa !LZ !Pr !Ls !Lu !Sv !Qh !aT !aN !iL !Lf !Le !LN !LO !PZ !Px !Lw !Lz !LA !Li !yK !yJ !yI !yH !Gx !LH !Lk !LJ !CF !CD !CB !Ll !Sg !K3 !Pz !Cv !Sh !P9 !Lq !Gr !P7 !Gq !LP !LQ !Cy !P1 !P2 !L5 !Gu !LC !PK !O8 !Sl !P6 !K9 !P4 !P5 !Ld !IZ !O6 !O5 !O2 !O1 !O0 !OZ !OY !OX !OW !K4 !Su !UA !Uz !xl !BB !LY !Lr !LF !Lj !LV !LW !LX !Gv !L6 !GF !PL !Pu !PV !Ss !LU !Lp !LL !Ln !GA !Gn !CA !Qi !Pw mH dq aQ jg Ft Fs GG Fm zK ag Kg Ki Kh Of Kl Oh Km Kj Kk Fi Ho Mj Hn Hl UL tQ Fz HL S2 S1 SY iO iN HA dQ js cf aE fE gP MQ QE QD MP Option.isSome_some Option.isSome_none Option.map_some List.length_cons List.length_nil List.length_map List.map_cons List.map_nil and_true true_and and_self implies_true reduceCtorEq decide_true decide_false Bool.not_true Bool.not_false if_true if_false decide_eq_true_eq Bool.false_eq_true Bool.not_eq_true' decide_eq_false_iff_not Bool.and_true Bool.true_and Bool.and_self Bool.and_eq_true Int.reduceToNat Int.reducePow Int.reduceMul Int.reduceAdd Int.reduceSub Int.reduceNeg Int.reduceLT Int.reduceLE Int.reduceEq Int.reduceNe Int.reduceDiv Int.reduceMod Nat.reduceAdd Nat.reduceLeDiff Nat.reduceLT Nat.reduceMul Nat.reducePow gt_iff_lt ge_iff_le ne_eq false_implies true_implies eq_self String.reduceEq Int.cast_ofNat_Int not_true_eq_false not_false_eq_true false_and and_false List.cons_append List.nil_append List.append_nil NO".splitOn " ").toArray.mapM λ s => if s.startsWith "!" then `(Lean.Parser.Tactic.simpLemma| ↓ $(Lean.mkIdent (s.replace "!" "").toName):ident) else `(Lean.Parser.Tactic.simpLemma| $(Lean.mkIdent s.toName):ident)
  `(tactic| simp (config := { failIfUnchanged := false, maxDischargeDepth := 30, maxSteps := 10000000 }) only [$zs,*, $ys,*, *])
local macro_rules | `(%[$xs,*|$k:num]) => do
  let a := xs.getElems
  let s (i : Nat) : String := a[i]!.raw.getId.toString
  let I (n : String) : Lean.TSyntax `term := ⟨(Lean.mkIdent n.toName).raw⟩
  let b ← a.mapM λ x => match x.raw.isNatLit? with
    | some 99 => `(%[0|2])
    | some _ => `(%[$x|0])
    | none => pure x
  match k.getNat with
  | 84 => `($(a[0]!) (P := $(I "P")) (w := $(I "w")) (base := $(I "base")) $(I "T"))
  | 0 => `(@pvN _ $(a[0]!) _ _ (by rfl) (by trivial) (by decide) (by decide))
  | 1 => if a.size = 1 then `(@M6 _ _ _ _ _ $(b[0]!) (@eB _) (by rfl)) else `(@M6 _ _ _ _ _ $(b[0]!) $(a[1]!) (by rfl))
  | 2 => `(@gm _ _ _ _)
  | 7 => `(by trivial)
  | 8 => `(by omega)
  | 3 => `(@Bu _ _ _ _ _ _ _ _ _ _ _ _ _ _ _ _ _ $(I ("G_" ++ s 0)) ($(I "hr.mono") (by decide)) (by rfl) $(I ("T.m_" ++ s 0)) $(I ("T.F_" ++ s 0 ++ ".kp")) $(I ("T.b_" ++ s 0)) .nil av $(a[1]!) (by decide) (by rfl) (by rfl) (by rfl))
  | 4 => `(@l0 _ _ $(a[0]!) _ _ _ _ ($(a[1]!)).nd rfl (Or.inl rfl) $(b[2]!) (by rfl) (by trivial))
  | 5 => `(@Br _ _ $(a[0]!) _ ($(a[1]!)).nd rfl (Or.inl rfl) (by trivial))
  | 6 => `(@lL _ _ _ _ _ _ _ $(Lean.Syntax.mkStrLit (s 0)) _ $(a[1]!) (by rfl) $(I ("T.z_" ++ s 0)) (by decide +kernel) $(a[2]!) (by decide) (by decide) (by rfl) (by rfl))
  | 15 => `(@Bs _ _ _ _ _ $(b[0]!) J)
  | 16 => `(@Kz _ _ _ _ $(b[0]!) ∅)
  | 17 => `(@JK _ _ _ _ _ _ _ $(b[0]!) $(b[1]!) $(b[2]!) (λ _ _=>J))
  | 22 => `(@Ci _ _ _ _ _ $(b[0]!) $(b[1]!) ∅)
  | 26 => `(@Kx _ _ _ $(b[0]!) (by intros;rfl))
  | 27 => `(@KP _ _ _ _ _ _ _ _ _ _ _ $(b[0]!) $(b[1]!) $(b[2]!) $(b[3]!) $(b[4]!) $(b[5]!) $(b[6]!) (by intros;rfl))
  | 30 => `(@FH _ _ _ _ _ _ _ _ $(b[0]!) $(b[1]!) J)
  | 32 => `(@Cm _ _ _ _ _ _ _ _ _ $(b[0]!) ∅ $(b[1]!) nofun $(b[2]!) ⋯ ⋯ ∅ ∅)
  | 35 => `(@KO _ _ $(b[0]!) $(b[1]!) $(b[2]!) ∅ $(b[3]!) $(b[4]!) ⋯)
  | 39 => `(@OB _ _ _ _ _ $(b[0]!) $(b[1]!) ∅ ∅)
  | 41 => `(@NA _ _ _ _ _ _ _ _ _ _ _ _ $(b[0]!) $(b[1]!) $(b[2]!) $(b[3]!) $(b[4]!) $(b[5]!) ∅ ∅ ∅ ∅ ∅)
  | 43 => `(@Oy _ _ _ _ _ _ _ _ $(b[0]!) $(b[1]!) $(b[2]!) $(b[3]!) (by intros;rfl))
  | 76 => `(@yv _ _ _ _ _ _ _ _ _ _ _ _ _ _ _ _ $(b[0]!) $(b[1]!) $(b[2]!) $(b[3]!) $(b[4]!) ∅ ∅ ∅ ∅)
  | 77 => `(@FQ _ _ _ _ _ $(b[0]!) J $(b[1]!) J)
  | 79 => `(@Cg _ _ _ _ _ _ ∅ $(b[0]!) $(b[1]!) ∅)
  | 80 => `(@Cd _ _ _ _ _ _ _ _ _ _ _ _ _ _ _ $(b[0]!) ∅ $(b[1]!) $(b[2]!) $(b[3]!) $(b[4]!) $(b[5]!) $(b[6]!) $(b[7]!) ∅ ∅ ⋯)
  | 81 => `(@Cc _ _ _ _ _ _ _ _ _ _ _ _ jh $(b[0]!) $(b[1]!) $(b[2]!) $(b[3]!) ∅)
  | 82 => `(@Cj _ _ _ _ _ _ _ _ _ _ _ _ _ _ _ _ _ _ _ _ _ $(b[0]!) $(b[1]!) $(b[2]!) $(b[3]!) $(b[4]!) $(b[5]!) .nil $(b[6]!) $(b[7]!) ∅ ∅ ∅ ∅)
  | 51 => `(%[$(a[0]!),_,(show List.Nodup (($(a[1]!)) : List Str) from by decide +kernel),rfl,(Or.inl rfl),%[0|7]|21])
  | 201 => `(($(a[0]!)).binds (ps := $(a[1]!)) (λ _ _ _ _ _ _ => M7 (λ _ _ _ _ => rfl)))
  | 202 => `(($(a[0]!)).binds (ps := $(a[1]!)) (λ _ _ _ _ _ _ => Ru (λ _ _ _ _ _ => rfl)))
  | 203 => `(($(a[0]!)).binds (ps := $(a[1]!)) (λ _ _ _ _ _ _ => iy (λ _ _ => rfl)))
  | 204 => `(($(a[0]!)).binds (ps := $(a[1]!)) (λ _ _ _ _ _ _ => jc (λ _ => rfl)))
  | 205 => `(($(a[0]!)).binds (ps := $(a[1]!)) (λ _ _ _ _ _ _ => ue (λ _ _ _ => rfl)))
  | 45 => `(some (.ref $(a[0]!)))
  | 46 => `(some (.lst (List.map V.int $(a[0]!))))
  | 47 => `(some (.int $(a[0]!)))
  | 48 => `(List (Int × Int))
  | 49 => `(au $(I "P") $(I "w") $(I "K") $(I "mg") $(I "base") CX0 $(a[0]!) $(I ("t.a_" ++ s 1)) $(I ("t.d_" ++ s 1)))
  | 50 => do
    let J (n : String) : Lean.Ident := Lean.mkIdent n.toName
    if a[0]!.raw.isNatLit? == some 1 then `(fun $(J "c"):ident $(J "A"):ident $(J "o"):ident $(J "s'"):ident $(J "H"):ident $(J "vs"):ident $(J "Q"):ident $(J "E"):ident $(J "hr"):ident $(J "h"):ident => ?_) else `(fun $(J "c"):ident $(J "A"):ident $(J "o"):ident $(J "s"):ident $(J "H"):ident $(J "vs"):ident $(J "Q"):ident $(J "E"):ident $(J "hr"):ident $(J "h"):ident => ?_)
  | 53 => do
    let vs ← match a[1]! with | `([$v,*]) => pure v.getElems | _ => pure #[]
    let ws ← vs.mapM λ x => `(some ($x))
    let ns ← (List.replicate (a[2]!.raw.isNatLit?.getD 0) 0).toArray.mapM λ _ => `(none)
    let us := ws ++ ns
    `(show start $(a[0]!) $(a[1]!) = [$us,*] from rfl)
  | 60 => `(%[$(a[0]!),$(I ("T." ++ s 1)),$(I ("T." ++ s 2)),$(I ("G_" ++ s 3)),($(I "hr.mono") (by decide)),$(I ("T.b_" ++ s 3)),.nil,$(a[4]!),$(a[5]!),(by rfl),(by rfl),(by rfl),(by rfl)|18])
  | 61 => `(%[$(a[0]!),$(I ("T." ++ s 1)),$(I ("T." ++ s 2)),$(I ("G_" ++ s 3)),($(I "hr.mono") (by decide)),$(I ("T.b_" ++ s 3)),.nil,$(a[4]!),(by rfl),(by rfl)|31])
  | 62 => `(%[$(I ("T." ++ s 0)),$(I ("G_" ++ s 1)),($(I "hr.mono") (by decide)),(by rfl),$(I ("T." ++ s 2)),$(I ("T.b_" ++ s 1)),.nil,$(a[3]!),$(a[4]!),(by decide),(by rfl),(by rfl),(by rfl)|42])
  | 68 => `(%[$(I ("G_" ++ s 0)),($(I "hr.mono") (by decide)),(by rfl),$(I ("T.m_" ++ s 0)),$(I ("T.F_" ++ s 0 ++ ".kp")),$(I ("T.b_" ++ s 0)),.nil,$(a[1]!),$(a[2]!),(by decide),(by rfl),(by rfl),(by rfl)|83])
  | 63 => do
    let n := a[0]!.raw.isNatLit?.getD 0
    let k := a[1]!.raw.isNatLit?.getD 0
    let rs ← (List.replicate k 0).toArray.mapM λ _ => `(rfl)
    let mut r ← if k = 1 then `(λ h => by cases h; exact rfl) else `(λ h => by cases h; exact ⟨$rs,*⟩)
    for _ in List.replicate n 0 do
      r ← `(λ _ => $r)
    return r
  | 70 => do
    let l ← match a[2]!.raw.isNatLit?.getD 0 with
      | 1 => `(jW)
      | 2 => `(fT)
      | 3 => `(ud)
      | 4 => `(EL)
      | _ => Lean.Macro.throwUnsupported
    let n := a[2]!.raw.isNatLit?.getD 0
    let mut r ← `(rfl)
    for _ in List.replicate n 0 do r ← `(λ _ => $r)
    `($(I ("T.F_" ++ s 0 ++ ".ok")) $(a[1]!) (λ _ _ _ _ h => $l h $r) %[0|50])
  | 72 => `(λ _ _ _ _ _ => $(a[0]!))
  | k => do
    let z (w : String) := ((w.splitOn ";").map (·.splitOn " ")).find? (·.head! == toString k)
    if let some r := z "9 jr 5 b;10 pj 3 b;11 gf 8 b;12 AZ 4 b;13 FF 8 b;14 JJ 8 b;18 FO 21 a;19 KJ 5 b;20 aH 3 a;21 Br 2 a;23 KL 4 b;24 aZ 2 a;25 Ox 4 b;28 Oz 4 b;29 KQ 8 b;31 Ck 18 a;33 fq 3 a;34 KC 3 b;36 R4 7 b;37 FN 10 b;38 KR 7 b;40 Ou 4 b;42 FP 18 a;44 FT 8 b;75 OD 5 b;78 Ov 7 b;83 Bu 17 a" then
      let us ← (List.replicate r[2]!.toNat! 0).toArray.mapM λ _ => `(_)
      let xs := us ++ if r[3]! == "b" then b else a
      return ← `(@$(Lean.mkIdent r[1]!.toName):ident $xs*)
    let some r := z "100 _law_script _law_room _law_values _law_handed _law_hall _law_beside _law_state _law_k _law_way _law_found;101 _law_row _law_script _law_room _law_values _law_handed _law_hall _law_beside _law_state _law_k _law_way _law_found;102 self name;103 self sizes;104 self name of move;105 _law_script _law_k _law_hall _law_state _law_values _law_name_here _law_which _law_word _law_found _law_row;106 self name view;107 _law_row _law_script _law_k _law_hall _law_state _law_values _law_name_here _law_which _law_word _law_found !_law_row;108 _law_cell _law_script _law_k _law_hall _law_state _law_values _law_name_here _law_which _law_word _law_found _law_row;109 _law_value _law_script _law_room _law_values _law_handed _law_hall _law_beside _law_state _law_k _law_way _law_found;110 _law_row _law_script _law_k _law_hall _law_state _law_name_here _law_of_here _law_due _law_move_here _law_parts_here;111 _law_j _law_script _law_room _law_values _law_handed _law_hall _law_beside _law_state _law_k _law_way _law_found;112 size pace self;113 self sizes place;114 _law_script _law_k _law_hall _law_state _law_name_here _law_of_here _law_due _law_move_here _law_parts_here;115 self view;116 _law_name_here _law_state;117 self axis start stop step;118 _law_j _law_script _law_k _law_letters _law_word _law_cell _law_at;119 self view sizes found many first axes axis size pace;120 size start stop step stride low high first end many;121 _law_script _law_k _law_letters _law_word _law_cell _law_at;122 _law_which _law_hall _law_name_here _law_thing _law_move_here;123 _law_name_here;124 row axis told;125 _law_script _law_k _law_hall _law_state _law_values;126 _law_parts_here;127 self room first axes;128 _law_script _law_k _law_hall _law_state _law_room;129 _law_sign _law_name_here;130 number size sizes thing;131 self values;132 number pace self place;133 number cells size pace found cell;134 _law_script _law_k _law_hall _law_state" | Lean.Macro.throwUnsupported
    let ys : Array Lean.Term := (r.drop 1).toArray.map λ x => ⟨(Lean.Syntax.mkStrLit x).raw⟩
    `([$ys,*])
local macro_rules | `(∅) => `(by rfl)
local macro_rules | `(⋯) => `(by decide)
local macro_rules | `(tactic| ac_rfl) => `(tactic| simp! only [and_true])
local macro_rules | `(tactic| exists $xs,*) => do
  let a := xs.getElems
  let e := a.back!
  let mut r ← `(tactic| skip)
  for x in a.pop do
    let i : Lean.Ident := ⟨x.raw⟩
    r ← `(tactic| ($r; replace $i := λ (_ : Unit) => ($i ()).ext $e))
  return r
local macro_rules | `(tactic| exists $x:ident) => `(tactic| replace $x := λ (_ : Unit) => $x)
local macro_rules | `(tactic| intros $x:ident $xs*) => do
  let ys := #[x.raw] ++ xs.map (·.raw)
  let mut r ← `(tactic| skip)
  for i in List.range (ys.size / 2) do
    let g : Lean.Ident := Lean.mkIdent ("G_" ++ ys[2*i]!.getId.toString).toName
    let o : Lean.Term := ⟨ys[2*i+1]!⟩
    r ← `(tactic| ($r; have $g:ident := %[$o|84]))
  return r
section
variable {K:PySem.W.Frag}
def AK(K:Å)(a:Z)(ns:G B):Sp:=λ vs H Q E=>∃ (k:B) (m:B),vs=[.ref a,.int k,.int m]/\(SqL K H a (ns.map V.int)/\ns.length<=63/\(0<=k/\k<1000)/\0<m/\∀ z:B,0<=z->z<m->Q (.int z) H)
theorem dD(K:Å)(a:Z)(ns:G B)(k:B)(m:B)(H:Hp)(Q:VK)(E:XK):AK K a ns [.ref a,.int k,.int m] H Q E=(SqL K H a (ns.map V.int)/\ns.length<=63/\(0<=k/\k<1000)/\0<m/\∀ z:B,0<=z->z<m->Q (.int z) H):=jb (f:=λ (k:B) (m:B)=>[.ref a,.int k,.int m]) %[4,2|63] k m
theorem dg(T:Tx K mg t)(a:Z)(ns:G B):%[1,DT|49] ["_law_script", "_law_k", "_law_many"] (AK K a ns):=by
 refine %[DT,fG,2|70]
 ·let(k,m,rfl,hS,hl,(a3,a4),hm,kk):=h;let fin:∀ z:B,Q (.int (z % m)) H:=λ z=>kk _ (Wo _ %[|8]) (Wl _ hm)
  refine{_,(jr (JJ (u3 NB (pv 1) (lL (id := "len") eL ∅ T.z_len nofun (M6 (pv 0) eB)) (ai _))
   (pj (AZ (gf l9 (JK u6 (pv 0) (pv 1) (λ _ _=>J)) (pv 2))))
   aj)
  (jr (l0 (i:=3) fG.nd J (Or.inl J) (gf wF (gf kK (gf kK (pv 1) (pv 1)) gm) gm))
  (jr (JJ (u3 NC (lL (id := "len") eL ∅ T.z_len nofun (M6 (pv 0) eB)) gm (ai _))
   (jr (l0 (i:=3) fG.nd J (Or.inl J) (gf l9 (JK u6 (pv 0) (gf l9 (pv 1) (lL (id := "len") eL ∅ T.z_len nofun (M6 (pv 0) eB))) (λ _ _=>J)) gm))
   (pj (l0 (i:=3) fG.nd J (Or.inl J) (gf wF (gf kK (pv 3) (gf wF gm (gf kK (gf kK gm (pv 1)) (pv 1)))) (gf kK (pv 1) gm)))))
   aj)
  (pj (AZ (gf l9 (gf l9 (gf kK (gf l9 (pv 3) gm) gm) gm) (pv 2))))))),?_}
  refine{_,J,_,J,a,_,J,.inl hS,_,_,J,J,_,J,?_};refine TU (λ h=>?_) (λ h=>?_)
  ·let h1:k<(ns.length:B):=by simpa using h
   let(z,hz,_):=xG ns k a3 h1;exact{_,J,_,J,a,_,k,_,J,J,hS,hz,_,J,_,_,J,J,hm,fin _}
  ·refine{_,J,_,J,_,_,J,J,.inl {by omega,by omega},_,_,J,J,.inr {by decide,by decide},_,_,J,J,?_};refine{_,J,a,_,J,.inl hS,_,_,J,J,_,J,?_};refine TU (λ h2=>?_) (λ h2=>?_)
   ·let h3:0<(ns.length:B):=by simpa using h2
    let h4:(0:B)<((ns.map V.int).length:B):=by simpa using h3
    let(z,hz,_):=xG ns (k % ((ns.map V.int).length:B)) (Wo _ %[|8]) (by have:=Wl k h4;simpa using this);refine{_,J,_,J,_,J,a,_,J,.inl hS,_,_,J,J,h4,a,_,_,_,J,J,hS,hz,_,_,J,J,(by first|decide|(show (0:B)<_;decide)),?_};refine{_,J,_,J,_,_,J,J,.inl {by decide,by decide},_,J,_,_,J,J,.inr {by omega,by omega},_,_,J,J,_,_,J,J,?_,?_}
    ·refine .inl {?_,?_}
     ·have:=Wo z (show (999999937:B)≠0 by decide);omega
     ·have:=Wl z (show (0:B)<999999937 by decide);omega
    refine{_,J,_,_,J,J,.inr {by decide,by decide},_,_,J,J,?_};exact{_,J,_,_,J,J,(by first|decide|(show (0:B)<_;decide)),_,_,J,J,.inr {by decide,by decide},_,_,J,J,(by first|decide|(show (0:B)<_;decide)),_,J,_,_,J,J,hm,fin _}
   ·exact{_,J,_,_,J,J,(by first|decide|(show (0:B)<_;decide)),_,_,J,J,.inr {by decide,by decide},_,_,J,J,(by first|decide|(show (0:B)<_;decide)),_,J,_,_,J,J,hm,fin _}
def uz  : Sp:=λ vs H Q E=>∃ (x:V),vs=[x]/\(aM (isW H x) (kE4 H Q))
theorem bR  (x:V) (H:Hp) (Q:VK) (E:XK):uz  [x] H Q E=(aM (isW H x) (kE4 H Q)):=jV (f:=λ (x:V)=>[x]) %[2,1|63] x
theorem fC(T:Tx K mg t):yj P w K mg base CX0 1 t.a_GQ t.d_GQ ["thing"] uz:=by
 refine %[GQ,zH,1|70]
 ·let(x,rfl,h):=h;let(b,hb,k):=aq h;clear h;rw[NN] at k;refine{_,%[%[%[%[isinstance,bF,%[0,%[(@dn _ _ (.ty "int") (.type "int") _ ∅ T.z_int nofun J ⋯ ⋯)|1]|1]|6],%[(@KN _ _ _ _ %[isinstance,bF,%[0,%[(@dn _ _ (.ty "bool") (.type "bool") _ ∅ T.z_bool nofun J ⋯ ⋯)|1]|1]|6])|75]|38]|12]|10],?_};rw[%[["thing"],[x],0|53]]
  cases x with
  | int i=>cases hb;ac_rfl
  | bl i=>cases hb;ac_rfl
  | non=>cases hb;ac_rfl
  | str i=>cases hb;ac_rfl
  | ref p=>
   let(rfl,o,ho,ht):=pz hb
   rcases ht with ht|ht|ht<;>ac_rfl
  | _=>cases hb
def kSz(F:G B->Prop):G B->Prop:=λ ns=>o9 ns/\F ns
def NL(F:G B->Prop)(ns:G B):kSz F ns=(o9 ns/\F ns):=rfl
def RM(H:Hp)(Q:VK):G B->Prop:=λ ns=>Q (.int (aw ns)) H
def Iu(H:Hp)(Q:VK)(ns:G B):RM H Q ns=Q (.int (aw ns)) H:=rfl
def uV  : Sp:=λ vs H Q E=>∃ (p:Z),vs=[.ref p]/\(aM (aQ H p) (ur (kSz (RM H Q))))
theorem EC  (p:Z) (H:Hp) (Q:VK) (E:XK):uV  [.ref p] H Q E=(aM (aQ H p) (ur (kSz (RM H Q)))):=jV (f:=λ (p:Z)=>[.ref p]) %[2,1|63] p
theorem vp(T:Tx K mg t):yj P w K mg base CX0 1 t.a_GR t.d_GR ["sizes"] uV:=by
 refine %[GR,ir,1|70]
 ·let(p,rfl,h):=h;let(xs,hp,ns,rfl,hs,k):=aq h;replace hp:=cI hp;rw[Iu] at k;refine{_,%[%[1,ir,99|4],%[%[V2,%[0|28],%[2,ir|5],%[%[1,ir,%[Bw,1,2|11]|4]|10]|43],%[%[1|12]|10]|9]|9],?_};rw[%[["sizes", "count", "size"],[.ref p],2|53]];ac_rfl;refine iM (xs:=ns.map V.int) (λ i σ H'=>∃ v:Ü V,σ=[%[p|45],U (.int (aw (ns.take i))),v]/\H'=H) ⟨_,J,J⟩ (λ i σ H' _ ⟨_,_,e⟩=>by subst e;exact hp) ?_ ?_
  ·rintro i x _ _ hi ⟨v,rfl,rfl⟩;rw[Vd] at hi;let(z,hz,rfl):=Vf.mp hi;let e:=hV ns i z hz;let b1:=(hs.take i).prod;let b2:=hs.2 z (Vx hz)
   let c1:(aw (ns.take i)).natAbs<2 ^ 256:=by
    generalize aw (ns.take i)=y at b1;have:(1000000000:B) ^ 8<2 ^ 256:=by decide
    omega
   let c2:z.natAbs<2 ^ 256:=by omega
   clear b1 b2;simp! only[↓cn,xK];exact{_,J}
  ·rintro _ _ ⟨v,rfl,rfl⟩;rw[U2,Wy];ac_rfl
def pG  : Sp:=λ vs H Q E=>∃ (i:B) (lo:B) (hi:B),vs=[.int i,.int lo,.int hi]/\(Q (.bl (decide (lo<=i) && decide (i<=hi))) H)
theorem oJ  (i:B) (lo:B) (hi:B) (H:Hp) (Q:VK) (E:XK):pG  [.int i,.int lo,.int hi] H Q E=(Q (.bl (decide (lo<=i) && decide (i<=hi))) H):=EK (f:=λ (i:B) (lo:B) (hi:B)=>[.int i,.int lo,.int hi]) %[6,3|63] i lo hi
theorem kR(T:Tx K mg t):%[2,DI|49] ["thing", "low", "high"] pG:=by
 intros GQ fC;refine %[DI,vZ,3|70]
 ·let(i,lo,hi,rfl,k):=h;refine{_,%[%[%[%[GQ,%[0|1]|3],%[(@rT _ _ _ _ _ _ _ _ _ _ _ _ jh jh %[1|0] %[0|0] %[2|0] ∅)|75]|38]|12]|10],?_};rw[%[["thing", "low", "high"],[.int i,.int lo,.int hi],0|53]]
  by_cases h0:lo<=i
  ·rw[Vi h0,Bool.true_and] at k;simp! only[↓bR]
  ·rw[VE h0,Xp] at k;simp! only[↓bR]
def AA  : Sp:=λ vs H Q E=>∃ (i:B),vs=[.int i]/\(Q (.bl (decide (1<=i) && decide (i<=1000000000))) H)
theorem qm  (i:B) (H:Hp) (Q:VK) (E:XK):AA  [.int i] H Q E=(Q (.bl (decide (1<=i) && decide (i<=1000000000))) H):=jV (f:=λ (i:B)=>[.int i]) %[2,1|63] i
theorem ki(T:Tx K mg t):%[3,GW|49] ["thing"] AA:=by
 intros DI kR;refine %[GW,EE,1|70]
 ·let(i,rfl,k):=h;refine{_,%[%[%[DI,%[0,%[99,%[%[(.int 1000000000),_,_,T.m_MOST_SIZE.choose_spec,{_,J}|35]|1]|1]|1]|3]|12]|10],?_};rw[%[["thing"],[.int i],0|53]];simp! only[↓oJ]
abbrev xZ  (p:Z) (H:Hp) (Q:VK) (E:XK):Prop:=∃ a:B × B,H p=U (.tup [.int a.1,.int a.2])/\1<=a.1/\a.1<=1000000000/\Q (.bl L) H
def AM  : Sp:=λ vs H Q E=>∃ (p:Z),vs=[.ref p]/\(xZ  p H Q E)
theorem HW  (p:Z) (H:Hp) (Q:VK) (E:XK):AM  [.ref p] H Q E=(xZ  p H Q E):=jV (f:=λ (p:Z)=>[.ref p]) %[2,1|63] p
theorem yx(T:Tx K mg t):%[4,GX|49] ["thing"] AM:=by
 intros GW ki GQ fC;refine %[GX,EF,1|70]
 ·let(p,rfl,a,hp,h1,h2,k):=h;refine{_,%[%[%[%[isinstance,bF,%[0,%[(@dn _ _ (.ty "tuple") (.type "tuple") _ ∅ T.z_tuple nofun J ⋯ ⋯)|1]|1]|6],%[%[(aO hr.units),%[len,aA,%[0|1]|6],99,(ai _)|29],%[%[GW,%[%[eA,0,99|17]|1]|3],%[%[GQ,%[%[eA,0,99|17]|1]|3]|75]|38]|38]|38]|12]|10],?_};rw[%[["thing"],[.ref p],0|53]];simp! only[↓qm,↓bR]
abbrev xU  (p:Z) (H:Hp) (Q:VK) (E:XK):Prop:=∃ a:B × B,H p=U (.tup [.int a.1,.int a.2])/\∀ (r:Z) (H':Hp),H r=Y->Ext H H'->H' r=U (.tup [.int (bE a).1,.int (bE a).2])->Q (.ref r) H'
def AG  : Sp:=λ vs H Q E=>∃ (p:Z),vs=[.ref p]/\(xU  p H Q E)
theorem HU  (p:Z) (H:Hp) (Q:VK) (E:XK):AG  [.ref p] H Q E=(xU  p H Q E):=jV (f:=λ (p:Z)=>[.ref p]) %[2,1|63] p
theorem tH(T:Tx K mg t):%[1,DJ|49] ["axis"] AG:=by
 refine %[DJ,vY,1|70]
 ·let(p,rfl,a,hp,k):=h;refine{_,%[%[%[%[%[eA,0,99|17],%[%[%[iI,%[eA,0,99|17],99,(ai _)|13],%[eA,0,99|17],99|44]|1]|1]|19]|12]|10],?_};rw[%[["axis"],[.ref p],0|53]];let e1:(bE a).1=a.1:=rfl
  by_cases h1:1<a.1
  ·let e2:(bE a).2=a.2:=Ve h1;rw[e1,e2] at k;ac_rfl;exact λ r H' h e h'=>k r H' h e h'
  ·let e2:(bE a).2=0:=U7 h1;rw[e1,e2] at k;ac_rfl;exact λ r H' h e h'=>k r H' h e h'
abbrev x3  (p:Z) (H:Hp) (Q:VK) (E:XK):Prop:=∃ axs:%[|48],bM H p (axL axs)/\iA axs/\∀ H',Ext H H'->Q (.bl L) H'
def AN  : Sp:=λ vs H Q E=>∃ (p:Z),vs=[.ref p]/\(x3  p H Q E)
theorem HX  (p:Z) (H:Hp) (Q:VK) (E:XK):AN  [.ref p] H Q E=(x3  p H Q E):=jV (f:=λ (p:Z)=>[.ref p]) %[2,1|63] p
theorem vq(T:Tx K mg t):%[5,GU|49] ["thing"] AN:=by
 intros GX yx;refine %[GU,zJ,1|70]
 ·let(p,rfl,axs,(ys,hp,al),ha,k):=h;refine{_,%[%[%[%[isinstance,bF,%[0,%[(@dn _ _ (.ty "list") (.type "list") _ ∅ T.z_list nofun J ⋯ ⋯)|1]|1]|6],%[%[jh,%[len,aA,%[0|1]|6],%[(.int 8),_,_,T.m_MOST_AXES.choose_spec,{_,J}|35],(ai _)|29],%[%[all,dR,%[%[(["axis", "thing"]),(1),(aP (aa hG) ["thing"] J J nofun),%[0|28],%[%[(0),["axis", "thing"]|51]|72],%[(@aY _)|72],%[%[GX,%[0|1]|3]|72]|27]|1]|6]|75]|38]|38]|12]|10],?_};rw[%[["thing"],[.ref p],0|53]];let hl:ys.length=axs.length:=by rw[al.1];unfold axL;rw[length_map]
  let a9:(axs.length:B)<=8:=by have:=ha.1;omega
  ac_rfl;refine bb ys (λ _=>L) (λ _=>.bl L) (λ z x H'=>x=z/\H' p=U (.lst ys)) (iB hp).1 (iB hp).2 (ak %[|8]) ?_ ?_
  ·intro D z x H' N1 N0 hz hD e ⟨hx,_⟩ k1 _;subst hx;let(i,hi,rfl):=WN hz;let a3:i<axs.length:=by rw[←hl];exact hi
   let(q,a5,a6):=al.2 i [axs[i].1,axs[i].2] ys[i] (by unfold axL;rw[getElem?_map,getElem?_eq_getElem a3];rfl) (getElem?_eq_getElem hi);let hb:=ha.2 _ (getElem_mem a3);let a7:=k1 rfl H' (Ext.refl _);let a8:=e.at a6;rw[a5];clear k1 k hp al;simp! only[↓aN,↓aT];rw[HW];exact⟨axs[i],a8,hb.1,hb.2,a7⟩
  ·intro D H' hD e a4;let b1:H' D=U (.lst ((ys.map λ _=>L).map V.bl)):=by rw[a4,lT,V1];rfl
   let e2:((ys.map λ _=>L).all id)=L:=by rw[List.all_map];simp
   let k2:=k H' e;clear k a4;ac_rfl
theorem vP{zs:G (G B)}(al:Al (og H) zs ys)(h:ys[i]? = U y):∃ z,zs[i]? = U z/\og H z y:=by
 let hi:i<ys.length:=(U1.mp h).1;have hz:zs[i]? = U (zs[i]'(by rw[←al.1];exact hi)):=U4 _;exact{_,hz,al.2 i _ y hz h}
def A9(x:V)(b:B)(H:Hp)(Q:VK):Ý->Prop:=λ _=>Q (.bl (fW x b)) H
def jn(x:V)(b:B)(H:Hp)(Q:VK)(c:Ý):A9 x b H Q c=Q (.bl (fW x b)) H:=rfl
def uX  : Sp:=λ vs H Q E=>∃ (x:V) (b:B),vs=[x,.int b]/\(aM (isW H x) (A9 x b H Q))
theorem jA  (x:V) (b:B) (H:Hp) (Q:VK) (E:XK):uX  [x,.int b] H Q E=(aM (isW H x) (A9 x b H Q)):=jb (f:=λ (x:V) (b:B)=>[x,.int b]) %[4,2|63] x b
theorem bJ(T:Tx K mg t):yj P w K mg base CX0 2 t.a_vJ t.d_vJ ["thing", "bound"] uX:=by
 intros GQ fC;refine %[vJ,kA,2|70]
 ·let(x,b,rfl,h):=h;let(c,hw,k):=aq h;rw[jn] at k;refine{_,%[%[%[%[GQ,%[0|1]|3],%[(@rT _ _ _ _ _ _ _ _ _ _ _ _ jh o7 %[|2] %[0|0] %[1|0] ∅)|75]|38]|12]|10],?_};rw[%[["thing", "bound"],[x,.int b],0|53]]
  cases x with
  | int i=>
   cases hw;let k':Q (.bl (decide (0<=i) && decide (i<b))) H:=k;clear k h
   by_cases h0:0<=i
   ·rw[Vi h0,Bool.true_and] at k';simp! only[↓bR]
   ·rw[VE h0,Xp] at k';simp! only[↓bR]
  | bl i=>cases hw;let k':Q (.bl Â) H:=k;clear k h;simp! only[↓bR]
  | non=>cases hw;let k':Q (.bl Â) H:=k;clear k h;simp! only[↓bR]
  | str i=>cases hw;let k':Q (.bl Â) H:=k;clear k h;simp! only[↓bR]
  | ref p=>
   let(rfl,o,ho,ht):=pz hw;let k':Q (.bl Â) H:=k;clear k h;simp! only[↓bR]
  | _=>cases hw
def kPl(x:V)(H:Hp)(Q:VK):G B->Prop:=λ ns=>uy H x/\∀ H',Ext H H'->Q (.bl (rC ns x H)) H'
def RX(x:V)(H:Hp)(Q:VK)(ns:G B):kPl x H Q ns=(uy H x/\∀ H',Ext H H'->Q (.bl (rC ns x H)) H'):=rfl
def mC  : Sp:=λ vs H Q E=>∃ (p:Z) (x:V),vs=[.ref p,x]/\(aM (aQ H p) (ur (kSz (kPl x H Q))))
theorem vX  (p:Z) (x:V) (H:Hp) (Q:VK) (E:XK):mC  [.ref p,x] H Q E=(aM (aQ H p) (ur (kSz (kPl x H Q)))):=jb (f:=λ (p:Z) (x:V)=>[.ref p,x]) %[4,2|63] p x
theorem vm(T:Tx K mg t):%[3,GS|49] ["sizes", "thing"] mC:=by
 intros vJ bJ;refine %[GS,zI,2|70]
 ·let(p,x,rfl,h):=h;let(a8,hp,ns,rfl,hs,hk,k):=aq h;replace hp:=cI hp;refine{_,%[%[(PW.pt %[%[%[%[isinstance,bF,%[1,%[(@dn _ _ (.ty "tuple") (.type "tuple") _ ∅ T.z_tuple nofun J ⋯ ⋯)|1]|1]|6]|26]|25],%[%[(gp hr.units),%[len,aA,%[1|1]|6],%[len,aA,%[0|1]|6],(ai _)|13]|40]|36]),%[%[(@fq _ _ _ _)|12]|10],(@aj _)|14],%[%[%[all,dR,%[%[(%[|130]),(2),(aP (aa g8) ["sizes", "thing"] J J nofun),(@A0 _ _ _ _ _ _ _ _ _ ∅ T.z_zip %[1,%[0|1]|1] ∅ ∅),%[(%[(2),%[%[(0),%[|130]|51],%[%[(1),%[|130]|51],(@bD _)|22]|22]|39].mono λ _ _ _ _ h=>dI h)|72],%[(@aY _)|72],%[%[vJ,%[0,%[1|1]|1]|3]|72]|27]|1]|6]|12]|10]|9],?_};rw[%[["sizes", "thing"],[.ref p,x],0|53]]
  cases x with
  | int i=>have k':Q (.bl Â) H:=k H (Ext.refl _);clear k h;ac_rfl
  | bl i=>have k':Q (.bl Â) H:=k H (Ext.refl _);clear k h;ac_rfl
  | non=>have k':Q (.bl Â) H:=k H (Ext.refl _);clear k h;ac_rfl
  | str i=>have k':Q (.bl Â) H:=k H (Ext.refl _);clear k h;ac_rfl
  | ref q=>
   let(b,hb):=WQ.mp hk.1;let(rfl,o,ho,ht):=pz hb;let a4:rC ns (.ref q) H=rB ns (U o):=by rw[←ho];rfl
   rw[a4] at k;clear a4 h hb
   cases o with
   | tup xs=>
    by_cases hl:xs.length=ns.length
    ·let a3:rB ns (U (.tup xs))=(xs.zip ns).all λ p=>fW p.1 p.2:=by show (decide _ && _)=_;rw[Vi hl,Bool.true_and]
     rw[a3] at k;clear a3 ht;ac_rfl;refine bb (xs.zip (ns.map V.int)) (λ _=>L) (λ z=>.bl (fW z.1 (vi z.2))) Q9 (wx (ka:=L) (kb:=Â) ho hp).1 (wx (ka:=L) (kb:=Â) ho hp).2 (of_eq_true (NO _ (by have:=hs.1;rw[XQ,U2];omega))) ?_ ?_
     ·intro D z y H' N1 N0 hz hD e ⟨r,a6,a9⟩ k1 _;subst a6;let(x0,n0):=z;let hm:=X9 hz;let(n,_,rfl):=U8.mp hm.2;let(c,hc):=WQ.mp (hk.2 q xs J ho x0 hm.1);let b1:=Mi e hc;let a7:=k1 rfl H' (Ext.refl _);rw[show vi (V.int n,()).1=n from J] at a7;clear k1 k hc hm hz;simp! only[↓iL,↓aT,↓jA,↓jn]
     ·intro D H' hD e a5
      let b2:H' D=U (.lst (((xs.zip ns).map λ p=>fW p.1 p.2).map V.bl)):=by
       rw[a5,lT,S8,V1,V1];rfl
      let k2:=k H' e;let e2:(((xs.zip ns).map λ p=>fW p.1 p.2).all id)=(xs.zip ns).all λ p=>fW p.1 p.2:=by rw[List.all_map];rfl
      clear k a5;ac_rfl
    ·let a3:rB ns (U (.tup xs))=Â:=by show (decide _ && _)=_;rw[VE hl,Xp]
     rw[a3] at k;let k':=k H (Ext.refl _);let b3:¬ ((xs.length:B)=(ns.length:B)):=by omega
     clear k a3;ac_rfl
   | lst xs=>have k':Q (.bl Â) H:=k H (Ext.refl _);clear k;ac_rfl
   | dK xs=>have k':Q (.bl Â) H:=k H (Ext.refl _);clear k;ac_rfl
   | dT xs=>have k':Q (.bl Â) H:=k H (Ext.refl _);clear k ht;let ht:tyO (.dT xs)=U "dict":=rfl;ac_rfl
   | frz ob u=>
    cases u with
    | lst ys=>have k':Q (.bl Â) H:=k H (Ext.refl _);clear k ht;let ht:tyO (.frz ob (.lst ys))=U "list":=rfl;ac_rfl
    | _=>rcases ht with ht|ht|ht<;>cases ht
   | _=>rcases ht with ht|ht|ht<;>cases ht
  | _=>cases hk.1
abbrev xS(cT:Z)(n:B)(H:Hp)(Q:VK)(E:XK):Prop:=(n<=4096->Q .non H)/\¬ 4096<n
def AE(cT:Z):Sp:=λ vs H Q E=>∃ (n:B),vs=[.int n]/\(xS cT n H Q E)
theorem qp(cT:Z)(n:B)(H:Hp)(Q:VK)(E:XK):AE cT [.int n] H Q E=(xS cT n H Q E):=jV (f:=λ (n:B)=>[.int n]) %[2,1|63] n
theorem bT(T:Tx K mg t):%[3,zk|49] ["count"] (AE t.a_G6):=by
 refine %[zk,jL,1|70]
 ·let(n,rfl,k1,hn):=h;refine{_,%[%[%[iI,0,%[(.int 4096),_,_,T.m_MOST_TOLD.choose_spec,{_,J}|35],(ai _)|13],%[(@bU _ _)|10],(@aj _)|14]|10],?_};rw[%[["count"],[.int n],0|53]];let a3:=k1 %[|8];clear k1;ac_rfl
def Ux(x:B):min 0 x=if x<0 then x else 0:=by split<;>omega
def Uy(x:B):max 0 x=if 0<x then x else 0:=by split<;>omega
structure aW(C:Z)(H:Hp)(v:Z)(room first:B)(axs:%[|48]):Prop where
 ob:∃ dx l,H v=U (.ins C dx (gc room first l))/\bM H l (axL axs)
theorem aW.ext{C:Z}{v:Z}{first:B}{axs:%[|48]}(h:aW C H v room first axs)(e:Ext H H'):aW C H' v room first axs:=by
 let(dx,l,h1,h2):=h.ob;exact{⟨dx,l,e.at h1,h2.ext e⟩}
theorem JL(h:m∈([("sizes":Ã), "paces", "count", "cell", "cell_at", "cells", "least", "greatest"]:G Ã)):¬ m = "axes" /\ ¬ m = "first" /\ ¬ m = "room":=by
 revert m
 decide +kernel
def vn(room first:B)(l:Z)(h:m∈([("sizes":Ã), "paces", "count", "cell", "cell_at", "cells", "least", "greatest"]:G Ã)):(gc room first l).lookup m=Y:=lD room first l (JL h).1 (JL h).2.1 (JL h).2.2
theorem J6{axs:%[|48]}(al:Al (og H) (axL axs) ys)(h:ys[i]? = U y):∃ a q,axs[i]? = U a/\y=.ref q/\H q=U (.tup [.int a.1,.int a.2]):=by
 let(z,hz,q,hq,a3):=vP al h;unfold axL at hz;rw[getElem?_map] at hz;let(a,ha,rfl):=Option.map_eq_some_iff.mp hz;exact{(a),q,ha,hq,a3}
abbrev sV(C:Z)(v:Z)(H:Hp)(Q:VK)(E:XK):Prop:=∃ (room first:B) (axs:%[|48]),aW C H v room first axs/\iA axs/\∀ H',Ext H H'->Q (.int (first+aF axs)) H'
def pb(C:Z):Sp:=λ vs H Q E=>∃ (v:Z),vs=[.ref v]/\(sV C v H Q E)
theorem Ex(C:Z)(v:Z)(H:Hp)(Q:VK)(E:XK):pb C [.ref v] H Q E=(sV C v H Q E):=jV (f:=λ (v:Z)=>[.ref v]) %[2,1|63] v
theorem qA(T:Tx K mg t):%[1,Dx|49] ["self"] (pb t.a_aa0):=by
 refine %[Dx,t7,1|70]
 ·let(v,rfl,room,first,axs,vo,a3,k):=h;let(dx,l,hv,ys,hl,al):=vo.ob;let c1:=T.qA1;let c2:=T.qAd;let c3:=T.qAc
  let f1:=dS room first l
  let f2:=dH room first l
  refine{_,%[%[%[aI,%[0|15],%[sum,mK,%[%[(%[|112]),(2),(aP (aa eJ) ["self"] J J nofun),%[%[0|15]|28],%[(%[(2),%[%[(0),%[|112]|51],%[%[(1),%[|112]|51],(@bD _)|22]|22]|39].mono λ _ _ _ _ h=>dI h)|72],%[(@aY _)|72],%[%[min,(mL J),%[99,%[%[eW,%[dB,0,99|11],1|11]|1]|1]|6]|72]|27]|1]|6]|11]|12]|10],?_};rw[%[["self"],[.ref v],0|53]];ac_rfl;let wk:=lV (K:=K) (R:=axP) (λ _ _ _ _ h e=>h.ext e) hl (rK al);refine bb axs (λ _=>L) (λ a=>.int (min 0 ((a.1 - 1) * a.2))) axP wk.1 wk.2 (ak (by have:=a3.1;omega)) ?_ ?_
  ·intro D a x H' N1 N0 ha hD e ⟨q,hx,hq⟩ k1 _;subst hx;let hb:=a3.2 a ha;let a5:=k1 rfl H' (Ext.refl _);let a6:yd (a.1 - 1) a.2:=.inl {by omega,by omega};rw[Ux] at a5;clear k1 k;simp! only[↓iL,↓aT]
  ·intro D H' hD e a4;let a7:H' D=U (.lst ((axs.map λ a=>min 0 ((a.1 - 1) * a.2)).map V.int)):=by rw[a4,lT,V1];rfl
   let k2:Q (.int (first+(axs.map λ a=>min 0 ((a.1 - 1) * a.2)).sum)) H':=k H' e;clear k a4;ac_rfl
abbrev k6(C:Z)(v:Z)(H:Hp)(Q:VK)(E:XK):Prop:=∃ (room first:B) (axs:%[|48]),aW C H v room first axs/\iA axs/\∀ H',Ext H H'->Q (.int (first+aG axs)) H'
def kd(C:Z):Sp:=λ vs H Q E=>∃ (v:Z),vs=[.ref v]/\(k6 C v H Q E)
theorem tZ(C:Z)(v:Z)(H:Hp)(Q:VK)(E:XK):kd C [.ref v] H Q E=(k6 C v H Q E):=jV (f:=λ (v:Z)=>[.ref v]) %[2,1|63] v
theorem k7(T:Tx K mg t):%[1,yW|49] ["self"] (kd t.a_aa0):=by
 refine %[yW,nE,1|70]
 ·let(v,rfl,room,first,axs,vo,a3,k):=h;let(dx,l,hv,ys,hl,al):=vo.ob;let c1:=T.qA1;let c2:=T.qAd;let c3:=T.qAc
  let f1:=dS room first l
  let f2:=dH room first l
  refine{_,%[%[%[aI,%[0|15],%[sum,mK,%[%[(%[|112]),(2),(aP (aa cA) ["self"] J J nofun),%[%[0|15]|28],%[(%[(2),%[%[(0),%[|112]|51],%[%[(1),%[|112]|51],(@bD _)|22]|22]|39].mono λ _ _ _ _ h=>dI h)|72],%[(@aY _)|72],%[%[max,(jw J),%[99,%[%[eW,%[dB,0,99|11],1|11]|1]|1]|6]|72]|27]|1]|6]|11]|12]|10],?_};rw[%[["self"],[.ref v],0|53]];ac_rfl;let wk:=lV (K:=K) (R:=axP) (λ _ _ _ _ h e=>h.ext e) hl (rK al);refine bb axs (λ _=>L) (λ a=>.int (max 0 ((a.1 - 1) * a.2))) axP wk.1 wk.2 (ak (by have:=a3.1;omega)) ?_ ?_
  ·intro D a x H' N1 N0 ha hD e ⟨q,hx,hq⟩ k1 _;subst hx;let hb:=a3.2 a ha;let a5:=k1 rfl H' (Ext.refl _);let a6:yd (a.1 - 1) a.2:=.inl {by omega,by omega};rw[Uy] at a5;clear k1 k;simp! only[↓iL,↓aT]
  ·intro D H' hD e a4;let a7:H' D=U (.lst ((axs.map λ a=>max 0 ((a.1 - 1) * a.2)).map V.int)):=by rw[a4,lT,V1];rfl
   let k2:Q (.int (first+(axs.map λ a=>max 0 ((a.1 - 1) * a.2)).sum)) H':=k H' e;clear k a4;ac_rfl
def Tw(H:Hp)(Q:VK)(f:B × B->B)(axs:%[|48]):Prop:=∀ (r:Z) (H':Hp),H r=Y->Ext H H'->H' r=U (.lst ((axs.map f).map V.int))->Q (.ref r) H'
abbrev oO(C:Z)(v:Z)(H:Hp)(Q:VK)(E:XK):Prop:=∃ (room first:B) (axs:%[|48]),aW C H v room first axs/\axs.length<=8/\Tw H Q (λ a=>a.1) axs
def pH(C:Z):Sp:=λ vs H Q E=>∃ (v:Z),vs=[.ref v]/\(oO C v H Q E)
theorem iq(C:Z)(v:Z)(H:Hp)(Q:VK)(E:XK):pH C [.ref v] H Q E=(oO C v H Q E):=jV (f:=λ (v:Z)=>[.ref v]) %[2,1|63] v
theorem dF(T:Tx K mg t):yj P w K mg base CX0 1 t.a_Ds t.d_Ds ["self"] (pH t.a_aa0):=by
 refine %[Ds,t5,1|70]
 ·let(v,rfl,room,first,axs,vo,a4,k):=h;let(dx,l,hv,ys,hl,al):=vo.ob;let c1:=T.qA1;let c3:=T.qAc
  let f2:=dH room first l
  refine{_,%[%[%[(%[|112]),(2),(aP (aa eF) ["self"] J J nofun),%[%[0|15]|28],%[(%[(2),%[%[(0),%[|112]|51],%[%[(1),%[|112]|51],(@bD _)|22]|22]|39].mono λ _ _ _ _ h=>dI h)|72],%[(@aY _)|72],%[%[0|0]|72]|27]|12]|10],?_};rw[%[["self"],[.ref v],0|53]];ac_rfl;let wk:=lV (K:=K) (R:=axP) (λ _ _ _ _ h e=>h.ext e) hl (rK al);refine bb axs (λ _=>L) (λ a=>.int a.1) axP wk.1 wk.2 (ak %[|8]) ?_ ?_
  ·intro D a x H' N1 N0 ha hD e ⟨q,hx,hq⟩ k1 _;subst hx;let a5:=k1 rfl H' (Ext.refl _);clear k1 k;simp! only[↓iL,↓aT]
  ·intro D H' hD e a3;exact k D H' hD e (by rw[a3,lT,V1];rfl)
abbrev oP(C:Z)(v:Z)(H:Hp)(Q:VK)(E:XK):Prop:=∃ (room first:B) (axs:%[|48]),aW C H v room first axs/\axs.length<=8/\Tw H Q (λ a=>a.2) axs
def pI(C:Z):Sp:=λ vs H Q E=>∃ (v:Z),vs=[.ref v]/\(oP C v H Q E)
theorem zC(C:Z)(v:Z)(H:Hp)(Q:VK)(E:XK):pI C [.ref v] H Q E=(oP C v H Q E):=jV (f:=λ (v:Z)=>[.ref v]) %[2,1|63] v
theorem qz(T:Tx K mg t):yj P w K mg base CX0 1 t.a_Dt t.d_Dt ["self"] (pI t.a_aa0):=by
 refine %[Dt,t6,1|70]
 ·let(v,rfl,room,first,axs,vo,a4,k):=h;let(dx,l,hv,ys,hl,al):=vo.ob;let c1:=T.qA1;let c3:=T.qAc
  let f2:=dH room first l
  refine{_,%[%[%[(%[|112]),(2),(aP (aa eI) ["self"] J J nofun),%[%[0|15]|28],%[(%[(2),%[%[(0),%[|112]|51],%[%[(1),%[|112]|51],(@bD _)|22]|22]|39].mono λ _ _ _ _ h=>dI h)|72],%[(@aY _)|72],%[%[1|0]|72]|27]|12]|10],?_};rw[%[["self"],[.ref v],0|53]];ac_rfl;let wk:=lV (K:=K) (R:=axP) (λ _ _ _ _ h e=>h.ext e) hl (rK al);refine bb axs (λ _=>L) (λ a=>.int a.2) axP wk.1 wk.2 (ak %[|8]) ?_ ?_
  ·intro D a x H' N1 N0 ha hD e ⟨q,hx,hq⟩ k1 _;subst hx;let a5:=k1 rfl H' (Ext.refl _);clear k1 k;simp! only[↓iL,↓aT]
  ·intro D H' hD e a3;exact k D H' hD e (by rw[a3,lT,V1];rfl)
abbrev oQ(C:Z)(v:Z)(H:Hp)(Q:VK)(E:XK):Prop:=∃ (room first:B) (axs:%[|48]),aW C H v room first axs/\iA axs/\∀ H',Ext H H'->Q (.int (aw (axs.map λ a=>a.1))) H'
def pJ(C:Z):Sp:=λ vs H Q E=>∃ (v:Z),vs=[.ref v]/\(oQ C v H Q E)
theorem km(C:Z)(v:Z)(H:Hp)(Q:VK)(E:XK):pJ C [.ref v] H Q E=(oQ C v H Q E):=jV (f:=λ (v:Z)=>[.ref v]) %[2,1|63] v
theorem cz(T:Tx K mg t):yj P w K mg base CX0 2 t.a_Du t.d_Du ["self"] (pJ t.a_aa0):=by
 intros Ds dF GR vp;refine %[Du,t9,1|70]
 ·let(v,rfl,room,first,axs,vo,a3,k):=h;let(dx,l,hv,_):=vo.ob
  let f3:=vn room first l (m := "sizes") nofun
  refine{_,%[%[%[GR,%[%[%[0|0],qA1,qAm,Ds,av|61]|1]|3]|12]|10],?_};rw[%[["self"],[.ref v],0|53]];ac_rfl;rw[iq];refine{room,first,axs,vo,a3.1,λ r H' a4 e h'=>?_};let k':=k H' e;let hsz:=a3.sizes;clear k;simp! only[↓EC,↓NL,↓Iu]
def uA(C:Z):Sp:=λ vs H Q E=>∃ (x:Z) (room:B) (first:B) (l:Z),vs=[.ref x,.int room,.int first,.ref l]/\(∃ (dx:Z) (axs:%[|48]),H x=U (.ins C dx [])/\bM H l (axL axs)/\md room first axs/\∀ (H':Hp) (D:Z),(∀ H0,Ext H0 H->H0 x=Y->Ext H0 H')->H D=Y->H' x=U (.ins C dx (gc room first D))->bM H' D (axL (axs.map bE))->Q .non H')
theorem mO(C:Z)(x:Z)(room:B)(first:B)(l:Z)(H:Hp)(Q:VK)(E:XK):uA C [.ref x,.int room,.int first,.ref l] H Q E=(∃ (dx:Z) (axs:%[|48]),H x=U (.ins C dx [])/\bM H l (axL axs)/\md room first axs/\∀ (H':Hp) (D:Z),(∀ H0,Ext H0 H->H0 x=Y->Ext H0 H')->H D=Y->H' x=U (.ins C dx (gc room first D))->bM H' D (axL (axs.map bE))->Q .non H'):=QJ (f:=λ (x:Z) (room:B) (first:B) (l:Z)=>[.ref x,.int room,.int first,.ref l]) %[8,4|63] x room first l
theorem dz(T:Tx K mg t):%[6,yV|49] %[|127] (uA t.a_aa0):=by
 intros DI kR GQ fC GU vq DJ tH Dx qA yW k7;refine %[yV,nF,4|70]
 ·let(x,room,first,l,rfl,dx,axs,hx,tl,a3,k):=h;let c1:=T.qA1;let c2:=T.qAd;let c3:=T.qAc;let c4:=T.qAi;refine{_,%[%[(PW.pt %[%[%[%[DI,%[1,%[99,%[%[(.int 1000000000000000000),_,_,T.m_MOST_ROOM.choose_spec,{_,J}|35]|1]|1]|1]|3]|26]|25],%[%[%[%[GQ,%[2|1]|3]|26]|25],%[%[%[%[GU,%[3|1]|3]|26]|25]|40]|36]|36]),%[(@bU _ _)|10],(@aj _)|14],%[%[0,1|30],%[%[0,2|30],%[%[0,%[(["axis", "self", "room", "first", "axes"]),(1),(aP (aa cB) %[|127] J J nofun),%[3|28],%[%[(0),["axis", "self", "room", "first", "axes"]|51]|72],%[(@aY _)|72],%[%[DJ,%[0|1]|3]|72]|27]|30],%[%[(PW.pt %[%[o7,%[%[0|0],qA1,qCj,Dx,av|61],99,(ai _)|13],%[%[ND,%[%[0|0],qA1,qBo,yW,av|61],1,(ai _)|13]|40]|36]),%[(@bU _ _)|10],(@aj _)|14]|10]|9]|9]|9]|9],?_};rw[%[%[|127],[.ref x,.int room,.int first,.ref l],0|53]];let r1:=a3.r1;let r2:=a3.r2;simp! only[↓oJ,↓bR];rw[HX];refine{axs,tl,a3.ax,λ H1 e1=>?_};let a5:=e1.at hx;let ck:=tl.ext e1;clear hx tl;ac_rfl;refine{(show (1:à)<1000 by decide),?_};let(ys,a4,b1):=ck;let cm:l≠x:=λ z=>by rw[z,a5] at a4;cases a4
  let a6:(upd H1 x (HO.ins t.a_aa0 dx (bh "first" (V.int first) (bh "room" (V.int room) [])))) x=U (HO.ins t.a_aa0 dx (bh "first" (V.int first) (bh "room" (V.int room) []))):=ag
  let b5:(upd H1 x (HO.ins t.a_aa0 dx (bh "first" (V.int first) (bh "room" (V.int room) [])))) l=U (.lst ys):=by rw[ah cm];exact a4
  let b6:Al (λ a y=>axP a y (upd H1 x (HO.ins t.a_aa0 dx (bh "first" (V.int first) (bh "room" (V.int room) []))))) axs ys:=(rK b1).imp λ a y ⟨q,hy,hq⟩=>{q,hy,by rw[ah (λ z=>by rw[z,a5] at hq;cases hq)];exact hq};let b2:∀ H0,Ext H0 H->H0 x=Y->Ext H0 (upd H1 x (HO.ins t.a_aa0 dx (bh "first" (V.int first) (bh "room" (V.int room) [])))):=λ H0 q0 q1=>(q0.trans e1).put q1
  let b3:∀ b,b≠x->(upd H1 x (HO.ins t.a_aa0 dx (bh "first" (V.int first) (bh "room" (V.int room) [])))) b=Y->H b=Y:=λ b hb q=>by rw[ah hb] at q;exact e1.free q
  generalize upd H1 x (HO.ins t.a_aa0 dx (bh "first" (V.int first) (bh "room" (V.int room) [])))=H2 at a6 b5 b6 b2 b3;clear a4 b1 a5;ac_rfl;let wk:=lV (K:=K) (R:=axP) (λ _ _ _ _ h e=>h.ext e) b5 b6;refine lR axs (λ _=>L) axP (λ D a y H'=>∃ q,y=.ref q/\q≠D/\H' q=U (.tup [.int (bE a).1,.int (bE a).2])) wk.1 wk.2 (λ D _ y H1 H2 ⟨q,h1,h2,h3⟩ e=>{q,h1,h2,e.at h3}) (λ D _ y H1 o ⟨q,h1,h2,h3⟩=>{q,h1,h2,by rw[ah h2];exact h3}) (ak (by have:=a3.ax.1;omega)) ?_ ?_
  ·intro D a y H' N1 N0 ha hD e ⟨c0,b8⟩ ⟨q,hy,hq⟩ k1 _;subst hy;let cv:=k1 rfl;clear k1 k;simp! only[↓aN,↓aT];rw[HU];exact{a,hq,λ r cx cc e' h'=>cv _ cx e' {r,J,(λ z=>by rw[z,b8] at cc;cases cc),h'}}
  ·intro D zs H3 hD e3 cH a7;rw[lT] at a7;let cT:=e3.at a6;let cg:D≠x:=λ z=>by rw[z,a6] at hD;cases hD
   clear wk;ac_rfl;refine{(show (2:à)<1000 by decide),?_}
   let tt:bM (upd H3 x (HO.ins t.a_aa0 dx (gc room first D))) D (axL (axs.map bE)):=by
    refine{zs,by rw[ah cg];exact cH,?_,λ i z y hz hy=>?_}
    ·rw[a7.1];unfold axL;rw[length_map,length_map]
    ·unfold axL at hz;rw[map_map,getElem?_map] at hz;let(a,ha,rfl):=Option.map_eq_some_iff.mp hz;let(q,cV,_,a8):=a7.2 i a y ha hy;exact{q,cV,by rw[ah (λ z=>by rw[z,cT] at a8;cases a8)];exact a8}
   let b4:∀ H0,Ext H0 H->H0 x=Y->Ext H0 (upd H3 x (HO.ins t.a_aa0 dx (gc room first D))):=λ H0 q0 q1=>((b2 H0 q0 q1).trans e3).put q1;let a9:(upd H3 x (HO.ins t.a_aa0 dx (gc room first D))) x=U (HO.ins t.a_aa0 dx (gc room first D)):=ag
   let f1:=vn room first D (m := "least") nofun
   let f2:=vn room first D (m := "greatest") nofun
   refine{f1,?_}
   show pb t.a_aa0 [V.ref x] (upd H3 x (HO.ins t.a_aa0 dx (gc room first D))) _ _
   generalize upd H3 x (HO.ins t.a_aa0 dx (gc room first D))=H4 at tt b4 a9
   let vo:aW t.a_aa0 H4 x room first (axs.map bE):={(dx),D,a9,tt}
   rw[Ex];refine{room,first,axs.map bE,vo,a3.ax.kept,λ H5 e5=>?_}
   let c5:¬ first+aF (axs.map bE)<0:=by have:=a3.lo;omega
   let cZ:=e5.at a9;ac_rfl;rw[tZ];refine{room,first,axs.map bE,vo.ext e5,a3.ax.kept,λ H6 e6=>?_}
   let c6:¬ room<=first+aG (axs.map bE):=by have:=a3.hi;omega
   let k':=k H6 D (λ H0 q0 q1=>((b4 H0 q0 q1).trans e5).trans e6) (b3 D cg hD) (e6.at cZ) ((tt.ext e5).ext e6);clear k;ac_rfl
theorem oB(cs:G B)(a:B × B)(i:à)(c:B)(h:cs[i]? = U c):eQ (cs.take (i+1)) a=eQ (cs.take i) a++(Ó a.1.toNat).map λ (n:à)=>c+(n:B) * a.2:=by
 unfold eQ;rw[take_add_one,h,List.flatMap_append];simp
abbrev nh  (p:Z) (z:B) (pc:B) (H:Hp) (Q:VK) (E:XK):Prop:=∃ cs:G B,H p=%[cs|46]/\1<=z/\cs.length * z.toNat<=4096/\z<=1000000000/\∀ (r:Z) (H':Hp),H r=Y->Ext H H'->H' r=U (.lst ((eQ cs (z,pc)).map V.int))->Q (.ref r) H'
def my  : Sp:=λ vs H Q E=>∃ (p:Z) (z:B) (pc:B),vs=[.ref p,.int z,.int pc]/\(nh  p z pc H Q E)
theorem vV  (p:Z) (z:B) (pc:B) (H:Hp) (Q:VK) (E:XK):my  [.ref p,.int z,.int pc] H Q E=(nh  p z pc H Q E):=EK (f:=λ (p:Z) (z:B) (pc:B)=>[.ref p,.int z,.int pc]) %[6,3|63] p z pc
theorem yw(T:Tx K mg t):%[1,GY|49] ["cells", "size", "pace"] my:=by
 refine %[GY,mM,3|70]
 ·let(p,z,pc,rfl,cs,hp,hz,a7,a8,k):=h;refine{_,%[%[3,mM,%[(@eB _)|23]|4],%[%[V2,%[0|28],%[(4),_,mM.nd,J,(Or.inr J),%[|7]|21],%[%[%[Vn,PySem.F.slot_list_extend,PySem.F.type_list_extend,Cu,3,%[%[(%[|133]),(1),(aP (aa jt) ["cells", "size", "pace", "found", "cell"] J J nofun),%[T.z_range,%[1|1]|79],%[%[(0),%[|133]|51]|72],%[(@aY _)|72],%[%[aI,5,%[eW,0,3|11]|11]|72]|27]|1]|41]|16]|10]|43],%[%[3|12]|10]|9]|9],?_};rw[%[["cells", "size", "pace", "found", "cell"],[.ref p,.int z,.int pc],2|53]];ac_rfl;intro r H1 a3 e1 h1;let a9:=e1.at hp;ac_rfl;refine iM (xs:=cs.map V.int) (λ i σ H'=>∃ v4:Ü V,σ=[%[p|45],%[z|47],%[pc|47],%[r|45],v4]/\Ext H H'/\H' r=U (.lst ((eQ (cs.take i) (z,pc)).map V.int))) ⟨Y,J,e1,h1⟩ (λ i σ H' _ ⟨_,_,e,_⟩=>e.at hp) ?_ ?_
  ·rintro i x _ H2 hi ⟨v4,rfl,e2,h2⟩;rw[Vd] at hi;let(c,hc,rfl):=Vf.mp hi;let b1:i<cs.length:=(U1.mp hc).1
   let b2:z.toNat<=4096:=by
    have:=XZ z.toNat (show 1<=cs.length by omega);omega
   let b3:(eQ (cs.take i) (z,pc)).length+z.toNat<=4096:=by
    rw[mr,Vu,show ((z,pc):B × B).1=z from J];have:(min i cs.length+1) * z.toNat<=cs.length * z.toNat:=XZ _ %[|8];rw[Nat.add_mul,Nat.one_mul] at this;omega
   simp! only[↓cn];refine{by omega,by omega,?_};refine bb (Ó z.toNat) (λ _=>L) (λ j=>.int (c+(j:B) * pc)) (λ j x H'=>x=.int (0+(j:à))) kH.1 kH.2 (ak (by rw[VZ];omega)) ?_ ?_
   ·intro D j x H' N1 N0 hj hD e hx k1 _;subst hx;let b4:=Wv.mp hj;let b5:=k1 rfl H' (Ext.refl _);let b6:yd (j:B) pc:=.inl %[|8];let e0:(0:B)+(j:B)=(j:B):=Yt _;clear k1 k hj;simp! only[↓aN,↓aT]
   ·intro D H3 hD e3 a4;let a5:H3 D=U (.lst (((Ó z.toNat).map λ (j:à)=>c+(j:B) * pc).map V.int)):=by rw[a4,lT,V1];rfl
    let a6:=e3.at h2;let hle:(eQ (cs.take i) (z,pc)).length+(Ó z.toNat).length<=Æ:=ak (by rw[VZ];omega);clear a4 hi;ac_rfl;refine{_,J,(e2.trans e3).put a3,?_};rw[oB cs (z,pc) i c hc,Vw]
  ·rintro _ H2 ⟨v4,rfl,e2,h2⟩;ac_rfl;rw[U2,Wy] at h2;exact k r H2 a3 e2 h2
abbrev tE(C cT:Z)(v:Z)(H:Hp)(Q:VK)(E:XK):Prop:=∃ (room first:B) (axs:%[|48]),aW C H v room first axs/\iA axs/\(aw (axs.map λ a=>a.1)<=4096->∀ (r:Z) (H':Hp),H r=Y->Ext H H'->H' r=U (.lst ((aV first axs).map V.int))->Q (.ref r) H')/\¬ 4096<aw (axs.map λ a=>a.1)
def uW(C cT:Z):Sp:=λ vs H Q E=>∃ (v:Z),vs=[.ref v]/\(tE C cT v H Q E)
theorem ED(C cT:Z)(v:Z)(H:Hp)(Q:VK)(E:XK):uW C cT [.ref v] H Q E=(tE C cT v H Q E):=jV (f:=λ (v:Z)=>[.ref v]) %[2,1|63] v
theorem qB(T:Tx K mg t):%[4,Dw|49] ["self"] (uW t.a_aa0 t.a_G6):=by
 intros Du cz zk bT GY yw;refine %[Dw,dj,1|70]
 ·let(v,rfl,room,first,axs,vo,a4,kQ,kE):=h;let(dx,l,hv,ys,hl,al):=vo.ob;let c1:=T.qA1;let c2:=T.qAd;let c3:=T.qAc
  let f1:=dS room first l
  let f2:=dH room first l
  let f3:=vn room first l (m := "count") nofun
  refine{_,%[%[%[zk,%[%[%[0|0],qA1,qAh,Du,av|61]|1]|3]|16],%[%[1,dj,%[%[%[0|15]|1]|23]|4],%[%[V2,%[%[0|15]|28],(%[(2),%[%[2,dj|5],%[%[3,dj|5],(@bD _)|22]|22]|39].mono λ _ _ _ _ h=>dI h),%[%[1,dj,%[GY,%[1,%[2,%[3|1]|1]|1]|3]|4]|10]|43],%[%[1|12]|10]|9]|9]|9],?_};rw[%[["self", "found", "size", "pace"],[.ref v],3|53]];clear G_Du G_zk G_GY;ac_rfl;rw[km];refine{room,first,axs,vo,a4,λ H1 e1=>?_};let a6:=e1.at hv;let a7:=e1.at hl;ac_rfl;rw[qp];refine{λ hc=>?_,kE};let a8:=kQ hc;clear kQ kE;ac_rfl;intro r H2 a9 e2 h2;let b5:=e2.at a6;let b6:=e2.at a7;ac_rfl;let a3:∀ a∈axs,(1:B)<=a.1:=λ a ha=>(a4.2 a ha).1;refine iM (xs:=ys) (λ i σ H'=>∃ (r:Z) (v2 v3:Ü V),σ=[%[v|45],%[r|45],v2,v3]/\Ext H H'/\H r=Y/\H' r=U (.lst ((aV first (axs.take i)).map V.int))) ⟨r,Y,Y,J,e1.trans e2,e1.free a9,h2⟩ (λ i σ H' _ ⟨_,_,_,_,e,_,_⟩=>e.at hl) ?_ ?_
  ·rintro i y _ H3 hi ⟨r3,v2,v3,rfl,e3,a5,h3⟩;let(a,q,ha,rfl,hq):=J6 al hi;let b8:=e3.at hq;let hm:=a4.2 a (Vx ha);simp! only[↓cn];rw[vV];refine{_,h3,hm.1,?_,hm.2,λ r4 H4 b1 e4 h4=>?_}
   ·let b2:=ip first (axs.take i) λ b hb=>a3 b (WG hb)
    let hp:=jE (axs.map λ a=>a.1) (λ n hn=>by let(b,hb,rfl):=U8.mp hn;exact a3 b hb) (i+1);rw[hV _ i a.1 (by rw[Vd,ha];rfl),←map_take,←b2] at hp;let b3:((a.1.toNat:à):B)=a.1:=Ws %[|8]
    have:(((aV first (axs.take i)).length * a.1.toNat:à):B)<=4096:=by rw[YG,b3];omega
    omega
   ·ac_rfl;refine{r4,_,_,J,e3.trans e4,e3.free b1,?_};rw[h4,Xc,ha]
    show _=U (HO.lst (List.map V.int (aV first (axs.take i++[a]))))
    rw[m5]
  ·rintro _ H3 ⟨r3,v2,v3,rfl,e3,a5,h3⟩;let b4:ys.length=axs.length:=by rw[al.1];unfold axL;rw[length_map]
   rw[b4,Wy] at h3;ac_rfl;exact a8 r3 H3 a5 e3 h3
def kI(l:Z):G (Ã × V):=bh "floor" (V.ref l) []
theorem eE(l:Z):(kI l).lookup ("floor":Ã)=%[l|45]:=by
 unfold kI;rw[ae,if_pos J]
theorem df(l:Z)(h:m∈([("all_values":Ã), "refuse_room", "read", "put", "copied", "fill"]:G Ã)):(kI l).lookup m=Y:=by
 have:¬ m = "floor":=by
  revert m
  decide +kernel
 unfold kI;rw[ae,if_neg this];rfl
structure cu(C:Z)(H:Hp)(s l:Z)(vals:G B):Prop where
 ob:∃ dx,H s=U (.ins C dx (kI l))
 fl:H l=%[vals|46]
theorem cu.ext{C:Z}{s:Z}(h:cu C H s l vals)(e:Ext H H'):cu C H' s l vals:=by
 let(dx,h1):=h.ob;exact{⟨dx,e.at h1⟩,e.at h.fl}
abbrev sQ(C:Z)(x:Z)(p:Z)(H:Hp)(Q:VK)(E:XK):Prop:=∃ (dx:Z) (vals:G B),H x=U (.ins C dx [])/\H p=%[vals|46]/\1<=vals.length/\vals.length<=4096/\∀ (H':Hp) (l:Z),(∀ H0,Ext H0 H->H0 x=Y->Ext H0 H')->H l=Y->H' x=U (.ins C dx (kI l))->H' l=%[vals|46]->Q .non H'
def uF(C:Z):Sp:=λ vs H Q E=>∃ (x:Z) (p:Z),vs=[.ref x,.ref p]/\(sQ C x p H Q E)
theorem Es(C:Z)(x:Z)(p:Z)(H:Hp)(Q:VK)(E:XK):uF C [.ref x,.ref p] H Q E=(sQ C x p H Q E):=jb (f:=λ (x:Z) (p:Z)=>[.ref x,.ref p]) %[4,2|63] x p
theorem kr(T:Tx K mg t):%[4,yR|49] %[|131] (uF t.a_Mb):=by
 intros zk bT;refine %[yR,lB,2|70]
 ·let(x,p,rfl,dx,vals,hx,hp,a4,a5,k):=h;let c1:=T.qA5;let c2:=T.qAf;refine{_,%[%[%[(aO hr.units),%[len,aA,%[1|1]|6],99,(ai _)|13],%[(@bU _ _)|10],(@aj _)|14],%[%[%[zk,%[%[len,aA,%[1|1]|6]|1]|3]|16],%[%[0,%[bo,T.z_list,%[1|1]|32]|30]|10]|9]|9],?_};rw[%[%[|131],[.ref x,.ref p],0|53]];clear G_zk;let a6:¬ ((vals.length:B)=0):=by omega
  ac_rfl;rw[qp];refine{λ _=>?_,λ h=>Þ h %[|8]};ac_rfl;intro l H1 hl e1 h1;let a7:=e1.at hx;let a3:l≠x:=λ z=>by rw[z,hx] at hl;cases hl
  ac_rfl;exact k _ l (λ H0 q0 q1=>(q0.trans e1).put q1) hl ag (by rw[ah a3];exact h1)
def AO(C:Z):Sp:=λ vs H Q E=>∃ (s:Z),vs=[.ref s]/\(∃ (l:Z) (vals:G B),cu C H s l vals/\vals.length<=4096/\∀ (r:Z) (H':Hp),H r=Y->Ext H H'->H' r=%[vals|46]->Q (.ref r) H')
theorem HY(C:Z)(s:Z)(H:Hp)(Q:VK)(E:XK):AO C [.ref s] H Q E=(∃ (l:Z) (vals:G B),cu C H s l vals/\vals.length<=4096/\∀ (r:Z) (H':Hp),H r=Y->Ext H H'->H' r=%[vals|46]->Q (.ref r) H'):=jV (f:=λ (s:Z)=>[.ref s]) %[2,1|63] s
theorem i8(T:Tx K mg t):%[1,tW|49] ["self"] (AO t.a_Mb):=by
 refine T.F_tW.ok jU (λ _ _ _ _ h=>jW h λ _=>J) %[1|50]
 ·let(s,rfl,l,vals,so,a4,k):=h;let(dx,hs):=so.ob;let a5:=so.fl;let c1:=T.qA5;let c2:=T.qAf;let f1:=eE l;refine{_,%[%[%[bo,T.z_list,%[%[0|15]|1]|32]|12]|10],?_};rw[%[["self"],[.ref s],0|53]];ac_rfl;intro r H1 a3 e1 h1;exact k r H1 a3 e1 h1
abbrev xP(CS CV:Z)(s:Z)(v:Z)(H:Hp)(Q:VK)(E:XK):Prop:=∃ (l:Z) (vals:G B) (room first:B) (axs:%[|48]),cu CS H s l vals/\aW CV H v room first axs/\room=vals.length/\Q .non H
def AB(CS CV:Z):Sp:=λ vs H Q E=>∃ (s:Z) (v:Z),vs=[.ref s,.ref v]/\(xP CS CV s v H Q E)
theorem xA(CS CV:Z)(s:Z)(v:Z)(H:Hp)(Q:VK)(E:XK):AB CS CV [.ref s,.ref v] H Q E=(xP CS CV s v H Q E):=jb (f:=λ (s:Z) (v:Z)=>[.ref s,.ref v]) %[4,2|63] s v
theorem bu(T:Tx K mg t):%[1,oG|49] %[|115] (AB t.a_Mb t.a_aa0):=by
 refine T.F_oG.ok eu (λ _ _ _ _ h=>fT h λ _ _=>J) %[1|50]
 ·let(s,v,rfl,l,vals,room,first,axs,so,vo,a3,k):=h;let(dx,hs):=so.ob;let(dy,D,hv,_):=vo.ob;let a4:=so.fl;let c1:=T.qA5;let c2:=T.qAf;let c3:=T.qA1;let c4:=T.qAi;let f1:=eE l
  let f2:=g6 room first D
  refine{_,%[%[%[(gp hr.units),%[1|15],%[len,aA,%[%[0|15]|1]|6],(ai _)|13],%[(@bU _ _)|10],(@aj _)|14]|10],?_};rw[%[%[|115],[.ref s,.ref v],0|53]];subst a3;ac_rfl
def Q3(CV:Z):Sp:=λ vs H Q E=>∃ (v:Z) (n:B),vs=[.ref v,.int n]/\(∃ (room first:B) (axs:%[|48]),aW CV H v room first axs/\iA axs/\n=aw (axs.map λ a=>a.1)/\∀ H',Ext H H'->Q .non H')
theorem MI(h0:0<=c)(h1:c<vals.length):atI (vals.map V.int) c=U (.int (vals.getD c.toNat 0)):=by
 let(n,rfl):=Wt h0;let hn:n<vals.length:=by omega
 refine bQ ?_;rw[Vd,U4 hn];simp[List.getD,U4 hn]
theorem MM(cs:G B):Al (λ (z:B) (y:V)=>y=.int z) cs (cs.map V.int):=by
 refine{by rw[U2],λ i z y hz hy=>?_};rw[Vd,hz] at hy;cases hy;rfl
def mq(cs:G B)(n:à):Prop:=∀ c∈cs,0<=c/\c<(n:B)
def nQ(vals cs:G B):G B:=cs.map λ c=>vals.getD c.toNat 0
def Uw(vals cs ws:G B):G B:=(cs.zip ws).foldl (λ vs p=>vs.set p.1.toNat p.2) vals
abbrev xQ(CS CV:Z)(s:Z)(v:Z)(H:Hp)(Q:VK)(E:XK):Prop:=∃ (l:Z) (vals:G B) (room first:B) (axs:%[|48]),cu CS H s l vals/\aW CV H v room first axs/\iA axs/\room=vals.length/\aw (axs.map λ a=>a.1)<=4096/\mq (aV first axs) vals.length/\∀ (r:Z) (H':Hp),H r=Y->Ext H H'->H' r=U (.lst ((nQ vals (aV first axs)).map V.int))->Q (.ref r) H'
def AD(CS CV:Z):Sp:=λ vs H Q E=>∃ (s:Z) (v:Z),vs=[.ref s,.ref v]/\(xQ CS CV s v H Q E)
theorem HR(CS CV:Z)(s:Z)(v:Z)(H:Hp)(Q:VK)(E:XK):AD CS CV [.ref s,.ref v] H Q E=(xQ CS CV s v H Q E):=jb (f:=λ (s:Z) (v:Z)=>[.ref s,.ref v]) %[4,2|63] s v
theorem jG(T:Tx K mg t):%[5,Dy|49] %[|115] (AD t.a_Mb t.a_aa0):=by
 intros oG bu Dw qB;refine T.F_Dy.ok ua (λ _ _ _ _ h=>fT h λ _ _=>J) %[1|50]
 ·let(s,v,rfl,l,vals,room,first,axs,so,vo,a5,a4,b4,a3,k):=h;subst a4;let(dx,hs):=so.ob;let(dy,D,hv,_):=vo.ob;let a7:=so.fl;let c1:=T.qA5;let c2:=T.qAf;let c3:=T.qA1;let f1:=eE l;let f2:=df l (m := "refuse_room") nofun
  let f3:=vn (vals.length:B) first D (m := "cells") nofun
  refine{_,%[%[%[%[0|0],qA5,qA7,oG,av,%[1|1]|60]|16],%[%[%[(["cell", "self", "view"]),(1),(aP (aa eK) %[|115] J J nofun),%[%[%[1|0],qA1,qCi,Dw,av|61]|28],%[%[(0),["cell", "self", "view"]|51]|72],%[(@aY _)|72],%[%[eA,%[(K),1|77],0|17]|72]|27]|12]|10]|9],?_};rw[%[%[|115],[.ref s,.ref v],0|53]];clear G_oG G_Dw;ac_rfl;rw[xA];refine{l,vals,_,first,axs,so,vo,J,?_};ac_rfl;rw[ED];refine{_,first,axs,vo,a5,λ _ r1 H1 b5 e1 h1=>?_,λ h=>Þ h %[|8]}
  let a8:=ip first axs λ a ha=>(a5.2 a ha).1
  let a9:=e1.at hs;let a6:=e1.at a7;unfold nQ at k
  generalize aV first axs=cs at h1 a3 k a8
  let b2:cs.length<=4096:=by omega
  ac_rfl;let wk:=lV (K:=K) (R:=λ (z:B) y _=>y=.int z) (λ _ _ _ _ h _=>h) h1 (MM cs);refine bb cs (λ _=>L) (λ c=>.int (vals.getD c.toNat 0)) (λ z y _=>y=.int z) wk.1 wk.2 (ak %[|8]) ?_ ?_
  ·intro D2 c y H' N1 N0 hc hD e hy k1 _;subst hy;let b6:=MI (a3 c hc).1 (a3 c hc).2;let b8:=k1 rfl H' (Ext.refl _);let cc:=e.at a9;let b3:=e.at a6;clear k1 k a3 hc;simp! only[↓aN,↓aT]
  ·intro D2 H2 b1 e2 h2;rw[lT] at h2;let k2:=k D2 H2 (e1.free b1) (e1.trans e2) (by rw[h2,V1];rfl);clear k a3;ac_rfl
theorem Gj(xs:G B)(j:à)(z:B):(xs.map V.int).set j (.int z)=(xs.set j z).map V.int:=by
 rw[map_set]
def US(CS CV:Z):Sp:=λ vs H Q E=>∃ (s:Z) (v:Z) (p:Z),vs=[.ref s,.ref v,.ref p]/\(∃ (l:Z) (vals:G B) (room first:B) (axs:%[|48]) (ws:G B),cu CS H s l vals/\aW CV H v room first axs/\iA axs/\room=vals.length/\vals.length<=4096/\aw (axs.map λ a=>a.1)<=4096/\mq (aV first axs) vals.length/\H p=%[ws|46]/\p≠l/\(ws.length:B)=aw (axs.map λ a=>a.1)/\∀ H',(∀ H0,Ext H0 H->H0 l=Y->Ext H0 H')->(∀ b o,b≠l->H b=U o->H' b=U o)->H' l=U (.lst ((Uw vals (aV first axs) ws).map V.int))->Q .non H')
def UX:Ã := "abcdefghijklmnopqrstuvwxyz"
structure aB(x:Ã):Prop where
 asc:x.cps.all (· < 128)=L
 l1:1<=x.length
 l8:x.length<=8
 let':∀ c∈x.cps.toList,inS ⟨#[c]⟩ "abcdefghijklmnopqrstuvwxyz"=L
abbrev xR  (x:Ã) (H:Hp) (Q:VK) (E:XK):Prop:=aB x/\∀ H',Ext H H'->Q (.bl L) H'
def wB  : Sp:=λ vs H Q E=>∃ (x:Ã),vs=[.str x]/\(xR  x H Q E)
theorem qo  (x:Ã) (H:Hp) (Q:VK) (E:XK):wB  [.str x] H Q E=(xR  x H Q E):=jV (f:=λ (x:Ã)=>[.str x]) %[2,1|63] x
theorem ia(T:Tx K mg t):%[1,GZ|49] ["thing"] wB:=by
 refine %[GZ,sH,1|70]
 ·let(x,rfl,hx,k):=h;refine{_,%[%[(PW.pt %[%[%[%[isinstance,bF,%[0,%[(@dn _ _ (.ty "str") (.type "str") _ ∅ T.z_str nofun J ⋯ ⋯)|1]|1]|6]|26]|25],%[%[%[jh,99,%[len,aA,%[0|1]|6],%[(.int 8),_,_,T.m_MOST_LETTERS.choose_spec,{_,J}|35]|81]|25]|40]|36]),%[%[(@fq _ _ _ _)|12]|10],(@aj _)|14],%[%[%[all,dR,%[%[(["letter", "thing"]),(1),(aP (aa gu) ["thing"] J J nofun),(@wD _ _ _ _ %[0|0] ∅),%[%[(0),["letter", "thing"]|51]|72],%[(@aY _)|72],%[%[px,0,%[(.str "abcdefghijklmnopqrstuvwxyz"),_,_,T.m_LETTERS.choose_spec,{_,J}|35],(by with_unfolding_all rfl)|29]|72]|27]|1]|6]|12]|10]|9],?_};rw[%[["thing"],[.str x],0|53]];exists k;let n1:(1:B)<=(x.length:B):=by have:=hx.l1;omega
  let n8:(x.length:B)<=8:=by have:=hx.l8;omega
  let hlen:x.cps.toList.length<=8:=by have:=hx.l8;simpa [Str.length] using this
  ac_rfl;refine⟨ak (by have:=hx.l8;omega),x,J,hx.asc,?_⟩;refine bb x.cps.toList (λ _=>L) (λ _=>.bl L) (λ z v _=>v=sgn z) (kG x).1 (kG x).2 (ak %[|8]) ?_ ?_
  ·intro D z v H' N1 N0 hz hD e hv k1 _;subst hv;let a4:=hx.let' z hz;let a5:=k1 rfl H' (Ext.refl _);clear k1 k n1 n8 hz;unfold sgn;simp! only[↓aN,↓aT]
  intro D H1 hD e1 a3;rw[lT,show List.map (λ (_:à)=>V.bl L) x.cps.toList=(x.cps.toList.map λ _=>L).map V.bl from by rw[V1];rfl] at a3
  let hall:(x.cps.toList.map λ _=>L).all id=L:=by
   rw[Wc];intro b hb;let(_,_,rfl):=U8.mp hb;rfl
  let k2:=k () H1 e1;clear k;generalize (x.cps.toList.map λ _=>L)=bs at *;ac_rfl
def j2(st D Pp:Z):G (Ã × V):=bh "past" (V.ref Pp) (bh "views" (V.ref D) (bh "store" (V.ref st) []))
theorem bZ(st D Pp:Z):(j2 st D Pp).lookup ("store":Ã)=%[st|45]:=by
 unfold j2;rw[ae,if_neg nofun,ae,if_neg nofun,ae,if_pos J]
theorem aS(st D Pp:Z):(j2 st D Pp).lookup ("views":Ã)=%[D|45]:=by
 unfold j2;rw[ae,if_neg nofun,ae,if_pos J]
theorem aL(st D Pp:Z)(h:m∈([("call":Ã), "refuse_new", "names", "all_values", "changed_since", "do", "back"]:G Ã)):(j2 st D Pp).lookup m=Y:=by
 let n1:¬ m = "past":=by revert m;decide +kernel
 let n2:¬ m = "views":=by revert m;decide +kernel
 let n3:¬ m = "store":=by revert m;decide +kernel
 unfold j2;rw[ae,if_neg n1,ae,if_neg n2,ae,if_neg n3];rfl
structure NVw where
 nm:Ã
 ad:Z
 f:B
 A:%[|48]
def nvD(nv:G NVw):G (Key × V):=nv.map λ p=>(Sum.inr p.nm,V.ref p.ad)
structure ay(t:Adr)(H:Hp)(h st l D Pp:Z)(vals:G B)(nv:G NVw)(ps:G V):Prop where
 ob:∃ dx,H h=U (.ins t.a_aa1 dx (j2 st D Pp))
 so:cu t.a_Mb H st l vals
 dk:H D=U (.dK (nvD nv))
 pa:H Pp=U (.lst ps)
theorem ay.ext{nv:G NVw}{ps:G V}(a:ay t H h st l D Pp vals nv ps)(e:Ext H H'):ay t H' h st l D Pp vals nv ps:=by
 let((dx,h1),h2,h3,h4):=a;exact{⟨dx,e.at h1⟩,h2.ext e,e.at h3,e.at h4}
abbrev tD(t:Adr)(x:Z)(p:Z)(H:Hp)(Q:VK)(E:XK):Prop:=∃ (dx:Z) (vals:G B),H x=U (.ins t.a_aa1 dx [])/\H p=%[vals|46]/\1<=vals.length/\vals.length<=4096/\∀ (H':Hp) (st l D Pp:Z),(∀ H0,Ext H0 H->H0 x=Y->Ext H0 H')->H st=Y->H l=Y->H D=Y->H Pp=Y->l≠Pp->ay t H' x st l D Pp vals [] []->Q .non H'
def uT(t:Adr):Sp:=λ vs H Q E=>∃ (x:Z) (p:Z),vs=[.ref x,.ref p]/\(tD t x p H Q E)
theorem sF(t:Adr)(x:Z)(p:Z)(H:Hp)(Q:VK)(E:XK):uT t [.ref x,.ref p] H Q E=(tD t x p H Q E):=jb (f:=λ (x:Z) (p:Z)=>[.ref x,.ref p]) %[4,2|63] x p
theorem lj(T:Tx K mg t):%[6,yX|49] %[|131] (uT t):=by
 intros yR kr;refine %[yX,nK,2|70]
 ·let(x,p,rfl,dx,vals,hx,hp,cV,cZ,k):=h;let c1:=T.qA0;let c2:=T.qA8;let c3:=T.qA3;let c4:=T.qCx;refine{_,%[%[0,%[qDm,yR,m_Mb,av,%[1|1]|62]|30],%[%[0,(@FR _ _)|30],%[%[0,%[(@eB _)|23]|30]|10]|9]|9],?_};rw[%[%[|131],[.ref x,.ref p],0|53]];clear G_yR;exists k;ac_rfl;intro st b1 G1 a4 c0 c5 gs ks c6;rw[Es];refine{b1,vals,ks,gs.at hp,cV,cZ,λ H1 l hE hl cg ck=>?_};let e1:=hE H gs a4;let c7:=e1.at hx;let b3:H l=Y:=gs.free hl;let b5:l≠x:=λ z=>by rw[z,hx] at b3;cases b3
  let b6:st≠x:=λ z=>by rw[z,hx] at a4;cases a4
  let dv:st≠l:=λ z=>by rw[z] at ks;rw[hl] at ks;cases ks
  clear ks c6 hE c5 c0 gs hl;ac_rfl;let b8:upd H1 x (.ins t.a_aa1 dx (bh "store" (V.ref st) [])) x=U (.ins t.a_aa1 dx (bh "store" (V.ref st) [])):=ag;let a5:upd H1 x (.ins t.a_aa1 dx (bh "store" (V.ref st) [])) st=U (.ins t.a_Mb b1 (kI l)):=(ah b6).trans cg;let a6:upd H1 x (.ins t.a_aa1 dx (bh "store" (V.ref st) [])) l=%[vals|46]:=(ah b5).trans ck;let b2:∀ H0,Ext H0 H->H0 x=Y->Ext H0 (upd H1 x (.ins t.a_aa1 dx (bh "store" (V.ref st) []))):=λ H0 q0 q1=>(q0.trans e1).put q1
  let f2:∀ y,upd H1 x (.ins t.a_aa1 dx (bh "store" (V.ref st) [])) y=Y->H y=Y:=λ y hy=>by
   refine e1.free ?_
   by_cases hyx:y=x
   ·rw[hyx,ag] at hy;cases hy
   ·rwa [ah hyx] at hy
  generalize upd H1 x (.ins t.a_aa1 dx (bh "store" (V.ref st) []))=H2 at *;exists b2;exists f2;clear cg ck e1 c7;intro D H3 hD e3 cm;let c8:=e3.at b8;let a7:=e3.at a5;let a8:=e3.at a6;let c9:=f2 () D hD;let cv:D≠x:=λ z=>by rw[z] at hD;rw[b8] at hD;cases hD
  let f3:∀ y,H3 y=Y->H y=Y:=λ y hy=>f2 () y (e3.free hy);exists f3;clear b8 a5 a6 hD;ac_rfl;let cc:upd H3 x (.ins t.a_aa1 dx (bh "views" (V.ref D) (bh "store" (V.ref st) []))) x=U (.ins t.a_aa1 dx (bh "views" (V.ref D) (bh "store" (V.ref st) []))):=ag;let a9:=(show upd H3 x (.ins t.a_aa1 dx (bh "views" (V.ref D) (bh "store" (V.ref st) []))) st=_ from ah b6).trans a7;let a3:=(show upd H3 x (.ins t.a_aa1 dx (bh "views" (V.ref D) (bh "store" (V.ref st) []))) l=_ from ah b5).trans a8;let cx:=(show upd H3 x (.ins t.a_aa1 dx (bh "views" (V.ref D) (bh "store" (V.ref st) []))) D=_ from ah cv).trans cm;let b4:∀ H0,Ext H0 H->H0 x=Y->Ext H0 (upd H3 x (.ins t.a_aa1 dx (bh "views" (V.ref D) (bh "store" (V.ref st) [])))):=λ H0 q0 q1=>((b2 () H0 q0 q1).trans e3).put q1
  let f4:∀ y,upd H3 x (.ins t.a_aa1 dx (bh "views" (V.ref D) (bh "store" (V.ref st) []))) y=Y->H y=Y:=λ y hy=>by
   refine f3 () y ?_
   by_cases hyx:y=x
   ·rw[hyx,ag] at hy;cases hy
   ·rwa [ah hyx] at hy
  generalize upd H3 x (.ins t.a_aa1 dx (bh "views" (V.ref D) (bh "store" (V.ref st) [])))=H4 at *;exists b4;exists f4;clear c8 a7 a8 cm;refine{(show 1<1000 by decide),?_};intro Pp H5 hP e5 dc;let dy:=e5.at cc;let cH:=e5.at a9;let cT:=e5.at a3;let de:=e5.at cx;let dh:=f4 () Pp hP;let dm:Pp≠x:=λ z=>by rw[z] at hP;rw[cc] at hP;cases hP
  let dr:l≠Pp:=λ z=>by rw[←z] at hP;rw[a3] at hP;cases hP
  clear cc a9 a3 cx hP;ac_rfl
  try refine{(show 2<1000 by decide),?_}
  exact k () _ st l D Pp (λ H0 q0 q1=>((b4 () H0 q0 q1).trans e5).put q1) a4 b3 c9 dh dr {⟨dx,ag⟩,{⟨b1,by rw[ah b6];exact cH⟩,by rw[ah b5];exact cT},by rw[ah cv];exact de,by rw[ah dm];exact dc}
abbrev xV(t:Adr)(h:Z)(x:Ã)(H:Hp)(Q:VK)(E:XK):Prop:=∃ (st l D Pp:Z) (vals:G B) (nv:G NVw) (ps:G V),ay t H h st l D Pp vals nv ps/\aB x/\(∀ p∈nv,p.nm≠x)/\∀ H',Ext H H'->Q .non H'
def AI(t:Adr):Sp:=λ vs H Q E=>∃ (h:Z) (x:Ã),vs=[.ref h,.str x]/\(xV t h x H Q E)
theorem gZ(t:Adr)(h:Z)(x:Ã)(H:Hp)(Q:VK)(E:XK):AI t [.ref h,.str x] H Q E=(xV t h x H Q E):=jb (f:=λ (h:Z) (x:Ã)=>[.ref h,.str x]) %[4,2|63] h x
theorem IT{nv:G NVw}{x:Ã}(h:∀ p∈nv,p.nm≠x):nL (nvD nv) (Sum.inr x)=Y:=by
 induction nv with
 | nil=>rfl
 | cons p r ih=>
  show nL ((Sum.inr p.nm,V.ref p.ad)::nvD r) (Sum.inr x)=Y
  rw[jo (λ e=>h p Vq (X3 e)),ih λ q hq=>h q (Vb _ hq)]
theorem aR(T:Tx K mg t):%[2,vK|49] %[|102] (AI t):=by
 intros GZ ia;refine %[vK,cW,2|70]
 ·let(h,x,rfl,st,l,D,Pp,vals,nv,ps,ha,hn,a3,k):=h;let c1:=T.qA0;let c2:=T.qA3;let f1:=aS st D Pp;refine{_,%[%[%[%[%[GZ,%[1|1]|3]|26]|25],%[(@bU _ _)|10],(@aj _)|14],%[%[%[(A3 (gi hr.units)),1,%[0|15],(by with_unfolding_all rfl)|13],%[(@bU _ _)|10],(@aj _)|14]|10]|9],?_};rw[%[%[|102],[.ref h,.str x],0|53]];clear G_GZ;exists k;ac_rfl;rw[qo];refine{hn,λ H1 e1=>?_};let((dx,h1),_,h3,_):=ha.ext e1;let hv:=IT a3;ac_rfl;refine wy (k:=Sum.inr x) h3 ?_;let k2:=k () H1 e1;rw[hv];clear k h3;ac_rfl
def AJ(t:Adr):Sp:=λ vs H Q E=>∃ (h:Z),vs=[.ref h]/\(∃ (st l D Pp:Z) (vals:G B) (nv:G NVw) (ps:G V),ay t H h st l D Pp vals nv ps/\vals.length<=4096/\∀ (r:Z) (H':Hp),H r=Y->Ext H H'->H' r=%[vals|46]->Q (.ref r) H')
theorem xB(t:Adr)(h:Z)(H:Hp)(Q:VK)(E:XK):AJ t [.ref h] H Q E=(∃ (st l D Pp:Z) (vals:G B) (nv:G NVw) (ps:G V),ay t H h st l D Pp vals nv ps/\vals.length<=4096/\∀ (r:Z) (H':Hp),H r=Y->Ext H H'->H' r=%[vals|46]->Q (.ref r) H'):=jV (f:=λ (h:Z)=>[.ref h]) %[2,1|63] h
theorem jQ(T:Tx K mg t):%[2,vL|49] ["self"] (AJ t):=by
 intros tW i8;refine %[vL,kD,1|70]
 ·let(h,rfl,st,l,D,Pp,vals,nv,ps,ha,hv,k):=h;let c1:=T.qA0;let c2:=T.qA8;let c3:=T.qA5;let f1:=bZ st D Pp;let m1:=df l (m := "all_values") nofun;let((dx,h1),so,_,_):=ha;let(a5,hs):=so.ob;refine{_,%[%[%[%[0|15],qA5,qBb,tW,av|61]|12]|10],?_};rw[%[["self"],[.ref h],0|53]];clear G_tW;exists k;exists so;ac_rfl;rw[HY];refine{l,vals,so (),hv,λ r H1 a3 e1 a4=>?_};let k2:=k () r H1 a3 e1 a4;clear k;ac_rfl
theorem Ga{nv:G NVw}{p:NVw}(h:∀ q∈nv,q.nm≠p.nm):wq (nvD nv) (Sum.inr p.nm) (.ref p.ad)=nvD (nv++[p]):=by
 unfold wq;rw[if_neg]
 ·unfold nvD;rw[map_append];rfl
 ·intro ha;rw[List.any_eq_true] at ha;let(kv,hk,he):=ha;let(q,hq,rfl):=U8.mp hk;exact h q hq (X3 (WZ he))
def pf(t:Adr):Sp:=λ vs H Q E=>∃ (h:Z) (x:Ã) (v:Z),vs=[.ref h,.str x,.ref v]/\(∃ (st l D Pp:Z) (vals:G B) (nv:G NVw) (ps:G V) (f:B) (A:%[|48]),ay t H h st l D Pp vals nv ps/\aB x/\(∀ p∈nv,p.nm≠x)/\nv.length<=100/\aW t.a_aa0 H v vals.length f A/\iA A/\aw (A.map λ a=>a.1)<=4096/\∀ H',(∀ H0,Ext H0 H->H0 D=Y->Ext H0 H')->(∀ b o,b≠D->H b=U o->H' b=U o)->H' D=U (.dK (nvD (nv++[⟨x,v,f,A⟩])))->Q .non H')
theorem sG(t:Adr)(h:Z)(x:Ã)(v:Z)(H:Hp)(Q:VK)(E:XK):pf t [.ref h,.str x,.ref v] H Q E=(∃ (st l D Pp:Z) (vals:G B) (nv:G NVw) (ps:G V) (f:B) (A:%[|48]),ay t H h st l D Pp vals nv ps/\aB x/\(∀ p∈nv,p.nm≠x)/\nv.length<=100/\aW t.a_aa0 H v vals.length f A/\iA A/\aw (A.map λ a=>a.1)<=4096/\∀ H',(∀ H0,Ext H0 H->H0 D=Y->Ext H0 H')->(∀ b o,b≠D->H b=U o->H' b=U o)->H' D=U (.dK (nvD (nv++[⟨x,v,f,A⟩])))->Q .non H'):=EK (f:=λ (h:Z) (x:Ã) (v:Z)=>[.ref h,.str x,.ref v]) %[6,3|63] h x v
theorem gM(T:Tx K mg t):%[4,DL|49] %[|106] (pf t):=by
 intros vK aR oG bu zk bT Du cz;refine T.F_DL.ok fH (λ _ _ _ _ h=>ud h λ _ _ _=>J) (λ cdv A' outer s H vs Q E hr h=>?_)
 ·let(h,x,v,rfl,st,l,D,Pp,vals,nv,ps,f,A,ha,hn,a5,hl,vo,a6,a8,k):=h;let c1:=T.qA0;let c2:=T.qA8;let c3:=T.qA3;let c4:=T.qA5;let c5:=T.qA1;let f1:=bZ st D Pp;let f2:=aS st D Pp;let f3:=aL st D Pp (m := "refuse_new") nofun;let m1:=df l (m := "refuse_room") nofun;let(dx,h1):=ha.ob;refine{_,%[%[%[%[0|0],qA0,qA2,vK,av,%[1|1]|60]|16],%[%[%[%[0|15],qA5,qA7,oG,av,%[2|1]|60]|16],%[%[%[zk,%[%[%[2|0],qA1,qAh,Du,av|61]|1]|3]|16],%[(@pw _ _ _ _ _ _ _ _ _ (gi hr.units) %[0|15] %[1|0] %[2|0] rfl)|10]|9]|9]|9],?_};rw[%[%[|106],[.ref h,.str x,.ref v],0|53]];clear G_vK G_oG G_zk G_Du;exists k;exists ha;ac_rfl;rw[gZ];refine{st,l,D,Pp,vals,nv,ps,ha (),hn,a5,λ H1 e1=>?_};let g1:=e1.at h1;let a3:=vo.ext e1;let a4:=(ha ()).ext e1;let(a9,hs):=a4.so.ob;let(dv,Dv,hv,_):=a3.ob;let m2:=lD (vals.length:B) f Dv (m := "count") nofun;exists a4;exists a3;clear h1;ac_rfl;rw[xA];refine{l,vals,_,f,A,(a4 ()).so,a3 (),J,?_};ac_rfl;rw[km];refine{_,f,A,a3 (),a6,λ H2 e2=>?_};let g2:=e2.at g1;let hd2:=e2.at (a4 ()).dk;clear g1 hs hv;ac_rfl;rw[qp];refine{λ _=>?_,λ h=>Þ h %[|8]};ac_rfl;refine Oc (k:=Sum.inr x) hd2 (jk (by unfold nvD;rw[length_map];omega)) ?_;rw[Ga (p:={(x),v,f,A}) a5];exact k () _ (λ H0 q0 q1=>((q0.trans e1).trans e2).put q1) (λ b o hb a7=>by rw[ah hb];exact e2.at (e1.at a7)) ag
theorem Ef{first:B}{axs:%[|48]}{M:B}(h:∀ a∈axs,1<=a.1/\a.1<=1000000000)(hM:M∈aV first axs):first+aF axs<=M/\M<=first+aG axs:=by
 let(xs,hx,e):=(zz _ _ _).mp hM;let b:=mY axs xs hx;omega
theorem OT(x:B):(if x<0 then x else 0)=min 0 x:=by split<;>omega
theorem OU(x:B):(if 0<x then x else 0)=max 0 x:=by split<;>omega
def rn(H:Hp)(q:Z)(n f:B)(A:%[|48]):Prop:=∃ D,H q=U (.tup [.int n,.int f,.ref D])/\bM H D (axL A)
theorem rn.ext{q:Z}{f:B}{A:%[|48]}(h:rn H q n f A)(e:Ext H H'):rn H' q n f A:=by
 let(D,h1,h2):=h;exact{D,e.at h1,h2.ext e}
structure LkI(room:B)(A:%[|48]):Prop where
 sz:∀ a∈A,(1:B)<=a.1/\a.1<=4/\bE a=a
 sp:aG A - aF A<room
 lo:aF A<=0
 hi:0<=aG A
structure fm(n f:B)(A:%[|48]):Prop where
 len:A.length<=3
 sz:∀ a∈A,(1:B)<=a.1/\a.1<=4/\bE a=a
 lo:0<=f+aF A
 hi:f+aG A<n
theorem fm.kp{f:B}{A:%[|48]}(h:fm n f A):A.map bE=A:=by
 have:∀ wv:%[|48],(∀ a∈wv,bE a=a)->wv.map bE=wv:=by
  intro wv
  induction wv with
  | nil=>intro _;rfl
  | cons b r ih=>intro hb;rw[Vs,hb b Vq,ih λ a ha=>hb a (Vb _ ha)]
 exact this A λ a ha=>(h.sz a ha).2.2
theorem fm.ax{f:B}{A:%[|48]}(h:fm n f A):iA A:=⟨by have:=h.len;omega,λ a ha=>by have:=h.sz a ha;omega⟩
theorem fm.pr{f:B}{A:%[|48]}(h:fm n f A):aw (A.map λ a=>a.1)<=64:=by
 let(hl,hs,_,_):=h
 match A,hl,hs with
 | [],_,_=>decide
 | [a],_,hs=>
  have:=hs a (by simp)
  show a.1 * 1<=64
  omega
 | [a,b],_,hs=>
  let h1:=hs a (by simp);let h2:=hs b (by simp)
  show a.1 * (b.1 * 1)<=64
  have:a.1 * (b.1 * 1)<=4 * 4:=W2 h1.2.1 %[|8] %[|8] ⋯;omega
 | [a,b,c],_,hs=>
  let h1:=hs a (by simp);let h2:=hs b (by simp);let h3:=hs c (by simp)
  show a.1 * (b.1 * (c.1 * 1))<=64
  let e1:b.1 * (c.1 * 1)<=4 * 4:=W2 h2.2.1 %[|8] %[|8] ⋯;let e0:0<=b.1 * (c.1 * 1):=Int.mul_nonneg %[|8] %[|8];have:a.1 * (b.1 * (c.1 * 1))<=4 * 16:=W2 h1.2.1 %[|8] e0 ⋯;omega
theorem fm.on{f:B}{A:%[|48]}(h:fm n f A){m:à}(hm:n=(m:B)):mq (aV f A) m:=λ c hc=>by
 have:=Ef h.ax.2 hc;let h1:=h.lo;let h2:=h.hi;omega
theorem LkI.snoc{A:%[|48]}{m p b:B}(h:LkI room A)(m1:1<=m)(m4:m<=4)(p1:-4<=p)(p4:p<=4)(hb:b=if 1<m then 1 else 0)(hc:aG A - aF A+(if p<0 then -p else p) * (m - 1)<room) :
  LkI room (A++[(m,p * b)])/\aF (A++[(m,p * b)])=aF A+min 0 (p * (m - 1))/\aG (A++[(m,p * b)])=aG A+max 0 (p * (m - 1)):=by
 let(hs,a5,a6,a7):=h;let e1:=vH A (m,p * b);let e2:=vO A (m,p * b)
 let hk:bE (m,p * b)=(m,p * b):=by
  unfold bE
  show (m,if m > 1 then p * b else 0)=(m,p * b)
  by_cases h1:m > 1
  ·rw[Ve h1]
  ·rw[U7 h1,hb,U7 h1,XR]
 let hmul:p * b * (m - 1)=p * (m - 1):=by
  by_cases h1:1<m
  ·rw[hb,Ve h1,Int.mul_one]
  ·rw[hb,U7 h1,XR,Int.zero_mul,show m - 1=0 by omega,XR]
 let a3:aF (A++[(m,p * b)])=aF A+min 0 (p * (m - 1)):=by rw[e1];show _+min 0 (p * b * (m - 1))=_;rw[hmul]
 let a4:aG (A++[(m,p * b)])=aG A+max 0 (p * (m - 1)):=by rw[e2];show _+max 0 (p * b * (m - 1))=_;rw[hmul]
 refine{⟨λ a ha=>?_,?_,?_,?_⟩,a3,a4}
 ·rcases VI.mp ha with ha|ha
  ·exact hs a ha
  ·rw[Vh.mp ha];exact{(m1),m4,hk}
 ·rw[a3,a4];obtain rfl|rfl|rfl|rfl:m=1\/m=2\/m=3\/m=4:=by omega
  all_goals (split at hc<;>omega)
 ·rw[a3];omega
 ·rw[a4];omega
abbrev xT  (c:B) (room:B) (l:Z) (H:Hp) (Q:VK) (E:XK):Prop:=∃ ms:G B,H l=%[ms|46]/\ms.length<=3/\(∀ m∈ms,(1:B)<=m/\m<=4)/\0<=c/\1<=room/\room<=63/\∀ (q D:Z) (f:B) (A:%[|48]) (H':Hp),Ext H H'->H q=Y->H D=Y->H' q=U (.tup [.int room,.int f,.ref D])->bM H' D (axL A)->(A.map λ a=>a.1)=ms->fm room f A->Q (.ref q) H'
def AF  : Sp:=λ vs H Q E=>∃ (c:B) (room:B) (l:Z),vs=[.int c,.int room,.ref l]/\(xT  c room l H Q E)
theorem HS  (c:B) (room:B) (l:Z) (H:Hp) (Q:VK) (E:XK):AF  [.int c,.int room,.ref l] H Q E=(xT  c room l H Q E):=EK (f:=λ (c:B) (room:B) (l:Z)=>[.int c,.int room,.ref l]) %[6,3|63] c room l
theorem tM(T:Tx K mg t):%[1,GI|49] ["_law_cell", "_law_room", "_law_sizes"] AF:=by
 refine T.F_GI.ok br (λ _ _ _ _ h=>ud h λ _ _ _=>J) (λ cdv A' outer s H vs Q E hr h=>?_)
 ·let(c,room,l,rfl,ms,hl,b1,a6,a3,r1,b2,k):=h;refine{_,%[%[3,br,%[(@eB _)|23]|4],%[%[4,br,99|4],%[%[5,br,99|4],%[%[V2,%[2|28],%[6,br|5],%[%[7,br,%[dB,%[bP,0,99|11],99|11]|4],%[%[0,br,%[bY,0,99|11]|4],%[%[%[ND,%[aI,%[dB,5,4|11],%[eW,%[abs,Ei,%[7|1]|6],%[dB,6,99|11]|11]|11],1,(ai _)|13],%[%[7,br,99|4]|10],(@aj _)|14],%[%[4,br,%[aI,4,%[min,(mL J),%[99,%[%[eW,7,%[dB,6,99|11]|11]|1]|1]|6]|11]|4],%[%[5,br,%[aI,5,%[max,(jw J),%[99,%[%[eW,7,%[dB,6,99|11]|11]|1]|1]|6]|11]|4],%[%[%[Vn,VO,VN,cw,3,%[%[%[6,%[%[eW,7,%[Eh,T.z_int,%[%[iI,6,99,(ai _)|29]|1]|32]|11]|1]|1]|19]|1]|41]|16]|10]|9]|9]|9]|9]|9]|43],%[%[%[%[1,%[%[dB,%[bP,0,%[aI,%[dB,1,5|11],4|11]|11],4|11],%[3|1]|1]|1]|19]|12]|10]|9]|9]|9]|9],?_};rw[%[["_law_cell", "_law_room", "_law_sizes", "_law_axes", "_law_low", "_law_high", "_law_size", "_law_pace"],[.int c,.int room,.ref l],5|53]];exists k;ac_rfl;intro D H1 hD e1 h1;ac_rfl;refine iM (xs:=ms.map V.int) (λ i σ H'=>∃ (c:B) (A:%[|48]) (ys:G V) (v6 v7:Ü V),σ=[%[c|47],%[room|47],%[l|45],%[D|45],U (.int (aF A)),U (.int (aG A)),v6,v7]/\0<=c/\Ext H H'/\H' D=U (.lst ys)/\Al (og H') (axL A) ys/\(A.map λ a=>a.1)=ms.take i/\LkI room A) ⟨c,[],[],_,_,J,a3,e1,h1,Al.nil,J,{(λ _ h=>by cases h),(by show (0:B) - 0<room;omega),XC _,XC _}⟩ (λ i σ H' _ ⟨_,_,_,_,_,_,_,e,_⟩=>e.at hl) ?_ ?_
  ·rintro i x _ H2 hi ⟨c,A,ys,v6,v7,rfl,a3,e2,h2,al,hA,lk⟩;rw[Vd] at hi;let(m,hm,rfl):=Vf.mp hi;let(m1,m4):=a6 m (Vx hm);let p1:-4<=c % 9 - 4:=by omega
   let p4:c % 9 - 4<=4:=by omega
   clear hi h1
   let b3:ys.length<Æ:=jk (by
    have:=congrArg List.length hA;rw[length_map,length_take] at this;rw[al.1];unfold axL;rw[length_map];omega)
   exists hA;exists al;exists lk;exists hm;simp! only[↓cn];simp only[OT,OU];refine{.inl {by split<;>omega,by split<;>omega},?_}
   have fin:∀ (p:B) (t1:Z) (H3:Hp),Ext H2 H3->H3 t1=U (.tup [.int m,.int (p * if 1<m then 1 else 0)])->-4<=p->p<=4->aG A - aF A+(if p<0 then -p else p) * (m - 1)<room →
     ∃ (c':B) (A':%[|48]) (a4:G V) (v6 v7:Ü V),[U (V.int (c / 9)),%[room|47],%[l|45],%[D|45],U (.int (aF A+min 0 (p * (m - 1)))),U (.int (aG A+max 0 (p * (m - 1)))),%[m|47],%[p|47]]=[%[c'|47],%[room|47],%[l|45],%[D|45],U (.int (aF A')),U (.int (aG A')),v6,v7]/\0<=c'/\Ext H (upd H3 D (.lst (ys++[.ref t1])))/\U (HO.lst (ys++[V.ref t1]))=U (HO.lst a4)/\Al (og (upd H3 D (.lst (ys++[.ref t1])))) (axL A') a4/\(A'.map λ a=>a.1)=ms.take (i+1)/\LkI room A':=λ p t1 H3 e3 h3 p1 p4 hc=>by
    let(l1,l2,l3):=(lk ()).snoc m1 m4 p1 p4 J hc;refine{c / 9,_,_,_,_,by rw[l2,l3],by omega,(e2.trans e3).put hD,J,?_,?_,l1}
    ·let a7:=e3.at h2;let a8:Al (og H3) (axL A) ys:=(al ()).imp λ z y q=>q.ext e3;unfold axL;rw[map_append];exact(a8.snoc (show og H3 [m,p * if 1<m then 1 else 0] (.ref t1) from {(t1),J,h3})).imp λ z y q=>q.upd a7
    ·rw[Vw,hA (),Xc,hm ()];rfl
   by_cases hcond:room<=aG A - aF A+(if c % 9 - 4<0 then -(c % 9 - 4) else c % 9 - 4) * (m - 1)
   ·rw[Ve hcond];intro t1 H3 _ e3 h3;let a5:=e3.at h2;let f2:=fin 0 t1 H3 e3 h3 ⋯ ⋯ (by have:=(lk ()).sp;simp;omega);exists f2;clear fin h2 k hcond;ac_rfl;exact f2 ()
   ·rw[U7 hcond];refine{.inl {by omega,by omega},.inl {by omega,by omega},.inl {by omega,by omega},?_};intro t1 H3 _ e3 h3;let a5:=e3.at h2;let f2:=fin _ t1 H3 e3 h3 p1 p4 %[|8];exists f2;clear fin h2 k hcond;ac_rfl;exact f2 ()
  ·rintro _ H2 ⟨c,A,ys,v6,v7,rfl,a3,e2,h2,al,hA,lk⟩;rw[U2,Wy] at hA;let hd:0<room - aG A+aF A:=by have:=lk.sp;omega
   let d0:=Wo c (show room - aG A+aF A≠0 by omega);let d1:=Wl c hd;let a9:A.length<=3:=by have:=VQ List.length hA;rw[U2] at this;omega
   exists al;exists hA;exists lk;clear h1;ac_rfl;intro q H3 hq e3 h3;exact k () q D _ A H3 (e2.trans e3) (e2.free hq) hD h3 {ys,e3.at h2,(al ()).imp λ z y r=>r.ext e3} (hA ()) {a9,(lk ()).sz,by have:=(lk ()).hi;omega,by omega}
def cj(S:G Z)(H:Hp):Hp:=λ b=>if b∈S then Y else H b
def ug(S:G Z)(H:Hp):Prop:=∀ s∈S,(∃ xs,H s=U (.lst xs))\/∃ d,H s=U (.dK d)
theorem ug.ext(h:ug S H)(e:Ext H H'):ug S H':=λ s hs=>by
 rcases h s hs with ⟨xs,hx⟩|⟨xs,hx⟩
 ·exact .inl {xs,e.at hx}
 ·exact .inr {xs,e.at hx}
theorem az(S:G Z)(H:Hp):Ext (cj S H) H:=nM.ext λ b o h=>by
 unfold cj at h
 by_cases hb:b∈S
 ·rw[Ve hb] at h;cases h
 ·rwa [U7 hb] at h
theorem cq(e:Ext H H'):Ext (cj S H) (cj S H'):=nM.ext λ b o h=>by
 unfold cj at h ⊢
 by_cases hb:b∈S
 ·rw[Ve hb] at h;cases h
 ·rw[U7 hb] at h ⊢;exact e.at h
def mm{b:Z}(h:b∈S):cj S H b=Y:=Ve h
theorem ml{b:Z}(hS:ug S H)(hn:H b=Y)(h:H' b=U o):cj S H' b=U o:=by
 unfold cj;rw[if_neg]
 ·exact h
 ·intro hb
  rcases hS b hb with ⟨xs,hx⟩|⟨xs,hx⟩
  ·rw[hn] at hx;cases hx
  ·rw[hn] at hx;cases hx
theorem cp{b:Z}(hS:ug S H)(h:H b=U o)(hn:∀ xs,o ≠ .lst xs)(hd:∀ d,o ≠ .dK d:=by intro _ h;cases h):cj S H b=U o:=by
 unfold cj;rw[if_neg]
 ·exact h
 ·intro hb
  rcases hS b hb with ⟨xs,hx⟩|⟨xs,hx⟩
  ·rw[h] at hx;cases hx;exact hn xs J
  ·rw[h] at hx;cases hx;exact hd xs J
theorem cX{zs:G (G B)}(hS:ug S H)(e:Ext H H')(hn:H D=Y)(h:bM H' D zs):bM (cj S H') D zs:=by
 let(ys,h1,h2):=h;exact{ys,ml hS hn h1,h2.imp λ z y ⟨q,a1,a2⟩=>{q,a1,cp (hS.ext e) a2 (λ _ h=>by cases h)}}
theorem mx:∀ l:%[|48],(∀ a∈l,(1:B)<=a.1)->aF (l.map bE)=aF l/\aG (l.map bE)=aG l
 | [],_=>{(J),J}
 | a::r,h=>by
  let(i1,i2):=mx r λ b hb=>h b (Vb _ hb);let ha:=h a Vq
  let e:((bE a).1 - 1) * (bE a).2=(a.1 - 1) * a.2:=by
   show (a.1 - 1) * (if a.1 > 1 then a.2 else 0)=_
   split
   ·rfl
   ·have:a.1=1:=by omega
    rw[this];simp
  rw[Vs,aC,aD,aC,aD,e,i1,i2];exact{(J),J}
def SzQ(ms:G B):Prop:=∀ m∈ms,(1:B)<=m/\m<=4
theorem SzQ.snoc{j:B}(h:SzQ ms)(h1:1<=j)(h2:j<=4):SzQ (ms++[j]):=λ m hm=>by
 rcases VI.mp hm with hm|hm
 ·exact h m hm
 ·rw[Vh.mp hm];exact{(h1),h2}
def uI  : Sp:=λ vs H Q E=>∃ (c:B) (room:B),vs=[.int c,.int room]/\(0<=c/\1<=room/\room<=63/\∀ (q D:Z) (f:B) (A:%[|48]) (H':Hp),Ext H H'->H q=Y->H D=Y->H' q=U (.tup [.int room,.int f,.ref D])->bM H' D (axL A)->fm room f A->Q (.ref q) H')
theorem sA  (c:B) (room:B) (H:Hp) (Q:VK) (E:XK):uI  [.int c,.int room] H Q E=(0<=c/\1<=room/\room<=63/\∀ (q D:Z) (f:B) (A:%[|48]) (H':Hp),Ext H H'->H q=Y->H D=Y->H' q=U (.tup [.int room,.int f,.ref D])->bM H' D (axL A)->fm room f A->Q (.ref q) H'):=jb (f:=λ (c:B) (room:B)=>[.int c,.int room]) %[4,2|63] c room
theorem qx(T:Tx K mg t):%[2,DE|49] ["_law_cell", "_law_room"] uI:=by
 intros GI tM;refine T.F_DE.ok eM (λ _ _ _ _ h=>fT h λ _ _=>J) (λ cdv A' outer s H vs Q E hr h=>?_)
 ·let(c,room,rfl,a3,r1,a5,k):=h;refine{_,%[%[2,eM,%[(@eB _)|23]|4],%[%[V2,%[T.z_range,%[%[bP,0,99|11]|1]|79],%[3,eM|5],%[%[%[Vn,VO,VN,cw,2,%[%[aI,99,%[bP,%[bY,0,99|11],99|11]|11]|1]|41]|16],%[%[0,eM,%[bY,0,99|11]|4]|10]|9]|43],%[%[%[GI,%[%[bY,0,99|11],%[1,%[2|1]|1]|1]|3]|12]|10]|9]|9],?_};rw[%[["_law_cell", "_law_room", "_law_sizes", "_law_k"],[.int c,.int room],2|53]];clear G_GI;exists k;ac_rfl;intro xL H1 hL e1 h1;let a6:0<=c % 4/\c % 4<4:=by omega
  generalize hz:c % 4=z at a6;clear hz;ac_rfl;refine{by omega,by omega,?_};refine u9 (λ i σ H'=>∃ (c:B) (ms:G B) (v3:Ü V),σ=[%[c|47],%[room|47],%[xL|45],v3]/\0<=c/\Ext H H'/\H' xL=%[ms|46]/\ms.length<=i/\SzQ ms) {c,[],_,J,a3,e1,h1,U6 _,(λ _ h=>by cases h)} ?_ ?_
  ·rintro i _ H2 hi ⟨c,ms,v3,rfl,a3,e2,h2,a7,a4⟩;let a8:ms.length<Æ:=jk %[|8];clear h1 k;simp! only[↓cn];exact{c / 4,ms++[1+c / 4 % 4],_,J,by omega,e2.put hL,by rw[Vw];rfl,by simp;omega,a4.snoc %[|8] %[|8]}
  ·rintro _ H2 ⟨c,ms,v3,rfl,a3,e2,h2,a7,a4⟩;clear h1;ac_rfl;rw[HS];refine{ms,h2,by omega,a4,by omega,r1,a5,λ q D f A H3 e3 hq hD h3 t3 _ pk=>?_};let k2:=k () q D f A H3 (e2.trans e3) (e2.free hq) (e2.free hD) h3 t3 pk;clear k;ac_rfl
abbrev oV  (q:Z) (H:Hp) (Q:VK) (E:XK):Prop:=∃ (n f:B) (A:%[|48]),rn H q n f A/\fm n f A/\∀ (r:Z) (H':Hp),H r=Y->Ext H H'->H' r=U (.lst ((aV f A).map V.int))->Q (.ref r) H'
def pN  : Sp:=λ vs H Q E=>∃ (q:Z),vs=[.ref q]/\(oV  q H Q E)
theorem zF  (q:Z) (H:Hp) (Q:VK) (E:XK):pN  [.ref q] H Q E=(oV  q H Q E):=jV (f:=λ (q:Z)=>[.ref q]) %[2,1|63] q
theorem qy(T:Tx K mg t):%[1,DF|49] %[|126] pN:=by
 refine T.F_DF.ok bB (λ _ _ _ _ h=>jW h λ _=>J) (λ cdv A' outer s H vs Q E hr h=>?_)
 ·let(q0,rfl,n,first,axs,(l,b4,ys,hl,al),pk,k):=h;refine{_,%[%[1,bB,%[%[%[eA,0,99|17]|1]|23]|4],%[%[V2,%[%[eA,0,99|17]|28],(%[(2),%[%[2,bB|5],%[%[3,bB|5],(@bD _)|22]|22]|39].mono λ _ _ _ _ h=>dI h),%[%[4,bB,%[(@eB _)|23]|4],%[%[V2,%[1|28],%[5,bB|5],%[%[V2,%[T.z_range,%[2|1]|79],%[6,bB|5],%[%[%[Vn,VO,VN,cw,4,%[%[aI,5,%[eW,6,3|11]|11]|1]|41]|16]|10]|43]|10]|43],%[%[1,bB,4|4]|10]|9]|9]|43],%[%[1|12]|10]|9]|9],?_};rw[%[["_law_parts_here", "_law_found", "_law_size", "_law_pace", "_law_longer", "_law_cell", "_law_number"],[.ref q0],6|53]];exists k;let b5:=pk.ax;let cT:=pk.pr;ac_rfl;intro r H1 b6 e1 h1;let b8:=e1.at hl;let cc:=e1.at b4;let a3:∀ a∈axs,(1:B)<=a.1:=λ a ha=>(b5.2 a ha).1;let a5:=pk.sz;exists a3;exists a5;ac_rfl;refine iM (xs:=ys) (λ i σ H'=>∃ (r:Z) (v2 v3 v4 v5 v6:Ü V),σ=[%[q0|45],%[r|45],v2,v3,v4,v5,v6]/\Ext H H'/\H r=Y/\H' r=U (.lst ((aV first (axs.take i)).map V.int))) ⟨r,Y,Y,Y,Y,Y,J,e1,b6,h1⟩ (λ i σ H' _ ⟨_,_,_,_,_,_,_,e,_,_⟩=>e.at hl) ?_ ?_
  ·rintro i y _ H3 hi ⟨r3,v2,v3,v4,v5,v6,rfl,e3,a7,h3⟩;let(a,q,ha,rfl,hq):=J6 al hi;let cV:=e3.at hq;let hm:=a5 () a (Vx ha)
   let hlen:(aV first (axs.take i)).length * a.1.toNat<=4096:=by
    let cg:=ip first (axs.take i) λ b hb=>a3 () b (WG hb)
    let hp:=jE (axs.map λ a=>a.1) (λ n hn=>by let(b,hb,rfl):=U8.mp hn;exact a3 () b hb) (i+1);rw[hV _ i a.1 (by rw[Vd,ha];rfl),←map_take,←cg] at hp;let ck:((a.1.toNat:à):B)=a.1:=Ws %[|8]
    have:(((aV first (axs.take i)).length * a.1.toNat:à):B)<=4096:=by rw[YG,ck];omega
    omega
   let a4:aV first (axs.take (i+1))=eQ (aV first (axs.take i)) a:=by
    rw[Xc,ha]
    show aV first (axs.take i++[a])=_
    rw[m5]
   rw[a4]
   generalize aV first (axs.take i)=cs at hlen h3
   clear a4 hi k h1 b8 cc;simp! only[↓cn];intro g H4 a8 e4 h4;let a9:=e4.at h3;let b1:H g=Y:=e3.free a8;ac_rfl;refine iM (xs:=cs.map V.int) (λ j σ H'=>∃ v5 v6:Ü V,σ=[%[q0|45],%[r3|45],U (.int a.1),U (.int a.2),%[g|45],v5,v6]/\Ext H H'/\Ext H3 H'/\H' g=U (.lst ((eQ (cs.take j) a).map V.int))) ⟨_,_,J,e3.trans e4,e4,h4⟩ (λ j σ H' _ ⟨_,_,_,_,e,_⟩=>e.at h3) ?_ ?_
   ·rintro j x _ H5 hj ⟨cm,cv,rfl,e5,b2,h5⟩;rw[Vd] at hj;let(c,hc,rfl):=Vf.mp hj;let cZ:j<cs.length:=(U1.mp hc).1
    let cx:(eQ (cs.take j) a).length+a.1.toNat<=4096:=by
     rw[mr,Vu];have:(min j cs.length+1) * a.1.toNat<=cs.length * a.1.toNat:=XZ _ %[|8];rw[Nat.add_mul,Nat.one_mul] at this;omega
    rw[oB cs a j c hc];generalize eQ (cs.take j) a=ws at h5 cx;clear hj h4 a9;simp! only[↓cn];refine{by omega,by omega,?_};refine u9 (λ m σ H'=>∃ v6:Ü V,σ=[%[q0|45],%[r3|45],U (.int a.1),U (.int a.2),%[g|45],%[c|47],v6]/\Ext H H'/\Ext H3 H'/\H' g=U (.lst ((ws++(Ó m).map λ (n:à)=>c+(n:B) * a.2).map V.int))) {_,J,e5,b2,by rw[List.range_zero,XW,W9];exact h5} ?_ ?_
    ·rintro m _ H6 c0 ⟨b3,rfl,e6,a6,h6⟩;let c1:yd (0+(m:B)) a.2:=.inl {by omega,by omega};let c2:(ws++(Ó m).map λ (n:à)=>c+(n:B) * a.2).length<Æ:=jk (by rw[Va,U2,VZ];omega)
     let a4:(ws++(Ó (m+1)).map λ (n:à)=>c+(n:B) * a.2).map V.int=(ws++(Ó m).map λ (n:à)=>c+(n:B) * a.2).map V.int++[.int (c+(0+(m:B)) * a.2)]:=by
      rw[List.range_succ,Yt];simp
     rw[a4];clear a4 h5;generalize (ws++(Ó m).map λ (n:à)=>c+(n:B) * a.2)=us at *;simp! only[↓cn];exact{_,J,e6.put b1,a6.put a8}
    ·rintro _ H6 ⟨b3,rfl,e6,a6,h6⟩;ac_rfl;exact{_,_,J,e6,a6}
   ·rintro _ H5 ⟨cm,cv,rfl,e5,b2,h5⟩;rw[U2,Wy] at h5;ac_rfl;exact{g,_,_,_,_,_,J,e5,b1,h5}
  ·rintro _ H3 ⟨r3,v2,v3,v4,v5,v6,rfl,e3,a7,h3⟩;let cH:ys.length=axs.length:=by rw[al.1];unfold axL;rw[length_map]
   rw[cH,Wy] at h3;ac_rfl;exact k () r3 H3 a7 e3 h3
abbrev sW(C:Z)(q:Z)(H:Hp)(Q:VK)(E:XK):Prop:=∃ (n f:B) (A:%[|48]),rn H q n f A/\iA A/\A.map bE=A/\0<=f+aF A/\f+aG A<n/\A.length<=4/\1<=n/\n<=63/\∀ (x:Z) (H':Hp),H x=Y->Ext H H'->(∀ S,ug S H->aW C (cj S H') x n f A)->Q (.ref x) H'
def uM(C:Z):Sp:=λ vs H Q E=>∃ (q:Z),vs=[.ref q]/\(sW C q H Q E)
theorem gy(C:Z)(q:Z)(H:Hp)(Q:VK)(E:XK):uM C [.ref q] H Q E=(sW C q H Q E):=jV (f:=λ (q:Z)=>[.ref q]) %[2,1|63] q
theorem tI(T:Tx K mg t):%[8,GJ|49] %[|126] (uM t.a_aa0):=by
 intros yV dz;refine T.F_GJ.ok wc (λ _ _ _ _ h=>jW h λ _=>J) (λ cdv A' outer s H vs Q E hr h=>?_)
 ·let(q0,rfl,n,first,axs,(l,b4,ys,hl,al),a3,a5,a6,a7,h4,n1,b5,k):=h;refine{_,%[%[%[qC5,yV,m_aa0,av,%[%[eA,0,99|17],%[%[eA,0,99|17],%[%[bo,T.z_list,%[%[eA,0,99|17]|1]|32]|1]|1]|1]|62]|12]|10],?_};rw[%[%[|126],[.ref q0],0|53]];clear G_yV;exists k
  let hv:md n first axs:=by
   let(g1,g2):=mx axs λ a ha=>(a3.2 a ha).1;exact{a3,n1,by omega,by rw[g1];exact a6,by rw[g2];exact a7}
  exists a5;let b1:ys.length=axs.length:=by rw[al.1];unfold axL;rw[length_map]
  let b6:ys.length<=4:=by omega
  clear b1 a3 a6 a7;ac_rfl;intro D H1 hD e1 h1;ac_rfl;intro x dx H3 hx b8 cc e3 h3 cg;rw[mO];refine{dx,axs,h3,bM.ext ⟨ys,h1,al.imp λ z y q=>q.ext e1⟩ e3,hv,λ H4 D2 e4 b2 b3 a8=>?_};rw[a5 ()] at a8;let a4:=e1.trans (e4 H1 e3 hx);let a9:=(e1.trans e3).free b2;let k':=k () x H4 (e1.free hx) a4 λ S hS=>{dx,D2,cp (hS.ext a4) b3 (λ _ h=>by cases h),cX hS a4 a9 a8};clear k;ac_rfl
def Kc(CV:Z)(H:Hp)(n:à)(nv:G NVw):Prop:=∀ p∈nv,aW CV H p.ad (n:B) p.f p.A/\iA p.A/\aw (p.A.map λ a=>a.1)<=4096/\mq (aV p.f p.A) n
def nN(nv:G NVw):Prop:=(nv.map NVw.nm).Nodup
theorem u5{nv:G NVw}(h:nN nv){p:NVw}(hp:p∈nv):nL (nvD nv) (Sum.inr p.nm)=U (.ref p.ad):=by
 induction nv with
 | nil=>cases hp
 | cons a r ih=>
  let h2:=Wf.mp (show (a.nm::r.map NVw.nm).Nodup from h)
  show nL ((Sum.inr a.nm,V.ref a.ad)::nvD r) _=_
  rcases Vp.mp hp with ea|hp
  ·rw[ea];exact lE J
  ·rw[jo (λ e=>h2.1 (U8.mpr {p,hp,(X3 e).symm}))];exact ih h2.2 hp
def T6(vals old:G B)(p:NVw):Ý:=(aV p.f p.A).any λ c=>decide (vals.getD c.toNat 0≠old.getD c.toNat 0)
def UN(vals old:G B)(nv:G NVw):G V:=(nv.filter (T6 vals old)).map λ p=>V.str p.nm
def cN(vals old:G B)(nv:G NVw)(z:Key × V):Ý:=nv.any λ p=>decide (z.1=Sum.inr p.nm) && T6 vals old p
def UZ(vals old:G B)(i:à)(kvs:G (Key × V)):Prop:=kvs.length<=i/\∀ c:B,(nL kvs (Sum.inl c)).isSome=decide (0<=c/\c<(i:B)/\vals.getD c.toNat 0≠old.getD c.toNat 0)
abbrev zN(t:Adr)(h:Z)(b:Z)(H:Hp)(Q:VK)(E:XK):Prop:=∃ (st l D Pp:Z) (vals old:G B) (nv:G NVw) (ps:G V),ay t H h st l D Pp vals nv ps/\vals.length<=4096/\H b=%[old|46]/\old.length=vals.length/\Kc t.a_aa0 H vals.length nv/\nN nv/\nv.length<=100/\∀ (r:Z) (H':Hp),H r=Y->Ext H H'->H' r=U (.lst (UN vals old nv))->Q (.ref r) H'
def Q4(t:Adr):Sp:=λ vs H Q E=>∃ (h:Z) (b:Z),vs=[.ref h,.ref b]/\(zN t h b H Q E)
theorem Fun.x{x qual:Ã}{st:Stmt}{f:Z}(F:Fun K x qual st f fd):M0 K x qual st f fd:=by
 let(oc,od,kV,doc,pm,an,cdv,ct,osl,e,lk,a3):=F.ex;exact{⟨oc,od,.none,kV,doc,pm,an,cdv,ct,osl,e,lk,a3⟩,F.kp}
structure UU(t:Adr)(wv:Hp)(h st l D Pp:Z)(nv:G NVw):Prop where
 ob:∃ dx,wv h=U (.ins t.a_aa1 dx (j2 st D Pp))
 so:∃ dx,wv st=U (.ins t.a_Mb dx (kI l))
 dk:wv D=U (.dK (nvD nv))
 nl:wv l=Y
 nP:wv Pp=Y
 lP:l≠Pp
 nd:nN nv
 n100:nv.length<=100
def S3(x:Ã):Prop:=x.cps.all (· < 128)=L/\(x.length=0\/(8<x.length/\x.length<=1000)\/(1<=x.length/\x.length<=8/\∃ c∈x.cps.toList,inS ⟨#[c]⟩ "abcdefghijklmnopqrstuvwxyz"=Â))
def o1(H:Hp):V->Prop
 | .str x=>S3 x
 | .non=>True
 | .int _=>True
 | .ref p=>∃ xs,H p=U (.lst xs)\/H p=U (.tup xs)
 | _=>False
abbrev oU  (x:V) (H:Hp) (Q:VK) (E:XK):Prop:=o1 H x/\∀ H',Ext H H'->Q (.bl Â) H'
def lG  : Sp:=λ vs H Q E=>∃ (x:V),vs=[x]/\(oU  x H Q E)
theorem zE  (x:V) (H:Hp) (Q:VK) (E:XK):lG  [x] H Q E=(oU  x H Q E):=jV (f:=λ (x:V)=>[x]) %[2,1|63] x
theorem mU(T:Tx K mg t):%[1,GZ|49] ["thing"] lG:=by
 refine %[GZ,sH,1|70]
 ·let(x,rfl,hx,k):=h;refine{_,%[%[(PW.pt %[%[%[%[isinstance,bF,%[0,%[(@dn _ _ (.ty "str") (.type "str") _ ∅ T.z_str nofun J ⋯ ⋯)|1]|1]|6]|26]|25],%[%[%[jh,99,%[len,aA,%[0|1]|6],%[(.int 8),_,_,T.m_MOST_LETTERS.choose_spec,{_,J}|35]|81]|25]|40]|36]),%[%[(@fq _ _ _ _)|12]|10],(@aj _)|14],%[%[%[all,dR,%[%[(["letter", "thing"]),(1),(aP (aa gu) ["thing"] J J nofun),(@wD _ _ _ _ %[0|0] ∅),%[%[(0),["letter", "thing"]|51]|72],%[(@aY _)|72],%[%[px,0,%[(.str "abcdefghijklmnopqrstuvwxyz"),_,_,T.m_LETTERS.choose_spec,{_,J}|35],(by with_unfolding_all rfl)|29]|72]|27]|1]|6]|12]|10]|9],?_};rw[%[["thing"],[x],0|53]];exists k
  cases x with
  | non=>
   let k2:=k () H (Ext.refl _);clear k hx;ac_rfl
  | int i=>
   let k2:=k () H (Ext.refl _);clear k hx;ac_rfl
  | ref p=>
   let k2:=k () H (Ext.refl _);clear k
   obtain⟨xs,hp|hp⟩:=hx<;>ac_rfl
  | str x=>
   obtain⟨ha,h0|⟨h8,h9⟩|⟨n1,n8,c,hc,a3⟩⟩:=hx
   ·let n1:¬ (1:B)<=(x.length:B):=by omega
    let k2:=k () H (Ext.refl _);let hz:x.length<=Æ:=ak %[|8];clear k h0;ac_rfl
    all_goals first|exact{(hz),k2}|exact k2|trace_state
   ·let n1:(1:B)<=(x.length:B):=by omega
    let n8:¬ (x.length:B)<=8:=by omega
    let k2:=k () H (Ext.refl _);let hz:x.length<=Æ:=ak %[|8];clear k;ac_rfl
    all_goals first|exact{(hz),k2}|exact k2|trace_state
   ·let m1:(1:B)<=(x.length:B):=by omega
    let m8:(x.length:B)<=8:=by omega
    let hlen:x.cps.toList.length<=8:=by simpa [Str.length] using n8
    ac_rfl;refine{ak %[|8],x,J,ha,?_};refine bb x.cps.toList (λ _=>L) (λ z=>.bl (inS ⟨#[z]⟩ "abcdefghijklmnopqrstuvwxyz")) (λ z v _=>v=sgn z) (kG x).1 (kG x).2 (ak %[|8]) ?_ ?_
    ·intro D z v H' N1 N0 hz hD e hv k1 _;subst hv;let a5:=k1 rfl H' (Ext.refl _);clear k1 k m1 m8 hz;unfold sgn;simp! only[↓aN,↓aT]
    intro D H1 hD e1 a4;rw[lT,show List.map (λ (z:à)=>V.bl (inS ⟨#[z]⟩ "abcdefghijklmnopqrstuvwxyz")) x.cps.toList=(x.cps.toList.map λ z=>inS ⟨#[z]⟩ "abcdefghijklmnopqrstuvwxyz").map V.bl from by rw[V1];rfl] at a4
    let hall:(x.cps.toList.map λ z=>inS ⟨#[z]⟩ "abcdefghijklmnopqrstuvwxyz").all id=Â:=by
     refine Xz.mpr λ h=>?_;have:=Wc.mp h _ (U8.mpr {(c),hc,J});rw[a3] at this;cases this
    let k2:=k () H1 e1;clear k hc a3;generalize (x.cps.toList.map λ z=>inS ⟨#[z]⟩ "abcdefghijklmnopqrstuvwxyz")=bs at *;ac_rfl
  | _=>exact hx.elim
theorem cG(T:Tx K mg t):%[1,vI|49] %[|102] (M5 t.a_L8 "name"):=by
 refine T.F_vI.ok kC (λ vs H Q E h=>A6 _ _ h) %[0|50]
 ·let(e,x,rfl,he,k):=h;refine{_,%[%[(@p5 _ _ _ _ _ _ _ _ _ _ ∅ T.m_GP T.bi_PaceError %[0,%[1|1]|1] ⋯ ∅ ∅ ∅)|16],%[(@u4 _ _ _ _ _ _ _ _ %[0|0] %[1|0] rfl)|10]|9],?_};rw[%[%[|102],[.ref e,x],0|53]];ac_rfl;refine{e,_,_,_,[x],J,he,T.oi_NoName,(show 1<=Æ by decide),?_};ac_rfl;exact{e,_,J,he,T.oi_NoName.st,T.tk_NoName_name,λ dx H' h1 h2 h3 h4 h5=>k dx H' h1 h2 h3 h4 h5}
theorem fi(T:Tx K mg t):%[1,xo|49] %[|102] (M5 t.a_Ma "name"):=by
 refine T.F_xo.ok lC (λ vs H Q E h=>A6 _ _ h) %[0|50]
 ·let(e,x,rfl,he,k):=h;refine{_,%[%[(@p5 _ _ _ _ _ _ _ _ _ _ ∅ T.m_GP T.bi_PaceError %[0,%[1|1]|1] ⋯ ∅ ∅ ∅)|16],%[(@u4 _ _ _ _ _ _ _ _ %[0|0] %[1|0] rfl)|10]|9],?_};rw[%[%[|102],[.ref e,x],0|53]];ac_rfl;refine{e,_,_,_,[x],J,he,T.oi_Known,(show 1<=Æ by decide),?_};ac_rfl;exact{e,_,J,he,T.oi_Known.st,T.tk_Known_name,λ dx H' h1 h2 h3 h4 h5=>k dx H' h1 h2 h3 h4 h5}
abbrev tu(t:Adr)(h:Z)(x:V)(H:Hp)(Q:VK)(E:XK):Prop:=∃ (st l D Pp:Z) (vals:G B) (nv:G NVw) (ps:G V),ay t H h st l D Pp vals nv ps/\o1 H x/\∀ dx H',Ext H H'->H' dx=U (.xd [("name",x)])->E (.ref t.a_L8) (U dx) H'
def uR(t:Adr):Sp:=λ vs H Q E=>∃ (h:Z) (x:V),vs=[.ref h,x]/\(tu t h x H Q E)
theorem sD(t:Adr)(h:Z)(x:V)(H:Hp)(Q:VK)(E:XK):uR t [.ref h,x] H Q E=(tu t h x H Q E):=jb (f:=λ (h:Z) (x:V)=>[.ref h,x]) %[4,2|63] h x
theorem er(T:Tx K mg t):au P w K mg base (CX1 P  w) 3 t.a_vK t.d_vK %[|102] (uR t):=by
 intros GZ mU vI cG xo fi;refine(Fun.x T.F_vK).ok cW (λ _ _ _ _ h=>fT h λ _ _=>J) %[0|50]
 ·let(h,x,rfl,st,l,D,Pp,vals,nv,ps,ha,hn,k):=h;let c1:=T.qA0;let c2:=T.qA3;let f1:=aS st D Pp;refine{_,%[%[%[%[%[GZ,%[1|1]|3]|26]|25],%[%[rfl,T.m_L8,T.oi_NoName,G_vI,(hr.mono ⋯),T.b_vI,(λ σ=>cL),%[1|1]|80]|10],(@aj _)|14],%[%[%[(A3 (gi hr.units)),1,%[0|15],(by with_unfolding_all rfl)|13],%[%[rfl,T.m_Ma,T.oi_Known,G_xo,(hr.mono ⋯),T.b_xo,(λ σ=>cL),%[1|1]|80]|10],(@aj _)|14]|10]|9],?_};rw[%[%[|102],[.ref h,x],0|53]];clear G_GZ G_vI G_xo;exists k;ac_rfl;rw[zE];refine{hn,λ H1 e1=>?_};let k2:∀ dx H',Ext H1 H'->H' dx=U (.xd [("name",x)])->E (.ref t.a_L8) (U dx) H':=λ dx H' e q=>k () dx H' (e1.trans e) q;clear k;ac_rfl;exact rH k2
abbrev tw(t:Adr)(h:Z)(x:Ã)(H:Hp)(Q:VK)(E:XK):Prop:=∃ (st l D Pp:Z) (vals:G B) (nv:G NVw) (ps:G V) (p:NVw),ay t H h st l D Pp vals nv ps/\nN nv/\p∈nv/\p.nm=x/\aB x/\∀ dx H',Ext H H'->H' dx=U (.xd [("name",.str x)])->E (.ref t.a_Ma) (U dx) H'
def uS(t:Adr):Sp:=λ vs H Q E=>∃ (h:Z) (x:Ã),vs=[.ref h,.str x]/\(tw t h x H Q E)
theorem sE(t:Adr)(h:Z)(x:Ã)(H:Hp)(Q:VK)(E:XK):uS t [.ref h,.str x] H Q E=(tw t h x H Q E):=jb (f:=λ (h:Z) (x:Ã)=>[.ref h,.str x]) %[4,2|63] h x
theorem et(T:Tx K mg t):au P w K mg base (CX1 P  w) 3 t.a_vK t.d_vK %[|102] (uS t):=by
 intros GZ ia vI cG xo fi;refine(Fun.x T.F_vK).ok cW (λ _ _ _ _ h=>fT h λ _ _=>J) %[0|50]
 ·let(h,x,rfl,st,l,D,Pp,vals,nv,ps,p,ha,a4,hp,rfl,hn,k):=h;let c1:=T.qA0;let c2:=T.qA3;let f1:=aS st D Pp;let a3:=u5 a4 hp;refine{_,%[%[%[%[%[GZ,%[1|1]|3]|26]|25],%[%[rfl,T.m_L8,T.oi_NoName,G_vI,(hr.mono ⋯),T.b_vI,(λ σ=>cL),%[1|1]|80]|10],(@aj _)|14],%[%[%[(A3 (gi hr.units)),1,%[0|15],(by with_unfolding_all rfl)|13],%[%[rfl,T.m_Ma,T.oi_Known,G_xo,(hr.mono ⋯),T.b_xo,(λ σ=>cL),%[1|1]|80]|10],(@aj _)|14]|10]|9],?_};rw[%[%[|102],[.ref h,.str p.nm],0|53]];clear G_GZ G_vI G_xo;exists k;ac_rfl;rw[qo];refine{hn,λ H1 e1=>?_};let((dx,h1),_,h3,_):=ha.ext e1;let k2:∀ dx H',Ext H1 H'->H' dx=U (.xd [("name",.str p.nm)])->E (.ref t.a_Ma) (U dx) H':=λ dx H' e q=>k () dx H' (e1.trans e) q;clear k;ac_rfl;refine wy (k:=Sum.inr p.nm) h3 ?_;rw[a3];ac_rfl;exact rH k2
theorem i7(T:Tx K mg t):%[1,qc|49] ["self", "number"] (M5 t.a_G6 "number"):=by
 refine T.F_qc.ok jT (λ vs H Q E h=>A6 _ _ h) %[0|50]
 ·let(e,x,rfl,he,k):=h;refine{_,%[%[(@p5 _ _ _ _ _ _ _ _ _ _ ∅ T.m_GP T.bi_PaceError %[0,%[1|1]|1] ⋯ ∅ ∅ ∅)|16],%[(@u4 _ _ _ _ _ _ _ _ %[0|0] %[1|0] rfl)|10]|9],?_};rw[%[["self", "number"],[.ref e,x],0|53]];ac_rfl;refine{e,_,_,_,[x],J,he,T.oi_TooMany,(show 1<=Æ by decide),?_};ac_rfl;exact{e,_,J,he,T.oi_TooMany.st,T.tk_TooMany_number,λ dx H' h1 h2 h3 h4 h5=>k dx H' h1 h2 h3 h4 h5}
abbrev sU(cT:Z)(n:B)(H:Hp)(Q:VK)(E:XK):Prop:=(n<=4096->Q .non H)/\(4096<n->∀ dx H',Ext H H'->H' dx=U (.xd [("number",.int n)])->E (.ref cT) (U dx) H')
def uL(cT:Z):Sp:=λ vs H Q E=>∃ (n:B),vs=[.int n]/\(sU cT n H Q E)
theorem Ew(cT:Z)(n:B)(H:Hp)(Q:VK)(E:XK):uL cT [.int n] H Q E=(sU cT n H Q E):=jV (f:=λ (n:B)=>[.int n]) %[2,1|63] n
theorem nr(T:Tx K mg t):au P w K mg base (CX1 P  w) 3 t.a_zk t.d_zk ["count"] (uL t.a_G6):=by
 intros qc i7;refine(Fun.x T.F_zk).ok jL (λ _ _ _ _ h=>jW h λ _=>J) %[0|50]
 ·let(n,rfl,k1,k2):=h;refine{_,%[%[%[iI,0,%[(.int 4096),_,_,T.m_MOST_TOLD.choose_spec,{_,J}|35],(ai _)|13],%[%[rfl,T.m_G6,T.oi_TooMany,G_qc,(hr.mono ⋯),T.b_qc,(λ σ=>cL),%[0|1]|80]|10],(@aj _)|14]|10],?_};rw[%[["count"],[.int n],0|53]]
  by_cases hn:4096<n
  ·let a3:=k2 hn;clear k1 k2;ac_rfl;exact rH a3
  ·let a4:=k1 %[|8];clear k1 k2;ac_rfl
theorem au.up{f:Z}{sp:Sp}(F:au P w K mg base CX0 k f fd ps sp):au P w K mg base CX k f fd ps sp:=
 ⟨F.len,λ A outer s H args us vs Q E hr hc he hb hv hs=>We (F.run A outer s H args us vs Q E hr hc he hb hv hs) λ r s' h=>by
  cases r with
  | error e=>exact h.elim
  | ok c=>cases c<;>exact h⟩
theorem au.both{f:Z}{sp a3 a4:Sp}(F:au P w K mg base CX k f fd ps sp)(F':au P w K mg base CX k f fd ps a3)(h:∀ vs H Q E,a4 vs H Q E->sp vs H Q E\/a3 vs H Q E):au P w K mg base CX k f fd ps a4:=
 ⟨λ vs H Q E q=>(h _ _ _ _ q).elim (F.len vs H Q E) (F'.len vs H Q E),λ A outer s H args us vs Q E hr hc he hb hv hs=>(h _ _ _ _ hs).elim (F.run A outer s H args us vs Q E hr hc he hb hv) (F'.run A outer s H args us vs Q E hr hc he hb hv)⟩
def VwN(C:Z)(H:Hp)(x:Z)(room n:B):Prop:=∃ f A,aW C H x room f A/\iA A/\aw (A.map λ a=>a.1)=n
theorem VwN.ext{C:Z}{x:Z}(h:VwN C H x room n)(e:Ext H H'):VwN C H' x room n:=by
 let(f,A,h1,h2):=h;exact{f,A,h1.ext e,h2}
abbrev sR(CS CV cV:Z)(s:Z)(v:Z)(H:Hp)(Q:VK)(E:XK):Prop:=∃ (l:Z) (vals:G B) (room n:B),cu CS H s l vals/\VwN CV H v room n/\(room=vals.length->Q .non H)/\(room≠vals.length->∀ H',Ext H H'->E (.ref cV) Y H')
def uG(CS CV cV:Z):Sp:=λ vs H Q E=>∃ (s:Z) (v:Z),vs=[.ref s,.ref v]/\(sR CS CV cV s v H Q E)
theorem Et(CS CV cV:Z)(s:Z)(v:Z)(H:Hp)(Q:VK)(E:XK):uG CS CV cV [.ref s,.ref v] H Q E=(sR CS CV cV s v H Q E):=jb (f:=λ (s:Z) (v:Z)=>[.ref s,.ref v]) %[4,2|63] s v
theorem gW(T:Tx K mg t):au P w K mg base (CX1 P  w) 1 t.a_oG t.d_oG %[|115] (uG t.a_Mb t.a_aa0 t.a_Hg):=by
 refine(Fun.x T.F_oG).ok eu (λ _ _ _ _ h=>fT h λ _ _=>J) %[1|50]
 ·let(s,v,rfl,l,vals,room,n,so,(first,axs,vo,_),kQ,kE):=h;let(dx,hs):=so.ob;let(dy,D,hv,_):=vo.ob;let a3:=so.fl;let c1:=T.qA5;let c2:=T.qAf;let c3:=T.qA1;let c4:=T.qAi;let f1:=eE l
  let f2:=g6 room first D
  refine{_,%[%[%[(gp hr.units),%[1|15],%[len,aA,%[%[0|15]|1]|6],(ai _)|13],%[(@lJ _ _ _ _ _ _ _ _ _ _ J ∅ T.m_Hg ⟨T.qAz⟩ (λ σ=>hU) %[(@aH _ _ _ _)|1] ∅ ∅ ⋯)|10],(@aj _)|14]|10],?_};rw[%[%[|115],[.ref s,.ref v],0|53]]
  by_cases he:room=(vals.length:B)
  ·let k':=kQ he;subst he;clear kQ kE;ac_rfl
  ·let k':=kE he H (Ext.refl _);clear kQ kE;ac_rfl
abbrev Ab(C cT:Z)(v:Z)(H:Hp)(Q:VK)(E:XK):Prop:=∃ (room n:B),VwN C H v room n/\4096<n/\∀ dx H',Ext H H'->H' dx=U (.xd [("number",.int n)])->E (.ref cT) (U dx) H'
def Q8(C cT:Z):Sp:=λ vs H Q E=>∃ (v:Z),vs=[.ref v]/\(Ab C cT v H Q E)
abbrev EH(CS CV cV cT:Z)(s:Z)(v:Z)(H:Hp)(Q:VK)(E:XK):Prop:=∃ (l:Z) (vals:G B) (room n:B),cu CS H s l vals/\VwN CV H v room n/\(room≠vals.length\/4096<n)/\(room≠vals.length->∀ H',Ext H H'->E (.ref cV) Y H')/\(room=vals.length->∀ dx H',Ext H H'->H' dx=U (.xd [("number",.int n)])->E (.ref cT) (U dx) H')
def S6(CS CV cV cT:Z):Sp:=λ vs H Q E=>∃ (s:Z) (v:Z),vs=[.ref s,.ref v]/\(EH CS CV cV cT s v H Q E)
abbrev EJ(CS CV cV cT:Z)(s:Z)(v:Z)(z:V)(H:Hp)(Q:VK)(E:XK):Prop:=∃ (l:Z) (vals:G B) (room n:B),cu CS H s l vals/\VwN CV H v room n/\(room≠vals.length\/4096<n)/\(room≠vals.length->∀ H',Ext H H'->E (.ref cV) Y H')/\(room=vals.length->∀ dx H',Ext H H'->H' dx=U (.xd [("number",.int n)])->E (.ref cT) (U dx) H')
def S7(CS CV cV cT:Z):Sp:=λ vs H Q E=>∃ (s:Z) (v:Z) (z:V),vs=[.ref s,.ref v,z]/\(EJ CS CV cV cT s v z H Q E)
abbrev wo(CS CV cV cT:Z)(s:Z)(v:Z)(H:Hp)(Q:VK)(E:XK):Prop:=∃ (l:Z) (vals:G B) (room n:B),cu CS H s l vals/\VwN CV H v room n/\(room≠vals.length\/4096<n)/\(room≠vals.length->∀ H',Ext H H'->E (.ref cV) Y H')/\(room=vals.length->∀ dx H',Ext H H'->H' dx=U (.xd [("number",.int n)])->E (.ref cT) (U dx) H')
def QI(CS CV cV cT:Z):Sp:=λ vs H Q E=>∃ (s:Z) (v:Z),vs=[.ref s,.ref v,.ref v]/\(wo CS CV cV cT s v H Q E)
theorem bc(st D Pp:Z)(h:m∈([("view":Ã), "make", "drop", "seen"]:G Ã)):(j2 st D Pp).lookup m=Y:=by
 let n1:¬ m = "past":=by revert m;decide +kernel
 let n2:¬ m = "views":=by revert m;decide +kernel
 let n3:¬ m = "store":=by revert m;decide +kernel
 unfold j2;rw[ae,if_neg n1,ae,if_neg n2,ae,if_neg n3];rfl
abbrev tm(t:Adr)(h:Z)(x:Ã)(H:Hp)(Q:VK)(E:XK):Prop:=∃ (st l D Pp:Z) (vals:G B) (nv:G NVw) (ps:G V) (p:NVw),ay t H h st l D Pp vals nv ps/\nN nv/\p∈nv/\p.nm=x/\aB x/\∀ H',Ext H H'->Q (.ref p.ad) H'
def pd(t:Adr):Sp:=λ vs H Q E=>∃ (h:Z) (x:Ã),vs=[.ref h,.str x]/\(tm t h x H Q E)
theorem gz(t:Adr)(h:Z)(x:Ã)(H:Hp)(Q:VK)(E:XK):pd t [.ref h,.str x] H Q E=(tm t h x H Q E):=jb (f:=λ (h:Z) (x:Ã)=>[.ref h,.str x]) %[4,2|63] h x
theorem bA(T:Tx K mg t):%[2,DO|49] %[|102] (pd t):=by
 intros GZ ia;refine %[DO,m6,2|70]
 ·let(h,x,rfl,st,l,D,Pp,vals,nv,ps,p,ha,a4,hp,rfl,hn,k):=h;let c1:=T.qA0;let c2:=T.qA3;let f1:=aS st D Pp;let a3:=u5 a4 hp;refine{_,%[%[(PW.pt %[%[%[%[GZ,%[1|1]|3]|26]|25],%[%[(rV (gi hr.units)),1,%[0|15],(by with_unfolding_all rfl)|13]|40]|36]),%[(@bU _ _)|10],(@aj _)|14],%[%[(@Bt _ _ _ _ _ _ (gi hr.units) %[0|15] %[1|0] (λ _ _=>J))|12]|10]|9],?_};rw[%[%[|102],[.ref h,.str p.nm],0|53]];clear G_GZ;exists k;ac_rfl;rw[qo];refine{hn,λ H1 e1=>?_};let((dx,h1),_,h3,_):=ha.ext e1;ac_rfl;refine wy (neg:=L) (k:=Sum.inr p.nm) h3 ?_;rw[a3];ac_rfl;refine Od (k:=Sum.inr p.nm) h3 a3 ?_;let k2:=k () H1 e1;clear k;ac_rfl
def pe(t:Adr):Sp:=λ vs H Q E=>∃ (h:Z) (x:Ã),vs=[.ref h,.str x]/\(∃ (st l D Pp:Z) (vals:G B) (nv:G NVw) (ps:G V) (p:NVw),ay t H h st l D Pp vals nv ps/\nN nv/\p∈nv/\p.nm=x/\aB x/\Kc t.a_aa0 H vals.length nv/\∀ (r:Z) (H':Hp),H r=Y->Ext H H'->H' r=U (.lst ((nQ vals (aV p.f p.A)).map V.int))->Q (.ref r) H')
theorem EB(t:Adr)(h:Z)(x:Ã)(H:Hp)(Q:VK)(E:XK):pe t [.ref h,.str x] H Q E=(∃ (st l D Pp:Z) (vals:G B) (nv:G NVw) (ps:G V) (p:NVw),ay t H h st l D Pp vals nv ps/\nN nv/\p∈nv/\p.nm=x/\aB x/\Kc t.a_aa0 H vals.length nv/\∀ (r:Z) (H':Hp),H r=Y->Ext H H'->H' r=U (.lst ((nQ vals (aV p.f p.A)).map V.int))->Q (.ref r) H'):=jb (f:=λ (h:Z) (x:Ã)=>[.ref h,.str x]) %[4,2|63] h x
theorem kU(T:Tx K mg t):%[6,DP|49] %[|102] (pe t):=by
 intros DO bA Dy jG;refine %[DP,m7,2|70]
 ·let(h,x,rfl,st,l,D,Pp,vals,nv,ps,p,ha,a4,hp,a5,hn,a3,k):=h;let c1:=T.qA0;let c2:=T.qA8;let c3:=T.qA5;let f1:=bZ st D Pp;let f3:=bc st D Pp (m := "view") nofun;let m1:=df l (m := "read") nofun;let(dx,h1):=ha.ob;let(b1,hs):=ha.so.ob;refine{_,%[%[%[%[0|15],qA5,qBa,Dy,av,%[%[%[0|0],qA0,qA6,DO,av,%[1|1]|60]|1]|60]|12]|10],?_};rw[%[%[|102],[.ref h,.str x],0|53]];clear G_DO G_Dy;exists k;exists ha;exists a3;ac_rfl;rw[gz];refine{st,l,D,Pp,vals,nv,ps,p,ha (),a4,hp,a5,hn,λ H1 e1=>?_};let(vo,a6,a7,a8):=a3 () p hp;let b2:=e1.at hs;clear h1 hs;ac_rfl;rw[HR];refine{l,vals,_,p.f,p.A,((ha ()).ext e1).so,vo.ext e1,a6,J,a7,a8,λ r H2 a9 e2 h2=>?_};let k2:=k () r H2 (e1.free a9) (e1.trans e2) h2;clear k;ac_rfl
theorem HE(nv:G NVw)(x:Ã):lW (nvD nv) (Sum.inr x)=nvD (nv.filter λ q=>decide (q.nm≠x)):=by
 unfold lW nvD;rw[List.filter_map];congr 1;apply List.filter_congr;intro q _
 show decide (Sum.inr q.nm≠(Sum.inr x:Key))=decide (q.nm≠x)
 exact decide_eq_decide.mpr {λ h e=>h (by rw[e]),λ h e=>h (X3 e)}
def iE(H:Hp)(nv:G NVw)(x:V):Prop:=o1 H x\/∃ s,x=.str s/\aB s/\∀ p∈nv,p.nm≠s
theorem o1.ext{x:V}(h:o1 H x)(e:Ext H H'):o1 H' x:=by
 cases x with
 | ref p=>let(xs,hp):=h;exact{xs,hp.imp e.at e.at}
 | str s=>exact h
 | non=>exact h
 | int i=>exact h
 | _=>exact h.elim
theorem iE.ext{nv:G NVw}{x:V}(h:iE H nv x)(e:Ext H H'):iE H' nv x:=h.imp (λ q=>q.ext e) id
abbrev oW(t:Adr)(h:Z)(x:V)(H:Hp)(Q:VK)(E:XK):Prop:=∃ (st l D Pp:Z) (vals:G B) (nv:G NVw) (ps:G V),ay t H h st l D Pp vals nv ps/\iE H nv x/\∀ dx H',Ext H H'->H' dx=U (.xd [("name",x)])->E (.ref t.a_L8) (U dx) H'
def lH(t:Adr):Sp:=λ vs H Q E=>∃ (h:Z) (x:V),vs=[.ref h,x]/\(oW t h x H Q E)
theorem kn(t:Adr)(h:Z)(x:V)(H:Hp)(Q:VK)(E:XK):lH t [.ref h,x] H Q E=(oW t h x H Q E):=jb (f:=λ (h:Z) (x:V)=>[.ref h,x]) %[4,2|63] h x
def JF  : Sp:=λ vs H Q E=>∃ (x:V),vs=[x]/\((o1 H x/\∀ H',Ext H H'->Q (.bl Â) H')\/∃ s,x=.str s/\aB s/\∀ H',Ext H H'->Q (.bl L) H')
theorem j9  (x:V) (H:Hp) (Q:VK) (E:XK):JF  [x] H Q E=((o1 H x/\∀ H',Ext H H'->Q (.bl Â) H')\/∃ s,x=.str s/\aB s/\∀ H',Ext H H'->Q (.bl L) H'):=jV (f:=λ (x:V)=>[x]) %[2,1|63] x
theorem vy(T:Tx K mg t):%[1,GZ|49] ["thing"] JF:=au.both (ia T) (mU T) λ vs H Q E h=>by
 obtain⟨x,rfl,h|⟨s,rfl,h1,h2⟩⟩:=h
 ·exact .inr {(x),J,h}
 ·exact .inl {(s),J,h1,h2}
theorem dG(T:Tx K mg t):au P w K mg base (CX1 P  w) 3 t.a_DO t.d_DO %[|102] (lH t):=by
 intros GZ vy vI cG;refine(Fun.x T.F_DO).ok m6 (λ _ _ _ _ h=>fT h λ _ _=>J) %[0|50]
 ·let(h,x,rfl,st,l,D,Pp,vals,nv,ps,ha,hn,k):=h;let c1:=T.qA0;let c2:=T.qA3;let f1:=aS st D Pp;refine{_,%[%[(PW.pt %[%[%[%[GZ,%[1|1]|3]|26]|25],%[%[(rV (gi hr.units)),1,%[0|15],(by with_unfolding_all rfl)|13]|40]|36]),%[%[rfl,T.m_L8,T.oi_NoName,G_vI,(hr.mono ⋯),T.b_vI,(λ σ=>cL),%[1|1]|80]|10],(@aj _)|14],%[%[(@Bt _ _ _ _ _ _ (gi hr.units) %[0|15] %[1|0] (λ _ _=>J))|12]|10]|9],?_};rw[%[%[|102],[.ref h,x],0|53]];clear G_GZ G_vI;exists k;ac_rfl;rw[j9]
  rcases hn with hn|⟨s,rfl,hs,a3⟩
  ·refine .inl {hn,λ H1 e1=>?_};let k2:∀ dx H',Ext H1 H'->H' dx=U (.xd [("name",x)])->E (.ref t.a_L8) (U dx) H':=λ dx H' e q=>k () dx H' (e1.trans e) q;clear k;ac_rfl;exact rH k2
  ·refine .inr {s,J,hs,λ H1 e1=>?_};let k2:∀ dx H',Ext H1 H'->H' dx=U (.xd [("name",.str s)])->E (.ref t.a_L8) (U dx) H':=λ dx H' e q=>k () dx H' (e1.trans e) q;let((dx,h1),_,h3,_):=ha.ext e1;let hv:=IT a3;clear k;ac_rfl;refine wy (neg:=L) (k:=Sum.inr s) h3 ?_;rw[hv];ac_rfl;exact rH k2
abbrev zO(t:Adr)(h:Z)(x:V)(H:Hp)(Q:VK)(E:XK):Prop:=∃ (st l D Pp:Z) (vals:G B) (nv:G NVw) (ps:G V),ay t H h st l D Pp vals nv ps/\iE H nv x/\∀ dx H',Ext H H'->H' dx=U (.xd [("name",x)])->E (.ref t.a_L8) (U dx) H'
def pO(t:Adr):Sp:=λ vs H Q E=>∃ (h:Z) (x:V),vs=[.ref h,x]/\(zO t h x H Q E)
theorem qF(T:Tx K mg t):au P w K mg base (CX1 P  w) 6 t.a_DP t.d_DP %[|102] (pO t):=by
 intros DO dG Dy jG;refine(Fun.x T.F_DP).ok m7 (λ _ _ _ _ h=>fT h λ _ _=>J) %[0|50]
 ·let(h,x,rfl,st,l,D,Pp,vals,nv,ps,ha,hn,k):=h;let c1:=T.qA0;let c2:=T.qA8;let c3:=T.qA5;let f1:=bZ st D Pp;let f3:=bc st D Pp (m := "view") nofun;let m1:=df l (m := "read") nofun;let(dx,h1):=ha.ob;let(a3,hs):=ha.so.ob;refine{_,%[%[%[%[0|15],qA5,qBa,Dy,av,%[%[%[0|0],qA0,qA6,DO,aK,%[1|1]|60]|1]|60]|12]|10],?_};rw[%[%[|102],[.ref h,x],0|53]];clear G_DO G_Dy;exists k;exists ha;ac_rfl;rw[kn];exact{st,l,D,Pp,vals,nv,ps,ha (),hn,k ()}
abbrev zZ(t:Adr)(h:Z)(x:V)(v:V)(H:Hp)(Q:VK)(E:XK):Prop:=∃ (st l D Pp:Z) (vals:G B) (nv:G NVw) (ps:G V),ay t H h st l D Pp vals nv ps/\o1 H x/\∀ dx H',Ext H H'->H' dx=U (.xd [("name",x)])->E (.ref t.a_L8) (U dx) H'
def pY(t:Adr):Sp:=λ vs H Q E=>∃ (h:Z) (x:V) (v:V),vs=[.ref h,x,v]/\(zZ t h x v H Q E)
theorem qI(T:Tx K mg t):au P w K mg base (CX1 P  w) 4 t.a_DL t.d_DL %[|106] (pY t):=by
 intros vK er oG bu zk bT Du cz;refine(Fun.x T.F_DL).ok fH (λ _ _ _ _ h=>ud h λ _ _ _=>J) (λ cdv A' outer s H vs Q E hr h=>?_)
 ·let(h,x,v,rfl,st,l,D,Pp,vals,nv,ps,ha,hn,k):=h;let c1:=T.qA0;let c2:=T.qA8;let c3:=T.qA3;let c4:=T.qA5;let c5:=T.qA1;let f1:=bZ st D Pp;let f2:=aS st D Pp;let f3:=aL st D Pp (m := "refuse_new") nofun;let m1:=df l (m := "refuse_room") nofun;let(dx,h1):=ha.ob;refine{_,%[%[%[%[0|0],qA0,qA2,vK,aK,%[1|1]|60]|16],%[%[%[%[0|15],qA5,qA7,oG,av,%[2|1]|60]|16],%[%[%[zk,%[%[%[2|0],qA1,qAh,Du,av|61]|1]|3]|16],%[(@pw _ _ _ _ _ _ _ _ _ (gi hr.units) %[0|15] %[1|0] %[2|0] rfl)|10]|9]|9]|9],?_};rw[%[%[|106],[.ref h,x,v],0|53]];clear G_vK G_oG G_zk G_Du;exists k;exists ha;ac_rfl;rw[sD];exact{st,l,D,Pp,vals,nv,ps,ha (),hn,k ()}
abbrev Aa(t:Adr)(h:Z)(x:Ã)(v:V)(H:Hp)(Q:VK)(E:XK):Prop:=∃ (st l D Pp:Z) (vals:G B) (nv:G NVw) (ps:G V) (p:NVw),ay t H h st l D Pp vals nv ps/\nN nv/\p∈nv/\p.nm=x/\aB x/\∀ dx H',Ext H H'->H' dx=U (.xd [("name",.str x)])->E (.ref t.a_Ma) (U dx) H'
def pZ(t:Adr):Sp:=λ vs H Q E=>∃ (h:Z) (x:Ã) (v:V),vs=[.ref h,.str x,v]/\(Aa t h x v H Q E)
theorem qK(T:Tx K mg t):au P w K mg base (CX1 P  w) 4 t.a_DL t.d_DL %[|106] (pZ t):=by
 intros vK et oG bu zk bT Du cz;refine(Fun.x T.F_DL).ok fH (λ _ _ _ _ h=>ud h λ _ _ _=>J) (λ cdv A' outer s H vs Q E hr h=>?_)
 ·let(h,x,v,rfl,st,l,D,Pp,vals,nv,ps,p,ha,a3,hp,a4,hn,k):=h;let c1:=T.qA0;let c2:=T.qA8;let c3:=T.qA3;let c4:=T.qA5;let c5:=T.qA1;let f1:=bZ st D Pp;let f2:=aS st D Pp;let f3:=aL st D Pp (m := "refuse_new") nofun;let m1:=df l (m := "refuse_room") nofun;let(dx,h1):=ha.ob;refine{_,%[%[%[%[0|0],qA0,qA2,vK,aK,%[1|1]|60]|16],%[%[%[%[0|15],qA5,qA7,oG,av,%[2|1]|60]|16],%[%[%[zk,%[%[%[2|0],qA1,qAh,Du,av|61]|1]|3]|16],%[(@pw _ _ _ _ _ _ _ _ _ (gi hr.units) %[0|15] %[1|0] %[2|0] rfl)|10]|9]|9]|9],?_};rw[%[%[|106],[.ref h,.str x,v],0|53]];clear G_vK G_oG G_zk G_Du;exists k;exists ha;ac_rfl;rw[sE];exact{st,l,D,Pp,vals,nv,ps,p,ha (),a3,hp,a4,hn,k ()}
abbrev oX(t:Adr)(h:Z)(x:Ã)(v:Z)(H:Hp)(Q:VK)(E:XK):Prop:=∃ (st l D Pp:Z) (vals:G B) (nv:G NVw) (ps:G V) (room n:B),ay t H h st l D Pp vals nv ps/\aB x/\(∀ p∈nv,p.nm≠x)/\VwN t.a_aa0 H v room n/\(room≠vals.length\/4096<n)/\(room≠vals.length->∀ H',Ext H H'->E (.ref t.a_Hg) Y H')/\(room=vals.length->∀ dx H',Ext H H'->H' dx=U (.xd [("number",.int n)])->E (.ref t.a_G6) (U dx) H')
def lI(t:Adr):Sp:=λ vs H Q E=>∃ (h:Z) (x:Ã) (v:Z),vs=[.ref h,.str x,.ref v]/\(oX t h x v H Q E)
theorem zG(t:Adr)(h:Z)(x:Ã)(v:Z)(H:Hp)(Q:VK)(E:XK):lI t [.ref h,.str x,.ref v] H Q E=(oX t h x v H Q E):=EK (f:=λ (h:Z) (x:Ã) (v:Z)=>[.ref h,.str x,.ref v]) %[6,3|63] h x v
theorem jH(T:Tx K mg t):au P w K mg base (CX1 P  w) 4 t.a_DL t.d_DL %[|106] (lI t):=by
 intros vK aR oG gW zk nr Du cz;refine(Fun.x T.F_DL).ok fH (λ _ _ _ _ h=>ud h λ _ _ _=>J) (λ cdv A' outer s H vs Q E hr h=>?_)
 ·let(h,x,v,rfl,st,l,D,Pp,vals,nv,ps,room,n,ha,hn,a6,vv,a5,kV,kT):=h;let c1:=T.qA0;let c2:=T.qA8;let c3:=T.qA3;let c4:=T.qA5;let c5:=T.qA1;let f1:=bZ st D Pp;let f2:=aS st D Pp;let f3:=aL st D Pp (m := "refuse_new") nofun;let m1:=df l (m := "refuse_room") nofun;let(dx,h1):=ha.ob;refine{_,%[%[%[%[0|0],qA0,qA2,vK,av,%[1|1]|60]|16],%[%[%[%[0|15],qA5,qA7,oG,aK,%[2|1]|60]|16],%[%[%[zk,aK,%[%[%[2|0],qA1,qAh,Du,av|61]|1]|68]|16],%[(@pw _ _ _ _ _ _ _ _ _ (gi hr.units) %[0|15] %[1|0] %[2|0] rfl)|10]|9]|9]|9],?_};rw[%[%[|106],[.ref h,.str x,.ref v],0|53]];clear G_vK G_oG G_zk G_Du;exists kV;exists kT;exists ha;exists vv;ac_rfl;rw[gZ];refine{st,l,D,Pp,vals,nv,ps,ha (),hn,a6,λ H1 e1=>?_};let g1:=e1.at h1;let a4:=(ha ()).ext e1;let(f,A,vo,a7,a8):=(vv ()).ext e1;let(a9,hs):=a4.so.ob;let(dv,Dv,hv,_):=vo.ob;let m2:=lD room f Dv (m := "count") nofun;exists a4;exists vo;clear h1;ac_rfl;rw[Et];refine{l,vals,room,n,(a4 ()).so,(vv ()).ext e1,λ a3=>?_,λ a3 H2 e2=>kV () a3 H2 (e1.trans e2)};let b1:4096<n:=a5.resolve_left (λ q=>q a3);exists a3;ac_rfl;rw[km];refine{_,f,A,vo (),a7,λ H2 e2=>?_};rw[a8];ac_rfl;rw[Ew];exact{λ q=>Þ q %[|8],λ _ dx H' e' h'=>kT () (a3 ()) dx H' (e1.trans (e2.trans e')) h'}
abbrev zY(t:Adr)(h:Z)(x:V)(H:Hp)(Q:VK)(E:XK):Prop:=∃ (st l D Pp:Z) (vals:G B) (nv:G NVw) (ps:G V),ay t H h st l D Pp vals nv ps/\iE H nv x/\∀ dx H',Ext H H'->H' dx=U (.xd [("name",x)])->E (.ref t.a_L8) (U dx) H'
def pX(t:Adr):Sp:=λ vs H Q E=>∃ (h:Z) (x:V),vs=[.ref h,x]/\(zY t h x H Q E)
theorem qH(T:Tx K mg t):au P w K mg base (CX1 P  w) 4 t.a_DN t.d_DN %[|102] (pX t):=by
 intros DO dG;refine(Fun.x T.F_DN).ok m9 (λ _ _ _ _ h=>fT h λ _ _=>J) %[0|50]
 ·let(h,x,rfl,st,l,D,Pp,vals,nv,ps,ha,hn,k):=h;let c1:=T.qA0;let c2:=T.qA3;let f1:=aS st D Pp;let f3:=bc st D Pp (m := "view") nofun;let(dx,h1):=ha.ob;refine{_,%[%[%[%[0|0],qA0,qA6,DO,aK,%[1|1]|60]|16],%[%[%[PySem.F.plainAttrs_dict,XN,PySem.F.type_dict_pop,BA,%[0|15],%[1|1]|41]|16]|10]|9],?_};rw[%[%[|102],[.ref h,x],0|53]];clear G_DO;exists k;exists ha;ac_rfl;rw[kn];exact{st,l,D,Pp,vals,nv,ps,ha (),hn,k ()}
abbrev zM(cZ cT:Z)(x:Z)(p:Z)(H:Hp)(Q:VK)(E:XK):Prop:=∃ xs:G V,H p=U (.lst xs)/\(xs=[]\/4096<xs.length)/\(xs=[]->∀ H',Ext H H'->E (.ref cZ) Y H')/\(xs ≠ []->∀ dx H',Ext H H'->H' dx=U (.xd [("number",.int (xs.length:B))])->E (.ref cT) (U dx) H')
def Q2(cZ cT:Z):Sp:=λ vs H Q E=>∃ (x:Z) (p:Z),vs=[.ref x,.ref p]/\(zM cZ cT x p H Q E)
abbrev zX(cZ cT:Z)(x:Z)(p:Z)(H:Hp)(Q:VK)(E:XK):Prop:=∃ xs:G V,H p=U (.lst xs)/\(xs=[]\/4096<xs.length)/\(xs=[]->∀ H',Ext H H'->E (.ref cZ) Y H')/\(xs ≠ []->∀ dx H',Ext H H'->H' dx=U (.xd [("number",.int (xs.length:B))])->E (.ref cT) (U dx) H')
def Q7(cZ cT:Z):Sp:=λ vs H Q E=>∃ (x:Z) (p:Z),vs=[.ref x,.ref p]/\(zX cZ cT x p H Q E)
def Uk(n:B):G (Ã × V):=bh "size" (V.int n) (bh "axis" (V.int 0) [])
abbrev we(t:Adr)(x:Z)(a:B)(b:B)(H:Hp)(Q:VK)(E:XK):Prop:=∃ dx:Z,H x=U (.ins t.a_L9 dx [])/\a=0/\∀ H':Hp,(∀ H0,Ext H0 H->H0 x=Y->Ext H0 H')->H' x=U (.ins t.a_L9 dx (Uk b))->Q .non H'
def QG(t:Adr):Sp:=λ vs H Q E=>∃ (x:Z) (a:B) (b:B),vs=[.ref x,.int a,.int b]/\(we t x a b H Q E)
theorem iK(f:Ã)(v:V):∀ fs:G (Ã × V),(bh f v fs).length<=fs.length+1
 | []=>U6 _
 | (g,x)::r=>by
  let ih:=iK f v r;unfold bh;split
  ·rw[Vo,Vo];omega
  ·rw[Vo,Vo];omega
def Jr(a:B):G (Ã × V):=bh "step" V.non (bh "stop" V.non (bh "start" V.non (bh "axis" (V.int a) [])))
abbrev wj(t:Adr)(x:Z)(a:B)(H:Hp)(Q:VK)(E:XK):Prop:=∃ dx:Z,H x=U (.ins t.a_Mc dx [])/\∀ H':Hp,(∀ H0,Ext H0 H->H0 x=Y->Ext H0 H')->H' x=U (.ins t.a_Mc dx (Jr a))->Q .non H'
def QH(t:Adr):Sp:=λ vs H Q E=>∃ (x:Z) (a:B),vs=[.ref x,.int a,.non,.non,.non]/\(wj t x a H Q E)
abbrev oR  (b:Ý) (H:Hp) (Q:VK) (E:XK):Prop:=b=L/\Q .non H
def pK  : Sp:=λ vs H Q E=>∃ (b:Ý),vs=[.bl b]/\(oR  b H Q E)
theorem fe  (b:Ý) (H:Hp) (Q:VK) (E:XK):pK  [.bl b] H Q E=(oR  b H Q E):=jV (f:=λ (b:Ý)=>[.bl b]) %[2,1|63] b
theorem bH(T:Tx K mg t):%[1,yZ|49] ["fits"] pK:=by
 refine %[yZ,gU,1|70]
 ·let(b,rfl,rfl,k):=h;refine{_,%[%[%[%[0|26]|25],%[(@bU _ _)|10],(@aj _)|14]|10],?_};rw[%[["fits"],[.bl L],0|53]];ac_rfl
abbrev sS  (l:Z) (x:B) (H:Hp) (Q:VK) (E:XK):Prop:=∃ ms:G B,H l=%[ms|46]/\0<=x/\x<(ms.length:B)/\∀ H',Ext H H'->Q .non H'
def uH  : Sp:=λ vs H Q E=>∃ (l:Z) (x:B),vs=[.ref l,.int x]/\(sS  l x H Q E)
theorem jx  (l:Z) (x:B) (H:Hp) (Q:VK) (E:XK):uH  [.ref l,.int x] H Q E=(sS  l x H Q E):=jb (f:=λ (l:Z) (x:B)=>[.ref l,.int x]) %[4,2|63] l x
theorem cY(T:Tx K mg t):%[3,zm|49] ["sizes", "axis"] uH:=by
 intros yZ bH vJ bJ;refine %[zm,jM,2|70]
 ·let(l,x,rfl,ms,hl,x0,x1,k):=h;refine{_,%[%[%[yZ,%[%[vJ,%[1,%[%[len,aA,%[0|1]|6]|1]|1]|3]|1]|3]|16]|10],?_};rw[%[["sizes", "axis"],[.ref l,.int x],0|53]];clear G_yZ G_vJ;exists k
  let hb:fW (.int x) (ms.length:B)=L:=by
   show (decide (0<=x) && decide (x<(ms.length:B)))=L
   rw[Vi x0,Vi x1];rfl
  simp! only[↓jA];rw[jn];rw[hb];let k2:=k () H (Ext.refl _);clear k;ac_rfl;rw[fe];refine{J,?_};ac_rfl
abbrev xM(t:Adr)(b:Ý)(H:Hp)(Q:VK)(E:XK):Prop:=b=Â/\∀ H',Ext H H'->E (.ref t.a_Hh) Y H'
def Ax(t:Adr):Sp:=λ vs H Q E=>∃ (b:Ý),vs=[.bl b]/\(xM t b H Q E)
theorem HP(t:Adr)(b:Ý)(H:Hp)(Q:VK)(E:XK):Ax t [.bl b] H Q E=(xM t b H Q E):=jV (f:=λ (b:Ý)=>[.bl b]) %[2,1|63] b
theorem ku(T:Tx K mg t):au P w K mg base (CX1 P  w) 1 t.a_yZ t.d_yZ ["fits"] (Ax t):=by
 refine(Fun.x T.F_yZ).ok gU (λ _ _ _ _ h=>jW h λ _=>J) %[0|50]
 ·let(b,rfl,rfl,k):=h;refine{_,%[%[%[%[0|26]|25],%[(@lJ _ _ _ _ _ _ _ _ _ _ J ∅ T.m_Hh ⟨T.qAp⟩ (λ σ=>hU) %[(@aH _ _ _ _)|1] ∅ ∅ ⋯)|10],(@aj _)|14]|10],?_};rw[%[["fits"],[.bl Â],0|53]];let k2:=k H (Ext.refl _);clear k;ac_rfl
abbrev oS(t:Adr)(l:Z)(x:B)(H:Hp)(Q:VK)(E:XK):Prop:=∃ ms:G B,H l=%[ms|46]/\(ms.length:B)<=x/\∀ H',Ext H H'->E (.ref t.a_Hh) Y H'
def pL(t:Adr):Sp:=λ vs H Q E=>∃ (l:Z) (x:B),vs=[.ref l,.int x]/\(oS t l x H Q E)
theorem zD(t:Adr)(l:Z)(x:B)(H:Hp)(Q:VK)(E:XK):pL t [.ref l,.int x] H Q E=(oS t l x H Q E):=jb (f:=λ (l:Z) (x:B)=>[.ref l,.int x]) %[4,2|63] l x
theorem nt(T:Tx K mg t):au P w K mg base (CX1 P  w) 3 t.a_zm t.d_zm ["sizes", "axis"] (pL t):=by
 intros yZ ku vJ bJ;refine(Fun.x T.F_zm).ok jM (λ _ _ _ _ h=>fT h λ _ _=>J) %[0|50]
 ·let(l,x,rfl,ms,hl,x1,k):=h;refine{_,%[%[%[yZ,aK,%[%[vJ,%[1,%[%[len,aA,%[0|1]|6]|1]|1]|3]|1]|68]|16]|10],?_};rw[%[["sizes", "axis"],[.ref l,.int x],0|53]];clear G_yZ G_vJ;exists k
  let hb:fW (.int x) (ms.length:B)=Â:=by
   show (decide (0<=x) && decide (x<(ms.length:B)))=Â
   rw[VE (show ¬ x<(ms.length:B) by omega),Bool.and_false]
  simp! only[↓jA];rw[jn];rw[hb];ac_rfl;rw[HP];exact{J,k ()}
abbrev Ie(t:Adr)(m:Z)(l:Z)(H:Hp)(Q:VK)(E:XK):Prop:=∃ (dx:Z) (a:B) (ms:G B),H m=U (.ins t.a_Mc dx (Jr a))/\H l=%[ms|46]/\(ms.length:B)<=a/\∀ H',Ext H H'->E (.ref t.a_Hh) Y H'
def Ue(t:Adr):Sp:=λ vs H Q E=>∃ (m:Z) (l:Z),vs=[.ref m,.ref l]/\(Ie t m l H Q E)
abbrev Io(t:Adr)(m:Z)(l:Z)(H:Hp)(Q:VK)(E:XK):Prop:=∃ (dx:Z) (a:B) (ms:G B),H m=U (.ins t.a_Mc dx (Jr a))/\H l=%[ms|46]/\(ms.length:B)<=a/\∀ H',Ext H H'->E (.ref t.a_Hh) Y H'
def Ug(t:Adr):Sp:=λ vs H Q E=>∃ (m:Z) (l:Z),vs=[.ref m,.ref l]/\(Io t m l H Q E)
abbrev MR(t:Adr)(m:Z)(l:Z)(H:Hp)(Q:VK)(E:XK):Prop:=∃ (dx:Z) (a:B) (ms:G B),H m=U (.ins t.a_Mc dx (Jr a))/\H l=%[ms|46]/\(ms.length:B)<=a/\∀ H',Ext H H'->E (.ref t.a_Hh) Y H'
def UR(t:Adr):Sp:=λ vs H Q E=>∃ (m:Z) (l:Z),vs=[.ref m,.ref l]/\(MR t m l H Q E)
abbrev MS(t:Adr)(m:Z)(v:Z)(H:Hp)(Q:VK)(E:XK):Prop:=∃ (dx:Z) (a n f:B) (A:%[|48]),H m=U (.ins t.a_Mc dx (Jr a))/\aW t.a_aa0 H v n f A/\iA A/\(A.length:B)<=a/\∀ H',Ext H H'->E (.ref t.a_Hh) Y H'
def UT(t:Adr):Sp:=λ vs H Q E=>∃ (m:Z) (v:Z),vs=[.ref m,.ref v]/\(MS t m v H Q E)
theorem o8{f:Z}:au P w K mg base CX k f fd ps (λ _ _ _ _=>False):={λ _ _ _ _ h=>h.elim,λ _ _ _ _ _ _ _ _ _ _ _ _ _ _ h=>h.elim}
abbrev zR(t:Adr)(h:Z)(x:V)(y:V)(m:V)(H:Hp)(Q:VK)(E:XK):Prop:=∃ (st l D Pp:Z) (vals:G B) (nv:G NVw) (ps:G V),ay t H h st l D Pp vals nv ps/\o1 H x/\∀ dx H',Ext H H'->H' dx=U (.xd [("name",x)])->E (.ref t.a_L8) (U dx) H'
def pR(t:Adr):Sp:=λ vs H Q E=>∃ (h:Z) (x:V) (y:V) (m:V),vs=[.ref h,x,y,m]/\(zR t h x y m H Q E)
theorem qG(T:Tx K mg t):au P w K mg base (CX1 P  w) 9 t.a_DM t.d_DM %[|104] (pR t):=by
 intros vK er DO bA;let G_Slice_on:%[1,G0|49] %[|115] (λ _ _ _ _=>False):=o8;let G_G0:%[1,G0|49] %[|115] (λ _ _ _ _=>False):=o8;let G_DL:%[1,DL|49] %[|106] (λ _ _ _ _=>False):=o8;refine(Fun.x T.F_DM).ok cM (λ _ _ _ _ h=>EL h λ _ _ _ _=>J) (λ cdv A' outer s H vs Q E hr h=>?_)
 ·let(h,x,y,m,rfl,st,l,D,Pp,vals,nv,ps,ha,hn,k):=h;let c1:=T.qA0;let c2:=T.qA4;let f1:=aL st D Pp (m := "refuse_new") nofun;let f2:=bc st D Pp (m := "view") nofun;let f3:=aL st D Pp (m := "call") nofun;let(a3,h1):=ha.ob;refine{_,%[%[%[%[0|0],qA0,qA2,vK,aK,%[1|1]|60]|16],%[%[%[%[0|0],qA0,qA9,DL,av,%[1,%[%[%[3|0],qA4,qAt,G0,av,%[%[%[0|0],qA0,qA6,DO,av,%[2|1]|60]|1]|60]|1]|1]|60]|16]|10]|9],?_};rw[%[%[|104],[.ref h,x,y,m],0|53]];clear G_vK G_DO G_Slice_on G_G0 G_DL;exists k;exists ha;ac_rfl;rw[sD];exact{st,l,D,Pp,vals,nv,ps,ha (),hn,k ()}
abbrev zT(t:Adr)(h:Z)(x:Ã)(y:V)(m:V)(H:Hp)(Q:VK)(E:XK):Prop:=∃ (st l D Pp:Z) (vals:G B) (nv:G NVw) (ps:G V) (p:NVw),ay t H h st l D Pp vals nv ps/\nN nv/\p∈nv/\p.nm=x/\aB x/\∀ dx H',Ext H H'->H' dx=U (.xd [("name",.str x)])->E (.ref t.a_Ma) (U dx) H'
def pS(t:Adr):Sp:=λ vs H Q E=>∃ (h:Z) (x:Ã) (y:V) (m:V),vs=[.ref h,.str x,y,m]/\(zT t h x y m H Q E)
theorem qJ(T:Tx K mg t):au P w K mg base (CX1 P  w) 9 t.a_DM t.d_DM %[|104] (pS t):=by
 intros vK et DO bA;let G_Slice_on:%[1,G0|49] %[|115] (λ _ _ _ _=>False):=o8;let G_G0:%[1,G0|49] %[|115] (λ _ _ _ _=>False):=o8;let G_DL:%[1,DL|49] %[|106] (λ _ _ _ _=>False):=o8;refine(Fun.x T.F_DM).ok cM (λ _ _ _ _ h=>EL h λ _ _ _ _=>J) (λ cdv A' outer s H vs Q E hr h=>?_)
 ·let(h,x,y,m,rfl,st,l,D,Pp,vals,nv,ps,p,ha,a3,hp,a4,hn,k):=h;let c1:=T.qA0;let c2:=T.qA4;let f1:=aL st D Pp (m := "refuse_new") nofun;let f2:=bc st D Pp (m := "view") nofun;let f3:=aL st D Pp (m := "call") nofun;let(a5,h1):=ha.ob;refine{_,%[%[%[%[0|0],qA0,qA2,vK,aK,%[1|1]|60]|16],%[%[%[%[0|0],qA0,qA9,DL,av,%[1,%[%[%[3|0],qA4,qAt,G0,av,%[%[%[0|0],qA0,qA6,DO,av,%[2|1]|60]|1]|60]|1]|1]|60]|16]|10]|9],?_};rw[%[%[|104],[.ref h,.str x,y,m],0|53]];clear G_vK G_DO G_Slice_on G_G0 G_DL;exists k;exists ha;ac_rfl;rw[sE];exact{st,l,D,Pp,vals,nv,ps,p,ha (),a3,hp,a4,hn,k ()}
abbrev zP(t:Adr)(h:Z)(x:Ã)(y:V)(m:Z)(H:Hp)(Q:VK)(E:XK):Prop:=∃ (st l D Pp:Z) (vals:G B) (nv:G NVw) (ps:G V) (dx:Z) (a:B),ay t H h st l D Pp vals nv ps/\aB x/\(∀ p∈nv,p.nm≠x)/\iE H nv y/\H m=U (.ins t.a_Mc dx (Jr a))/\∀ dx H',Ext H H'->H' dx=U (.xd [("name",y)])->E (.ref t.a_L8) (U dx) H'
def Q5(t:Adr):Sp:=λ vs H Q E=>∃ (h:Z) (x:Ã) (y:V) (m:Z),vs=[.ref h,.str x,y,.ref m]/\(zP t h x y m H Q E)
abbrev zS(t:Adr)(h:Z)(x:Ã)(y:Ã)(m:Z)(H:Hp)(Q:VK)(E:XK):Prop:=∃ (st l D Pp:Z) (vals:G B) (nv:G NVw) (ps:G V) (p:NVw) (dx:Z) (a:B),ay t H h st l D Pp vals nv ps/\nN nv/\aB x/\(∀ q∈nv,q.nm≠x)/\p∈nv/\p.nm=y/\aB y/\H m=U (.ins t.a_Mc dx (Jr a))/\(∃ n,aW t.a_aa0 H p.ad n p.f p.A)/\iA p.A/\(p.A.length:B)<=a/\∀ H',Ext H H'->E (.ref t.a_Hh) Y H'
def Q6(t:Adr):Sp:=λ vs H Q E=>∃ (h:Z) (x:Ã) (y:Ã) (m:Z),vs=[.ref h,.str x,.str y,.ref m]/\(zS t h x y m H Q E)
def pP(t:Adr):Sp:=λ vs H Q E=>∃ (h:Z),vs=[.ref h]/\(∃ (st l D Pp:Z) (vals:G B) (nv:G NVw) (ps:G V),ay t H h st l D Pp vals nv ps/\nv.length<=100/\∀ (r:Z) (H':Hp),H r=Y->Ext H H'->H' r=U (.lst ((nv.map NVw.nm).map V.str))->Q (.ref r) H')
theorem ko(t:Adr)(h:Z)(H:Hp)(Q:VK)(E:XK):pP t [.ref h] H Q E=(∃ (st l D Pp:Z) (vals:G B) (nv:G NVw) (ps:G V),ay t H h st l D Pp vals nv ps/\nv.length<=100/\∀ (r:Z) (H':Hp),H r=Y->Ext H H'->H' r=U (.lst ((nv.map NVw.nm).map V.str))->Q (.ref r) H'):=jV (f:=λ (h:Z)=>[.ref h]) %[2,1|63] h
theorem Gb(nv:G NVw):(nvD nv).map (λ z=>kV z.1)=(nv.map NVw.nm).map V.str:=by
 unfold nvD;rw[map_map,map_map];rfl
theorem qD(T:Tx K mg t):%[1,Dz|49] ["self"] (pP t):=by
 refine %[Dz,uc,1|70]
 ·let(h,rfl,st,l,D,Pp,vals,nv,ps,ha,hl,k):=h;let c1:=T.qA0;let c2:=T.qA3;let f1:=aS st D Pp;let((dx,h1),_,h3,_):=ha;refine{_,%[%[%[(vU J),T.z_list,%[%[0|15]|1]|32]|12]|10],?_};rw[%[["self"],[.ref h],0|53]];exists k;ac_rfl;refine B5 h3 (ak (by unfold nvD;rw[length_map];omega)) ?_;rw[Gb];clear h3;intro r H1 a3 e1 hr;exact k () r H1 a3 e1 hr
def pM  : Sp:=λ vs H Q E=>∃ (q:Z),vs=[.ref q]/\(∃ (n f:B) (A:%[|48]),rn H q n f A/\iA A/\∀ H',Ext H H'->Q (.int (aw (A.map λ a=>a.1))) H')
theorem ff  (q:Z) (H:Hp) (Q:VK) (E:XK):pM  [.ref q] H Q E=(∃ (n f:B) (A:%[|48]),rn H q n f A/\iA A/\∀ H',Ext H H'->Q (.int (aw (A.map λ a=>a.1))) H'):=jV (f:=λ (q:Z)=>[.ref q]) %[2,1|63] q
theorem jF(T:Tx K mg t):%[1,DG|49] %[|126] pM:=by
 refine T.F_DG.ok di (λ _ _ _ _ h=>jW h λ _=>J) (λ cdv A' outer s H vs Q E hr h=>?_)
 ·let(q0,rfl,n,first,axs,(l,a5,ys,hl,al),a3,k):=h;refine{_,%[%[1,di,99|4],%[%[V2,%[%[eA,0,99|17]|28],(%[(2),%[%[2,di|5],%[%[3,di|5],(@bD _)|22]|22]|39].mono λ _ _ _ _ h=>dI h),%[%[1,di,%[Bw,1,2|11]|4]|10]|43],%[%[1|12]|10]|9]|9],?_};rw[%[["_law_parts_here", "_law_count_here", "_law_size", "_law_pace"],[.ref q0],3|53]];exists k;let hs:=a3.sizes;ac_rfl;refine iM (xs:=ys) (λ i σ H'=>∃ (v2 v3:Ü V),σ=[%[q0|45],U (.int (aw ((axs.map λ a=>a.1).take i))),v2,v3]/\H'=H) ⟨Y,Y,J,J⟩ (λ i σ H' _ ⟨_,_,_,e⟩=>by subst e;exact hl) ?_ ?_
  ·rintro i y _ H3 hi ⟨v2,v3,rfl,rfl⟩;let(a,q,ha,rfl,hq):=J6 al hi;let hz:(axs.map λ a=>a.1)[i]? = U a.1:=by rw[Vd,ha];rfl
   let e:=hV (axs.map λ a=>a.1) i a.1 hz;let b1:=(hs.take i).prod;let b2:=hs.2 a.1 (Vx hz)
   let c1:(aw ((axs.map λ a=>a.1).take i)).natAbs<2 ^ 256:=by
    generalize aw ((axs.map λ a=>a.1).take i)=y at b1;have:(1000000000:B) ^ 8<2 ^ 256:=by decide
    omega
   let c2:a.1.natAbs<2 ^ 256:=by omega
   clear b1 b2 hi hz k hs;simp! only[↓cn,xK];exact{_,_,J}
  ·rintro _ _ ⟨v2,v3,rfl,rfl⟩;let a4:ys.length=(axs.map λ a=>a.1).length:=by rw[al.1];simp[axL]
   rw[a4,Wy];let k':=k () _ (Ext.refl _);ac_rfl
theorem Bf{a:Z}(k:à)(h:H a=U (.tup xs))(q:∀ (r:Z) (H':Hp),Ext H H'->H' r=U (.tup (xs.take k))->Q (.ref r) H'):QP (.ref a) Y (U (k:B)) H Q:=by
 show aM (jg H a) (M8 a Y (U (k:B)) H Q)
 rw[jg,h]
 show M8 a Y (U (k:B)) H Q xs
 let e0:HT.sIx xs.length xs.length (U ((k:à):B))=min k xs.length:=HT.sIx_nat _ _ _;refine{λ hw=>q a H (Ext.refl _) ?_,λ hw r H' hr e1 hh=>q r H' e1 ?_}
 ·let h2:HT.sIx xs.length xs.length (U ((k:à):B))=xs.length:=hw.2;rw[e0] at h2;rw[h,Ww %[|8]]
 ·rw[hh,L2.HK xs (k:B) %[|8],VC]
theorem rM{a:Z}(k:à)(h:H a=U (.tup xs))(q:∀ (r:Z) (H':Hp),Ext H H'->H' r=U (.tup (xs.drop k))->Q (.ref r) H'):QP (.ref a) (U (k:B)) Y H Q:=by
 show aM (jg H a) (M8 a (U (k:B)) Y H Q)
 rw[jg,h]
 show M8 a (U (k:B)) Y H Q xs
 let e0:HT.sIx xs.length 0 (U ((k:à):B))=min k xs.length:=HT.sIx_nat _ _ _;refine{λ hw=>q a H (Ext.refl _) ?_,λ hw r H' hr e1 hh=>q r H' e1 ?_}
 ·let h2:HT.sIx xs.length 0 (U ((k:à):B))=0:=hw.1;rw[e0] at h2
  have:k=0\/xs=[]:=by
   rcases Nat.eq_zero_or_pos k with h|h
   ·exact .inl h
   ·exact .inr (List.length_eq_zero_iff.mp %[|8])
  rcases this with rfl|rfl
  ·exact h
  ·rw[h,List.drop_nil]
 ·rw[hh,L2.HJ xs (k:B) %[|8],VC]
def MZ(k:à)(xs ts:G V):G V:=xs.take k++ts++xs.drop (k+1)
theorem gN(T:Tx K mg t)(xs ts:G V)(k:à):%[1,GV|49] %[|124] (λ vs H Q E=>∃ l e:Z,vs=[.ref l,.int (k:B),.ref e]/\H l=U (.lst xs)/\H e=U (.lst ts)/\xs.length<=8/\ts.length<=8/\∀ (r:Z) (H':Hp),H r=Y->Ext H H'->H' r=U (.lst (MZ k xs ts))->Q (.ref r) H'):=by
 refine T.F_GV.ok oM (λ vs H Q E h=>by let(l,e,rfl,_):=h;rfl) %[0|50]
 ·let(l,e,rfl,hl,he,h8,t8,kk):=h;refine{_,%[%[%[dJ,%[dJ,%[bo,T.z_list,%[%[Ip,0,(@bX _),%[1|34]|37]|1]|32],%[bo,T.z_list,%[2|1]|32]|11],%[bo,T.z_list,%[%[Ip,0,%[%[aI,1,99|11]|34],(@bX _)|37]|1]|32]|11]|12]|10],?_};rw[%[%[|124],[.ref l,.int (k:B),.ref e],0|53]];exists kk;ac_rfl;intro a1 H1 a9 e1 h1;let g1:H1 a1=U (.lst (xs.take k)):=by rw[h1,L2.HK _ _ %[|8],VC]
  let l1:=e1.at hl;let t1:=e1.at he;clear h1;ac_rfl;intro a2 H2 b1 e2 h2;let l2:=e2.at l1;let t2:=e2.at t1;clear g1 l1 t1;ac_rfl;intro a3 H3 b2 e3 h3;let l3:=e3.at l2;let g2:=e3.at h2;clear h2 l2 t2;let z1:(xs.take k).length+ts.length<=Æ:=ak (by rw[Vu];omega);ac_rfl;intro a4 H4 b3 e4 h4;let l4:=e4.at l3;clear g2 l3 h3 z1;ac_rfl;intro a5 H5 b4 e5 h5;let g5:H5 a5=U (.lst (xs.drop (k+1))):=by rw[h5,L2.HJ _ _ %[|8]];exact VQ (λ n=>U (HO.lst (xs.drop n))) %[|8]
  let g4:=e5.at h4;clear h5 l4 h4;ac_rfl;intro a6 H6 b5 e6 h6;let b6:=e6.at g4;clear g5 g4;let z2:(xs.take k++ts).length+(xs.drop (k+1)).length<=Æ:=ak (by rw[Va,Vu,WA];omega);ac_rfl;intro r H7 a8 e7 h7;let a7:=e1.trans (e2.trans (e3.trans (e4.trans (e5.trans e6))));exact kk () r H7 (a7.free a8) (a7.trans e7) h7
theorem kW(T:Tx K mg t)(xs ts:G V)(k:à):%[1,GV|49] %[|124] (λ vs H Q E=>∃ l e:Z,vs=[.ref l,.int (k:B),.ref e]/\H l=U (.tup xs)/\H e=U (.lst ts)/\xs.length<=8/\ts.length<=8/\∀ (r:Z) (H':Hp),H r=Y->Ext H H'->H' r=U (.lst (MZ k xs ts))->Q (.ref r) H'):=by
 refine T.F_GV.ok oM (λ vs H Q E h=>by let(l,e,rfl,_):=h;rfl) %[0|50]
 ·let(l,e,rfl,hl,he,h8,t8,kk):=h;refine{_,%[%[%[dJ,%[dJ,%[bo,T.z_list,%[%[ET,0,(@bX _),%[1|34]|37]|1]|32],%[bo,T.z_list,%[2|1]|32]|11],%[bo,T.z_list,%[%[ET,0,%[%[aI,1,99|11]|34],(@bX _)|37]|1]|32]|11]|12]|10],?_};rw[%[%[|124],[.ref l,.int (k:B),.ref e],0|53]];exists kk;ac_rfl;refine Bf k hl λ a1 H1 e1 g1=>?_;let l1:=e1.at hl;let t1:=e1.at he;clear hl he;ac_rfl;intro a2 H2 a9 e2 h2;let l2:=e2.at l1;let t2:=e2.at t1;clear g1 l1 t1;ac_rfl;intro a3 H3 b1 e3 h3;let l3:=e3.at l2;let g2:=e3.at h2;clear h2 l2 t2;let z1:(xs.take k).length+ts.length<=Æ:=ak (by rw[Vu];omega);ac_rfl;intro a4 H4 b2 e4 h4;let l4:=e4.at l3;clear g2 l3 h3 z1;ac_rfl;rw[show (k:B)+1=((k+1:à):B) by omega];refine rM (k+1) l4 λ a5 H5 e5 g5=>?_;let g4:=e5.at h4;clear l4 h4;ac_rfl;intro a6 H6 b3 e6 h6;let b4:=e6.at g4;clear g5 g4;let z2:(xs.take k++ts).length+(xs.drop (k+1)).length<=Æ:=ak (by rw[Va,Vu,WA];omega);ac_rfl;intro r H7 a8 e7 h7;let a7:=e1.trans (e2.trans (e3.trans (e4.trans (e5.trans e6))));exact kk () r H7 (a7.free a8) (a7.trans e7) h7
def EM(k:à)(n:B):G (Ã × V):=bh "size" (V.int n) (bh "axis" (V.int (k:B)) [])
theorem wV(k:à)(n:B):(EM k n).lookup ("axis":Ã)=U (.int (k:B)):=by
 unfold EM;rw[ae,if_neg nofun,ae,if_pos J]
theorem Fp(k:à)(n:B):(EM k n).lookup ("size":Ã)=%[n|47]:=by
 unfold EM;rw[ae,if_pos J]
theorem Ol(k:à)(n:B)(h:m∈([("behind":Ã), "ahead", "sizes_of", "on"]:G Ã)):(EM k n).lookup m=Y:=by
 let n1:¬ m = "size":=by revert m;decide +kernel
 let n2:¬ m = "axis":=by revert m;decide +kernel
 unfold EM;rw[ae,if_neg n1,ae,if_neg n2];rfl
theorem ph(k:à)(ms:G B)(n:B)(h:k<ms.length):MZ k (ms.map V.int) [.int n]=(ms.set k n).map V.int:=by
 unfold MZ;rw[List.set_eq_take_append_cons_drop,if_pos h,map_append,map_cons,map_take,List.map_drop,List.append_assoc];rfl
abbrev Ig(t:Adr)(k:à)(n:B)(m:Z)(l:Z)(H:Hp)(Q:VK)(E:XK):Prop:=∃ (dx:Z) (ms:G B),H m=U (.ins t.a_L9 dx (EM k n))/\H l=%[ms|46]/\ms[k]? = U 1/\ms.length<=8/\1<=n/\n<=1000000000/\∀ (r:Z) (H':Hp),H r=Y->Ext H H'->H' r=U (.lst ((ms.set k n).map V.int))->Q (.ref r) H'
def IC(t:Adr)(k:à)(n:B):Sp:=λ vs H Q E=>∃ (m:Z) (l:Z),vs=[.ref m,.ref l]/\(Ig t k n m l H Q E)
theorem ky(T:Tx K mg t)(k:à)(n:B):%[4,zd|49] %[|103] (IC t k n):=by
 intros zm cY yZ bH GW ki;let G_GV:=λ (xs ts:G V)=>gN (P:=P) (w:=w) (base:=base) T xs ts k;refine %[zd,nH,2|70]
 ·let(m,l,rfl,dx,ms,hm,hl,hk,h8,n1,n9,kk):=h;replace G_GV:=G_GV (ms.map V.int) [.int n];let a4:k<ms.length:=(U1.mp hk).1;let c1:=T.qAk;let c2:=T.qAs;let c3:=T.qB7;let f1:=wV k n;let f2:=Fp k n;let g0:atI (ms.map V.int) (k:B)=U (.int 1):=bQ (by rw[Vd,hk];rfl);refine{_,%[%[%[zm,%[1,%[%[0|15]|1]|1]|3]|16],%[%[%[yZ,%[%[%[(aO hr.units),%[eA,1,%[0|15]|17],99,(ai _)|29],%[%[GW,%[%[0|15]|1]|3]|75]|38]|1]|3]|16],%[%[%[GV,%[1,%[%[0|15],%[%[%[%[0|15]|1]|23]|1]|1]|1]|3]|12]|10]|9]|9],?_};rw[%[%[|103],[.ref m,.ref l],0|53]];clear G_zm G_yZ G_GW G_GV;exists kk;exists hk;ac_rfl;rw[jx];refine{ms,hl,by omega,by omega,λ H1 e1=>?_};let a3:=e1.at hl;let a5:=e1.at hm;clear hl hm;ac_rfl;rw[qm,Vi n1,Vi n9];ac_rfl;rw[fe];refine{J,?_};ac_rfl;intro xL H2 hL e2 a6;let a7:=e2.at a3;clear a3 a5;ac_rfl;refine{l,xL,J,a7,a6,λ r H3 a8 e3 h3=>?_};rw[ph k ms n a4] at h3;let k2:=kk () r H3 ((e1.trans e2).free a8) ((e1.trans e2).trans e3) h3;clear kk;ac_rfl
abbrev Ih(t:Adr)(k:à)(n:B)(m:Z)(l:Z)(q:Z)(H:Hp)(Q:VK)(E:XK):Prop:=∃ (dx:Z) (ys:G B),H m=U (.ins t.a_L9 dx (EM k n))/\H q=U (.tup (ys.map V.int))/\k<ys.length/\ys.length<=8/\∀ (r:Z) (H':Hp),Ext H H'->H' r=U (.tup ((ys.set k 0).map V.int))->Q (.ref r) H'
def ID(t:Adr)(k:à)(n:B):Sp:=λ vs H Q E=>∃ (m:Z) (l:Z) (q:Z),vs=[.ref m,.ref l,.ref q]/\(Ih t k n m l q H Q E)
theorem lr(T:Tx K mg t)(k:à)(n:B):%[2,zi|49] %[|113] (ID t k n):=by
 let G_GV:=λ (xs ts:G V)=>kW (P:=P) (w:=w) (base:=base) T xs ts k;refine %[zi,oa,3|70]
 ·let(m,l,q,rfl,dx,ys,hm,hq,hk,h8,kk):=h;replace G_GV:=G_GV (ys.map V.int) [.int 0];let c1:=T.qAk;let c2:=T.qAs;let f1:=wV k n;refine{_,%[%[%[dU,T.z_tuple,%[%[GV,%[2,%[%[0|15],%[%[%[99|1]|23]|1]|1]|1]|3]|1]|32]|12]|10],?_};rw[%[%[|113],[.ref m,.ref l,.ref q],0|53]];clear G_GV;exists kk;ac_rfl;intro xL H1 _ e1 h1;let a3:=e1.at hq;clear hq hm;ac_rfl;refine{q,xL,J,a3,h1,λ r H2 _ e2 h2=>?_};rw[ph k ys 0 hk] at h2;clear a3 h1;ac_rfl;intro r3 H3 _ e3 h3;exact kk () r3 H3 (e1.trans (e2.trans e3)) h3
def wt(k:à)(j:B):G (Ã × V):=bh "at" (V.int j) (bh "axis" (V.int (k:B)) [])
theorem lK(k:à)(j:B):(wt k j).lookup ("axis":Ã)=U (.int (k:B)):=by
 unfold wt;rw[ae,if_neg nofun,ae,if_pos J]
theorem IM(k:à)(j:B):(wt k j).lookup ("at":Ã)=%[j|47]:=by
 unfold wt;rw[ae,if_pos J]
theorem oo(k:à)(j:B)(h:m∈([("picked":Ã), "behind", "ahead", "sizes_of", "on"]:G Ã)):(wt k j).lookup m=Y:=by
 let n1:¬ m = "at":=by revert m;decide +kernel
 let n2:¬ m = "axis":=by revert m;decide +kernel
 unfold wt;rw[ae,if_neg n1,ae,if_neg n2];rfl
theorem Kt(k:à)(ms:G B):MZ k (ms.map V.int) []=(ms.eraseIdx k).map V.int:=by
 unfold MZ;rw[List.eraseIdx_eq_take_drop_succ,map_append,map_take,List.map_drop,append_nil]
abbrev BZ(t:Adr)(k:à)(j:B)(m:Z)(l:Z)(H:Hp)(Q:VK)(E:XK):Prop:=∃ dx:Z,H m=U (.ins t.a_aa3 dx (wt k j))/\0<=j/\Q (.int j) H
def JE(t:Adr)(k:à)(j:B):Sp:=λ vs H Q E=>∃ (m:Z) (l:Z),vs=[.ref m,.ref l]/\(BZ t k j m l H Q E)
theorem BS(t:Adr)(k:à)(j:B)(m:Z)(l:Z)(H:Hp)(Q:VK)(E:XK):JE t k j [.ref m,.ref l] H Q E=(BZ t k j m l H Q E):=jb (f:=λ (m:Z) (l:Z)=>[.ref m,.ref l]) %[4,2|63] m l
theorem gQ(T:Tx K mg t)(k:à)(j:B):%[1,zr|49] %[|103] (JE t k j):=by
 refine %[zr,rg,2|70]
 ·let(m,l,rfl,dx,a3,hj,kk):=h;let f1:=lK k j;let f2:=IM k j;let f3:=oo k j (m := "picked") nofun;let c1:=T.qAa;let c2:=T.qAj;let c3:=T.qB8;let hn:¬ j<0:=by omega
  refine{_,%[%[%[%[o7,%[0|15],99,(ai _)|13],%[aI,%[0|15],%[eA,1,%[0|15]|17]|11],%[0|15]|44]|12]|10],?_};rw[%[%[|103],[.ref m,.ref l],0|53]];ac_rfl
abbrev Ik(t:Adr)(k:à)(j:B)(m:Z)(l:Z)(H:Hp)(Q:VK)(E:XK):Prop:=∃ (dx:Z) (ms:G B) (z:B),H m=U (.ins t.a_aa3 dx (wt k j))/\H l=%[ms|46]/\ms[k]? = U z/\0<=j/\j<z/\z<=1000000000/\ms.length<=8/\∀ (r:Z) (H':Hp),H r=Y->Ext H H'->H' r=U (.lst ((ms.eraseIdx k).map V.int))->Q (.ref r) H'
def IG(t:Adr)(k:à)(j:B):Sp:=λ vs H Q E=>∃ (m:Z) (l:Z),vs=[.ref m,.ref l]/\(Ik t k j m l H Q E)
theorem nz(T:Tx K mg t)(k:à)(j:B):%[4,Dp|49] %[|103] (IG t k j):=by
 intros zm cY yZ bH vJ bJ;let G_zr:=%[gQ|84] k j;let G_GV:=λ (xs ts:G V)=>gN (P:=P) (w:=w) (base:=base) T xs ts k;refine %[Dp,jO,2|70]
 ·let(m,l,rfl,dx,ms,z,a3,hl,hk,hj,a6,hz,h8,kk):=h;replace G_GV:=G_GV (ms.map V.int) [];let b1:k<ms.length:=(U1.mp hk).1;let f1:=lK k j;let f2:=IM k j;let f3:=oo k j (m := "picked") nofun;let c1:=T.qAa;let c2:=T.qAj;let c3:=T.qB8;let g0:atI (ms.map V.int) (k:B)=%[z|47]:=bQ (by rw[Vd,hk];rfl);refine{_,%[%[%[zm,%[1,%[%[0|15]|1]|1]|3]|16],%[%[%[yZ,%[%[vJ,%[%[%[0|0],qAa,qB6,zr,av,%[1|1]|60],%[%[eA,1,%[0|15]|17]|1]|1]|3]|1]|3]|16],%[%[%[GV,%[1,%[%[0|15],%[%[(@eB _)|23]|1]|1]|1]|3]|12]|10]|9]|9],?_};rw[%[%[|103],[.ref m,.ref l],0|53]];clear G_zm G_yZ G_vJ G_zr G_GV;exists kk;exists hk;ac_rfl;rw[jx];refine{ms,hl,by omega,by omega,λ H1 e1=>?_};let a4:=e1.at hl;let a5:=e1.at a3;clear a3 hl;ac_rfl;rw[BS];refine{dx,a5,hj,?_}
  let hb:fW (.int j) z=L:=by
   show (decide (0<=j) && decide (j<z))=L
   rw[Vi hj,Vi a6];rfl
  simp! only[↓jA];rw[jn,hb];ac_rfl;rw[fe];refine{J,?_};ac_rfl;intro xL H2 hL e2 a7;let a8:=e2.at a4;clear a4 a5;ac_rfl;refine{l,xL,J,a8,a7,λ r H3 a9 e3 h3=>?_};rw[Kt] at h3;let k2:=kk () r H3 ((e1.trans e2).free a9) ((e1.trans e2).trans e3) h3;clear kk;ac_rfl
abbrev Il(t:Adr)(k:à)(j:B)(m:Z)(l:Z)(q:Z)(H:Hp)(Q:VK)(E:XK):Prop:=∃ (dx:Z) (ys:G B),H m=U (.ins t.a_aa3 dx (wt k j))/\H q=U (.tup (ys.map V.int))/\0<=j/\ys.length<=8/\∀ (r:Z) (H':Hp),Ext H H'->H' r=U (.tup ((ys.take k++j::ys.drop k).map V.int))->Q (.ref r) H'
def IH(t:Adr)(k:à)(j:B):Sp:=λ vs H Q E=>∃ (m:Z) (l:Z) (q:Z),vs=[.ref m,.ref l,.ref q]/\(Il t k j m l q H Q E)
theorem nY(T:Tx K mg t)(k:à)(j:B):%[2,DC|49] %[|113] (IH t k j):=by
 let G_zr:=%[gQ|84] k j;refine %[DC,ub,3|70]
 ·let(m,l,q,rfl,dx,ys,a7,hq,hj,h8,kk):=h;let f1:=lK k j;let f3:=oo k j (m := "picked") nofun;let c1:=T.qAa;let c2:=T.qAj;refine{_,%[%[%[xa,%[xa,%[ET,2,(@bX _),%[%[0|15]|34]|37],%[%[%[%[0|0],qAa,qB6,zr,av,%[1|1]|60]|1]|19]|11],%[ET,2,%[%[0|15]|34],(@bX _)|37]|11]|12]|10],?_};rw[%[%[|113],[.ref m,.ref l,.ref q],0|53]];clear G_zr;exists kk;ac_rfl;refine Bf k hq λ a1 H1 e1 h1=>?_;let a6:=e1.at a7;let a8:=e1.at hq;clear a7 hq;ac_rfl;rw[BS];refine{dx,a6,hj,?_};ac_rfl;intro a2 H2 _ e2 h2;let a9:=e2.at h1;let b1:=e2.at a8;let b2:=e2.at a6;clear h1 a8 a6;simp! only[↓Iv];refine{ak (by simp;omega),λ a3 H3 e3 h3=>?_};let b3:=e3.at b1;let b4:=e3.at b2;clear a9 h2 b1 b2;ac_rfl;refine rM k b3 λ a4 H4 e4 h4=>?_;let b5:=e4.at h3;clear h3 b3 b4;simp! only[↓Iv];refine{ak (by simp;omega),λ a5 H5 e5 h5=>?_};refine kk () a5 H5 (e1.trans (e2.trans (e3.trans (e4.trans e5)))) (h5.trans ?_);simp[map_take,List.map_drop]
def As(b n lo hi:B):B:=
 if (if (if b<0 then b+n else b)<hi then (if b<0 then b+n else b) else hi) > lo then (if (if b<0 then b+n else b)<hi then (if b<0 then b+n else b) else hi) else lo
def AH  : Sp:=λ vs H Q E=>∃ (b:B) (n:B) (lo:B) (hi:B),vs=[.int b,.int n,.int lo,.int hi]/\(Q (.int (As b n lo hi)) H)
theorem HV  (b:B) (n:B) (lo:B) (hi:B) (H:Hp) (Q:VK) (E:XK):AH  [.int b,.int n,.int lo,.int hi] H Q E=(Q (.int (As b n lo hi)) H):=QJ (f:=λ (b:B) (n:B) (lo:B) (hi:B)=>[.int b,.int n,.int lo,.int hi]) %[8,4|63] b n lo hi
def uC  : Sp:=λ vs H Q E=>∃ (f:B) (e:B) (st:B),vs=[.int f,.int e,.int st]/\(st≠0/\st.natAbs<2 ^ 256/\Q (.int (-((f - e).fdiv st))) H)
theorem sx  (f:B) (e:B) (st:B) (H:Hp) (Q:VK) (E:XK):uC  [.int f,.int e,.int st] H Q E=(st≠0/\st.natAbs<2 ^ 256/\Q (.int (-((f - e).fdiv st))) H):=EK (f:=λ (f:B) (e:B) (st:B)=>[.int f,.int e,.int st]) %[6,3|63] f e st
theorem Bx(T:Tx K mg t):%[1,Me|49] ["bound", "size", "low", "high"] AH:=by
 refine %[Me,Jl,4|70]
 ·let(b,n,lo,hi,rfl,k):=h;refine{_,%[%[4,Jl,%[%[o7,0,99,(ai _)|13],%[aI,0,1|11],0|44]|4],%[%[%[max,(jw J),%[2,%[%[min,(mL J),%[3,%[4|1]|1]|6]|1]|1]|6]|12]|10]|9],?_};rw[%[["bound", "size", "low", "high", "counted"],[.int b,.int n,.int lo,.int hi],1|53]];unfold As at k
  by_cases hb:b<0
  ·rw[Ve hb] at k;ac_rfl
  ·rw[U7 hb] at k;ac_rfl
theorem fY(T:Tx K mg t):%[1,yY|49] ["first", "end", "stride"] uC:=by
 refine %[yY,nC,3|70]
 ·let(f,e,st,rfl,h0,h1,k):=h;refine{_,%[%[(@ye _ _ _ _ _ _ j7 %[xc,%[dB,0,1|11],2|11])|12]|10],?_};rw[%[["first", "end", "stride"],[.int f,.int e,.int st],0|53]];let hc:E9 (f - e) st:={(h0),h1};ac_rfl
abbrev sP  (n:B) (H:Hp) (Q:VK) (E:XK):Prop:=1<=n/\∀ (p:Z) (H':Hp),Ext H H'->H' p=U (.tup [.int (n - 1),.int n,.int (-1)])->Q (.ref p) H'
def uE  : Sp:=λ vs H Q E=>∃ (n:B),vs=[.int n,.non,.non,.int (-1)]/\(sP  n H Q E)
theorem Er  (n:B) (H:Hp) (Q:VK) (E:XK):uE  [.int n,.non,.non,.int (-1)] H Q E=(sP  n H Q E):=jV (f:=λ (n:B)=>[.int n,.non,.non,.int (-1)]) %[2,1|63] n
theorem FZ(T:Tx K mg t):%[2,Md|49] ["size", "start", "stop", "step"] uE:=by
 intros Me Bx yY fY;refine %[Md,cJ,1|70]
 ·let(n,rfl,hn,k):=h;refine{_,%[%[4,cJ,%[%[kJ,3,(@aZ _ _ _),(ai _)|13],99,3|44]|4],%[%[%[(aO hr.units),4,99,(ai _)|13],%[(@bU _ _)|10],(@aj _)|14],%[%[5,cJ,%[%[iI,4,99,(ai _)|13],99,(@ye _ _ _ _ _ _ j7 %[|2])|44]|4],%[%[6,cJ,%[aI,5,0|11]|4],%[%[7,cJ,%[%[iI,4,99,(ai _)|13],5,6|44]|4],%[%[8,cJ,%[%[iI,4,99,(ai _)|13],6,5|44]|4],%[%[%[lM,1,(@aZ _ _ _),(ai _)|13],%[%[7,cJ,%[Me,%[1,%[0,%[5,%[6|1]|1]|1]|1]|3]|4]|10],(@aj _)|14],%[%[%[lM,2,(@aZ _ _ _),(ai _)|13],%[%[8,cJ,%[Me,%[2,%[0,%[5,%[6|1]|1]|1]|1]|3]|4]|10],(@aj _)|14],%[%[9,cJ,%[yY,%[7,%[8,%[4|1]|1]|1]|3]|4],%[%[%[o7,9,99,(ai _)|13],%[(@bU _ _)|10],(@aj _)|14],%[%[%[%[7,%[9,%[4|1]|1]|1]|19]|12]|10]|9]|9]|9]|9]|9]|9]|9]|9]|9]|9],?_};rw[%[%[|120],[.int n,.non,.non,.int (-1)],6|53]];clear G_Me G_yY;exists k;simp! only[-bw];rw[bw];simp! only[-bw,-nS];rw[nS];simp! only[-bw,-nS];generalize hm:-1+n=m
  let a3:-((m - -1).fdiv (-1))=n:=by
   let e1:m - -1=(-n) * (-1):=by omega
   rw[e1,Int.mul_fdiv_cancel _ ⋯];omega
  let a4:m=n - 1:=by omega
  exists a4;exists a3;clear hm;simp! only[-bw];rw[bw];simp! only[-bw];rw[bw];simp! only[-bw];rw[sx,a3 ()];refine{by decide,by decide,?_};let hd:¬ (n<1):=by omega
  clear hn;ac_rfl;intro r H1 _ e1 h1;exact k () r H1 e1 (by rw[h1,a4 ()])
def ya(k:à):G (Ã × V):=bh "step" (V.int (-1)) (bh "stop" V.non (bh "start" V.non (bh "axis" (V.int (k:B)) [])))
theorem FJ{X:Cx}{hs:G ExceptHandler}:PHs X hs Nm:=λ _ _ _ _ _ _ _ _ _ _ _ _ _ h=>h.elim
theorem AS(k:à):(ya k).lookup ("axis":Ã)=U (.int (k:B))/\(ya k).lookup ("start":Ã)=U .non/\(ya k).lookup ("stop":Ã)=U .non/\(ya k).lookup ("step":Ã)=U (.int (-1)):=by
 unfold ya;refine{?_,?_,?_,?_}
 ·rw[ae,U7 nofun,ae,U7 nofun,ae,U7 nofun,ae,Ve J]
 ·rw[ae,U7 nofun,ae,U7 nofun,ae,Ve J]
 ·rw[ae,U7 nofun,ae,Ve J]
 ·rw[ae,Ve J]
theorem AR(k:à)(h:m∈([("taken":Ã), "behind", "ahead", "sizes_of", "on"]:G Ã)):(ya k).lookup m=Y:=by
 let n1:¬ m = "step":=by revert m;decide +kernel
 let n2:¬ m = "stop":=by revert m;decide +kernel
 let n3:¬ m = "start":=by revert m;decide +kernel
 let n4:¬ m = "axis":=by revert m;decide +kernel
 unfold ya;rw[ae,if_neg n1,ae,if_neg n2,ae,if_neg n3,ae,if_neg n4];rfl
abbrev xO(t:Adr)(k:à)(m:Z)(l:Z)(H:Hp)(Q:VK)(E:XK):Prop:=∃ (dx:Z) (ms:G B) (z:B),H m=U (.ins t.a_Mc dx (ya k))/\H l=%[ms|46]/\ms[k]? = U z/\1<=z/\∀ (r:Z) (H':Hp),Ext H H'->H' r=U (.tup [.int (z - 1),.int z,.int (-1)])->Q (.ref r) H'
def Az(t:Adr)(k:à):Sp:=λ vs H Q E=>∃ (m:Z) (l:Z),vs=[.ref m,.ref l]/\(xO t k m l H Q E)
theorem xy(t:Adr)(k:à)(m:Z)(l:Z)(H:Hp)(Q:VK)(E:XK):Az t k [.ref m,.ref l] H Q E=(xO t k m l H Q E):=jb (f:=λ (m:Z) (l:Z)=>[.ref m,.ref l]) %[4,2|63] m l
theorem gR(T:Tx K mg t)(k:à):%[4,zp|49] %[|103] (Az t k):=by
 intros zm cY;let G_Md:au P w K mg base (CX1 P  w) 2 t.a_Md t.d_Md _ _:=au.up (FZ (P:=P) (w:=w) (base:=base) T);refine %[zp,fS,2|70]
 ·let(m,l,rfl,dx,ms,z,hm,hl,hk,hz,kk):=h;let a3:k<ms.length:=(U1.mp hk).1;let c1:=T.qA4;let c2:=T.qAb;let c3:=T.qAl;let c4:=T.qAo;let c5:=T.qAn;let(f1,f2,f3,f4):=AS k;let g0:atI (ms.map V.int) (k:B)=%[z|47]:=bQ (by rw[Vd,hk];rfl);refine{_,%[%[%[zm,%[1,%[%[0|15]|1]|1]|3]|16],%[(@AY _ _ _ _ _ _ _ ⟨rfl,J,J⟩ (λ EX E pn hx=>%[%[(@w9 _ _ _ _ _ _ _ _ _ _ _ _ _ _ _ _ _ G_Md (hr.mono ⋯) ∅ T.m_Md T.F_Md.kp T.b_Md .nil hx %[%[eA,1,%[(K),0|77]|17],%[%[(K),0|77],%[%[(K),0|77],%[%[(K),0|77]|1]|1]|1]|1] ⋯ ∅ ∅ ∅)|12]|10]) FJ)|10]|9],?_};rw[%[["self", "sizes", "e"],[.ref m,.ref l],1|53]];clear G_zm G_Md;exists kk;exists hk;ac_rfl;rw[jx];refine{ms,hl,by omega,by omega,λ H1 e1=>?_};let a4:=e1.at hl;let a5:=e1.at hm;clear hl hm;ac_rfl;rw[Er];exact{hz,λ r H2 e2 h2=>kk () r H2 (e1.trans e2) h2}
theorem Fq(k:à)(ms:G B)(z:B)(h:ms[k]? = U z):ms.set k z=ms:=by
 let(h1,h2):=U1.mp h;rw[←h2];exact List.set_getElem_self h1
abbrev Ii(t:Adr)(k:à)(m:Z)(l:Z)(H:Hp)(Q:VK)(E:XK):Prop:=∃ (dx:Z) (ms:G B) (z:B),H m=U (.ins t.a_Mc dx (ya k))/\H l=%[ms|46]/\ms[k]? = U z/\1<=z/\ms.length<=8/\∀ (r:Z) (H':Hp),H r=Y->Ext H H'->H' r=%[ms|46]->Q (.ref r) H'
def IE(t:Adr)(k:à):Sp:=λ vs H Q E=>∃ (m:Z) (l:Z),vs=[.ref m,.ref l]/\(Ii t k m l H Q E)
theorem lu(T:Tx K mg t)(k:à):%[5,zh|49] %[|103] (IE t k):=by
 let G_zp:=%[gR|84] k;let G_GV:=λ (xs ts:G V)=>gN (P:=P) (w:=w) (base:=base) T xs ts k;refine %[zh,iH,2|70]
 ·let(m,l,rfl,dx,ms,z,hm,hl,hk,hz,h8,kk):=h;replace G_GV:=G_GV (ms.map V.int) [.int z];let a4:k<ms.length:=(U1.mp hk).1;let c1:=T.qA4;let c2:=T.qAb;let(f1,_):=AS k;let f3:=AR k (m := "taken") nofun;refine{_,%[%[%[GV,%[1,%[%[0|15],%[%[%[%[eA,%[%[0|0],qA4,qAq,zp,av,%[1|1]|60],99|17]|1]|23]|1]|1]|1]|3]|12]|10],?_};rw[%[%[|103],[.ref m,.ref l],0|53]];clear G_zp G_GV;exists kk;exists hk;ac_rfl;rw[xy];refine{dx,ms,z,hm,hl,hk (),hz,λ r H1 e1 h1=>?_};let a3:=e1.at hl;clear hl hm;ac_rfl;intro xL H2 hL e2 a5;let a6:=e2.at a3;clear a3 h1;ac_rfl;refine{l,xL,J,a6,a5,λ r H3 a7 e3 h3=>?_};rw[ph k ms z a4,Fq k ms z (hk ())] at h3;let k2:=kk () r H3 ((e1.trans e2).free a7) ((e1.trans e2).trans e3) h3;clear kk;ac_rfl
abbrev Ij(t:Adr)(k:à)(m:Z)(l:Z)(q:Z)(H:Hp)(Q:VK)(E:XK):Prop:=∃ (dx:Z) (ms ys:G B) (z y:B),H m=U (.ins t.a_Mc dx (ya k))/\H l=%[ms|46]/\H q=U (.tup (ys.map V.int))/\ms[k]? = U z/\ys[k]? = U y/\1<=z/\ys.length<=8/\∀ (r:Z) (H':Hp),Ext H H'->H' r=U (.tup ((ys.set k (z - 1 - y)).map V.int))->Q (.ref r) H'
def IF(t:Adr)(k:à):Sp:=λ vs H Q E=>∃ (m:Z) (l:Z) (q:Z),vs=[.ref m,.ref l,.ref q]/\(Ij t k m l q H Q E)
theorem ny(T:Tx K mg t)(k:à):%[5,zq|49] %[|113] (IF t k):=by
 let G_zp:=%[gR|84] k;let G_GV:=λ (xs ts:G V)=>kW (P:=P) (w:=w) (base:=base) T xs ts k;refine %[zq,jN,3|70]
 ·let(m,l,q,rfl,dx,ms,ys,z,y,hm,hl,hq,hk,hy,hz,h8,kk):=h;replace G_GV:=G_GV (ys.map V.int) [.int (z - 1 - y)];let a6:k<ys.length:=(U1.mp hy).1;let c1:=T.qA4;let c2:=T.qAb;let(f1,_):=AS k;let f3:=AR k (m := "taken") nofun;let g0:atI (ys.map V.int) (k:B)=%[y|47]:=bQ (by rw[Vd,hy];rfl);refine{_,%[%[3,jN,%[%[0|0],qA4,qAq,zp,av,%[1|1]|60]|4],%[%[%[dU,T.z_tuple,%[%[GV,%[2,%[%[0|15],%[%[%[%[aI,%[eA,3,99|17],%[eW,%[eA,2,%[0|15]|17],%[eA,3,99|17]|11]|11]|1]|23]|1]|1]|1]|3]|1]|32]|12]|10]|9],?_};rw[%[["self", "sizes", "place", "found"],[.ref m,.ref l,.ref q],1|53]];clear G_zp;exists kk;exists hk;exists hy;ac_rfl;rw[xy];refine{dx,ms,z,hm,hl,hk (),hz,λ r H1 e1 h1=>?_};let a3:=e1.at hq;let a7:=e1.at hm;clear hl hm hq;ac_rfl;rw[show z - 1+y * -1=z - 1 - y by omega];intro xL H2 _ e2 a4;let a5:=e2.at a3;clear a3 a7 h1;ac_rfl;refine{q,xL,J,a5,a4,λ r2 H3 _ e3 h3=>?_};rw[ph k ys _ a6] at h3;clear a5 a4;ac_rfl;intro r4 H4 _ e4 h4;exact kk () r4 H4 (e1.trans (e2.trans (e3.trans e4))) h4
def rp(n:à):G B:=(Ó n).reverse.map λ (j:à)=>(j:B)
def gY(n:à):(rp n).length=n:=by unfold rp;simp
theorem wZ(n i:à)(h:i<n):(rp n)[i]? = U (((n - 1 - i:à):à):B):=by
 unfold rp;rw[getElem?_map,List.getElem?_reverse (by rw[length_range];exact h),length_range,List.getElem?_range %[|8]];rfl
def mvC(t:Adr):à->Z
 | 0=>t.a_aa4
 | _=>t.a_aa3
def pkF:G (Ã × V):=bh "at" (V.int (-1)) (bh "axis" (V.int 0) [])
def trF(xz:Z):G (Ã × V):=bh "order" (V.ref xz) []
theorem rN(xz:Z):(trF xz).lookup ("order":Ã)=%[xz|45]:=by
 unfold trF;rw[ae,if_pos J]
theorem Oi(xz:Z)(h:m∈([("behind":Ã), "ahead", "sizes_of", "on"]:G Ã)):(trF xz).lookup m=Y:=by
 let n1:¬ m = "order":=by revert m;decide +kernel
 unfold trF;rw[ae,if_neg n1];rfl
def mvF:à->Z->G (Ã × V)
 | 0,xz=>trF xz
 | _,_=>pkF
def T7:à->G B->G B
 | 0,ms=>ms.reverse
 | _,ms=>ms.tail
def UO:à->G B->G B->G B
 | 0,_,ys=>ys.reverse
 | _,ms,ys=>(ms.headD 1 - 1)::ys
structure Ub(t:Adr)(H:Hp)(m:Z)(i:à)(n:à):Prop where
 i2:i<2
 ob:∃ dx xz,H m=U (.ins (mvC t i) dx (mvF i xz))/\(i=0->H xz=U (.lst ((rp n).map V.int)))
 n1:i=1->1<=n
 n8:n<=8
abbrev MU(t:Adr)(i:à)(m:Z)(l:Z)(H:Hp)(Q:VK)(E:XK):Prop:=∃ ms:G B,Ub t H m i ms.length/\H l=%[ms|46]/\(∀ x∈ms,(1:B)<=x/\x<=1000000000)/\∀ (r:Z) (H':Hp),H r=Y->Ext H H'->H' r=U (.lst ((T7 i ms).map V.int))->Q (.ref r) H'
def Nt(t:Adr)(i:à):Sp:=λ vs H Q E=>∃ (m:Z) (l:Z),vs=[.ref m,.ref l]/\(MU t i m l H Q E)
abbrev MV(t:Adr)(i:à)(m:Z)(l:Z)(q:Z)(H:Hp)(Q:VK)(E:XK):Prop:=∃ ms ys:G B,Ub t H m i ms.length/\H l=%[ms|46]/\H q=U (.tup (ys.map V.int))/\ys.length=(T7 i ms).length/\∀ (r:Z) (H':Hp),Ext H H'->H' r=U (.tup ((UO i ms ys).map V.int))->Q (.ref r) H'
def Nu(t:Adr)(i:à):Sp:=λ vs H Q E=>∃ (m:Z) (l:Z) (q:Z),vs=[.ref m,.ref l,.ref q]/\(MV t i m l q H Q E)
theorem Fc(n:à)(ms:G B)(h:ms.Perm (rp n))(hs:ms.Pairwise (·<=·)):ms=(Ó n).map λ (j:à)=>(j:B):=by
 let p1:((Ó n).map λ (j:à)=>(j:B)).Pairwise (·<=·):=by
  rw[List.pairwise_map];exact(List.pairwise_lt_range).imp λ h=>by omega
 let p2:ms.Perm ((Ó n).map λ (j:à)=>(j:B)):=h.trans (by unfold rp;exact(List.reverse_perm _).map _);exact p2.eq_of_pairwise (λ a b _ _ h1 h2=>by omega) hs p1
def Bl(ms:G B)(i:à)(h:i<ms.length):ms.reverse[i]? = ms[ms.length - 1 - i]?:=WC h
theorem nX(T:Tx K mg t):%[4,Dq|49] %[|103] (Nt t 0):=by
 intros yZ bH;refine %[Dq,rf,2|70]
 ·let(m,l,rfl,ms,mv,hl,cc,k):=h;let(dx,xz,ho,hO):=mv.ob;replace hO:=hO J;let a3:H m=U (.ins t.a_aa4 dx (trF xz)):=ho;let f1:=rN xz;let c1:=T.qAr;let c2:=T.qAx;let n8:=mv.n8;refine{_,%[%[%[yZ,%[%[(aO hr.units),%[sorted,zA,%[%[0|15]|1]|6],(@kP _ _ _ _ _ _ _ J ∅ T.z_list ∅ T.z_range %[%[len,aA,%[1|1]|6]|1] ∅ ∅ ∅),(ai _)|29]|1]|3]|16],%[%[%[(["axis", "self", "sizes"]),(1),(aP (aa dE) %[|103] J J nofun),%[%[0|15]|28],%[%[(0),["axis", "self", "sizes"]|51]|72],%[(@aY _)|72],%[%[eA,2,0|17]|72]|27]|12]|10]|9],?_};rw[%[%[|103],[.ref m,.ref l],0|53]];clear G_yZ ho;exists k;let rl:=gY ms.length;ac_rfl;refine Fe hO %[|8] λ zs a4 a5=>?_;let b5:=Fc _ zs a4 a5;subst b5;clear a4 a5;intro xL H1 hL e1 a6;let a7:=e1.at hl;let a8:=e1.at a3;let a9:=e1.at hO
  let b1:Ag (ms.length:B)=((Ó ms.length).map λ (j:à)=>(j:B)).map V.int:=by
   unfold Ag;rw[Int.toNat_natCast,map_map];rfl
  clear hl a3 hO rl;ac_rfl;rw[Ng];refine{by omega,by omega,?_};rw[b1];intro L2 H2 cg e2 b2;let b6:=e2.at a7;let ck:=e2.at a8;let b3:=e2.at a9;let b4:=e2.at a6;let eq:=fE ((Ó ms.length).map λ (j:à)=>(j:B)) ((Ó ms.length).map λ (j:à)=>(j:B));rw[Vi J] at eq;clear a7 a8 a9 a6 b1;generalize ((Ó ms.length).map λ (j:à)=>(j:B))=us at *;ac_rfl;rw[fe];refine{J,?_};clear b2 b4 eq;ac_rfl;refine bb ((rp ms.length).map V.int) (λ _=>L) (λ z=>.int (ms.getD (vi z).toNat 0)) (λ z x H'=>x=z/\H' xz=U (.lst ((rp ms.length).map V.int))) (iB b3).1 (iB b3).2 (ak (by rw[U2,gY];omega)) ?_ ?_
  ·intro D z x H' N1 N0 hz hD e ⟨hx,_⟩ k1 _;subst hx;let(c,hc,rfl):=U8.mp hz
   obtain⟨c0,c1'⟩:0<=c/\c<(ms.length:B):=by
    unfold rp at hc;let(j,hj,rfl):=List.mem_map.mp hc;have:=List.mem_range.mp (List.mem_reverse.mp hj);omega
   let ga:atI (ms.map V.int) c=U (.int (ms.getD c.toNat 0)):=by
    let(j,rfl):=Wt c0;exact bQ (by rw[Vd,WE,VC,U4 %[|8]];rfl)
   let cm:=e.at b6;let cv:N1 (.int (ms.getD c.toNat 0)) H':=k1 J H' (Ext.refl _);clear k1 k hz;generalize ms.getD c.toNat 0=y at *;simp! only[↓aN,↓aT]
  intro D H3 hD e3 b8;refine k () D H3 ((e1.trans e2).free hD) ((e1.trans e2).trans e3) ?_;rw[b8,lT,V1];congr 1;congr 1
  show _=ms.reverse.map V.int
  apply W0;intro i;rw[Vd,Vd]
  by_cases hi:i<ms.length
  ·rw[wZ _ _ hi,Bl _ _ hi,U4 (show ms.length - 1 - i<ms.length by omega)]
   show U (V.int (ms.getD ((((ms.length - 1 - i:à):B)).toNat) 0))=_
   rw[VC,WE,U4 (show ms.length - 1 - i<ms.length by omega)];rfl
  ·rw[VU (by rw[gY];omega),VU (by rw[VT];omega)];rfl
def TuI(ys us:G B)(i:à):Prop:=us.length=ys.length/\∀ k,k<ys.length->us[k]? = if ys.length - 1 - k<i then ys[ys.length - 1 - k]? else ys[k]?
theorem TuI.step{ys us:G B}{y:B}(h:TuI ys us i)(hi:ys[i]? = U y):TuI ys (us.set (ys.length - 1 - i) y) (i+1):=by
 let a3:i<ys.length:=(U1.mp hi).1;refine{by rw[WJ];exact h.1,λ k hk=>?_}
 by_cases hki:ys.length - 1 - i=k
 ·subst hki;rw[Wx (by rw[h.1];omega),Ve %[|8],show ys.length - 1 - (ys.length - 1 - i)=i by omega,hi]
 ·rw[Xa hki,h.2 k hk]
  by_cases hc:ys.length - 1 - k<i
  ·rw[Ve hc,Ve %[|8]]
  ·rw[U7 hc,U7 %[|8]]
theorem TuI.done{ys us:G B}(h:TuI ys us ys.length):us=ys.reverse:=by
 apply W0;intro k
 by_cases hk:k<ys.length
 ·rw[h.2 k hk,Ve %[|8],Bl _ _ hk]
 ·rw[VU (by rw[h.1];omega),VU (by rw[VT];omega)]
theorem qC(T:Tx K mg t):%[2,DD|49] %[|113] (Nu t 0):=by
 refine %[DD,eN,3|70]
 ·let(m,l,q,rfl,ms,ys,mv,hl,hq,a6,k):=h;let(dx,xz,ho,hO):=mv.ob;replace hO:=hO J;let a7:H m=U (.ins t.a_aa4 dx (trF xz)):=ho;let f1:=rN xz;let c1:=T.qAr;let c2:=T.qAx;let n8:=mv.n8;let a8:ys.length=ms.length:=by rw[a6];exact VT
  refine{_,%[%[3,eN,%[bo,T.z_list,%[2|1]|32]|4],%[%[V2,(@A0 _ _ _ _ _ _ _ _ _ ∅ T.z_zip %[2,%[%[0|15]|1]|1] ∅ ∅),(%[(2),%[%[4,eN|5],%[%[5,eN|5],(@bD _)|22]|22]|39].mono λ _ _ _ _ h=>dI h),%[(@om _ _ _ _ _ _ %[4|0] (@IP _ _ _ _ _ _ _ %[3|0] %[5|0] wW (by intros;rfl)) ∅ ∅ ∅)|10]|43],%[%[%[dU,T.z_tuple,%[3|1]|32]|12]|10]|9]|9],?_};rw[%[["self", "sizes", "place", "found", "number", "axis"],[.ref m,.ref l,.ref q],3|53]];clear ho a6;exists k;let rl:=gY ms.length;ac_rfl;intro F H1 hF e1 a4;let a9:=e1.at a7;let a5:=e1.at hO;let a3:=e1.at hq;let b1:q≠F:=λ e=>by rw[e,a4] at a3;cases a3
  let b2:xz≠F:=λ e=>by rw[e,hF] at hO;cases hO
  clear a7 hO hq;ac_rfl;refine Mz (ka:=L) (kb:=Â) (xs:=ys.map V.int) (ys:=(rp ms.length).map V.int) (λ i σ H'=>∃ (us:G B) (v4 v5:Ü V),σ=[%[m|45],%[l|45],%[q|45],%[F|45],v4,v5]/\Ext H H'/\H' q=U (.tup (ys.map V.int))/\H' xz=U (.lst ((rp ms.length).map V.int))/\H' F=%[us|46]/\TuI ys us i) ⟨ys,Y,Y,J,e1,a3,a5,a4,J,λ k hk=>by rw[U7 %[|8]]⟩ (λ i σ H' ⟨_,_,_,_,_,a,b,_⟩=>{(a),b}) ?_ ?_
  ·rintro i u x tq _ H3 H4 hu hx ⟨us,v4,v5,rfl,e3,q3,O3,F3,ti⟩ b3 e4 h4;rw[Vd] at hu hx;let(y,hy,rfl):=Vf.mp hu;let(z,hz,rfl):=Vf.mp hx;let b4:i<ys.length:=(U1.mp hy).1;rw[wZ _ _ %[|8]] at hz;cases hz;let q4:=e4.at q3;let O4:=e4.at O3;let F4:=e4.at F3
   let b5:ixN us.length (((ms.length - 1 - i:à):à):B)=U (ms.length - 1 - i):=by
    unfold ixN;rw[if_pos (Int.natCast_nonneg _),if_pos (by rw[ti.1];omega)];rfl
   let st:=ti.step hy;rw[a8] at st;let ex:Ext H (upd H4 F (.lst ((us.map V.int).set (ms.length - 1 - i) (.int y)))):=(e3.trans e4).put hF;let lm:(us.map V.int).length=us.length:=U2 _;exists st;exists ex;clear hu hx hy ti q3 O3 F3 a3 a5 a4 k a9;simp! only[↓cn];refine{us.set (ms.length - 1 - i) y,_,_,J,ex (),by rw[ah b1];exact q4,by rw[ah b2];exact O4,?_,st ()};rw[←Gj]
  ·rintro _ H3 ⟨us,v4,v5,rfl,e3,q3,O3,F3,ti⟩;let hm:min (ys.map V.int).length ((rp ms.length).map V.int).length=ys.length:=by rw[U2,U2,gY];omega
   rw[hm] at ti;let hd:=ti.done;subst hd;let yl:ys.reverse.length<=8:=by rw[VT];omega
   clear ti hm a3 a5 a4 q3 O3;replace k:=λ (_:Unit)=>k ();ac_rfl;intro r H4 b6 e4 h4;exact k () r H4 (e3.trans e4) h4
inductive Mv where
 | turn
 | pick (k:à) (j:B)
 | slb (k:à)
 | spr (k:à) (n:B)
def mvK(t:Adr):Mv->Z
 | .turn=>t.a_aa4
 | .pick _ _=>t.a_aa3
 | .slb _=>t.a_Mc
 | .spr _ _=>t.a_L9
def mvG:Mv->Z->G (Ã × V)
 | .turn,xz=>trF xz
 | .pick k j,_=>wt k j
 | .slb k,_=>ya k
 | .spr k n,_=>EM k n
def Iq:Mv->G B->G B
 | .turn,ms=>ms.reverse
 | .pick k _,ms=>ms.eraseIdx k
 | .slb _,ms=>ms
 | .spr k n,ms=>ms.set k n
def QX:Mv->G B->G B->G B
 | .turn,_,ys=>ys.reverse
 | .pick k j,_,ys=>ys.take k++j::ys.drop k
 | .slb k,ms,ys=>ys.set k (ms.getD k 1 - 1 - ys.getD k 0)
 | .spr k _,_,ys=>ys.set k 0
def mvZ:Mv->G B->Prop
 | .turn,_=>True
 | .pick k j,ms=>∃ z,ms[k]? = U z/\0<=j/\j<z
 | .slb k,ms=>∃ z,ms[k]? = U z/\1<=z
 | .spr k n,ms=>ms[k]? = U 1/\1<=n/\n<=1000000000
structure ER(t:Adr)(H:Hp)(m:Z)(M:Mv)(ms:G B):Prop where
 ob:∃ dx xz,H m=U (.ins (mvK t M) dx (mvG M xz))/\(M=.turn->H xz=U (.lst ((rp ms.length).map V.int)))
 fit:mvZ M ms
 n8:ms.length<=8
 sz:∀ x∈ms,(1:B)<=x/\x<=1000000000
theorem ER.ext{m:Z}{M:Mv}(h:ER t H m M ms)(e:Ext H H'):ER t H' m M ms:=by
 let((dx,xz,h2,h3),h4,h5,h6):=h;exact{⟨dx,xz,e.at h2,λ hi=>e.at (h3 hi)⟩,h4,h5,h6}
abbrev xX(t:Adr)(M:Mv)(m:Z)(l:Z)(H:Hp)(Q:VK)(E:XK):Prop:=∃ ms:G B,ER t H m M ms/\H l=%[ms|46]/\∀ (r:Z) (H':Hp),H r=Y->Ext H H'->H' r=U (.lst ((Iq M ms).map V.int))->Q (.ref r) H'
def lZ(t:Adr)(M:Mv):Sp:=λ vs H Q E=>∃ (m:Z) (l:Z),vs=[.ref m,.ref l]/\(xX t M m l H Q E)
theorem xD(t:Adr)(M:Mv)(m:Z)(l:Z)(H:Hp)(Q:VK)(E:XK):lZ t M [.ref m,.ref l] H Q E=(xX t M m l H Q E):=jb (f:=λ (m:Z) (l:Z)=>[.ref m,.ref l]) %[4,2|63] m l
theorem QA(T:Tx K mg t)(M:Mv):MD P w K mg base CX0 5 "behind" (mvK t M) (lZ t M):=by
 cases M with
 | turn=>
  refine{T.qAr,_,_,_,T.qC8,((nX T).mono (by decide:4<=5)).imp λ vs H Q E h=>?_,T.b_Dq};let(m,l,rfl,ms,((dx,xz,h1,h2),_,h8,hs),hl,k):=h;exact{m,l,J,ms,{by decide,{dx,xz,h1,λ _=>h2 rfl},λ h=>Þ h ⋯,h8},hl,hs,k}
 | pick k j=>
  refine{T.qAa,_,_,_,T.qB5,((nz T k j).mono (by decide:4<=5)).imp λ vs H Q E h=>?_,T.b_Dp};let(m,l,rfl,ms,((dx,xz,h1,h2),(z,hz,hj,a3),h8,hs),hl,kk):=h;exact{m,l,J,dx,ms,z,h1,hl,hz,hj,a3,(hs z (Vx hz)).2,h8,kk}
 | slb k=>
  refine{T.qA4,_,_,_,T.qB2,(lu T k).imp λ vs H Q E h=>?_,T.b_zh};let(m,l,rfl,ms,((dx,xz,h1,h2),(z,hz,hj),h8,hs),hl,kk):=h;exact{(m),l,J,dx,ms,z,h1,hl,hz,hj,h8,kk}
 | spr k n=>
  refine{T.qAk,_,_,_,T.qBq,((ky T k n).mono (by decide:4<=5)).imp λ vs H Q E h=>?_,T.b_zd};let(m,l,rfl,ms,((dx,xz,h1,h2),(hz,n1,n9),h8,hs),hl,kk):=h;exact{(m),l,J,dx,ms,h1,hl,hz,h8,n1,n9,kk}
theorem ou(M:Mv)(xz:Z)(h:m∈([("behind":Ã), "ahead", "sizes_of", "on"]:G Ã)):(mvG M xz).lookup m=Y:=by
 cases M with
 | turn=>exact Oi xz h
 | pick k j=>exact oo k j (Vb _ h)
 | slb k=>exact AR k (Vb _ h)
 | spr k n=>exact Ol k n h
theorem HZ{M:Mv}(hf:mvZ M ms)(hs:∀ x∈ms,(1:B)<=x/\x<=1000000000):∀ x∈Iq M ms,(1:B)<=x/\x<=1000000000:=by
 intro x hx
 cases M with
 | turn=>exact hs x (Yv.mp hx)
 | pick k j=>exact hs x (List.mem_of_mem_eraseIdx hx)
 | slb k=>exact hs x hx
 | spr k n=>
  rcases List.mem_or_eq_of_mem_set hx with h|rfl
  ·exact hs x h
  ·exact hf.2
theorem qq{M:Mv}:(Iq M ms).length<=ms.length:=by
 cases M with
 | turn=>exact Wq VT
 | pick k j=>exact List.length_eraseIdx_le ms k
 | slb k=>exact U6 _
 | spr k n=>exact Wq WJ
theorem bO(T:Tx K mg t)(M:Mv):%[7,za|49] %[|103] (lZ t M):=by
 let a3:∀ i,i<1->MD P w K mg base CX0 5 "behind" ((λ _=>mvK t M) i) ((λ _=>lZ t M) i):=λ _ _=>QA T M;intros yZ bH GW ki;refine %[za,cD,2|70]
 ·let(m,l,rfl,ms,mv,hl,k):=h;let(dx,xz,ho,_):=mv.ob;let n8:=mv.n8;refine{_,%[%[2,cD,%[0,a3,(hr.mono ⋯),av,%[1|1]|76]|4],%[%[%[yZ,%[%[%[jh,%[len,aA,%[2|1]|6],%[(.int 8),_,_,T.m_MOST_AXES.choose_spec,{_,J}|35],(ai _)|29],%[%[all,dR,%[%[(["size", "self", "sizes", "found"]),(1),(aP (aa cC) ["self", "sizes", "found"] J J nofun),%[2|28],%[%[(0),["size", "self", "sizes", "found"]|51]|72],%[(@aY _)|72],%[%[GW,%[0|1]|3]|72]|27]|1]|6]|75]|38]|1]|3]|16],%[%[2|12]|10]|9]|9],?_};rw[%[["self", "sizes", "found"],[.ref m,.ref l],1|53]];clear a3 G_yZ G_GW;exists k;exists mv;ac_rfl;refine{m,0,dx,_,J,by decide,ho,ou M xz nofun,?_};ac_rfl;rw[xD];refine{ms,mv (),hl,λ r H1 a5 e1 h1=>?_};let bl:=qq (M:=M) (ms:=ms);let bm:∀ x∈Iq M ms,(1:B)<=x/\x<=1000000000:=HZ (mv ()).fit (mv ()).sz;exists bm;let b8:((Iq M ms).length:B)<=8:=by omega
  generalize Iq M ms=bs at *;clear ho;ac_rfl;refine bb (bs.map V.int) (λ _=>L) (λ _=>.bl L) (λ z x H'=>x=z/\H' r=%[bs|46]) (iB h1).1 (iB h1).2 (ak (by rw[U2];omega)) ?_ ?_
  ·intro D z x H' N1 N0 hz hD e ⟨hx,_⟩ k1 _;subst hx;let(c,hc,rfl):=U8.mp hz;let hb:=bm () c hc;let a7:=k1 rfl H' (Ext.refl _);clear k1 k hz;simp! only[↓aN,↓aT];rw[qm,Vi hb.1,Vi hb.2];simp! only[↓aN,↓aT]
  intro D H2 hD e2 a6;rw[lT,show List.map (λ (_:V)=>V.bl L) (bs.map V.int)=(bs.map λ _=>L).map V.bl from by rw[V1,V1];rfl] at a6
  let hall:(bs.map λ _=>L).all id=L:=by
   rw[Wc];intro b hb;let(_,_,rfl):=U8.mp hb;rfl
  let a4:=e2.at h1;clear h1;generalize (bs.map λ _=>L)=tb at *;ac_rfl;rw[fe];refine{J,?_};let k2:=k () r H2 a5 (e1.trans e2) a4;clear k;ac_rfl
abbrev x8(t:Adr)(M:Mv)(m:Z)(l:Z)(q:Z)(H:Hp)(Q:VK)(E:XK):Prop:=∃ ms ys:G B,ER t H m M ms/\H l=%[ms|46]/\H q=U (.tup (ys.map V.int))/\ys.length=(Iq M ms).length/\∀ (r:Z) (H':Hp),Ext H H'->H' r=U (.tup ((QX M ms ys).map V.int))->Q (.ref r) H'
def AQ(t:Adr)(M:Mv):Sp:=λ vs H Q E=>∃ (m:Z) (l:Z) (q:Z),vs=[.ref m,.ref l,.ref q]/\(x8 t M m l q H Q E)
theorem xF(t:Adr)(M:Mv)(m:Z)(l:Z)(q:Z)(H:Hp)(Q:VK)(E:XK):AQ t M [.ref m,.ref l,.ref q] H Q E=(x8 t M m l q H Q E):=EK (f:=λ (m:Z) (l:Z) (q:Z)=>[.ref m,.ref l,.ref q]) %[6,3|63] m l q
theorem QC(T:Tx K mg t)(M:Mv):MD P w K mg base CX0 5 "ahead" (mvK t M) (AQ t M):=by
 cases M with
 | turn=>
  refine{T.qAr,_,_,_,T.qCl,((qC T).mono (by decide:2<=5)).imp λ vs H Q E h=>?_,T.b_DD};let(m,l,q,rfl,ms,ys,((dx,xz,h1,h2),_,h8,hs),hl,hq,hy,k):=h;exact{m,l,q,J,ms,ys,{by decide,{dx,xz,h1,λ _=>h2 rfl},λ h=>Þ h ⋯,h8},hl,hq,hy,k}
 | pick k j=>
  refine{T.qAa,_,_,_,T.qCk,((nY T k j).mono (by decide:2<=5)).imp λ vs H Q E h=>?_,T.b_DC};let(m,l,q,rfl,ms,ys,((dx,xz,h1,h2),(z,hz,hj,a7),h8,hs),hl,hq,hy,kk):=h;have:=qq (M:=.pick k j) (ms:=ms);exact{m,l,q,J,dx,ys,h1,hq,hj,by omega,kk}
 | slb k=>
  refine{T.qA4,_,_,_,T.qC6,(ny T k).imp λ vs H Q E h=>?_,T.b_zq};let(m,l,q,rfl,ms,ys,((dx,xz,h1,h2),(z,hz,hj),h8,hs),hl,hq,hy,kk):=h;let a3:=(U1.mp hz).1;let a4:ys.length=ms.length:=hy;let a5:ys[k]? = U (ys.getD k 0):=by rw[List.getD,U4 %[|8]];rfl
  let a6:ms.getD k 1=z:=by rw[List.getD,hz];rfl
  exact{m,l,q,J,dx,ms,ys,z,_,h1,hl,hq,hz,a5,hj,by omega,λ r H' e h=>kk r H' e (by rw[h];show _=U (HO.tup ((ys.set k (ms.getD k 1 - 1 - ys.getD k 0)).map V.int));rw[a6])}
 | spr k n=>
  refine{T.qAk,_,_,_,T.qC1,((lr T k n).mono (by decide:2<=5)).imp λ vs H Q E h=>?_,T.b_zi};let(m,l,q,rfl,ms,ys,((dx,xz,h1,h2),(hz,n1,n9),h8,hs),hl,hq,hy,kk):=h;let a3:=(U1.mp hz).1;let a4:ys.length=ms.length:=hy.trans WJ;exact{m,l,q,J,dx,ys,h1,hq,by omega,by omega,kk}
theorem Qy(T:Tx K mg t)(M:Mv):MD P w K mg base CX0 7 "sizes_of" (mvK t M) (lZ t M):=by
 cases M with
 | turn=>exact{T.qAr,_,_,_,T.qBp,bO T _,T.b_za}
 | pick k j=>exact{T.qAa,_,_,_,T.qB1,bO T _,T.b_za}
 | slb k=>exact{T.qA4,_,_,_,T.qAy,bO T _,T.b_za}
 | spr k n=>exact{T.qAk,_,_,_,T.qBf,bO T _,T.b_za}
def jd(n:à)(k:à):G B:=(Ó n).map λ j=>if j=k then 1 else 0
abbrev sT  (n:B) (x:B) (H:Hp) (Q:VK) (E:XK):Prop:=∃ (m k:à),n=(m:B)/\x=(k:B)/\m<=8/\∀ (r:Z) (H':Hp),H r=Y->Ext H H'->H' r=U (.tup ((jd m k).map V.int))->Q (.ref r) H'
def uJ  : Sp:=λ vs H Q E=>∃ (n:B) (x:B),vs=[.int n,.int x]/\(sT  n x H Q E)
theorem Eu  (n:B) (x:B) (H:Hp) (Q:VK) (E:XK):uJ  [.int n,.int x] H Q E=(sT  n x H Q E):=jb (f:=λ (n:B) (x:B)=>[.int n,.int x]) %[4,2|63] n x
theorem jP(T:Tx K mg t):%[1,vM|49] ["many", "axis"] uJ:=by
 refine %[vM,kz,2|70]
 ·let(_,_,rfl,m,k,rfl,rfl,h8,kq):=h;refine{_,%[%[%[dU,T.z_tuple,%[%[(["k", "many", "axis"]),(1),(aP (aa bN) ["many", "axis"] J J nofun),%[T.z_range,%[0|1]|79],%[%[(0),["k", "many", "axis"]|51]|72],%[(@aY _)|72],%[%[%[(aO hr.units),0,2,(ai _)|13],99,99|44]|72]|27]|1]|32]|12]|10],?_};rw[%[["many", "axis"],[.int (m:B),.int (k:B)],0|53]];exists kq;ac_rfl;refine{by omega,by omega,?_};refine bb (Ó m) (λ _=>L) (λ j=>.int (if j=k then 1 else 0)) (λ j x H'=>x=.int (0+(j:à))) kH.1 kH.2 (ak (by rw[VZ];omega)) ?_ ?_
  ·intro D j x H' N1 N0 hj hD e hx k1 _;subst hx;let a3:=k1 rfl H' (Ext.refl _);clear k1 kq hj
   by_cases hjk:j=k
   ·rw[Ve hjk] at a3;subst hjk;simp only[Yt];simp! only[↓aN,↓aT]
   ·let a6:¬ ((0+(j:B))=(k:B)):=by omega
    rw[U7 hjk] at a3;simp! only[↓aN,↓aT]
  intro xL H1 hL e1 a4
  let a7:H1 xL=U (.lst ((jd m k).map V.int)):=by
   rw[a4,lT];unfold jd;rw[map_map];rfl
  let a8:(jd m k).length<=8:=by unfold jd;rw[length_map,length_range];exact h8
  clear a4;replace kq:=λ (_:Unit)=>kq ();generalize jd m k=us at *;ac_rfl;intro r H2 a5 e2 h2;exact kq () r H2 (e1.free a5) (e1.trans e2) h2
theorem InR.of_get:∀ {ns xs:G B},xs.length=ns.length->(∀ (i:à) (n x:B),ns[i]? = U n->xs[i]? = U x->0<=x/\x<n)->InR ns xs
 | [],[],_,_=>trivial
 | [],_::_,h,_=>by simp at h
 | _::_,[],h,_=>by simp at h
 | n::r,x::xs,h,k=>{k 0 n x J J,InR.of_get (by simpa using h) λ i m y a b=>k (i+1) m y (by simpa using a) (by simpa using b)}
theorem HH(xs ps:G B)(h:xs.length=ps.length):eU xs.reverse ps=eU xs ps.reverse:=by
 unfold eU
 let e:List.zipWith (λ x p=>x * p) xs.reverse ps=(List.zipWith (λ x p=>x * p) xs ps.reverse).reverse:=by
  rw[List.reverse_zipWith (by rw[VT];exact h),List.reverse_reverse]
 rw[e,List.sum_reverse]
theorem cy(x p:B)(xs ps:G B):eU (x::xs) (p::ps)=x * p+eU xs ps:=by
 unfold eU;rw[List.zipWith_cons_cons,List.sum_cons]
theorem xu:∀ (n:à) (ps:G B),eU (Í n 0) ps=0
 | 0,ps=>by unfold eU;rfl
 | n+1,[]=>by unfold eU;rfl
 | n+1,p::ps=>by rw[WS,cy,xu n ps];omega
theorem kX(k:à):∀ (ps:G B) (s:à),eU ((List.range' s ps.length).map λ j=>if j=k then (1:B) else 0) ps=if s<=k/\k<s+ps.length then ps.getD (k - s) 0 else 0
 | [],s=>by
  rw[if_neg (by simp)];unfold eU;rfl
 | p::ps,s=>by
  rw[Vo,List.range'_succ,Vs,cy,kX k ps (s+1)]
  by_cases hs:s=k
  ·subst hs;rw[Ve J,U7 %[|8],Ve %[|8],Ys]
   show 1 * p+0=p
   omega
  ·rw[U7 hs]
   by_cases hk:s+1<=k/\k<s+1+ps.length
   ·rw[Ve hk,Ve %[|8],show k - s=(k - (s+1))+1 by omega]
    show 0 * p+_=ps.getD (k - (s+1)) 0
    omega
   ·rw[U7 hk,U7 %[|8]];omega
theorem HG(ps:G B)(n k:à)(hn:n=ps.length)(hk:k<n):eU (jd n k) ps=ps.getD k 0:=by
 subst hn;unfold jd;rw[List.range_eq_range',kX,if_pos %[|8],Nat.sub_zero]
theorem mw(n k:à):(jd n k).length=n:=by unfold jd;rw[length_map,length_range]
theorem B6{n:à}{x:B}(h:(jd n k)[j]? = U x):x=if j=k then 1 else 0:=by
 unfold jd at h;rw[getElem?_map] at h;let(y,hy,rfl):=Option.map_eq_some_iff.mp h;let(h1,h2):=List.getElem?_eq_some_iff.mp hy;rw[List.getElem_range] at h2;rw[h2]
theorem fw:∀ (xs a3 ps a4:G B),xs.length=ps.length->eU (xs++a3) (ps++a4)=eU xs ps+eU a3 a4
 | [],a3,[],a4,_=>by show eU a3 a4=eU [] []+_;unfold eU;simp
 | x::xs,a3,p::ps,a4,h=>by
  rw[W8,W8,cy,cy,fw xs a3 ps a4 (by simpa using h)];omega
theorem rJ(xs:G α)(k:à)(a:α)(h:xs[k]? = U a):xs=xs.take k++a::xs.drop (k+1):=by
 let(h1,h2):=U1.mp h;rw[←h2,List.getElem_cons_drop,W4]
def da:Mv->%[|48]->%[|48]
 | .turn,A=>A.reverse
 | .pick k _,A=>A.eraseIdx k
 | .slb k,A=>A.set k ((A.getD k (1,0)).1,-(A.getD k (1,0)).2)
 | .spr k n,A=>A.set k (n,0)
def kF:Mv->B->%[|48]->B
 | .turn,f,_=>f
 | .pick k j,f,A=>f+j * (A.getD k (1,0)).2
 | .slb k,f,A=>f+((A.getD k (1,0)).1 - 1) * (A.getD k (1,0)).2
 | .spr _ _,f,_=>f
theorem fQ{β:Type}(f:α->β):∀ (l:G α) (k:à),(l.eraseIdx k).map f=(l.map f).eraseIdx k
 | [],_=>rfl
 | _::_,0=>rfl
 | a::l,k+1=>by show f a::(l.eraseIdx k).map f=f a::(l.map f).eraseIdx k;rw[fQ f l k]
theorem hJ(M:Mv)(A:%[|48]):Iq M (A.map λ a=>a.1)=(da M A).map λ a=>a.1:=by
 cases M with
 | turn=>show (A.map λ a=>a.1).reverse=(A.reverse).map λ a=>a.1;rw[XU]
 | pick k j=>exact(fQ _ A k).symm
 | slb k=>
  show A.map (λ a=>a.1)=(A.set k ((A.getD k (1,0)).1,-(A.getD k (1,0)).2)).map λ a=>a.1
  rw[map_set];refine(W0 λ i=>?_).symm;rw[List.getElem?_set];split
  ·rename_i h;subst h;split
   ·rename_i h;rw[U2] at h;rw[Vd,List.getD,U4 h];rfl
   ·rename_i h;rw[U2] at h;rw[VU (by rw[U2];omega)]
  ·rfl
 | spr k n=>show (A.map λ a=>a.1).set k n=(A.set k (n,0)).map λ a=>a.1;rw[map_set]
theorem gj(xL R:G α)(a b:α)(k:à)(h:xL.length=k):(xL++a::R).set k b=xL++b::R:=by
 subst h;rw[List.set_append_right _ _ (U6 _),Ys];rfl
theorem qg(xL R:G α)(a:α)(k:à)(h:xL.length=k):(xL++a::R).eraseIdx k=xL++R:=by
 subst h;rw[List.eraseIdx_append_of_length_le (U6 _),Ys];rfl
theorem ft(xL R:G α)(a d:α)(k:à)(h:xL.length=k):(xL++a::R).getD k d=a:=by
 subst h;rw[List.getD,V3 (U6 _),Ys];rfl
theorem IS{M:Mv}{A:%[|48]}{f:B}{ys:G B}(hf:mvZ M (A.map λ a=>a.1))(hy:ys.length=(da M A).length) :
  f+eU (QX M (A.map λ a=>a.1) ys) (A.map λ a=>a.2)=kF M f A+eU ys ((da M A).map λ a=>a.2):=by
 let sp:∀ k z,(A.map λ a=>a.1)[k]? = U z->∃ (xL R:%[|48]) (a:B × B),A=xL++a::R/\xL.length=k/\a.1=z:=λ k z h=>by
  rw[Vd] at h;let(a,ha,rfl):=Vf.mp h;let hk:=(U1.mp ha).1;exact{A.take k,A.drop (k+1),a,rJ A k a ha,by rw[Vu];omega,J}
 let sy:∀ k n,ys.length=n->k<n->∃ (xL R:G B) (y:B),ys=xL++y::R/\xL.length=k:=λ k n h hk=>by
  let a3:ys[k]? = U ys[k]:=U4 %[|8];exact{ys.take k,ys.drop (k+1),ys[k],rJ ys k _ a3,by rw[Vu];omega}
 cases M with
 | turn=>
  show f+eU ys.reverse (A.map λ a=>a.2)=f+eU ys ((A.reverse).map λ a=>a.2)
  let hl:ys.length=A.reverse.length:=hy;rw[HH _ _ (by rw[hl,VT,U2]),XU]
 | pick k j=>
  let(z,hz,_,_):=hf;let(xL,R,a,rfl,hL,_):=sp k z hz
  show f+eU (ys.take k++j::ys.drop k) _=f+j * ((xL++a::R).getD k (1,0)).2+eU ys (((xL++a::R).eraseIdx k).map λ a=>a.2)
  let hl:ys.length=((xL++a::R).eraseIdx k).length:=hy;rw[qg xL R a k hL] at hl ⊢;rw[ft xL R a _ k hL,Vw,Vs,Vw,fw _ _ _ _ (by rw[Vu,U2,hL,hl,Va,hL];omega),cy];let e:=fw (ys.take k) (ys.drop k) (xL.map λ a=>a.2) (R.map λ a=>a.2) (by rw[Vu,U2,hL,hl,Va,hL];omega);rw[W4] at e;rw[e];omega
 | slb k=>
  let(z,hz,_):=hf;let(xL,R,a,rfl,hL,rfl):=sp k z hz;let(l,r,y,rfl,hl):=sy k _ hy (by show k<((xL++a::R).set k _).length;rw[WJ,Va,Vo];omega)
  show f+eU ((l++y::r).set k ((((xL++a::R).map λ a=>a.1).getD k 1) - 1 - ((l++y::r).getD k 0))) _=f+(((xL++a::R).getD k (1,0)).1 - 1) * ((xL++a::R).getD k (1,0)).2+eU (l++y::r) (((xL++a::R).set k (((xL++a::R).getD k (1,0)).1,-((xL++a::R).getD k (1,0)).2)).map λ a=>a.2)
  rw[ft xL R a _ k hL,ft l r y _ k hl,gj l r y _ k hl,gj xL R a _ k hL,Vw,Vs,Vw,Vs,ft _ _ _ _ k (by rw[U2];exact hL),fw _ _ _ _ (by rw[U2];omega),Vw,Vs,fw _ _ _ _ (by rw[U2];omega),cy,cy];let e1:(a.1 - 1 - y) * a.2=(a.1 - 1) * a.2 - y * a.2:=Int.sub_mul _ _ _;let e2:y * -a.2=-(y * a.2):=YH _ _;rw[e1,e2];omega
 | spr k n=>
  let(hz,_):=hf;let(xL,R,a,rfl,hL,_):=sp k 1 hz;let(l,r,y,rfl,hl):=sy k _ hy (by show k<((xL++a::R).set k _).length;rw[WJ,Va,Vo];omega)
  show f+eU ((l++y::r).set k 0) _=f+eU (l++y::r) (((xL++a::R).set k (n,0)).map λ a=>a.2)
  rw[gj l r y _ k hl,gj xL R a _ k hL,Vw,Vs,Vw,Vs,fw _ _ _ _ (by rw[U2];omega),fw _ _ _ _ (by rw[U2];omega),cy,cy];simp
theorem InR.app:∀ {ns xs a3 a4:G B},InR ns xs->InR a3 a4->InR (ns++a3) (xs++a4)
 | [],[],_,_,_,h=>h
 | [],_::_,_,_,h,_=>Þ h (by simp[InR])
 | _::_,[],_,_,h,_=>Þ h (by simp[InR])
 | n::ns,x::xs,_,_,h,h'=>{h.1,InR.app h.2 h'}
theorem InR.parts:∀ {ns xs a3 a4:G B},xs.length=ns.length->InR (ns++a3) (xs++a4)->InR ns xs/\InR a3 a4
 | [],[],_,_,_,h=>{by simp[InR],h}
 | [],_::_,_,_,h,_=>by simp at h
 | _::_,[],_,_,h,_=>by simp at h
 | n::ns,x::xs,_,_,hl,h=>{⟨h.1,(InR.parts (by simpa using hl) h.2).1⟩,(InR.parts (by simpa using hl) h.2).2}
theorem InR.rev:∀ {ns xs:G B},InR ns xs->InR ns.reverse xs.reverse
 | [],[],h=>h
 | [],_::_,h=>Þ h (by simp[InR])
 | _::_,[],h=>Þ h (by simp[InR])
 | n::ns,x::xs,h=>by
  rw[Xd,Xd];exact InR.app (InR.rev h.2) {h.1,by simp[InR]}
theorem Jo{M:Mv}{A:%[|48]}{ys:G B}(hf:mvZ M (A.map λ a=>a.1))(hy:InR ((da M A).map λ a=>a.1) ys):InR (A.map λ a=>a.1) (QX M (A.map λ a=>a.1) ys):=by
 let hlen:ys.length=(da M A).length:=by rw[hy.len,U2]
 let sp:∀ k z,(A.map λ a=>a.1)[k]? = U z->∃ (xL R:%[|48]) (a:B × B),A=xL++a::R/\xL.length=k/\a.1=z:=λ k z h=>by
  rw[Vd] at h;let(a,ha,rfl):=Vf.mp h;let hk:=(U1.mp ha).1;exact{A.take k,A.drop (k+1),a,rJ A k a ha,by rw[Vu];omega,J}
 let sy:∀ k n,ys.length=n->k<n->∃ (xL R:G B) (y:B),ys=xL++y::R/\xL.length=k:=λ k n h hk=>by
  let a3:ys[k]? = U ys[k]:=U4 %[|8];exact{ys.take k,ys.drop (k+1),ys[k],rJ ys k _ a3,by rw[Vu];omega}
 cases M with
 | turn=>
  let h:InR ((A.reverse).map λ a=>a.1) ys:=hy;rw[XU] at h;have:=h.rev
  rwa [List.reverse_reverse] at this
 | pick k j=>
  let(z,hz,h0,h1):=hf;let(xL,R,a,rfl,hL,rfl):=sp k z hz;let h:InR (((xL++a::R).eraseIdx k).map λ a=>a.1) ys:=hy;let hl:ys.length=((xL++a::R).eraseIdx k).length:=hlen;rw[qg xL R a k hL] at h hl;rw[Vw,←W4 k ys] at h;let(p1,p2):=InR.parts (by rw[Vu,U2,hL,hl,Va,hL];omega) h
  show InR _ (ys.take k++j::ys.drop k)
  rw[Vw,Vs];exact p1.app {⟨h0,h1⟩,p2}
 | slb k=>
  let(z,hz,_):=hf;let(xL,R,a,rfl,hL,rfl):=sp k z hz;let(l,r,y,rfl,hl):=sy k _ hlen (by show k<((xL++a::R).set k _).length;rw[WJ,Va,Vo];omega);let h:InR (((xL++a::R).set k (((xL++a::R).getD k (1,0)).1,-((xL++a::R).getD k (1,0)).2)).map λ a=>a.1) (l++y::r):=hy;rw[ft xL R a _ k hL,gj xL R a _ k hL,Vw,Vs] at h;let(p1,p2):=InR.parts (by rw[U2];omega) h
  show InR _ ((l++y::r).set k ((((xL++a::R).map λ a=>a.1).getD k 1) - 1 - ((l++y::r).getD k 0)))
  rw[ft l r y _ k hl,gj l r y _ k hl,Vw,Vs,ft _ _ _ _ k (by rw[U2];exact hL)];let q:0<=y/\y<a.1:=p2.1;exact p1.app {⟨by omega,by omega⟩,p2.2}
 | spr k n=>
  let(hz,_):=hf;let(xL,R,a,rfl,hL,ha):=sp k 1 hz;let(l,r,y,rfl,hl):=sy k _ hlen (by show k<((xL++a::R).set k _).length;rw[WJ,Va,Vo];omega);let h:InR (((xL++a::R).set k (n,0)).map λ a=>a.1) (l++y::r):=hy;rw[gj xL R a _ k hL,Vw,Vs] at h;let(p1,p2):=InR.parts (by rw[U2];omega) h
  show InR _ ((l++y::r).set k 0)
  rw[gj l r y _ k hl,Vw,Vs];exact p1.app {⟨XC _,by show 0<a.1;omega⟩,p2.2}
abbrev xW(C:Z)(v:Z)(q:Z)(H:Hp)(Q:VK)(E:XK):Prop:=∃ (room first:B) (axs:%[|48]) (ys:G B),aW C H v room first axs/\iA axs/\H q=U (.tup (ys.map V.int))/\InR (axs.map λ a=>a.1) ys/\∀ H',Ext H H'->Q (.int (first+eU ys (axs.map λ a=>a.2))) H'
def AL(C:Z):Sp:=λ vs H Q E=>∃ (v:Z) (q:Z),vs=[.ref v,.ref q]/\(xW C v q H Q E)
theorem xC(C:Z)(v:Z)(q:Z)(H:Hp)(Q:VK)(E:XK):AL C [.ref v,.ref q] H Q E=(xW C v q H Q E):=jb (f:=λ (v:Z) (q:Z)=>[.ref v,.ref q]) %[4,2|63] v q
theorem tO(T:Tx K mg t):%[4,DK|49] ["self", "place"] (AL t.a_aa0):=by
 intros GS vm Ds dF Dt qz;refine %[DK,wd,2|70]
 ·let(v,q,rfl,room,first,axs,ys,vo,a3,hq,hy,a4):=h;let(dx,l,hv,_):=vo.ob;let c1:=T.qA1;let c2:=T.qAd
  let f1:=dS room first l
  let f3:=vn room first l (m := "sizes") nofun
  let f4:=vn room first l (m := "paces") nofun
  refine{_,%[%[%[%[%[GS,%[%[%[0|0],qA1,qAm,Ds,av|61],%[1|1]|1]|3]|26]|25],%[(@bU _ _)|10],(@aj _)|14],%[%[%[aI,%[0|15],%[sum,mK,%[%[(%[|132]),(2),(aP (aa fB) ["self", "place"] J J nofun),(@A0 _ _ _ _ _ _ _ _ _ ∅ T.z_zip %[1,%[%[%[0|0],qA1,qCh,Dt,av|61]|1]|1] ∅ ∅),%[(%[(2),%[%[(0),%[|132]|51],%[%[(1),%[|132]|51],(@bD _)|22]|22]|39].mono λ _ _ _ _ h=>dI h)|72],%[(@aY _)|72],%[%[eW,0,1|11]|72]|27]|1]|6]|11]|12]|10]|9],?_};rw[%[["self", "place"],[.ref v,.ref q],0|53]];clear G_GS G_Ds G_Dt;let hsz:=a3.sizes;ac_rfl;rw[iq];refine{room,first,axs,vo,a3.1,λ r H1 b2 e1 h1=>?_};let a7:=e1.at hv;let b3:=tF (e1.at hq);let b4:rC (axs.map λ a=>a.1) (.ref q) H1=L:=Cf (e1.at hq) hy;let a8:=e1.at hq;clear hq;simp! only[↓vX,↓NL,↓RX];intro H2 e2;let a9:=e2.at a7;let b1:=e2.at a8;ac_rfl;rw[zC];refine{room,first,axs,vo.ext (e1.trans e2),a3.1,λ r3 H3 b5 e3 h3=>?_};let a5:=e3.at b1;ac_rfl;let b6:=hy.len;let h8:=a3.1;refine bb ((ys.map V.int).zip ((axs.map λ a=>a.2).map V.int)) (λ _=>L) (λ z=>.int (vi z.1 * vi z.2)) Q9 (wx (ka:=L) (kb:=Â) a5 h3).1 (wx (ka:=L) (kb:=Â) a5 h3).2 (ak (by rw[XQ,U2,U2,U2];omega)) ?_ ?_
  ·intro D z y H' N1 N0 hz hD e ⟨u,hu,b8⟩ k1 _;subst hu;let(x0,n0):=z;let hm:=X9 hz;let(a,ha,rfl):=U8.mp hm.1;let(b,cc,rfl):=U8.mp hm.2;let cg:N1 (.int (a * b)) H':=k1 J H' (Ext.refl _);let ca:=hy.bound hsz a ha;let ck:yd a b:=.inl {by omega,by omega};clear k1 hm hz a4;simp! only[↓iL,↓aT]
  ·intro D H' hD e a6
   let cm:H' D=U (.lst ((List.zipWith (λ x p=>x * p) ys (axs.map λ a=>a.2)).map V.int)):=by
    rw[a6,IX]
   let k2:Q (.int (first+(List.zipWith (λ x p=>x * p) ys (axs.map λ a=>a.2)).sum)) H':=a4 H' (e1.trans (e2.trans (e3.trans e)));let cv:=(e3.trans e).at a9;clear a4 a6;ac_rfl
theorem Fx(n:à):(Í n [V.int 0]).flatten=(Í n (0:B)).map V.int:=by
 rw[List.flatten_replicate_singleton,List.map_replicate]
structure OkR(n f:B)(A:%[|48]):Prop where
 ax:iA A
 kp:∀ a∈A,bE a=a
 lo:0<=f+aF A
 hi:f+aG A<n
abbrev B0(t:Adr)(M:Mv)(m:Z)(v:Z)(H:Hp)(Q:VK)(E:XK):Prop:=∃ (n f:B) (A:%[|48]),ER t H m M (A.map λ a=>a.1)/\aW t.a_aa0 H v n f A/\iA A/\OkR n (kF M f A) (da M A)/\1<=n/\n<=60/\∀ (x:Z) (H':Hp),H x=Y->Ext H H'->(∀ S,ug S H->aW t.a_aa0 (cj S H') x n (kF M f A) (da M A))->Q (.ref x) H'
def uk(t:Adr)(M:Mv):Sp:=λ vs H Q E=>∃ (m:Z) (v:Z),vs=[.ref m,.ref v]/\(B0 t M m v H Q E)
theorem BU(t:Adr)(M:Mv)(m:Z)(v:Z)(H:Hp)(Q:VK)(E:XK):uk t M [.ref m,.ref v] H Q E=(B0 t M m v H Q E):=jb (f:=λ (m:Z) (v:Z)=>[.ref m,.ref v]) %[4,2|63] m v
theorem fD(T:Tx K mg t)(M:Mv):%[9,G0|49] %[|115] (uk t M):=by
 let a3:∀ i,i<1->MD P w K mg base CX0 7 "sizes_of" ((λ _=>mvK t M) i) ((λ _=>lZ t M) i):=λ _ _=>Qy T M;let a4:∀ i,i<1->MD P w K mg base CX0 5 "ahead" ((λ _=>mvK t M) i) ((λ _=>AQ t M) i):=λ _ _=>QC T M;intros Ds dF DK tO vM jP yV dz;refine T.F_G0.ok bx (λ _ _ _ _ h=>fT h λ _ _=>J) (λ cdv A' outer s H vs Q E hr h=>?_)
 ·let(m,v,rfl,n,f,A,mv,vo,c9,pr,n1,gx,k):=h;let(dx,xz,ho,_):=mv.ob;let(dv,Dv,hv,_):=vo.ob;let n8:=mv.n8;rw[U2] at n8;let hf:=mv.fit;exists hf;let c1:=T.qA1;let c2:=T.qAi;let g1:=vn n f Dv (m := "sizes") nofun;let g2:=vn n f Dv (m := "cell") nofun;let f2:=g6 n f Dv;refine{_,%[%[2,bx,%[%[1|0],qA1,qAm,Ds,av|61]|4],%[%[3,bx,%[0,a3,(hr.mono ⋯),av,%[2|1]|76]|4],%[%[4,bx,%[len,aA,%[3|1]|6]|4],%[%[5,bx,%[%[1|0],qA1,qBd,DK,av,%[%[0,a4,(hr.mono ⋯),av,%[2,%[%[dU,T.z_tuple,%[%[KY,%[%[99|1]|23],4|11]|1]|32]|1]|1]|76]|1]|60]|4],%[%[6,bx,%[(@eB _)|23]|4],%[%[V2,(@KD _ _ _ _ _ _ _ _ ∅ T.z_enumerate %[3|1] ∅ ∅),(%[(2),%[%[7,bx|5],%[%[8,bx|5],(@bD _)|22]|22]|39].mono λ _ _ _ _ h=>dI h),%[%[9,bx,99|4],%[%[%[iI,8,99,(ai _)|13],%[%[9,bx,%[dB,%[%[1|0],qA1,qBd,DK,av,%[%[0,a4,(hr.mono ⋯),av,%[2,%[%[vM,%[4,%[7|1]|1]|3]|1]|1]|76]|1]|60],5|11]|4]|10],(@aj _)|14],%[%[%[Vn,VO,VN,cw,6,%[%[%[8,%[9|1]|1]|19]|1]|41]|16]|10]|9]|9]|43],%[%[%[qC5,yV,m_aa0,av,%[%[1|15],%[5,%[6|1]|1]|1]|62]|12]|10]|9]|9]|9]|9]|9]|9],?_};rw[%[%[|119],[.ref m,.ref v],8|53]];clear a3 a4 G_Ds G_DK G_vM G_yV;exists k;exists mv;exists vo;ac_rfl;rw[iq];refine{n,f,A,vo (),n8,λ l H1 fu e1 h1=>?_};let c0:=e1.at ho;let dc:=e1.at hv;clear fu;ac_rfl;refine{m,0,dx,_,J,by decide,c0,ou M xz nofun,?_};ac_rfl;rw[xD];refine{_,(mv ()).ext e1,h1,λ fd H2 gD e2 h2=>?_};rw[hJ] at h2;let fx:=e1.trans e2;let l2:=e2.at h1;let c3:=e2.at c0;let de:=e2.at dc
  let c4:((da M A).map λ a=>a.1).length<=8:=by
   rw[←hJ];have:=qq (M:=M) (ms:=A.map λ a=>a.1);rw[U2] at this;omega
  clear c0 dc h1 ho hv;ac_rfl;refine{m,0,dx,_,J,by decide,c3,ou M xz nofun,?_};ac_rfl;intro z1 H3 _ e3 h3;let l3:=e3.at l2;let dh:=e3.at c3;let dm:=e3.at de;let dr:=e3.at h2;clear l2 c3 de h2;rw[U2] at c4;ac_rfl;refine{by omega,by omega,ak %[|8],?_};rw[VC,Fx];intro z2 H4 _ e4 h4;let l4:=e4.at l3;let dy:=e4.at dh;let dN:=e4.at dm;let d0:=e4.at dr;let repl:(Í (da M A).length (0:B)).length<=8:=by rw[WB];exact c4
  clear l3 dh dm dr h3;ac_rfl;intro z3 H5 _ e5 h5;let l5:=e5.at l4;let d1:=e5.at dy;let d2:=e5.at dN;let d3:=e5.at d0;let d4:=fx.trans (e3.trans (e4.trans e5));clear l4 dy dN d0 h4 e3 e4 e5;ac_rfl;rw[xF];refine{_,_,(mv ()).ext d4,l5,h5,by rw[hJ,WB,U2],λ q6 H6 e6 h6=>?_}
  let d5:=Jo (A:=A) (ys:=Í (da M A).length 0) (hf ()) (InR.of_get (by rw[WB,U2]) λ j n x hn hx=>by
   rw[WV] at hx;rw[Vd] at hn;let(b,hb,rfl):=Vf.mp hn;have:=pr.ax.2 b (Vx hb);split at hx
   ·cases hx;omega
   ·cases hx)
  let d6:=d4.trans e6;let l6:=e6.at l5;let d7:=e6.at d1;let d8:=e6.at d2;let d9:=e6.at d3;exists d5;clear l5 d1 d2 d3 h5;ac_rfl;rw[xC];refine{n,f,A,_,(vo ()).ext d6,c9,h6,d5 (),λ H7 e7=>?_};rw[IS (hf ()) WB,xu,Int.add_zero];let b4:=d6.trans e7;let l7:=e7.at l6;let ea:=e7.at d7;let c5:=e7.at d8;let c6:=e7.at d9;clear l6 d7 d8 d9 h6;ac_rfl;intro AX H8 eb e8 b5;let gn:=b4.free eb;let gS:=b4.trans e8;let ec:=e8.at c6;let ed:∀ b∈da M A,bE b=b:=λ b hb=>pr.kp b hb;exists ed;exists l7;exists ea;exists c5;exists c6;ac_rfl;refine Hx (xs:=((da M A).map λ a=>a.1).map V.int) (λ k σ H'=>∃ (zs:G V) (v7 v8 v9:Ü V),σ=[%[m|45],%[v|45],%[l|45],%[fd|45],U (.int ((da M A).length:B)),U (.int (kF M f A)),%[AX|45],v7,v8,v9]/\Ext H7 H'/\H' AX=U (.lst zs)/\Al (og H') (axL ((da M A).take k)) zs) ⟨[],_,_,_,J,e8,b5,Al.nil⟩ (λ k σ H' ⟨_,_,_,_,_,e,_⟩=>e.at (c6 ())) ?_ ?_
  ·clear ec b5;rintro k u p _ H9 ee hu ⟨zs,v7,v8,v9,rfl,e9,b6,al⟩ hp a8 ef;rw[Vd,Vd] at hu;let(y,hy,rfl):=Vf.mp hu;let(b,hb,rfl):=Vf.mp hy;let fy:b∈da M A:=Vx hb;let f3:=ed () b fy;let a6:=e9.trans a8;let b2:=a8.at b6;let ej:=a6.at (l7 ());let cg:=a6.at (ea ());let ck:=a6.at (c5 ());let f5:k<(da M A).length:=(U1.mp hb).1
   let zl:zs.length<Æ:=jk (by
    rw[al.1];unfold axL;rw[length_map,length_take];omega)
   let fin:∀ (tp:Z) (a5:Hp),Ext ee a5->a5 tp=U (.tup [.int b.1,.int b.2])->Ext H7 (upd a5 AX (.lst (zs++[.ref tp])))/\Al (og (upd a5 AX (.lst (zs++[.ref tp])))) (axL ((da M A).take (k+1))) (zs++[.ref tp]):=λ tp a5 a7 b3=>by
    refine{(a6.trans a7).put eb,?_};let cm:=a8.trans a7;let b8:=cm.at b6;rw[take_add_one,hb];unfold axL;rw[map_append];exact(((al.imp λ _ _ q=>q.ext cm:Al (og a5) _ zs)).snoc (show og a5 [b.1,b.2] (.ref tp) from {(tp),J,b3})).imp λ _ _ q=>q.upd b8
   exists fin;exists al;exists hb;clear hu hy b6
   by_cases hb1:1<b.1
   ·simp! only[↓cn];refine{m,0,dx,_,J,by decide,cg,ou M xz nofun,?_};ac_rfl;rw[Eu];refine{(da M A).length,k,J,J,c4,λ gT el _ a9 en=>?_};let ep:=a9.at ej;let cv:=a9.at ck;let cx:=a9.at b2;let cH:=a6.trans a9;clear ej ck b2 cg ef;ac_rfl;rw[xF];refine{_,_,(mv ()).ext (b4.trans cH),ep,en,by rw[hJ,mw,U2],λ g0 g4 cc ew=>?_}
    let ey:=Jo (A:=A) (ys:=jd (da M A).length k) (hf ()) (InR.of_get (by rw[mw,U2]) λ j n x hn hx=>by
     let ez:=B6 hx;rw[Vd] at hn;let(b',c7,rfl):=Vf.mp hn;let hs:=pr.ax.2 b' (Vx c7)
     by_cases hjk:j=k
     ·rw[Ve hjk] at ez;rw[hjk,hb ()] at c7;cases c7;omega
     ·rw[U7 hjk] at ez;omega)
    let op:f+eU (QX M (A.map λ a=>a.1) (jd (da M A).length k)) (A.map λ a=>a.2) - kF M f A=b.2:=by
     rw[IS (hf ()) (mw _ _),HG _ _ _ (by rw[U2]) f5,WE,Vd,hb ()]
     show kF M f A+b.2 - kF M f A=b.2
     omega
    let eD:=cc.at cv;let cT:=cc.at cx;exists ey;clear ep cv cx en;ac_rfl;rw[xC];refine{n,f,A,_,(vo ()).ext (b4.trans (cH.trans cc)),c9,ew,ey (),λ g5 eG=>?_};let cV:=eG.at cT;clear eD cT ew;ac_rfl;intro tp a5 _ a7 b3;let(w1,w2):=fin () tp a5 (a9.trans (cc.trans (eG.trans a7))) b3;let b8:=a7.at cV;exists w1;exists w2;clear fin cV op;ac_rfl;exact{_,_,_,_,J,w1 (),J,w2 ()}
   ·let eH:b.2=0:=by
     rw[←f3];unfold bE;exact if_neg hb1
    simp! only[↓cn];intro tp a5 _ a7 b3;rw[←eH] at b3;let(w1,w2):=fin () tp a5 a7 b3;let b8:=a7.at b2;exists w1;exists w2;clear fin b2 eH;ac_rfl;exact{_,_,_,_,J,w1 (),J,w2 ()}
  ·rintro _ H9 ⟨zs,v7,v8,v9,rfl,e9,b6,al⟩;rw[U2,U2,Wy] at al;let g7:=e9.at (c5 ())
   let f6:md n (kF M f A) (da M A):=by
    let(f7,f9):=mx (da M A) λ a ha=>(pr.ax.2 a ha).1;exact{pr.ax,n1,by omega,by rw[f7];exact pr.lo,by rw[f9];exact pr.hi}
   let e0:(da M A).map bE=da M A:=by
    rw[List.map_congr_left (g:=id) λ a ha=>pr.kp a ha,List.map_id]
   exists e0;exists al;clear ec b5;ac_rfl;intro x fa ee hx g9 hc a8 gg gs;rw[mO];refine{fa,da M A,gg,bM.ext ⟨zs,b6,al ()⟩ a8,f6,λ el D2 a9 gk fh cZ=>?_};rw[e0 ()] at cZ;let c8:=b4.trans e9;let b1:=c8.trans (a9 H9 a8 hx);let fo:=(c8.trans a8).free gk;let k':=k () x el (c8.free hx) b1 λ S hS=>{fa,D2,cp (hS.ext b1) fh (λ _ h=>by cases h),cX hS b1 fo cZ};clear k;ac_rfl
abbrev ni(t:Adr)(x:Z)(a:B)(b:B)(H:Hp)(Q:VK)(E:XK):Prop:=∃ (dx:Z) (k:à),H x=U (.ins t.a_L9 dx [])/\a=(k:B)/\∀ H':Hp,(∀ H0,Ext H0 H->H0 x=Y->Ext H0 H')->H' x=U (.ins t.a_L9 dx (EM k b))->Q .non H'
def mz(t:Adr):Sp:=λ vs H Q E=>∃ (x:Z) (a:B) (b:B),vs=[.ref x,.int a,.int b]/\(ni t x a b H Q E)
theorem vW(t:Adr)(x:Z)(a:B)(b:B)(H:Hp)(Q:VK)(E:XK):mz t [.ref x,.int a,.int b] H Q E=(ni t x a b H Q E):=EK (f:=λ (x:Z) (a:B) (b:B)=>[.ref x,.int a,.int b]) %[6,3|63] x a b
theorem ja(T:Tx K mg t):%[1,vN|49] ["self", "axis", "size"] (mz t):=by
 refine %[vN,kB,3|70]
 ·let(x,_,b,rfl,dx,n,hx,rfl,k):=h;let c1:=T.qAk;let c2:=T.qAs;let c3:=T.qB7;refine{_,%[%[0,1|30],%[%[0,2|30]|10]|9],?_};rw[%[["self", "axis", "size"],[.ref x,.int (n:B),.int b],0|53]];exists k;ac_rfl
  try refine{(show 1<1000 by decide),?_}
  exact k () _ (λ H0 q0 q1=>q0.put q1) ag
abbrev nj(t:Adr)(x:Z)(a:B)(b:B)(H:Hp)(Q:VK)(E:XK):Prop:=∃ (dx:Z) (k:à),H x=U (.ins t.a_aa3 dx [])/\a=(k:B)/\∀ H':Hp,(∀ H0,Ext H0 H->H0 x=Y->Ext H0 H')->H' x=U (.ins t.a_aa3 dx (wt k b))->Q .non H'
def mB(t:Adr):Sp:=λ vs H Q E=>∃ (x:Z) (a:B) (b:B),vs=[.ref x,.int a,.int b]/\(nj t x a b H Q E)
theorem dW(t:Adr)(x:Z)(a:B)(b:B)(H:Hp)(Q:VK)(E:XK):mB t [.ref x,.int a,.int b] H Q E=(nj t x a b H Q E):=EK (f:=λ (x:Z) (a:B) (b:B)=>[.ref x,.int a,.int b]) %[6,3|63] x a b
theorem fj(T:Tx K mg t):%[1,zb|49] ["self", "axis", "at"] (mB t):=by
 refine %[zb,nJ,3|70]
 ·let(x,_,b,rfl,dx,n,hx,rfl,k):=h;let c1:=T.qAa;let c2:=T.qAj;let c3:=T.qB8;refine{_,%[%[0,1|30],%[%[0,2|30]|10]|9],?_};rw[%[["self", "axis", "at"],[.ref x,.int (n:B),.int b],0|53]];exists k;ac_rfl
  try refine{(show 1<1000 by decide),?_}
  exact k () _ (λ H0 q0 q1=>q0.put q1) ag
abbrev wm(t:Adr)(x:Z)(a:B)(H:Hp)(Q:VK)(E:XK):Prop:=∃ (dx:Z) (k:à),H x=U (.ins t.a_Mc dx [])/\a=(k:B)/\∀ H':Hp,(∀ H0,Ext H0 H->H0 x=Y->Ext H0 H')->H' x=U (.ins t.a_Mc dx (ya k))->Q .non H'
def rR(t:Adr):Sp:=λ vs H Q E=>∃ (x:Z) (a:B),vs=[.ref x,.int a,.non,.non,.int (-1)]/\(wm t x a H Q E)
theorem jS(T:Tx K mg t):%[1,yS|49] %[|117] (rR t):=by
 refine %[yS,gb,2|70]
 ·let(x,_,rfl,dx,n,hx,rfl,k):=h;let c1:=T.qA4;let c2:=T.qAb;let c3:=T.qAl;let c4:=T.qAo;let c5:=T.qAn;refine{_,%[%[0,1|30],%[%[0,2|30],%[%[0,3|30],%[%[0,4|30]|10]|9]|9]|9],?_};rw[%[%[|117],[.ref x,.int (n:B),.non,.non,.int (-1)],0|53]];exists k;ac_rfl;let l1:(bh "axis" (V.int (n:B)) []).length<=1:=iK _ _ _;let l2:=iK "start" V.non (bh "axis" (V.int (n:B)) []);let l3:=iK "stop" V.non (bh "start" V.non (bh "axis" (V.int (n:B)) []));refine{by omega,by omega,by omega,?_};exact k () _ (λ H0 q0 q1=>q0.put q1) ag
theorem Kd(T:Tx K mg t)(M:Mv):MD P w K mg base CX0 9 "on" (mvK t M) (uk t M):=by
 cases M with
 | turn=>exact{T.qAr,_,_,_,T.qDe,fD T _,T.b_G0}
 | pick k j=>exact{T.qAa,_,_,_,T.qC0,fD T _,T.b_G0}
 | slb k=>exact{T.qA4,_,_,_,T.qAt,fD T _,T.b_G0}
 | spr k n=>exact{T.qAk,_,_,_,T.qD1,fD T _,T.b_G0}
abbrev zV(t:Adr)(M:Mv)(h:Z)(x:Ã)(y:Ã)(m:Z)(H:Hp)(Q:VK)(E:XK):Prop:=∃ (st l D Pp:Z) (vals:G B) (nv:G NVw) (ps:G V) (p:NVw),ay t H h st l D Pp vals nv ps/\nN nv/\aB x/\(∀ q∈nv,q.nm≠x)/\p∈nv/\p.nm=y/\aB y/\nv.length<=99/\1<=vals.length/\vals.length<=60/\ER t H m M (p.A.map λ a=>a.1)/\aW t.a_aa0 H p.ad vals.length p.f p.A/\iA p.A/\OkR vals.length (kF M p.f p.A) (da M p.A)/\aw ((da M p.A).map λ a=>a.1)<=4096/\∀ (v:Z) (H1 H':Hp),H v=Y->Ext H H1->(∀ S,ug S H->aW t.a_aa0 (cj S H1) v vals.length (kF M p.f p.A) (da M p.A))->(∀ H0,Ext H0 H1->H0 D=Y->Ext H0 H')->(∀ b o,b≠D->H1 b=U o->H' b=U o)->H' D=U (.dK (nvD (nv++[⟨x,v,kF M p.f p.A,da M p.A⟩])))->Q .non H'
def pV(t:Adr)(M:Mv):Sp:=λ vs H Q E=>∃ (h:Z) (x:Ã) (y:Ã) (m:Z),vs=[.ref h,.str x,.str y,.ref m]/\(zV t M h x y m H Q E)
theorem qM(T:Tx K mg t)(M:Mv):%[11,DM|49] %[|104] (pV t M):=by
 let a3:∀ i,i<1->MD P w K mg base CX0 9 "on" ((λ _=>mvK t M) i) ((λ _=>uk t M) i):=λ _ _=>Kd T M;intros vK aR DO bA DL gM;refine T.F_DM.ok cM (λ _ _ _ _ h=>EL h λ _ _ _ _=>J) (λ cdv A' outer s H vs Q E hr h=>?_)
 ·let(h,x,y,m,rfl,st,l,D,Pp,vals,nv,ps,p,ha,b2,hn,a5,hp,b3,b4,hl,v1,b8,mv,vo,a8,pr,p4,k):=h;let c1:=T.qA0;let f3:=bc st D Pp (m := "view") nofun;let f4:=aL st D Pp (m := "refuse_new") nofun;let f5:=aL st D Pp (m := "call") nofun;let(dx,h1):=ha.ob;let(dm,xz,ho,_):=mv.ob;refine{_,%[%[%[%[0|0],qA0,qA2,vK,av,%[1|1]|60]|16],%[%[%[%[0|0],qA0,qA9,DL,av,%[1,%[%[3,a3,(hr.mono ⋯),av,%[%[%[0|0],qA0,qA6,DO,av,%[2|1]|60]|1]|76]|1]|1]|60]|16]|10]|9],?_};rw[%[%[|104],[.ref h,.str x,.str y,.ref m],0|53]];clear G_vK G_DO G_DL a3;exists k;exists ha;exists mv;exists vo;exists a5;exists pr;exists a8;exists p4;ac_rfl;rw[gZ];refine{st,l,D,Pp,vals,nv,ps,ha (),hn,a5 (),λ H1 e1=>?_};let a9:=e1.at h1;let a6:=e1.at ho;clear h1 ho;ac_rfl;refine{m,0,dm,_,J,by decide,a6,ou M xz nofun,?_};ac_rfl;rw[gz];refine{st,l,D,Pp,vals,nv,ps,p,(ha ()).ext e1,b2,hp,b3,b4,λ H2 e2=>?_};let a4:=e1.trans e2;let h2:=e2.at a9;let b5:=e2.at a6;clear a9 a6;ac_rfl;rw[BU];refine{_,p.f,p.A,(mv ()).ext a4,(vo ()).ext a4,a8 (),pr (),by omega,by omega,λ v H3 hv e3 vx=>?_};let b1:=a4.trans e3;let h3:=e3.at h2;let a7:=vx [] (λ s hs=>by cases hs);replace a7:=λ (_:Unit)=>a7.ext (az [] H3);exists vx;clear h2 b5;ac_rfl;rw[sG];refine{st,l,D,Pp,vals,nv,ps,_,_,(ha ()).ext b1,hn,a5 (),by omega,a7 (),(pr ()).ax,p4 (),λ H4 q1 q2 b6=>?_};let k2:=k () v H3 H4 (a4.free hv) b1 (λ S hS=>vx () S (hS.ext a4)) q1 q2 b6;clear k;ac_rfl
abbrev zU(t:Adr)(M:Mv)(h:Z)(x:Ã)(y:Ã)(m:Z)(H:Hp)(Q:VK)(E:XK):Prop:=∃ (st l D Pp:Z) (vals:G B) (nv:G NVw) (ps:G V) (p:NVw),ay t H h st l D Pp vals nv ps/\nN nv/\aB x/\(∀ q∈nv,q.nm≠x)/\p∈nv/\p.nm=y/\aB y/\1<=vals.length/\vals.length<=60/\ER t H m M (p.A.map λ a=>a.1)/\aW t.a_aa0 H p.ad vals.length p.f p.A/\iA p.A/\OkR vals.length (kF M p.f p.A) (da M p.A)/\4096<aw ((da M p.A).map λ a=>a.1)/\∀ dx H',Ext H H'->H' dx=U (.xd [("number",.int (aw ((da M p.A).map λ a=>a.1)))])->E (.ref t.a_G6) (U dx) H'
def pU(t:Adr)(M:Mv):Sp:=λ vs H Q E=>∃ (h:Z) (x:Ã) (y:Ã) (m:Z),vs=[.ref h,.str x,.str y,.ref m]/\(zU t M h x y m H Q E)
theorem qL(T:Tx K mg t)(M:Mv):au P w K mg base (CX1 P  w) 11 t.a_DM t.d_DM %[|104] (pU t M):=by
 let a3:∀ i,i<1->MD P w K mg base CX0 9 "on" ((λ _=>mvK t M) i) ((λ _=>uk t M) i):=λ _ _=>Kd T M;intros vK aR DO bA DL jH;refine(Fun.x T.F_DM).ok cM (λ _ _ _ _ h=>EL h λ _ _ _ _=>J) (λ cdv A' outer s H vs Q E hr h=>?_)
 ·let(h,x,y,m,rfl,st,l,D,Pp,vals,nv,ps,p,ha,b2,hn,a4,hp,b3,b4,v1,b6,mv,vo,a8,pr,p4,k):=h;let c1:=T.qA0;let f3:=bc st D Pp (m := "view") nofun;let f4:=aL st D Pp (m := "refuse_new") nofun;let f5:=aL st D Pp (m := "call") nofun;let(dx,h1):=ha.ob;let(dm,xz,ho,_):=mv.ob;refine{_,%[%[%[%[0|0],qA0,qA2,vK,av,%[1|1]|60]|16],%[%[%[%[0|0],qA0,qA9,DL,aK,%[1,%[%[3,a3,(hr.mono ⋯),av,%[%[%[0|0],qA0,qA6,DO,av,%[2|1]|60]|1]|76]|1]|1]|60]|16]|10]|9],?_};rw[%[%[|104],[.ref h,.str x,.str y,.ref m],0|53]];clear G_vK G_DO G_DL a3;exists k;exists ha;exists mv;exists vo;exists a4;exists pr;exists a8;exists p4;ac_rfl;rw[gZ];refine{st,l,D,Pp,vals,nv,ps,ha (),hn,a4 (),λ H1 e1=>?_};let a9:=e1.at h1;let a5:=e1.at ho;clear h1 ho;ac_rfl;refine{m,0,dm,_,J,by decide,a5,ou M xz nofun,?_};ac_rfl;rw[gz];refine{st,l,D,Pp,vals,nv,ps,p,(ha ()).ext e1,b2,hp,b3,b4,λ H2 e2=>?_};let a6:=e1.trans e2;let h2:=e2.at a9;let b5:=e2.at a5;clear a9 a5;ac_rfl;rw[BU];refine{_,p.f,p.A,(mv ()).ext a6,(vo ()).ext a6,a8 (),pr (),by omega,by omega,λ v H3 hv e3 vx=>?_};let b1:=a6.trans e3;let h3:=e3.at h2;let a7:=vx [] (λ s hs=>by cases hs);replace a7:=λ (_:Unit)=>a7.ext (az [] H3);clear h2 b5 vx;ac_rfl;rw[zG];exact{st,l,D,Pp,vals,nv,ps,_,_,(ha ()).ext b1,hn,a4 (),{_,_,a7 (),(pr ()).ax,J},.inr (p4 ()),λ q=>Þ J q,λ _ dx H' e h=>k () dx H' (b1.trans e) h}
abbrev sN(t:Adr)(x:Z)(p:Z)(H:Hp)(Q:VK)(E:XK):Prop:=∃ (dx:Z) (ns:G B),H x=U (.ins t.a_aa4 dx [])/\H p=%[ns|46]/\ns.length<=8/\∀ (H':Hp) (xz:Z),(∀ H0,Ext H0 H->H0 x=Y->Ext H0 H')->H xz=Y->H' x=U (.ins t.a_aa4 dx (trF xz))->H' xz=%[ns|46]->Q .non H'
def uB(t:Adr):Sp:=λ vs H Q E=>∃ (x:Z) (p:Z),vs=[.ref x,.ref p]/\(sN t x p H Q E)
theorem Eo(t:Adr)(x:Z)(p:Z)(H:Hp)(Q:VK)(E:XK):uB t [.ref x,.ref p] H Q E=(sN t x p H Q E):=jb (f:=λ (x:Z) (p:Z)=>[.ref x,.ref p]) %[4,2|63] x p
theorem lh(T:Tx K mg t):%[1,zc|49] ["self", "order"] (uB t):=by
 refine %[zc,nG,2|70]
 ·let(x,p,rfl,dx,ns,hx,hp,hl,k):=h;let c1:=T.qAr;let c2:=T.qAx;refine{_,%[%[0,%[bo,T.z_list,%[1|1]|32]|30]|10],?_};rw[%[["self", "order"],[.ref x,.ref p],0|53]];exists k;ac_rfl;intro xz H1 hO e1 a3;let a5:=e1.at hx;let a4:xz≠x:=λ z=>by rw[z,hx] at hO;cases hO
  ac_rfl;exact k () _ xz (λ H0 q0 q1=>(q0.trans e1).put q1) hO ag (by rw[ah a4];exact a3)
theorem nk(T:Tx K mg t):%[1,zj|49] %[|123] wB:=by
 refine %[zj,iG,1|70]
 ·let(x,rfl,hx,k):=h;refine{_,%[%[(PW.pt %[%[%[%[isinstance,bF,%[0,%[(@dn _ _ (.ty "str") (.type "str") _ ∅ T.z_str nofun J ⋯ ⋯)|1]|1]|6]|26]|25],%[%[%[jh,99,%[len,aA,%[0|1]|6],99|81]|25]|40]|36]),%[%[(@fq _ _ _ _)|12]|10],(@aj _)|14],%[%[%[all,dR,%[%[(%[|129]),(1),(aP (aa bS) %[|123] J J nofun),(@wD _ _ _ _ %[0|0] ∅),%[%[(0),%[|129]|51]|72],%[(@aY _)|72],%[%[px,0,(@aH _ _ _ _),(by with_unfolding_all rfl)|29]|72]|27]|1]|6]|12]|10]|9],?_};rw[%[%[|123],[.str x],0|53]];exists k;let n1:(1:B)<=(x.length:B):=by have:=hx.l1;omega
  let n8:(x.length:B)<=8:=by have:=hx.l8;omega
  let hlen:x.cps.toList.length<=8:=by have:=hx.l8;simpa [Str.length] using this
  ac_rfl;refine⟨ak (by have:=hx.l8;omega),x,J,hx.asc,?_⟩;refine bb x.cps.toList (λ _=>L) (λ _=>.bl L) (λ z v _=>v=sgn z) (kG x).1 (kG x).2 (ak %[|8]) ?_ ?_
  ·intro D z v H' N1 N0 hz hD e hv k1 _;subst hv;let a4:=hx.let' z hz;let a5:=k1 rfl H' (Ext.refl _);clear k1 k n1 n8 hz;unfold sgn;simp! only[↓aN,↓aT]
  intro D H1 hD e1 a3;rw[lT,show List.map (λ (_:à)=>V.bl L) x.cps.toList=(x.cps.toList.map λ _=>L).map V.bl from by rw[V1];rfl] at a3
  let hall:(x.cps.toList.map λ _=>L).all id=L:=by
   rw[Wc];intro b hb;let(_,_,rfl):=U8.mp hb;rfl
  let k2:=k () H1 e1;clear k;generalize (x.cps.toList.map λ _=>L)=bs at *;ac_rfl
theorem ll(T:Tx K mg t):%[1,zj|49] %[|123] lG:=by
 refine %[zj,iG,1|70]
 ·let(x,rfl,hx,k):=h;refine{_,%[%[(PW.pt %[%[%[%[isinstance,bF,%[0,%[(@dn _ _ (.ty "str") (.type "str") _ ∅ T.z_str nofun J ⋯ ⋯)|1]|1]|6]|26]|25],%[%[%[jh,99,%[len,aA,%[0|1]|6],99|81]|25]|40]|36]),%[%[(@fq _ _ _ _)|12]|10],(@aj _)|14],%[%[%[all,dR,%[%[(%[|129]),(1),(aP (aa bS) %[|123] J J nofun),(@wD _ _ _ _ %[0|0] ∅),%[%[(0),%[|129]|51]|72],%[(@aY _)|72],%[%[px,0,(@aH _ _ _ _),(by with_unfolding_all rfl)|29]|72]|27]|1]|6]|12]|10]|9],?_};rw[%[%[|123],[x],0|53]];exists k
  cases x with
  | non=>
   let k2:=k () H (Ext.refl _);clear k hx;ac_rfl
  | int i=>
   let k2:=k () H (Ext.refl _);clear k hx;ac_rfl
  | ref p=>
   let k2:=k () H (Ext.refl _);clear k
   obtain⟨xs,hp|hp⟩:=hx<;>ac_rfl
  | str x=>
   obtain⟨ha,h0|⟨h8,h9⟩|⟨n1,n8,c,hc,a3⟩⟩:=hx
   ·let n1:¬ (1:B)<=(x.length:B):=by omega
    let k2:=k () H (Ext.refl _);let hz:x.length<=Æ:=ak %[|8];clear k h0;ac_rfl
    all_goals first|exact{(hz),k2}|exact k2|trace_state
   ·let n1:(1:B)<=(x.length:B):=by omega
    let n8:¬ (x.length:B)<=8:=by omega
    let k2:=k () H (Ext.refl _);let hz:x.length<=Æ:=ak %[|8];clear k;ac_rfl
    all_goals first|exact{(hz),k2}|exact k2|trace_state
   ·let m1:(1:B)<=(x.length:B):=by omega
    let m8:(x.length:B)<=8:=by omega
    let hlen:x.cps.toList.length<=8:=by simpa [Str.length] using n8
    ac_rfl;refine{ak %[|8],x,J,ha,?_};refine bb x.cps.toList (λ _=>L) (λ z=>.bl (inS ⟨#[z]⟩ "abcdefghijklmnopqrstuvwxyz")) (λ z v _=>v=sgn z) (kG x).1 (kG x).2 (ak %[|8]) ?_ ?_
    ·intro D z v H' N1 N0 hz hD e hv k1 _;subst hv;let a5:=k1 rfl H' (Ext.refl _);clear k1 k m1 m8 hz;unfold sgn;simp! only[↓aN,↓aT]
    intro D H1 hD e1 a4;rw[lT,show List.map (λ (z:à)=>V.bl (inS ⟨#[z]⟩ "abcdefghijklmnopqrstuvwxyz")) x.cps.toList=(x.cps.toList.map λ z=>inS ⟨#[z]⟩ "abcdefghijklmnopqrstuvwxyz").map V.bl from by rw[V1];rfl] at a4
    let hall:(x.cps.toList.map λ z=>inS ⟨#[z]⟩ "abcdefghijklmnopqrstuvwxyz").all id=Â:=by
     refine Xz.mpr λ h=>?_;have:=Wc.mp h _ (U8.mpr {(c),hc,J});rw[a3] at this;cases this
    let k2:=k () H1 e1;clear k hc a3;generalize (x.cps.toList.map λ z=>inS ⟨#[z]⟩ "abcdefghijklmnopqrstuvwxyz")=bs at *;ac_rfl
  | _=>exact hx.elim
theorem fZ(T:Tx K mg t):%[1,zj|49] %[|123] JF:=au.both (nk T) (ll T) λ vs H Q E h=>by
 obtain⟨x,rfl,h|⟨s,rfl,h1,h2⟩⟩:=h
 ·exact .inr {(x),J,h}
 ·exact .inl {(s),J,h1,h2}
theorem Cn{i:B}{k:V->Prop}(P:V->Prop)(h0:0<=i)(h1:i<xs.length)(ha:∀ v∈xs,P v)(hk:∀ v,P v->k v):aM (atI xs i) k:=KU h0 h1 λ v hv=>hk v (ha v hv)
def Jy(c:à):Prop:=c<128/\inS ⟨#[c]⟩ "abcdefghijklmnopqrstuvwxyz"=L
def Nb:G à:=("abcdefghijklmnopqrstuvwxyz":Ã).cps.toList
theorem MN:∀ c∈Nb,Jy c:=by
 let h:(Nb.all λ c=>decide (c<128) && inS ⟨#[c]⟩ "abcdefghijklmnopqrstuvwxyz")=L:=nofun
 intro c hc;have:=Wc.mp h c hc;simp only[V6,decide_eq_true_iff] at this;exact this
theorem Jp(i:B)(h0:0<=i)(h1:i<26):∃ c,atI Nb i=U c/\Jy c:=by
 let hl:Nb.length=26:=nofun
 let e:=bQ (U4 (show i.toNat<Nb.length by omega));rw[Ws h0] at e;exact{_,e,MN _ (XX _)}
def QZ(cs:G à):Prop:=∀ c∈cs,Jy c
theorem IV(h1:1<=cs.length)(h8:cs.length<=8)(h:QZ cs):aB ⟨cs.toArray⟩:=
 ⟨by rw[V7];intro c hc;exact Vi (h c (by simpa using hc)).1,by simpa [Str.length] using h1,by simpa [Str.length] using h8,λ c hc=>(h c (by simpa using hc)).2⟩
def JA(H:Hp)(x:V):Prop:=∃ d,(∀ H' f,Ext H H'->jY H' (jY H' f) x=U d)/\PyData.eqv d d=L
theorem JA.ext{x:V}(h:JA H x)(e:Ext H H'):JA H' x:=h.imp λ _ q=>{λ H2 f e2=>q.1 H2 f (e.trans e2),q.2}
theorem j8(h:PyData.strOk s=L)(H:Hp):JA H (.str s):={.str s,λ H' f _=>Ve h,by rw[iN,Vr]}
theorem fU(h:s.cps.all (· < 128)=L):PyData.strOk s=L:=by
 unfold PyData.strOk;rw[Array.all_eq_true_iff_forall_mem] at h ⊢;intro c hc;have:=of_decide_eq_true (h c hc);exact decide_eq_true %[|8]
def xv(h:aB s)(H:Hp):JA H (.str s):=j8 (fU h.asc) H
theorem BP(h:PyData.strOk s=L)(hp:H p=U (.tup [.str s])\/H p=U (.lst [.str s])):JA H (.ref p):=by
 let hs:∀ H' f,jY H' f (.str s)=U (.str s):=λ H' f=>Ve h
 rcases hp with hp|hp
 ·refine{.tuple [.str s],λ H' f e=>?_,by rw[dQ,aE,cf,iN,Vr];rfl}
  show (H' p).bind _=_
  rw[e.at hp]
  show (aJ [jY H' f (.str s)]).map _=_
  rw[hs];rfl
 ·refine{.list [.str s],λ H' f e=>?_,by rw[js,aE,cf,iN,Vr];rfl}
  show (H' p).bind _=_
  rw[e.at hp]
  show (aJ [jY H' f (.str s)]).map _=_
  rw[hs];rfl
def NmX(H:Hp)(x:V):Prop:=((∃ s,x=.str s/\aB s)\/o1 H x)/\JA H x
theorem NmX.ext{x:V}(h:NmX H x)(e:Ext H H'):NmX H' x:={h.1.imp id λ h=>h.ext e,h.2.ext e}
theorem OS(h:∀ c∈cs,c<128)(h8:8<cs.length)(h9:cs.length<=1000)(H:Hp):o1 H (.str ⟨cs.toArray⟩):=
 ⟨by rw[V7];intro c hc;exact Vi (h c (by simpa using hc)),.inr (.inl {by simpa [Str.length] using h8,by simpa [Str.length] using h9})⟩
theorem OR(h:∀ c∈cs,c<128)(h1:1<=cs.length)(h8:cs.length<=8){c:à}(hc:c∈cs)(hb:inS ⟨#[c]⟩ "abcdefghijklmnopqrstuvwxyz"=Â)(H:Hp):o1 H (.str ⟨cs.toArray⟩):=
 ⟨by rw[V7];intro c hc;exact Vi (h c (by simpa using hc)),.inr (.inr {by simpa [Str.length] using h1,by simpa [Str.length] using h8,c,by simpa using hc,hb})⟩
theorem EU(h:cs.length=7):∃ a b c d e f g,cs=[a,b,c,d,e,f,g]:=by
 match cs,h with
 | [a,b,c,d,e,f,g],_=>exact{(a),b,c,d,e,f,g,J}
theorem SV(h:cs.length=7):PySem.Txt.join "" (cs.map λ c=>(⟨#[c]⟩:Ã))=⟨cs.toArray⟩:=by
 let(a,b,c,d,e,f,g,rfl):=EU h;rfl
theorem Bi(h:cs.length=7)(hL:QZ cs){k:B}(h0:1<=k)(h1:k<=4):aB (PySem.Txt.slice ⟨cs.toArray⟩ Y (U k)):=by
 let e:PySem.Txt.slice ⟨cs.toArray⟩ Y (U k)=⟨(cs.take k.toNat).toArray⟩:=by
  let(a,b,c,d,e,f,g,rfl):=EU h;obtain rfl|rfl|rfl|rfl:k=1\/k=2\/k=3\/k=4:=by omega
  all_goals rfl
 rw[e];exact IV (by rw[Vu];omega) (by rw[Vu];omega) λ c hc=>hL c (WG hc)
theorem Oo(h:cs.length=7)(hL:QZ cs){l:à}(hl:Jy l){k:B}(h0:0<=k)(h1:k<8):aB ((PySem.Txt.slice ⟨cs.toArray⟩ Y (U k) ++ ⟨#[l]⟩)++PySem.Txt.slice ⟨cs.toArray⟩ (U k) Y)/\(PySem.Txt.slice ⟨cs.toArray⟩ Y (U k)).length<=7/\(PySem.Txt.slice ⟨cs.toArray⟩ Y (U k)++(⟨#[l]⟩:Ã)).length<=8/\(PySem.Txt.slice ⟨cs.toArray⟩ (U k) Y).length<=7:=by
 let e:PySem.Txt.slice ⟨cs.toArray⟩ Y (U k)=⟨(cs.take k.toNat).toArray⟩/\PySem.Txt.slice ⟨cs.toArray⟩ (U k) Y=⟨(cs.drop k.toNat).toArray⟩:=by
  let(a,b,c,d,e,f,g,rfl):=EU h;let len:({[a,b,c,d,e,f,g].toArray}:Ã).length=7:=rfl;obtain rfl|rfl|rfl|rfl|rfl|rfl|rfl|rfl:k=0\/k=1\/k=2\/k=3\/k=4\/k=5\/k=6\/k=7:=by omega
  ·exact{J,by unfold PySem.Txt.slice;rw[len,show Builtin.Str.strSliceIndices (U 0) Y 1 7=[0,1,2,3,4,5,6] by decide +kernel];rfl}
  ·exact{J,by unfold PySem.Txt.slice;rw[len,show Builtin.Str.strSliceIndices (U 1) Y 1 7=[1,2,3,4,5,6] by decide +kernel];rfl}
  ·exact{J,by unfold PySem.Txt.slice;rw[len,show Builtin.Str.strSliceIndices (U 2) Y 1 7=[2,3,4,5,6] by decide +kernel];rfl}
  ·exact{J,by unfold PySem.Txt.slice;rw[len,show Builtin.Str.strSliceIndices (U 3) Y 1 7=[3,4,5,6] by decide +kernel];rfl}
  ·exact{J,by unfold PySem.Txt.slice;rw[len,show Builtin.Str.strSliceIndices (U 4) Y 1 7=[4,5,6] by decide +kernel];rfl}
  ·exact{J,by unfold PySem.Txt.slice;rw[len,show Builtin.Str.strSliceIndices (U 5) Y 1 7=[5,6] by decide +kernel];rfl}
  ·exact{J,by unfold PySem.Txt.slice;rw[len,show Builtin.Str.strSliceIndices (U 6) Y 1 7=[6] by decide +kernel];rfl}
  ·exact{J,by unfold PySem.Txt.slice;rw[len,show Builtin.Str.strSliceIndices (U 7) Y 1 7=[] by decide +kernel];rfl}
 let app:∀ xs ys:G à,(⟨xs.toArray⟩:Ã) ++ ⟨ys.toArray⟩=⟨(xs++ys).toArray⟩:=λ xs ys=>by
  show Str.mk (xs.toArray++ys.toArray)=_
  exact VQ Str.mk (by simp)
 let(e1,e2):=e;rw[e1,e2,show (⟨#[l]⟩:Ã)=⟨[l].toArray⟩ from J,app,app];refine{?_,by simp only[Str.length,Vj,Vu];omega,by simp only[Str.length,Vj,Va,Vu,W5];omega,by simp only[Str.length,Vj,WA];omega};rw[Xx,List.singleton_append];let a3:(cs.take k.toNat++l::cs.drop k.toNat).length=8:=by rw[Va,Vo,Vu,WA];omega
 refine IV %[|8] %[|8] λ c hc=>?_
 rcases VI.mp hc with hc|hc
 ·exact hL c (WG hc)
 ·rcases Vp.mp hc with rfl|hc
  ·exact hl
  ·exact hL c (List.mem_of_mem_drop hc)
theorem ML{n:à}(al:Al (λ (_:à) y=>∃ c,y=.str ⟨#[c]⟩/\Jy c) ((Ó n).filter λ _=>L) ys):∃ cs:G à,ys=(cs.map λ c=>(⟨#[c]⟩:Ã)).map V.str/\cs.length=n/\QZ cs:=by
 let hl:ys.length=n:=by rw[al.1,Xf.mpr (λ _ _=>J),VZ]
 let h:∀ y∈ys,∃ c,y=.str ⟨#[c]⟩/\Jy c:=λ y hy=>by
  let(i,hi,e):=WN hy;let(c,h1,h2):=al.2 i _ y (U4 (by rw[←al.1];exact hi)) (by rw[U4 hi,e]);exact{(c),h1,h2}
 clear al
 induction ys generalizing n with
 | nil=>exact{[],J,by simpa using hl,λ c hc=>by cases hc}
 | cons y r ih=>
  let(cs,h1,h2,h3):=ih (n:=r.length) J λ z hz=>h z (Vb _ hz);let(c,rfl,hc):=h y Vq;refine{c::cs,by rw[h1];rfl,by rw[←hl,Vo,Vo,h2],λ d hd=>?_}
  rcases Vp.mp hd with rfl|hd
  ·exact hc
  ·exact h3 d hd
abbrev sX(K:PySem.W.Frag)(a:Z)(ns:G B)(k:B)(H:Hp)(Q:VK)(E:XK):Prop:=SqL K H a (ns.map V.int)/\ns.length<=63/\0<=k/\k<1000/\∀ (x:V) (H':Hp),Ext H H'->NmX H' x->Q x H'
def uN(K:Å)(a:Z)(ns:G B):Sp:=λ vs H Q E=>∃ (k:B),vs=[.ref a,.int k]/\(sX K a ns k H Q E)
theorem jy(K:Å)(a:Z)(ns:G B)(k:B)(H:Hp)(Q:VK)(E:XK):uN K a ns [.ref a,.int k] H Q E=(sX K a ns k H Q E):=jV (f:=λ (k:B)=>[.ref a,.int k]) %[2,1|63] k
theorem gL(T:Tx K mg t)(a:Z)(ns:G B):%[2,GK|49] ["_law_script", "_law_k"] (uN K a ns):=by
 let G_DT:=%[dg|84] a ns;refine %[GK,dX,1|70]
 ·let(kk,rfl,hS,hl,k0,k1,k):=h;refine{_,%[(@l0 _ _ (2) _ _ _ _ dX.nd J (Or.inr J) (@aH _ _ _ _) ∅ %[|7]),%[%[3,dX,%[PySem.F.plainAttrs_str,PySem.F.slot_str_join,PySem.F.type_str_join,Gg,(@aH _ _ _ _),%[%[(%[|118]),(1),(aP (aa fz) %[|121] J J nofun),%[T.z_range,%[99|1]|79],%[%[(0),%[|118]|51]|72],%[(@aY _)|72],%[%[Je,3,%[bP,%[xc,%[DT,%[1,%[99,%[%[ma,99,99|11]|1]|1]|1]|3],%[aI,0,99|11]|11],99|11]|17]|72]|27]|1]|41]|4],%[%[4,dX,%[DT,%[0,%[1,%[%[ma,99,99|11]|1]|1]|1]|3]|4],%[%[5,dX,%[DT,%[0,%[99,%[99|1]|1]|1]|3]|4],%[%[%[(aO hr.units),%[bP,4,99|11],99,(ai _)|13],%[%[%[eA,%[%[(@aH _ _ _ _),%[(@aH _ _ _ _),%[%[hZ,3,(@aH _ _ _ _)|11],%[(@aZ _ _ _),%[99,%[%[%[(@aH _ _ _ _)|1]|19],%[%[%[3|1]|23],%[%[hZ,3,(@aH _ _ _ _)|11],%[(@aH _ _ _ _)|1]|1]|1]|1]|1]|1]|1]|1]|1]|23],%[bP,%[bY,4,99|11],99|11]|17]|12]|10],(@aj _)|14],%[%[%[(aO hr.units),%[bP,4,99|11],99,(ai _)|13],%[%[%[JH,3,(@bX _),%[%[aI,99,%[bP,%[bY,4,99|11],99|11]|11]|34]|37]|12]|10],(@aj _)|14],%[%[%[hZ,%[hZ,%[JH,3,(@bX _),%[5|34]|37],%[Je,2,%[bP,%[bY,4,99|11],99|11]|17]|11],%[JH,3,%[5|34],(@bX _)|37]|11]|12]|10]|9]|9]|9]|9]|9]|9],?_};rw[%[%[|121],[.ref a,.int kk],4|53]];clear G_DT;exists k;ac_rfl;refine{J,?_};refine lR (Ó 7) (λ _=>L) (λ j x H'=>x=.int (0+(j:à))) (λ _ _ y _=>∃ c,y=.str ⟨#[c]⟩/\Jy c) kH.1 kH.2 (λ _ _ _ _ _ r _=>r) (λ _ _ _ _ _ r=>r) (ak ⋯) ?_ ?_
  ·intro D j x H' N1 N0 hz hD e _ hx k1 _;subst hx;let b3:=e.2 K a _ hS;let a6:=k1 rfl;let hj:(0:B)<=0+(j:B):=by omega
   let b5:j<7:=by simpa using hz
   exists a6;clear k1 k hz;simp! only[↓aN,↓aT];rw[dD];refine{b3,hl,{by decide,by decide},by decide,λ z z0 z1=>?_};let cd:E9 z (0+(j:B)+1):={by omega,by omega};simp! only[↓aN,↓aT];let(c,h1,h2):=Jp (z.fdiv (0+(j:B)+1) % 26) (Wo _ ⋯) (Wl _ ⋯);exact{_,_,c,J,J,ak nofun,h1,a6 () _ H' (Ext.refl _) {(c),J,h2}}
  intro q ws H2 hq e2 h2 al;let(cs,rfl,h7,hL):=ML al;clear al;let a7:=e2.2 K a _ hS;let hj:=SV h7
  let a4:((cs.map λ c=>(⟨#[c]⟩:Ã)).map (·.length)).sum+(cs.map λ c=>(⟨#[c]⟩:Ã)).length<=1048576:=by
   let(a,b,c,d,e,f,g,rfl):=EU h7;exact Nat.le_of_ble_eq_true J
  let a3:(⟨cs.toArray⟩:Ã).length=7:=by simpa [Str.length] using h7
  ac_rfl;refine Fg h2 ⋯ a4 ?_;rw[hj];clear hj a4 h2 hS;ac_rfl;rw[dD];refine{a7,hl,{(k0),k1},by decide,λ c c0 c1=>?_};ac_rfl;rw[dD];refine{a7,hl,{by decide,by decide},by decide,λ y y0 y1=>?_}
  by_cases h16:c % 16=0
  ·ac_rfl;refine{_,_,J,J,ak (by rw[a3];decide +kernel),?_};rw[show (⟨cs.toArray⟩:Ã)++("ab":Ã)=⟨(cs++[97,98]).toArray⟩ from VQ Str.mk (by show cs.toArray ++ #[97,98]=_;simp)];ac_rfl;intro tq H3 _ e3 ht;ac_rfl;intro lq H4 _ e4 a8;let a9:=e4.at ht;clear ht;ac_rfl;refine{_,_,J,J,ak (by rw[a3];decide +kernel),?_};rw[show (⟨cs.toArray⟩:Ã)++("1":Ã)=⟨(cs++[49]).toArray⟩ from VQ Str.mk (by show cs.toArray ++ #[49]=_;simp)];ac_rfl;intro rq H5 _ e5 b6;let b4:=e2.trans (e3.trans (e4.trans e5));let b1:=e5.at a9;let b2:=e5.at a8;clear a9 a8;let lt:∀ z∈cs,z<128:=λ z hz=>(hL z hz).1;ac_rfl;refine Cn (NmX H5) (Wo _ ⋯) (Wl _ ⋯) (λ v hv=>?_) λ v hv=>k () v H5 b4 hv;let l7:∀ r:G à,(∀ z∈r,z<128)->∀ z∈cs++r,z<128:=λ r hr z hz=>(VI.mp hz).elim (lt z) (hr z);let a5:∀ xs:G à,(∀ z∈xs,z<128)->PyData.strOk ⟨xs.toArray⟩=L:=λ xs hx=>fU (by rw[V7];intro c hc;exact Vi (hx c (by simpa using hc)));simp only[Vp,VD,Wa] at hv
   rcases hv with rfl|rfl|rfl|rfl|rfl|rfl|rfl|rfl|rfl
   ·exact{.inr {nofun,.inl J},j8 nofun _}
   ·exact{.inr {nofun,.inr (.inr {(nofun),nofun,65,nofun,nofun})},j8 nofun _}
   ·exact{.inr (OS (l7 _ ⋯) (by rw[Va,h7];decide) (by rw[Va,h7];decide) _),j8 (a5 _ (l7 _ ⋯)) _}
   ·exact{.inr trivial,.none,λ _ _ _=>J,J}
   ·exact{.inr trivial,.int 7,λ _ _ _=>J,by rw[iO];rfl}
   ·exact{.inr {_,.inr b1},BP nofun (.inl b1)}
   ·exact{.inr {_,.inl b2},BP (a5 _ lt) (.inr b2)}
   ·exact⟨.inr (OR (c:=49) (l7 _ ⋯) (by rw[Va,h7];decide) (by rw[Va,h7];decide) (by simp) nofun _),j8 (a5 _ (l7 _ ⋯)) _⟩
   ·exact{.inr {nofun,.inr (.inr {(nofun),nofun,32,nofun,nofun})},j8 nofun _}
  ·by_cases h3:c % 3=0
   ·let q0:(1:B)<=1+c / 16 % 4/\1+c / 16 % 4<=4:=by omega
    ac_rfl;exact{ak (by rw[a3];decide),k () _ H2 e2 {.inl {_,J,Bi h7 hL q0.1 q0.2},xv (Bi h7 hL q0.1 q0.2) _}}
   ·let(l,l1,l2):=Jp (c / 16 % 4) (Wo _ ⋯) %[|8];let(m1,m2,m3,m4):=Oo h7 hL l2 y0 y1;ac_rfl;refine{ak (by rw[a3];decide),?_};ac_rfl;refine{_,_,l,J,J,ak nofun,l1,?_};ac_rfl;refine{_,_,J,J,ak (by show _+1<=5000;omega),?_};ac_rfl;refine{ak (by rw[a3];decide),?_};ac_rfl;exact{_,_,J,J,ak %[|8],k () _ H2 e2 {.inl {_,J,m1},xv m1 _}}
def yb(H:Hp)(rw:G (Ã × Z))(ys:G V):Prop:=Al (λ p y=>∃ r,y=.ref r/\H r=U (.tup [.str p.1,.ref p.2])) rw ys
theorem yb.ext(h:yb H rw ys)(e:Ext H H'):yb H' rw ys:=h.imp λ _ _ ⟨r,a,b⟩=>{r,a,e.at b}
def rz(s:Ã)(rw:G (Ã × Z)):Ý:=decide (s∈rw.map Prod.fst)
theorem BH(z:Ã):∀ ns:G Ã,inV (.str z) (ns.map V.str)=decide (z∈ns)
 | []=>rfl
 | n::r=>by
  let ih:=BH z r;unfold inV at ih ⊢;rw[map_cons,any_cons,ih,show eqV (.str n) (.str z)=decide (n=z) from J,←Bool.decide_or];simp only[mem_cons,eq_comm]
theorem D8(ns:G Ã):(ns.map V.str).all j6=L:=by
 rw[Wc];intro v hv;let(s,_,rfl):=U8.mp hv;rfl
abbrev oY  (x:V) (S:Z) (H:Hp) (Q:VK) (E:XK):Prop:=∃ (rw:G (Ã × Z)) (ys:G V),H S=U (.lst ys)/\yb H rw ys/\rw.length<=100/\((o1 H x/\∀ H',Ext H H'->Q (.bl Â) H')\/∃ s,x=.str s/\aB s/\∀ H',Ext H H'->Q (.bl (rz s rw)) H')
def jq  : Sp:=λ vs H Q E=>∃ (x:V) (S:Z),vs=[x,.ref S]/\(oY  x S H Q E)
theorem oK  (x:V) (S:Z) (H:Hp) (Q:VK) (E:XK):jq  [x,.ref S] H Q E=(oY  x S H Q E):=jb (f:=λ (x:V) (S:Z)=>[x,.ref S]) %[4,2|63] x S
theorem cU(T:Tx K mg t):%[2,yT|49] %[|116] jq:=by
 intros zj fZ;refine %[yT,lA,2|70]
 ·let(x,S,rfl,rw,ys,hS,al,hl,h):=h;refine{_,%[%[%[%[zj,%[0|1]|3],%[%[OM,0,%[(["_law_row", "_law_name_here", "_law_state"]),(1),(aP (aa bV) %[|116] J J nofun),%[1|28],%[%[(0),["_law_row", "_law_name_here", "_law_state"]|51]|72],%[(@aY _)|72],%[%[eA,0,99|17]|72]|27],(by with_unfolding_all rfl)|29]|75]|38]|12]|10],?_};rw[%[%[|116],[x,.ref S],0|53]];clear G_zj
  rcases h with ⟨hx,k⟩|⟨z,rfl,hz,k⟩
  ·exists k;ac_rfl;rw[j9];refine .inl {hx,λ H1 e1=>?_};let k1:=k () H1 e1;clear k hx;ac_rfl
  ·exists k;ac_rfl;rw[j9];refine .inr {z,J,hz,λ H1 e1=>?_};let a3:=e1.at hS;let a4:=yb.ext al e1;clear hS al;ac_rfl;let wk:=lV (K:=K) (R:=λ (p:Ã × Z) y H'=>∃ r,y=V.ref r/\H' r=U (.tup [.str p.1,.ref p.2])) (λ _ _ _ _ ⟨r,a,b⟩ e=>{r,a,e.at b}) a3 a4;refine bb rw (λ _=>L) (λ p=>.str p.1) _ wk.1 wk.2 (ak %[|8]) ?_ ?_
   ·rintro D p x H' N1 N0 hp hD e ⟨r,rfl,hr⟩ k1 _;let a8:=k1 rfl H' (Ext.refl _);clear k1 k;simp! only[↓aN,↓aT]
   intro xL H2 a9 e2 h2;let a5:H2 xL=U (.lst ((rw.map Prod.fst).map V.str)):=by rw[h2,lT,V1];rfl
   let k2:=k () H2 (e1.trans e2);unfold rz at k2;let a6:=BH z (rw.map Prod.fst);let a7:=D8 (rw.map Prod.fst);generalize rw.map Prod.fst=ns at a5 k2 a6 a7;clear k h2 wk a3 a4;ac_rfl;exact J
def uK  : Sp:=λ vs H Q E=>∃ (x:V) (S:Z),vs=[x,.ref S]/\(∃ (rw:G (Ã × Z)) (ys:G V),H S=U (.lst ys)/\yb H rw ys/\rw.length<=100/\((o1 H x/\∀ (r:Z) H',Ext H H'->H' r=U (.tup [.str "name",x])->Q (.ref r) H')\/(∃ s,x=.str s/\aB s/\rz s rw=L/\∀ (r:Z) H',Ext H H'->H' r=U (.tup [.str "known",x])->Q (.ref r) H')\/∃ s,x=.str s/\aB s/\rz s rw=Â/\∀ H',Ext H H'->Q .non H'))
theorem sC  (x:V) (S:Z) (H:Hp) (Q:VK) (E:XK):uK  [x,.ref S] H Q E=(∃ (rw:G (Ã × Z)) (ys:G V),H S=U (.lst ys)/\yb H rw ys/\rw.length<=100/\((o1 H x/\∀ (r:Z) H',Ext H H'->H' r=U (.tup [.str "name",x])->Q (.ref r) H')\/(∃ s,x=.str s/\aB s/\rz s rw=L/\∀ (r:Z) H',Ext H H'->H' r=U (.tup [.str "known",x])->Q (.ref r) H')\/∃ s,x=.str s/\aB s/\rz s rw=Â/\∀ H',Ext H H'->Q .non H')):=jb (f:=λ (x:V) (S:Z)=>[x,.ref S]) %[4,2|63] x S
theorem fg(T:Tx K mg t):%[3,yU|49] %[|116] uK:=by
 intros zj fZ yT cU;refine %[yU,ly,2|70]
 ·let(x,S,rfl,rw,ys,hS,al,hl,h):=h;refine{_,%[%[%[%[%[zj,%[0|1]|3]|26]|25],%[%[%[%[(@aH _ _ _ _),%[0|1]|1]|19]|12]|10],(@aj _)|14],%[%[%[%[yT,%[0,%[1|1]|1]|3]|26],%[%[%[%[(@aH _ _ _ _),%[0|1]|1]|19]|12]|10],(@aj _)|14],%[%[(@aZ _ _ _)|12]|10]|9]|9],?_};rw[%[%[|116],[x,.ref S],0|53]];clear G_zj G_yT
  rcases h with ⟨hx,k⟩|⟨z,rfl,hz,hh,k⟩|⟨z,rfl,hz,hh,k⟩
  ·exists k;ac_rfl;rw[j9];refine .inl {hx,λ H1 e1=>?_};clear hx;ac_rfl;intro r H2 _ e2 h2;exact k () r H2 (e1.trans e2) h2
  ·exists k;ac_rfl;rw[j9];refine .inr {z,J,hz,λ H1 e1=>?_};let a3:=e1.at hS;let a4:=yb.ext al e1;exists a4;clear hS al;ac_rfl;rw[oK];refine{rw,ys,a3,a4 (),hl,.inr {z,J,hz,λ H2 e2=>?_}};clear a3;rw[hh];ac_rfl;intro r H3 _ e3 h3;exact k () r H3 (e1.trans (e2.trans e3)) h3
  ·exists k;ac_rfl;rw[j9];refine .inr {z,J,hz,λ H1 e1=>?_};let a3:=e1.at hS;let a4:=yb.ext al e1;exists a4;clear hS al;ac_rfl;rw[oK];refine{rw,ys,a3,a4 (),hl,.inr {z,J,hz,λ H2 e2=>?_}};clear a3;let k2:=k () H2 (e1.trans e2);rw[hh];clear k hh;ac_rfl
theorem b7(xL R:%[|48]):aF (xL++R)=aF xL+aF R:=by
 induction xL with
 | nil=>show aF R=0+aF R;omega
 | cons a l ih=>rw[W8,aC,aC,ih];omega
theorem b9(xL R:%[|48]):aG (xL++R)=aG xL+aG R:=by
 induction xL with
 | nil=>show aG R=0+aG R;omega
 | cons a l ih=>rw[W8,aD,aD,ih];omega
theorem yQ(xL:%[|48]):aF xL.reverse=aF xL:=by
 induction xL with
 | nil=>rfl
 | cons a l ih=>rw[Xd,b7,ih,aC,aC];show _+(_+0)=_;omega
theorem zv(xL:%[|48]):aG xL.reverse=aG xL:=by
 induction xL with
 | nil=>rfl
 | cons a l ih=>rw[Xd,b9,ih,aD,aD];show _+(_+0)=_;omega
theorem fm.okR{f:B}{A:%[|48]}(h:fm n f A):OkR n f A:={h.ax,λ a ha=>(h.sz a ha).2.2,h.lo,h.hi}
theorem fm.turn{f:B}{A:%[|48]}(h:fm n f A):fm n (kF .turn f A) (da .turn A):={by show A.reverse.length<=3;rw[VT];exact h.len,λ a ha=>h.sz a (Yv.mp ha),by show 0<=f+aF A.reverse;rw[yQ];exact h.lo,by show f+aG A.reverse<n;rw[zv];exact h.hi}
theorem jB{A:%[|48]}(h:A[k]? = U a):∃ xL R,A=xL++a::R/\xL.length=k:=by
 let hk:=(U1.mp h).1;exact{A.take k,A.drop (k+1),rJ A k a h,by rw[Vu];omega}
theorem fm.pick{f:B}{A:%[|48]}(h:fm n f A)(hk:A[k]? = U a):fm n (kF (.pick k (a.1 - 1)) f A) (da (.pick k (a.1 - 1)) A):=by
 let(xL,R,rfl,hl):=jB hk;let e1:da (.pick k (a.1 - 1)) (xL++a::R)=xL++R:=qg xL R a k hl;let e2:kF (.pick k (a.1 - 1)) f (xL++a::R)=f+(a.1 - 1) * a.2:=by show f+(a.1 - 1) * ((xL++a::R).getD k (1,0)).2=_;rw[ft xL R a _ k hl]
 rw[e1,e2];let z1:=h.lo;let z2:=h.hi;let z3:=h.len;rw[b7,aC] at z1;rw[b9,aD] at z2;rw[Va,Vo] at z3;refine{by rw[Va];omega,λ b hb=>h.sz b ?_,by rw[b7];omega,by rw[b9];omega}
 rcases VI.mp hb with hb|hb
 ·exact Wu _ hb
 ·exact VF _ (Vb _ hb)
theorem xk{xL R:%[|48]}{c b:B × B}(h:b∈xL++c::R):b=c\/b∈xL++a::R:=by
 rcases VI.mp h with h|h
 ·exact .inr (Wu _ h)
 ·rcases Vp.mp h with h|h
  ·exact .inl h
  ·exact .inr (VF _ (Vb _ h))
theorem fm.slb{f:B}{A:%[|48]}(h:fm n f A)(hk:A[k]? = U a):kF (.slb k) f A=f+(a.1 - 1) * a.2/\da (.slb k) A=A.set k (a.1,-a.2)/\fm n (kF (.slb k) f A) (da (.slb k) A):=by
 let(xL,R,rfl,hl):=jB hk;let e0:(xL++a::R).getD k (1,0)=a:=ft xL R a _ k hl;let e1:da (.slb k) (xL++a::R)=xL++(a.1,-a.2)::R:=by show (xL++a::R).set k _=_;rw[e0,gj xL R a _ k hl]
 let e2:kF (.slb k) f (xL++a::R)=f+(a.1 - 1) * a.2:=by show f+(((xL++a::R).getD k (1,0)).1 - 1) * _=_;rw[e0]
 refine{e2,by rw[e1,gj xL R a _ k hl],?_};rw[e1,e2];let z1:=h.lo;let z2:=h.hi;let z3:=h.len;let z4:=h.sz a (by simp);rw[b7,aC] at z1;rw[b9,aD] at z2;rw[Va,Vo] at z3;let em:(a.1 - 1) * -a.2=-((a.1 - 1) * a.2):=YH _ _;refine{by rw[Va,Vo];omega,λ b hb=>?_,by rw[b7,aC];show 0<=_+(_+(min 0 ((a.1 - 1) * -a.2)+_));rw[em];omega,by rw[b9,aD];show _+(_+(max 0 ((a.1 - 1) * -a.2)+_))<n;rw[em];omega}
 rcases xk (a:=a) hb with rfl|hb
 ·refine{z4.1,z4.2.1,?_};let q:=VQ Prod.snd z4.2.2;let q':(if a.1 > 1 then a.2 else 0)=a.2:=q
  show (a.1,if a.1 > 1 then -a.2 else 0)=(a.1,-a.2)
  split
  ·rfl
  ·rename_i hh;rw[U7 hh] at q';rw[←q'];rfl
 ·exact h.sz b hb
theorem p0{m:B}:∀ ms:G B,(∀ x∈ms,(1:B)<=x)->m∈ms->m<=aw ms
 | [],_,h=>Þ h (by simp)
 | a::r,h,hm=>by
  let h1:=h a Vq;let hr:1<=aw r:=ju r λ x hx=>h x (Vb _ hx)
  show m<=a * aw r
  rcases Vp.mp hm with rfl|hm
  ·have:=Yw hr (show 0<=m by omega);rw[Int.mul_one] at this;exact this
  ·let q:=p0 r (λ x hx=>h x (Vb _ hx)) hm;have:=W6 h1 (show 0<=aw r by omega);rw[Int.one_mul] at this;omega
theorem fm.spr{f m:B}{A:%[|48]}(h:fm n f A)(hk:A[k]? = U a)(ha:a.1=1)(hm:m=2\/m=3\/m=4097\/m=1000000000):OkR n (kF (.spr k m) f A) (da (.spr k m) A)/\(aw ((da (.spr k m) A).map λ a=>a.1)<=4096->fm n (kF (.spr k m) f A) (da (.spr k m) A)):=by
 let(xL,R,rfl,hl):=jB hk;let e1:da (.spr k m) (xL++a::R)=xL++(m,0)::R:=gj xL R a _ k hl;rw[e1]
 show OkR n f _/\(_->fm n f _)
 let z1:=h.lo;let z2:=h.hi;let z3:=h.len;rw[b7,aC,ha] at z1;rw[b9,aD,ha] at z2;rw[Va,Vo] at z3;let em:(m - 1) * 0=0:=XR _;let ez:((1:B) - 1) * a.2=0:=by rw[Int.sub_self,Int.zero_mul]
 rw[ez] at z1 z2;let kp:bE (m,0)=(m,0):=by show (m,if m > 1 then (0:B) else 0)=_;rw[ite_self]
 let lo:0<=f+aF (xL++(m,0)::R):=by rw[b7,aC];show 0<=_+(_+(min 0 ((m - 1) * 0)+_));rw[em];omega
 let hi:f+aG (xL++(m,0)::R)<n:=by rw[b9,aD];show _+(_+(max 0 ((m - 1) * 0)+_))<n;rw[em];omega
 let old:∀ b∈xL++(m,0)::R,b=(m,0)\/((1:B)<=b.1/\b.1<=4/\bE b=b):=λ b hb=>(xk (a:=a) hb).imp id λ q=>h.sz b q;refine{⟨⟨by rw[Va,Vo];omega,λ b hb=>?_⟩,λ b hb=>?_,lo,hi⟩,λ hp=>{by rw[Va,Vo];omega,λ b hb=>?_,lo,hi}}
 ·rcases old b hb with rfl|q
  ·show 1<=m/\m<=1000000000;omega
  ·omega
 ·rcases old b hb with rfl|q
  ·exact kp
  ·exact q.2.2
 ·rcases old b hb with rfl|q
  ·let a3:m<=4096:=by
    have:=p0 (m:=m) ((xL++(m,0)::R).map λ a=>a.1) (λ x hx=>by
     let(b,hb,rfl):=U8.mp hx
     rcases old b hb with rfl|q
     ·show 1<=m;omega
     ·exact q.1) (U8.mpr {(m,0),hb,J})
    omega
   exact{by show 1<=m;omega,by show m<=4;omega,kp}
  ·exact q
def Ac(k:à)(z:B):G (Ã × V):=bh "step" V.non (bh "stop" V.non (bh "start" (V.int z) (bh "axis" (V.int (k:B)) [])))
abbrev wg(t:Adr)(x:Z)(a:B)(z:B)(H:Hp)(Q:VK)(E:XK):Prop:=∃ (dx:Z) (k:à),H x=U (.ins t.a_Mc dx [])/\a=(k:B)/\∀ H':Hp,(∀ H0,Ext H0 H->H0 x=Y->Ext H0 H')->H' x=U (.ins t.a_Mc dx (Ac k z))->Q .non H'
def rQ(t:Adr):Sp:=λ vs H Q E=>∃ (x:Z) (a:B) (z:B),vs=[.ref x,.int a,.int z,.non,.non]/\(wg t x a z H Q E)
theorem jR(T:Tx K mg t):%[1,yS|49] %[|117] (rQ t):=by
 refine %[yS,gb,3|70]
 ·let(x,a,z,rfl,dx,k,hx,rfl,kk):=h;let c1:=T.qA4;let c2:=T.qAb;let c3:=T.qAl;let c4:=T.qAo;let c5:=T.qAn;refine{_,%[%[0,1|30],%[%[0,2|30],%[%[0,3|30],%[%[0,4|30]|10]|9]|9]|9],?_};rw[%[%[|117],[.ref x,.int (k:B),.int z,.non,.non],0|53]];exists kk;ac_rfl;let l1:(bh "axis" (V.int (k:B)) []).length<=1:=iK _ _ _;let l2:=iK "start" (V.int z) (bh "axis" (V.int (k:B)) []);let l3:=iK "stop" V.non (bh "start" (V.int z) (bh "axis" (V.int (k:B)) []));refine{by omega,by omega,by omega,?_};exact kk () _ (λ H0 q0 q1=>q0.put q1) ag
abbrev kZ(t:Adr)(x:Z)(a:B)(s1:V)(s2:V)(s3:V)(H:Hp)(Q:VK)(E:XK):Prop:=∃ (dx:Z) (k:à),H x=U (.ins t.a_Mc dx [])/\a=(k:B)/\((s1=.non/\s2=.non/\s3=.int (-1)/\∀ H':Hp,(∀ H0,Ext H0 H->H0 x=Y->Ext H0 H')->H' x=U (.ins t.a_Mc dx (ya k))->Q .non H')\/(∃ z,s1=.int z/\s2=.non/\s3=.non/\∀ H':Hp,(∀ H0,Ext H0 H->H0 x=Y->Ext H0 H')->H' x=U (.ins t.a_Mc dx (Ac k z))->Q .non H'))
def kc(t:Adr):Sp:=λ vs H Q E=>∃ (x:Z) (a:B) (s1:V) (s2:V) (s3:V),vs=[.ref x,.int a,s1,s2,s3]/\(kZ t x a s1 s2 s3 H Q E)
theorem kY(t:Adr)(x:Z)(a:B)(s1:V)(s2:V)(s3:V)(H:Hp)(Q:VK)(E:XK):kc t [.ref x,.int a,s1,s2,s3] H Q E=(kZ t x a s1 s2 s3 H Q E):=Ti (f:=λ (x:Z) (a:B) (s1:V) (s2:V) (s3:V)=>[.ref x,.int a,s1,s2,s3]) %[10,5|63] x a s1 s2 s3
theorem i9(T:Tx K mg t):%[1,yS|49] %[|117] (kc t):=au.both (jS T) (jR T) λ vs H Q E h=>by
 obtain⟨x,a,s1,s2,s3,rfl,dx,k,hx,ha,⟨rfl,rfl,rfl,kk⟩|⟨z,rfl,rfl,rfl,kk⟩⟩:=h
 ·exact .inl {(x),a,J,dx,k,hx,ha,kk}
 ·exact .inr {(x),a,z,J,dx,k,hx,ha,kk}
inductive Bd where
 | pick (n:à)
 | sls (k:à) (z:B)
def ES(t:Adr)(H:Hp)(m:Z)(ms:G B):Bd->Prop
 | .pick n=>(∃ dx,H m=U (.ins t.a_aa3 dx (wt n 0)))/\n=ms.length
 | .sls k z=>(∃ dx,H m=U (.ins t.a_Mc dx (Ac k z)))/\ms[k]? = U z
theorem ES.ext{m:Z}{wv:Bd}(h:ES t H m ms wv)(e:Ext H H'):ES t H' m ms wv:=by
 cases wv with
 | pick n=>let((dx,h1),h2):=h;exact{⟨dx,e.at h1⟩,h2}
 | sls k z=>let((dx,h1),h2):=h;exact{⟨dx,e.at h1⟩,h2}
def Oa(t:Adr)(H0 H:Hp)(n f:B)(A:%[|48])(m:Z)(y:V):Prop:=
 (∃ (M:Mv) (q:Z),y=.ref q/\(∀ S,ug S H0->ER t (cj S H) m M (A.map λ a=>a.1)/\rn (cj S H) q n (kF M f A) (da M A))/\OkR n (kF M f A) (da M A)/\(aw ((da M A).map λ a=>a.1)<=4096->fm n (kF M f A) (da M A))) \/
 (y=.non/\∃ wv,ES t H m (A.map λ a=>a.1) wv)
theorem fm.pace{f:B}{A:%[|48]}(h:fm n f A)(hn:n<=60)(ha:a∈A):-(60:B)<a.2/\a.2<60/\-(1000:B)<f/\f<1000:=by
 let ls:∀ wv:%[|48],aF wv<=0/\0<=aG wv:=λ wv=>by
  induction wv with
  | nil=>exact{XC _,XC _}
  | cons b r ih=>rw[aC,aD];omega
 let(k,hk,e):=WN ha;let(xL,R,rfl,_):=jB (show A[k]? = U a by rw[U4 hk,e]);let z1:=h.lo;let z2:=h.hi;let z4:=h.sz a ha;rw[b7,aC] at z1;rw[b9,aD] at z2;let q1:=ls xL;let q2:=ls R;let q3:(if a.1 > 1 then a.2 else 0)=a.2:=VQ Prod.snd z4.2.2
 by_cases h1:a.1=1
 ·rw[U7 %[|8]] at q3;rw[h1,show ((1:B) - 1) * a.2=0 by rw[Int.sub_self,Int.zero_mul]] at z1 z2;omega
 ·obtain h|h|h:a.1=2\/a.1=3\/a.1=4:=by omega
  all_goals (rw[h] at z1 z2;omega)
theorem MK{R:α->V->Prop}{zs:G α}(h:Al R zs ys):Al R zs.reverse ys.reverse:=by
 let(hl,hr):=h;refine{by rw[VT,VT,hl],λ i z y hz hy=>?_}
 let hi:i<zs.length:=by
  have:=(U1.mp hz).1
  rwa [VT] at this
 rw[WC hi] at hz;rw[WC %[|8],hl] at hy;exact hr _ z y hz hy
theorem Kv(n:à):(Ag (n:B)).reverse=(rp n).map V.int:=by
 unfold Ag rp;rw[Int.toNat_natCast,←map_reverse,map_map];rfl
theorem xI{R:α->V->Prop}{z:α}{zs:G α}(r:R z y)(h:Al R zs ys):Al R (z::zs) (y::ys):={by simp[h.1],λ i z' y' a b=>by
 cases i with
 | zero=>cases a;cases b;exact r
 | succ i=>exact h.2 i z' y' (by simpa using a) (by simpa using b)}
theorem xH{R:α->V->Prop}:∀ {zs:G α}{ys:G V},Al R zs ys->∀ i:à,Al R (zs.eraseIdx i) (ys.eraseIdx i)
 | [],ys,h,i=>by
  have:ys=[]:=List.length_eq_zero_iff.mp h.1;subst this;exact Al.nil
 | z::zs,ys,h,i=>by
  match ys,h with
  | y::ys,h=>
   let h2:Al R zs ys:=⟨by have:=h.1;simpa using this,λ k a b p q=>h.2 (k+1) a b (by simpa using p) (by simpa using q)⟩
   cases i with
   | zero=>exact h2
   | succ i=>exact xI (h.2 0 z y J J) (xH h2 i)
theorem Jn{R:α->V->Prop}{zs:G α}{z:α}(h:Al R zs ys)(r:R z y):Al R (zs.set i z) (ys.set i y):=by
 refine{by rw[WJ,WJ,h.1],λ k a b p q=>?_};rw[List.getElem?_set] at p q
 by_cases e:i=k
 ·rw[Ve e] at p q;split at p
  ·rename_i hl;rw[Ve (by rw[h.1];exact hl)] at q;cases p;cases q;exact r
  ·cases p
 ·rw[U7 e] at p q;exact h.2 k a b p q
theorem OH{b p:Prop}[Decidable b][Decidable p]{X ww:Prop}(hx:b\/p->X)(hy:¬ b->¬ p->ww):if b then X else if p then X else ww:=by
 by_cases h:b
 ·rw[Ve h];exact hx (.inl h)
 ·rw[U7 h]
  by_cases h2:p
  ·rw[Ve h2];exact hx (.inr h2)
  ·rw[U7 h2];exact hy h h2
def uO(t:Adr):Sp:=λ vs H Q E=>∃ (q:Z) (c:B),vs=[.ref q,.int c]/\(∃ (n f:B) (A:%[|48]),rn H q n f A/\fm n f A/\1<=n/\n<=60/\0<=c/\∀ (r m:Z) (y:V) (H':Hp),Ext H H'->H' r=U (.tup [.ref m,y])->Oa t H H' n f A m y->Q (.ref r) H')
theorem Ey(t:Adr)(q:Z)(c:B)(H:Hp)(Q:VK)(E:XK):uO t [.ref q,.int c] H Q E=(∃ (n f:B) (A:%[|48]),rn H q n f A/\fm n f A/\1<=n/\n<=60/\0<=c/\∀ (r m:Z) (y:V) (H':Hp),Ext H H'->H' r=U (.tup [.ref m,y])->Oa t H H' n f A m y->Q (.ref r) H'):=jb (f:=λ (q:Z) (c:B)=>[.ref q,.int c]) %[4,2|63] q c
theorem tJ(T:Tx K mg t):%[3,GL|49] ["_law_parts_here", "_law_cell"] (uO t):=by
 intros zc lh zb fj vN ja yS i9;refine T.F_GL.ok bq (λ _ _ _ _ h=>fT h λ _ _=>J) (λ cdv A' outer s H vs Q E hr h=>?_)
 ·let(q,c,rfl,n,f,A,(D,hq,ht),pk,n1,f9,hc,k):=h;refine{_,%[(@om _ _ _ _ _ _ %[0|0] (%[(3),%[%[2,bq|5],%[%[3,bq|5],%[%[4,bq|5],(@bD _)|22]|22]|22]|39].mono λ _ _ _ _ h=>dI h) ∅ ∅ ∅),%[%[(PW.pt %[%[(aO hr.units),4,%[(@eB _)|23],(ai _)|13],%[%[(aO hr.units),%[bP,1,99|11],99,(ai _)|13]|40]|36]),%[%[5,bq,%[qDs,zc,m_aa4,av,%[(@IQ _ _ _ _ _ _ _ (@kP _ _ _ _ _ _ _ J ∅ T.z_list ∅ T.z_range %[%[len,aA,%[4|1]|6]|1] ∅ ∅ ∅) (@ye _ _ _ _ _ _ j7 %[|2]) (λ _ _ _ h=>h))|1]|62]|4],%[%[%[eA,%[%[%[%[5,%[%[%[2,%[3,%[(@IQ _ _ _ _ _ _ _ %[4|0] (@ye _ _ _ _ _ _ j7 %[|2]) (λ _ _ _ h=>h))|1]|1]|1]|19]|1]|1]|19],%[%[%[%[qC7,zb,m_aa3,av,%[%[len,aA,%[4|1]|6],%[99|1]|1]|62],%[(@aZ _ _ _)|1]|1]|19]|1]|1]|23],%[bP,%[bY,1,99|11],99|11]|17]|12]|10]|9],(@aj _)|14],%[%[6,bq,%[bP,%[bY,1,99|11],%[len,aA,%[4|1]|6]|11]|4],%[(@om _ _ _ _ _ _ %[eA,4,6|17] (%[(2),%[%[7,bq|5],%[%[8,bq|5],(@bD _)|22]|22]|39].mono λ _ _ _ _ h=>dI h) ∅ ∅ ∅),%[%[%[(aO hr.units),%[bP,1,99|11],99,(ai _)|13],%[%[%[%[%[qC7,zb,m_aa3,av,%[6,%[%[dB,7,99|11]|1]|1]|62],%[%[%[2,%[%[aI,3,%[eW,8,%[dB,7,99|11]|11]|11],%[%[dJ,%[Ip,4,(@bX _),%[6|34]|37],%[Ip,4,%[%[aI,6,99|11]|34],(@bX _)|37]|11]|1]|1]|1]|19]|1]|1]|19]|12]|10],(@aj _)|14],%[%[(PW.pt %[%[(aO hr.units),%[bP,1,99|11],99,(ai _)|13],(@gr _ _ _ _ %[(aO hr.units),7,99,(ai _)|13])|78]),%[%[9,bq,%[eA,%[%[99,%[99,%[99,%[%[ma,99,99|11]|1]|1]|1]|1]|23],%[bP,%[bY,1,99|11],99|11]|17]|4],%[%[%[%[%[qDj,vN,m_L9,av,%[6,%[9|1]|1]|62],%[%[%[2,%[3,%[%[dJ,%[dJ,%[Ip,4,(@bX _),%[6|34]|37],%[%[%[%[9,%[99|1]|1]|19]|1]|23]|11],%[Ip,4,%[%[aI,6,99|11]|34],(@bX _)|37]|11]|1]|1]|1]|19]|1]|1]|19]|12]|10]|9],(@aj _)|14],%[%[%[(aO hr.units),%[bP,1,99|11],99,(ai _)|13],%[%[%[%[%[T.qD0,G_yS,(hr.mono ⋯),∅,T.m_Mc,T.b_Slice___init___3,(.cons (show bI V.non É from J) (.cons (show bI V.non É from J) .nil)),av,%[6,%[7|1]|1],⋯,∅,∅,∅|42],%[(@aZ _ _ _)|1]|1]|19]|12]|10],(@aj _)|14],%[%[10,bq,%[dJ,%[dJ,%[Ip,4,(@bX _),%[6|34]|37],%[%[%[%[7,%[%[dB,99,8|11]|1]|1]|19]|1]|23]|11],%[Ip,4,%[%[aI,6,99|11]|34],(@bX _)|37]|11]|4],%[%[%[%[%[qD0,yS,m_Mc,av,%[6,%[(@aZ _ _ _),%[(@aZ _ _ _),%[(@ye _ _ _ _ _ _ j7 %[|2])|1]|1]|1]|1]|62],%[%[%[2,%[%[aI,3,%[eW,8,%[dB,7,99|11]|11]|11],%[10|1]|1]|1]|19]|1]|1]|19]|12]|10]|9]|9]|9]|9]|9]|9]|9]|9],?_};rw[%[["_law_parts_here", "_law_cell", "_law_room", "_law_first", "_law_axes", "_law_turned", "_law_at", "_law_size", "_law_pace", "_law_many", "_law_back"],[.ref q,.int c],9|53]];clear G_zc G_zb G_vN G_yS;exists k;exists pk;let(ys,hD,al):=ht;let hlen:ys.length=A.length:=by rw[al.1];unfold axL;rw[length_map]
  exists hlen;exists al;ac_rfl;intro le H1 hle e1 h1;let a6:=e1.at hD;let b8:=e1.at hq;let b2:=(al ()).imp λ _ _ t=>t.ext e1;let d1:=pF (H:=H1) (f:=jY H1 (jY H1 (jY H1 noD))) b2;exists b2;clear hD hq hle
  let hb:PyData.eqvAll (List.map (λ z=>PyData.tuple (List.map PyData.int z)) (axL A)) []=decide (A=[]):=by cases A<;>rfl
  ac_rfl;refine OH (λ hh=>?_) (λ g1 g2=>?_)
  ·clear hb d1 hh;rw[Ng];let d7:=hlen ();let gg:=(pk ()).len;refine{by omega,by omega,?_};intro R1 H2 _ e2 h2;let cc:=e2.at a6;clear a6 b8;ac_rfl;intro R2 H3 _ e3 h3;rw[Kv] at h3;let a7:=e3.at cc;clear cc h2;ac_rfl;intro tb d8 G1 d9 _ _ g1 kt _;rw[Eo];refine{d8,rp A.length,kt,g1.at h3,by rw[gY];omega,λ H4 xz hE hO ed ee=>?_};let c4:=hE H3 g1 d9;let a5:=c4.at a7;let ef:=e1.trans (e2.trans (e3.trans c4));let de:=c4;let nO:=hO;let eG:=e1.trans (e2.trans (e3.trans g1));clear hE kt g1 d9 h3 a7 hO c4;ac_rfl;intro Rv H5 nR e5 h5;let a8:=e5.at a5;let ej:=e5.at ed;let el:=e5.at ee;clear a5 ed ee;ac_rfl;intro tq H6 _ e6 h6;let a9:=e6.at a8;let en:=e6.at ej;let ep:=e6.at el;let ew:=e6.at h5;clear a8 ej el h5;ac_rfl;intro t1 H7 _ e7 h7;let cg:=e7.at a9;let ey:=e7.at en;let ez:=e7.at ep;let eD:=e7.at ew;let c5:=e7.at h6;clear a9 en ep ew h6;ac_rfl;intro pp a3 G2 a4 _ _ g2 kp _;rw[dW];refine{a3,A.length,kp,J,λ H8 eH gk=>?_};let b3:=eH H7 g2 a4;let gn:=b3.at ey;let gs:=b3.at ez;let gx:=b3.at eD;let gD:=b3.at c5;let ck:=b3.at h7;clear eH kp g2 a4 cg ey ez eD c5 h7;ac_rfl;intro t2 H9 _ e9 h9;ac_rfl;intro xL e0 _ fa fo;let b1:=e9.trans fa;let c6:=ef.trans (e5.trans (e6.trans (e7.trans (b3.trans b1))));let fh:(A.map λ a=>a.1).length=A.length:=U2 _
   by_cases z:c / 5 % 2=0
   ·ac_rfl;let dh:=e5.trans (e6.trans (e7.trans (b3.trans b1)));let hg:=de.trans dh;refine k () t1 tb (.ref tq) e0 c6 (b1.at ck) (.inl {.turn,tq,J,λ S hS=>{⟨⟨d8,xz,cp (hS.ext c6) (b1.at gn) (λ _ h=>by cases h),λ _=>ml (hS.ext eG) nO ?_⟩,trivial,by omega,λ x hx=>?_⟩,{Rv,cp (hS.ext c6) (b1.at gD) (λ _ h=>by cases h),cX (hS.ext ef) dh nR ⟨_,b1.at gx,?_⟩}},(pk ()).turn.okR,λ _=>(pk ()).turn})
    ·rw[fh];exact b1.at gs
    ·let(a,ha,rfl):=U8.mp hx;have:=(pk ()).sz a ha;omega
    ·show Al _ (axL A.reverse) _
     unfold axL;rw[map_reverse];exact MK ((b2 ()).imp λ _ _ t=>t.ext ((e2.trans (e3.trans de)).trans dh))
   ·let z1:c / 5 % 2=1:=by omega
    ac_rfl;exact k () t2 pp .non e0 c6 (fa.at h9) (.inr {J,.pick A.length,{a3,b1.at gk},fh.symm})
  ·let g1:A ≠ []:=g1;let d7:=hlen ();let hk:0<A.length:=List.length_pos_iff.mpr g1;let gg:=(pk ()).len;obtain⟨j,hj⟩:∃ j:à,c / 8 % (ys.length:B)=(j:B):={(c / 8 % (ys.length:B)).toNat,(Ws (Wo _ %[|8])).symm}
   let fu:j<A.length:=by
    have:=Wl (c / 8) (show (0:B)<(ys.length:B) by omega);omega
   obtain⟨a,ha⟩:∃ a,A[j]? = U a:={_,getElem?_eq_getElem fu};let hy:ys[j]? = U ys[j]:=getElem?_eq_getElem %[|8];let(p,hp,fx):=(b2 ()).2 j [a.1,a.2] _ (by unfold axL;rw[getElem?_map,ha];rfl) hy;rw[hp] at hy;let g0:atI ys (j:B)=%[p|45]:=bQ hy;let g7:(0:B)<(ys.length:B):=by omega
   let g9:H1 p=U (.tup [.int a.1,.int a.2]):=fx;let dm:=Vx ha;let pc:=(pk ()).pace f9 dm;let dr:=(pk ()).sz a dm;let fh:(A.map λ a=>a.1).length=A.length:=U2 _
   let b5:∀ x∈(A.map λ a=>a.1),(1:B)<=x/\x<=1000000000:=λ x hx=>by
    let(b,hb,rfl):=U8.mp hx;have:=(pk ()).sz b hb;omega
   let cv:(A.map λ a=>a.1)[j]? = U a.1:=by rw[Vd,ha];rfl
   exists b5;exists cv;exists fh;exists dr;exists ha;exists hy;clear hb d1 hp fx dm fu d7;let cm:yd a.2 (a.1 - 1):=.inl {by omega,by omega};let st:∀ v:V,ys.take j++[v]++ys.drop (j+1)=ys.set j v:=λ v=>by rw[Yb,Ve (by have:=(U1.mp (hy ())).1;exact this),Xx];rfl
   exists st;let ln:ys.length<=3:=by have:=hlen ();omega
   exists ln;let hl:lU ys Y (U (j:B))=ys.take j:=by rw[HK ys _ %[|8],VC]
   let ho:lU ys (U ((j:B)+1)) Y=ys.drop (j+1):=by rw[HJ ys _ %[|8]];rfl
   by_cases c1:c % 5=1
   ·ac_rfl;intro pp a3 G2 a4 _ _ g2 kp _;rw[dW];refine{a3,j,kp,J,λ H3 hE cx=>?_};let b6:=hE H1 g2 a4;let a7:=b6.at a6;clear hE kp g2 a4 a6 b8;ac_rfl;intro s1 H4 _ e4 h4;let a5:=e4.at a7;clear a7;ac_rfl;intro s2 H5 _ e5 h5;let b4:=e5.at h4;clear a5 h4;ac_rfl;refine⟨ak (by rw[length_take,length_drop];have:=ln ();omega),?_⟩;intro s3 H6 n6 e6 h6;rw[←List.eraseIdx_eq_take_drop_succ] at h6;clear b4 h5;ac_rfl;intro tq H7 _ e7 h7;let c5:=e7.at h6;clear h6;ac_rfl;intro t1 H8 _ e8 h8;let dv:=e4.trans (e5.trans (e6.trans (e7.trans e8)));let w:=(pk ()).pick (ha ());let dy:=e1.trans (b6.trans dv);exact k () t1 pp (.ref tq) H8 dy h8 (.inl {.pick j (a.1 - 1),tq,J,λ S hS=>⟨⟨⟨a3,0,cp (hS.ext dy) (dv.at cx) (λ _ h=>by cases h),λ z=>by cases z⟩,⟨a.1,cv (),by have:=dr ();omega,by omega⟩,by have:=fh ();omega,b5 ()⟩,{s3,by let q:=e8.at h7;refine cp (hS.ext dy) ?_ (λ _ h=>by cases h);rw[q,show kF (.pick j (a.1 - 1)) f A=f+a.2 * (a.1 - 1) from by show f+(a.1 - 1) * (A.getD j (1,0)).2=_;rw[List.getD_eq_getElem?_getD,ha (),Int.mul_comm];rfl],cX (hS.ext (e1.trans (b6.trans (e4.trans e5)))) (e6.trans (e7.trans e8)) n6 {_,e8.at c5,by show Al _ (axL (A.eraseIdx j)) _;unfold axL;rw[fQ];exact xH ((b2 ()).imp λ _ _ t=>t.ext (b6.trans dv)) j}}⟩,w.okR,λ _=>w})
   ·by_cases c2:c % 5=2/\a.1=1
    ·let(c2,a1):=c2
     let gS:∃ m,atI [V.int 2,V.int 3,V.int 4097,V.int 1000000000] (c / 64 % 4)=%[m|47]/\(m=2\/m=3\/m=4097\/m=1000000000):=by
      obtain z|z|z|z:c / 64 % 4=0\/c / 64 % 4=1\/c / 64 % 4=2\/c / 64 % 4=3:=by omega
      ·rw[z];exact{2,J,.inl J}
      ·rw[z];exact{3,J,.inr (.inl J)}
      ·rw[z];exact{4097,J,.inr (.inr (.inl J))}
      ·rw[z];exact{1000000000,J,.inr (.inr (.inr J))}
     let(m,hs,hm):=gS;let gT:A[j]? = U (1,a.2):=by rw[ha (),←a1]
     let fy:1<=m/\m<=1000000000:=by omega
     let f3:(A.map λ a=>a.1)[j]? = U 1:=by rw[cv (),a1]
     exists hm;exists fy;exists gT;exists f3;exists a1;let ea:=a1 ();ac_rfl;intro L1 H2 _ e2 h2;let cc:=e2.at a6;clear a6 b8;ac_rfl;intro pp a3 G2 a4 _ _ g2 kp _;rw[vW];refine{a3,j,kp,J,λ H3 hE cx=>?_};let c7:=hE H2 g2 a4;let a7:=c7.at cc;clear hE kp g2 a4 cc h2;ac_rfl;intro s1 H4 _ e4 h4;let a5:=e4.at a7;clear a7;ac_rfl;intro tz H5 _ e5 cH;let a8:=e5.at a5;let b4:=e5.at h4;clear a5 h4;ac_rfl;intro lz H6 _ e6 dN;let a9:=e6.at a8;let d0:=e6.at b4;let cT:=e6.at cH;clear a8 b4 cH;ac_rfl;refine⟨ak (by rw[Vu];have:=ln ();omega),?_⟩;intro s2 H7 _ e7 h7;let cg:=e7.at a9;let cV:=e7.at cT;clear a9 d0 cT dN;ac_rfl;intro s3 H8 _ e8 h8;let ck:=e8.at h7;let cZ:=e8.at cV;clear cg cV h7;ac_rfl;refine⟨ak (by rw[Va,Vu,WA,W5];have:=ln ();omega),?_⟩;intro s4 H9 n9 e9 h9;let c8:=e9.at cZ;rw[st ()] at h9;clear ck h8 cZ;ac_rfl;intro tq Ha _ ea fo;ac_rfl;intro t1 Hb _ eb d2;let c9:=ea.trans eb;let d3:=e4.trans (e5.trans (e6.trans (e7.trans (e8.trans (e9.trans c9)))));let w:=(pk ()).spr (m:=m) (ha ()) (a1 ()) (hm ())
     let d4:bM Hb s4 (axL (da (.spr j m) A)):={_,c9.at h9,by
      show Al _ (axL (A.set j (m,0))) _
      unfold axL;rw[map_set];exact Jn ((b2 ()).imp λ _ _ t=>t.ext (e2.trans (c7.trans d3))) {tz,J,c9.at c8}}
     let d5:=e1.trans (e2.trans (c7.trans d3));exact k () t1 pp (.ref tq) Hb d5 d2 (.inl {.spr j m,tq,J,λ S hS=>⟨⟨⟨a3,0,cp (hS.ext d5) (d3.at cx) (λ _ h=>by cases h),λ z=>by cases z⟩,⟨f3 (),fy ()⟩,by have:=fh ();omega,b5 ()⟩,{s4,cp (hS.ext d5) (eb.at fo) (λ _ h=>by cases h),cX (hS.ext (e1.trans (e2.trans (c7.trans (e4.trans (e5.trans (e6.trans (e7.trans e8)))))))) (e9.trans c9) n9 d4}⟩,w.1,w.2})
    ·by_cases c3:c % 5=3
     ·ac_rfl;intro pp a3 G2 a4 _ _ g2 kp _;rw[kY];refine{a3,j,kp,J,.inr {a.1,J,J,J,λ H3 hE cx=>?_}};let b6:=hE H1 g2 a4;clear hE kp g2 a4 a6 b8;ac_rfl;intro t1 H4 _ e4 h4;exact k () t1 pp .non H4 (e1.trans (b6.trans e4)) h4 (.inr {J,.sls j a.1,{a3,e4.at cx},cv ()})
     ·let q2:∀ {X ww:Prop},ww->(if c % 5=2 then if a.1=1 then X else ww else ww):=λ y=>by
       by_cases z:c % 5=2
       ·rw[Ve z,U7 λ z2=>c2 {(z),z2}];exact y
       ·rw[U7 z];exact y
      ac_rfl;refine q2 ?_;clear c2 q2;ac_rfl;intro s1 H4 _ e4 h4;let a5:=e4.at a6;clear a6 b8;ac_rfl;intro tz H5 _ e5 cH;let a8:=e5.at a5;let b4:=e5.at h4;clear a5 h4;ac_rfl;intro lz H6 _ e6 dN;let a9:=e6.at a8;let d0:=e6.at b4;let cT:=e6.at cH;clear a8 b4 cH;ac_rfl;refine⟨ak (by rw[Vu];have:=ln ();omega),?_⟩;intro s2 H7 _ e7 h7;let cg:=e7.at a9;let cV:=e7.at cT;clear a9 d0 cT dN;ac_rfl;intro s3 H8 _ e8 h8;let ck:=e8.at h7;let cZ:=e8.at cV;clear cg cV h7;ac_rfl;refine⟨ak (by rw[Va,Vu,WA,W5];have:=ln ();omega),?_⟩;intro s4 H9 n9 e9 h9;let c8:=e9.at cZ;rw[st ()] at h9;clear ck h8 cZ;ac_rfl;intro pp a3 G2 a4 _ _ g2 kp _
      show kc t [.ref pp,.int (j:B),.non,.non,.int (-1)] G2 _ _
      rw[kY];refine{a3,j,kp,J,.inl {J,J,J,λ Ha hE g4=>?_}};let dc:=hE H9 g2 a4;let f5:=dc.at c8;let f6:=dc.at h9;clear hE kp g2 a4 c8 h9;ac_rfl;intro tq Hb _ eb d2;ac_rfl;intro t1 Hc _ ec g5;let c0:=eb.trans ec;let f7:=e4.trans (e5.trans (e6.trans (e7.trans (e8.trans (e9.trans (dc.trans c0))))));let(w1,w2,w3):=(pk ()).slb (ha ())
      let d4:bM Hc s4 (axL (da (.slb j) A)):={_,c0.at f6,by
       rw[w2];unfold axL;rw[map_set];exact Jn ((b2 ()).imp λ _ _ t=>t.ext f7) {tz,J,by let q:=c0.at f5;rw[q];simp}}
      let d6:=e1.trans f7;exact k () t1 pp (.ref tq) Hc d6 g5 (.inl {.slb j,tq,J,λ S hS=>⟨⟨⟨a3,0,cp (hS.ext d6) (c0.at g4) (λ _ h=>by cases h),λ z=>by cases z⟩,⟨a.1,cv (),(dr ()).1⟩,by have:=fh ();omega,b5 ()⟩,{s4,by let q:=ec.at d2;refine cp (hS.ext d6) ?_ (λ _ h=>by cases h);rw[q,w1,XS],cX (hS.ext (e1.trans (e4.trans (e5.trans (e6.trans (e7.trans e8)))))) (e9.trans (dc.trans c0)) n9 d4}⟩,w3.okR,λ _=>w3})
theorem Hs(h:1<=n):As n n 0 n=n:=by
 unfold As;rw[if_neg (show ¬ n<0 by omega),if_neg (show ¬ n<n by omega),if_pos (show n > 0 by omega)]
abbrev sO(t:Adr)(n:B)(H:Hp)(Q:VK)(E:XK):Prop:=1<=n/\∀ H',Ext H H'->E (.ref t.a_G5) Y H'
def uD(t:Adr):Sp:=λ vs H Q E=>∃ (n:B),vs=[.int n,.int n,.non,.non]/\(sO t n H Q E)
theorem Ep(t:Adr)(n:B)(H:Hp)(Q:VK)(E:XK):uD t [.int n,.int n,.non,.non] H Q E=(sO t n H Q E):=jV (f:=λ (n:B)=>[.int n,.int n,.non,.non]) %[2,1|63] n
theorem FY(T:Tx K mg t):au P w K mg base (CX1 P  w) 2 t.a_Md t.d_Md ["size", "start", "stop", "step"] (uD t):=by
 intros Me Bx yY fY;refine %[Md,cJ,1|70]
 ·let(n,rfl,hn,k):=h;refine{_,%[%[4,cJ,%[%[kJ,3,(@aZ _ _ _),(ai _)|13],99,3|44]|4],%[%[%[(aO hr.units),4,99,(ai _)|13],%[(@lJ _ _ _ _ _ _ _ _ _ _ J ∅ T.m_G8 ⟨T.qB0⟩ (λ σ=>hU) %[(@aH _ _ _ _)|1] ∅ ∅ ⋯)|10],(@aj _)|14],%[%[5,cJ,%[%[iI,4,99,(ai _)|13],99,(@ye _ _ _ _ _ _ j7 %[|2])|44]|4],%[%[6,cJ,%[aI,5,0|11]|4],%[%[7,cJ,%[%[iI,4,99,(ai _)|13],5,6|44]|4],%[%[8,cJ,%[%[iI,4,99,(ai _)|13],6,5|44]|4],%[%[%[lM,1,(@aZ _ _ _),(ai _)|13],%[%[7,cJ,%[Me,%[1,%[0,%[5,%[6|1]|1]|1]|1]|3]|4]|10],(@aj _)|14],%[%[%[lM,2,(@aZ _ _ _),(ai _)|13],%[%[8,cJ,%[Me,%[2,%[0,%[5,%[6|1]|1]|1]|1]|3]|4]|10],(@aj _)|14],%[%[9,cJ,%[yY,%[7,%[8,%[4|1]|1]|1]|3]|4],%[%[%[o7,9,99,(ai _)|13],%[(@lJ _ _ _ _ _ _ _ _ _ _ J ∅ T.m_G5 ⟨T.qAu⟩ (λ σ=>hU) %[(@aH _ _ _ _)|1] ∅ ∅ ⋯)|10],(@aj _)|14],%[%[%[%[7,%[9,%[4|1]|1]|1]|19]|12]|10]|9]|9]|9]|9]|9]|9]|9]|9]|9]|9],?_};rw[%[%[|120],[.int n,.int n,.non,.non],6|53]];clear G_Me G_yY;exists k;let hh:=Hs hn;simp! only[-bw,-nS];rw[nS];simp! only[-bw,-nS];rw[bw];simp! only[-bw,-nS];rw[nS];simp! only[-bw,-nS];simp only[Yt];simp! only[-bw];rw[bw];simp! only[-bw];rw[HV,hh];simp! only[-bw];rw[bw];simp! only[-bw];rw[sx];refine{by decide,by decide,?_};rw[show -((n - n).fdiv 1)=0 by rw[Int.sub_self];rfl];clear hh hn;ac_rfl;exact k () H (Ext.refl _)
theorem IJ(k:à)(z:B):(Ac k z).lookup ("axis":Ã)=U (.int (k:B))/\(Ac k z).lookup ("start":Ã)=%[z|47]/\(Ac k z).lookup ("stop":Ã)=U .non/\(Ac k z).lookup ("step":Ã)=U .non:=by
 unfold Ac;refine{?_,?_,?_,?_}
 ·rw[ae,U7 nofun,ae,U7 nofun,ae,U7 nofun,ae,Ve J]
 ·rw[ae,U7 nofun,ae,U7 nofun,ae,Ve J]
 ·rw[ae,U7 nofun,ae,Ve J]
 ·rw[ae,Ve J]
theorem II(k:à)(z:B)(h:m∈([("taken":Ã), "behind", "ahead", "sizes_of", "on"]:G Ã)):(Ac k z).lookup m=Y:=by
 let n1:¬ m = "step":=by revert m;decide +kernel
 let n2:¬ m = "stop":=by revert m;decide +kernel
 let n3:¬ m = "start":=by revert m;decide +kernel
 let n4:¬ m = "axis":=by revert m;decide +kernel
 unfold Ac;rw[ae,if_neg n1,ae,if_neg n2,ae,if_neg n3,ae,if_neg n4];rfl
abbrev xN(t:Adr)(m:Z)(l:Z)(H:Hp)(Q:VK)(E:XK):Prop:=∃ (dx:Z) (k:à) (z:B) (ms:G B),H m=U (.ins t.a_Mc dx (Ac k z))/\H l=%[ms|46]/\ms[k]? = U z/\1<=z/\∀ H',Ext H H'->E (.ref t.a_Hh) Y H'
def Ay(t:Adr):Sp:=λ vs H Q E=>∃ (m:Z) (l:Z),vs=[.ref m,.ref l]/\(xN t m l H Q E)
theorem HQ(t:Adr)(m:Z)(l:Z)(H:Hp)(Q:VK)(E:XK):Ay t [.ref m,.ref l] H Q E=(xN t m l H Q E):=jb (f:=λ (m:Z) (l:Z)=>[.ref m,.ref l]) %[4,2|63] m l
theorem nu(T:Tx K mg t):au P w K mg base (CX1 P  w) 4 t.a_zp t.d_zp %[|103] (Ay t):=by
 intros zm cY Md FY;refine(Fun.x T.F_zp).ok fS (λ _ _ _ _ h=>fT h λ _ _=>J) %[0|50]
 ·let(m,l,rfl,dx,j,z,ms,hm,hl,hk,hz,k):=h;let a5:j<ms.length:=(U1.mp hk).1;let c1:=T.qA4;let c2:=T.qAb;let c3:=T.qAl;let c4:=T.qAo;let c5:=T.qAn;let(f1,f2,f3,f4):=IJ j z;let g0:atI (ms.map V.int) (j:B)=%[z|47]:=bQ (by rw[Vd,hk];rfl);refine{_,%[%[%[zm,%[1,%[%[0|15]|1]|1]|3]|16],%[(@AY _ _ _ _ _ _ _ ⟨rfl,J,J⟩ (λ EX E pn hx=>%[%[(@w9 _ _ _ _ _ _ _ _ _ _ _ _ _ _ _ _ _ G_Md (hr.mono ⋯) ∅ T.m_Md T.F_Md.kp T.b_Md .nil hx %[%[eA,1,%[(K),0|77]|17],%[%[(K),0|77],%[%[(K),0|77],%[%[(K),0|77]|1]|1]|1]|1] ⋯ ∅ ∅ ∅)|12]|10]) (@FK _ _ _ _ _ _ _ (2) _ _ _ _ _ _ _ _ _ _ _ _ _ _ _ fS.nd J J J J J ∅ T.m_G8 ∅ T.m_G5 ∅ T.m_Hh ⟨T.qAp⟩ (WZ T.hard) (λ σ=>yP) (λ ee H1=>%[(@aH _ _ _ _)|1]) ∅ ∅ ⋯ ⋯ ⋯ ⋯ ⋯))|10]|9],?_};rw[%[["self", "sizes", "e"],[.ref m,.ref l],1|53]];clear G_zm G_Md;exists k;exists hk;ac_rfl;rw[jx];refine{ms,hl,by omega,by omega,λ H1 e1=>?_};let a3:=e1.at hl;let a4:=e1.at hm;clear hl hm;ac_rfl;rw[Ep];refine{hz,λ H2 e2=>?_};refine{⟨T.xm,λ q=>of_decide_eq_false T.soft (Value.ref.inj q),T.xb⟩,λ e oe he=>?_};clear g0 a3 a4;ac_rfl;rw[LM];exact{ak ⋯,k () _ (e1.trans (e2.trans (Ext.new he)))}
def bdK(t:Adr):Bd->Z
 | .pick _=>t.a_aa3
 | .sls _ _=>t.a_Mc
def bdG:Bd->G (Ã × V)
 | .pick n=>wt n 0
 | .sls k z=>Ac k z
def bdZ:Bd->G B->Prop
 | .pick n,ms=>n=ms.length
 | .sls k z,ms=>ms[k]? = U z
theorem ES.op{m:Z}{wv:Bd}(h:ES t H m ms wv):(∃ dx,H m=U (.ins (bdK t wv) dx (bdG wv)))/\bdZ wv ms:=by
 cases wv<;>exact h
theorem Bc(wv:Bd)(h:m∈([("behind":Ã), "ahead", "sizes_of", "on"]:G Ã)):(bdG wv).lookup m=Y:=by
 cases wv with
 | pick n=>exact oo n 0 (Vb _ h)
 | sls k z=>exact II k z (Vb _ h)
abbrev xY(t:Adr)(wv:Bd)(m:Z)(l:Z)(H:Hp)(Q:VK)(E:XK):Prop:=∃ ms:G B,ES t H m ms wv/\H l=%[ms|46]/\(∀ x∈ms,(1:B)<=x)/\∀ H',Ext H H'->E (.ref t.a_Hh) Y H'
def jj(t:Adr)(wv:Bd):Sp:=λ vs H Q E=>∃ (m:Z) (l:Z),vs=[.ref m,.ref l]/\(xY t wv m l H Q E)
theorem xE(t:Adr)(wv:Bd)(m:Z)(l:Z)(H:Hp)(Q:VK)(E:XK):jj t wv [.ref m,.ref l] H Q E=(xY t wv m l H Q E):=jb (f:=λ (m:Z) (l:Z)=>[.ref m,.ref l]) %[4,2|63] m l
theorem nA(T:Tx K mg t)(n:à):au P w K mg base (CX1 P  w) 5 t.a_Dp t.d_Dp %[|103] (jj t (.pick n)):=by
 intros zm nt;refine(Fun.x T.F_Dp).ok jO (λ _ _ _ _ h=>fT h λ _ _=>J) %[0|50]
 ·let(m,l,rfl,ms,((dx,hm),hn),hl,_,k):=h;let a3:(ms.length:B)<=(n:B):=by have:n=ms.length:=hn;omega
  clear hn;let c1:=T.qAa;let c2:=T.qAj;let f1:=lK n 0;refine{_,%[%[%[zm,aK,%[1,%[%[0|15]|1]|1]|68]|16],(@mG _ _)|9],?_};rw[%[%[|103],[.ref m,.ref l],0|53]];clear G_zm;exists k;ac_rfl;rw[zD];exact{ms,hl,a3,k ()}
theorem lx(T:Tx K mg t)(j:à)(z:B):au P w K mg base (CX1 P  w) 5 t.a_zh t.d_zh %[|103] (jj t (.sls j z)):=by
 intros zp nu;let G_GV:%[1,GV|49] %[|124] (λ _ _ _ _=>False):=o8;refine(Fun.x T.F_zh).ok iH (λ _ _ _ _ h=>fT h λ _ _=>J) %[0|50]
 ·let(m,l,rfl,ms,((dx,hm),hn),hl,hs,k):=h;let hz:=hs z (Vx hn);let c1:=T.qA4;let c2:=T.qAb;let f1:=(IJ j z).1;let f2:=II j z (m := "taken") nofun;refine{_,%[%[%[GV,%[1,%[%[0|15],%[%[%[%[eA,%[%[0|0],qA4,qAq,zp,aK,%[1|1]|60],99|17]|1]|23]|1]|1]|1]|3]|12]|10],?_};rw[%[%[|103],[.ref m,.ref l],0|53]];clear G_zp G_GV;exists k;exists hn;ac_rfl;rw[HQ];exact{dx,j,z,ms,hm,hl,hn (),hz,k ()}
theorem QB(T:Tx K mg t)(wv:Bd):MD P w K mg base (CX1 P  w) 5 "behind" (bdK t wv) (jj t wv):=by
 cases wv with
 | pick n=>exact{T.qAa,_,_,_,T.qB5,nA T n,T.b_Dp}
 | sls k z=>exact{T.qA4,_,_,_,T.qB2,lx T k z,T.b_zh}
theorem fk(T:Tx K mg t)(wv:Bd):au P w K mg base (CX1 P  w) 6 t.a_za t.d_za %[|103] (jj t wv):=by
 let a3:∀ i,i<1->MD P w K mg base (CX1 P  w) 5 "behind" ((λ _=>bdK t wv) i) ((λ _=>jj t wv) i):=λ _ _=>QB T wv;refine(Fun.x T.F_za).ok cD (λ _ _ _ _ h=>fT h λ _ _=>J) %[0|50]
 ·let(m,l,rfl,ms,hb,hl,hs,k):=h;let((dx,hm),_):=hb.op;refine{_,%[%[2,cD,%[0,a3,(hr.mono ⋯),aK,%[1|1]|76]|4],(@mG _ _)|9],?_};rw[%[["self", "sizes", "found"],[.ref m,.ref l],1|53]];clear a3;exists k;exists hb;exists hs;ac_rfl;refine{m,0,dx,_,J,by decide,hm,Bc wv nofun,?_};ac_rfl;rw[xE];exact{ms,hb (),hl,hs (),k ()}
theorem Qz(T:Tx K mg t)(wv:Bd):MD P w K mg base (CX1 P  w) 6 "sizes_of" (bdK t wv) (jj t wv):=by
 cases wv with
 | pick n=>exact{T.qAa,_,_,_,T.qB1,fk T _,T.b_za}
 | sls k z=>exact{T.qA4,_,_,_,T.qAy,fk T _,T.b_za}
abbrev B1(t:Adr)(wv:Bd)(m:Z)(v:Z)(H:Hp)(Q:VK)(E:XK):Prop:=∃ (n f:B) (A:%[|48]),ES t H m (A.map λ a=>a.1) wv/\aW t.a_aa0 H v n f A/\iA A/\∀ H',Ext H H'->E (.ref t.a_Hh) Y H'
def Am(t:Adr)(wv:Bd):Sp:=λ vs H Q E=>∃ (m:Z) (v:Z),vs=[.ref m,.ref v]/\(B1 t wv m v H Q E)
theorem MG(t:Adr)(wv:Bd)(m:Z)(v:Z)(H:Hp)(Q:VK)(E:XK):Am t wv [.ref m,.ref v] H Q E=(B1 t wv m v H Q E):=jb (f:=λ (m:Z) (v:Z)=>[.ref m,.ref v]) %[4,2|63] m v
theorem mV(T:Tx K mg t)(wv:Bd):au P w K mg base (CX1 P  w) 8 t.a_G0 t.d_G0 %[|115] (Am t wv):=by
 let a3:∀ i,i<1->MD P w K mg base (CX1 P  w) 6 "sizes_of" ((λ _=>bdK t wv) i) ((λ _=>jj t wv) i):=λ _ _=>Qz T wv;intros Ds dF;refine(Fun.x T.F_G0).ok bx (λ _ _ _ _ h=>fT h λ _ _=>J) (λ cdv A' outer s H vs Q E hr h=>?_)
 ·let(m,v,rfl,n,f,A,hb,vo,a4,k):=h;let((dx,hm),_):=hb.op;let c3:=T.qA1;let(dv,Dv,hv,_):=vo.ob;let m2:=lD n f Dv (m := "sizes") nofun;refine{_,%[%[2,bx,%[%[1|0],qA1,qAm,Ds,av|61]|4],%[%[3,bx,%[0,a3,(hr.mono ⋯),aK,%[2|1]|76]|4],(@mG _ _)|9]|9],?_};rw[%[%[|119],[.ref m,.ref v],8|53]];clear a3 G_Ds;exists k;exists hb;exists a4;ac_rfl;rw[iq];refine{n,f,A,vo,(a4 ()).1,λ r H1 a6 e1 h1=>?_};let a5:=e1.at hm;clear hm hv;ac_rfl;refine{m,0,dx,_,J,by decide,a5,Bc wv nofun,?_};ac_rfl;rw[xE]
  exact{A.map (λ z=>z.1),(hb ()).ext e1,h1,λ x hx=>by
   let(a,ha,rfl):=U8.mp hx;exact((a4 ()).2 a ha).1,λ H' e=>k () H' (e1.trans e)}
theorem S4(T:Tx K mg t)(wv:Bd):MD P w K mg base (CX1 P  w) 8 "on" (bdK t wv) (Am t wv):=by
 cases wv with
 | pick n=>exact{T.qAa,_,_,_,T.qC0,mV T _,T.b_G0}
 | sls k z=>exact{T.qA4,_,_,_,T.qAt,mV T _,T.b_G0}
abbrev zW(t:Adr)(wv:Bd)(h:Z)(x:Ã)(y:Ã)(m:Z)(H:Hp)(Q:VK)(E:XK):Prop:=∃ (st l D Pp:Z) (vals:G B) (nv:G NVw) (ps:G V) (p:NVw),ay t H h st l D Pp vals nv ps/\nN nv/\aB x/\(∀ q∈nv,q.nm≠x)/\p∈nv/\p.nm=y/\aB y/\ES t H m (p.A.map λ a=>a.1) wv/\(∃ n,aW t.a_aa0 H p.ad n p.f p.A)/\iA p.A/\∀ H',Ext H H'->E (.ref t.a_Hh) Y H'
def pW(t:Adr)(wv:Bd):Sp:=λ vs H Q E=>∃ (h:Z) (x:Ã) (y:Ã) (m:Z),vs=[.ref h,.str x,.str y,.ref m]/\(zW t wv h x y m H Q E)
theorem qN(T:Tx K mg t)(wv:Bd):au P w K mg base (CX1 P  w) 9 t.a_DM t.d_DM %[|104] (pW t wv):=by
 let a3:∀ i,i<1->MD P w K mg base (CX1 P  w) 8 "on" ((λ _=>bdK t wv) i) ((λ _=>Am t wv) i):=λ _ _=>S4 T wv;intros vK aR DO bA;let G_DL:%[1,DL|49] %[|106] (λ _ _ _ _=>False):=o8;refine(Fun.x T.F_DM).ok cM (λ _ _ _ _ h=>EL h λ _ _ _ _=>J) (λ cdv A' outer s H vs Q E hr h=>?_)
 ·let(h,x,y,m,rfl,st,l,D,Pp,vals,nv,ps,p,ha,a5,hn,a6,hp,a7,a8,hb,(n,vo),a4,k):=h;let c1:=T.qA0;let f1:=aL st D Pp (m := "refuse_new") nofun;let f2:=bc st D Pp (m := "view") nofun;let f3:=aL st D Pp (m := "call") nofun;let(a9,h1):=ha.ob;let((dx,hm),_):=hb.op;refine{_,%[%[%[%[0|0],qA0,qA2,vK,av,%[1|1]|60]|16],%[%[%[%[0|0],qA0,qA9,DL,av,%[1,%[%[3,a3,(hr.mono ⋯),aK,%[%[%[0|0],qA0,qA6,DO,av,%[2|1]|60]|1]|76]|1]|1]|60]|16]|10]|9],?_};rw[%[%[|104],[.ref h,.str x,.str y,.ref m],0|53]];clear G_vK G_DO G_DL a3;exists k;exists ha;exists hb;exists a4;ac_rfl;rw[gZ];refine{st,l,D,Pp,vals,nv,ps,ha (),hn,a6,λ H1 e1=>?_};let g1:=e1.at h1;let g2:=e1.at hm;clear h1 hm;ac_rfl;refine{m,0,dx,_,J,by decide,g2,Bc wv nofun,?_};ac_rfl;rw[gz];refine{st,l,D,Pp,vals,nv,ps,p,(ha ()).ext e1,a5,hp,a7,a8,λ H2 e2=>?_};clear g1 g2;ac_rfl;rw[MG];exact{n,p.f,p.A,(hb ()).ext (e1.trans e2),vo.ext (e1.trans e2),a4 (),λ H' e=>k () H' (e1.trans (e2.trans e))}
abbrev zQ(t:Adr)(h:Z)(x:Ã)(y:V)(m:Z)(H:Hp)(Q:VK)(E:XK):Prop:=∃ (st l D Pp:Z) (vals:G B) (nv:G NVw) (ps:G V) (dx:Z) (n:à),ay t H h st l D Pp vals nv ps/\aB x/\(∀ p∈nv,p.nm≠x)/\iE H nv y/\H m=U (.ins t.a_aa3 dx (wt n 0))/\∀ dx H',Ext H H'->H' dx=U (.xd [("name",y)])->E (.ref t.a_L8) (U dx) H'
def pQ(t:Adr):Sp:=λ vs H Q E=>∃ (h:Z) (x:Ã) (y:V) (m:Z),vs=[.ref h,.str x,y,.ref m]/\(zQ t h x y m H Q E)
theorem qE(T:Tx K mg t):au P w K mg base (CX1 P  w) 11 t.a_DM t.d_DM %[|104] (pQ t):=by
 let a3:∀ i,i<1->MD P w K mg base CX0 9 "on" ((λ _=>mvK t (.pick 0 0)) i) ((λ _=>uk t (.pick 0 0)) i):=λ _ _=>Kd T _;intros vK aR DO dG;let G_DL:%[1,DL|49] %[|106] (λ _ _ _ _=>False):=o8;refine(Fun.x T.F_DM).ok cM (λ _ _ _ _ h=>EL h λ _ _ _ _=>J) (λ cdv A' outer s H vs Q E hr h=>?_)
 ·let(h,x,y,m,rfl,st,l,D,Pp,vals,nv,ps,dx,n,ha,hn,a4,hy,hm,k):=h;let c1:=T.qA0;let f1:=aL st D Pp (m := "refuse_new") nofun;let f2:=bc st D Pp (m := "view") nofun;let f3:=aL st D Pp (m := "call") nofun;let(a5,h1):=ha.ob;refine{_,%[%[%[%[0|0],qA0,qA2,vK,av,%[1|1]|60]|16],%[%[%[%[0|0],qA0,qA9,DL,av,%[1,%[%[3,a3,(hr.mono ⋯),av,%[%[%[0|0],qA0,qA6,DO,aK,%[2|1]|60]|1]|76]|1]|1]|60]|16]|10]|9],?_};rw[%[%[|104],[.ref h,.str x,y,.ref m],0|53]];clear G_vK G_DO G_DL a3;exists k;exists ha;ac_rfl;rw[gZ];refine{st,l,D,Pp,vals,nv,ps,ha (),hn,a4,λ H1 e1=>?_};let g1:=e1.at h1;let g2:=e1.at hm;clear h1 hm;ac_rfl;refine{m,0,dx,_,J,by decide,g2,oo n 0 nofun,?_};ac_rfl;rw[kn];exact{st,l,D,Pp,vals,nv,ps,(ha ()).ext e1,hy.ext e1,λ dx H' e q=>k () dx H' (e1.trans e) q}
theorem au.wk{f:Z}{sp:Sp}(F:au P w K mg base (CX1 P  w) k f fd ps sp):au P w K mg base (CX1 P  w) k f fd ps (λ vs H Q E=>∃ Q0 E0,sp vs H Q0 E0/\(∀ v H',Q0 v H'->Q v H')/\∀ cls d H',E0 cls d H'->E cls d H'):=by
 refine{λ vs H Q E ⟨_,_,h,_⟩=>F.len _ _ _ _ h,λ A outer s H args us vs Q E hr hc he hb hv ⟨Q0,E0,h,hq,hx⟩=>?_};refine We (F.run A outer s H args us vs Q0 E0 hr hc he hb hv h) λ rr s' q=>?_
 cases rr with
 | error ev=>
  let(e,T,cls,d,H',a1,a2,a3,a4,a5,a6,a7,a8,a9,b8,cc,cg):=q;exact{e,T,cls,d,H',a1,a2,a3,a4,a5,a6,a7,a8,a9,b8,cc,hx _ _ _ cg}
 | ok fl=>
  cases fl with
  | ret u=>
   let(v,H',b1,b2,b3,b4,b5,b6):=q;exact{v,H',b1,b2,b3,b4,b5,hq _ _ b6}
  | next=>exact q
  | brk=>exact q
  | cont=>exact q
theorem au.ex{f:Z}{sp:α->Sp}(F:∀ a,au P w K mg base CX k f fd ps (sp a)):au P w K mg base CX k f fd ps (λ vs H Q E=>∃ a,sp a vs H Q E):=
 ⟨λ vs H Q E ⟨a,h⟩=>(F a).len _ _ _ _ h,λ A outer s H args us vs Q E hr hc he hb hv ⟨a,h⟩=>(F a).run A outer s H args us vs Q E hr hc he hb hv h⟩
abbrev EI(t:Adr)(h:Z)(x:Ã)(H:Hp)(Q:VK)(E:XK):Prop:=∃ (st l D Pp:Z) (vals:G B) (nv:G NVw) (ps:G V) (p:NVw),ay t H h st l D Pp vals nv ps/\nN nv/\p∈nv/\p.nm=x/\aB x/\∀ H',(∀ H0,Ext H0 H->H0 D=Y->Ext H0 H')->(∀ b o,b≠D->H b=U o->H' b=U o)->H' D=U (.dK (lW (nvD nv) (.inr x)))->Q .non H'
def uU(t:Adr):Sp:=λ vs H Q E=>∃ (h:Z) (x:Ã),vs=[.ref h,.str x]/\(EI t h x H Q E)
theorem tP(T:Tx K mg t):%[4,DN|49] %[|102] (uU t):=by
 intros DO bA;refine %[DN,m9,2|70]
 ·let(h,x,rfl,st,l,D,Pp,vals,nv,ps,p,ha,a3,hp,a4,hn,k):=h;let c1:=T.qA0;let c2:=T.qA3;let f1:=aS st D Pp;let f3:=bc st D Pp (m := "view") nofun;let(dx,h1):=ha.ob;refine{_,%[%[%[%[0|0],qA0,qA6,DO,av,%[1|1]|60]|16],%[%[%[PySem.F.plainAttrs_dict,XN,PySem.F.type_dict_pop,BA,%[0|15],%[1|1]|41]|16]|10]|9],?_};rw[%[%[|102],[.ref h,.str x],0|53]];clear G_DO;exists k;exists ha;ac_rfl;rw[gz];refine{st,l,D,Pp,vals,nv,ps,p,ha (),a3,hp,a4,hn,λ H1 e1=>?_};let a5:=e1.at h1;let hD:=e1.at (ha ()).dk;clear h1;ac_rfl;refine{.inr (.inr (.inl {J,.inl {_,hD}})),Fh hD (k:=.inr x) (by rw[←a4];exact u5 a3 hp) ?_};let k2:=k () (upd H1 D (.dK (lW (nvD nv) (.inr x)))) (λ H0 q0 q1=>(q0.trans e1).put q1) (λ b o hb q=>(ah hb).trans (e1.at q)) ag;ac_rfl
def xcl(t:Adr):à->Z
 | 0=>t.a_L8
 | 1=>t.a_Ma
 | 2=>t.a_Hg
 | 3=>t.a_Hh
 | 4=>t.a_G6
 | _=>t.a_G5
def xwd:à->Ã
 | 0 => "name"
 | 1 => "known"
 | 2 => "view"
 | 3 => "move"
 | 4 => "many"
 | _ => "cells"
def xvl:à->V->V
 | 0,v=>v
 | 1,v=>v
 | 4,v=>v
 | _,_=>.non
def Ju(H:Hp):à->Ü Z->V->Prop
 | 0,d,v=>∃ dx,d=U dx/\H dx=U (.xd [("name",v)])
 | 1,d,v=>∃ dx,d=U dx/\H dx=U (.xd [("name",v)])
 | 4,d,v=>∃ dx,d=U dx/\H dx=U (.xd [("number",v)])
 | _,d,_=>d=Y
theorem Ju.ext{d:Ü Z}{v:V}(h:Ju H j d v)(e:Ext H H'):Ju H' j d v:=by
 match j with
 | 0=>let(dx,h1,h2):=h;exact{dx,h1,e.at h2}
 | 1=>let(dx,h1,h2):=h;exact{dx,h1,e.at h2}
 | 4=>let(dx,h1,h2):=h;exact{dx,h1,e.at h2}
 | 2=>exact h
 | 3=>exact h
 | _+5=>exact h
theorem Ju.dO{d:Ü Z}{v:V}(h:Ju H j d v):uw H d:=by
 match j with
 | 0=>let(dx,rfl,h2):=h;rw[gO,h2];trivial
 | 1=>let(dx,rfl,h2):=h;rw[gO,h2];trivial
 | 4=>let(dx,rfl,h2):=h;rw[gO,h2];trivial
 | 2=>rw[show d=Y from h];trivial
 | 3=>rw[show d=Y from h];trivial
 | _+5=>rw[show d=Y from h];trivial
def RaQ(t:Adr)(H:Hp)(E:XK)(j:à)(v:V):Prop:=j<5/\∀ (d:Ü Z) (H':Hp),Ext H H'->Ju H' j d v->E (.ref (xcl t j)) d H'
def cl6(t:Adr):G Z:=[t.a_L8,t.a_Ma,t.a_Hg,t.a_Hh,t.a_G6,t.a_G5]
theorem N9(T:Tx K mg t){c:Z}(h:c∈cl6 t):Af K c/\Ú K (.ref c)=U (.type "type"):=by
 let q:=Wc.mp T.xh c h;simp only[V6,Wk] at q;let((((((h1,h2),h3),h4),h5),h6),h7):=q;exact{⟨h3,h4,h5,h6,h7,T.ocs,T.oct,h1⟩,h2}
theorem UD(T:Tx K mg t){a c:Z}(ha:a∈cl6 t)(hc:c∈cl6 t):Ö K (.ref a) (.ref c)=U (a == c):=by
 let q:=Wc.mp (Wc.mp T.xs a ha) c hc;rw[Wk] at q;let(h1,h2):=N9 T hc
 cases e:(a == c) with
 | true=>rw[e] at q;exact Mf h1.hd h2 q
 | false=>rw[e] at q;exact Qo e h1.hd h2 q
theorem xp6(T:Tx K mg t){a:Z}(ha:a∈cl6 t):Ö K (.ref a) (.type "ValueError")=U L/\Ù K (.ref a) (.ref t.a_GP)=U L:=by
 let q:=Wc.mp T.xp a ha;simp only[V6,Wk] at q;exact{Qn nofun q.1,q.2}
def wu(t:Adr):∀ j,j<6->(cl6 t)[j]? = U (xcl t j)
 | 0,_=>rfl
 | 1,_=>rfl
 | 2,_=>rfl
 | 3,_=>rfl
 | 4,_=>rfl
 | 5,_=>rfl
 | n+6,h=>Þ h %[|8]
theorem M4(T:Tx K mg t)(hi:i<6)(hj:j<6):Ö K (.ref (xcl t j)) (.ref (xcl t i))=U (decide (j=i)):=by
 let hx:=wu t i hi;let hy:=wu t j hj;rw[UD T (Vx hy) (Vx hx)];congr 1;rw[WW,Wk,decide_eq_true_iff];constructor
 ·intro e;let nd:(cl6 t).Nodup:=WZ T.xn;let(h1,e1):=U1.mp hx;let(h2,e2):=U1.mp hy
  rcases Nat.lt_trichotomy i j with z|z|z
  ·exact Þ (e1.trans (e.symm.trans e2.symm)) (List.pairwise_iff_getElem.mp nd i j h1 h2 z)
  ·exact z.symm
  ·exact Þ (e2.trans (e.trans e1.symm)) (List.pairwise_iff_getElem.mp nd j i h2 h1 z)
 ·intro e;rw[e]
def j5{p:à->Prop}(h0:p 0)(h1:p 1)(h2:p 2)(h3:p 3)(h4:p 4):∀ j,j<5->p j
 | 0,_=>h0
 | 1,_=>h1
 | 2,_=>h2
 | 3,_=>h3
 | 4,_=>h4
 | n+5,h=>Þ h %[|8]
def flg(j:à):G Ý:=[decide (j=0),decide (j=1),decide (j=2),decide (j=3),decide (j=4)]
def Kb(t:Adr):Sp:=λ vs H Q E=>∃ Q0 E0,((pY t vs H Q0 E0\/pZ t vs H Q0 E0)\/lI t vs H Q0 E0\/pf t vs H Q0 E0)/\(∀ v H',Q0 v H'->Q v H')/\∀ cls d H',E0 cls d H'->E cls d H'
def J9(t:Adr):Sp:=λ vs H Q E=>∃ Q0 E0,((pR t vs H Q0 E0\/pS t vs H Q0 E0)\/pQ t vs H Q0 E0\/(∃ wv,pW t wv vs H Q0 E0)\/(∃ M,pV t M vs H Q0 E0)\/∃ M,pU t M vs H Q0 E0)/\(∀ v H',Q0 v H'->Q v H')/\∀ cls d H',E0 cls d H'->E cls d H'
def Ka(t:Adr):Sp:=λ vs H Q E=>∃ Q0 E0,(pX t vs H Q0 E0\/uU t vs H Q0 E0)/\(∀ v H',Q0 v H'->Q v H')/\∀ cls d H',E0 cls d H'->E cls d H'
def J7(t:Adr):Sp:=λ vs H Q E=>∃ Q0 E0,(lH t vs H Q0 E0\/pd t vs H Q0 E0)/\(∀ v H',Q0 v H'->Q v H')/\∀ cls d H',E0 cls d H'->E cls d H'
def J8(t:Adr):Sp:=λ vs H Q E=>∃ Q0 E0,(pO t vs H Q0 E0\/pe t vs H Q0 E0)/\(∀ v H',Q0 v H'->Q v H')/\∀ cls d H',E0 cls d H'->E cls d H'
theorem qS(T:Tx K mg t):au P w K mg base (CX1 P  w) 4 t.a_DL t.d_DL %[|106] (Kb t):=
 au.wk (au.both (au.both (qI T) (qK T) λ _ _ _ _ h=>h) (au.both (jH T) (au.up (gM T)) λ _ _ _ _ h=>h) λ _ _ _ _ h=>h)
theorem qQ(T:Tx K mg t):au P w K mg base (CX1 P  w) 11 t.a_DM t.d_DM %[|104] (J9 t):=
 au.wk (au.both (au.both ((qG T).mono ⋯) ((qJ T).mono ⋯) λ _ _ _ _ h=>h) (au.both (qE T) (au.both (au.ex λ wv=>(qN T wv).mono ⋯) (au.both (au.ex λ M=>au.up (qM T M)) (au.ex λ M=>qL T M) λ _ _ _ _ h=>h) λ _ _ _ _ h=>h) λ _ _ _ _ h=>h) λ _ _ _ _ h=>h)
theorem qR(T:Tx K mg t):au P w K mg base (CX1 P  w) 4 t.a_DN t.d_DN %[|102] (Ka t):=
 au.wk (au.both (qH T) (au.up (tP T)) λ _ _ _ _ h=>h)
theorem qO(T:Tx K mg t):au P w K mg base (CX1 P  w) 3 t.a_DO t.d_DO %[|102] (J7 t):=
 au.wk (au.both (dG T) (au.up ((bA T).mono ⋯)) λ _ _ _ _ h=>h)
theorem qP(T:Tx K mg t):au P w K mg base (CX1 P  w) 6 t.a_DP t.d_DP %[|102] (J8 t):=
 au.wk (au.both (qF T) (au.up (kU T)) λ _ _ _ _ h=>h)
def QTo(Q:VK):VK:=λ v H=>∀ (r:Z) (H':Hp),Ext H H'->H' r=U (.tup [.str "told",v])->Q (.ref r) H'
def QTn(Q:VK):VK:=λ _ H=>∀ (r:Z) (H':Hp),Ext H H'->H' r=U (.tup [.str "told",.non])->Q (.ref r) H'
def EXo(t:Adr)(Q:VK):XK:=λ cls d H=>∃ (j:à) (v:V),j<5/\cls=.ref (xcl t j)/\Ju H j d v/\∀ (r:Z) (H':Hp),Ext H H'->H' r=U (.tup [.str (xwd j),xvl j v])->Q (.ref r) H'
def yk(t:Adr)(H:Hp)(Q:VK)(h:Z)(x y m:V):à->Prop
 | 0=>Kb t [.ref h,x,y] H (QTn Q) (EXo t Q)
 | 1=>J9 t [.ref h,x,y,m] H (QTn Q) (EXo t Q)
 | 2=>Ka t [.ref h,x] H (QTn Q) (EXo t Q)
 | 3=>J7 t [.ref h,x] H (QTo Q) (EXo t Q)
 | _=>J8 t [.ref h,x] H (QTo Q) (EXo t Q)
theorem iD{x y:B}{σ:St}{t u:TS}{D:gX}(a3:¬ x=y)(h:u D (%[x|47]::σ) H):MW (um (tOp (qEq Â) (tV 0) (tC (V.int y)))) t u D (%[x|47]::σ) H:=by
 rw[bw,BB,NK,IZ,NM,Tu,Ja,jJ,xl,Jb,VE a3,U7 ⋯];exact h
def Fd(T:Tx K mg t)(j:à)(hj:j<6):Ù K (.ref (xcl t j)) (.ref t.a_GP)=U L:=(xp6 T (Vx (wu t j hj))).2
def uY(t:Adr):Sp:=λ vs H Q E=>∃ (w:B) (h:Z) (x:V) (y:V) (m:V),vs=[.int w,.ref h,x,y,m]/\(∃ (i:à) (dx st D Pp:Z),w=(i:B)/\i<5/\H h=U (.ins t.a_aa1 dx (j2 st D Pp))/\yk t H Q h x y m i)
theorem bG(t:Adr)(w:B)(h:Z)(x:V)(y:V)(m:V)(H:Hp)(Q:VK)(E:XK):uY t [.int w,.ref h,x,y,m] H Q E=(∃ (i:à) (dx st D Pp:Z),w=(i:B)/\i<5/\H h=U (.ins t.a_aa1 dx (j2 st D Pp))/\yk t H Q h x y m i):=Ti (f:=λ (w:B) (h:Z) (x:V) (y:V) (m:V)=>[.int w,.ref h,x,y,m]) %[10,5|63] w h x y m
theorem fP(T:Tx K mg t):%[12,DH|49] %[|122] (uY t):=by
 intros DL qS DM qQ DN qR DO qO DP qP;refine T.F_DH.ok bC (λ _ _ _ _ h=>Ul h λ _ _ _ _ _=>J) (λ cdv A' outer s H vs Q E hr h=>?_)
 ·let(w,h,x,y,m,rfl,i,dx,st,D,Pp,hw,hi,hh,hk):=h;let c1:=T.qA0;refine{_,%[%[5,bC,(@aZ _ _ _)|4],%[%[6,bC,(@aH _ _ _ _)|4],%[(@AY _ _ _ _ _ _ _ ⟨rfl,J,J⟩ (λ EX E pn hx=>%[%[%[(aO hr.units),0,99,(ai _)|13],%[%[%[1,T.qA0,T.qA9,G_DL,(hr.mono ⋯),T.b_DL,hx,%[2,%[3|1]|1]|82]|16]|10],%[%[%[(aO hr.units),0,99,(ai _)|13],%[%[%[1,T.qA0,T.qCy,G_DM,(hr.mono ⋯),T.b_DM,hx,%[2,%[3,%[4|1]|1]|1]|82]|16]|10],%[%[%[(aO hr.units),0,99,(ai _)|13],%[%[%[1,T.qA0,T.qCz,G_DN,(hr.mono ⋯),T.b_DN,hx,%[2|1]|82]|16]|10],%[%[%[(aO hr.units),0,99,(ai _)|13],%[%[5,bC,%[1,T.qA0,T.qA6,G_DO,(hr.mono ⋯),T.b_DO,hx,%[2|1]|82]|4]|10],%[%[5,bC,%[1,T.qA0,T.qBe,G_DP,(hr.mono ⋯),T.b_DP,hx,%[2|1]|82]|4]|10]|14]|10]|14]|10]|14]|10]|14]|10]) (@OA _ _ _ (7) _ _ _ _ _ _ _ _ bC.nd J J ∅ (.inl T.m_GP) (λ ee H1=>%[%[8,bC,%[%[%[isinstance,(fb (K:=K) J),%[7,%[%[(.ref t.a_L8),_,_,T.m_L8,J|35]|1]|1]|6],%[%[isinstance,(fb (K:=K) J),%[7,%[%[(.ref t.a_Ma),_,_,T.m_Ma,J|35]|1]|1]|6],%[%[isinstance,(fb (K:=K) J),%[7,%[%[(.ref t.a_Hg),_,_,T.m_Hg,J|35]|1]|1]|6],%[%[isinstance,(fb (K:=K) J),%[7,%[%[(.ref t.a_Hh),_,_,T.m_Hh,J|35]|1]|1]|6]|1]|1]|1]|1]|23]|4],%[%[8,bC,%[dJ,8,%[%[%[isinstance,(fb (K:=K) J),%[7,%[%[(.ref t.a_G6),_,_,T.m_G6,J|35]|1]|1]|6]|1]|23]|11]|4],%[%[%[(gp (by exact(hr.hand _).units)),(@rE _ (K) _ _ _ _ _ _ _ _ _ _ _ J Vn PySem.F.slot_list_count PySem.F.type_list_count Gh %[8|0] %[(@fq _ _ _ _)|1] ∅ ∅ ∅ ∅ ∅),99,(ai _)|13],%[%[%[%[(@aH _ _ _ _),%[(@aZ _ _ _)|1]|1]|19]|12]|10],(@aj _)|14],%[%[%[o7,(@rE _ (K) _ _ _ _ _ _ _ _ _ _ _ J Vn WU WT lN %[8|0] %[(@fq _ _ _ _)|1] ∅ ∅ ∅ ∅ ∅),99,(ai _)|13],%[%[%[%[%[eA,%[%[(@aH _ _ _ _),%[(@aH _ _ _ _)|1]|1]|23],(@rE _ (K) _ _ _ _ _ _ _ _ _ _ _ J Vn WU WT lN %[8|0] %[(@fq _ _ _ _)|1] ∅ ∅ ∅ ∅ ∅)|17],%[(@w6 _ (K) J _ _ _ _ %[7|0] rfl)|1]|1]|19]|12]|10],(@aj _)|14],%[%[%[(aO (by exact(hr.hand _).units)),(@rE _ (K) _ _ _ _ _ _ _ _ _ _ _ J Vn WU WT lN %[8|0] %[(@fq _ _ _ _)|1] ∅ ∅ ∅ ∅ ∅),99,(ai _)|13],%[%[%[%[(@aH _ _ _ _),%[(@w6 _ (K) J _ _ _ _ %[7|0] rfl)|1]|1]|19]|12]|10],(@aj _)|14],%[%[%[%[%[eA,%[%[(@aH _ _ _ _),%[(@aH _ _ _ _)|1]|1]|23],%[dB,(@rE _ (K) _ _ _ _ _ _ _ _ _ _ _ J Vn WU WT lN %[8|0] %[(@fq _ _ _ _)|1] ∅ ∅ ∅ ∅ ∅),99|11]|17],%[(@aZ _ _ _)|1]|1]|19]|12]|10]|9]|9]|9]|9]|9]) (@KG _) ⋯)),%[%[%[%[6,%[5|1]|1]|19]|12]|10]|9]|9]|9],?_};rw[%[["_law_which", "_law_hall", "_law_name_here", "_law_thing", "_law_move_here", "_law_found", "_law_word", "e", "_law_some"],[.int w,.ref h,x,y,m],4|53]];clear G_DL G_DM G_DN G_DO G_DP;simp! only[-A5];rw[A5];generalize hEX:Rx _ _=EX
  let hand:∀ cls d H1,EXo t Q cls d H1->EX [%[w|47],%[h|45],U x,U y,U m,U .non,U (.str "told"),Y,Y] cls d H1:=by
   clear hk hh;rintro cls d H0 ⟨j,v,hj,rfl,a3,k⟩;rw[←hEX];clear hEX;let cc:=Fd T j %[|8];let hm:=Vx (wu t j %[|8]);let ec:=(N9 T hm).1;let k0:Ö K (.ref (xcl t j)) (.ref t.a_L8)=_:=M4 T (i:=0) ⋯ %[|8];let k1:Ö K (.ref (xcl t j)) (.ref t.a_Ma)=_:=M4 T (i:=1) ⋯ %[|8];let k2:Ö K (.ref (xcl t j)) (.ref t.a_Hg)=_:=M4 T (i:=2) ⋯ %[|8];let k3:Ö K (.ref (xcl t j)) (.ref t.a_Hh)=_:=M4 T (i:=3) ⋯ %[|8];let k4:Ö K (.ref (xcl t j)) (.ref t.a_G6)=_:=M4 T (i:=4) ⋯ %[|8];let f1:(flg j).count L=1:=j5 (p:=λ j=>(flg j).count L=1) J J J J J j hj;let f2:L∈flg j:=j5 (p:=λ j=>L∈flg j) ⋯ ⋯ ⋯ ⋯ ⋯ j hj;let f3:(flg j).idxOf L=j:=j5 (p:=λ j=>(flg j).idxOf L=j) J J J J J j hj;exists k;exists a3;clear hm hw hi;ac_rfl;intro e oe he b1 a4 b2;let a7:∃ vs,oe.data=.fields vs:=let {vs,a,_}:=b2;⟨vs,a⟩;let a8:Ext H0 (upd H0 e (rA oe)):=Ext.new he;let g1:(upd H0 e (rA oe)) e=U (rA oe):=ag;generalize upd H0 e (rA oe)=H1 at a8 g1;subst a4;let x1:=(a3 ()).ext a8;let d1:uw H1 oe.dict:=x1.dO;exists x1;clear he b2;ac_rfl;intro l1 H2 _ e2 h2;let g2:=e2.at g1;let d2:uw H2 oe.dict:=((x1 ()).ext e2).dO;clear g1 d1;ac_rfl;intro l2 H3 _ e3 h3;let g3:=e3.at g2;let b3:=e3.at h2;clear g2 h2 d2;ac_rfl;intro l3 H4 _ e4 h4;let g4:=e4.at g3;let b4:=e2.trans (e3.trans e4);let a9:=a8.trans b4;let a5:H4 l3=U (.lst ((flg j).map V.bl)):=h4;clear h4 g3 b3 h3 k0 k1 k2 k3 k4;obtain⟨bs,hbs⟩:∃ bs,bs=flg j:={_,J};rw[←hbs] at f1 f2 f3 a5;clear hbs;let x4:=(x1 ()).ext b4
   by_cases hj2:j<2
   ·let b5:(j:B)<2:=by omega
    let nm:atI [V.str "name",V.str "known"] (j:B)=U (.str (xwd j)):=by
     obtain rfl|rfl:j=0\/j=1:=by omega
     ·rfl
     ·rfl
    let na:ba K (xcl t j) "name":=by
     obtain rfl|rfl:j=0\/j=1:=by omega
     ·exact T.qC4
     ·exact T.qCg
    obtain⟨dx,a4,a6⟩:∃ dx,oe.dict=U dx/\H4 dx=U (.xd [("name",v)]):=by
     obtain rfl|rfl:j=0\/j=1:=by omega
     ·exact x4
     ·exact x4
    let hv:xvl j v=v:=by
     obtain rfl|rfl:j=0\/j=1:=by omega
     ·rfl
     ·rfl
    clear x4 a3 x1;ac_rfl;intro l5 H5 _ e5 h5;let g5:=e5.at g4;let x5:=e5.at a6;let b6:=e5.at a5;clear a5 g4 a6;ac_rfl;refine{e,oe,_,dx,[("name",v)],v,J,g5,b1,a4,a7,x5,ec,na,J,?_};ac_rfl;intro r6 H6 _ e6 h6;exact k () r6 H6 (a9.trans (e5.trans e6)) (by rw[hv];exact h6)
   ·by_cases hj4:j=4
    ·subst hj4;let(dx,a4,a6):=x4;clear a3 x1;ac_rfl;refine{e,oe,t.a_G6,dx,[("number",v)],v,J,g4,b1,a4,a7,a6,ec,T.qBk,J,?_};ac_rfl;intro r6 H6 _ e6 h6;exact k () r6 H6 (a9.trans e6) h6
    ·let b5:¬ (j:B)<2:=by omega
     let b8:¬ (j:B)=4:=by omega
     let nm:atI [V.str "view",V.str "move"] ((j:B) - 2)=U (.str (xwd j))/\xvl j v=.non:=by
      obtain rfl|rfl:j=2\/j=3:=by omega
      ·exact{(J),J}
      ·exact{(J),J}
     let(nm,hv):=nm;clear x4 a3 x1;ac_rfl;intro l5 H5 _ e5 h5;let b6:=e5.at a5;clear a5 g4;ac_rfl;intro r6 H6 _ e6 h6;exact k () r6 H6 (a9.trans (e5.trans e6)) (by rw[hv];exact h6)
  clear hEX;exists hand;exists hk;obtain⟨rfl,rfl⟩|⟨rfl,rfl⟩|⟨rfl,rfl⟩|⟨rfl,rfl⟩|⟨rfl,rfl⟩:(w=0/\i=0)\/(w=1/\i=1)\/(w=2/\i=2)\/(w=3/\i=3)\/(w=4/\i=4):=by omega
  ·let f1:=aL st D Pp (m := "call") nofun;let(Q0,E0,q1,q2,q3):=(show Kb t [.ref h,x,y] H (QTn Q) (EXo t Q) from hk ());clear hw hi;ac_rfl;refine{Q0,E0,q1,λ v H2 q=>?_,λ cls d H' q=>hand () cls d H' (q3 cls d H' q)};let k2:=q2 v H2 q;clear q1 q2 q3 q hand;ac_rfl;intro r H3 _ e3 h3;exact k2 r H3 e3 h3
  ·let f1:=bc st D Pp (m := "make") nofun;let(Q0,E0,q1,q2,q3):=(show J9 t [.ref h,x,y,m] H (QTn Q) (EXo t Q) from hk ());clear hw hi;refine iD ⋯ ?_;ac_rfl;refine{Q0,E0,q1,λ v H2 q=>?_,λ cls d H' q=>hand () cls d H' (q3 cls d H' q)};let k2:=q2 v H2 q;clear q1 q2 q3 q hand;ac_rfl;intro r H3 _ e3 h3;exact k2 r H3 e3 h3
  ·let f1:=bc st D Pp (m := "drop") nofun;let(Q0,E0,q1,q2,q3):=(show Ka t [.ref h,x] H (QTn Q) (EXo t Q) from hk ());clear hw hi;refine iD ⋯ (iD ⋯ ?_);ac_rfl;refine{Q0,E0,q1,λ v H2 q=>?_,λ cls d H' q=>hand () cls d H' (q3 cls d H' q)};let k2:=q2 v H2 q;clear q1 q2 q3 q hand;ac_rfl;intro r H3 _ e3 h3;exact k2 r H3 e3 h3
  ·let f1:=bc st D Pp (m := "view") nofun;let(Q0,E0,q1,q2,q3):=(show J7 t [.ref h,x] H (QTo Q) (EXo t Q) from hk ());clear hw hi;refine iD ⋯ (iD ⋯ (iD ⋯ ?_));ac_rfl;refine{Q0,E0,q1,λ v H2 q=>?_,λ cls d H' q=>hand () cls d H' (q3 cls d H' q)};let k2:=q2 v H2 q;clear q1 q2 q3 q hand;ac_rfl;intro r H3 _ e3 h3;exact k2 r H3 e3 h3
  ·let f1:=bc st D Pp (m := "seen") nofun;let(Q0,E0,q1,q2,q3):=(show J8 t [.ref h,x] H (QTo Q) (EXo t Q) from hk ());clear hw hi;refine iD ⋯ (iD ⋯ (iD ⋯ (iD ⋯ ?_)));ac_rfl;refine{Q0,E0,q1,λ v H2 q=>?_,λ cls d H' q=>hand () cls d H' (q3 cls d H' q)};let k2:=q2 v H2 q;clear q1 q2 q3 q hand;ac_rfl;intro r H3 _ e3 h3;exact k2 r H3 e3 h3
structure SRw where
 nv:NVw
 r:Z
 q:Z
def ji(t:Adr)(C:Hp)(n:à)(w:SRw):Prop:=C w.r=U (.tup [.str w.nv.nm,.ref w.q])/\rn C w.q n w.nv.f w.nv.A/\fm n w.nv.f w.nv.A/\aB w.nv.nm/\aW t.a_aa0 C w.nv.ad n w.nv.f w.nv.A
def ji.ext{C C':Hp}{n:à}{w:SRw}(h:ji t C n w)(e:Ext C C'):ji t C' n w:={e.at h.1,h.2.1.ext e,h.2.2.1,h.2.2.2.1,h.2.2.2.2.ext e}
structure StI(t:Adr)(H:Hp)(h st l D Pp S:Z)(vals:G B)(ws:G SRw):Prop where
 ob:∃ dx,cj [D,S] H h=U (.ins t.a_aa1 dx (j2 st D Pp))
 so:cu t.a_Mb (cj [D,S] H) st l vals
 pa:cj [D,S] H Pp=U (.lst [])
 hD:H D=U (.dK (nvD (ws.map SRw.nv)))
 hS:H S=U (.lst (ws.map λ w=>V.ref w.r))
 ro:∀ w∈ws,ji t (cj [D,S] H) vals.length w
 nd:nN (ws.map SRw.nv)
 v1:1<=vals.length/\vals.length<=60
theorem StI.move{S:Z}{ws:G SRw}(d:StI t H h st l D Pp S vals ws)(e:Ext H H'):StI t H' h st l D Pp S vals ws:=by
 let c:=cq (S:=[D,S]) e;let(dx,o):=d.ob;exact{⟨dx,c.at o⟩,d.so.ext c,c.at d.pa,e.at d.hD,e.at d.hS,λ w hw=>(d.ro w hw).ext c,d.nd,d.v1}
theorem StI.hall{S:Z}{ws:G SRw}(d:StI t H h st l D Pp S vals ws):ay t H h st l D Pp vals (ws.map SRw.nv) []:=by
 let c:=az [D,S] H;let(dx,o):=d.ob;exact{⟨dx,c.at o⟩,d.so.ext c,d.hD,c.at d.pa}
theorem StI.lst{S:Z}{ws:G SRw}(d:StI t H h st l D Pp S vals ws):ug [D,S] H:=λ s hs=>by
 rcases Vp.mp hs with rfl|hs
 ·exact .inr {_,d.hD}
 ·rw[Vh.mp hs];exact .inl {_,d.hS}
theorem StI.ne{S:Z}{ws:G SRw}(d:StI t H h st l D Pp S vals ws):D≠S:=λ e=>by
 have:=d.hD;rw[e,d.hS] at this;cases this
def iu(ws:G SRw):G (Ã × Z):=ws.map λ w=>(w.nv.nm,w.q)
theorem StI.rw'{S:Z}{ws:G SRw}(d:StI t H h st l D Pp S vals ws):yb H (iu ws) (ws.map λ w=>V.ref w.r):=by
 refine{by unfold iu;rw[length_map,length_map],λ i p y hp hy=>?_};unfold iu at hp;rw[getElem?_map] at hp hy;let(w,hw,rfl):=Option.map_eq_some_iff.mp hp;rw[hw] at hy;cases hy;exact{w.r,J,(az _ _).at (d.ro w (mem_of_getElem? hw)).1}
theorem wX(ws:G SRw):(iu ws).map Prod.fst=(ws.map SRw.nv).map NVw.nm:=by
 unfold iu;rw[map_map,map_map];rfl
theorem u7{ws:G SRw}(h:rz s (iu ws)=Â):∀ p∈ws.map SRw.nv,p.nm≠s:=λ p hp e=>by
 let q:=of_decide_eq_false h;rw[wX] at q;exact q (by rw[←e];exact U8.mpr {(p),hp,J})
theorem qf{ws:G SRw}(h:rz s (iu ws)=L):∃ w∈ws,w.nv.nm=s:=by
 let q:=WZ h;rw[wX] at q;let(p,hp,e):=U8.mp q;let(w,hw,rfl):=U8.mp hp;exact{(w),hw,e}
theorem mn{b:Z}(hb:b ∉ S)(h:H b=U o):cj S H b=U o:=by
 unfold cj;rw[if_neg hb];exact h
theorem BQ{b:Z}(h:cj S H b=U o):b ∉ S:=λ hb=>by rw[mm hb] at h;cases h
theorem fv{S:Z}(k:∀ b o,b≠D->b≠S->H b=U o->H' b=U o):Ext (cj [D,S] H) (cj [D,S] H'):=nM.ext λ b o hb=>by
 let n:=BQ hb;simp only[Vp,VD,Wa,X0] at n;refine mn (by simp only[Vp,VD,Wa,X0];exact n) (k b o n.1 n.2 ((az _ _).at hb))
theorem StI.add{S:Z}{ws:G SRw}(d:StI t H h st l D Pp S vals ws){w:SRw}(k:∀ b o,b≠D->b≠S->H b=U o->H' b=U o)(hD:H' D=U (.dK (nvD (ws.map SRw.nv++[w.nv]))))(hS:H' S=U (.lst ((ws.map λ w=>V.ref w.r)++[.ref w.r])))(hw:ji t (cj [D,S] H') vals.length w)(hn:∀ p∈ws.map SRw.nv,p.nm≠w.nv.nm):StI t H' h st l D Pp S vals (ws++[w]):=by
 let c:=fv k;let(dx,o):=d.ob;refine{⟨dx,c.at o⟩,d.so.ext c,c.at d.pa,by rw[Vw];exact hD,by rw[Vw];exact hS,λ u hu=>?_,?_,d.v1}
 ·rcases VI.mp hu with hu|hu
  ·exact(d.ro u hu).ext c
  ·rw[Vh.mp hu];exact hw
 ·unfold nN;rw[map_append,map_append,List.nodup_append];refine{d.nd,by simp,λ a ha b hb e=>?_};let(p,hp,rfl):=List.mem_map.mp ha;simp only[map_cons,map_nil,List.mem_singleton] at hb;exact hn p hp (e.trans hb)
theorem StI.hallP{S:Z}{ws:G SRw}(d:StI t H h st l D Pp S vals ws)(c:Ext (cj [D,S] H) (cj [D,S] H')){nv:G NVw}(hD:H' D=U (.dK (nvD nv))):ay t H' h st l D Pp vals nv []:=by
 let cs:=az [D,S] H';let(dx,o):=d.ob;exact{⟨dx,cs.at (c.at o)⟩,(d.so.ext c).ext cs,hD,cs.at (c.at d.pa)}
structure QY(n f:B)(A:%[|48]):Prop where
 ax:iA A
 kp:A.map bE=A
 lo:0<=f+aF A
 hi:f+aG A<n
 l4:A.length<=4
 n1:1<=n/\n<=63
 pt:aw (A.map λ a=>a.1)<=4096->fm n f A
theorem fm.pq{f:B}{A:%[|48]}(h:fm n f A)(n1:1<=n/\n<=63):QY n f A:={h.ax,h.kp,h.lo,h.hi,by have:=h.len;omega,n1,λ _=>h}
theorem fm.pqc{f m:B}{A:%[|48]}(h:fm n f A)(n1:1<=n/\n<=63)(m1:4097<=m)(m2:m<=1004097):QY n f ((m,0)::A):=by
 let kp:bE (m,0)=(m,0):=by show (m,if m > 1 then (0:B) else 0)=_;rw[ite_self]
 let em:(m - 1) * 0=0:=XR _;let z1:=h.lo;let z2:=h.hi;refine⟨⟨by have:=h.len;rw[Vo];omega,λ a ha=>?_⟩,by rw[Vs,kp,h.kp],by rw[aC];show 0<=f+(min 0 ((m - 1) * 0)+_);rw[em];omega,by rw[aD];show f+(max 0 ((m - 1) * 0)+_)<n;rw[em];omega,by have:=h.len;rw[Vo];omega,n1,λ hp=>?_⟩
 ·rcases Vp.mp ha with rfl|ha
  ·show 1<=m/\m<=1000000000;omega
  ·exact h.ax.2 a ha
 ·have:=p0 (m:=m) (((m,(0:B))::A).map λ a=>a.1) (λ x hx=>by
   let(b,hb,rfl):=U8.mp hx
   rcases Vp.mp hb with rfl|hb
   ·show 1<=m;omega
   ·exact(h.ax.2 b hb).1) (by simp)
  omega
abbrev sZ(t:Adr)(K:PySem.W.Frag)(a:Z)(ns:G B)(k:B)(h:Z)(S:Z)(room:B)(H:Hp)(Q:VK)(E:XK):Prop:=SqL K H a (ns.map V.int)/\ns.length<=63/\0<=k/\k<900/\∃ (st l D Pp:Z) (vals:G B) (ws:G SRw),StI t H h st l D Pp S vals ws/\room=vals.length/\ws.length<=90/\∀ (H':Hp) (ws':G SRw),StI t H' h st l D Pp S vals ws'->ws'.length<=ws.length+1->(∀ zo,Ext zo H->zo D=Y->zo S=Y->Ext zo H')->Q (.bl L) H'
def uQ(t:Adr)(K:Å)(a:Z)(ns:G B):Sp:=λ vs H Q E=>∃ (k:B) (h:Z) (S:Z) (room:B),vs=[.ref a,.int k,.ref h,.ref S,.int room]/\(sZ t K a ns k h S room H Q E)
theorem EA(t:Adr)(K:Å)(a:Z)(ns:G B)(k:B)(h:Z)(S:Z)(room:B)(H:Hp)(Q:VK)(E:XK):uQ t K a ns [.ref a,.int k,.ref h,.ref S,.int room] H Q E=(sZ t K a ns k h S room H Q E):=QJ (f:=λ (k:B) (h:Z) (S:Z) (room:B)=>[.ref a,.int k,.ref h,.ref S,.int room]) %[8,4|63] k h S room
theorem tN(T:Tx K mg t)(a:Z)(ns:G B):%[13,GN|49] %[|128] (uQ t K a ns):=by
 let G_DT:=%[dg|84] a ns;let G_GK:=%[gL|84] a ns;intros DE qx yU fg DG jF DH fP GJ tI;refine T.F_GN.ok bt (λ _ _ _ _ h=>EL h λ _ _ _ _=>J) (λ cdv A' outer s H vs Q E hr h=>?_)
 ·let(kk,h,S,room,rfl,hS,hl,k0,k9,st,l,D,Pp,vals,ws,si,rfl,hw,k):=h;refine{_,%[%[5,bt,%[GK,%[0,%[1|1]|1]|3]|4],%[%[6,bt,%[DT,%[0,%[%[aI,1,99|11],%[%[ma,99,99|11]|1]|1]|1]|3]|4],%[%[7,bt,%[DE,%[%[bY,6,99|11],%[4|1]|1]|3]|4],%[%[%[(aO hr.units),%[bP,6,99|11],99,(ai _)|13],%[%[7,bt,%[DE,%[%[bY,6,99|11],%[%[aI,%[aI,4,99|11],%[bP,%[bY,6,99|11],99|11]|11]|1]|1]|3]|4]|10],(@aj _)|14],%[%[(PW.pt %[%[(aO hr.units),%[bP,6,99|11],99,(ai _)|13],(@gr _ _ _ _ %[iI,%[len,aA,%[%[eA,7,99|17]|1]|6],99,(ai _)|13])|78]),%[%[7,bt,%[%[%[eA,7,99|17],%[%[eA,7,99|17],%[%[dJ,%[%[%[%[%[aI,99,%[bP,%[bY,6,99|11],%[ma,99,99|11]|11]|11],%[99|1]|1]|19]|1]|23],%[eA,7,99|17]|11]|1]|1]|1]|19]|4]|10],(@aj _)|14],%[%[8,bt,%[yU,%[5,%[3|1]|1]|3]|4],%[%[(PW.pt %[%[kJ,8,(@aZ _ _ _),(ai _)|13],(@gr _ _ _ _ %[(gp hr.units),%[eA,7,99|17],4,(ai _)|13])|78]),%[%[8,bt,%[%[(@aH _ _ _ _),%[(@aZ _ _ _)|1]|1]|19]|4]|10],(@aj _)|14],%[%[(PW.pt %[%[kJ,8,(@aZ _ _ _),(ai _)|13],(@gr _ _ _ _ %[iI,%[DG,%[7|1]|3],99,(ai _)|13])|78]),%[%[8,bt,%[%[(@aH _ _ _ _),%[%[DG,%[7|1]|3]|1]|1]|19]|4]|10],(@aj _)|14],%[%[%[kJ,8,(@aZ _ _ _),(ai _)|13],%[%[8,bt,%[%[(@aH _ _ _ _),%[(@aZ _ _ _)|1]|1]|19]|4],%[%[%[Vn,VO,VN,cw,3,%[%[%[5,%[7|1]|1]|19]|1]|41]|16]|10]|9],(@aj _)|14],%[%[%[(aO hr.units),%[DH,%[99,%[2,%[5,%[%[GJ,%[7|1]|3],%[(@aZ _ _ _)|1]|1]|1]|1]|1]|3],8,(ai _)|29]|12]|10]|9]|9]|9]|9]|9]|9]|9]|9]|9],?_};rw[%[["_law_script", "_law_k", "_law_hall", "_law_state", "_law_room", "_law_name_here", "_law_cell", "_law_parts_here", "_law_due"],[.ref a,.int kk,.ref h,.ref S,.int (vals.length:B)],4|53]];clear G_DT G_GK G_DE G_yU G_DG G_DH G_GJ;exists k;exists si;let v1:=(si ()).v1;ac_rfl;rw[jy];refine{hS,hl,k0,by omega,λ x H1 e1 hx=>?_};let d4:=e1.2 K a _ hS;clear hS;ac_rfl;rw[dD];refine{d4,hl,{by omega,by omega},by decide,λ c c0 c1=>?_};ac_rfl;rw[sA];refine{by omega,by omega,by omega,λ q D1 f A H2 e2 nq nD h2 t2 pk=>?_};let c7:=((si ()).move e1).lst;let cH:=c7.ext e2;let fu:=e1.trans e2;let d5:=hx.ext e2;let p2:rn (cj [D,S] H2) q vals.length f A:={D1,ml c7 nq h2,cX c7 e2 nD t2};exists cH;let ec:=e2.2 K a _ d4;exists d5;exists p2;exists pk;clear hx d4 h2 t2 nq nD c7;simp! only[-bw];refine Jg (λ σ' H'=>∃ (q:Z) (n f:B) (A:%[|48]),σ'=[%[a|45],%[kk|47],%[h|45],%[S|45],U (.int (vals.length:B)),U x,%[c|47],%[q|45],Y]/\Ext H2 H'/\rn (cj [D,S] H') q n f A/\fm n f A/\1<=n/\n<=63) (λ fx a8=>?_) ?_
  ·exists a8
   by_cases h16:c % 16=1
   ·ac_rfl;rw[sA];refine{by omega,by omega,by omega,λ q' D' f' A2 H3 e3 nq nD h3 t3 fy=>?_};ac_rfl;exact a8 () _ H3 {q',_,f',A2,J,e3,{D',ml (cH ()) nq h3,cX (cH ()) e3 nD t3},fy,by omega,by omega}
   ·ac_rfl;exact a8 () _ H2 {q,_,f,A,J,Ext.refl _,p2 (),pk (),by omega,by omega}
  clear p2 pk;rintro _ H3 ⟨q,n,f,A,rfl,e3,p3,pk,n1,b3⟩;let ed:=e3.2 K a _ ec;clear ec;let c9:=(cH ()).ext e3;let d6:=p3;exists d6;exists c9;let(D3,h3,t3):=p3.ext (az _ _);clear p3;let(ys,d7,dc):=t3;let d8:ys.length=A.length:=by rw[dc.1];unfold axL;rw[length_map]
  let f3:=pk.len;exists pk;exists dc;simp! only[-bw];refine Jg (λ σ' H'=>∃ (q:Z) (A:%[|48]),σ'=[%[a|45],%[kk|47],%[h|45],%[S|45],U (.int (vals.length:B)),U x,%[c|47],%[q|45],Y]/\Ext H3 H'/\rn (cj [D,S] H') q n f A/\QY n f A) (λ fx a8=>?_) ?_
  ·exists a8;exists d8;let base:∃ (q':Z) (A':%[|48]),[U (V.ref a),%[kk|47],%[h|45],%[S|45],U (.int (vals.length:B)),U x,%[c|47],%[q|45],Y]=[U (V.ref a),%[kk|47],%[h|45],%[S|45],U (.int (vals.length:B)),U x,%[c|47],%[q'|45],Y]/\Ext H3 H3/\rn (cj [D,S] H3) q' n f A'/\QY n f A':={q,A,J,Ext.refl _,d6 (),(pk ()).pq {(n1),b3}};exists base
   by_cases h16:c % 16=2
   ·by_cases hz:0<ys.length
    ·let f5:(0:B)<(ys.length:B):=by omega
     let m1:(4097:B)<=4097+c / 16 % 1000000/\4097+c / 16 % 1000000<=1004097:=by omega
     ac_rfl;intro tz H4 _ e4 ee;let ef:=e4.at d7;let d0:=e4.at h3;clear d7 h3;ac_rfl;intro lz H5 _ e5 f6;let f7:=e5.at ef;let ej:=e5.at ee;let hc:=e5.at d0;clear ef d0 ee;ac_rfl;refine⟨ak (by have:=d8 ();omega),?_⟩;intro D2 H6 n6 e6 h6;let f9:=e6.at ej;clear ej f6 f7;ac_rfl;intro tq H7 n7 e7 h7;let el:=e4.trans (e5.trans (e6.trans e7));exact a8 () _ H7 {tq,(4097+c / 16 % 1000000,0)::A,J,el,{D2,ml ((c9 ()).ext (e4.trans (e5.trans e6))) n7 h7,cX ((c9 ()).ext (e4.trans e5)) (e6.trans e7) n6 {_,e7.at h6,xI ⟨tz,J,e7.at f9⟩ ((dc ()).imp λ _ _ t=>t.ext el)}},(pk ()).pqc {(n1),b3} m1.1 m1.2}
    ·let f5:¬ (0:B)<(ys.length:B):=by omega
     ac_rfl;exact a8 () _ H3 (base ())
   ·ac_rfl;exact a8 () _ H3 (base ())
  clear d7 h3 dc pk d8 ys D3 d6 c9 cH;rintro _ H4 ⟨q,A,rfl,e4,p4,pq⟩;let hk:=e4.2 K a _ ed;let en:=e3.trans e4;let cg:=fu.trans en;let x4:=(d5 ()).ext en;let s4:=(si ()).move cg;let(d,hd,ho):=x4.2;let de:=s4.rw';let b4:=s4.hS;let rl:(iu ws).length<=100:=by unfold iu;rw[length_map];omega
  let(cT,hh):=s4.ob;replace hh:=(az _ _).at hh;let ep:=p4;exists ep;let(D4,ck,t4):=p4.ext (az _ _);clear p4;exists t4;exists s4;exists de;exists pq;exists hd;exists x4;clear ed f3 si d5;let hp:PyData.strOk (Ô "name")=L:=nofun
  let hq:PyData.strOk (Ô "known")=L:=nofun
  ac_rfl;rw[sC]
  rcases (x4 ()).1 with ⟨z,rfl,hz⟩|hno
  ·cases cm:rz z (iu ws) with
   | true=>
    refine{iu ws,_,b4,de (),rl,.inr (.inl {z,J,hz,cm,λ r1 H5 e5 h5=>?_})};let a5:=e5.at hh;let a3:=e5.at ck;let(w0,gg,ew):=qf cm;exists cm;exists ew;clear hh ck b4;ac_rfl;rw[gy];refine{n,f,A,{D4,a3,(t4 ()).ext e5},(pq ()).ax,(pq ()).kp,(pq ()).lo,(pq ()).hi,(pq ()).l4,n1,b3,λ v H6 hv e6 vx=>?_};let a4:=e6.at a5;let cV:=e6.at h5;clear a5 a3 h5 vx;ac_rfl;rw[bG];refine{0,cT,st,D,Pp,J,by decide,a4,?_};refine{λ _ _=>False,EXo t _,.inl (.inr {h,z,.ref v,J,st,l,D,Pp,vals,ws.map SRw.nv,[],w0.nv,((s4 ()).move (e5.trans e6)).hall,(s4 ()).nd,U8.mpr {(w0),gg,J},ew (),hz,λ dx H7 e7 h7=>{1,.str z,by decide,J,{(dx),J,h7},λ r H8 e8 h8=>?_}}),λ _ _ h=>h.elim,λ _ _ _ h=>h};let a6:=e5.trans (e6.trans (e7.trans e8));let gk:=(e7.trans e8).at cV;let ey:=λ f=>hd () H8 f a6;let k2:=k () H8 ws ((s4 ()).move a6) %[|8] (λ zo g _ _=>g.trans (cg.trans a6));let gn:H8 r=U (.tup [.str "known",.str z]):=h8;let ht:=fU hz.asc;clear k a4 cV h8 ey;ac_rfl;rw[Vr,Vr];exact k2
   | false=>
    refine{iu ws,_,b4,de (),rl,.inr (.inr {z,J,hz,cm,λ H5 e5=>?_})};let hno:=u7 cm;exists hno;let a5:=e5.at hh;let a3:=e5.at ck;let dh:=e5.at b4;clear hh ck b4 cm;let hu:PyData.strOk (Ô "view")=L:=nofun
    let hy:PyData.strOk (Ô "many")=L:=nofun
    let hA:PyData.strOk (Ô "told")=L:=nofun
    let vw:∀ {H6 H7:Hp} {v:Z},(∀ S,ug S H6->aW t.a_aa0 (cj S H7) v n f A)->VwN t.a_aa0 H7 v n (aw (A.map λ a=>a.1)):=λ vx=>{f,A,(vx [] λ _ z=>nomatch z).ext (az _ _),(pq ()).ax,J};replace vw:=λ (_:Unit)=>@vw
    by_cases hnr:n=(vals.length:B)
    ·by_cases hpr:4096<aw (A.map λ a=>a.1)
     ·ac_rfl;rw[ff];refine{n,f,A,{D4,a3,(t4 ()).ext e5},(pq ()).ax,λ H6 e6=>?_};let a4:=e6.at a5;let a7:=e6.at a3;clear a5 a3 dh;ac_rfl;rw[ff];refine{n,f,A,{D4,a7,((t4 ()).ext e5).ext e6},(pq ()).ax,λ H7 e7=>?_};let a9:=e7.at a4;let cZ:=e7.at a7;clear a4 a7;ac_rfl;intro r1 H8 _ e8 h8;let b5:=e8.at a9;let cv:=e8.at cZ;clear a9 cZ;ac_rfl;rw[gy];refine{n,f,A,{D4,cv,(((t4 ()).ext e5).ext e6).ext (e7.trans e8)},(pq ()).ax,(pq ()).kp,(pq ()).lo,(pq ()).hi,(pq ()).l4,n1,b3,λ v H9 hv e9 vx=>?_};let c2:=e9.at b5;let ez:=e9.at h8;let c3:=e5.trans (e6.trans (e7.trans (e8.trans e9)));let vn:=vw () vx;exists vn;clear b5 cv h8 vx vw;ac_rfl;rw[bG];refine{0,cT,st,D,Pp,J,by decide,c2,?_};refine{λ _ _=>False,EXo t _,.inr (.inl {h,z,v,J,st,l,D,Pp,vals,ws.map SRw.nv,[],n,_,((s4 ()).move c3).hall,hz,hno (),vn (),.inr hpr,λ q=>Þ hnr q,λ _ dx Ha ea h7=>{4,.int (aw (A.map λ a=>a.1)),by decide,J,{(dx),J,h7},λ r Hb eb hb=>?_}}),λ _ _ h=>h.elim,λ _ _ _ h=>h};let eD:=c3.trans (ea.trans eb);let gs:=(ea.trans eb).at ez;let k2:=k () Hb ws ((s4 ()).move eD) %[|8] (λ zo g _ _=>g.trans (cg.trans eD));let gx:Hb r=U (.tup [.str "many",.int (aw (A.map λ a=>a.1))]):=hb;clear k c2 ez hb hpr hnr;generalize aw (A.map λ a=>a.1)=pr at gx gs;ac_rfl;rw[Vr];exact k2
     ·ac_rfl;rw[ff];refine{n,f,A,{D4,a3,(t4 ()).ext e5},(pq ()).ax,λ H6 e6=>?_};let a4:=e6.at a5;let a7:=e6.at a3;let eG:=e6.at dh;clear a5 a3 dh;ac_rfl;intro r1 H7 _ e7 h7;let a9:=e7.at a4;let cZ:=e7.at a7;let eH:=e7.at eG;let wl:ws.length<Æ:=jk %[|8];clear a4 a7 eG;ac_rfl;intro rr H8 n8 e8 h8;let b5:=e8.at a9;let cv:=e8.at cZ;let dm:=e8.at eH;let dr:=e8.at h7;let a6:=e5.trans (e6.trans (e7.trans e8));let s8:=(s4 ()).move a6;let hB:q≠S:=λ e=>by rw[e,dm] at cv;cases cv
      let gT:h≠S:=λ e=>by rw[e,dm] at b5;cases b5
      let g0:r1≠S:=λ e=>by rw[e,dm] at dr;cases dr
      let p8:=(ep ()).ext (cq a6);let c8:cj [D,S] H8 rr=U (.tup [.str z,.ref q]):=cp s8.lst h8 (λ _ h=>by cases h);exists s8;exists p8;exists c8;clear a9 cZ eH h7;ac_rfl;let kS:∀ b o,b≠S->H8 b=U o->upd H8 S (.lst ((ws.map λ w=>V.ref w.r)++[.ref rr])) b=U o:=λ b o hb q=>(ah hb).trans q;let dv:upd H8 S (.lst ((ws.map λ w=>V.ref w.r)++[.ref rr])) S=U (.lst ((ws.map λ w=>V.ref w.r)++[.ref rr])):=ag;let x9:∀ zo,Ext zo H->zo S=Y->Ext zo (upd H8 S (.lst ((ws.map λ w=>V.ref w.r)++[.ref rr]))):=λ zo g hg=>(g.trans (cg.trans a6)).put hg;generalize upd H8 S (.lst ((ws.map λ w=>V.ref w.r)++[.ref rr]))=H9 at kS dv x9 ⊢;let d9:Ext (cj [D,S] H8) (cj [D,S] H9):=fv λ b o _ hb q=>kS b o hb q;let dy:=kS _ _ (s8 ()).ne (s8 ()).hD;let c4:=(s8 ()).hallP d9 dy
      let e0:ug [D,S] H9:=λ s hs=>by
       rcases Vp.mp hs with rfl|hs
       ·exact .inr {_,dy}
       ·rw[Vh.mp hs];exact .inl {_,dv}
      let c2:=kS _ _ gT b5;let fa:=kS _ _ g0 dr;exists kS;exists c4;exists e0;exists d9;exists x9;clear b5 cv dm dr h8;rw[gy];refine{n,f,A,((p8 ()).ext (d9 ())).ext (az _ _),(pq ()).ax,(pq ()).kp,(pq ()).lo,(pq ()).hi,(pq ()).l4,n1,b3,λ v g4 hv b6 vx=>?_};let d1:=b6.at c2;let b8:=b6.at fa;let cc:=b6.at dv;let c5:=b6.at dy;let c6:=vx [D,S] (e0 ());exists c6;clear c2 fa dv dy vx vw;ac_rfl;rw[bG];refine{0,cT,st,D,Pp,J,by decide,d1,?_};refine{QTn _,λ _ _ _=>False,.inr (.inr {h,z,v,J,st,l,D,Pp,vals,ws.map SRw.nv,[],f,A,(c4 ()).ext b6,hz,hno (),by rw[U2];omega,by rw[←hnr];exact(c6 ()).ext (az _ _),(pq ()).ax,by omega,λ hC q1 q2 d2=>?_}),λ _ _ h=>h,λ _ _ _ h=>h.elim};intro r dN cx hE;let g5:r1≠D:=λ e=>by rw[e,c5] at b8;cases b8
      let g7:S≠D:=λ e=>by rw[e,c5] at cc;cases cc
      let hj:=cx.at (q2 _ _ g5 b8);let k8:∀ b o,b≠D->b≠S->H8 b=U o->dN b=U o:=λ b o b1 b2 q=>cx.at (q2 b o b1 (b6.at (kS () b o b2 q)));let g9:Ext (cj [D,S] g4) (cj [D,S] dN):=fv λ b o b1 _ q=>cx.at (q2 b o b1 q);let d3:Ext (cj [D,S] H8) (cj [D,S] dN):=fv k8;let k2:=k () dN (ws++[⟨⟨z,v,f,A⟩,rr,q⟩]) ((s8 ()).add k8 (cx.at d2) (cx.at (q2 _ _ g7 cc)) {d3.at (c8 ()),by rw[←hnr];exact(p8 ()).ext d3,by rw[←hnr];exact(pq ()).pt %[|8],hz,by rw[←hnr];exact(c6 ()).ext g9} (hno ())) (by rw[Va];simp) (λ zo g gD gS=>(q1 zo ((x9 () zo g gS).trans b6) gD).trans cx);clear k d1 b8 cc c5 d2 q1 q2 k8 hpr hnr;ac_rfl;rw[Vr];exact k2
    ·ac_rfl;intro r1 H6 _ e6 h6;let a4:=e6.at a5;let a7:=e6.at a3;clear a5 a3 dh;ac_rfl;rw[gy];refine{n,f,A,{D4,a7,((t4 ()).ext e5).ext e6},(pq ()).ax,(pq ()).kp,(pq ()).lo,(pq ()).hi,(pq ()).l4,n1,b3,λ v H7 hv e7 vx=>?_};let a9:=e7.at a4;let fh:=e7.at h6;let fo:=e5.trans (e6.trans e7);let vn:=vw () vx;exists vn;clear a4 a7 h6 vx vw;ac_rfl;rw[bG];refine{0,cT,st,D,Pp,J,by decide,a9,?_};refine{λ _ _=>False,EXo t _,.inr (.inl {h,z,v,J,st,l,D,Pp,vals,ws.map SRw.nv,[],n,_,((s4 ()).move fo).hall,hz,hno (),vn (),.inl hnr,λ _ H8 e8=>{2,.non,by decide,J,J,λ r H9 e9 h9=>?_},λ q=>Þ q hnr}),λ _ _ h=>h.elim,λ _ _ _ h=>h};let c3:=fo.trans (e8.trans e9);let hF:=(e8.trans e9).at fh;let k2:=k () H9 ws ((s4 ()).move c3) %[|8] (λ zo g _ _=>g.trans (cg.trans c3));let hI:H9 r=U (.tup [.str "view",.non]):=h9;clear k a9 fh h9;ac_rfl;rw[Vr];exact k2
  ·refine{iu ws,_,b4,de (),rl,.inl {hno,λ r1 H5 e5 h5=>?_}};let a5:=e5.at hh;let a3:=e5.at ck;clear hh ck b4;ac_rfl;rw[gy];refine{n,f,A,{D4,a3,(t4 ()).ext e5},(pq ()).ax,(pq ()).kp,(pq ()).lo,(pq ()).hi,(pq ()).l4,n1,b3,λ v H6 hv e6 vx=>?_};let a4:=e6.at a5;let cV:=e6.at h5;clear a5 a3 h5 vx;ac_rfl;rw[bG];refine{0,cT,st,D,Pp,J,by decide,a4,?_};refine{λ _ _=>False,EXo t _,.inl (.inl {h,x,.ref v,J,st,l,D,Pp,vals,ws.map SRw.nv,[],((s4 ()).move (e5.trans e6)).hall,hno.ext (e5.trans e6),λ dx H7 e7 h7=>{0,x,by decide,J,{(dx),J,h7},λ r H8 e8 h8=>?_}}),λ _ _ h=>h.elim,λ _ _ _ h=>h};let a6:=e5.trans (e6.trans (e7.trans e8));let gk:=(e7.trans e8).at cV;let ey:=λ f=>hd () H8 f a6;let k2:=k () H8 ws ((s4 ()).move a6) %[|8] (λ zo g _ _=>g.trans (cg.trans a6));let gn:H8 r=U (.tup [.str "name",x]):=h8;clear k a4 cV h8;ac_rfl;rw[Vr];exact k2
theorem xt{ws:G SRw}{y:Ã}(h:rz y (iu ws)=L):∃ w r,w∈ws/\w.nv.nm=y/\(iu ws).filter (λ p=>decide (p.1=y))=(w.nv.nm,w.q)::r:=by
 unfold iu;let(w,hw,e):=qf h;clear h
 induction ws with
 | nil=>cases hw
 | cons a l ih=>
  rw[Vs,XY]
  by_cases ha:a.nv.nm=y
  ·exact{a,_,Vq,ha,by rw[Ve (Vi ha)]}
  ·rcases Vp.mp hw with rfl|hw
   ·exact Þ e ha
   ·let(w',r,h1,h2,h3):=ih hw;exact{w',r,Vb _ h1,h2,by rw[U7 (by simpa using ha)];exact h3}
theorem sv{x:V}{S:Z}{E:XK}(hS:H S=U (.lst ys))(al:yb H rw ys)(hl:rw.length<=100)(h:o1 H x\/∃ s,x=.str s/\aB s/\rz s rw=Â)(q:∀ H',Ext H H'->Q (.bl Â) H'):jq [x,.ref S] H Q E:=by
 refine{x,S,J,rw,ys,hS,al,hl,?_}
 rcases h with h|⟨s,h1,h2,h3⟩
 ·exact .inl {(h),q}
 ·exact .inr {s,h1,h2,λ H' e=>by rw[h3];exact q H' e}
theorem oI{S:Z}{E:XK}(hS:H S=U (.lst ys))(al:yb H rw ys)(hl:rw.length<=100)(h2:aB s)(h3:rz s rw=L)(q:∀ H',Ext H H'->Q (.bl L) H'):jq [.str s,.ref S] H Q E:=
 ⟨.str s,S,J,rw,ys,hS,al,hl,.inr {s,J,h2,λ H' e=>by rw[h3];exact q H' e}⟩
theorem IU{ws:G SRw}{x:V}(h:o1 H x\/∃ s,x=.str s/\aB s/\rz s (iu ws)=Â):iE H (ws.map SRw.nv) x:=h.imp id λ ⟨s,h1,h2,h3⟩=>{s,h1,h2,u7 h3}
theorem xj{x:V}(h:NmX H x)(ws:G SRw):(o1 H x\/∃ s,x=.str s/\aB s/\rz s (iu ws)=Â)\/∃ s,x=.str s/\aB s/\rz s (iu ws)=L:=by
 rcases h.1 with ⟨s,h1,h2⟩|h
 ·cases hk:rz s (iu ws) with
  | true=>exact .inr {(s),h1,h2,hk}
  | false=>exact .inl (.inr {(s),h1,h2,hk})
 ·exact .inl (.inl h)
abbrev sY(t:Adr)(K:PySem.W.Frag)(a:Z)(ns:G B)(k:B)(h:Z)(S:Z)(H:Hp)(Q:VK)(E:XK):Prop:=SqL K H a (ns.map V.int)/\ns.length<=63/\0<=k/\k<900/\∃ (st l D Pp:Z) (vals:G B) (ws:G SRw),StI t H h st l D Pp S vals ws/\ws.length<=90/\∀ (H':Hp) (ws':G SRw),StI t H' h st l D Pp S vals ws'->ws'.length<=ws.length+1->(∀ zo,Ext zo H->zo D=Y->zo S=Y->Ext zo H')->Q (.bl L) H'
def uP(t:Adr)(K:Å)(a:Z)(ns:G B):Sp:=λ vs H Q E=>∃ (k:B) (h:Z) (S:Z),vs=[.ref a,.int k,.ref h,.ref S]/\(sY t K a ns k h S H Q E)
theorem Ez(t:Adr)(K:Å)(a:Z)(ns:G B)(k:B)(h:Z)(S:Z)(H:Hp)(Q:VK)(E:XK):uP t K a ns [.ref a,.int k,.ref h,.ref S] H Q E=(sY t K a ns k h S H Q E):=EK (f:=λ (k:B) (h:Z) (S:Z)=>[.ref a,.int k,.ref h,.ref S]) %[6,3|63] k h S
theorem tK(T:Tx K mg t)(a:Z)(ns:G B):%[13,GO|49] %[|134] (uP t K a ns):=by
 let G_DT:=%[dg|84] a ns;let G_GK:=%[gL|84] a ns;intros yU fg yT cU DG jF DH fP GL tJ zb fj;refine T.F_GO.ok bg (λ _ _ _ _ h=>ud h λ _ _ _=>J) (λ cdv A' outer s H vs Q E hr h=>?_)
 ·let(kk,h,S,rfl,hS,hl,k0,k9,st,l,D,Pp,vals,ws,si,hw,k):=h;refine{_,%[%[4,bg,%[GK,%[0,%[1|1]|1]|3]|4],%[(@l0 _ _ (5) _ _ _ _ bg.nd J (Or.inr J) %[GK,%[0,%[%[aI,1,99|11]|1]|1]|3] ∅ %[|7]),%[%[6,bg,%[yU,%[4,%[3|1]|1]|3]|4],%[%[7,bg,%[qC7,zb,m_aa3,av,%[99,%[99|1]|1]|62]|4],%[%[(PW.pt %[%[kJ,6,(@aZ _ _ _),(ai _)|13],(@gr _ _ _ _ %[%[%[yT,%[5,%[3|1]|1]|3]|26]|25])|78]),%[%[6,bg,%[%[(@aH _ _ _ _),%[5|1]|1]|19]|4]|10],(@aj _)|14],%[%[%[kJ,6,(@aZ _ _ _),(ai _)|13],%[(@om _ _ _ _ _ _ %[GL,%[%[eA,%[(%[|110]),(1),(aP (aa fA) %[|114] J J nofun),%[3|28],%[%[(0),%[|110]|51]|72],%[(@Bq _ _ _ %[(aO hr.units),%[eA,0,99|17],6,(ai _)|13])|72],%[%[eA,0,99|17]|72]|27],99|17],%[%[bY,%[DT,%[0,%[1,%[%[ma,99,99|11]|1]|1]|1]|3],99|11]|1]|1]|3] (%[(2),%[%[7,bg|5],%[%[8,bg|5],(@bD _)|22]|22]|39].mono λ _ _ _ _ h=>dI h) ∅ ∅ ∅),%[%[6,bg,%[%[(@aH _ _ _ _),%[(@aZ _ _ _)|1]|1]|19]|4],%[%[%[kJ,8,(@aZ _ _ _),(ai _)|13],%[%[6,bg,%[%[(@aH _ _ _ _),%[(@aZ _ _ _)|1]|1]|19]|4]|10],%[%[%[iI,%[DG,%[8|1]|3],99,(ai _)|13],%[%[6,bg,%[%[(@aH _ _ _ _),%[%[DG,%[8|1]|3]|1]|1]|19]|4]|10],%[%[%[PySem.F.plainAttrs_list,PySem.F.slot_list_append,PySem.F.type_list_append,cw,3,%[%[%[4,%[8|1]|1]|19]|1]|41]|16]|10]|14]|10]|14]|10]|9]|9],(@aj _)|14],%[%[%[(aO hr.units),%[DH,%[99,%[2,%[4,%[5,%[7|1]|1]|1]|1]|1]|3],6,(ai _)|29]|12]|10]|9]|9]|9]|9]|9]|9],?_};rw[%[%[|114],[.ref a,.int kk,.ref h,.ref S],5|53]];clear G_DT G_GK G_yU G_yT G_DG G_DH G_GL G_zb;exists k;exists si;let v1:=(si ()).v1;ac_rfl;rw[jy];refine{hS,hl,k0,by omega,λ x H1 e1 hx=>?_};let d4:=e1.2 K a _ hS;exists hx;clear hS;ac_rfl;rw[jy];refine{d4,hl,by omega,by omega,λ y H2 e2 hy=>?_};let e0:=e2.2 K a _ d4;let d5:=(hx ()).ext e2;let c8:=e1.trans e2;let s2:=(si ()).move c8;let cH:=s2.rw';let a6:=s2.hS;let rl:(iu ws).length<=100:=by unfold iu;rw[length_map];omega
  let(b5,hh):=s2.ob;replace hh:=(az _ _).at hh;let(d,hd,hO):=d5.2;exists s2;exists cH;exists hd;exists d5;exists hy;clear d4 si hx;let hP:PyData.strOk (Ô "name")=L:=nofun
  let hQ:PyData.strOk (Ô "known")=L:=nofun
  ac_rfl;rw[sC]
  rcases (d5 ()).1 with ⟨z,rfl,hz⟩|hno
  ·cases b6:rz z (iu ws) with
   | true=>
    refine{iu ws,_,a6,cH (),rl,.inr (.inl {z,J,hz,b6,λ r1 H5 e5 h5=>?_})};let a4:=e5.at hh;let(w0,b8,a7):=qf b6;exists b6;exists a7;clear hh a6;ac_rfl;intro pp cg G2 a5 _ _ g2 kp _;rw[dW];refine{cg,0,kp,J,λ H6 hE a8=>?_};let e6:=hE H5 g2 a5;let a3:=e6.at a4;let cT:=e6.at h5;clear hE kp g2 a5 a4 h5;ac_rfl;rw[bG];refine{1,b5,st,D,Pp,J,by decide,a3,?_};refine{λ _ _=>False,EXo t _,.inl (.inr {h,z,y,.ref pp,J,st,l,D,Pp,vals,ws.map SRw.nv,[],w0.nv,((s2 ()).move (e5.trans e6)).hall,(s2 ()).nd,U8.mpr {(w0),b8,J},a7 (),hz,λ dx H7 e7 h7=>{1,.str z,by decide,J,{(dx),J,h7},λ r H8 e8 h8=>?_}}),λ _ _ h=>h.elim,λ _ _ _ h=>h};let ck:=e5.trans (e6.trans (e7.trans e8));let g7:=(e7.trans e8).at cT;let k2:=k () H8 ws ((s2 ()).move ck) %[|8] (λ zo g _ _=>g.trans (c8.trans ck));let c9:H8 r=U (.tup [.str "known",.str z]):=h8;let g9:=fU hz.asc;clear k a3 cT h8 a8;ac_rfl;rw[Vr,Vr];exact k2
   | false=>
    refine{iu ws,_,a6,cH (),rl,.inr (.inr {z,J,hz,b6,λ H5 e5=>?_})};let hno:=u7 b6;exists hno;let a4:=e5.at hh;let e3:=e5.at a6;let s5:=(s2 ()).move e5;let e4:=(cH ()).ext e5;let fa:=e5.2 K a _ e0;exists s5;exists e4;clear hh a6 b6 e0;let g9:=fU hz.asc;ac_rfl;intro pp cg G2 a5 _ _ g2 kp _;rw[dW];refine{cg,0,kp,J,λ H6 hE a8=>?_};let e6:=hE H5 g2 a5;let a3:=e6.at a4;let cV:=e6.at e3;let fh:=e6.2 K a _ fa;let fo:=c8.trans (e5.trans e6);let s6:=(s5 ()).move e6;let dc:=(e4 ()).ext e6;exists s6;exists dc;clear hE kp g2 a5 a4 e3 fa;let y6:=(hy ()).ext (e5.trans e6);let(d',de,fu):=y6.2;let hj:=s6;exists de;ac_rfl
    rcases xj y6 ws with d6|⟨y',rfl,cZ,d7⟩
    ·refine sv cV (dc ()) rl d6 λ H7 e7=>?_;let fx:=e7.at a8;let cm:=e7.at a3;let nb:=(IU d6).ext e7;clear cV a3 a8 d6;ac_rfl;intro r1 H8 _ e8 h8;let c2:=e8.at cm;let fy:=e8.at fx;exists nb;clear cm fx;ac_rfl;rw[bG];refine{1,b5,st,D,Pp,J,by decide,c2,?_};refine{λ _ _=>False,EXo t _,.inr (.inl {h,z,y,pp,J,st,l,D,Pp,vals,ws.map SRw.nv,[],cg,0,((s6 ()).move (e7.trans e8)).hall,hz,hno (),(nb ()).ext e8,fy,λ dx Ha ea h7=>{0,y,by decide,J,{(dx),J,h7},λ r Hb eb hb=>?_}}),λ _ _ h=>h.elim,λ _ _ _ h=>h};let d8:=e7.trans (e8.trans (ea.trans eb));let hR:=(ea.trans eb).at h8;let hk:=λ f=>de () Hb f d8;let k2:=k () Hb ws ((s6 ()).move d8) %[|8] (λ zo g _ _=>g.trans (fo.trans d8));let hT:Hb r=U (.tup [.str "name",y]):=hb;clear k c2 h8 hb fy;ac_rfl;rw[Vr];exact k2
    ·refine oI cV (dc ()) rl cZ d7 λ H7 e7=>?_;let cm:=e7.at a3;let dh:=e7.at cV;let f3:=(dc ()).ext e7;let s7:=(s6 ()).move e7;let f5:=e7.2 K a _ fh;let ho:=fo.trans e7;let(w0,bW,b8,a7,f6):=xt d7;let d9:=s7.ro w0 b8;exists s7;exists f3;exists f6;exists a7;exists d9;clear a3 cV a8 d7 de fu fh hj s6;ac_rfl;let wk:=lV (K:=K) (R:=λ (p:Ã × Z) y H'=>∃ r,y=V.ref r/\H' r=U (.tup [.str p.1,.ref p.2])) (λ _ _ _ _ ⟨r,a,b⟩ e=>{r,a,e.at b}) dh (f3 ());refine bb (iu ws) (λ p=>decide (p.1=y')) (λ p=>.ref p.2) _ wk.1 wk.2 (ak %[|8]) ?_ ?_
     ·rintro D' p x H' N1 N0 hp hD e ⟨r,rfl,hr⟩ k1 k0;let ej:=λ q=>k1 q H' (Ext.refl _);let el:=λ q=>k0 q H' (Ext.refl _)
      let hW:PyData.strOk p.1=L:=by
       unfold iu at hp;let(w,hw,rfl):=List.mem_map.mp hp;exact fU ((s7 ()).ro w hw).2.2.2.1.asc
      let hX:=fU cZ.asc;clear k1 k0 k cm dh wk
      by_cases hpy:p.1=y'
      ·let k2:=ej (Vi hpy);clear ej el;simp! only[↓aN,↓aT]
      ·let k2:=el (VE hpy);clear ej el;simp! only[↓aN,↓aT]
     intro xL H8 hL e8 h8;rw[f6 ()] at h8;let at0:atI ((V.ref w0.q)::bW.map λ p=>V.ref p.2) 0=U (.ref w0.q):=bQ (j:=0) J;let c9:H8 xL=U (.lst ((V.ref w0.q)::bW.map λ p=>V.ref p.2)):=h8;let c2:=e8.at cm;let f7:=e8.at dh;let hq:=e8.2 K a _ f5;generalize (bW.map λ p=>V.ref p.2)=rs at at0 c9;clear h8 cm dh wk f5;ac_rfl;rw[dD];refine{hq,hl,{k0,by omega},by decide,λ c c0 c1=>?_};clear c9 at0;ac_rfl;rw[Ey];let f9:=(d9 ()).ext (cq e8);refine{vals.length,w0.nv.f,w0.nv.A,f9.2.1.ext (az _ _),f9.2.2.1,by omega,by omega,by omega,λ r1 m yo H9 e9 ht out=>?_};let gg:=e9.at c2;let gk:=e9.at f7;clear c2 f7;ac_rfl;intro r2 Ha _ ea ha;let dm:=ea.at gg;let en:=ea.at gk;let hu:=e9.trans ea;let ep:=e8.trans hu;clear gg gk ht;let hY:PyData.strOk (Ô "move")=L:=nofun
     let h3:PyData.strOk (Ô "many")=L:=nofun
     let h4:PyData.strOk (Ô "told")=L:=nofun
     let cv:=(d9 ()).ext (cq ep);let sa:=(s7 ()).move ep;let ew:=ho.trans ep;exists cv;exists sa
     rcases out with ⟨M,q',rfl,mp,c3,gn⟩|⟨rfl,wv,bd⟩
     ·let ey:=((s7 ()).move e8).lst;let ez:=(mp [D,S] ey).1.ext (cq ea);let c4:=(mp [D,S] ey).2.ext (cq ea)
      let nq:∃ D2,Ha q'=U (.tup [.int (vals.length:B),.int (kF M w0.nv.f w0.nv.A),.ref D2]):=by
       let(D2,x1,_):=c4;exact{D2,(az _ _).at x1}
      exists ez;exists c4;exists c3;exists gn;clear mp ey;ac_rfl;rw[ff];refine{_,_,_,(c4 ()).ext (az _ _),(c3 ()).ax,λ Hb eb=>?_};let a9:=eb.at dm;let eD:=eb.at en;clear dm en
      by_cases hpr:4096<aw ((da M w0.nv.A).map λ a=>a.1)
      ·ac_rfl;rw[ff];refine{_,_,_,((c4 ()).ext (az _ _)).ext eb,(c3 ()).ax,λ Hc ec=>?_};let b3:=ec.at a9;clear a9 eD;ac_rfl;intro r3 Hd _ ed hA;let c5:=ed.at b3;let b4:=eb.trans (ec.trans ed);clear b3;ac_rfl;rw[bG];refine{1,b5,st,D,Pp,J,by decide,c5,?_};refine{λ _ _=>False,EXo t _,.inr (.inr (.inr (.inr {M,h,z,y',m,J,st,l,D,Pp,vals,ws.map SRw.nv,[],w0.nv,((sa ()).move b4).hall,(sa ()).nd,hz,hno (),U8.mpr {(w0),b8,J},a7 (),cZ,v1.1,v1.2,((ez ()).ext (az _ _)).ext b4,((cv ()).ext (cq b4)).2.2.2.2.ext (az _ _),(cv ()).2.2.1.ax,c3 (),hpr,λ dx He ee h7=>{4,.int (aw ((da M w0.nv.A).map λ a=>a.1)),by decide,J,{(dx),J,h7},λ r Hf ef hf=>?_}}))),λ _ _ h=>h.elim,λ _ _ _ h=>h};let gs:=b4.trans (ee.trans ef);let hB:=(ee.trans ef).at hA;let k2:=k () Hf ws ((sa ()).move gs) %[|8] (λ zo g _ _=>g.trans (ew.trans gs));let hC:Hf r=U (.tup [.str "many",.int (aw ((da M w0.nv.A).map λ a=>a.1))]):=hf;let kk:∀ b:Ý,b=L->Q (.bl b) Hf:=λ b hb=>by rw[hb];exact k2
       clear k c5 hf hpr k2;generalize hg:aw ((da M w0.nv.A).map λ a=>a.1)=pr at hC hB;ac_rfl;rw[Vr];exact kk _ J
      ·let wl:ws.length<Æ:=jk %[|8];let gx:=eb.at ha;ac_rfl;intro rr Hc _ ec hc;let b3:=ec.at a9;let eG:=ec.at eD;let dr:=ec.at gx;let c6:=eb.trans ec;let sc:=(sa ()).move c6;let hF:h≠S:=λ e=>by rw[e,eG] at b3;cases b3
       let hI:r2≠S:=λ e=>by rw[e,eG] at dr;cases dr
       let pc:=(c4 ()).ext (cq c6);let mc:=(ez ()).ext (cq c6);let rc:=(cv ()).ext (cq c6);let cc:cj [D,S] Hc rr=U (.tup [.str z,.ref q']):=cp sc.lst hc (λ _ h=>by cases h);exists sc;exists pc;exists mc;exists rc;exists cc;clear a9 eD gx ha;ac_rfl;let kS:∀ b o,b≠S->Hc b=U o->upd Hc S (.lst ((ws.map λ w=>V.ref w.r)++[.ref rr])) b=U o:=λ b o hb q=>(ah hb).trans q;let dv:upd Hc S (.lst ((ws.map λ w=>V.ref w.r)++[.ref rr])) S=U (.lst ((ws.map λ w=>V.ref w.r)++[.ref rr])):=ag;let x9:∀ zo,Ext zo H->zo S=Y->Ext zo (upd Hc S (.lst ((ws.map λ w=>V.ref w.r)++[.ref rr]))):=λ zo g hg=>(g.trans (ew.trans c6)).put hg;generalize upd Hc S (.lst ((ws.map λ w=>V.ref w.r)++[.ref rr]))=Hd at kS dv x9 ⊢;let cd:Ext (cj [D,S] Hc) (cj [D,S] Hd):=fv λ b o _ hb q=>kS b o hb q;let dy:=kS _ _ (sc ()).ne (sc ()).hD;let c7:=(sc ()).hallP cd dy;let c5:=kS _ _ hF b3;let gT:=kS _ _ hI dr;exists kS;exists c7;exists cd;exists x9;clear b3 eG dr hc
       let g0:ug [D,S] Hd:=λ s hs=>by
        rcases Vp.mp hs with rfl|hs
        ·exact .inr {_,dy}
        ·rw[Vh.mp hs];exact .inl {_,dv}
       exists g0;ac_rfl;rw[bG];refine{1,b5,st,D,Pp,J,by decide,c5,?_};refine{QTn _,λ _ _ _=>False,.inr (.inr (.inr (.inl {M,h,z,y',m,J,st,l,D,Pp,vals,ws.map SRw.nv,[],w0.nv,c7 (),(sc ()).nd,hz,hno (),U8.mpr {(w0),b8,J},a7 (),cZ,by rw[U2];omega,v1.1,v1.2,((mc ()).ext (cd ())).ext (az _ _),((rc ()).ext (cd ())).2.2.2.2.ext (az _ _),(rc ()).2.2.1.ax,c3 (),by omega,λ v He h6 hv ee vx q1 q2 d2=>?_}))),λ _ _ h=>h,λ _ _ _ h=>h.elim};intro r dN cx h9;let d0:=ee.at gT;let d1:=ee.at dv;let eH:=ee.at dy;let hK:r2≠D:=λ e=>by rw[e,eH] at d0;cases d0
       let hM:S≠D:=λ e=>by rw[e,eH] at d1;cases d1
       let hN:=cx.at (q2 _ _ hK d0);let k8:∀ b o,b≠D->b≠S->Hc b=U o->dN b=U o:=λ b o b1 b2 q=>cx.at (q2 b o b1 (ee.at (kS () b o b2 q)));let ce:Ext (cj [D,S] He) (cj [D,S] dN):=fv λ b o b1 _ q=>cx.at (q2 b o b1 q);let d3:Ext (cj [D,S] Hc) (cj [D,S] dN):=fv k8;let k2:=k () dN (ws++[⟨⟨z,v,kF M w0.nv.f w0.nv.A,da M w0.nv.A⟩,rr,q'⟩]) ((sc ()).add k8 (cx.at d2) (cx.at (q2 _ _ hM d1)) {d3.at (cc ()),(pc ()).ext d3,gn () %[|8],hz,(vx [D,S] (g0 ())).ext ce} (hno ())) (by rw[Va];simp) (λ zo g gD gS=>(q1 zo ((x9 () zo g gS).trans ee) gD).trans cx);clear k c5 gT dv dy d2 q1 q2 k8 hpr d0 d1 eH;ac_rfl;rw[Vr];exact k2
     ·let g4:=bd.ext ea;exists g4;ac_rfl;intro r3 Hb _ eb hb;let a9:=eb.at dm;clear dm en;ac_rfl;rw[bG];refine{1,b5,st,D,Pp,J,by decide,a9,?_};refine{λ _ _=>False,EXo t _,.inr (.inr (.inl {wv,h,z,y',m,J,st,l,D,Pp,vals,ws.map SRw.nv,[],w0.nv,((sa ()).move eb).hall,(sa ()).nd,hz,hno (),U8.mpr {(w0),b8,J},a7 (),cZ,(g4 ()).ext eb,{_,((cv ()).ext (cq eb)).2.2.2.2.ext (az _ _)},(cv ()).2.2.1.ax,λ Hc ec=>{3,.non,by decide,J,J,λ r Hd ed g5=>?_}})),λ _ _ h=>h.elim,λ _ _ _ h=>h};let b4:=eb.trans (ec.trans ed);let ic:=(ec.trans ed).at hb;let k2:=k () Hd ws ((sa ()).move b4) %[|8] (λ zo g _ _=>g.trans (ew.trans b4));let de:Hd r=U (.tup [.str "move",.non]):=g5;clear k a9 hb g5;ac_rfl;rw[Vr];exact k2
  ·refine{iu ws,_,a6,cH (),rl,.inl {hno,λ r1 H5 e5 h5=>?_}};let a4:=e5.at hh;clear hh a6;ac_rfl;intro pp cg G2 a5 _ _ g2 kp _;rw[dW];refine{cg,0,kp,J,λ H6 hE a8=>?_};let e6:=hE H5 g2 a5;let a3:=e6.at a4;let cT:=e6.at h5;clear hE kp g2 a5 a4 h5;ac_rfl;rw[bG];refine{1,b5,st,D,Pp,J,by decide,a3,?_};refine{λ _ _=>False,EXo t _,.inl (.inl {h,x,y,.ref pp,J,st,l,D,Pp,vals,ws.map SRw.nv,[],((s2 ()).move (e5.trans e6)).hall,hno.ext (e5.trans e6),λ dx H7 e7 h7=>{0,x,by decide,J,{(dx),J,h7},λ r H8 e8 h8=>?_}}),λ _ _ h=>h.elim,λ _ _ _ h=>h};let ck:=e5.trans (e6.trans (e7.trans e8));let g7:=(e7.trans e8).at cT;let hk:=λ f=>hd () H8 f ck;let k2:=k () H8 ws ((s2 ()).move ck) %[|8] (λ zo g _ _=>g.trans (c8.trans ck));let c9:H8 r=U (.tup [.str "name",x]):=h8;clear k a3 cT h8 a8;ac_rfl;rw[Vr];exact k2
def EN(n:B)(w:SRw):PyData:=.tuple [.str w.nv.nm,.tuple [.int n,.int w.nv.f,.list ((axL w.nv.A).map λ z=>PyData.tuple (z.map PyData.int))]]
theorem Qx{A:%[|48]}(t:bM H D (axL A))(m:à):dC H (m+3) (.ref D)=U (.list ((axL A).map λ z=>PyData.tuple (z.map PyData.int))):=by
 let(ys,hD,al):=t
 show (H D).bind (Ah (dC H (m+2)))=_
 rw[hD]
 show (aJ (ys.map (jY H (jY H (dC H m))))).map PyData.list=_
 rw[pF al];rfl
theorem AW{q:Z}{f:B}{A:%[|48]}(h:rn H q n f A)(m:à):dC H (m+4) (.ref q)=U (.tuple [.int n,.int f,.list ((axL A).map λ z=>PyData.tuple (z.map PyData.int))]):=by
 let(D,hq,t):=h
 show (H q).bind (Ah (dC H (m+3)))=_
 rw[hq]
 show (aJ [U (PyData.int n),U (PyData.int f),dC H (m+3) (.ref D)]).map PyData.tuple=_
 rw[Qx t];rfl
theorem Bk{n:à}{w:SRw}(h:ji t H n w)(m:à):dC H (m+5) (.ref w.r)=U (EN n w):=by
 show (H w.r).bind (Ah (dC H (m+4)))=_
 rw[h.1]
 show (aJ [dC H (m+4) (.str w.nv.nm),dC H (m+4) (.ref w.q)]).map PyData.tuple=_
 rw[AW h.2.1,kj,Ve (fU h.2.2.2.1.asc)];rfl
theorem Ku(n:B)(v w:SRw)(h:v.nv.nm≠w.nv.nm):PyData.eqv (EN n v) (EN n w)=Â:=by
 unfold EN;rw[dQ,aE,iN,beq_false_of_ne h,Bool.false_and]
theorem Fw(n:B)(w:SRw):PyData.eqv (EN n w) (EN n w)=L:=by
 unfold EN;rw[dQ,aE,iN,beq_self_eq_true,aE,dQ,aE,aE,aE,iO,iO,js,pE,cf,decide_eq_true J,decide_eq_true J];rfl
theorem sm(n:B)(w:SRw):∀ (a b:G SRw),(∀ x∈a,x.nv.nm≠w.nv.nm)->((a++w::b).map (EN n)).findIdx? (λ z=>PyData.eqv z (EN n w))=U a.length
 | [],b,_=>by rw[YC,Vs,List.findIdx?_cons,Fw];rfl
 | x::a,b,h=>by
  rw[W8,Vs,List.findIdx?_cons,sm n w a b λ y hy=>h y (Vb _ hy),Ku n x w (h x Vq)];rfl
theorem wY{n:à}:∀ {ws:G SRw},(∀ w∈ws,ji t H n w)->aJ ((ws.map λ w=>V.ref w.r).map (dC H 5))=U (ws.map (EN n))
 | [],_=>rfl
 | w::r,h=>by
  rw[Vs,Vs,Vs,Bk (h w Vq) 0]
  show (aJ ((r.map λ w=>V.ref w.r).map (dC H 5))).map _=_
  rw[wY λ v hv=>h v (Vb _ hv)];rfl
theorem N6(w:α):∀ (a b:G α),(a++w::b).eraseIdx a.length=a++b
 | [],b=>rfl
 | x::a,b=>by rw[W8,Vo,List.eraseIdx_cons_succ,N6 w a b];rfl
theorem wG{a b:G SRw}{w:SRw}(h:nN ((a++w::b).map SRw.nv)):(∀ x∈a,x.nv.nm≠w.nv.nm)/\(∀ x∈b,x.nv.nm≠w.nv.nm)/\nN ((a++b).map SRw.nv):=by
 unfold nN at h ⊢;rw[map_append,map_append,map_cons,map_cons,List.nodup_append,List.nodup_cons] at h;let(h1,(h2,h3),h4):=h;refine{λ x hx e=>?_,λ x hx e=>h2 (by rw[←e];exact List.mem_map.mpr {_,List.mem_map.mpr {(x),hx,J},J}),?_}
 ·exact h4 _ (U8.mpr {_,U8.mpr {(x),hx,J},J}) _ Vq e
 ·rw[Vw,Vw,Yl];exact{h1,h3,λ x hx y hy=>h4 x hx y (Vb _ hy)}
theorem HD{a b:G SRw}{w:SRw}(h:nN ((a++w::b).map SRw.nv)):lW (nvD ((a++w::b).map SRw.nv)) (.inr w.nv.nm)=nvD ((a++b).map SRw.nv):=by
 let(h1,h2,_):=wG h;rw[HE,Vw,Vs,Xl,XY,U7 (by simp),Vw];congr 2
 ·rw[Xf];intro p hp;let(x,hx,rfl):=U8.mp hp;exact Vi (h1 x hx)
 ·rw[Xf];intro p hp;let(x,hx,rfl):=U8.mp hp;exact Vi (h2 x hx)
theorem StI.cut{S:Z}{a b:G SRw}{w:SRw}(d:StI t H h st l D Pp S vals (a++w::b))(k:∀ b o,b≠D->b≠S->H b=U o->H' b=U o)(hD:H' D=U (.dK (nvD ((a++b).map SRw.nv))))(hS:H' S=U (.lst ((a++b).map λ w=>V.ref w.r))):StI t H' h st l D Pp S vals (a++b):=by
 let c:=fv k;let(dx,o):=d.ob;refine{⟨dx,c.at o⟩,d.so.ext c,c.at d.pa,hD,hS,λ u hu=>?_,(wG d.nd).2.2,d.v1};refine(d.ro u ?_).ext c
 rcases VI.mp hu with hu|hu
 ·exact VI.mpr (.inl hu)
 ·exact VI.mpr (.inr (Vb _ hu))
theorem R0{C:Hp}{n:à}{ws:G SRw}(ro:∀ w∈ws,ji t C n w)(e:Ext C H):yb H (iu ws) (ws.map λ w=>V.ref w.r):=by
 refine{by unfold iu;rw[length_map,length_map],λ i p y hp hy=>?_};unfold iu at hp;rw[getElem?_map] at hp hy;let(w,hw,rfl):=Option.map_eq_some_iff.mp hp;rw[hw] at hy;cases hy;exact{w.r,J,e.at (ro w (mem_of_getElem? hw)).1}
theorem Ic{Q':VK}(q:∀ v H',Q v H'->Q' v H'){x m:V}(k:yk t H Q h x y m i):yk t H Q' h x y m i:=by
 let n:∀ v H',QTn Q v H'->QTn Q' v H':=λ v H' z r a5 e h=>q _ _ (z r a5 e h);let o:∀ v H',QTo Q v H'->QTo Q' v H':=λ v H' z r a5 e h=>q _ _ (z r a5 e h);let z:∀ c d H',EXo t Q c d H'->EXo t Q' c d H':=λ c d H' ⟨j,v,a1,a2,a3,a4⟩=>{j,v,a1,a2,a3,λ r a5 e h=>q _ _ (a4 r a5 e h)}
 match i with
 | 0=>let(Q0,E0,q1,q2,q3):=k;exact{Q0,E0,q1,λ v H' e=>n v H' (q2 v H' e),λ c d H' e=>z c d H' (q3 c d H' e)}
 | 1=>let(Q0,E0,q1,q2,q3):=k;exact{Q0,E0,q1,λ v H' e=>n v H' (q2 v H' e),λ c d H' e=>z c d H' (q3 c d H' e)}
 | 2=>let(Q0,E0,q1,q2,q3):=k;exact{Q0,E0,q1,λ v H' e=>n v H' (q2 v H' e),λ c d H' e=>z c d H' (q3 c d H' e)}
 | 3=>let(Q0,E0,q1,q2,q3):=k;exact{Q0,E0,q1,λ v H' e=>o v H' (q2 v H' e),λ c d H' e=>z c d H' (q3 c d H' e)}
 | _+4=>let(Q0,E0,q1,q2,q3):=k;exact{Q0,E0,q1,λ v H' e=>o v H' (q2 v H' e),λ c d H' e=>z c d H' (q3 c d H' e)}
theorem Hy{a b:G SRw}{w:SRw}(h:nN ((a++w::b).map SRw.nv)):(a++w::b).filter (λ v=>decide (v.nv.nm=w.nv.nm))=[w]:=by
 let(h1,h2,_):=wG h;rw[Xl,XY,Ve (Vi J),List.filter_eq_nil_iff.mpr λ x hx=>by simpa using h1 x hx,List.filter_eq_nil_iff.mpr λ x hx=>by simpa using h2 x hx];rfl
theorem uZ{n:à}{ws:G SRw}(ro:∀ w∈ws,ji t H n w):Al (λ (w:SRw) y=>y=V.ref w.r/\H w.r=U (.tup [.str w.nv.nm,.ref w.q])) ws (ws.map λ w=>V.ref w.r):=by
 refine{by rw[U2],λ i w y hp hy=>?_};rw[Vd,hp] at hy;cases hy;exact{J,(ro w (Vx hp)).1}
theorem Kw{cs:G B}(h:mq cs vals.length)(hc:c∈cs):atI (vals.map V.int) c=U (.int (vals.getD c.toNat 0)):=by
 let hb:=h c hc;let(n,rfl):=Wt hb.1;let hn:n<vals.length:=by omega
 refine bQ ?_;rw[Vd,U4 hn];simp[List.getD,U4 hn]
theorem UM{f:B}{A:%[|48]}(h:fm n f A):(aV f A).length<=64:=by
 have:=ip f A λ a ha=>(h.ax.2 a ha).1;have:=h.pr;omega
theorem Ff{d e:PyData}(hx:dC H 6 (.ref p)=U d)(hy:dC H 6 y=U e)(q:Q (.bl (PyData.eqv d e)) H):qEq Â (.ref p) y H Q:=by
 rw[eX,hx]
 show aM (dC H 6 y) (Js Â H Q d)
 rw[hy];exact q
theorem FE{x:V}{d:PyData}(hd:dC H 6 x=U d)(e:PyData.eqv d d=L)(k:Q (.bl L) H):qEq Â x x H Q:=by
 unfold qEq
 by_cases hs:MX x x=L
 ·rw[Ve hs]
  show Q (.bl (decide (x=x))) H
  rw[Vi J];exact k
 ·rw[U7 hs,hd]
  show aM (dC H 6 x) (Js Â H Q d)
  rw[hd]
  show Q (.bl (PyData.eqv d d)) H
  rw[e];exact k
theorem Ib{nv:G NVw}{x m:V}(h2:2<=i)(h4:i<5)(ha:ay t H h st l D Pp vals nv [])(nb:iE H nv x)(q:∀ (r:Z) (H':Hp),Ext H H'->H' r=U (.tup [.str "name",x])->Q (.ref r) H'):yk t H Q h x y m i:=by
 let z:∀ dx H',Ext H H'->H' dx=U (.xd [("name",x)])->EXo t Q (.ref t.a_L8) (U dx) H':=λ dx H' e g=>{0,x,by decide,J,{(dx),J,g},λ r a3 e' g'=>q r a3 (e.trans e') g'};obtain rfl|rfl|rfl:i=2\/i=3\/i=4:=by omega
 ·exact{λ _ _=>False,EXo t _,.inl {h,x,J,st,l,D,Pp,vals,nv,[],ha,nb,z},λ _ _ h=>h.elim,λ _ _ _ h=>h}
 ·exact{λ _ _=>False,EXo t _,.inl {h,x,J,st,l,D,Pp,vals,nv,[],ha,nb,z},λ _ _ h=>h.elim,λ _ _ _ h=>h}
 ·exact{λ _ _=>False,EXo t _,.inl {h,x,J,st,l,D,Pp,vals,nv,[],ha,nb,z},λ _ _ h=>h.elim,λ _ _ _ h=>h}
def QF(c:B)(t:Adr)(H1:Hp)(D S:Z)(vals:G B)(wa wb:G SRw)(w0:SRw)(r:Z)(fd:V)(H3:Hp):Prop:=H3 r=U (.tup [.str "told",fd])/\H3 S=U (.lst ((wa++w0::wb).map λ w=>V.ref w.r))/\Ext (cj [D,S] H1) (cj [D,S] H3)/\(∀ zo,Ext zo H1->zo D=Y->Ext zo H3) /\
 ((c=0/\fd=.non/\H3 D=U (.dK (nvD ((wa++wb).map SRw.nv)))/\(∀ b o,b≠D->H1 b=U o->H3 b=U o))\/(c=1/\Ext H1 H3/\fd=.ref w0.nv.ad)\/(c=2/\Ext H1 H3/\∃ p,fd=.ref p/\H1 p=Y/\H3 p=U (.lst ((nQ vals (aV w0.nv.f w0.nv.A)).map V.int))))
theorem Ia{S:Z}{wa wb:G SRw}{w0:SRw}{m:V}(c0:0<=c)(c3:c<3)(si:StI t H h st l D Pp S vals (wa++w0::wb)):yk t H (λ v H3=>∃ r fd,v=.ref r/\QF c t H D S vals wa wb w0 r fd H3) h (.str w0.nv.nm) y m (2+c.toNat):=by
 let hm:w0∈wa++w0::wb:=VI.mpr (.inr Vq);let ro:=si.ro w0 hm;let nd:=si.nd;let ha:=si.hall;let hp:w0.nv∈(wa++w0::wb).map SRw.nv:=U8.mpr {(w0),hm,J};obtain rfl|rfl|rfl:c=0\/c=1\/c=2:=by omega
 ·refine{QTn _,λ _ _ _=>False,.inr {h,w0.nv.nm,J,st,l,D,Pp,vals,_,[],w0.nv,ha,nd,hp,J,ro.2.2.2.1,λ H' q1 q2 hD=>?_},λ _ _ h=>h,λ _ _ _ h=>h.elim};intro r H2 e2 h2;refine{r,.non,J,h2,e2.at (q2 _ _ (λ e=>si.ne e.symm) si.hS),fv λ b o b1 _ q=>e2.at (q2 b o b1 q),λ zo g gD=>(q1 zo g gD).trans e2,.inl {J,J,e2.at (by rw[hD,HD nd]),λ b o b1 q=>e2.at (q2 b o b1 q)}}
 ·refine{QTo _,λ _ _ _=>False,.inr {h,w0.nv.nm,J,st,l,D,Pp,vals,_,[],w0.nv,ha,nd,hp,J,ro.2.2.2.1,λ H' e=>?_},λ _ _ h=>h,λ _ _ _ h=>h.elim};intro r H2 e2 h2;let a3:=e.trans e2;exact{r,_,J,h2,a3.at si.hS,cq a3,λ zo g _=>g.trans a3,.inr (.inl {(J),a3,J})}
 ·refine{QTo _,λ _ _ _=>False,.inr {h,w0.nv.nm,J,st,l,D,Pp,vals,_,[],w0.nv,ha,nd,hp,J,ro.2.2.2.1,λ p hp=>?_,λ p H' hf e h1=>?_},λ _ _ h=>h,λ _ _ _ h=>h.elim}
  ·let(w,hw,rfl):=U8.mp hp;let(_,_,ok,_,vx):=si.ro w hw;exact{vx.ext (az _ _),ok.ax,by have:=ok.pr;omega,ok.on J}
  intro r H2 e2 h2;let a3:=e.trans e2;exact{r,_,J,h2,a3.at si.hS,cq a3,λ zo g _=>g.trans a3,.inr (.inr {J,a3,p,J,hf,e2.at h1})}
abbrev B2(t:Adr)(K:PySem.W.Frag)(a:Z)(ns:G B)(k:B)(h:Z)(S:Z)(lv:Z)(H:Hp)(Q:VK)(E:XK):Prop:=SqL K H a (ns.map V.int)/\ns.length<=63/\0<=k/\k<900/\∃ (st l D Pp:Z) (vals:G B) (ws:G SRw),StI t H h st l D Pp S vals ws/\H lv=%[vals|46]/\ws.length<=90/\∀ (H':Hp) (ws':G SRw),StI t H' h st l D Pp S vals ws'->ws'.length<=ws.length+1->(∀ zo,Ext zo H->zo D=Y->zo S=Y->Ext zo H')->Q (.bl L) H'
def JG(t:Adr)(K:Å)(a:Z)(ns:G B):Sp:=λ vs H Q E=>∃ (k:B) (h:Z) (S:Z) (lv:Z),vs=[.ref a,.int k,.ref h,.ref S,.ref lv]/\(B2 t K a ns k h S lv H Q E)
theorem MH(t:Adr)(K:Å)(a:Z)(ns:G B)(k:B)(h:Z)(S:Z)(lv:Z)(H:Hp)(Q:VK)(E:XK):JG t K a ns [.ref a,.int k,.ref h,.ref S,.ref lv] H Q E=(B2 t K a ns k h S lv H Q E):=QJ (f:=λ (k:B) (h:Z) (S:Z) (lv:Z)=>[.ref a,.int k,.ref h,.ref S,.ref lv]) %[8,4|63] k h S lv
theorem yy(T:Tx K mg t)(a:Z)(ns:G B):%[13,G3|49] %[|125] (JG t K a ns):=by
 let G_DT:=%[dg|84] a ns;let G_GK:=%[gL|84] a ns;intros yT cU DF qy DH fP;refine T.F_G3.ok eY (λ _ _ _ _ h=>EL h λ _ _ _ _=>J) (λ cdv A' outer s H vs Q E hr h=>?_)
 ·let(kk,h,S,lv,rfl,hS,hl,k0,k9,st,l,D,Pp,vals,ws,si,hv,hw,k):=h;refine{_,%[(@l0 _ _ (5) _ _ _ _ eY.nd J (Or.inr J) %[GK,%[0,%[1|1]|1]|3] ∅ %[|7]),%[%[6,eY,%[aI,99,%[DT,%[0,%[%[aI,1,99|11],%[99|1]|1]|1]|3]|11]|4],%[(@om _ _ _ _ _ _ %[DH,%[6,%[2,%[5,%[(@aZ _ _ _),%[(@aZ _ _ _)|1]|1]|1]|1]|1]|3] (%[(2),%[%[7,eY|5],%[%[8,eY|5],(@bD _)|22]|22]|39].mono λ _ _ _ _ h=>dI h) ∅ ∅ ∅),%[%[%[%[%[yT,%[5,%[3|1]|1]|3]|26]|25],%[%[%[%[(aO hr.units),7,(@aH _ _ _ _),(ai _)|29],%[%[(aO hr.units),8,5,(ai _)|29]|75]|38]|12]|10],(@aj _)|14],%[%[9,eY,%[eA,%[(%[|107]),(1),(aP (aa gv) %[|105] J J nofun),%[3|28],%[%[(0),%[|107]|51]|72],%[(@Bq _ _ _ %[(aO hr.units),%[eA,0,99|17],6,(ai _)|13])|72],%[%[0|0]|72]|27],99|17]|4],%[%[%[(aO hr.units),6,99,(ai _)|13],%[%[%[PySem.F.plainAttrs_list,PySem.F.slot_list_remove,PySem.F.type_list_remove,(Ct hr.units),3,%[9|1]|41]|16],%[%[%[(aO hr.units),%[%[7,%[8|1]|1]|19],%[%[(@aH _ _ _ _),%[(@aZ _ _ _)|1]|1]|19],(ai _)|29]|12]|10]|9],(@aj _)|14],%[%[%[(aO hr.units),6,99,(ai _)|13],%[%[%[%[(aO hr.units),7,(@aH _ _ _ _),(ai _)|29],%[%[isinstance,(Ej (K:=K) J),%[8,%[%[(.ref t.a_aa0),_,_,T.m_aa0,J|35]|1]|1]|6],%[%[(aO hr.units),%[%[%[8|15],%[%[8|15],%[%[8|15]|1]|1]|1]|19],%[eA,9,99|17],(ai _)|29]|75]|38]|38]|12]|10],(@aj _)|14],%[%[(PW.pt %[%[(gp hr.units),7,(@aH _ _ _ _),(ai _)|13],%[%[%[%[isinstance,bF,%[8,%[(@dn _ _ (.ty "list") (.type "list") _ ∅ T.z_list nofun J ⋯ ⋯)|1]|1]|6]|26]|25],%[%[(gp hr.units),8,%[(%[|108]),(1),(aP (aa gv) %[|105] J J nofun),%[%[DF,%[%[eA,9,99|17]|1]|3]|28],%[%[(0),%[|108]|51]|72],%[(@aY _)|72],%[%[eA,5,0|17]|72]|27],(ai _)|13]|40]|36]|36]),%[%[(@fq _ _ _ _)|12]|10],(@aj _)|14],%[%[%[PySem.F.plainAttrs_list,PySem.F.slot_list_append,PySem.F.type_list_append,cw,8,%[99|1]|41]|16],%[%[(@fq _ _ _ _)|12]|10]|9]|9]|9]|9]|9]|9]|9]|9]|9],?_};rw[%[%[|105],[.ref a,.int kk,.ref h,.ref S,.ref lv],5|53]];clear G_DT G_GK G_yT G_DF G_DH;exists k;exists si;let v1:=(si ()).v1;ac_rfl;rw[jy];refine{hS,hl,k0,by omega,λ x H1 e1 hx=>?_};let d5:=e1.2 K a _ hS;exists hx;clear hS;ac_rfl;rw[dD];refine{d5,hl,{by omega,by omega},by decide,λ c c0 c1=>?_};ac_rfl;let s1:=(si ()).move e1;let(c9,hh):=s1.ob;replace hh:=(az _ _).at hh;let a7:=e1.at hv;clear hv;let rl:(iu ws).length<=100:=by unfold iu;rw[length_map];omega
  let ef:PyData.strOk (Ô "name")=L:=nofun
  let ej:PyData.strOk (Ô "told")=L:=nofun
  rw[bG]
  rcases xj (hx ()) ws with cx|⟨z,rfl,hz,cH⟩
  ·let(d',cT,dc):=(hx ()).2;exists cT;refine{2+c.toNat,c9,st,D,Pp,by omega,by omega,hh,Ib %[|8] %[|8] s1.hall (IU cx) λ r H2 e2 h2=>?_};let de:=e2.at s1.hS;let dh:=(s1.rw').ext e2;let y2:=cx.imp (λ q=>q.ext e2) id;exists s1;clear hh a7 cx;ac_rfl;refine sv de dh rl y2 λ H3 e3=>?_;let a3:=e2.trans e3;let h3:=e3.at h2;let k2:=k () H3 ws ((s1 ()).move a3) %[|8] (λ zo g _ _=>g.trans (e1.trans a3));let d6:=λ f=>cT () H3 f a3;clear k de dh y2 h2;ac_rfl;exact FE (d6 _) dc k2
  ·let(w0,bW,cV,d7,dm):=xt cH;let(wa,wb,rfl):=List.append_of_mem cV;subst d7;refine{2+c.toNat,c9,st,D,Pp,by omega,by omega,hh,Ic ?_ (Ia c0 c1 s1)};rintro _ H3 ⟨r,fd,rfl,h3,cZ,c3,g3,out⟩;exists out
   let el:lv≠S:=λ e=>by
    have:=a7;rw[e,s1.hS] at this
    injection this with this
    injection this with this
    cases hvl:vals with
    | nil=>rw[hvl] at v1;simp at v1
    | cons a b=>rw[hvl] at this;cases wa<;>simp at this
   let a8:∀ w∈wa++w0::wb,ji t (cj [D,S] H3) vals.length w:=λ w hw=>(s1.ro w hw).ext c3;let b4:=R0 a8 (az _ _);exists s1;exists a8;exists b4;exists dm;exists g3;clear hh;ac_rfl;refine oI cZ (b4 ()) rl hz cH λ H4 e4=>?_;let h4:=e4.at h3;let b5:=e4.at cZ;let d8:=(b4 ()).ext e4;let dr:=(a8 () w0 cV).ext ((az _ _).trans e4);clear h3 cZ b4 cH;ac_rfl;let c5:∀ w∈wa++w0::wb,ji t H4 vals.length w:=λ w hw=>(a8 () w hw).ext ((az _ _).trans e4);let wk:=lV (K:=K) (R:=λ (w:SRw) y H'=>y=V.ref w.r/\H' w.r=U (.tup [.str w.nv.nm,.ref w.q])) (λ _ _ _ _ ⟨a,b⟩ e=>{a,e.at b}) b5 (uZ c5);refine bb (wa++w0::wb) (λ w=>decide (w.nv.nm=w0.nv.nm)) (λ w=>.ref w.r) _ wk.1 wk.2 (ak %[|8]) ?_ ?_
   ·rintro D' w x H' N1 N0 hp hD e ⟨rfl,hr⟩ k1 k0;let b6:=λ q=>k1 q H' (Ext.refl _);let c6:=λ q=>k0 q H' (Ext.refl _);let en:PyData.strOk w.nv.nm=L:=fU (c5 w hp).2.2.2.1.asc;let ep:PyData.strOk w0.nv.nm=L:=fU hz.asc;clear k1 k0 k h4 b5 wk
    by_cases hpy:w.nv.nm=w0.nv.nm
    ·let k2:=b6 (Vi hpy);clear b6 c6;simp! only[↓aN,↓aT]
    ·let k2:=c6 (VE hpy);clear b6 c6;simp! only[↓aN,↓aT]
   intro xL H5 hL e5 h5;rw[Hy (s1 ()).nd] at h5;let c7:H5 xL=U (.lst [.ref w0.r]):=h5;let at0:atI [V.ref w0.r] 0=U (.ref w0.r):=rfl;let a9:=e5.at h4;let b3:=e5.at b5;let b8:=dr.ext e5;let a4:=e4.trans e5;replace out:=(out ());exists b8;replace at0:=at0;clear h5 wk h4 b5 d8 dr c5 rl c0 c1 dm cV;ac_rfl
   rcases out with ⟨rfl,rfl,d9,k3⟩|⟨rfl,a3,rfl⟩|⟨rfl,a3,p,rfl,dv,dy⟩
   ·rw[Ve ⋯];let cv:∀ w∈wa++w0::wb,ji t H5 vals.length w:=λ w hw=>(a8 () w hw).ext ((az _ _).trans a4);let nd:=(s1 ()).nd
    let hE:((wa++w0::wb).map λ w=>V.ref w.r).eraseIdx wa.length=(wa++wb).map λ w=>V.ref w.r:=by
     have:=N6 (V.ref w0.r) (wa.map λ w=>V.ref w.r) (wb.map λ w=>V.ref w.r);rw[U2] at this;rw[Vw,Vs,this,Vw]
    refine ym b3 (Bk (b8 ()) 1) (wY cv) (sm _ _ _ _ (wG nd).1) ?_;rw[hE];let ew:r≠S:=λ e=>by rw[e,b3] at a9;cases a9
    let h6:upd H5 S (.lst ((wa++wb).map λ w=>V.ref w.r)) S=U (.lst ((wa++wb).map λ w=>V.ref w.r)):=ag;let s6:StI t (upd H5 S (.lst ((wa++wb).map λ w=>V.ref w.r))) h st l D Pp S vals (wa++wb):=(s1 ()).cut (λ b o b1 b2 q=>(ah b2).trans (a4.at (k3 b o b1 q))) ((ah (s1 ()).ne).trans (a4.at d9)) h6;let x6:∀ zo,Ext zo H->zo D=Y->zo S=Y->Ext zo (upd H5 S (.lst ((wa++wb).map λ w=>V.ref w.r))):=λ zo g gD gS=>((g3 () zo (g.trans e1) gD).trans a4).put gS;generalize upd H5 S (.lst ((wa++wb).map λ w=>V.ref w.r))=H6 at h6 s6 x6 ⊢;exists s6;exists x6;clear b3 a9 c7 cv hE h6;ac_rfl;intro t1 H7 _ e7 h7;ac_rfl;intro t2 H8 _ e8 h8;let ey:=e8.at h7;let dN:=e7.trans e8;let k2:=k () H8 _ ((s6 ()).move dN) (by simp only[Va,Vo];omega) (λ zo g gD gS=>(x6 () zo g gD gS).trans dN);clear k h7;ac_rfl;rw[Vr];exact k2
   ·rw[U7 ⋯,Ve ⋯];let(c8,cc,a5,_,cg):=b8 ();let(dx,L2,a6,tL):=cg.ob;let(D2,d0,tq):=cc;let c1:=T.qA1;let c2:=T.qAd;let ez:=T.qAc;let c4:=T.qAi;let f1:=dS vals.length w0.nv.f L2;let f2:=dH vals.length w0.nv.f L2;let f3:=g6 vals.length w0.nv.f L2;exists tL;exists tq;exists a5;clear b3 a9 c7 a7 cg;refine Kf a6 T.is_View ?_;ac_rfl;intro q6 H6 _ e6 h6;let ck:=e6.at a6;let ea:=e6.at d0;let eD:=e6.at c8;let eb:rn H6 q6 vals.length w0.nv.f w0.nv.A:={L2,h6,(tL ()).ext e6};let ec:rn H6 w0.q vals.length w0.nv.f w0.nv.A:={D2,ea,(tq ()).ext e6};let d1:=a3.trans (a4.trans e6);let k2:=k () H6 _ ((s1 ()).move d1) %[|8] (λ zo g gD gS=>g.trans (e1.trans d1));clear k c8 a6 d0;simp! only[-eX,-eZ];refine Ff (AW eb 2) (AW ec 2) ?_;rw[dQ,aE,aE,aE,iO,iO,js,pE,cf,Vi J,Vi J];exact k2
   ·rw[U7 ⋯,U7 ⋯];let d2:=a4.at dy;let a6:=(a3.trans a4).at a7;let(c8,cc,a5,_,cg):=b8 ();exists cc;exists a5;clear b3 a9 c7 a7 cg dy;ac_rfl;rw[zF];refine{_,w0.nv.f,w0.nv.A,cc (),a5 (),λ r6 H6 _ e6 h6=>?_};let cm:=e6.at d2;let ck:=e6.at a6;let d3:=(a5 ()).on J;let ed:=UM (a5 ());generalize hcs:aV w0.nv.f w0.nv.A=cs at cm h6 d3 ed;clear d2 a6 hcs;ac_rfl;refine bb (cs.map V.int) (λ _=>L) (λ z=>.int (vals.getD (vi z).toNat 0)) (λ z x H'=>x=z/\H' r6=%[cs|46]) (iB h6).1 (iB h6).2 (ak (by rw[U2];omega)) ?_ ?_
    ·intro D z x H' N1 N0 hz hD e ⟨hx,_⟩ k1 _;subst hx;let(i,hi,rfl):=U8.mp hz;let b6:N1 (.int (vals.getD i.toNat 0)) H':=k1 J H' (Ext.refl _);let eG:=Kw d3 hi;let cT:=e.at ck;clear k1 hz ck h6 cm k;simp! only[↓aN,↓aT]
    intro D7 H7 ee e7 h7;rw[lT] at h7;replace h7:H7 D7=U (.lst ((nQ vals cs).map V.int)):=by rw[h7];unfold nQ;rw[map_map,map_map];rfl
    let eH:=e7.at cm;let e0:(nQ vals cs).length<=4096:=by unfold nQ;rw[length_map];omega
    replace e6:=e6.trans e7;clear h6 cm ck ee;ac_rfl;refine{jk %[|8],?_};let d4:=(a3.trans a4).trans e6;let s8:=((s1 ()).move (d4.put dv (o:=.lst ((nQ vals cs).map V.int++[V.int 0]))));exact k () _ _ s8 %[|8] (λ zo g gD gS=>(g.trans e1).trans (d4.put dv))
theorem iC{a b:Z}(h:H a=U o)(h':H b=Y):a≠b:=λ e=>by rw[e,h'] at h;cases h
def qe{c:TT}{t u:TS}{D:gX}{σ:St}(R:Ý->Hp->Prop)(h:∀ Qb:Ý->Hp->Prop,(∀ b H',R b H'->Qb b H')->c σ H Qb)(k:∀ b H',R b H'->RH t u D σ b H'):MW c t u D σ H:=h _ k
theorem ay.keep{nv:G NVw}{ps:G V}(a:ay t H h st l D Pp vals nv ps)(hp:H p=U (.lst xs))(nl:l≠p)(nP:Pp≠p)(k:∀ b o,b≠p->H b=U o->H' b=U o):ay t H' h st l D Pp vals nv ps:=by
 let((dx,h1),((dy,h2),h3),h4,h5):=a;let n:∀ {b:Z} {o:HO},H b=U o->(∀ ys,o ≠ .lst ys)->b≠p:=λ hb ho e=>by rw[e,hp] at hb;cases hb;exact ho _ J
 exact{⟨dx,k _ _ (n h1 λ _ h=>by cases h) h1⟩,⟨⟨dy,k _ _ (n h2 λ _ h=>by cases h) h2⟩,k _ _ nl h3⟩,k _ _ (n h4 λ _ h=>by cases h) h4,k _ _ nP h5}
theorem ay.cut{D0 S:Z}{nv:G NVw}{ps:G V}(a:ay t H h st l D Pp vals nv ps)(kv:G (Key × V))(a3:H D0=U (.dK kv))(xs:G V)(hS:H S=U (.lst xs))(nD:D≠D0)(nl:l≠S)(nP:Pp≠S):ay t (cj [D0,S] H) h st l D Pp vals nv ps:=by
 let((dx,h1),((dy,h2),h3),h4,h5):=a;let n:∀ {b:Z} {o:HO},H b=U o->b≠D0->b≠S->cj [D0,S] H b=U o:=λ hb n1 n2=>mn (by simp only[Vp,VD,Wa,X0];exact{(n1),n2}) hb;let d:∀ {b:Z} {o:HO},H b=U o->(∀ ys,o ≠ .dK ys)->b≠D0:=λ hb ho e=>by rw[e,a3] at hb;cases hb;exact ho _ J
 let s:∀ {b:Z} {o:HO},H b=U o->(∀ ys,o ≠ .lst ys)->b≠S:=λ hb ho e=>by rw[e,hS] at hb;cases hb;exact ho _ J
 exact{⟨dx,n h1 (d h1 λ _ h=>by cases h) (s h1 λ _ h=>by cases h)⟩,⟨⟨dy,n h2 (d h2 λ _ h=>by cases h) (s h2 λ _ h=>by cases h)⟩,n h3 (d h3 λ _ h=>by cases h) nl⟩,n h4 nD (s h4 λ _ h=>by cases h),n h5 (d h5 λ _ h=>by cases h) nP}
theorem ay.setD{nv a3:G NVw}{ps:G V}(a:ay t H h st l D Pp vals nv ps)(k:∀ b o,b≠D->H b=U o->H' b=U o)(hD:H' D=U (.dK (nvD a3))):ay t H' h st l D Pp vals a3 ps:=by
 let((dx,h1),((dy,h2),h3),h4,h5):=a;let n:∀ {b:Z} {o:HO},H b=U o->(∀ ys,o ≠ .dK ys)->b≠D:=λ hb ho e=>by rw[e,h4] at hb;cases hb;exact ho _ J
 exact{⟨dx,k _ _ (n h1 λ _ h=>by cases h) h1⟩,⟨⟨dy,k _ _ (n h2 λ _ h=>by cases h) h2⟩,k _ _ (n h3 λ _ h=>by cases h) h3⟩,hD,k _ _ (n h5 λ _ h=>by cases h) h5}
def Tr:aB "z":={(nofun),nofun,nofun,nofun}
theorem BG:∀ {ys:G V},(∀ y∈ys,∃ v:B,y=.int v)->∃ vs:G B,ys=vs.map V.int
 | [],_=>{[],J}
 | y::r,h=>by
  let(v,rfl):=h y Vq;let(vs,rfl):=BG λ z hz=>h z (Vb _ hz);exact⟨v::vs,J⟩
theorem md.floor(h1:1<=n)(h2:n<=60):md n 0 []:={⟨VM _,λ _ h=>by cases h⟩,h1,by omega,by show (0:B)<=0+0;omega,by show (0:B)+0<n;omega}
theorem ME(xs:G V):(lU xs (U 4) (U 44)).length<=40:=by
 unfold lU;rw[length_take,show (U (4:B))=U ((4:à):B) from J,show (U (44:B))=U ((44:à):B) from J,HT.sIx_nat,HT.sIx_nat];omega
theorem wR{H:Hp}{p:Z}:∀ {ns:G Ã},(∀ s∈ns,PyData.strOk s=L)->∀ m,aJ ((ns.map V.str).map (dC H (m+1)))=U (ns.map PyData.str)
 | [],_,_=>rfl
 | n::r,h,m=>by
  rw[Vs,Vs,kj,Ve (h n Vq)]
  show (aJ ((r.map V.str).map (dC H (m+1)))).map _=_
  rw[wR (p:=p) (λ s hs=>h s (Vb _ hs)) m];rfl
theorem rO:∀ ns:G Ã,PyData.eqvAll (ns.map PyData.str) (ns.map PyData.str)=L
 | []=>cf
 | n::r=>by rw[Vs,aE,iN,Vr,rO r];rfl
theorem pC{neg:Ý}{q:Z}{ns:G Ã}(hp:H p=U (.lst (ns.map V.str)))(hq:H q=U (.lst (ns.map V.str)))(ok:∀ s∈ns,PyData.strOk s=L)(k:Q (.bl (!neg)) H):qEq neg (.ref p) (.ref q) H Q:=by
 let d:∀ {x:Z},H x=U (.lst (ns.map V.str))->dC H 6 (.ref x)=U (.list (ns.map PyData.str)):=λ {x} hx=>by
  show (H x).bind (Ah (dC H 5))=_
  rw[hx]
  show (aJ ((ns.map V.str).map (dC H 5))).map PyData.list=_
  rw[wR (p:=x) ok 4];rfl
 rw[eX,d hp]
 show aM (dC H 6 (.ref q)) (Js neg H Q _)
 rw[d hq]
 show Q (.bl (if neg=L then !PyData.eqv (.list (ns.map PyData.str)) (.list (ns.map PyData.str)) else PyData.eqv (.list (ns.map PyData.str)) (.list (ns.map PyData.str)))) H
 rw[js,rO]
 cases neg<;>exact k
def LpI(t:Adr)(H0 H':Hp)(h st l D Pp S:Z)(vals:G B)(m:à):Prop:=∃ ws,StI t H' h st l D Pp S vals ws/\ws.length<=m/\∀ zo,Ext zo H0->zo D=Y->zo S=Y->Ext zo H'
abbrev MT(K:PySem.W.Frag)(a:Z)(H:Hp)(Q:VK)(E:XK):Prop:=∃ ns:G B,SqL K H a (ns.map V.int)/\ns.length<=63/\∀ H',Q (.bl L) H'
def An(K:Å):Sp:=λ vs H Q E=>∃ (a:Z),vs=[.ref a]/\(MT K a H Q E)
theorem OQ(T:Tx K mg t):%[14,law|49] ["_law_script"] (An K):=by
 refine T.F_law.ok lX (λ _ _ _ _ h=>jW h λ _=>J) (λ cdv A' outer s H vs Q E hr h=>?_)
 ·let(a,rfl,ns,hS,hl,kk):=h;let G_DT:=%[dg|84] a ns;let G_GN:=%[tN|84] a ns;let G_GO:=%[tK|84] a ns;let G_G3:=%[yy|84] a ns;intros yX lj DL gM DP kU vL jQ Dz qD yV dz;let cH:=T.qA0;refine{_,%[%[1,lX,%[aI,99,%[DT,%[0,%[99,%[99|1]|1]|1]|3]|11]|4],%[(@Ky _ _ _ _ _ _ _ _ _ _ _ _ _ (%[|111]) (1) (2) _ lX.nd J (Or.inl J) (aP (aa j1) %[|100] J J nofun) %[T.z_range,%[1|1]|79] %[%[(0),%[|111]|51]|72] %[(@aY _)|72] %[%[aI,%[DT,%[1,%[%[aI,99,%[bP,0,99|11]|11],%[%[ma,99,99|11]|1]|1]|1]|3],%[eW,99,0|11]|11]|72] ∅ (by intros;rfl) %[|7]),%[%[3,lX,%[bo,T.z_list,%[2|1]|32]|4],%[%[4,lX,%[qDd,yX,m_aa1,av,%[3|1]|62]|4],%[(@om _ _ _ _ _ _ (@aZ _ _ _) (@IP _ _ _ _ _ _ _ %[3|0] %[|2] wW (by intros;rfl)) ∅ ∅ ∅),%[%[5,lX,%[qDd,yX,m_aa1,av,%[%[(%[|109]),(1),(aP (aa j1) %[|100] J J nofun),%[2|28],%[%[(0),%[|109]|51]|72],%[(@aY _)|72],%[%[aI,0,99|11]|72]|27]|1]|62]|4],%[%[%[%[5|0],qA0,qA9,DL,av,%[(@aH _ _ _ _),%[%[qC5,yV,m_aa0,av,%[1,%[99,%[%[(@eB _)|23]|1]|1]|1]|62]|1]|1]|60]|16],%[%[6,lX,%[(@eB _)|23]|4],%[%[V2,%[T.z_range,%[%[max,(jw J),%[99,%[%[len,aA,%[%[Bj,0,%[99|34],%[99|34]|37]|1]|6]|1]|1]|6]|1]|79],%[7,lX|5],%[%[8,lX,%[DT,%[0,%[%[aI,99,7|11],%[99|1]|1]|1]|3]|4],%[%[(PW.pt %[%[o7,8,99,(ai _)|13],(@gr _ _ _ _ %[%[%[GN,%[0,%[%[aI,99,7|11],%[4,%[6,%[1|1]|1]|1]|1]|1]|3]|26]|25])|78]),%[%[(@fq _ _ _ _)|12]|10],(@aj _)|14],%[%[(PW.pt %[%[o7,99,8,99|81],(@gr _ _ _ _ %[%[%[GO,%[0,%[%[aI,99,7|11],%[4,%[6|1]|1]|1]|1]|3]|26]|25])|78]),%[%[(@fq _ _ _ _)|12]|10],(@aj _)|14],%[%[(PW.pt %[%[iI,8,99,(ai _)|13],(@gr _ _ _ _ %[%[%[G3,%[0,%[%[aI,99,7|11],%[4,%[6,%[2|1]|1]|1]|1]|1]|3]|26]|25])|78]),%[%[(@fq _ _ _ _)|12]|10],(@aj _)|14],%[%[9,lX,%[%[4|0],qA0,qAw,Dz,av|61]|4],%[%[(PW.pt %[%[%[%[isinstance,bF,%[9,%[(@dn _ _ (.ty "list") (.type "list") _ ∅ T.z_list nofun J ⋯ ⋯)|1]|1]|6]|26]|25],%[%[(gp hr.units),9,%[(%[|101]),(1),(aP (aa j1) %[|100] J J nofun),%[6|28],%[%[(0),%[|101]|51]|72],%[(@aY _)|72],%[%[eA,0,99|17]|72]|27],(ai _)|13]|40]|36]),%[%[(@fq _ _ _ _)|12]|10],(@aj _)|14],%[%[%[Vn,VO,VN,cw,9,%[(@aH _ _ _ _)|1]|41]|16]|10]|9]|9]|9]|9]|9]|9]|43],%[%[9,lX,%[%[4|0],qA0,qAv,vL,av|61]|4],%[%[(PW.pt %[%[%[%[isinstance,bF,%[9,%[(@dn _ _ (.ty "list") (.type "list") _ ∅ T.z_list nofun J ⋯ ⋯)|1]|1]|6]|26]|25],%[%[(gp hr.units),9,2,(ai _)|13]|40]|36]),%[%[(@fq _ _ _ _)|12]|10],(@aj _)|14],%[%[(@OF _ _ _ _ _ _ _ _ _ Vn PySem.F.slot_list_clear PySem.F.type_list_clear Gi %[9|0] ∅ ∅)|16],%[%[(PW.pt %[%[(gp hr.units),%[%[5|0],qA0,qAw,Dz,av|61],%[%[(@aH _ _ _ _)|1]|23],(ai _)|13],%[%[(gp hr.units),%[%[5|0],qA0,qBe,DP,av,%[(@aH _ _ _ _)|1]|60],%[%[%[aI,%[eA,2,99|17],99|11]|1]|23],(ai _)|13]|40]|36]),%[%[(@fq _ _ _ _)|12]|10],(@aj _)|14],%[%[%[%[(aO hr.units),%[%[4|0],qA0,qAv,vL,av|61],2,(ai _)|29],%[%[(aO hr.units),%[%[4|0],qA0,qAw,Dz,av|61],%[(%[|101]),(1),(aP (aa j1) %[|100] J J nofun),%[6|28],%[%[(0),%[|101]|51]|72],%[(@aY _)|72],%[%[eA,0,99|17]|72]|27],(ai _)|29]|75]|38]|12]|10]|9]|9]|9]|9]|9]|9]|9]|9]|9]|9]|9]|9]|9],?_};rw[%[%[|100],[.ref a],9|53]];clear G_DT G_GN G_GO G_G3 G_yX G_DL G_DP G_vL G_Dz G_yV;exists kk;ac_rfl;rw[dD];refine{hS,hl,{by decide,by decide},by decide,λ rm nO nR=>?_};ac_rfl;generalize hroom:1+rm=room;let r1:1<=room:=by omega
  let p1:room<=60:=by omega
  clear hroom nO nR;refine{by omega,by omega,?_};refine lR (Ó room.toNat) (λ _=>L) (λ j x H'=>x=.int (0+(j:à))) (λ _ _ y _=>∃ v:B,y=.int v) kH.1 kH.2 (λ _ _ _ _ _ r _=>r) (λ _ _ _ _ _ r=>r) (ak (by rw[VZ];omega)) ?_ ?_
  ·intro D j x H' N1 N0 hz hD e _ hx k1 _;subst hx;let hj:j<room.toNat:=by simpa using hz
   let nT:=e.2 K a _ hS;let dc:=k1 rfl;let j0:0<=(3:B)+(0+(j:B)) % 40/\(3:B)+(0+(j:B)) % 40<1000:=by omega
   let cb:yd 7 (0+(j:B)):=.inr {by omega,by omega};exists dc;clear k1 kk hz;simp! only[↓aN,↓aT];rw[dD];refine{nT,hl,j0,by decide,λ z z0 z1=>?_};simp! only[↓aN,↓aT];exact dc () _ H' (Ext.refl _) {_,J}
  intro vl ws H2 n0 e2 h2 al;rw[lT] at al;let h7:ws.length=room.toNat:=by rw[al.1,VZ]
  let(vals,rfl):=BG (ys:=ws) λ y hy=>by
   let(i,hi,rfl):=WN hy;exact al.2 i i _ (by rw[X4 %[|8]]) (U4 hi)
  rw[U2] at h7;let g5:1<=vals.length:=by omega
  let fh:vals.length<=60:=by omega
  let n2:room=(vals.length:B):=by omega
  let n3:(vals.map V.int).length<=60:=by rw[U2];exact fh
  clear al h7;subst n2;ac_rfl;intro vc H3 hg e3 h3;let hh:=e3.at h2;let hq:=e2.trans e3;let ic:vl≠vc:=iC h2 hg;let ih:H vc=Y:=e2.free hg;clear h2 hg;ac_rfl;intro h n4 G1 ij iv _ g1 kh _;rw[sF];refine{n4,vals,kh,g1.at h3,g5,by omega,λ H4 st l D Pp hE ht eG hD hP n5 ha=>?_};let eH:=hE H3 g1 ij;let iz:=hq.trans eH;let i1:=eH.at hh;let i5:=eH.at h3;let jz:l≠vc:=Ne.symm (iC (g1.at h3) eG);let j3:Pp≠vc:=Ne.symm (iC (g1.at h3) hP);let D0:H D=Y:=hq.free (g1.free hD);let j4:vl≠D:=iC (g1.at hh) hD;exists ha;clear hE g1 kh h3 hh ht eG hD hP eH iv n0 n5;let n6:ixN vals.length 0=U 0:=by unfold ixN;rw[if_pos (Int.le_refl 0),if_pos %[|8]];rfl
  ac_rfl;let hu:Ext H (upd H4 vc (.lst ((vals.map V.int).set 0 .non))):=iz.put ih;let k5:∀ b o,b≠vc->H4 b=U o->(upd H4 vc (.lst ((vals.map V.int).set 0 .non))) b=U o:=λ b o n q=>(ah n).trans q;generalize upd H4 vc (.lst ((vals.map V.int).set 0 .non))=H5 at hu k5 ⊢;let hv:=(ha ()).keep i5 jz j3 k5;let de:=k5 _ _ ic i1;exists hv;clear n6 i5 i1 k5 ha jz j3 iz;ac_rfl;refine bb (vals.map V.int) (λ _=>L) (λ z=>.int (vi z+1)) (λ z x H'=>x=z/\H' vl=%[vals|46]) (iB de).1 (iB de).2 (ak (by rw[U2];omega)) ?_ ?_
  ·intro D z x H' N1 N0 hz hD e ⟨hx,_⟩ k1 _;subst hx;let(i,hi,rfl):=U8.mp hz;let dc:N1 (.int (i+1)) H':=k1 J H' (Ext.refl _);clear k1 hz de kk;simp! only[↓aN,↓aT]
  intro vb H6 n7 e6 h6;rw[lT] at h6;replace h6:H6 vb=U (.lst ((vals.map λ z=>z+1).map V.int)):=by rw[h6,V1,V1];rfl
  let dh:=(hv ()).ext e6;let kq:=e6.at de;let kv:=hu.trans e6;let hA:(vals.map λ z=>z+1).length=vals.length:=U2 _;obtain⟨b2,cV⟩:∃ v2,v2=vals.map λ z=>z+1:={_,J};rw[←cV] at h6 hA;exists dh;exists cV;clear de hv hu e6 n7;ac_rfl;intro hb n9 G7 kx kE _ g7 kb _;rw[sF];refine{n9,b2,kb,g7.at h6,by omega,by omega,λ H7 sb lb Db Pb hE ht eG hD hP _ dm=>?_};let kQ:=hE H6 g7 kx;let kS:Db≠D:=Vz (iC (g7.at (dh ()).dk) hD);let kT:H6 Db=Y:=g7.free hD;exists dm;let(o5,oe):=(dm ()).ob;let fc:=aL sb Db Pb (m := "call") nofun;clear hE g7 kb h6 ht eG hD hP kE;ac_rfl;intro lz H8 _ e8 h8;let tA:bM H8 lz (axL []):={[],h8,Al.nil};let hB:=kQ.trans e8
  let e0:ug [D,Db] H8:=λ s hs=>by
   rcases Vp.mp hs with rfl|hs
   ·exact .inr {_,hB.at (dh ()).dk}
   ·rw[Vh.mp hs];exact .inr {_,e8.at (dm ()).dk}
  exists e0;clear h8 kQ;ac_rfl;intro ov k4 G9 k8 _ _ g9 k9 _;rw[mO];refine{k4,[],k9,bM.ext tA g9,md.floor %[|8] %[|8],λ H9 D9 gg la fo lk=>?_};let dr:=gg H8 g9 k8;let lq:=hB.trans dr;let l2:=(e0 ()).ext dr;let vo:aW t.a_aa0 (cj [D,Db] H9) ov vals.length 0 []:={k4,D9,cp l2 fo (λ _ h=>by cases h),cX (e0 ()) dr (g9.free la) lk};let e1:=(dm ()).ext (e8.trans dr);exists vo;exists e1;clear k9 gg la fo lk tA g9 k8 e0 l2 dm e8 dr hB;ac_rfl;rw[sG];refine{sb,lb,Db,Pb,b2,[],[],0,[],e1 (),Tr,(λ _ h=>by cases h),VM _,by rw[hA];exact(vo ()).ext (az _ _),{VM _,λ _ h=>by cases h},by decide,λ l3 q1 q2 fu=>?_};let b4:=q1 H6 lq kT;let cc:ay t l3 hb sb lb Db Pb b2 [⟨"z",ov,0,[]⟩] []:=(e1 ()).setD q2 fu;let dv:=(dh ()).ext b4;let dN:=b4.at kq;let d0:=kv.trans b4;exists q2;exists cc;exists dv;clear q1 fu e1 dh kq kv b4 fc oe;ac_rfl;intro S b5 cZ c2 d1;let S0:H S=Y:=d0.free cZ
  let e4:StI t b5 h st l D Pp S vals []:=by
   let((dx,a1),((dy,a2),a3),a4,a5):=dv ()
   let n:∀ {b:Z} {o:HO},l3 b=U o->(∀ ys,o ≠ .dK ys)->cj [D,S] b5 b=U o:=λ {b} {o} hb ho=>mn (by
    simp only[Vp,VD,Wa,X0];exact{λ e=>(by rw[e,a4] at hb;cases hb;exact ho _ J),iC hb cZ}) (c2.at hb)
   exact{⟨dx,n a1 (λ _ h=>by cases h)⟩,⟨⟨dy,n a2 (λ _ h=>by cases h)⟩,n a3 (λ _ h=>by cases h)⟩,n a5 (λ _ h=>by cases h),c2.at a4,d1,(λ _ h=>by cases h),X2,g5,fh}
  let d2:aW t.a_aa0 (cj [D,S] b5) ov vals.length 0 []:=(vo ()).ext (nM.ext λ b o hb=>by
   let n:=BQ hb;simp only[Vp,VD,Wa,X0] at n;let h9:=q2 () b o n.2 ((az _ _).at hb);refine mn ?_ (c2.at h9);simp only[Vp,VD,Wa,X0];exact{n.1,iC h9 cZ})
  let d3:ay t (cj [D,S] b5) hb sb lb Db Pb b2 [⟨"z",ov,0,[]⟩] []:=((cc ()).ext c2).cut _ e4.hD _ d1 kS (iC (cc ()).so.fl cZ) (iC (cc ()).pa cZ);let d4:cj [D,S] b5 vl=%[vals|46]:=mn (by simp only[Vp,VD,Wa,X0];exact{j4,iC dN cZ}) (c2.at dN);let d5:=d0.trans c2;let d6:=d5.2 K a _ hS;exists e4;exists d2;exists d3;exists d4;clear vo cc dv q2 cZ c2 d1 d0 dN kS kT lq hq ic ih e2 e3 ij kx;ac_rfl;refine{a,_,J,d6,λ p hp=>?_};let cl:=ME (ns.map V.int);let e5:Ext b5 (upd b5 p (.lst (lU (ns.map V.int) (U 4) (U 44)))):=Ext.new hp;let fx:upd b5 p (.lst (lU (ns.map V.int) (U 4) (U 44))) p=U (.lst (lU (ns.map V.int) (U 4) (U 44))):=ag;generalize upd b5 p (.lst (lU (ns.map V.int) (U 4) (U 44)))=cg at e5 fx ⊢;generalize lU (ns.map V.int) (U 4) (U 44)=cv at *;let d7:=d5.trans e5;let hC:=λ (_:Unit)=>(e4 ()).move e5;let hF:=λ (_:Unit)=>cq (S:=[D,S]) e5;let d8:=λ (_:Unit)=>(d2 ()).ext (hF ());let d9:=λ (_:Unit)=>(d3 ()).ext (hF ());let ea:=λ (_:Unit)=>(hF ()).at (d4 ());clear e4 d2 d3 d4 d6 d5;ac_rfl
  let oj:(0:B)<=(if 8<(cv.length:B) then (cv.length:B) else 8)/\(if 8<(cv.length:B) then (cv.length:B) else 8)<=40:=by split<;>omega
  generalize (if 8<(cv.length:B) then (cv.length:B) else 8)=it at oj ⊢;refine{by omega,by omega,?_};clear fx;refine u9 (λ i σ H'=>∃ (v7 v8 v9:Ü V),σ=[%[a|45],U (.int (vals.length:B)),%[vl|45],%[vc|45],%[h|45],%[hb|45],%[S|45],v7,v8,v9]/\LpI t cg H' h st l D Pp S vals i) {Y,Y,Y,J,[],hC (),U6 _,λ _ g _ _=>g} ?_ ?_
  ·clear hC d8 d9;rintro i _ hI hi ⟨v7,v8,v9,rfl,ws,a9,hn,fr⟩;let pk:i<40:=by omega
   let eb:=(fr H d7 D0 S0).2 K a _ hS;exists a9;exists fr;clear hi kk;simp! only[↓cn];rw[dD];refine{eb,hl,{by omega,by omega},by decide,λ c c0 c1=>?_};clear c0;simp! only[-bw];refine qe (λ b H'=>b=Â/\LpI t cg H' h st l D Pp S vals (i+1)/\(3<=c->LpI t cg H' h st l D Pp S vals i)) (λ Qb a6=>?_) ?_
   ·exists a6
    by_cases h3:c<3
    ·ac_rfl;rw[EA];refine{eb,hl,by omega,by omega,st,l,D,Pp,vals,ws,a9 (),J,by omega,λ H' a7 s' l5 ck=>?_};let hk:=a6 () Â H' {J,{a7,s',by omega,λ zo g gD gS=>ck zo (fr () zo g gD gS) gD gS},λ q=>Þ h3 %[|8]};clear a6 ck;ac_rfl
    ·let hk:=a6 () Â hI {J,{ws,a9 (),by omega,fr ()},λ _=>{ws,a9 (),hn,fr ()}};clear a6;ac_rfl
   clear a9 fr hn eb;rintro b ec ⟨rfl,b1,lp⟩;exists b1;exists lp;simp! only[-bw];refine qe (λ b H'=>b=Â/\LpI t cg H' h st l D Pp S vals (i+1)/\(5<c->LpI t cg H' h st l D Pp S vals i)) (λ Qb a6=>?_) ?_
   ·exists a6
    by_cases h3:3<=c
    ·by_cases h6:c<6
     ·let(a7,l6,hn,fr):=lp () h3;let l7:=(fr H d7 D0 S0).2 K a _ hS;exists l6;exists fr;clear lp b1;ac_rfl;rw[Ez];refine{l7,hl,by omega,by omega,st,l,D,Pp,vals,a7,l6 (),by omega,λ H' hK s' l5 ck=>?_};let hk:=a6 () Â H' {J,{hK,s',by omega,λ zo g gD gS=>ck zo (fr () zo g gD gS) gD gS},λ q=>Þ h6 %[|8]};clear a6 ck;ac_rfl
     ·let hk:=a6 () Â ec {J,b1 (),λ _=>lp () h3};clear a6;ac_rfl
    ·let hk:=a6 () Â ec {J,b1 (),λ q=>Þ h3 %[|8]};clear a6;ac_rfl
   clear b1 lp;rintro b hM ⟨rfl,b1,lp⟩;exists b1;exists lp;simp! only[-bw];refine qe (λ b H'=>b=Â/\LpI t cg H' h st l D Pp S vals (i+1)) (λ Qb a6=>?_) ?_
   ·exists a6
    by_cases h5:5<c
    ·let(a7,mc,hn,fr):=lp () h5;let mu:=(fr H d7 D0 S0).2 K a _ hS;let fy:hM vl=%[vals|46]:=(fr (cj [D,S] cg) (az _ _) (mm (by simp)) (mm (by simp))).at (ea ());exists mc;exists fr;clear lp b1;ac_rfl;rw[MH];refine{mu,hl,by omega,by omega,st,l,D,Pp,vals,a7,mc (),fy,by omega,λ H' hK s' l5 ck=>?_};let hk:=a6 () Â H' {J,hK,s',by omega,λ zo g gD gS=>ck zo (fr () zo g gD gS) gD gS};clear a6 ck fy;ac_rfl
    ·let hk:=a6 () Â hM {J,b1 ()};clear a6;ac_rfl
   clear b1 lp;rintro b mv ⟨rfl,a7,ed,hn,fr⟩;let ee:=ed.hall;let(m1,m2):=ee.ob;let fn:=aL st D Pp (m := "names") nofun;exists ee;exists ed;exists fr;ac_rfl;rw[ko];refine{st,l,D,Pp,vals,_,[],ee (),by rw[U2];omega,λ r hN m3 cm cx=>?_};let ef:=cm.at (ed ()).hS;let b6:∀ w∈a7,ji t hN vals.length w:=λ w hw=>((ed ()).ro w hw).ext ((az _ _).trans cm);exists b6;clear m2 fn;ac_rfl;let wk:=lV (K:=K) (R:=λ (w:SRw) y H'=>y=V.ref w.r/\H' w.r=U (.tup [.str w.nv.nm,.ref w.q])) (λ _ _ _ _ ⟨a,b⟩ e=>{a,e.at b}) ef (uZ (b6 ()));refine bb a7 (λ _=>L) (λ w=>.str w.nv.nm) _ wk.1 wk.2 (ak %[|8]) ?_ ?_
   ·rintro D' w x H' N1 N0 hp hD e ⟨rfl,hr⟩ k1 _;let dc:=k1 rfl H' (Ext.refl _);clear k1 ef wk cx;simp! only[↓aN,↓aT]
   intro xL hO hL ej cT;rw[lT] at cT;let el:(a7.map λ w=>V.str w.nv.nm)=((a7.map SRw.nv).map NVw.nm).map V.str:=by rw[V1,V1];rfl
   let c3:hO xL=U (.lst (((a7.map SRw.nv).map NVw.nm).map V.str)):=by rw[←el];exact cT
   let f3:=ej.at cx
   let en:∀ s∈(a7.map SRw.nv).map NVw.nm,PyData.strOk s=L:=λ s hs=>by
    let(p,hp,rfl):=U8.mp hs;let(w,hw,rfl):=U8.mp hp;exact fU (b6 () w hw).2.2.2.1.asc
   let m4:=cm.trans ej;let oD:((a7.map SRw.nv).map NVw.nm).length<=90:=by rw[U2,U2];omega
   clear cT cx ef wk b6 el;generalize ((a7.map SRw.nv).map NVw.nm)=m8 at f3 c3 en oD;simp! only[-eX,-eZ];refine pC f3 c3 en ?_;ac_rfl;refine{jk %[|8],?_};let c8:=m4.put m3 (o:=.lst (m8.map V.str++[V.str "a"]));exact{_,_,_,J,a7,(ed ()).move c8,by omega,λ zo g gD gS=>(fr () zo g gD gS).trans c8}
  ·clear hC;rintro _ hI ⟨v7,v8,v9,rfl,ws,a9,hn,fr⟩;let e7:=fr (cj [D,S] cg) (az _ _) (mm (by simp)) (mm (by simp));let c4:=(d9 ()).ext e7;let f5:=(d8 ()).ext e7;let ep:=e7.at (ea ());let b3:=a9.hall;let(m1,nc):=b3.ob;let(pD,ew):=c4.ob;let fa:=aL st D Pp (m := "all_values") nofun;let fn:=aL st D Pp (m := "names") nofun;let p3:=bc sb Db Pb (m := "seen") nofun;let p4:=aL sb Db Pb (m := "names") nofun;exists c4;exists f5;exists a9;exists b3;clear fr e7 d9 d8 ea;ac_rfl;rw[xB];refine{st,l,D,Pp,vals,_,[],b3 (),by omega,λ r ec f6 hQ oL=>?_};let nf:=hQ.at ep;clear nc;ac_rfl;let c9:Ext hI (upd ec r (.lst [])):=hQ.put f6;generalize upd ec r (.lst [])=hM at c9 ⊢;let ey:=c9.at ew;let f7:=c9.at ep;clear nf oL f6 hQ ew ep;ac_rfl;rw[ko];refine{sb,lb,Db,Pb,b2,_,[],(c4 ()).ext c9,by simp,λ r1 mv _ hR e9=>?_};replace e9:mv r1=U (.lst (([("z":Ã)]).map V.str)):=e9;let ez:=hR.at ey;let f9:=hR.at f7;clear ey f7;ac_rfl;intro r2 hN _ cm cx;replace cx:hN r2=U (.lst (([("z":Ã)]).map V.str)):=cx;let gk:=cm.at e9;let hT:=cm.at ez;let gn:=cm.at f9;let a8:=c9.trans (hR.trans cm);clear ez f9 e9 c9;simp! only[-eX,-eZ];refine pC gk cx (λ s hs=>by rw[Vh.mp hs];decide +kernel) ?_;clear gk cx;ac_rfl;rw[EB]
   obtain⟨v0,vt,hW⟩:∃ v0 vt,vals=v0::vt:=by
    cases vals with
    | nil=>simp at g5
    | cons v r=>exact{(v),r,J}
   refine{sb,lb,Db,Pb,b2,_,[],_,(c4 ()).ext a8,Wf.mpr {by simp,X2},Vq,J,Tr,λ p hp=>?_,λ r3 hO _ ej cT=>?_}
   ·rw[Vh.mp hp];refine{by rw[hA];exact(f5 ()).ext a8,{VM _,λ _ h=>by cases h},(show (1:B)<=4096 by decide),λ c hc=>?_};rw[Vh.mp (show c∈[(0:B)] from hc)];omega
   replace cT:hO r3=U (.lst [.int (v0+1)]):=by rw[cT,cV (),hW];rfl
   let gs:=ej.at gn;let at0:atI (vals.map V.int) 0=%[v0|47]:=by rw[hW];exact bQ (j:=0) J
   let c5:=a8.trans ej;exists hW;clear hT gn a8;ac_rfl;intro r4 p8 _ c8 oN;let c3:=c8.at cT;let gx:=c8.at gs;let b8:=c5.trans c8;clear gs cT at0 c5;let(pT,gT):=((b3 ()).ext b8).ob;ac_rfl;rw[xB];refine{st,l,D,Pp,vals,_,[],(b3 ()).ext b8,by omega,λ r5 qa _ hX oT=>?_};let ng:=hX.at gx;let nq:=hX.at gT;clear c3 oN gx gT;ac_rfl;rw[ko];let c6:=b8.trans hX;refine{st,l,D,Pp,vals,_,[],(b3 ()).ext c6,by rw[U2];omega,λ r6 o2 _ o3 hY=>?_};let c7:=c6.trans o3;let eD:=c7.at (a9 ()).hS;let b6:∀ w∈ws,ji t o2 vals.length w:=λ w hw=>((a9 ()).ro w hw).ext ((az _ _).trans c7);exists b6;clear ng nq oT;ac_rfl;let wk:=lV (K:=K) (R:=λ (w:SRw) y H'=>y=V.ref w.r/\H' w.r=U (.tup [.str w.nv.nm,.ref w.q])) (λ _ _ _ _ ⟨a,b⟩ e=>{a,e.at b}) eD (uZ (b6 ()));refine bb ws (λ _=>L) (λ w=>.str w.nv.nm) _ wk.1 wk.2 (ak %[|8]) ?_ ?_
   ·rintro D' w x H' N1 N0 hp hD e ⟨rfl,hr⟩ k1 _;let dc:=k1 rfl H' (Ext.refl _);clear k1 eD wk hY kk;simp! only[↓aN,↓aT]
   intro xL nD hL o4 h4;rw[lT] at h4;let el:(ws.map λ w=>V.str w.nv.nm)=((ws.map SRw.nv).map NVw.nm).map V.str:=by rw[V1,V1];rfl
   let g0:nD xL=U (.lst (((ws.map SRw.nv).map NVw.nm).map V.str)):=by rw[←el];exact h4
   let g4:=o4.at hY
   let en:∀ s∈(ws.map SRw.nv).map NVw.nm,PyData.strOk s=L:=λ s hs=>by
    let(p,hp,rfl):=U8.mp hs;let(w,hw,rfl):=U8.mp hp;exact fU (b6 () w hw).2.2.2.1.asc
   let k2:=kk () nD;clear h4 hY eD wk b6 el;generalize ((ws.map SRw.nv).map NVw.nm)=m8 at g4 g0 en;simp! only[-eX,-eZ];exact pC g4 g0 en k2
end
theorem Ui{l:W.OpenLaw}{h:Ð}{fa:Z}(X:K.In h)(zo:h.Ns Ä mg)(Ze:mg "law"=%[fa|45])
  {C0:Z} (y0:Ò K Ä "PaceError"=U (%[C0|45]))
  {C1:Z} (y1:Ò K Ä "NoPlace"=U (%[C1|45]))
  {C2:Z} (y2:Ò K Ä "NoStep"=U (%[C2|45]))
  {C3:Z} (y3:Ò K Ä "NoCells"=U (%[C3|45]))
  {C4:Z} (y4:Ò K Ä "NoView"=U (%[C4|45]))
  {C5:Z} (y5:Ò K Ä "NoMove"=U (%[C5|45]))
  {C6:Z} (y6:Ò K Ä "TooMany"=U (%[C6|45]))
  {C7:Z} (y7:Ò K Ä "NoName"=U (%[C7|45]))
  {C8:Z} (y8:Ò K Ä "Known"=U (%[C8|45]))
  {C9:Z} (y9:Ò K Ä "View"=U (%[C9|45]))
  {ew:Z} (Zf:Ò K Ä "Store"=U (%[ew|45]))
  {b1:Z} (Zg:Ò K Ä "Hall"=U (%[b1|45]))
  {c9:Z} (Zh:Ò K Ä "Move"=U (%[c9|45]))
  {b2:Z} (Zi:Ò K Ä "Slice"=U (%[b2|45]))
  {b5:Z} (Zj:Ò K Ä "Pick"=U (%[b5|45]))
  {cZ:Z} (Zk:Ò K Ä "Turn"=U (%[cZ|45]))
  {cc:Z} (Zl:Ò K Ä "Spread"=U (%[cc|45]))
  (qB3:È K (.ref C9) "__class__"=U (U (.builtin "object.__class__")))
  (qB4:Û K C9 (.type "object")=U L)
  (qAz:W.excIn K C4 [.type "ValueError",.type "Exception",.type "BaseException",.type "object"] "ValueError.__new__"=L)
  (qAp:W.excIn K C5 [.type "ValueError",.type "Exception",.type "BaseException",.type "object"] "ValueError.__new__"=L)
  (qAu:W.excIn K C3 [.type "ValueError",.type "Exception",.type "BaseException",.type "object"] "ValueError.__new__"=L)
  (qB0:W.excIn K C2 [.type "ValueError",.type "Exception",.type "BaseException",.type "object"] "ValueError.__new__"=L)
  (qAg:Ù K (.ref C3) (.ref C2)=U Â)
  (qAe:Ù K (.ref C3) (.ref C3)=U L)
  (ocs:W.specialIn K (.builtin "object.__class__") "__get__"=U (U (.builtin "getset_descriptor.__get__")))
  (oct:W.takesIn K (.builtin "object.__class__")=U L)
  (xh:([C7,C8,C4,C5,C6,C3].all λ c=>Õ K c && Ú K (.ref c) == U (.type "type") && È K (.ref c) "__getattribute__" == U (U (.builtin "BaseException.__getattribute__")) && È K (.ref c) "__getattr__" == U Y && Û K c (.type "BaseException") == U L && Û K c (.type "object") == U L && È K (.ref c) "__class__" == U (U (.builtin "object.__class__")))=L)
  (xs:([C7,C8,C4,C5,C6,C3].all λ a=>[C7,C8,C4,C5,C6,C3].all λ c=>W.subIn K (.ref a) (.ref c) == U (a == c))=L)
  (xp:([C7,C8,C4,C5,C6,C3].all λ a=>W.subIn K (.ref a) (.type "ValueError") == U L && Ù K (.ref a) (.ref C0) == U L)=L)
  (xn:decide (List.Nodup [C7,C8,C4,C5,C6,C3])=L)
  (hard:decide (C5=L2.E5)=L)
  (soft:decide (C3=L2.E5)=Â)
  (xm:W.exmAny K (.ref C3) [.ref C2,.ref C3]=U L)
  (xb:W.subIn K (.ref C3) (.type "BaseException")=U L)
  {f0:Z} {d0:Á} (F0:Fun K "__init__" "TooMany.__init__" cE f0 d0)
  {f1:Z} {d1:Á} (F1:Fun K "__init__" "NoName.__init__" cQ f1 d1)
  {f2:Z} {d2:Á} (F2:Fun K "__init__" "Known.__init__" dw f2 d2)
  {f3:Z} {d3:Á} (a3:Ò K Ä "is_whole"=U (%[f3|45])) (F3:Fun K "is_whole" "is_whole" kf f3 d3)
  {f4:Z} {d4:Á} (a4:Ò K Ä "count_of"=U (%[f4|45])) (F4:Fun K "count_of" "count_of" kg f4 d4)
  {f5:Z} {d5:Á} (a5:Ò K Ä "is_number_below"=U (%[f5|45])) (F5:Fun K "is_number_below" "is_number_below" cO f5 d5)
  {f6:Z} {d6:Á} (a6:Ò K Ä "is_place"=U (%[f6|45])) (F6:Fun K "is_place" "is_place" g8 f6 d6)
  {f7:Z} {d7:Á} (a7:Ò K Ä "refuse_long"=U (%[f7|45])) (F7:Fun K "refuse_long" "refuse_long" fJ f7 d7)
  {f8:Z} {d8:Á} (a8:Ò K Ä "is_within"=U (%[f8|45])) (F8:Fun K "is_within" "is_within" iR f8 d8)
  {f9:Z} {d9:Á} (a9:Ò K Ä "is_size"=U (%[f9|45])) (F9:Fun K "is_size" "is_size" mD f9 d9)
  {vw:Z} {Zm:Á} (Zn:Ò K Ä "is_axis"=U (%[vw|45])) (I3:Fun K "is_axis" "is_axis" mE vw Zm)
  {vx:Z} {Zo:Á} (Zp:Ò K Ä "are_axes"=U (%[vx|45])) (I4:Fun K "are_axes" "are_axes" hG vx Zo)
  {v3:Z} {Zq:Á} (Zr:Ò K Ä "kept_axis"=U (%[v3|45])) (I5:Fun K "kept_axis" "kept_axis" iQ v3 Zq)
  {ra:Z} {Zs:Á} (I6:Fun K "__init__" "View.__init__" cB ra Zs)
  {rb:Z} {Zt:Á} (v5:Fun K "sizes" "View.sizes" eF rb Zt)
  {ri:Z} {Zu:Á} (v7:Fun K "paces" "View.paces" eI ri Zu)
  {rk:Z} {Zv:Á} (v8:Fun K "count" "View.count" gF rk Zv)
  {rl:Z} {Zw:Á} (v9:Fun K "cell" "View.cell" fB rl Zw)
  {rm:Z} {Zx:Á} (wa:Fun K "cells" "View.cells" gG rm Zx)
  {rq:Z} {Zy:Á} (wb:Fun K "least" "View.least" eJ rq Zy)
  {rr:Z} {Zz:Á} (wh:Fun K "greatest" "View.greatest" cA rr Zz)
  {wi:Z} {ZA:Á} (ZC:Ò K Ä "widened"=U (%[wi|45])) (I7:Fun K "widened" "widened" jt wi ZA)
  {ru:Z} {ZD:Á} (I8:Fun K "__init__" "Store.__init__" du ru ZD)
  {rv:Z} {ZE:Á} (w7:Fun K "all_values" "Store.all_values" cF rv ZE)
  {rx:Z} {ZF:Á} (w8:Fun K "refuse_room" "Store.refuse_room" b0 rx ZF)
  {ry:Z} {ZG:Á} (xg:Fun K "read" "Store.read" eK ry ZG)
  {x1:Z} {ZH:Á} (ZI:Ò K Ä "is_name"=U (%[x1|45])) (I9:Fun K "is_name" "is_name" gu x1 ZH)
  {r3:Z} {ZJ:Á} (J2:Fun K "__init__" "Hall.__init__" ek r3 ZJ)
  {r4:Z} {ZK:Á} (x2:Fun K "refuse_new" "Hall.refuse_new" cR r4 ZK)
  {r5:Z} {ZL:Á} (x4:Fun K "call" "Hall.call" i3 r5 ZL)
  {r6:Z} {ZM:Á} (x5:Fun K "make" "Hall.make" iZ r6 ZM)
  {r7:Z} {ZN:Á} (x6:Fun K "drop" "Hall.drop" i0 r7 ZN)
  {sb:Z} {ZO:Á} (x7:Fun K "view" "Hall.view" iX sb ZO)
  {sd:Z} {ZP:Á} (x9:Fun K "seen" "Hall.seen" iY sd ZP)
  {se:Z} {ZQ:Á} (yl:Fun K "names" "Hall.names" gJ se ZQ)
  {sg:Z} {ZR:Á} (yo:Fun K "all_values" "Hall.all_values" cS sg ZR)
  {J3:Z} {KX:O} {LI:Ü Z} {L0:à} {L1:Array (Ü O)}
  {sh:Z} {L3 Nc:Ü Z} {NT:Array (Ü O)} {N0 N1 N2 O3 vc O4:O}
  (ZS:Ò K Ä "span"=U (%[sh|45])) (ZT:K.lookup sh=U {N0,L3,.func (W.fnOf "span" "span" (dP oi) (cK oi) (aa oi) (.ref J3) N1 N2 O3 Nc vc O4),NT})
  (si:K.lookup J3=U {KX,LI,.seq #[É,É,É] L0,L1})
  (ZU:W.codeIn K vc "span"=L) (ZV:W.keepIn K (.ref sh)=L)
  {zl:Z} {ZW:Á} (ZX:Ò K Ä "held"=U (%[zl|45])) (Pb:Fun K "held" "held" AU zl ZW)
  {zy:Z} {ZY:Á} (ZZ:Ò K Ä "steps_between"=U (%[zy|45])) (PH:Fun K "steps_between" "steps_between" dY zy ZY)
  {AX:Z} {Z0:Á} (Z1:Ò K Ä "refuse_unless"=U (%[AX|45])) (Qb:Fun K "refuse_unless" "refuse_unless" dZ AX Z0)
  {A2:Z} {Z2:Á} (Z3:Ò K Ä "refuse_axis"=U (%[A2|45])) (Q0:Fun K "refuse_axis" "refuse_axis" fK A2 Z2)
  {CS:Z} {Z4:Á} (Z5:Ò K Ä "replaced"=U (%[CS|45])) (Rv:Fun K "replaced" "replaced" ke CS Z4)
  {CV:Z} {Z6:Á} (Z7:Ò K Ä "place_one_along"=U (%[CV|45])) (R1:Fun K "place_one_along" "place_one_along" bN CV Z6)
  {sy:Z} {Z8:Á} (Dv:Fun K "behind" "Move.behind" jD sy Z8)
  {s6:Z} {Z9:Á} (D0:Fun K "ahead" "Move.ahead" kO s6 Z9)
  {eH:Z} {d45:Á} (lp:Fun K "sizes_of" "Move.sizes_of" cC eH d45)
  {e0:Z} {d46:Á} (lq:Fun K "on" "Move.on" mF e0 d46)
  {s7:Z} {d47:Á} (D1:Fun K "told" "Move.told" mR s7 d47)
  {S0:Z} {T1:O} {T2:Ü Z} {XP:à} {X1:Array (Ü O)}
  {n9:Z} {YJ YK:Ü Z} {YL:Array (Ü O)} {YM YN YO YP ve YQ:O}
  (l48:K.lookup n9=U {YM,YJ,.func (W.fnOf "__init__" "Slice.__init__" (dP bp) (cK bp) (aa bp) (.ref S0) YN YO YP YK ve YQ),YL})
  (s8:K.lookup S0=U {T1,T2,.seq #[É,É,É] XP,X1})
  (c48:W.codeIn K ve "Slice.__init__"=L) (k48:W.keepIn K (.ref n9)=L)
  {s9:Z} {d49:Á} (D2:Fun K "taken" "Slice.taken" fL s9 d49)
  {tp:Z} {d50:Á} (D3:Fun K "behind" "Slice.behind" eS tp d50)
  {tq:Z} {d51:Á} (D4:Fun K "ahead" "Slice.ahead" fM tq d51)
  {tr:Z} {d52:Á} (D7:Fun K "told" "Slice.told" kM tr d52)
  {ts:Z} {d53:Á} (YR:Fun K "__init__" "Pick.__init__" ei ts d53)
  {tL:Z} {d54:Á} (D9:Fun K "picked" "Pick.picked" fN tL d54)
  {tT:Z} {d55:Á} (EX:Fun K "behind" "Pick.behind" fO tT d55)
  {t2:Z} {d56:Á} (Fn:Fun K "ahead" "Pick.ahead" gI t2 d56)
  {t4:Z} {d57:Á} (G1:Fun K "told" "Pick.told" mQ t4 d57)
  {t8:Z} {d58:Á} (YS:Fun K "__init__" "Turn.__init__" eg t8 d58)
  {ui:Z} {d59:Á} (G2:Fun K "behind" "Turn.behind" dE ui d59)
  {uj:Z} {d60:Á} (G7:Fun K "ahead" "Turn.ahead" gH uj d60)
  {uu:Z} {d61:Á} (G9:Fun K "told" "Turn.told" mP uu d61)
  {u0:Z} {d62:Á} (YT:Fun K "__init__" "Spread.__init__" cP u0 d62)
  {u1:Z} {d63:Á} (Ha:Fun K "behind" "Spread.behind" eh u1 d63)
  {u2:Z} {d64:Á} (Hb:Fun K "ahead" "Spread.ahead" eR u2 d64)
  {vb:Z} {d65:Á} (Hc:Fun K "told" "Spread.told" jC vb d65)
  {Hd:Z} {d66:Á} (a66:Ò K Ä "_law_draw"=U (%[Hd|45])) (YU:Fun K "_law_draw" "_law_draw" iV Hd d66)
  {He:Z} {d67:Á} (a67:Ò K Ä "_law_like"=U (%[He|45])) (YV:Fun K "_law_like" "_law_like" iU He d67)
  {Hf:Z} {d68:Á} (a68:Ò K Ä "_law_parts"=U (%[Hf|45])) (YW:Fun K "_law_parts" "_law_parts" gA Hf d68)
  {Hm:Z} {d69:Á} (a69:Ò K Ä "_law_cells"=U (%[Hm|45])) (YX:Fun K "_law_cells" "_law_cells" gC Hm d69)
  {HT:Z} {d70:Á} (a70:Ò K Ä "_law_view"=U (%[HT|45])) (YY:Fun K "_law_view" "_law_view" iS HT d70)
  {H0:Z} {d71:Á} (a71:Ò K Ä "_law_name"=U (%[H0|45])) (YZ:Fun K "_law_name" "_law_name" fz H0 d71)
  {H3:Z} {d72:Á} (a72:Ò K Ä "_law_is_name"=U (%[H3|45])) (Y0:Fun K "_law_is_name" "_law_is_name" bS H3 d72)
  {H4:Z} {d73:Á} (a73:Ò K Ä "_law_is_called"=U (%[H4|45])) (Y1:Fun K "_law_is_called" "_law_is_called" bV H4 d73)
  {H5:Z} {d74:Á} (a74:Ò K Ä "_law_move"=U (%[H5|45])) (Y2:Fun K "_law_move" "_law_move" iT H5 d74)
  {H6:Z} {d75:Á} (a75:Ò K Ä "_law_count"=U (%[H6|45])) (Y3:Fun K "_law_count" "_law_count" gB H6 d75)
  {H7:Z} {d76:Á} (a76:Ò K Ä "_law_named_due"=U (%[H7|45])) (Y4:Fun K "_law_named_due" "_law_named_due" dt H7 d76)
  {H8:Z} {d77:Á} (a77:Ò K Ä "_law_asked"=U (%[H8|45])) (Y5:Fun K "_law_asked" "_law_asked" gE H8 d77)
  {H9:Z} {d78:Á} (a78:Ò K Ä "_law_call"=U (%[H9|45])) (Y6:Fun K "_law_call" "_law_call" iW H9 d78)
  {Im:Z} {d79:Á} (a79:Ò K Ä "_law_make"=U (%[Im|45])) (Y7:Fun K "_law_make" "_law_make" fA Im d79)
  {IY:Z} {d80:Á} (a80:Ò K Ä "_law_of"=U (%[IY|45])) (Y8:Fun K "_law_of" "_law_of" gv IY d80)
  {I0:Z} {Y9 vh:Ü Z} {Za:Array (Ü O)} {Zb vo vr vt oe vu:O}
  (Zc:Ò K Ä "law"=U (%[I0|45])) (l81:K.lookup I0=U {Zb,Y9,.func (W.fnOf "law" "law" (dP j1) (cK j1) (aa j1) .none vo vr vt vh oe vu),Za})
  (c81:W.codeIn K oe "law"=L) (k81:W.keepIn K (.ref I0)=L)
  (vv:È K (.ref C6) "__init__"=U (%[f0|45]))
  (kv:wM K C6 f0 [.type "ValueError",.type "Exception",.type "BaseException",.type "object"] "ValueError.__new__"=L)
  (kx:Ú K (.ref f0)=U (.type "function"))
  (kE:mi K C6=L)
  (kQ:È K (.ref C6) "__setattr__"=U (U (.builtin "object.__setattr__")))
  (kS:Õ K C6=L)
  (c0:W.takerIn K C6 "number"=U Y)
  (c1:È K (.ref C6) "number"=U Y)
  (hO:W.specialIn K (.ref C0) "__getattribute__"=U (U (.builtin "type.__getattribute__")))
  (hP:W.readsIn K C0 (.type "type")=L)
  (hQ:W.findCls K (.ref C0) (.type "type") "__init__"=U (.val (.builtin "ValueError.__init__")))
  (I1:È K (.ref C7) "__init__"=U (%[f1|45]))
  (lz:wM K C7 f1 [.type "ValueError",.type "Exception",.type "BaseException",.type "object"] "ValueError.__new__"=L)
  (l2:Ú K (.ref f1)=U (.type "function"))
  (l3:mi K C7=L)
  (l5:È K (.ref C7) "__setattr__"=U (U (.builtin "object.__setattr__")))
  (l6:Õ K C7=L)
  (e1:W.takerIn K C7 "name"=U Y)
  (e2:È K (.ref C7) "name"=U Y)
  (I2:È K (.ref C8) "__init__"=U (%[f2|45]))
  (m3:wM K C8 f2 [.type "ValueError",.type "Exception",.type "BaseException",.type "object"] "ValueError.__new__"=L)
  (m4:Ú K (.ref f2)=U (.type "function"))
  (m8:mi K C8=L)
  (nc:È K (.ref C8) "__setattr__"=U (U (.builtin "object.__setattr__")))
  (nf:Õ K C8=L)
  (gS:W.takerIn K C8 "name"=U Y)
  (gT:È K (.ref C8) "name"=U Y)
  (oj:W.plainGet K C9 Str.empty=L)
  (oD:Õ K C9=L)
  (oL:W.plainOver K C9=L)
  (oN:È K (.ref C9) "__setattr__"=U (U (.builtin "object.__setattr__")))
  (hR:È K (.ref C9) "axes"=U Y)
  (g0:È K (.ref C9) "first"=U Y)
  (hT:È K (.ref C9) "room"=U Y)
  (dc:È K (.ref C9) "__init__"=U (%[ra|45]))
  (de:W.isFn K (.ref ra)=L)
  (oT:W.makesIn K C9=L)
  (o2:W.keepIn K (.ref C9)=L)
  (g4:È K (.ref C9) "sizes"=U (%[rb|45]))
  (g5:W.isFn K (.ref rb)=L)
  (g7:È K (.ref C9) "paces"=U (%[ri|45]))
  (g9:W.isFn K (.ref ri)=L)
  (hb:È K (.ref C9) "count"=U (%[rk|45]))
  (hc:W.isFn K (.ref rk)=L)
  (hW:È K (.ref C9) "cell"=U (%[rl|45]))
  (hX:W.isFn K (.ref rl)=L)
  (hg:È K (.ref C9) "cells"=U (%[rm|45]))
  (hh:W.isFn K (.ref rm)=L)
  (hj:È K (.ref C9) "least"=U (%[rq|45]))
  (hk:W.isFn K (.ref rq)=L)
  (dh:È K (.ref C9) "greatest"=U (%[rr|45]))
  (dm:W.isFn K (.ref rr)=L)
  (ng:W.plainGet K ew Str.empty=L)
  (nq:Õ K ew=L)
  (nD:W.plainOver K ew=L)
  (nO:È K (.ref ew) "__setattr__"=U (U (.builtin "object.__setattr__")))
  (e3:È K (.ref ew) "floor"=U Y)
  (c2:È K (.ref ew) "__init__"=U (%[ru|45]))
  (c3:W.isFn K (.ref ru)=L)
  (nR:W.makesIn K ew=L)
  (nT:W.keepIn K (.ref ew)=L)
  (b6:È K (.ref ew) "all_values"=U (%[rv|45]))
  (b8:W.isFn K (.ref rv)=L)
  (b3:È K (.ref ew) "refuse_room"=U (%[rx|45]))
  (b4:W.isFn K (.ref rx)=L)
  (ho:È K (.ref ew) "read"=U (%[ry|45]))
  (hp:W.isFn K (.ref ry)=L)
  (o3:W.plainGet K b1 Str.empty=L)
  (o4:Õ K b1=L)
  (o5:W.plainOver K b1=L)
  (pk:È K (.ref b1) "__setattr__"=U (U (.builtin "object.__setattr__")))
  (hY:È K (.ref b1) "past"=U Y)
  (hq:È K (.ref b1) "store"=U Y)
  (hs:È K (.ref b1) "views"=U Y)
  (dr:È K (.ref b1) "__init__"=U (%[r3|45]))
  (dv:W.isFn K (.ref r3)=L)
  (pD:W.makesIn K b1=L)
  (pT:W.keepIn K (.ref b1)=L)
  (cg:È K (.ref b1) "refuse_new"=U (%[r4|45]))
  (ck:W.isFn K (.ref r4)=L)
  (h3:È K (.ref b1) "call"=U (%[r5|45]))
  (h4:W.isFn K (.ref r5)=L)
  (h5:È K (.ref b1) "make"=U (%[r6|45]))
  (h6:W.isFn K (.ref r6)=L)
  (h7:È K (.ref b1) "drop"=U (%[r7|45]))
  (h8:W.isFn K (.ref r7)=L)
  (h9:È K (.ref b1) "view"=U (%[sb|45]))
  (ic:W.isFn K (.ref sb)=L)
  (ih:È K (.ref b1) "seen"=U (%[sd|45]))
  (ij:W.isFn K (.ref sd)=L)
  (ht:È K (.ref b1) "names"=U (%[se|45]))
  (hu:W.isFn K (.ref se)=L)
  (cm:È K (.ref b1) "all_values"=U (%[sg|45]))
  (cv:W.isFn K (.ref sg)=L)
  (p1:W.plainGet K c9 Str.empty=L)
  (p3:Õ K c9=L)
  (p4:W.plainOver K c9=L)
  (p8:È K (.ref c9) "__setattr__"=U (U (.builtin "object.__setattr__")))
  (qa:W.makesIn K c9=L)
  (qb:W.keepIn K (.ref c9)=L)
  (n0:È K (.ref c9) "__init__"=U (U (.builtin "object.__init__")))
  (e4:È K (.ref c9) "behind"=U (%[sy|45]))
  (e5:W.isFn K (.ref sy)=L)
  (hv:È K (.ref c9) "ahead"=U (%[s6|45]))
  (hy:W.isFn K (.ref s6)=L)
  (dy:È K (.ref c9) "sizes_of"=U (%[eH|45]))
  (dN:W.isFn K (.ref eH)=L)
  (kT:È K (.ref c9) "on"=U (%[e0|45]))
  (k4:W.isFn K (.ref e0)=L)
  (iv:È K (.ref c9) "told"=U (%[s7|45]))
  (iz:W.isFn K (.ref s7)=L)
  (n2:W.plainGet K b2 Str.empty=L)
  (n3:Õ K b2=L)
  (n4:W.plainOver K b2=L)
  (n5:È K (.ref b2) "__setattr__"=U (U (.builtin "object.__setattr__")))
  (hA:È K (.ref b2) "axis"=U Y)
  (e6:È K (.ref b2) "start"=U Y)
  (hB:È K (.ref b2) "step"=U Y)
  (hC:È K (.ref b2) "stop"=U Y)
  (ey:È K (.ref b2) "behind"=U (%[tp|45]))
  (ez:W.isFn K (.ref tp)=L)
  (e7:È K (.ref b2) "ahead"=U (%[tq|45]))
  (e8:W.isFn K (.ref tq)=L)
  (c4:È K (.ref b2) "sizes_of"=U (%[eH|45]))
  (c5:W.isFn K (.ref eH)=L)
  (kk:È K (.ref b2) "on"=U (%[e0|45]))
  (kq:W.isFn K (.ref e0)=L)
  (hE:È K (.ref b2) "told"=U (%[tr|45]))
  (hF:W.isFn K (.ref tr)=L)
  (c6:È K (.ref b2) "__init__"=U (%[n9|45]))
  (c7:W.isFn K (.ref n9)=L)
  (n6:W.makesIn K b2=L)
  (n7:W.keepIn K (.ref b2)=L)
  (e9:È K (.ref b2) "taken"=U (%[s9|45]))
  (fh:W.isFn K (.ref s9)=L)
  (qn:W.plainGet K b5 Str.empty=L)
  (qs:Õ K b5=L)
  (q0:W.plainOver K b5=L)
  (q1:È K (.ref b5) "__setattr__"=U (U (.builtin "object.__setattr__")))
  (k8:È K (.ref b5) "at"=U Y)
  (i1:È K (.ref b5) "axis"=U Y)
  (fo:È K (.ref b5) "behind"=U (%[tT|45]))
  (fu:W.isFn K (.ref tT)=L)
  (hI:È K (.ref b5) "ahead"=U (%[t2|45]))
  (hK:W.isFn K (.ref t2)=L)
  (ea:È K (.ref b5) "sizes_of"=U (%[eH|45]))
  (eb:W.isFn K (.ref eH)=L)
  (k9:È K (.ref b5) "on"=U (%[e0|45]))
  (la:W.isFn K (.ref e0)=L)
  (i5:È K (.ref b5) "told"=U (%[t4|45]))
  (jz:W.isFn K (.ref t4)=L)
  (ec:È K (.ref b5) "__init__"=U (%[ts|45]))
  (ed:W.isFn K (.ref ts)=L)
  (q2:W.makesIn K b5=L)
  (q3:W.keepIn K (.ref b5)=L)
  (fx:È K (.ref b5) "picked"=U (%[tL|45]))
  (fy:W.isFn K (.ref tL)=L)
  (q4:W.plainGet K cZ Str.empty=L)
  (q5:Õ K cZ=L)
  (q6:W.plainOver K cZ=L)
  (q7:È K (.ref cZ) "__setattr__"=U (U (.builtin "object.__setattr__")))
  (hL:È K (.ref cZ) "order"=U Y)
  (gg:È K (.ref cZ) "behind"=U (%[ui|45]))
  (gk:W.isFn K (.ref ui)=L)
  (hM:È K (.ref cZ) "ahead"=U (%[uj|45]))
  (hN:W.isFn K (.ref uj)=L)
  (ee:È K (.ref cZ) "sizes_of"=U (%[eH|45]))
  (ef:W.isFn K (.ref eH)=L)
  (lb:È K (.ref cZ) "on"=U (%[e0|45]))
  (lk:W.isFn K (.ref e0)=L)
  (j0:È K (.ref cZ) "told"=U (%[uu|45]))
  (j3:W.isFn K (.ref uu)=L)
  (ej:È K (.ref cZ) "__init__"=U (%[t8|45]))
  (el:W.isFn K (.ref t8)=L)
  (q8:W.makesIn K cZ=L)
  (q9:W.keepIn K (.ref cZ)=L)
  (l7:W.plainGet K cc Str.empty=L)
  (mc:Õ K cc=L)
  (mu:W.plainOver K cc=L)
  (mv:È K (.ref cc) "__setattr__"=U (U (.builtin "object.__setattr__")))
  (gn:È K (.ref cc) "axis"=U Y)
  (gs:È K (.ref cc) "size"=U Y)
  (en:È K (.ref cc) "behind"=U (%[u1|45]))
  (ep:W.isFn K (.ref u1)=L)
  (eD:È K (.ref cc) "ahead"=U (%[u2|45]))
  (eG:W.isFn K (.ref u2)=L)
  (cx:È K (.ref cc) "sizes_of"=U (%[eH|45]))
  (cH:W.isFn K (.ref eH)=L)
  (j4:È K (.ref cc) "on"=U (%[e0|45]))
  (kh:W.isFn K (.ref e0)=L)
  (gx:È K (.ref cc) "told"=U (%[vb|45]))
  (gD:W.isFn K (.ref vb)=L)
  (cT:È K (.ref cc) "__init__"=U (%[u0|45]))
  (cV:W.isFn K (.ref u0)=L)
  (m1:W.makesIn K cc=L)
  (m2:W.keepIn K (.ref cc)=L)
  {tk0:Tok} (w0:Ò K Ä "MOST_TOLD"=U (U (.int 4096 tk0)))
  {tk1:Tok} (w1:Ò K Ä "MOST_ROOM"=U (U (.int 1000000000000000000 tk1)))
  {tk2:Tok} (w2:Ò K Ä "MOST_SIZE"=U (U (.int 1000000000 tk2)))
  {tk3:Tok} (w3:Ò K Ä "MOST_AXES"=U (U (.int 8 tk3)))
  {tk4:Tok} (w4:Ò K Ä "LETTERS"=U (U (.str "abcdefghijklmnopqrstuvwxyz" tk4)))
  {tk5:Tok} (w5:Ò K Ä "MOST_LETTERS"=U (U (.int 8 tk5)))
  (z0:Ò K Ä "ValueError"=U Y)
  (z1:Ò K Ä "abs"=U Y)
  (z2:Ò K Ä "all"=U Y)
  (z3:Ò K Ä "bool"=U Y)
  (z4:Ò K Ä "enumerate"=U Y)
  (z5:Ò K Ä "int"=U Y)
  (z6:Ò K Ä "isinstance"=U Y)
  (z7:Ò K Ä "len"=U Y)
  (z8:Ò K Ä "list"=U Y)
  (z9:Ò K Ä "max"=U Y)
  (z10:Ò K Ä "min"=U Y)
  (z11:Ò K Ä "range"=U Y)
  (z12:Ò K Ä "sorted"=U Y)
  (z13:Ò K Ä "str"=U Y)
  (z14:Ò K Ä "sum"=U Y)
  (z15:Ò K Ä "tuple"=U Y)
  (z16:Ò K Ä "zip"=U Y)
  : ∃ fd:Á,(∀ (s:À) (v:O),BindsTo s fd {[v],[]} [("_law_script",v)])/\∀ base:Ð,K.In base->base.Ns Ä mg->au l.prog w K mg base CX0 14 fa fd ["_law_script"] (An K):=by
 let e:=Ze.symm.trans (VA X zo Zc);cases e;let F36:=BI (st:=oi) ZT ZU ZV;let F48:=BI (st:=bp) l48 c48 k48;let Zd:=Qv (st:=j1) l81 c81 k81;let T:Tx K mg {C0,C1,C2,C3,C4,C5,C6,C7,C8,C9,ew,b1,c9,b2,b5,cZ,cc,f0,_,f1,_,f2,_,f3,_,f4,_,f5,_,f6,_,f7,_,f8,_,f9,_,vw,_,vx,_,v3,_,ra,_,rb,_,ri,_,rk,_,rl,_,rm,_,rq,_,rr,_,wi,_,ru,_,rv,_,rx,_,ry,_,x1,_,r3,_,r4,_,r5,_,r6,_,r7,_,sb,_,sd,_,se,_,sg,_,sh,_,zl,_,zy,_,AX,_,A2,_,CS,_,CV,_,sy,_,s6,_,eH,_,e0,_,s7,_,n9,_,s9,_,tp,_,tq,_,tr,_,ts,_,tL,_,tT,_,t2,_,t4,_,t8,_,ui,_,uj,_,uu,_,u0,_,u1,_,u2,_,vb,_,Hd,_,He,_,Hf,_,Hm,_,HT,_,H0,_,H3,_,H4,_,H5,_,H6,_,H7,_,H8,_,H9,_,Im,_,IY,_,fa,_}:={VA X zo y0,VA X zo y1,VA X zo y2,VA X zo y3,VA X zo y4,VA X zo y5,VA X zo y6,VA X zo y7,VA X zo y8,VA X zo y9,VA X zo Zf,VA X zo Zg,VA X zo Zh,VA X zo Zi,VA X zo Zj,VA X zo Zk,VA X zo Zl,qB3,qB4,qAz,qAp,qAu,qB0,qAg,qAe,ocs,oct,xh,xs,xp,xn,hard,soft,xm,xb,{_,VA X zo w0},{_,VA X zo w1},{_,VA X zo w2},{_,VA X zo w3},{_,VA X zo w4},{_,VA X zo w5},{kv,kx,{(kE),kQ,kS}},c0,c1,{(hO),hP,hQ},{lz,l2,{(l3),l5,l6}},e1,e2,{m3,m4,{(m8),nc,nf}},gS,gT,{(oj),oD,oL,oN},hR,g0,hT,{(oT),dc,de,o2},{(g4),g5,v5.kp},{(g7),g9,v7.kp},{(hb),hc,v8.kp},{(hW),hX,v9.kp},{(hg),hh,wa.kp},{(hj),hk,wb.kp},{(dh),dm,wh.kp},{(ng),nq,nD,nO},e3,{(nR),c2,c3,nT},{(b6),b8,w7.kp},{(b3),b4,w8.kp},{(ho),hp,xg.kp},{(o3),o4,o5,pk},hY,hq,hs,{(pD),dr,dv,pT},{(cg),ck,x2.kp},{(h3),h4,x4.kp},{(h5),h6,x5.kp},{(h7),h8,x6.kp},{(h9),ic,x7.kp},{(ih),ij,x9.kp},{(ht),hu,yl.kp},{(cm),cv,yo.kp},{(p1),p3,p4,p8},{(qa),n0,qb},{(e4),e5,Dv.kp},{(hv),hy,D0.kp},{(dy),dN,lp.kp},{(kT),k4,lq.kp},{(iv),iz,D1.kp},{(n2),n3,n4,n5},hA,e6,hB,hC,{(ey),ez,D3.kp},{(e7),e8,D4.kp},{(c4),c5,lp.kp},{(kk),kq,lq.kp},{(hE),hF,D7.kp},{(n6),c6,c7,n7},{(e9),fh,D2.kp},{(qn),qs,q0,q1},k8,i1,{(fo),fu,EX.kp},{(hI),hK,Fn.kp},{(ea),eb,lp.kp},{(k9),la,lq.kp},{(i5),jz,G1.kp},{(q2),ec,ed,q3},{(fx),fy,D9.kp},{(q4),q5,q6,q7},hL,{(gg),gk,G2.kp},{(hM),hN,G7.kp},{(ee),ef,lp.kp},{(lb),lk,lq.kp},{(j0),j3,G9.kp},{(q8),ej,el,q9},{(l7),mc,mu,mv},gn,gs,{(en),ep,Ha.kp},{(eD),eG,Hb.kp},{(cx),cH,lp.kp},{(j4),kh,lq.kp},{(gx),gD,Hc.kp},{(m1),cT,cV,m2},F0,%[F0,["self", "number"]|203],F1,%[F1,%[|102]|203],F2,%[F2,%[|102]|203],F3,VA X zo a3,%[F3,["thing"]|204],F4,VA X zo a4,%[F4,["sizes"]|204],F5,VA X zo a5,%[F5,["thing", "bound"]|203],F6,VA X zo a6,%[F6,["sizes", "thing"]|203],F7,VA X zo a7,%[F7,["count"]|204],F8,VA X zo a8,%[F8,["thing", "low", "high"]|205],F9,VA X zo a9,%[F9,["thing"]|204],I3,VA X zo Zn,%[I3,["thing"]|204],I4,VA X zo Zp,%[I4,["thing"]|204],I5,VA X zo Zr,%[I5,["axis"]|204],I6,%[I6,%[|127]|201],v5,%[v5,["self"]|204],v7,%[v7,["self"]|204],v8,%[v8,["self"]|204],v9,%[v9,["self", "place"]|203],wa,%[wa,["self"]|204],wb,%[wb,["self"]|204],wh,%[wh,["self"]|204],I7,VA X zo ZC,%[I7,["cells", "size", "pace"]|205],I8,%[I8,%[|131]|203],w7,%[w7,["self"]|204],w8,%[w8,%[|115]|203],xg,%[xg,%[|115]|203],I9,VA X zo ZI,%[I9,["thing"]|204],J2,%[J2,%[|131]|203],x2,%[x2,%[|102]|203],x4,%[x4,%[|106]|205],x5,%[x5,%[|104]|201],x6,%[x6,%[|102]|203],x7,%[x7,%[|102]|203],x9,%[x9,%[|102]|203],yl,%[yl,["self"]|204],yo,%[yo,["self"]|204],F36,VA X zo ZS,(λ s us c8 hl=>match us,(show us.length=4 by simp only[Va,Vo,WK] at hl;omega) with|[_,_,_,_],_=>Wd rfl (c8 _ _ si) J J J),(λ s us c8 hl=>match us,(show us.length=1 by simp only[Va,Vo,WK] at hl;omega) with|[_],_=>Wd rfl (c8 _ _ si) J J J),(λ s us c8 hl=>match us,(show us.length=2 by simp only[Va,Vo,WK] at hl;omega) with|[_,_],_=>Wd rfl (c8 _ _ si) J J J),(λ s us c8 hl=>match us,(show us.length=3 by simp only[Va,Vo,WK] at hl;omega) with|[_,_,_],_=>Wd rfl (c8 _ _ si) J J J),Pb,VA X zo ZX,%[Pb,["bound", "size", "low", "high"]|201],PH,VA X zo ZZ,%[PH,["first", "end", "stride"]|205],Qb,VA X zo Z1,%[Qb,["fits"]|204],Q0,VA X zo Z3,%[Q0,["sizes", "axis"]|203],Rv,VA X zo Z5,%[Rv,%[|124]|205],R1,VA X zo Z7,%[R1,["many", "axis"]|203],Dv,%[Dv,%[|103]|203],D0,%[D0,%[|113]|205],lp,%[lp,%[|103]|203],lq,%[lq,%[|115]|203],D1,%[D1,["self"]|204],F48,(λ s us c8 hl=>match us,(show us.length=5 by simp only[Va,Vo,WK] at hl;omega) with|[_,_,_,_,_],_=>Wd rfl (c8 _ _ s8) J J J),(λ s us c8 hl=>match us,(show us.length=2 by simp only[Va,Vo,WK] at hl;omega) with|[_,_],_=>Wd rfl (c8 _ _ s8) J J J),(λ s us c8 hl=>match us,(show us.length=3 by simp only[Va,Vo,WK] at hl;omega) with|[_,_,_],_=>Wd rfl (c8 _ _ s8) J J J),(λ s us c8 hl=>match us,(show us.length=4 by simp only[Va,Vo,WK] at hl;omega) with|[_,_,_,_],_=>Wd rfl (c8 _ _ s8) J J J),D2,%[D2,%[|103]|203],D3,%[D3,%[|103]|203],D4,%[D4,%[|113]|205],D7,%[D7,["self"]|204],YR,%[YR,["self", "axis", "at"]|205],D9,%[D9,%[|103]|203],EX,%[EX,%[|103]|203],Fn,%[Fn,%[|113]|205],G1,%[G1,["self"]|204],YS,%[YS,["self", "order"]|203],G2,%[G2,%[|103]|203],G7,%[G7,%[|113]|205],G9,%[G9,["self"]|204],YT,%[YT,["self", "axis", "size"]|205],Ha,%[Ha,%[|103]|203],Hb,%[Hb,%[|113]|205],Hc,%[Hc,["self"]|204],YU,VA X zo a66,%[YU,["_law_script", "_law_k", "_law_many"]|205],YV,VA X zo a67,%[YV,["_law_cell", "_law_room", "_law_sizes"]|205],YW,VA X zo a68,%[YW,["_law_cell", "_law_room"]|203],YX,VA X zo a69,%[YX,%[|126]|204],YY,VA X zo a70,%[YY,%[|126]|204],YZ,VA X zo a71,%[YZ,["_law_script", "_law_k"]|203],Y0,VA X zo a72,%[Y0,%[|123]|204],Y1,VA X zo a73,%[Y1,%[|116]|203],Y2,VA X zo a74,%[Y2,["_law_parts_here", "_law_cell"]|203],Y3,VA X zo a75,%[Y3,%[|126]|204],Y4,VA X zo a76,%[Y4,%[|116]|203],Y5,VA X zo a77,%[Y5,%[|122]|202],Y6,VA X zo a78,%[Y6,%[|128]|202],Y7,VA X zo a79,%[Y7,%[|134]|201],Y8,VA X zo a80,%[Y8,%[|125]|202],Zd,VA X zo Zc,%[Zd,["_law_script"]|204],VV X zo z0,VV X zo z1,VV X zo z2,VV X zo z3,VV X zo z4,VV X zo z5,VV X zo z6,VV X zo z7,VV X zo z8,VV X zo z9,VV X zo z10,VV X zo z11,VV X zo z12,VV X zo z13,VV X zo z14,VV X zo z15,VV X zo z16};exact{W.fnOf "law" "law" (dP j1) (cK j1) (aa j1) .none vo vr vt vh oe vu,λ s v=>.of_eq J,λ base _ _=>OQ T}
theorem UW{l:W.OpenLaw}{q:Ì}{loose:G Ã}{XP:(Ã->Ü O)->Ð->Prop}{YP:Ï->Ð->Prop}{d:DefRec}{K:Params->Å}(hn:l.most=U 63)(a3:d.params.defaults=[])
  (hY:∀ (w:Ï) (h:Ð),YP w h->(K w.params).In h)
  (F:∀ (w:Ï) (mg:Ã->Ü O) (fa:Z) (h:Ð),(K w.params).In h->h.Ns Ä mg->mg d.name=%[fa|45] →
   ∃ fd:Á,(∀ (s:À) (u:O),BindsTo s fd {[u],[]} [("_law_script",u)])/\∀ base:Ð,(K w.params).In base->base.Ns Ä mg->au l.prog w (K w.params) mg base CX0 14 fa fd ["_law_script"] (An (K w.params))) :
  W.WalkO q loose XP YP l.row.toRowW d [] (λ f vs=>PySem.call f vs):=
 L2.S5 (n:=63) (k:=14) (x := "_law_script") (CX:=λ _=>CX0) (sp:=λ w=>An (K w.params)) hn ⋯ a3 ⟨by decide,by decide,J⟩ hY F (λ _ _ a ns hl _ hS=>{a,J,ns,hS,hl,λ _=>J}) λ _ _ _ _ _ z=>z
end PH
set_option genInjectivity false
set_option genSizeOf false
structure PySem.W.Fast where(tw1950162016175808855 tw7138797732845638202 tw17516668117386231711 tw2988777384176768741 tw1443710296931527839 tw4865513602229103850 tw11928151951025086889 tw8355762135009886046 tw622778555977115978 tw9478713022784535578 tw7306137127230247328 tw17553679673395587341 tw4654189603751503844 tw17139924908287678193 tw9433493844144470211 tw4235110479125769824 tw1627503636850863343 tw15792895160550736742 tw4102882564020474925 tw6693889682481260094 tw10209806333685069778 tw2148964466442785910 tw13343092034080267859 tw9703403290614955590 tw15707064182354571351 tw9328434397566541006 tw7364458579397279984 tw2659030544698277562 tw12326721832062352671 tw9752657542721049397 tw16685621726057029664 tw17731578880447278835 tw15068684974010911581 tw13926124292254491677 tw11740181472661723684 tw9386817516004365456 tw5533808894527842230 tw15520200325017860742 tw1986096202300121135 tw6749209329147011078 tw13194684479914503015 tw9524521010924780303 tw2151350686763478249 tw17690470340796318165 tw4792516962396151744 tw17936035629899989530 tw7008180756356781410 tw12295986030348542504 tw14864801825246441314 tw6129579356520483485 tw1283652923308449592 tw11460269911650087191 tw8275022708018436768 tw11512798781732997051 tw10895247753893991970 tw9266190415191099283 tw17785284964031181412 tw6532696017289001933 tw14708030952082603873 tw13426800588026608592 tw4231933921288564924 tw15140787375357030792 tw13469278455469828378 tw10018675513568464051 tw17392030177250583614 tw17030237801411413287 tw16609290961376454348 tw1057646780595427032 tw8690060968576246348 tw821748341643306977 tw4057206245168945280 tw18020981398893195964 tw1137965166525182778 tw11792678018987371519 tw10255792881340766330 tw4944951149623048956 tw21627933121382960 tw10824369663807985318 tw18356355633063936084 tw18145004418768854694 tw7792083788155018748 tw10722644154806577290 tw17321667020279647567 tw2175265445829626620 tw7876167919889880582 tw11263017969173437412 tw27303879373459802 tw9878641411780389962 tw12996696829019961177 tw14506635252143311405 tw6550069786970127551 tw4516149925241802472 tw13769723177407009390 tw1217903563709362110 tw13888028861274263704 tw5506477101840792578 tw17392992494152178587 tw17006077323044496995 tw17262451892703292388 tw17395948995229678117 tw12551660316988945214 tw12769662012540337231 tw12962459652959277997 tw10688659172004660751 tw17453688676884280135 tw671665893052188978 tw7051481758935223653 tw3041434162979723728 tw9743687201040645219 tw1873871202486364987 tw16802816080304845104 tw2263109201804445624 tw7367968058148121689 tw12113108339513126879 tw11679627938252875272 tw17051912502056160957 tw1386281428157152331 tw2079766320782250331 tw17800479109995394177 tw14099605579400613425 tw664588042429024253 tw13412503303816356520 tw18126789372394659484 tw13138545498646907426 tw16466091406505979244 tw6403224163304043470 tw8163104663262718713 tw17028305809045554951 tw12312688684487455383 tw12541432443723185600 tw11276367966727553577 tw10685644829289609303 tw16367478086991141751 tw11252529747725296725 tw17304914185575165520 tw4487259558870748899 tw10231837366150329421 tw7601432701958101172 tw3023020343914635955 tw10419706246750453952 tw4309887585487031481 tw11950783704255425458 tw8931197588194234441 tw4378419448508021212 tw2400334136282447721 tw1255619241043708333 tw9215516038447484648 tw1713692111702719092 tw8427998145148912800 tw14018506262951999600 tw7507595420844904350 tw3645136028672067769 tw14605434058390399193 tw10017985708938475962 tw14066455231803895051 tw14779941949280940088 tw1477090457052830920 tw2764008785123818831 tw11333177881136634084 tw7046795471765999568 tw4161839511506718672 tw994419888051788072 tw6415631219433153013 tw1158430439196914139 tw606971160495875932 tw3201700579212229122 tw16968943713534815398 tw2373235833115934783 tw5992362360122182653 tw10554676905807394039 tw14134936125401055522 tw9404586337834704793 tw18173751212219838780 tw11878944513000519062 tw16152034630105345395 tw15609982301689340566 tw8954890675692522566 tw16983517377525707530 tw11308343058022222420 tw10565097458028221195 tw18348116332720129571 tw8922079181288738656 tw13902107575338444982 tw12105512275911249108 tw2608593830361014541 tw3257916756809475948 tw220816349578813388 tw2936941919055141033 tw8494620445458116150 tw8707210280645438574 tw3846134526549678027 tw12383744387893967083 tw6650652248741330980 tw2075287706169636069 tw9944637231919081500 tw11268102512046214672 tw13201329342527562700 tw6229321423204880916 tw1238973052464200283 tw9655253370818314852 tw9405647888719854039 tw3956143973884103562 tw14742377059385664325 tw2476201303178997466 tw4361840142631368590 tw4574386193967392051 tw7816373382333607628 tw6334944126823708009 tw5846495664134450485 tw10693144748656058670 tw1865933961740274514 tw9519312556978267457 tw15088903963584558821 tw6913574597895736916 tw5000541046728948527 tw12914145735144835920 tw4996197524593398193 tw4830737458240245667 tw11242052396469172339 tw1997643755867200945 tw917756488901794497 tw10086658582716848079 tw8378478194512655550 tw17743583420054841668 tw2498044593259091167 tw7594938356744324781 tw15569370680944846418 tw12280964070379161863 tw10320245225242849078 tw4828689681218863501 tw15555564100534154833 tw15939395065535922073 tw16461181084776964485 tw5854184134831039778 tw9675535908997322919 tw377189241062371706 tw14772072842949339845 tw13412463900202485683 tw8876012108240289830 tw16764712433905740575 tw1059471324779290831 tw1381828891900917285 tw1104412285178320159 tw16779982737266292128 tw18399971427465910602 tw13014195572090301990 tw838586513014198965 tw432317494706541897 tw11522185017680026247 tw9666692852466423142 tw6555590588060731834 tw9629556884478639213 tw17239270679520635957 tw14146938336314704473 tw6882925895264335966 tw5378264721167062719 tw10301215683340975268 tw10045048946406340152 tw283452778703365120 tw13934867844787457279 tw6707942600867345046 tw13678867202398188622 tw13468071315645900888 tw14683079651761567502 tw11814681582501425781 tw5466399558085196848 tw7066375662268844528 tw8453189888835245396 tw7118935127649488591 tw15662615035402851542 tw6537035552601361313 tw6408244759427231244 tw16845902945686612245 tw1649707467125105593 tw6348895868259200000 tw9686213068458886489 tw8962734541141818326 tw11479538769784504144 tw15793793383809915688 tw14680954216009737911 tw9514019885197340782 tw6863467671895763510 tw8284291504530252429 tw8857087155193143272 tw9760974255033415736 tw15345844611035368995 tw12383034419178783941 tw15381075434506563079 tw9921430432481065617 tw6273876607879299083 tw4207887998025086925 tw2480630389649101862 tw12348607884622340496 tw9812406873486714995 tw15284149983910328567 tw9620316677064227641 tw12249122267053764503 tw3166931929585635679 tw9877015389528625177 tw9203926145787012249:Prop)
open PySem PySem.W PyProof.Rows
local macro_rules | `(tactic| infer_instance) => `(tactic| first|k_is|k_exc|kts_exm|decide|rfl|decide +kernel|kernel_rfl)
theorem PySem.Challenge.cw_pacehall_k85_hall_names_holds : PySem.Challenge.rw_pacehall_k85_hall_names.Holds := by
 w_on;o_law;k_head;(case hw=>w_witness2)
 k_fill
 refine PH.UW (l:=PySem.Challenge.rw_pacehall_k85_hall_names) rfl rfl (λ w h Y=>PySem.W.kIn_of Y) ?F
 case F=>
  intro w mg fa h KX G hmg
  apply PH.Ui KX G hmg
  (case y0|y1|y2|y3|y4|y5|y6|y7|y8|y9|Zf|Zg=>infer_instance)
  (case Zh|Zi|Zj|Zk|Zl|vv|I1|I2|dc|g4|g7|hb=>infer_instance)
  (case hW|hg|hj|dh|c2|b6|b3|ho|dr|cg|h3|h5=>infer_instance)
  (case h7|h9|ih|ht|cm|e4|hv|dy|kT|iv|ey|e7=>infer_instance)
  (case c4|kk|hE|c6|e9|fo|hI|ea|k9|i5|ec|fx=>infer_instance)
  (case gg|hM|ee|lb|j0|ej|en|eD|cx|j4|gx|cT=>infer_instance)
  (case a3|a4|a5|a6|a7|a8|a9|Zn|Zp|Zr|ZC|ZI=>infer_instance)
  (case ZS|ZX|ZZ|Z1|Z3|Z5|Z7|a66|a67|a68|a69|a70=>infer_instance)
  (case a71|a72|a73|a74|a75|a76|a77|a78|a79|a80|Zc=>infer_instance)
  (case F0|F1|F2|F3|F4|F5|F6|F7|F8|F9|I3|I4=>(refine' L2.Qv ?l ?c ?k;(case l|c|k=>infer_instance)))
  (case I5|I6|v5|v7|v8|v9|wa|wb|wh|I7|I8|w7=>(refine' L2.Qv ?l ?c ?k;(case l|c|k=>infer_instance)))
  (case w8|xg|I9|J2|x2|x4|x5|x6|x7|x9|yl|yo=>(refine' L2.Qv ?l ?c ?k;(case l|c|k=>infer_instance)))
  (case Pb|PH|Qb|Q0|Rv|R1|Dv|D0|lp|lq|D1|D2=>(refine' L2.Qv ?l ?c ?k;(case l|c|k=>infer_instance)))
  (case D3|D4|D7|YR|D9|EX|Fn|G1|YS|G2|G7|G9=>(refine' L2.Qv ?l ?c ?k;(case l|c|k=>infer_instance)))
  (case YT|Ha|Hb|Hc|YU|YV|YW|YX|YY|YZ|Y0|Y1=>(refine' L2.Qv ?l ?c ?k;(case l|c|k=>infer_instance)))
  (case Y2|Y3|Y4|Y5|Y6|Y7|Y8=>(refine' L2.Qv ?l ?c ?k;(case l|c|k=>infer_instance)))
  (case qB3|qB4|qAz|qAp|qAu|qB0|qAg|qAe|ocs|oct|xh|xs=>infer_instance)
  (case xp|xn|hard|soft|xm|xb|ZT|si|ZU|ZV|l48|s8=>infer_instance)
  (case c48|k48|l81|c81|k81|kv|kx|kE|kQ|kS|c0|c1=>infer_instance)
  (case hO|hP|hQ|lz|l2|l3|l5|l6|e1|e2|m3|m4=>infer_instance)
  (case m8|nc|nf|gS|gT|oj|oD|oL|oN|hR|g0|hT=>infer_instance)
  (case de|oT|o2|g5|g9|hc|hX|hh|hk|dm|ng|nq=>infer_instance)
  (case nD|nO|e3|c3|nR|nT|b8|b4|hp|o3|o4|o5=>infer_instance)
  (case pk|hY|hq|hs|dv|pD|pT|ck|h4|h6|h8|ic=>infer_instance)
  (case ij|hu|cv|p1|p3|p4|p8|qa|qb|n0|e5|hy=>infer_instance)
  (case dN|k4|iz|n2|n3|n4|n5|hA|e6|hB|hC|ez=>infer_instance)
  (case e8|c5|kq|hF|c7|n6|n7|fh|qn|qs|q0|q1=>infer_instance)
  (case k8|i1|fu|hK|eb|la|jz|ed|q2|q3|fy|q4=>infer_instance)
  (case q5|q6|q7|hL|gk|hN|ef|lk|j3|el|q8|q9=>infer_instance)
  (case l7|mc|mu|mv|gn|gs|ep|eG|cH|kh|gD|cV=>infer_instance)
  (case m1|m2|w0|w1|w2|w3|w4|w5|z0|z1|z2|z3=>infer_instance)
  (case z4|z5|z6|z7|z8|z9|z10|z11|z12|z13|z14|z15=>infer_instance)
  (case z16=>infer_instance)
#print axioms PySem.Challenge.cw_pacehall_k85_hall_names_holds